import PyProof.Rows.All
import Wide.All
import OpenK.AllK
import Wide.FinOn
import Lean
import PyProof.EqAt
import PyProof.EqKinds
import PyProof.TupleCall
import PyProof.Rows.Catch
import PyProof.Rows.TupIter
import PyProof.TupleIter
import PyProof.Seq
import PyProof.ExcInit
import PyProof.ExcClass2
import KE.KIntText
import PyProof.StrOps2
import PyProof.ConsumeWalk
import PyProof.Rows.RuleM_int
import PyProof.ZipIter
import PyProof.EnumMake
import KE.KLam
import PySem.Challenge.RW_tenreckon_k30_next_ones
set_option Elab.async false
set_option linter.all false
set_option maxRecDepth 100000
namespace L2
open PySem PySem.Spec PyProof.Rows
abbrev Key := Sum Int Str
def C2e : Key -> Value -> Bool
 | .inl k, v => Value.isInt k v
 | .inr x, v => Value.isStrOf x v
def Y4m (w : World) : Key -> Int
 | .inl k => hashInt k
 | .inr x => hashStr w x
theorem V1 : ∀ {k : Key} {v : Value}, C2e k v = true -> (∃ i t, k = Sum.inl i /\ v = Value.int i t) \/ (∃ x t, k = Sum.inr x /\ v = Value.str x t)
 | .inl i, v, h => by
   obtain ⟨t, e⟩ := Value.isInt_shape (k := i) (v := v) h
   exact .inl ⟨i, t, rfl, e⟩
 | .inr x, v, h => by
   obtain ⟨t, e⟩ := Value.isStrOf_shape (x := x) (v := v) h
   exact .inr ⟨x, t, rfl, e⟩
theorem G7w (i : Int) (t : Tok) : C2e (.inl i) (.int i t) = true := by simp [C2e, Value.isInt]
theorem G7p (x : Str) (t : Tok) : C2e (.inr x) (.str x t) = true := by simp [C2e, Value.isStrOf]
theorem V5n (a b : Int) : decide ((Sum.inl a : Key) = Sum.inl b) = (a == b) := by
 by_cases e : a = b
 . subst e; simp
 . have h : ¬ (Sum.inl a : Key) = Sum.inl b := fun q => e (Sum.inl.inj q)
   rw [decide_eq_false h]
   exact (beq_eq_false_iff_ne.mpr e).symm
theorem V5t (a b : Str) : decide ((Sum.inr a : Key) = Sum.inr b) = decide (a = b) := by
 by_cases e : a = b
 . subst e; simp
 . have h : ¬ (Sum.inr a : Key) = Sum.inr b := fun q => e (Sum.inr.inj q)
   rw [decide_eq_false h, decide_eq_false e]
theorem V5p (a : Int) (b : Str) : decide ((Sum.inl a : Key) = Sum.inr b) = false := decide_eq_false (fun q => nomatch q)
theorem V6q (a : Str) (b : Int) : decide ((Sum.inr a : Key) = Sum.inl b) = false := decide_eq_false (fun q => nomatch q)
def V6 (prog : Program) (w : World) : PySem.KeyKind prog w Key where
 is := C2e
 hash := Y4m w
 inj := fun v a b ha hb => by
   rcases V1 ha with ⟨i, t, rfl, rfl⟩ | ⟨x, t, rfl, rfl⟩
   . rcases V1 hb with ⟨j, u, rfl, e⟩ | ⟨y, u, rfl, e⟩
     . injection e with e1 _; rw [e1]
     . exact nomatch e
   . rcases V1 hb with ⟨j, u, rfl, e⟩ | ⟨y, u, rfl, e⟩
     . exact nomatch e
     . injection e with e1 _; rw [e1]
 byValue := fun k v h => by
   rcases V1 h with ⟨i, t, rfl, rfl⟩ | ⟨x, t, rfl, rfl⟩ <;> rfl
 pyHash := fun hv h => by
   rcases V1 hv with ⟨i, t, rfl, rfl⟩ | ⟨x, t, rfl, rfl⟩
   . exact wpAny_pyHash_int h
   . exact wpAny_pyHash_str h
 eqBool := fun hu hv h => by
   rcases V1 hu with ⟨i, t, rfl, rfl⟩ | ⟨x, t, rfl, rfl⟩
   . rcases V1 hv with ⟨j, u, rfl, rfl⟩ | ⟨y, u, rfl, rfl⟩
     . rw [V5n] at h; exact wpAny_eqBool_int h
     . rw [V5p] at h; exact SeqAt.EqAt.int_str i t y u _ _ _ _ h
   . rcases V1 hv with ⟨j, u, rfl, rfl⟩ | ⟨y, u, rfl, rfl⟩
     . rw [V6q] at h; exact SeqAt.EqAt.str_int x t j u _ _ _ _ h
     . rw [V5t] at h; exact wpAny_eqBool_str h
 «strs» := fun k x t v h => by
   rcases V1 h with ⟨i, u, rfl, e⟩ | ⟨y, u, rfl, e⟩
   . exact nomatch e
   . injection e with e1 _
     subst e1
     cases v <;> rfl
theorem C8r (prog : Program) (w : World) (i : Int) (t : Tok) : (V6 prog w).is (.inl i) (.int i t) = true := G7w i t
theorem C8v (prog : Program) (w : World) (x : Str) (t : Tok) : (V6 prog w).is (.inr x) (.str x t) = true := G7p x t
inductive V where
 | non | bl (b : Bool) | int (i : Int) | str (x : Str) | byt (b : Array UInt8) | flt (b : UInt64) | ref (a : Addr) | ty (n : String)
 deriving DecidableEq
def RelV : V -> Value -> Prop
 | .non, u => u = Value.none
 | .bl b, u => u = Value.bool b
 | .int i, u => ∃ t, u = Value.int i t
 | .str x, u => ∃ t, u = Value.str x t
 | .byt b, u => ∃ t, u = Value.bytes b t
 | .flt b, u => ∃ t, u = Value.float b t
 | .ref a, u => u = Value.ref a
 | .ty n, u => u = Value.type n
abbrev Vals : List V -> List Value -> Prop := Paired RelV
theorem Vals.length {xs : List V} {us : List Value} (r : Vals xs us) : xs.length = us.length := Paired.length r
theorem Vals.get : ∀ {xs : List V} {us : List Value} {i : Nat} {x : V}, Vals xs us -> xs[i]? = some x -> ∃ u, us[i]? = some u /\ RelV x u
 | _, _, _, _, .nil, e => by simp at e
 | _, _, 0, _, .cons r _, e => by simp at e; subst e; exact ⟨_, rfl, r⟩
 | _, _, i + 1, x, .cons _ t, e => by
   obtain ⟨u, h1, h2⟩ := Vals.get (i := i) (x := x) t (by simpa using e)
   exact ⟨u, by simpa using h1, h2⟩
theorem Vals.append : ∀ {xs ys : List V} {us ws : List Value}, Vals xs us -> Vals ys ws -> Vals (xs ++ ys) (us ++ ws)
 | _, _, _, _, .nil, s => s
 | _, _, _, _, .cons r t, s => .cons r (Vals.append t s)
def RelO : Option V -> Option Value -> Prop
 | some v, some u => RelV v u
 | none, none => True
 | _, _ => False
def KV {κ : Type} : List (κ × V) -> List (κ × Value) -> Prop := Paired fun (p : κ × V) (q : κ × Value) => p.1 = q.1 /\ RelV p.2 q.2
def kV : Key -> V
 | .inl i => .int i
 | .inr x => .str x
inductive HO where
 | lst (xs : List V)
 | tup (xs : List V)
 | dK (kvs : List (Key × V)) | dT (kvs : List (List Key × V))
 | set (S : Int -> Bool) (n : Nat)
 | ins (C dx : Addr) (fs : List (Str × V))
 | own (x : Addr)
 | xd (fs : List (Str × V))
 | met (f x : Addr)
 | rng (lo hi : Int)
 | frz (o : Obj) (u : HO)
 | tbl (ps : Array Value)
 | ext (φ : Heap -> Prop)
abbrev Hp := Addr -> Option HO
def upd (H : Hp) (a : Addr) (o : HO) : Hp := fun b => if b = a then some o else H b
theorem A9 {H : Hp} {a : Addr} {o : HO} : upd H a o a = some o := by unfold upd; rw [if_pos rfl]
theorem B3 {H : Hp} {a b : Addr} {o : HO} (h : b ≠ a) : upd H a o b = H b := by unfold upd; rw [if_neg h]
theorem G3y {H : Hp} {a : Addr} {o u : HO} : upd (upd H a o) a u = upd H a u := by
 funext b; unfold upd; split <;> rfl
theorem J1 {H : Hp} {a b : Addr} {o u : HO} (h : H a = some o) (h' : H b = some u) (d : o ≠ u) : a ≠ b := by
 intro e; subst e; rw [h] at h'; exact d (Option.some.inj h')
theorem C6 {H : Hp} {a b : Addr} {o : HO} (h : H a = some o) (h' : H b = none) : a ≠ b := by
 intro e; subst e; rw [h] at h'; cases h'
section
variable (P : Program) (w : World)
def ObjOk (H : Hp) (h : Heap) (a : Addr) : HO -> Prop
 | .lst xs => xs.length <= sizeLine /\ ∃ (its : List Value) (n : Nat), Vals xs its /\ h.get? a = some { cls := .type "list", data := .seq its.toArray n }
 | .tup xs => xs.length <= sizeLine /\ ∃ its : List Value, Vals xs its /\ IsTup h a its.toArray
 | .dK kvs => kvs.length <= sizeLine /\ (a == sysModules) = false /\ ∃ vs, KV kvs vs /\ h.DictOf (V6 P w) a vs
 | .dT kvs => kvs.length <= sizeLine /\ (a == sysModules) = false /\ ∃ xs : List (List Key × Addr × Value),
     Paired (fun (p : List Key × V) (q : List Key × Addr × Value) => p.1 = q.1 /\ H q.2.1 = some (.tup (p.1.map kV)) /\ RelV p.2 q.2.2) kvs xs /\
     ∃ o es ep, h.get? a = some o /\ o.ExactDict /\ o.data = .dict es ep /\ es.toList = xs.map (entryOfKey (tupleKind (V6 P w))) /\ (xs.map (·.1)).Nodup
 | .set S n => h.SetOf (intKind P w) a S n
 | .ins C dx fs => H dx = some (.own a) /\ fs.length <= 1000 /\ dx ≠ a /\ h.get? a = some (PySem.W.instObj C dx) /\
     ∃ mA, h.Ns1 dx mA /\ (∀ f, RelO (fs.lookup f) (mA f)) /\ PySem.Within mA (fs.map (·.1))
 | .own _ => ∃ o, h.get? a = some o
 | .xd fs => ∃ mA, h.Ns1 a mA /\ ∀ f, RelO (fs.lookup f) (mA f)
 | .rng lo hi => ∃ t u v, h.get? a = some { cls := .type "range", data := .fields #[.int lo t, .int hi u, .int 1 v] }
 | .frz o u => h.get? a = some o /\ ObjOk H h a u
 | .tbl ps => h.get? a = some { cls := .none, data := .fields ps }
 | .met f x => h.get? a = some (PySem.W.methodObj (.ref f) (.ref x))
 | .ext φ => φ h /\ (∃ o, h.get? a = some o) /\ ∀ h1 h2 : Heap, φ h1 -> (∀ o, h1.get? a = some o -> h2.get? a = some o) -> φ h2
def HOk (H : Hp) (h : Heap) : Prop := ∀ a o, H a = some o -> ObjOk P w H h a o
end
section
variable {P : Program} {w : World} {H H' : Hp} {h h' : Heap} {a : Addr} {o : HO}
theorem ObjOk.lt (x : ObjOk P w H h a o) : a < h.objs.size := by
 cases o with
 | lst xs => obtain ⟨_, _, _, _, e⟩ := x; exact Heap.lt_size e
 | tup xs => obtain ⟨_, _, _, p⟩ := x; exact p.lt
 | dK kvs => obtain ⟨_, _, _, _, o, _, _, e, _⟩ := x; exact Heap.lt_size e
 | dT kvs => obtain ⟨_, _, _, _, o, _, _, e, _⟩ := x; exact Heap.lt_size e
 | set S n => obtain ⟨o, _, _, _, e, _⟩ := x; exact Heap.lt_size e
 | ins C dx fs => obtain ⟨_, _, _, e, _⟩ := x; exact Heap.lt_size e
 | own y => obtain ⟨_, e⟩ := x; exact Heap.lt_size e
 | xd fs => obtain ⟨_, ⟨_, _, _, e, _⟩, _⟩ := x; exact Heap.lt_size e
 | rng lo hi => obtain ⟨_, _, _, e⟩ := x; exact Heap.lt_size e
 | frz ob u => obtain ⟨e, _⟩ := x; exact Heap.lt_size e
 | tbl ps => exact Heap.lt_size (show h.get? a = some _ from x)
 | met f y => exact Heap.lt_size (show h.get? a = some _ from x)
 | ext φ => obtain ⟨_, ⟨_, e⟩, _⟩ := x; exact Heap.lt_size e
theorem Paired.mapP {α β : Type} {F G : α -> β -> Prop} : ∀ {l₁ : List α} {l₂ : List β}, Paired F l₁ l₂ -> (∀ a b, F a b -> G a b) -> Paired G l₁ l₂
 | _, _, .nil, _ => .nil
 | _, _, .cons r t, f => .cons (f _ _ r) (Paired.mapP t f)
theorem ObjOk.stay (x : ObjOk P w H h a o) (k : ∀ b u, (b = a \/ H b = some (.own a)) -> h.get? b = some u -> h'.get? b = some u)
   (ho : ∀ b, H b = some (.own a) -> H' b = some (.own a)) (ht : ∀ b xs, H b = some (.tup xs) -> H' b = some (.tup xs)) : ObjOk P w H' h' a o := by
 induction o with
 | lst xs => obtain ⟨z, its, n, r, e⟩ := x; exact ⟨z, its, n, r, k _ _ (.inl rfl) e⟩
 | tup xs => obtain ⟨z, its, r, ob, e, c⟩ := x; exact ⟨z, its, r, ob, k _ _ (.inl rfl) e, c⟩
 | dK kvs => obtain ⟨z, y, vs, r, ob, es, ep, e, c⟩ := x; exact ⟨z, y, vs, r, ob, es, ep, k _ _ (.inl rfl) e, c⟩
 | dT kvs =>
   obtain ⟨z, y, xs, r, ob, es, ep, e, c⟩ := x
   exact ⟨z, y, xs, Paired.mapP r fun p q z => ⟨z.1, ht _ _ z.2.1, z.2.2⟩, ob, es, ep, k _ _ (.inl rfl) e, c⟩
 | set S n => obtain ⟨ob, es, ep, t, e, c⟩ := x; exact ⟨ob, es, ep, t, k _ _ (.inl rfl) e, c⟩
 | ins C dx fs =>
   obtain ⟨d, z, ne, e, mA, ⟨od, es, ep, e2, c⟩, r⟩ := x
   exact ⟨ho _ d, z, ne, k _ _ (.inl rfl) e, mA, ⟨od, es, ep, k _ _ (.inr d) e2, c⟩, r⟩
 | own y => obtain ⟨ob, e⟩ := x; exact ⟨ob, k _ _ (.inl rfl) e⟩
 | xd fs => obtain ⟨mA, ⟨od, es, ep, e, c⟩, r⟩ := x; exact ⟨mA, ⟨od, es, ep, k _ _ (.inl rfl) e, c⟩, r⟩
 | rng lo hi => obtain ⟨t, u, v, e⟩ := x; exact ⟨t, u, v, k _ _ (.inl rfl) e⟩
 | frz ob u ih => obtain ⟨e, q⟩ := x; exact ⟨k _ _ (.inl rfl) e, ih q⟩
 | tbl ps =>
   have e : h.get? a = some { cls := .none, data := .fields ps } := x
   show h'.get? a = some { cls := .none, data := .fields ps }
   exact k a _ (.inl rfl) e
 | met f y =>
   have e : h.get? a = some (PySem.W.methodObj (.ref f) (.ref y)) := x
   show h'.get? a = some (PySem.W.methodObj (.ref f) (.ref y))
   exact k a _ (.inl rfl) e
 | ext φ => obtain ⟨p, ⟨o, e⟩, st⟩ := x; exact ⟨st _ _ p fun o q => k _ _ (.inl rfl) q, ⟨o, k _ _ (.inl rfl) e⟩, st⟩
theorem HOk.lt (x : HOk P w H h) (e : H a = some o) : a < h.objs.size := (x a o e).lt
theorem HOk.fresh (x : HOk P w H h) (e : h.objs.size <= a) : H a = none := by
 cases q : H a with
 | none => rfl
 | some u => exact absurd (Nat.lt_of_lt_of_le (x.lt q) e) (Nat.lt_irrefl _)
theorem HOk.kept (x : HOk P w H h) (k : ∀ b u, h.get? b = some u -> h'.get? b = some u) : HOk P w H h' := fun a o e =>
 (x a o e).stay (fun b u _ q => k b u q) (fun _ q => q) fun _ _ q => q
theorem HOk.laid (x : HOk P w H h) (k : ∀ b u, h.get? b = some u -> h'.get? b = some u) (hp : h.objs.size <= a) (new : ObjOk P w (upd H a o) h' a o) : HOk P w (upd H a o) h' := fun b u e => by
 have hn := x.fresh hp
 by_cases hb : b = a
 . subst hb; rw [A9] at e; cases e; exact new
 . rw [B3 hb] at e
   exact (x b u e).stay (fun c v _ q => k c v q) (fun c q => by rw [B3 (C6 q hn)]; exact q) fun c xs q => by rw [B3 (C6 q hn)]; exact q
end
def Rd (H : Hp) (a : Addr) (u : HO) : Prop := H a = some u \/ ∃ o, H a = some (.frz o u)
theorem Rd.ok {P : Program} {w : World} {H : Hp} {h : Heap} {a : Addr} {u : HO} (r : Rd H a u) (x : HOk P w H h) : ObjOk P w H h a u := by
 rcases r with r | ⟨o, r⟩
 . exact x a u r
 . obtain ⟨_, q⟩ := x a _ r
   exact q
def Mut : Option HO -> Prop
 | some (.lst _) => True
 | some (.dK _) => True
 | some (.dT _) => True
 | some (.set _ _) => True
 | some (.ins _ _ _) => True
 | some (.ext _) => True
 | _ => False
section
variable {P : Program} {w : World} {H : Hp} {h h' : Heap} {x e : Addr} {o' : HO}
theorem HOk.write (ok : HOk P w H h) (mu : Mut (H x)) (he : e = x \/ H e = some (.own x)) (k : ∀ b u, b ≠ e -> h.get? b = some u -> h'.get? b = some u) (heo : ∃ u, h'.get? e = some u)
   (new : ObjOk P w (upd H x o') h' x o') : HOk P w (upd H x o') h' := fun b u q => by
 have nown : ∀ c y, H c = some (.own y) -> c ≠ x := fun c y r z => by subst z; rw [r] at mu; exact mu
 have ntup : ∀ c xs, H c = some (.tup xs) -> c ≠ x := fun c xs r z => by subst z; rw [r] at mu; exact mu
 by_cases hb : b = x
 . subst hb; rw [A9] at q; cases q; exact new
 . rw [B3 hb] at q
   by_cases hbe : b = e
   . have q' : H b = some (.own x) := by
       rcases he with z | z
       . exact absurd (hbe.trans z) hb
       . rw [hbe]; exact z
     rw [q] at q'; cases q'
     obtain ⟨v, hv⟩ := heo
     exact ⟨v, by rw [hbe]; exact hv⟩
   . refine (ok b u q).stay (fun c v hc r => k c v ?_ r) (fun c r => by rw [B3 (nown c b r)]; exact r) fun c xs r => by rw [B3 (ntup c xs r)]; exact r
     rcases hc with rfl | hc
     . exact hbe
     . rintro rfl
       rcases he with z | z
       . exact nown c b hc z
       . rw [hc] at z; cases z; exact hb rfl
end
structure Un (fs ex : List Addr) (H H' : Hp) (h h' : Heap) : Prop where
 keep : ∀ b o, h.get? b = some o -> H b = none -> b ∉ fs -> b ∉ ex -> h'.get? b = some o
 slot : ∀ b o, h.get? b = some o -> H b = none -> b ∈ fs -> b ∉ ex -> ∃ sl, h'.get? b = some { o with slots := sl }
 free : ∀ b o, h.get? b = some o -> H b = none -> b ∉ ex -> H' b = none
 there : ∀ b o, h.get? b = some o -> b ∉ ex -> ∃ o', h'.get? b = some o'
 tups : ∀ b xs, H b = some (.tup xs) -> H' b = some (.tup xs)
 frzs : ∀ b o u, H b = some (.frz o u) -> H' b = some (.frz o u)
 tbls : ∀ b ps, H b = some (.tbl ps) -> ∃ more, H' b = some (.tbl (ps ++ more))
section
variable {fs fs' ex ex' : List Addr} {H H1 H2 : Hp} {h h1 h2 h' : Heap} {a x e : Addr} {o : HO}
theorem Un.any (u : Un fs ex H H1 h h1) {b : Addr} {ob : Obj} (q : h.get? b = some ob) (n : H b = none) (hx : b ∉ ex) : ∃ sl, h1.get? b = some { ob with slots := sl } := by
 by_cases hb : b ∈ fs
 . exact u.slot b ob q n hb hx
 . exact ⟨ob.slots, u.keep b ob q n hb hx⟩
theorem Un.kept (k : ∀ b u, h.get? b = some u -> h'.get? b = some u) : Un fs ex H H h h' :=
 ⟨fun b ob q _ _ _ => k b ob q, fun b ob q _ _ _ => ⟨ob.slots, k b ob q⟩, fun _ _ _ n _ => n, fun b ob q _ => ⟨ob, k b ob q⟩, fun _ _ q => q, fun _ _ _ q => q, fun _ ps q => ⟨#[], by rw [q]; simp⟩⟩
theorem Un.refl : Un fs ex H H h h := Un.kept fun _ _ q => q
theorem Un.laid (k : ∀ b u, h.get? b = some u -> h'.get? b = some u) (hp : h.objs.size <= a) (hn : H a = none) : Un fs ex H (upd H a o) h h' where
 keep := fun b u q _ _ _ => k b u q
 slot := fun b u q _ _ _ => ⟨u.slots, k b u q⟩
 free := fun b u q n _ => by rw [B3 (Nat.ne_of_lt (Nat.lt_of_lt_of_le (Heap.lt_size q) hp))]; exact n
 there := fun b u q _ => ⟨u, k b u q⟩
 tups := fun b xs q => by rw [B3 (C6 q hn)]; exact q
 frzs := fun b u xs q => by rw [B3 (C6 q hn)]; exact q
 tbls := fun b ps q => ⟨#[], by rw [B3 (C6 q hn), q]; simp⟩
theorem Un.write (mu : Mut (H x)) (he : e = x \/ H e = some (.own x)) (k : ∀ b u, b ≠ e -> h.get? b = some u -> h'.get? b = some u) (heo : ∃ u, h'.get? e = some u) : Un fs ex H (upd H x o) h h' := by
 have hx : ∀ b, H b = none -> b ≠ x := fun b n z => by subst z; rw [n] at mu; exact mu
 have hb : ∀ b, H b = none -> b ≠ e := fun b n z => by
   subst z
   rcases he with r | r
   . exact hx b n r
   . rw [n] at r; cases r
 have hm : ∀ b u, H b = some u -> ¬ Mut (some u) -> b ≠ x := fun b u q nm z => by subst z; rw [q] at mu; exact nm mu
 refine ⟨fun b u q n _ _ => k b u (hb b n) q, fun b u q n _ _ => ⟨u.slots, k b u (hb b n) q⟩, fun b u q n _ => by rw [B3 (hx b n)]; exact n, fun b u q _ => ?_,
   fun b xs q => by rw [B3 (hm b _ q fun z => z)]; exact q, fun b u xs q => by rw [B3 (hm b _ q fun z => z)]; exact q, fun b ps q => ⟨#[], by rw [B3 (hm b _ q fun z => z), q]; simp⟩⟩
 by_cases hbe : b = e
 . subst hbe; exact heo
 . exact ⟨u, k b u hbe q⟩
end
def trk (h : Heap) (H : Hp) : List Addr := (List.range h.objs.size).filter fun a => (H a).isSome
def C0s (h : Heap) (H : Hp) : Heap := PySem.W.hideAll h (trk h H)
theorem G5v (h : Heap) (H : Hp) : (C0s h H).objs.size = h.objs.size := PySem.W.hideAll_size _ _
theorem J2d {h : Heap} {H : Hp} {b : Addr} {o : Obj} (e : h.get? b = some o) (n : H b = none) : (C0s h H).get? b = some o :=
 PySem.W.hideAll_get _ e fun hm => by
   have q : (H b).isSome = true := (List.mem_filter.mp hm).2
   rw [n] at q; simp at q
theorem U9b {h : Heap} {H : Hp} {b : Addr} {o : Obj} (e : (C0s h H).get? b = some o) : h.get? b = some o /\ H b = none := by
 have e' : h.get? b = some o := PySem.W.of_hideAll (trk h H) e
 refine ⟨e', ?_⟩
 cases q : H b with
 | none => rfl
 | some x =>
   have hm : b ∈ trk h H := List.mem_filter.mpr ⟨List.mem_range.mpr (Heap.lt_size e'), by simp [q]⟩
   have z : (C0s h H).get? b = none := PySem.W.hideAll_none (trk h H) hm
   rw [z] at e; cases e
structure Mod (K : PySem.W.Frag) (mg : Str -> Option Value) (base : Heap) : Prop where
 kin : K.In base
 glob : base.Ns mainGlobals mg
 blt : ∃ mb, base.Ns builtinsNs mb /\ ∀ x : Str, x ≠ "__name__" -> mb x = bootBuiltins x
 nolimit : base.NoLimit
structure Cx where
 prog : Program
 w : World
 K : PySem.W.Frag
 mg : Str -> Option Value
 base : Heap
 A : Around
 N : List Str
 s₀ : Shared
 H₀ : Hp
 env : Env
 outer : List Env
 stack : List Env
 ex : List Addr
 fn : Str -> Bool
 calm : Bool
 pn : List (Addr × Obj)
 xe : Value -> Shared -> Prop
def frs (l : List Env) : List Addr := l.filterMap (·.frame)
abbrev Cx.fs (X : Cx) : List Addr := frs X.outer
def Vis (sc : Scope) (x : Str) : Prop := sc.names.lookup x = some .local \/ sc.names.lookup x = some .cell \/ sc.names.lookup x = some .free
def Loc (sc : Scope) (x : Str) : Prop := sc.names.lookup x = some .local \/ sc.names.lookup x = some .cell
def Y0q (env : Env) (h : Heap) (m : Str -> Option Value) (x : Str) (u : Value) : Prop :=
 (env.kindOf x = some .local /\ m x = some u) \/ ((env.kindOf x = some .cell \/ env.kindOf x = some .free) /\ ∃ c, env.cells.lookup x = some c /\ h.IsCell c (some u))
structure Cx.Ok (X : Cx) : Prop where
 mod : Mod X.K X.mg X.base
 kind : X.env.scope.kind = .function
 glob : X.env.globals = mainGlobals
 blt : X.env.builtins = builtinsNs
 above : X.s₀.heap.objs.size <= X.env.locals
 inj : ∀ x y c, X.env.cells.lookup x = some c -> X.env.cells.lookup y = some c -> x = y
 has : ∀ x, (X.env.kindOf x = some .cell \/ X.env.kindOf x = some .free) -> ∃ c, X.env.cells.lookup x = some c
 cab : ∀ x c, X.fn x = true -> X.env.cells.lookup x = some c -> X.s₀.heap.objs.size <= c
 hd : X.calm = true -> X.A.handled = none
 frames : X.A.frames = some X.stack
 stk : X.stack = X.outer \/ (X.stack = X.env :: X.outer /\ X.env.frame = some X.env.locals)
 exf : ∀ b ∈ X.ex, b ≠ X.env.locals /\ ∀ x c, X.env.cells.lookup x = some c -> c ≠ b
 bs : ∀ b o, X.base.get? b = some o -> X.s₀.heap.get? b = some o /\ X.H₀ b = none
 bsz : X.base.objs.size <= X.s₀.heap.objs.size
 noex : ∀ b o, X.base.get? b = some o -> b ∉ X.ex
 exfs : ∀ b ∈ X.ex, b ∉ X.fs
 funs : X.s₀.heap.FunFrames X.base X.outer
 frf : ∀ b ∈ X.fs, X.H₀ b = none
structure Inv (X : Cx) (pins : List (Addr × Obj)) (σ : List (Option V)) (H : Hp) (s : Shared) : Prop where
 ok : X.Ok
 os : s.os = X.s₀.os
 bare : AllBare s.gens
 base : Un X.fs X.ex X.H₀ H X.s₀.heap s.heap
 loc : ∃ m, s.heap.Ns X.env.locals m /\ ∀ (i : Nat) (x : Str) (v : V), X.N[i]? = some x -> σ[i]? = some (some v) -> Vis X.env.scope x -> ∃ u, RelV v u /\ Y0q X.env s.heap m x u
 cell : ∀ x c, X.env.cells.lookup x = some c -> ∃ v, s.heap.IsCell c v
 free : H X.env.locals = none
 freeC : ∀ x c, X.env.cells.lookup x = some c -> H c = none
 pin : ∀ p ∈ X.pn ++ pins, s.heap.get? p.1 = some p.2 /\ H p.1 = none /\ p.1 ≠ X.env.locals /\ p.1 ∉ X.fs /\ ∀ v, p.2.data ≠ .cell v
 hok : HOk X.prog X.w H s.heap
 len : σ.length = X.N.length
section
variable {X : Cx} {pins : List (Addr × Obj)} {σ : List (Option V)} {H H' : Hp} {s : Shared} {h' : Heap}
theorem Cx.Ok.nofr (ok : X.Ok) {b : Addr} {o : Obj} (e : X.base.get? b = some o) : b ∉ X.fs := fun hb => by
 have := (ok.funs.mem hb).1
 rw [e] at this; cases this
theorem Inv.bs (I : Inv X pins σ H s) : ∀ b o, X.base.get? b = some o -> s.heap.get? b = some o /\ H b = none := fun b o e =>
 ⟨I.base.keep b o (I.ok.bs b o e).1 (I.ok.bs b o e).2 (I.ok.nofr e) (I.ok.noex b o e), I.base.free b o (I.ok.bs b o e).1 (I.ok.bs b o e).2 (I.ok.noex b o e)⟩
theorem Inv.bk (I : Inv X pins σ H s) : ∀ b o, X.base.get? b = some o -> s.heap.get? b = some o := fun b o e => (I.bs b o e).1
theorem Inv.mod (I : Inv X pins σ H s) : Mod X.K X.mg X.base := I.ok.mod
theorem Inv.kIn (I : Inv X pins σ H s) : X.K.In s.heap := I.ok.mod.kin.keeps I.bk
theorem Inv.lt (I : Inv X pins σ H s) : X.env.locals < s.heap.objs.size := let ⟨_, hn, _⟩ := I.loc; hn.lt
theorem Inv.sz (I : Inv X pins σ H s) : X.s₀.heap.objs.size <= s.heap.objs.size := Nat.le_trans I.ok.above (Nat.le_of_lt I.lt)
theorem Inv.nofs (I : Inv X pins σ H s) {a : Addr} (h : s.heap.objs.size <= a) : a ∉ X.fs := fun hb => by
 obtain ⟨_, o, ho, _⟩ := I.ok.funs.mem hb
 exact absurd (Nat.lt_of_lt_of_le (Heap.lt_size ho) (Nat.le_trans I.sz h)) (Nat.lt_irrefl _)
theorem Inv.cne (I : Inv X pins σ H s) : ∀ x c, X.env.cells.lookup x = some c -> c ≠ X.env.locals := fun x c e z => by
 obtain ⟨v, o, ho, hd⟩ := I.cell x c e
 obtain ⟨m, ⟨o', es, ep, ho', hd', _⟩, _⟩ := I.loc
 rw [z, ho'] at ho; cases ho; rw [hd'] at hd; cases hd
theorem Inv.funs (I : Inv X pins σ H s) : s.heap.FunFrames X.base X.outer := by
 have all : ∀ (l : List Env), (∀ b ∈ frs l, b ∈ X.fs) -> X.s₀.heap.FunFrames X.base l -> s.heap.FunFrames X.base l := by
   intro l
   induction l with
   | nil => intro _ _; trivial
   | cons env r ih =>
     intro hs hl
     obtain ⟨hk, ⟨L, o, hf, hn, ho, hd⟩, hr⟩ := hl
     have hL : L ∈ X.fs := hs L (by unfold frs; rw [List.filterMap_cons, hf]; exact List.mem_cons_self)
     obtain ⟨sl, e⟩ := I.base.slot L o ho (I.ok.frf L hL) hL fun z => I.ok.exfs L z hL
     exact ⟨hk, ⟨L, _, hf, hn, e, hd⟩, ih (fun b hb => hs b (by unfold frs; rw [List.filterMap_cons, hf]; exact List.mem_cons_of_mem _ hb)) hr⟩
 exact all X.outer (fun _ hb => hb) I.ok.funs
theorem Inv.stack (I : Inv X pins σ H s) : s.heap.FunFrames X.base X.stack := by
 rcases I.ok.stk with e | ⟨e, hf⟩
 . rw [e]; exact I.funs
 . rw [e]
   obtain ⟨m, hn, _⟩ := I.loc
   refine .cons (by rw [I.ok.kind]; decide) hf hn ?_ I.funs
   exact Heap.get?_none_of_le (Nat.le_trans I.ok.bsz I.ok.above)
theorem Inv.stkSub (I : Inv X pins σ H s) : ∀ b ∈ frs X.stack, b ∈ X.env.locals :: X.fs := fun b hb => by
 rcases I.ok.stk with e | ⟨e, hf⟩
 . rw [e] at hb; exact List.mem_cons_of_mem _ hb
 . rw [e] at hb
   unfold frs at hb
   rw [List.filterMap_cons, hf] at hb
   exact hb
theorem Inv.stkFree (I : Inv X pins σ H s) : ∀ b ∈ frs X.stack, H b = none := fun b hb => by
 rcases List.mem_cons.mp (I.stkSub b hb) with e | hb
 . rw [e]; exact I.free
 . obtain ⟨_, o, ho, _⟩ := I.ok.funs.mem hb
   exact I.base.free b o ho (I.ok.frf b hb) fun z => I.ok.exfs b z hb
theorem Inv.step {g' : Array GenState} {t' : Nat} {d' : Drawn} {ch : List Addr} (I : Inv X pins σ H s)
   (hch : ∀ b ∈ ch, (b ∈ X.ex \/ X.s₀.heap.objs.size <= b) /\ b ≠ X.env.locals /\ (∀ x c, X.env.cells.lookup x = some c -> c ≠ b) /\ ∀ p ∈ X.pn ++ pins, p.1 ≠ b)
   (keep : ∀ b o, b ≠ X.env.locals -> b ∉ X.fs -> b ∉ ch -> s.heap.get? b = some o -> H b = none -> h'.get? b = some o)
   (slot : ∀ b o, b ≠ X.env.locals -> b ∈ X.fs -> b ∉ ch -> s.heap.get? b = some o -> H b = none -> ∃ sl, h'.get? b = some { o with slots := sl }) (free : ∀ b o, b ∉ ch -> s.heap.get? b = some o -> H b = none -> H' b = none)
   (there : ∀ b o, b ∉ ch -> s.heap.get? b = some o -> ∃ o', h'.get? b = some o')
   (tups : ∀ b xs, H b = some (.tup xs) -> H' b = some (.tup xs)) (frzs : ∀ b o u, H b = some (.frz o u) -> H' b = some (.frz o u)) (tbls : ∀ b ps, H b = some (.tbl ps) -> ∃ more, H' b = some (.tbl (ps ++ more)))
   (ns : ∀ m, s.heap.Ns X.env.locals m -> h'.Ns X.env.locals m) (hok : HOk X.prog X.w H' h') (hg : AllBare g') :
   Inv X pins σ H' { s with heap := h', gens := g', drawn := d', toks := t' } := by
 have neL : ∀ b o, X.s₀.heap.get? b = some o -> b ≠ X.env.locals := fun b o e => Nat.ne_of_lt (Nat.lt_of_lt_of_le (Heap.lt_size e) I.ok.above)
 have neC : ∀ b o, X.s₀.heap.get? b = some o -> b ∉ X.ex -> b ∉ ch := fun b o e hx hb => by
   rcases (hch b hb).1 with z | z
   . exact hx z
   . exact absurd (Nat.lt_of_lt_of_le (Heap.lt_size e) z) (Nat.lt_irrefl _)
 have cellK : ∀ x c, X.env.cells.lookup x = some c -> ∀ v, s.heap.IsCell c v -> h'.IsCell c v := fun x c e v ⟨o, ho, hd⟩ => by
   have nch : c ∉ ch := fun z => (hch c z).2.2.1 x c e rfl
   by_cases hc : c ∈ X.fs
   . obtain ⟨sl, q⟩ := slot c o (I.cne x c e) hc nch ho (I.freeC x c e)
     exact ⟨_, q, hd⟩
   . exact ⟨o, keep c o (I.cne x c e) hc nch ho (I.freeC x c e), hd⟩
 refine ⟨I.ok, I.os, hg, ⟨fun b o e n hb hx => ?_, fun b o e n hb hx => ?_, fun b o e n hx => ?_, fun b o e hx => ?_, fun b xs e => tups b xs (I.base.tups b xs e), fun b o xs e => frzs b o xs (I.base.frzs b o xs e), fun b ps e => ?_⟩, ?_, fun x c e => ?_, ?_, fun x c e => ?_, fun p hp => ?_, hok, I.len⟩
 . exact keep b o (neL b o e) hb (neC b o e hx) (I.base.keep b o e n hb hx) (I.base.free b o e n hx)
 . obtain ⟨sl, e1⟩ := I.base.slot b o e n hb hx
   obtain ⟨sl', e2⟩ := slot b _ (neL b o e) hb (neC b o e hx) e1 (I.base.free b o e n hx)
   exact ⟨sl', e2⟩
 . obtain ⟨o', e1⟩ := I.base.there b o e hx
   exact free b o' (neC b o e hx) e1 (I.base.free b o e n hx)
 . obtain ⟨o', e1⟩ := I.base.there b o e hx
   exact there b o' (neC b o e hx) e1
 . obtain ⟨m1, e1⟩ := I.base.tbls b ps e
   obtain ⟨m2, e2⟩ := tbls b _ e1
   exact ⟨m1 ++ m2, by rw [e2, Array.append_assoc]⟩
 . obtain ⟨m, hn, hl⟩ := I.loc
   refine ⟨m, ns m hn, fun i x v e1 e2 e3 => ?_⟩
   obtain ⟨u, r, l⟩ := hl i x v e1 e2 e3
   refine ⟨u, r, ?_⟩
   rcases l with l | ⟨k, c, e, z⟩
   . exact .inl l
   . exact .inr ⟨k, c, e, cellK x c e _ z⟩
 . obtain ⟨v, z⟩ := I.cell x c e
   exact ⟨v, cellK x c e v z⟩
 . obtain ⟨m, ⟨o, _, _, ho, _⟩, _⟩ := I.loc
   exact free _ o (fun z => (hch _ z).2.1 rfl) ho I.free
 . obtain ⟨v, o, ho, hd⟩ := I.cell x c e
   exact free c o (fun z => (hch c z).2.2.1 x c e rfl) ho (I.freeC x c e)
 . obtain ⟨e, n, ne, nf, d⟩ := I.pin p hp
   have nch : p.1 ∉ ch := fun z => (hch p.1 z).2.2.2 p hp rfl
   exact ⟨keep p.1 p.2 ne nf nch e n, free p.1 p.2 nch e n, ne, nf, d⟩
theorem Inv.un {t' : Nat} (I : Inv X pins σ H s) (u : Un X.fs [] H H' s.heap h') (hok : HOk X.prog X.w H' h') : Inv X pins σ H' { s with heap := h', toks := t' } := by
 obtain ⟨m, ⟨o, es, ep, ho, r⟩, _⟩ := id I.loc
 obtain ⟨sl, hL⟩ := u.any ho I.free (by simp)
 exact I.step (g' := s.gens) (d' := s.drawn) (ch := []) (fun _ z => nomatch z) (fun b o _ hb _ e n => u.keep b o e n hb (by simp)) (fun b o _ hb _ e n => u.slot b o e n hb (by simp)) (fun b o _ e n => u.free b o e n (by simp)) (fun b o _ e => u.there b o e (by simp)) u.tups u.frzs u.tbls (fun m' hm => by
   obtain ⟨o', es', ep', ho', r'⟩ := hm
   rw [ho] at ho'; cases ho'
   exact ⟨_, es', ep', hL, r'⟩) hok I.bare
theorem Inv.call {g' : Array GenState} {t' : Nat} {d' : Drawn} {ch : List Addr} (I : Inv X pins σ H s) (u : Un (frs X.stack) ch H H' s.heap h') (hok : HOk X.prog X.w H' h') (hg : AllBare g')
   (hch : ∀ b ∈ ch, (b ∈ X.ex \/ X.s₀.heap.objs.size <= b) /\ b ≠ X.env.locals /\ (∀ x c, X.env.cells.lookup x = some c -> c ≠ b) /\ ∀ p ∈ X.pn ++ pins, p.1 ≠ b) :
   Inv X pins σ H' { s with heap := h', gens := g', drawn := d', toks := t' } := by
 obtain ⟨m, ⟨o, es, ep, ho, r⟩, _⟩ := id I.loc
 obtain ⟨sl, hL⟩ := u.any ho I.free fun z => (hch _ z).2.1 rfl
 exact I.step (ch := ch) hch (fun b o hL hb hc e n => u.keep b o e n (fun z => (List.mem_cons.mp (I.stkSub b z)).elim hL hb) hc) (fun b o _ _ hc e n => u.any e n hc) (fun b o hc e n => u.free b o e n hc) (fun b o hc e => u.there b o e hc) u.tups u.frzs u.tbls (fun m' hm => by
   obtain ⟨o', es', ep', ho', r'⟩ := hm
   rw [ho] at ho'; cases ho'
   exact ⟨_, es', ep', hL, r'⟩) hok hg
theorem Inv.turned {t' : Nat} {it : Addr} (I : Inv X pins σ H s) (k : ∀ b o, b ≠ it -> s.heap.get? b = some o -> h'.get? b = some o) (hn : H it = none) (hL : it ≠ X.env.locals)
   (h1 : it ∈ X.ex \/ X.s₀.heap.objs.size <= it) (h2 : ∀ x c, X.env.cells.lookup x = some c -> c ≠ it) (h3 : ∀ p ∈ X.pn ++ pins, p.1 ≠ it) : Inv X pins σ H { s with heap := h', toks := t' } := by
 have nit : ∀ b u, H b = some u -> b ≠ it := fun b u e z => by rw [z, hn] at e; cases e
 refine I.step (g' := s.gens) (d' := s.drawn) (ch := [it]) (fun b hb => ?_) (fun b o _ _ hc e _ => k b o (fun z => hc (by simp [z])) e) (fun b o _ _ hc e _ => ⟨o.slots, k b o (fun z => hc (by simp [z])) e⟩) (fun _ _ _ _ n => n)
   (fun b o hc e => ⟨o, k b o (fun z => hc (by simp [z])) e⟩) (fun _ _ e => e) (fun _ _ _ e => e) (fun b ps e => ⟨#[], by rw [e]; simp⟩) (fun m hm => ?_) (fun b u e => ?_) I.bare
 . have e : b = it := by simpa using hb
   subst e
   exact ⟨h1, hL, h2, h3⟩
 . obtain ⟨o, es, ep, ho, r⟩ := hm
   exact ⟨o, es, ep, k _ o (Ne.symm hL) ho, r⟩
 . refine (I.hok b u e).stay (fun c v hc q => k c v ?_ q) (fun _ q => q) fun _ _ q => q
   rcases hc with z | z
   . rw [z]; exact nit b u e
   . exact nit c _ z
theorem Inv.tok (I : Inv X pins σ H s) (t : Nat) : Inv X pins σ H { s with toks := t } := I.un (h' := s.heap) (t' := t) Un.refl I.hok
theorem Inv.kept {t' : Nat} (I : Inv X pins σ H s) (k : ∀ b u, s.heap.get? b = some u -> h'.get? b = some u) : Inv X pins σ H { s with heap := h', toks := t' } := I.un (Un.kept k) (I.hok.kept k)
theorem Inv.laid {a : Addr} {o : HO} {t' : Nat} (I : Inv X pins σ H s) (k : ∀ b u, s.heap.get? b = some u -> h'.get? b = some u) (hp : s.heap.objs.size <= a) (new : ObjOk X.prog X.w (upd H a o) h' a o) :
   Inv X pins σ (upd H a o) { s with heap := h', toks := t' } := I.un (Un.laid k hp (I.hok.fresh hp)) (I.hok.laid k hp new)
theorem Inv.write {x e : Addr} {o : HO} {t' : Nat} (I : Inv X pins σ H s) (mu : Mut (H x)) (he : e = x \/ H e = some (.own x)) (k : ∀ b u, b ≠ e -> s.heap.get? b = some u -> h'.get? b = some u) (heo : ∃ u, h'.get? e = some u)
   (new : ObjOk X.prog X.w (upd H x o) h' x o) : Inv X pins σ (upd H x o) { s with heap := h', toks := t' } := I.un (Un.write mu he k heo) (I.hok.write mu he k heo new)
theorem Inv.pins_of {pins' : List (Addr × Obj)} (I : Inv X pins σ H s) (h : ∀ p ∈ pins', s.heap.get? p.1 = some p.2 /\ H p.1 = none /\ p.1 ≠ X.env.locals /\ p.1 ∉ X.fs /\ ∀ v, p.2.data ≠ .cell v) : Inv X pins' σ H s :=
 ⟨I.ok, I.os, I.bare, I.base, I.loc, I.cell, I.free, I.freeC, fun p hp => (List.mem_append.mp hp).elim (fun z => I.pin p (List.mem_append_left _ z)) (h p), I.hok, I.len⟩
theorem B7h {N : List Str} (hN : N.Nodup) {i j : Nat} {x : Str} (a : N[i]? = some x) (b : N[j]? = some x) : i = j := by
 obtain ⟨h1, e1⟩ := List.getElem?_eq_some_iff.mp a
 obtain ⟨h2, e2⟩ := List.getElem?_eq_some_iff.mp b
 exact (List.getElem_inj hN).mp (e1.trans e2.symm)
theorem C1r {M : Model} {A : Around} {E : Value -> Shared -> Prop} {i : Nat} {x : Str} {v : V} {u : Value} {Q : Unit -> Shared -> Prop} (I : Inv X pins σ H s) (hN : X.N.Nodup) (hi : X.N[i]? = some x) (hx : Loc X.env.scope x) (r : RelV v u)
   (h : ∀ s', Inv X pins (σ.set i (some v)) H s' -> (∃ a, Heap.SameBut a s.heap s'.heap /\ (a = X.env.locals \/ X.env.cells.lookup x = some a)) -> Q () s') (hf : X.fn x = true \/ X.env.scope.names.lookup x = some .local := by first | exact .inl rfl | exact .inr rfl | assumption) : wpAny M A (storeName X.env x u) Q E s := by
 obtain ⟨m, hn, hl⟩ := id I.loc
 have hcls : (X.env.scope.kind == .class || (X.env.scope.kind == .module && X.env.locals != X.env.globals)) = false := by rw [I.ok.kind]; rfl
 have hiσ : i < σ.length := by rw [I.len]; exact (List.getElem?_eq_some_iff.mp hi).1
 have cne := I.cne
 have tracked : ∀ {a : Addr} {h' : Heap}, (∃ o, s.heap.get? a = some o /\ H a = none) -> Heap.SameBut a s.heap h' -> HOk X.prog X.w H h' := fun {a h'} ha hs b ob e => by
   obtain ⟨_, _, hfree⟩ := ha
   refine (I.hok b ob e).stay (fun c w' hc q => (hs.2 c ?_).trans q) (fun _ q => q) fun _ _ q => q
   rintro rfl
   rcases hc with rfl | hc
   . rw [hfree] at e; cases e
   . rw [hfree] at hc; cases hc
 rcases hx with hk | hk
 . refine wpAny_storeName_local hk hn (fun h' hn' hs => ?_) hcls
   obtain ⟨oL, _, _, hoL, _⟩ := id hn
   refine h _ ⟨I.ok, I.os, I.bare, ⟨fun b o e n hb hx => ?_, fun b o e n hb hx => ?_, I.base.free, fun b o e hx => ?_, I.base.tups, I.base.frzs, I.base.tbls⟩, ⟨_, hn', fun j y v' e1 e2 e3 => ?_⟩, fun y c e => ?_, I.free, I.freeC, fun p hp => ?_, tracked ⟨oL, hoL, I.free⟩ hs, by simpa using I.len⟩ ⟨_, hs, .inl rfl⟩
   . exact (hs.2 b (Nat.ne_of_lt (Nat.lt_of_lt_of_le (Heap.lt_size e) I.ok.above))).trans (I.base.keep b o e n hb hx)
   . obtain ⟨sl, e1⟩ := I.base.slot b o e n hb hx
     exact ⟨sl, (hs.2 b (Nat.ne_of_lt (Nat.lt_of_lt_of_le (Heap.lt_size e) I.ok.above))).trans e1⟩
   . obtain ⟨o', e1⟩ := I.base.there b o e hx
     exact ⟨o', (hs.2 b (Nat.ne_of_lt (Nat.lt_of_lt_of_le (Heap.lt_size e) I.ok.above))).trans e1⟩
   . by_cases hj : j = i
     . subst hj
       rw [hi] at e1; cases e1
       rw [List.getElem?_set_self hiσ] at e2
       cases e2
       exact ⟨u, r, .inl ⟨hk, by simp⟩⟩
     . rw [List.getElem?_set_ne (Ne.symm hj)] at e2
       obtain ⟨u', r', q⟩ := hl j y v' e1 e2 e3
       refine ⟨u', r', ?_⟩
       rcases q with ⟨k, e⟩ | ⟨k, c, e, z⟩
       . refine .inl ⟨k, ?_⟩
         have : y ≠ x := fun e => hj (B7h hN e1 (e ▸ hi))
         simp [this, e]
       . exact .inr ⟨k, c, e, z.sameBut hs (cne y c e)⟩
   . obtain ⟨w', z⟩ := I.cell y c e
     exact ⟨w', z.sameBut hs (cne y c e)⟩
   . obtain ⟨e, n, ne, nf, d⟩ := I.pin p hp
     exact ⟨(hs.2 p.1 ne).trans e, n, ne, nf, d⟩
 . have hfn : X.fn x = true := by
     rcases hf with z | z
     . exact z
     . rw [z] at hk; cases hk
   obtain ⟨c, hc⟩ := I.ok.has x (.inl hk)
   obtain ⟨w', z⟩ := I.cell x c hc
   refine wpAny_storeName_cell I.ok.kind hk hc z (fun h' hc' hs => ?_)
   obtain ⟨oc, hoc, hocd⟩ := id z
   refine h { s with heap := h' } ⟨I.ok, I.os, I.bare, ⟨fun b o e n hb hx => ?_, fun b o e n hb hx => ?_, I.base.free, fun b o e hx => ?_, I.base.tups, I.base.frzs, I.base.tbls⟩, ⟨m, hn.sameBut hs (Ne.symm (cne x c hc)), fun j y v' e1 e2 e3 => ?_⟩, fun y c' e => ?_, I.free, I.freeC, fun p hp => ?_, tracked ⟨oc, hoc, I.freeC x c hc⟩ hs, by simpa using I.len⟩ ⟨c, hs, .inr hc⟩
   . exact (hs.2 b (Nat.ne_of_lt (Nat.lt_of_lt_of_le (Heap.lt_size e) (I.ok.cab x c hfn hc)))).trans (I.base.keep b o e n hb hx)
   . obtain ⟨sl, e1⟩ := I.base.slot b o e n hb hx
     exact ⟨sl, (hs.2 b (Nat.ne_of_lt (Nat.lt_of_lt_of_le (Heap.lt_size e) (I.ok.cab x c hfn hc)))).trans e1⟩
   . obtain ⟨o', e1⟩ := I.base.there b o e hx
     exact ⟨o', (hs.2 b (Nat.ne_of_lt (Nat.lt_of_lt_of_le (Heap.lt_size e) (I.ok.cab x c hfn hc)))).trans e1⟩
   . by_cases hj : j = i
     . subst hj
       rw [hi] at e1; cases e1
       rw [List.getElem?_set_self hiσ] at e2
       cases e2
       exact ⟨u, r, .inr ⟨.inl hk, c, hc, hc'⟩⟩
     . rw [List.getElem?_set_ne (Ne.symm hj)] at e2
       obtain ⟨u', r', q⟩ := hl j y v' e1 e2 e3
       refine ⟨u', r', ?_⟩
       rcases q with q | ⟨k, c', e, z'⟩
       . exact .inl q
       . refine .inr ⟨k, c', e, z'.sameBut hs ?_⟩
         rintro rfl
         exact hj (B7h hN e1 (I.ok.inj _ _ _ e hc ▸ hi))
   . by_cases hcc : c' = c
     . subst hcc; exact ⟨_, hc'⟩
     . obtain ⟨w2, z2⟩ := I.cell y c' e
       exact ⟨w2, z2.sameBut hs hcc⟩
   . obtain ⟨e, n, ne, nf, d⟩ := I.pin p hp
     refine ⟨(hs.2 p.1 ?_).trans e, n, ne, nf, d⟩
     intro q
     rw [q, hoc] at e
     have q' : oc = p.2 := Option.some.inj e
     exact d w' (by rw [<- q']; exact hocd)
theorem A5t {M : Model} {A : Around} {E : Value -> Shared -> Prop} {i : Nat} {x : Str} {v : V} {u : Value} {Q : Unit -> Shared -> Prop} (I : Inv X pins σ H s) (hN : X.N.Nodup) (hi : X.N[i]? = some x) (hx : Loc X.env.scope x) (r : RelV v u)
   (h : ∀ s', Inv X pins (σ.set i (some v)) H s' -> Q () s') (hf : X.fn x = true \/ X.env.scope.names.lookup x = some .local := by first | exact .inl rfl | exact .inr rfl | assumption) : wpAny M A (storeName X.env x u) Q E s :=
 C1r I hN hi hx r (fun s' I' _ => h s' I') hf
theorem Inv.call' {s' : Shared} {ch : List Addr} (I : Inv X pins σ H s) (ho : s'.os = s.os) (u : Un (frs X.stack) ch H H' s.heap s'.heap) (hok : HOk X.prog X.w H' s'.heap) (hg : AllBare s'.gens)
   (hch : ∀ b ∈ ch, (b ∈ X.ex \/ X.s₀.heap.objs.size <= b) /\ b ≠ X.env.locals /\ (∀ x c, X.env.cells.lookup x = some c -> c ≠ b) /\ ∀ p ∈ X.pn ++ pins, p.1 ≠ b) : Inv X pins σ H' s' := by
 obtain ⟨h', g', d', t', o'⟩ := s'
 have e : o' = s.os := ho
 subst e
 exact I.call (g' := g') (t' := t') (d' := d') u hok hg hch
end
abbrev XK := Value -> Option Addr -> Hp -> Prop
abbrev St := List (Option V)
abbrev VK := V -> Hp -> Prop
abbrev TE := St -> Hp -> VK -> Prop
abbrev TT := St -> Hp -> (Bool -> Hp -> Prop) -> Prop
abbrev TA := St -> Hp -> (List V -> Hp -> Prop) -> Prop
structure Ends where
 nx : St -> Hp -> Prop
 rt : VK
 bk : St -> Hp -> Prop := fun _ _ => False
 ct : St -> Hp -> Prop := fun _ _ => False
abbrev TS := Ends -> St -> Hp -> Prop
def EP (X : Cx) (pins : List (Addr × Obj)) (σ : St) (Q : VK) (u : Value) (s' : Shared) : Prop := ∃ v H', Inv X pins σ H' s' /\ RelV v u /\ Q v H'
def TP (X : Cx) (pins : List (Addr × Obj)) (σ : St) (Q : Bool -> Hp -> Prop) (b : Bool) (s' : Shared) : Prop := ∃ H', Inv X pins σ H' s' /\ Q b H'
def AP (X : Cx) (pins : List (Addr × Obj)) (σ : St) (Q : List V -> Hp -> Prop) (us : List Value) (s' : Shared) : Prop := ∃ vs H', Inv X pins σ H' s' /\ Vals vs us /\ Q vs H'
def SP (X : Cx) (pins : List (Addr × Obj)) (D : Ends) (f : Flow) (s' : Shared) : Prop :=
 match f with
 | .next => ∃ σ' H', Inv X pins σ' H' s' /\ D.nx σ' H'
 | .brk => ∃ σ' H', Inv X pins σ' H' s' /\ D.bk σ' H'
 | .cont => ∃ σ' H', Inv X pins σ' H' s' /\ D.ct σ' H'
 | .ret u => ∃ v σ' H', Inv X pins σ' H' s' /\ RelV v u /\ D.rt v H'
def PE (X : Cx) (e : Expr) (t : TE) : Prop :=
 ∀ (pins : List (Addr × Obj)) (s : Shared) (σ : St) (H : Hp) (Q : VK), Inv X pins σ H s -> t σ H Q -> wpAny (model X.prog X.w) X.A (eval e X.env) (EP X pins σ Q) X.xe s
def PT (X : Cx) (e : Expr) (t : TT) : Prop :=
 ∀ (pins : List (Addr × Obj)) (s : Shared) (σ : St) (H : Hp) (Q : Bool -> Hp -> Prop), Inv X pins σ H s -> t σ H Q -> wpAny (model X.prog X.w) X.A (isTrue e X.env (eval e X.env)) (TP X pins σ Q) X.xe s
def PW (X : Cx) (e : Expr) (t : TT) : Prop :=
 ∀ (whole : Sem Value) (pins : List (Addr × Obj)) (s : Shared) (σ : St) (H : Hp) (Q : Bool -> Hp -> Prop), Inv X pins σ H s -> t σ H Q -> wpAny (model X.prog X.w) X.A (isTrue e X.env whole) (TP X pins σ Q) X.xe s
theorem PW.pt {X : Cx} {e : Expr} {t : TT} (h : PW X e t) : PT X e t := h _
def PA (X : Cx) (es : List Expr) (t : TA) : Prop :=
 ∀ (pos : Pos) (pins : List (Addr × Obj)) (s : Shared) (σ : St) (H : Hp) (Q : List V -> Hp -> Prop), Inv X pins σ H s -> t σ H Q -> wpAny (model X.prog X.w) X.A (spliced (backTo pos (starEach es X.env))) (AP X pins σ Q) X.xe s
def PS (X : Cx) (st : Stmt) (t : TS) : Prop :=
 ∀ (pins : List (Addr × Obj)) (s : Shared) (σ : St) (H : Hp) (D : Ends), Inv X pins σ H s -> t D σ H -> wpAny (model X.prog X.w) X.A (exec st X.env) (SP X pins D) X.xe s
def PSs (X : Cx) (st : List Stmt) (t : TS) : Prop :=
 ∀ (pins : List (Addr × Obj)) (s : Shared) (σ : St) (H : Hp) (D : Ends), Inv X pins σ H s -> t D σ H -> wpAny (model X.prog X.w) X.A (execs st X.env) (SP X pins D) X.xe s
theorem thn {α : Type} {t : Sem α} {Q Q' : α -> Shared -> Prop} {M : Model} {A : Around} {E : Value -> Shared -> Prop} {s : Shared} (h : wpAny M A t Q E s) (hQ : ∀ a s, Q a s -> Q' a s) : wpAny M A t Q' E s := wpAny_mono h hQ fun _ _ x => x
section
variable {X : Cx}
def V6t (i : Nat) : TE := fun σ H Q => ∃ v, σ[i]? = some (some v) /\ Q v H
def tC (v : V) : TE := fun _ H Q => Q v H
theorem J4x {i : Nat} {x : Str} {pos : Pos} (hN : X.N[i]? = some x) (hv : Vis X.env.scope x) (hd : (x == ("__debug__" : Str)) = false := by decide) (hcd : (x == ("__classdict__" : Str)) = false := by decide) : PE X (.Name x pos) (V6t i) := by
 intro pins s σ H Q I h
 obtain ⟨v, e, h⟩ := h
 obtain ⟨m, hn, hl⟩ := I.loc
 obtain ⟨u, r, l⟩ := hl i x v hN e hv
 have fin : EP X pins σ Q u s := ⟨v, H, I, r, h⟩
 rcases l with ⟨hk, hm⟩ | ⟨hk, c, hc, hcell⟩
 . exact wpAny_Name (wpAny_loadName_local I.ok.kind hk hn hm fin) hd
 . rcases hk with hk | hk
   . exact wpAny_Name (wpAny_loadName_cell I.ok.kind hk hc hcell fin) hd
   . exact wpAny_Name (wpAny_loadName_free I.ok.kind hk hc hcell fin hcd) hd
theorem A1 {i j pos} : PE X (.Constant (.int i) j pos) (tC (.int i)) := fun _ _ _ H _ I h => wpAny_Constant_int ⟨.int i, H, I.tok _, ⟨_, rfl⟩, h⟩
theorem J5r {b j pos} : PE X (.Constant (.bool b) j pos) (tC (.bl b)) := fun _ _ _ H _ I h => Constant_bool ⟨.bl b, H, I, rfl, h⟩
theorem V6y {j pos} : PE X (.Constant .none j pos) (tC .non) := fun _ _ _ H _ I h => Constant_none ⟨.non, H, I, rfl, h⟩
theorem B5 {x j pos} : PE X (.Constant (.str x) j pos) (tC (.str x)) := fun _ _ _ H _ I h => Calls.Constant_str ⟨.str x, H, I.tok _, ⟨_, rfl⟩, h⟩
def Gl (X : Cx) (x : Str) : Prop := X.env.kindOf x = some .globalImplicit
theorem A0j {E : Value -> Shared -> Prop} {pins : List (Addr × Obj)} {s : Shared} {σ : St} {H : Hp} {x : Str} {u : Value} {pos : Pos} {Q : Value -> Shared -> Prop} (I : Inv X pins σ H s) (hg : Gl X x) (hm : X.mg x = some u) (h : Q u s)
   (hd : (x == ("__debug__" : Str)) = false := by decide) : wpAny (model X.prog X.w) X.A (eval (.Name x pos) X.env) Q E s :=
 Calls.Name_function_global I.ok.kind hg (Calls.loadGlobal_global (by rw [I.ok.glob]; exact I.mod.glob.keeps I.bk) hm h) hd
theorem C4r {E : Value -> Shared -> Prop} {pins : List (Addr × Obj)} {s : Shared} {σ : St} {H : Hp} {x : Str} {u : Value} {pos : Pos} {Q : Value -> Shared -> Prop} (I : Inv X pins σ H s) (hg : Gl X x) (hm : X.mg x = none) (hv : bootBuiltins x = some u) (h : Q u s)
   (hn : x ≠ "__name__" := by decide) (hd : (x == ("__debug__" : Str)) = false := by decide) : wpAny (model X.prog X.w) X.A (eval (.Name x pos) X.env) Q E s := by
 obtain ⟨mb, h1, h2⟩ := I.mod.blt
 exact Calls.Name_function_global I.ok.kind hg (Calls.loadGlobal_builtin (by rw [I.ok.glob]; exact I.mod.glob.keeps I.bk) hm (by rw [I.ok.blt]; exact h1.keeps I.bk) ((h2 x hn).trans hv) h) hd
theorem U8v {x : Str} {v : V} {u : Value} {pos : Pos} (hg : Gl X x) (hm : X.mg x = some u) (r : RelV v u) (hd : (x == ("__debug__" : Str)) = false := by decide) : PE X (.Name x pos) (tC v) :=
 fun _ _ _ H _ I h => A0j I hg hm ⟨v, H, I, r, h⟩ hd
theorem U9a {x : Str} {v : V} {u : Value} {pos : Pos} (hg : Gl X x) (hm : X.mg x = none) (hv : bootBuiltins x = some u) (r : RelV v u) (hn : x ≠ "__name__" := by decide) (hd : (x == ("__debug__" : Str)) = false := by decide) : PE X (.Name x pos) (tC v) :=
 fun _ _ _ H _ I h => C4r I hg hm hv ⟨v, H, I, r, h⟩ hn hd
variable {a b : Expr} {ta tb : TE} {pos : Pos}
def tB (t : TE) : TT := fun σ H Q => t σ H fun x H1 => ∃ c, x = .bl c /\ Q c H1
theorem A2m {e : Expr} {t : TE} (h : PE X e t) (he : ∀ whole, isTrue e X.env whole = (do let v <- whole; standAt e.pos; holding [v] (truthy v)) := by intro _; rfl) : PT X e (tB t) := by
 intro pins s σ H Q I hw
 refine isTrue_plain (thn (h pins s σ H _ I hw) fun v s1 ⟨x, H1, I1, r1, q1⟩ => ?_) (he _)
 obtain ⟨d, rfl, q⟩ := q1
 cases r1
 exact wpAny_truthy_bool ⟨H1, I1, q⟩
variable {tA tB' : TT} {rest : List Expr}
def Y4g (t u : TT) : TT := fun σ H Q => t σ H fun c H1 => if c = true then u σ H1 Q else Q false H1
def tOr (t u : TT) : TT := fun σ H Q => t σ H fun c H1 => if c = true then Q true H1 else u σ H1 Q
def Y5q (t : TT) : TT := fun σ H Q => t σ H fun c H1 => Q (!c) H1
theorem B5p (ha : PT X a tA) : PW X (.BoolOp .And [a] pos) tA := by
 intro wh pins s σ H Q I h
 refine isTrue_and (thn (ha pins s σ H Q I h) fun c s1 e => ?_)
 cases c with
 | true => exact isTrue_and_nil e
 | false => exact e
theorem B0x (ha : PT X a tA) : PW X (.BoolOp .Or [a] pos) tA := by
 intro wh pins s σ H Q I h
 refine isTrue_or (thn (ha pins s σ H Q I h) fun c s1 e => ?_)
 cases c with
 | false => exact isTrue_or_nil e
 | true => exact e
theorem C3z (ha : PT X a tA) (hb : PW X (.BoolOp .And (b :: rest) pos) tB') : PW X (.BoolOp .And (a :: b :: rest) pos) (Y4g tA tB') := by
 intro wh pins s σ H Q I h
 refine isTrue_and (thn (ha pins s σ H _ I h) fun c s1 ⟨H1, I1, q1⟩ => ?_)
 cases c with
 | true => exact hb wh pins s1 σ H1 Q I1 q1
 | false => exact ⟨H1, I1, q1⟩
theorem C1k (ha : PT X a tA) (hb : PW X (.BoolOp .Or (b :: rest) pos) tB') : PW X (.BoolOp .Or (a :: b :: rest) pos) (tOr tA tB') := by
 intro wh pins s σ H Q I h
 refine isTrue_or (thn (ha pins s σ H _ I h) fun c s1 ⟨H1, I1, q1⟩ => ?_)
 cases c with
 | true => exact ⟨H1, I1, q1⟩
 | false => exact hb wh pins s1 σ H1 Q I1 q1
theorem A5g (ha : PT X a tA) : PT X (.UnaryOp .Not a pos) (Y5q tA) := by
 intro pins s σ H Q I h
 exact isTrue_not (ha pins s σ H (fun c H1 => Q (!c) H1) I h)
def Y2h (ta tb : TE) : TE := fun σ H Q => ta σ H fun x H1 => ∃ c, x = .bl c /\ if c = true then tb σ H1 Q else Q (.bl false) H1
def Y1t (ta : TE) : TE := fun σ H Q => ta σ H fun x H1 => ∃ c, x = .bl c /\ Q (.bl (!c)) H1
theorem D3v {op} {t : TE} (h : PE X a t) : PE X (.BoolOp op [a] pos) t := fun pins s σ H Q I hw => BoolOp_one (h pins s σ H Q I hw)
theorem C3n (ha : PE X a ta) (hb : PE X (.BoolOp .And (b :: rest) pos) tb) : PE X (.BoolOp .And (a :: b :: rest) pos) (Y2h ta tb) := by
 intro pins s σ H Q I h
 refine BoolOp_and (thn (ha pins s σ H _ I h) fun v s1 ⟨x, H1, I1, r1, q1⟩ => ?_)
 obtain ⟨c, rfl, q1⟩ := q1
 cases r1
 refine wpAny_truthy_bool ?_
 cases c with
 | true => exact hb pins s1 σ H1 Q I1 q1
 | false => exact ⟨.bl false, H1, I1, rfl, q1⟩
theorem V5e (ha : PE X a ta) : PE X (.UnaryOp .Not a pos) (Y1t ta) := by
 intro pins s σ H Q I h
 refine UnaryOp_ (thn (ha pins s σ H _ I h) fun v s1 ⟨x, H1, I1, r1, q1⟩ => ?_)
 obtain ⟨c, rfl, q1⟩ := q1
 cases r1
 exact not_of (wpAny_truthy_bool ⟨.bl (!c), H1, I1, rfl, q1⟩)
def tIf (t : TT) (ta tb : TE) : TE := fun σ H Q => t σ H fun c H1 => if c = true then ta σ H1 Q else tb σ H1 Q
theorem A1w {c : Expr} (hc : PT X c tA) (ha : PE X a ta) (hb : PE X b tb) : PE X (.IfExp c a b pos) (tIf tA ta tb) := by
 intro pins s σ H Q I h
 refine wpAny_IfExp (thn (hc pins s σ H _ I h) fun d s1 ⟨H1, I1, q1⟩ => ?_)
 cases d with
 | true => exact ha pins s1 σ H1 Q I1 q1
 | false => exact hb pins s1 σ H1 Q I1 q1
end
def SqL (K : PySem.W.Frag) (H : Hp) (a : Addr) (xs : List V) : Prop :=
 Rd H a (.lst xs) \/
   ∃ (o : Obj) (its : Array Value) (n : Nat), K.lookup a = some o /\ o.cls = .type "list" /\ o.dict = none /\ o.data = .seq its n /\ its.size <= sizeLine /\ Vals xs its.toList
def SqT (K : PySem.W.Frag) (H : Hp) (a : Addr) (xs : List V) : Prop :=
 Rd H a (.tup xs) \/
   ∃ (o : Obj) (its : Array Value) (n : Nat), K.lookup a = some o /\ o.cls = .type "tuple" /\ o.data = .seq its n /\ its.size <= sizeLine /\ Vals xs its.toList
def Y4r : Value -> Option V
 | .none => some .non
 | .bool b => some (.bl b)
 | .int i _ => some (.int i)
 | .str x _ => some (.str x)
 | .bytes b _ => some (.byt b)
 | .float b _ => some (.flt b)
 | .ref a => some (.ref a)
 | .type n => some (.ty n)
 | _ => none
theorem RelV.abs {x : V} {u : Value} (r : RelV x u) : Y4r u = some x := by
 cases x with
 | non => cases r; rfl
 | bl _ => cases r; rfl
 | int _ => obtain ⟨t, rfl⟩ := r; rfl
 | str _ => obtain ⟨t, rfl⟩ := r; rfl
 | byt _ => obtain ⟨t, rfl⟩ := r; rfl
 | flt _ => obtain ⟨t, rfl⟩ := r; rfl
 | ref _ => cases r; rfl
 | ty _ => cases r; rfl
theorem RelV.inj {x y : V} {u : Value} (r : RelV x u) (q : RelV y u) : x = y := Option.some.inj (r.abs.symm.trans q.abs)
theorem Vals.inj : ∀ {xs ys : List V} {us : List Value}, Vals xs us -> Vals ys us -> xs = ys
 | _, _, _, .nil, .nil => rfl
 | _, _, _, .cons r t, .cons r' t' => by rw [r.inj r', Vals.inj t t']
section
variable {X : Cx} {pins : List (Addr × Obj)} {σ : St} {H : Hp} {s : Shared} {a : Addr} {xs ys : List V}
theorem SqL.of {K : PySem.W.Frag} (h : H a = some (.lst xs)) : SqL K H a xs := .inl (.inl h)
theorem SqT.of {K : PySem.W.Frag} (h : H a = some (.tup xs)) : SqT K H a xs := .inl (.inl h)
theorem Inv.list (I : Inv X pins σ H s) (h : SqL X.K H a xs) : ∃ its : List Value, Vals xs its /\ PlainL s.heap a its.toArray /\ xs.length <= sizeLine := by
 rcases h with h | ⟨o, its, n, hk, hc, hd, hs, hz, r⟩
 . obtain ⟨z, its, n, r, e⟩ := h.ok I.hok
   exact ⟨its, r, ⟨_, n, e, rfl, rfl, rfl⟩, z⟩
 . refine ⟨its.toList, r, ⟨o, n, I.kIn a o hk, hc, hd, by simpa using hs⟩, ?_⟩
   have e := r.length
   simp only [Array.length_toList] at e
   omega
theorem Inv.tuple (I : Inv X pins σ H s) (h : SqT X.K H a xs) : ∃ its : List Value, Vals xs its /\ IsTup s.heap a its.toArray /\ xs.length <= sizeLine := by
 rcases h with h | ⟨o, its, n, hk, hc, hs, hz, r⟩
 . obtain ⟨z, its, r, p⟩ := h.ok I.hok
   exact ⟨its, r, p, z⟩
 . refine ⟨its.toList, r, ⟨o, I.kIn a o hk, hc, n, by simpa using hs⟩, ?_⟩
   have e := r.length
   simp only [Array.length_toList] at e
   omega
theorem Inv.list_inj (I : Inv X pins σ H s) (h : SqL X.K H a xs) (h' : SqL X.K H a ys) : xs = ys := by
 obtain ⟨its, r, ⟨o, n, e, _, _, d⟩, _⟩ := I.list h
 obtain ⟨its', r', ⟨o', n', e', _, _, d'⟩, _⟩ := I.list h'
 rw [e] at e'; cases e'
 rw [d] at d'
 injection d' with d1 _
 have : its = its' := by simpa using congrArg Array.toList d1
 subst this
 exact r.inj r'
theorem Inv.tuple_inj (I : Inv X pins σ H s) (h : SqT X.K H a xs) (h' : SqT X.K H a ys) : xs = ys := by
 obtain ⟨its, r, ⟨o, e, _, n, d⟩, _⟩ := I.tuple h
 obtain ⟨its', r', ⟨o', e', _, n', d'⟩, _⟩ := I.tuple h'
 rw [e] at e'; cases e'
 rw [d] at d'
 injection d' with d1 _
 have : its = its' := by simpa using congrArg Array.toList d1
 subst this
 exact r.inj r'
end
abbrev Cx.wish (X : Cx) (E : Value -> Shared -> Prop) : Cx := { X with xe := E }
abbrev Cx.nox (X : Cx) : Cx := X.wish fun _ _ => False
theorem Cx.Ok.wish {X : Cx} (ok : X.Ok) (E : Value -> Shared -> Prop) : (X.wish E).Ok :=
 ⟨ok.mod, ok.kind, ok.glob, ok.blt, ok.above, ok.inj, ok.has, ok.cab, ok.hd, ok.frames, ok.stk, ok.exf, ok.bs, ok.bsz, ok.noex, ok.exfs, ok.funs, ok.frf⟩
theorem Cx.Ok.unwish {X : Cx} {E : Value -> Shared -> Prop} (ok : (X.wish E).Ok) : X.Ok :=
 ⟨ok.mod, ok.kind, ok.glob, ok.blt, ok.above, ok.inj, ok.has, ok.cab, ok.hd, ok.frames, ok.stk, ok.exf, ok.bs, ok.bsz, ok.noex, ok.exfs, ok.funs, ok.frf⟩
section
variable {X : Cx} {pins : List (Addr × Obj)} {σ : St} {H : Hp} {s : Shared} {E : Value -> Shared -> Prop}
theorem Inv.wish (I : Inv X pins σ H s) (E : Value -> Shared -> Prop) : Inv (X.wish E) pins σ H s := ⟨I.ok.wish E, I.os, I.bare, I.base, I.loc, I.cell, I.free, I.freeC, I.pin, I.hok, I.len⟩
theorem Inv.unwish (I : Inv (X.wish E) pins σ H s) : Inv X pins σ H s := ⟨I.ok.unwish, I.os, I.bare, I.base, I.loc, I.cell, I.free, I.freeC, I.pin, I.hok, I.len⟩
theorem SP.unwish {D : Ends} {f : Flow} {s' : Shared} (h : SP (X.wish E) pins D f s') : SP X pins D f s' := by
 cases f with
 | next => obtain ⟨σ', H', I, q⟩ := h; exact ⟨σ', H', I.unwish, q⟩
 | brk => obtain ⟨σ', H', I, q⟩ := h; exact ⟨σ', H', I.unwish, q⟩
 | cont => obtain ⟨σ', H', I, q⟩ := h; exact ⟨σ', H', I.unwish, q⟩
 | ret u => obtain ⟨v, σ', H', I, r, q⟩ := h; exact ⟨v, σ', H', I.unwish, r, q⟩
theorem PSs.nox {st : List Stmt} {t : TS} (h : PSs X.nox st t) : PSs X st t := fun pins s σ H D I hw =>
 wpAny_mono (h pins s σ H D (I.wish _) hw) (fun _ _ q => q.unwish) fun _ _ z => False.elim z
end
section
variable {X : Cx} {st : Stmt} {rest : List Stmt} {t u : TS} {e : Expr} {te : TE} {pos : Pos}
def Y0k : TS := fun D σ H => D.nx σ H
def D3m (t u : TS) : TS := fun D σ H => t { D with nx := u D } σ H
theorem C9 : PSs X [] Y0k := fun _ _ σ H _ I h => wpAny_execs_nil ⟨σ, H, I, h⟩
theorem A7 (h1 : PS X st t) (h2 : PSs X rest u) : PSs X (st :: rest) (D3m t u) := by
 intro pins s σ H D I h
 refine wpAny_execs_cons (thn (h1 pins s σ H { D with nx := u D } I h) fun f s1 q => ?_)
 cases f with
 | next =>
   obtain ⟨σ', H', I', q⟩ := q
   exact h2 pins s1 σ' H' D I' q
 | ret v => exact q
 | brk => exact q
 | cont => exact q
theorem B0 (h1 : PS X st t) : PSs X [st] t := by
 intro pins s σ H D I h
 refine wpAny_execs_cons (thn (h1 pins s σ H D I h) fun f s1 q => ?_)
 cases f with
 | next => exact wpAny_execs_nil q
 | ret v => exact q
 | brk => exact q
 | cont => exact q
theorem Inv.quiet {pins : List (Addr × Obj)} {σ : St} {H : Hp} {s : Shared} (I : Inv X pins σ H s) : interactive X.env = false := by simp [interactive, I.ok.kind]
def Y0e (te : TE) : TS := fun D σ H => te σ H fun _ H1 => D.nx σ H1
theorem Y7 (he : PE X e te) (hs : swapsWith e none pos.line X.env = pure false := by rfl) : PS X (.Expr e pos) (Y0e te) := by
 intro pins s σ H D I h
 exact wpAny_Expr_any (thn (he pins s σ H _ I h) fun v s1 ⟨x, H1, I1, r1, q1⟩ => ⟨σ, H1, I1, q1⟩) I.quiet hs
def Y5d (te : TE) : TS := fun D σ H => te σ H D.rt
theorem B9 (he : PE X e te) : PS X (.Return (some e) pos) (Y5d te) := by
 intro pins s σ H D I h
 exact wpAny_Return_some (thn (he pins s σ H _ I h) fun v s1 ⟨x, H1, I1, r1, q1⟩ => ⟨x, σ, H1, I1, r1, q1⟩)
def Y5f (c : TT) (t u : TS) : TS := fun D σ H => c σ H fun b H1 => if b = true then t D σ H1 else u D σ H1
theorem G2 {c : Expr} {a b : List Stmt} {tc : TT} (hc : PT X c tc) (ha : PSs X a t) (hb : PSs X b u) : PS X (.If c a b pos) (Y5f tc t u) := by
 intro pins s σ H D I h
 refine wpAny_If (thn (hc pins s σ H _ I h) fun d s1 ⟨H1, I1, q1⟩ => ?_)
 cases d with
 | true => exact ha pins s1 σ H1 D I1 q1
 | false => exact hb pins s1 σ H1 D I1 q1
end
abbrev TG := V -> St -> Hp -> (St -> Hp -> Prop) -> Prop
abbrev TGs := List V -> St -> Hp -> (St -> Hp -> Prop) -> Prop
def PG (X : Cx) (target : Expr) (t : TG) : Prop :=
 ∀ (pins : List (Addr × Obj)) (s : Shared) (σ : St) (H : Hp) (v : V) (u : Value) (Q : St -> Hp -> Prop), Inv X pins σ H s -> RelV v u -> t v σ H Q ->
   wpAny (model X.prog X.w) X.A (assign target X.env u) (fun _ s' => ∃ σ' H', Inv X pins σ' H' s' /\ Q σ' H') X.xe s
def PGs (X : Cx) (ts : List Expr) (t : TGs) : Prop :=
 ∀ (pins : List (Addr × Obj)) (s : Shared) (σ : St) (H : Hp) (vs : List V) (us : List Value) (Q : St -> Hp -> Prop), Inv X pins σ H s -> Vals vs us -> t vs σ H Q ->
   wpAny (model X.prog X.w) X.A (assignInOrder ((assignEach ts X.env).map (·.2)) us) (fun _ s' => ∃ σ' H', Inv X pins σ' H' s' /\ Q σ' H') X.xe s
abbrev TIp := V -> V -> Hp -> VK -> Prop
def PIp (X : Cx) (op : Operator) (t : TIp) : Prop :=
 ∀ (pins : List (Addr × Obj)) (s : Shared) (σ : St) (H : Hp) (x y : V) (v u : Value) (Q : VK), Inv X pins σ H s -> RelV x v -> RelV y u -> t x y H Q ->
   wpAny (model X.prog X.w) X.A (inplaceOp op v u) (EP X pins σ Q) X.xe s
section
variable {X : Cx} {pos : Pos}
def C2j (i : Nat) : TG := fun v σ H Q => Q (σ.set i (some v)) H
theorem V3 {i : Nat} {x : Str} (hN : X.N.Nodup) (hi : X.N[i]? = some x) (hx : Loc X.env.scope x) (hf : X.fn x = true \/ X.env.scope.names.lookup x = some .local := by first | exact .inl rfl | exact .inr rfl | assumption) : PG X (.Name x pos) (C2j i) := by
 intro pins s σ H v u Q I r h
 exact wpAny_assign_Name (A5t I hN hi hx r (fun s' I' => ⟨_, H, I', h⟩) hf)
def Y5s : TGs := fun vs σ H Q => vs = [] /\ Q σ H
def Y1e (t : TG) (u : TGs) : TGs := fun vs σ H Q => ∃ v r, vs = v :: r /\ t v σ H fun σ' H' => u r σ' H' Q
theorem C3f : PGs X [] Y5s := by
 intro pins s σ H vs us Q I r h
 obtain ⟨e, h⟩ := h
 subst e
 cases r
 exact assignInOrder_nil ⟨σ, H, I, h⟩
theorem A2x {e : Expr} {es : List Expr} {t : TG} {u : TGs} (h1 : PG X e t) (h2 : PGs X es u)
   (hs : (assignEach (e :: es) X.env).map (·.2) = assign e X.env :: (assignEach es X.env).map (·.2) := by rfl) : PGs X (e :: es) (Y1e t u) := by
 intro pins s σ H vs us Q I r h
 obtain ⟨v, vr, e1, h⟩ := h
 subst e1
 cases r with
 | cons r rr =>
   rw [hs]
   refine assignInOrder_cons (thn (h1 pins s σ H _ _ _ I r h) fun _ s1 ⟨σ1, H1, I1, q1⟩ => ?_)
   exact h2 pins s1 σ1 H1 _ _ Q I1 rr q1
def Y5n (K : PySem.W.Frag) (n : Nat) (t : TGs) : TG := fun v σ H Q => ∃ a xs, v = .ref a /\ SqT K H a xs /\ xs.length = n /\ t xs σ H Q
theorem D4a {es : List Expr} {k : Nat} {t : TGs} {n : Nat} (hc : X.calm = true) (h : PGs X es t)
   (hn : (assignEach es X.env).length = n := by rfl) (hst : (assignEach es X.env).findIdx? (·.1) = none := by rfl) : PG X (.Tuple es k pos) (Y5n X.K n t) := by
 intro pins s σ H v u Q I r hw
 obtain ⟨a, xs, e1, hq, hl, hw⟩ := hw
 subst e1
 cases r
 obtain ⟨its, rv, ht, hz⟩ := I.tuple hq
 refine assign_Tuple_tuple (I.ok.hd hc) ht (by simp [hn, <- hl, rv.length]) hst fun h' hx => ?_
 have I1 : Inv X pins σ H { s with heap := h' } := I.kept (t' := s.toks) fun b o e => hx b o (Nat.ne_of_lt (Heap.lt_size e)) e
 exact h pins _ σ H xs _ Q I1 (by simpa using rv) hw
def V4z (te : TE) (g : TG) : TS := fun D σ H => te σ H fun x H1 => g x σ H1 D.nx
theorem D5a {tg e : Expr} {te : TE} {g : TG} (he : PE X e te) (hg : PG X tg g) (hs : swapsWithSole [tg] e pos.line X.env = pure false := by rfl) (hw : swappedStores [tg] e X.env = pure none := by rfl)
   (h1 : (assignEach [tg] X.env).map (·.2) = [assign tg X.env] := by rfl) : PS X (.Assign [tg] e pos) (V4z te g) := by
 intro pins s σ H D I h
 refine wpAny_Assign_stores (thn (he pins s σ H _ I h) fun v s1 ⟨x, H1, I1, r1, q1⟩ => ?_) hs hw
 rw [h1]
 exact thn (hg pins s1 σ H1 x v _ I1 r1 q1) fun _ s2 q => q
theorem C8 {i : Nat} {x : Str} {e : Expr} {te : TE} {pos' : Pos} (hN : X.N.Nodup) (hi : X.N[i]? = some x) (hx : Loc X.env.scope x) (he : PE X e te) (hs : swapsWith e (some (.Name x pos')) pos.line X.env = pure false := by rfl) (hf : X.fn x = true \/ X.env.scope.names.lookup x = some .local := by first | exact .inl rfl | exact .inr rfl | assumption) :
   PS X (.Assign [.Name x pos'] e pos) (V4z te (C2j i)) := by
 intro pins s σ H D I h
 refine wpAny_Assign_Name (thn (he pins s σ H _ I h) fun v s1 ⟨y, H1, I1, r1, q1⟩ => ?_) hs
 exact A5t I1 hN hi hx r1 (fun s2 I2 => ⟨_, H1, I2, q1⟩) hf
def Y4w (i : Nat) (te : TE) (ti : TIp) : TS := fun D σ H => ∃ x, σ[i]? = some (some x) /\ te σ H fun y H1 => ti x y H1 fun z H2 => D.nx (σ.set i (some z)) H2
theorem V4r {i : Nat} {x : Str} {e : Expr} {te : TE} {op : Operator} {ti : TIp} {pos' : Pos} (hN : X.N.Nodup) (hi : X.N[i]? = some x) (hx : Loc X.env.scope x) (he : PE X e te) (ho : PIp X op ti) (hf : X.fn x = true \/ X.env.scope.names.lookup x = some .local := by first | exact .inl rfl | exact .inr rfl | assumption) :
   PS X (.AugAssign (.Name x pos') op e pos) (Y4w i te ti) := by
 intro pins s σ H D I h
 obtain ⟨v, e1, h⟩ := h
 obtain ⟨m, hn, hl⟩ := I.loc
 have vis : Vis X.env.scope x := by rcases hx with k | k; exact .inl k; exact .inr (.inl k)
 obtain ⟨u, r, l⟩ := hl i x v hi e1 vis
 refine wpAny_AugAssign_Name ?_
 have go : wpAny (model X.prog X.w) X.A (eval e X.env) (fun w s₂ => wpAny (model X.prog X.w) X.A (inplaceOp op u w) (fun r s₃ => wpAny (model X.prog X.w) X.A (storeName X.env x r) (fun _ => SP X pins D .next) X.xe s₃) X.xe s₂) X.xe s := by
   refine thn (he pins s σ H _ I h) fun w s1 ⟨y, H1, I1, r1, q1⟩ => ?_
   refine thn (ho pins s1 σ H1 v y u w _ I1 r r1 q1) fun z s2 ⟨zv, H2, I2, r2, q2⟩ => ?_
   exact A5t I2 hN hi hx r2 (fun s3 I3 => ⟨_, H2, I3, q2⟩) hf
 rcases l with ⟨hk, hm⟩ | ⟨hk, c, hc, hcell⟩
 . exact wpAny_loadName_local I.ok.kind hk hn hm go
 . rcases hk with hk | hk
   . exact wpAny_loadName_cell I.ok.kind hk hc hcell go
   . rcases hx with k | k
     . have : X.env.scope.names.lookup x = some .free := hk
       rw [k] at this; cases this
     . have : X.env.scope.names.lookup x = some .free := hk
       rw [k] at this; cases this
def ipI (f : Int -> Int -> Int) : TIp := fun x y H Q => ∃ i j, x = .int i /\ y = .int j /\ Q (.int (f i j)) H
theorem V6p : PIp X .Add (ipI fun i j => i + j) := by
 intro pins s σ H x y v u Q I r1 r2 h
 obtain ⟨i, j, e1, e2, q⟩ := h
 subst e1; subst e2
 obtain ⟨t, rfl⟩ := r1
 obtain ⟨t', rfl⟩ := r2
 exact iadd_int ⟨.int _, H, I.tok _, ⟨_, rfl⟩, q⟩
end
section
variable {X : Cx} {pos : Pos}
def J5e (c : TT) (tb : TS) : TS := fun D σ H => ∃ W : Nat -> St -> Hp -> Prop, (∃ m, W m σ H) /\ ∀ m σ H, W m σ H ->
 c σ H fun b H1 => if b = true then ∃ N : St -> Hp -> Prop, (∀ σ' H', N σ' H' -> ∃ m', m' < m /\ W m' σ' H') /\ tb { D with nx := N, ct := N, bk := D.nx } σ H1 else D.nx σ H1
theorem C8n {c : Expr} {body : List Stmt} {tc : TT} {tb : TS} (hp : PassesOwn (model X.prog X.w) X.A X.env X.xe) (hc : PT X c tc) (hb : PSs X body tb) : PS X (.While c body [] pos) (J5e tc tb) := by
 intro pins s σ H D I h
 obtain ⟨W, ⟨m0, w0⟩, turn⟩ := h
 refine wpAny_While (codeAny_whileLoop (fun n s' => ∃ σ' H', Inv X pins σ' H' s' /\ W n σ' H') ?_ m0 ⟨σ, H, I, w0⟩)
 rintro n s1 ⟨σ1, H1, I1, w1⟩
 refine wpAny_passesOwn hp (thn (hc pins s1 σ1 H1 _ I1 (turn n σ1 H1 w1)) fun b s2 ⟨H2, I2, q2⟩ => ?_)
 cases b with
 | true =>
   obtain ⟨N, hN, q2⟩ := q2
   rw [if_pos rfl]
   refine wpAny_passesOwn hp (thn (hb pins s2 σ1 H2 _ I2 q2) fun f s3 q3 => ?_)
   cases f with
   | next =>
     obtain ⟨σ3, H3, I3, n3⟩ := q3
     obtain ⟨m', hm, w3⟩ := hN σ3 H3 n3
     exact ⟨m', hm, σ3, H3, I3, w3⟩
   | cont =>
     obtain ⟨σ3, H3, I3, n3⟩ := q3
     obtain ⟨m', hm, w3⟩ := hN σ3 H3 n3
     exact ⟨m', hm, σ3, H3, I3, w3⟩
   | brk => exact q3
   | ret v => exact q3
 | false =>
   rw [if_neg Bool.false_ne_true]
   exact wpAny_execs_nil ⟨σ1, H2, I2, q2⟩
end
structure It where
 go : Nat -> Hp -> Prop
 yld : Nat -> Hp -> V -> Hp -> Prop
 stop : Nat -> Hp -> Prop
def A2w (X : Cx) (pins : List (Addr × Obj)) (H : Hp) (b : Addr) : Prop :=
 H b = none /\ b ≠ X.env.locals /\ b ∉ X.fs /\ (b ∈ X.ex \/ X.s₀.heap.objs.size <= b) /\ (∀ x c, X.env.cells.lookup x = some c -> c ≠ b) /\ ∀ p ∈ X.pn ++ pins, p.1 ≠ b
theorem Inv.fpOk {X : Cx} {pins : List (Addr × Obj)} {σ : St} {H H' : Hp} {s : Shared} {b : Addr} (I : Inv X pins σ H s) (hb : s.heap.objs.size <= b) (hn : H' b = none) : A2w X pins H' b := by
 refine ⟨hn, Nat.ne_of_gt (Nat.lt_of_lt_of_le I.lt hb), I.nofs hb, .inr (Nat.le_trans I.sz hb), fun x c e z => ?_, fun p hp z => ?_⟩
 . obtain ⟨v, q⟩ := I.cell x c e
   exact absurd (Nat.lt_of_lt_of_le q.lt (by rw [z]; exact hb)) (Nat.lt_irrefl _)
 . exact absurd (Nat.lt_of_lt_of_le (Heap.lt_size (I.pin p hp).1) (by rw [z]; exact hb)) (Nat.lt_irrefl _)
structure Turn (P : Program) (w : World) (K : PySem.W.Frag) (tg : Expr) (J : It) (fp : List Addr) (it : Addr) (tn : Nat -> Heap -> Prop) : Prop where
 mem : it ∈ fp
 obj : ∀ i h, tn i h -> ∀ b ∈ fp, ∃ o, h.get? b = some o /\ ∀ v, o.data ≠ .cell v
 keep : ∀ i h h', tn i h -> (∀ b ∈ fp, ∀ o, h.get? b = some o -> h'.get? b = some o) -> tn i h'
 item : ∀ (X : Cx), X.prog = P -> X.w = w -> X.K = K -> X.calm = true -> ∀ (i : Nat) (pins : List (Addr × Obj)) (s : Shared) (σ : St) (H : Hp) (E : Value -> Shared -> Prop), Inv X pins σ H s -> (∀ b ∈ fp, A2w X pins H b) -> tn i s.heap -> J.go i H ->
   wpAny (model P w) X.A (pyNext (.ref it)) (fun r s1 => ∃ u, r = some u /\
     wpAny (model P w) X.A (letOwnedTupleGo tg (.ref it) u) (fun _ s2 => ∃ x H', Inv X pins σ H' s2 /\ RelV x u /\ J.yld i H x H' /\ tn (i + 1) s2.heap /\ ∀ b ∈ fp, H' b = none) E s1) E s
 done : ∀ (X : Cx), X.prog = P -> X.w = w -> X.K = K -> X.calm = true -> ∀ (i : Nat) (pins : List (Addr × Obj)) (s : Shared) (σ : St) (H : Hp) (E : Value -> Shared -> Prop), Inv X pins σ H s -> (∀ b ∈ fp, A2w X pins H b) -> tn i s.heap -> J.stop i H ->
   wpAny (model P w) X.A (pyNext (.ref it)) (fun r s1 => r = none /\ Inv X pins σ H s1) E s
 self : ∀ (A : Around) (i : Nat) (s : Shared) (Q : Value -> Shared -> Prop) (E : Value -> Shared -> Prop), tn i s.heap -> Q (.ref it) s -> wpAny (model P w) A (pyIter (.ref it)) Q E s
abbrev TI := St -> Hp -> (It -> Hp -> Prop) -> Prop
def PIE (X : Cx) (pins : List (Addr × Obj)) (σ : St) (tg : Expr) (R : It -> Hp -> Prop) (itv : Value) (s2 : Shared) : Prop :=
 ∃ (it : Addr) (fp : List Addr) (tn : Nat -> Heap -> Prop) (J : It) (H' : Hp), itv = .ref it /\ Inv X pins σ H' s2 /\ Turn X.prog X.w X.K tg J fp it tn /\ tn 0 s2.heap /\ (∀ b ∈ fp, A2w X pins H' b) /\ R J H'
def PI (X : Cx) (tg iter : Expr) (wi : TI) : Prop :=
 ∀ (pins : List (Addr × Obj)) (s : Shared) (σ : St) (H : Hp) (R : It -> Hp -> Prop), Inv X pins σ H s -> wi σ H R ->
   wpAny (model X.prog X.w) X.A (eval iter X.env) (fun v s1 => wpAny (model X.prog X.w) X.A (pyIter v) (PIE X pins σ tg R) X.xe s1) X.xe s
theorem G4f {M : Model} {A : Around} {E : Value -> Shared -> Prop} {s : Shared} {tg : Expr} {it : Addr} {u : Value} {o : Obj} {n : String} {vs : Array Value} {Q : Unit -> Shared -> Prop} (ho : s.heap.get? it = some o) (hc : o.cls = .type n) (hd : o.data = .fields vs)
   (hn : ["enumerate", "zip", "dict_itemiterator", "dict_reverseitemiterator", "odict_iterator", "itertools.zip_longest", "itertools.pairwise"].contains n = false) (hQ : Q () s) : wpAny M A (letOwnedTupleGo tg (.ref it) u) Q E s := by
 unfold letOwnedTupleGo
 cases tg <;> first
   | exact wpAny_pure hQ
   | (cases u <;> first
       | exact wpAny_pure hQ
       | (refine wpAny_bind (wpAny_load ho ?_)
          rw [hc, hd]
          show wpAny M A (if (["enumerate", "zip", "dict_itemiterator", "dict_reverseitemiterator", "odict_iterator", "itertools.zip_longest", "itertools.pairwise"].contains n && vs[0]? == some (rawInt _)) = true then _ else _) Q E s
          rw [if_neg (by intro h; rw [hn, Bool.false_and] at h; cases h)]
          exact wpAny_pure hQ))
def Itl (K : PySem.W.Frag) (a : Addr) : It :=
 ⟨fun i H => ∃ xs x, SqL K H a xs /\ xs[i]? = some x, fun i H x H' => H' = H /\ ∀ xs, SqL K H a xs -> xs[i]? = some x, fun i H => ∃ xs, SqL K H a xs /\ xs.length <= i⟩
def Itt (K : PySem.W.Frag) (a : Addr) : It :=
 ⟨fun i H => ∃ xs x, SqT K H a xs /\ xs[i]? = some x, fun i H x H' => H' = H /\ ∀ xs, SqT K H a xs -> xs[i]? = some x, fun i H => ∃ xs, SqT K H a xs /\ xs.length <= i⟩
def Itr (lo : Int) (n : Nat) : It := ⟨fun i _ => i < n, fun i H x H' => H' = H /\ x = .int (lo + i), fun i _ => n <= i⟩
theorem G7q {P : Program} {w : World} {K : PySem.W.Frag} {tg : Expr} (a it : Addr) : Turn P w K tg (Itl K a) [it] it (fun i h => h.IsListIter it a i) where
 mem := by simp
 obj := fun i h st b hb => by
   have e : b = it := by simpa using hb
   subst e
   obtain ⟨o, e, c, d⟩ := st
   exact ⟨o, e, fun v z => by rw [d] at z; cases z⟩
 keep := fun i h h' st k => st.at fun o e => k it (by simp) o e
 item := by
   intro X hP hw hK hc i pins s σ H E I hf st hg
   subst hP hw hK
   obtain ⟨xs, x, hq, hx⟩ := hg
   obtain ⟨its, rv, p, hz⟩ := I.list hq
   obtain ⟨u, hu, ru⟩ := rv.get hx
   obtain ⟨f0, f1, f2, f3, f4, f5⟩ := hf it (by simp)
   refine wpAny_pyNext_list_item st p.isList (x := u) (by simpa using hu) fun h' st' sb => ?_
   have I1 : Inv X pins σ H { s with heap := h' } := I.turned (t' := s.toks) (fun b o hb e => (sb.2 b hb).trans e) f0 f1 f3 f4 f5
   obtain ⟨o, e, c, d⟩ := id st'
   exact ⟨u, rfl, G4f (s := { s with heap := h' }) e c d (by decide) ⟨x, H, I1, ru, ⟨rfl, fun ys hy => by rw [I.list_inj hy hq]; exact hx⟩, st', fun b hb => (hf b hb).1⟩⟩
 done := by
   intro X hP hw hK hc i pins s σ H E I hf st hg
   subst hP hw hK
   obtain ⟨xs, hq, hx⟩ := hg
   obtain ⟨its, rv, p, hz⟩ := I.list hq
   obtain ⟨f0, f1, f2, f3, f4, f5⟩ := hf it (by simp)
   have hl := rv.length
   exact wpAny_pyNext_list_end (I.ok.hd hc) st p.isList (by simp; omega) fun h' eb => ⟨rfl, I.turned (t' := s.toks) (fun b o hb e => eb b o hb e) f0 f1 f3 f4 f5⟩
 self := fun _ _ _ _ _ st h => wpAny_pyIter_listiter st h
theorem D3t {P : Program} {w : World} {K : PySem.W.Frag} {tg : Expr} (it : Addr) (lo : Int) (n : Nat) : Turn P w K tg (Itr lo n) [it] it (fun i h => IsRangeIter h it (lo + (i : Nat) * 1) ((n : Int) - (i : Nat)) 1) where
 mem := by simp
 obj := fun i h st b hb => by
   have e : b = it := by simpa using hb
   subst e
   exact ⟨_, st, fun v z => by
     have z' : Data.fields _ = Data.cell v := z
     cases z'⟩
 keep := fun i h h' st k => k it (by simp) _ st
 item := by
   intro X hP hw hK hc i pins s σ H E I hf st hg
   subst hP hw hK
   obtain ⟨f0, f1, f2, f3, f4, f5⟩ := hf it (by simp)
   have W := Walks.range (prog := X.prog) (w := X.w) (I.ok.hd hc) it lo 1 n
   refine W.item i s _ _ hg st fun v h' tk hv st' kk => ?_
   obtain ⟨t, rfl⟩ := hv
   have I1 : Inv X pins σ H { s with heap := h', toks := tk } := I.turned (fun b o hb e => kk b o (by simpa using hb) e) f0 f1 f3 f4 f5
   refine ⟨_, rfl, G4f (s := { s with heap := h', toks := tk }) (n := "range_iterator") st' rfl rfl (by decide) ⟨.int (lo + i), H, I1, ⟨t, ?_⟩, ⟨rfl, rfl⟩, st', fun b hb => (hf b hb).1⟩⟩
   rw [Int.mul_one]
 done := by
   intro X hP hw hK hc i pins s σ H E I hf st hg
   subst hP hw hK
   obtain ⟨f0, f1, f2, f3, f4, f5⟩ := hf it (by simp)
   exact wpAny_pyNext_range_end (I.ok.hd hc) st (by have : n <= i := hg; omega) fun h' eb => ⟨rfl, I.turned (t' := s.toks) (fun b o hb e => eb b o hb e) f0 f1 f3 f4 f5⟩
 self := fun _ _ _ _ _ st h => wpAny_pyIter_rangeiter st h
section
variable {X : Cx} {tg : Expr}
def G4y (K : PySem.W.Frag) (tl : TE) : TI := fun σ H R => tl σ H fun x H1 => ∃ a, x = .ref a /\ (∃ xs, SqL K H1 a xs) /\ R (Itl K a) H1
def Y2g (K : PySem.W.Frag) (tl : TE) : TI := fun σ H R => tl σ H fun x H1 => ∃ a, x = .ref a /\ (∃ xs, SqT K H1 a xs) /\ R (Itt K a) H1
theorem G4g {l : Expr} {tl : TE} (hl : PE X l tl) : PI X tg l (G4y X.K tl) := by
 intro pins s σ H R I h
 refine thn (hl pins s σ H _ I h) fun v s1 ⟨x, H1, I1, r1, q1⟩ => ?_
 obtain ⟨a, e, ⟨xs, hq⟩, q⟩ := q1
 subst e
 cases r1
 obtain ⟨its, rv, p, hz⟩ := I1.list hq
 refine wpAny_pyIter_list p.isList ?_
 refine ⟨s1.heap.objs.size, [s1.heap.objs.size], _, _, H1, rfl, I1.kept (t' := s1.toks) fun b o e => Heap.get?_push_of_some _ e, G7q a _, ⟨_, Heap.get?_push_size _ rfl, rfl, rfl⟩, fun b hb => ?_, q⟩
 have e : b = s1.heap.objs.size := by simpa using hb
 subst e
 exact I1.fpOk (Nat.le_refl _) (I1.hok.fresh (Nat.le_refl _))
theorem J2m {pins : List (Addr × Obj)} {σ : St} {H : Hp} {s : Shared} {R : It -> Hp -> Prop} {E : Value -> Shared -> Prop} {lo hi : Int} {t u v : Tok} {tk : Nat} (I : Inv X pins σ H s) (h1 : -(2 ^ 62) <= lo) (h2 : lo < 2 ^ 62) (h3 : -(2 ^ 62) <= hi) (h4 : hi < 2 ^ 62)
   (q : R (Itr lo (hi - lo).toNat) H) : wpAny (model X.prog X.w) X.A (pyIter (.ref s.heap.objs.size)) (PIE X pins σ tg R) E { s with heap := s.heap.push { cls := .type "range", data := .fields #[.int lo t, .int hi u, .int 1 v] }, toks := tk } := by
 refine wpAny_pyIter_range (IsRange.new ..) (small_one h1 h2 h3 h4) ?_
 have I1 : Inv X pins σ H { s with heap := s.heap.push { cls := .type "range", data := .fields #[.int lo t, .int hi u, .int 1 v] }, toks := tk } := I.kept fun b o e => Heap.get?_push_of_some _ e
 refine ⟨(s.heap.push { cls := .type "range", data := .fields #[.int lo t, .int hi u, .int 1 v] }).objs.size, [(s.heap.push { cls := .type "range", data := .fields #[.int lo t, .int hi u, .int 1 v] }).objs.size], _, _, H, rfl,
   I1.kept (t' := tk) fun b o e => Heap.get?_push_of_some _ e, D3t _ lo (hi - lo).toNat, ?_, fun b hb => ?_, q⟩
 . have e1 : lo + ((0 : Nat) : Int) * 1 = lo := by simp
   have e2 : (((hi - lo).toNat : Nat) : Int) - ((0 : Nat) : Int) = Builtin.Range.rangeSize lo hi 1 := by rw [rangeSize_one]; split <;> omega
   show IsRangeIter _ _ (lo + ((0 : Nat) : Int) * 1) ((((hi - lo).toNat : Nat) : Int) - ((0 : Nat) : Int)) 1
   rw [e1, e2]
   exact Heap.get?_push_size _ rfl
 . have e : b = (s.heap.push { cls := .type "range", data := .fields #[.int lo t, .int hi u, .int 1 v] }).objs.size := by simpa using hb
   subst e
   exact I1.fpOk (Nat.le_refl _) (I1.hok.fresh (Nat.le_refl _))
def Y1b (ta : TA) : TI := fun σ H R => ta σ H fun vs H1 => ∃ j : Int, vs = [.int j] /\ -(2 ^ 62) <= j /\ j < 2 ^ 62 /\ R (Itr 0 j.toNat) H1
theorem A7e {a : Expr} {ta : TA} {p pos : Pos} (hg : Gl X "range") (hm : X.mg "range" = none) (ha : PA X [a] ta) (hs : starEach [a] X.env = [(false, eval a X.env)] := by rfl) : PI X tg (.Call (.Name "range" p) [a] [] pos) (Y1b ta) := by
 intro pins s σ H R I h
 refine Call_ (C4r I hg hm boot_range (PyProof.Rows.callWith_type1 (thn (ha pos pins s σ H _ I h) fun us s1 ⟨vs, H1, I1, r1, q1⟩ => ?_) hs rfl))
 obtain ⟨j, e, q1, q2, q⟩ := q1
 subst e
 cases r1 with
 | cons r rr =>
   cases rr
   obtain ⟨t, rfl⟩ := r
   exact call_range_1 (J2m I1 (by omega) (by omega) q1 q2 (by simpa using q))
def Y4x (wi : TI) (g : TG) (tb : TS) : TS := fun D σ H => wi σ H fun J H1 => ∃ W : Nat -> Nat -> St -> Hp -> Prop, (∃ m, W 0 m σ H1) /\ ∀ i m σ H, W i m σ H ->
 (J.stop i H /\ D.nx σ H) \/ (J.go i H /\ ∃ N : St -> Hp -> Prop, (∀ σ' H', N σ' H' -> ∃ m', m' < m /\ W (i + 1) m' σ' H') /\ ∀ x H', J.yld i H x H' -> g x σ H' fun σ2 H2 => tb { D with nx := N, ct := N, bk := D.nx } σ2 H2)
def A2j (fp : List Addr) (h : Heap) : List (Addr × Obj) := fp.filterMap fun b => (h.get? b).map fun o => (b, o)
theorem A3q {fp : List Addr} {h : Heap} {b : Addr} {o : Obj} (hb : b ∈ fp) (e : h.get? b = some o) : (b, o) ∈ A2j fp h := List.mem_filterMap.mpr ⟨b, hb, by rw [e]; rfl⟩
theorem G6m {fp : List Addr} {h : Heap} {p : Addr × Obj} (hp : p ∈ A2j fp h) : p.1 ∈ fp /\ h.get? p.1 = some p.2 := by
 obtain ⟨b, hb, e⟩ := List.mem_filterMap.mp hp
 cases q : h.get? b with
 | none => rw [q] at e; cases e
 | some o =>
   rw [q] at e
   have e' : (b, o) = p := Option.some.inj e
   subst e'
   exact ⟨hb, q⟩
theorem Inv.pinned {pins : List (Addr × Obj)} {σ : St} {H : Hp} {s : Shared} {fp : List Addr} (I : Inv X pins σ H s) (hf : ∀ b ∈ fp, A2w X pins H b) (ho : ∀ b ∈ fp, ∃ o, s.heap.get? b = some o /\ ∀ v, o.data ≠ .cell v) : Inv X (pins ++ A2j fp s.heap) σ H s :=
 I.pins_of fun p hp => (List.mem_append.mp hp).elim (fun z => I.pin p (List.mem_append_right _ z)) fun z => by
   obtain ⟨hb, e⟩ := G6m z
   obtain ⟨f0, f1, f2, _⟩ := hf p.1 hb
   obtain ⟨o, e', d⟩ := ho p.1 hb
   rw [e] at e'; cases e'
   exact ⟨e, f0, f1, f2, d⟩
theorem Inv.unpinned {pins pl : List (Addr × Obj)} {σ : St} {H : Hp} {s : Shared} (I : Inv X (pins ++ pl) σ H s) : Inv X pins σ H s := I.pins_of fun p hp => I.pin p (List.mem_append_right _ (List.mem_append_left _ hp))
theorem C3g {iter : Expr} {body : List Stmt} {wi : TI} {g : TG} {tb : TS} {pos : Pos} (hp : PassesOwn (model X.prog X.w) X.A X.env X.xe) (hc : X.calm = true) (hi : PI X tg iter wi) (hg : PG X tg g) (hb : PSs X body tb)
   (hs : ∀ x, foldedSetIterable iter X.env x = pure x := by intro _; rfl) : PS X (.For tg iter body [] pos) (Y4x wi g tb) := by
 intro pins s σ H D I h
 refine wpAny_For (thn (hi pins s σ H _ I h) fun v s1 h1 => thn h1 fun itv s2 h2 => ?_) hs
 obtain ⟨it, fp, tn, J, H2, e, I2, T, st2, f2, W, ⟨m0, w0⟩, turn⟩ := h2
 subst e
 have stat : ∀ {H' : Hp}, (∀ b ∈ fp, H' b = none) -> ∀ b ∈ fp, A2w X pins H' b := fun hn b hb => ⟨hn b hb, (f2 b hb).2⟩
 refine codeAny_forLoop_any (fun n s' => ∃ i σ' H', Inv X pins σ' H' s' /\ tn i s'.heap /\ (∀ b ∈ fp, H' b = none) /\ W i n σ' H') ?_ m0 ⟨0, σ, H2, I2, st2, fun b hb => (f2 b hb).1, w0⟩
 rintro n s3 ⟨i, σ3, H3, I3, st3, fr3, w3⟩
 rcases turn i n σ3 H3 w3 with ⟨stop, qn⟩ | ⟨go, N, hN, step⟩
 . refine wpAny_passesOwn hp (thn (T.done X rfl rfl rfl hc i pins s3 σ3 H3 X.xe I3 (stat fr3) st3 stop) fun r s4 ⟨hr, I4⟩ => ?_)
   subst hr
   exact wpAny_execs_nil ⟨σ3, H3, I4, qn⟩
 . refine wpAny_passesOwn hp (thn (T.item X rfl rfl rfl hc i pins s3 σ3 H3 X.xe I3 (stat fr3) st3 go) fun r s4 ⟨u, hr, h4⟩ => ?_)
   subst hr
   refine wpAny_passesOwn hp (thn h4 fun _ s5 ⟨x, H5, I5, r5, y5, st5, fr5⟩ => ?_)
   have I5' := I5.pinned (stat fr5) (T.obj _ _ st5)
   refine wpAny_passesOwn hp (thn (hg _ s5 σ3 H5 x u _ I5' r5 (step x H5 y5)) fun _ s6 ⟨σ6, H6, I6, q6⟩ => ?_)
   refine wpAny_passesOwn hp (thn (hb _ s6 σ6 H6 _ I6 q6) fun f s7 q7 => ?_)
   have again : ∀ {σ7 : St} {H7 : Hp}, Inv X (pins ++ A2j fp s5.heap) σ7 H7 s7 -> N σ7 H7 -> ∃ m, m < n /\ ∃ i σ' H', Inv X pins σ' H' s7 /\ tn i s7.heap /\ (∀ b ∈ fp, H' b = none) /\ W i m σ' H' := fun {σ7 H7} I7 n7 => by
     obtain ⟨m', hm, w7⟩ := hN σ7 H7 n7
     refine ⟨m', hm, i + 1, σ7, H7, I7.unpinned, T.keep _ _ _ st5 fun b hb o e => (I7.pin (b, o) (List.mem_append_right _ (List.mem_append_right _ (A3q hb e)))).1, fun b hb => ?_, w7⟩
     obtain ⟨o, e, d⟩ := T.obj _ _ st5 b hb
     exact (I7.pin (b, o) (List.mem_append_right _ (List.mem_append_right _ (A3q hb e)))).2.1
   cases f with
   | next => obtain ⟨σ7, H7, I7, n7⟩ := q7; exact again I7 n7
   | cont => obtain ⟨σ7, H7, I7, n7⟩ := q7; exact again I7 n7
   | brk => obtain ⟨σ7, H7, I7, q7⟩ := q7; exact ⟨σ7, H7, I7.unpinned, q7⟩
   | ret v => obtain ⟨x7, σ7, H7, I7, r7, q7⟩ := q7; exact ⟨x7, σ7, H7, I7.unpinned, r7, q7⟩
end
theorem B6q {K : PySem.W.Frag} {a : Addr} {xs : List V} {g : TG} {tb : TS} {D : Ends} {σ : St} {H : Hp} (Pv : Nat -> St -> Hp -> Prop) (h0 : Pv 0 σ H) (hl : ∀ i σ H, i <= xs.length -> Pv i σ H -> SqL K H a xs)
   (hs : ∀ i x σ H, xs[i]? = some x -> Pv i σ H -> g x σ H fun σ2 H2 => tb { D with nx := Pv (i + 1), ct := Pv (i + 1), bk := D.nx } σ2 H2) (hd : ∀ σ H, Pv xs.length σ H -> D.nx σ H) :
   ∃ W : Nat -> Nat -> St -> Hp -> Prop, (∃ m, W 0 m σ H) /\ ∀ i m σ H, W i m σ H ->
     ((Itl K a).stop i H /\ D.nx σ H) \/ ((Itl K a).go i H /\ ∃ N : St -> Hp -> Prop, (∀ σ' H', N σ' H' -> ∃ m', m' < m /\ W (i + 1) m' σ' H') /\ ∀ x H', (Itl K a).yld i H x H' -> g x σ H' fun σ2 H2 => tb { D with nx := N, ct := N, bk := D.nx } σ2 H2) := by
 refine ⟨fun i m σ H => m = xs.length - i /\ i <= xs.length /\ Pv i σ H, ⟨xs.length, by simp, Nat.zero_le _, h0⟩, ?_⟩
 rintro i m σ H ⟨rfl, hi, p⟩
 have q := hl i σ H hi p
 by_cases hlt : i < xs.length
 . refine .inr ⟨⟨xs, xs[i], q, by simp [hlt]⟩, Pv (i + 1), fun σ' H' p' => ⟨xs.length - (i + 1), by omega, rfl, hlt, p'⟩, fun x H' y => ?_⟩
   obtain ⟨e, y⟩ := y
   subst e
   exact hs i x σ _ (y xs q) p
 . have e : i = xs.length := by omega
   subst e
   exact .inl ⟨⟨xs, q, Nat.le_refl _⟩, hd σ H p⟩
theorem B0m {lo : Int} {n : Nat} {g : TG} {tb : TS} {D : Ends} {σ : St} {H : Hp} (Pv : Nat -> St -> Hp -> Prop) (h0 : Pv 0 σ H)
   (hs : ∀ i σ H, i < n -> Pv i σ H -> g (.int (lo + i)) σ H fun σ2 H2 => tb { D with nx := Pv (i + 1), ct := Pv (i + 1), bk := D.nx } σ2 H2) (hd : ∀ σ H, Pv n σ H -> D.nx σ H) :
   ∃ W : Nat -> Nat -> St -> Hp -> Prop, (∃ m, W 0 m σ H) /\ ∀ i m σ H, W i m σ H ->
     ((Itr lo n).stop i H /\ D.nx σ H) \/ ((Itr lo n).go i H /\ ∃ N : St -> Hp -> Prop, (∀ σ' H', N σ' H' -> ∃ m', m' < m /\ W (i + 1) m' σ' H') /\ ∀ x H', (Itr lo n).yld i H x H' -> g x σ H' fun σ2 H2 => tb { D with nx := N, ct := N, bk := D.nx } σ2 H2) := by
 refine ⟨fun i m σ H => m = n - i /\ i <= n /\ Pv i σ H, ⟨n, by simp, Nat.zero_le _, h0⟩, ?_⟩
 rintro i m σ H ⟨rfl, hi, p⟩
 by_cases hlt : i < n
 . refine .inr ⟨hlt, Pv (i + 1), fun σ' H' p' => ⟨n - (i + 1), by omega, rfl, hlt, p'⟩, fun x H' y => ?_⟩
   obtain ⟨e, y⟩ := y
   subst e y
   exact hs i σ _ hlt p
 . have e : i = n := by omega
   subst e
   exact .inl ⟨Nat.le_refl _, hd σ H p⟩
theorem C9t {c : TT} {tb : TS} {D : Ends} {σ : St} {H : Hp} (Pv : St -> Hp -> Prop) (μ : St -> Hp -> Nat) (h0 : Pv σ H)
   (hs : ∀ σ H, Pv σ H -> c σ H fun b H1 => if b = true then tb { D with nx := fun σ' H' => Pv σ' H' /\ μ σ' H' < μ σ H, ct := fun σ' H' => Pv σ' H' /\ μ σ' H' < μ σ H, bk := D.nx } σ H1 else D.nx σ H1)
   (mono : ∀ σ H Q Q', (∀ b H1, Q b H1 -> Q' b H1) -> c σ H Q -> c σ H Q') : J5e c tb D σ H := by
 refine ⟨fun m σ H => m = μ σ H /\ Pv σ H, ⟨_, rfl, h0⟩, ?_⟩
 rintro m σ H ⟨rfl, p⟩
 refine mono σ H _ _ (fun b H1 q => ?_) (hs σ H p)
 cases b with
 | true => exact ⟨_, fun σ' H' ⟨p', l⟩ => ⟨_, l, rfl, p'⟩, q⟩
 | false => exact q
abbrev R2 := V -> V -> Hp -> VK -> Prop
def OpR (X : Cx) (f : Value -> Value -> Sem Value) (r : R2) : Prop :=
 ∀ (pins : List (Addr × Obj)) (s : Shared) (σ : St) (H : Hp) (x y : V) (v u : Value) (Q : VK), Inv X pins σ H s -> RelV x v -> RelV y u -> r x y H Q ->
   wpAny (model X.prog X.w) X.A (f v u) (EP X pins σ Q) X.xe s
def UnR (X : Cx) (f : Value -> Sem Value) (r : V -> Hp -> VK -> Prop) : Prop :=
 ∀ (pins : List (Addr × Obj)) (s : Shared) (σ : St) (H : Hp) (x : V) (v : Value) (Q : VK), Inv X pins σ H s -> RelV x v -> r x H Q ->
   wpAny (model X.prog X.w) X.A (f v) (EP X pins σ Q) X.xe s
def A2u (X : Cx) (f : Value) (r : List V -> Hp -> VK -> Prop) : Prop :=
 ∀ (pins : List (Addr × Obj)) (s : Shared) (σ : St) (H : Hp) (xs : List V) (us : List Value) (Q : VK), Inv X pins σ H s -> Vals xs us -> r xs H Q ->
   wpAny (model X.prog X.w) X.A (call f us) (EP X pins σ Q) X.xe s
def tOp (r : R2) (ta tb : TE) : TE := fun σ H Q => ta σ H fun x H1 => tb σ H1 fun y H2 => r x y H2 Q
def tUn (r : V -> Hp -> VK -> Prop) (ta : TE) : TE := fun σ H Q => ta σ H fun x H1 => r x H1 Q
def rI (C : Int -> Int -> Prop) (g : Int -> Int -> V) : R2 := fun x y H Q => ∃ i j, x = .int i /\ y = .int j /\ C i j /\ Q (g i j) H
def rI0 (g : Int -> Int -> V) : R2 := fun x y H Q => ∃ i j, x = .int i /\ y = .int j /\ Q (g i j) H
def rU (g : Int -> V) : V -> Hp -> VK -> Prop := fun x H Q => ∃ i, x = .int i /\ Q (g i) H
section
variable {X : Cx} {a b c : Expr} {ta tb tc : TE} {pos : Pos}
theorem V6j (ha : PE X a ta) (hb : PE X b tb) {pins : List (Addr × Obj)} {s : Shared} {σ : St} {H : Hp} {R : V -> V -> Hp -> Prop} (I : Inv X pins σ H s)
   (h : ta σ H fun x H1 => tb σ H1 fun y H2 => R x y H2) {Q : Value -> Shared -> Prop} {f : Value -> Value -> Sem Value}
   (hf : ∀ v u s2 x y H2, Inv X pins σ H2 s2 -> RelV x v -> RelV y u -> R x y H2 -> wpAny (model X.prog X.w) X.A (f v u) Q X.xe s2) :
   wpAny (model X.prog X.w) X.A (eval a X.env) (fun v s₁ => wpAny (model X.prog X.w) X.A (eval b X.env) (fun u s₂ => wpAny (model X.prog X.w) X.A (f v u) Q X.xe s₂) X.xe s₁) X.xe s := by
 refine thn (ha pins s σ H _ I h) fun v s1 ⟨x, H1, I1, r1, q1⟩ => ?_
 refine thn (hb pins s1 σ H1 _ I1 q1) fun u s2 ⟨y, H2, I2, r2, q2⟩ => ?_
 exact hf v u s2 x y H2 I2 r1 r2 q2
theorem B1 {op : Operator} {r : R2} (ho : OpR X (binaryOp op) r) (ha : PE X a ta) (hb : PE X b tb) : PE X (.BinOp a op b pos) (tOp r ta tb) := by
 intro pins s σ H Q I h
 exact wpAny_BinOp (V6j ha hb I h fun v u s2 x y H2 I2 rx ry q => ho pins s2 σ H2 x y v u Q I2 rx ry q)
theorem C1u {op : UnaryOp} {r : V -> Hp -> VK -> Prop} (ho : UnR X (unaryOp op) r) (ha : PE X a ta) : PE X (.UnaryOp op a pos) (tUn r ta) := by
 intro pins s σ H Q I h
 exact UnaryOp_ (thn (ha pins s σ H _ I h) fun v s1 ⟨x, H1, I1, r1, q1⟩ => ho pins s1 σ H1 x v Q I1 r1 q1)
theorem opI {f : Value -> Value -> Sem Value} {C : Int -> Int -> Prop} {g : Int -> Int -> Int}
   (rule : ∀ (i j : Int) (t u : Tok) (s : Shared) (Q : Value -> Shared -> Prop) (E : Value -> Shared -> Prop), C i j -> Q (.int (g i j) s.toks) { s with toks := s.toks + 1 } -> wpAny (model X.prog X.w) X.A (f (.int i t) (.int j u)) Q E s) :
   OpR X f (rI C fun i j => .int (g i j)) := by
 intro pins s σ H x y v u Q I rx ry h
 obtain ⟨i, j, rfl, rfl, hc, q⟩ := h
 obtain ⟨t, rfl⟩ := rx
 obtain ⟨t', rfl⟩ := ry
 exact rule i j t t' s _ _ hc ⟨.int (g i j), H, I.tok _, ⟨_, rfl⟩, q⟩
theorem Y0x {f : Value -> Value -> Sem Value} {g : Int -> Int -> Int}
   (rule : ∀ (i j : Int) (t u : Tok) (s : Shared) (Q : Value -> Shared -> Prop) (E : Value -> Shared -> Prop), Q (.int (g i j) s.toks) { s with toks := s.toks + 1 } -> wpAny (model X.prog X.w) X.A (f (.int i t) (.int j u)) Q E s) :
   OpR X f (rI0 fun i j => .int (g i j)) := by
 intro pins s σ H x y v u Q I rx ry h
 obtain ⟨i, j, rfl, rfl, q⟩ := h
 obtain ⟨t, rfl⟩ := rx
 obtain ⟨t', rfl⟩ := ry
 exact rule i j t t' s _ _ ⟨.int (g i j), H, I.tok _, ⟨_, rfl⟩, q⟩
theorem V0n {f : Value -> Value -> Sem Value} {g : Int -> Int -> Bool}
   (rule : ∀ (i j : Int) (t u : Tok) (s : Shared) (Q : Value -> Shared -> Prop) (E : Value -> Shared -> Prop), Q (.bool (g i j)) s -> wpAny (model X.prog X.w) X.A (f (.int i t) (.int j u)) Q E s) :
   OpR X f (rI0 fun i j => .bl (g i j)) := by
 intro pins s σ H x y v u Q I rx ry h
 obtain ⟨i, j, rfl, rfl, q⟩ := h
 obtain ⟨t, rfl⟩ := rx
 obtain ⟨t', rfl⟩ := ry
 exact rule i j t t' s _ _ ⟨.bl (g i j), H, I, rfl, q⟩
def V0m (i j : Int) : Prop := 0 <= j /\ j <= 1000000 /\ i.natAbs < 2 ^ 64
def CMul (i j : Int) : Prop := (-(2 ^ 64) < i /\ i < 2 ^ 64) \/ (-(2 ^ 64) < j /\ j < 2 ^ 64)
theorem CMul.ok {i j : Int} (h : CMul i j) : IntMulOk i j := by
 rcases h with ⟨h1, h2⟩ | ⟨h1, h2⟩
 . exact .of_left (intBits_le_64 h1 h2)
 . exact .of_right (intBits_le_64 h1 h2)
theorem G8 : OpR X (binaryOp .Add) (rI0 fun i j => .int (i + j)) := Y0x fun _ _ _ _ _ _ _ q => add_int q
theorem D9 : OpR X (binaryOp .Sub) (rI0 fun i j => .int (i - j)) := Y0x fun _ _ _ _ _ _ _ q => sub_int q
theorem D7 : OpR X (binaryOp .Mod) (rI (fun _ j => 0 < j) fun i j => .int (i % j)) := opI fun i j _ _ _ _ _ hc q => by
 have h1 : (0 : Int) < j := hc
 exact mod_int' (by omega) (by rw [Int.fmod_eq_emod_of_nonneg i (by omega)]; exact q)
theorem J5f : OpR X (binaryOp .Pow) (rI V0m fun i j => .int (i ^ j.toNat)) := opI fun _ _ _ _ _ _ _ hc q => pow_int_small hc.1 hc.2.1 hc.2.2 q
theorem J2y : OpR X (binaryOp .LShift) (rI V0m fun i j => .int (i * 2 ^ j.toNat)) := opI fun _ _ _ _ _ _ _ hc q => lshift_int_small hc.1 hc.2.1 hc.2.2 q
theorem unI {f : Value -> Sem Value} {g : Int -> Int}
   (rule : ∀ (i : Int) (t : Tok) (s : Shared) (Q : Value -> Shared -> Prop) (E : Value -> Shared -> Prop), Q (.int (g i) s.toks) { s with toks := s.toks + 1 } -> wpAny (model X.prog X.w) X.A (f (.int i t)) Q E s) :
   UnR X f (rU fun i => .int (g i)) := by
 intro pins s σ H x v Q I rx h
 obtain ⟨i, rfl, q⟩ := h
 obtain ⟨t, rfl⟩ := rx
 exact rule i t s _ _ ⟨.int (g i), H, I.tok _, ⟨_, rfl⟩, q⟩
theorem B0t : UnR X (unaryOp .USub) (rU fun i => .int (-i)) := unI fun _ _ _ _ _ q => neg_int q
end
def Y0p : V -> V -> Bool
 | .non, .non => true | .non, .int _ => true | .int _, .non => true | .non, .bl _ => true | .bl _, .non => true | .non, .str _ => true | .str _, .non => true
 | .int _, .int _ => true | .bl _, .bl _ => true | .str _, .str _ => true | .byt _, .byt _ => true
 | .int _, .str _ => true | .str _, .int _ => true | .bl _, .str _ => true | .str _, .bl _ => true
 | _, _ => false
def rEq : R2 := fun x y H Q => Y0p x y = true /\ Q (.bl (decide (x = y))) H
def rNe : R2 := fun x y H Q => Y0p x y = true /\ Q (.bl (!decide (x = y))) H
theorem G4t {i j : Int} : decide (V.int i = V.int j) = (i == j) := by
 rw [Bool.eq_iff_iff]
 simp
theorem J2s {i j : Bool} : decide (V.bl i = V.bl j) = (i == j) := by
 rw [Bool.eq_iff_iff]
 simp
theorem G5b {i j : Str} : decide (V.str i = V.str j) = (i == j) := by
 rw [Bool.eq_iff_iff]
 simp
theorem G4j {i j : Array UInt8} : decide (V.byt i = V.byt j) = (i.toList == j.toList) := by
 rw [Bool.eq_iff_iff]
 cases i
 cases j
 simp
section
variable {X : Cx} {a b c : Expr} {ta tb tc : TE} {pos : Pos}
theorem G5 {pins : List (Addr × Obj)} {σ : St} {H : Hp} {s : Shared} {Q : VK} {k k' : Bool} (I : Inv X pins σ H s) (q : Q (.bl k) H) (e : k = k') : EP X pins σ Q (.bool k') s := by
 subst e
 exact ⟨.bl k, H, I, rfl, q⟩
theorem G4 : OpR X (compareOp .Eq) rEq := by
 intro pins s σ H x y v u Q I rx ry h
 obtain ⟨hs, q⟩ := h
 cases x with
 | non =>
   cases rx
   cases y with
   | non => cases ry; exact PySem.EqNone.eq_none_none (G5 I q (by simp))
   | bl j => cases ry; exact PySem.EqNone.eq_none_bool (G5 I q (by simp))
   | int j => obtain ⟨t', rfl⟩ := ry; exact PySem.EqNone.eq_none_int (G5 I q (by simp))
   | str j => obtain ⟨t', rfl⟩ := ry; exact PySem.EqNone.eq_none_str (G5 I q (by simp))
   | _ => exact absurd (show false = true from hs) Bool.false_ne_true
 | bl i =>
   cases rx
   cases y with
   | non => cases ry; exact PySem.EqNone.eq_bool_none (G5 I q (by simp))
   | bl j => cases ry; exact eq_bool (G5 I q J2s)
   | str j => obtain ⟨t', rfl⟩ := ry; exact PySem.EqMixed.eq_bool_str (G5 I q (by simp))
   | _ => exact absurd (show false = true from hs) Bool.false_ne_true
 | int i =>
   obtain ⟨t, rfl⟩ := rx
   cases y with
   | non => cases ry; exact PySem.EqNone.eq_int_none (G5 I q (by simp))
   | int j => obtain ⟨t', rfl⟩ := ry; exact eq_int (G5 I q G4t)
   | str j => obtain ⟨t', rfl⟩ := ry; exact PySem.EqMixed.eq_int_str (G5 I q (by simp))
   | _ => exact absurd (show false = true from hs) Bool.false_ne_true
 | str i =>
   obtain ⟨t, rfl⟩ := rx
   cases y with
   | non => cases ry; exact PySem.EqNone.eq_str_none (G5 I q (by simp))
   | bl j => cases ry; exact PySem.EqMixed.eq_str_bool (G5 I q (by simp))
   | int j => obtain ⟨t', rfl⟩ := ry; exact PySem.EqMixed.eq_str_int (G5 I q (by simp))
   | str j => obtain ⟨t', rfl⟩ := ry; exact eq_str (G5 I q G5b)
   | _ => exact absurd (show false = true from hs) Bool.false_ne_true
 | byt i =>
   obtain ⟨t, rfl⟩ := rx
   cases y with
   | byt j => obtain ⟨t', rfl⟩ := ry; exact PySem.W.eq_bytes (G5 I q G4j)
   | _ => exact absurd (show false = true from hs) Bool.false_ne_true
 | _ => cases y <;> exact absurd (show false = true from hs) Bool.false_ne_true
theorem V3x : OpR X (compareOp .NotEq) rNe := by
 intro pins s σ H x y v u Q I rx ry h
 obtain ⟨hs, q⟩ := h
 cases x with
 | non =>
   cases rx
   cases y with
   | non => cases ry; exact PySem.EqNone.ne_none_none (G5 I q (by simp))
   | bl j => cases ry; exact PySem.EqNone.ne_none_bool (G5 I q (by simp))
   | int j => obtain ⟨t', rfl⟩ := ry; exact PySem.EqNone.ne_none_int (G5 I q (by simp))
   | str j => obtain ⟨t', rfl⟩ := ry; exact PySem.EqNone.ne_none_str (G5 I q (by simp))
   | _ => exact absurd (show false = true from hs) Bool.false_ne_true
 | bl i =>
   cases rx
   cases y with
   | non => cases ry; exact PySem.EqNone.ne_bool_none (G5 I q (by simp))
   | bl j => cases ry; exact ne_bool (G5 I q (congrArg not J2s))
   | str j => obtain ⟨t', rfl⟩ := ry; exact PySem.EqMixed.ne_bool_str (G5 I q (by simp))
   | _ => exact absurd (show false = true from hs) Bool.false_ne_true
 | int i =>
   obtain ⟨t, rfl⟩ := rx
   cases y with
   | non => cases ry; exact PySem.EqNone.ne_int_none (G5 I q (by simp))
   | int j => obtain ⟨t', rfl⟩ := ry; exact ne_int (G5 I q (congrArg not G4t))
   | str j => obtain ⟨t', rfl⟩ := ry; exact PySem.EqMixed.ne_int_str (G5 I q (by simp))
   | _ => exact absurd (show false = true from hs) Bool.false_ne_true
 | str i =>
   obtain ⟨t, rfl⟩ := rx
   cases y with
   | non => cases ry; exact PySem.EqNone.ne_str_none (G5 I q (by simp))
   | bl j => cases ry; exact PySem.EqMixed.ne_str_bool (G5 I q (by simp))
   | int j => obtain ⟨t', rfl⟩ := ry; exact PySem.EqMixed.ne_str_int (G5 I q (by simp))
   | str j => obtain ⟨t', rfl⟩ := ry; exact ne_str (G5 I q (congrArg not G5b))
   | _ => exact absurd (show false = true from hs) Bool.false_ne_true
 | byt i =>
   obtain ⟨t, rfl⟩ := rx
   cases y with
   | byt j => obtain ⟨t', rfl⟩ := ry; exact PySem.W.ne_bytes (G5 I q (congrArg not G4j))
   | _ => exact absurd (show false = true from hs) Bool.false_ne_true
 | _ => cases y <;> exact absurd (show false = true from hs) Bool.false_ne_true
theorem V3y : OpR X (compareOp .Lt) (rI0 fun i j => .bl (decide (i < j))) := V0n fun _ _ _ _ _ _ _ q => lt_int q
theorem V4a : OpR X (compareOp .LtE) (rI0 fun i j => .bl (decide (i <= j))) := V0n fun _ _ _ _ _ _ _ q => le_int q
theorem B5u : OpR X (compareOp .Gt) (rI0 fun i j => .bl (decide (j < i))) := V0n fun _ _ _ _ _ _ _ q => gt_int q
theorem Y2d : OpR X (compareOp .GtE) (rI0 fun i j => .bl (decide (j <= i))) := V0n fun _ _ _ _ _ _ _ q => ge_int q
theorem V6g : OpR X (compareOp .Is) (fun x y H Q => y = .non /\ Q (.bl (decide (x = .non))) H) := by
 intro pins s σ H x y v u Q I rx ry h
 obtain ⟨rfl, q⟩ := h
 cases ry
 refine is_none_gen (G5 I q ?_)
 cases x <;> first
   | (cases rx; rfl)
   | (obtain ⟨t, rfl⟩ := rx; rfl)
theorem C7 (b : Expr) {op : CmpOp} (h : op ≠ .In := by decide) (h2 : op ≠ .NotIn := by decide) : behindInMarks op b = false := by
 have e1 : (op == CmpOp.In) = false := by cases op <;> first | rfl | exact absurd rfl h
 have e2 : (op == CmpOp.NotIn) = false := by cases op <;> first | rfl | exact absurd rfl h2
 cases b <;> simp [behindInMarks, e1, e2]
theorem A0n {op : CmpOp} {r : R2} (ho : OpR X (compareOp op) r) (ha : PE X a ta) (hb : PE X b tb) (hm : behindInMarks op b = false) : PE X (.Compare a [op] [b] pos) (tOp r ta tb) := by
 intro pins s σ H Q I h
 exact wpAny_Compare1 (V6j ha hb I h fun v u s2 x y H2 I2 rx ry q => ho pins s2 σ H2 x y v u Q I2 rx ry q) hm
def Y2k (t : TE) : TT := fun σ H Q => t σ H fun x H' => ∃ k, x = .bl k /\ Q k H'
theorem C0 {op : CmpOp} {r : R2} (ho : OpR X (compareOp op) r) (ha : PE X a ta) (hb : PE X b tb) (hm : behindInMarks op b = false) : PT X (.Compare a [op] [b] pos) (Y2k (tOp r ta tb)) := by
 intro pins s σ H Q I h
 refine wpAny_isTrue_Compare1 (thn (ha pins s σ H _ I h) fun v s1 ⟨x, H1, I1, r1, q1⟩ => thn (hb pins s1 σ H1 _ I1 q1) fun u s2 ⟨y, H2, I2, r2, q2⟩ =>
   thn (ho pins s2 σ H2 x y v u _ I2 r1 r2 q2) fun c s3 ⟨z, H3, I3, r3, k, e, q3⟩ => ?_) hm
 subst e
 cases r3
 exact wpAny_truthy_bool ⟨H3, I3, q3⟩
theorem C3e : (sizeLine : Nat) < 2 ^ 63 := by rw [sizeLine_eq]; decide
theorem D4x : OpR X (binaryOp .Add) (fun x y H Q => ∃ i j, x = .str i /\ y = .str j /\ i.length + j.length <= sizeLine /\ Q (.str (i ++ j)) H) := by
 intro pins s σ H x y v u Q I rx ry h
 obtain ⟨i, j, rfl, rfl, hz, q⟩ := h
 obtain ⟨t, rfl⟩ := rx
 obtain ⟨t', rfl⟩ := ry
 exact add_str (fun t' tk => ⟨.str (i ++ j), H, I.tok _, ⟨_, rfl⟩, q⟩) hz
theorem B6b {x : V} {us : List Value} (r : Vals [x] us) : ∃ u, us = [u] /\ RelV x u := by
 cases r with
 | cons r1 r2 => cases r2; exact ⟨_, rfl, r1⟩
theorem J4v {x y : V} {us : List Value} (r : Vals [x, y] us) : ∃ u w', us = [u, w'] /\ RelV x u /\ RelV y w' := by
 cases r with
 | cons r1 r2 =>
   cases r2 with
   | cons r3 r4 => cases r4; exact ⟨_, _, rfl, r1, r3⟩
theorem Y6 (hc : X.calm = true) : A2u X (.builtin "max") (fun xs H Q => ∃ i j, xs = [.int i, .int j] /\ Q (.int (if j > i then j else i)) H) := by
 intro pins s σ H xs us Q I r h
 obtain ⟨i, j, rfl, q⟩ := h
 obtain ⟨u, w', rfl, ⟨t, rfl⟩, ⟨t', rfl⟩⟩ := J4v r
 refine max_two_ints (I.ok.hd hc) fun h' tk k => ⟨_, H, I.kept k, ?_, q⟩
 by_cases hj : j > i
 . rw [if_pos hj, if_pos hj]; exact ⟨_, rfl⟩
 . rw [if_neg hj, if_neg hj]; exact ⟨_, rfl⟩
theorem G6q (hc : X.calm = true) : A2u X (.builtin "min") (fun xs H Q => ∃ i j, xs = [.int i, .int j] /\ Q (.int (if j < i then j else i)) H) := by
 intro pins s σ H xs us Q I r h
 obtain ⟨i, j, rfl, q⟩ := h
 obtain ⟨u, w', rfl, ⟨t, rfl⟩, ⟨t', rfl⟩⟩ := J4v r
 refine min_two_ints (I.ok.hd hc) fun h' tk k => ⟨_, H, I.kept k, ?_, q⟩
 by_cases hj : j < i
 . rw [if_pos hj, if_pos hj]; exact ⟨_, rfl⟩
 . rw [if_neg hj, if_neg hj]; exact ⟨_, rfl⟩
theorem C1q : A2u X (.type "int") (fun xs H Q => (∃ i, xs = [.int i] /\ Q (.int i) H) \/ ∃ k, xs = [.bl k] /\ Q (.int (if k then 1 else 0)) H) := by
 intro pins s σ H xs us Q I r h
 rcases h with ⟨i, rfl, q⟩ | ⟨k, rfl, q⟩
 . obtain ⟨u, rfl, t, rfl⟩ := B6b r
   exact call_int_int ⟨.int i, H, I, ⟨_, rfl⟩, q⟩
 . obtain ⟨u, rfl, r1⟩ := B6b r
   cases r1
   exact call_int_bool ⟨.int (if k then 1 else 0), H, I.tok _, ⟨_, rfl⟩, q⟩
theorem A1c : A2u X (.type "str") (fun xs H Q => ∃ i, xs = [.int i] /\ i.natAbs.log2 < 1920 /\ Q (.str (toString i)) H) := by
 intro pins s σ H xs us Q I r h
 obtain ⟨i, rfl, hz, q⟩ := h
 obtain ⟨u, rfl, t, rfl⟩ := B6b r
 exact PySem.P.str_of_int hz ⟨.str _, H, I.tok _, ⟨_, rfl⟩, q⟩
end
structure ObjM (h : Heap) (x dx C : Addr) (mA : Str -> Option Value) : Prop where
 obj : h.get? x = some (PySem.W.instObj C dx)
 ns : h.Ns1 dx mA
 ne : dx ≠ x
theorem B1a {h : Heap} {dx : Addr} {mA : Str -> Option Value} (n : h.Ns1 dx mA) : ∃ od, h.get? dx = some od /\ ∀ name, PySem.W.lookIn name od = some (mA name) := by
 obtain ⟨o, es, ep, ho, hd, hk, _, hm⟩ := n
 refine ⟨o, ho, fun name => ?_⟩
 have e := hm name
 unfold nsFind findBy at e
 rw [<- Array.find?_toList] at e
 unfold PySem.W.lookIn
 rw [hd]
 dsimp only
 split
 . rename_i y q
   rw [q] at e
   exact congrArg some e
 . rename_i q
   rw [q] at e
   have a : es.toList.any (·.refKey) = false := by
     rw [List.any_eq_false]
     intro y hy
     obtain ⟨z, t, hkey⟩ := hk y (Array.mem_toList_iff.mp hy)
     simp [DictEntry.refKey, hkey]
   have a' : ¬ es.toList.any (·.refKey) = true := by rw [a]; exact Bool.false_ne_true
   rw [if_neg a']
   exact congrArg some e
theorem ObjM.look {h : Heap} {x dx C : Addr} {mA : Str -> Option Value} (I : ObjM h x dx C mA) : ∃ od, PySem.W.InstAt h x (PySem.W.instObj C dx) C (some od) /\ ∀ name, PySem.W.lookIn name od = some (mA name) :=
 let ⟨od, ho, hl⟩ := B1a I.ns
 ⟨od, ⟨I.obj, rfl, rfl, ho⟩, hl⟩
section
variable {prog : Program} {w : World} {A : Around} {E : Value -> Shared -> Prop} {s : Shared} {K : PySem.W.Frag} {x dx C f : Addr} {mA : Str -> Option Value} {name : Str} {v : Value}
theorem V0r {expr : Bool} {Q : Value -> Shared -> Prop} (X : K.In s.heap) (I : ObjM s.heap x dx C mA) (hg : PySem.W.plainGet K C name = true) (hh : PySem.W.hasDictIn K C = true)
   (ha : PySem.W.findIn K (.ref C) name = some none) (hv : mA name = some v) (hv' : PySem.W.handedIn v = true) (h : Q v { s with toks := s.toks + 1 }) :
   wpAny (model prog w) A (getAttr (.ref x) name expr) Q E s := by
 obtain ⟨od, J, hl⟩ := I.look
 exact PySem.W.get_value X J (PySem.W.plainGet_of hg).1 (PySem.W.findObj_own hh ha rfl (by rw [hl, hv])) hv' h
theorem J5g {pl : Sem Bool} {Q : Value × List Value -> Shared -> Prop} (X : K.In s.heap) (I : ObjM s.heap x dx C mA) (hg : PySem.W.plainGet K C name = true)
   (hf : PySem.W.findIn K (.ref C) name = some (some (.ref f))) (ht : PySem.W.isFn K (.ref f) = true) (hv : mA name = none) (h : Q (.ref f, [.ref x]) s) :
   wpAny (model prog w) A (getMethod (.ref x) name pl) Q E s := by
 obtain ⟨od, J, hl⟩ := I.look
 exact PySem.W.method_fn X J (PySem.W.plainGet_of hg).1 (PySem.W.plainGet_of hg).2 hf (beq_iff_eq.mp ht) (by show (PySem.W.lookIn name od).map (·.isSome) = some false; rw [hl, hv]; rfl) h
theorem U9e {ns : List Str} {Q : Unit -> Shared -> Prop} (X : K.In s.heap) (I : ObjM s.heap x dx C mA)
   (hs : PySem.W.findIn K (.ref C) "__setattr__" = some (some (.builtin "object.__setattr__"))) (hp : PySem.W.plainOver K C = true) (ht : PySem.W.takerIn K C name = some none) (hh : PySem.W.hasDictIn K C = true)
   (hw : PySem.Within mA ns) (hsz : ns.length <= sizeLine)
   (h : ∀ h', ObjM h' x dx C (fun y => if y = name then some v else mA y) -> Heap.SameBut dx s.heap h' -> Q () { s with heap := h', toks := s.toks + 2 }) :
   wpAny (model prog w) A (setAttr (.ref x) name v) Q E s := by
 obtain ⟨od, J, hl⟩ := I.look
 refine PySem.W.set_plain X J hs (PySem.W.osa_open (s := { s with toks := s.toks + 1 }) (r := none) X J hp ht fun b => ?_)
 obtain ⟨cd, hc, hd'⟩ := PySem.W.any_some hh
 have hx : s.heap.get? x = some ⟨.ref C, some dx, .plain, #[]⟩ := I.obj
 refine wpAny_bind (wpAny_pure (wpAny_bind (wpAny_bind (wpAny_loadPart hx (wpAny_bind (PySem.W.Looks.here (s := { s with toks := s.toks + 1 }) (PySem.W.looks_clsIn X hc) ?_))))))
 rw [hd']
 refine wpAny_pure (a := some dx) (wpAny_bind (wpAny_pure (wpAny_bind ?_)))
 refine wpAny_nsSet1 (s := { s with toks := s.toks + 1 }) I.ns fun h' hn2 hs2 => ?_
 obtain ⟨oD, esD, epD, hoD, hdD, hcD⟩ := hn2.count (PySem.Within.cons name v hw)
 refine wpAny_bind (wpAny_lookBehind hoD (by rw [hdD]; exact pastItsLine_dict (Nat.le_trans hcD (by rw [List.length_cons]; omega))) ?_)
 exact wpAny_pure (h _ ⟨(hs2.2 _ (Ne.symm I.ne)).trans I.obj, hn2, I.ne⟩ hs2)
theorem C9p {R : Result -> Shared -> Prop} {vs : List Value} {kw : List (Str × Value)} (X : K.In s.heap) (hm : PySem.W.makesIn K C = true)
   (hi : PySem.W.findIn K (.ref C) "__init__" = some (some (.ref f))) (hf : PySem.W.typeIn K (.ref f) = some (.type "function"))
   (h : codeAny (model prog w) (A.under (.builtin "type.__call__" ⟨.ref C :: vs, kw⟩)) (.call (.ref f) ⟨.ref (s.heap.objs.size + 1) :: vs, kw⟩) (PySem.W.InitBack (s.heap.objs.size + 1) R)
     { s with heap := (s.heap.push PySem.W.emptyDict).push (PySem.W.instObj C s.heap.objs.size) }) :
   codeAny (model prog w) A (.call (.ref C) ⟨vs, kw⟩) R s := by
 obtain ⟨hh, g, d, t, os⟩ := s
 exact PySem.W.make_core (PySem.W.makes_of X hm) (PySem.W.looks_findIn X hi) (fun self => PySem.W.bind_fn X self hf) (.inl rfl) h
theorem G7d {R : Result -> Shared -> Prop} (X : K.In s.heap) (hm : PySem.W.makesIn K C = true)
   (hi : PySem.W.findIn K (.ref C) "__init__" = some (some (.builtin "object.__init__")))
   (hb : ∀ self, PySem.W.Looks (model prog w) s.heap (bindSpecial (.builtin "object.__init__") self) (.builtin "object.__init__", [self]))
   (h : codeAny (model prog w) (A.under (.builtin "type.__call__" ⟨[.ref C], []⟩)) (.call (.builtin "object.__init__") ⟨[.ref (s.heap.objs.size + 1)], []⟩) (PySem.W.InitBack (s.heap.objs.size + 1) R)
     { s with heap := (s.heap.push PySem.W.emptyDict).push (PySem.W.instObj C s.heap.objs.size) }) :
   codeAny (model prog w) A (.call (.ref C) ⟨[], []⟩) R s := by
 obtain ⟨hh, g, d, t, os⟩ := s
 exact PySem.W.make_core (PySem.W.makes_of X hm) (PySem.W.looks_findIn X hi) hb (.inr ⟨rfl, rfl⟩) h
end
def U6 (f : Str) (v : V) : List (Str × V) -> List (Str × V)
 | [] => [(f, v)]
 | (g, x) :: r => if g = f then (g, v) :: r else (g, x) :: U6 f v r
theorem D4 (f g : Str) (v : V) : ∀ fs : List (Str × V), (U6 f v fs).lookup g = if g = f then some v else fs.lookup g
 | [] => by
   show List.lookup g [(f, v)] = _
   by_cases h : g = f
   . have hb : (g == f) = true := beq_iff_eq.mpr h
     simp only [List.lookup, hb, if_pos h]
   . have hb : (g == f) = false := beq_eq_false_iff_ne.mpr h
     simp only [List.lookup, hb, if_neg h]
 | (k, x) :: r => by
   have ih := D4 f g v r
   rw [show U6 f v ((k, x) :: r) = (if k = f then (k, v) :: r else (k, x) :: U6 f v r) from rfl]
   by_cases hk : k = f
   . rw [if_pos hk]
     by_cases h : g = k
     . have hb : (g == k) = true := beq_iff_eq.mpr h
       simp only [List.lookup, hb, if_pos (h.trans hk)]
     . have hb : (g == k) = false := beq_eq_false_iff_ne.mpr h
       simp only [List.lookup, hb, if_neg (fun e : g = f => h (e.trans hk.symm))]
   . rw [if_neg hk]
     by_cases h : g = k
     . have hb : (g == k) = true := beq_iff_eq.mpr h
       simp only [List.lookup, hb, if_neg (fun e : g = f => hk (h.symm.trans e))]
     . have hb : (g == k) = false := beq_eq_false_iff_ne.mpr h
       simp only [List.lookup, hb]
       exact ih
theorem B0g (f : Str) (v : V) : ∀ fs : List (Str × V), f ∈ (U6 f v fs).map (·.1) /\ ∀ g, g ∈ fs.map (·.1) -> g ∈ (U6 f v fs).map (·.1)
 | [] => ⟨by simp [U6], fun g h => by simp at h⟩
 | (k, x) :: r => by
   obtain ⟨i1, i2⟩ := B0g f v r
   rw [show U6 f v ((k, x) :: r) = (if k = f then (k, v) :: r else (k, x) :: U6 f v r) from rfl]
   by_cases hk : k = f
   . rw [if_pos hk]
     subst hk
     exact ⟨by simp, fun g h => by simpa using h⟩
   . rw [if_neg hk]
     refine ⟨?_, fun g h => ?_⟩
     . rw [List.map_cons]
       exact List.mem_cons_of_mem _ i1
     . rw [List.map_cons] at h ⊢
       rcases List.mem_cons.mp h with e | e
       . exact List.mem_cons.mpr (.inl e)
       . exact List.mem_cons_of_mem _ (i2 g e)
theorem A0r (f : Str) (v : V) : ∀ fs : List (Str × V), (U6 f v fs).length <= fs.length + 1
 | [] => by simp [U6]
 | (k, x) :: r => by
   have ih := A0r f v r
   rw [show U6 f v ((k, x) :: r) = (if k = f then (k, v) :: r else (k, x) :: U6 f v r) from rfl]
   by_cases hk : k = f
   . rw [if_pos hk, List.length_cons, List.length_cons]; omega
   . rw [if_neg hk, List.length_cons, List.length_cons]; omega
theorem RelO.some_of {v : V} {o : Option Value} (r : RelO (some v) o) : ∃ u, o = some u /\ RelV v u := by
 cases o with
 | none => exact (show False from r).elim
 | some u => exact ⟨u, rfl, r⟩
theorem RelO.none_of {o : Option Value} (r : RelO none o) : o = none := by
 cases o with
 | none => rfl
 | some u => exact (show False from r).elim
theorem C1m {v : V} {u : Value} (r : RelV v u) : PySem.W.handedIn u = true := by
 cases v with
 | non => cases (show u = Value.none from r); rfl
 | bl b => cases (show u = Value.bool b from r); rfl
 | int i => obtain ⟨t, e⟩ := (show ∃ t, u = Value.int i t from r); cases e; rfl
 | str x => obtain ⟨t, e⟩ := (show ∃ t, u = Value.str x t from r); cases e; rfl
 | byt b => obtain ⟨t, e⟩ := (show ∃ t, u = Value.bytes b t from r); cases e; rfl
 | flt b => obtain ⟨t, e⟩ := (show ∃ t, u = Value.float b t from r); cases e; rfl
 | ref a => cases (show u = Value.ref a from r); rfl
 | ty n => cases (show u = Value.type n from r); rfl
section
variable {P : Program} {w : World} {H H' : Hp} {h h' : Heap} {a C dx : Addr} {fs fs' : List (Str × V)}
theorem B5m (hok : HOk P w H h) (e : H a = some (.ins C dx fs)) : ∃ mA, ObjM h a dx C mA /\ (∀ f, RelO (fs.lookup f) (mA f)) /\ PySem.Within mA (fs.map (·.1)) /\ fs.length <= 1000 /\ H dx = some (.own a) := by
 obtain ⟨d, z, ne, ob, mA, n, r, q⟩ := (show ObjOk P w H h a (.ins C dx fs) from hok a _ e)
 exact ⟨mA, ⟨ob, n, ne⟩, r, q, z, d⟩
end
structure Cls (K : PySem.W.Frag) (C : Addr) : Prop where
 pg : PySem.W.plainGet K C Str.empty = true
 hd : PySem.W.hasDictIn K C = true
 po : PySem.W.plainOver K C = true
 sa : PySem.W.findIn K (.ref C) "__setattr__" = some (some (.builtin "object.__setattr__"))
theorem Cls.get {K : PySem.W.Frag} {C : Addr} (c : Cls K C) (f : Str) : PySem.W.plainGet K C f = true := c.pg
def NoAttr (K : PySem.W.Frag) (C : Addr) (f : Str) : Prop := PySem.W.findIn K (.ref C) f = some none
theorem NoAttr.taker {K : PySem.W.Frag} {C : Addr} {f : Str} (n : NoAttr K C f) : PySem.W.takerIn K C f = some none := by
 unfold PySem.W.takerIn
 rw [show PySem.W.findIn K (.ref C) f = some none from n]
 rfl
structure Meth (K : PySem.W.Frag) (C : Addr) (m : Str) (f : Addr) : Prop where
 at_ : PySem.W.findIn K (.ref C) m = some (some (.ref f))
 fn : PySem.W.isFn K (.ref f) = true
 kp : PySem.W.keepIn K (.ref f) = true
section
variable {X : Cx} {pins : List (Addr × Obj)} {σ : St} {H : Hp} {s : Shared} {a C dx : Addr} {fs : List (Str × V)} {f : Str} {v : V} {A : Around} {E : Value -> Shared -> Prop}
theorem D4f {b : Bool} {Q : Value -> Shared -> Prop} (I : Inv X pins σ H s) (e : H a = some (.ins C dx fs)) (c : Cls X.K C) (n : NoAttr X.K C f) (l : fs.lookup f = some v)
   (h : ∀ u s', Inv X pins σ H s' -> RelV v u -> Q u s') : wpAny (model X.prog X.w) A (getAttr (.ref a) f b) Q E s := by
 obtain ⟨mA, O, r, _, _, _⟩ := B5m I.hok e
 obtain ⟨u, hu, ru⟩ := RelO.some_of (v := v) (o := mA f) (by rw [<- l]; exact r f)
 exact V0r I.kIn O (c.get f) c.hd n hu (C1m ru) (h u _ (I.tok _) ru)
theorem B7m {m : Str} {g : Addr} {pl : Sem Bool} {Q : Value × List Value -> Shared -> Prop} (I : Inv X pins σ H s) (e : H a = some (.ins C dx fs)) (c : Cls X.K C) (k : Meth X.K C m g) (l : fs.lookup m = none)
   (h : Q (.ref g, [.ref a]) s) : wpAny (model X.prog X.w) A (getMethod (.ref a) m pl) Q E s := by
 obtain ⟨mA, O, r, _, _, _⟩ := B5m I.hok e
 have hn : mA m = none := RelO.none_of (by rw [<- l]; exact r m)
 exact J5g I.kIn O (c.get m) k.at_ k.fn hn h
theorem D4e {y : V} {u : Value} {Q : Unit -> Shared -> Prop} (I : Inv X pins σ H s) (e : H a = some (.ins C dx fs)) (c : Cls X.K C) (n : NoAttr X.K C f) (hl : fs.length < 1000) (ry : RelV y u)
   (h : ∀ s', Inv X pins σ (upd H a (.ins C dx (U6 f y fs))) s' -> Q () s') : wpAny (model X.prog X.w) A (setAttr (.ref a) f u) Q E s := by
 obtain ⟨mA, O, r, wi, _, ho⟩ := B5m I.hok e
 have hz : (fs.map (·.1)).length <= sizeLine := by rw [List.length_map, sizeLine_eq]; omega
 refine U9e I.kIn O c.sa c.po n.taker c.hd wi hz fun h' O' sb => h _ ?_
 have hd : ∃ o, h'.get? dx = some o := let ⟨o, _, _, e', _⟩ := O'.ns; ⟨o, e'⟩
 refine I.write (x := a) (e := dx) (by rw [e]; exact True.intro) (.inr ho) (fun b q hb z => (sb.2 b hb).trans z) hd ?_
 refine ⟨by rw [B3 O.ne]; exact ho, ?_, O.ne, O'.obj, _, O'.ns, fun g => ?_, fun g hg => ?_⟩
 . have := A0r f y fs; omega
 . show RelO ((U6 f y fs).lookup g) (if g = f then some u else mA g)
   rw [D4]
   by_cases q : g = f
   . rw [if_pos q, if_pos q]; exact ry
   . rw [if_neg q, if_neg q]; exact r g
 . by_cases q : g = f
   . rw [q]; exact (B0g f y fs).1
   . refine (B0g f y fs).2 g (wi g fun z => hg ?_)
     show (if g = f then some u else mA g) = none
     rw [if_neg q]; exact z
theorem Inv.made (I : Inv X pins σ H s) : Inv X pins σ (upd (upd H s.heap.objs.size (.own (s.heap.objs.size + 1))) (s.heap.objs.size + 1) (.ins C s.heap.objs.size []))
   { s with heap := (s.heap.push PySem.W.emptyDict).push (PySem.W.instObj C s.heap.objs.size) } := by
 have e1 : (s.heap.push PySem.W.emptyDict).get? s.heap.objs.size = some PySem.W.emptyDict := Heap.get?_push_size s.heap rfl
 have e2 : ((s.heap.push PySem.W.emptyDict).push (PySem.W.instObj C s.heap.objs.size)).get? (s.heap.objs.size + 1) = some (PySem.W.instObj C s.heap.objs.size) := by
   have := Heap.get?_push_size (s.heap.push PySem.W.emptyDict) (o := PySem.W.instObj C s.heap.objs.size) rfl
   rwa [Heap.size_push] at this
 have e3 : (s.heap.push PySem.W.emptyDict).Ns s.heap.objs.size (fun _ => none) := ⟨PySem.W.emptyDict, #[], _, e1, rfl, (fun e he => absurd he (by simp)), fun _ => rfl⟩
 have I1 := I.laid (a := s.heap.objs.size) (o := .own (s.heap.objs.size + 1)) (h' := s.heap.push PySem.W.emptyDict) (t' := s.toks) (fun b u q => Heap.get?_push_of_some _ q) (Nat.le_refl _) ⟨_, e1⟩
 refine I1.laid (a := s.heap.objs.size + 1) (o := .ins C s.heap.objs.size []) (t' := s.toks) (fun b u q => Heap.get?_push_of_some _ q) (Nat.le_of_eq (Heap.size_push _ _)) ?_
 have ne : s.heap.objs.size ≠ s.heap.objs.size + 1 := Nat.ne_of_lt (Nat.lt_succ_self _)
 refine ⟨by rw [B3 ne, A9], Nat.zero_le _, ne, e2, fun _ => none, (Heap.Ns1.of_empty e3).at fun o q => Heap.get?_push_of_some _ q, fun _ => True.intro, fun y hy => absurd rfl hy⟩
theorem G5d {prog : Program} {w : World} {env : Env} {e : Expr} {f : Str} {pos : Pos} {s : Shared} {Q : Value -> Shared -> Prop} (hb : attributeBase e f env (eval e env) = eval e env)
   (h : wpAny (model prog w) A (eval e env) (fun o s₁ => wpAny (model prog w) A (getAttr o f true) Q E s₁) E s) : wpAny (model prog w) A (eval (.Attribute e f pos) env) Q E s :=
 Attribute_any_ h (by rw [arm_eval_Attribute, hb])
end
def Y4s (K : PySem.W.Frag) (ta : TE) (f : Str) : TE := fun σ H Q => ta σ H fun x H1 => ∃ a C dx fs v, x = .ref a /\ H1 a = some (.ins C dx fs) /\ Cls K C /\ NoAttr K C f /\ fs.lookup f = some v /\ Q v H1
def Y4k (K : PySem.W.Frag) (ta tv : TE) (f : Str) : TS := fun D σ H => tv σ H fun y H1 => ta σ H1 fun x H2 => ∃ a C dx fs, x = .ref a /\ H2 a = some (.ins C dx fs) /\ Cls K C /\ NoAttr K C f /\ fs.length < 1000 /\
 D.nx σ (upd H2 a (.ins C dx (U6 f y fs)))
section
variable {X : Cx} {o e value : Expr} {f : Str} {pos pos' tpos : Pos} {ta tv : TE}
theorem G0 (he : PE X e ta) (hb : attributeBase e f X.env (eval e X.env) = eval e X.env) : PE X (.Attribute e f pos) (Y4s X.K ta f) := by
 intro pins s σ H Q I h
 refine G5d hb (thn (he pins s σ H _ I h) fun u s1 ⟨x, H1, I1, rx, a, C, dx, fs, v, ex, ea, c, n, l, q⟩ => ?_)
 subst ex
 obtain rfl : u = Value.ref a := rx
 exact D4f I1 ea c n l fun u' s2 I2 ru => ⟨v, H1, I2, ru, q⟩
theorem Z0 (ha : PE X o ta) (hv : PE X value tv) (hs : swapsWith value (some (.Attribute o f pos')) pos.line X.env = pure false) : PS X (.Assign [.Attribute o f pos'] value pos) (Y4k X.K ta tv f) := by
 intro pins s σ H D I h
 refine plainObj_wpAny_Assign_Attribute (thn (hv pins s σ H _ I h) fun u s1 ⟨y, H1, I1, ry, q⟩ => thn (ha pins s1 σ H1 _ I1 q) fun ov s2 ⟨x, H2, I2, rx, a, C, dx, fs, ex, ea, c, n, l, q2⟩ => ?_) hs
 subst ex
 obtain rfl : ov = Value.ref a := rx
 exact D4e I2 ea c n l ry fun s3 I3 => ⟨σ, _, I3, q2⟩
end
section
variable {X : Cx} {pins : List (Addr × Obj)} {σ : St} {H : Hp} {s : Shared} {A : Around} {E : Value -> Shared -> Prop} {Q : Value -> Shared -> Prop} {c : Value} {b : Bool}
inductive TyOf (K : PySem.W.Frag) (H : Hp) : V -> Value -> Prop where
 | non : TyOf K H .non (.type "NoneType")
 | bl (x : Bool) : TyOf K H (.bl x) (.type "bool")
 | int (i : Int) : TyOf K H (.int i) (.type "int")
 | str (x : Str) : TyOf K H (.str x) (.type "str")
 | flt (x : UInt64) : TyOf K H (.flt x) (.type "float")
 | lst {a : Addr} {xs : List V} (e : H a = some (.lst xs)) : TyOf K H (.ref a) (.type "list")
 | frz {a : Addr} {o : Obj} {xs : List V} (e : H a = some (.frz o (.lst xs))) : TyOf K H (.ref a) (.type "list")
 | tup {a : Addr} {xs : List V} (e : H a = some (.tup xs)) : TyOf K H (.ref a) (.type "tuple")
 | dK {a : Addr} {kvs : List (Key × V)} (e : H a = some (.dK kvs)) : TyOf K H (.ref a) (.type "dict")
 | dT {a : Addr} {kvs : List (List Key × V)} (e : H a = some (.dT kvs)) : TyOf K H (.ref a) (.type "dict")
 | ins {a C dx : Addr} {fs : List (Str × V)} (e : H a = some (.ins C dx fs)) (cl : Cls K C) (ha : PySem.W.findIn K (.ref C) "__class__" = some (some (.builtin "object.__class__")))
     (hn : PySem.W.specialIn K (.builtin "object.__class__") "__get__" = some (some (.builtin "getset_descriptor.__get__"))) (htk : PySem.W.takesIn K (.builtin "object.__class__") = some true)
     (hm : PySem.W.mroIn K C (.type "object") = some true) : TyOf K H (.ref a) (.ref C)
theorem G6p {x : V} {u t : Value} (I : Inv X pins σ H s) (rx : RelV x u) (ty : TyOf X.K H x t) (e : PySem.W.kitOne X.K t c = some b) (h : ∀ tk, Q (.bool b) { s with toks := tk }) :
   wpAny (model X.prog X.w) A (call (.builtin "isinstance") [u, c]) Q E s := by
 cases ty with
 | non => cases (show u = Value.none from rx); exact PySem.W.kia_one PySem.W.kitx_none I.kIn True.intro e (fun z => nomatch z) h
 | bl y => cases (show u = Value.bool y from rx); exact PySem.W.kia_one PySem.W.kitx_bool I.kIn True.intro e (fun z => nomatch z) h
 | int i => obtain ⟨t, q⟩ := (show ∃ t, u = Value.int i t from rx); cases q; exact PySem.W.kia_one PySem.W.kitx_int I.kIn True.intro e (fun z => nomatch z) h
 | str y => obtain ⟨t, q⟩ := (show ∃ t, u = Value.str y t from rx); cases q; exact PySem.W.kia_one PySem.W.kitx_str I.kIn True.intro e (fun z => nomatch z) h
 | flt y => obtain ⟨t, q⟩ := (show ∃ t, u = Value.float y t from rx); cases q; exact PySem.W.kia_one PySem.W.kitx_float I.kIn True.intro e (fun z => nomatch z) h
 | @lst a xs ea =>
   cases (show u = Value.ref a from rx)
   obtain ⟨_, _, n, _, h1⟩ := (show ObjOk X.prog X.w H s.heap a (.lst xs) from I.hok a _ ea)
   exact PySem.W.kia_one PySem.W.kitx_list I.kIn ⟨_, h1, rfl⟩ e (fun z => nomatch z) h
 | @frz a ob xs ea =>
   cases (show u = Value.ref a from rx)
   obtain ⟨_, _, _, n, _, h1⟩ := (show ObjOk X.prog X.w H s.heap a (.frz ob (.lst xs)) from I.hok a _ ea)
   exact PySem.W.kia_one PySem.W.kitx_list I.kIn ⟨_, h1, rfl⟩ e (fun z => nomatch z) h
 | @tup a xs ea =>
   cases (show u = Value.ref a from rx)
   obtain ⟨_, _, _, p⟩ := (show ObjOk X.prog X.w H s.heap a (.tup xs) from I.hok a _ ea)
   obtain ⟨o, h1, h2, _⟩ := p
   exact PySem.W.kia_one PySem.W.kitx_tuple I.kIn ⟨o, h1, h2⟩ e (fun z => nomatch z) h
 | @dK a kvs ea =>
   cases (show u = Value.ref a from rx)
   obtain ⟨_, _, vs, _, p⟩ := (show ObjOk X.prog X.w H s.heap a (.dK kvs) from I.hok a _ ea)
   obtain ⟨o, es, ep, h1, h2, _⟩ := p
   exact PySem.W.kia_one PySem.W.kitx_dict I.kIn ⟨o, h1, h2.1⟩ e (fun z => nomatch z) h
 | @dT a kvs ea =>
   cases (show u = Value.ref a from rx)
   obtain ⟨_, _, xs, _, o, es, ep, h1, h2, _⟩ := (show ObjOk X.prog X.w H s.heap a (.dT kvs) from I.hok a _ ea)
   exact PySem.W.kia_one PySem.W.kitx_dict I.kIn ⟨o, h1, h2.1⟩ e (fun z => nomatch z) h
 | @ins a C dx fs ea cl ha hn htk hm =>
   cases (show u = Value.ref a from rx)
   obtain ⟨mA, O, _⟩ := B5m I.hok ea
   obtain ⟨od, J, _⟩ := O.look
   exact PySem.W.kia_one (PySem.W.kitx_own (cl.get _) cl.hd ha hn htk hm) I.kIn J e (fun z => nomatch z) h
end
structure Room (k : Nat) (A : Around) : Prop where
 hd : A.handled = none
 dp : A.depth + 3 * k + 5 < recursionLimit
 un : A.units + 16 * k + 200 < cLine
theorem Room.mono {j k : Nat} {A : Around} (r : Room k A) (h : j <= k) : Room j A := ⟨r.hd, by have := r.dp; omega, by have := r.un; omega⟩
theorem Room.deeper {k : Nat} {A : Around} (r : Room (k + 1) A) (env : Env) : Room k (A.deeper env) :=
 ⟨r.hd, by have := r.dp; show A.depth + 1 + 3 * k + 5 < _; omega, by have := r.un; show A.units + 3 + 16 * k + 200 < _; omega⟩
theorem D3d {A : Around} {C : Addr} {us : List Value} {kw : List (Str × Value)} : (A.under (.builtin "type.__call__" ⟨.ref C :: us, kw⟩)).depth = A.depth + 1 := by
 first | rfl | simp [Around.under, Code.weight, Code.isCreation, Code.isGuard, Code.isCaller, Code.frames, Code.isFrame, guardIds]
theorem D3p {A : Around} {C : Addr} {us : List Value} {kw : List (Str × Value)} : (A.under (.builtin "type.__call__" ⟨.ref C :: us, kw⟩)).units = A.units + 1 := by
 first | rfl | simp [Around.under, Code.cUnits, Code.frames, Code.isFrame]
theorem Room.make {k : Nat} {A : Around} (r : Room (k + 1) A) (C : Addr) (us : List Value) (kw : List (Str × Value)) : Room k (A.under (.builtin "type.__call__" ⟨.ref C :: us, kw⟩)) :=
 ⟨r.hd, by have := r.dp; rw [D3d]; omega, by have := r.un; rw [D3p]; omega⟩
theorem Room.depth {k : Nat} {A : Around} (r : Room k A) : A.depth < recursionLimit := by have := r.dp; omega
theorem Room.units {k : Nat} {A : Around} (r : Room k A) : A.units + 64 < cLine := by have := r.un; omega
def J5p : TA := fun _ H Q => Q [] H
def J3x (ta : TE) (tr : TA) : TA := fun σ H Q => ta σ H fun x H1 => tr σ H1 fun xs H2 => Q (x :: xs) H2
section
variable {X : Cx} {e : Expr} {es : List Expr} {te : TE} {t : TA} {pos : Pos}
theorem A8 : PA X [] J5p := fun _ _ _ _ H Q I h => Calls.spliced_nil ⟨[], H, I, .nil, h⟩
theorem A0 (ha : PE X e te) (hr : PA X es t) (hs : starEach (e :: es) X.env = (false, eval e X.env) :: starEach es X.env := by rfl) : PA X (e :: es) (J3x te t) := by
 intro pos pins s σ H Q I h
 rw [hs]
 show wpAny _ _ (spliced ((false, eval e X.env) :: backTo pos (starEach es X.env))) _ _ s
 refine Calls.spliced_cons (thn (ha pins s σ H _ I h) fun u s1 ⟨x, H1, I1, r1, q1⟩ => ?_)
 exact thn (hr pos pins s1 σ H1 _ I1 q1) fun us s2 ⟨xs, H2, I2, r2, q2⟩ => ⟨x :: xs, H2, I2, .cons r1 r2, q2⟩
def Y4q (t : TA) : TE := fun σ H Q => t σ H fun xs H1 => xs.length <= sizeLine /\ ∀ p, H1 p = none -> Q (.ref p) (upd H1 p (.tup xs))
def Y5t (t : TA) : TE := fun σ H Q => t σ H fun xs H1 => xs.length <= sizeLine /\ ∀ p, H1 p = none -> Q (.ref p) (upd H1 p (.lst xs))
theorem U5 {x1} (h : PA X es t) : PE X (.Tuple es x1 pos) (Y4q t) := by
 intro pins s σ H Q I hq
 refine wpAny_Tuple_spliced (thn (h pos pins s σ H _ I hq) fun us s1 ⟨xs, H1, I1, r, z, q⟩ => ⟨by rw [<- r.length]; exact z, ?_⟩)
 have hf : H1 s1.heap.objs.size = none := I1.hok.fresh (Nat.le_refl _)
 refine ⟨.ref s1.heap.objs.size, upd H1 s1.heap.objs.size (.tup xs), I1.laid (t' := s1.toks) (fun b u e => Heap.get?_push_of_some _ e) (Nat.le_refl _) ?_, rfl, q _ hf⟩
 exact ⟨z, us, r, ⟨_, Heap.get?_push_size _ rfl, rfl, _, rfl⟩⟩
theorem Y2 (h : PA X es t) : PE X (.List es pos) (Y5t t) := by
 intro pins s σ H Q I hq
 refine wpAny_List_spliced (thn (h pos pins s σ H _ I hq) fun us s1 ⟨xs, H1, I1, r, z, q⟩ => ⟨by rw [<- r.length]; exact z, ?_⟩)
 have hf : H1 s1.heap.objs.size = none := I1.hok.fresh (Nat.le_refl _)
 refine ⟨.ref s1.heap.objs.size, upd H1 s1.heap.objs.size (.lst xs), I1.laid (t' := s1.toks) (fun b u e => Heap.get?_push_of_some _ e) (Nat.le_refl _) ?_, rfl, q _ hf⟩
 exact ⟨z, us, 0, r, Heap.get?_push_size _ rfl⟩
end
abbrev Sp := List V -> Hp -> VK -> XK -> Prop
abbrev CXT := List Env -> Hp -> Shared -> XK -> Value -> Shared -> Prop
structure Env0 (P : Program) (w : World) (K : PySem.W.Frag) (mg : Str -> Option Value) (base : Heap) (A : Around) (outer : List Env) (s : Shared) (H : Hp) : Prop where
 frames : A.frames = some outer
 mod : Mod K mg base
 bs : ∀ b o, base.get? b = some o -> s.heap.get? b = some o /\ H b = none
 bsz : base.objs.size <= s.heap.objs.size
 funs : s.heap.FunFrames base outer
 frf : ∀ b ∈ frs outer, H b = none
 hok : HOk P w H s.heap
 bare : AllBare s.gens
def CE (outer : List Env) (P : Program) (w : World) (H : Hp) (s : Shared) (Q : VK) (u : Value) (s' : Shared) : Prop :=
 ∃ v H', s'.os = s.os /\ AllBare s'.gens /\ Un (frs outer) [] H H' s.heap s'.heap /\ HOk P w H' s'.heap /\ RelV v u /\ Q v H'
def CR (CX : CXT) (outer : List Env) (P : Program) (w : World) (H : Hp) (s : Shared) (Q : VK) (E : XK) (r : Result) (s' : Shared) : Prop :=
 match r with
 | .ok (.ret u) => CE outer P w H s Q u s'
 | .ok _ => False
 | .error e => CX outer H s E e s'
structure FnOk (P : Program) (w : World) (K : PySem.W.Frag) (mg : Str -> Option Value) (base : Heap) (CX : CXT) (k : Nat) (f : Addr) (fd : FuncData) (ps : List Str) (sp : Sp) : Prop where
 len : ∀ vs H Q E, sp vs H Q E -> vs.length = ps.length
 run : ∀ (A : Around) (outer : List Env) (s : Shared) (H : Hp) (args : Args) (us : List Value) (vs : List V) (Q : VK) (E : XK), Room k A -> Env0 P w K mg base A outer s H -> BindsTo s fd args (ps.zip us) -> Vals vs us -> sp vs H Q E ->
   codeAny (model P w) A (.call (.ref f) args) (CR CX outer P w H s Q E) s
theorem FnOk.mono {P : Program} {w : World} {K : PySem.W.Frag} {mg : Str -> Option Value} {base : Heap} {CX : CXT} {j k : Nat} {f : Addr} {fd : FuncData} {ps : List Str} {sp : Sp} (F : FnOk P w K mg base CX j f fd ps sp) (h : j <= k) :
   FnOk P w K mg base CX k f fd ps sp := ⟨F.len, fun A outer s H args us vs Q E hr => F.run A outer s H args us vs Q E (hr.mono h)⟩
theorem Env0.make {P : Program} {w : World} {K : PySem.W.Frag} {mg : Str -> Option Value} {base : Heap} {A : Around} {outer : List Env} {s : Shared} {H : Hp} (e : Env0 P w K mg base A outer s H) (C : Addr) (us : List Value) (kw : List (Str × Value)) :
   Env0 P w K mg base (A.under (.builtin "type.__call__" ⟨.ref C :: us, kw⟩)) outer s H := ⟨by first | exact e.frames | (simpa [Around.under, Code.envs, Code.isFrame, pushEnvs] using e.frames), e.mod, e.bs, e.bsz, e.funs, e.frf, e.hok, e.bare⟩
section
variable {X : Cx} {pins : List (Addr × Obj)} {σ : St} {H : Hp} {s s' : Shared}
theorem Inv.env0 (I : Inv X pins σ H s) : Env0 X.prog X.w X.K X.mg X.base X.A X.stack s H :=
 ⟨I.ok.frames, I.ok.mod, I.bs, Nat.le_trans I.ok.bsz I.sz, I.stack, I.stkFree, I.hok, I.bare⟩
theorem Inv.after {Q : VK} {u : Value} (I : Inv X pins σ H s) (h : CE X.stack X.prog X.w H s Q u s') : EP X pins σ Q u s' := by
 obtain ⟨v, H', os, bare, un, hok, r, q⟩ := h
 obtain ⟨hh, g, d, t, os'⟩ := s'
 obtain rfl : os' = s.os := os
 exact ⟨v, H', I.call (h' := hh) (g' := g) (d' := d) (t' := t) (ch := []) un hok bare (fun b z => absurd z (by simp)), r, q⟩
end
def Y2b (C : Addr) (sp : Sp) (dvs : List V) (E : XK) (t : TA) : TE := fun σ H Q => t σ H fun vs H1 => ∀ x dx, H1 x = none -> H1 dx = none -> dx ≠ x ->
 sp (.ref x :: (vs ++ dvs)) (upd (upd H1 dx (.own x)) x (.ins C dx [])) (fun v H2 => v = .non /\ Q (.ref x) H2) E
def Binds (K : PySem.W.Frag) (fd : FuncData) (ps : List Str) (ds : List Value) : Prop :=
 ∀ (s : Shared) (us : List Value), K.In s.heap -> (us ++ ds).length = ps.length -> BindsTo s fd ⟨us, []⟩ (ps.zip (us ++ ds))
theorem Binds.all {K : PySem.W.Frag} {fd : FuncData} {ps : List Str} (h : ∀ us : List Value, us.length = ps.length -> bindArgs fd ⟨us, []⟩ = pure (ps.zip us)) : Binds K fd ps [] := fun s us _ hl => by
 rw [List.append_nil] at hl ⊢
 exact .of_eq (h us hl)
def D4u (CX : CXT) (X : Cx) (E : XK) : Prop := ∀ (pins : List (Addr × Obj)) (σ : St) (H : Hp) (s : Shared) (e : Value) (s' : Shared), Inv X pins σ H s -> CX X.stack H s E e s' -> X.xe e s'
section
variable {X : Cx} {CX : CXT} {k : Nat} {f C : Addr} {fd : FuncData} {ps : List Str} {sp : Sp} {dvs : List V} {ds : List Value} {E : XK} {x m : Str} {p pos apos : Pos} {e o : Expr} {es : List Expr} {ta : TE} {t : TA}
structure Mk (K : PySem.W.Frag) (C f : Addr) : Prop where
 makes : PySem.W.makesIn K C = true
 init : PySem.W.findIn K (.ref C) "__init__" = some (some (.ref f))
 fn : PySem.W.isFn K (.ref f) = true
 kp : PySem.W.keepIn K (.ref C) = true
theorem J4f {pins : List (Addr × Obj)} {σ : St} {H : Hp} {s : Shared} {Q : VK} {us : List Value} {vs : List V} (M : Mk X.K C f) (F : FnOk X.prog X.w X.K X.mg X.base CX k f fd ps sp) (hr : Room (k + 1) X.A) (hb : Binds X.K fd ps ds) (hd : Vals dvs ds)
   (hx : D4u CX X E) (I : Inv X pins σ H s) (r : Vals vs us)
   (h : ∀ x dx, H x = none -> H dx = none -> dx ≠ x -> sp (.ref x :: (vs ++ dvs)) (upd (upd H dx (.own x)) x (.ins C dx [])) (fun v H2 => v = .non /\ Q (.ref x) H2) E) :
   wpAny (model X.prog X.w) X.A (call (.ref C) us) (EP X pins σ Q) X.xe s := by
 have hq := h (s.heap.objs.size + 1) s.heap.objs.size (I.hok.fresh (Nat.le_succ _)) (I.hok.fresh (Nat.le_refl _)) (Nat.ne_of_lt (Nat.lt_succ_self _))
 have I2 := Inv.made (C := C) I
 have r2 : Vals (V.ref (s.heap.objs.size + 1) :: (vs ++ dvs)) (Value.ref (s.heap.objs.size + 1) :: (us ++ ds)) := .cons rfl (r.append hd)
 have hl : (Value.ref (s.heap.objs.size + 1) :: us ++ ds).length = ps.length := by
   have e := r2.length
   rw [F.len _ _ _ _ hq] at e
   exact e.symm
 refine wpAny_call (C9p (f := f) I.kIn M.makes M.init (beq_iff_eq.mp M.fn) (codeAny_mono (F.run _ X.stack _ _ ⟨Value.ref (s.heap.objs.size + 1) :: us, []⟩ (Value.ref (s.heap.objs.size + 1) :: (us ++ ds)) _ _ E (hr.make C us [])
   (I2.env0.make C us []) (hb _ (Value.ref (s.heap.objs.size + 1) :: us) I2.kIn hl) r2 hq) fun r s' hq' => ?_))
 cases r with
 | error e => exact hx pins σ _ _ e s' I2 hq'
 | ok fl =>
   cases fl with
   | ret u =>
     obtain ⟨v, H', I3, rv, ev, q3⟩ := I2.after hq'
     subst ev
     exact ⟨rv, ⟨V.ref (s.heap.objs.size + 1), H', I3, rfl, q3⟩⟩
   | next => exact False.elim hq'
   | brk => exact False.elim hq'
   | cont => exact False.elim hq'
theorem C4p (M : Mk X.K C f) (F : FnOk X.prog X.w X.K X.mg X.base CX k f fd ps sp) (hr : Room (k + 1) X.A) (hg : Gl X x) (hm : X.mg x = some (.ref C)) (hb : Binds X.K fd ps ds) (hd : Vals dvs ds) (hx : D4u CX X E)
   (ha : PA X (e :: es) t) (hdb : (x == ("__debug__" : Str)) = false := by decide) (he : starEach (e :: es) X.env = (false, eval e X.env) :: starEach es X.env := by rfl) (hpl : (backTo pos (starEach es X.env)).any (·.1) = false := by rfl) :
   PE X (.Call (.Name x p) (e :: es) [] pos) (Y2b C sp dvs E t) := by
 intro pins s σ H Q I h
 refine wpAny_Call_Name_kw (A0j I hg hm ?_ hdb)
 refine PySem.W.callWith_K (h₀ := X.base) I.ok.mod.kin M.kp (thn (ha pos pins s σ H _ I h) fun us s1 ⟨vs, H1, I1, r, q⟩ => ⟨I1.kIn, ?_⟩) he hpl
 exact J4f M F hr hb hd hx I1 r q
end
section
variable {X : Cx} {CX : CXT} {k : Nat} {f C : Addr} {fd : FuncData} {ps ks : List Str} {sp : Sp} {E : XK} {x m : Str} {p pos apos kpos : Pos} {e o : Expr} {es : List Expr} {kws : List Keyword} {te ta : TE} {t tk : TA} {nm : Option Str}
structure KBinds (K : PySem.W.Frag) (fd : FuncData) (ps ks : List Str) (g : List Value -> List Value -> List Value) (gV : List V -> List V -> List V) : Prop where
 to : ∀ (s : Shared) (us ws : List Value), K.In s.heap -> (g us ws).length = ps.length -> BindsTo s fd ⟨us, ks.zip ws⟩ (ps.zip (g us ws))
 rel : ∀ {vs : List V} {us : List Value} {zs : List V} {ws : List Value}, Vals vs us -> Vals zs ws -> Vals (gV vs zs) (g us ws)
variable {g : List Value -> List Value -> List Value} {gV : List V -> List V -> List V}
end
structure FnScope (N P : List Str) (sc : Scope) : Prop where
 kind : sc.kind = .function
 co : sc.isCoroutine = false
 gen : sc.isGenerator = false
 nd : N.Nodup
 pre : N.take P.length = P
 par : ∀ x ∈ P, sc.names.lookup x = some .local \/ sc.names.lookup x = some .cell
 nofree : ∀ y ∈ sc.names, y.2 ≠ .free
theorem C1c {kindOf : Str -> Option NameKind} {x : Str} : ∀ {binds : List (Str × Value)} {m : Str -> Option Value}, (∀ v, (x, v) ∉ binds) -> bindL kindOf binds m x = m x
 | [], _, _ => rfl
 | (n, v) :: r, m, h => by
   unfold bindL
   rw [C1c fun w hw => h w (List.mem_cons_of_mem _ hw)]
   split
   . have : x ≠ n := by rintro rfl; exact h v List.mem_cons_self
     simp [this]
   . rfl
theorem C1e {kindOf : Str -> Option NameKind} {x : Str} : ∀ {binds : List (Str × Value)} {m : Str -> Option Value}, (∀ v, (x, v) ∉ binds) -> bindC kindOf binds m x = m x
 | [], _, _ => rfl
 | (n, v) :: r, m, h => by
   unfold bindC
   rw [C1e fun w hw => h w (List.mem_cons_of_mem _ hw)]
   split
   . rfl
   . have : x ≠ n := by rintro rfl; exact h v List.mem_cons_self
     simp [this]
theorem C2c {kindOf : Str -> Option NameKind} {x : Str} {v : Value} : ∀ {P : List Str} {vs : List Value} {i : Nat} {m : Str -> Option Value}, P.Nodup -> P[i]? = some x -> vs[i]? = some v -> kindOf x = some .local ->
   bindL kindOf (P.zip vs) m x = some v
 | [], _, _, _, _, h, _, _ => by simp at h
 | _ :: _, [], _, _, _, _, h, _ => by simp at h
 | p :: P, w :: vs, 0, m, nd, h1, h2, hk => by
   simp at h1 h2; subst h1; subst h2
   show bindL kindOf ((p, w) :: P.zip vs) m p = _
   unfold bindL
   rw [C1c fun v hv => (List.nodup_cons.mp nd).1 (List.of_mem_zip hv).1, if_pos hk]
   simp
 | p :: P, w :: vs, i + 1, m, nd, h1, h2, hk => by
   show bindL kindOf ((p, w) :: P.zip vs) m x = _
   unfold bindL
   exact C2c (i := i) (List.nodup_cons.mp nd).2 (by simpa using h1) (by simpa using h2) hk
theorem C1w {kindOf : Str -> Option NameKind} {x : Str} {v : Value} : ∀ {P : List Str} {vs : List Value} {i : Nat} {m : Str -> Option Value}, P.Nodup -> P[i]? = some x -> vs[i]? = some v -> kindOf x ≠ some .local ->
   bindC kindOf (P.zip vs) m x = some v
 | [], _, _, _, _, h, _, _ => by simp at h
 | _ :: _, [], _, _, _, _, h, _ => by simp at h
 | p :: P, w :: vs, 0, m, nd, h1, h2, hk => by
   simp at h1 h2; subst h1; subst h2
   show bindC kindOf ((p, w) :: P.zip vs) m p = _
   unfold bindC
   rw [C1e fun v hv => (List.nodup_cons.mp nd).1 (List.of_mem_zip hv).1, if_neg hk]
   simp
 | p :: P, w :: vs, i + 1, m, nd, h1, h2, hk => by
   show bindC kindOf ((p, w) :: P.zip vs) m x = _
   unfold bindC
   exact C1w (i := i) (List.nodup_cons.mp nd).2 (by simpa using h1) (by simpa using h2) hk
def A1x (N : List Str) (vs : List V) : St := vs.map some ++ List.replicate (N.length - vs.length) none
def Z8 (CX : CXT) (P : Program) (w : World) (K : PySem.W.Frag) (mg : Str -> Option Value) (base : Heap) (N : List Str) (qual : Str) (scope : Scope) (f : Addr) (cd : Value) (A : Around) (outer : List Env) (s : Shared) (H : Hp) (E : XK) : Cx where
 prog := P
 w := w
 K := K
 mg := mg
 base := base
 A := A.deeper (envOfC qual scope s.heap.objs.size f cd)
 N := N
 s₀ := s
 H₀ := H
 env := envOfC qual scope s.heap.objs.size f cd
 outer := outer
 stack := envOfC qual scope s.heap.objs.size f cd :: outer
 ex := []
 calm := true
 fn := fun _ => true
 pn := []
 xe := fun e s' => wpAny (model P w) (A.deeper (envOfC qual scope s.heap.objs.size f cd)) (leaving (envOfC qual scope s.heap.objs.size f cd) e) (fun _ s'' => CX outer H s E e s'') (fun e' s'' => CX outer H s E e' s'') s'
theorem C9r {sc : Scope} {n : Nat} {x : Str} (h : sc.names.lookup x = some .cell) : ∃ c, (cellsFrom n sc.names []).lookup x = some c := by
 have q := PySem.W.cellsFrom_some sc.names n [] (.inl h)
 exact Option.isSome_iff_exists.mp q
theorem C1v {CX : CXT} {P : Program} {w : World} {K : PySem.W.Frag} {mg : Str -> Option Value} {base : Heap} {N ps : List Str} {qual : Str} {scope : Scope} {f : Addr} {cd : Value} {A : Around} {outer : List Env} {s s1 : Shared} {H : Hp} {E : XK} {us : List Value} {vs : List V}
   (S : FnScope N ps scope) (hd : A.handled = none) (e0 : Env0 P w K mg base A outer s H) (hl : vs.length = ps.length) (r : Vals vs us)
   (x : InCallC s s.heap.objs.size (bindL (envOfC qual scope s.heap.objs.size f cd).kindOf (ps.zip us) fun _ => none) (cellsFrom (s.heap.objs.size + 1) scope.names []) (bindC (envOfC qual scope s.heap.objs.size f cd).kindOf (ps.zip us) fun _ => none) s1) :
   Inv (Z8 CX P w K mg base N qual scope f cd A outer s H E) [] (A1x N vs) H s1 := by
 have hpl : ps.length <= N.length := by have := congrArg List.length S.pre; rw [List.length_take] at this; omega
 obtain ⟨h1, tk, rfl, hk⟩ := x.done
 have noA : ∀ b : Addr, b ∉ (Z8 CX P w K mg base N qual scope f cd A outer s H E).ex := fun b z => absurd (show b ∈ ([] : List Addr) from z) (by simp)
 refine ⟨⟨e0.mod, S.kind, rfl, rfl, Nat.le_refl _, fun y z c h1 h2 => ?_, fun y hy => ?_, fun y c _ h => ?_, fun _ => hd, Around.frames_deeper e0.frames, .inr ⟨rfl, rfl⟩, fun b z => absurd z (noA b), e0.bs, e0.bsz, fun b _ _ => noA b, fun b z => absurd z (noA b), e0.funs, e0.frf⟩,
   rfl, e0.bare, Un.kept hk, ⟨_, x.toInCall.ns, fun i y v h1 h2 h3 => ?_⟩, fun y c h => ⟨_, x.cell y c h⟩, e0.hok.fresh (Nat.le_refl _), fun y c h => ?_, fun p hp => absurd (show p ∈ ([] : List (Addr × Obj)) from hp) (by simp), e0.hok.kept hk, ?_⟩
 . exact name_of_addr x.apart (PySem.mem_of_lookup h1) (PySem.mem_of_lookup h2)
 . have hy : scope.names.lookup y = some .cell \/ scope.names.lookup y = some .free := hy
   rcases hy with hy | hy
   . exact C9r hy
   . exact absurd rfl (S.nofree _ (PySem.mem_of_lookup hy))
 . exact Nat.le_of_lt (x.above y c (PySem.mem_of_lookup h))
 . have hi : i < vs.length := by
     unfold A1x at h2
     by_cases hi : i < vs.length
     . exact hi
     . rw [List.getElem?_append_right (by simpa using hi)] at h2
       rw [List.getElem?_replicate] at h2
       split at h2 <;> cases h2
   have ha : vs[i]? = some v := by
     unfold A1x at h2
     rw [List.getElem?_append_left (by simpa using hi), List.getElem?_map] at h2
     cases e : vs[i]? with
     | none => rw [e] at h2; cases h2
     | some a => rw [e] at h2; cases h2; rfl
   obtain ⟨u, hu, rv⟩ := r.get ha
   have hp : ps[i]? = some y := by
     rw [<- S.pre, List.getElem?_take_of_lt (by omega)]; exact h1
   have ndP : ps.Nodup := by rw [<- S.pre]; exact S.nd.sublist (List.take_sublist _ _)
   refine ⟨u, rv, ?_⟩
   rcases S.par y (List.mem_of_getElem? hp) with k | k
   . exact .inl ⟨k, C2c ndP hp hu k⟩
   . obtain ⟨c, e⟩ := C9r (n := s.heap.objs.size + 1) k
     refine .inr ⟨.inl k, c, e, ?_⟩
     have q := x.cell y c e
     rw [C1w ndP hp hu (by show scope.names.lookup y ≠ _; rw [k]; decide)] at q
     exact q
 . exact e0.hok.fresh (Nat.le_of_lt (x.above y c (PySem.mem_of_lookup h)))
 . unfold A1x
   show _ = N.length
   rw [List.length_append, List.length_map, List.length_replicate]
   omega
theorem J4j {CX : CXT} {P : Program} {w : World} {K : PySem.W.Frag} {mg : Str -> Option Value} {base : Heap} {k : Nat} {f : Addr} {name qual : Str} {params : Arguments} {body : List Stmt} {scope : Scope} {dV kV doc pm cdv ct oc : Value} {an od : Option Addr}
   {osl : Array (Option Value)} {N ps : List Str} {sp : Sp} (lk : K.lookup f = some ⟨oc, od, .func (PySem.W.fnOf name qual params body scope dV kV doc pm an cdv ct), osl⟩) (hcd : PySem.W.codeIn K cdv qual = true) (S : FnScope N ps scope)
   (len : ∀ vs H Q E, sp vs H Q E -> vs.length = ps.length)
   (hbody : ∀ (A : Around) (outer : List Env) (s : Shared) (H : Hp) (vs : List V) (Q : VK) (E : XK), Room k (A.deeper (envOfC qual scope s.heap.objs.size f cdv)) -> sp vs H Q E ->
     ∃ t, PSs (Z8 CX P w K mg base N qual scope f cdv A outer s H E) body t /\ t { nx := fun _ H' => Q .non H', rt := Q } (A1x N vs) H) :
   FnOk P w K mg base CX (k + 1) f (PySem.W.fnOf name qual params body scope dV kV doc pm an cdv ct) ps sp := by
 refine ⟨len, fun A outer s H args us vs Q E hr e0 hb r hsp => ?_⟩
 have hl := len _ _ _ _ hsp
 have KX : K.In s.heap := e0.mod.kin.keeps fun b o e => (e0.bs b o e).1
 have lim : s.heap.NoLimit := e0.mod.nolimit.keeps fun b o e => (e0.bs b o e).1
 have hkind : ∀ y ∈ ps.zip us, scope.names.lookup y.1 = some .local \/ (scope.names.lookup y.1 = some .cell /\ ((cellsFrom (s.heap.objs.size + 1) scope.names []).lookup y.1).isSome = true) := fun ⟨n, v⟩ hy => by
   rcases S.par n (List.of_mem_zip hy).1 with q | q
   . exact .inl q
   . exact .inr ⟨q, PySem.W.cellsFrom_some _ _ _ (.inl q)⟩
 refine codeAny_call_function hr.depth (KX _ _ lk) rfl S.co S.gen rfl (PySem.W.codeRec_of KX hcd) (hb _ _ _ _ ?_)
 refine wpAny_newFunctionEnv_cells S.kind hkind fun env he s1 x => ?_
 subst he
 refine ⟨lim.keeps x.toInCall.keep, codeAny_func ?_⟩
 obtain ⟨t, ht, hq⟩ := hbody A outer s H vs Q E (hr.deeper _) hsp
 have I : Inv (Z8 CX P w K mg base N qual scope f cdv A outer s H E) [] (A1x N vs) H s1 := C1v S hr.hd e0 hl r x
 refine wpAny_mono (ht [] s1 (A1x N vs) H _ I hq) (fun fl s' hs => ?_) fun e s' hs => hs
 have fin : ∀ {σ' : St} {H' : Hp} {v : V} {u : Value}, Inv (Z8 CX P w K mg base N qual scope f cdv A outer s H E) [] σ' H' s' -> RelV v u -> Q v H' -> CE outer P w H s Q u s' :=
   fun {σ' H' v u} J rv q => ⟨v, H', J.os, J.bare, J.base, J.hok, rv, q⟩
 cases fl with
 | ret u =>
   obtain ⟨v, σ', H', J, rv, q⟩ := hs
   exact fin J rv q
 | next =>
   obtain ⟨σ', H', J, q⟩ := hs
   exact fin (v := V.non) (u := Value.none) J rfl q
 | brk =>
   obtain ⟨_, _, _, q⟩ := hs
   exact False.elim q
 | cont =>
   obtain ⟨_, _, _, q⟩ := hs
   exact False.elim q
section
variable {X : Cx} {x : Str} {p pos : Pos} {e : Expr} {es : List Expr} {t : TA} {id T : String} {r : List V -> Hp -> VK -> Prop}
def tCB (r : List V -> Hp -> VK -> Prop) (t : TA) : TE := fun σ H Q => t σ H fun vs H1 => r vs H1 Q
theorem U0 (hc : A2u X (.builtin id) r) (hg : Gl X x) (hm : X.mg x = none) (hv : bootBuiltins x = some (.builtin id)) (ha : PA X (e :: es) t) (hn : x ≠ "__name__" := by decide) (hdb : (x == ("__debug__" : Str)) = false := by decide)
   (he : starEach (e :: es) X.env = (false, eval e X.env) :: starEach es X.env := by rfl) (hpl : (backTo pos (starEach es X.env)).any (·.1) = false := by rfl) : PE X (.Call (.Name x p) (e :: es) [] pos) (tCB r t) := by
 intro pins s σ H Q I h
 refine wpAny_Call_Name_kw (C4r I hg hm hv ?_ hn hdb)
 exact PyProof.Rows.callWith_builtin1 (thn (ha pos pins s σ H _ I h) fun us s1 ⟨vs, H1, I1, r1, q1⟩ => hc pins s1 σ H1 vs us Q I1 r1 q1) he hpl
theorem V0 (hc : A2u X (.type T) r) (hg : Gl X x) (hm : X.mg x = none) (hv : bootBuiltins x = some (.type T)) (ha : PA X (e :: es) t) (hn : x ≠ "__name__" := by decide) (hdb : (x == ("__debug__" : Str)) = false := by decide)
   (he : starEach (e :: es) X.env = (false, eval e X.env) :: starEach es X.env := by rfl) (hpl : (backTo pos (starEach es X.env)).any (·.1) = false := by rfl) : PE X (.Call (.Name x p) (e :: es) [] pos) (tCB r t) := by
 intro pins s σ H Q I h
 refine wpAny_Call_Name_kw (C4r I hg hm hv ?_ hn hdb)
 exact PyProof.Rows.callWith_type1 (thn (ha pos pins s σ H _ I h) fun us s1 ⟨vs, H1, I1, r1, q1⟩ => hc pins s1 σ H1 vs us Q I1 r1 q1) he hpl
end
end L2
namespace HT
open PySem PyProof.Rows
section
open PySem.SeqAt
open PySem.AutoSeq1 (wpAny_loadPart')
open PySem.MeetsSeq PySem.MeetsSeq2 PySem.MeetsSeq3
end
section
variable {prog : Program} {w : World} {A : Around} {E : Value -> Shared -> Prop} {s : Shared}
end
end HT
namespace L2
open PySem PySem.Spec PyProof.Rows
section
variable {X : Cx} {e : Expr} {te : TE} {lo hi : Option Expr} {tl th : TO} {pos p2 : Pos}
end
def ixN (n : Nat) (i : Int) : Option Nat := if 0 <= i then (if i < n then some i.toNat else none) else if -(n : Int) <= i then some (i + n).toNat else none
def atI {α : Type} (xs : List α) (i : Int) : Option α := (ixN xs.length i).bind fun j => xs[j]?
theorem U8t {n : Nat} {i : Int} {j : Nat} (h : ixN n i = some j) : seqIndex? i n = some j /\ j < n /\ -(n : Int) <= i /\ i < n := by
 unfold ixN at h
 by_cases h0 : 0 <= i
 . rw [if_pos h0] at h
   by_cases h1 : i < n
   . rw [if_pos h1] at h
     have e : i.toNat = j := Option.some.inj h
     exact ⟨by rw [seqIndex_of h0 h1, e], by omega, by omega, h1⟩
   . rw [if_neg h1] at h; cases h
 . rw [if_neg h0] at h
   by_cases h1 : -(n : Int) <= i
   . rw [if_pos h1] at h
     have e : (i + n).toNat = j := Option.some.inj h
     exact ⟨by rw [seqIndex_neg (by omega) h1, e], by omega, h1, by omega⟩
   . rw [if_neg h1] at h; cases h
theorem G4e {α : Type} {xs : List α} {i : Int} {v : α} (h : atI xs i = some v) : ∃ j, seqIndex? i xs.length = some j /\ xs[j]? = some v /\ j < xs.length /\ -(xs.length : Int) <= i /\ i < xs.length := by
 unfold atI at h
 cases e : ixN xs.length i with
 | none => rw [e] at h; cases h
 | some j =>
   rw [e] at h
   obtain ⟨h1, h2, h3, h4⟩ := U8t e
   exact ⟨j, h1, h, h2, h3, h4⟩
theorem J0 {α : Type} {xs : List α} {j : Nat} {v : α} (h : xs[j]? = some v) : atI xs (j : Int) = some v := by
 have hj : j < xs.length := (List.getElem?_eq_some_iff.mp h).1
 have e : ixN xs.length (j : Int) = some j := by
   unfold ixN
   rw [if_pos (by omega), if_pos (by omega)]; simp
 unfold atI; rw [e]; exact h
def U9f (b : Expr) : Prop := ∀ o i, subscripted b false o i = operate [o, i] (getItem o i)
def IxR (X : Cx) (r : R2) : Prop :=
 ∀ (value slice : Expr) (pins : List (Addr × Obj)) (s : Shared) (σ : St) (H : Hp) (x y : V) (v u : Value) (Q : VK), Inv X pins σ H s -> RelV x v -> RelV y u -> r x y H Q ->
   subscripted slice false v u = operate [v, u] (getItem v u) -> wpAny (model X.prog X.w) X.A (subscriptTail value slice v u) (EP X pins σ Q) X.xe s
def MtR (X : Cx) (id : String) (r : V -> List V -> Hp -> VK -> Prop) : Prop :=
 ∀ (pins : List (Addr × Obj)) (s : Shared) (σ : St) (H : Hp) (x : V) (xs : List V) (v : Value) (us : List Value) (Q : VK), Inv X pins σ H s -> RelV x v -> Vals xs us -> r x xs H Q ->
   wpAny (model X.prog X.w) X.A (call (.builtin id) (v :: us)) (EP X pins σ Q) X.xe s
section
variable {X : Cx} {a b : Expr} {ta tb : TE} {pos : Pos}
theorem J9 {r : R2} (hr : IxR X r) (ha : PE X a ta) (hb : PE X b tb) (hs : U9f b) : PE X (.Subscript a b pos) (tOp r ta tb) := by
 intro pins s σ H Q I h
 exact Subscript_ (V6j ha hb I h fun v u s2 x y H2 I2 rx ry q => hr a b pins s2 σ H2 x y v u Q I2 rx ry q (hs _ _))
def Y1q (K : PySem.W.Frag) : R2 := fun x y H Q => ∃ p xs i v, x = .ref p /\ y = .int i /\ SqL K H p xs /\ atI xs i = some v /\ Q v H
def Y0g (K : PySem.W.Frag) : R2 := fun x y H Q => ∃ p xs i v, x = .ref p /\ y = .int i /\ SqT K H p xs /\ atI xs i = some v /\ Q v H
theorem A0k : IxR X (Y1q X.K) := by
 intro value slice pins s σ H x y v u Q I rx ry h hs
 obtain ⟨p, xs, i, z, rfl, rfl, hq, he, q⟩ := h
 cases rx
 obtain ⟨t, rfl⟩ := ry
 obtain ⟨its, r, pl, hz⟩ := I.list hq
 obtain ⟨j, h1, h2, h3, h4, h5⟩ := G4e he
 obtain ⟨w, ew, rw'⟩ := r.get h2
 have hl := r.length
 have hn := C3e
 have fin : EP X pins σ Q w s := ⟨z, H, I, rw', q⟩
 by_cases h0 : 0 <= i
 . have hj : i.toNat = j := by
     rw [seqIndex_of h0 h5] at h1
     exact Option.some.inj h1
   exact item_listR pl.isList h0 (by omega) (by rw [hj]; simpa using ew) fin hs
 . have hj : (i + (its.toArray.size : Int)).toNat = j := by
     rw [seqIndex_neg (by omega) h4] at h1
     rw [List.size_toArray, <- hl]
     exact Option.some.inj h1
   exact subscriptTail_builtinR (x := w) pl.isList.typeIs slot_list_getitem.lookup
     (wpAny_getItem_list_neg (Q := fun r s' => r = w /\ EP X pins σ Q r s') pl.isList (by omega) (by rw [List.size_toArray] <;> omega) (by omega) (by rw [hj]; simpa using ew) ⟨rfl, fin⟩) hs
theorem U4 : IxR X (Y0g X.K) := by
 intro value slice pins s σ H x y v u Q I rx ry h hs
 obtain ⟨p, xs, i, z, rfl, rfl, hq, he, q⟩ := h
 cases rx
 obtain ⟨t, rfl⟩ := ry
 obtain ⟨its, r, pl, hz⟩ := I.tuple hq
 obtain ⟨j, h1, h2, h3, h4, h5⟩ := G4e he
 obtain ⟨w, ew, rw'⟩ := r.get h2
 have hl := r.length
 have hn := C3e
 have fin : EP X pins σ Q w s := ⟨z, H, I, rw', q⟩
 exact subscriptTail_builtinR (x := w) pl.typeIs slot_tuple_getitem.lookup
   (getItem_tuple (j := j) (Q := fun r s' => r = w /\ EP X pins σ Q r s') pl (by omega) (by omega) (by rw [List.size_toArray, <- hl]; exact h1) (by simpa using ew) ⟨rfl, fin⟩) hs
def B0d : V -> Bool
 | .non => true
 | .bl _ => true
 | .int _ => true
 | .str _ => true
 | _ => false
def eqV : V -> V -> Bool
 | .non, .non => true
 | .bl a, .bl b => a == b
 | .bl a, .int b => (if a then 1 else 0) == b
 | .int a, .bl b => a == (if b then 1 else 0)
 | .int a, .int b => a == b
 | .str a, .str b => a == b
 | _, _ => false
theorem V6d {A : Around} {s : Shared} {y x : V} {u v : Value} (ry : RelV y u) (rx : RelV x v) (fy : B0d y = true) (fx : B0d x = true) : SeqAt.EqAt A s u v (eqV y x) := by
 cases y with
 | non =>
   cases ry
   cases x with
   | non => cases rx; exact SeqAt.EqAt.same _
   | bl b => cases rx; exact SeqAt.EqAt.none_bool b
   | int b => obtain ⟨t, rfl⟩ := rx; exact SeqAt.EqAt.none_int b t
   | str b => obtain ⟨t, rfl⟩ := rx; exact SeqAt.EqAt.none_str b t
   | _ => exact absurd (show false = true from fx) Bool.false_ne_true
 | bl a =>
   cases ry
   cases x with
   | non => cases rx; exact SeqAt.EqAt.bool_none a
   | bl b => cases rx; exact SeqAt.EqAt.bool_bool a b
   | int b => obtain ⟨t, rfl⟩ := rx; exact SeqAt.EqAt.bool_int a b t
   | str b => obtain ⟨t, rfl⟩ := rx; exact SeqAt.EqAt.bool_str a b t
   | _ => exact absurd (show false = true from fx) Bool.false_ne_true
 | int a =>
   obtain ⟨t', rfl⟩ := ry
   cases x with
   | non => cases rx; exact SeqAt.EqAt.int_none a t'
   | bl b => cases rx; exact SeqAt.EqAt.int_bool a t' b
   | int b => obtain ⟨t, rfl⟩ := rx; exact SeqAt.EqAt.int_int a t' b t
   | str b => obtain ⟨t, rfl⟩ := rx; exact SeqAt.EqAt.int_str a t' b t
   | _ => exact absurd (show false = true from fx) Bool.false_ne_true
 | str a =>
   obtain ⟨t', rfl⟩ := ry
   cases x with
   | non => cases rx; exact SeqAt.EqAt.str_none a t'
   | bl b => cases rx; exact SeqAt.EqAt.str_bool a t' b
   | int b => obtain ⟨t, rfl⟩ := rx; exact SeqAt.EqAt.str_int a t' b t
   | str b => obtain ⟨t, rfl⟩ := rx; exact SeqAt.EqAt.str_str a t' b t
   | _ => exact absurd (show false = true from fx) Bool.false_ne_true
 | _ => exact absurd (show false = true from fy) Bool.false_ne_true
def eqU (x : V) (u : Value) : Bool := match u with
 | .none => eqV .non x
 | .bool b => eqV (.bl b) x
 | .int i _ => eqV (.int i) x
 | .str z _ => eqV (.str z) x
 | _ => false
theorem J5u {x y : V} {u : Value} (r : RelV y u) (f : B0d y = true) : eqU x u = eqV y x := by
 cases y with
 | non => cases r; rfl
 | bl b => cases r; rfl
 | int i => obtain ⟨t, rfl⟩ := r; rfl
 | str z => obtain ⟨t, rfl⟩ := r; rfl
 | _ => exact absurd (show false = true from f) Bool.false_ne_true
theorem A9v {x : V} : ∀ {xs : List V} {us : List Value}, Vals xs us -> xs.all B0d = true -> us.any (eqU x) = xs.any fun y => eqV y x
 | _, _, .nil, _ => rfl
 | y :: xs, u :: us, .cons r t, f => by
   rw [List.all_cons, Bool.and_eq_true] at f
   rw [List.any_cons, List.any_cons, J5u r f.1, A9v t f.2]
theorem A5y {A : Around} {s : Shared} {x : V} {v : Value} (rx : RelV x v) (fx : B0d x = true) : ∀ {xs : List V} {us : List Value}, Vals xs us -> xs.all B0d = true -> ∀ u ∈ us, SeqAt.EqAt A s u v (eqU x u)
 | _, _, .nil, _ => fun u hu => by cases hu
 | y :: xs, u :: us, .cons r t, f => fun u' hu => by
   rw [List.all_cons, Bool.and_eq_true] at f
   rcases List.mem_cons.mp hu with rfl | hu
   . rw [J5u r f.1]; exact V6d r rx f.1 fx
   . exact A5y rx fx t f.2 u' hu
def inV (x : V) (xs : List V) : Bool := xs.any fun y => eqV y x
def rIn (K : PySem.W.Frag) (neg : Bool) : R2 := fun x y H Q => ∃ p xs, y = .ref p /\ (SqL K H p xs \/ SqT K H p xs) /\ B0d x = true /\ xs.all B0d = true /\ Q (.bl (if neg then !inV x xs else inV x xs)) H
theorem C1f : OpR X (compareOp .In) (rIn X.K false) := by
 intro pins s σ H x y v u Q I rx ry h
 obtain ⟨p, xs, rfl, hq, fx, fs, q⟩ := h
 cases ry
 rcases hq with hq | hq
 . obtain ⟨its, r, pl, hz⟩ := I.list hq
   refine SeqAt.in_listAt (eqU x) pl.isList (fun w hw => A5y rx fx r fs w (by simpa using hw)) ⟨.bl _, H, I, rfl, ?_⟩
   rw [show its.toArray.any (eqU x) = its.any (eqU x) by simp, A9v r fs]
   exact q
 . obtain ⟨its, r, pl, hz⟩ := I.tuple hq
   refine SeqAt.in_tupleAt (eqU x) pl (fun w hw => A5y rx fx r fs w (by simpa using hw)) ⟨.bl _, H, I, rfl, ?_⟩
   rw [show its.toArray.any (eqU x) = its.any (eqU x) by simp, A9v r fs]
   exact q
theorem C3t : OpR X (compareOp .NotIn) (rIn X.K true) := by
 intro pins s σ H x y v u Q I rx ry h
 obtain ⟨p, xs, rfl, hq, fx, fs, q⟩ := h
 cases ry
 rcases hq with hq | hq
 . obtain ⟨its, r, pl, hz⟩ := I.list hq
   refine SeqAt.notIn_listAt (eqU x) pl.isList (fun w hw => A5y rx fx r fs w (by simpa using hw)) ⟨.bl _, H, I, rfl, ?_⟩
   rw [show its.toArray.any (eqU x) = its.any (eqU x) by simp, A9v r fs]
   exact q
 . obtain ⟨its, r, pl, hz⟩ := I.tuple hq
   refine SeqAt.notIn_tupleAt (eqU x) pl (fun w hw => A5y rx fx r fs w (by simpa using hw)) ⟨.bl _, H, I, rfl, ?_⟩
   rw [show its.toArray.any (eqU x) = its.any (eqU x) by simp, A9v r fs]
   exact q
theorem C4k : A2u X (.builtin "len") (fun xs H Q => ∃ p ys, xs = [.ref p] /\ (SqL X.K H p ys \/ SqT X.K H p ys) /\ Q (.int ys.length) H) := by
 intro pins s σ H xs us Q I r h
 obtain ⟨p, ys, rfl, hq, q⟩ := h
 obtain ⟨u, rfl, rx⟩ := B6b r
 cases rx
 have hn := C3e
 rcases hq with hq | hq
 . obtain ⟨its, r', pl, hz⟩ := I.list hq
   have hlen := r'.length
   exact Calls.call_len_list pl.isList (by simp only [List.size_toArray] <;> omega) ⟨.int ys.length, H, I.tok _, ⟨s.toks + 1, by rw [List.size_toArray, hlen]⟩, q⟩
 . obtain ⟨its, r', pl, hz⟩ := I.tuple hq
   have hlen := r'.length
   exact len_tuple pl (by simp only [List.size_toArray] <;> omega) ⟨.int ys.length, H, I.tok _, ⟨s.toks + 1, by rw [List.size_toArray, hlen]⟩, q⟩
theorem A1f : A2u X (.builtin "len") (fun xs H Q => ∃ z, xs = [.str z] /\ z.length <= sizeLine /\ Q (.int z.length) H) := by
 intro pins s σ H xs us Q I r h
 obtain ⟨z, rfl, hz, q⟩ := h
 obtain ⟨u, rfl, t, rfl⟩ := B6b r
 have hn := C3e
 exact len_str (by omega) ⟨.int z.length, H, I.tok _, ⟨_, rfl⟩, q⟩
theorem A3u : A2u X (.type "list") (fun xs H Q => ∃ p ys, xs = [.ref p] /\ (SqL X.K H p ys \/ SqT X.K H p ys) /\ ∀ l, H l = none -> Q (.ref l) (upd H l (.lst ys))) := by
 intro pins s σ H xs us Q I r h
 obtain ⟨p, ys, rfl, hq, q⟩ := h
 obtain ⟨u, rfl, rx⟩ := B6b r
 cases rx
 have fin : ∀ (its : List Value), Vals ys its -> ys.length <= sizeLine -> ∀ (h' : Heap) (c' : Nat), (∀ b o', s.heap.get? b = some o' -> h'.get? b = some o') ->
     h'.get? s.heap.objs.size = some { cls := .type "list", dict := none, data := .seq its.toArray c', slots := #[] } -> EP X pins σ Q (.ref s.heap.objs.size) { s with heap := h' } := fun its r' hz h' c' kp e =>
   ⟨.ref s.heap.objs.size, _, I.laid (t' := s.toks) kp (Nat.le_refl _) (show ObjOk X.prog X.w _ h' _ (.lst ys) from ⟨hz, its, c', r', e⟩), rfl, q _ (I.hok.fresh (Nat.le_refl _))⟩
 rcases hq with hq | hq
 . obtain ⟨its, r', pl, hz⟩ := I.list hq
   have hlen := r'.length
   obtain ⟨o, ho, hc, n, hd⟩ := pl.isList
   exact call_list_seq p (.inl rfl) ho hc hd (fun h' c' kp e => fin its r' hz h' c' kp e) (by simp only [List.size_toArray] <;> omega)
 . obtain ⟨its, r', pl, hz⟩ := I.tuple hq
   have hlen := r'.length
   obtain ⟨o, ho, hc, n, hd⟩ := pl
   exact call_list_seq p (.inr rfl) ho hc hd (fun h' c' kp e => fin its r' hz h' c' kp e) (by simp only [List.size_toArray] <;> omega)
def tyV (K : PySem.W.Frag) (T : String) (x : V) (H : Hp) : Prop := match x with
 | .str _ => T = "str"
 | .int _ => T = "int"
 | .ref p => (T = "list" /\ ∃ xs, SqL K H p xs) \/ (T = "tuple" /\ ∃ o, K.lookup p = some o /\ o.cls = .type "tuple" /\ o.dict = none) \/
     (T = "dict" /\ ((∃ kvs, H p = some (.dK kvs)) \/ ∃ kvs, H p = some (.dT kvs))) \/ (T = "set" /\ ∃ S n, H p = some (.set S n))
 | _ => False
theorem J3f {pins : List (Addr × Obj)} {σ : St} {H : Hp} {s : Shared} {T : String} {x : V} {v : Value} (I : Inv X pins σ H s) (r : RelV x v) (ty : tyV X.K T x H) :
   s.TypeIs v T /\ ∀ a, v = .ref a -> ∃ ob, s.heap.get? a = some ob /\ ob.dict = none := by
 cases x with
 | str z =>
   obtain ⟨t, rfl⟩ := r
   cases (show T = "str" from ty)
   exact ⟨typeIs_str s z t, fun _ e => nomatch e⟩
 | int i =>
   obtain ⟨t, rfl⟩ := r
   cases (show T = "int" from ty)
   exact ⟨typeIs_int s i t, fun _ e => nomatch e⟩
 | ref p =>
   cases r
   rcases ty with ⟨rfl, xs, hq⟩ | ⟨rfl, o, hk, hc, hd⟩ | ⟨rfl, hk⟩ | ⟨rfl, S, n, hk⟩
   . obtain ⟨its, _, pl, _⟩ := I.list hq
     refine ⟨pl.isList.typeIs, fun a e => ?_⟩
     cases e
     obtain ⟨o, n, e, c, hd, _⟩ := pl
     exact ⟨o, e, hd⟩
   . refine ⟨⟨o, I.kIn p o hk, hc⟩, fun a e => ?_⟩
     cases e
     exact ⟨o, I.kIn _ o hk, hd⟩
   . have z : ∃ o, s.heap.get? p = some o /\ o.ExactDict := by
       rcases hk with ⟨kvs, hk⟩ | ⟨kvs, hk⟩
       . obtain ⟨_, _, _, _, o, _, _, e, ex, _⟩ := I.hok p _ hk
         exact ⟨o, e, ex⟩
       . obtain ⟨_, _, _, _, o, _, _, e, ex, _⟩ := I.hok p _ hk
         exact ⟨o, e, ex⟩
     obtain ⟨o, e, ex⟩ := z
     refine ⟨⟨o, e, ex.1⟩, fun a e2 => ?_⟩
     cases e2
     exact ⟨o, e, ex.2.1⟩
   . obtain ⟨o, _, _, _, e, ex, _⟩ := I.hok p _ hk
     refine ⟨⟨o, e, ex.1⟩, fun a e2 => ?_⟩
     cases e2
     exact ⟨o, e, ex.2.1⟩
 | _ => exact False.elim ty
def Y4j (K : PySem.W.Frag) (T : String) (r : V -> List V -> Hp -> VK -> Prop) (to : TE) : TE := fun σ H Q => to σ H fun x H1 => tyV K T x H1 /\ r x [] H1 Q
def tBM (K : PySem.W.Frag) (T : String) (r : V -> List V -> Hp -> VK -> Prop) (to : TE) (t : TA) : TE := fun σ H Q => to σ H fun x H1 => tyV K T x H1 /\ t σ H1 fun xs H2 => r x xs H2 Q
variable {o e : Expr} {es : List Expr} {to : TE} {t : TA} {name : Str} {apos cpos : Pos} {T id : String} {r : V -> List V -> Hp -> VK -> Prop}
theorem V5a (pa : PlainAttrs T) (slot : Slot T name id) (hty : typeOf (.builtin id) = pure (.type "method_descriptor")) (hm : MtR X id r) (ho : PE X o to)
   (hbase : attributeBase o name X.env (eval o X.env) = eval o X.env := by rfl) (hline : (apos.endLine == cpos.line) = true := by rfl) : PE X (.Call (.Attribute o name apos) [] [] cpos) (Y4j X.K T r to) := by
 intro pins s σ H Q I h
 refine wpAny_Call_method0_late hbase hline (thn (ho pins s σ H _ I h) fun v s1 ⟨x, H1, I1, r1, ty, q1⟩ => ?_)
 obtain ⟨h1, h2⟩ := J3f I1 r1 ty
 exact ⟨T, id, pa, slot, hty, h1, h2, Calls.callWith_builtin rfl (PySem.evalArgs_none (hm pins s1 σ H1 x [] v [] Q I1 r1 .nil q1))⟩
theorem Y2j (pa : PlainAttrs T) (slot : Slot T name id) (hty : typeOf (.builtin id) = pure (.type "method_descriptor")) (hm : MtR X id r) (ho : PE X o to) (ha : PA X (e :: es) t)
   (hbase : attributeBase o name X.env (eval o X.env) = eval o X.env := by rfl)
   (hfew : ((backTo cpos (starEach (e :: es) X.env)).all (fun x => !x.1) && (backToKw cpos (keywordEach [] X.env)).all (fun x => x.1.isSome)
     && decide ((e :: es).length + ([] : List Keyword).length + (if ([] : List Keyword).isEmpty then 0 else 1) < 30)) = true := by rfl)
   (hline : (apos.endLine == cpos.line) = true := by rfl) (hs : starEach (e :: es) X.env = (false, eval e X.env) :: starEach es X.env := by rfl) (hplain : (backTo cpos (starEach es X.env)).any (·.1) = false := by rfl) :
   PE X (.Call (.Attribute o name apos) (e :: es) [] cpos) (tBM X.K T r to t) := by
 intro pins s σ H Q I h
 refine wpAny_Call_method_late hbase hfew hline rfl (thn (ho pins s σ H _ I h) fun v s1 ⟨x, H1, I1, r1, ty, q1⟩ => ?_)
 obtain ⟨h1, h2⟩ := J3f I1 r1 ty
 refine ⟨T, id, pa, slot, hty, h1, h2, ?_⟩
 have hA := ha cpos pins s1 σ H1 _ I1 q1
 rw [hs] at hA ⊢
 refine Calls.callWith_builtin (by show (false || (backTo cpos (starEach es X.env)).any (·.1)) = false; rw [hplain] <;> rfl) (Calls.evalArgs_plain ?_)
 exact thn hA fun us s2 ⟨vs, H2, I2, r2, q2⟩ => hm pins s2 σ H2 x vs v us Q I2 r1 r2 q2
end
def MtM (X : Cx) (id : String) (r : V -> List V -> Hp -> VK -> Prop) : Prop :=
 ∀ (pins : List (Addr × Obj)) (s : Shared) (σ : St) (H : Hp) (x : V) (xs : List V) (v : Value) (us : List Value) (Q : VK), Inv X pins σ H s -> RelV x v -> Vals xs us -> r x xs H Q ->
   wpAny (model X.prog X.w) X.A (call (.builtin id) (v :: us)) (EP X pins σ Q) X.xe s
theorem Vals.one : ∀ {x : V} {us : List Value}, Vals [x] us -> ∃ u, us = [u] /\ RelV x u
 | _, _, .cons r .nil => ⟨_, rfl, r⟩
theorem Vals.two : ∀ {x y : V} {us : List Value}, Vals [x, y] us -> ∃ u v, us = [u, v] /\ RelV x u /\ RelV y v
 | _, _, _, .cons r (.cons q .nil) => ⟨_, _, rfl, r, q⟩
theorem Vals.reverse {xs : List V} {us : List Value} (h : Vals xs us) : Vals xs.reverse us.reverse := by
 induction h with
 | nil => exact .nil
 | cons r t ih => rw [List.reverse_cons, List.reverse_cons]; exact Vals.append ih (.cons r .nil)
section
variable {X : Cx} {pins : List (Addr × Obj)} {σ : St} {H : Hp} {s : Shared} {l b : Addr} {xs ys zs : List V}
theorem Inv.lset {its its' : List Value} {n : Nat} {f : Array Value -> Array Value} {t' : Nat} (I : Inv X pins σ H s) (hH : H l = some (.lst xs))
   (e : s.heap.get? l = some { cls := .type "list", data := .seq its.toArray n }) (hf : f its.toArray = its'.toArray) (hv : Vals ys its') (hz : ys.length <= sizeLine) :
   Inv X pins σ (upd H l (.lst ys)) { s with heap := s.heap.update l (Obj.mapSeq f), toks := t' } := by
 have q := PySem.IsL.update e f
 rw [hf] at q
 refine I.write (x := l) (e := l) (by rw [hH]; exact trivial) (.inl rfl) (fun b' u hb hu => (Heap.get?_update_other s.heap (Obj.mapSeq f) (Ne.symm hb)).trans hu) ⟨_, q⟩ ?_
 exact ⟨hz, its', _, hv, q⟩
theorem Inv.lnew {its : List Value} {t' : Nat} (I : Inv X pins σ H s) (hv : Vals ys its) (hz : ys.length <= sizeLine) :
   Inv X pins σ (upd H s.heap.objs.size (.lst ys)) { s with heap := s.heap.push { cls := .type "list", data := .seq its.toArray }, toks := t' } :=
 I.laid (fun _ _ q => Heap.get?_push_of_some _ q) (Nat.le_refl _) ⟨hz, its, 0, hv, Heap.get?_push_size _ rfl⟩
theorem Inv.fresh (I : Inv X pins σ H s) : H s.heap.objs.size = none := I.hok.fresh (Nat.le_refl _)
theorem Inv.lstM (I : Inv X pins σ H s) (hH : H l = some (.lst xs)) : xs.length <= sizeLine /\ ∃ (its : List Value) (n : Nat), Vals xs its /\ xs.length = its.length /\ s.heap.get? l = some { cls := .type "list", data := .seq its.toArray n } := by
 obtain ⟨z, its, n, r, e⟩ := I.hok l _ hH
 exact ⟨z, its, n, r, r.length, e⟩
end
section
variable {X : Cx}
def U8z : V -> List V -> Hp -> VK -> Prop := fun x vs H Q => ∃ l xs y, x = .ref l /\ vs = [y] /\ H l = some (.lst xs) /\ xs.length < sizeLine /\ Q .non (upd H l (.lst (xs ++ [y])))
theorem B0r : MtM X "list.append" U8z := by
 intro pins s σ H x vs v us Q I rx rv h
 obtain ⟨l, xs, y, rfl, rfl, hH, hz, q⟩ := h
 cases rx
 obtain ⟨u, rfl, ru⟩ := rv.one
 obtain ⟨z, its, n, r, hl, e⟩ := I.lstM hH
 refine call_meets F.slot_list_append ⟨_, e, rfl⟩ F.entry_list_append (F.args_list_append_2 _ _) (PySem.list_append l its.toArray n u (by rw [List.size_toArray]; omega)) ⟨e, ?_⟩
 refine ⟨.non, _, I.lset (its' := its ++ [u]) hH e (by simp) (r.append (.cons ru .nil)) ?_, rfl, q⟩
 rw [List.length_append, List.length_singleton]
 omega
def Y4e : R2 := fun x y H Q => ∃ l b xs zs, x = .ref l /\ y = .ref b /\ H l = some (.lst xs) /\ H b = some (.lst zs) /\ xs.length + zs.length <= sizeLine /\ ∀ p, H p = none -> Q (.ref p) (upd H p (.lst (xs ++ zs)))
theorem D3h : OpR X (binaryOp .Add) Y4e := by
 intro pins s σ H x y v u Q I rx ry h
 obtain ⟨l, b, xs, zs, rfl, rfl, hH, hB, hz, q⟩ := h
 cases rx
 cases ry
 obtain ⟨z, its, n, r, hl, e⟩ := I.lstM hH
 obtain ⟨z2, its2, n2, r2, hl2, e2⟩ := I.lstM hB
 refine PySem.P.add_list e e2 ?_ (by rw [List.size_toArray, List.size_toArray]; omega)
 have ea : its.toArray ++ its2.toArray = (its ++ its2).toArray := by simp
 rw [ea]
 exact ⟨.ref _, _, I.lnew (t' := s.toks) (r.append r2) (by rw [List.length_append]; omega), rfl, q _ I.fresh⟩
theorem U9m {α : Type} (xs : List α) (k : Nat) : (List.replicate k xs).flatten.length = k * xs.length := by
 induction k with
 | zero => simp
 | succ k ih => rw [List.replicate_succ, List.flatten_cons, List.length_append, ih, Nat.succ_mul, Nat.add_comm]
end
section
variable {prog : Program} {w : World} {A : Around} {E : Value -> Shared -> Prop} {s : Shared}
end
section
variable {X : Cx}
end
end L2
namespace Att
open PySem PySem.W PySem.Calls PyProof.Rows
theorem B5e {P : Params} {h : Heap} : ∀ (ns : List Int) (vs : List Value), WellAll P h vs (ns.map WData.int) -> IntsAre vs ns := by
 intro ns
 induction ns with
 | nil =>
   intro vs w
   rw [List.map_nil] at w
   cases w
   exact .nil
 | cons n ns ih =>
   intro vs w
   rw [List.map_cons] at w
   cases w with
   | cons a b =>
     cases a
     exact .cons _ _ (ih _ b)
theorem G6c {l : OpenLaw} {n : Nat} (hn : l.most = some n) {P : Params} {h : Heap} {args : List WData} {vals : List Value}
   (hpre : l.row.toRowW.claim.pre args = true) (hwl : WellAll P h vals args) :
   ∃ a vs ns, vals = [Value.ref a] /\ args = [WData.list (ns.map WData.int)] /\ h.get? a = some { cls := .type "list", data := .seq vs.toArray } /\ IntsAre vs ns /\ ns.length <= n := by
 have hsh : WShape.hasAll [] args [.list .int] = true := (pre_splitW hpre).1
 have hc : l.pre.holds [] { args := args } = true := (pre_splitW hpre).2
 obtain ⟨d, r, rfl, h1, h2⟩ := hasAllW_cons hsh
 obtain rfl := hasAllW_nil h2
 obtain ⟨xs, rfl, h3⟩ := hasW_list h1
 obtain ⟨ns, rfl⟩ := items_int h3
 have hlen : ns.length <= n := by
   unfold OpenLaw.pre at hc
   have h4 : (WTm.not (.lt (.lit (.int (n : Int))) (.len (.arg 0)))).holds [] { args := [.list (ns.map .int)] } = true := by
     have h4 := (holds_andW hc).1
     rw [hn] at h4
     exact h4
   have h5 := condW_of h4 (w_not (w_lt w_lit (w_len_list (w_arg rfl))))
   rw [List.length_map] at h5
   refine Nat.le_of_not_lt fun q => ?_
   have q' : (n : Int) < ((ns.length : Nat) : Int) := by omega
   first
     | (rw [decide_eq_true q'] at h5; exact absurd h5 (by decide))
     | (simp at h5; omega)
 cases hwl with
 | cons w1 w2 =>
   cases w2
   cases w1 with
   | list ho hall => exact ⟨_, _, ns, rfl, rfl, ho, B5e ns _ hall, hlen⟩
theorem G7j (l : OpenLaw) (args : List WData) : l.row.toRowW.claim.post args (.bool true) args = true :=
 postW_of (r := l.row.toRowW) (X := (true == true))
   (show WShape.has [] (.bool true) .bool = true by first | rfl | decide | simp [WShape.has, WShape.arms, WShape.armsAll])
   (show (WTm.eq .res (.lit (.bool true))).value [] { args := args, res := some (.bool true), after := args } = some (.bool (true == true)) from w_eq_bool (w_res rfl) w_lit) rfl
theorem attach_call {l : OpenLaw} {n : Nat} {q : Program} {loose : List Str} {XP : (Str -> Option Value) -> Heap -> Prop} {YP : World -> Heap -> Prop} {d : DefRec}
   (hn : l.most = some n) (hdf : d.params.defaults = [])
   (call : ∀ (w : World) (s₀ s₁ : Shared) (mg mb : Str -> Option Value) (fa : Addr) (o : Obj) (pm cd doc : Value) (a : Addr) (vs : List Value) (ns : List Int),
     Ground q loose [] XP w s₀ mg mb s₁.heap -> YP w s₁.heap ->
     s₁.heap.get? fa = some o -> o.data = .func (docDef d.name d.params d.body d.scope pm cd doc) -> s₁.heap.CodeRec cd d.name -> mg d.name = some (.ref fa) ->
     s₁.heap.get? a = some { cls := .type "list", data := .seq vs.toArray } -> IntsAre vs ns -> ns.length <= n -> s₁.gens = #[] ->
     codeAny (model l.prog w) callerA (.call (.ref fa) ⟨[.ref a], []⟩) (fun r s' => r = .ok (.ret (.bool true)) /\ OldK s₁.heap s'.heap /\ s'.os = s₁.os /\ AllBare s'.gens) s₁) :
   WalkO q loose XP YP l.row.toRowW d [] (fun f vs => PySem.call f vs) := by
 intro w s₀ s₁ mg mb G Y fa o pm cd doc dV kV ho hd hcd hD hmg hg args vals as hpre hlay hrd hwl hlo
 obtain rfl : dV = .none := Dflts.none hD hdf
 obtain rfl : kV = .none := Dflts.noKw hD
 obtain ⟨a, vs, ns, rfl, rfl, hobj, hints, hlen⟩ := G6c hn hpre hwl
 refine enter_call (codeAny_mono (call w s₀ s₁ mg mb fa o pm cd doc a vs ns G Y ho (fd_plain hd) hcd hmg hobj hints hlen hg) fun r s' hq => ?_)
 obtain ⟨rfl, h2, h3, h4⟩ := hq
 exact ⟨.inl ⟨.bool true, .bool true, [], rfl, fun _ => rfl, .bool true, G7j l _, fun _ => ⟨List.Pairwise.nil, fun _ hm => (nomatch hm)⟩⟩, h2, h3, h4⟩
section
variable {prog : Program} {w : World} {A : Around} {E : Value -> Shared -> Prop} {s : Shared} {K : Frag}
end
end Att
namespace L2
open PySem PySem.Spec PyProof.Rows
theorem C1p : ∀ {vs : List Value} {ns : List Int}, IntsAre vs ns -> Vals (ns.map V.int) vs
 | _, _, .nil => .nil
 | _, _, .cons n t h => .cons ⟨t, rfl⟩ (C1p h)
def U7 (s : Stmt) (j : Nat) : Stmt := match s with
 | .ClassDef _ _ _ body _ _ _ _ _ _ _ => body.getD j (.Pass ⟨0, 0, 0, 0⟩)
 | _ => .Pass ⟨0, 0, 0, 0⟩
def B7 (s : Stmt) : Arguments := match s with
 | .FunctionDef _ a _ _ _ _ _ _ _ _ => a
 | _ => { posonlyargs := [], args := [], vararg := none, kwonlyargs := [], kw_defaults := [], kwarg := none, defaults := [] }
def B4 (s : Stmt) : List Stmt := match s with
 | .FunctionDef _ _ b _ _ _ _ _ _ _ => b
 | _ => []
def A3 (s : Stmt) : Scope := match s with
 | .FunctionDef _ _ _ _ _ _ sc _ _ _ => sc
 | _ => { kind := .function, names := [], isGenerator := false, isCoroutine := false }
abbrev CX0 : CXT := fun _ _ _ _ _ _ => False
abbrev E0 : XK := fun _ _ _ => False
theorem J3u {X : Cx} : D4u CX0 X E0 := fun _ _ _ _ _ _ _ h => h.elim
structure Fun (K : PySem.W.Frag) (x qual : Str) (st : Stmt) (f : Addr) (fd : FuncData) : Prop where
 ex : ∃ (oc : Value) (od : Option Addr) (kV doc pm : Value) (an : Option Addr) (cdv ct : Value) (osl : Array (Option Value)),
   fd = PySem.W.fnOf x qual (B7 st) (B4 st) (A3 st) .none kV doc pm an cdv ct /\ K.lookup f = some ⟨oc, od, .func fd, osl⟩ /\ PySem.W.codeIn K cdv qual = true
 kp : PySem.W.keepIn K (.ref f) = true
section
variable {P : Program} {w : World} {K : PySem.W.Frag} {mg : Str -> Option Value} {base : Heap}
theorem Fun.ok {x qual : Str} {st : Stmt} {f : Addr} {fd : FuncData} {N ps : List Str} {k : Nat} {sp : Sp} (F : Fun K x qual st f fd) (S : FnScope N ps (A3 st)) (len : ∀ vs H Q E, sp vs H Q E -> vs.length = ps.length)
   (hbody : ∀ (cdv : Value) (A : Around) (outer : List Env) (s : Shared) (H : Hp) (vs : List V) (Q : VK) (E : XK), Room k (A.deeper (envOfC qual (A3 st) s.heap.objs.size f cdv)) -> sp vs H Q E ->
     ∃ t, PSs (Z8 CX0 P w K mg base N qual (A3 st) f cdv A outer s H E).nox (B4 st) t /\ t { nx := fun _ H' => Q .non H', rt := Q } (A1x N vs) H) : FnOk P w K mg base CX0 (k + 1) f fd ps sp := by
 obtain ⟨oc, od, kV, doc, pm, an, cdv, ct, osl, rfl, lk, hcd⟩ := F.ex
 refine J4j lk hcd S len fun A outer s H vs Q E hr hsp => ?_
 obtain ⟨t, h, q⟩ := hbody cdv A outer s H vs Q E hr hsp
 exact ⟨t, h.nox, q⟩
theorem Fun.binds {x qual : Str} {st : Stmt} {f : Addr} {fd : FuncData} {ps : List Str} (F : Fun K x qual st f fd)
   (h : ∀ (kV doc pm : Value) (an : Option Addr) (cdv ct : Value) (us : List Value), us.length = ps.length -> bindArgs (PySem.W.fnOf x qual (B7 st) (B4 st) (A3 st) .none kV doc pm an cdv ct) ⟨us, []⟩ = pure (ps.zip us)) : Binds K fd ps [] := by
 obtain ⟨oc, od, kV, doc, pm, an, cdv, ct, osl, rfl, lk, hcd⟩ := F.ex
 exact .all (h kV doc pm an cdv ct)
theorem V7 {x qual : Str} {st : Stmt} {f : Addr} {oc : Value} {od an : Option Addr} {osl : Array (Option Value)} {kV doc pm cdv ct : Value} (l : K.lookup f = some ⟨oc, od, .func (PySem.W.fnOf x qual (B7 st) (B4 st) (A3 st) .none kV doc pm an cdv ct), osl⟩)
   (c : PySem.W.codeIn K cdv qual = true) (k : PySem.W.keepIn K (.ref f) = true) : Fun K x qual st f (PySem.W.fnOf x qual (B7 st) (B4 st) (A3 st) .none kV doc pm an cdv ct) := ⟨⟨oc, od, kV, doc, pm, an, cdv, ct, osl, rfl, l, c⟩, k⟩
end
theorem G7 {n : Nat} (h : n <= 1000) : n < sizeLine := Nat.lt_of_le_of_lt h (by decide)
section
variable {X : Cx}
theorem pv (i : Nat) {x : Str} {pos : Pos} (hN : X.N[i]? = some x := by rfl) (hv : Vis X.env.scope x := by first | exact Or.inl rfl | exact Or.inr (Or.inl rfl) | exact Or.inr (Or.inr rfl)) (hd : (x == ("__debug__" : Str)) = false := by decide)
   (hcd : (x == ("__classdict__" : Str)) = false := by decide) : PE X (.Name x pos) (V6t i) := J4x hN hv hd hcd
end
theorem Z2 {A B : Prop} (h : B) : if false = true then A else B := by
 rw [if_neg Bool.false_ne_true]
 exact h
theorem A1n {A B : Prop} (h : A) : if true = true then A else B := by
 rw [if_pos rfl]
 exact h
theorem Y2c {c A B : Prop} [Decidable c] (hc : c) (h : B) : if (!decide c) = true then A else B := by
 rw [decide_eq_true hc]
 exact Z2 h
def Same (H H' : Hp) : Prop := ∀ b o, H b = some o -> H' b = some o
theorem Same.refl (H : Hp) : Same H H := fun _ _ h => h
theorem Same.trans {H H1 H2 : Hp} (a : Same H H1) (b : Same H1 H2) : Same H H2 := fun c o h => b c o (a c o h)
theorem Same.free {H H' : Hp} (e : Same H H') {l : Addr} (h : H' l = Option.none) : H l = Option.none := by
 cases q : H l with
 | none => rfl
 | some o =>
   rw [e l o q] at h
   cases h
theorem Same.seq {K : PySem.W.Frag} {H H' : Hp} {a : Addr} {xs : List V} (e : Same H H') (h : SqL K H a xs) : SqL K H' a xs := by
 rcases h with (h | ⟨o, h⟩) | h
 . exact .inl (.inl (e _ _ h))
 . exact .inl (.inr ⟨o, e _ _ h⟩)
 . exact .inr h
end L2
set_option maxHeartbeats 4000000
namespace L2
open PySem PySem.Spec PyProof.Rows
abbrev Y9 (C : Value) (t : Addr) (dd : Option Addr) (tb : Value) : Obj :=
 { cls := C, dict := dd, data := .fields #[.ref t, tb, .none, .none, .bool false, .none] }
structure Noted (fs : List Addr) (h h' : Heap) (a : Addr) (C : Value) (t : Addr) (dd : Option Addr) (T : Addr) (fl : Value) : Prop where
 keep : ∀ b o, b ∉ fs -> b ≠ a -> h.get? b = some o -> h'.get? b = some o
 slot : ∀ b o, b ≠ a -> h.get? b = some o -> ∃ sl, h'.get? b = some { o with slots := sl }
 new : h.get? T = none
 ne : T ≠ a
 exc : h'.get? a = some (Y9 C t dd (.ref T))
 tbk : ∃ oT ts, h'.get? T = some oT /\ oT.data = .fields ts /\ ts[3]? = some fl
section
variable {M : Model} {A : Around} {E : Value -> Shared -> Prop} {s : Shared} {base : Heap} {env : Env} {outer : List Env} {L a t : Addr} {C : Value} {dd : Option Addr} {tb : Value} {Q : Unit -> Shared -> Prop}
theorem U8g {oa : Obj} {vs : Array Value} {l : List Env} (hl : s.heap.FunFrames base l) (ha : s.heap.get? a = some oa) (hd : oa.data = .fields vs) : a ∉ l.filterMap (·.frame) := by
 intro hm
 obtain ⟨_, o, ho, hn⟩ := hl.mem hm
 rw [ha] at ho
 cases ho
 exact hn vs hd
theorem G4w {head : Value} {hn : Bool} (hfr : A.frames = some (env :: outer)) (hl : s.heap.FunFrames base (env :: outer)) (hf : env.frame = some L)
   (ha : s.heap.get? a = some (Y9 C t dd tb))
   (h : ∀ h' T, Noted ((env :: outer).filterMap (·.frame)) s.heap h' a C t dd T (rawInt L) -> Q () { s with heap := h' }) :
   wpAny M A (do
     let x <- frameOf env
     let pl <- entryPlaceOf L hn
     let b <- EntryCells.newEntry head x .none (rawInt L) .none pl
     setField (.ref a) 1 b) Q E s := by
 have na := U8g hl ha rfl
 refine wpAny_bind (wpAny_frameOf_fun hfr hl hf fun g hg => ?_)
 refine wpAny_bind (wpAny_entryPlaceOf fun pl hpl => ?_)
 unfold EntryCells.newEntry newFields
 refine wpAny_bind (wpAny_newObj_type ?_ (hpl.sizeOk5 _ _ _ _ _))
 have a1 : g.get? a = some (Y9 C t dd tb) := (hg.2.1 a na).trans ha
 have a2 := fun (z : Obj) => Heap.get?_push_of_some (h := g) z a1
 have nT : g.objs.size ≠ a := Nat.ne_of_gt (Heap.lt_size a1)
 refine wpAny_setField (a2 _) rfl (by show 1 < 6; decide) (h _ g.objs.size ?_)
 have up : ∀ (z : Obj) (f : Obj -> Obj) b o, b ≠ a -> g.get? b = some o -> ((g.push z).update a f).get? b = some o := by
   intro z f b o hb e
   rw [Heap.get?_update_other _ _ (Ne.symm hb)]
   exact Heap.get?_push_of_some _ e
 refine ⟨fun b o hb hba e => up _ _ b o hba ((hg.2.1 b hb).trans e), fun b o hba e => ?_, ?_, nT, ?_, ?_⟩
 . obtain ⟨sl, e1⟩ := hg.2.2 b o e
   exact ⟨sl, up _ _ b _ hba e1⟩
 . refine Heap.get?_none_of_le ?_
   rw [hg.1]
   exact Nat.le_refl _
 . exact Heap.get?_update_self _ (a2 _) rfl
 . refine ⟨_, _, (Heap.get?_update_other _ _ (Ne.symm nT)).trans (Heap.get?_push_size _ rfl), rfl, ?_⟩
   first
     | (simp; done)
     | (rcases hpl with rfl | ⟨_, _, _, _, _, _, _, rfl⟩ <;> simp)
def V5r (h : Heap) (a : Addr) (tb : Value) : Prop := tb = .none \/ ∃ T oT ts, tb = .ref T /\ T ≠ a /\ h.get? T = some oT /\ oT.data = .fields ts /\ ts[3]? = some .none
theorem V6m (hfr : A.frames = some (env :: outer)) (hl : s.heap.FunFrames base (env :: outer)) (hf : env.frame = some L)
   (ha : s.heap.get? a = some (Y9 C t dd tb)) (ht : V5r s.heap a tb)
   (h : ∀ h' T, (∀ b o, b ∉ (env :: outer).filterMap (·.frame) -> b ≠ a -> tb ≠ .ref b -> s.heap.get? b = some o -> h'.get? b = some o) ->
     (∀ b o, b ≠ a -> tb ≠ .ref b -> s.heap.get? b = some o -> ∃ sl, h'.get? b = some { o with slots := sl }) -> s.heap.get? T = none -> T ≠ a ->
     h'.get? a = some (Y9 C t dd (.ref T)) -> (∃ oT ts, h'.get? T = some oT /\ oT.data = .fields ts /\ ts[3]? = some (rawInt L)) -> Q () { s with heap := h' }) :
   wpAny M A (noteFrame (.ref a) env) Q E s := by
 unfold noteFrame
 simp only [hf]
 refine wpAny_bind (wpAny_field ha rfl (x := tb) rfl ?_)
 rcases ht with rfl | ⟨T, oT, ts, rfl, nT, hT, dT, h3⟩
 . rw [if_neg (by decide)]
   refine G4w hfr hl hf ha fun h' T N => ?_
   exact h h' T (fun b o hb hba _ e => N.keep b o hb hba e) (fun b o hba _ e => N.slot b o hba e) N.new N.ne N.exc N.tbk
 . rw [if_pos (show (Value.ref T != Value.none) = true by simp)]
   refine wpAny_bind (wpAny_field hT dT h3 ?_)
   rw [if_neg (show ¬ ((Value.none == rawInt L) = true) by simp [rawInt])]
   refine wpAny_bind (wpAny_setField hT dT (Array.getElem?_eq_some_iff.mp h3).1 ?_)
   have oth : ∀ (f : Obj -> Obj) b, b ≠ T -> (s.heap.update T f).get? b = s.heap.get? b := fun f b hb => Heap.get?_update_other _ _ (Ne.symm hb)
   have nrec : ∀ b o, s.heap.get? b = some o -> (∀ vs, o.data ≠ .fields vs) -> b ≠ T := by
     intro b o e hn q
     rw [q, hT] at e
     cases e
     exact hn ts dT
   refine G4w (s := { s with heap := _ }) hfr (hl.of_keeps fun b o e hn => ⟨o, (oth _ b (nrec b o e hn)).trans e, rfl⟩) hf ((oth _ a (Ne.symm nT)).trans ha) fun h' T' N => ?_
   have neb : ∀ b, Value.ref T ≠ Value.ref b -> b ≠ T := fun b q z => q (by rw [z])
   refine h h' T' (fun b o hb hba hbT e => N.keep b o hb hba ((oth _ b (neb b hbT)).trans e)) (fun b o hba hbT e => N.slot b o hba ((oth _ b (neb b hbT)).trans e)) ?_ N.ne N.exc N.tbk
   have nw := N.new
   by_cases q : T' = T
   . subst q
     have := Heap.get?_update_self (Obj.mapFields (·.setIfInBounds 3 Value.none)) hT (Obj.isFreed_of_fields (Obj.data_mapFields dT _))
     rw [nw] at this
     cases this
   . rw [oth _ T' q] at nw
     exact nw
theorem V6n {T : Addr} {oT : Obj} {ts : Array Value} {fl : Value} (ha : s.heap.get? a = some (Y9 C t dd (.ref T))) (nT : T ≠ a) (hT : s.heap.get? T = some oT) (dT : oT.data = .fields ts) (h3 : ts[3]? = some fl)
   (h : ∀ h', (∀ b o, b ≠ T -> s.heap.get? b = some o -> h'.get? b = some o) -> V5r h' a (.ref T) -> Q () { s with heap := h' }) : wpAny M A (setFlight (.ref a) none) Q E s := by
 have sz : 3 < ts.size := (Array.getElem?_eq_some_iff.mp h3).1
 unfold setFlight
 refine wpAny_bind (wpAny_field ha rfl (x := .ref T) rfl ?_)
 rw [if_pos (show (Value.ref T != Value.none) = true by simp)]
 refine wpAny_setField hT dT sz (h _ (fun b o hb e => (Heap.get?_update_other _ _ (Ne.symm hb)).trans e) ?_)
 have d2 := Obj.data_mapFields dT (·.setIfInBounds 3 ((none : Option Addr).elim Value.none fun f => rawInt f))
 exact .inr ⟨T, _, _, rfl, nT, Heap.get?_update_self _ hT (Obj.isFreed_of_fields d2), d2, by simp [sz]⟩
end
def Hd (A : Around) (h : Heap) : Prop := A.handled = none \/ ∃ x ox vs, A.handled = some (.ref x) /\ h.get? x = some ox /\ ox.data = .fields vs /\ vs[2]? = some .none
theorem C0w : entryFor table "proto.unchain" = some Builtin.«proto.unchain» := entryFor_of_tree (by kernel_rfl)
section
variable {prog : Program} {w : World} {A : Around} {E : Value -> Shared -> Prop} {s : Shared}
theorem C9c {α : Type} {a : Addr} {oa : Obj} {ws : Array Value} {h₀ : Heap} {Q : α -> Shared -> Prop} (hd : Hd A h₀) (k : ∀ b o, h₀.get? b = some o -> s.heap.get? b = some o) (na : h₀.get? a = none)
   (ha : s.heap.get? a = some oa) (da : oa.data = .fields ws) (h2 : 2 < ws.size)
   (h : ∀ h', (∀ b o, b ≠ a -> s.heap.get? b = some o -> h'.get? b = some o) -> (∃ o', h'.get? a = some o' /\ o'.cls = oa.cls) -> E (.ref a) { s with heap := h' }) :
   wpAny (model prog w) A (raiseNew (.ref a) : Sem α) Q E s := by
 unfold raiseNew
 refine wpAny_bind (wpAny_handled ?_)
 rcases hd with z | ⟨x, ox, vs, z, e, d, n⟩
 . rw [z]
   exact wpAny_bind (wpAny_pure (wpAny_throw (h _ (fun b o _ e => e) ⟨_, ha, rfl⟩)))
 . rw [z]
   have nx : x ≠ a := by
     intro q
     rw [q, na] at e
     cases e
   dsimp only
   rw [if_pos (show (Value.ref x != Value.ref a) = true by simpa using nx)]
   refine wpAny_bind (wpAny_holding (wpAny_runValue (codeAny_builtin C0w ?_)))
   unfold Builtin.«proto.unchain»
   dsimp only
   refine wpAny_bind (wpAny_field (k x ox e) d n ?_)
   rw [if_pos (by decide)]
   refine wpAny_pure ?_
   dsimp only
   unfold updateField
   refine wpAny_bind (wpAny_bind (wpAny_load ha ?_))
   rw [da]
   dsimp only
   rw [if_pos h2]
   refine wpAny_update ha (wpAny_throw (h _ (fun b o hb e => (Heap.get?_update_other _ _ (Ne.symm hb)).trans e) ⟨_, Heap.get?_update_self _ ha (Obj.isFreed_of_fields (Obj.data_mapFields da _)), Obj.cls_mapFields _ _⟩))
theorem G4m {α : Type} {Q : α -> Shared -> Prop} (hd : Hd A s.heap)
   (h : ∀ h' e, (∀ b o, s.heap.get? b = some o -> h'.get? b = some o) -> ({ s with heap := h' } : Shared).TypeIs (.ref e) "StopIteration" -> E (.ref e) { s with heap := h' }) :
   wpAny (model prog w) A (newExc (.type "StopIteration") [] >>= fun e => (raiseNew e : Sem α)) Q E s := by
 refine wpAny_bind ?_
 simp only [newExc, newTuple]
 refine wpAny_bind (wpAny_newObj_type ?_ (by size_fits)); refine wpAny_bind (m := firstArgMember _ _) (wpAny_of_eq (a := Value.none) (by first | rfl | (simp only [firstArgMember]; rfl)) ?_)
 refine wpAny_newObj_type ?_ (by size_fits); dsimp only
 have k1 : ∀ (z : Obj) b o, s.heap.get? b = some o -> (s.heap.push z).get? b = some o := fun z b o e => Heap.get?_push_of_some _ e
 have k2 : ∀ (z y : Obj) b o, s.heap.get? b = some o -> ((s.heap.push z).push y).get? b = some o := fun z y b o e => Heap.get?_push_of_some _ (Heap.get?_push_of_some _ e)
 have nw : ∀ (z : Obj), s.heap.get? (s.heap.push z).objs.size = none := fun z => Heap.get?_none_of_le (by rw [Heap.size_push]; exact Nat.le_succ _)
 refine C9c (s := { s with heap := _ }) (h₀ := s.heap) hd (k2 _ _) (nw _) (Heap.get?_push_size _ rfl) rfl (by show 2 < 6; decide) fun h' k ⟨o', e', c'⟩ => h h' _ (fun b o e => ?_) ⟨o', e', c'⟩
 refine k b o ?_ (k2 _ _ b o e)
 intro q; rw [q, nw] at e; cases e
theorem B0p {it l : Addr} {i : Nat} {items : Array Value} {Q : Option Value -> Shared -> Prop} (hd : ∀ h' : Heap, Heap.ExtBut it s.heap h' -> Hd A h')
   (hit : s.heap.IsListIter it l i) (hl : s.heap.IsList l items) (hx : items[i]? = none)
   (hQ : ∀ h', Heap.ExtBut it s.heap h' -> Q none { s with heap := h' }) : wpAny (model prog w) A (pyNext (.ref it)) Q E s := by
 obtain ⟨o, ho, hc, dt⟩ := id hit
 obtain ⟨ol, hol, _, nl, dl⟩ := hl
 unfold pyNext
 refine wpAny_bind (wpAny_attempt (wpAny_callSpecial?_slot (name := Str.ofString "__next__") hit.typeIs slot_listiter_next (wpAny_call_entry slot_listiter_next hit.typeIs entry_listiter_next ?_ (args_listiter_next _))))
 show wpAny _ _ (field (.ref it) 0 >>= _) _ _ _; refine wpAny_bind (wpAny_field ho dt (x := .ref l) rfl ?_)
 show wpAny _ _ (if (Value.ref l == Value.none) = true then _ else _) _ _ _; rw [if_neg (show ¬ ((Value.ref l == Value.none) = true) by simp)]
 show wpAny _ _ (field (.ref it) 1 >>= _) _ _ _; refine wpAny_bind (wpAny_field ho dt (x := .int i 0) rfl ?_)
 show wpAny _ _ (seqItems? (.ref l) >>= _) _ _ _; refine wpAny_bind (wpAny_seqItems hol dl ?_)
 simp only [Int.toNat_natCast, hx]
 refine wpAny_bind (wpAny_rule (wpAny_bind (wpAny_setField ho dt (by simp) ?_)))
 have up := fun f => (Heap.SameBut.update (a := it) (h := s.heap) (f := f)).extBut
 refine G4m (s := { s with heap := _ }) (A := A.in1) (hd _ (up _)) fun h' e k ty => ?_
 refine wpAny_bind (wpAny_isInstance (T := "StopIteration") (b := true) ty isSubtype_stop ?_)
 exact wpAny_pure (hQ h' fun b o hb z => k b o (up _ b o hb z))
theorem B5d {it t : Addr} {i : Nat} {items : Array Value} {Q : Option Value -> Shared -> Prop} (hd : ∀ h' : Heap, Heap.ExtBut it s.heap h' -> Hd A h')
   (hit : IsTupIter s.heap it t i) (hl : IsTup s.heap t items) (hx : items[i]? = none)
   (hQ : ∀ h', Heap.ExtBut it s.heap h' -> Q none { s with heap := h' }) : wpAny (model prog w) A (pyNext (.ref it)) Q E s := by
 obtain ⟨o, ho, hc, dt⟩ := id hit
 obtain ⟨ol, hol, _, nl, dl⟩ := hl
 unfold pyNext
 refine wpAny_bind (wpAny_attempt (wpAny_callSpecial?_slot (name := Str.ofString "__next__") hit.typeIs slot_tupleiter_next (wpAny_call_entry slot_tupleiter_next hit.typeIs entry_tupleiter_next ?_ (args_tupleiter_next _))))
 show wpAny _ _ (field (.ref it) 0 >>= _) _ _ _; refine wpAny_bind (wpAny_field ho dt (x := .ref t) rfl ?_)
 show wpAny _ _ (if (Value.ref t == Value.none) = true then _ else _) _ _ _; rw [if_neg (show ¬ ((Value.ref t == Value.none) = true) by simp)]
 show wpAny _ _ (field (.ref it) 1 >>= _) _ _ _; refine wpAny_bind (wpAny_field ho dt (x := .int i 0) rfl ?_)
 show wpAny _ _ (seqItems? (.ref t) >>= _) _ _ _; refine wpAny_bind (wpAny_seqItems hol dl ?_)
 simp only [Int.toNat_natCast, hx]
 refine wpAny_bind (wpAny_rule (wpAny_bind (wpAny_setField ho dt (by simp) ?_)))
 have up := fun f => (Heap.SameBut.update (a := it) (h := s.heap) (f := f)).extBut
 refine G4m (s := { s with heap := _ }) (A := A.in1) (hd _ (up _)) fun h' e k ty => ?_
 refine wpAny_bind (wpAny_isInstance (T := "StopIteration") (b := true) ty isSubtype_stop ?_)
 exact wpAny_pure (hQ h' fun b o hb z => k b o (up _ b o hb z))
end
theorem ObjOk.there {P : Program} {w : World} {H : Hp} {h : Heap} {a : Addr} {o : HO} (x : ObjOk P w H h a o) : ∃ u, h.get? a = some u := by
 cases o with
 | lst xs => obtain ⟨_, _, _, _, e⟩ := x; exact ⟨_, e⟩
 | tup xs => obtain ⟨_, _, _, _, e, _⟩ := x; exact ⟨_, e⟩
 | dK kvs => obtain ⟨_, _, _, _, o, _, _, e, _⟩ := x; exact ⟨_, e⟩
 | dT kvs => obtain ⟨_, _, _, _, o, _, _, e, _⟩ := x; exact ⟨_, e⟩
 | set S n => obtain ⟨o, _, _, _, e, _⟩ := x; exact ⟨_, e⟩
 | ins C dx fs => obtain ⟨_, _, _, e, _⟩ := x; exact ⟨_, e⟩
 | own y => obtain ⟨_, e⟩ := x; exact ⟨_, e⟩
 | xd fs => obtain ⟨_, ⟨_, _, _, e, _⟩, _⟩ := x; exact ⟨_, e⟩
 | rng lo hi => obtain ⟨_, _, _, e⟩ := x; exact ⟨_, e⟩
 | frz ob u => obtain ⟨e, _⟩ := x; exact ⟨_, e⟩
 | tbl ps => exact ⟨_, show h.get? a = some _ from x⟩
 | met f y => exact ⟨_, show h.get? a = some _ from x⟩
 | ext φ => obtain ⟨_, e, _⟩ := x; exact e
theorem HOk.new {P : Program} {w : World} {H : Hp} {h : Heap} {a : Addr} (x : HOk P w H h) (e : h.get? a = none) : H a = none := by
 cases q : H a with
 | none => rfl
 | some u =>
   obtain ⟨o, z⟩ := (x a u q).there
   rw [e] at z
   cases z
structure Nw (X : Cx) (pins : List (Addr × Obj)) (H : Hp) (b : Addr) : Prop where
 un : H b = none
 loc : b ≠ X.env.locals
 fs : b ∉ X.fs
 old : X.s₀.heap.get? b = none
 cell : ∀ x c, X.env.cells.lookup x = some c -> c ≠ b
 pin : ∀ p ∈ X.pn ++ pins, p.1 ≠ b
section
variable {X : Cx} {pins : List (Addr × Obj)} {σ : St} {H H' : Hp} {s s' : Shared} {a b t : Addr} {C : Value} {dd : Option Addr}
theorem Inv.fsFree (I : Inv X pins σ H s) : ∀ b ∈ X.fs, H b = none := fun b hb => I.stkFree b (by
 rcases I.ok.stk with z | ⟨z, zf⟩
 . rw [z]; exact hb
 . rw [z]
   unfold frs
   rw [List.filterMap_cons, zf]
   exact List.mem_cons_of_mem _ hb)
theorem Inv.nw (I : Inv X pins σ H s) (hex : X.ex = []) (e : s.heap.get? b = none) (hu : H' b = none) : Nw X pins H' b := by
 refine ⟨hu, ?_, ?_, ?_, ?_, ?_⟩
 . rintro rfl
   obtain ⟨m, ⟨o, _, _, ho, _⟩, _⟩ := I.loc
   rw [e] at ho
   cases ho
 . intro hb
   obtain ⟨_, o, ho, _⟩ := I.funs.mem hb
   rw [e] at ho
   cases ho
 . cases q : X.s₀.heap.get? b with
   | none => rfl
   | some o =>
     obtain ⟨o', z⟩ := I.base.there b o q (by rw [hex]; simp)
     rw [e] at z
     cases z
 . rintro x c h rfl
   obtain ⟨v, o, ho, _⟩ := I.cell x c h
   rw [e] at ho
   cases ho
 . rintro p hp rfl
   obtain ⟨z, _⟩ := I.pin p hp
   rw [e] at z
   cases z
theorem Inv.stepN {h' : Heap} {ch : List Addr} (I : Inv X pins σ H s) (hch : ∀ b ∈ ch, Nw X pins H b)
   (keep : ∀ b o, b ≠ X.env.locals -> b ∉ X.fs -> b ∉ ch -> s.heap.get? b = some o -> h'.get? b = some o)
   (slot : ∀ b o, b ∉ ch -> s.heap.get? b = some o -> ∃ sl, h'.get? b = some { o with slots := sl }) : Inv X pins σ H { s with heap := h' } := by
 have neL : ∀ b o, X.s₀.heap.get? b = some o -> b ≠ X.env.locals := fun b o e => Nat.ne_of_lt (Nat.lt_of_lt_of_le (Heap.lt_size e) I.ok.above)
 have neC : ∀ b o, X.s₀.heap.get? b = some o -> b ∉ ch := fun b o e hb => by
   have z := (hch b hb).old
   rw [e] at z
   cases z
 have cellK : ∀ x c, X.env.cells.lookup x = some c -> ∀ v, s.heap.IsCell c v -> h'.IsCell c v := fun x c e v ⟨o, ho, hd⟩ => by
   have nch : c ∉ ch := fun z => (hch c z).cell x c e rfl
   obtain ⟨sl, q⟩ := slot c o nch ho
   exact ⟨_, q, hd⟩
 refine ⟨I.ok, I.os, I.bare, ⟨fun b o e n hb hx => ?_, fun b o e n hb hx => ?_, I.base.free, fun b o e hx => ?_, I.base.tups, I.base.frzs, I.base.tbls⟩, ?_, fun x c e => ?_, I.free, I.freeC, fun p hp => ?_, ?_, I.len⟩
 . exact keep b o (neL b o e) hb (neC b o e) (I.base.keep b o e n hb hx)
 . obtain ⟨sl, e1⟩ := I.base.slot b o e n hb hx
   obtain ⟨sl', e2⟩ := slot b _ (neC b o e) e1
   exact ⟨sl', e2⟩
 . obtain ⟨o', e1⟩ := I.base.there b o e hx
   obtain ⟨sl', e2⟩ := slot b _ (neC b o e) e1
   exact ⟨_, e2⟩
 . obtain ⟨m, hn, hl⟩ := I.loc
   refine ⟨m, ?_, fun i x v e1 e2 e3 => ?_⟩
   . obtain ⟨o, es, ep, ho, r⟩ := hn
     obtain ⟨sl, q⟩ := slot _ o (fun z => (hch _ z).loc rfl) ho
     exact ⟨_, es, ep, q, r⟩
   . obtain ⟨u, r, l⟩ := hl i x v e1 e2 e3
     refine ⟨u, r, ?_⟩
     rcases l with l | ⟨k, c, e, z⟩
     . exact .inl l
     . exact .inr ⟨k, c, e, cellK x c e _ z⟩
 . obtain ⟨v, z⟩ := I.cell x c e
   exact ⟨v, cellK x c e v z⟩
 . obtain ⟨e, n, ne, nf, d⟩ := I.pin p hp
   exact ⟨keep p.1 p.2 ne nf (fun z => (hch p.1 z).pin p hp rfl) e, n, ne, nf, d⟩
 . intro c o e
   have tr : ∀ b, H b ≠ none -> ∀ u, s.heap.get? b = some u -> h'.get? b = some u := fun b hb u q =>
     keep b u (fun z => hb (by rw [z]; exact I.free)) (fun z => hb (I.fsFree b z)) (fun z => hb (hch b z).un) q
   refine (I.hok c o e).stay (fun b u hb q => tr b ?_ u q) (fun _ q => q) fun _ _ q => q
   rcases hb with rfl | hb
   . rw [e]; simp
   . rw [hb]; simp
def Flt (X : Cx) (pins : List (Addr × Obj)) (H : Hp) (s : Shared) (a : Addr) (C : Value) (t : Addr) (dd : Option Addr) : Prop :=
 Nw X pins H a /\ ∃ tb, s.heap.get? a = some (Y9 C t dd tb) /\ V5r s.heap a tb /\ ∀ T, tb = .ref T -> Nw X pins H T
def FltAt (X : Cx) (pins : List (Addr × Obj)) (H : Hp) (s : Shared) (a : Addr) (C : Value) (t : Addr) (dd : Option Addr) (fl : Value) : Prop :=
 Nw X pins H a /\ ∃ T oT ts, s.heap.get? a = some (Y9 C t dd (.ref T)) /\ T ≠ a /\ Nw X pins H T /\ s.heap.get? T = some oT /\ oT.data = .fields ts /\ ts[3]? = some fl
structure Body (X : Cx) : Prop where
 ex : X.ex = []
 st : X.stack = X.env :: X.outer
 fr : X.env.frame = some X.env.locals
theorem FltAt.flt (F : FltAt X pins H s a C t dd .none) : Flt X pins H s a C t dd := by
 obtain ⟨n, T, oT, ts, e, ne, nT, eT, dT, h3⟩ := F
 exact ⟨n, _, e, .inr ⟨T, oT, ts, rfl, ne, eT, dT, h3⟩, fun T' z => by cases z; exact nT⟩
def D4z : Value -> List Addr
 | .ref z => [z]
 | _ => []
theorem D0b {M : Model} {E : Value -> Shared -> Prop} {Q : Unit -> Shared -> Prop} (B : Body X) (I : Inv X pins σ H s) (F : Flt X pins H s a C t dd)
   (k : ∀ s', Inv X pins σ H s' -> FltAt X pins H s' a C t dd (rawInt X.env.locals) -> Q () s') : wpAny M X.A (noteFrame (.ref a) X.env) Q E s := by
 obtain ⟨na, tb, e, ht, nT⟩ := F
 have hfr := I.ok.frames
 rw [B.st] at hfr
 have hl := I.stack
 rw [B.st] at hl
 refine V6m hfr hl B.fr e ht fun h' T k1 k2 k3 k4 k5 k6 => ?_
 have ch : ∀ b, b ∉ a :: D4z tb -> b ≠ a /\ tb ≠ .ref b := by
   intro b hb
   refine ⟨fun z => hb (by rw [z]; exact List.mem_cons_self), fun z => hb ?_⟩
   rw [z]
   exact List.mem_cons_of_mem _ (List.mem_singleton.mpr rfl)
 have I' : Inv X pins σ H { s with heap := h' } := by
   refine I.stepN (ch := a :: D4z tb) (fun b hb => ?_) (fun b o h1 h2 h3 q => k1 b o ?_ (ch b h3).1 (ch b h3).2 q) (fun b o h3 q => k2 b o (ch b h3).1 (ch b h3).2 q)
   . rcases List.mem_cons.mp hb with rfl | hb
     . exact na
     . cases tb <;> simp [D4z] at hb
       subst hb
       exact nT _ rfl
   . intro z
     rw [List.filterMap_cons, B.fr] at z
     rcases List.mem_cons.mp z with z | z
     . exact h1 z
     . exact h2 z
 obtain ⟨oT, ts, q1, q2, q3⟩ := k6
 exact k _ I' ⟨na, T, oT, ts, k5, k4, I.nw B.ex k3 (I.hok.new k3), q1, q2, q3⟩
theorem B7d {M : Model} {A : Around} {E : Value -> Shared -> Prop} {Q : Unit -> Shared -> Prop} {fl : Value} (I : Inv X pins σ H s) (F : FltAt X pins H s a C t dd fl)
   (k : ∀ s', Inv X pins σ H s' -> FltAt X pins H s' a C t dd .none -> Q () s') : wpAny M A (setFlight (.ref a) none) Q E s := by
 obtain ⟨na, T, oT, ts, e, ne, nT, eT, dT, h3⟩ := F
 refine V6n e ne eT dT h3 fun h' k1 k2 => ?_
 have I' : Inv X pins σ H { s with heap := h' } := I.stepN (ch := [T]) (fun b hb => by
   have : b = T := by simpa using hb
   subst this
   exact nT) (fun b o _ _ hb q => k1 b o (fun z => hb (by simp [z])) q) (fun b o hb q => ⟨_, k1 b o (fun z => hb (by simp [z])) q⟩)
 rcases k2 with z | ⟨T', oT', ts', z, _, q1, q2, q3⟩
 . cases z
 . cases z
   exact k _ I' ⟨na, T, oT', ts', k1 a _ (Ne.symm ne) e, ne, nT, q1, q2, q3⟩
theorem C1s {M : Model} {E : Value -> Shared -> Prop} {Q : Unit -> Shared -> Prop} (B : Body X) (I : Inv X pins σ H s) (F : Flt X pins H s a C t dd)
   (k : ∀ s', Inv X pins σ H s' -> FltAt X pins H s' a C t dd .none -> Q () s') : wpAny M X.A (leaving X.env (.ref a)) Q E s := by
 unfold leaving
 exact wpAny_bind (D0b B I F fun s1 I1 F1 => B7d I1 F1 k)
end
abbrev EK := Value -> Option Addr -> St -> Hp -> Prop
def D8 (X : Cx) (EH : EK) : Prop := ∀ (pins : List (Addr × Obj)) (σ : St) (H : Hp) (s : Shared) (a t : Addr) (C : Value) (dd : Option Addr), Inv X pins σ H s -> Flt X pins H s a C t dd -> EH C dd σ H -> X.xe (.ref a) s
def CX1 (P : Program) (w : World) : CXT := fun outer H s E e s' => ∃ (a t : Addr) (C : Value) (dd : Option Addr) (H' : Hp), e = .ref a /\ s'.os = s.os /\ AllBare s'.gens /\ Un (frs outer) [] H H' s.heap s'.heap /\ HOk P w H' s'.heap /\ E C dd H' /\
 (s.heap.get? a = none /\ H' a = none) /\ ∃ T oT ts, s'.heap.get? a = some (Y9 C t dd (.ref T)) /\ T ≠ a /\ (s.heap.get? T = none /\ H' T = none) /\ s'.heap.get? T = some oT /\ oT.data = .fields ts /\ ts[3]? = some .none
theorem A3t {P : Program} {w : World} {K : PySem.W.Frag} {mg : Str -> Option Value} {base : Heap} {N : List Str} {qual : Str} {scope : Scope} {f : Addr} {cd : Value} {A : Around} {outer : List Env} {s : Shared} {H : Hp} {E : XK} :
   D8 (Z8 (CX1 P w) P w K mg base N qual scope f cd A outer s H E) (fun C dd _ H' => E C dd H') := by
 intro pins σ H' s' a t C dd I F h
 refine C1s (X := Z8 (CX1 P w) P w K mg base N qual scope f cd A outer s H E) ⟨rfl, rfl, rfl⟩ I F fun s2 I2 F2 => ?_
 obtain ⟨na, T, oT, ts, e, ne, nT, eT, dT, h3⟩ := F2
 exact ⟨a, t, C, dd, H', rfl, I2.os, I2.bare, I2.base, I2.hok, h, ⟨na.old, na.un⟩, T, oT, ts, e, ne, ⟨nT.old, nT.un⟩, eT, dT, h3⟩
section
variable {X : Cx} {k : Nat} {f C : Addr} {fd : FuncData} {ps : List Str} {sp : Sp} {dvs : List V} {ds : List Value} {EH : EK} {x m : Str} {p pos apos : Pos} {e o : Expr} {es : List Expr} {ta : TE} {t : TA}
theorem U9w {pins : List (Addr × Obj)} {σ : St} {H : Hp} {s : Shared} {e : Value} {s' : Shared} (hx : D8 X EH) (hex : X.ex = []) (I : Inv X pins σ H s)
   (h : CX1 X.prog X.w X.stack H s (fun C d H' => EH C d σ H') e s') : X.xe e s' := by
 obtain ⟨a, t, C, dd, H', rfl, os, bare, un, hok, hE, ⟨a1, a2⟩, T, oT, ts, z, ne, ⟨t1, t2⟩, eT, dT, h3⟩ := h
 have I' : Inv X pins σ H' s' := I.call' (ch := []) os un hok bare (fun b q => absurd q (by simp))
 exact hx pins σ H' s' a t C dd I' (FltAt.flt ⟨I.nw hex a1 a2, T, oT, ts, z, ne, I.nw hex t1 t2, eT, dT, h3⟩) hE
theorem B5n {pins : List (Addr × Obj)} {σ : St} {H : Hp} {s : Shared} {Q : VK} {us : List Value} {vs : List V} (F : FnOk X.prog X.w X.K X.mg X.base (CX1 X.prog X.w) k f fd ps sp) (hr : Room k X.A) (hb : Binds X.K fd ps ds) (hd : Vals dvs ds)
   (hx : D8 X EH) (hex : X.ex = []) (I : Inv X pins σ H s) (r : Vals vs us) (h : sp (vs ++ dvs) H Q (fun C d H' => EH C d σ H')) : wpAny (model X.prog X.w) X.A (call (.ref f) us) (EP X pins σ Q) X.xe s := by
 have r2 : Vals (vs ++ dvs) (us ++ ds) := r.append hd
 have hl : (us ++ ds).length = ps.length := by rw [<- r2.length]; exact F.len _ _ _ _ h
 refine wpAny_call (codeAny_mono (F.run X.A X.stack s H ⟨us, []⟩ (us ++ ds) (vs ++ dvs) Q _ hr I.env0 (hb s us I.kIn hl) r2 h) fun r s' hq => ?_)
 cases r with
 | error e => exact U9w hx hex I hq
 | ok fl =>
   cases fl with
   | ret u => exact I.after hq
   | next => exact False.elim hq
   | brk => exact False.elim hq
   | cont => exact False.elim hq
def C4a (sp : Sp) (dvs : List V) (EH : EK) (t : TA) : TE := fun σ H Q => t σ H fun vs H1 => sp (vs ++ dvs) H1 Q (fun C d H' => EH C d σ H')
theorem J3c (F : FnOk X.prog X.w X.K X.mg X.base (CX1 X.prog X.w) k f fd ps sp) (hr : Room k X.A) (hg : Gl X x) (hm : X.mg x = some (.ref f)) (hk : PySem.W.keepIn X.K (.ref f) = true) (hb : Binds X.K fd ps ds) (hd : Vals dvs ds)
   (hx : D8 X EH) (ha : PA X (e :: es) t) (hex : X.ex = [] := by rfl) (hdb : (x == ("__debug__" : Str)) = false := by decide) (he : starEach (e :: es) X.env = (false, eval e X.env) :: starEach es X.env := by rfl)
   (hpl : (backTo pos (starEach es X.env)).any (·.1) = false := by rfl) : PE X (.Call (.Name x p) (e :: es) [] pos) (C4a sp dvs EH t) := by
 intro pins s σ H Q I h
 refine wpAny_Call_Name_kw (A0j I hg hm ?_ hdb)
 refine PySem.W.callWith_K (h₀ := X.base) I.ok.mod.kin hk (thn (ha pos pins s σ H _ I h) fun us s1 ⟨vs, H1, I1, r, q⟩ => ⟨I1.kIn, ?_⟩) he hpl
 exact B5n F hr hb hd hx hex I1 r q
theorem G7c (F : FnOk X.prog X.w X.K X.mg X.base (CX1 X.prog X.w) k f fd ps sp) (hr : Room k X.A) (hg : Gl X x) (hm : X.mg x = some (.ref f)) (hk : PySem.W.keepIn X.K (.ref f) = true) (hb : Binds X.K fd ps ds) (hd : Vals dvs ds)
   (hx : D8 X EH) (hex : X.ex = [] := by rfl) (hdb : (x == ("__debug__" : Str)) = false := by decide) : PE X (.Call (.Name x p) [] [] pos) (C4a sp dvs EH J5p) := by
 intro pins s σ H Q I h
 refine wpAny_Call_Name_kw (A0j I hg hm ?_ hdb)
 exact PySem.W.callWith_K0 I.kIn hk (B5n (us := []) F hr hb hd hx hex I .nil h)
end
section
variable {P : Program} {w : World} {K : PySem.W.Frag} {mg : Str -> Option Value} {base : Heap}
theorem Fun.okE {x qual : Str} {st : Stmt} {f : Addr} {fd : FuncData} {N ps : List Str} {k : Nat} {sp : Sp} (F : Fun K x qual st f fd) (S : FnScope N ps (A3 st)) (len : ∀ vs H Q E, sp vs H Q E -> vs.length = ps.length)
   (hbody : ∀ (X : Cx) (cdv : Value) (A : Around) (outer : List Env) (s : Shared) (H : Hp) (vs : List V) (Q : VK) (E : XK), X = Z8 (CX1 P w) P w K mg base N qual (A3 st) f cdv A outer s H E -> Room k X.A -> D8 X (fun C dd _ H' => E C dd H') -> sp vs H Q E ->
     ∃ t, PSs (Z8 (CX1 P w) P w K mg base N qual (A3 st) f cdv A outer s H E) (B4 st) t /\ t { nx := fun _ H' => Q .non H', rt := Q } (A1x N vs) H) : FnOk P w K mg base (CX1 P w) (k + 1) f fd ps sp := by
 obtain ⟨oc, od, kV, doc, pm, an, cdv, ct, osl, rfl, lk, hc⟩ := F.ex
 exact J4j lk hc S len fun A outer s H vs Q E hr h => hbody _ cdv A outer s H vs Q E rfl hr A3t h
theorem FnOk.up {k : Nat} {f : Addr} {fd : FuncData} {ps : List Str} {sp : Sp} (F : FnOk P w K mg base CX0 k f fd ps sp) : FnOk P w K mg base (CX1 P w) k f fd ps sp := by
 refine ⟨F.len, fun A outer s H args us vs Q E hr e0 hb r h => codeAny_mono (F.run A outer s H args us vs Q E hr e0 hb r h) fun r s' q => ?_⟩
 cases r with
 | error e => exact False.elim q
 | ok fl => cases fl <;> exact q
end
end L2
namespace L2
open PySem PySem.Spec PyProof.Rows PySem.W
theorem U8n {K : Frag} {h : Heap} {C : Addr} {bmB : List Value} {newId : String} (X : K.In h) (q : excIn K C bmB newId = true) :
   ∃ (bm : List Value) (N : Addr) (nm qn : Str) (bs : List Value) (hd : Bool) (sn : List Str) (sub : List Value) (ab : Bool) (col : Option Bool) (dd : Option Addr) (k0 k1 k2 k3 k5 : Option Value) (mN : Str -> Option Value),
     h.get? C = some (excClassObj nm qn C N bs bm hd sn sub ab col dd k0 k1 k2 k3 k5 newId) /\ h.Ns N mN /\ mN "__init__" = none /\ OwnTail h bmB bm := by
 unfold excIn at q
 split at q
 . rename_i dd cd sl ho
   split at q
   . rename_i C' bm k0 k1 k2 k3 n k5 hm hs
     simp only [Bool.and_eq_true, beq_iff_eq, Bool.not_eq_true'] at q
     obtain ⟨⟨⟨⟨⟨r1, r2⟩, r3⟩, r4⟩, r5⟩, r6⟩ := q
     subst r1 r2
     obtain ⟨a1, a2, a3, a4, a5, a6, a7, a8, a9, a10, a11⟩ := cd
     dsimp only at hm r3 r5 r6
     subst hm r3
     have hsl : sl = #[k0, k1, k2, k3, some (.builtin n), k5] := by
       obtain ⟨l⟩ := sl
       simp only at hs
       rw [hs]
     subst hsl
     exact ⟨bm, a4, a1, a5, a2, a6, a7, a8, a9, a10, dd, k0, k1, k2, k3, k5, _, X _ _ ho, .of_isNs (isNs_of_in X r5), nsMap_none_of_in X r5 r6, tail_of_in X r4⟩
   . cases q
 . cases q
section
variable {X : Cx} {x : Str} {p cpos pos : Pos} {e : Expr} {es : List Expr} {t : TA} {C : Addr} {bmB : List Value} {B newId initId : String} {EH : EK}
def V5f (C : Addr) (EH : EK) (t : TA) : TS := fun _ σ H => t σ H fun vs H1 => vs.length <= sizeLine /\ EH (.ref C) none σ H1
theorem A1t (hg : Gl X x) (hm : X.mg x = some (.ref C)) (q : excIn X.K C bmB newId = true) (FB : ExcBaseFacts B newId initId bmB) (hh : X.A.handled = none) (hx : D8 X EH) (ha : PA X (e :: es) t) (hex : X.ex = [] := by rfl)
   (hdb : (x == ("__debug__" : Str)) = false := by decide) (he : starEach (e :: es) X.env = (false, eval e X.env) :: starEach es X.env := by rfl) (hpl : (backTo cpos (starEach es X.env)).any (·.1) = false := by rfl) :
   PS X (.Raise (some (.Call (.Name x p) (e :: es) [] cpos)) none pos) (V5f C EH t) := by
 intro pins s σ H D I h
 obtain ⟨bm, N, nm, qn, bs, hd, sn, sub, ab, col, dd, k0, k1, k2, k3, k5, mN, hC, hN, hni, T⟩ := U8n I.ok.mod.kin q
 refine wpAny_Raise_call_subT (C := C) (nm := nm) (q := qn) (N := N) (bs := bs) (bm := bm) (hdct := hd) (sn := sn) (sub := sub) (ab := ab) (col := col) (dd := dd) (k0 := k0) (k1 := k1) (k2 := k2) (k3 := k3) (k5 := k5) FB (mN := mN) (T.hasType FB.hasBase) hh
   (by rw [he]; show (false || (backTo cpos (starEach es X.env)).any (·.1)) = false; rw [hpl]; rfl) hni (A0j I hg hm ⟨rfl, ?_⟩ hdb)
 have ha' := ha cpos pins s σ H _ I h
 rw [he] at ha' ⊢
 refine Calls.evalArgs_plain (wpAny_mono ha' (fun us s2 ⟨vs, H1, I1, r, z, q⟩ => ⟨rfl, by rw [<- r.length]; exact z, I1.bk _ _ hC, hN.keeps I1.bk, T.keeps I1.bk, fun h' a m => ?_⟩) fun _ _ y => y)
 have I2 : Inv X pins σ H1 { s2 with heap := h' } := I1.kept (t' := s2.toks) m.keeps
 obtain ⟨t', e1, tn, e2⟩ := m.there
 exact hx pins σ H1 _ a t' (.ref C) none I2 ⟨I1.nw hex m.new (I1.hok.new m.new), .none, e1, .inl rfl, fun T z => nomatch z⟩ q
end
section
variable {X : Cx} {pins : List (Addr × Obj)} {σ : St} {H : Hp} {s : Shared}
theorem Inv.track {a : Addr} {o : Obj} (I : Inv X pins σ H s) (n : Nw X pins H a) (e : s.heap.get? a = some o) : Inv X pins σ (upd H a (.frz o (.own a))) s := by
 have ne : ∀ b u, H b = some u -> b ≠ a := fun b u z q => by rw [q, n.un] at z; cases z
 have up : ∀ b, b ≠ a -> upd H a (.frz o (.own a)) b = H b := fun b hb => B3 hb
 refine ⟨I.ok, I.os, I.bare, ⟨I.base.keep, I.base.slot, fun b u z m hx => ?_, I.base.there, fun b xs z => ?_, fun b u v z => ?_, fun b ps z => ?_⟩, I.loc, I.cell, ?_, fun x c z => ?_, fun p hp => ?_, fun b u z => ?_, I.len⟩
 . rw [up b fun q => by rw [q, n.old] at z; cases z]
   exact I.base.free b u z m hx
 . have := I.base.tups b xs z
   rw [up b (ne b _ this)]; exact this
 . have := I.base.frzs b u v z
   rw [up b (ne b _ this)]; exact this
 . obtain ⟨more, this⟩ := I.base.tbls b ps z
   exact ⟨more, by rw [up b (ne b _ this)]; exact this⟩
 . rw [up _ (Ne.symm n.loc)]; exact I.free
 . rw [up _ (n.cell x c z)]; exact I.freeC x c z
 . obtain ⟨q1, q2, q3⟩ := I.pin p hp
   exact ⟨q1, by rw [up _ (n.pin p hp)]; exact q2, q3⟩
 . by_cases hb : b = a
   . subst hb
     rw [A9] at z
     cases z
     exact ⟨e, _, e⟩
   . rw [up b hb] at z
     exact (I.hok b u z).stay (fun _ _ _ q => q) (fun c q => by rw [up c (ne c _ q)]; exact q) (fun c xs q => by rw [up c (ne c _ q)]; exact q)
theorem G7a {M : Model} {A : Around} {E : Value -> Shared -> Prop} {i : Nat} {x : Str} {v : V} {Q : Unit -> Shared -> Prop} (I : Inv X pins σ H s) (hN : X.N.Nodup) (hi : X.N[i]? = some x) (hk : X.env.scope.names.lookup x = some .local) (hv : σ[i]? = some (some v))
   (k : ∀ s', Inv X pins (σ.set i none) H s' -> Q () s') : wpAny M A (unbindName X.env x) Q E s := by
 obtain ⟨m, hn, hl⟩ := id I.loc
 have hcls : (X.env.scope.kind == .class || (X.env.scope.kind == .module && X.env.locals != X.env.globals)) = false := by rw [I.ok.kind]; rfl
 obtain ⟨u, _, lk⟩ := hl i x v hi hv (.inl hk)
 have hm : m x = some u := by
   rcases lk with ⟨_, z⟩ | ⟨z, _⟩
   . exact z
   . have z : X.env.scope.names.lookup x = some .cell \/ X.env.scope.names.lookup x = some .free := z
     rw [hk] at z
     rcases z with z | z <;> cases z
 refine wpAny_unbindName_local hk hn hm hcls fun h' w' hn' hs => k _ ?_
 obtain ⟨oL, _, _, hoL, _⟩ := id hn
 have nl : ∀ b o, X.s₀.heap.get? b = some o -> b ≠ X.env.locals := fun b o e => Nat.ne_of_lt (Nat.lt_of_lt_of_le (Heap.lt_size e) I.ok.above)
 refine ⟨I.ok, I.os, I.bare, ⟨fun b o e n hb hx => ?_, fun b o e n hb hx => ?_, I.base.free, fun b o e hx => ?_, I.base.tups, I.base.frzs, I.base.tbls⟩, ⟨_, hn', fun j y v' e1 e2 e3 => ?_⟩, fun y c e => ?_, I.free, I.freeC, fun p hp => ?_, fun b u z => ?_, by simpa using I.len⟩
 . exact (hs.2 b (nl b o e)).trans (I.base.keep b o e n hb hx)
 . obtain ⟨sl, e1⟩ := I.base.slot b o e n hb hx
   exact ⟨sl, (hs.2 b (nl b o e)).trans e1⟩
 . obtain ⟨o', e1⟩ := I.base.there b o e hx
   exact ⟨o', (hs.2 b (nl b o e)).trans e1⟩
 . by_cases hj : j = i
   . subst hj
     have hlen : j < σ.length := (List.getElem?_eq_some_iff.mp hv).1
     rw [List.getElem?_set_self hlen] at e2
     cases e2
   . rw [List.getElem?_set_ne (Ne.symm hj)] at e2
     obtain ⟨u', r', q⟩ := hl j y v' e1 e2 e3
     refine ⟨u', r', ?_⟩
     rcases q with ⟨k1, e⟩ | ⟨k1, c, e, z⟩
     . have : y ≠ x := fun e => hj (B7h hN e1 (e ▸ hi))
       exact .inl ⟨k1, by simp [this, e]⟩
     . exact .inr ⟨k1, c, e, z.sameBut hs (I.cne y c e)⟩
 . obtain ⟨w2, z⟩ := I.cell y c e
   exact ⟨w2, z.sameBut hs (I.cne y c e)⟩
 . obtain ⟨e, n, ne, nf, d⟩ := I.pin p hp
   exact ⟨(hs.2 p.1 ne).trans e, n, ne, nf, d⟩
 . refine (I.hok b u z).stay (fun c w2 hc q => (hs.2 c ?_).trans q) (fun _ q => q) fun _ _ q => q
   rintro rfl
   rcases hc with rfl | hc
   . rw [I.free] at z; cases z
   . rw [I.free] at hc; cases hc
end
abbrev Cx.hold (X : Cx) (pins : List (Addr × Obj)) (E : Value -> Shared -> Prop) : Cx := { X with pn := X.pn ++ pins, xe := E }
abbrev Cx.hnd (X : Cx) (pins : List (Addr × Obj)) (a : Addr) : Cx := { X with A := X.A.mark (some (.ref a)), calm := false, pn := X.pn ++ pins, xe := fun _ _ => False }
section
variable {X : Cx} {pins pins' : List (Addr × Obj)} {σ : St} {H : Hp} {s : Shared} {a : Addr} {E : Value -> Shared -> Prop}
theorem Inv.hold (I : Inv X pins σ H s) : Inv (X.hold pins E) [] σ H s :=
 ⟨⟨I.ok.mod, I.ok.kind, I.ok.glob, I.ok.blt, I.ok.above, I.ok.inj, I.ok.has, I.ok.cab, I.ok.hd, I.ok.frames, I.ok.stk, I.ok.exf, I.ok.bs, I.ok.bsz, I.ok.noex, I.ok.exfs, I.ok.funs, I.ok.frf⟩,
   I.os, I.bare, I.base, I.loc, I.cell, I.free, I.freeC, fun p hp => I.pin p (by simpa using hp), I.hok, I.len⟩
theorem Inv.unhold (I : Inv (X.hold pins E) pins' σ H s) : Inv X pins σ H s :=
 ⟨⟨I.ok.mod, I.ok.kind, I.ok.glob, I.ok.blt, I.ok.above, I.ok.inj, I.ok.has, I.ok.cab, I.ok.hd, I.ok.frames, I.ok.stk, I.ok.exf, I.ok.bs, I.ok.bsz, I.ok.noex, I.ok.exfs, I.ok.funs, I.ok.frf⟩,
   I.os, I.bare, I.base, I.loc, I.cell, I.free, I.freeC, fun p hp => I.pin p (List.mem_append_left _ hp), I.hok, I.len⟩
theorem Inv.hnd (I : Inv X pins σ H s) : Inv (X.hnd pins a) [] σ H s :=
 ⟨⟨I.ok.mod, I.ok.kind, I.ok.glob, I.ok.blt, I.ok.above, I.ok.inj, I.ok.has, I.ok.cab, (fun z => nomatch z), I.ok.frames, I.ok.stk, I.ok.exf, I.ok.bs, I.ok.bsz, I.ok.noex, I.ok.exfs, I.ok.funs, I.ok.frf⟩,
   I.os, I.bare, I.base, I.loc, I.cell, I.free, I.freeC, fun p hp => I.pin p (by simpa using hp), I.hok, I.len⟩
theorem Inv.unhnd (ok : X.Ok) (I : Inv (X.hnd pins a) pins' σ H s) : Inv X pins σ H s :=
 ⟨ok, I.os, I.bare, I.base, I.loc, I.cell, I.free, I.freeC, fun p hp => I.pin p (List.mem_append_left _ hp), I.hok, I.len⟩
theorem Nw.unhold {b : Addr} (n : Nw (X.hold pins E) pins' H b) : Nw X pins H b := ⟨n.un, n.loc, n.fs, n.old, n.cell, fun p hp => n.pin p (List.mem_append_left _ hp)⟩
theorem Flt.unhold {t : Addr} {C : Value} {dd : Option Addr} (F : Flt (X.hold pins E) pins' H s a C t dd) : Flt X pins H s a C t dd := by
 obtain ⟨n, tb, e, ok, m⟩ := F
 exact ⟨n.unhold, tb, e, ok, fun T z => (m T z).unhold⟩
theorem SP.unhold {D : Ends} {f : Flow} {s' : Shared} (h : SP (X.hold pins E) pins' D f s') : SP X pins D f s' := by
 cases f with
 | next => obtain ⟨σ', H', I, q⟩ := h; exact ⟨σ', H', I.unhold, q⟩
 | brk => obtain ⟨σ', H', I, q⟩ := h; exact ⟨σ', H', I.unhold, q⟩
 | cont => obtain ⟨σ', H', I, q⟩ := h; exact ⟨σ', H', I.unhold, q⟩
 | ret u => obtain ⟨v, σ', H', I, r, q⟩ := h; exact ⟨v, σ', H', I.unhold, r, q⟩
end
structure Clause (K : Frag) (R : Addr) : Prop where
 ty : typeIn K (.ref R) = some (.type "type")
 cl : (clsIn K R).isSome = true
 ex : subIn K (.ref R) (.type "BaseException") = some true
theorem A3w {K : Frag} {M : Model} {h : Heap} {R : Addr} (X : K.In h) (c : (clsIn K R).isSome = true) : Looks M h (isType (.ref R)) true := by
 unfold clsIn at c
 split at c
 . rename_i ho
   intro A' Q' E' s' k q
   unfold isType loadHead
   exact wpAny_bind (wpAny_loadPart (k _ _ (X _ _ ho)) (wpAny_pure q))
 . cases c
theorem G7n {K : Frag} {M : Model} {A : Around} {E : Value -> Shared -> Prop} {s : Shared} {a R : Addr} {C : Value} {oa : Obj} {b : Bool} {Q : Bool -> Shared -> Prop} (X : K.In s.heap) (ha : s.heap.get? a = some oa) (hc : oa.cls = C) (c : Clause K R)
   (m : subIn K C (.ref R) = some b) (h : Q b s) : wpAny M A (excMatches (.ref a) (.ref R)) Q E s := by
 obtain ⟨hp, g, d, tk, os⟩ := s
 have L1 : Looks M hp (typeOf (.ref R)) (.type "type") := looks_typeIn X c.ty
 have L2 : Looks M hp (isSubtype (.ref R) (.type "BaseException")) true := looks_subIn X c.ex
 have L3 : Looks M hp (isSubtype C (.ref R)) b := looks_subIn X m
 have L4 : Looks M hp (typeOf (.ref a)) C := hc ▸ (Looks.ld ha).andThen .now
 have L5 : Looks M hp (isType (.ref R)) true := A3w X c.cl
 unfold excMatches
 unfold isInstance
 refine wpAny_bind (wpAny_bind (L1.at ?_))
 rw [tc_notTuple]
 refine wpAny_pure ?_
 simp only [Bool.false_eq_true, if_false]
 refine wpAny_bind (wpAny_pure ?_)
 simp only [List.forIn_cons, List.forIn_nil]
 unfold isExcClass
 refine wpAny_bind (wpAny_bind (wpAny_bind (wpAny_bind (L5.at ?_))))
 simp only [if_true]
 refine L2.at ?_
 simp only [Bool.not_true, Bool.false_eq_true, if_false]
 refine wpAny_pure (wpAny_pure ?_)
 refine wpAny_bind (L4.at ?_)
 refine wpAny_bind (wpAny_bind (wpAny_bind (L3.at ?_)))
 cases b with
 | true => simp only [if_true]; exact wpAny_pure (wpAny_pure (wpAny_pure h))
 | false => simp only [Bool.false_eq_true, if_false]; exact wpAny_pure (wpAny_pure (wpAny_pure h))
def Y5p (K : Frag) (R : Addr) (i : Nat) (tb : EK -> TS) (ts : Addr -> TS) : TS := fun D σ H =>
 tb (fun C dd σ' H' => subIn K C (.ref R) = some true /\ ∀ (a t T : Addr), H' a = none ->
   ts a { nx := fun σ2 H2 => D.nx (σ2.set i none) H2, rt := D.rt, bk := fun σ2 H2 => D.bk (σ2.set i none) H2, ct := fun σ2 H2 => D.ct (σ2.set i none) H2 }
     (σ'.set i (some (.ref a))) (upd H' a (.frz (Y9 C t dd (.ref T)) (.own a)))) D σ H
section
variable {X : Cx} {x n : Str} {np hpos pos : Pos} {R : Addr} {i : Nat} {body suite : List Stmt} {b₀ : Stmt} {tb : EK -> TS} {ts : Addr -> TS}
theorem V6v (B : Body X) (hg : Gl X x) (hm : X.mg x = some (.ref R)) (c : Clause X.K R) (hN : X.N.Nodup) (hi : X.N[i]? = some n) (hk : X.env.scope.names.lookup n = some .local)
   (hb : ∀ pins Ew EHb, D8 (X.hold pins Ew) EHb -> PSs (X.hold pins Ew) body (tb EHb)) (hs : ∀ pins a, PSs (X.hnd pins a) (b₀ :: suite) (ts a))
   (hdb : (x == ("__debug__" : Str)) = false := by decide) (hf : X.fn n = true \/ X.env.scope.names.lookup n = some .local := by first | exact .inl rfl | exact .inr rfl | assumption) :
   PS X (.Try body [.ExceptHandler (some (.Name x np)) (some n) (b₀ :: suite) hpos] [] [] pos) (Y5p X.K R i tb ts) := by
 intro pins s σ H D I h
 refine wpAny_Try_except ?_
 refine wpAny_mono (hb pins _ _ ?cat [] s σ H D I.hold h) (fun f s1 hf1 => ?_) (fun e s1 he => he)
 case cat =>
   intro pins' σ' H' s' a t C dd I' F' hE
   obtain ⟨hsub, hE⟩ := hE
   show wpAny (model X.prog X.w) X.A (noteFrame (.ref a) X.env) _ X.xe s'
   have J := I'.unhold
   have F := F'.unhold
   refine D0b B J F fun s2 J2 F2 => B7d J2 F2 fun s3 J3 F3 => ?_
   obtain ⟨na, T, oT, ts', e3, ne3, nT3, eT3, dT3, h33⟩ := id F3
   refine wpAny_handleBy_cons (codeAny_handlers_test ?_) (by intro z; cases z)
   have K3 : Inv (X.hnd pins a) [] σ' H' s3 := J3.hnd
   refine A0j K3 hg hm ?_ hdb
   refine G7n J3.kIn e3 rfl c hsub ?_
   show codeAny _ _ _ _ _
   refine codeAny_handlers_suite_as ?_
   refine B7d J3 F3 fun s4 J4 F4 => ?_
   obtain ⟨na4, T4, oT4, ts4, e4, _⟩ := id F4
   have J5 := J4.track na4 e4
   refine A5t (v := .ref a) J5 hN hi (.inl hk) rfl (fun s5 J6 => ?_) hf
   refine wpAny_mono (hs pins a [] s5 _ _ _ J6.hnd (hE a t T4 na4.un)) (fun f s6 hf6 => ?_) (fun _ _ z => z.elim)
   have fin : ∀ {σ6 : St} {H6 : Hp} {Q6 : Unit -> Shared -> Prop}, Inv (X.hnd pins a) [] σ6 H6 s6 -> (∀ s7, Inv X pins (σ6.set i none) H6 s7 -> Q6 () s7) ->
       wpAny (model X.prog X.w) X.A (do bindName X.env n .none; unbindBehindTheSuite X.env n hpos) Q6 X.xe s6 := by
     intro σ6 H6 Q6 K6 k6
     have L6 := K6.unhnd J6.ok
     refine wpAny_bind (wpAny_bindName (A5t (v := .non) L6 hN hi (.inl hk) rfl (fun s7 J7 => ?_) hf))
     unfold unbindBehindTheSuite
     have hlen : i < σ6.length := by rw [L6.len]; exact (List.getElem?_eq_some_iff.mp hi).1
     refine wpAny_onRaise (G7a J7 hN hi hk (List.getElem?_set_self hlen) fun s8 J8 => k6 s8 ?_)
     rw [List.set_set] at J8
     exact J8
   cases f with
   | next => obtain ⟨σ6, H6, K6, q⟩ := hf6; exact fin K6 fun s7 J7 => ⟨_, _, J7, q⟩
   | brk => obtain ⟨σ6, H6, K6, q⟩ := hf6; exact fin K6 fun s7 J7 => ⟨_, _, J7, q⟩
   | cont => obtain ⟨σ6, H6, K6, q⟩ := hf6; exact fin K6 fun s7 J7 => ⟨_, _, J7, q⟩
   | ret u => obtain ⟨v, σ6, H6, K6, r, q⟩ := hf6; exact fin K6 fun s7 J7 => ⟨v, _, _, J7, r, q⟩
 . cases f with
   | next => exact wpAny_execs_nil (SP.unhold hf1)
   | brk => exact SP.unhold hf1
   | cont => exact SP.unhold hf1
   | ret u => exact SP.unhold hf1
end
structure ExcK (K : Frag) (C : Addr) : Prop where
 ga : findIn K (.ref C) "__getattribute__" = some (some (.builtin "BaseException.__getattribute__"))
 gh : findIn K (.ref C) "__getattr__" = some none
 ca : findIn K (.ref C) "__class__" = some (some (.builtin "object.__class__"))
 sn : specialIn K (.builtin "object.__class__") "__get__" = some (some (.builtin "getset_descriptor.__get__"))
 tk : takesIn K (.builtin "object.__class__") = some true
 ob : mroIn K C (.type "object") = some true
 be : subIn K (.ref C) (.type "BaseException") = some true
 cl : (clsIn K C).isSome = true
theorem A5q {prog : Program} {w : World} {A : Around} {E : Value -> Shared -> Prop} {s : Shared} {K : Frag} {a C : Addr} {oa : Obj} {od : Option Obj} {Q : Option Value -> Shared -> Prop} (F : ExcK K C) (X : K.In s.heap) (I : PySem.W.InstAt s.heap a oa C od)
   (h : Q (some (.ref C)) { s with toks := s.toks + 1 }) : wpAny (model prog w) A (getAttr? (.ref a) "__class__") Q E s := by
 obtain ⟨hp, g, d, t, os⟩ := s
 have L0 := I.type (M := model prog w)
 have L1 := looks_findIn (M := model prog w) X F.ga
 have L2 := looks_findIn (M := model prog w) X F.gh
 have L3 : Looks (model prog w) hp (isInstance (.ref a) (.type "BaseException")) true := L0.andThen (looks_subIn X F.be)
 have hf : findObj K C od "__class__" = some (.bind (.builtin "getset_descriptor.__get__") (.builtin "object.__class__")) := by
   obtain ⟨cd, hc⟩ := Option.isSome_iff_exists.mp F.cl
   unfold findObj
   rw [hc, Option.bind_some, F.ca, Option.bind_some]
   simp [F.sn, F.tk]
 have L4 := looks_find (M := model prog w) X I hf
 have hk : builtinKind "BaseException.__getattribute__" = some .slot := by decide +kernel
 have hsplit : splitId "BaseException.__getattribute__" = some ("BaseException", "__getattribute__") := by decide +kernel
 have hargs := PySem.F.args_bexc_ga (.ref a) (.str "__class__" t)
 have hb := PySem.F.attr_ValueError.ga.bind (.ref a)
 unfold getAttr? getAttrBy? getAttrBy
 refine wpAny_bind (wpAny_mkText (wpAny_bind (wpAny_attempt (wpAny_holding (wpAny_bind (L0.at (wpAny_bind (L1.at ?_))))))))
 dsimp only
 rw [if_neg (show ¬ ((onTheHeap (Value.ref C) && Value.builtin "BaseException.__getattribute__" == Value.builtin "object.__getattribute__") = true) by
   rw [show (Value.builtin "BaseException.__getattribute__" == Value.builtin "object.__getattribute__") = false by decide +kernel, Bool.and_false]; exact Bool.false_ne_true)]
 unfold getAttrByItsOwn
 refine wpAny_bind (m := hookBefore (.ref C)) (L2.at ?_)
 refine wpAny_bind (wpAny_attempt (wpAny_holding ?_))
 unfold callGetattribute
 rw [if_neg (by decide)]
 unfold boundAndCalled
 rw [hb]
 refine wpAny_bind (wpAny_pure ?_)
 refine wpAny_call (codeAny_call_builtin PySem.F.attr_ValueError.ga.plain PySem.F.entry_bexc_ga ?_)
 have chk : ∀ {A' : Around} {Q' : Unit -> Shared -> Prop} {E' : Value -> Shared -> Prop}, Q' () ⟨hp, g, d, t + 1, os⟩ -> wpAny (model prog w) A' (checkBuiltinCall "BaseException.__getattribute__" ⟨[.ref a, .str "__class__" t], []⟩) Q' E' ⟨hp, g, d, t + 1, os⟩ := by
   intro A' Q' E' hq
   simp only [checkBuiltinCall, hk, hsplit]
   refine wpAny_bind ?_
   refine L3.at ?_
   repeat (first | assumption | wp_step)
 refine chk ?_
 show wpAny _ _ (Builtin.«object.__getattribute__» ⟨[.ref a, .str "__class__" t], []⟩) _ _ _
 unfold Builtin.«object.__getattribute__»
 refine wpAny_bind (wpAny_pure ?_)
 refine wpAny_bind (wpAny_pure ?_)
 refine wpAny_bind (L0.at (wpAny_bind (L4.at ?_)))
 dsimp only
 show wpAny _ _ (holding [Value.builtin "object.__class__"] (call (.builtin "getset_descriptor.__get__") [.builtin "object.__class__", .ref a, .ref C]) >>= ret) _ _ _
 refine wpAny_bind (wpAny_holding (wpAny_call (class_get (s := ⟨hp, g, d, t + 1, os⟩) X I F.ob (wpAny_pure ?_))))
 exact handed_on rfl (wpAny_pure h)
def A0y (X : Cx) : Prop := X.A.handled = none \/ ∃ x o u vs, X.A.handled = some (.ref x) /\ X.H₀ x = some (.frz o u) /\ o.data = .fields vs /\ vs[2]? = some .none
section
variable {X : Cx} {pins : List (Addr × Obj)} {σ : St} {H : Hp} {s : Shared}
theorem Inv.hdB {it : Addr} (I : Inv X pins σ H s) (h : A0y X) (hn : H it = none) : ∀ h' : Heap, Heap.ExtBut it s.heap h' -> Hd X.A h' := by
 intro h' k
 rcases h with z | ⟨x, o, u, vs, z, e, d, n⟩
 . exact .inl z
 . have q := I.base.frzs x o u e
   exact .inr ⟨x, o, vs, z, k x o (fun w => by rw [w, hn] at q; cases q) (I.hok x _ q).1, d, n⟩
end
structure TurnH (P : Program) (w : World) (K : Frag) (tg : Expr) (J : It) (it : Addr) (tn : Nat -> Heap -> Prop) : Prop where
 obj : ∀ i h, tn i h -> ∃ o, h.get? it = some o /\ ∀ v, o.data ≠ .cell v
 keep : ∀ i h h', tn i h -> (∀ o, h.get? it = some o -> h'.get? it = some o) -> tn i h'
 item : ∀ (X : Cx), X.prog = P -> X.w = w -> X.K = K -> A0y X -> ∀ (i : Nat) (pins : List (Addr × Obj)) (s : Shared) (σ : St) (H : Hp) (E : Value -> Shared -> Prop), Inv X pins σ H s -> A2w X pins H it -> tn i s.heap -> J.go i H ->
   wpAny (model P w) X.A (pyNext (.ref it)) (fun r s1 => ∃ u, r = some u /\
     wpAny (model P w) X.A (letOwnedTupleGo tg (.ref it) u) (fun _ s2 => ∃ x, Inv X pins σ H s2 /\ RelV x u /\ J.yld i H x H /\ tn (i + 1) s2.heap) E s1) E s
 done : ∀ (X : Cx), X.prog = P -> X.w = w -> X.K = K -> A0y X -> ∀ (i : Nat) (pins : List (Addr × Obj)) (s : Shared) (σ : St) (H : Hp) (E : Value -> Shared -> Prop), Inv X pins σ H s -> A2w X pins H it -> tn i s.heap -> J.stop i H ->
   wpAny (model P w) X.A (pyNext (.ref it)) (fun r s1 => r = none /\ Inv X pins σ H s1) E s
 self : ∀ (A : Around) (i : Nat) (s : Shared) (Q : Value -> Shared -> Prop) (E : Value -> Shared -> Prop), tn i s.heap -> Q (.ref it) s -> wpAny (model P w) A (pyIter (.ref it)) Q E s
theorem D3s {P : Program} {w : World} {K : Frag} {tg : Expr} (a it : Addr) : TurnH P w K tg (Itl K a) it (fun i h => h.IsListIter it a i) where
 obj := fun i h ⟨o, e, c, d⟩ => ⟨o, e, fun v z => by rw [d] at z; cases z⟩
 keep := fun i h h' st k => st.at fun o e => k o e
 item := by
   intro X hP hw hK hc i pins s σ H E I hf st hg
   subst hP hw hK
   obtain ⟨xs, x, hq, hx⟩ := hg
   obtain ⟨its, rv, p, hz⟩ := I.list hq
   obtain ⟨u, hu, ru⟩ := rv.get hx
   obtain ⟨f0, f1, f2, f3, f4, f5⟩ := hf
   refine wpAny_pyNext_list_item st p.isList (x := u) (by simpa using hu) fun h' st' sb => ?_
   have I1 : Inv X pins σ H { s with heap := h' } := I.turned (t' := s.toks) (fun b o hb e => (sb.2 b hb).trans e) f0 f1 f3 f4 f5
   obtain ⟨o, e, c, d⟩ := id st'
   exact ⟨u, rfl, G4f (s := { s with heap := h' }) e c d (by decide) ⟨x, I1, ru, ⟨rfl, fun ys hy => by rw [I.list_inj hy hq]; exact hx⟩, st'⟩⟩
 done := by
   intro X hP hw hK hc i pins s σ H E I hf st hg
   subst hP hw hK
   obtain ⟨xs, hq, hx⟩ := hg
   obtain ⟨its, rv, p, hz⟩ := I.list hq
   obtain ⟨f0, f1, f2, f3, f4, f5⟩ := hf
   have hl := rv.length
   exact B0p (I.hdB hc f0) st p.isList (by simp; omega) fun h' eb => ⟨rfl, I.turned (t' := s.toks) (fun b o hb e => eb b o hb e) f0 f1 f3 f4 f5⟩
 self := fun _ _ _ _ _ st h => wpAny_pyIter_listiter st h
theorem G6k {P : Program} {w : World} {K : Frag} {tg : Expr} (a it : Addr) : TurnH P w K tg (Itt K a) it (fun i h => h.IsTupleIter it a i) where
 obj := fun i h ⟨o, e, c, d⟩ => ⟨o, e, fun v z => by rw [d] at z; cases z⟩
 keep := fun i h h' st k => st.at fun o e => k o e
 item := by
   intro X hP hw hK hc i pins s σ H E I hf st hg
   subst hP hw hK
   obtain ⟨xs, x, hq, hx⟩ := hg
   obtain ⟨its, rv, p, hz⟩ := I.tuple hq
   obtain ⟨u, hu, ru⟩ := rv.get hx
   obtain ⟨f0, f1, f2, f3, f4, f5⟩ := hf
   refine wpAny_pyNext_tuple_item st (show s.heap.IsTuple a its.toArray from p) (x := u) (by simpa using hu) fun h' st' sb => ?_
   have I1 : Inv X pins σ H { s with heap := h' } := I.turned (t' := s.toks) (fun b o hb e => (sb.2 b hb).trans e) f0 f1 f3 f4 f5
   obtain ⟨o, e, c, d⟩ := id st'
   exact ⟨u, rfl, G4f (s := { s with heap := h' }) e c d (by decide) ⟨x, I1, ru, ⟨rfl, fun ys hy => by rw [I.tuple_inj hy hq]; exact hx⟩, st'⟩⟩
 done := by
   intro X hP hw hK hc i pins s σ H E I hf st hg
   subst hP hw hK
   obtain ⟨xs, hq, hx⟩ := hg
   obtain ⟨its, rv, p, hz⟩ := I.tuple hq
   obtain ⟨f0, f1, f2, f3, f4, f5⟩ := hf
   have hl := rv.length
   exact B5d (I.hdB hc f0) st p (by simp; omega) fun h' eb => ⟨rfl, I.turned (t' := s.toks) (fun b o hb e => eb b o hb e) f0 f1 f3 f4 f5⟩
 self := fun _ _ _ _ _ st h => wpAny_pyIter_tupleiter st h
def PIH (X : Cx) (tg iter : Expr) (wi : TI) : Prop :=
 ∀ (pins : List (Addr × Obj)) (s : Shared) (σ : St) (H : Hp) (R : It -> Hp -> Prop), Inv X pins σ H s -> wi σ H R ->
   wpAny (model X.prog X.w) X.A (eval iter X.env) (fun v s1 => wpAny (model X.prog X.w) X.A (pyIter v) (fun itv s2 => ∃ (it : Addr) (tn : Nat -> Heap -> Prop) (J : It) (H' : Hp), itv = .ref it /\ Inv X pins σ H' s2 /\ TurnH X.prog X.w X.K tg J it tn /\ tn 0 s2.heap /\
     A2w X pins H' it /\ R J H') X.xe s1) X.xe s
section
variable {X : Cx} {tg : Expr}
theorem J4b {l : Expr} {tl : TE} (hl : PE X l tl) : PIH X tg l (G4y X.K tl) := by
 intro pins s σ H R I h
 refine thn (hl pins s σ H _ I h) fun v s1 ⟨x, H1, I1, r1, q1⟩ => ?_
 obtain ⟨a, e, ⟨xs, hq⟩, q⟩ := q1
 subst e
 cases r1
 obtain ⟨its, rv, p, hz⟩ := I1.list hq
 exact wpAny_pyIter_list p.isList ⟨s1.heap.objs.size, _, _, H1, rfl, I1.kept (t' := s1.toks) fun b o e => Heap.get?_push_of_some _ e, D3s a _, ⟨_, Heap.get?_push_size _ rfl, rfl, rfl⟩, I1.fpOk (Nat.le_refl _) (I1.hok.fresh (Nat.le_refl _)), q⟩
theorem C3x {l : Expr} {tl : TE} (hl : PE X l tl) : PIH X tg l (Y2g X.K tl) := by
 intro pins s σ H R I h
 refine thn (hl pins s σ H _ I h) fun v s1 ⟨x, H1, I1, r1, q1⟩ => ?_
 obtain ⟨a, e, ⟨xs, hq⟩, q⟩ := q1
 subst e
 cases r1
 obtain ⟨its, rv, p, hz⟩ := I1.tuple hq
 exact wpAny_pyIter_tuple (show s1.heap.IsTuple a its.toArray from p) ⟨s1.heap.objs.size, _, _, H1, rfl, I1.kept (t' := s1.toks) fun b o e => Heap.get?_push_of_some _ e, G6k a _, ⟨_, Heap.get?_push_size _ rfl, rfl, rfl⟩, I1.fpOk (Nat.le_refl _) (I1.hok.fresh (Nat.le_refl _)), q⟩
end
section
variable {X : Cx}
theorem J2z {pins : List (Addr × Obj)} {σ : St} {H : Hp} {s : Shared} {C : Addr} {h' : Heap} (I : Inv X pins σ H s) (f : A2w X pins H C) (sb : Heap.SameBut C s.heap h') : Inv X pins σ H { s with heap := h' } :=
 I.turned (t' := s.toks) (fun b o hb e => (sb.2 b hb).trans e) f.1 f.2.1 f.2.2.2.1 f.2.2.2.2.1 f.2.2.2.2.2
end
section
variable {X : Cx} {a b c : Expr} {ta tb tc : TE} {pos : Pos}
theorem U8 : OpR X (binaryOp .Mult) (rI IntMulOk fun i j => .int (i * j)) := opI fun _ _ _ _ _ _ _ hc q => mul_int q hc
theorem D3 : OpR X (binaryOp .FloorDiv) (rI (fun _ j => 0 < j /\ j.natAbs.log2 < 9000) fun i j => .int (i / j)) := opI fun i j _ _ _ _ _ hc q => by
 have h1 : (0 : Int) < j := hc.1
 exact floordiv_int (by omega) (by rw [Int.fdiv_eq_ediv_of_nonneg i (by omega)]; exact q) (.inl (PyProof.noPylong_of_log2 hc.2))
theorem B5x {i : Int} {k : Nat} (h : i.natAbs < 2 ^ k) (hk : 0 < k) : i.natAbs.log2 < k := by
 by_cases z : i.natAbs = 0
 . rw [z]; simpa using hk
 . exact (Nat.log2_lt z).mpr h
inductive TyE (K : Frag) (H : Hp) : V -> Value -> Prop where
 | of {x : V} {t : Value} (h : TyOf K H x t) : TyE K H x t
 | exc {a C t : Addr} {T : Value} {u : HO} (e : H a = some (.frz (Y9 (.ref C) t none T) u)) (k : ExcK K C) : TyE K H (.ref a) (.ref C)
 | excD {a C t : Addr} {T : Value} {d : Addr} {u : HO} {fs : List (Str × V)} (e : H a = some (.frz (Y9 (.ref C) t (some d) T) u)) (hd : H d = some (.xd fs)) (k : ExcK K C) : TyE K H (.ref a) (.ref C)
 | tupK {a : Addr} {o : Obj} (l : K.lookup a = some o) (c : o.cls = .type "tuple") : TyE K H (.ref a) (.type "tuple")
theorem D4n {pins : List (Addr × Obj)} {σ : St} {H : Hp} {s : Shared} {A : Around} {E : Value -> Shared -> Prop} {Q : Value -> Shared -> Prop} {c : Value} {b : Bool} {x : V} {u t : Value} (I : Inv X pins σ H s) (rx : RelV x u) (ty : TyE X.K H x t)
   (e : kitOne X.K t c = some b) (h : ∀ tk, Q (.bool b) { s with toks := tk }) : wpAny (model X.prog X.w) A (call (.builtin "isinstance") [u, c]) Q E s := by
 cases ty with
 | of h' => exact G6p I rx h' e h
 | exc ea k =>
   cases rx
   rename_i a C t0 T u0
   have o1 : s.heap.get? a = some (Y9 (.ref C) t0 none T) := (I.hok a _ ea).1
   refine kia_one (H := fun h => PySem.W.InstAt h a (Y9 (.ref C) t0 none T) C none) ?_ I.kIn ⟨o1, rfl, rfl, trivial⟩ e (fun z => nomatch z) h
   refine ⟨fun M h _ J => J.type, fun M h K _ => A3w K k.cl, fun h tp dd its n sl K htp => ?_, fun K J q => A5q k K J q⟩
   refine Bool.eq_false_iff.mpr fun q => ?_
   have e : C = tp := Value.ref.inj (beq_iff_eq.mp q)
   subst e
   have z := k.cl
   unfold clsIn at z
   split at z
   . rename_i ho
     have y := (K _ _ ho).symm.trans htp
     cases y
   . cases z
 | tupK l c =>
   cases rx
   exact PySem.W.kia_one PySem.W.kitx_tuple I.kIn ⟨_, I.kIn _ _ l, c⟩ e (fun z => nomatch z) h
 | excD ea hd k =>
   cases rx
   rename_i a C t0 T d u0 fs
   have o1 : s.heap.get? a = some (Y9 (.ref C) t0 (some d) T) := (I.hok a _ ea).1
   obtain ⟨mA, nA, _⟩ := (show ∃ mA, s.heap.Ns1 d mA /\ ∀ f, RelO (fs.lookup f) (mA f) from I.hok d _ hd)
   obtain ⟨od, o2, _⟩ := B1a nA
   refine kia_one (H := fun h => PySem.W.InstAt h a (Y9 (.ref C) t0 (some d) T) C (some od)) ?_ I.kIn ⟨o1, rfl, rfl, o2⟩ e (fun z => nomatch z) h
   refine ⟨fun M h _ J => J.type, fun M h K _ => A3w K k.cl, fun h tp dd its n sl K htp => ?_, fun K J q => A5q k K J q⟩
   refine Bool.eq_false_iff.mpr fun q => ?_
   have e : C = tp := Value.ref.inj (beq_iff_eq.mp q)
   subst e
   have z := k.cl
   unfold clsIn at z
   split at z
   . rename_i ho
     have y := (K _ _ ho).symm.trans htp
     cases y
   . cases z
def V6b : V -> Option Value
 | .ty n => some (.type n)
 | .ref a => some (.ref a)
 | _ => none
theorem C8m : A2u X (.builtin "isinstance") (fun xs H Q => ∃ x c cv t b, xs = [x, c] /\ V6b c = some cv /\ TyE X.K H x t /\ kitOne X.K t cv = some b /\ Q (.bl b) H) := by
 intro pins s σ H xs us Q I r h
 obtain ⟨x, c, cv, t, b, rfl, hc, ty, e, q⟩ := h
 obtain ⟨u, v, rfl, ru, rv⟩ := Vals.two r
 have : v = cv := by
   cases c <;> simp only [V6b] at hc <;> first | (cases hc; exact rv) | cases hc
 subst this
 exact D4n I ru ty e fun tk => ⟨.bl b, H, I.tok tk, rfl, q⟩
mutual
inductive RdD (K : Frag) (H : Hp) : V -> PyData -> Prop where
 | non : RdD K H .non .none
 | bl (b : Bool) : RdD K H (.bl b) (.bool b)
 | int (i : Int) : RdD K H (.int i) (.int i)
 | str (x : Str) : RdD K H (.str x) (.str x)
 | tup {a : Addr} {xs : List V} {ds : List PyData} (h : SqT K H a xs) (r : RdDs K H xs ds) : RdD K H (.ref a) (.tuple ds)
 | lst {a : Addr} {xs : List V} {ds : List PyData} (h : SqL K H a xs) (r : RdDs K H xs ds) : RdD K H (.ref a) (.list ds)
inductive RdDs (K : Frag) (H : Hp) : List V -> List PyData -> Prop where
 | nil : RdDs K H [] []
 | cons {x : V} {xs : List V} {d : PyData} {ds : List PyData} (h : RdD K H x d) (r : RdDs K H xs ds) : RdDs K H (x :: xs) (d :: ds)
end
mutual
theorem RdD.reads {pins : List (Addr × Obj)} {σ : St} {H : Hp} {s : Shared} (I : Inv X pins σ H s) : ∀ {x : V} {d : PyData} {u : Value}, RdD X.K H x d -> RelV x u -> ∃ as, Reads s.heap u d as
 | _, _, _, .non, r => by cases r; exact ⟨_, .none⟩
 | _, _, _, .bl b, r => by cases r; exact ⟨_, .bool b⟩
 | _, _, _, .int i, r => by obtain ⟨t, rfl⟩ := r; exact ⟨_, .int i t⟩
 | _, _, _, .str x, r => by obtain ⟨t, rfl⟩ := r; exact ⟨_, .str x t⟩
 | _, _, _, .tup h q, r => by
   cases r
   obtain ⟨its, rv, ⟨o, e, c, n, d⟩, _⟩ := I.tuple h
   obtain ⟨as, z⟩ := RdDs.reads I q rv
   exact ⟨_, reads_tuple_at e c d (by simpa using z)⟩
 | _, _, _, .lst h q, r => by
   cases r
   obtain ⟨its, rv, p, _⟩ := I.list h
   obtain ⟨o, e, c, n, d⟩ := p.isList
   obtain ⟨as, z⟩ := RdDs.reads I q rv
   exact ⟨_, reads_list_at e c d (by simpa using z)⟩
theorem RdDs.reads {pins : List (Addr × Obj)} {σ : St} {H : Hp} {s : Shared} (I : Inv X pins σ H s) : ∀ {xs : List V} {ds : List PyData} {us : List Value}, RdDs X.K H xs ds -> Vals xs us -> ∃ as, ReadsAll s.heap us ds as
 | _, _, _, .nil, r => by cases r; exact ⟨_, .nil⟩
 | _, _, _, .cons h q, r => by
   cases r with
   | cons r1 r2 =>
     obtain ⟨as, z⟩ := RdD.reads I h r1
     obtain ⟨bs, y⟩ := RdDs.reads I q r2
     exact ⟨_, .cons z y⟩
end
def Y1g (K : Frag) (n : Bool) : R2 := fun x y H Q => ∃ d e, RdD K H x d /\ RdD K H y e /\ SeqAt.shaped d = true /\ SeqAt.shaped e = true /\ Q (.bl (if n then !PyData.eqv d e else PyData.eqv d e)) H
theorem C3s (hu : X.A.units + 64 < cLine) : OpR X (compareOp .Eq) (Y1g X.K false) := by
 intro pins s σ H x y v u Q I rx ry q
 obtain ⟨d, e, hx, hy, sd, se, q⟩ := q
 obtain ⟨as, z⟩ := hx.reads I rx
 obtain ⟨bs, z'⟩ := hy.reads I ry
 exact eq_dataH z z' sd se hu ⟨.bl (PyData.eqv d e), H, I, rfl, q⟩
theorem V5z (hu : X.A.units + 64 < cLine) : OpR X (compareOp .NotEq) (Y1g X.K true) := by
 intro pins s σ H x y v u Q I rx ry q
 obtain ⟨d, e, hx, hy, sd, se, q⟩ := q
 obtain ⟨as, z⟩ := hx.reads I rx
 obtain ⟨bs, z'⟩ := hy.reads I ry
 exact ne_dataH z z' sd se hu ⟨.bl (!PyData.eqv d e), H, I, rfl, q⟩
inductive FPart (X : Cx) : Expr -> TE -> Prop where
 | lit {x : Str} {j : Nat} {pos : Pos} : FPart X (.Constant (.str x) j pos) (tC (.str x))
 | int {v : Expr} {tv : TE} {pos : Pos} (h : PE X v tv) : FPart X (.FormattedValue v (-1) none pos) (fun σ H Q => tv σ H fun y H1 => ∃ i, y = .int i /\ i.natAbs.log2 < 1920 /\ Q (.str (toString i)) H1)
theorem FPart.pe {e : Expr} {t : TE} (h : FPart X e t) : PE X e t := by
 cases h with
 | lit => exact B5
 | int h =>
   intro pins s σ H Q I q
   refine FormattedValue_plain (thn (h pins s σ H _ I q) fun u s1 ⟨y, H1, I1, r, i, e, l, q⟩ => ?_)
   subst e
   obtain ⟨t, rfl⟩ := r
   exact formatField_int_small l ⟨.str (toString i), H1, I1.tok _, ⟨_, rfl⟩, q⟩
inductive FParts (X : Cx) : List Expr -> (Str -> TE) -> Prop where
 | nil : FParts X [] (fun out _ H Q => out.length <= sizeLine /\ Q (.str out) H)
 | cons {e : Expr} {es : List Expr} {t : TE} {r : Str -> TE} (h : FPart X e t) (hr : FParts X es r) : FParts X (e :: es) (fun out σ H Q => t σ H fun x H1 => ∃ y, x = .str y /\ (out ++ y).length <= sizeLine /\ r (out ++ y) σ H1 Q)
theorem FParts.run {es : List Expr} {t : Str -> TE} (h : FParts X es t) : ∀ (out : Str) (pins : List (Addr × Obj)) (s : Shared) (σ : St) (H : Hp) (Q : VK), Inv X pins σ H s -> t out σ H Q ->
   wpAny (model X.prog X.w) X.A (joinParts out (evalEach es X.env)) (EP X pins σ Q) X.xe s := by
 induction h with
 | nil =>
   intro out pins s σ H Q I q
   exact joinParts_nil ⟨.str out, H, I.tok _, ⟨_, rfl⟩, q.2⟩ q.1
 | @cons e es t r h hr ih =>
   intro out pins s σ H Q I q
   show wpAny _ _ (joinParts out (eval e X.env :: evalEach es X.env)) _ _ _
   refine joinParts_cons (thn (h.pe pins s σ H _ I q) fun u s1 ⟨x, H1, I1, rx, y, ey, z, q⟩ => ?_)
   subst ey
   obtain ⟨t', rfl⟩ := rx
   exact ⟨z, ih _ pins s1 σ H1 Q I1 q⟩
theorem G4a {e1 e2 : Expr} {es : List Expr} {t : Str -> TE} {pos : Pos} (h : FParts X (e1 :: e2 :: es) t) : PE X (.JoinedStr (e1 :: e2 :: es) pos) (t Str.empty) := by
 intro pins s σ H Q I q
 exact JoinedStr_many (h.run _ pins s σ H Q I q)
end
section
variable {P : Program} {w : World} {K : Frag} {mg : Str -> Option Value} {base : Heap}
end
section
variable {X : Cx} {k : Nat} {f : Addr} {fd : FuncData} {ps : List Str} {sp : Sp} {x : Str} {p pos : Pos} {e : Expr} {es : List Expr} {t : TA}
end
theorem Inv.big {X : Cx} {pins : List (Addr × Obj)} {σ : St} {H : Hp} {s : Shared} (I : Inv X pins σ H s) : sysModules < s.heap.objs.size := by
 have h : mainGlobals < s.heap.objs.size := (I.mod.glob.keeps I.bk).lt
 exact Nat.lt_trans (by decide) h
theorem J3y {P : Program} {w : World} {H : Hp} (h : Heap) (hb : sysModules < h.objs.size) : ObjOk P w H (h.push { cls := .type "dict", data := .dict #[] }) h.objs.size (.dK []) :=
 ⟨Nat.zero_le _, beq_eq_false_iff_ne.mpr (Ne.symm (Nat.ne_of_lt hb)), [], .nil, Heap.DictOf.new h⟩
abbrev EKF : EK := fun _ _ _ _ => False
theorem A0q {X : Cx} : D8 X EKF := fun _ _ _ _ _ _ _ _ _ _ h => h.elim
structure Def (K : Frag) (mg : Str -> Option Value) (x : Str) (ps : List Str) (st : Stmt) (f : Addr) (fd : FuncData) : Prop where
 F : Fun K x x st f fd
 g : mg x = some (.ref f)
 b : Binds K fd ps []
theorem D6 {K : Frag} {h : Heap} {mg : Str -> Option Value} {x : Str} {ps : List Str} {st : Stmt} {f : Addr} {oc : Value} {od an : Option Addr} {osl : Array (Option Value)} {kV doc pm cdv ct : Value} (X : K.In h) (G : h.Ns mainGlobals mg)
   (a : nsIn K mainGlobals x = some (some (.ref f))) (l : K.lookup f = some ⟨oc, od, .func (fnOf x x (B7 st) (B4 st) (A3 st) .none kV doc pm an cdv ct), osl⟩) (c : codeIn K cdv x = true) (k : keepIn K (.ref f) = true)
   (hb : ∀ (kV doc pm : Value) (an : Option Addr) (cdv ct : Value) (us : List Value), us.length = ps.length -> bindArgs (fnOf x x (B7 st) (B4 st) (A3 st) .none kV doc pm an cdv ct) ⟨us, []⟩ = pure (ps.zip us)) :
   Def K mg x ps st f (fnOf x x (B7 st) (B4 st) (A3 st) .none kV doc pm an cdv ct) :=
 ⟨V7 (st := st) l c k, mg_of X G a, (V7 (st := st) l c k).binds hb⟩
theorem C1h {c A B : Prop} [Decidable c] (h : ¬ c) (b : B) : if decide c = true then A else B := by rw [decide_eq_false h]; exact Z2 b
theorem B6h {c A B : Prop} [Decidable c] (h : c) (a : A) : if decide c = true then A else B := by rw [decide_eq_true h]; exact A1n a
theorem G9 {c A B : Prop} [Decidable c] (a : c -> A) (b : ¬ c -> B) : if decide c = true then A else B := by
 by_cases h : c
 . exact B6h h (a h)
 . exact C1h h (b h)
def Y1j (t : TS) : TS := fun D σ H => ∃ J : St -> Hp -> Prop, t { D with nx := J } σ H /\ ∀ σ' H', J σ' H' -> D.nx σ' H'
theorem C4 {X : Cx} {st : Stmt} {t : TS} (h : PS X st t) : PS X st (Y1j t) := by
 intro pins s σ H D I q
 obtain ⟨J, q, k⟩ := q
 refine thn (h pins s σ H _ I q) fun f s' z => ?_
 cases f with
 | next => obtain ⟨σ', H', I', y⟩ := z; exact ⟨σ', H', I', k _ _ y⟩
 | brk => exact z
 | cont => exact z
 | ret u => exact z
theorem ixs {xs : List Int} {i : Int} (h0 : 0 <= i) (h1 : i < xs.length) : ∃ v, v ∈ xs /\ atI (xs.map V.int) i = some (.int v) := by
 obtain ⟨j, rfl⟩ := Int.eq_ofNat_of_zero_le h0
 have hj : j < xs.length := by omega
 exact ⟨xs[j], List.getElem_mem hj, J0 (by simp [hj])⟩
theorem ixv {xs : List V} {i : Int} (h0 : 0 <= i) (h1 : i < xs.length) : ∃ v, v ∈ xs /\ atI xs i = some v := by
 obtain ⟨j, rfl⟩ := Int.eq_ofNat_of_zero_le h0
 have hj : j < xs.length := by omega
 exact ⟨xs[j], List.getElem_mem hj, J0 (by simp [hj])⟩
theorem Same.upd {H : Hp} {p : Addr} {o : HO} (h : H p = none) : Same H (L2.upd H p o) := fun b u e => by rw [B3 (C6 e h)]; exact e
theorem D5 {n : Nat} (h : n <= 1000) : n <= sizeLine := Nat.le_of_lt (G7 h)
section
variable {X : Cx} {k j : Nat} {f : Addr} {fd : FuncData} {ps : List Str} {sp : Sp} {EH : EK} {x : Str} {st : Stmt} {p pos : Pos} {e : Expr} {es : List Expr} {t : TA}
theorem C5 (D : Def X.K X.mg x ps st f fd) (F : FnOk X.prog X.w X.K X.mg X.base (CX1 X.prog X.w) j f fd ps sp) (hr : Room k X.A) (hx : D8 X EH) (ha : PA X (e :: es) t) (hj : j <= k := by decide) (hg : Gl X x := by rfl) (hex : X.ex = [] := by rfl) (hdb : (x == ("__debug__" : Str)) = false := by decide)
   (he : starEach (e :: es) X.env = (false, eval e X.env) :: starEach es X.env := by rfl) (hpl : (backTo pos (starEach es X.env)).any (·.1) = false := by rfl) : PE X (.Call (.Name x p) (e :: es) [] pos) (C4a sp [] EH t) :=
 J3c (F.mono hj) hr hg D.g D.F.kp D.b .nil hx ha hex hdb he hpl
theorem J5n (D : Def X.K X.mg x ps st f fd) (F : FnOk X.prog X.w X.K X.mg X.base (CX1 X.prog X.w) j f fd ps sp) (hr : Room k X.A) (hx : D8 X EH) (hj : j <= k := by decide) (hg : Gl X x := by rfl) (hex : X.ex = [] := by rfl) (hdb : (x == ("__debug__" : Str)) = false := by decide) :
   PE X (.Call (.Name x p) [] [] pos) (C4a sp [] EH J5p) :=
 G7c (F.mono hj) hr hg D.g D.F.kp D.b .nil hx hex hdb
theorem pty {n : Str} {T : String} (hm : X.mg n = none) (hv : bootBuiltins n = some (.type T)) (hg : Gl X n := by rfl) (hn : n ≠ "__name__" := by decide) (hdb : (n == ("__debug__" : Str)) = false := by decide) : PE X (.Name n pos) (tC (.ty T)) := U9a hg hm hv rfl hn hdb
theorem J3n {n : Str} {C : Addr} (hm : X.mg n = some (.ref C)) (hg : Gl X n := by rfl) (hdb : (n == ("__debug__" : Str)) = false := by decide) : PE X (.Name n pos) (tC (.ref C)) := U8v hg hm rfl hdb
theorem G6g {a b : Expr} {ta tb : TE} (hm : X.mg "isinstance" = none) (ha : PE X a ta) (hb : PE X b tb) (hg : Gl X "isinstance" := by rfl)
   (h1 : starEach [a, b] X.env = (false, eval a X.env) :: starEach [b] X.env := by rfl) (h2 : starEach [b] X.env = (false, eval b X.env) :: starEach [] X.env := by rfl) (h3 : (backTo pos (starEach [b] X.env)).any (·.1) = false := by rfl) :
   PE X (.Call (.Name "isinstance" p) [a, b] [] pos) (tCB (fun xs H Q => ∃ x c cv t b, xs = [x, c] /\ V6b c = some cv /\ TyE X.K H x t /\ kitOne X.K t cv = some b /\ Q (.bl b) H) (J3x ta (J3x tb J5p))) :=
 U0 C8m hg hm boot_isinstance (A0 ha (A0 hb A8 h2) h1) (he := h1) (hpl := h3)
end
section
variable {X : Cx} {k j : Nat} {f : Addr} {fd : FuncData} {ps : List Str} {sp : Sp} {x : Str} {st : Stmt} {p pos : Pos} {e : Expr} {es : List Expr} {t : TA}
end
structure Mk0 (K : Frag) (C : Addr) : Prop where
 makes : makesIn K C = true
 init : findIn K (.ref C) "__init__" = some (some (.builtin "object.__init__"))
 kp : keepIn K (.ref C) = true
section
variable {X : Cx} {k j : Nat} {f C : Addr} {fd : FuncData} {ps : List Str} {sp : Sp} {dvs : List V} {ds : List Value} {EH : EK} {x m : Str} {p pos apos : Pos} {e o : Expr} {es : List Expr} {ta : TE} {t : TA}
def V4u (C : Addr) : TE := fun _ H Q => ∀ x dx, H x = none -> H dx = none -> dx ≠ x -> Q (.ref x) (upd (upd H dx (.own x)) x (.ins C dx []))
theorem V0u {pins : List (Addr × Obj)} {σ : St} {H : Hp} {s : Shared} {Q : VK} (M : Mk0 X.K C) (I : Inv X pins σ H s) (h : V4u C σ H Q) : wpAny (model X.prog X.w) X.A (call (.ref C) []) (EP X pins σ Q) X.xe s := by
 have hq := h (s.heap.objs.size + 1) s.heap.objs.size (I.hok.fresh (Nat.le_succ _)) (I.hok.fresh (Nat.le_refl _)) (Nat.ne_of_lt (Nat.lt_succ_self _))
 have I2 := Inv.made (C := C) I
 have Y := makes_of (M := model X.prog X.w) I.kIn M.makes
 refine wpAny_call (G7d I.kIn M.makes M.init (fun self => Looks.of_pure (oi_bind self)) ?_)
 have e2 : ((s.heap.push emptyDict).push (instObj C s.heap.objs.size)).get? (s.heap.objs.size + 1) = some (instObj C s.heap.objs.size) := by
   have := Heap.get?_push_size (s.heap.push emptyDict) (o := instObj C s.heap.objs.size) rfl
   rwa [Heap.size_push] at this
 have t1 : Looks (model X.prog X.w) ((s.heap.push emptyDict).push (instObj C s.heap.objs.size)) (typeOf (.ref (s.heap.objs.size + 1))) (.ref C) := (Looks.ld e2).andThen .now
 have t2 : Looks (model X.prog X.w) ((s.heap.push emptyDict).push (instObj C s.heap.objs.size)) (isInstance (.ref (s.heap.objs.size + 1)) (.type "object")) true := t1.andThen (Y.top.keeps fun b o e => Heap.get?_push_of_some _ (Heap.get?_push_of_some _ e))
 refine codeAny_call_builtin oi_plain entry_oi (@check_slot (model X.prog X.w) _ _ _ "object.__init__" "object" "__init__" (.ref (s.heap.objs.size + 1)) [] [] _ oi_kind oi_split t2 (oi_args (.ref (s.heap.objs.size + 1))) ?_)
 rw [oi_run]
 exact wpAny_pure (And.intro rfl ⟨V.ref (s.heap.objs.size + 1), _, I2, rfl, hq⟩)
theorem A6a (M : Mk0 X.K C) (hg : Gl X x) (hm : X.mg x = some (.ref C)) (hdb : (x == ("__debug__" : Str)) = false := by decide) : PE X (.Call (.Name x p) [] [] pos) (V4u C) := by
 intro pins s σ H Q I h
 refine wpAny_Call_Name_kw (A0j I hg hm ?_ hdb)
 exact callWith_K0 I.kIn M.kp (V0u M I h)
def J4d (C : Addr) (m : Str) (sp : Sp) (dvs : List V) (EH : EK) (ta : TE) (t : TA) : TE := fun σ H Q => ta σ H fun x H1 => ∃ a dx fs, x = .ref a /\ H1 a = some (.ins C dx fs) /\ fs.lookup m = none /\
 t σ H1 fun vs H2 => sp (x :: (vs ++ dvs)) H2 Q (fun C d H' => EH C d σ H')
theorem D0c {pl : Sem Bool} (he : PE X o ta) (c : Cls X.K C) (hm : Meth X.K C m f) (F : FnOk X.prog X.w X.K X.mg X.base (CX1 X.prog X.w) j f fd ps sp) (hr : Room k X.A) (hb : Binds X.K fd ps ds) (hd : Vals dvs ds) (hx : D8 X EH) (ha : PA X (e :: es) t)
   (hj : j <= k := by decide) (hex : X.ex = [] := by rfl)
   (hst : starEach (e :: es) X.env = (false, eval e X.env) :: starEach es X.env := by rfl) (hpl : (backTo pos (starEach es X.env)).any (·.1) = false := by rfl)
   (ht : eval (.Call (.Attribute o m apos) (e :: es) [] pos) X.env = (do
     let ov <- eval o X.env
     standAt apos.atName
     let (f, first) <- holding [ov] (getMethod ov m pl)
     callWith pos f first (backTo pos (starEach (e :: es) X.env)) (backToKw pos (keywordEach [] X.env))) := by rfl) :
   PE X (.Call (.Attribute o m apos) (e :: es) [] pos) (J4d C m sp dvs EH ta t) := by
 intro pins s σ H Q I h
 refine methodCall_KW (pl := pl) (thn (he pins s σ H _ I h) fun u s1 ⟨x, H1, I1, rx, a, dx, fs, ex, ea, l, q⟩ => ?_) ht
 subst ex
 obtain rfl : u = Value.ref a := rx
 refine B7m I1 ea c hm l ?_
 refine callWith_K (first := [.ref a]) (h₀ := X.base) I.ok.mod.kin hm.kp (thn (ha pos pins s1 σ H1 _ I1 q) fun us s2 ⟨vs, H2, I2, r, q2⟩ => ⟨I2.kIn, ?_⟩) hst hpl
 exact B5n (us := .ref a :: us) (vs := .ref a :: vs) (F.mono hj) hr hb hd hx hex I2 (.cons rfl r) q2
theorem A5k {pl : Sem Bool} (he : PE X o ta) (c : Cls X.K C) (hm : Meth X.K C m f) (F : FnOk X.prog X.w X.K X.mg X.base (CX1 X.prog X.w) j f fd ps sp) (hr : Room k X.A) (hb : Binds X.K fd ps ds) (hd : Vals dvs ds) (hx : D8 X EH)
   (hj : j <= k := by decide) (hex : X.ex = [] := by rfl)
   (ht : eval (.Call (.Attribute o m apos) [] [] pos) X.env = (do
     let ov <- eval o X.env
     standAt apos.atName
     let (f, first) <- holding [ov] (getMethod ov m pl)
     callWith pos f first (backTo pos (starEach [] X.env)) (backToKw pos (keywordEach [] X.env))) := by rfl) :
   PE X (.Call (.Attribute o m apos) [] [] pos) (J4d C m sp dvs EH ta J5p) := by
 intro pins s σ H Q I h
 refine methodCall_KW (pl := pl) (thn (he pins s σ H _ I h) fun u s1 ⟨x, H1, I1, rx, a, dx, fs, ex, ea, l, q⟩ => ?_) ht
 subst ex
 obtain rfl : u = Value.ref a := rx
 refine B7m I1 ea c hm l ?_
 exact callWith_K0 (first := [.ref a]) I1.kIn hm.kp (B5n (us := [.ref a]) (vs := [.ref a]) (F.mono hj) hr hb hd hx hex I1 (.cons rfl .nil) q)
def V6e (C : Addr) (sp : Sp) (dvs : List V) (EH : EK) (t : TA) : TE := fun σ H Q => t σ H fun vs H1 => ∀ x dx, H1 x = none -> H1 dx = none -> dx ≠ x ->
 sp (.ref x :: (vs ++ dvs)) (upd (upd H1 dx (.own x)) x (.ins C dx [])) (fun v H2 => v = .non /\ Q (.ref x) H2) (fun C d H' => EH C d σ H')
theorem G6a {pins : List (Addr × Obj)} {σ : St} {H : Hp} {s : Shared} {Q : VK} {us : List Value} {vs : List V} (M : Mk X.K C f) (F : FnOk X.prog X.w X.K X.mg X.base (CX1 X.prog X.w) k f fd ps sp) (hr : Room (k + 1) X.A) (hb : Binds X.K fd ps ds) (hd : Vals dvs ds)
   (hx : D8 X EH) (hex : X.ex = []) (I : Inv X pins σ H s) (r : Vals vs us)
   (h : ∀ x dx, H x = none -> H dx = none -> dx ≠ x -> sp (.ref x :: (vs ++ dvs)) (upd (upd H dx (.own x)) x (.ins C dx [])) (fun v H2 => v = .non /\ Q (.ref x) H2) (fun C d H' => EH C d σ H')) :
   wpAny (model X.prog X.w) X.A (call (.ref C) us) (EP X pins σ Q) X.xe s := by
 have hq := h (s.heap.objs.size + 1) s.heap.objs.size (I.hok.fresh (Nat.le_succ _)) (I.hok.fresh (Nat.le_refl _)) (Nat.ne_of_lt (Nat.lt_succ_self _))
 have I2 := Inv.made (C := C) I
 have r2 : Vals (V.ref (s.heap.objs.size + 1) :: (vs ++ dvs)) (Value.ref (s.heap.objs.size + 1) :: (us ++ ds)) := .cons rfl (r.append hd)
 have hl : (Value.ref (s.heap.objs.size + 1) :: us ++ ds).length = ps.length := by
   have e := r2.length
   rw [F.len _ _ _ _ hq] at e
   exact e.symm
 refine wpAny_call (C9p (f := f) I.kIn M.makes M.init (beq_iff_eq.mp M.fn) (codeAny_mono (F.run _ X.stack _ _ ⟨Value.ref (s.heap.objs.size + 1) :: us, []⟩ (Value.ref (s.heap.objs.size + 1) :: (us ++ ds)) _ _ _ (hr.make C us [])
   (I2.env0.make C us []) (hb _ (Value.ref (s.heap.objs.size + 1) :: us) I2.kIn hl) r2 hq) fun r s' hq' => ?_))
 cases r with
 | error e => exact U9w hx hex I2 hq'
 | ok fl =>
   cases fl with
   | ret u =>
     obtain ⟨v, H', I3, rv, ev, q3⟩ := I2.after hq'
     subst ev
     exact ⟨rv, ⟨V.ref (s.heap.objs.size + 1), H', I3, rfl, q3⟩⟩
   | next => exact False.elim hq'
   | brk => exact False.elim hq'
   | cont => exact False.elim hq'
theorem B0c (M : Mk X.K C f) (F : FnOk X.prog X.w X.K X.mg X.base (CX1 X.prog X.w) j f fd ps sp) (hr : Room k X.A) (hm : X.mg x = some (.ref C)) (hb : Binds X.K fd ps ds) (hd : Vals dvs ds) (hx : D8 X EH)
   (ha : PA X (e :: es) t) (hj : j + 1 <= k := by decide) (hg : Gl X x := by rfl) (hex : X.ex = [] := by rfl) (hdb : (x == ("__debug__" : Str)) = false := by decide) (he : starEach (e :: es) X.env = (false, eval e X.env) :: starEach es X.env := by rfl) (hpl : (backTo pos (starEach es X.env)).any (·.1) = false := by rfl) :
   PE X (.Call (.Name x p) (e :: es) [] pos) (V6e C sp dvs EH t) := by
 intro pins s σ H Q I h
 refine wpAny_Call_Name_kw (A0j I hg hm ?_ hdb)
 refine callWith_K (h₀ := X.base) I.ok.mod.kin M.kp (thn (ha pos pins s σ H _ I h) fun us s1 ⟨vs, H1, I1, r, q⟩ => ⟨I1.kIn, ?_⟩) he hpl
 exact G6a M F (hr.mono hj) hb hd hx hex I1 r q
end
theorem U7x {n : Nat} (h : n <= sizeLine) : Builtin.Str.tooLong n = false := by
 unfold Builtin.Str.tooLong
 exact decide_eq_false (by omega)
section
variable {X : Cx}
end
structure FunD (K : Frag) (x qual : Str) (st : Stmt) (dV : Value) (f : Addr) (fd : FuncData) : Prop where
 ex : ∃ (oc : Value) (od : Option Addr) (kV doc pm : Value) (an : Option Addr) (cdv ct : Value) (osl : Array (Option Value)),
   fd = fnOf x qual (B7 st) (B4 st) (A3 st) dV kV doc pm an cdv ct /\ K.lookup f = some ⟨oc, od, .func fd, osl⟩ /\ codeIn K cdv qual = true
 kp : keepIn K (.ref f) = true
section
variable {P : Program} {w : World} {K : Frag} {mg : Str -> Option Value} {base : Heap}
theorem FunD.okE {x qual : Str} {st : Stmt} {dV : Value} {f : Addr} {fd : FuncData} {N ps : List Str} {k : Nat} {sp : Sp} (F : FunD K x qual st dV f fd) (S : FnScope N ps (A3 st)) (len : ∀ vs H Q E, sp vs H Q E -> vs.length = ps.length)
   (hbody : ∀ (X : Cx) (cdv : Value) (A : Around) (outer : List Env) (s : Shared) (H : Hp) (vs : List V) (Q : VK) (E : XK), X = Z8 (CX1 P w) P w K mg base N qual (A3 st) f cdv A outer s H E -> Room k X.A -> D8 X (fun C dd _ H' => E C dd H') -> sp vs H Q E ->
     ∃ t, PSs (Z8 (CX1 P w) P w K mg base N qual (A3 st) f cdv A outer s H E) (B4 st) t /\ t { nx := fun _ H' => Q .non H', rt := Q } (A1x N vs) H) : FnOk P w K mg base (CX1 P w) (k + 1) f fd ps sp := by
 obtain ⟨oc, od, kV, doc, pm, an, cdv, ct, osl, rfl, lk, hc⟩ := F.ex
 exact J4j lk hc S len fun A outer s H vs Q E hr h => hbody _ cdv A outer s H vs Q E rfl hr A3t h
theorem G3v {x qual : Str} {st : Stmt} {dV : Value} {f : Addr} {oc : Value} {od an : Option Addr} {osl : Array (Option Value)} {kV doc pm cdv ct : Value} (l : K.lookup f = some ⟨oc, od, .func (fnOf x qual (B7 st) (B4 st) (A3 st) dV kV doc pm an cdv ct), osl⟩)
   (c : codeIn K cdv qual = true) (k : keepIn K (.ref f) = true) : FunD K x qual st dV f (fnOf x qual (B7 st) (B4 st) (A3 st) dV kV doc pm an cdv ct) := ⟨⟨oc, od, kV, doc, pm, an, cdv, ct, osl, rfl, l, c⟩, k⟩
theorem D3e {fd : FuncData} {ps : List Str} {ds : List Value} {T : Addr} {o : Obj} {items : Array Value} {n : Nat} (hd : fd.defaults = .ref T) (ho : K.lookup T = some o) (hs : o.data = .seq items n)
   (h : ∀ us : List Value, (us ++ ds).length = ps.length -> ∃ k, bindArgs fd ⟨us, []⟩ = seqItems? fd.defaults >>= k /\ k (some items) = pure (ps.zip (us ++ ds))) : Binds K fd ps ds := fun s us X hl => by
 obtain ⟨k, h1, h2⟩ := h us hl
 exact binds_K X hd ho hs h1 h2
end
section
variable {X : Cx} {k j : Nat} {f C : Addr} {fd : FuncData} {ps ks : List Str} {sp : Sp} {EH : EK} {x m : Str} {p pos apos : Pos} {e o : Expr} {es : List Expr} {kws : List Keyword} {ta : TE} {t tk : TA} {g : List Value -> List Value -> List Value} {gV : List V -> List V -> List V}
end
section
variable {X : Cx} {K : Frag} {e : Expr} {f : Str} {pos : Pos} {ta : TE}
theorem C9f (h : X.K = K) : IxR X (Y1q K) := by subst h; exact A0k
theorem V0s (h : X.K = K) : IxR X (Y0g K) := by subst h; exact U4
theorem A1p (h : X.K = K) : OpR X (compareOp .In) (rIn K false) := by subst h; exact C1f
end
end L2
namespace TR
open PySem L2 PySem.W PyProof.Rows
structure Own (mg : Str -> Option Value) : Prop where
 isi : mg "isinstance" = none
 int_ : mg "int" = none
 bool_ : mg "bool" = none
 str_ : mg "str" = none
 list_ : mg "list" = none
 tuple_ : mg "tuple" = none
 dict_ : mg "dict" = none
 len_ : mg "len" = none
 range_ : mg "range" = none
 min_ : mg "min" = none
 max_ : mg "max" = none
 abs_ : mg "abs" = none
 any_ : mg "any" = none
 all_ : mg "all" = none
 sum_ : mg "sum" = none
 repr_ : mg "repr" = none
 enumerate_ : mg "enumerate" = none
 reversed_ : mg "reversed" = none
 zip_ : mg "zip" = none
 sorted_ : mg "sorted" = none
 divmod_ : mg "divmod" = none
 set_ : mg "set" = none
 ValueError_ : mg "ValueError" = none
structure Kit (K : Frag) : Prop where
 int_int : kitOne K (.type "int") (.type "int") = some true
 int_bool : kitOne K (.type "int") (.type "bool") = some false
 int_str : kitOne K (.type "int") (.type "str") = some false
 int_list : kitOne K (.type "int") (.type "list") = some false
 int_tuple : kitOne K (.type "int") (.type "tuple") = some false
 int_dict : kitOne K (.type "int") (.type "dict") = some false
 bool_int : kitOne K (.type "bool") (.type "int") = some true
 bool_bool : kitOne K (.type "bool") (.type "bool") = some true
 bool_str : kitOne K (.type "bool") (.type "str") = some false
 bool_list : kitOne K (.type "bool") (.type "list") = some false
 bool_tuple : kitOne K (.type "bool") (.type "tuple") = some false
 bool_dict : kitOne K (.type "bool") (.type "dict") = some false
 str_int : kitOne K (.type "str") (.type "int") = some false
 str_bool : kitOne K (.type "str") (.type "bool") = some false
 str_str : kitOne K (.type "str") (.type "str") = some true
 str_list : kitOne K (.type "str") (.type "list") = some false
 str_tuple : kitOne K (.type "str") (.type "tuple") = some false
 str_dict : kitOne K (.type "str") (.type "dict") = some false
 list_int : kitOne K (.type "list") (.type "int") = some false
 list_bool : kitOne K (.type "list") (.type "bool") = some false
 list_str : kitOne K (.type "list") (.type "str") = some false
 list_list : kitOne K (.type "list") (.type "list") = some true
 list_tuple : kitOne K (.type "list") (.type "tuple") = some false
 list_dict : kitOne K (.type "list") (.type "dict") = some false
 tuple_int : kitOne K (.type "tuple") (.type "int") = some false
 tuple_bool : kitOne K (.type "tuple") (.type "bool") = some false
 tuple_str : kitOne K (.type "tuple") (.type "str") = some false
 tuple_list : kitOne K (.type "tuple") (.type "list") = some false
 tuple_tuple : kitOne K (.type "tuple") (.type "tuple") = some true
 tuple_dict : kitOne K (.type "tuple") (.type "dict") = some false
 dict_int : kitOne K (.type "dict") (.type "int") = some false
 dict_bool : kitOne K (.type "dict") (.type "bool") = some false
 dict_str : kitOne K (.type "dict") (.type "str") = some false
 dict_list : kitOne K (.type "dict") (.type "list") = some false
 dict_tuple : kitOne K (.type "dict") (.type "tuple") = some false
 dict_dict : kitOne K (.type "dict") (.type "dict") = some true
 NoneType_int : kitOne K (.type "NoneType") (.type "int") = some false
 NoneType_bool : kitOne K (.type "NoneType") (.type "bool") = some false
 NoneType_str : kitOne K (.type "NoneType") (.type "str") = some false
 NoneType_list : kitOne K (.type "NoneType") (.type "list") = some false
 NoneType_tuple : kitOne K (.type "NoneType") (.type "tuple") = some false
 NoneType_dict : kitOne K (.type "NoneType") (.type "dict") = some false
theorem scK {N P : List Str} {sc : Scope} (a : sc.kind = .function := by rfl) (b : sc.isCoroutine = false := by rfl) (c : sc.isGenerator = false := by rfl) (d : N.Nodup := by decide +kernel) (e : N.take P.length = P := by rfl) (f : ∀ x ∈ P, sc.names.lookup x = some .local \/ sc.names.lookup x = some .cell := by decide +kernel) (g : ∀ y ∈ sc.names, y.2 ≠ .free := by decide +kernel) : FnScope N P sc := ⟨a, b, c, d, e, f, g⟩
theorem V3z {K : Frag} {H : Hp} (i : Int) : TyE K H (.int i) (.type "int") := .of (.int i)
theorem J4q {K : Frag} {H : Hp} (z : Str) : TyE K H (.str z) (.type "str") := .of (.str z)
theorem V4f {K : Frag} {H : Hp} {a : Addr} {xs : List V} (h : H a = some (.lst xs)) : TyE K H (.ref a) (.type "list") := .of (.lst h)
def A2z (lo hi : Int) (v : V) : Prop := ∃ i, v = .int i /\ lo <= i /\ i <= hi
def C0y (K : Frag) (H : Hp) (lo hi : Int) (v : V) : Prop := ∃ t b1 b2, TyE K H v t /\ kitOne K t (.type "int") = some b1 /\ kitOne K t (.type "bool") = some b2 /\ ((b1 && !b2) = false \/ ∃ i, v = .int i /\ (i < lo \/ hi < i))
section
variable {K : Frag} {H : Hp} {lo hi : Int}
end
def Exc (p : Addr) (H H' : Hp) : Prop := ∀ b o, H b = some o -> b ≠ p -> H' b = some o
theorem Exc.refl (p : Addr) (H : Hp) : Exc p H H := fun _ _ h _ => h
theorem Exc.trans {p : Addr} {H H1 H2 : Hp} (a : Exc p H H1) (b : Exc p H1 H2) : Exc p H H2 := fun c o h n => b c o (a c o h n) n
theorem Exc.upd {p : Addr} {H : Hp} {o : HO} : Exc p H (L2.upd H p o) := fun b u e n => by rw [B3 n]; exact e
theorem Exc.of {p : Addr} {H H' : Hp} (s : Same H H') : Exc p H H' := fun b o h _ => s b o h
def Has (P : Program) (w : World) (K : Frag) (mg : Str -> Option Value) (base : Heap) (C : Addr) (m : Str) (k : Nat) (ps : List Str) (sp : Sp) : Prop := ∃ f fd, Meth K C m f /\ FnOk P w K mg base (CX1 P w) k f fd ps sp /\ Binds K fd ps []
theorem Y1x : ∀ {us : List Value}, us.length = 3 -> ∃ a b c, us = [a, b, c]
 | [a, b, c], _ => ⟨a, b, c, rfl⟩
theorem Y5k : ∀ {us : List Value}, us.length = 4 -> ∃ a b c d, us = [a, b, c, d]
 | [a, b, c, d], _ => ⟨a, b, c, d, rfl⟩
theorem Y5b : ∀ {us : List Value}, us.length = 5 -> ∃ a b c d e, us = [a, b, c, d, e]
 | [a, b, c, d, e], _ => ⟨a, b, c, d, e, rfl⟩
theorem U8u {us ds : List Value} {n : Nat} (h : (us ++ ds).length = n) : us.length = n - ds.length := by rw [List.length_append] at h; omega
end TR
namespace L2
open PySem PySem.Spec PyProof.Rows
section
variable {κ : Type} [DecidableEq κ]
def B6w (kvs : List (κ × V)) (k : κ) : Option V := (kvs.find? fun kv => decide (kv.1 = k)).map (·.2)
def Z1 (kvs : List (κ × V)) (k : κ) (v : V) : List (κ × V) :=
 if (kvs.any fun kv => decide (kv.1 = k)) = true then kvs.map (fun kv => if kv.1 = k then (kv.1, v) else kv) else kvs ++ [(k, v)]
theorem B6r {p : κ × V} {r : List (κ × V)} {k : κ} (e : p.1 = k) : B6w (p :: r) k = some p.2 := by simp [B6w, List.find?_cons, e]
theorem B6e {p : κ × V} {r : List (κ × V)} {k : κ} (e : ¬ p.1 = k) : B6w (p :: r) k = B6w r k := by simp [B6w, List.find?_cons, e]
theorem C9e (k : κ) : ∀ kvs : List (κ × V), (kvs.any fun kv => decide (kv.1 = k)) = (B6w kvs k).isSome
 | [] => rfl
 | p :: r => by
   rw [List.any_cons]
   by_cases e : p.1 = k
   . simp only [B6r e, decide_eq_true e, Bool.true_or, Option.isSome_some]
   . rw [B6e e, decide_eq_false e, Bool.false_or]; exact C9e k r
theorem A5j (kvs : List (κ × V)) (k : κ) (v : V) : (Z1 kvs k v).length <= kvs.length + 1 := by
 unfold Z1
 split
 . rw [List.length_map]; omega
 . rw [List.length_append, List.length_cons, List.length_nil]; omega
theorem RelO.isSome_eq {o : Option V} {u : Option Value} (r : RelO o u) : o.isSome = u.isSome := by
 cases o with
 | none => cases u with
   | none => rfl
   | some _ => exact (show False from r).elim
 | some _ => cases u with
   | none => exact (show False from r).elim
   | some _ => rfl
theorem KV.val {kvs : List (κ × V)} {vs : List (κ × Value)} (r : KV kvs vs) (k : κ) : RelO (B6w kvs k) (valueAt vs k) := by
 unfold KV at r
 induction r with
 | nil => exact True.intro
 | @cons p q ps qs h t ih =>
   obtain ⟨h1, h2⟩ := h
   by_cases e : p.1 = k
   . have e' : q.1 = k := h1.symm.trans e
     have b : valueAt (q :: qs) k = some q.2 := by simp [valueAt, List.find?_cons, e']
     rw [B6r e, b]; exact h2
   . have e' : ¬ q.1 = k := fun z => e (h1.trans z)
     have b : valueAt (q :: qs) k = valueAt qs k := by simp [valueAt, List.find?_cons, e']
     rw [B6e e, b]; exact ih
theorem KV.any {kvs : List (κ × V)} {vs : List (κ × Value)} (r : KV kvs vs) (k : κ) : (kvs.any fun kv => decide (kv.1 = k)) = vs.any fun kv => decide (kv.1 = k) := by
 unfold KV at r
 induction r with
 | nil => rfl
 | cons h t ih => rw [List.any_cons, List.any_cons, ih, h.1]
theorem KV.repl {kvs : List (κ × V)} {vs : List (κ × Value)} (r : KV kvs vs) (k : κ) {y : V} {u : Value} (ry : RelV y u) :
   KV (kvs.map fun kv => if kv.1 = k then (kv.1, y) else kv) (vs.map fun kv => if kv.1 = k then (kv.1, u) else kv) := by
 unfold KV at r ⊢
 induction r with
 | nil => exact .nil
 | @cons p q ps qs h t ih =>
   rw [List.map_cons, List.map_cons]
   refine .cons ?_ ih
   obtain ⟨h1, h2⟩ := h
   by_cases e : p.1 = k
   . rw [if_pos e, if_pos (h1.symm.trans e)]; exact ⟨h1, ry⟩
   . rw [if_neg e, if_neg (fun z => e (h1.trans z))]; exact ⟨h1, h2⟩
theorem KV.put {kvs : List (κ × V)} {vs : List (κ × Value)} (r : KV kvs vs) (k : κ) {y : V} {u : Value} (ry : RelV y u) : KV (Z1 kvs k y) (stored vs k u) := by
 unfold Z1 stored
 rw [r.any k]
 by_cases e : (vs.any fun kv => decide (kv.1 = k)) = true
 . rw [if_pos e, if_pos e]; exact r.repl k ry
 . rw [if_neg e, if_neg e]; exact Paired.snoc r ⟨rfl, ry⟩
theorem KV.length {kvs : List (κ × V)} {vs : List (κ × Value)} (r : KV kvs vs) : kvs.length = vs.length := Paired.length r
end
theorem G5c {P : Program} {w : World} {k : Key} {u : Value} (r : RelV (kV k) u) : (V6 P w).is k u = true := by
 cases k with
 | inl i => obtain ⟨t, e⟩ := (show ∃ t, u = Value.int i t from r); subst e; exact C8r P w i t
 | inr x => obtain ⟨t, e⟩ := (show ∃ t, u = Value.str x t from r); subst e; exact C8v P w x t
theorem C1t {P : Program} {w : World} : ∀ {ks : List Key} {us : List Value}, Vals (ks.map kV) us -> ItemsAre (V6 P w) ks us
 | [], _, r => by rw [List.map_nil] at r; cases r; exact .nil
 | k :: ks, _, r => by
   rw [List.map_cons] at r
   cases r with
   | cons h t => exact .cons (G5c h) (C1t t)
abbrev KT (H : Hp) : List (List Key × V) -> List (List Key × Addr × Value) -> Prop := Paired fun p q => p.1 = q.1 /\ H q.2.1 = some (.tup (p.1.map kV)) /\ RelV p.2 q.2.2
theorem KT.val {H : Hp} {kvs : List (List Key × V)} {xs : List (List Key × Addr × Value)} (r : KT H kvs xs) (k : List Key) : RelO (B6w kvs k) ((atKey xs k).map (·.2)) := by
 induction r with
 | nil => exact True.intro
 | @cons p q ps qs h t ih =>
   obtain ⟨h1, _, h2⟩ := h
   by_cases e : p.1 = k
   . have e' : q.1 = k := h1.symm.trans e
     have b : atKey (q :: qs) k = some q.2 := by simp [atKey, List.find?_cons, e']
     rw [B6r e, b]; exact h2
   . have e' : ¬ q.1 = k := fun z => e (h1.trans z)
     have b : atKey (q :: qs) k = atKey qs k := by simp [atKey, List.find?_cons, e']
     rw [B6e e, b]; exact ih
theorem KT.repl {H : Hp} {kvs : List (List Key × V)} {xs : List (List Key × Addr × Value)} (r : KT H kvs xs) (k : List Key) {y : V} {u : Value} (ry : RelV y u) :
   KT H (kvs.map fun kv => if kv.1 = k then (kv.1, y) else kv) (xs.map (putAt k u)) := by
 induction r with
 | nil => exact .nil
 | @cons p q ps qs h t ih =>
   rw [List.map_cons, List.map_cons]
   refine .cons ?_ ih
   obtain ⟨h1, h2, h3⟩ := h
   unfold putAt
   by_cases e : p.1 = k
   . rw [if_pos e, if_pos (h1.symm.trans e)]; exact ⟨h1, h2, ry⟩
   . rw [if_neg e, if_neg (fun z => e (h1.trans z))]; exact ⟨h1, h2, h3⟩
theorem KT.put {H : Hp} {kvs : List (List Key × V)} {xs : List (List Key × Addr × Value)} (r : KT H kvs xs) (k : List Key) {b : Addr} {y : V} {u : Value} (hb : H b = some (.tup (k.map kV))) (ry : RelV y u) :
   KT H (Z1 kvs k y) (storedH xs k b u) := by
 have e : (kvs.any fun kv => decide (kv.1 = k)) = (atKey xs k).isSome := by
   rw [C9e, (r.val k).isSome_eq, Option.isSome_map]
 unfold Z1 storedH
 rw [e]
 by_cases q : (atKey xs k).isSome = true
 . rw [if_pos q, if_pos q]; exact r.repl k ry
 . rw [if_neg q, if_neg q]; exact Paired.snoc r ⟨rfl, hb, ry⟩
theorem KT.keeps {H H' : Hp} {kvs : List (List Key × V)} {xs : List (List Key × Addr × Value)} (r : KT H kvs xs) (ht : ∀ b ys, H b = some (.tup ys) -> H' b = some (.tup ys)) : KT H' kvs xs :=
 Paired.mapP r fun _ _ z => ⟨z.1, ht _ _ z.2.1, z.2.2⟩
section
variable {P : Program} {w : World} {H : Hp} {h : Heap} {a : Addr}
theorem V4h {u : HO} (ok : HOk P w H h) (e : Rd H a u) : ObjOk P w H h a u := e.ok ok
theorem J5a {kvs : List (Key × V)} (ok : HOk P w H h) (e : Rd H a (.dK kvs)) : kvs.length <= sizeLine /\ (a == sysModules) = false /\ ∃ vs, KV kvs vs /\ h.DictOf (V6 P w) a vs :=
 show ObjOk P w H h a (.dK kvs) from V4h ok e
theorem V4j {kvs : List (Key × V)} (ok : HOk P w H h) (e : H a = some (.dK kvs)) : kvs.length <= sizeLine /\ (a == sysModules) = false /\ ∃ vs, KV kvs vs /\ h.DictOf (V6 P w) a vs := J5a ok (.inl e)
theorem D3u {ks : List Key} (ok : HOk P w H h) (e : H a = some (.tup (ks.map kV))) : (tupleKind (V6 P w)).is h ks a := by
 obtain ⟨_, its, r, o, h1, h2, n, h3⟩ := (show ObjOk P w H h a (.tup (ks.map kV)) from ok a _ e)
 exact ⟨o, its.toArray, n, h1, h2, h3, by simpa using C1t r⟩
theorem J2q {kvs : List (List Key × V)} (ok : HOk P w H h) (e : Rd H a (.dT kvs)) : kvs.length <= sizeLine /\ (a == sysModules) = false /\
   ∃ xs, KT H kvs xs /\ h.DictOfH (tupleKind (V6 P w)) a xs := by
 obtain ⟨z, y, xs, r, o, es, ep, h1, h2, h3, h4, h5⟩ := (show ObjOk P w H h a (.dT kvs) from V4h ok e)
 refine ⟨z, y, xs, r, o, es, ep, h1, h2, h3, h4, fun x hx => ?_, h5⟩
 have all : ∀ {l : List (List Key × V)} {m : List (List Key × Addr × Value)}, KT H l m -> ∀ x ∈ m, (tupleKind (V6 P w)).is h x.1 x.2.1 := by
   intro l m q
   induction q with
   | nil => intro x hx; exact nomatch hx
   | @cons p q ps qs hq t ih =>
     intro x hx
     rcases List.mem_cons.mp hx with e | hx
     . subst e
       exact D3u ok (by rw [<- hq.1]; exact hq.2.1)
     . exact ih x hx
 exact all r x hx
theorem Y1m {kvs : List (List Key × V)} (ok : HOk P w H h) (e : H a = some (.dT kvs)) : kvs.length <= sizeLine /\ (a == sysModules) = false /\
   ∃ xs, KT H kvs xs /\ h.DictOfH (tupleKind (V6 P w)) a xs := J2q ok (.inl e)
end
def DGet (H : Hp) (a : Addr) (y : V) (r : Option V) : Prop :=
 (∃ kvs k, Rd H a (.dK kvs) /\ y = kV k /\ r = B6w kvs k) \/ ∃ kvs k b, Rd H a (.dT kvs) /\ y = .ref b /\ H b = some (.tup (k.map kV)) /\ r = B6w kvs k
def DPut (H : Hp) (a : Addr) (y v : V) (H' : Hp) : Prop :=
 (∃ kvs k, H a = some (.dK kvs) /\ y = kV k /\ kvs.length < sizeLine /\ H' = upd H a (.dK (Z1 kvs k v))) \/
 ∃ kvs k b, H a = some (.dT kvs) /\ y = .ref b /\ H b = some (.tup (k.map kV)) /\ kvs.length < sizeLine /\ H' = upd H a (.dT (Z1 kvs k v))
theorem DGet.k {H : Hp} {a : Addr} {kvs : List (Key × V)} {k : Key} (e : H a = some (.dK kvs)) : DGet H a (kV k) (B6w kvs k) := .inl ⟨kvs, k, .inl e, rfl, rfl⟩
theorem DPut.k {H : Hp} {a : Addr} {kvs : List (Key × V)} {k : Key} {v : V} (e : H a = some (.dK kvs)) (hl : kvs.length < sizeLine) : DPut H a (kV k) v (upd H a (.dK (Z1 kvs k v))) := .inl ⟨kvs, k, e, rfl, hl, rfl⟩
section
variable {X : Cx} {pins : List (Addr × Obj)} {σ : St} {H : Hp} {s : Shared} {a : Addr} {y v : V} {u r : Value} {o : Option V} {A : Around} {E : Value -> Shared -> Prop}
theorem G6h {Q : Value -> Shared -> Prop} (hu : A.units + 1 < cLine) (I : Inv X pins σ H s) (g : DGet H a y (some v)) (ry : RelV y u) (h : ∀ w' s', Inv X pins σ H s' -> RelV v w' -> Q w' s') :
   wpAny (model X.prog X.w) A (getItem (.ref a) u) Q E s := by
 rcases g with ⟨kvs, k, e, ey, l⟩ | ⟨kvs, k, b, e, ey, eb, l⟩
 . subst ey
   obtain ⟨z, hd, vs, rel, dd⟩ := J5a I.hok e
   obtain ⟨w', hw, rw'⟩ := RelO.some_of (v := v) (o := valueAt vs k) (by rw [l]; exact rel.val k)
   exact wpAny_getItem_of (G5c ry) dd.mapOf hw (h w' _ (I.tok _) rw')
 . subst ey
   cases (show u = Value.ref b from ry)
   obtain ⟨z, hd, xs, rel, dd⟩ := J2q I.hok e
   obtain ⟨w', hw, rw'⟩ := RelO.some_of (v := v) (o := (atKey xs k).map (·.2)) (by rw [l]; exact rel.val k)
   obtain ⟨p, hp, hp2⟩ := Option.map_eq_some_iff.mp hw
   refine wpAny_getItem_heap (tupleKind_room_in1 hu) (D3u I.hok eb) dd hp ?_
   rw [hp2]
   exact h w' _ (I.tok _) rw'
theorem C4f {h' : Heap} {t' : Nat} {ob : HO} (I : Inv X pins σ H s) (mu : Mut (H a)) (hs : Heap.SameBut a s.heap h') (he : ∃ q, h'.get? a = some q) (new : ObjOk X.prog X.w (upd H a ob) h' a ob) :
   Inv X pins σ (upd H a ob) { s with heap := h', toks := t' } :=
 I.write (x := a) (e := a) mu (.inl rfl) (fun b q hb z => (hs.2 b hb).trans z) he new
theorem J3e {P : Program} {w : World} {H' : Hp} {h' : Heap} {kvs : List (Key × V)} {vs : List (Key × Value)} (z : kvs.length <= sizeLine) (hd : (a == sysModules) = false) (rel : KV kvs vs) (dd : h'.DictOf (V6 P w) a vs) :
   ObjOk P w H' h' a (.dK kvs) := ⟨z, hd, vs, rel, dd⟩
theorem G6t {H' : Hp} {Q : Unit -> Shared -> Prop} (hu : A.units + 1 < cLine) (I : Inv X pins σ H s) (g : DPut H a y v H') (ry : RelV y u) (rv : RelV v r) (h : ∀ s', Inv X pins σ H' s' -> Q () s') :
   wpAny (model X.prog X.w) A (setItem (.ref a) u r) Q E s := by
 rcases g with ⟨kvs, k, e, ey, l, eH⟩ | ⟨kvs, k, b, e, ey, eb, l, eH⟩
 . subst ey eH
   obtain ⟨z, hd, vs, rel, dd⟩ := V4j I.hok e
   have hz : vs.length <= sizeLine := by rw [<- rel.length]; exact z
   have hl : (Z1 kvs k v).length <= sizeLine := by have := A5j kvs k v; omega
   refine wpAny_setItem_pairs (hsz := hz) (G5c ry) dd fun h' dd' hs => h _ ?_
   have he : ∃ q, h'.get? a = some q := let ⟨q, _, _, hq, _⟩ := dd'; ⟨q, hq⟩
   exact C4f I (by rw [e]; exact True.intro) hs he (J3e hl hd (rel.put k rv) dd')
 . subst ey eH
   cases (show u = Value.ref b from ry)
   obtain ⟨z, hd, xs, rel, dd⟩ := Y1m I.hok e
   have hz : xs.length <= sizeLine := by rw [<- Paired.length rel]; exact z
   have hl : (Z1 kvs k v).length <= sizeLine := by have := A5j kvs k v; omega
   refine wpAny_setItem_heap (hsz := hz) (tupleKind_room_in1 hu) (D3u I.hok eb) dd fun h' dd' hs => h _ ?_
   obtain ⟨q, es, ep, hq, h2, h3, h4, _, h5⟩ := dd'
   refine C4f I (by rw [e]; exact True.intro) hs ⟨q, hq⟩ ⟨hl, hd, _, (rel.put k eb rv).keeps fun c ys ec => ?_, q, es, ep, hq, h2, h3, h4, h5⟩
   rw [B3 (J1 ec e (fun z => nomatch z))]
   exact ec
end
section
variable {X : Cx} {pins : List (Addr × Obj)} {σ : St} {H : Hp} {s : Shared} {a : Addr} {kvs : List (Key × V)} {k : Key} {u : Value} {A : Around} {E : Value -> Shared -> Prop}
end
def Y0n (i : Expr) : Prop := ∀ ov iv, subscripted i false ov iv = operate [ov, iv] (getItem ov iv)
theorem U8k {prog : Program} {w : World} {A : Around} {E : Value -> Shared -> Prop} {s : Shared} {env : Env} {value slice : Expr} {pos : Pos} {T id : String} {Q : Value -> Shared -> Prop}
   (hl : typeLookup (.type T) "__getitem__" = pure (some (.builtin id))) (hs : Y0n slice)
   (h : wpAny (model prog w) A (eval value env) (fun o s₁ => wpAny (model prog w) A (eval slice env) (fun i s₂ => s₂.TypeIs o T /\ wpAny (model prog w) A (getItem o i) Q E s₂) E s₁) E s) :
   wpAny (model prog w) A (eval (.Subscript value slice pos) env) Q E s := by
 refine Subscript_ (wpAny_mono h (fun o s₁ h₁ => wpAny_mono h₁ (fun i s₂ h₂ => ?_) fun _ _ x => x) fun _ _ x => x)
 obtain ⟨hT, h₂⟩ := h₂
 unfold subscriptTail
 refine wpAny_bind ?_
 rw [getitemInPython_of_ne hT.not_modules]
 refine wpAny_bind (wpAny_specialOf hT hl ?_)
 have fin : wpAny (model prog w) A (subscripted slice false o i) (fun r s₃ => wpAny (model prog w) A (letTemporaryGo value o r >>= fun _ => pure r) Q E s₃) E s₂ := by
   rw [hs o i]
   exact wpAny_operating (wpAny_mono h₂ (fun r s₃ h₃ => wpAny_bind (wpAny_letTemporaryGo (wpAny_pure h₃))) fun _ _ x => x)
 first
   | exact wpAny_pure (wpAny_bind fin)
   | exact wpAny_bind (wpAny_pure (wpAny_bind fin))
   | exact wpAny_bind fin
theorem C8s {X : Cx} {pins : List (Addr × Obj)} {σ : St} {H : Hp} {s : Shared} {a : Addr} {y : V} {o : Option V} (I : Inv X pins σ H s) (g : DGet H a y o) : s.TypeIs (.ref a) "dict" := by
 rcases g with ⟨kvs, k, e, _, _⟩ | ⟨kvs, k, b, e, _, _, _⟩
 . obtain ⟨_, _, vs, _, dd⟩ := J5a I.hok e
   exact dd.typeIs
 . obtain ⟨_, _, xs, _, dd⟩ := J2q I.hok e
   exact dd.typeIs
def Y1k (td ty : TE) : TE := fun σ H Q => td σ H fun x H1 => ty σ H1 fun y H2 => ∃ a v, x = .ref a /\ DGet H2 a y (some v) /\ Q v H2
def Y2a (td ty tv : TE) : TS := fun D σ H => tv σ H fun v H1 => td σ H1 fun x H2 => ty σ H2 fun y H3 => ∃ a H4, x = .ref a /\ DPut H3 a y v H4 /\ D.nx σ H4
section
variable {X : Cx} {o i e value : Expr} {pos pos' tpos : Pos} {td ty tv : TE}
theorem G3 (hu : X.A.units + 1 < cLine) (ho : PE X o td) (hi : PE X i ty) (hs : Y0n i) : PE X (.Subscript o i pos) (Y1k td ty) := by
 intro pins s σ H Q I h
 refine U8k PySem.F.slot_dict_getitem.lookup hs (thn (ho pins s σ H _ I h) fun u s1 ⟨x, H1, I1, rx, q1⟩ => thn (hi pins s1 σ H1 _ I1 q1) fun iv s2 ⟨y, H2, I2, ry, a, v, ex, g, q2⟩ => ?_)
 subst ex
 obtain rfl : u = Value.ref a := rx
 exact ⟨C8s I2 g, G6h hu I2 g ry fun w' s3 I3 rw' => ⟨v, H2, I3, rw', q2⟩⟩
theorem A3p (hu : X.A.units + 1 < cLine) (ho : PE X o td) (hi : PE X i ty) (hv : PE X value tv) (hs : swapsWith value (some (.Subscript o i pos')) pos.line X.env = pure false) :
   PS X (.Assign [.Subscript o i pos'] value pos) (Y2a td ty tv) := by
 intro pins s σ H D I h
 refine wpAny_Assign_Subscript (thn (hv pins s σ H _ I h) fun r s1 ⟨v, H1, I1, rv, q1⟩ => thn (ho pins s1 σ H1 _ I1 q1) fun u s2 ⟨x, H2, I2, rx, q2⟩ => thn (hi pins s2 σ H2 _ I2 q2) fun iv s3 ⟨y, H3, I3, ry, a, H4, ex, g, q3⟩ => ?_) hs
 subst ex
 obtain rfl : u = Value.ref a := rx
 exact G6t hu I3 g ry rv fun s4 I4 => ⟨σ, H4, I4, q3⟩
end
section
variable {X : Cx} {pos : Pos}
end
def D5d : List (TE × TE) -> St -> Hp -> (List (V × V) -> Hp -> Prop) -> Prop
 | [], _, H, Q => Q [] H
 | (tk, tv) :: r, σ, H, Q => tk σ H fun x H1 => tv σ H1 fun y H2 => D5d r σ H2 fun ps H3 => Q ((x, y) :: ps) H3
abbrev VV : List (V × V) -> List (Value × Value) -> Prop := Paired fun p q => RelV p.1 q.1 /\ RelV p.2 q.2
def PPs (X : Cx) (pos : Pos) (keys : List (Option Expr)) (values : List Expr) (trs : List (TE × TE)) : Prop :=
 ∀ (pins : List (Addr × Obj)) (s : Shared) (σ : St) (H : Hp) (Q : List (V × V) -> Hp -> Prop), Inv X pins σ H s -> D5d trs σ H Q ->
   wpAny (model X.prog X.w) X.A (evalPairs (pairTrees keys values X.env pos)) (fun vs s' => ∃ ps H', Inv X pins σ H' s' /\ VV ps vs /\ Q ps H') X.xe s
theorem U8m {X : Cx} {pos : Pos} : PPs X pos [] [] [] := fun pins s σ H Q I h => pairTrees_nil_walk ⟨[], H, I, .nil, h⟩
theorem C9b {X : Cx} {pos : Pos} {k v : Expr} {ks : List (Option Expr)} {vs : List Expr} {tk tv : TE} {trs : List (TE × TE)} (hk : PE X k tk) (hv : PE X v tv) (hr : PPs X pos ks vs trs) :
   PPs X pos (some k :: ks) (v :: vs) ((tk, tv) :: trs) := fun pins s σ H Q I h =>
 pairTrees_cons_walk (thn (hk pins s σ H _ I h) fun u s1 ⟨x, H1, I1, rx, q1⟩ => thn (hv pins s1 σ H1 _ I1 q1) fun w2 s2 ⟨y, H2, I2, ry, q2⟩ =>
   thn (hr pins s2 σ H2 _ I2 q2) fun ws s3 ⟨ps, H3, I3, rel, q3⟩ => ⟨(x, y) :: ps, H3, I3, .cons ⟨rx, ry⟩ rel, q3⟩)
def A5h (kvs more : List (Key × V)) : List (Key × V) := more.foldl (fun acc kv => Z1 acc kv.1 kv.2) kvs
theorem KV.merge : ∀ {more : List (Key × V)} {rs : List (Key × Value)} {kvs : List (Key × V)} {vs : List (Key × Value)}, KV more rs -> KV kvs vs -> KV (A5h kvs more) (merged vs rs) := by
 intro more rs kvs vs r
 unfold KV at r
 induction r generalizing kvs vs with
 | nil => intro q; exact q
 | @cons p q ps qs h t ih =>
   intro r0
   have e : KV (Z1 kvs p.1 p.2) (stored vs q.1 q.2) := by
     have := r0.put p.1 h.2
     rw [<- h.1]; exact this
   exact ih e
theorem A8b : ∀ (more kvs : List (Key × V)), (A5h kvs more).length <= kvs.length + more.length
 | [], kvs => by show kvs.length <= kvs.length + 0; omega
 | p :: r, kvs => by
   have h1 := A8b r (Z1 kvs p.1 p.2)
   have h2 := A5j kvs p.1 p.2
   show (A5h (Z1 kvs p.1 p.2) r).length <= _
   rw [List.length_cons]; omega
theorem B6s {P : Program} {w : World} : ∀ {kvs : List (Key × V)} {ws : List (Value × Value)}, VV (kvs.map fun kv => (kV kv.1, kv.2)) ws -> ∃ rs, Carries (V6 P w) ws rs /\ KV kvs rs
 | [], _, r => by rw [List.map_nil] at r; cases r; exact ⟨[], True.intro, .nil⟩
 | p :: kvs, _, r => by
   rw [List.map_cons] at r
   cases r with
   | @cons a b as bs h t =>
     obtain ⟨rs, c, q⟩ := B6s (P := P) (w := w) t
     obtain ⟨b1, b2⟩ := b
     exact ⟨(p.1, b2) :: rs, ⟨G5c h.1, rfl, c⟩, .cons ⟨rfl, h.2⟩ q⟩
def Y1z (trs : List (TE × TE)) : TE := fun σ H Q => ∀ p, H p = none -> D5d trs σ (upd H p (.dK [])) fun ps H2 => H2 p = some (.dK []) /\ ∃ kvs : List (Key × V), ps = kvs.map (fun kv => (kV kv.1, kv.2)) /\ kvs.length <= 15 /\ Q (.ref p) (upd H2 p (.dK (A5h [] kvs)))
theorem V0j {X : Cx} {pos : Pos} {keys : List (Option Expr)} {values : List Expr} {trs : List (TE × TE)} (h : PPs X pos keys values trs) (hall : keys.all (·.isSome) = true) (hl : keys.length = values.length) (h0 : keys ≠ [])
   (h15 : keys.length <= 15) : PE X (.Dict keys values pos) (Y1z trs) := by
 intro pins s σ H Q I q
 have hn := I.hok.fresh (Nat.le_refl s.heap.objs.size)
 have I1 := I.laid (a := s.heap.objs.size) (o := .dK []) (h' := s.heap.push { cls := .type "dict", data := .dict #[] }) (t' := s.toks) (fun _ _ q => Heap.get?_push_of_some _ q) (Nat.le_refl _) (J3y s.heap I.big)
 refine wpAny_Dict_walk (knd := V6 X.prog X.w) hall hl h0 h15 (thn (h pins _ σ _ _ I1 (q _ hn)) fun ws s2 ⟨ps, H2, I2, rel, e, kvs, ep, lk, q2⟩ => ?_)
 subst ep
 obtain ⟨rs, c, rk⟩ := B6s (P := X.prog) (w := X.w) rel
 obtain ⟨z, hd, vs0, r0, dd⟩ := V4j I2.hok e
 cases r0
 refine ⟨rs, c, dd, fun h' dd' hs => ⟨.ref s.heap.objs.size, _, ?_, rfl, q2⟩⟩
 have hz : (A5h [] kvs).length <= sizeLine := by
   have h1 := A8b kvs []
   rw [List.length_nil] at h1
   rw [sizeLine_eq]; omega
 have he : ∃ q, h'.get? s.heap.objs.size = some q := let ⟨q, _, _, hq, _⟩ := dd'; ⟨q, hq⟩
 exact C4f I2 (by rw [e]; exact True.intro) hs he (J3e hz hd (rk.merge .nil) dd')
end L2
namespace L2
open PySem PySem.Spec PyProof.Rows PySem.W
def A2b (F : List Str) (env : Env) : List (Str × Addr) := F.map fun x => (x, (env.cells.lookup x).getD 0)
def A5e (js : List Nat) (σ : St) : St := js.map fun j => (σ[j]?).getD none
abbrev Cx.compF (X : Cx) (scope : Scope) (N F : List Str) (C : Addr) (s₀ : Shared) (H₀ : Hp) (ex : List Addr) (pins : List (Addr × Obj)) : Cx :=
 { X with N := N ++ F, s₀ := s₀, H₀ := H₀, env := compEnvC scope (A2b F X.env) C X.env, outer := X.stack, ex := ex, fn := fun _ => false, pn := pins, xe := fun _ _ => False }
structure CompScopeF (N F : List Str) (js : List Nat) (sc : Scope) (XN : List Str) (env : Env) : Prop where
 kind : sc.kind = .function
 cell : ∀ y ∈ sc.names, y.2 ≠ .cell
 loc : ∀ y ∈ sc.names, y.2 = .local -> sc.names.lookup y.1 = some .local
 nd : (N ++ F).Nodup
 clos : closureFor sc env = pure (A2b F env)
 fr : ∀ y ∈ (relabel sc env).names, y.2 = .cell \/ y.2 = .free -> y.1 ∈ F
 at_ : ∀ (k : Nat) (x : Str), F[k]? = some x -> (∃ j : Nat, js[k]? = some j /\ XN[j]? = some x) /\ (∃ c, env.cells.lookup x = some c) /\ env.kindOf x = some .cell /\ (relabel sc env).names.lookup x = some .cell
 jl : js.length = F.length
def A5f (n : Nat) (js : List Nat) (wi : TI) (g : TG) (tc : TT) (te : TE) : TE := fun σ H Q => wi σ H fun J H1 => ∀ D, H1 D = none ->
 ∃ (m : Nat) (W : Nat -> List V -> Hp -> Prop), W 0 [] (upd H1 D (.lst [])) /\ ∀ i ys H2, W i ys H2 -> i <= m /\ H2 D = some (.lst ys) /\ ((J.stop i H2 /\ Q (.ref D) H2) \/ (i < m /\ J.go i H2 /\ ∀ x H3, J.yld i H2 x H3 ->
   g x (List.replicate n none ++ A5e js σ) H3 fun σ4 H4 => tc σ4 H4 fun b H5 => if b = true then te σ4 H5 fun y H6 => H6 D = some (.lst ys) /\ ys.length < sizeLine /\ W (i + 1) (ys ++ [y]) (upd H6 D (.lst (ys ++ [y]))) else W (i + 1) ys H5))
theorem V5s {F : List Str} {env : Env} {x : Str} {c : Addr} (h : (A2b F env).lookup x = some c) : x ∈ F /\ c = (env.cells.lookup x).getD 0 := by
 have := PySem.mem_of_lookup h
 obtain ⟨y, hy, e⟩ := List.mem_map.mp this
 cases e
 exact ⟨hy, rfl⟩
theorem J4u {env : Env} {x : Str} : ∀ {F : List Str}, x ∈ F -> (A2b F env).lookup x = some ((env.cells.lookup x).getD 0)
 | y :: F, h => by
   show List.lookup x ((y, (env.cells.lookup y).getD 0) :: A2b F env) = _
   by_cases e : x = y
   . subst e; simp [List.lookup]
   . have hb : (x == y) = false := beq_eq_false_iff_ne.mpr e
     rw [List.lookup_cons, hb]
     exact J4u (by rcases List.mem_cons.mp h with z | z; exact absurd z e; exact z)
section
variable {X : Cx} {N F : List Str} {js : List Nat} {scope : Scope}
theorem CompScopeF.sub (S : CompScopeF N F js scope X.N X.env) : ∀ x c, (A2b F X.env).lookup x = some c -> X.env.cells.lookup x = some c := fun x c z => by
 obtain ⟨hx, rfl⟩ := V5s z
 obtain ⟨k, hk⟩ := List.mem_iff_getElem?.mp hx
 obtain ⟨_, ⟨c, hc⟩, _⟩ := S.at_ k x hk
 rw [hc]; rfl
theorem CompScopeF.has (S : CompScopeF N F js scope X.N X.env) {x : Str} (hx : x ∈ F) : ∃ c, (A2b F X.env).lookup x = some c /\ X.env.cells.lookup x = some c :=
 ⟨_, J4u hx, S.sub _ _ (J4u hx)⟩
theorem A7g {pins : List (Addr × Obj)} {σ : St} {H : Hp} {s : Shared} (S : CompScopeF N F js scope X.N X.env) (I : Inv X pins σ H s) {h' : Heap} {m : Str -> Option Value} {C : Addr} (hc : ∀ x c v, X.env.cells.lookup x = some c -> s.heap.IsCell c v -> h'.IsCell c v) :
   ∀ (i : Nat) (x : Str) (v : V), (N ++ F)[i]? = some x -> (List.replicate N.length none ++ A5e js σ)[i]? = some (some v) -> ∃ u, RelV v u /\ Y0q (compEnvC scope (A2b F X.env) C X.env) h' m x u := by
 intro i x v e1 e2
 by_cases hi : i < N.length
 . rw [List.getElem?_append_left (by simpa using hi), List.getElem?_replicate] at e2
   split at e2 <;> cases e2
 . rw [List.getElem?_append_right (by omega)] at e1
   rw [List.getElem?_append_right (by simp; omega)] at e2
   rw [List.length_replicate] at e2
   obtain ⟨⟨j, hj, hx⟩, ⟨c, hcc⟩, kx, kr⟩ := S.at_ _ x e1
   unfold A5e at e2
   rw [List.getElem?_map, hj] at e2
   have e2 : (σ[j]?).getD none = some v := Option.some.inj e2
   have e3 : σ[j]? = some (some v) := by
     cases q : σ[j]? with
     | none => rw [q] at e2; cases e2
     | some o => rw [q] at e2; exact congrArg some e2
   obtain ⟨m0, _, hl⟩ := I.loc
   obtain ⟨u, r, l⟩ := hl j x v hx e3 (.inr (.inl kx))
   refine ⟨u, r, .inr ⟨.inl kr, c, ?_, ?_⟩⟩
   . obtain ⟨c', h1, h2⟩ := S.has (List.mem_of_getElem? e1)
     rw [hcc] at h2
     cases h2
     exact h1
   . rcases l with ⟨k, _⟩ | ⟨_, c', h1, h2⟩
     . rw [kx] at k; cases k
     . rw [hcc] at h1
       cases h1
       exact hc x c _ hcc h2
theorem C4e (S : CompScopeF N F js scope X.N X.env) (σ : St) : (List.replicate N.length none ++ A5e js σ : St).length = (N ++ F).length := by
 unfold A5e
 rw [List.length_append, List.length_replicate, List.length_map, S.jl, List.length_append]
theorem G5w {pins : List (Addr × Obj)} {σ : St} {H : Hp} {s : Shared} {it : Addr} {h' : Heap} (S : CompScopeF N F js scope X.N X.env) (I : Inv X pins σ H s) (hf : A2w X pins H it) (hit : ∃ o, s.heap.get? it = some o) (hnb : X.base.get? it = none)
   (hns : h'.Ns s.heap.objs.size (fun _ => none)) (hsb : ∀ b o, s.heap.get? b = some o -> h'.get? b = some o) {tk : Nat} :
   Inv (X.compF scope N F s.heap.objs.size s H [it] (X.pn ++ pins)) [] (List.replicate N.length none ++ A5e js σ) H { s with heap := h', toks := tk } := by
 obtain ⟨f0, f1, f2, f3, f4, f5⟩ := hf
 obtain ⟨oi, ei⟩ := hit
 have lt : it < s.heap.objs.size := Heap.lt_size ei
 have ck : ∀ c v, s.heap.IsCell c v -> h'.IsCell c v := fun c v ⟨o, e, d⟩ => ⟨o, hsb _ _ e, d⟩
 have inF : ∀ x, ((compEnvC scope (A2b F X.env) s.heap.objs.size X.env).kindOf x = some .cell \/ (compEnvC scope (A2b F X.env) s.heap.objs.size X.env).kindOf x = some .free) -> x ∈ F := by
   intro x z
   have z : (relabel scope X.env).names.lookup x = some .cell \/ (relabel scope X.env).names.lookup x = some .free := z
   rcases z with z | z
   . exact S.fr _ (PySem.mem_of_lookup z) (.inl rfl)
   . exact S.fr _ (PySem.mem_of_lookup z) (.inr rfl)
 refine ⟨⟨I.ok.mod, S.kind, I.ok.glob, I.ok.blt, Nat.le_refl _, fun x y c z z' => I.ok.inj x y c (S.sub x c z) (S.sub y c z'), fun x z => ?_, fun x c z _ => (nomatch z), I.ok.hd, I.ok.frames, .inl rfl, fun b hb => ?_, I.bs, Nat.le_trans I.ok.bsz I.sz, fun b o e hb => ?_, fun b hb hfs => ?_, I.stack, I.stkFree⟩,
   rfl, I.bare, Un.kept hsb, ⟨_, hns, fun i x v e1 e2 e3 => A7g S I (fun x c v _ z => ck c v z) i x v e1 e2⟩, fun x c z => ?_, I.hok.fresh (Nat.le_refl _), fun x c z => I.freeC x c (S.sub x c z), fun p hp => ?_, I.hok.kept hsb, C4e S σ⟩
 . obtain ⟨c, h1, _⟩ := S.has (inF x z)
   exact ⟨c, h1⟩
 . have e : b = it := by simpa using hb
   subst e
   exact ⟨Nat.ne_of_lt lt, fun x c z => f4 x c (S.sub x c z)⟩
 . have e' : b = it := by simpa using hb
   subst e'
   rw [hnb] at e
   cases e
 . have e' : b = it := by simpa using hb
   subst e'
   rcases List.mem_cons.mp (I.stkSub b hfs) with z | z
   . exact f1 z
   . exact f2 z
 . obtain ⟨v, z'⟩ := I.cell x c (S.sub x c z)
   exact ⟨v, ck c v z'⟩
 . have hp' : p ∈ X.pn ++ pins := by simpa using hp
   obtain ⟨q1, q2, q3, q4, q5⟩ := I.pin p hp'
   refine ⟨hsb _ _ q1, q2, Nat.ne_of_lt (Heap.lt_size q1), fun z => ?_, q5⟩
   rcases List.mem_cons.mp (I.stkSub p.1 z) with z | z
   . exact q3 z
   . exact q4 z
theorem G6w {pins pl : List (Addr × Obj)} {σ σ' : St} {H H' : Hp} {s s' : Shared} {it : Addr} (S : CompScopeF N F js scope X.N X.env) (I : Inv X pins σ H s) (hf : A2w X pins H it) (J : Inv (X.compF scope N F s.heap.objs.size s H [it] (X.pn ++ pins)) pl σ' H' s') :
   Inv (X.compF scope N F s.heap.objs.size s H [it] (X.pn ++ pins)) [] (List.replicate N.length none ++ A5e js σ) H' s' := by
 obtain ⟨m, hn, _⟩ := J.loc
 refine ⟨J.ok, J.os, J.bare, J.base, ⟨m, hn, fun i x v e1 e2 e3 => A7g S I (fun x c v z q => ?_) i x v e1 e2⟩, J.cell, J.free, J.freeC, fun p hp => J.pin p (by
   have hp : p ∈ (X.pn ++ pins) ++ [] := hp
   rw [List.append_nil] at hp
   exact List.mem_append_left _ hp), J.hok, C4e S σ⟩
 obtain ⟨o, e, d⟩ := q
 have ne : c ∉ [it] := fun w => hf.2.2.2.2.1 x c z (by simpa using w)
 obtain ⟨sl, q⟩ := J.base.any e (I.freeC x c z) ne
 exact ⟨_, q, d⟩
theorem B6z {elt target iter c : Expr} {scope : Scope} {pos : Pos} {N F : List Str} {js : List Nat} {wi : TI} {g : TG} {tc : TT} {te : TE} (S : CompScopeF N F js scope X.N X.env) (hd : A0y X) (hi : PIH X target iter wi) (hex : X.ex = [])
   (hg : ∀ C s₀ H₀ ex pn, A0y (X.compF scope N F C s₀ H₀ ex pn) -> PG (X.compF scope N F C s₀ H₀ ex pn) target g)
   (hc : ∀ C s₀ H₀ ex pn, A0y (X.compF scope N F C s₀ H₀ ex pn) -> PT (X.compF scope N F C s₀ H₀ ex pn) c tc)
   (he : ∀ C s₀ H₀ ex pn, A0y (X.compF scope N F C s₀ H₀ ex pn) -> PE (X.compF scope N F C s₀ H₀ ex pn) elt te)
   {pins : List (Addr × Obj)} {s : Shared} {σ : St} {H : Hp} {Q : VK} {RR : Value -> Env -> Result -> Shared -> Prop} (I : Inv X pins σ H s) (h : (A5f N.length js wi g tc te) σ H Q)
   (hRR : ∀ (D C : Addr) (s6 : Shared) (H5 : Hp) (mm : Str -> Option Value), Inv X pins σ H5 s6 -> s6.heap.Ns C mm -> A2w X pins H5 C -> Q (.ref D) H5 -> RR (.ref D) (compEnvC scope (A2b F X.env) C X.env) (.ok .next) s6) :
   wpAny (model X.prog X.w) X.A (eval iter X.env) (fun v s1 => wpAny (model X.prog X.w) X.A (pyIter v) (fun itv s2 => wpAny (model X.prog X.w) X.A (newList []) (fun acc s3 => wpAny (model X.prog X.w) X.A (newFunctionEnv scope X.env.globals (A2b F X.env) [] X.env.qual none .none (some X.env)) (fun cenv s4 =>
     codeAny (model X.prog X.w) X.A (.compStart (.ListComp elt [⟨target, iter, [c], 0⟩] scope pos) 0 itv acc { cenv with scope := relabel scope X.env }) (RR acc { cenv with scope := relabel scope X.env }) s4) X.xe s3) X.xe s2) X.xe s1) X.xe s := by
 refine thn (hi pins s σ H _ I h) fun v s1 h1 => thn h1 fun itv s2 h2 => ?_
 obtain ⟨it, tn, J, H2, rfl, I2, T, st2, f2, R⟩ := h2
 obtain ⟨oi, ei, di⟩ := T.obj _ _ st2
 have hf2 := I2.hok.fresh (Nat.le_refl _)
 refine wpAny_newObj_type ?_
 have I3 : Inv X pins σ (upd H2 s2.heap.objs.size (.lst [])) { s2 with heap := s2.heap.push { cls := .type "list", dict := none, data := .seq ([] : List Value).toArray } } := Inv.lnew (t' := s2.toks) I2 .nil (Nat.zero_le _)
 refine wpAny_newFunctionEnv S.cell (by intro y hy; simp at hy) (fun h4 hns hsb => ?_) S.kind
 dsimp only at hns hsb ⊢
 generalize hG : s2.heap.push { cls := .type "list", dict := none, data := .seq ([] : List Value).toArray } = G at I3 hns hsb ⊢
 generalize hD : s2.heap.objs.size = D at I3 hf2
 have nD : it ≠ D := by rw [<- hD]; exact Nat.ne_of_lt (Heap.lt_size ei)
 have eiG : G.get? it = some oi := by rw [<- hG]; exact Heap.get?_push_of_some _ ei
 have kp : ∀ b o, G.get? b = some o -> h4.get? b = some o := fun b o e => hsb.extBut b o (Nat.ne_of_lt (Heap.lt_size e)) (Heap.get?_push_of_some _ e)
 have f3 : A2w X pins (upd H2 D (.lst [])) it := ⟨by rw [B3 nD]; exact f2.1, f2.2⟩
 have nb : X.base.get? it = none := by
   cases q : X.base.get? it with
   | none => rfl
   | some o =>
     have := (I.ok.bs it o q).1
     rcases f2.2.2.2.1 with z | z
     . rw [hex] at z; simp at z
     . exact absurd (Nat.lt_of_lt_of_le (Heap.lt_size this) z) (Nat.lt_irrefl _)
 have hns' : h4.Ns G.objs.size (fun _ => none) := by
   obtain ⟨o, es, ep, q1, q2, q3, q4⟩ := hns
   exact ⟨o, es, ep, q1, q2, q3, fun x => by rw [q4]; rfl⟩
 have I4 := G5w (tk := s2.toks + ([] : List (Str × Value)).length) S I3 f3 ⟨oi, eiG⟩ nb hns' kp
 have hdc : A0y (X.compF scope N F G.objs.size { s2 with heap := G } (upd H2 D (.lst [])) [it] (X.pn ++ pins)) := by
   rcases hd with z | ⟨x, o, u, vs, z, e, d, n⟩
   . exact .inl z
   . refine .inr ⟨x, o, u, vs, z, ?_, d, n⟩
     have q := I2.base.frzs x o u e
     show upd H2 D (.lst []) x = _
     rw [B3 fun w => by rw [w, hf2] at q; cases q]
     exact q
 obtain ⟨m, W, w0, turn⟩ := R D hf2
 have gg := hg _ _ _ _ _ hdc
 have cc := hc _ _ _ _ _ hdc
 have ee := he _ _ _ _ _ hdc
 have fpc : ∀ {H' : Hp} {σ' : St} {s' : Shared} {pl : List (Addr × Obj)}, Inv (X.compF scope N F G.objs.size { s2 with heap := G } (upd H2 D (.lst [])) [it] (X.pn ++ pins)) pl σ' H' s' -> H' it = none -> (∀ p ∈ pl, p.1 ≠ it) -> A2w (X.compF scope N F G.objs.size { s2 with heap := G } (upd H2 D (.lst [])) [it] (X.pn ++ pins)) pl H' it := by
   intro H' σ' s' pl J' hn hp
   refine ⟨hn, Nat.ne_of_lt (Heap.lt_size eiG), ?_, .inl (List.mem_singleton.mpr rfl), (fun x c z => f2.2.2.2.2.1 x c (S.sub x c z)), fun p hpp => ?_⟩
   . intro z
     rcases List.mem_cons.mp (I.stkSub it z) with z | z
     . exact f2.2.1 z
     . exact f2.2.2.1 z
   . rcases List.mem_append.mp hpp with z | z
     . exact f2.2.2.2.2.2 p z
     . exact hp p z
 have loop : codeAny (model X.prog X.w) X.A (.compLoop (.ListComp elt [⟨target, iter, [c], 0⟩] scope pos) 0 (.ref it) (.ref D) (compEnvC scope (A2b F X.env) G.objs.size X.env))
     (RR (.ref D) (compEnvC scope (A2b F X.env) G.objs.size X.env))
     { s2 with heap := h4, toks := s2.toks + ([] : List (Str × Value)).length } := by
   refine kct_loop (fun k s' => ∃ i ys H', k = m + 1 - i /\ Inv (X.compF scope N F G.objs.size { s2 with heap := G } (upd H2 D (.lst [])) [it] (X.pn ++ pins)) [] (List.replicate N.length none ++ A5e js σ) H' s' /\ tn i s'.heap /\ H' it = none /\ W i ys H') ?_ (m + 1)
     ⟨0, [], _, rfl, I4, T.keep _ _ _ st2 fun o e => kp it o (by rw [<- hG]; exact Heap.get?_push_of_some _ e), f3.1, w0⟩
   rintro k s5 ⟨i, ys, H5, rfl, I5, st5, n5, w5⟩
   obtain ⟨hi5, hD5, w5⟩ := turn i ys H5 w5
   rcases w5 with ⟨stop, q⟩ | ⟨lt5, go, step⟩
   . refine wpAny_mono (T.done (X.compF scope N F G.objs.size { s2 with heap := G } (upd H2 D (.lst [])) [it] (X.pn ++ pins)) rfl rfl rfl hdc i [] s5 _ H5 (fun _ _ => False) I5 (fpc I5 n5 (by simp)) st5 stop) (fun r s6 z => ?_) (fun _ _ z => z.elim)
     obtain ⟨rfl, I6⟩ := z
     obtain ⟨mm, hn6, _⟩ := I6.loc
     have B6 := I6.base
     have J6 : Inv X pins σ H5 s6 := by
       refine I3.call' (ch := [it]) I6.os ⟨B6.keep, B6.slot, B6.free, B6.there, B6.tups, B6.frzs, B6.tbls⟩ I6.hok I6.bare (fun b hb => ?_)
       have e : b = it := by simpa using hb
       subst e
       exact ⟨f2.2.2.2.1, f2.2.1, f2.2.2.2.2.1, f2.2.2.2.2.2⟩
     have szG : X.s₀.heap.objs.size <= G.objs.size := I3.sz
     refine hRR D G.objs.size s6 H5 mm J6 hn6 ⟨I6.free, ?_, ?_, .inr szG, ?_, ?_⟩ q
     . exact Nat.ne_of_gt I3.lt
     . intro z
       obtain ⟨_, o, ho, _⟩ := I3.funs.mem z
       exact Nat.lt_irrefl _ (Heap.lt_size ho)
     . rintro x c z rfl
       obtain ⟨v', o, ho, _⟩ := I3.cell x _ z
       exact Nat.lt_irrefl _ (Heap.lt_size ho)
     . rintro p hp z
       have zz := (I3.pin p hp).1
       rw [z] at zz
       exact Nat.lt_irrefl _ (Heap.lt_size zz)
   . refine wpAny_mono (T.item (X.compF scope N F G.objs.size { s2 with heap := G } (upd H2 D (.lst [])) [it] (X.pn ++ pins)) rfl rfl rfl hdc i [] s5 _ H5 (fun _ _ => False) I5 (fpc I5 n5 (by simp)) st5 go) (fun r s6 z => ?_) (fun _ _ z => z.elim)
     obtain ⟨u, rfl, z⟩ := z
     refine wpAny_mono z (fun _ s7 z => ?_) (fun _ _ z => z.elim)
     obtain ⟨x, I7, rx, yl, st7⟩ := z
     obtain ⟨o7, e7, d7⟩ := T.obj _ _ st7
     obtain ⟨p0, p1, p2, _⟩ := fpc I7 n5 (by simp)
     have I7' : Inv (X.compF scope N F G.objs.size { s2 with heap := G } (upd H2 D (.lst [])) [it] (X.pn ++ pins)) [(it, o7)] (List.replicate N.length none ++ A5e js σ) H5 s7 := I7.pins_of fun p hp => by
       have e : p = (it, o7) := by simpa using hp
       subst e
       exact ⟨e7, p0, p1, p2, d7⟩
     have back : ∀ {i' : Nat} {ys' : List V} {H' : Hp} {σ' : St} {s' : Shared}, i' = i + 1 -> Inv (X.compF scope N F G.objs.size { s2 with heap := G } (upd H2 D (.lst [])) [it] (X.pn ++ pins)) [(it, o7)] σ' H' s' -> W i' ys' H' ->
         ∃ k', k' < m + 1 - i /\ ∃ i ys H', k' = m + 1 - i /\ Inv (X.compF scope N F G.objs.size { s2 with heap := G } (upd H2 D (.lst [])) [it] (X.pn ++ pins)) [] (List.replicate N.length none ++ A5e js σ) H' s' /\ tn i s'.heap /\ H' it = none /\ W i ys H' := by
       rintro i' ys' H' σ' s' rfl J' w'
       obtain ⟨q1, q2, _⟩ := J'.pin (it, o7) (List.mem_append_right _ (List.mem_singleton.mpr rfl))
       refine ⟨m + 1 - (i + 1), by omega, i + 1, ys', H', rfl, G6w S I3 f3 J', T.keep _ _ _ st7 fun o z => ?_, q2, w'⟩
       rw [e7] at z
       cases z
       exact q1
     refine wpAny_mono (gg [(it, o7)] s7 _ H5 x u _ I7' rx (step x H5 yl)) (fun _ s8 z => ?_) (fun _ _ z => z.elim)
     obtain ⟨σ8, H8, I8, q8⟩ := z
     refine wpAny_mono (cc [(it, o7)] s8 σ8 H8 _ I8 q8) (fun b s9 z => ?_) (fun _ _ z => z.elim)
     obtain ⟨H9, I9, q9⟩ := z
     cases b with
     | false =>
       simp only [Bool.false_eq_true, if_false] at q9 ⊢
       exact back rfl I9 q9
     | true =>
       simp only [if_true] at q9 ⊢
       refine wpAny_mono (ee [(it, o7)] s9 σ8 H9 _ I9 q9) (fun y s10 z => ?_) (fun _ _ z => z.elim)
       obtain ⟨yv, H10, I10, ry, hD10, hz10, w10⟩ := z
       refine wpAny_mono (B0r (X := X.compF scope N F G.objs.size { s2 with heap := G } (upd H2 D (.lst [])) [it] (X.pn ++ pins)) [(it, o7)] s10 σ8 H10 (.ref D) [yv] (.ref D) [y] (fun _ H11 => W (i + 1) (ys ++ [yv]) H11) I10 rfl (.cons ry .nil) ⟨D, ys, yv, rfl, rfl, hD10, hz10, w10⟩) (fun _ s11 z => ?_) (fun _ _ z => z.elim)
       obtain ⟨_, H11, I11, _, w11⟩ := z
       exact back rfl I11 w11
 exact codeAny_compStart_list loop (T.self _ 0 _ _ _ (T.keep _ _ _ st2 fun o e => kp it o (by rw [<- hG]; exact Heap.get?_push_of_some _ e)) loop)
theorem B7k {elt target iter : Expr} {c : Expr} {tc : TT} {pos : Pos} {wi : TI} {g : TG} {te : TE} (S : CompScopeF N F js scope X.N X.env) (hd : A0y X) (hi : PIH X target iter wi) (hex : X.ex = [])
   (hg : ∀ C s₀ H₀ ex pn, A0y (X.compF scope N F C s₀ H₀ ex pn) -> PG (X.compF scope N F C s₀ H₀ ex pn) target g)
   (hc : ∀ C s₀ H₀ ex pn, A0y (X.compF scope N F C s₀ H₀ ex pn) -> PT (X.compF scope N F C s₀ H₀ ex pn) c tc)
   (he : ∀ C s₀ H₀ ex pn, A0y (X.compF scope N F C s₀ H₀ ex pn) -> PE (X.compF scope N F C s₀ H₀ ex pn) elt te)
   (hs : ∀ x, foldedSetIterable iter X.env x = pure x := by intro _; rfl) : PE X (.ListComp elt [⟨target, iter, [c], 0⟩] scope pos) (A5f N.length js wi g tc te) := by
 intro pins s σ H Q I h
 rw [eval_ListComp]
 refine wpAny_comprehension_free (use := none) rfl hs S.clos S.kind S.loc (B6z S hd hi hex hg hc he I h (RR := fun acc ce r s' => compPost (model X.prog X.w) X.A X.xe none (EP X pins σ Q) acc ce.locals r s') ?_)
 intro D C s6 H5 mm I6 n6 f6 q
 exact ⟨mm, n6, fun h' sb => ⟨.ref D, H5, J2z I6 f6 sb, rfl, q⟩⟩
theorem J4c {i : Nat} {y : Str} {py spos : Pos} {elt target iter : Expr} {c : Expr} {tc : TT} {pos : Pos} {wi : TI} {g : TG} {te : TE} (S : CompScopeF N F js scope X.N X.env) (hd : A0y X) (hi : PIH X target iter wi) (hex : X.ex = [])
   (hg : ∀ C s₀ H₀ ex pn, A0y (X.compF scope N F C s₀ H₀ ex pn) -> PG (X.compF scope N F C s₀ H₀ ex pn) target g)
   (hc : ∀ C s₀ H₀ ex pn, A0y (X.compF scope N F C s₀ H₀ ex pn) -> PT (X.compF scope N F C s₀ H₀ ex pn) c tc)
   (he : ∀ C s₀ H₀ ex pn, A0y (X.compF scope N F C s₀ H₀ ex pn) -> PE (X.compF scope N F C s₀ H₀ ex pn) elt te) (hN : X.N.Nodup) (hi' : X.N[i]? = some y) (hy : Loc X.env.scope y)
   (hf : X.fn y = true \/ X.env.scope.names.lookup y = some .local := by first | exact .inl rfl | exact .inr rfl | assumption)
   (hsw : swapsWith (.ListComp elt [⟨target, iter, [c], 0⟩] scope pos) (some (.Name y py)) spos.line X.env = pure true := by rfl)
   (hs : ∀ x, foldedSetIterable iter X.env x = pure x := by intro _; rfl) : PS X (.Assign [.Name y py] (.ListComp elt [⟨target, iter, [c], 0⟩] scope pos) spos) (V4z (A5f N.length js wi g tc te) (C2j i)) := by
 intro pins s σ H D I h
 rw [exec_Assign_Name_used _ _ _ _ hsw]
 refine wpAny_bind (wpAny_standAt (wpAny_bind ?_))
 show wpAny _ X.A (do let _ <- comprehension (.ListComp elt [⟨target, iter, [c], 0⟩] scope pos) scope X.env _ (newList []) false (eval iter X.env) (some (assign (.Name y py) X.env))) _ _ s
 refine wpAny_bind (wpAny_mono (wpAny_comprehension_free (Q := fun _ s' => SP X pins D .next s') rfl hs S.clos S.kind S.loc (B6z S hd hi hex hg hc he I h (RR := fun acc ce r s' => compPost (model X.prog X.w) X.A X.xe (some (assign (.Name y py) X.env)) (fun _ s' => SP X pins D .next s') acc ce.locals r s') ?_))
   (fun _ s' hq => wpAny_pure (wpAny_pure hq)) fun _ _ e => e)
 intro D' C s6 H5 mm I6 n6 f6 q
 refine wpAny_assign_Name (C1r (v := .ref D') I6 hN hi' hy rfl (fun s7 I7 st => ?_) hf)
 obtain ⟨a, sb, ha⟩ := st
 have na : C ≠ a := by
   rcases ha with rfl | ha
   . exact f6.2.1
   . exact (f6.2.2.2.2.1 y a ha).symm
 exact ⟨mm, n6.sameBut sb na, fun h' sb' => ⟨_, _, J2z I7 f6 sb', q⟩⟩
end
structure CompS (N F : List Str) (sc : Scope) : Prop where
 kind : sc.kind = .function
 cell : ∀ y ∈ sc.names, y.2 ≠ .cell
 loc : ∀ y ∈ sc.names, y.2 = .local -> sc.names.lookup y.1 = some .local
 fr : ∀ y ∈ sc.names, y.2 = .free -> y.1 ∈ F
 nd : (N ++ F).Nodup
theorem B7e {sc : Scope} {env : Env} {F : List Str} (cell : ∀ y ∈ sc.names, y.2 ≠ .cell) (fr : ∀ y ∈ sc.names, y.2 = .free -> y.1 ∈ F) : ∀ y ∈ (relabel sc env).names, y.2 = .cell \/ y.2 = .free -> y.1 ∈ F := by
 intro y hy h
 obtain ⟨⟨n, k⟩, hm, e⟩ := List.mem_map.mp hy
 dsimp only at e
 split at e
 . rename_i hc
   subst e
   simp only [Bool.and_eq_true] at hc
   exact fr (n, k) hm (by simpa using hc.1.1)
 . subst e
   rcases h with h | h
   . exact absurd h (cell (n, k) hm)
   . exact fr (n, k) hm h
theorem CompScopeF.of1 {N : List Str} {x : Str} {j : Nat} {sc : Scope} {XN : List Str} {env : Env} (S : CompS N [x] sc) (clos : closureFor sc env = pure (A2b [x] env)) (hj : XN[j]? = some x) (hc : ∃ c, env.cells.lookup x = some c) (hk : env.kindOf x = some .cell)
   (hr : (relabel sc env).names.lookup x = some .cell) : CompScopeF N [x] [j] sc XN env :=
 ⟨S.kind, S.cell, S.loc, S.nd, clos, B7e S.cell S.fr, fun k y h => match k, h with
   | 0, h => by cases h; exact ⟨⟨j, rfl, hj⟩, hc, hk, hr⟩
   | k + 1, h => by simp at h, rfl⟩
theorem CompScopeF.of2 {N : List Str} {x y : Str} {j k : Nat} {sc : Scope} {XN : List Str} {env : Env} (S : CompS N [x, y] sc) (clos : closureFor sc env = pure (A2b [x, y] env)) (hj : XN[j]? = some x) (hc : ∃ c, env.cells.lookup x = some c) (hk : env.kindOf x = some .cell)
   (hr : (relabel sc env).names.lookup x = some .cell) (hj' : XN[k]? = some y) (hc' : ∃ c, env.cells.lookup y = some c) (hk' : env.kindOf y = some .cell) (hr' : (relabel sc env).names.lookup y = some .cell) : CompScopeF N [x, y] [j, k] sc XN env :=
 ⟨S.kind, S.cell, S.loc, S.nd, clos, B7e S.cell S.fr, fun i z h => match i, h with
   | 0, h => by cases h; exact ⟨⟨j, rfl, hj⟩, hc, hk, hr⟩
   | 1, h => by cases h; exact ⟨⟨k, rfl, hj'⟩, hc', hk', hr'⟩
   | i + 2, h => by simp at h, rfl⟩
theorem Z5 (z : Str) : ∀ zs : List Str, inV (.str z) (zs.map V.str) = zs.contains z
 | [] => rfl
 | y :: zs => by
   show (eqV (.str y) (.str z) || inV (.str z) (zs.map V.str)) = _
   rw [Z5 z zs, List.contains_cons]
   show ((y == z) || _) = _
   rw [BEq.comm]
theorem Y0 : ∀ zs : List Str, (zs.map V.str).all B0d = true
 | [] => rfl
 | _ :: zs => Y0 zs
theorem B6n {K : Frag} {H : Hp} {σ σf : L2.St} {a : Addr} {zs : List Str} {f : Str -> Bool} {tc : TT} {te : TE} {Q : VK} (hl : ∀ H, SqT K H a (zs.map V.str)) (hz : zs.length <= 100)
   (ht : ∀ (z : Str) (H' : Hp) (Qb : Bool -> Hp -> Prop), Same H H' -> Qb (f z) H' -> tc (some (.str z) :: σf) H' Qb) (he : ∀ (z : Str) (H' : Hp) (Qv : VK), Qv (.str z) H' -> te (some (.str z) :: σf) H' Qv)
   (k : ∀ D H', Same H H' -> H D = none -> H' D = some (.lst ((zs.filter f).map V.str)) -> Q (.ref D) H') {js : List Nat} (hj : A5e js σ = σf) : A5f 1 js (Y2g K (tC (.ref a))) (C2j 0) tc te σ H Q := by
 refine ⟨a, rfl, ⟨_, hl H⟩, fun D hD => ⟨zs.length, fun i ys H2 => i <= zs.length /\ ys = ((zs.take i).filter f).map V.str /\ H2 = upd H D (.lst ys), ⟨Nat.zero_le _, rfl, rfl⟩, ?_⟩⟩
 rintro i ys H2 ⟨hi, rfl, rfl⟩
 refine ⟨hi, A9, ?_⟩
 have sm : Same H (upd H D (.lst (((zs.take i).filter f).map V.str))) := Same.upd hD
 have lz : (((zs.take i).filter f).map V.str).length <= 100 := by
   rw [List.length_map]
   exact Nat.le_trans (List.length_filter_le _ _) (by rw [List.length_take]; omega)
 by_cases hlt : i < zs.length
 . refine .inr ⟨hlt, ⟨_, V.str zs[i], hl _, by simp [hlt]⟩, fun x H3 y => ?_⟩
   obtain ⟨rfl, y⟩ := y
   have ex : x = V.str zs[i] := by
     have := y _ (hl _)
     simp [hlt] at this
     exact this.symm
   subst ex
   rw [hj]
   show tc (some (.str zs[i]) :: σf) _ _
   refine ht _ _ _ sm ?_
   have et : (zs.take (i + 1)).filter f = (zs.take i).filter f ++ (if f zs[i] then [zs[i]] else []) := by
     rw [List.take_succ_eq_append_getElem hlt, List.filter_append]
     congr 1
     cases hb : f zs[i] <;> simp [hb]
   cases hb : f zs[i] with
   | false =>
     refine Z2 ⟨hlt, ?_, rfl⟩
     rw [et, hb]; simp
   | true =>
     refine A1n (he _ _ _ ⟨A9, Nat.lt_of_le_of_lt lz (G7 (by decide)), hlt, ?_, ?_⟩)
     . rw [et, hb]; simp
     . rw [G3y]
 . have e : i = zs.length := by omega
   subst e
   refine .inl ⟨⟨_, hl _, by simp⟩, k D _ sm hD ?_⟩
   rw [List.take_length]
   exact A9
end L2
namespace L2
open PySem
section
variable {prog : Program} {w : World} {A : Around} {E : Value -> Shared -> Prop} {h : Heap} {g : Array GenState} {d : Drawn} {t : Nat} {os : OsState}
variable {nm q : Str} {C N : Addr} {bs bm bmB : List Value} {hdct : Bool} {sn : List Str} {sub : List Value} {ab : Bool} {col : Option Bool} {dd : Option Addr} {k0 k1 k2 k3 k5 : Option Value} {B newId initId : String}
theorem A7y (F : ExcBaseFacts B newId initId bmB) (T : OwnTail h bmB bm) {mN : Str -> Option Value} {rest : List Value} {fI : Addr} {oI : Obj} {Q : Fin -> Shared -> Prop}
   (hC : h.get? C = some (excClassObj nm q C N bs bm hdct sn sub ab col dd k0 k1 k2 k3 k5 newId)) (hn : h.Ns N mN) (hi : mN "__init__" = some (.ref fI))
   (hfI : h.get? fI = some oI) (hfc : oI.cls = .type "function")
   (hq : ∀ h' e, Heap.MadeExcOf h h' e (.ref C) rest ->
     wpAny (model prog w) A (call (.ref fI) (.ref e :: rest)) (fun r s' => r = .none /\ Q (.done (.ret (.ref e))) s') E ⟨h', g, d, t, os⟩) (hrest : rest.length <= sizeLine) :
   wpAny (model prog w) A (Builtin.«type.__call__» ⟨.ref C :: rest, []⟩) Q E ⟨h, g, d, t, os⟩ := by
 repeat (first | with_reducible refine wpAny_loadPart_at hC ?_ | with_reducible refine wpAny_madeBy_exc hC ?_ | wp_step)
 refine codeAny_call_builtin_code (Code.quiet_builtin _ F.quiet) (wpAny_check_new_subT F T hC ?_)
 refine codeAny_exc_new_subT F T hC ?_ hrest
 show wpAny _ _ _ _ _ _
 have hC₁ := Heap.get?_push_of_some { cls := .ref C, data := .fields #[.ref h.objs.size, .none, .none, .none, .bool false, .none] }
   (Heap.get?_push_of_some { cls := .type "tuple", data := .seq rest.toArray } hC)
 have hfI₁ := Heap.get?_push_of_some { cls := .ref C, data := .fields #[.ref h.objs.size, .none, .none, .none, .bool false, .none] }
   (Heap.get?_push_of_some { cls := .type "tuple", data := .seq rest.toArray } hfI)
 have hn₁ : ((h.push { cls := .type "tuple", data := .seq rest.toArray }).push { cls := .ref C, data := .fields #[.ref h.objs.size, .none, .none, .none, .bool false, .none] }).Ns N mN :=
   let ⟨o, es, ep, e, r⟩ := hn; ⟨o, es, ep, Heap.get?_push_of_some _ (Heap.get?_push_of_some _ e), r⟩
 have hget : ((h.push { cls := .type "tuple", data := .seq rest.toArray }).push
     { cls := .ref C, data := .fields #[.ref h.objs.size, .none, .none, .none, .bool false, .none] }).get? (h.objs.size + 1) = some
     { cls := .ref C, data := .fields #[.ref h.objs.size, .none, .none, .none, .bool false, .none] } := by heap_get
 have hcC : (Value.ref C :: bm).contains (.ref C) = true := by simp
 have T₁ := T.keeps (h' := (h.push { cls := .type "tuple", data := .seq rest.toArray }).push { cls := .ref C, data := .fields #[.ref h.objs.size, .none, .none, .none, .bool false, .none] })
   fun b o e => Heap.get?_push_of_some _ (Heap.get?_push_of_some _ e)
 unfold isInstance
 repeat (first | with_reducible refine wpAny_loadPart_at hget ?_ | (with_reducible refine wpAny_isSubtype_exc hC₁ ?_; rw [hcC]) | wp_step)
 show wpAny _ _ (typeLookup (.ref C) _) _ _ _
 refine wpAny_typeLookup_tail hC₁ hn₁ T₁ F.mroIs F.init.lookup ?_
 rw [hi]
 refine wpAny_holding (wpAny_bind ?_)
 unfold bindSpecial
 refine wpAny_bind (wpAny_typeOf (T := "function") ⟨_, hfI₁, hfc⟩ ?_)
 rw [if_pos (by decide)]
 refine wpAny_pure (wpAny_bind (wpAny_mono (hq _ (h.objs.size + 1) ⟨fun b o hb => Heap.get?_push_of_some _ (Heap.get?_push_of_some _ hb), Heap.get?_none_of_le (Nat.le_succ _), h.objs.size, hget, Heap.get?_none_of_le (Nat.le_refl _), ?_⟩) (fun r s' hr => ?_) fun _ _ x => x))
 . exact Heap.get?_push_of_some _ (Heap.get?_push_at rfl rfl)
 . obtain ⟨rfl, hQ⟩ := hr
   wp_walk
   exact hQ
theorem B5v (F : ExcBaseFacts B newId initId bmB) (T : OwnTail h bmB bm) {mN : Str -> Option Value} {rest : List Value} {fI : Addr} {oI : Obj} {Q : Value -> Shared -> Prop}
   (hC : h.get? C = some (excClassObj nm q C N bs bm hdct sn sub ab col dd k0 k1 k2 k3 k5 newId)) (hn : h.Ns N mN) (hi : mN "__init__" = some (.ref fI))
   (hfI : h.get? fI = some oI) (hfc : oI.cls = .type "function")
   (hq : ∀ h' e, Heap.MadeExcOf h h' e (.ref C) rest ->
     wpAny (model prog w) (A.under (.builtin "type.__call__" ⟨.ref C :: rest, []⟩)) (call (.ref fI) (.ref e :: rest)) (fun r s' => r = .none /\ Q (.ref e) s') E ⟨h', g, d, t, os⟩) (hrest : rest.length <= sizeLine) :
   wpAny (model prog w) A (call (.ref C) rest) Q E ⟨h, g, d, t, os⟩ := by
 have f1 := tc_lookup
 have f2 := tc_bind (.ref C)
 have hT : (⟨h, g, d, t, os⟩ : Shared).TypeIs (.ref C) "type" := ⟨_, hC, rfl⟩
 refine wpAny_call (codeAny_of_tree ?_)
 show wpAny _ _ (callAny (.ref C) _) _ _ _
 repeat (any_goals (first | assumption | with_reducible refine wpAny_loadPart_at hC ?_ | wp_step))
 refine ⟨rfl, ?_⟩
 refine codeAny_call_builtin_at (Code.quiet_builtin _ (by decide +kernel)) entry_typeCall (wpAny_check_type_call_sub hC (A7y (hrest := hrest) F T hC hn hi hfI hfc fun h' e hm => ?_))
 exact hq h' e hm
end
section
variable {M : Model} {prog : Program} {w : World} {A : Around} {E : Value -> Shared -> Prop} {s : Shared} {env : Env}
variable {nm q : Str} {C N : Addr} {bs bm bmB : List Value} {hdct : Bool} {sn : List Str} {sub : List Value} {ab : Bool} {col : Option Bool} {dd : Option Addr} {k0 k1 k2 k3 k5 : Option Value} {B newId initId : String}
theorem A6b {x : Sem Value} {Q : Flow -> Shared -> Prop} (hbase : bm.contains (.type "BaseException") = true) (hh : A.handled = none)
   (h : wpAny M A x (fun v s₁ => ∃ e t de, v = .ref e /\ s₁.heap.get? C = some (excClassObj nm q C N bs bm hdct sn sub ab col dd k0 k1 k2 k3 k5 newId) /\
     s₁.heap.get? e = some { cls := .ref C, dict := de, data := .fields #[.ref t, .none, .none, .none, .bool false, .none] } /\ E (.ref e) s₁) E s) :
   wpAny M A (raiseStmt env (some x) none) Q E s := by
 have hcB : (Value.ref C :: bm).contains (.type "BaseException") = true := by rw [List.contains_cons, hbase, Bool.or_true]
 unfold raiseStmt
 refine wpAny_bind (wpAny_mono h (fun v s₁ h₁ => ?_) fun _ _ x => x)
 obtain ⟨e, t, de, rfl, hC, he, hE⟩ := h₁
 obtain ⟨hp, g, d, tk, os⟩ := s₁
 repeat (first | with_reducible refine wpAny_loadPart_at he ?_ | with_reducible refine wpAny_loadPart_at hC ?_ | (with_reducible refine wpAny_isSubtype_exc hC ?_; rw [hcB]) | wp_step)
 exact wpAny_raiseNew_none hh hE
theorem B0w (F : ExcBaseFacts B newId initId bmB) {mN : Str -> Option Value} {x : Str} {np cpos pos : Pos} {args : List Expr} {Q : Flow -> Shared -> Prop} {fI : Addr} {oI : Obj}
   (hbase : bm.contains (.type "BaseException") = true) (hh : A.handled = none) (hplain : (backTo cpos (starEach args env)).any (·.1) = false) (hi : mN "__init__" = some (.ref fI)) (hfc : oI.cls = .type "function")
   (h : wpAny (model prog w) A (eval (.Name x np) env) (fun f s₁ => f = .ref C /\ wpAny (model prog w) A (evalArgs (.ref C) true (backTo cpos (starEach args env)) [])
     (fun a s₂ => a.kw = [] /\ a.pos.length <= sizeLine /\ s₂.heap.get? C = some (excClassObj nm q C N bs bm hdct sn sub ab col dd k0 k1 k2 k3 k5 newId) /\ s₂.heap.Ns N mN /\ OwnTail s₂.heap bmB bm /\ s₂.heap.get? fI = some oI /\
       ∀ h' e, Heap.MadeExcOf s₂.heap h' e (.ref C) a.pos -> wpAny (model prog w) (A.under (.builtin "type.__call__" ⟨.ref C :: a.pos, []⟩)) (call (.ref fI) (.ref e :: a.pos))
         (fun r s₃ => r = .none /\ s₃.heap.get? C = some (excClassObj nm q C N bs bm hdct sn sub ab col dd k0 k1 k2 k3 k5 newId) /\ (∃ t de, s₃.heap.get? e = some { cls := .ref C, dict := de, data := .fields #[.ref t, .none, .none, .none, .bool false, .none] }) /\ E (.ref e) s₃) E { s₂ with heap := h' }) E s₁) E s) :
   wpAny (model prog w) A (exec (.Raise (some (.Call (.Name x np) args [] cpos)) none pos) env) Q E s := by
 rw [arm_exec_Raise]
 first
   | refine wpAny_bind (wpAny_standAt (A6b (C := C) (nm := nm) (q := q) (N := N) (bs := bs) (bm := bm) (hdct := hdct) (sn := sn) (sub := sub) (ab := ab) (col := col) (dd := dd) (k0 := k0) (k1 := k1) (k2 := k2) (k3 := k3) (k5 := k5) (newId := newId) hbase hh (wpAny_bind (wpAny_mono (wpAny_Call_ofName (wpAny_mono h (fun f s₁ h₁ => ?_) fun _ _ x => x)) (fun v s₃ h₃ => wpAny_bind (wpAny_standAt (wpAny_pure h₃))) fun _ _ x => x))))
   | (simp only [evalOpt, Option.map]; refine wpAny_bind (wpAny_standAt (A6b (C := C) (nm := nm) (q := q) (N := N) (bs := bs) (bm := bm) (hdct := hdct) (sn := sn) (sub := sub) (ab := ab) (col := col) (dd := dd) (k0 := k0) (k1 := k1) (k2 := k2) (k3 := k3) (k5 := k5) (newId := newId) hbase hh (wpAny_bind (wpAny_mono (wpAny_Call_ofName (wpAny_mono h (fun f s₁ h₁ => ?_) fun _ _ x => x)) (fun v s₃ h₃ => wpAny_bind (wpAny_standAt (wpAny_pure h₃))) fun _ _ x => x)))))
 obtain ⟨rfl, h₁⟩ := h₁
 unfold callWith
 refine wpAny_bind (wpAny_holding (wpAny_mono h₁ (fun a s₂ h₂ => wpAny_bind (wpAny_standAt ?_)) fun _ _ x => x))
 obtain ⟨apos, akw⟩ := a
 obtain ⟨hkw, hlen, hC, hn, T, hf, h₂⟩ := h₂
 obtain rfl : akw = [] := hkw
 obtain ⟨hp, g, d, tk, os⟩ := s₂
 simp only [hplain]
 refine wpAny_bind (wpAny_keeperOf_exc hC ?_)
 refine wpAny_bind (B5v F T hC hn hi hf hfc (fun h' e hm => wpAny_mono (h₂ h' e hm) (fun r s₃ z => ⟨z.1, wpAny_bind (wpAny_holding (wpAny_point (wpAny_pure ?_)))⟩) fun _ _ x => x) hlen)
 obtain ⟨_, hC3, ⟨t, de, he⟩, hE⟩ := z
 exact ⟨e, t, de, rfl, hC3, he, hE⟩
end
end L2
namespace L2
open PySem PySem.Spec PyProof.Rows PySem.W
abbrev G3x : List Value := [.type "ValueError", .type "Exception", .type "BaseException", .type "object"]
structure ExcI (K : Frag) (C fI : Addr) : Prop where
 cls : ∃ nm q N bs bm sn sub ab col dd k0 k1 k2 k3 k5, K.lookup C = some (excClassObj nm q C N bs bm true sn sub ab col dd k0 k1 k2 k3 k5 "ValueError.__new__") /\ nsOkIn K N = true /\ nsIn K N "__init__" = some (some (.ref fI)) /\ tailIn K G3x bm = true
 fn : ∃ o, K.lookup fI = some o /\ o.cls = .type "function"
 sa : findIn K (.ref C) "__setattr__" = some (some (.builtin "object.__setattr__"))
 ob : mroIn K C (.type "object") = some true
theorem D3w {K : Frag} {h : Heap} {N : Addr} {mg : Str -> Option Value} {n : Str} {v : Value} (X : K.In h) (G : h.Ns N mg) (e : nsIn K N n = some (some v)) : mg n = some v := by
 obtain ⟨o, es, ep, ho, hd, _, hf⟩ := G
 unfold nsIn at e
 split at e
 . rename_i c d es' n' sl q
   have := X _ _ q
   rw [ho] at this
   cases this
   cases hd
   split at e
   . rename_i en he
     cases e
     rw [<- hf]
     unfold nsFind findBy
     rw [<- Array.find?_toList, he]
     rfl
   . split at e <;> cases e
 . cases e
theorem B4q {h : Heap} (self : Value) : ∀ {l : List Value}, OwnTail h G3x l -> refuseLoop self "__setattr__" l = pure ()
 | _, .base => PySem.F.store_ValueError.passes self
 | _, .own _ _ _ t => by rw [refuseLoop_ref]; exact B4q self t
section
variable {prog : Program} {w : World} {A : Around} {s : Shared} {K : Frag} {C e fI : Addr} {t : Addr} {R : Result -> Shared -> Prop} {name : Str} {tk : Tok} {v : Value}
theorem U8x (X : K.In s.heap) (F : ExcI K C fI) (he : s.heap.get? e = some (Y9 (.ref C) t none .none)) (ht : findIn K (.ref C) name = some none)
   (h : ∀ h' tk' d, (∀ b ob, b ≠ e -> s.heap.get? b = some ob -> h'.get? b = some ob) -> h'.get? e = some (Y9 (.ref C) t (some d) .none) -> h'.Ns1 d (fun y => if y = name then some v else none) -> s.heap.get? d = none -> d ≠ e ->
     R (.ok (.ret .none)) { s with heap := h', toks := tk' }) :
   codeAny (model prog w) A (.call (.builtin "object.__setattr__") ⟨[.ref e, .str name tk, v], []⟩) R s := by
 have SF := PySem.F.store_object
 obtain ⟨nm, q, N, bs, bm, sn, sub, ab, col, dd, k0, k1, k2, k3, k5, lC, nO, nI, tl⟩ := F.cls
 have hC := X _ _ lC
 have I : PySem.W.InstAt s.heap e (Y9 (.ref C) t none .none) C none := ⟨he, rfl, rfl, trivial⟩
 have hc : clsIn K C = some { name := nm, bases := bs, mro := .ref C :: bm, ns := N, qualname := q, hasDict := true, slotNames := sn, subclasses := sub, abstract := ab, collection := col, hasDel := false } := by
   unfold clsIn
   rw [lC]
 have sub' : Looks (model prog w) s.heap (isInstance (.ref e) (.type "object")) true := I.type.andThen (looks_mroIn X F.ob)
 refine codeAny_call_builtin SF.slot.plain SF.entry (@check_slot (model prog w) _ _ s "object.__setattr__" "object" "__setattr__" (.ref e) [.str name tk, v] [] _ SF.kind SF.split sub' (SF.args (.ref e) (.str name tk) v) ?_)
 have hm : Looks (model prog w) s.heap (mroOf (.ref C)) (.ref C :: bm) := (looks_clsIn X hc).andThen .now
 have L3 : Looks (model prog w) s.heap (Builtin.ObjectAttr.storeTaker? none) none := .now
 rw [osa_eq, refuse_eq]
 refine wpAny_bind (wpAny_bind (I.type.here (wpAny_bind (hm.here ?_))))
 rw [refuseLoop_ref, B4q _ (tail_of_in X tl)]
 refine wpAny_pure (wpAny_bind (I.type.here (wpAny_bind ((looks_findIn X ht).here (wpAny_bind (L3.here ?_))))))
 dsimp only
 refine wpAny_bind (wpAny_pure (wpAny_bind (wpAny_bind (wpAny_loadPart he (wpAny_bind (PySem.W.Looks.here (PySem.W.looks_clsIn X hc) ?_))))))
 have hx₁ : (s.heap.push { cls := .type "dict", data := .dict #[] }).get? e = some (Y9 (.ref C) t none .none) := Heap.get?_push_of_some _ he
 have hxs : e ≠ s.heap.objs.size := Nat.ne_of_lt (Heap.lt_size he)
 show wpAny (model prog w) A.in1 (do
     let d <- alloc { cls := Value.type "dict", data := Data.dict #[] }
     update e fun o => { cls := o.cls, dict := some d, data := o.data, slots := o.slots }
     pure (some d)) _ _ _
 refine wpAny_bind (wpAny_alloc' ?_)
 refine wpAny_bind (wpAny_update' hx₁ ?_)
 refine wpAny_pure ?_
 have hgd : ((s.heap.push { cls := .type "dict", data := .dict #[] }).update e fun o => { cls := o.cls, dict := some s.heap.objs.size, data := o.data, slots := o.slots }).get? s.heap.objs.size
     = some { cls := .type "dict", data := .dict #[] } :=
   (Heap.get?_update_ne _ _ _ _ hxs.symm).trans (Heap.get?_push_at rfl rfl)
 have hnd : ((s.heap.push { cls := .type "dict", data := .dict #[] }).update e fun o => { cls := o.cls, dict := some s.heap.objs.size, data := o.data, slots := o.slots }).Ns s.heap.objs.size (fun _ => none) :=
   ⟨_, #[], _, hgd, rfl, fun e he => absurd he (by simp), fun _ => rfl⟩
 show wpAny _ _ (Builtin.ObjectAttr.storeInDict s.heap.objs.size (.str name tk) name v) _ _ _
 unfold Builtin.ObjectAttr.storeInDict Builtin.ObjectAttr.newKeyGuard
 refine wpAny_bind (wpAny_pure (wpAny_bind (wpAny_nsSet1 (Heap.Ns1.of_empty hnd) fun h' hn' hs => ?_)))
 obtain ⟨oD, esD, epD, hoD, hdD, hcD⟩ := hn'.count (Within.cons name v Within.nil)
 refine wpAny_bind (wpAny_lookBehind hoD (by rw [hdD]; exact pastItsLine_dict (Nat.le_trans hcD (by rw [List.length_cons, List.length_nil, sizeLine_eq]; omega))) ?_)
 have hx' : h'.get? e = some (Y9 (.ref C) t (some s.heap.objs.size) .none) := (hs.2 e hxs).trans (Heap.get?_update_self _ hx₁ rfl)
 refine wpAny_pure (h h' _ s.heap.objs.size (fun b ob hbx hb => ?_) hx' hn' (Heap.get?_none_of_le (Nat.le_refl _)) hxs.symm)
 exact (hs.2 b (Nat.ne_of_lt (Heap.lt_size hb))).trans ((Heap.get?_update_ne _ _ _ _ hbx).trans (Heap.get?_push_of_some _ hb))
end
def A2d (e C t : Addr) (d : Option Addr) : Heap -> Prop := fun h => h.get? e = some (Y9 (.ref C) t d .none)
theorem J2e {P : Program} {w : World} {H : Hp} {h : Heap} {e C t : Addr} {d : Option Addr} (q : h.get? e = some (Y9 (.ref C) t d .none)) : ObjOk P w H h e (.ext (A2d e C t d)) :=
 ⟨q, ⟨_, q⟩, fun _ _ z k => k _ z⟩
section
variable {X : Cx} {pins : List (Addr × Obj)} {σ : St} {H : Hp} {s : Shared}
theorem Inv.trackO {a : Addr} {ho : HO} (I : Inv X pins σ H s) (n : Nw X pins H a) (ok : ObjOk X.prog X.w (upd H a ho) s.heap a ho) : Inv X pins σ (upd H a ho) s := by
 have ne : ∀ b u, H b = some u -> b ≠ a := fun b u z q => by rw [q, n.un] at z; cases z
 have up : ∀ b, b ≠ a -> upd H a ho b = H b := fun b hb => B3 hb
 refine ⟨I.ok, I.os, I.bare, ⟨I.base.keep, I.base.slot, fun b u z m hx => ?_, I.base.there, fun b xs z => ?_, fun b u v z => ?_, fun b ps z => ?_⟩, I.loc, I.cell, ?_, fun x c z => ?_, fun p hp => ?_, fun b u z => ?_, I.len⟩
 . rw [up b fun q => by rw [q, n.old] at z; cases z]
   exact I.base.free b u z m hx
 . have := I.base.tups b xs z
   rw [up b (ne b _ this)]; exact this
 . have := I.base.frzs b u v z
   rw [up b (ne b _ this)]; exact this
 . obtain ⟨more, this⟩ := I.base.tbls b ps z
   exact ⟨more, by rw [up b (ne b _ this)]; exact this⟩
 . rw [up _ (Ne.symm n.loc)]; exact I.free
 . rw [up _ (n.cell x c z)]; exact I.freeC x c z
 . obtain ⟨q1, q2, q3⟩ := I.pin p hp
   exact ⟨q1, by rw [up _ (n.pin p hp)]; exact q2, q3⟩
 . by_cases hb : b = a
   . subst hb
     rw [A9] at z
     cases z
     exact ok
   . rw [up b hb] at z
     exact (I.hok b u z).stay (fun _ _ _ q => q) (fun c q => by rw [up c (ne c _ q)]; exact q) (fun c xs q => by rw [up c (ne c _ q)]; exact q)
def rem (H : Hp) (a : Addr) : Hp := fun b => if b = a then none else H b
theorem B6y {a : Addr} : rem H a a = none := by unfold rem; rw [if_pos rfl]
theorem A3v {a b : Addr} (h : b ≠ a) : rem H a b = H b := by unfold rem; rw [if_neg h]
theorem Inv.forget {a : Addr} {φ : Heap -> Prop} (I : Inv X pins σ H s) (e : H a = some (.ext φ)) : Inv X pins σ (rem H a) s := by
 have ne : ∀ b u, H b = some u -> (∀ φ, u ≠ .ext φ) -> b ≠ a := fun b u z q w => by rw [w, e] at z; cases z; exact q _ rfl
 have non : ∀ b, H b = none -> rem H a b = none := fun b z => by
   by_cases q : b = a
   . rw [q]; exact B6y
   . rw [A3v q]; exact z
 refine ⟨I.ok, I.os, I.bare, ⟨I.base.keep, I.base.slot, fun b u z m hx => non b (I.base.free b u z m hx), I.base.there, fun b xs z => ?_, fun b u v z => ?_, fun b ps z => ?_⟩, I.loc, I.cell, non _ I.free, fun x c z => non _ (I.freeC x c z), fun p hp => ?_, fun b u z => ?_, I.len⟩
 . have := I.base.tups b xs z
   rw [A3v (ne b _ this (fun _ q => nomatch q))]; exact this
 . have := I.base.frzs b u v z
   rw [A3v (ne b _ this (fun _ q => nomatch q))]; exact this
 . obtain ⟨more, this⟩ := I.base.tbls b ps z
   exact ⟨more, by rw [A3v (ne b _ this (fun _ q => nomatch q))]; exact this⟩
 . obtain ⟨q1, q2, q3⟩ := I.pin p hp
   exact ⟨q1, non _ q2, q3⟩
 . have hb : b ≠ a := fun q => by rw [q, B6y] at z; cases z
   rw [A3v hb] at z
   exact (I.hok b u z).stay (fun _ _ _ q => q) (fun c q => by rw [A3v (ne c _ q (fun _ w => nomatch w))]; exact q) (fun c xs q => by rw [A3v (ne c _ q (fun _ w => nomatch w))]; exact q)
end
def Y1v (C : Addr) (ta tv : TE) (f : Str) : TS := fun D σ H => tv σ H fun y H1 => ta σ H1 fun x H2 => ∃ e t, x = .ref e /\ H2 e = some (.ext (A2d e C t none)) /\
 ∀ d, H2 d = none -> d ≠ e -> D.nx σ (upd (upd H2 e (.ext (A2d e C t (some d)))) d (.xd [(f, y)]))
section
variable {X : Cx} {o value : Expr} {f : Str} {pos pos' : Pos} {ta tv : TE} {C fI : Addr}
theorem U9c (F : ExcI X.K C fI) (hf : findIn X.K (.ref C) f = some none) (ha : PE X o ta) (hv : PE X value tv) (hs : swapsWith value (some (.Attribute o f pos')) pos.line X.env = pure false) (hex : X.ex = [] := by rfl) :
   PS X (.Assign [.Attribute o f pos'] value pos) (Y1v C ta tv f) := by
 intro pins s σ H D I h
 refine plainObj_wpAny_Assign_Attribute (thn (hv pins s σ H _ I h) fun u s1 ⟨y, H1, I1, ry, q⟩ => thn (ha pins s1 σ H1 _ I1 q) fun ov s2 ⟨x, H2, I2, rx, e, t, ex, ea, q2⟩ => ?_) hs
 subst ex
 obtain rfl : ov = Value.ref e := rx
 have he : s2.heap.get? e = some (Y9 (.ref C) t none .none) := (I2.hok e _ ea).1
 refine set_plain I2.kIn (⟨he, rfl, rfl, trivial⟩ : PySem.W.InstAt s2.heap e (Y9 (.ref C) t none .none) C none) F.sa (U8x (s := { s2 with toks := s2.toks + 1 }) I2.kIn F he hf fun h' tk' d k1 k2 k3 k4 k5 => ?_)
 have nd : H2 d = none := I2.hok.new k4
 have I3 : Inv X pins σ (upd H2 e (.ext (A2d e C t (some d)))) { s2 with heap := h', toks := tk' } :=
   I2.write (x := e) (e := e) (by rw [ea]; exact trivial) (.inl rfl) (fun b u hb z => k1 b u hb z) ⟨_, k2⟩ (J2e k2)
 have nw : Nw X pins (upd H2 e (.ext (A2d e C t (some d)))) d := I2.nw hex k4 (by rw [B3 k5]; exact nd)
 refine ⟨σ, _, I3.trackO (ho := .xd [(f, y)]) nw ⟨_, k3, fun g => ?_⟩, q2 d nd k5⟩
 show RelO (List.lookup g [(f, y)]) (if g = f then some u else none)
 by_cases z : g = f
 . rw [if_pos z, z]
   have : List.lookup f [(f, y)] = some y := by simp [List.lookup]
   rw [this]; exact ry
 . rw [if_neg z]
   have : List.lookup g [(f, y)] = none := by
     have hb : (g == f) = false := beq_eq_false_iff_ne.mpr z
     simp [List.lookup, hb]
   rw [this]; exact trivial
end
def C3p (C : Addr) (f : Str) : Sp := fun vs H Q _ => ∃ e t v, vs = [.ref e, v] /\ H e = some (.ext (A2d e C t none)) /\ ∀ d, H d = none -> d ≠ e -> Q .non (upd (upd H e (.ext (A2d e C t (some d)))) d (.xd [(f, v)]))
def U9t (C : Addr) (f : Str) (EH : EK) (t : TA) : TS := fun _ σ H => t σ H fun vs H1 => ∃ v, vs = [v] /\ ∀ d H2, Same H1 H2 -> H1 d = none -> H2 d = some (.xd [(f, v)]) -> EH (.ref C) (some d) σ H2
section
variable {X : Cx} {x f : Str} {p cpos pos : Pos} {e : Expr} {t : TA} {C fI : Addr} {fdI : FuncData} {ps : List Str} {EH : EK} {j k : Nat}
theorem G7s (hm : X.mg x = some (.ref C)) (F : ExcI X.K C fI) (G : FnOk X.prog X.w X.K X.mg X.base CX0 j fI fdI ps (C3p C f)) (bI : Binds X.K fdI ps []) (hr : Room k X.A) (hx : D8 X EH) (ha : PA X [e] t) (hj : j + 1 <= k := by decide) (hg : Gl X x := by rfl) (hex : X.ex = [] := by rfl)
   (hdb : (x == ("__debug__" : Str)) = false := by decide) (he : starEach [e] X.env = (false, eval e X.env) :: starEach [] X.env := by rfl) (hpl : (backTo cpos (starEach [] X.env)).any (·.1) = false := by rfl) :
   PS X (.Raise (some (.Call (.Name x p) [e] [] cpos)) none pos) (U9t C f EH t) := by
 intro pins s σ H D I h
 obtain ⟨nm, q, N, bs, bm, sn, sub, ab, col, dd, k0, k1, k2, k3, k5, lC, nO, nI, tl⟩ := F.cls
 obtain ⟨oI, lI, cI⟩ := F.fn
 have T0 : OwnTail X.base G3x bm := tail_of_in I.ok.mod.kin tl
 have hN0 : X.base.Ns N (X.base.nsMap N) := .of_isNs (isNs_of_in I.ok.mod.kin nO)
 have hi0 : X.base.nsMap N "__init__" = some (.ref fI) := D3w I.ok.mod.kin hN0 nI
 refine B0w (C := C) (nm := nm) (q := q) (N := N) (bs := bs) (bm := bm) (hdct := true) (sn := sn) (sub := sub) (ab := ab) (col := col) (dd := dd) (k0 := k0) (k1 := k1) (k2 := k2) (k3 := k3) (k5 := k5) (oI := oI) PySem.F.excBase_ValueError (mN := X.base.nsMap N) (T0.hasType PySem.F.excBase_ValueError.hasBase) hr.hd
   (by rw [he]; show (false || (backTo cpos (starEach [] X.env)).any (·.1)) = false; rw [hpl]; rfl) hi0 cI (A0j I hg hm ⟨rfl, ?_⟩ hdb)
 have ha' := ha cpos pins s σ H _ I h
 rw [he] at ha' ⊢
 refine Calls.evalArgs_plain (wpAny_mono ha' (fun us s2 ⟨vs, H1, I1, r, v, ev, z⟩ => ?_) fun _ _ y => y)
 subst ev
 obtain ⟨u, rfl, ru⟩ := r.one
 refine ⟨rfl, D5 (by show 1 <= 1000; decide), I1.kIn _ _ lC, hN0.keeps I1.bk, T0.keeps I1.bk, I1.kIn _ _ lI, fun h' a m => ?_⟩
 obtain ⟨t', e1, tn, e2⟩ := m.there
 have I2 : Inv X pins σ H1 { s2 with heap := h' } := I1.kept (t' := s2.toks) m.keeps
 have na : H1 a = none := I1.hok.new m.new
 have I3 := I2.trackO (ho := .ext (A2d a C t' none)) (I1.nw hex m.new na) (J2e e1)
 have sp0 : C3p C f [.ref a, v] (upd H1 a (.ext (A2d a C t' none))) (fun v0 H' => v0 = .non /\ ∃ d, H1 d = none /\ d ≠ a /\ H' = upd (upd (upd H1 a (.ext (A2d a C t' none))) a (.ext (A2d a C t' (some d)))) d (.xd [(f, v)])) E0 :=
   ⟨a, t', v, rfl, A9, fun d nd nda => ⟨rfl, d, by rw [B3 nda] at nd; exact nd, nda, rfl⟩⟩
 have rr : Vals [.ref a, v] [.ref a, u] := .cons rfl (.cons ru .nil)
 have hl : ([Value.ref a, u] ++ []).length = ps.length := by
   have := G.len _ _ _ _ sp0
   rw [<- this]; rfl
 refine wpAny_call (codeAny_mono (G.run _ X.stack _ _ ⟨[.ref a, u], []⟩ ([.ref a, u] ++ []) [.ref a, v] _ E0 ((hr.mono hj).make C [u] []) (I3.env0.make C [u] []) (bI _ [.ref a, u] I3.kIn hl) rr sp0) fun r s' hq => ?_)
 cases r with
 | error e => exact hq.elim
 | ok fl =>
   cases fl with
   | ret u0 =>
     obtain ⟨v0, H', I4, rv, ev, d, nd, nda, eH⟩ := I3.after hq
     subst ev eH
     have ea : (upd (upd (upd H1 a (.ext (A2d a C t' none))) a (.ext (A2d a C t' (some d)))) d (.xd [(f, v)])) a = some (.ext (A2d a C t' (some d))) := by
       rw [B3 (Ne.symm nda), A9]
     have g1 : s'.heap.get? a = some (Y9 (.ref C) t' (some d) .none) := (I4.hok a _ ea).1
     refine ⟨rv, I4.kIn _ _ lC, ⟨t', some d, g1⟩, ?_⟩
     refine hx pins σ _ s' a t' (.ref C) (some d) (I4.forget ea) ⟨I1.nw hex m.new B6y, .none, g1, .inl rfl, fun T z => nomatch z⟩ (z d _ (fun b ob q => ?_) nd ?_)
     . have nb : b ≠ a := C6 q na
       have nbd : b ≠ d := C6 q nd
       rw [A3v nb, B3 nbd, B3 nb, B3 nb]
       exact q
     . rw [A3v nda, A9]
   | next => exact hq.elim
   | brk => exact hq.elim
   | cont => exact hq.elim
end
theorem J5k {prog : Program} {w : World} {A : Around} {E : Value -> Shared -> Prop} {s : Shared} {K : Frag} {a C : Addr} {oa : Obj} {od : Option Obj} {name : Str} {v : Value} {b : Bool} {Q : Value -> Shared -> Prop} (F : ExcK K C) (X : K.In s.heap) (I : PySem.W.InstAt s.heap a oa C od)
   (hf : findObj K C od name = some (.value v)) (hh : handedIn v = true) (h : Q v { s with toks := s.toks + 1 }) : wpAny (model prog w) A (getAttr (.ref a) name b) Q E s := by
 obtain ⟨hp, g, d, t, os⟩ := s
 have L0 := I.type (M := model prog w)
 have L1 := looks_findIn (M := model prog w) X F.ga
 have L2 := looks_findIn (M := model prog w) X F.gh
 have L3 : Looks (model prog w) hp (isInstance (.ref a) (.type "BaseException")) true := L0.andThen (looks_subIn X F.be)
 have L4 := looks_find (M := model prog w) X I hf
 have hk : builtinKind "BaseException.__getattribute__" = some .slot := by decide +kernel
 have hsplit : splitId "BaseException.__getattribute__" = some ("BaseException", "__getattribute__") := by decide +kernel
 have hargs := PySem.F.args_bexc_ga (.ref a) (.str name t)
 have hb := PySem.F.attr_ValueError.ga.bind (.ref a)
 unfold getAttr getAttrBy
 refine wpAny_bind (wpAny_mkText (wpAny_holding (wpAny_bind (L0.at (wpAny_bind (L1.at ?_))))))
 dsimp only
 rw [if_neg (show ¬ ((onTheHeap (Value.ref C) && Value.builtin "BaseException.__getattribute__" == Value.builtin "object.__getattribute__") = true) by
   rw [show (Value.builtin "BaseException.__getattribute__" == Value.builtin "object.__getattribute__") = false by decide +kernel, Bool.and_false]; exact Bool.false_ne_true)]
 unfold getAttrByItsOwn
 refine wpAny_bind (m := hookBefore (.ref C)) (L2.at ?_)
 refine wpAny_bind (wpAny_attempt (wpAny_holding ?_))
 unfold callGetattribute
 rw [if_neg (show ¬ ((b && onTheHeap (Value.builtin "BaseException.__getattribute__")) = true) by
   rw [show onTheHeap (Value.builtin "BaseException.__getattribute__") = false from rfl, Bool.and_false]; exact Bool.false_ne_true)]
 unfold boundAndCalled
 rw [hb]
 refine wpAny_bind (wpAny_pure ?_)
 refine wpAny_call (codeAny_call_builtin PySem.F.attr_ValueError.ga.plain PySem.F.entry_bexc_ga ?_)
 have chk : ∀ {A' : Around} {Q' : Unit -> Shared -> Prop} {E' : Value -> Shared -> Prop}, Q' () ⟨hp, g, d, t + 1, os⟩ -> wpAny (model prog w) A' (checkBuiltinCall "BaseException.__getattribute__" ⟨[.ref a, .str name t], []⟩) Q' E' ⟨hp, g, d, t + 1, os⟩ := by
   intro A' Q' E' hq
   simp only [checkBuiltinCall, hk, hsplit]
   refine wpAny_bind ?_
   refine L3.at ?_
   repeat (first | assumption | wp_step)
 refine chk ?_
 show wpAny _ _ (Builtin.«object.__getattribute__» ⟨[.ref a, .str name t], []⟩) _ _ _
 unfold Builtin.«object.__getattribute__»
 refine wpAny_bind (wpAny_pure ?_)
 refine wpAny_bind (wpAny_pure ?_)
 refine wpAny_bind (L0.at (wpAny_bind (L4.at ?_)))
 dsimp only
 refine wpAny_pure ?_
 exact handed_on hh h
def V4c (K : Frag) (ta : TE) (f : Str) : TE := fun σ H Q => ta σ H fun x H1 => ∃ a C t T d u fs v, x = .ref a /\ H1 a = some (.frz (Y9 (.ref C) t (some d) T) u) /\ H1 d = some (.xd fs) /\ ExcK K C /\ (∃ cd, clsIn K C = some cd /\ cd.hasDict = true) /\ findIn K (.ref C) f = some none /\ fs.lookup f = some v /\ Q v H1
section
variable {X : Cx} {e : Expr} {f : Str} {pos : Pos} {ta : TE}
theorem U8a (he : PE X e ta) (hb : attributeBase e f X.env (eval e X.env) = eval e X.env) : PE X (.Attribute e f pos) (V4c X.K ta f) := by
 intro pins s σ H Q I h
 refine G5d hb (thn (he pins s σ H _ I h) fun u s1 ⟨x, H1, I1, rx, a, C, t, T, d, u0, fs, v, ex, ea, hd, k, ⟨cd, hc, hD⟩, hn, l, q⟩ => ?_)
 subst ex
 obtain rfl : u = Value.ref a := rx
 have o1 : s1.heap.get? a = some (Y9 (.ref C) t (some d) T) := (I1.hok a _ ea).1
 obtain ⟨mA, nA, rA⟩ := (show ∃ mA, s1.heap.Ns1 d mA /\ ∀ f, RelO (fs.lookup f) (mA f) from I1.hok d _ hd)
 obtain ⟨od, o2, lk⟩ := B1a nA
 obtain ⟨uv, hu, ru⟩ := RelO.some_of (v := v) (o := mA f) (by rw [<- l]; exact rA f)
 have J : PySem.W.InstAt s1.heap a (Y9 (.ref C) t (some d) T) C (some od) := ⟨o1, rfl, rfl, o2⟩
 have hf : findObj X.K C (some od) f = some (.value uv) := by
   unfold findObj
   rw [hc, Option.bind_some, hn, Option.bind_some]
   show ((PySem.W.ownOf cd (some od) f).bind _) = _
   unfold PySem.W.ownOf
   rw [hD, if_pos rfl]
   show ((lookIn f od).bind _) = _
   rw [lk f, hu]
   rfl
 exact J5k k I1.kIn J hf (C1m ru) ⟨v, H1, I1.tok _, ru, q⟩
end
def A5w (z : Str) (n : Int) : Str := if n < 1 then Str.empty else if (n == 1 || z.length == 0) = true then z else ⟨(List.replicate n.toNat z.cps).foldl (· ++ ·) #[]⟩
def V4t : R2 := fun x y H Q => ∃ z n, x = .str z /\ y = .int n /\ -(2 ^ 63) <= n /\ n < 2 ^ 63 /\ z.length * n.toNat <= sizeLine /\ Q (.str (A5w z n)) H
theorem C2d (z : Array Nat) : ∀ (k : Nat) (acc : Array Nat), ((List.replicate k z).foldl (· ++ ·) acc).toList = acc.toList ++ (List.replicate k z.toList).flatten
 | 0, acc => by simp
 | k + 1, acc => by
   rw [List.replicate_succ, List.foldl_cons, C2d z k, Array.toList_append, List.replicate_succ, List.flatten_cons, List.append_assoc]
theorem A0h (z : Str) : z.cps.toList.length = z.length := Array.length_toList
theorem B4t (z : Str) (n : Int) : (A5w z n).cps.toList = (List.replicate n.toNat z.cps.toList).flatten := by
 unfold A5w
 split
 . have : n.toNat = 0 := by omega
   rw [this]; rfl
 . split
   . rename_i h1 h2
     rcases Bool.or_eq_true _ _ |>.mp h2 with h | h
     . have : n = 1 := by simpa using h
       subst this
       simp
     . have e : z.length = 0 := by simpa using h
       have e2 : z.cps.toList = [] := List.eq_nil_of_length_eq_zero (by rw [A0h]; exact e)
       rw [e2]
       have : ∀ k : Nat, (List.replicate k ([] : List Nat)).flatten = [] := fun k => by simp
       rw [this]
   . show ((List.replicate n.toNat z.cps).foldl (· ++ ·) #[]).toList = _
     rw [C2d]
     rfl
theorem B6c (z : Str) (n : Int) : (A5w z n).length = n.toNat * z.length := by
 rw [<- A0h, B4t, U9m, A0h]
section
variable {X : Cx}
theorem D3b : OpR X (binaryOp .Mult) V4t := by
 intro pins s σ H x y v u Q I rx ry h
 obtain ⟨z, n, rfl, rfl, h1, h2, hz, q⟩ := h
 obtain ⟨t, rfl⟩ := rx
 obtain ⟨t', rfl⟩ := ry
 have lo : ¬ n < -(2 ^ 63 : Int) := by omega
 have hi : ¬ n >= (2 ^ 63 : Int) := by omega
 have hl := B6c z n
 have hs : (A5w z n).length <= sizeLine := by rw [hl, Nat.mul_comm]; exact hz
 refine PySem.P.mul_str (by rw [decide_eq_false lo, decide_eq_false hi]; rfl) (fun n1 n2 => ?_) (fun n1 n2 => U7x hz) ?_
 . intro g
   have p : 0 < n := by omega
   have e : ((z.length * n.toNat : Nat) : Int) = (z.length : Int) * n := by rw [Int.natCast_mul, Int.toNat_of_nonneg (by omega)]
   have c : ((z.length * n.toNat : Nat) : Int) <= (sizeLine : Nat) := Int.ofNat_le.mpr hz
   have k : (sizeLine : Nat) <= 2 ^ 63 - 1 := by decide
   have k' : ((sizeLine : Nat) : Int) <= (2 ^ 63 - 1 : Int) := by
     have := Int.ofNat_le.mpr k
     exact this
   have : (z.length : Int) <= (2 ^ 63 - 1) / n := (Int.le_ediv_iff_mul_le p).mpr (by omega)
   omega
 . unfold A5w at q hs
   split
   . rw [if_pos (by assumption)] at q
     exact ⟨by decide, .str _, H, I.tok _, ⟨_, rfl⟩, q⟩
   . rw [if_neg (by assumption)] at q hs
     split
     . rw [if_pos (by assumption)] at q
       exact ⟨.str _, H, I, ⟨_, rfl⟩, q⟩
     . rw [if_neg (by assumption)] at q hs
       exact ⟨hs, .str _, H, I.tok _, ⟨_, rfl⟩, q⟩
theorem C1b : A2u X (.type "int") (fun xs H Q => ∃ z n, xs = [.str z] /\ PySem.intText? z = some n /\ z.length <= 640 /\ Q (.int n) H) := by
 intro pins s σ H xs us Q I r h
 obtain ⟨z, n, rfl, h1, h2, q⟩ := h
 obtain ⟨u, rfl, t, rfl⟩ := B6b r
 exact KIN.call_text h1 h2 ⟨.int n, H, I.tok _, ⟨_, rfl⟩, q⟩
end
def G6e (n : Nat) : Str := ("1" : Str) ++ A5w ("0" : Str) (n : Int)
theorem G6n (n : Nat) : (List.replicate n [48]).flatten = List.replicate n 48 := by
 induction n with
 | zero => rfl
 | succ n ih => rw [List.replicate_succ, List.flatten_cons, ih, List.replicate_succ]; rfl
theorem A7b (n : Nat) : (G6e n).cps.toList = 49 :: List.replicate n 48 := by
 unfold G6e
 show (("1" : Str).cps ++ (A5w ("0" : Str) (n : Int)).cps).toList = _
 rw [Array.toList_append, B4t]
 have a : ("1" : Str).cps.toList = [49] := by decide +kernel
 have b : ("0" : Str).cps.toList = [48] := by decide +kernel
 rw [a, b]
 show [49] ++ (List.replicate n [48]).flatten = _
 rw [G6n]
 rfl
theorem C8u (n : Nat) : (G6e n).length = n + 1 := by
 rw [<- A0h, A7b]
 simp
theorem D4k (n : Nat) : ∀ a : Nat, (List.replicate n 48).foldl (fun acc c => acc * 10 + (c - 48)) a = a * 10 ^ n := by
 induction n with
 | zero => intro a; simp
 | succ n ih =>
   intro a
   rw [List.replicate_succ, List.foldl_cons, ih, Nat.pow_succ]
   show (a * 10 + 0) * 10 ^ n = _
   rw [Nat.add_zero, Nat.mul_assoc, Nat.mul_comm 10]
theorem J2v (n : Nat) (h : n <= 600) : PySem.intText? (G6e n) = some ((10 ^ n : Nat) : Int) := by
 have e : PySem.NumText.digitsVal (G6e n).cps.toList = 10 ^ n := by
   rw [A7b]
   unfold PySem.NumText.digitsVal
   rw [List.foldl_cons, D4k]
   show (0 * 10 + 1) * 10 ^ n = _
   omega
 rw [<- e]
 refine PySem.intText_digits ?_ ?_ ?_
 . rw [A7b]
   intro c hc
   rcases List.mem_cons.mp hc with rfl | hc
   . exact ⟨by decide, by decide⟩
   . obtain ⟨_, rfl⟩ := List.mem_replicate.mp hc
     exact ⟨by decide, by decide⟩
 . rw [A7b]; exact fun z => nomatch z
 . rw [C8u]; omega
section
variable {X : Cx}
def Y0s : V -> List V -> Hp -> VK -> Prop := fun x vs H Q => ∃ i, x = .int i /\ vs = [] /\ Q (.int ((Builtin.Int.intBits i : Nat) : Int)) H
theorem C0v : MtR X "int.bit_length" Y0s := by
 intro pins s σ H x xs v us Q I rx rs h
 obtain ⟨i, rfl, rfl, q⟩ := h
 obtain ⟨t, rfl⟩ := rx
 cases rs
 exact call_int_bit_length ⟨.int _, H, I.tok _, ⟨_, rfl⟩, q⟩
end
section
variable {X : Cx} {a b : Expr} {rest : List Expr} {pos : Pos} {ta tb : TE}
end
section
variable {X : Cx} {j k : Nat} {f C : Addr} {fd : FuncData} {ps : List Str} {sp : Sp} {dvs : List V} {ds : List Value} {x m : Str} {p pos apos : Pos} {e o : Expr} {es : List Expr} {ta : TE} {t : TA} {st : Stmt}
end
section
variable {X : Cx} {N F : List Str} {js : List Nat} {scope : Scope}
theorem G7v {pins : List (Addr × Obj)} {σ : St} {H : Hp} {s : Shared} {fp : List Addr} {h' : Heap} (S : CompScopeF N F js scope X.N X.env) (I : Inv X pins σ H s) (hf : ∀ b ∈ fp, A2w X pins H b) (hit : ∀ b ∈ fp, ∃ o, s.heap.get? b = some o) (hnb : ∀ b ∈ fp, X.base.get? b = none)
   (hns : h'.Ns s.heap.objs.size (fun _ => none)) (hsb : ∀ b o, s.heap.get? b = some o -> h'.get? b = some o) {tk : Nat} :
   Inv (X.compF scope N F s.heap.objs.size s H fp (X.pn ++ pins)) [] (List.replicate N.length none ++ A5e js σ) H { s with heap := h', toks := tk } := by
 have ck : ∀ c v, s.heap.IsCell c v -> h'.IsCell c v := fun c v ⟨o, e, d⟩ => ⟨o, hsb _ _ e, d⟩
 have inF : ∀ x, ((compEnvC scope (A2b F X.env) s.heap.objs.size X.env).kindOf x = some .cell \/ (compEnvC scope (A2b F X.env) s.heap.objs.size X.env).kindOf x = some .free) -> x ∈ F := by
   intro x z
   have z : (relabel scope X.env).names.lookup x = some .cell \/ (relabel scope X.env).names.lookup x = some .free := z
   rcases z with z | z
   . exact S.fr _ (PySem.mem_of_lookup z) (.inl rfl)
   . exact S.fr _ (PySem.mem_of_lookup z) (.inr rfl)
 refine ⟨⟨I.ok.mod, S.kind, I.ok.glob, I.ok.blt, Nat.le_refl _, fun x y c z z' => I.ok.inj x y c (S.sub x c z) (S.sub y c z'), fun x z => ?_, fun x c z _ => (nomatch z), I.ok.hd, I.ok.frames, .inl rfl, fun b hb => ?_, I.bs, Nat.le_trans I.ok.bsz I.sz, fun b o e hb => ?_, fun b hb hfs => ?_, I.stack, I.stkFree⟩,
   rfl, I.bare, Un.kept hsb, ⟨_, hns, fun i x v e1 e2 e3 => A7g S I (fun x c v _ z => ck c v z) i x v e1 e2⟩, fun x c z => ?_, I.hok.fresh (Nat.le_refl _), fun x c z => I.freeC x c (S.sub x c z), fun p hp => ?_, I.hok.kept hsb, C4e S σ⟩
 . obtain ⟨c, h1, _⟩ := S.has (inF x z)
   exact ⟨c, h1⟩
 . obtain ⟨oi, ei⟩ := hit b hb
   exact ⟨Nat.ne_of_lt (Heap.lt_size ei), fun x c z => (hf b hb).2.2.2.2.1 x c (S.sub x c z)⟩
 . rw [hnb b hb] at e
   cases e
 . rcases List.mem_cons.mp (I.stkSub b hfs) with z | z
   . exact (hf b hb).2.1 z
   . exact (hf b hb).2.2.1 z
 . obtain ⟨v, z'⟩ := I.cell x c (S.sub x c z)
   exact ⟨v, ck c v z'⟩
 . have hp' : p ∈ X.pn ++ pins := by simpa using hp
   obtain ⟨q1, q2, q3, q4, q5⟩ := I.pin p hp'
   refine ⟨hsb _ _ q1, q2, Nat.ne_of_lt (Heap.lt_size q1), fun z => ?_, q5⟩
   rcases List.mem_cons.mp (I.stkSub p.1 z) with z | z
   . exact q3 z
   . exact q4 z
theorem D3x {pins pl : List (Addr × Obj)} {σ σ' : St} {H H' : Hp} {s s' : Shared} {fp : List Addr} (S : CompScopeF N F js scope X.N X.env) (I : Inv X pins σ H s) (hf : ∀ b ∈ fp, A2w X pins H b) (J : Inv (X.compF scope N F s.heap.objs.size s H fp (X.pn ++ pins)) pl σ' H' s') :
   Inv (X.compF scope N F s.heap.objs.size s H fp (X.pn ++ pins)) [] (List.replicate N.length none ++ A5e js σ) H' s' := by
 obtain ⟨m, hn, _⟩ := J.loc
 refine ⟨J.ok, J.os, J.bare, J.base, ⟨m, hn, fun i x v e1 e2 e3 => A7g S I (fun x c v z q => ?_) i x v e1 e2⟩, J.cell, J.free, J.freeC, fun p hp => J.pin p (by
   have hp : p ∈ (X.pn ++ pins) ++ [] := hp
   rw [List.append_nil] at hp
   exact List.mem_append_left _ hp), J.hok, C4e S σ⟩
 obtain ⟨o, e, d⟩ := q
 have ne : c ∉ fp := fun w => (hf c w).2.2.2.2.1 x c z rfl
 obtain ⟨sl, q⟩ := J.base.any e (I.freeC x c z) ne
 exact ⟨_, q, d⟩
theorem D4g {elt target iter c : Expr} {scope : Scope} {pos : Pos} {N F : List Str} {js : List Nat} {wi : TI} {g : TG} {tc : TT} {te : TE} (S : CompScopeF N F js scope X.N X.env) (hd : A0y X) (hc0 : X.calm = true) (hi : PI X target iter wi) (hex : X.ex = [])
   (hg : ∀ C s₀ H₀ ex pn, A0y (X.compF scope N F C s₀ H₀ ex pn) -> PG (X.compF scope N F C s₀ H₀ ex pn) target g)
   (hc : ∀ C s₀ H₀ ex pn, A0y (X.compF scope N F C s₀ H₀ ex pn) -> PT (X.compF scope N F C s₀ H₀ ex pn) c tc)
   (he : ∀ C s₀ H₀ ex pn, A0y (X.compF scope N F C s₀ H₀ ex pn) -> PE (X.compF scope N F C s₀ H₀ ex pn) elt te)
   {pins : List (Addr × Obj)} {s : Shared} {σ : St} {H : Hp} {Q : VK} {RR : Value -> Env -> Result -> Shared -> Prop} (I : Inv X pins σ H s) (h : (A5f N.length js wi g tc te) σ H Q)
   (hRR : ∀ (D C : Addr) (s6 : Shared) (H5 : Hp) (mm : Str -> Option Value), Inv X pins σ H5 s6 -> s6.heap.Ns C mm -> A2w X pins H5 C -> Q (.ref D) H5 -> RR (.ref D) (compEnvC scope (A2b F X.env) C X.env) (.ok .next) s6) :
   wpAny (model X.prog X.w) X.A (eval iter X.env) (fun v s1 => wpAny (model X.prog X.w) X.A (pyIter v) (fun itv s2 => wpAny (model X.prog X.w) X.A (newList []) (fun acc s3 => wpAny (model X.prog X.w) X.A (newFunctionEnv scope X.env.globals (A2b F X.env) [] X.env.qual none .none (some X.env)) (fun cenv s4 =>
     codeAny (model X.prog X.w) X.A (.compStart (.ListComp elt [⟨target, iter, [c], 0⟩] scope pos) 0 itv acc { cenv with scope := relabel scope X.env }) (RR acc { cenv with scope := relabel scope X.env }) s4) X.xe s3) X.xe s2) X.xe s1) X.xe s := by
 refine thn (hi pins s σ H _ I h) fun v s1 h1 => thn h1 fun itv s2 h2 => ?_
 obtain ⟨it, fp, tn, J, H2, rfl, I2, T, st2, f2, R⟩ := h2
 have ob2 := T.obj _ _ st2
 have hf2 := I2.hok.fresh (Nat.le_refl _)
 refine wpAny_newObj_type ?_
 have I3 : Inv X pins σ (upd H2 s2.heap.objs.size (.lst [])) { s2 with heap := s2.heap.push { cls := .type "list", dict := none, data := .seq ([] : List Value).toArray } } := Inv.lnew (t' := s2.toks) I2 .nil (Nat.zero_le _)
 refine wpAny_newFunctionEnv S.cell (by intro y hy; simp at hy) (fun h4 hns hsb => ?_) S.kind
 dsimp only at hns hsb ⊢
 generalize hG : s2.heap.push { cls := .type "list", dict := none, data := .seq ([] : List Value).toArray } = G at I3 hns hsb ⊢
 generalize hD : s2.heap.objs.size = D at I3 hf2
 have nD : ∀ b ∈ fp, b ≠ D := fun b hb => by
   obtain ⟨o, eo, _⟩ := ob2 b hb
   rw [<- hD]; exact Nat.ne_of_lt (Heap.lt_size eo)
 have eiG : ∀ b ∈ fp, ∃ o, G.get? b = some o := fun b hb => by
   obtain ⟨o, eo, _⟩ := ob2 b hb
   exact ⟨o, by rw [<- hG]; exact Heap.get?_push_of_some _ eo⟩
 have kp : ∀ b o, G.get? b = some o -> h4.get? b = some o := fun b o e => hsb.extBut b o (Nat.ne_of_lt (Heap.lt_size e)) (Heap.get?_push_of_some _ e)
 have f3 : ∀ b ∈ fp, A2w X pins (upd H2 D (.lst [])) b := fun b hb => ⟨by rw [B3 (nD b hb)]; exact (f2 b hb).1, (f2 b hb).2⟩
 have nb : ∀ b ∈ fp, X.base.get? b = none := fun b hb => by
   cases q : X.base.get? b with
   | none => rfl
   | some o =>
     have := (I.ok.bs b o q).1
     rcases (f2 b hb).2.2.2.1 with z | z
     . rw [hex] at z; simp at z
     . exact absurd (Nat.lt_of_lt_of_le (Heap.lt_size this) z) (Nat.lt_irrefl _)
 have hns' : h4.Ns G.objs.size (fun _ => none) := by
   obtain ⟨o, es, ep, q1, q2, q3, q4⟩ := hns
   exact ⟨o, es, ep, q1, q2, q3, fun x => by rw [q4]; rfl⟩
 have I4 := G7v (tk := s2.toks + ([] : List (Str × Value)).length) S I3 f3 eiG nb hns' kp
 have hdc : A0y (X.compF scope N F G.objs.size { s2 with heap := G } (upd H2 D (.lst [])) fp (X.pn ++ pins)) := by
   rcases hd with z | ⟨x, o, u, vs, z, e, d, n⟩
   . exact .inl z
   . refine .inr ⟨x, o, u, vs, z, ?_, d, n⟩
     have q := I2.base.frzs x o u e
     show upd H2 D (.lst []) x = _
     rw [B3 fun w => by rw [w, hf2] at q; cases q]
     exact q
 obtain ⟨m, W, w0, turn⟩ := R D hf2
 have gg := hg _ _ _ _ _ hdc
 have cc := hc _ _ _ _ _ hdc
 have ee := he _ _ _ _ _ hdc
 have fpc : ∀ {H' : Hp} {σ' : St} {s' : Shared} {pl : List (Addr × Obj)}, Inv (X.compF scope N F G.objs.size { s2 with heap := G } (upd H2 D (.lst [])) fp (X.pn ++ pins)) pl σ' H' s' -> (∀ b ∈ fp, H' b = none) -> (∀ b ∈ fp, ∀ p ∈ pl, p.1 ≠ b) -> ∀ b ∈ fp, A2w (X.compF scope N F G.objs.size { s2 with heap := G } (upd H2 D (.lst [])) fp (X.pn ++ pins)) pl H' b := by
   intro H' σ' s' pl J' hn hp b hb
   obtain ⟨oi, ei⟩ := eiG b hb
   refine ⟨hn b hb, Nat.ne_of_lt (Heap.lt_size ei), ?_, .inl hb, (fun x c z => (f2 b hb).2.2.2.2.1 x c (S.sub x c z)), fun p hpp => ?_⟩
   . intro z
     rcases List.mem_cons.mp (I.stkSub b z) with z | z
     . exact (f2 b hb).2.1 z
     . exact (f2 b hb).2.2.1 z
   . rcases List.mem_append.mp hpp with z | z
     . exact (f2 b hb).2.2.2.2.2 p z
     . exact hp b hb p z
 have loop : codeAny (model X.prog X.w) X.A (.compLoop (.ListComp elt [⟨target, iter, [c], 0⟩] scope pos) 0 (.ref it) (.ref D) (compEnvC scope (A2b F X.env) G.objs.size X.env))
     (RR (.ref D) (compEnvC scope (A2b F X.env) G.objs.size X.env))
     { s2 with heap := h4, toks := s2.toks + ([] : List (Str × Value)).length } := by
   refine kct_loop (fun k s' => ∃ i ys H', k = m + 1 - i /\ Inv (X.compF scope N F G.objs.size { s2 with heap := G } (upd H2 D (.lst [])) fp (X.pn ++ pins)) [] (List.replicate N.length none ++ A5e js σ) H' s' /\ tn i s'.heap /\ (∀ b ∈ fp, H' b = none) /\ W i ys H') ?_ (m + 1)
     ⟨0, [], _, rfl, I4, T.keep _ _ _ st2 fun b hb o e => kp b o (by rw [<- hG]; exact Heap.get?_push_of_some _ e), fun b hb => (f3 b hb).1, w0⟩
   rintro k s5 ⟨i, ys, H5, rfl, I5, st5, n5, w5⟩
   obtain ⟨hi5, hD5, w5⟩ := turn i ys H5 w5
   rcases w5 with ⟨stop, q⟩ | ⟨lt5, go, step⟩
   . refine wpAny_mono (T.done (X.compF scope N F G.objs.size { s2 with heap := G } (upd H2 D (.lst [])) fp (X.pn ++ pins)) rfl rfl rfl hc0 i [] s5 _ H5 (fun _ _ => False) I5 (fpc I5 n5 (by simp)) st5 stop) (fun r s6 z => ?_) (fun _ _ z => z.elim)
     obtain ⟨rfl, I6⟩ := z
     obtain ⟨mm, hn6, _⟩ := I6.loc
     have B6 := I6.base
     have J6 : Inv X pins σ H5 s6 := by
       refine I3.call' (ch := fp) I6.os ⟨B6.keep, B6.slot, B6.free, B6.there, B6.tups, B6.frzs, B6.tbls⟩ I6.hok I6.bare (fun b hb => ⟨(f2 b hb).2.2.2.1, (f2 b hb).2.1, (f2 b hb).2.2.2.2.1, (f2 b hb).2.2.2.2.2⟩)
     have szG : X.s₀.heap.objs.size <= G.objs.size := I3.sz
     refine hRR D G.objs.size s6 H5 mm J6 hn6 ⟨I6.free, ?_, ?_, .inr szG, ?_, ?_⟩ q
     . exact Nat.ne_of_gt I3.lt
     . intro z
       obtain ⟨_, o, ho, _⟩ := I3.funs.mem z
       exact Nat.lt_irrefl _ (Heap.lt_size ho)
     . rintro x c z rfl
       obtain ⟨v', o, ho, _⟩ := I3.cell x _ z
       exact Nat.lt_irrefl _ (Heap.lt_size ho)
     . rintro p hp z
       have zz := (I3.pin p hp).1
       rw [z] at zz
       exact Nat.lt_irrefl _ (Heap.lt_size zz)
   . refine wpAny_mono (T.item (X.compF scope N F G.objs.size { s2 with heap := G } (upd H2 D (.lst [])) fp (X.pn ++ pins)) rfl rfl rfl hc0 i [] s5 _ H5 (fun _ _ => False) I5 (fpc I5 n5 (by simp)) st5 go) (fun r s6 z => ?_) (fun _ _ z => z.elim)
     obtain ⟨u, rfl, z⟩ := z
     refine wpAny_mono z (fun _ s7 z => ?_) (fun _ _ z => z.elim)
     obtain ⟨x, H7, I7, rx, yl, st7, fr7⟩ := z
     have ob7 := T.obj _ _ st7
     have I7' : Inv (X.compF scope N F G.objs.size { s2 with heap := G } (upd H2 D (.lst [])) fp (X.pn ++ pins)) (A2j fp s7.heap) (List.replicate N.length none ++ A5e js σ) H7 s7 := I7.pinned (fpc I7 fr7 (by simp)) ob7
     have back : ∀ {i' : Nat} {ys' : List V} {H' : Hp} {σ' : St} {s' : Shared}, i' = i + 1 -> Inv (X.compF scope N F G.objs.size { s2 with heap := G } (upd H2 D (.lst [])) fp (X.pn ++ pins)) (A2j fp s7.heap) σ' H' s' -> W i' ys' H' ->
         ∃ k', k' < m + 1 - i /\ ∃ i ys H', k' = m + 1 - i /\ Inv (X.compF scope N F G.objs.size { s2 with heap := G } (upd H2 D (.lst [])) fp (X.pn ++ pins)) [] (List.replicate N.length none ++ A5e js σ) H' s' /\ tn i s'.heap /\ (∀ b ∈ fp, H' b = none) /\ W i ys H' := by
       rintro i' ys' H' σ' s' rfl J' w'
       refine ⟨m + 1 - (i + 1), by omega, i + 1, ys', H', rfl, D3x S I3 f3 J', T.keep _ _ _ st7 fun b hb o z => (J'.pin (b, o) (List.mem_append_right _ (A3q hb z))).1, fun b hb => ?_, w'⟩
       obtain ⟨o, eo, _⟩ := ob7 b hb
       exact (J'.pin (b, o) (List.mem_append_right _ (A3q hb eo))).2.1
     refine wpAny_mono (gg (A2j fp s7.heap) s7 _ H7 x u _ I7' rx (step x H7 yl)) (fun _ s8 z => ?_) (fun _ _ z => z.elim)
     obtain ⟨σ8, H8, I8, q8⟩ := z
     refine wpAny_mono (cc (A2j fp s7.heap) s8 σ8 H8 _ I8 q8) (fun b s9 z => ?_) (fun _ _ z => z.elim)
     obtain ⟨H9, I9, q9⟩ := z
     cases b with
     | false =>
       simp only [Bool.false_eq_true, if_false] at q9 ⊢
       exact back rfl I9 q9
     | true =>
       simp only [if_true] at q9 ⊢
       refine wpAny_mono (ee (A2j fp s7.heap) s9 σ8 H9 _ I9 q9) (fun y s10 z => ?_) (fun _ _ z => z.elim)
       obtain ⟨yv, H10, I10, ry, hD10, hz10, w10⟩ := z
       refine wpAny_mono (B0r (X := X.compF scope N F G.objs.size { s2 with heap := G } (upd H2 D (.lst [])) fp (X.pn ++ pins)) (A2j fp s7.heap) s10 σ8 H10 (.ref D) [yv] (.ref D) [y] (fun _ H11 => W (i + 1) (ys ++ [yv]) H11) I10 rfl (.cons ry .nil) ⟨D, ys, yv, rfl, rfl, hD10, hz10, w10⟩) (fun _ s11 z => ?_) (fun _ _ z => z.elim)
       obtain ⟨_, H11, I11, _, w11⟩ := z
       exact back rfl I11 w11
 exact codeAny_compStart_list loop (T.self _ 0 _ _ _ (T.keep _ _ _ st2 fun b hb o e => kp b o (by rw [<- hG]; exact Heap.get?_push_of_some _ e)) loop)
theorem C9k {elt target iter : Expr} {c : Expr} {tc : TT} {pos : Pos} {wi : TI} {g : TG} {te : TE} (S : CompScopeF N F js scope X.N X.env) (hd : A0y X) (hc0 : X.calm = true) (hi : PI X target iter wi) (hex : X.ex = [])
   (hg : ∀ C s₀ H₀ ex pn, A0y (X.compF scope N F C s₀ H₀ ex pn) -> PG (X.compF scope N F C s₀ H₀ ex pn) target g)
   (hc : ∀ C s₀ H₀ ex pn, A0y (X.compF scope N F C s₀ H₀ ex pn) -> PT (X.compF scope N F C s₀ H₀ ex pn) c tc)
   (he : ∀ C s₀ H₀ ex pn, A0y (X.compF scope N F C s₀ H₀ ex pn) -> PE (X.compF scope N F C s₀ H₀ ex pn) elt te)
   (hs : ∀ x, foldedSetIterable iter X.env x = pure x := by intro _; rfl) : PE X (.ListComp elt [⟨target, iter, [c], 0⟩] scope pos) (A5f N.length js wi g tc te) := by
 intro pins s σ H Q I h
 rw [eval_ListComp]
 refine wpAny_comprehension_free (use := none) rfl hs S.clos S.kind S.loc (D4g S hd hc0 hi hex hg hc he I h (RR := fun acc ce r s' => compPost (model X.prog X.w) X.A X.xe none (EP X pins σ Q) acc ce.locals r s') ?_)
 intro D C s6 H5 mm I6 n6 f6 q
 exact ⟨mm, n6, fun h' sb => ⟨.ref D, H5, J2z I6 f6 sb, rfl, q⟩⟩
end
section
variable {X : Cx} {pins : List (Addr × Obj)} {σ : St} {H : Hp} {s : Shared} {h' : Heap}
end
section
variable {X : Cx} {es : List Expr} {k : Nat} {tp : Pos}
def Y5j (K : Frag) (te ts : TE) : TE := fun σ H Q => te σ H fun x H1 => ts σ H1 fun z H2 => z = .int (-1) /\ ∃ a xs, x = .ref a /\ SqL K H2 a xs /\ ∀ p, H2 p = none -> Q (.ref p) (upd H2 p (.lst xs.reverse))
theorem A8a {α β : Type} {f : α -> Option β} {g : α -> β} : ∀ l : List α, (∀ k ∈ l, f k = some (g k)) -> l.filterMap f = l.map g
 | [], _ => rfl
 | a :: l, h => by
   rw [List.filterMap_cons, h a (List.mem_cons_self ..)]
   show g a :: l.filterMap f = g a :: l.map g
   rw [A8a l fun k hk => h k (List.mem_cons_of_mem _ hk)]
theorem J5h (its : List Value) : slicePick its.toArray none none (some (-1)) = its.reverse.toArray := by
 unfold slicePick
 congr 1
 show (sliceRange ((its.toArray.size : Int) - 1) (-1) (-1)).filterMap (its.toArray[·]?) = its.reverse
 have e : sliceRange ((its.toArray.size : Int) - 1) (-1) (-1) = (List.range its.length).map fun k => its.length - 1 - k := by
   unfold sliceRange
   have c : (if (-1 : Int) > 0 then (if ((its.toArray.size : Int) - 1) < -1 then (-1 - ((its.toArray.size : Int) - 1) + -1 - 1) / -1 else 0) else (if ((its.toArray.size : Int) - 1) > -1 then (((its.toArray.size : Int) - 1) - -1 - -1 - 1) / (- -1) else 0)).toNat = its.length := by
     rw [if_neg (by decide), List.size_toArray]
     split
     . rw [show (- -1 : Int) = 1 by decide, Int.ediv_one]; omega
     . omega
   show (List.range (if (-1 : Int) > 0 then (if ((its.toArray.size : Int) - 1) < -1 then (-1 - ((its.toArray.size : Int) - 1) + -1 - 1) / -1 else 0) else (if ((its.toArray.size : Int) - 1) > -1 then (((its.toArray.size : Int) - 1) - -1 - -1 - 1) / (- -1) else 0)).toNat).map (fun k : Nat => (((its.toArray.size : Int) - 1) + (-1) * (k : Int)).toNat) = _
   rw [c]
   refine List.map_congr_left fun k hk => ?_
   have := List.mem_range.mp hk
   rw [List.size_toArray]
   omega
 rw [e]
 apply List.ext_getElem?
 intro i
 have fm : ((List.range its.length).map fun k => its.length - 1 - k).filterMap (its.toArray[·]?) = ((List.range its.length).map fun k => its.length - 1 - k).filterMap (its[·]?) := by simp
 rw [fm, List.filterMap_map]
 have g : (List.range its.length).filterMap ((its[·]?) ∘ fun k => its.length - 1 - k) = its.reverse := by
   have h1 : ∀ k ∈ List.range its.length, ((its[·]?) ∘ fun k => its.length - 1 - k) k = some (its.reverse[k]?.getD .none) := fun k hk => by
     have hk := List.mem_range.mp hk
     show its[its.length - 1 - k]? = _
     rw [List.getElem?_reverse hk, List.getElem?_eq_getElem (by omega)]
     rfl
   rw [A8a _ h1]
   apply List.ext_getElem?
   intro j
   rw [List.getElem?_map]
   by_cases hj : j < its.length
   . rw [List.getElem?_range hj]
     show some (its.reverse[j]?.getD .none) = its.reverse[j]?
     rw [List.getElem?_eq_getElem (by simpa using hj)]
     rfl
   . rw [List.getElem?_eq_none (by simpa using hj), List.getElem?_eq_none (by simpa using hj)]
     rfl
 rw [g]
theorem V6k {e st : Expr} {te ts : TE} {p2 pos : Pos} (he : PE X e te) (hst : PE X st ts) : PE X (.Subscript e (.Slice none none (some st) p2) pos) (Y5j X.K te ts) := by
 intro pins s σ H Q I h
 refine Subscript_ (thn (he pins s σ H _ I h) fun v s1 ⟨x, H1, I1, r1, q1⟩ => ?_)
 refine wpAny_Slice ?_
 rw [evalPart_none]
 refine wpAny_pure (wpAny_pure ?_)
 rw [evalPart_some]
 refine thn (hst pins s1 σ H1 _ I1 q1) fun vs s3 ⟨z, H3, I3, rz, q3⟩ => ?_
 obtain ⟨rfl, a, xs, rfl, hx, q⟩ := q3
 obtain ⟨t, rfl⟩ := rz
 cases r1
 have I4 : Inv X pins σ H3 { s3 with heap := s3.heap.push { cls := .type "slice", data := .fields #[.none, .none, .int (-1) t] } } := I3.kept (t' := s3.toks) fun b ob q => Heap.get?_push_of_some _ q
 obtain ⟨its, r, ht, hz⟩ := I4.list hx
 have hlen := r.length
 have hg : wpAny (model X.prog X.w) X.A (getItem (.ref a) (.ref s3.heap.objs.size)) (EP X pins σ Q) X.xe { s3 with heap := s3.heap.push { cls := .type "slice", data := .fields #[.none, .none, .int (-1) t] } } := by
   refine wpAny_getItem_list_slice ht.isList (Heap.IsSliceOf.new ..) .none .none (.int (-1) t) (by decide) ?_ (by rw [List.size_toArray] <;> omega)
   rw [J5h]
   refine ⟨.ref _, _, I4.laid (t' := s3.toks) (o := .lst xs.reverse) (fun b ob q => Heap.get?_push_of_some _ q) (Nat.le_refl _) ?_, rfl, q _ (I4.hok.fresh (Nat.le_refl _))⟩
   exact ⟨by rw [List.length_reverse]; exact hz, _, 0, r.reverse, Heap.get?_push_size _ rfl⟩
 show wpAny (model X.prog X.w) X.A (subscriptTail e (.Slice none none (some st) p2) (.ref a) (.ref s3.heap.objs.size)) (EP X pins σ Q) X.xe { s3 with heap := s3.heap.push { cls := .type "slice", data := .fields #[.none, .none, .int (-1) t] } }
 exact tail_any (ops := [.ref a, .ref s3.heap.objs.size]) ht.isList.typeIs slot_list_getitem.lookup hg (by with_unfolding_all rfl)
end
def Y1y (D : Addr) (H H' : Hp) : Prop := ∀ b o, H b = some o -> b ≠ D -> H' b = some o
theorem C9s {J : It} {g : TG} {tc : TT} {te : TE} {σ0 : St} {H1 : Hp} {QD : Addr -> Hp -> Prop} {n : Nat} (f : Nat -> Bool) (R : Nat -> V -> Hp -> Prop) (hn : n <= 1000)
   (mono : ∀ i y H' H'' D l, R i y H' -> H' D = some (.lst l) -> Y1y D H' H'' -> R i y H'')
   (step : ∀ (i : Nat) (H2 : Hp) (Qy : VK) (Qn : Hp -> Prop), i < n -> Same H1 H2 -> (f i = true -> ∀ y H6, Same H2 H6 -> R i y H6 -> Qy y H6) -> (f i = false -> ∀ H6, Same H2 H6 -> Qn H6) -> J.go i H2 /\ ∀ x H3, J.yld i H2 x H3 -> g x σ0 H3 fun σ4 H4 => tc σ4 H4 fun b H5 => if b = true then te σ4 H5 Qy else Qn H5)
   (stop : ∀ H2, Same H1 H2 -> J.stop n H2)
   (k : ∀ D H' ys, Same H1 H' -> H1 D = none -> H' D = some (.lst ys) -> ys.length = ((List.range n).filter f).length -> (∀ (j i : Nat) (y : V), ((List.range n).filter f)[j]? = some i -> ys[j]? = some y -> R i y H') -> QD D H') : ∀ D, H1 D = none ->
   ∃ (m : Nat) (W : Nat -> List V -> Hp -> Prop), W 0 [] (upd H1 D (.lst [])) /\ ∀ i ys H2, W i ys H2 -> i <= m /\ H2 D = some (.lst ys) /\ ((J.stop i H2 /\ QD D H2) \/ (i < m /\ J.go i H2 /\ ∀ x H3, J.yld i H2 x H3 ->
     g x σ0 H3 fun σ4 H4 => tc σ4 H4 fun b H5 => if b = true then te σ4 H5 fun y H6 => H6 D = some (.lst ys) /\ ys.length < sizeLine /\ W (i + 1) (ys ++ [y]) (upd H6 D (.lst (ys ++ [y]))) else W (i + 1) ys H5)) := by
 intro D hD
 refine ⟨n, fun i ys H2 => i <= n /\ ys.length = ((List.range i).filter f).length /\ H2 D = some (.lst ys) /\ Same H1 H2 /\ ∀ (j i' : Nat) (y : V), ((List.range i).filter f)[j]? = some i' -> ys[j]? = some y -> R i' y H2, ⟨Nat.zero_le _, rfl, A9, Same.upd hD, fun j i' y h => by simp at h⟩, ?_⟩
 rintro i ys H2 ⟨hi, hl, hd, sm, hR⟩
 refine ⟨hi, hd, ?_⟩
 by_cases hlt : i < n
 . have fl : ((List.range i).filter f).length <= i := Nat.le_trans (List.length_filter_le _ _) (by simp)
   refine .inr ⟨hlt, step i H2 _ _ hlt sm (fun hf y H6 s6 r6 => ?_) (fun hf H6 s6 => ?_)⟩
   . have d6 : H6 D = some (.lst ys) := s6 _ _ hd
     have ex : Y1y D H6 (upd H6 D (.lst (ys ++ [y]))) := fun b o e hb => by rw [B3 hb]; exact e
     have ef : (List.range (i + 1)).filter f = (List.range i).filter f ++ [i] := by rw [List.range_succ, List.filter_append, List.filter_cons, hf]; rfl
     refine ⟨d6, Nat.lt_of_le_of_lt (by omega : ys.length <= 1000) (G7 (Nat.le_refl _)), hlt, by rw [ef, List.length_append, List.length_append, hl]; rfl, A9, fun b o e => ?_, fun j i' z hi' hj => ?_⟩
     . rw [B3 (C6 e hD)]
       exact s6 _ _ (sm _ _ e)
     . rw [ef] at hi'
       by_cases hj' : j < ys.length
       . rw [List.getElem?_append_left hj'] at hj
         rw [List.getElem?_append_left (by omega)] at hi'
         exact mono i' z H6 _ D ys (mono i' z H2 H6 D ys (hR j i' z hi' hj) hd fun b o e _ => s6 _ _ e) d6 ex
       . rw [List.getElem?_append_right (by omega)] at hj
         rw [List.getElem?_append_right (by omega)] at hi'
         have e0 : j - ys.length = 0 := by
           apply Classical.byContradiction
           intro q
           rw [List.getElem?_eq_none (by simp; omega)] at hj
           cases hj
         rw [e0] at hj
         rw [<- hl, e0] at hi'
         cases hj
         cases hi'
         exact mono _ _ H6 _ D ys r6 d6 ex
   . have ef : (List.range (i + 1)).filter f = (List.range i).filter f := by rw [List.range_succ, List.filter_append, List.filter_cons, hf]; simp
     refine ⟨hlt, by rw [ef]; exact hl, s6 _ _ hd, sm.trans s6, fun j i' z hi' hj => ?_⟩
     rw [ef] at hi'
     exact mono i' z H2 H6 D ys (hR j i' z hi' hj) hd fun b o e _ => s6 _ _ e
 . have e : i = n := by omega
   subst e
   exact .inl ⟨stop H2 sm, k D H2 ys sm hD hd hl hR⟩
open AutoSeq1 (wpAny_loadPart')
section
variable {prog : Program} {w : World} {A : Around} {E : Value -> Shared -> Prop} {s : Shared}
end
section
variable {X : Cx} {es : List Expr} {k : Nat} {tp : Pos}
end
end L2
namespace L2
open PySem PySem.Spec PyProof.Rows PySem.W
section
variable {X : Cx}
theorem C3m : A2u X (.builtin "divmod") (fun xs H Q => ∃ i j : Int, xs = [.int i, .int j] /\ (0 < j /\ j.natAbs.log2 < 9000) /\ ∀ p, H p = none -> Q (.ref p) (upd H p (.tup [.int (i / j), .int (i % j)]))) := by
 intro pins s σ H xs us Q I r h
 obtain ⟨i, j, rfl, ⟨h1, h2⟩, q⟩ := h
 obtain ⟨u, w', rfl, ⟨t, rfl⟩, ⟨t', rfl⟩⟩ := J4v r
 refine divmod_int (by omega) ?_ (.inl (PyProof.noPylong_of_log2 h2))
 rw [Int.fdiv_eq_ediv_of_nonneg i (by omega), Int.fmod_eq_emod_of_nonneg i (by omega)]
 refine ⟨.ref s.heap.objs.size, upd H s.heap.objs.size (.tup [.int (i / j), .int (i % j)]), I.laid (fun b o e => Heap.get?_push_of_some _ e) (Nat.le_refl _) ⟨D5 (by show 2 <= 1000; decide), [.int (i / j) s.toks, .int (i % j) (s.toks + 1)], .cons ⟨_, rfl⟩ (.cons ⟨_, rfl⟩ .nil), ⟨_, Heap.get?_push_size s.heap rfl, rfl, 0, rfl⟩⟩, rfl, q _ (I.hok.fresh (Nat.le_refl _))⟩
end
end L2
namespace L2
open PySem PySem.W PyProof.Rows
section
variable {X : Cx} {o e : Expr} {ta : TE} {m : Str} {apos pos : Pos} {j k : Nat} {ps : List Str} {ι : Type} {cw f : ι -> Addr} {fd : ι -> FuncData} {sp : ι -> Sp} {EH : EK}
end
section
variable {X : Cx} {a b e o : Expr} {es : List Expr} {ta tb te to : TE} {t : TA} {pos : Pos} {st : Stmt} {rest : List Stmt} {ts u : TS}
end
end L2
namespace L2
open PySem PySem.Spec PyProof.Rows PySem.W
section
variable {X : Cx} {x f : Str} {p cpos pos : Pos} {e : Expr} {t : TA} {C fI : Addr} {fdI : FuncData} {ps : List Str} {j k : Nat}
end
theorem J4e {K : Frag} {H : Hp} {σ σf : L2.St} {a : Addr} {zs : List Str} {f : Str -> Bool} {tc : TT} {te : TE} {Q : VK} (hl : SqL K H a (zs.map V.str)) (hz : zs.length <= 100)
   (ht : ∀ (z : Str) (H' : Hp) (Qb : Bool -> Hp -> Prop), Same H H' -> Qb (f z) H' -> tc (some (.str z) :: σf) H' Qb) (he : ∀ (z : Str) (H' : Hp) (Qv : VK), Qv (.str z) H' -> te (some (.str z) :: σf) H' Qv)
   (k : ∀ D H', Same H H' -> H D = none -> H' D = some (.lst ((zs.filter f).map V.str)) -> Q (.ref D) H') {js : List Nat} (hj : A5e js σ = σf) : A5f 1 js (G4y K (tC (.ref a))) (C2j 0) tc te σ H Q := by
 refine ⟨a, rfl, ⟨_, hl⟩, fun D hD => ⟨zs.length, fun i ys H2 => i <= zs.length /\ ys = ((zs.take i).filter f).map V.str /\ H2 = upd H D (.lst ys), ⟨Nat.zero_le _, rfl, rfl⟩, ?_⟩⟩
 rintro i ys H2 ⟨hi, rfl, rfl⟩
 refine ⟨hi, A9, ?_⟩
 have sm : Same H (upd H D (.lst (((zs.take i).filter f).map V.str))) := Same.upd hD
 have lz : (((zs.take i).filter f).map V.str).length <= 100 := by
   rw [List.length_map]
   exact Nat.le_trans (List.length_filter_le _ _) (by rw [List.length_take]; omega)
 by_cases hlt : i < zs.length
 . refine .inr ⟨hlt, ⟨_, V.str zs[i], sm.seq hl, by simp [hlt]⟩, fun x H3 y => ?_⟩
   obtain ⟨rfl, y⟩ := y
   have ex : x = V.str zs[i] := by
     have := y _ (sm.seq hl)
     simp [hlt] at this
     exact this.symm
   subst ex
   rw [hj]
   show tc (some (.str zs[i]) :: σf) _ _
   refine ht _ _ _ sm ?_
   have et : (zs.take (i + 1)).filter f = (zs.take i).filter f ++ (if f zs[i] then [zs[i]] else []) := by
     rw [List.take_succ_eq_append_getElem hlt, List.filter_append]
     congr 1
     cases hb : f zs[i] <;> simp [hb]
   cases hb : f zs[i] with
   | false =>
     refine Z2 ⟨hlt, ?_, rfl⟩
     rw [et, hb]; simp
   | true =>
     refine A1n (he _ _ _ ⟨A9, Nat.lt_of_le_of_lt lz (G7 (by decide)), hlt, ?_, ?_⟩)
     . rw [et, hb]; simp
     . rw [G3y]
 . have e : i = zs.length := by omega
   subst e
   refine .inl ⟨⟨_, sm.seq hl, by simp⟩, k D _ sm hD ?_⟩
   rw [List.take_length]
   exact A9
section
variable {X : Cx} {x y : Str} {e : Expr} {t : TE} {p q : Pos} {pos pos2 : Pos}
end
end L2
namespace L2
open PySem PySem.Spec PyProof.Rows
structure FnOkG (P : Program) (w : World) (K : PySem.W.Frag) (mg : Str -> Option Value) (base : Heap) (CX : CXT) (k : Nat) (f : Addr) (fd : FuncData) (ps : List Str) (sp : Sp) : Prop where
 len : ∀ vs H Q E, sp vs H Q E -> vs.length = ps.length
 run : ∀ (A : Around) (outer : List Env) (s : Shared) (H : Hp) (args : Args) (us : List Value) (vs : List V) (Q : VK) (E : XK), A.guards = some [] -> Room k A -> Env0 P w K mg base A outer s H -> BindsTo s fd args (ps.zip us) -> Vals vs us -> sp vs H Q E -> codeAny (model P w) A (Code.call (Value.ref f) args) (CR CX outer P w H s Q E) s
theorem J5c {CX : CXT} {P : Program} {w : World} {K : PySem.W.Frag} {mg : Str -> Option Value} {base : Heap} {k : Nat} {f : Addr} {name qual : Str} {params : Arguments} {body : List Stmt} {scope : Scope} {dV kV doc pm cdv ct oc : Value} {an od : Option Addr}
   {osl : Array (Option Value)} {N ps : List Str} {sp : Sp} (lk : K.lookup f = some ⟨oc, od, .func (PySem.W.fnOf name qual params body scope dV kV doc pm an cdv ct), osl⟩) (hcd : PySem.W.codeIn K cdv qual = true) (S : FnScope N ps scope)
   (len : ∀ vs H Q E, sp vs H Q E -> vs.length = ps.length)
   (hbody : ∀ (A : Around) (outer : List Env) (s : Shared) (H : Hp) (vs : List V) (Q : VK) (E : XK), A.guards = some [] -> Room k (A.deeper (envOfC qual scope s.heap.objs.size f cdv)) -> sp vs H Q E ->
     ∃ t, PSs (Z8 CX P w K mg base N qual scope f cdv A outer s H E) body t /\ t { nx := fun _ H' => Q .non H', rt := Q } (A1x N vs) H) :
   FnOkG P w K mg base CX (k + 1) f (PySem.W.fnOf name qual params body scope dV kV doc pm an cdv ct) ps sp := by
 refine ⟨len, fun A outer s H args us vs Q E hgd hr e0 hb r hsp => ?_⟩
 have hl := len _ _ _ _ hsp
 have KX : K.In s.heap := e0.mod.kin.keeps fun b o e => (e0.bs b o e).1
 have lim : s.heap.NoLimit := e0.mod.nolimit.keeps fun b o e => (e0.bs b o e).1
 have hkind : ∀ y ∈ ps.zip us, scope.names.lookup y.1 = some .local \/ (scope.names.lookup y.1 = some .cell /\ ((cellsFrom (s.heap.objs.size + 1) scope.names []).lookup y.1).isSome = true) := fun ⟨n, v⟩ hy => by
   rcases S.par n (List.of_mem_zip hy).1 with q | q
   . exact .inl q
   . exact .inr ⟨q, PySem.W.cellsFrom_some _ _ _ (.inl q)⟩
 refine codeAny_call_function hr.depth (KX _ _ lk) rfl S.co S.gen rfl (PySem.W.codeRec_of KX hcd) (hb _ _ _ _ ?_)
 refine wpAny_newFunctionEnv_cells S.kind hkind fun env he s1 x => ?_
 subst he
 refine ⟨lim.keeps x.toInCall.keep, codeAny_func ?_⟩
 obtain ⟨t, ht, hq⟩ := hbody A outer s H vs Q E hgd (hr.deeper _) hsp
 have I : Inv (Z8 CX P w K mg base N qual scope f cdv A outer s H E) [] (A1x N vs) H s1 := C1v S hr.hd e0 hl r x
 refine wpAny_mono (ht [] s1 (A1x N vs) H _ I hq) (fun fl s' hs => ?_) fun e s' hs => hs
 have fin : ∀ {σ' : St} {H' : Hp} {v : V} {u : Value}, Inv (Z8 CX P w K mg base N qual scope f cdv A outer s H E) [] σ' H' s' -> RelV v u -> Q v H' -> CE outer P w H s Q u s' :=
   fun {σ' H' v u} J rv q => ⟨v, H', J.os, J.bare, J.base, J.hok, rv, q⟩
 cases fl with
 | ret u =>
   obtain ⟨v, σ', H', J, rv, q⟩ := hs
   exact fin J rv q
 | next =>
   obtain ⟨σ', H', J, q⟩ := hs
   exact fin (v := V.non) (u := Value.none) J rfl q
 | brk =>
   obtain ⟨_, _, _, q⟩ := hs
   exact False.elim q
 | cont =>
   obtain ⟨_, _, _, q⟩ := hs
   exact False.elim q
open PySem.W in
theorem Fun.okEG {P : Program} {w : World} {K : Frag} {mg : Str -> Option Value} {base : Heap} {x qual : Str} {st : Stmt} {f : Addr} {fd : FuncData} {N ps : List Str} {k : Nat} {sp : Sp} (F : Fun K x qual st f fd) (S : FnScope N ps (A3 st)) (len : ∀ vs H Q E, sp vs H Q E -> vs.length = ps.length)
   (hbody : ∀ (X : Cx) (cdv : Value) (A : Around) (outer : List Env) (s : Shared) (H : Hp) (vs : List V) (Q : VK) (E : XK), X = Z8 (CX1 P w) P w K mg base N qual (A3 st) f cdv A outer s H E -> X.A.guards = some [] -> Room k X.A -> D8 X (fun C dd _ H' => E C dd H') -> sp vs H Q E ->
     ∃ t, PSs (Z8 (CX1 P w) P w K mg base N qual (A3 st) f cdv A outer s H E) (B4 st) t /\ t { nx := fun _ H' => Q .non H', rt := Q } (A1x N vs) H) : FnOkG P w K mg base (CX1 P w) (k + 1) f fd ps sp := by
 obtain ⟨oc, od, kV, doc, pm, an, cdv, ct, osl, rfl, lk, hc⟩ := F.ex
 exact J5c lk hc S len fun A outer s H vs Q E hg hr h => hbody _ cdv A outer s H vs Q E rfl hg hr A3t h
end L2
namespace L2
open PySem PySem.Spec PyProof.Rows PySem.W
mutual
inductive RdR (H : Hp) : V -> PyData -> Prop where
 | non : RdR H .non .none
 | bl (b : Bool) : RdR H (.bl b) (.bool b)
 | int (i : Int) : RdR H (.int i) (.int i)
 | str (x : Str) : RdR H (.str x) (.str x)
 | tup {a : Addr} {xs : List V} {ds : List PyData} (h : H a = some (.tup xs)) (r : RdRs H xs ds) : RdR H (.ref a) (.tuple ds)
 | lst {a : Addr} {xs : List V} {ds : List PyData} (h : H a = some (.lst xs)) (n : a ≠ sysModules) (r : RdRs H xs ds) : RdR H (.ref a) (.list ds)
 | dct0 {a : Addr} (h : H a = some (.dK [])) : RdR H (.ref a) (.dict [])
 | dct1 {a : Addr} {z : Str} {b : Bool} (h : H a = some (.dK [(.inr z, .bl b)])) : RdR H (.ref a) (.dict [(.str z, .bool b)])
inductive RdRs (H : Hp) : List V -> List PyData -> Prop where
 | nil : RdRs H [] []
 | cons {x : V} {xs : List V} {d : PyData} {ds : List PyData} (h : RdR H x d) (r : RdRs H xs ds) : RdRs H (x :: xs) (d :: ds)
end
mutual
theorem RdR.same {H H' : Hp} (s : ∀ b o, H b = some o -> H' b = some o) : ∀ {x : V} {d : PyData}, RdR H x d -> RdR H' x d
 | _, _, .non => .non
 | _, _, .bl b => .bl b
 | _, _, .int i => .int i
 | _, _, .str x => .str x
 | _, _, .tup h r => .tup (s _ _ h) (RdRs.same s r)
 | _, _, .lst h n r => .lst (s _ _ h) n (RdRs.same s r)
 | _, _, .dct0 h => .dct0 (s _ _ h)
 | _, _, .dct1 h => .dct1 (s _ _ h)
theorem RdRs.same {H H' : Hp} (s : ∀ b o, H b = some o -> H' b = some o) : ∀ {x : List V} {d : List PyData}, RdRs H x d -> RdRs H' x d
 | _, _, .nil => .nil
 | _, _, .cons h r => .cons (RdR.same s h) (RdRs.same s r)
end
section
variable {X : Cx}
mutual
theorem RdR.reads {pins : List (Addr × Obj)} {σ : St} {H : Hp} {s : Shared} (I : Inv X pins σ H s) : ∀ {x : V} {d : PyData} {u : Value}, RdR H x d -> RelV x u -> ∃ as, Reads s.heap u d as /\ sysModules ∉ as
 | _, _, _, .non, r => by cases r; exact ⟨_, .none, by simp⟩
 | _, _, _, .bl b, r => by cases r; exact ⟨_, .bool b, by simp⟩
 | _, _, _, .int i, r => by obtain ⟨t, rfl⟩ := r; exact ⟨_, .int i t, by simp⟩
 | _, _, _, .str x, r => by obtain ⟨t, rfl⟩ := r; exact ⟨_, .str x t, by simp⟩
 | _, _, _, .tup h q, r => by
   cases r
   obtain ⟨_, its, rv, o, e, c, n, d⟩ := I.hok _ _ h
   obtain ⟨as, z, y⟩ := RdRs.reads I q rv
   exact ⟨_, .tuple e c d (by simpa using z), y⟩
 | _, _, _, .lst (a := a) h nn q, r => by
   cases r
   obtain ⟨_, its, n, rv, e⟩ := I.hok _ _ h
   obtain ⟨as, z, y⟩ := RdRs.reads I q rv
   refine ⟨_, .list e rfl rfl (by simpa using z), fun hm => ?_⟩
   rcases List.mem_cons.mp hm with hm | hm
   . exact nn hm.symm
   . exact y hm
 | _, _, _, .dct0 (a := a) h, r => by
   cases r
   obtain ⟨_, nS, vs, kv, o, es, ep, e, c, d, _, ps, _⟩ := I.hok _ _ h
   cases kv
   cases hp : es.toList with
   | cons _ _ => rw [hp] at ps; cases ps
   | nil =>
     refine ⟨_, .dict (kvs := []) e c.1 d (by rw [hp]; exact .nil) (by rw [hp]; exact .nil), fun hm => ?_⟩
     exact beq_eq_false_iff_ne.mp nS (by simpa using hm : sysModules = a).symm
 | _, _, _, .dct1 (a := a) (z := z) (b := b) h, r => by
   cases r
   obtain ⟨_, nS, vs, kv, o, es, ep, e, c, d, _, ps, _⟩ := I.hok _ _ h
   cases kv with
   | cons k1 k2 =>
     cases k2
     obtain ⟨k1a, k1b⟩ := k1
     cases ps' : es.toList with
     | nil => rw [ps'] at ps; cases ps
     | cons en rest =>
       rw [ps'] at ps
       cases ps with
       | cons p1 p2 p3 =>
         cases p3
         have hk : ∃ t, en.key = .str z t := by
           rw [<- k1a] at p1
           have p1 : Value.isStrOf z en.key = true := p1
           cases hk : en.key <;> rw [hk] at p1 <;> simp [Value.isStrOf] at p1
           subst p1
           exact ⟨_, rfl⟩
         obtain ⟨t, hk⟩ := hk
         have hv : en.val = .bool b := p2.trans k1b
         refine ⟨_, .dict (kvs := [(.str z, .bool b)]) e c.1 d (by rw [ps']; show ReadsAll s.heap [en.key] [.str z] _; rw [hk]; exact .cons (.str z t) .nil) (by rw [ps']; show ReadsAll s.heap [en.val] [.bool b] _; rw [hv]; exact .cons (.bool b) .nil), fun hm => ?_⟩
         exact beq_eq_false_iff_ne.mp nS (by simpa using hm : sysModules = a).symm
theorem RdRs.reads {pins : List (Addr × Obj)} {σ : St} {H : Hp} {s : Shared} (I : Inv X pins σ H s) : ∀ {xs : List V} {ds : List PyData} {us : List Value}, RdRs H xs ds -> Vals xs us -> ∃ as, ReadsAll s.heap us ds as /\ sysModules ∉ as
 | _, _, _, .nil, r => by cases r; exact ⟨_, .nil, by simp⟩
 | _, _, _, .cons h q, r => by
   cases r with
   | cons r1 r2 =>
     obtain ⟨as, z, n1⟩ := RdR.reads I h r1
     obtain ⟨bs, y, n2⟩ := RdRs.reads I q r2
     exact ⟨_, .cons z y, by simp [n1, n2]⟩
end
def A4d (d : PyData) : Prop := d.showable = true /\ d.depth <= 10 /\ d.shown.length <= sizeLine
end
section
variable {X : Cx} {j k : Nat} {f C : Addr} {fd : FuncData} {ps : List Str} {sp : Sp} {dvs : List V} {ds : List Value} {x m : Str} {p pos apos : Pos} {e o : Expr} {es : List Expr} {ta : TE} {t : TA} {st : Stmt}
end
structure LamB (mg : Str -> Option Value) (base : Heap) (c P : Addr) : Prop where
 code : CodeHd base c P
 bm : ∃ bm ob, mg "__builtins__" = some (.ref bm) /\ bm ≠ builtinsNs /\ bm ≠ mainGlobals /\ base.get? bm = some ob /\ ob.cls = .type "module" /\ ob.dict = some builtinsNs /\ ob.data = .plain
def V4g (oc : Obj) (qual : Str) : Prop := ∃ vs t, oc.data = .fields vs /\ vs[1]? = some (.str qual t)
def TabOk (P : Addr) (pos : Pos) (qual : Str) (H : Hp) : Prop := ∃ ps, H P = some (.tbl ps) /\ TriplesOk ps.toList /\ (codeAmong pos ps.toList = none \/ ∃ c' oc, codeAmong pos ps.toList = some (.ref c') /\ H c' = some (.frz oc (.own c')) /\ V4g oc qual)
def LamAt (H : Hp) (f : Addr) (qual : Str) (params : Arguments) (body : Expr) (scope : Scope) (clos : List (Str × Addr)) : Prop :=
 ∃ pm c' ctv oc, H f = some (.frz (kla_obj "<lambda>" qual params body scope clos pm c' ctv) (.own f)) /\ H c' = some (.frz oc (.own c')) /\ V4g oc qual
def SameT (P : Addr) (H H' : Hp) : Prop := ∀ b o, b ≠ P -> H b = some o -> H' b = some o
def Y5v (P : Addr) (pos : Pos) (qual : Str) (params : Arguments) (body : Expr) (scope : Scope) (clos : List (Str × Addr)) : TE := fun _ H Q => TabOk P pos qual H /\ ∀ f H', SameT P H H' -> H f = none -> LamAt H' f qual params body scope clos -> TabOk P pos qual H' -> (∀ pos' q', (pos'.line ≠ pos.line \/ pos'.col ≠ pos.col) -> TabOk P pos' q' H -> TabOk P pos' q' H') -> Q (.ref f) H'
theorem A9y {a b c : Value} {n m : Int} {t u : Tok} : ∀ l : List Value, TriplesOk l -> TriplesOk (l ++ [.int n t, .int m u, c]) := by
 intro l h
 fun_induction TriplesOk l with
 | case1 => exact True.intro
 | case2 _ _ _ _ _ rest ih => exact ih h
 | case3 => exact h.elim
theorem D4s {pos pos' : Pos} {c : Value} (hp : pos'.line ≠ pos.line \/ pos'.col ≠ pos.col) : ∀ l : List Value, TriplesOk l -> codeAmong pos' (l ++ [rawInt pos.line, rawInt pos.col, c]) = codeAmong pos' l := by
 intro l h
 fun_induction TriplesOk l with
 | case1 =>
   have : ¬ (((pos.line : Int) == (pos'.line : Int) && (pos.col : Int) == (pos'.col : Int)) = true) := by
     intro z
     simp only [Bool.and_eq_true, beq_iff_eq] at z
     omega
   show (if ((pos.line : Int) == (pos'.line : Int) && (pos.col : Int) == (pos'.col : Int)) = true then some c else codeAmong pos' []) = none
   rw [if_neg this]
   rfl
 | case2 a t b u x rest ih =>
   show (if _ then _ else codeAmong pos' (rest ++ _)) = (if _ then _ else codeAmong pos' rest)
   rw [ih h]
 | case3 => exact h.elim
theorem G8b {X : Cx} {c P : Addr} {params : Arguments} {body : Expr} {scope : Scope} {pos : Pos} {clos : List (Str × Addr)} (L : LamB X.mg X.base c P) (hc : X.env.code = .ref c) (hcl : closureFor scope X.env = pure clos) (hex : X.ex = [] := by rfl) (hdef : defaultsOf params X.env = ([], []) := by rfl) :
   PE X (.Lambda params body scope pos) (Y5v P pos (X.env.qual ++ "<lambda>") params body scope clos) := by
 intro pins s σ H Q I ⟨⟨ps, hP, ht, hcase⟩, k⟩
 obtain ⟨bm, ob, b1, b2, b3, b4, b5, b6, b7⟩ := L.bm
 have hg : s.heap.Ns mainGlobals X.mg := I.ok.mod.glob.keeps I.bk
 have hPo : s.heap.get? P = some (tabObj ps) := I.hok P _ hP
 have nP : ∀ b o, X.base.get? b = some o -> b ≠ P := fun b o e z => by
   have := (I.bs b o e).2
   rw [z, hP] at this
   cases this
 have hgP : mainGlobals ≠ P := by
   obtain ⟨o, _, _, e, _⟩ := I.ok.mod.glob
   exact nP _ _ e
 refine kla_eval hdef ?_
 rcases hcase with hnf | ⟨c', oc, hf, hc', ho⟩
 . refine kla_makeFunction hcl I.ok.glob hg hc (L.code.keeps I.bk) hPo ht hnf hgP ⟨bm, ob, b1, b2, b3, nP _ _ b4, I.bk _ _ b4, b5, b6, b7⟩ fun c' ctv h' tk hx hge hlt hrec htb => ?_
   obtain ⟨c2, oc, vs, t, e2, hoc, hd, hv⟩ := hrec
   cases e2
   generalize hfo : kla_obj "<lambda>" (X.env.qual ++ "<lambda>") params body scope clos ((X.mg "__name__").getD .none) c' ctv = fo
   have kx : ∀ b o, b ≠ P -> s.heap.get? b = some o -> (h'.push fo).get? b = some o := fun b o hb e => Heap.get?_push_of_some _ (hx b o hb e)
   have fP : ∀ b, H b = none -> b ≠ P := fun b n z => by rw [z, hP] at n; cases n
   have I1 : Inv X pins σ (upd H P (.tbl (ps ++ #[rawInt pos.line, rawInt pos.col, .ref c']))) { s with heap := h'.push fo, toks := tk } := by
     refine I.un ⟨fun b o e n _ _ => kx b o (fP b n) e, fun b o e n _ _ => ⟨o.slots, kx b o (fP b n) e⟩, fun b o e n _ => by rw [B3 (fP b n)]; exact n, fun b o e _ => ?_, fun b xs e => ?_, fun b o u e => ?_, fun b qs e => ?_⟩ fun b u e => ?_
     . by_cases hb : b = P
       . exact ⟨_, by rw [hb]; exact Heap.get?_push_of_some _ htb⟩
       . exact ⟨o, kx b o hb e⟩
     . rw [B3 (by rintro rfl; rw [hP] at e; cases e)]; exact e
     . rw [B3 (by rintro rfl; rw [hP] at e; cases e)]; exact e
     . by_cases hb : b = P
       . subst hb
         rw [hP] at e
         cases e
         exact ⟨_, A9⟩
       . exact ⟨#[], by rw [B3 hb, e]; simp⟩
     . by_cases hb : b = P
       . subst hb
         rw [A9] at e
         cases e
         exact Heap.get?_push_of_some _ htb
       . rw [B3 hb] at e
         refine (I.hok b u e).stay (fun d v hd q => kx d v ?_ q) (fun d q => ?_) fun d xs q => ?_
         . rcases hd with rfl | hd
           . exact hb
           . rintro rfl
             rw [hP] at hd
             cases hd
         . rw [B3 (by rintro rfl; rw [hP] at q; cases q)]; exact q
         . rw [B3 (by rintro rfl; rw [hP] at q; cases q)]; exact q
   have nc : s.heap.get? c' = none := Heap.get?_none_of_le hge
   have nf : s.heap.get? h'.objs.size = none := Heap.get?_none_of_le (Nat.le_trans hge (Nat.le_of_lt hlt))
   have uc : H c' = none := I.hok.new nc
   have uf : H h'.objs.size = none := I.hok.new nf
   have cP : c' ≠ P := fP c' uc
   have fP' : h'.objs.size ≠ P := fP _ uf
   have cf : c' ≠ h'.objs.size := Nat.ne_of_lt hlt
   have I2 := I1.track (a := c') (o := oc) (I.nw hex nc (by rw [B3 cP]; exact uc)) (Heap.get?_push_of_some _ hoc)
   have I3 := I2.track (a := h'.objs.size) (o := fo) (I.nw hex nf (by rw [B3 cf.symm, B3 fP']; exact uf)) (Heap.get?_push_size _ (by rw [<- hfo]; rfl))
   refine ⟨.ref h'.objs.size, _, I3, rfl, k _ _ (fun b o hb e => ?_) uf ⟨_, c', ctv, oc, by rw [A9, hfo], by rw [B3 cf, A9], vs, t, hd, hv⟩ ⟨ps ++ #[rawInt pos.line, rawInt pos.col, .ref c'], by rw [B3 fP'.symm, B3 cP.symm, A9], ?_, .inr ⟨c', oc, ?_, by rw [B3 cf, A9], vs, t, hd, hv⟩⟩ fun pos' q' hp ⟨ps2, z1, z2, z3⟩ => ⟨ps ++ #[rawInt pos.line, rawInt pos.col, .ref c'], by rw [B3 fP'.symm, B3 cP.symm, A9], ?_, ?_⟩⟩
   . rw [B3 (by rintro rfl; rw [uf] at e; cases e), B3 (by rintro rfl; rw [uc] at e; cases e), B3 hb]; exact e
   . rw [Array.toList_append]
     exact A9y (a := .none) (b := .none) _ ht
   . rw [Array.toList_append]
     exact codeAmong_snoc _ ht hnf
   . rw [Array.toList_append]
     exact A9y (a := .none) (b := .none) _ ht
   . rw [hP] at z1
     cases z1
     rw [Array.toList_append]
     have e : codeAmong pos' (ps.toList ++ [rawInt pos.line, rawInt pos.col, Value.ref c']) = codeAmong pos' ps.toList := D4s hp _ ht
     rcases z3 with z3 | ⟨c2, oc2, z4, z5, z6⟩
     . exact .inl (e.trans z3)
     . exact .inr ⟨c2, oc2, e.trans z4, by rw [B3 (by rintro rfl; rw [uf] at z5; cases z5), B3 (by rintro rfl; rw [uc] at z5; cases z5), B3 (by rintro rfl; rw [hP] at z5; cases z5)]; exact z5, z6⟩
 . refine kla_makeFunctionHit hcl I.ok.glob hg hc (L.code.keeps I.bk) hPo ht hf ⟨bm, ob, b1, b2, b3, nP _ _ b4, I.bk _ _ b4, b5, b6, b7⟩ fun ctv h' tk hk hsz => ?_
   generalize hfo : kla_obj "<lambda>" (X.env.qual ++ "<lambda>") params body scope clos ((X.mg "__name__").getD .none) c' ctv = fo
   have nf : s.heap.get? h'.objs.size = none := Heap.get?_none_of_le hsz
   have uf : H h'.objs.size = none := I.hok.new nf
   have I1 : Inv X pins σ H { s with heap := h'.push fo, toks := tk } := I.kept fun b o e => Heap.get?_push_of_some _ (hk b o e)
   have I3 := I1.track (a := h'.objs.size) (o := fo) (I.nw hex nf uf) (Heap.get?_push_size _ (by rw [<- hfo]; rfl))
   have ne : ∀ b o, H b = some o -> b ≠ h'.objs.size := fun b o e z => by rw [z, uf] at e; cases e
   show ∃ v H', Inv X pins σ H' { s with heap := h'.push (kla_obj "<lambda>" (X.env.qual ++ "<lambda>") params body scope clos ((X.mg "__name__").getD .none) c' ctv), toks := tk } /\ RelV v (.ref h'.objs.size) /\ Q v H'
   rw [hfo]
   refine ⟨.ref h'.objs.size, upd H h'.objs.size (.frz fo (.own h'.objs.size)), I3, rfl, k _ _ (fun b o hb e => by rw [B3 (ne b o e)]; exact e) uf ⟨_, c', ctv, oc, by rw [A9, hfo], by rw [B3 (ne _ _ hc')]; exact hc', ho⟩ ⟨ps, by rw [B3 (ne _ _ hP)]; exact hP, ht, .inr ⟨c', oc, hf, by rw [B3 (ne _ _ hc')]; exact hc', ho⟩⟩ fun pos' q' hp ⟨ps2, z1, z2, z3⟩ => ⟨ps2, by rw [B3 (ne _ _ z1)]; exact z1, z2, z3.imp id fun ⟨c2, oc2, z4, z5, z6⟩ => ⟨c2, oc2, z4, by rw [B3 (ne _ _ z5)]; exact z5, z6⟩⟩⟩
def U1 (cs : List Addr) (H : Hp) : Hp := fun b => if b ∈ cs then none else H b
def Z3 (cs : List Addr) (H H' : Hp) : Hp := fun b => if b ∈ cs then H b else H' b
section
variable {cs : List Addr} {H H' H2 : Hp} {b : Addr} {P : Program} {w : World} {h h' : Heap} {fs : List Addr}
theorem A9w (hb : b ∈ cs) : U1 cs H b = none := by unfold U1; rw [if_pos hb]
theorem V8 (hb : b ∉ cs) : U1 cs H b = H b := by unfold U1; rw [if_neg hb]
theorem A7c (n : H b = none) : U1 cs H b = none := by
 unfold U1
 split
 . rfl
 . exact n
theorem C4m (hb : b ∈ cs) : Z3 cs H H' b = H b := by unfold Z3; rw [if_pos hb]
theorem V4 (hb : b ∉ cs) : Z3 cs H H' b = H' b := by unfold Z3; rw [if_neg hb]
def AllFrz (cs : List Addr) (H : Hp) : Prop := ∀ c ∈ cs, ∃ o, H c = some (.frz o (.own c))
theorem AllFrz.out {u : HO} (A : AllFrz cs H) (e : H b = some u) (hu : ∀ o, u ≠ .frz o (.own b)) : b ∉ cs := fun hb => by
 obtain ⟨o, z⟩ := A b hb
 rw [e] at z
 exact hu o (Option.some.inj z)
theorem AllFrz.hide {u : HO} (A : AllFrz cs H) (e : H b = some u) (hu : ∀ o, u ≠ .frz o (.own b)) : U1 cs H b = some u := by rw [V8 (A.out e hu)]; exact e
theorem HOk.hide (x : HOk P w H h) (A : AllFrz cs H) : HOk P w (U1 cs H) h := fun a o e => by
 by_cases ha : a ∈ cs
 . rw [A9w ha] at e; cases e
 . rw [V8 ha] at e
   exact (x a o e).stay (fun _ _ _ q => q) (fun d q => A.hide q fun o z => nomatch z) fun d xs q => A.hide q fun o z => nomatch z
theorem G5u (s : Same (U1 cs H) H') : Same H (Z3 cs H H') := fun a o e => by
 by_cases ha : a ∈ cs
 . rw [C4m ha]; exact e
 . rw [V4 ha]; exact s a o (by rw [V8 ha]; exact e)
theorem V0a (u : Un fs [] (U1 cs H) H' h h') (A : AllFrz cs H) : Un fs [] H (Z3 cs H H') h h' where
 keep := fun b o e n hb hx => u.keep b o e (by unfold U1; split <;> first | rfl | exact n) hb hx
 slot := fun b o e n hb hx => u.slot b o e (by unfold U1; split <;> first | rfl | exact n) hb hx
 free := fun b o e n hx => by
   have hb : b ∉ cs := fun z => by
     obtain ⟨o, q⟩ := A b z
     rw [n] at q; cases q
   rw [V4 hb]
   exact u.free b o e (by rw [V8 hb]; exact n) hx
 there := u.there
 tups := fun b xs e => by
   have hb := A.out e fun o z => nomatch z
   rw [V4 hb]
   exact u.tups b xs (by rw [V8 hb]; exact e)
 frzs := fun b o v e => by
   by_cases hb : b ∈ cs
   . rw [C4m hb]; exact e
   . rw [V4 hb]; exact u.frzs b o v (by rw [V8 hb]; exact e)
 tbls := fun b ps e => by
   have hb := A.out e fun o z => nomatch z
   rw [V4 hb]
   exact u.tbls b ps (by rw [V8 hb]; exact e)
theorem G4z (u : Un fs [] (U1 cs H) H' h h') (A : AllFrz cs H) (x : HOk P w H h) : ∀ c ∈ cs, H' c = none := fun c hc => by
 obtain ⟨o, e⟩ := A c hc
 obtain ⟨e1, _⟩ := x c _ e
 exact u.free c o e1 (A9w hc) (by simp)
theorem J3s (u : Un fs [] (U1 cs H) H' h h') (A : AllFrz cs H) (x : HOk P w H h) (x' : HOk P w H' h') (hf : ∀ b ∈ fs, H b = none) : HOk P w (Z3 cs H H') h' := fun a o e => by
 have nn := G4z u A x
 by_cases ha : a ∈ cs
 . rw [C4m ha] at e
   obtain ⟨o', e'⟩ := A a ha
   rw [e] at e'
   cases e'
   obtain ⟨e1, _⟩ := x a _ e
   have e2 := u.keep a o' e1 (A9w ha) (fun z => by rw [hf a z] at e; cases e) (by simp)
   exact ⟨e2, o', e2⟩
 . rw [V4 ha] at e
   refine (x' a o e).stay (fun _ _ _ q => q) (fun d q => ?_) fun d xs q => ?_
   . rw [V4 fun z => by rw [nn d z] at q; cases q]; exact q
   . rw [V4 fun z => by rw [nn d z] at q; cases q]; exact q
theorem U9d (u : Un fs [] H2 H' h h') (A : AllFrz cs H2) (ho : ∀ b, b ∉ cs -> H2 b = H b) (hn : ∀ b ∈ cs, H b = none) (x : HOk P w H2 h) (x' : HOk P w H' h') : Un fs [] H (U1 cs H') h h' := by
 have kp : ∀ b o, b ∈ cs -> h.get? b = some o -> h'.get? b = some o := fun b o hb e => by
   obtain ⟨o1, z⟩ := A b hb
   obtain ⟨e1, _⟩ := x b _ z
   rw [e] at e1
   cases e1
   exact (x' b _ (u.frzs b _ _ z)).1
 have out : ∀ b v, H b = some v -> b ∉ cs := fun b v e z => by rw [hn b z] at e; cases e
 refine ⟨fun b o e n hb hx => ?_, fun b o e n hb hx => ?_, fun b o e n hx => ?_, u.there, fun b xs e => ?_, fun b o v e => ?_, fun b ps e => ?_⟩
 . by_cases hc : b ∈ cs
   . exact kp b o hc e
   . exact u.keep b o e (by rw [ho b hc]; exact n) hb hx
 . by_cases hc : b ∈ cs
   . exact ⟨o.slots, kp b o hc e⟩
   . exact u.slot b o e (by rw [ho b hc]; exact n) hb hx
 . by_cases hc : b ∈ cs
   . exact A9w hc
   . rw [V8 hc]; exact u.free b o e (by rw [ho b hc]; exact n) hx
 . rw [V8 (out b _ e)]; exact u.tups b xs (by rw [ho b (out b _ e)]; exact e)
 . rw [V8 (out b _ e)]; exact u.frzs b o v (by rw [ho b (out b _ e)]; exact e)
 . rw [V8 (out b _ e)]; exact u.tbls b ps (by rw [ho b (out b _ e)]; exact e)
end
def Knows (H : Hp) (c : Addr) (v : V) : Prop := ∃ o u, H c = some (.frz o (.own c)) /\ o.data = .cell (some u) /\ RelV v u
def B7f (CX : CXT) (P : Program) (w : World) (K : Frag) (mg : Str -> Option Value) (base : Heap) (N : List Str) (qual : Str) (scope : Scope) (f : Addr) (cd : Value) (cl : List (Str × Addr)) (A : Around) (outer : List Env) (s : Shared) (H : Hp) (E : XK) : Cx where
 prog := P
 w := w
 K := K
 mg := mg
 base := base
 A := A.deeper (envX qual scope s.heap.objs.size f cd cl)
 N := N
 s₀ := s
 H₀ := H
 env := envX qual scope s.heap.objs.size f cd cl
 outer := outer
 stack := envX qual scope s.heap.objs.size f cd cl :: outer
 ex := []
 calm := true
 fn := fun _ => false
 pn := []
 xe := fun e s' => wpAny (model P w) (A.deeper (envX qual scope s.heap.objs.size f cd cl)) (leaving (envX qual scope s.heap.objs.size f cd cl) e) (fun _ s'' => CX outer H s E e s'') (fun e' s'' => CX outer H s E e' s'') s'
structure LamS (F : List Str) (sc : Scope) : Prop where
 kind : sc.kind = .function
 co : sc.isCoroutine = false
 gen : sc.isGenerator = false
 nocell : ∀ y ∈ sc.names, y.2 ≠ .cell
 fr : ∀ y ∈ sc.names, y.2 = .free -> y.1 ∈ F
 at_ : ∀ x ∈ F, sc.names.lookup x = some .free
 nd : F.Nodup
structure DeedOk (P : Program) (w : World) (K : Frag) (mg : Str -> Option Value) (base : Heap) (k : Nat) (f : Addr) (J : Hp -> Prop) (sp : Hp -> VK -> XK -> Prop) : Prop where
 fn : ∀ H h, J H -> HOk P w H h -> FnAt f h
 run : ∀ (A : Around) (outer : List Env) (s : Shared) (H : Hp) (Q : VK) (E : XK), Room k A -> Env0 P w K mg base A outer s H -> J H -> sp H Q E -> codeAny (model P w) A (.call (.ref f) ⟨[], []⟩) (CR (CX1 P w) outer P w H s Q E) s
def V6r (f : Addr) (qual : Str) (params : Arguments) (body : Expr) (scope : Scope) (cl : List (Str × Addr)) (vs : List V) (H : Hp) : Prop :=
 LamAt H f qual params body scope cl /\ ∀ (i : Nat) (x : Str) (c : Addr), cl[i]? = some (x, c) -> ∃ v, vs[i]? = some v /\ Knows H c v
theorem B0k : ∀ {cl : List (Str × Addr)} {i : Nat} {x : Str} {c : Addr}, (cl.map (·.1)).Nodup -> cl[i]? = some (x, c) -> cl.lookup x = some c
 | [], i, x, c, _, h => by cases i <;> cases h
 | (y, d) :: r, 0, x, c, _, h => by cases h; simp [List.lookup]
 | (y, d) :: r, i + 1, x, c, nd, h => by
   have nd' : y ∉ r.map (·.1) /\ (r.map (·.1)).Nodup := List.nodup_cons.mp nd
   have hm : x ∈ r.map (·.1) := List.mem_map.mpr ⟨(x, c), List.mem_of_getElem? (by simpa using h), rfl⟩
   have ne : (x == y) = false := beq_eq_false_iff_ne.mpr fun z => nd'.1 (z ▸ hm)
   rw [List.lookup_cons, ne]
   exact B0k nd'.2 (by simpa using h)
theorem J3b : ∀ {cl : List (Str × Addr)} {x y : Str} {c : Addr}, (cl.map (·.2)).Nodup -> (x, c) ∈ cl -> (y, c) ∈ cl -> x = y
 | p :: r, x, y, c, nd, h1, h2 => by
   have nd' : p.2 ∉ r.map (·.2) /\ (r.map (·.2)).Nodup := List.nodup_cons.mp nd
   rcases List.mem_cons.mp h1 with e1 | h1 <;> rcases List.mem_cons.mp h2 with e2 | h2
   . rw [<- e1] at e2; cases e2; rfl
   . exact absurd (List.mem_map.mpr ⟨(y, c), h2, by rw [<- e1]⟩) nd'.1
   . exact absurd (List.mem_map.mpr ⟨(x, c), h1, by rw [<- e2]⟩) nd'.1
   . exact J3b nd'.2 h1 h2
theorem C9a {P : Program} {w : World} {K : Frag} {mg : Str -> Option Value} {base : Heap} {N : List Str} {qual : Str} {scope : Scope} {f : Addr} {cd : Value} {cl : List (Str × Addr)} {A : Around} {outer : List Env} {s : Shared} {H : Hp} {E : XK} :
   D8 (B7f (CX1 P w) P w K mg base N qual scope f cd cl A outer s H E) (fun C dd _ H' => E C dd H') := by
 intro pins σ H' s' a t C dd I F h
 refine C1s (X := B7f (CX1 P w) P w K mg base N qual scope f cd cl A outer s H E) ⟨rfl, rfl, rfl⟩ I F fun s2 I2 F2 => ?_
 obtain ⟨na, T, oT, ts, e, ne, nT, eT, dT, h3⟩ := F2
 exact ⟨a, t, C, dd, H', rfl, I2.os, I2.bare, I2.base, I2.hok, h, ⟨na.old, na.un⟩, T, oT, ts, e, ne, ⟨nT.old, nT.un⟩, eT, dT, h3⟩
theorem U9s {P : Program} {w : World} {K : Frag} {mg : Str -> Option Value} {base : Heap} {k : Nat} {f : Addr} {qual : Str} {params : Arguments} {body : Expr} {scope : Scope} {cl : List (Str × Addr)} {vs : List V} {sp : Hp -> VK -> XK -> Prop}
   (S : LamS (cl.map (·.1)) scope) (hF : cl.length = vs.length) (hnd : (cl.map (·.2)).Nodup)
   (hb0 : ∀ (pm : Value) (c' : Addr) (ctv : Value), bindArgs (kla_fn "<lambda>" qual params body scope cl pm (.ref c') ctv) ⟨[], []⟩ = pure [])
   (hbody : ∀ (X : Cx) (cdv : Value) (A : Around) (outer : List Env) (s : Shared) (H : Hp) (Q : VK) (E : XK), X = B7f (CX1 P w) P w K mg base (cl.map (·.1)) qual scope f cdv cl A outer s (U1 (cl.map (·.2)) H) (fun C d H' => (∀ c ∈ cl.map (·.2), H' c = none) -> E C d (Z3 (cl.map (·.2)) H H')) -> Room k X.A ->
     D8 X (fun C dd _ H' => (∀ c ∈ cl.map (·.2), H' c = none) -> E C dd (Z3 (cl.map (·.2)) H H')) -> sp H Q E -> AllFrz (cl.map (·.2)) H ->
     ∃ t, PE (B7f (CX1 P w) P w K mg base (cl.map (·.1)) qual scope f cdv cl A outer s (U1 (cl.map (·.2)) H) (fun C d H' => (∀ c ∈ cl.map (·.2), H' c = none) -> E C d (Z3 (cl.map (·.2)) H H'))) body t /\ t (vs.map some) (U1 (cl.map (·.2)) H) (fun v H' => (∀ c ∈ cl.map (·.2), H' c = none) -> Q v (Z3 (cl.map (·.2)) H H'))) :
   DeedOk P w K mg base (k + 1) f (V6r f qual params body scope cl vs) sp := by
 refine ⟨fun H h ⟨⟨pm, c', ctv, oc, e, _⟩, _⟩ hok => ?_, fun A outer s H Q E hr e0 ⟨⟨pm, c', ctv, oc, e, ec, vs', t', hd, hv⟩, hk⟩ hsp => ?_⟩
 . obtain ⟨e1, _⟩ := hok f _ e
   exact ⟨_, _, _, _, e1⟩
 obtain ⟨e1, _⟩ := e0.hok f _ e
 obtain ⟨e2, _⟩ := e0.hok c' _ ec
 have lim : s.heap.NoLimit := e0.mod.nolimit.keeps fun b o e => (e0.bs b o e).1
 have af : AllFrz (cl.map (·.2)) H := by
   intro c hc
   obtain ⟨⟨x, c2⟩, hm, rfl⟩ := List.mem_map.mp hc
   obtain ⟨i, hi⟩ := List.mem_iff_getElem?.mp hm
   obtain ⟨v, _, o, u, h3, _⟩ := hk i x c2 hi
   exact ⟨o, h3⟩
 refine kla_callFunE hr.depth e1 rfl S.co S.gen rfl ⟨c', oc, vs', t', rfl, e2, hd, hv⟩ ?_
 rw [hb0]
 refine wpAny_pure (wpAny_newFunctionEnv S.nocell (fun x hx => absurd hx (by simp)) (fun h1 hns hsb => ?_) S.kind)
 have hk1 : ∀ b o, s.heap.get? b = some o -> h1.get? b = some o := fun b o e => (hsb.2 b (Nat.ne_of_lt (Heap.lt_size e))).trans (Heap.get?_push_of_some _ e)
 refine ⟨lim.keeps hk1, ?_⟩
 obtain ⟨t, ht, hq⟩ := hbody _ (.ref c') A outer s H Q E rfl (hr.deeper _) C9a hsp af
 have hokH : HOk P w (U1 (cl.map (·.2)) H) s.heap := e0.hok.hide af
 have look : ∀ x c, cl.lookup x = some c -> (x, c) ∈ cl := fun x c z => PySem.mem_of_lookup z
 have cell : ∀ x c, cl.lookup x = some c -> ∃ v, s.heap.IsCell c v := fun x c z => by
   obtain ⟨i, hi⟩ := List.mem_iff_getElem?.mp (look x c z)
   obtain ⟨v, _, o, u, h3, h4, _⟩ := hk i x c hi
   exact ⟨_, o, (e0.hok c _ h3).1, h4⟩
 have incs : ∀ x c, cl.lookup x = some c -> c ∈ cl.map (·.2) := fun x c z => List.mem_map.mpr ⟨(x, c), look x c z, rfl⟩
 generalize hX : B7f (CX1 P w) P w K mg base (cl.map (·.1)) qual scope f (.ref c') cl A outer s (U1 (cl.map (·.2)) H) (fun C d H' => (∀ c ∈ cl.map (·.2), H' c = none) -> E C d (Z3 (cl.map (·.2)) H H')) = X at ht
 have I : Inv X [] (vs.map some) (U1 (cl.map (·.2)) H) { s with heap := h1, toks := s.toks + 0 } := by
   subst hX
   refine ⟨⟨e0.mod, S.kind, rfl, rfl, Nat.le_refl _, fun x y c z1 z2 => J3b hnd (look x c z1) (look y c z2), fun x z => ?_, (fun _ _ z => by cases z), fun _ => hr.hd, Around.frames_deeper e0.frames, .inr ⟨rfl, rfl⟩, (fun b z => absurd (show b ∈ ([] : List Addr) from z) (by simp)), fun b o z => ⟨(e0.bs b o z).1, ?_⟩, e0.bsz, (fun b o _ z => absurd (show b ∈ ([] : List Addr) from z) (by simp)), (fun b z => absurd (show b ∈ ([] : List Addr) from z) (by simp)), e0.funs, fun b hb => ?_⟩,
     rfl, e0.bare, Un.kept hk1, ⟨_, hns, fun i x v z1 z2 z3 => ?_⟩, fun x c z => ?_, hokH.fresh (Nat.le_refl _), fun x c z => A9w (incs x c z), (fun p hp => absurd (show p ∈ ([] : List (Addr × Obj)) from hp) (by simp)), hokH.kept hk1, ?_⟩
   . have z : scope.names.lookup x = some .cell \/ scope.names.lookup x = some .free := z
     rcases z with z | z
     . exact absurd rfl (S.nocell _ (PySem.mem_of_lookup z))
     . have hx := S.fr _ (PySem.mem_of_lookup z) rfl
       obtain ⟨⟨y, c⟩, hm, rfl⟩ := List.mem_map.mp hx
       obtain ⟨i, hi⟩ := List.mem_iff_getElem?.mp hm
       exact ⟨c, B0k S.nd hi⟩
   . exact A7c (e0.bs b o z).2
   . exact A7c (e0.frf b hb)
   . have z1 : (cl.map (·.1))[i]? = some x := z1
     rw [List.getElem?_map] at z1 z2
     cases q : cl[i]? with
     | none => rw [q] at z1; cases z1
     | some p =>
       rw [q] at z1
       cases z1
       obtain ⟨v2, h2, o, u, h3, h4, h5⟩ := hk i p.1 p.2 q
       rw [h2] at z2
       cases z2
       refine ⟨u, h5, .inr ⟨.inr (S.at_ _ (List.mem_map.mpr ⟨p, List.mem_of_getElem? q, rfl⟩)), p.2, B0k S.nd q, o, hk1 _ _ (e0.hok _ _ h3).1, h4⟩⟩
   . obtain ⟨v, o, h3, h4⟩ := cell x c z
     exact ⟨v, o, hk1 _ _ h3, h4⟩
   . show (vs.map some).length = (cl.map (·.1)).length
     rw [List.length_map, List.length_map, hF]
 have res : ∀ {H' : Hp} {s' : Shared}, Un (frs outer) [] (U1 (cl.map (·.2)) H) H' s.heap s'.heap -> HOk P w H' s'.heap -> Un (frs outer) [] H (Z3 (cl.map (·.2)) H H') s.heap s'.heap /\ HOk P w (Z3 (cl.map (·.2)) H H') s'.heap /\ ∀ c ∈ cl.map (·.2), H' c = none :=
   fun u x => ⟨V0a u af, J3s u af e0.hok x e0.frf, G4z u af e0.hok⟩
 refine kla_codeExpr ?_
 have hA : X.A = A.deeper (envX qual scope s.heap.objs.size f (.ref c') cl) := by rw [<- hX]; rfl
 have := ht [] _ _ _ _ I hq
 subst hX
 refine wpAny_mono this (fun u s' ⟨v, H', I', r, q⟩ => ?_) fun e s' z => wpAny_mono z (fun _ s2 z2 => ?_) fun e' s2 z2 => ?_
 . obtain ⟨r1, r2, r3⟩ := res I'.base I'.hok
   exact ⟨v, _, I'.os, I'.bare, r1, r2, r, q r3⟩
 . obtain ⟨a, t, C, dd, H', rfl, os, bare, un, hok, hE, ⟨a1, a2⟩, T, oT, ts, z, ne, ⟨t1, t2⟩, rest⟩ := z2
   obtain ⟨r1, r2, r3⟩ := res un hok
   have nc : ∀ b, s.heap.get? b = none -> b ∉ cl.map (·.2) := fun b z hb => by
     obtain ⟨o, q⟩ := af b hb
     rw [(e0.hok b _ q).1] at z
     cases z
   exact ⟨a, t, C, dd, _, rfl, os, bare, r1, r2, hE r3, ⟨a1, by rw [V4 (nc a a1)]; exact a2⟩, T, oT, ts, z, ne, ⟨t1, by rw [V4 (nc T t1)]; exact t2⟩, rest⟩
 . obtain ⟨a, t, C, dd, H', rfl, os, bare, un, hok, hE, ⟨a1, a2⟩, T, oT, ts, z, ne, ⟨t1, t2⟩, rest⟩ := z2
   obtain ⟨r1, r2, r3⟩ := res un hok
   have nc : ∀ b, s.heap.get? b = none -> b ∉ cl.map (·.2) := fun b z hb => by
     obtain ⟨o, q⟩ := af b hb
     rw [(e0.hok b _ q).1] at z
     cases z
   exact ⟨a, t, C, dd, _, rfl, os, bare, r1, r2, hE r3, ⟨a1, by rw [V4 (nc a a1)]; exact a2⟩, T, oT, ts, z, ne, ⟨t1, by rw [V4 (nc T t1)]; exact t2⟩, rest⟩
section
variable {X : Cx} {j k : Nat} {f : Addr} {fd : FuncData} {ps : List Str} {sp : Sp} {ds : List Value} {EH : EK} {x : Str} {p pos : Pos} {e : Expr} {es : List Expr} {t : TA} {st : Stmt}
def V4k (P : Program) (w : World) (K : Frag) (mg : Str -> Option Value) (base : Heap) (k i : Nat) (EH : EK) : TE := fun σ H Q => ∃ f J spd, σ[i]? = some (some (.ref f)) /\ DeedOk P w K mg base k f J spd /\ J H /\ spd H Q (fun C d H' => EH C d σ H')
theorem V0q {i : Nat} (hN : X.N[i]? = some x) (hv : Vis X.env.scope x) (hr : Room k X.A) (hx : D8 X EH) (hex : X.ex = [] := by rfl) (hd : (x == ("__debug__" : Str)) = false := by decide) (hcd : (x == ("__classdict__" : Str)) = false := by decide) :
   PE X (.Call (.Name x p) [] [] pos) (V4k X.prog X.w X.K X.mg X.base k i EH) := by
 intro pins s σ H Q I ⟨f, J, spd, e, D, hJ, h⟩
 refine wpAny_Call_Name_kw (thn (J4x (pos := p) hN hv hd hcd pins s σ H (fun v H' => v = .ref f /\ H' = H) I ⟨.ref f, e, rfl, rfl⟩) fun u s1 ⟨v, H1, I1, r, ev, eH⟩ => ?_)
 subst ev eH
 obtain rfl : u = Value.ref f := r
 refine callWith_F0 (D.fn _ _ hJ I1.hok) (wpAny_call (codeAny_mono (D.run X.A X.stack s1 H1 Q _ hr I1.env0 hJ h) fun r s' hq => ?_))
 cases r with
 | error e => exact U9w hx hex I1 hq
 | ok fl =>
   cases fl with
   | ret u => exact I1.after hq
   | next => exact False.elim hq
   | brk => exact False.elim hq
   | cont => exact False.elim hq
def V6u (sp : Sp) (cl : List (Str × Addr)) (js : List Nat) (EH : EK) (t : TA) : TE := fun σ H Q => t σ H fun vs H1 => (∀ c ∈ cl.map (·.2), H1 c = none) -> ∀ H2, (∀ b, b ∉ cl.map (·.2) -> H2 b = H1 b) -> AllFrz (cl.map (·.2)) H2 ->
 (∀ (i : Nat) (x : Str) (c : Addr) (j : Nat) (v : V), cl[i]? = some (x, c) -> js[i]? = some j -> σ[j]? = some (some v) -> Knows H2 c v) ->
 sp vs H2 (fun v H' => (∀ c ∈ cl.map (·.2), H' c = H2 c) -> Q v (U1 (cl.map (·.2)) H')) (fun C d H' => (∀ c ∈ cl.map (·.2), H' c = H2 c) -> EH C d σ (U1 (cl.map (·.2)) H'))
structure CellsZ (cl : List (Str × Addr)) (js : List Nat) (XN : List Str) (env : Env) : Prop where
 at_ : ∀ (i : Nat) (x : Str) (c : Addr), cl[i]? = some (x, c) -> env.cells.lookup x = some c /\ env.kindOf x = some .cell /\ ∀ j, js[i]? = some j -> XN[j]? = some x
theorem V6c {cl : List (Str × Addr)} {js : List Nat} (D : Def X.K X.mg x ps st f fd) (F : FnOkG X.prog X.w X.K X.mg X.base (CX1 X.prog X.w) j f fd ps sp) (hgd : X.A.guards = some []) (hr : Room k X.A) (hx : D8 X EH) (Z : CellsZ cl js X.N X.env) (ha : PA X (e :: es) t) (hj : j <= k := by decide) (hfn : ∀ y, X.fn y = true := by intro _; rfl) (hg : Gl X x := by rfl) (hex : X.ex = [] := by rfl)
   (hdb : (x == ("__debug__" : Str)) = false := by decide) (he : starEach (e :: es) X.env = (false, eval e X.env) :: starEach es X.env := by rfl) (hpl : (backTo pos (starEach es X.env)).any (·.1) = false := by rfl) : PE X (.Call (.Name x p) (e :: es) [] pos) (V6u sp cl js EH t) := by
 intro pins s0 σ H0 Q I0 h0
 refine wpAny_Call_Name_kw (A0j I0 hg D.g ?_ hdb)
 refine PySem.W.callWith_K (h₀ := X.base) I0.ok.mod.kin D.F.kp (thn (ha pos pins s0 σ H0 _ I0 h0) fun us s ⟨vs, H, I, r, q⟩ => ⟨I.kIn, ?_⟩) he hpl
 have inn : ∀ c ∈ cl.map (·.2), ∃ x, X.env.cells.lookup x = some c := fun c hc => by
   obtain ⟨⟨y, c2⟩, hm, rfl⟩ := List.mem_map.mp hc
   obtain ⟨i, hi⟩ := List.mem_iff_getElem?.mp hm
   exact ⟨y, (Z.at_ i y c2 hi).1⟩
 have hn : ∀ c ∈ cl.map (·.2), H c = none := fun c hc => by
   obtain ⟨y, hy⟩ := inn c hc
   exact I.freeC y c hy
 have hc : ∀ c ∈ cl.map (·.2), ∃ o v, s.heap.get? c = some o /\ o.data = .cell v := fun c hc => by
   obtain ⟨y, hy⟩ := inn c hc
   obtain ⟨v, o, h1, h2⟩ := I.cell y c hy
   exact ⟨o, v, h1, h2⟩
 let H2 : Hp := fun b => if b ∈ cl.map (·.2) then (s.heap.get? b).map fun o => .frz o (.own b) else H b
 have h2i : ∀ c o, c ∈ cl.map (·.2) -> s.heap.get? c = some o -> H2 c = some (.frz o (.own c)) := fun c o hc e => by
   show (if c ∈ cl.map (·.2) then _ else _) = _
   rw [if_pos hc, e]
   rfl
 have h2o : ∀ b, b ∉ cl.map (·.2) -> H2 b = H b := fun b hb => if_neg hb
 have A2 : AllFrz (cl.map (·.2)) H2 := fun c hcc => by
   obtain ⟨o, v, h1, _⟩ := hc c hcc
   exact ⟨o, h2i c o hcc h1⟩
 have out : ∀ b u, H b = some u -> b ∉ cl.map (·.2) := fun b u e z => by rw [hn b z] at e; cases e
 have hok2 : HOk X.prog X.w H2 s.heap := fun b u e => by
   by_cases hb : b ∈ cl.map (·.2)
   . obtain ⟨o, v, h1, _⟩ := hc b hb
     rw [h2i b o hb h1] at e
     cases e
     exact ⟨h1, o, h1⟩
   . rw [h2o b hb] at e
     exact (I.hok b u e).stay (fun _ _ _ q => q) (fun d q => by rw [h2o d (out d _ q)]; exact q) fun d xs q => by rw [h2o d (out d _ q)]; exact q
 have ncell : ∀ b o, b ∈ cl.map (·.2) -> s.heap.get? b = some o -> ∃ v, o.data = .cell v := fun b o hb e => by
   obtain ⟨o', v, h1, h2⟩ := hc b hb
   rw [e] at h1
   cases h1
   exact ⟨v, h2⟩
 have e2 : Env0 X.prog X.w X.K X.mg X.base X.A X.stack s H2 := by
   have e0 := I.env0
   refine ⟨e0.frames, e0.mod, fun b o z => ⟨(e0.bs b o z).1, ?_⟩, e0.bsz, e0.funs, fun b hb => ?_, hok2, e0.bare⟩
   . rw [h2o b fun z2 => ?_]
     . exact (e0.bs b o z).2
     . obtain ⟨y, hy⟩ := inn b z2
       have := Nat.le_trans I.ok.bsz (I.ok.cab y b (hfn y) hy)
       exact absurd (Nat.lt_of_lt_of_le (Heap.lt_size z) this) (Nat.lt_irrefl _)
   . rw [h2o b fun z2 => ?_]
     . exact e0.frf b hb
     . obtain ⟨y, hy⟩ := inn b z2
       rcases List.mem_cons.mp (I.stkSub b hb) with z3 | z3
       . exact I.cne y b hy z3
       . obtain ⟨_, o, ho, _⟩ := I.ok.funs.mem z3
         exact absurd (Nat.lt_of_lt_of_le (Heap.lt_size ho) (I.ok.cab y b (hfn y) hy)) (Nat.lt_irrefl _)
 have q2 := q hn H2 h2o A2 fun i y c j v h1 h2 h3 => by
   obtain ⟨z1, z2, z3⟩ := Z.at_ i y c h1
   obtain ⟨m, _, hl⟩ := I.loc
   obtain ⟨u, r, l⟩ := hl j y v (z3 j h2) h3 (.inr (.inl z2))
   rcases l with ⟨k, _⟩ | ⟨_, c', h4, o, h5, h6⟩
   . rw [z2] at k; cases k
   . rw [z1] at h4
     cases h4
     exact ⟨o, u, h2i c o (List.mem_map.mpr ⟨(y, c), List.mem_of_getElem? h1, rfl⟩) h5, h6, r⟩
 have hl : us.length = ps.length := by rw [<- r.length]; exact F.len _ _ _ _ q2
 refine wpAny_call (codeAny_mono (F.run X.A X.stack s H2 ⟨us, []⟩ us vs _ _ hgd (hr.mono hj) e2 (by have := D.b s us I.kIn (by simpa using hl); simpa using this) r q2) fun r s' hq => ?_)
 have fin : ∀ {H' : Hp}, Un (frs X.stack) [] H2 H' s.heap s'.heap -> HOk X.prog X.w H' s'.heap -> Un (frs X.stack) [] H (U1 (cl.map (·.2)) H') s.heap s'.heap /\ HOk X.prog X.w (U1 (cl.map (·.2)) H') s'.heap /\ ∀ c ∈ cl.map (·.2), H' c = H2 c := fun {H'} un hok => by
   have same : ∀ c ∈ cl.map (·.2), H' c = H2 c := fun c hcc => by
     obtain ⟨o, z⟩ := A2 c hcc
     rw [z]
     exact un.frzs c o _ z
   exact ⟨U9d un A2 h2o hn hok2 hok, hok.hide fun c hcc => by rw [same c hcc]; exact A2 c hcc, same⟩
 cases r with
 | error e =>
   obtain ⟨a, t, C, dd, H', rfl, os, bare, un, hok, hE, ⟨a1, a2⟩, T, oT, ts, z, ne, ⟨t1, t2⟩, rest⟩ := hq
   obtain ⟨r1, r2, r3⟩ := fin un hok
   exact U9w hx hex I ⟨a, t, C, dd, _, rfl, os, bare, r1, r2, hE r3, ⟨a1, A7c a2⟩, T, oT, ts, z, ne, ⟨t1, A7c t2⟩, rest⟩
 | ok fl =>
   cases fl with
   | ret u =>
     obtain ⟨v, H', os, bare, un, hok, rv, q3⟩ := hq
     obtain ⟨r1, r2, r3⟩ := fin un hok
     exact I.after ⟨v, _, os, bare, r1, r2, rv, q3 r3⟩
   | next => exact False.elim hq
   | brk => exact False.elim hq
   | cont => exact False.elim hq
end
theorem G6j {c P0 : Addr} {P : Program} {w : World} {K : PySem.W.Frag} {mg mb : Str -> Option Value} {CX : CXT} {k : Nat} {fa a : Addr} {fd : FuncData} {x : Str} {sp : Sp} {s₁ : Shared} {vs : List Value} {ns : List Int}
   (hC : CodeHd s₁.heap c P0) (hT : s₁.heap.get? P0 = some (tabObj #[])) (hKP : K.lookup P0 = none) (hbm : ∃ bm ob, mg "__builtins__" = some (.ref bm) /\ bm ≠ builtinsNs /\ s₁.heap.get? bm = some ob /\ ob.cls = .type "module" /\ ob.dict = some builtinsNs /\ ob.data = .plain)
   (KX : K.In s₁.heap) (hns : s₁.heap.Ns mainGlobals mg) (hb : s₁.heap.Ns builtinsNs mb) (hbb : ∀ x : Str, x ≠ "__name__" -> mb x = bootBuiltins x) (hlim : s₁.heap.NoLimit) (hg : s₁.gens = #[])
   (ha : s₁.heap.get? a = some { cls := .type "list", data := .seq vs.toArray }) (hi : IntsAre vs ns) (hl : ns.length <= sizeLine) (hr : Room k callerA)
   (F : ∀ base : Heap, K.In base -> base.Ns mainGlobals mg -> LamB mg base c P0 -> FnOkG P w K mg base CX k fa fd [x] sp) (hbind : ∀ (s : Shared) (u : Value), BindsTo s fd ⟨[u], []⟩ [(x, u)])
   (hsp : ∀ H : Hp, H P0 = some (.tbl #[]) -> SqL K H a (ns.map V.int) -> sp [.ref a] H (fun v _ => v = .bl true) fun _ _ _ => False)
   (hCX : ∀ H e s', CX [] H s₁ (fun _ _ _ => False) e s' -> False) :
   codeAny (model P w) callerA (.call (.ref fa) ⟨[.ref a], []⟩) (fun r s' => r = .ok (.ret (.bool true)) /\ OldK s₁.heap s'.heap /\ s'.os = s₁.os /\ AllBare s'.gens) s₁ := by
 have rv := C1p hi
 have lenV := hi.length
 have core : ∀ H : Hp, H P0 = some (.tbl #[]) -> (∀ b, H b = none \/ b = P0 \/ ∃ o xs, H b = some (.frz o (.lst xs))) -> SqL K H a (ns.map V.int) -> HOk P w H s₁.heap -> (∀ b, H b ≠ none -> b = P0 \/ b = a) -> (H a ≠ none -> K.lookup a = none) ->
     codeAny (model P w) callerA (.call (.ref fa) ⟨[.ref a], []⟩) (fun r s' => r = .ok (.ret (.bool true)) /\ OldK s₁.heap s'.heap /\ s'.os = s₁.os /\ AllBare s'.gens) s₁ := by
   intro H hPt hO hS hok hA hK
   have base_of : ∀ {b : Addr} {o : Obj}, s₁.heap.get? b = some o -> H b = none -> (C0s s₁.heap H).get? b = some o := fun e n => J2d e n
   have noA : ∀ {b : Addr} {o : Obj} {es : Array DictEntry} {ep : Nat}, s₁.heap.get? b = some o -> o.data = .dict es ep -> H b = none := fun {b o es ep} e d => by
     cases q : H b with
     | none => rfl
     | some u =>
       rcases hA b (by rw [q]; simp) with e' | e'
       . subst e'
         rw [hT] at e; cases e
         have d' : Data.fields #[] = Data.dict es ep := d
         cases d'
       . subst e'
         rw [ha] at e; cases e
         have d' : Data.seq vs.toArray _ = Data.dict es ep := d
         cases d'
   have nsK : ∀ {b : Addr} {m : Str -> Option Value}, s₁.heap.Ns b m -> (C0s s₁.heap H).Ns b m := fun {b m} ⟨o, es, ep, e, d, r⟩ => ⟨o, es, ep, base_of e (noA e d), d, r⟩
   have hKb : K.In (C0s s₁.heap H) := fun b o e => base_of (KX b o e) (by
     cases q : H b with
     | none => rfl
     | some u =>
       rcases hA b (by rw [q]; simp) with e' | e'
       . subst e'
         rw [hKP] at e; cases e
       . subst e'
         rw [hK (by rw [q]; simp)] at e; cases e)
   have noC : ∀ {b : Addr} {o : Obj}, s₁.heap.get? b = some o -> o ≠ tabObj #[] -> (∀ n, o ≠ { cls := .type "list", data := .seq vs.toArray n }) -> H b = none := fun {b o} e n1 n2 => by
     cases q : H b with
     | none => rfl
     | some u =>
       rcases hA b (by rw [q]; simp) with e' | e'
       . subst e'
         rw [hT] at e; cases e
         exact absurd rfl n1
       . subst e'
         rw [ha] at e; cases e
         exact absurd rfl (n2 _)
   have hLB : LamB mg (C0s s₁.heap H) c P0 := by
     refine ⟨?_, ?_⟩
     . obtain ⟨o, vs1, file, tf, flags, tg, inF, text, tt, e1, r1, r2⟩ := hC
       exact ⟨o, vs1, file, tf, flags, tg, inF, text, tt, base_of e1 (noC e1 (fun z => by rw [z] at r1; cases r1) fun n z => by rw [z] at r1; exact absurd (Value.type.inj r1) (by decide)), r1, r2⟩
     . obtain ⟨bm, ob, b1, b2, b3, b4, b5, b6⟩ := hbm
       refine ⟨bm, ob, b1, b2, ?_, base_of b3 (noC b3 (fun z => by rw [z] at b4; cases b4) fun n z => by rw [z] at b4; exact absurd (Value.type.inj b4) (by decide)), b4, b5, b6⟩
       rintro rfl
       obtain ⟨o, es, ep, e, d, _⟩ := hns
       rw [b3] at e; cases e
       rw [b6] at d; cases d
   have hM : Mod K mg (C0s s₁.heap H) := ⟨hKb, nsK hns, ⟨mb, nsK hb, hbb⟩, let ⟨mc, h1, h2⟩ := hlim; ⟨mc, nsK h1, h2⟩⟩
   have e0 : Env0 P w K mg (C0s s₁.heap H) callerA [] s₁ H := ⟨rfl, hM, fun b o e => U9b e, Nat.le_of_eq (G5v _ _), trivial, fun b hb => absurd (show b ∈ ([] : List Addr) from hb) (by simp), hok, .of_eq hg⟩
   refine codeAny_mono ((F _ hKb (nsK hns) hLB).run callerA [] s₁ H ⟨[.ref a], []⟩ [.ref a] [.ref a] _ _ rfl hr e0 (hbind s₁ (.ref a)) (.cons rfl .nil) (hsp H hPt hS)) fun r s' h => ?_
   cases r with
   | error e => exact (hCX H e s' h).elim
   | ok fl =>
     cases fl with
     | next => exact False.elim h
     | brk => exact False.elim h
     | cont => exact False.elim h
     | ret u =>
       obtain ⟨v, H', os, bare, un, hok', r', q⟩ := h
       have q' : v = .bl true := q
       subst q'
       obtain rfl : u = Value.bool true := r'
       obtain ⟨more, hm⟩ := un.tbls P0 _ hPt
       have hP' : s'.heap.get? P0 = some (tabObj (#[] ++ more)) := hok' P0 _ hm
       have kp : ∀ b o, b ≠ P0 -> s₁.heap.get? b = some o -> s'.heap.get? b = some o := fun b o nb e => ?_
       refine ⟨rfl, ⟨fun b o e => ?_, fun b o e => ?_⟩, os, bare⟩
       . by_cases hb : b = P0
         . subst hb
           rw [hT] at e
           cases e
           exact .inr (.inl ⟨(hC.tab hT).isCodeTable, rfl, #[], more, rfl, hP'⟩)
         . exact .inl (kp b o hb e)
       . by_cases hb : b = P0
         . exact ⟨_, by rw [hb]; exact hP'⟩
         . exact ⟨o, kp b o hb e⟩
       cases q : H b with
       | none => exact un.keep b o e q (by intro z; exact absurd (show b ∈ ([] : List Addr) from z) (by simp)) (by simp)
       | some u =>
         rcases hO b with z | z | ⟨ob, xs, z⟩
         . rw [q] at z; cases z
         . exact absurd z nb
         . have z2 := un.frzs b ob _ z
           obtain ⟨e1, _⟩ := hok b _ z
           obtain ⟨e2, _⟩ := hok' b _ z2
           rw [e] at e1; cases e1
           exact e2
 have nPa : P0 ≠ a := fun z => by rw [z, ha] at hT; cases hT
 cases hk : K.lookup a with
 | some o =>
   have e := KX a o hk
   rw [ha] at e
   cases e
   refine core (fun b => if b = P0 then some (.tbl #[]) else none) (if_pos rfl) (fun b => ?_) (.inr ⟨_, vs.toArray, _, hk, rfl, rfl, rfl, by rw [List.size_toArray, lenV]; exact hl, by simpa using rv⟩) (fun b u z => ?_) (fun b z => ?_) fun z => absurd (if_neg nPa.symm) z
   . by_cases hb : b = P0
     . exact .inr (.inl hb)
     . exact .inl (if_neg hb)
   . by_cases hb : b = P0
     . have z' := (if_pos hb).symm.trans z
       cases z'
       subst hb
       exact hT
     . have z' := (if_neg hb).symm.trans z
       cases z'
   . by_cases hb : b = P0
     . exact .inl hb
     . exact absurd (if_neg hb) z
 | none =>
   refine core (fun b => if b = P0 then some (.tbl #[]) else if b = a then some (.frz { cls := .type "list", data := .seq vs.toArray } (.lst (ns.map V.int))) else none) (if_pos rfl) (fun b => ?_) (.inl (.inr ⟨{ cls := .type "list", data := .seq vs.toArray }, (if_neg nPa.symm).trans (if_pos rfl)⟩)) (fun b u z => ?_) (fun b z => ?_) fun _ => hk
   . by_cases hp : b = P0
     . exact .inr (.inl hp)
     . by_cases hb : b = a
       . exact .inr (.inr ⟨_, _, (if_neg hp).trans (if_pos hb)⟩)
       . exact .inl ((if_neg hp).trans (if_neg hb))
   . by_cases hp : b = P0
     . have z' := (if_pos hp).symm.trans z
       cases z'
       subst hp
       exact hT
     . by_cases hb : b = a
       . have z' := ((if_neg hp).trans (if_pos hb)).symm.trans z
         cases z'
         subst hb
         exact ⟨ha, by rw [List.length_map]; exact hl, vs, _, rv, ha⟩
       . have z' := ((if_neg hp).trans (if_neg hb)).symm.trans z
         cases z'
   . by_cases hp : b = P0
     . exact .inl hp
     . by_cases hb : b = a
       . exact .inr hb
       . exact absurd ((if_neg hp).trans (if_neg hb)) z
theorem walk_ofL {c P0 : Addr} {l : PySem.W.OpenLaw} {n k : Nat} {q : Program} {loose : List Str} {XP : (Str -> Option Value) -> Heap -> Prop} {YP : World -> Heap -> Prop} {d : DefRec} {K : Params -> PySem.W.Frag} {CX : World -> CXT} {sp : World -> Sp} {x : Str}
   (hn : l.most = some n) (hn2 : n <= sizeLine) (hdf : d.params.defaults = []) (hr : Room k callerA)
   (hY : ∀ (w : World) (h : Heap), YP w h -> (K w.params).In h /\ CodeHd h c P0 /\ h.get? P0 = some (tabObj #[])) (hKP : ∀ p, (K p).lookup P0 = none)
   (F : ∀ (w : World) (mg : Str -> Option Value) (fa : Addr) (h : Heap), (K w.params).In h -> h.Ns mainGlobals mg -> mg d.name = some (.ref fa) ->
     ∃ fd : FuncData, (∀ (s : Shared) (u : Value), BindsTo s fd ⟨[u], []⟩ [(x, u)]) /\
       ∀ base : Heap, (K w.params).In base -> base.Ns mainGlobals mg -> LamB mg base c P0 -> FnOkG l.prog w (K w.params) mg base (CX w) k fa fd [x] (sp w))
   (hsp : ∀ (w : World) (H : Hp) (a : Addr) (ns : List Int), ns.length <= n -> H P0 = some (.tbl #[]) -> SqL (K w.params) H a (ns.map V.int) -> sp w [.ref a] H (fun v _ => v = .bl true) fun _ _ _ => False)
   (hCX : ∀ (w : World) (H : Hp) (s : Shared) (e : Value) (s' : Shared), CX w [] H s (fun _ _ _ => False) e s' -> False) :
   PySem.W.WalkO q loose XP YP l.row.toRowW d [] (fun f vs => PySem.call f vs) := by
 refine Att.attach_call hn hdf fun w s₀ s₁ mg mb fa o pm cd doc a vs ns G Y ho hd hcd hmg hobj hints hlen hg => ?_
 obtain ⟨KX, hC, hT⟩ := hY w _ Y
 obtain ⟨fd, hb, hF⟩ := F w mg fa _ KX G.T.g hmg
 exact G6j hC hT (hKP _) G.T.bmain KX G.T.g G.T.b G.T.builtins G.T.nolimit hg hobj hints (Nat.le_trans hlen hn2) hr hF hb (fun H hO hS => hsp w H a ns hlen hO hS) fun H e s' => hCX w H s₁ e s'
section
variable {X : Cx}
theorem C1x (hg : X.A.guards = some []) (hu : X.A.units + 64 < cLine) : A2u X (.type "str") (fun xs H Q => ∃ a d, xs = [.ref a] /\ RdR H (.ref a) d /\ A4d d /\ Q (.str d.shown) H) := by
 intro pins s σ H xs us Q I r h
 obtain ⟨a, d, rfl, hv, ⟨sh, dp, ln⟩, q⟩ := h
 obtain ⟨u, rfl, ru⟩ := Vals.one r
 obtain ⟨as, z, ny⟩ := hv.reads I ru
 cases ru
 exact str_of_reads z sh (fun _ => ny) hg (by omega) (fun b o e => e) (fun h' u tk k => ⟨.str d.shown, H, I.kept k, ⟨u, rfl⟩, q⟩) ln
end
def D5g (H H' : Hp) : Prop := ∀ b o, (∀ ps, o ≠ .tbl ps) -> H b = some o -> H' b = some o
theorem SameT.keep {P : Addr} {ps : Array Value} {H H' : Hp} (s : SameT P H H') (h : H P = some (.tbl ps)) : D5g H H' := fun b o n e => s b o (fun z => by rw [z, h] at e; exact n ps (Option.some.inj e).symm) e
theorem TabOk.same {P : Addr} {pos : Pos} {q : Str} {H H' : Hp} (h : TabOk P pos q H) (s : ∀ b o, H b = some o -> H' b = some o) : TabOk P pos q H' := by
 obtain ⟨ps, e, t, c⟩ := h
 exact ⟨ps, s _ _ e, t, c.imp id fun ⟨c', oc, a, b, d⟩ => ⟨c', oc, a, s _ _ b, d⟩⟩
theorem TabOk.at {P : Addr} {pos : Pos} {q : Str} {H H' : Hp} (h : TabOk P pos q H) (s : ∀ b o, H b = some o -> (b = P \/ ∃ oc, o = .frz oc (.own b)) -> H' b = some o) : TabOk P pos q H' := by
 obtain ⟨ps, e, t, c⟩ := h
 exact ⟨ps, s _ _ e (.inl rfl), t, c.imp id fun ⟨c', oc, a, b, d⟩ => ⟨c', oc, a, s _ _ b (.inr ⟨oc, rfl⟩), d⟩⟩
theorem U9z {P : Addr} {pos : Pos} {q : Str} {H : Hp} (h : H P = some (.tbl #[])) : TabOk P pos q H := ⟨#[], h, trivial, .inl rfl⟩
theorem SqL.kept {K : Frag} {H H' : Hp} {a : Addr} {xs : List V} (h : SqL K H a xs) (s : ∀ o, H a = some o -> (o = .lst xs \/ ∃ oc, o = .frz oc (.lst xs)) -> H' a = some o) : SqL K H' a xs := by
 rcases h with (h | ⟨o, h⟩) | h
 . exact .inl (.inl (s _ h (.inl rfl)))
 . exact .inl (.inr ⟨o, s _ h (.inr ⟨o, rfl⟩)⟩)
 . exact .inr h
theorem Fun.okEL {P : Program} {w : World} {K : Frag} {mg : Str -> Option Value} {base : Heap} {x qual : Str} {st : Stmt} {f c : Addr} {fd : FuncData} {N ps : List Str} {k : Nat} {sp : Sp} (F : Fun K x qual st f fd) (hc0 : fd.code = .ref c) (S : FnScope N ps (A3 st)) (len : ∀ vs H Q E, sp vs H Q E -> vs.length = ps.length)
   (hbody : ∀ (X : Cx) (A : Around) (outer : List Env) (s : Shared) (H : Hp) (vs : List V) (Q : VK) (E : XK), X = Z8 (CX1 P w) P w K mg base N qual (A3 st) f (.ref c) A outer s H E -> X.A.guards = some [] -> Room k X.A -> D8 X (fun C dd _ H' => E C dd H') -> sp vs H Q E ->
     ∃ t, PSs (Z8 (CX1 P w) P w K mg base N qual (A3 st) f (.ref c) A outer s H E) (B4 st) t /\ t { nx := fun _ H' => Q .non H', rt := Q } (A1x N vs) H) : FnOkG P w K mg base (CX1 P w) (k + 1) f fd ps sp := by
 obtain ⟨oc, od, kV, doc, pm, an, cdv, ct, osl, rfl, lk, hc⟩ := F.ex
 obtain rfl : cdv = .ref c := hc0
 exact J5c lk hc S len fun A outer s H vs Q E hg hr h => hbody _ A outer s H vs Q E rfl hg hr A3t h
theorem U8e {P : Program} {w : World} {K : Frag} {mg : Str -> Option Value} {base : Heap} {k : Nat} {f : Addr} {qual : Str} {params : Arguments} {body : Expr} {scope : Scope} {cl : List (Str × Addr)} {vs : List V} {sp : Hp -> VK -> XK -> Prop} {H0 : Hp} (la : LamAt H0 f qual params body scope cl)
   (S : LamS (cl.map (·.1)) scope) (hF : cl.length = vs.length) (hnd : (cl.map (·.2)).Nodup)
   (hb0 : ∀ (pm : Value) (c' : Addr) (ctv : Value), bindArgs (kla_fn "<lambda>" qual params body scope cl pm (.ref c') ctv) ⟨[], []⟩ = pure [])
   (hbody : ∀ (X : Cx) (cdv : Value) (A : Around) (outer : List Env) (s : Shared) (H : Hp) (Q : VK) (E : XK), X = B7f (CX1 P w) P w K mg base (cl.map (·.1)) qual scope f cdv cl A outer s (U1 (cl.map (·.2)) H) (fun C d H' => (∀ c ∈ cl.map (·.2), H' c = none) -> E C d (Z3 (cl.map (·.2)) H H')) -> Room k X.A ->
     D8 X (fun C dd _ H' => (∀ c ∈ cl.map (·.2), H' c = none) -> E C dd (Z3 (cl.map (·.2)) H H')) -> sp H Q E -> AllFrz (cl.map (·.2)) H ->
     ∃ t, PE (B7f (CX1 P w) P w K mg base (cl.map (·.1)) qual scope f cdv cl A outer s (U1 (cl.map (·.2)) H) (fun C d H' => (∀ c ∈ cl.map (·.2), H' c = none) -> E C d (Z3 (cl.map (·.2)) H H'))) body t /\ t (vs.map some) (U1 (cl.map (·.2)) H) (fun v H' => (∀ c ∈ cl.map (·.2), H' c = none) -> Q v (Z3 (cl.map (·.2)) H H'))) :
   DeedOk P w K mg base (k + 1) f (V6r f qual params body scope cl vs) sp := U9s S hF hnd hb0 hbody
theorem LamAt.kept {H H' : Hp} {f : Addr} {qual : Str} {params : Arguments} {body : Expr} {scope : Scope} {cl : List (Str × Addr)} (h : LamAt H f qual params body scope cl) (s : ∀ b o, H b = some (.frz o (.own b)) -> H' b = some (.frz o (.own b))) : LamAt H' f qual params body scope cl := by
 obtain ⟨pm, c', ctv, oc, e1, e2, r⟩ := h
 exact ⟨pm, c', ctv, oc, s _ _ e1, s _ _ e2, r⟩
theorem Knows.kept {H H' : Hp} {c : Addr} {v : V} (h : Knows H c v) (s : ∀ b o, H b = some (.frz o (.own b)) -> H' b = some (.frz o (.own b))) : Knows H' c v := by
 obtain ⟨o, u, e, r⟩ := h
 exact ⟨o, u, s _ _ e, r⟩
end L2
namespace TR
open PySem L2 PySem.W PyProof.Rows
seal PE PS PSs PA PT PW PG PGs PI
def top (i : Nat) : Stmt := PySem.Challenge.pw_tenreckon_k30_next_ones.main.body.getD i (.Pass ⟨0, 0, 0, 0⟩)
abbrev C0u : Stmt := (top 22)
section
variable {P : Program} {w : World} {K : Frag} {mg : Str -> Option Value} {base : Heap}
def Y1r (K : Frag) : Sp := fun vs H Q _ => ∃ v lo hi, vs = [v, .int lo, .int hi] /\ ((A2z lo hi v /\ Q (.bl true) H) \/ (C0y K H lo hi v /\ Q (.bl false) H))
theorem Y0t : FnScope ["thing", "least", "most"] ["thing", "least", "most"] (A3 C0u) := scK
theorem J3q {f : Addr} {fd : FuncData} (D : Def K mg "is_between" ["thing", "least", "most"] C0u f fd) (O : Own mg) (T : Kit K) : FnOk P w K mg base (CX1 P w) 1 f fd ["thing", "least", "most"] (Y1r K) := by
 refine FnOk.up (D.F.ok Y0t (fun vs H Q E h => ?_) (fun cdv A outer s H vs Q E hr h => ?_))
 . obtain ⟨v, lo, hi, rfl, _⟩ := h
   rfl
 . obtain ⟨v, lo, hi, rfl, h⟩ := h
   refine ⟨_, (A7 (G2 (PW.pt (C1k (A5g (A2m (G6g O.isi (pv 0) (pty O.int_ boot_int)))) (B0x (A2m (G6g O.isi (pv 0) (pty O.bool_ boot_bool)))))) (B0 (B9 J5r)) C9)
     (B0 (B9 (C3n (A0n Y2d (pv 0) (pv 1) (C7 _)) (D3v (A0n V4a (pv 0) (pv 2) (C7 _))))))), ?_⟩
   rcases h with ⟨⟨i, rfl, h1, h2⟩, k⟩ | ⟨⟨t, b1, b2, ty, k1, k2, bad⟩, k⟩
   . refine ⟨_, rfl, _, _, _, _, true, rfl, rfl, V3z i, T.int_int, _, rfl, Z2 ?_⟩
     refine ⟨_, rfl, _, _, _, _, false, rfl, rfl, V3z i, T.int_bool, _, rfl, Z2 ?_⟩
     refine ⟨_, rfl, _, rfl, _, _, rfl, rfl, _, rfl, B6h h1 ?_⟩
     refine ⟨_, rfl, _, rfl, _, _, rfl, rfl, ?_⟩
     show Q (.bl (decide (i <= hi))) H
     rw [decide_eq_true h2]
     exact k
   . refine ⟨_, rfl, _, _, _, _, b1, rfl, rfl, ty, k1, _, rfl, ?_⟩
     cases b1 with
     | false => exact A1n (A1n k)
     | true =>
       refine Z2 ⟨_, rfl, _, _, _, _, b2, rfl, rfl, ty, k2, _, rfl, ?_⟩
       cases b2 with
       | true => exact A1n k
       | false =>
         obtain ⟨i, rfl, out⟩ := bad.resolve_left (by decide)
         refine Z2 ⟨_, rfl, _, rfl, _, _, rfl, rfl, _, rfl, G9 (fun h1 => ?_) (fun h1 => ?_)⟩
         . refine ⟨_, rfl, _, rfl, _, _, rfl, rfl, ?_⟩
           show Q (.bl (decide (i <= hi))) H
           rw [decide_eq_false (by omega : ¬ i <= hi)]
           exact k
         . exact k
end
structure Err (K : Frag) (mg : Str -> Option Value) (x : Str) (CB : Addr) : Prop where
 g : mg x = some (.ref CB)
 q : excIn K CB [.type "ValueError", .type "Exception", .type "BaseException", .type "object"] "ValueError.__new__" = true
def B0a (lo hi : Int) : Prop := lo.natAbs.log2 < 1920 /\ hi.natAbs.log2 < 1920 /\ (Str.ofString (toString lo)).length <= 100 /\ (Str.ofString (toString hi)).length <= 100
abbrev A1v : Stmt := (top 49)
section
variable {P : Program} {w : World} {K : Frag} {mg : Str -> Option Value} {base : Heap}
def C2g (K : Frag) (CB : Addr) : Sp := fun vs H Q E => ∃ v lo hi, vs = [v, .int lo, .int hi] /\ B0a lo hi /\ ((A2z lo hi v /\ Q v H) \/ (C0y K H lo hi v /\ E (.ref CB) none H))
theorem G7h : FnScope ["thing", "least", "most"] ["thing", "least", "most"] (A3 A1v) := scK
theorem D3n {f f1 CB : Addr} {fd fd1 : FuncData} (D : Def K mg "bounded" ["thing", "least", "most"] A1v f fd) (D1 : Def K mg "is_between" ["thing", "least", "most"] C0u f1 fd1) (O : Own mg) (T : Kit K) (B : Err K mg "BadContext" CB) :
   FnOk P w K mg base (CX1 P w) 2 f fd ["thing", "least", "most"] (C2g K CB) := by
 have G1 := J3q (P := P) (w := w) (base := base) D1 O T
 refine D.F.okE G7h (fun vs H Q E h => ?_) (fun X cdv A outer s H vs Q E hX hr hx h => ?_)
 . obtain ⟨v, lo, hi, rfl, _⟩ := h
   rfl
 . subst hX
   obtain ⟨v, lo, hi, rfl, ⟨l1, l2, l3, l4⟩, h⟩ := h
   refine ⟨_, (A7 (G2 (A5g (A2m (C5 D1 G1 hr hx (A0 (pv 0) (A0 (pv 1) (A0 (pv 2) A8))))))
     (B0 (A1t (by rfl) B.g B.q PySem.F.excBase_ValueError hr.hd hx (A0 (G4a (.cons .lit (.cons (.int (pv 1)) (.cons .lit (.cons (.int (pv 2)) .nil))))) A8))) C9)
     (B0 (B9 (pv 0)))), ?_⟩
   rcases h with ⟨g, k⟩ | ⟨bad, k⟩
   . exact ⟨_, rfl, _, rfl, _, rfl, _, _, _, rfl, .inl ⟨g, _, rfl, Z2 ⟨_, rfl, k⟩⟩⟩
   . have a0 : Str.empty.length = 0 := rfl
     have a1 : (Str.ofString "not a whole number from ").length = 24 := by decide +kernel
     have a2 : (Str.ofString " to ").length = 4 := by decide +kernel
     have sz : ∀ {n : Nat}, n <= 1000 -> n <= sizeLine := fun h => Nat.le_of_lt (G7 h)
     refine ⟨_, rfl, _, rfl, _, rfl, _, _, _, rfl, .inr ⟨bad, _, rfl, A1n ?_⟩⟩
     exact ⟨_, rfl, sz (by rw [strLen_append]; omega), _, rfl, _, rfl, l1, _, rfl, sz (by rw [strLen_append, strLen_append]; omega), _, rfl, sz (by rw [strLen_append, strLen_append, strLen_append]; omega), _, rfl, _, rfl, l2, _, rfl, sz (by rw [strLen_append, strLen_append, strLen_append, strLen_append]; omega), sz (by rw [strLen_append, strLen_append, strLen_append, strLen_append]; omega), sz (by show 1 <= 1000; decide), k⟩
end
abbrev A0p : Stmt := (top 23)
section
variable {P : Program} {w : World} {K : Frag} {mg : Str -> Option Value} {base : Heap}
def G5y (K : Frag) (CB : Addr) : Sp := fun vs H Q E => ∃ v lo hi, vs = [v, .int lo, .int hi] /\ B0a lo hi /\
 ((A2z lo hi v /\ Q .non H) \/ (C0y K H lo hi v /\ E (.ref CB) none H))
theorem G7g : FnScope ["thing", "least", "most"] ["thing", "least", "most"] (A3 A0p) := scK
theorem B6m {f f1 CB : Addr} {fd fd1 : FuncData} (D : Def K mg "need_between" ["thing", "least", "most"] A0p f fd) (D1 : Def K mg "is_between" ["thing", "least", "most"] C0u f1 fd1) (O : Own mg) (T : Kit K) (B : Err K mg "BadNumber" CB) :
   FnOk P w K mg base (CX1 P w) 2 f fd ["thing", "least", "most"] (G5y K CB) := by
 have G1 := J3q (P := P) (w := w) (base := base) D1 O T
 refine D.F.okE G7g (fun vs H Q E h => ?_) (fun X cdv A outer s H vs Q E hX hr hx h => ?_)
 . obtain ⟨v, lo, hi, rfl, _⟩ := h
   rfl
 . subst hX
   obtain ⟨v, lo, hi, rfl, ⟨l1, l2, l3, l4⟩, h⟩ := h
   refine ⟨_, (B0 (G2 (A5g (A2m (C5 D1 G1 hr hx (A0 (pv 0) (A0 (pv 1) (A0 (pv 2) A8))))))
     (B0 (A1t (by rfl) B.g B.q PySem.F.excBase_ValueError hr.hd hx (A0 (G4a (.cons .lit (.cons (.int (pv 1)) (.cons .lit (.cons (.int (pv 2)) .nil))))) A8))) C9)), ?_⟩
   rcases h with ⟨g, k⟩ | ⟨bad, k⟩
   . exact ⟨_, rfl, _, rfl, _, rfl, _, _, _, rfl, .inl ⟨g, _, rfl, Z2 k⟩⟩
   . have a0 : Str.empty.length = 0 := rfl
     have a1 : (Str.ofString "not a whole number from ").length = 24 := by decide +kernel
     have a2 : (Str.ofString " to ").length = 4 := by decide +kernel
     have sz : ∀ {n : Nat}, n <= 1000 -> n <= sizeLine := fun h => Nat.le_of_lt (G7 h)
     refine ⟨_, rfl, _, rfl, _, rfl, _, _, _, rfl, .inr ⟨bad, _, rfl, A1n ?_⟩⟩
     exact ⟨_, rfl, sz (by rw [strLen_append]; omega), _, rfl, _, rfl, l1, _, rfl, sz (by rw [strLen_append, strLen_append]; omega), _, rfl, sz (by rw [strLen_append, strLen_append, strLen_append]; omega), _, rfl, _, rfl, l2, _, rfl, sz (by rw [strLen_append, strLen_append, strLen_append, strLen_append]; omega), sz (by rw [strLen_append, strLen_append, strLen_append, strLen_append]; omega), sz (by show 1 <= 1000; decide), k⟩
end
abbrev C1d : Stmt := (U7 (top 15) 0)
abbrev B4r : Stmt := (top 19)
abbrev A4b : Stmt := (top 21)
structure Num (K : Frag) (mg : Str -> Option Value) (CN : Addr) : Prop where
 g : mg "Number" = some (.ref CN)
 cl : Cls K CN
 n1 : NoAttr K CN "kind"
 n2 : NoAttr K CN "sign"
 n3 : NoAttr K CN "figures"
 n4 : NoAttr K CN "power"
 ca : findIn K (.ref CN) "__class__" = some (some (.builtin "object.__class__"))
 sn : specialIn K (.builtin "object.__class__") "__get__" = some (some (.builtin "getset_descriptor.__get__"))
 tk : takesIn K (.builtin "object.__class__") = some true
 ob : mroIn K CN (.type "object") = some true
 self : kitOne K (.ref CN) (.ref CN) = some true
def C0z (k s f p : V) : List (Str × V) := U6 "power" p (U6 "figures" f (U6 "sign" s (U6 "kind" k [])))
theorem e12 : ¬ (("kind" : Str) = "sign") := by decide +kernel
theorem e13 : ¬ (("kind" : Str) = "figures") := by decide +kernel
theorem e14 : ¬ (("kind" : Str) = "power") := by decide +kernel
theorem e23 : ¬ (("sign" : Str) = "figures") := by decide +kernel
theorem e24 : ¬ (("sign" : Str) = "power") := by decide +kernel
theorem e34 : ¬ (("figures" : Str) = "power") := by decide +kernel
theorem V4s (k s f p : V) : (C0z k s f p).lookup ("kind" : Str) = some k := by unfold C0z; rw [D4, if_neg e14, D4, if_neg e13, D4, if_neg e12, D4, if_pos rfl]
theorem G7m (k s f p : V) : (C0z k s f p).lookup ("sign" : Str) = some s := by unfold C0z; rw [D4, if_neg e24, D4, if_neg e23, D4, if_pos rfl]
theorem J4n (k s f p : V) : (C0z k s f p).lookup ("figures" : Str) = some f := by unfold C0z; rw [D4, if_neg e34, D4, if_pos rfl]
theorem V5y (k s f p : V) : (C0z k s f p).lookup ("power" : Str) = some p := by unfold C0z; rw [D4, if_pos rfl]
def NumAt (CN : Addr) (H : Hp) (n : Addr) (k s f p : V) : Prop := ∃ dx, H n = some (.ins CN dx (C0z k s f p))
theorem NumAt.same {CN : Addr} {H H' : Hp} {n : Addr} {k s f p : V} (h : NumAt CN H n k s f p) (e : Same H H') : NumAt CN H' n k s f p := by
 obtain ⟨dx, z⟩ := h
 exact ⟨dx, e _ _ z⟩
theorem Num.ty {K : Frag} {mg : Str -> Option Value} {CN : Addr} (N : Num K mg CN) {H : Hp} {n : Addr} {k s f p : V} (h : NumAt CN H n k s f p) : TyE K H (.ref n) (.ref CN) := by
 obtain ⟨dx, z⟩ := h
 exact .of (.ins z N.cl N.ca N.sn N.tk N.ob)
section
variable {P : Program} {w : World} {K : Frag} {mg : Str -> Option Value} {base : Heap}
def C3k (CN : Addr) : Sp := fun vs H Q _ => ∃ (p dx : Addr) (k s f pw : V), vs = [.ref p, k, s, f, pw] /\ H p = some (.ins CN dx []) /\ ∀ H', H' p = some (.ins CN dx (C0z k s f pw)) -> (∀ b o, H b = some o -> b ≠ p -> H' b = some o) -> Q .non H'
theorem V4v : FnScope ["self", "kind", "sign", "figures", "power"] ["self", "kind", "sign", "figures", "power"] (A3 C1d) := scK
theorem U8y {f CN : Addr} {fd : FuncData} (F : Fun K "__init__" "Number.__init__" C1d f fd) (N : Num K mg CN) : FnOk P w K mg base CX0 1 f fd ["self", "kind", "sign", "figures", "power"] (C3k CN) := by
 refine F.ok V4v (fun vs H Q E h => ?_) (fun cdv A outer s H vs Q E hr h => ?_)
 . obtain ⟨p, dx, a, b, c, d, rfl, _⟩ := h
   rfl
 . obtain ⟨p, dx, a, b, c, d, rfl, hp, k⟩ := h
   refine ⟨_, A7 (Z0 (pv 0) (pv 1) rfl) (A7 (Z0 (pv 0) (pv 2) rfl) (A7 (Z0 (pv 0) (pv 3) rfl) (B0 (Z0 (pv 0) (pv 4) rfl)))), ?_⟩
   have l : ∀ (fs : List (Str × V)) (f : Str) (v : V) (n : Nat), fs.length <= n -> (U6 f v fs).length <= n + 1 := fun fs f v n h => Nat.le_trans (A0r f v fs) (Nat.succ_le_succ h)
   refine ⟨_, rfl, _, rfl, p, CN, dx, [], rfl, hp, N.cl, N.n1, (by show 0 < 1000; decide), ?_⟩
   refine ⟨_, rfl, _, rfl, p, CN, dx, _, rfl, A9, N.cl, N.n2, Nat.lt_of_le_of_lt (l _ _ _ 0 (Nat.le_refl _)) (by decide), ?_⟩
   refine ⟨_, rfl, _, rfl, p, CN, dx, _, rfl, A9, N.cl, N.n3, Nat.lt_of_le_of_lt (l _ _ _ 1 (l _ _ _ 0 (Nat.le_refl _))) (by decide), ?_⟩
   refine ⟨_, rfl, _, rfl, p, CN, dx, _, rfl, A9, N.cl, N.n4, Nat.lt_of_le_of_lt (l _ _ _ 2 (l _ _ _ 1 (l _ _ _ 0 (Nat.le_refl _)))) (by decide), ?_⟩
   refine k _ A9 fun b o e hb => ?_
   rw [B3 hb, B3 hb, B3 hb, B3 hb]
   exact e
structure MakeN (P : Program) (w : World) (K : Frag) (mg : Str -> Option Value) (base : Heap) (CN fI : Addr) (fdI : FuncData) : Prop where
 m : Mk K CN fI
 g : FnOk P w K mg base CX0 1 fI fdI ["self", "kind", "sign", "figures", "power"] (C3k CN)
 b : Binds K fdI ["self", "kind", "sign", "figures", "power"] []
theorem made {CN : Addr} {H : Hp} {Q : VK} {k s f p : V} (h : ∀ n H', H n = none -> Same H H' -> NumAt CN H' n k s f p -> Q (.ref n) H') :
   ∀ x dx, H x = none -> H dx = none -> dx ≠ x -> C3k CN (.ref x :: ([k, s, f, p] ++ [])) (upd (upd H dx (.own x)) x (.ins CN dx [])) (fun v H2 => v = .non /\ Q (.ref x) H2) E0 := by
 intro x dx nx nd ne
 refine ⟨x, dx, k, s, f, p, rfl, A9, fun H' e kp => ⟨rfl, h x H' nx (fun b o z => ?_) ⟨dx, e⟩⟩⟩
 refine kp b o ?_ (C6 z nx)
 rw [B3 (C6 z nx), B3 (C6 z nd)]
 exact z
def J2w (K : Frag) (CN : Addr) (H : Hp) (v : V) : Prop := ∃ t, TyE K H v t /\ kitOne K t (.ref CN) = some false
def C3r (K : Frag) (CN CB : Addr) : Sp := fun vs H Q E => ∃ v, vs = [v] /\ ((∃ n k s f p, v = .ref n /\ NumAt CN H n k s f p /\ Q v H) \/ (J2w K CN H v /\ E (.ref CB) none H))
theorem V0x : FnScope ["thing"] ["thing"] (A3 A4b) := scK
theorem C9x {f CN CB : Addr} {fd : FuncData} (D : Def K mg "need_number" ["thing"] A4b f fd) (O : Own mg) (T : Kit K) (B : Err K mg "BadNumber" CB) (N : Num K mg CN) : FnOk P w K mg base (CX1 P w) 1 f fd ["thing"] (C3r K CN CB) := by
 refine D.F.okE V0x (fun vs H Q E h => ?_) (fun X cdv A outer s H vs Q E hX hr hx h => ?_)
 . obtain ⟨v, rfl, _⟩ := h
   rfl
 . subst hX
   obtain ⟨v, rfl, h⟩ := h
   refine ⟨_, (A7 (G2 (A5g (A2m (G6g O.isi (pv 0) (J3n N.g)))) (B0 (A1t (by rfl) B.g B.q PySem.F.excBase_ValueError hr.hd hx (A0 B5 A8))) C9)
     (B0 (B9 (pv 0)))), ?_⟩
   rcases h with ⟨n, a, b, c, d, rfl, hn, k⟩ | ⟨⟨t, ty, k1⟩, k⟩
   . exact ⟨_, rfl, _, _, _, _, true, rfl, rfl, N.ty hn, N.self, _, rfl, Z2 ⟨_, rfl, k⟩⟩
   . exact ⟨_, rfl, _, _, _, t, false, rfl, rfl, ty, k1, _, rfl, A1n ⟨Nat.le_of_lt (G7 (by show 1 <= 1000; decide)), k⟩⟩
def D3g (K : Frag) (CN CB : Addr) : Sp := fun vs H Q E => ∃ v, vs = [v] /\ ((∃ n k s f p, v = .ref n /\ NumAt CN H n k s f p /\ ∀ t, H t = none -> Q (.ref t) (upd H t (.tup [k, s, f, p]))) \/ (J2w K CN H v /\ E (.ref CB) none H))
theorem V6w : FnScope ["number"] ["number"] (A3 B4r) := scK
theorem U8p {f f1 CN CB : Addr} {fd fd1 : FuncData} (D : Def K mg "told" ["number"] B4r f fd) (D_need_number : Def K mg "need_number" ["thing"] A4b f1 fd1) (O : Own mg) (T : Kit K) (B : Err K mg "BadNumber" CB) (N : Num K mg CN) :
   FnOk P w K mg base (CX1 P w) 2 f fd ["number"] (D3g K CN CB) := by
 have G_need_number := C9x (P := P) (w := w) (base := base) D_need_number O T B N
 refine D.F.okE V6w (fun vs H Q E h => ?_) (fun X cdv A outer s H vs Q E hX hr hx h => ?_)
 . obtain ⟨v, rfl, _⟩ := h
   rfl
 . subst hX
   obtain ⟨v, rfl, h⟩ := h
   refine ⟨_, (A7 (Y7 (C5 D_need_number G_need_number hr hx (A0 (pv 0) A8)))
     (B0 (B9 (U5 (A0 (G0 (pv 0) rfl) (A0 (G0 (pv 0) rfl) (A0 (G0 (pv 0) rfl) (A0 (G0 (pv 0) rfl) A8)))))))), ?_⟩
   rcases h with ⟨n, a, b, c, d, rfl, hn, k⟩ | ⟨bad, k⟩
   . refine ⟨_, rfl, _, rfl, .inl ⟨n, a, b, c, d, rfl, hn, ?_⟩⟩
     obtain ⟨dx, e⟩ := hn
     exact ⟨_, rfl, n, CN, dx, _, _, rfl, e, N.cl, N.n1, V4s _ _ _ _, _, rfl, n, CN, dx, _, _, rfl, e, N.cl, N.n2, G7m _ _ _ _, _, rfl, n, CN, dx, _, _, rfl, e, N.cl, N.n3, J4n _ _ _ _, _, rfl, n, CN, dx, _, _, rfl, e, N.cl, N.n4, V5y _ _ _ _,
       Nat.le_of_lt (G7 (by show 4 <= 1000; decide)), k⟩
   . exact ⟨_, rfl, _, rfl, .inr ⟨bad, k⟩⟩
end
abbrev A8h : Stmt := (top 16)
abbrev C8t : Stmt := (top 17)
abbrev A0t : Stmt := (top 18)
section
variable {P : Program} {w : World} {K : Frag} {mg : Str -> Option Value} {base : Heap}
def G4r (K : Frag) (CN CB : Addr) : Sp := fun vs H Q E => ∃ x y z, vs = [x, y, z] /\
 ((A2z 0 1 x /\ A2z 0 (10 ^ 60 - 1) y /\ A2z (-200) 200 z /\ ∀ n H', H n = none -> Same H H' -> NumAt CN H' n (.str "plain") x y z -> Q (.ref n) H') \/
  ((C0y K H 0 1 x \/ (A2z 0 1 x /\ (C0y K H 0 (10 ^ 60 - 1) y \/ (A2z 0 (10 ^ 60 - 1) y /\ C0y K H (-200) 200 z)))) /\ E (.ref CB) none H))
theorem U8f : FnScope ["sign", "figures", "power"] ["sign", "figures", "power"] (A3 A8h) := scK
theorem b01 : B0a 0 1 := by unfold B0a; decide +kernel
theorem b60 : B0a 0 (10 ^ 60 - 1) := by unfold B0a; decide +kernel
theorem Y2f : B0a (-200) 200 := by unfold B0a; decide +kernel
theorem J3w {f f1 f2 fI CN CB : Addr} {fd fd1 fd2 fdI : FuncData} (D : Def K mg "plain" ["sign", "figures", "power"] A8h f fd) (D_need_between : Def K mg "need_between" ["thing", "least", "most"] A0p f1 fd1) (D2 : Def K mg "is_between" ["thing", "least", "most"] C0u f2 fd2)
   (O : Own mg) (T : Kit K) (B : Err K mg "BadNumber" CB) (N : Num K mg CN) (M : MakeN P w K mg base CN fI fdI) : FnOk P w K mg base (CX1 P w) 3 f fd ["sign", "figures", "power"] (G4r K CN CB) := by
 have G_need_between := B6m (P := P) (w := w) (base := base) D_need_between D2 O T B
 refine D.F.okE U8f (fun vs H Q E h => ?_) (fun X cdv A outer s H vs Q E hX hr hx h => ?_)
 . obtain ⟨x, y, z, rfl, _⟩ := h
   rfl
 . subst hX
   obtain ⟨x, y, z, rfl, h⟩ := h
   refine ⟨_, (A7 (Y7 (C5 D_need_between G_need_between hr hx (A0 (pv 0) (A0 A1 (A0 A1 A8)))))
     (A7 (Y7 (C5 D_need_between G_need_between hr hx (A0 (pv 1) (A0 A1 (A0 (B1 D9 (B1 J5f A1 A1) A1) A8)))))
     (A7 (Y7 (C5 D_need_between G_need_between hr hx (A0 (pv 2) (A0 (C1u B0t A1) (A0 A1 A8)))))
     (B0 (B9 (C4p M.m M.g hr rfl N.g M.b .nil J3u (A0 B5 (A0 (pv 0) (A0 (pv 1) (A0 (pv 2) A8)))))))))), ?_⟩
   have pw : V0m 10 60 := ⟨by decide, by decide, by decide⟩
   rcases h with ⟨⟨i1, rfl, l1, u1⟩, ⟨i2, rfl, l2, u2⟩, ⟨i3, rfl, l3, u3⟩, k⟩ | ⟨bad, k⟩
   . refine ⟨_, rfl, _, _, _, rfl, b01, .inl ⟨⟨i1, rfl, l1, u1⟩, ?_⟩⟩
     refine ⟨_, rfl, _, _, rfl, rfl, pw, _, _, rfl, rfl, _, _, _, rfl, b60, .inl ⟨⟨i2, rfl, l2, u2⟩, ?_⟩⟩
     refine ⟨_, rfl, _, rfl, _, _, _, rfl, Y2f, .inl ⟨⟨i3, rfl, l3, u3⟩, ?_⟩⟩
     exact ⟨_, rfl, _, rfl, _, rfl, made k⟩
   . rcases bad with bad | ⟨⟨i1, rfl, l1, u1⟩, bad | ⟨⟨i2, rfl, l2, u2⟩, bad⟩⟩
     . exact ⟨_, rfl, _, _, _, rfl, b01, .inr ⟨bad, k⟩⟩
     . refine ⟨_, rfl, _, _, _, rfl, b01, .inl ⟨⟨i1, rfl, l1, u1⟩, ?_⟩⟩
       exact ⟨_, rfl, _, _, rfl, rfl, pw, _, _, rfl, rfl, _, _, _, rfl, b60, .inr ⟨bad, k⟩⟩
     . refine ⟨_, rfl, _, _, _, rfl, b01, .inl ⟨⟨i1, rfl, l1, u1⟩, ?_⟩⟩
       refine ⟨_, rfl, _, _, rfl, rfl, pw, _, _, rfl, rfl, _, _, _, rfl, b60, .inl ⟨⟨i2, rfl, l2, u2⟩, ?_⟩⟩
       exact ⟨_, rfl, _, rfl, _, _, _, rfl, Y2f, .inr ⟨bad, k⟩⟩
def J4s (K : Frag) (CN CB : Addr) : Sp := fun vs H Q E => ∃ x, vs = [x] /\ ((A2z 0 1 x /\ ∀ n H', H n = none -> Same H H' -> NumAt CN H' n (.str "end") x (.int 0) (.int 0) -> Q (.ref n) H') \/ (C0y K H 0 1 x /\ E (.ref CB) none H))
theorem Y0r : FnScope ["sign"] ["sign"] (A3 C8t) := scK
theorem V5v {f f1 f2 fI CN CB : Addr} {fd fd1 fd2 fdI : FuncData} (D : Def K mg "end" ["sign"] C8t f fd) (D_need_between : Def K mg "need_between" ["thing", "least", "most"] A0p f1 fd1) (D2 : Def K mg "is_between" ["thing", "least", "most"] C0u f2 fd2)
   (O : Own mg) (T : Kit K) (B : Err K mg "BadNumber" CB) (N : Num K mg CN) (M : MakeN P w K mg base CN fI fdI) : FnOk P w K mg base (CX1 P w) 3 f fd ["sign"] (J4s K CN CB) := by
 have G_need_between := B6m (P := P) (w := w) (base := base) D_need_between D2 O T B
 refine D.F.okE Y0r (fun vs H Q E h => ?_) (fun X cdv A outer s H vs Q E hX hr hx h => ?_)
 . obtain ⟨x, rfl, _⟩ := h
   rfl
 . subst hX
   obtain ⟨x, rfl, h⟩ := h
   refine ⟨_, (A7 (Y7 (C5 D_need_between G_need_between hr hx (A0 (pv 0) (A0 A1 (A0 A1 A8)))))
     (B0 (B9 (C4p M.m M.g hr rfl N.g M.b .nil J3u (A0 B5 (A0 (pv 0) (A0 A1 (A0 A1 A8)))))))), ?_⟩
   rcases h with ⟨⟨i1, rfl, l1, u1⟩, k⟩ | ⟨bad, k⟩
   . refine ⟨_, rfl, _, _, _, rfl, b01, .inl ⟨⟨i1, rfl, l1, u1⟩, ?_⟩⟩
     exact ⟨_, rfl, made k⟩
   . exact ⟨_, rfl, _, _, _, rfl, b01, .inr ⟨bad, k⟩⟩
def B0n (CN : Addr) : Sp := fun vs H Q _ => vs = [] /\ ∀ n H', H n = none -> Same H H' -> NumAt CN H' n (.str "none") (.int 0) (.int 0) (.int 0) -> Q (.ref n) H'
theorem G6f : FnScope [] [] (A3 A0t) := scK
theorem D4j {f fI CN : Addr} {fd fdI : FuncData} (D : Def K mg "nothing" [] A0t f fd) (N : Num K mg CN) (M : MakeN P w K mg base CN fI fdI) : FnOk P w K mg base (CX1 P w) 3 f fd [] (B0n CN) := by
 refine D.F.okE G6f (fun vs H Q E h => ?_) (fun X cdv A outer s H vs Q E hX hr hx h => ?_)
 . obtain ⟨rfl, _⟩ := h
   rfl
 . subst hX
   obtain ⟨rfl, k⟩ := h
   refine ⟨_, (B0 (B9 (C4p M.m M.g hr rfl N.g M.b .nil J3u (A0 B5 (A0 A1 (A0 A1 (A0 A1 A8))))))), ?_⟩
   exact made k
end
abbrev B6p : Stmt := (top 20)
section
variable {P : Program} {w : World} {K : Frag} {mg : Str -> Option Value} {base : Heap}
def J4w (CN : Addr) : Sp := fun vs H Q _ => ∃ n k s f p, vs = [.ref n] /\ NumAt CN H n k s (.int f) (.int p) /\ f.natAbs < 2 ^ 300 /\ Q (.int (p + ((Str.ofString (toString f)).length : Nat) - 1)) H
theorem V5h : FnScope ["number"] ["number"] (A3 B6p) := scK
theorem U9h {f CN : Addr} {fd : FuncData} (D : Def K mg "lead_of" ["number"] B6p f fd) (O : Own mg) (N : Num K mg CN) : FnOk P w K mg base (CX1 P w) 1 f fd ["number"] (J4w CN) := by
 refine D.F.okE V5h (fun vs H Q E h => ?_) (fun X cdv A outer s H vs Q E hX hr hx h => ?_)
 . obtain ⟨n, a, b, c, d, rfl, _⟩ := h
   rfl
 . subst hX
   obtain ⟨n, a, b, fg, pw, rfl, ⟨dx, e⟩, hf, k⟩ := h
   refine ⟨_, (B0 (B9 (B1 D9 (B1 G8 (G0 (pv 0) rfl) (U0 A1f (by rfl) O.len_ PySem.boot_len (A0 (V0 A1c (by rfl) O.str_ boot_str (A0 (G0 (pv 0) rfl) A8)) A8))) A1))), ?_⟩
   have lg : fg.natAbs.log2 < 1920 := Nat.lt_trans (B5x hf (by decide)) (by decide)
   exact ⟨_, rfl, n, CN, dx, _, _, rfl, e, N.cl, N.n4, V5y _ _ _ _, _, rfl, n, CN, dx, _, _, rfl, e, N.cl, N.n3, J4n _ _ _ _, _, rfl, lg, _, rfl, int_text_fits lg, _, _, rfl, rfl, _, _, rfl, rfl, k⟩
end
abbrev Y8 : Stmt := (top 2)
abbrev A0x : Stmt := (top 3)
theorem C3w {x k : Nat} (h : x < 2 ^ k) (hk : k <= 1048576) : Builtin.Int.intBits (x : Int) <= 2 ^ 20 := by
 unfold Builtin.Int.intBits
 split
 . exact Nat.zero_le _
 . have z : (x : Int).natAbs ≠ 0 := by
     intro z
     rename_i hz
     exact hz (by simpa using z)
   have : (x : Int).natAbs.log2 < k := (Nat.log2_lt z).mpr h
   have e : (2 : Nat) ^ 20 = 1048576 := by decide
   omega
theorem B6x {b s j n : Nat} (hb : b < 2 ^ s) (hj : j <= n) (hn : n * s < 1048576) : Builtin.Int.intBits ((b ^ j : Nat) : Int) <= 2 ^ 20 := by
 refine C3w (k := n * s + 1) ?_ hn
 have a : b ^ j <= (2 ^ s) ^ j := Nat.pow_le_pow_left (Nat.le_of_lt hb) j
 have c : (2 ^ s) ^ j <= 2 ^ (n * s) := by
   rw [<- Nat.pow_mul, Nat.mul_comm n s]
   exact Nat.pow_le_pow_right (by decide) (Nat.mul_le_mul_left s hj)
 have d : 2 ^ (n * s) < 2 ^ (n * s + 1) := Nat.pow_lt_pow_right (by decide) (by omega)
 exact Nat.lt_of_le_of_lt a (Nat.lt_of_le_of_lt c d)
theorem B0u {b s i j n : Nat} (hb : b < 2 ^ s) (hi : i <= n) (hj : j <= n) (hn : n * s < 1048576) : IntMulOk ((b ^ i : Nat) : Int) ((b ^ j : Nat) : Int) := IntMulOk.of_bits (B6x hb hi hn) (B6x hb hj hn)
section
variable {P : Program} {w : World} {K : Frag} {mg : Str -> Option Value} {base : Heap}
def B4s : Sp := fun vs H Q _ => ∃ b n s : Nat, vs = [.int (b : Int), .int (n : Int)] /\ b < 2 ^ s /\ n * s < 1048576 /\ Q (.int ((b ^ n : Nat) : Int)) H
theorem scProductOf : FnScope ["whole", "count", "product"] ["whole", "count"] (A3 Y8) := scK
theorem C3q {f : Addr} {fd : FuncData} (D : Def K mg "product_of" ["whole", "count"] Y8 f fd) : FnOk P w K mg base (CX1 P w) 1 f fd ["whole", "count"] B4s := by
 refine FnOk.up (D.F.ok scProductOf (fun vs H Q E h => ?_) (fun cdv A outer s H vs Q E hr h => ?_))
 . obtain ⟨b, n, z, rfl, _⟩ := h
   rfl
 . obtain ⟨b, n, z, rfl, hb, hn, k⟩ := h
   refine ⟨_, (A7 (C8 (i := 2) scProductOf.nd rfl (Or.inl rfl) A1)
     (A7 (C8n PassesOwn.never (C0 B5u (pv 1) A1 (C7 _)) (A7 (G2 (C0 G4 (B1 D7 (pv 1) A1) A1 (C7 _)) (B0 (C8 (i := 2) scProductOf.nd rfl (Or.inl rfl) (B1 U8 (pv 2) (pv 0)))) C9)
     (A7 (C8 (i := 0) scProductOf.nd rfl (Or.inl rfl) (B1 U8 (pv 0) (pv 0)))
     (B0 (C8 (i := 1) scProductOf.nd rfl (Or.inl rfl) (B1 D3 (pv 1) A1))))))
     (B0 (B9 (pv 2))))), ?_⟩
   have d2 : (0 : Int) < 2 /\ (2 : Int).natAbs.log2 < 9000 := ⟨by decide, by decide +kernel⟩
   refine C9t (fun σ H2 => H2 = H /\ ∃ i m c : Nat, m + i * c = n /\ σ = [some (.int ((b ^ i : Nat) : Int)), some (.int (c : Int)), some (.int ((b ^ m : Nat) : Int))]) (fun σ _ => match σ with | [_, some (.int c), _] => c.toNat | _ => 0) ?_ ?_ ?_
   . exact ⟨rfl, 1, 0, n, by omega, by rw [Nat.pow_one]; rfl⟩
   . rintro σ H2 ⟨rfl, i, m, c, hc, rfl⟩
     refine ⟨_, rfl, _, _, rfl, rfl, _, rfl, G9 (fun h0 => ?_) (fun h0 => ?_)⟩
     . have c1 : 1 <= c := by
         have : (0 : Int) < c := h0
         omega
       have hi : i <= n := Nat.le_trans (Nat.le_mul_of_pos_right i c1) (by omega)
       have hm : m <= n := by omega
       have sq : ((b ^ i : Nat) : Int) * ((b ^ i : Nat) : Int) = ((b ^ (2 * i) : Nat) : Int) := by rw [Nat.two_mul, Nat.pow_add]; rfl
       have lt : ((c : Int) / 2).toNat < (c : Int).toNat := by omega
       refine ⟨_, rfl, _, _, rfl, rfl, d2.1, rfl, _, rfl, G9 (fun ho => ?_) (fun he => ?_)⟩
       . have ho : (c : Int) % 2 = 1 := by injection ho
         have mu : ((b ^ m : Nat) : Int) * ((b ^ i : Nat) : Int) = ((b ^ (m + i) : Nat) : Int) := by rw [Nat.pow_add]; rfl
         refine ⟨_, rfl, _, rfl, _, _, rfl, rfl, B0u hb hm hi hn, _, rfl, _, rfl, _, _, rfl, rfl, B0u hb hi hi hn, _, rfl, _, _, rfl, rfl, d2, ⟨rfl, 2 * i, m + i, c / 2, ?_, ?_⟩, lt⟩
         . have e : i * c = i * (2 * (c / 2) + 1) := congrArg (i * ·) (by omega)
           rw [Nat.mul_add, Nat.mul_one, <- Nat.mul_assoc, Nat.mul_comm i 2] at e
           omega
         . show [some (V.int (((b ^ i : Nat) : Int) * ((b ^ i : Nat) : Int))), some (V.int ((c : Int) / 2)), some (V.int (((b ^ m : Nat) : Int) * ((b ^ i : Nat) : Int)))] = _
           rw [sq, mu]
           rfl
       . have he : ¬ (c : Int) % 2 = 1 := fun z => he (congrArg V.int z)
         refine ⟨_, rfl, _, rfl, _, _, rfl, rfl, B0u hb hi hi hn, _, rfl, _, _, rfl, rfl, d2, ⟨rfl, 2 * i, m, c / 2, ?_, ?_⟩, lt⟩
         . have e : i * c = i * (2 * (c / 2)) := congrArg (i * ·) (by omega)
           rw [<- Nat.mul_assoc, Nat.mul_comm i 2] at e
           omega
         . show [some (V.int (((b ^ i : Nat) : Int) * ((b ^ i : Nat) : Int))), some (V.int ((c : Int) / 2)), some (V.int ((b ^ m : Nat) : Int))] = _
           rw [sq]
           rfl
     . have c0 : c = 0 := by
         have : ¬ (0 : Int) < c := h0
         omega
       subst c0
       have hm : m = n := by omega
       subst hm
       exact ⟨_, rfl, k⟩
   . rintro σ H2 Q1 Q2 hQ ⟨v, e, i, j, e1, e2, b, e3, q⟩
     exact ⟨v, e, i, j, e1, e2, b, e3, hQ _ _ q⟩
def A7d : Sp := fun vs H Q _ => ∃ n : Nat, vs = [.int (n : Int)] /\ n <= 4000 /\ Q (.int ((10 ^ n : Nat) : Int)) H
theorem U9x : FnScope ["count"] ["count"] (A3 A0x) := scK
theorem J2t {f f1 : Addr} {fd fd1 : FuncData} (D : Def K mg "ten_to" ["count"] A0x f fd) (D_product_of : Def K mg "product_of" ["whole", "count"] Y8 f1 fd1) (G_product_of : FnOk P w K mg base (CX1 P w) 1 f1 fd1 ["whole", "count"] B4s) : FnOk P w K mg base (CX1 P w) 2 f fd ["count"] A7d := by
 refine FnOk.up (D.F.ok U9x (fun vs H Q E h => ?_) (fun cdv A outer s H vs Q E hr h => ?_))
 . obtain ⟨n, rfl, _⟩ := h
   rfl
 . obtain ⟨n, rfl, hn, k⟩ := h
   have hx : D8 (Z8 CX0 P w K mg base ["count"] "ten_to" (A3 A0x) f cdv A outer s H E).nox EKF := A0q
   refine ⟨_, (B0 (B9 (C5 D_product_of G_product_of hr hx (A0 A1 (A0 (pv 0) A8))))), ?_⟩
   exact ⟨_, rfl, 10, n, 4, rfl, by decide, by omega, k⟩
end
inductive Kd where
 | plain | end_ | none
def Kd.str : Kd -> Str
 | .plain => "plain"
 | .end_ => "end"
 | .none => "none"
theorem Kd.str_inj {a b : Kd} (h : a.str = b.str) : a = b := by
 cases a <;> cases b <;> first | rfl | exact absurd h (by decide +kernel)
structure Nm where
 k : Kd
 s : Int
 f : Int
 p : Int
def Nm.vs (x : Nm) : List V := [.str x.k.str, .int x.s, .int x.f, .int x.p]
structure Nm.Ok (x : Nm) : Prop where
 s0 : 0 <= x.s
 s1 : x.s <= 1
 f0 : 0 <= x.f
 f1 : x.f <= 10 ^ 60 - 1
 p0 : -200 <= x.p
 p1 : x.p <= 200
def NumIs (CN : Addr) (H : Hp) (n : Addr) (x : Nm) : Prop := NumAt CN H n (.str x.k.str) (.int x.s) (.int x.f) (.int x.p)
theorem NumIs.same {CN : Addr} {H H' : Hp} {n : Addr} {x : Nm} (h : NumIs CN H n x) (e : Same H H') : NumIs CN H' n x := NumAt.same h e
def A6 (n : Int) : Int := ((10 ^ n.toNat : Nat) : Int)
theorem B8 (n : Int) : 0 < A6 n := Int.natCast_pos.mpr (Nat.pow_pos (by decide))
theorem neS {a b : Kd} (h : ¬ V.str a.str = V.str b.str) : a ≠ b := fun q => h (by rw [q])
theorem eqS {a b : Kd} (h : V.str a.str = V.str b.str) : a = b := Kd.str_inj (by injection h)
theorem G6y {d : Int} (h : d <= 4000) : Builtin.Int.intBits (A6 d) <= 2 ^ 20 := B6x (b := 10) (s := 4) (n := 4000) (by decide) (by omega) (by decide)
def A5v (left low : Int) : Int := (if decide (0 < left) = true then 1 else 0) + (if decide (low <= 2 * left) = true then 1 else 0) + (if decide (low < 2 * left) = true then 1 else 0)
theorem Y0m (s : Int) : (if (0 : Int) > s then 0 else s) = ((s.toNat : Nat) : Int) := by
 by_cases h : (0 : Int) > s
 . rw [if_pos h]; omega
 . rw [if_neg h]; omega
def Y5 (t b s : Int) : Prop := b * A6 (-s) <= t * A6 s /\ t * A6 s < 10 * (b * A6 (-s))
theorem J5q (n : Nat) : A6 (n : Int) = ((10 ^ n : Nat) : Int) := rfl
theorem B6f {s r : Int} (h : s <= r) : A6 r * A6 (-s) = A6 s * A6 (-r) * A6 (r - s) := by
 unfold A6
 rw [<- Int.natCast_mul, <- Int.natCast_mul, <- Int.natCast_mul, <- Nat.pow_add, <- Nat.pow_add, <- Nat.pow_add]
 congr 2
 omega
theorem A7j {d : Int} (h : 1 <= d) : 10 <= A6 d := by
 unfold A6
 have : 10 ^ 1 <= 10 ^ d.toNat := Nat.pow_le_pow_right (by decide) (by omega)
 omega
theorem B5j {a b : Int} (h : a <= b) : A6 a <= A6 b := by
 unfold A6
 exact Int.ofNat_le.mpr (Nat.pow_le_pow_right (by decide) (by omega))
theorem G4s {t b s r : Int} (hb : 0 < b) (h1 : Y5 t b s) (h2 : Y5 t b r) : r <= s := by
 apply Classical.byContradiction
 intro h
 have hs : s <= r := by omega
 have c := B6f hs
 have g := A7j (d := r - s) (by omega)
 have p1 := B8 (-s)
 have p2 := B8 (-r)
 have l1 : 0 < b * A6 (-s) := Int.mul_pos hb p1
 have l2 : 0 < b * A6 (-r) := Int.mul_pos hb p2
 have e : t * A6 r * (b * A6 (-s)) = t * A6 s * (b * A6 (-r)) * A6 (r - s) := by
   calc t * A6 r * (b * A6 (-s)) = t * b * (A6 r * A6 (-s)) := by ac_rfl
     _ = t * b * (A6 s * A6 (-r) * A6 (r - s)) := by rw [c]
     _ = t * A6 s * (b * A6 (-r)) * A6 (r - s) := by ac_rfl
 have a1 : t * A6 r * (b * A6 (-s)) < 10 * (b * A6 (-r)) * (b * A6 (-s)) := Int.mul_lt_mul_of_pos_right h2.2 l1
 have hp : 0 < t * A6 s := Int.lt_of_lt_of_le l1 h1.1
 have a2 : t * A6 s * (b * A6 (-r)) * 10 <= t * A6 s * (b * A6 (-r)) * A6 (r - s) := Int.mul_le_mul_of_nonneg_left g (Int.le_of_lt (Int.mul_pos hp l2))
 have a3 : b * A6 (-s) * (b * A6 (-r)) <= t * A6 s * (b * A6 (-r)) := Int.mul_le_mul_of_nonneg_right h1.1 (Int.le_of_lt l2)
 have e2 : 10 * (b * A6 (-r)) * (b * A6 (-s)) = b * A6 (-s) * (b * A6 (-r)) * 10 := by ac_rfl
 have a4 : b * A6 (-s) * (b * A6 (-r)) * 10 <= t * A6 s * (b * A6 (-r)) * 10 := Int.mul_le_mul_of_nonneg_right a3 (by decide)
 rw [e] at a1
 rw [e2] at a1
 exact absurd (Int.lt_of_lt_of_le a1 (Int.le_trans a4 a2)) (Int.lt_irrefl _)
theorem G4x {t b s r : Int} (hb : 0 < b) (h1 : Y5 t b s) (h2 : Y5 t b r) : s = r := Int.le_antisymm (G4s hb h2 h1) (G4s hb h1 h2)
def Sz (t : Int) : Prop := 1 <= t /\ t < A6 1000
theorem G4c (n : Nat) : 10 ^ n <= 2 ^ (4 * n) := by
 rw [Nat.pow_mul]
 exact Nat.pow_le_pow_left (by decide) n
theorem J2a (n : Nat) : 10 ^ (3 * n) <= 2 ^ (10 * n) := by
 rw [Nat.pow_mul, Nat.pow_mul]
 exact Nat.pow_le_pow_left (by decide) n
theorem Sz.nat {t : Int} (h : Sz t) : ∃ n : Nat, t = (n : Int) /\ 1 <= n /\ n < 10 ^ 1000 := by
 obtain ⟨n, rfl⟩ := Int.eq_ofNat_of_zero_le (show 0 <= t by have := h.1; omega)
 exact ⟨n, rfl, Int.ofNat_le.mp h.1, Int.ofNat_lt.mp h.2⟩
theorem C3u {t s : Int} (ht : Sz t) (h : s <= 1500) : ∃ n : Nat, t * A6 s = (n : Int) /\ n < 10 ^ 2502 := by
 obtain ⟨n, rfl, _, hn⟩ := ht.nat
 refine ⟨n * 10 ^ s.toNat, rfl, ?_⟩
 have a : 10 ^ s.toNat <= 10 ^ 1502 := Nat.pow_le_pow_right (by decide) (by omega)
 calc n * 10 ^ s.toNat <= n * 10 ^ 1502 := Nat.mul_le_mul_left n a
   _ < 10 ^ 1000 * 10 ^ 1502 := Nat.mul_lt_mul_of_pos_right hn (Nat.pow_pos (by decide))
   _ = 10 ^ 2502 := by rw [<- Nat.pow_add]
theorem C9z {n : Nat} (h : n < 10 ^ 2502) : Builtin.Int.intBits (n : Int) <= 2 ^ 20 := C3w (k := 4 * 2502) (Nat.lt_of_lt_of_le h (G4c 2502)) (by decide)
theorem U9q {t : Int} (h : Sz t) : Builtin.Int.intBits t <= 2 ^ 20 := by
 obtain ⟨n, rfl, _, hn⟩ := h.nat
 exact C3w (k := 4 * 1000) (Nat.lt_of_lt_of_le hn (G4c 1000)) (by decide)
theorem B0y {t s : Int} (ht : Sz t) (h : s <= 1500) : IntMulOk t (A6 s) := IntMulOk.of_bits (U9q ht) (G6y (by omega))
theorem J4y {b s : Int} (hb : Sz b) (h : s <= 1500) : (b * A6 s).natAbs.log2 < 9000 := by
 obtain ⟨n, e, hn⟩ := C3u hb h
 rw [e]
 have : n < 2 ^ 8340 := Nat.lt_of_lt_of_le hn (J2a 834)
 exact Nat.lt_trans (B5x (i := (n : Int)) (k := 8340) (by rw [Int.natAbs_natCast]; exact this) (by decide)) (by decide)
def whI (t b s : Int) : Int := t * A6 s / (b * A6 (-s))
def ptI (t b s : Int) : Int := A5v (t * A6 s - whI t b s * (b * A6 (-s))) (b * A6 (-s))
theorem G3z {t b s : Int} (hb : 0 < b) : 0 <= t * A6 s - whI t b s * (b * A6 (-s)) /\ t * A6 s - whI t b s * (b * A6 (-s)) < b * A6 (-s) := by
 have l := Int.mul_pos hb (B8 (-s))
 have e := Int.emod_add_mul_ediv (t * A6 s) (b * A6 (-s))
 have a := Int.emod_nonneg (t * A6 s) (Int.ne_of_gt l)
 have c := Int.emod_lt_of_pos (t * A6 s) l
 have e2 : whI t b s * (b * A6 (-s)) = b * A6 (-s) * (t * A6 s / (b * A6 (-s))) := Int.mul_comm _ _
 omega
theorem Y0v {t b s : Int} (ht : Sz t) (hb : Sz b) (h1 : -1500 <= s) (h2 : s <= 1500) : IntMulOk (whI t b s) (b * A6 (-s)) := by
 obtain ⟨n, e, hn⟩ := C3u hb (s := -s) (by omega)
 obtain ⟨k, e', hk⟩ := C3u ht h2
 unfold whI
 rw [e, e']
 exact IntMulOk.of_bits (C9z (Nat.lt_of_le_of_lt (Nat.div_le_self k n) hk)) (C9z hn)
abbrev A4g : Stmt := (U7 (top 6) 0)
structure RatC (K : Frag) (mg : Str -> Option Value) (CR CE : Addr) : Prop where
 g : mg "Ratio" = some (.ref CR)
 ge : mg "Exact" = some (.ref CE)
 cl : Cls K CR
 n_top : NoAttr K CR "top"
 n_bottom : NoAttr K CR "bottom"
 n_power : NoAttr K CR "power"
 ca : findIn K (.ref CR) "__class__" = some (some (.builtin "object.__class__"))
 sn : specialIn K (.builtin "object.__class__") "__get__" = some (some (.builtin "getset_descriptor.__get__"))
 tk : takesIn K (.builtin "object.__class__") = some true
 ob : mroIn K CR (.type "object") = some true
 up : kitOne K (.ref CR) (.ref CE) = some true
def C4s (t b n : V) : List (Str × V) := U6 "power" n (U6 "bottom" b (U6 "top" t []))
theorem B5y (t b n : V) (x : Str) : (C4s t b n).lookup x = if x = "power" then some n else if x = "bottom" then some b else if x = "top" then some t else none := by
 unfold C4s
 rw [D4, D4, D4]
 rfl
theorem G4v (t b n : V) : (C4s t b n).lookup ("top" : Str) = some t := by rw [B5y, if_neg (by decide +kernel), if_neg (by decide +kernel), if_pos rfl]
theorem B6v (t b n : V) : (C4s t b n).lookup ("bottom" : Str) = some b := by rw [B5y, if_neg (by decide +kernel), if_pos rfl]
theorem C2b (t b n : V) : (C4s t b n).lookup ("power" : Str) = some n := by rw [B5y, if_pos rfl]
theorem A9x (t b n : V) : (C4s t b n).lookup ("first" : Str) = none := by rw [B5y, if_neg (by decide +kernel), if_neg (by decide +kernel), if_neg (by decide +kernel)]
theorem B0z (t b n : V) : (C4s t b n).lookup ("at" : Str) = none := by rw [B5y, if_neg (by decide +kernel), if_neg (by decide +kernel), if_neg (by decide +kernel)]
def RatAt (CR : Addr) (H : Hp) (x : Addr) (t b n : Int) : Prop := ∃ dx, H x = some (.ins CR dx (C4s (.int t) (.int b) (.int n)))
theorem RatAt.same {CR : Addr} {H H' : Hp} {x : Addr} {t b n : Int} (h : RatAt CR H x t b n) (s : Same H H') : RatAt CR H' x t b n := by
 obtain ⟨dx, e⟩ := h
 exact ⟨dx, s _ _ e⟩
section
variable {P : Program} {w : World} {K : Frag} {mg : Str -> Option Value} {base : Heap}
def C4c (CR : Addr) : Sp := fun vs H Q _ => ∃ (p dx : Addr) (t b n : V), vs = [.ref p, t, b, n] /\ H p = some (.ins CR dx []) /\ ∀ H', H' p = some (.ins CR dx (C4s t b n)) -> Exc p H H' -> Q .non H'
theorem V0b : FnScope ["self", "top", "bottom", "power"] ["self", "top", "bottom", "power"] (A3 A4g) := scK
theorem J2n {f CR CE : Addr} {fd : FuncData} {dV : Value} (F : FunD K "__init__" "Ratio.__init__" A4g dV f fd) (R : RatC K mg CR CE) : FnOk P w K mg base (CX1 P w) 1 f fd ["self", "top", "bottom", "power"] (C4c CR) := by
 refine F.okE V0b (fun vs H Q E h => ?_) (fun X cdv A outer s H vs Q E hX hr hx h => ?_)
 . obtain ⟨p, dx, a, b, c, rfl, _⟩ := h
   rfl
 . subst hX
   obtain ⟨p, dx, a, b, c, rfl, hp, k⟩ := h
   refine ⟨_, (A7 (Z0 (pv 0) (pv 1) rfl)
     (A7 (Z0 (pv 0) (pv 2) rfl)
     (B0 (Z0 (pv 0) (pv 3) rfl)))), ?_⟩
   have l : ∀ (fs : List (Str × V)) (f : Str) (v : V) (n : Nat), fs.length <= n -> (U6 f v fs).length <= n + 1 := fun fs f v n h => Nat.le_trans (A0r f v fs) (Nat.succ_le_succ h)
   refine ⟨_, rfl, _, rfl, p, CR, dx, [], rfl, hp, R.cl, R.n_top, (by show 0 < 1000; decide), ?_⟩
   refine ⟨_, rfl, _, rfl, p, CR, dx, _, rfl, A9, R.cl, R.n_bottom, Nat.lt_of_le_of_lt (l _ _ _ 0 (Nat.le_refl _)) (by decide), ?_⟩
   refine ⟨_, rfl, _, rfl, p, CR, dx, _, rfl, A9, R.cl, R.n_power, Nat.lt_of_le_of_lt (l _ _ _ 1 (l _ _ _ 0 (Nat.le_refl _))) (by decide), ?_⟩
   refine k _ A9 fun b o e hb => ?_
   rw [B3 hb, B3 hb, B3 hb]
   exact e
def C8q (CR : Addr) : Sp := fun vs H Q _ => ∃ x t b n, vs = [.ref x] /\ RatAt CR H x t b n /\ Sz t /\ Sz b /\ ∀ f H', Same H H' -> Y5 t b (n - f) -> Q (.int f) H'
def J4a (CR : Addr) : Sp := fun vs H Q _ => ∃ x t b n p, vs = [.ref x, .int p] /\ RatAt CR H x t b n /\ Sz t /\ Sz b /\ -1500 <= n - p /\ n - p <= 1500 /\
 ∀ q H', Same H H' -> H q = none -> H' q = some (.tup [.int (whI t b (n - p)), .int (ptI t b (n - p))]) -> Q (.ref q) H'
structure MakeR (P : Program) (w : World) (K : Frag) (mg : Str -> Option Value) (base : Heap) (CR fI : Addr) (fdI : FuncData) (d0 : Value) (gP : List Value -> List Value -> List Value) (vP : List V -> List V -> List V) : Prop where
 m : Mk K CR fI
 g : FnOk P w K mg base (CX1 P w) 1 fI fdI ["self", "top", "bottom", "power"] (C4c CR)
 b3 : Binds K fdI ["self", "top", "bottom", "power"] []
 b2 : Binds K fdI ["self", "top", "bottom", "power"] [d0]
 r0 : RelV (.int 0) d0
 kP : KBinds K fdI ["self", "top", "bottom", "power"] ["power"] gP vP
 eP : ∀ x a b c, vP [x, a, b] [c] = [x, a, b, c]
structure RatM (P : Program) (w : World) (K : Frag) (mg : Str -> Option Value) (base : Heap) (CR f1 f2 : Addr) (fd1 fd2 : FuncData) : Prop where
 m1 : Meth K CR "first" f1
 g1 : FnOk P w K mg base (CX1 P w) 4 f1 fd1 ["self"] (C8q CR)
 b1 : Binds K fd1 ["self"] []
 m2 : Meth K CR "at" f2
 g2 : FnOk P w K mg base (CX1 P w) 3 f2 fd2 ["self", "power"] (J4a CR)
 b2 : Binds K fd2 ["self", "power"] []
theorem Y1w {CR x dx : Addr} {H : Hp} {Q : VK} {E : XK} {t b n : Int} (n1 : H x = none) (n2 : H dx = none) (ne : dx ≠ x) (k : ∀ H', Same H H' -> RatAt CR H' x t b n -> Q .non H') :
   C4c CR [.ref x, .int t, .int b, .int n] (upd (upd H dx (.own x)) x (.ins CR dx [])) Q E :=
 ⟨x, dx, _, _, _, rfl, A9, fun H' e s => k H' (fun c o z => s c o (by rw [B3 (C6 z n1), B3 (C6 z n2)]; exact z) (C6 z n1)) ⟨dx, e⟩⟩
end
abbrev A3y : Stmt := (top 7)
section
variable {P : Program} {w : World} {K : Frag} {mg : Str -> Option Value} {base : Heap}
def D0a : Sp := fun vs H Q _ => ∃ l m : Int, vs = [.int (2 * l), .int m] /\ 0 <= l /\ 0 < m /\ Q (.int (A5v l m)) H
theorem J3t : FnScope ["size", "middle"] ["size", "middle"] (A3 A3y) := scK
theorem V0e {m : Int} (hm : 0 < m) : A5v 0 m = 0 := by
 unfold A5v
 rw [decide_eq_false (by omega : ¬ (0 : Int) < 0), decide_eq_false (by omega : ¬ m <= 2 * 0), decide_eq_false (by omega : ¬ m < 2 * 0)]
 rfl
theorem U7z {l m : Int} (hl : 0 < l) (h : 2 * l < m) : A5v l m = 1 := by
 unfold A5v
 rw [decide_eq_true hl, decide_eq_false (by omega : ¬ m <= 2 * l), decide_eq_false (by omega : ¬ m < 2 * l)]
 rfl
theorem U9g {l m : Int} (hl : 0 < l) (h : 2 * l = m) : A5v l m = 2 := by
 unfold A5v
 rw [decide_eq_true hl, decide_eq_true (by omega : m <= 2 * l), decide_eq_false (by omega : ¬ m < 2 * l)]
 rfl
theorem U9p {l m : Int} (hl : 0 < l) (h : m < 2 * l) : A5v l m = 3 := by
 unfold A5v
 rw [decide_eq_true hl, decide_eq_true (by omega : m <= 2 * l), decide_eq_true h]
 rfl
theorem G7x {f : Addr} {fd : FuncData} (D : Def K mg "part_of" ["size", "middle"] A3y f fd) : FnOk P w K mg base (CX1 P w) 1 f fd ["size", "middle"] D0a := by
 refine FnOk.up (D.F.ok J3t (fun vs H Q E h => ?_) (fun cdv A outer s H vs Q E hr h => ?_))
 . obtain ⟨l, m, rfl, _⟩ := h
   rfl
 . obtain ⟨l, m, rfl, hl, hm, k⟩ := h
   refine ⟨_, (A7 (G2 (C0 G4 (pv 0) A1 (C7 _)) (B0 (B9 A1)) C9)
     (A7 (G2 (C0 V3y (pv 0) (pv 1) (C7 _)) (B0 (B9 A1)) C9)
     (B0 (B9 (A1w (C0 G4 (pv 0) (pv 1) (C7 _)) A1 A1))))), ?_⟩
   refine ⟨_, rfl, rfl, _, rfl, G9 (fun h0 => ?_) (fun h0 => ?_)⟩
   . have e : l = 0 := by
       have : 2 * l = 0 := by injection h0
       omega
     subst e
     rw [V0e hm] at k
     exact k
   . have hl' : 0 < l := by
       apply Classical.byContradiction
       intro z
       exact h0 (by rw [show l = 0 by omega]; rfl)
     refine ⟨_, rfl, _, rfl, _, _, rfl, rfl, _, rfl, G9 (fun h1 => ?_) (fun h1 => ?_)⟩
     . rw [U7z hl' h1] at k
       exact k
     . refine ⟨_, rfl, _, rfl, rfl, _, rfl, G9 (fun h2 => ?_) (fun h2 => ?_)⟩
       . rw [U9g hl' (by injection h2)] at k
         exact k
       . rw [U9p hl' (by
           have : 2 * l ≠ m := fun z => h2 (by rw [z])
           omega)] at k
         exact k
end
abbrev A5r : Stmt := (top 8)
theorem D4d (k : Nat) : 10 ^ (k * 301029995 / 10 ^ 9) <= 2 ^ k := by
 have hm : k * 301029995 / 10 ^ 9 * 28738 <= k * 8651 := by
   have : k * 301029995 / 10 ^ 9 * 10 ^ 9 <= k * 301029995 := Nat.div_mul_le_self _ _
   omega
 generalize k * 301029995 / 10 ^ 9 = m at hm
 have c : (10 : Nat) ^ 8651 <= 2 ^ 28738 := by decide +kernel
 have a : (10 ^ m) ^ 8651 <= (2 ^ k) ^ 8651 := by
   calc (10 ^ m) ^ 8651 = (10 ^ 8651) ^ m := by rw [<- Nat.pow_mul, <- Nat.pow_mul, Nat.mul_comm]
     _ <= (2 ^ 28738) ^ m := Nat.pow_le_pow_left c m
     _ = 2 ^ (m * 28738) := by rw [<- Nat.pow_mul, Nat.mul_comm]
     _ <= 2 ^ (k * 8651) := Nat.pow_le_pow_right (by decide) hm
     _ = (2 ^ k) ^ 8651 := by rw [<- Nat.pow_mul]
 exact (Nat.pow_le_pow_iff_left (by decide)).mp a
section
variable {P : Program} {w : World} {K : Frag} {mg : Str -> Option Value} {base : Heap}
def G4n : Sp := fun vs H Q _ => ∃ n : Nat, vs = [.int (n : Int)] /\ 1 <= n /\ n < 10 ^ 3000 /\ ∀ L : Nat, 10 ^ L <= n -> n < 10 ^ (L + 1) -> Q (.int (L : Int)) H
theorem scWLead : FnScope ["whole", "lead", "beyond"] ["whole"] (A3 A5r) := scK
theorem J4h {f f1 : Addr} {fd fd1 : FuncData} (D : Def K mg "whole_lead" ["whole"] A5r f fd) (D_ten_to : Def K mg "ten_to" ["count"] A0x f1 fd1) (G_ten_to : FnOk P w K mg base (CX1 P w) 2 f1 fd1 ["count"] A7d) : FnOk P w K mg base (CX1 P w) 3 f fd ["whole"] G4n := by
 refine FnOk.up (D.F.ok scWLead (fun vs H Q E h => ?_) (fun cdv A outer s H vs Q E hr h => ?_))
 . obtain ⟨n, rfl, _⟩ := h
   rfl
 . obtain ⟨n, rfl, n1, n2, k⟩ := h
   have hx : D8 (Z8 CX0 P w K mg base ["whole", "lead", "beyond"] "whole_lead" (A3 A5r) f cdv A outer s H E).nox EKF := A0q
   refine ⟨_, (A7 (C4 (C8 (i := 1) scWLead.nd rfl (Or.inl rfl) (B1 D3 (B1 U8 (B1 D9 (V5a PySem.F.plainAttrs_int PySem.F.slot_int_bit_length PySem.F.type_int_bit_length C0v (pv 0)) A1) A1) (B1 J5f A1 A1))))
     (A7 (C4 (C8 (i := 2) scWLead.nd rfl (Or.inl rfl) (C5 D_ten_to G_ten_to hr hx (A0 (B1 G8 (pv 1) A1) A8))))
     (A7 (C4 (C8n PassesOwn.never (C0 V4a (pv 2) (pv 0) (C7 _)) (A7 (V4r (i := 1) scWLead.nd rfl (Or.inl rfl) A1 V6p)
     (B0 (C8 (i := 2) scWLead.nd rfl (Or.inl rfl) (B1 U8 (pv 2) A1))))))
     (B0 (B9 (pv 1)))))), ?_⟩
   have mC : ∀ z n : Int, -(2 ^ 64) < n -> n < 2 ^ 64 -> IntMulOk z n := fun z n a b => CMul.ok (.inr ⟨a, b⟩)
   have pw : V0m 10 9 := ⟨by decide, by decide, by decide⟩
   have l3 : ∀ {L : Nat}, 10 ^ L <= n -> L < 3000 := fun hL => (Nat.pow_lt_pow_iff_right (by decide : 1 < 10)).mp (Nat.lt_of_le_of_lt hL n2)
   refine ⟨fun σ H' => H' = H /\ ∃ L : Nat, 10 ^ L <= n /\ σ = [some (.int (n : Int)), some (.int (L : Int)), none], ?_, ?_⟩
   . refine ⟨_, rfl, rfl, _, rfl, rfl, _, _, rfl, rfl, _, _, rfl, rfl, mC _ _ (by decide) (by decide), _, _, rfl, rfl, pw, _, _, rfl, rfl, ⟨by decide, by decide +kernel⟩, rfl, n.log2 * 301029995 / 10 ^ 9, ?_, ?_⟩
     . exact Nat.le_trans (D4d _) (Nat.log2_self_le (by omega))
     . have e : (Builtin.Int.intBits (n : Int) : Nat) = n.log2 + 1 := by
         unfold Builtin.Int.intBits
         rw [if_neg (by simp; omega)]
         rfl
       show [some (V.int (n : Int)), some (V.int ((((Builtin.Int.intBits (n : Int) : Nat) : Int) - 1) * 301029995 / (10 ^ Int.toNat 9 : Int))), none] = _
       rw [e, show ((n.log2 + 1 : Nat) : Int) - 1 = (n.log2 : Int) by omega]
       rfl
   rintro σ H' ⟨rfl, L0, hL0, rfl⟩
   refine ⟨fun σ H2 => H2 = H' /\ ∃ L : Nat, 10 ^ L <= n /\ σ = [some (.int (n : Int)), some (.int (L : Int)), some (.int ((10 ^ (L + 1) : Nat) : Int))], ?_, ?_⟩
   . have := l3 hL0
     exact ⟨_, rfl, _, _, rfl, rfl, L0 + 1, rfl, by omega, rfl, L0, hL0, rfl⟩
   rintro σ H2 ⟨rfl, L1, hL1, rfl⟩
   refine ⟨fun σ H3 => H3 = H2 /\ ∃ L : Nat, 10 ^ L <= n /\ n < 10 ^ (L + 1) /\ σ = [some (.int (n : Int)), some (.int (L : Int)), some (.int ((10 ^ (L + 1) : Nat) : Int))], ?_, ?_⟩
   . refine C9t (fun σ H3 => H3 = H2 /\ ∃ L : Nat, 10 ^ L <= n /\ σ = [some (.int (n : Int)), some (.int (L : Int)), some (.int ((10 ^ (L + 1) : Nat) : Int))]) (fun σ _ => match σ with | [_, some (.int c), _] => n - c.toNat | _ => 0) ?_ ?_ ?_
     . exact ⟨rfl, L1, hL1, rfl⟩
     . rintro σ H3 ⟨rfl, L, hL, rfl⟩
       refine ⟨_, rfl, _, rfl, _, _, rfl, rfl, _, rfl, G9 (fun hle => ?_) (fun hgt => ?_)⟩
       . have hle : 10 ^ (L + 1) <= n := Int.ofNat_le.mp hle
         refine ⟨_, rfl, _, _, rfl, rfl, _, rfl, _, _, rfl, rfl, mC _ _ (by decide) (by decide), ⟨rfl, L + 1, hle, ?_⟩, ?_⟩
         . show [some (V.int (n : Int)), some (V.int ((L : Int) + 1)), some (V.int (((10 ^ (L + 1) : Nat) : Int) * 10))] = _
           rw [show ((10 ^ (L + 1) : Nat) : Int) * 10 = ((10 ^ (L + 1 + 1) : Nat) : Int) by rw [Nat.pow_succ 10 (L + 1)]; rfl]
           rfl
         have lt : L + 1 < 10 ^ (L + 1) := Nat.lt_pow_self (by decide)
         show n - ((L : Int) + 1).toNat < n - (L : Int).toNat
         omega
       . have hgt : ¬ 10 ^ (L + 1) <= n := fun z => hgt (Int.ofNat_le.mpr z)
         exact ⟨rfl, L, hL, by omega, rfl⟩
     . rintro σ H2 Q1 Q2 hQ ⟨v, e, v2, e4, i2, j2, e5, e6, b, e7, q⟩
       exact ⟨v, e, v2, e4, i2, j2, e5, e6, b, e7, hQ _ _ q⟩
   rintro σ H3 ⟨rfl, L, h1, h2, rfl⟩
   exact ⟨_, rfl, k L h1 h2⟩
end
abbrev B6t : Stmt := (U7 (top 6) 2)
abbrev A1j : Stmt := (U7 (top 6) 1)
section
variable {P : Program} {w : World} {K : Frag} {mg : Str -> Option Value} {base : Heap}
theorem scRAt : FnScope ["self", "power", "shift", "top", "bottom", "whole"] ["self", "power"] (A3 B6t) := scK
theorem V5c {f f1 f2 CR CE : Addr} {fd fd1 fd2 : FuncData} (F : Fun K "at" "Ratio.at" B6t f fd) (D_ten_to : Def K mg "ten_to" ["count"] A0x f1 fd1) (G_ten_to : FnOk P w K mg base (CX1 P w) 2 f1 fd1 ["count"] A7d)
   (D_part_of : Def K mg "part_of" ["size", "middle"] A3y f2 fd2) (G_part_of : FnOk P w K mg base (CX1 P w) 1 f2 fd2 ["size", "middle"] D0a) (R : RatC K mg CR CE) (O : Own mg) : FnOk P w K mg base (CX1 P w) 3 f fd ["self", "power"] (J4a CR) := by
 refine FnOk.up (F.ok scRAt (fun vs H Q E h => ?_) (fun cdv A outer s H vs Q E hr h => ?_))
 . obtain ⟨x, t, b, n, p, rfl, _⟩ := h
   rfl
 . obtain ⟨x, t, b, n, p, rfl, ⟨dx, e⟩, ht, hb, h1, h2, k⟩ := h
   have hx : D8 (Z8 CX0 P w K mg base ["self", "power", "shift", "top", "bottom", "whole"] "Ratio.at" (A3 B6t) f cdv A outer s H E).nox EKF := A0q
   refine ⟨_, (A7 (C8 (i := 2) scRAt.nd rfl (Or.inl rfl) (B1 D9 (G0 (pv 0) rfl) (pv 1)))
     (A7 (C8 (i := 3) scRAt.nd rfl (Or.inl rfl) (B1 U8 (G0 (pv 0) rfl) (C5 D_ten_to G_ten_to hr hx (A0 (U0 (Y6 rfl) (by rfl) O.max_ boot_max (A0 (pv 2) (A0 A1 A8))) A8))))
     (A7 (C8 (i := 4) scRAt.nd rfl (Or.inl rfl) (B1 U8 (G0 (pv 0) rfl) (C5 D_ten_to G_ten_to hr hx (A0 (U0 (Y6 rfl) (by rfl) O.max_ boot_max (A0 (C1u B0t (pv 2)) (A0 A1 A8))) A8))))
     (A7 (C8 (i := 5) scRAt.nd rfl (Or.inl rfl) (B1 D3 (pv 3) (pv 4)))
     (B0 (B9 (U5 (A0 (pv 5) (A0 (C5 D_part_of G_part_of hr hx (A0 (B1 U8 A1 (B1 D9 (pv 3) (B1 U8 (pv 5) (pv 4)))) (A0 (pv 4) A8))) A8))))))))), ?_⟩
   have z2 : 2 <= sizeLine := D5 (by decide)
   have mC' : ∀ z n : Int, -(2 ^ 64) < n -> n < 2 ^ 64 -> IntMulOk n z := fun z n a b => CMul.ok (.inl ⟨a, b⟩)
   have hb0 : 0 < b := by have := hb.1; omega
   refine ⟨_, rfl, x, CR, dx, _, _, rfl, e, R.cl, R.n_power, C2b _ _ _, _, rfl, _, _, rfl, rfl, ?_⟩
   refine ⟨_, rfl, x, CR, dx, _, _, rfl, e, R.cl, R.n_top, G4v _ _ _, _, rfl, _, _, rfl, (n - p).toNat, congrArg (fun z => [V.int z]) (Y0m (n - p)), by omega, _, _, rfl, rfl, B0y ht h2, ?_⟩
   refine ⟨_, rfl, x, CR, dx, _, _, rfl, e, R.cl, R.n_bottom, B6v _ _ _, _, rfl, _, rfl, _, _, rfl, (-(n - p)).toNat, congrArg (fun z => [V.int z]) (Y0m (-(n - p))), by omega, _, _, rfl, rfl, B0y hb (by omega), ?_⟩
   have lp : 0 < b * A6 (-(n - p)) := Int.mul_pos hb0 (B8 _)
   have ll : (b * A6 (-(n - p))).natAbs.log2 < 9000 := J4y hb (by omega)
   refine ⟨_, rfl, _, rfl, _, _, rfl, rfl, ⟨lp, ll⟩, ?_⟩
   have lf := G3z (t := t) (s := n - p) hb0
   refine ⟨_, rfl, _, rfl, _, rfl, _, rfl, _, _, rfl, rfl, Y0v ht hb h1 h2, _, _, rfl, rfl, _, _, rfl, rfl, mC' _ _ (by decide) (by decide), _, rfl, _, _, rfl, lf.1, lp, z2, fun q nq => k q _ (Same.upd nq) nq A9⟩
end
theorem V5q {t b L M u v : Nat} (h : L + u = M + v) (t2 : t < 10 ^ (L + 1)) (b1 : 10 ^ M <= b) : t * 10 ^ u < 10 * (b * 10 ^ v) := by
 have p : 0 < 10 ^ u := Nat.pow_pos (by decide)
 calc t * 10 ^ u < 10 ^ (L + 1) * 10 ^ u := Nat.mul_lt_mul_of_pos_right t2 p
   _ = 10 * (10 ^ M * 10 ^ v) := by rw [<- Nat.pow_add, <- Nat.pow_add, <- h, show L + 1 + u = (L + u) + 1 by omega, Nat.pow_succ, Nat.mul_comm]
   _ <= 10 * (b * 10 ^ v) := Nat.mul_le_mul_left 10 (Nat.mul_le_mul_right _ b1)
theorem V5u {t b L M u v : Nat} (h : L + u = M + 1 + v) (t1 : 10 ^ L <= t) (b2 : b < 10 ^ (M + 1)) : b * 10 ^ v <= t * 10 ^ u := by
 calc b * 10 ^ v <= 10 ^ (M + 1) * 10 ^ v := Nat.mul_le_mul_right _ (Nat.le_of_lt b2)
   _ = 10 ^ L * 10 ^ u := by rw [<- Nat.pow_add, <- Nat.pow_add, h]
   _ <= t * 10 ^ u := Nat.mul_le_mul_right _ t1
theorem G6z {t b L M : Nat} (t1 : 10 ^ L <= t) (t2 : t < 10 ^ (L + 1)) (b1 : 10 ^ M <= b) (b2 : b < 10 ^ (M + 1)) (h : (b : Int) * A6 (-((M : Int) - L)) <= (t : Int) * A6 ((M : Int) - L)) : Y5 t b ((M : Int) - L) := by
 refine ⟨h, ?_⟩
 unfold A6
 have := V5q (t := t) (b := b) (L := L) (M := M) (u := ((M : Int) - L).toNat) (v := (-((M : Int) - L)).toNat) (by omega) t2 b1
 exact Int.ofNat_lt.mpr this
theorem D4r {t b L M : Nat} (t1 : 10 ^ L <= t) (t2 : t < 10 ^ (L + 1)) (b1 : 10 ^ M <= b) (b2 : b < 10 ^ (M + 1)) (h : (t : Int) * A6 ((M : Int) - L) < (b : Int) * A6 (-((M : Int) - L))) : Y5 t b ((M : Int) - L + 1) := by
 refine ⟨?_, ?_⟩
 . unfold A6
   have := V5u (t := t) (b := b) (L := L) (M := M) (u := ((M : Int) - L + 1).toNat) (v := (-((M : Int) - L + 1)).toNat) (by omega) t1 b2
   exact Int.ofNat_le.mpr this
 . have hb : 0 < (b : Int) := by
     have : 0 < 10 ^ M := Nat.pow_pos (by decide)
     omega
   generalize (M : Int) - L = s at h
   have c := B6f (s := s) (r := s + 1) (by omega)
   have e1 : A6 (s + 1 - s) = 10 := by rw [show s + 1 - s = 1 by omega]; rfl
   rw [e1] at c
   have l := Int.mul_pos hb (B8 (-s))
   have l' := Int.mul_pos hb (B8 (-(s + 1)))
   have e : (t : Int) * A6 (s + 1) * ((b : Int) * A6 (-s)) = (t : Int) * A6 s * ((b : Int) * A6 (-(s + 1))) * 10 := by
     calc (t : Int) * A6 (s + 1) * ((b : Int) * A6 (-s)) = t * b * (A6 (s + 1) * A6 (-s)) := by ac_rfl
       _ = t * b * (A6 s * A6 (-(s + 1)) * 10) := by rw [c]
       _ = (t : Int) * A6 s * ((b : Int) * A6 (-(s + 1))) * 10 := by ac_rfl
   have a : (t : Int) * A6 s * ((b : Int) * A6 (-(s + 1))) < (b : Int) * A6 (-s) * ((b : Int) * A6 (-(s + 1))) := Int.mul_lt_mul_of_pos_right h l'
   have a2 : (t : Int) * A6 (s + 1) * ((b : Int) * A6 (-s)) < 10 * ((b : Int) * A6 (-(s + 1))) * ((b : Int) * A6 (-s)) := by
     rw [e, show 10 * ((b : Int) * A6 (-(s + 1))) * ((b : Int) * A6 (-s)) = (b : Int) * A6 (-s) * ((b : Int) * A6 (-(s + 1))) * 10 by ac_rfl]
     exact Int.mul_lt_mul_of_pos_right a (by decide)
   exact Int.lt_of_mul_lt_mul_right a2 (Int.le_of_lt l)
section
variable {P : Program} {w : World} {K : Frag} {mg : Str -> Option Value} {base : Heap}
theorem scRFirst : FnScope ["self", "guess"] ["self"] (A3 A1j) := scK
theorem G7k {f f1 f2 CR CE : Addr} {fd fd1 fd2 : FuncData} (F : Fun K "first" "Ratio.first" A1j f fd) (D_whole_lead : Def K mg "whole_lead" ["whole"] A5r f1 fd1) (G_whole_lead : FnOk P w K mg base (CX1 P w) 3 f1 fd1 ["whole"] G4n)
   (MA : Meth K CR "at" f2) (GA : FnOk P w K mg base (CX1 P w) 3 f2 fd2 ["self", "power"] (J4a CR)) (BA : Binds K fd2 ["self", "power"] []) (R : RatC K mg CR CE) : FnOk P w K mg base (CX1 P w) 4 f fd ["self"] (C8q CR) := by
 refine FnOk.up (F.ok scRFirst (fun vs H Q E h => ?_) (fun cdv A outer s H vs Q E hr h => ?_))
 . obtain ⟨x, t, b, n, rfl, _⟩ := h
   rfl
 . obtain ⟨x, t, b, n, rfl, ra, ht, hb, k⟩ := h
   have hx : D8 (Z8 CX0 P w K mg base ["self", "guess"] "Ratio.first" (A3 A1j) f cdv A outer s H E).nox EKF := A0q
   refine ⟨_, (A7 (C8 (i := 1) scRFirst.nd rfl (Or.inl rfl) (B1 G8 (B1 D9 (C5 D_whole_lead G_whole_lead hr hx (A0 (G0 (pv 0) rfl) A8)) (C5 D_whole_lead G_whole_lead hr hx (A0 (G0 (pv 0) rfl) A8))) (G0 (pv 0) rfl)))
     (B0 (B9 (A1w (C0 B5u (J9 U4 (D0c (pv 0) R.cl MA GA hr BA .nil hx (A0 (pv 1) A8)) A1 (fun _ _ => rfl)) A1 (C7 _)) (pv 1) (B1 D9 (pv 1) A1))))), ?_⟩
   obtain ⟨tn, rfl, ta, tb⟩ := ht.nat
   obtain ⟨bn, rfl, ba, bb⟩ := hb.nat
   obtain ⟨dx, e⟩ := id ra
   have p30 : (10 : Nat) ^ 1000 < 10 ^ 3000 := Nat.pow_lt_pow_right (by decide) (by decide)
   have p30' : ∀ {L m : Nat}, 10 ^ L <= m -> m < 10 ^ 1000 -> L < 1000 := fun h1 h2 => (Nat.pow_lt_pow_iff_right (by decide : 1 < 10)).mp (Nat.lt_of_le_of_lt h1 h2)
   refine ⟨_, rfl, x, CR, dx, _, _, rfl, e, R.cl, R.n_top, G4v _ _ _, tn, rfl, ta, Nat.lt_trans tb p30, fun L L1 L2 => ?_⟩
   refine ⟨_, rfl, x, CR, dx, _, _, rfl, e, R.cl, R.n_bottom, B6v _ _ _, bn, rfl, ba, Nat.lt_trans bb p30, fun M' M1 M2 => ?_⟩
   have l30 := p30' L1 tb
   have m30 := p30' M1 bb
   refine ⟨_, _, rfl, rfl, _, rfl, x, CR, dx, _, _, rfl, e, R.cl, R.n_power, C2b _ _ _, _, _, rfl, rfl, ?_⟩
   have es : n - ((L : Int) - M' + n) = (M' : Int) - L := by omega
   refine ⟨_, rfl, x, dx, _, rfl, e, B0z _ _ _, _, rfl, x, tn, bn, n, _, rfl, ra, ht, hb, by omega, by omega, fun q H1 s1 nq hq => ?_⟩
   rw [es] at hq
   refine ⟨q, _, 0, _, rfl, rfl, SqT.of hq, J0 (j := 0) rfl, _, _, rfl, rfl, _, rfl, ?_⟩
   have lp : 0 < (bn : Int) * A6 (-((M' : Int) - L)) := Int.mul_pos (by omega) (B8 _)
   refine G9 (fun hg => ?_) (fun hg => ?_)
   . have hle : (bn : Int) * A6 (-((M' : Int) - L)) <= (tn : Int) * A6 ((M' : Int) - L) := by
       have := (Int.le_ediv_iff_mul_le lp).mp (show (1 : Int) <= (tn : Int) * A6 ((M' : Int) - L) / ((bn : Int) * A6 (-((M' : Int) - L))) from hg)
       omega
     refine ⟨_, rfl, k _ H1 s1 ?_⟩
     rw [es]
     exact G6z L1 L2 M1 M2 hle
   . have hlt : (tn : Int) * A6 ((M' : Int) - L) < (bn : Int) * A6 (-((M' : Int) - L)) := by
       apply Classical.byContradiction
       intro z
       exact hg ((Int.le_ediv_iff_mul_le lp).mpr (by omega))
     refine ⟨_, rfl, _, _, rfl, rfl, k _ H1 s1 ?_⟩
     rw [show n - ((L : Int) - M' + n - 1) = (M' : Int) - L + 1 by omega]
     exact D4r L1 L2 M1 M2 hlt
end
inductive Wy where
 | down
 | up
 | floor
 | ceiling
 | halfUp
 | halfDown
 | halfEven
 | fiveUp
def Wy.name : Wy -> Str
 | .down => "down"
 | .up => "up"
 | .floor => "floor"
 | .ceiling => "ceiling"
 | .halfUp => "half up"
 | .halfDown => "half down"
 | .halfEven => "half even"
 | .fiveUp => "five up"
def Wy.cls : Wy -> Str
 | .down => "Down"
 | .up => "Up"
 | .floor => "Floor"
 | .ceiling => "Ceiling"
 | .halfUp => "HalfUp"
 | .halfDown => "HalfDown"
 | .halfEven => "HalfEven"
 | .fiveUp => "FiveUp"
theorem Wy.inj {a b : Wy} (h : a.name = b.name) : a = b := by
 cases a <;> cases b <;> first | rfl | exact absurd h (by decide +kernel)
structure WayC (K : Frag) (mg : Str -> Option Value) (x : Str) (C CW : Addr) : Prop where
 g : mg x = some (.ref C)
 cl : Cls K C
 mk0 : Mk0 K C
 ca : findIn K (.ref C) "__class__" = some (some (.builtin "object.__class__"))
 sn : specialIn K (.builtin "object.__class__") "__get__" = some (some (.builtin "getset_descriptor.__get__"))
 tk : takesIn K (.builtin "object.__class__") = some true
 ob : mroIn K C (.type "object") = some true
 up : kitOne K (.ref C) (.ref CW) = some true
section
variable {P : Program} {w : World} {K : Frag} {mg : Str -> Option Value} {base : Heap}
def A3r (s : Str) : Sp := fun vs H Q _ => ∃ p, vs = [.ref p] /\ Q (.str s) H
def Y1p (P : Program) (w : World) (K : Frag) (mg : Str -> Option Value) (base : Heap) (C : Addr) (s : Str) : Prop := Has P w K mg base C "name" 1 ["self"] (A3r s)
abbrev sN0 : Stmt := (U7 (top 37) 0)
theorem Y5a : FnScope ["self"] ["self"] (A3 sN0) := scK
theorem Y0d {f : Addr} {fd : FuncData} (F : Fun K "name" "Down.name" sN0 f fd) : FnOk P w K mg base (CX1 P w) 1 f fd ["self"] (A3r "down") := by
 refine FnOk.up (F.ok Y5a (fun vs H Q E h => ?_) (fun cdv A outer s H vs Q E hr h => ?_))
 . obtain ⟨p, rfl, _⟩ := h
   rfl
 . obtain ⟨p, rfl, k⟩ := h
   exact ⟨_, B0 (B9 B5), k⟩
abbrev sN1 : Stmt := (U7 (top 38) 0)
theorem Y4h : FnScope ["self"] ["self"] (A3 sN1) := scK
theorem Y1s {f : Addr} {fd : FuncData} (F : Fun K "name" "Up.name" sN1 f fd) : FnOk P w K mg base (CX1 P w) 1 f fd ["self"] (A3r "up") := by
 refine FnOk.up (F.ok Y4h (fun vs H Q E h => ?_) (fun cdv A outer s H vs Q E hr h => ?_))
 . obtain ⟨p, rfl, _⟩ := h
   rfl
 . obtain ⟨p, rfl, k⟩ := h
   exact ⟨_, B0 (B9 B5), k⟩
abbrev sN2 : Stmt := (U7 (top 39) 0)
theorem Y4z : FnScope ["self"] ["self"] (A3 sN2) := scK
theorem Y1u {f : Addr} {fd : FuncData} (F : Fun K "name" "Floor.name" sN2 f fd) : FnOk P w K mg base (CX1 P w) 1 f fd ["self"] (A3r "floor") := by
 refine FnOk.up (F.ok Y4z (fun vs H Q E h => ?_) (fun cdv A outer s H vs Q E hr h => ?_))
 . obtain ⟨p, rfl, _⟩ := h
   rfl
 . obtain ⟨p, rfl, k⟩ := h
   exact ⟨_, B0 (B9 B5), k⟩
abbrev sN3 : Stmt := (U7 (top 40) 0)
theorem Y5h : FnScope ["self"] ["self"] (A3 sN3) := scK
theorem Y1c {f : Addr} {fd : FuncData} (F : Fun K "name" "Ceiling.name" sN3 f fd) : FnOk P w K mg base (CX1 P w) 1 f fd ["self"] (A3r "ceiling") := by
 refine FnOk.up (F.ok Y5h (fun vs H Q E h => ?_) (fun cdv A outer s H vs Q E hr h => ?_))
 . obtain ⟨p, rfl, _⟩ := h
   rfl
 . obtain ⟨p, rfl, k⟩ := h
   exact ⟨_, B0 (B9 B5), k⟩
abbrev sN4 : Stmt := (U7 (top 41) 0)
theorem Y4p : FnScope ["self"] ["self"] (A3 sN4) := scK
theorem Y0y {f : Addr} {fd : FuncData} (F : Fun K "name" "HalfUp.name" sN4 f fd) : FnOk P w K mg base (CX1 P w) 1 f fd ["self"] (A3r "half up") := by
 refine FnOk.up (F.ok Y4p (fun vs H Q E h => ?_) (fun cdv A outer s H vs Q E hr h => ?_))
 . obtain ⟨p, rfl, _⟩ := h
   rfl
 . obtain ⟨p, rfl, k⟩ := h
   exact ⟨_, B0 (B9 B5), k⟩
abbrev sN5 : Stmt := (U7 (top 42) 0)
theorem Y5u : FnScope ["self"] ["self"] (A3 sN5) := scK
theorem Y0c {f : Addr} {fd : FuncData} (F : Fun K "name" "HalfDown.name" sN5 f fd) : FnOk P w K mg base (CX1 P w) 1 f fd ["self"] (A3r "half down") := by
 refine FnOk.up (F.ok Y5u (fun vs H Q E h => ?_) (fun cdv A outer s H vs Q E hr h => ?_))
 . obtain ⟨p, rfl, _⟩ := h
   rfl
 . obtain ⟨p, rfl, k⟩ := h
   exact ⟨_, B0 (B9 B5), k⟩
abbrev sN6 : Stmt := (U7 (top 43) 0)
theorem Y4n : FnScope ["self"] ["self"] (A3 sN6) := scK
theorem Y0u {f : Addr} {fd : FuncData} (F : Fun K "name" "HalfEven.name" sN6 f fd) : FnOk P w K mg base (CX1 P w) 1 f fd ["self"] (A3r "half even") := by
 refine FnOk.up (F.ok Y4n (fun vs H Q E h => ?_) (fun cdv A outer s H vs Q E hr h => ?_))
 . obtain ⟨p, rfl, _⟩ := h
   rfl
 . obtain ⟨p, rfl, k⟩ := h
   exact ⟨_, B0 (B9 B5), k⟩
abbrev sN7 : Stmt := (U7 (top 44) 0)
theorem Y5m : FnScope ["self"] ["self"] (A3 sN7) := scK
theorem Y1h {f : Addr} {fd : FuncData} (F : Fun K "name" "FiveUp.name" sN7 f fd) : FnOk P w K mg base (CX1 P w) 1 f fd ["self"] (A3r "five up") := by
 refine FnOk.up (F.ok Y5m (fun vs H Q E h => ?_) (fun cdv A outer s H vs Q E hr h => ?_))
 . obtain ⟨p, rfl, _⟩ := h
   rfl
 . obtain ⟨p, rfl, k⟩ := h
   exact ⟨_, B0 (B9 B5), k⟩
def V4b (K : Frag) (H : Hp) (v : V) : Prop := ∃ t b, TyE K H v t /\ kitOne K t (.type "str") = some b /\ (b = false \/ ∃ z, v = .str z /\ ∀ y : Wy, z ≠ y.name)
theorem A5n {C : Addr} {σ : L2.St} {H : Hp} {Q : VK} (k : ∀ p dx H', H p = none -> Same H H' -> H' p = some (.ins C dx []) -> Q (.ref p) H') : V4u C σ H Q := fun x dx n1 n2 ne =>
 k x dx _ n1 ((Same.upd n2).trans (Same.upd (by rw [B3 (Ne.symm ne)]; exact n1))) A9
abbrev A8d : Stmt := (top 45)
def G5a (K : Frag) (CB : Addr) (cw : Wy -> Addr) : Sp := fun vs H Q E => ∃ v, vs = [v] /\ ((∃ y : Wy, v = .str y.name /\ ∀ p dx H', H p = none -> Same H H' -> H' p = some (.ins (cw y) dx []) -> Q (.ref p) H') \/ (V4b K H v /\ E (.ref CB) none H))
theorem U9n : FnScope ["name"] ["name"] (A3 A8d) := scK
theorem J5s {f CB CW : Addr} {cw : Wy -> Addr} {fd : FuncData} (D : Def K mg "way_of" ["name"] A8d f fd) (O : Own mg) (T : Kit K) (B : Err K mg "BadContext" CB) (W : ∀ y : Wy, WayC K mg y.cls (cw y) CW) :
   FnOk P w K mg base (CX1 P w) 1 f fd ["name"] (G5a K CB cw) := by
 refine D.F.okE U9n (fun vs H Q E h => ?_) (fun X cdv A outer s H vs Q E hX hr hx h => ?_)
 . obtain ⟨v, rfl, _⟩ := h
   rfl
 . subst hX
   obtain ⟨v, rfl, h⟩ := h
   refine ⟨_, (A7 (G2 (A5g (A2m (G6g O.isi (pv 0) (pty O.str_ boot_str)))) (B0 (A1t (by rfl) B.g B.q PySem.F.excBase_ValueError hr.hd hx (A0 B5 A8))) C9)
     (A7 (G2 (C0 G4 (pv 0) B5 (C7 _)) (B0 (B9 (A6a (W .down).mk0 rfl (W .down).g))) C9)
     (A7 (G2 (C0 G4 (pv 0) B5 (C7 _)) (B0 (B9 (A6a (W .up).mk0 rfl (W .up).g))) C9)
     (A7 (G2 (C0 G4 (pv 0) B5 (C7 _)) (B0 (B9 (A6a (W .floor).mk0 rfl (W .floor).g))) C9)
     (A7 (G2 (C0 G4 (pv 0) B5 (C7 _)) (B0 (B9 (A6a (W .ceiling).mk0 rfl (W .ceiling).g))) C9)
     (A7 (G2 (C0 G4 (pv 0) B5 (C7 _)) (B0 (B9 (A6a (W .halfUp).mk0 rfl (W .halfUp).g))) C9)
     (A7 (G2 (C0 G4 (pv 0) B5 (C7 _)) (B0 (B9 (A6a (W .halfDown).mk0 rfl (W .halfDown).g))) C9)
     (A7 (G2 (C0 G4 (pv 0) B5 (C7 _)) (B0 (B9 (A6a (W .halfEven).mk0 rfl (W .halfEven).g))) C9)
     (A7 (G2 (C0 G4 (pv 0) B5 (C7 _)) (B0 (B9 (A6a (W .fiveUp).mk0 rfl (W .fiveUp).g))) C9)
     (B0 (A1t (by rfl) B.g B.q PySem.F.excBase_ValueError hr.hd hx (A0 B5 A8)))))))))))), ?_⟩
   have z1 : 1 <= sizeLine := D5 (by decide)
   rcases h with ⟨y, rfl, k⟩ | ⟨⟨t, b, ty, kk, bad⟩, k⟩
   . refine ⟨_, rfl, _, _, _, _, true, rfl, rfl, J4q _, T.str_str, _, rfl, Z2 ?_⟩
     refine ⟨_, rfl, rfl, _, rfl, G9 (fun e => ?_) (fun n0 => ?_)⟩
     . have q : y = .down := Wy.inj (V.str.inj (e : V.str y.name = V.str (Wy.name .down)))
       subst q
       exact A5n k
     refine ⟨_, rfl, rfl, _, rfl, G9 (fun e => ?_) (fun n1 => ?_)⟩
     . have q : y = .up := Wy.inj (V.str.inj (e : V.str y.name = V.str (Wy.name .up)))
       subst q
       exact A5n k
     refine ⟨_, rfl, rfl, _, rfl, G9 (fun e => ?_) (fun n2 => ?_)⟩
     . have q : y = .floor := Wy.inj (V.str.inj (e : V.str y.name = V.str (Wy.name .floor)))
       subst q
       exact A5n k
     refine ⟨_, rfl, rfl, _, rfl, G9 (fun e => ?_) (fun n3 => ?_)⟩
     . have q : y = .ceiling := Wy.inj (V.str.inj (e : V.str y.name = V.str (Wy.name .ceiling)))
       subst q
       exact A5n k
     refine ⟨_, rfl, rfl, _, rfl, G9 (fun e => ?_) (fun n4 => ?_)⟩
     . have q : y = .halfUp := Wy.inj (V.str.inj (e : V.str y.name = V.str (Wy.name .halfUp)))
       subst q
       exact A5n k
     refine ⟨_, rfl, rfl, _, rfl, G9 (fun e => ?_) (fun n5 => ?_)⟩
     . have q : y = .halfDown := Wy.inj (V.str.inj (e : V.str y.name = V.str (Wy.name .halfDown)))
       subst q
       exact A5n k
     refine ⟨_, rfl, rfl, _, rfl, G9 (fun e => ?_) (fun n6 => ?_)⟩
     . have q : y = .halfEven := Wy.inj (V.str.inj (e : V.str y.name = V.str (Wy.name .halfEven)))
       subst q
       exact A5n k
     refine ⟨_, rfl, rfl, _, rfl, G9 (fun e => ?_) (fun n7 => ?_)⟩
     . have q : y = .fiveUp := Wy.inj (V.str.inj (e : V.str y.name = V.str (Wy.name .fiveUp)))
       subst q
       exact A5n k
     cases y with
     | down => exact absurd rfl n0
     | up => exact absurd rfl n1
     | floor => exact absurd rfl n2
     | ceiling => exact absurd rfl n3
     | halfUp => exact absurd rfl n4
     | halfDown => exact absurd rfl n5
     | halfEven => exact absurd rfl n6
     | fiveUp => exact absurd rfl n7
   . refine ⟨_, rfl, _, _, _, _, b, rfl, rfl, ty, kk, _, rfl, ?_⟩
     cases b with
     | false => exact A1n ⟨z1, k⟩
     | true =>
       obtain ⟨z, rfl, nz⟩ := bad.resolve_left (by decide)
       refine Z2 ?_
       refine ⟨_, rfl, rfl, _, rfl, G9 (fun e => absurd (V.str.inj e) (nz .down)) (fun n0 => ?_)⟩
       refine ⟨_, rfl, rfl, _, rfl, G9 (fun e => absurd (V.str.inj e) (nz .up)) (fun n1 => ?_)⟩
       refine ⟨_, rfl, rfl, _, rfl, G9 (fun e => absurd (V.str.inj e) (nz .floor)) (fun n2 => ?_)⟩
       refine ⟨_, rfl, rfl, _, rfl, G9 (fun e => absurd (V.str.inj e) (nz .ceiling)) (fun n3 => ?_)⟩
       refine ⟨_, rfl, rfl, _, rfl, G9 (fun e => absurd (V.str.inj e) (nz .halfUp)) (fun n4 => ?_)⟩
       refine ⟨_, rfl, rfl, _, rfl, G9 (fun e => absurd (V.str.inj e) (nz .halfDown)) (fun n5 => ?_)⟩
       refine ⟨_, rfl, rfl, _, rfl, G9 (fun e => absurd (V.str.inj e) (nz .halfEven)) (fun n6 => ?_)⟩
       refine ⟨_, rfl, rfl, _, rfl, G9 (fun e => absurd (V.str.inj e) (nz .fiveUp)) (fun n7 => ?_)⟩
       exact ⟨z1, k⟩
end
structure CtxC (K : Frag) (mg : Str -> Option Value) (CC : Addr) : Prop where
 g : mg "Context" = some (.ref CC)
 cl : Cls K CC
 n_room : NoAttr K CC "room"
 n_rule : NoAttr K CC "rule"
 n_least : NoAttr K CC "least"
 n_most : NoAttr K CC "most"
 n_risen : NoAttr K CC "risen"
 n_trapped : NoAttr K CC "trapped"
def A1b (r s l m a b : V) : List (Str × V) := U6 "trapped" b (U6 "risen" a (U6 "most" m (U6 "least" l (U6 "rule" s (U6 "room" r [])))))
theorem A2h (r s l m a b : V) (n : Str) : (A1b r s l m a b).lookup n = if n = "trapped" then some b else if n = "risen" then some a else if n = "most" then some m else if n = "least" then some l else if n = "rule" then some s else if n = "room" then some r else none := by
 unfold A1b
 rw [D4, D4, D4, D4, D4, D4]
 rfl
theorem A1k (r s l m a b : V) : (A1b r s l m a b).lookup ("room" : Str) = some r := by rw [A2h, if_neg (by decide +kernel), if_neg (by decide +kernel), if_neg (by decide +kernel), if_neg (by decide +kernel), if_neg (by decide +kernel), if_pos rfl]
theorem G6x (r s l m a b : V) : (A1b r s l m a b).lookup ("least" : Str) = some l := by rw [A2h, if_neg (by decide +kernel), if_neg (by decide +kernel), if_neg (by decide +kernel), if_pos rfl]
theorem B6a (r s l m a b : V) : (A1b r s l m a b).lookup ("most" : Str) = some m := by rw [A2h, if_neg (by decide +kernel), if_neg (by decide +kernel), if_pos rfl]
theorem C1n (r s l m a b : V) : (A1b r s l m a b).lookup ("risen" : Str) = some a := by rw [A2h, if_neg (by decide +kernel), if_pos rfl]
theorem B4u (r s l m a b : V) : (A1b r s l m a b).lookup ("trapped" : Str) = some b := by rw [A2h, if_pos rfl]
theorem A2k (r s l m a b : V) : (A1b r s l m a b).lookup ("lowest" : Str) = none := by rw [A2h, if_neg (by decide +kernel), if_neg (by decide +kernel), if_neg (by decide +kernel), if_neg (by decide +kernel), if_neg (by decide +kernel), if_neg (by decide +kernel)]
theorem C4q (r s l m a b : V) : (A1b r s l m a b).lookup ("flags" : Str) = none := by rw [A2h, if_neg (by decide +kernel), if_neg (by decide +kernel), if_neg (by decide +kernel), if_neg (by decide +kernel), if_neg (by decide +kernel), if_neg (by decide +kernel)]
theorem C9h (r s l m a b : V) : (A1b r s l m a b).lookup ("trap" : Str) = none := by rw [A2h, if_neg (by decide +kernel), if_neg (by decide +kernel), if_neg (by decide +kernel), if_neg (by decide +kernel), if_neg (by decide +kernel), if_neg (by decide +kernel)]
theorem C4j (r s l m a b : V) : (A1b r s l m a b).lookup ("traps" : Str) = none := by rw [A2h, if_neg (by decide +kernel), if_neg (by decide +kernel), if_neg (by decide +kernel), if_neg (by decide +kernel), if_neg (by decide +kernel), if_neg (by decide +kernel)]
theorem C1a (r s l m a b : V) : (A1b r s l m a b).lookup ("raised" : Str) = none := by rw [A2h, if_neg (by decide +kernel), if_neg (by decide +kernel), if_neg (by decide +kernel), if_neg (by decide +kernel), if_neg (by decide +kernel), if_neg (by decide +kernel)]
structure CtxAt (CC : Addr) (H : Hp) (c : Addr) (r : Int) (y : Wy) (l m : Int) (a b : Addr) (xs ys : List V) : Prop where
 ins : ∃ dx, H c = some (.ins CC dx (A1b (.int r) (.str y.name) (.int l) (.int m) (.ref a) (.ref b)))
 ha : H a = some (.lst xs)
 hb : H b = some (.lst ys)
theorem CtxAt.same {CC : Addr} {H H' : Hp} {c : Addr} {r : Int} {y : Wy} {l m : Int} {a b : Addr} {xs ys : List V} (h : CtxAt CC H c r y l m a b xs ys) (e : Same H H') : CtxAt CC H' c r y l m a b xs ys := by
 obtain ⟨⟨dx, z⟩, z1, z2⟩ := h
 exact ⟨⟨dx, e _ _ z⟩, e _ _ z1, e _ _ z2⟩
section
variable {P : Program} {w : World} {K : Frag} {mg : Str -> Option Value} {base : Heap}
abbrev Z4 : Stmt := (U7 (top 48) 0)
abbrev A7f : Stmt := (U7 (top 48) 2)
abbrev A1h : Stmt := (U7 (top 48) 3)
abbrev A1g : Stmt := (U7 (top 48) 6)
def D4q (l : Int) (v : V) : Prop := (v = .non /\ l = -60) \/ (v = .int l /\ -60 <= l /\ l <= 0)
def V6s (K : Frag) (S : Hp -> Prop) (v1 v2 v3 v4 : V) : Prop := (∀ H', S H' -> C0y K H' 1 24 v1) \/ (A2z 1 24 v1 /\ ((∀ H', S H' -> V4b K H' v2) \/ ((∃ y : Wy, v2 = .str y.name) /\ ((v3 ≠ .non /\ ∀ H', S H' -> C0y K H' (-60) 0 v3) \/ ((∃ l, D4q l v3) /\ ∀ H', S H' -> C0y K H' 0 60 v4)))))
theorem Exc.none {p a : Addr} {H H' : Hp} {o : HO} (x : Exc p H H') (hp : H' p = some o) (n : H' a = none) : H a = none := by
 cases q : H a with
 | none => rfl
 | some u =>
   have := x a u q (fun e => by rw [e, hp] at n; cases n)
   rw [n] at this
   cases this
def B0j (K : Frag) (CC CB : Addr) : Sp := fun vs H Q E => ∃ p dx v1 v2 v3 v4, vs = [.ref p, v1, v2, v3, v4] /\ H p = some (.ins CC dx []) /\
 ((∃ r y l m, v1 = .int r /\ 1 <= r /\ r <= 24 /\ v2 = .str (Wy.name y) /\ D4q l v3 /\ v4 = .int m /\ 0 <= m /\ m <= 60 /\ ∀ a b H', Exc p H H' -> H a = none -> H b = none -> CtxAt CC H' p r y l m a b [] [] -> Q .non H') \/
  (V6s K (Exc p H) v1 v2 v3 v4 /\ ∀ H', Exc p H H' -> E (.ref CB) none H'))
theorem G5z : FnScope ["self", "room", "way", "least", "most"] ["self", "room", "way", "least", "most"] (A3 Z4) := scK
theorem J4t : B0a 1 24 := by unfold B0a; decide +kernel
theorem D4y : B0a (-60) 0 := by unfold B0a; decide +kernel
theorem J2c : B0a 0 60 := by unfold B0a; decide +kernel
theorem D5e {f fB fW CC CB CW : Addr} {dV : Value} {cw : Wy -> Addr} {fd fdB fdW : FuncData} (F : FunD K "__init__" "Context.__init__" Z4 dV f fd) (D_bounded : Def K mg "bounded" ["thing", "least", "most"] A1v fB fdB) (D_way_of : Def K mg "way_of" ["name"] A8d fW fdW)
   (G_bounded : FnOk P w K mg base (CX1 P w) 2 fB fdB ["thing", "least", "most"] (C2g K CB)) (G_way_of : FnOk P w K mg base (CX1 P w) 1 fW fdW ["name"] (G5a K CB cw)) (C : CtxC K mg CC)
   (W : ∀ y : Wy, WayC K mg y.cls (cw y) CW) (N : ∀ y : Wy, Y1p P w K mg base (cw y) y.name) : FnOk P w K mg base (CX1 P w) 3 f fd ["self", "room", "way", "least", "most"] (B0j K CC CB) := by
 refine F.okE G5z (fun vs H Q E h => ?_) (fun X cdv A outer s H vs Q E hX hr hx h => ?_)
 . obtain ⟨p, dx, v1, v2, v3, v4, rfl, _⟩ := h
   rfl
 . subst hX
   obtain ⟨p, dx, v1, v2, v3, v4, rfl, hp, h⟩ := h
   obtain ⟨y, hy⟩ : ∃ y : Wy, ∀ z : Wy, v2 = .str z.name -> z = y := by
     by_cases q : ∃ z : Wy, v2 = .str z.name
     . obtain ⟨z, rfl⟩ := q
       exact ⟨z, fun u e => Wy.inj (V.str.inj e.symm)⟩
     . exact ⟨.down, fun z e => absurd ⟨z, e⟩ q⟩
   obtain ⟨fN, fdN, mN, gN, bN⟩ := N y
   refine ⟨_, (A7 (Z0 (pv 0) (C5 D_bounded G_bounded hr hx (A0 (pv 1) (A0 A1 (A0 A1 A8)))) rfl)
     (A7 (Z0 (pv 0) (A5k (C5 D_way_of G_way_of hr hx (A0 (pv 2) A8)) (W y).cl mN gN hr bN .nil hx) rfl)
     (A7 (C4 (Z0 (pv 0) (A1w (C0 V6g (pv 3) V6y (C7 _)) (C1u B0t A1) (C5 D_bounded G_bounded hr hx (A0 (pv 3) (A0 (C1u B0t A1) (A0 A1 A8))))) rfl))
     (A7 (Z0 (pv 0) (C5 D_bounded G_bounded hr hx (A0 (pv 4) (A0 A1 (A0 A1 A8)))) rfl)
     (A7 (Z0 (pv 0) (Y2 A8) rfl)
     (B0 (Z0 (pv 0) (Y2 A8) rfl))))))), ?_⟩
   have lz : ∀ (fs : List (Str × V)) (f : Str) (v : V) (n : Nat), fs.length <= n -> (U6 f v fs).length <= n + 1 := fun fs f v n h => Nat.le_trans (A0r f v fs) (Nat.succ_le_succ h)
   have q0 : (([] : List (Str × V))).length <= 0 := Nat.le_refl _
   have z0 : 0 <= sizeLine := Nat.zero_le _
   rcases h with ⟨r, y', l, m, rfl, r1, r2, rfl, hl, rfl, m1, m2, k⟩ | ⟨bad, k⟩
   . obtain rfl := hy _ rfl
     refine ⟨_, rfl, _, _, _, rfl, J4t, .inl ⟨⟨r, rfl, r1, r2⟩, ?_⟩⟩
     refine ⟨_, rfl, p, CC, dx, [], rfl, hp, C.cl, C.n_room, by show 0 < 1000; decide, ?_⟩
     refine ⟨_, rfl, _, rfl, .inl ⟨_, rfl, fun q dq H2 nq s2 eq => ⟨q, dq, [], rfl, eq, rfl, _, rfl, ?_⟩⟩⟩
     have hp2 := s2 _ _ (A9 (H := H) (a := p) (o := .ins CC dx (U6 "room" (.int r) [])))
     have x2 : Exc p H H2 := (Exc.upd (H := H) (o := .ins CC dx (U6 "room" (.int r) []))).trans (.of s2)
     refine ⟨_, rfl, p, CC, dx, _, rfl, hp2, C.cl, C.n_rule, Nat.lt_of_le_of_lt (lz _ _ _ 0 q0) (by decide), ?_⟩
     refine ⟨fun σ' H' => σ' = [some (.ref p), some (.int r), some (.str y'.name), some v3, some (.int m)] /\ Exc p H H' /\ H' p = some (.ins CC dx (U6 "least" (.int l) (U6 "rule" (.str y'.name) (U6 "room" (.int r) [])))), ?_, ?_⟩
     . refine ⟨_, rfl, rfl, _, rfl, ?_⟩
       rcases hl with ⟨rfl, rfl⟩ | ⟨rfl, l1, l2⟩
       . refine B6h rfl ⟨_, rfl, ?_⟩
         exact ⟨_, rfl, p, CC, dx, _, rfl, A9, C.cl, C.n_least, Nat.lt_of_le_of_lt (lz _ _ _ 1 (lz _ _ _ 0 q0)) (by decide), rfl, (x2.trans Exc.upd).trans Exc.upd, A9⟩
       . refine C1h (by intro z; cases z) ⟨_, rfl, _, rfl, _, _, _, rfl, D4y, .inl ⟨⟨l, rfl, l1, l2⟩, ?_⟩⟩
         exact ⟨_, rfl, p, CC, dx, _, rfl, A9, C.cl, C.n_least, Nat.lt_of_le_of_lt (lz _ _ _ 1 (lz _ _ _ 0 q0)) (by decide), rfl, (x2.trans Exc.upd).trans Exc.upd, A9⟩
     rintro σ' H4 ⟨rfl, x4, hp4⟩
     refine ⟨_, rfl, _, _, _, rfl, J2c, .inl ⟨⟨m, rfl, m1, m2⟩, ?_⟩⟩
     refine ⟨_, rfl, p, CC, dx, _, rfl, hp4, C.cl, C.n_most, Nat.lt_of_le_of_lt (lz _ _ _ 2 (lz _ _ _ 1 (lz _ _ _ 0 q0))) (by decide), ?_⟩
     refine ⟨z0, fun a na => ?_⟩
     refine ⟨_, rfl, p, CC, dx, _, rfl, Same.upd na _ _ A9, C.cl, C.n_risen, Nat.lt_of_le_of_lt (lz _ _ _ 3 (lz _ _ _ 2 (lz _ _ _ 1 (lz _ _ _ 0 q0)))) (by decide), ?_⟩
     refine ⟨z0, fun b nb => ?_⟩
     refine ⟨_, rfl, p, CC, dx, _, rfl, Same.upd nb _ _ A9, C.cl, C.n_trapped, Nat.lt_of_le_of_lt (lz _ _ _ 4 (lz _ _ _ 3 (lz _ _ _ 2 (lz _ _ _ 1 (lz _ _ _ 0 q0))))) (by decide), ?_⟩
     have x5 := x4.trans (Exc.upd (H := H4) (o := .ins CC dx (U6 "most" (.int m) (U6 "least" (.int l) (U6 "rule" (.str y'.name) (U6 "room" (.int r) []))))))
     have nap : a ≠ p := fun e => by rw [e, A9] at na; cases na
     have nbp : b ≠ p := fun e => by rw [e, A9] at nb; cases nb
     have x6 := (x5.trans (.of (Same.upd (o := .lst []) na))).trans (Exc.upd (o := .ins CC dx (U6 "risen" (.ref a) (U6 "most" (.int m) (U6 "least" (.int l) (U6 "rule" (.str y'.name) (U6 "room" (.int r) [])))))))
     have x7 := (x6.trans (.of (Same.upd (o := .lst []) nb))).trans (Exc.upd (o := .ins CC dx (A1b (.int r) (.str y'.name) (.int l) (.int m) (.ref a) (.ref b))))
     refine k a b _ x7 (x5.none A9 na) (x6.none A9 nb) ⟨⟨dx, A9⟩, ?_, ?_⟩
     . rw [B3 nap]
       refine Same.upd nb _ _ ?_
       rw [B3 nap]
       exact A9
     . rw [B3 nbp]
       exact A9
   . rcases bad with b1 | ⟨⟨r, rfl, r1, r2⟩, bad⟩
     . exact ⟨_, rfl, _, _, _, rfl, J4t, .inr ⟨b1 _ (Exc.refl p H), k _ (Exc.refl p H)⟩⟩
     refine ⟨_, rfl, _, _, _, rfl, J4t, .inl ⟨⟨r, rfl, r1, r2⟩, ?_⟩⟩
     refine ⟨_, rfl, p, CC, dx, [], rfl, hp, C.cl, C.n_room, by show 0 < 1000; decide, ?_⟩
     have x1 : Exc p H (upd H p (.ins CC dx (U6 "room" (.int r) []))) := Exc.upd
     rcases bad with b2 | ⟨⟨y', rfl⟩, bad⟩
     . exact ⟨_, rfl, _, rfl, .inr ⟨b2 _ x1, k _ x1⟩⟩
     obtain rfl := hy _ rfl
     refine ⟨_, rfl, _, rfl, .inl ⟨_, rfl, fun q dq H2 nq s2 eq => ⟨q, dq, [], rfl, eq, rfl, _, rfl, ?_⟩⟩⟩
     have hp2 := s2 _ _ (A9 (H := H) (a := p) (o := .ins CC dx (U6 "room" (.int r) [])))
     have x2 : Exc p H H2 := x1.trans (.of s2)
     refine ⟨_, rfl, p, CC, dx, _, rfl, hp2, C.cl, C.n_rule, Nat.lt_of_le_of_lt (lz _ _ _ 0 q0) (by decide), ?_⟩
     rcases bad with ⟨n3, b3⟩ | ⟨⟨l, hl⟩, b4⟩
     . refine ⟨fun _ _ => False, ?_, fun _ _ z => z.elim⟩
       refine ⟨_, rfl, rfl, _, rfl, C1h n3 ?_⟩
       exact ⟨_, rfl, _, rfl, _, _, _, rfl, D4y, .inr ⟨b3 _ (x2.trans Exc.upd), k _ (x2.trans Exc.upd)⟩⟩
     refine ⟨fun σ' H' => σ' = [some (.ref p), some (.int r), some (.str y'.name), some v3, some v4] /\ Exc p H H', ?_, ?_⟩
     . refine ⟨_, rfl, rfl, _, rfl, ?_⟩
       rcases hl with ⟨rfl, rfl⟩ | ⟨rfl, l1, l2⟩
       . refine B6h rfl ⟨_, rfl, ?_⟩
         exact ⟨_, rfl, p, CC, dx, _, rfl, A9, C.cl, C.n_least, Nat.lt_of_le_of_lt (lz _ _ _ 1 (lz _ _ _ 0 q0)) (by decide), rfl, (x2.trans Exc.upd).trans Exc.upd⟩
       . refine C1h (by intro z; cases z) ⟨_, rfl, _, rfl, _, _, _, rfl, D4y, .inl ⟨⟨l, rfl, l1, l2⟩, ?_⟩⟩
         exact ⟨_, rfl, p, CC, dx, _, rfl, A9, C.cl, C.n_least, Nat.lt_of_le_of_lt (lz _ _ _ 1 (lz _ _ _ 0 q0)) (by decide), rfl, (x2.trans Exc.upd).trans Exc.upd⟩
     rintro σ' H4 ⟨rfl, x4⟩
     exact ⟨_, rfl, _, _, _, rfl, J2c, .inr ⟨b4 _ x4, k _ x4⟩⟩
end
def sigS : List Str := ["void", "split", "burst", "sunk", "faint", "off", "cut"]
def A2y : List V := sigS.map V.str
structure SigK (K : Frag) (mg : Str -> Option Value) (aS : Addr) : Prop where
 g : mg "SIGNALS" = some (.ref aS)
 ty : ∃ o, K.lookup aS = some o /\ o.cls = .type "tuple"
 sq : ∀ H, SqT K H aS A2y
abbrev A5u : Stmt := (top 50)
section
variable {P : Program} {w : World} {K : Frag} {mg : Str -> Option Value} {base : Heap}
def Y5c (K : Frag) (H : Hp) (x : V) : Prop := ∃ t b, TyE K H x t /\ kitOne K t (.type "str") = some b /\ (b = false \/ ∃ z, x = .str z /\ z ∉ sigS)
def D3y (K : Frag) (H : Hp) (v : V) : Prop := (∃ t, TyE K H v t /\ kitOne K t (.type "list") = some false) \/ (∃ (p : Addr) (zs : List Str) (x : V) (r : List V), v = .ref p /\ H p = some (.lst (zs.map V.str ++ x :: r)) /\ (∀ z ∈ zs, z ∈ sigS) /\ Y5c K H x)
def C4g (K : Frag) (CB : Addr) : Sp := fun vs H Q E => ∃ v, vs = [v] /\ ((∃ (p : Addr) (zs : List Str), v = .ref p /\ H p = some (.lst (zs.map V.str)) /\ (∀ z ∈ zs, z ∈ sigS) /\ Q .non H) \/ (D3y K H v /\ E (.ref CB) none H))
theorem scNeedS : FnScope ["names", "name"] ["names"] (A3 A5u) := scK
theorem J2h {f CB aS : Addr} {fd : FuncData} (D : Def K mg "need_signals" ["names"] A5u f fd) (O : Own mg) (T : Kit K) (B : Err K mg "BadContext" CB) (SG : SigK K mg aS) : FnOk P w K mg base (CX1 P w) 1 f fd ["names"] (C4g K CB) := by
 refine D.F.okE scNeedS (fun vs H Q E h => ?_) (fun X cdv A outer s H vs Q E hX hr hx h => ?_)
 . obtain ⟨v, rfl, _⟩ := h
   rfl
 . subst hX
   obtain ⟨v, rfl, h⟩ := h
   refine ⟨_, (A7 (G2 (A5g (A2m (G6g O.isi (pv 0) (pty O.list_ boot_list)))) (B0 (A1t (by rfl) B.g B.q PySem.F.excBase_ValueError hr.hd hx (A0 B5 A8))) C9)
     (B0 (C3g PassesOwn.leaving rfl (G4g (pv 0)) (V3 (i := 1) scNeedS.nd rfl (Or.inl rfl)) (B0 (G2 (PW.pt (C1k (A5g (A2m (G6g O.isi (pv 1) (pty O.str_ boot_str)))) (B0x (C0 C3t (pv 1) (J3n SG.g) (by rfl))))) (B0 (A1t (by rfl) B.g B.q PySem.F.excBase_ValueError hr.hd hx (A0 B5 A8))) C9))))), ?_⟩
   have z1 : 1 <= sizeLine := D5 (by decide)
   rcases h with ⟨p, zs, rfl, hp, hz, k⟩ | ⟨(⟨t, ty, kk⟩ | ⟨p, zs, x, r, rfl, hp, hz, t, b, ty, kk, bad⟩), k⟩
   . refine ⟨_, rfl, _, _, _, _, true, rfl, rfl, V4f hp, T.list_list, _, rfl, Z2 ?_⟩
     refine ⟨_, rfl, p, rfl, ⟨_, SqL.of hp⟩, B6q (xs := zs.map V.str) (fun i σ H' => H' = H /\ ∃ v, σ = [some (.ref p), v]) ⟨rfl, none, rfl⟩ ?_ ?_ ?_⟩
     . rintro i σ H' _ ⟨rfl, _⟩
       exact SqL.of hp
     . rintro i x σ H' hi ⟨rfl, v, rfl⟩
       obtain ⟨z, hzm, rfl⟩ := List.mem_map.mp (List.mem_of_getElem? hi)
       refine ⟨_, rfl, _, _, _, _, true, rfl, rfl, J4q _, T.str_str, _, rfl, Z2 ?_⟩
       refine ⟨_, rfl, aS, A2y, rfl, .inr (SG.sq _), rfl, Y0 _, _, rfl, ?_⟩
       have e : inV (.str z) A2y = true := by
         show inV (.str z) (sigS.map V.str) = true
         rw [Z5]
         simpa using hz z hzm
       rw [e]
       exact Z2 ⟨rfl, _, rfl⟩
     . rintro σ H' ⟨rfl, v, rfl⟩
       exact k
   . exact ⟨_, rfl, _, _, _, _, false, rfl, rfl, ty, kk, _, rfl, A1n ⟨z1, k⟩⟩
   . refine ⟨_, rfl, _, _, _, _, true, rfl, rfl, V4f hp, T.list_list, _, rfl, Z2 ?_⟩
     refine ⟨_, rfl, p, rfl, ⟨_, SqL.of hp⟩, B6q (xs := zs.map V.str ++ x :: r) (fun i σ H' => H' = H /\ i <= zs.length /\ ∃ v, σ = [some (.ref p), v]) ⟨rfl, Nat.zero_le _, none, rfl⟩ ?_ ?_ ?_⟩
     . rintro i σ H' _ ⟨rfl, _⟩
       exact SqL.of hp
     . rintro i y σ H' hi ⟨rfl, hl, v, rfl⟩
       by_cases hlt : i < zs.length
       . rw [List.getElem?_append_left (by simpa using hlt)] at hi
         obtain ⟨z, hzm, rfl⟩ := List.mem_map.mp (List.mem_of_getElem? hi)
         refine ⟨_, rfl, _, _, _, _, true, rfl, rfl, J4q _, T.str_str, _, rfl, Z2 ?_⟩
         refine ⟨_, rfl, aS, A2y, rfl, .inr (SG.sq _), rfl, Y0 _, _, rfl, ?_⟩
         have e : inV (.str z) A2y = true := by
           show inV (.str z) (sigS.map V.str) = true
           rw [Z5]
           simpa using hz z hzm
         rw [e]
         exact Z2 ⟨rfl, by omega, _, rfl⟩
       . have e : i = zs.length := by omega
         subst e
         rw [List.getElem?_append_right (by simp)] at hi
         simp at hi
         subst hi
         refine ⟨_, rfl, _, _, _, _, b, rfl, rfl, ty, kk, _, rfl, ?_⟩
         cases b with
         | false => exact A1n (A1n ⟨z1, k⟩)
         | true =>
           obtain ⟨z, rfl, nz⟩ := bad.resolve_left (by decide)
           refine Z2 ⟨_, rfl, aS, A2y, rfl, .inr (SG.sq _), rfl, Y0 _, _, rfl, ?_⟩
           have e : inV (.str z) A2y = false := by
             show inV (.str z) (sigS.map V.str) = false
             rw [Z5]
             simpa using nz
           rw [e]
           exact A1n ⟨z1, k⟩
     . rintro σ H' ⟨rfl, hl, _⟩
       exfalso
       rw [List.length_append, List.length_map, List.length_cons] at hl
       omega
end
abbrev A5z : Stmt := (top 51)
section
variable {P : Program} {w : World} {K : Frag} {mg : Str -> Option Value} {base : Heap}
def Y4 (zs : List Str) : List Str := sigS.filter fun z => zs.contains z
def C3h (K : Frag) : Sp := fun vs H Q _ => ∃ (p : Addr) (zs : List Str), vs = [.ref p] /\ SqL K H p (zs.map V.str) /\ ∀ l H', Same H H' -> H l = none -> H' l = some (.lst ((Y4 zs).map V.str)) -> Q (.ref l) H'
theorem U8j : FnScope ["names"] ["names"] (A3 A5z) := scK
theorem J5d {f aS : Addr} {fd : FuncData} (D : Def K mg "in_order" ["names"] A5z f fd) (SG : SigK K mg aS) : FnOk P w K mg base (CX1 P w) 1 f fd ["names"] (C3h K) := by
 refine FnOk.up (D.F.ok U8j (fun vs H Q E h => ?_) (fun cdv A outer s H vs Q E hr h => ?_))
 . obtain ⟨p, zs, rfl, _⟩ := h
   rfl
 . obtain ⟨p, zs, rfl, hp, k⟩ := h
   refine ⟨_, (B0 (B9 (B7k (N := ["name"]) (F := ["names"]) (js := [0]) (CompScopeF.of1 ⟨rfl, by decide +kernel, by decide +kernel, by decide +kernel, by decide +kernel⟩ (by rfl) (by rfl) ⟨_, by rfl⟩ (by rfl) (by rfl)) (.inl hr.hd) (C3x (J3n SG.g)) rfl (fun C s₀ H₀ ex pn h => V3 (i := 0) (by decide +kernel : (["name", "names"] : List Str).Nodup) rfl (Or.inl rfl)) (fun C s₀ H₀ ex pn h => (C0 (A1p (K := K) rfl) (pv 0) (pv 1) (by rfl))) (fun C s₀ H₀ ex pn h => (pv 0))))), ?_⟩
   refine B6n (zs := sigS) (f := fun z => zs.contains z) (σf := [some (.ref p)]) SG.sq (by decide) (fun z H' Qb sm q => ?_) (fun z H' Qv q => ⟨_, rfl, q⟩) (fun D H' sm nd e => k D H' sm nd e) rfl
   refine ⟨_, rfl, _, rfl, p, _, rfl, .inl (sm.seq hp), rfl, Y0 _, _, rfl, ?_⟩
   show Qb (inV (.str z) (zs.map V.str)) H'
   rw [Z5]
   exact q
end
abbrev A2v : Stmt := (U7 (top 48) 5)
abbrev A0c : Stmt := (U7 (top 48) 7)
theorem C9g (r s l m a b : V) : (A1b r s l m a b).length = 6 := rfl
theorem C4h (r s l m a b v : V) : U6 "trapped" v (A1b r s l m a b) = A1b r s l m a v := rfl
theorem D4h (r s l m a b v : V) : U6 "risen" v (A1b r s l m a b) = A1b r s l m v b := rfl
section
variable {P : Program} {w : World} {K : Frag} {mg : Str -> Option Value} {base : Heap}
def D4v (K : Frag) (CC CB : Addr) : Sp := fun vs H Q E => ∃ c r y l m a b xs ys v, vs = [.ref c, v] /\ CtxAt CC H c r y l m a b xs ys /\
 ((∃ (p : Addr) (zs : List Str), v = .ref p /\ H p = some (.lst (zs.map V.str)) /\ (∀ z ∈ zs, z ∈ sigS) /\ ∀ b' H', Exc c H H' -> H b' = none -> CtxAt CC H' c r y l m a b' xs ((Y4 zs).map V.str) -> Q .non H') \/ (D3y K H v /\ E (.ref CB) none H))
theorem V5j : FnScope ["self", "names"] ["self", "names"] (A3 A2v) := scK
theorem V0k {f f1 f2 CC CB : Addr} {fd fd1 fd2 : FuncData} (F : Fun K "trap" "Context.trap" A2v f fd) (D_need_signals : Def K mg "need_signals" ["names"] A5u f1 fd1) (G_need_signals : FnOk P w K mg base (CX1 P w) 1 f1 fd1 ["names"] (C4g K CB))
   (D_in_order : Def K mg "in_order" ["names"] A5z f2 fd2) (G_in_order : FnOk P w K mg base (CX1 P w) 1 f2 fd2 ["names"] (C3h K)) (C : CtxC K mg CC) : FnOk P w K mg base (CX1 P w) 2 f fd ["self", "names"] (D4v K CC CB) := by
 refine F.okE V5j (fun vs H Q E h => ?_) (fun X cdv A outer s H vs Q E hX hr hx h => ?_)
 . obtain ⟨c, r, y, l, m, a, b, xs, ys, v, rfl, _⟩ := h
   rfl
 . subst hX
   obtain ⟨c, r, y, l, m, a, b, xs, ys, v, rfl, ⟨⟨dx, e⟩, ha, hb⟩, h⟩ := h
   refine ⟨_, (A7 (Y7 (C5 D_need_signals G_need_signals hr hx (A0 (pv 1) A8)))
     (B0 (Z0 (pv 0) (C5 D_in_order G_in_order hr hx (A0 (pv 1) A8)) rfl))), ?_⟩
   rcases h with ⟨p, zs, rfl, hp, hz, k⟩ | ⟨bad, k⟩
   . refine ⟨_, rfl, _, rfl, .inl ⟨p, zs, rfl, hp, hz, ?_⟩⟩
     refine ⟨_, rfl, p, zs, rfl, SqL.of hp, fun b' H1 s1 n1 e1 => ?_⟩
     refine ⟨_, rfl, c, CC, dx, _, rfl, s1 _ _ e, C.cl, C.n_trapped, by rw [C9g]; decide, ?_⟩
     rw [C4h]
     have nac : a ≠ c := J1 ha e (by intro z; cases z)
     have nbc : b' ≠ c := J1 e1 (s1 _ _ e) (by intro z; cases z)
     exact k b' _ ((Exc.of s1).trans Exc.upd) n1 ⟨⟨dx, A9⟩, by rw [B3 nac]; exact s1 _ _ ha, by rw [B3 nbc]; exact e1⟩
   . exact ⟨_, rfl, _, rfl, .inr ⟨bad, k⟩⟩
def hit (ys zs : List Str) : Option Str := ys.find? fun t => zs.contains t
def B6k (K : Frag) (CC CB CT : Addr) : Sp := fun vs H Q E => ∃ c r y l m a b, ∃ (xs ys : List Str) (v : V), vs = [.ref c, v] /\ CtxAt CC H c r y l m a b (xs.map V.str) (ys.map V.str) /\ xs.length + 100 <= 1000 /\
 ((∃ (p : Addr) (zs : List Str), v = .ref p /\ H p = some (.lst (zs.map V.str)) /\ zs.length <= 100 /\ (∀ z ∈ zs, z ∈ sigS) /\
     (hit ys zs = none -> ∀ a' H', Exc c H H' -> H a' = none -> CtxAt CC H' c r y l m a' b ((Y4 (xs ++ zs)).map V.str) (ys.map V.str) -> Q .non H') /\
     (∀ t, hit ys zs = some t -> ∀ a' d H', Exc c H H' -> H a' = none -> CtxAt CC H' c r y l m a' b ((Y4 (xs ++ zs)).map V.str) (ys.map V.str) -> H d = none -> H' d = some (.xd [("signal", .str t)]) -> E (.ref CT) (some d) H')) \/
  (D3y K H v /\ E (.ref CB) none H))
theorem scRaised : FnScope ["self", "names", "name"] ["self", "names"] (A3 A0c) := scK
theorem G7e {f f1 f2 fX CC CB CT : Addr} {fd fd1 fd2 fdX : FuncData} (F : Fun K "raised" "Context.raised" A0c f fd) (D_need_signals : Def K mg "need_signals" ["names"] A5u f1 fd1) (G_need_signals : FnOk P w K mg base (CX1 P w) 1 f1 fd1 ["names"] (C4g K CB))
   (D_in_order : Def K mg "in_order" ["names"] A5z f2 fd2) (G_in_order : FnOk P w K mg base (CX1 P w) 1 f2 fd2 ["names"] (C3h K)) (C : CtxC K mg CC)
   (gT : mg "Trapped" = some (.ref CT)) (XI : ExcI K CT fX) (GX : FnOk P w K mg base CX0 1 fX fdX ["self", "signal"] (C3p CT "signal")) (BX : Binds K fdX ["self", "signal"] []) : FnOk P w K mg base (CX1 P w) 3 f fd ["self", "names"] (B6k K CC CB CT) := by
 refine F.okE scRaised (fun vs H Q E h => ?_) (fun X cdv A outer s H vs Q E hX hr hx h => ?_)
 . obtain ⟨c, r, y, l, m, a, b, xs, ys, v, rfl, _⟩ := h
   rfl
 . subst hX
   obtain ⟨c, r, y, l, m, a, b, xs, ys, v, rfl, ⟨⟨dx, e⟩, ha, hb⟩, lx, h⟩ := h
   refine ⟨_, (A7 (Y7 (C5 D_need_signals G_need_signals hr hx (A0 (pv 1) A8)))
     (A7 (Z0 (pv 0) (C5 D_in_order G_in_order hr hx (A0 (B1 D3h (G0 (pv 0) rfl) (pv 1)) A8)) rfl)
     (B0 (C3g PassesOwn.leaving rfl (G4g (G0 (pv 0) rfl)) (V3 (i := 2) scRaised.nd rfl (Or.inl rfl)) (B0 (G2 (C0 C1f (pv 2) (pv 1) (by rfl)) (B0 (G7s gT XI GX BX hr hx (A0 (pv 2) A8))) C9)))))), ?_⟩
   rcases h with ⟨p, zs, rfl, hp, lz, hz, k1, k2⟩ | ⟨bad, k⟩
   . refine ⟨_, rfl, _, rfl, .inl ⟨p, zs, rfl, hp, hz, ?_⟩⟩
     refine ⟨_, rfl, c, CC, dx, _, _, rfl, e, C.cl, C.n_risen, C1n _ _ _ _ _ _, _, rfl, a, p, _, _, rfl, rfl, ha, hp, D5 (by rw [List.length_map, List.length_map]; omega), fun q nq => ?_⟩
     have u1 := Same.upd (o := .lst (xs.map V.str ++ zs.map V.str)) nq
     refine ⟨q, xs ++ zs, rfl, SqL.of (by rw [A9, List.map_append]), fun a' H1 s1 n1 e1 => ?_⟩
     have s2 := u1.trans s1
     refine ⟨_, rfl, c, CC, dx, _, rfl, s2 _ _ e, C.cl, C.n_risen, by rw [C9g]; decide, ?_⟩
     rw [D4h]
     have nbc : b ≠ c := J1 hb e (by intro z; cases z)
     have npc : p ≠ c := J1 hp e (by intro z; cases z)
     have nac : a' ≠ c := J1 e1 (s2 _ _ e) (by intro z; cases z)
     have x2 : Exc c H (upd H1 c (.ins CC dx (A1b (.int r) (.str y.name) (.int l) (.int m) (.ref a') (.ref b)))) := (Exc.of s2).trans Exc.upd
     have hb2 : (upd H1 c (.ins CC dx (A1b (.int r) (.str y.name) (.int l) (.int m) (.ref a') (.ref b)))) b = some (.lst (ys.map V.str)) := by rw [B3 nbc]; exact s2 _ _ hb
     have hp2 : (upd H1 c (.ins CC dx (A1b (.int r) (.str y.name) (.int l) (.int m) (.ref a') (.ref b)))) p = some (.lst (zs.map V.str)) := by rw [B3 npc]; exact s2 _ _ hp
     have ct : CtxAt CC (upd H1 c (.ins CC dx (A1b (.int r) (.str y.name) (.int l) (.int m) (.ref a') (.ref b)))) c r y l m a' b ((Y4 (xs ++ zs)).map V.str) (ys.map V.str) := ⟨⟨dx, A9⟩, by rw [B3 nac]; exact e1, hb2⟩
     refine ⟨_, rfl, c, CC, dx, _, _, rfl, A9, C.cl, C.n_trapped, B4u _ _ _ _ _ _, b, rfl, ⟨_, SqL.of hb2⟩, ?_⟩
     generalize upd H1 c (.ins CC dx (A1b (.int r) (.str y.name) (.int l) (.int m) (.ref a') (.ref b))) = H3 at x2 hb2 hp2 ct ⊢
     refine B6q (xs := ys.map V.str) (fun i σ H' => H' = H3 /\ (∀ t ∈ ys.take i, zs.contains t = false) /\ ∃ v, σ = [some (.ref c), some (.ref p), v]) ⟨rfl, by simp, none, rfl⟩ ?_ ?_ ?_
     . rintro i σ H' _ ⟨rfl, _⟩
       exact SqL.of hb2
     . rintro i x σ H' hi ⟨rfl, ht, v, rfl⟩
       rw [List.getElem?_map] at hi
       obtain ⟨t, hti, rfl⟩ := Option.map_eq_some_iff.mp hi
       refine ⟨_, rfl, _, rfl, p, _, rfl, .inl (SqL.of hp2), rfl, Y0 _, _, rfl, ?_⟩
       have hlt : i < ys.length := (List.getElem?_eq_some_iff.mp hti).1
       have et : ys.take (i + 1) = ys.take i ++ [t] := by
         rw [List.take_succ_eq_append_getElem hlt, (List.getElem?_eq_some_iff.mp hti).2]
       cases hc : zs.contains t with
       | false =>
         rw [show (if false = true then !inV (V.str t) (zs.map V.str) else inV (V.str t) (zs.map V.str)) = false by rw [if_neg Bool.false_ne_true, Z5, hc]]
         refine Z2 ⟨rfl, fun t' h' => ?_, _, rfl⟩
         rw [et] at h'
         rcases List.mem_append.mp h' with h' | h'
         . exact ht t' h'
         . rw [List.mem_singleton.mp h']; exact hc
       | true =>
         rw [show (if false = true then !inV (V.str t) (zs.map V.str) else inV (V.str t) (zs.map V.str)) = true by rw [if_neg Bool.false_ne_true, Z5, hc]]
         obtain ⟨dx', hc3⟩ := ct.ins
         refine A1n ⟨_, rfl, _, rfl, fun d H4 s4 nd e4 => ?_⟩
         refine k2 t ?_ a' d H4 (x2.trans (.of s4)) ((u1.free n1)) (ct.same s4) (x2.none hc3 nd) e4
         unfold hit
         rw [List.find?_eq_some_iff_append]
         refine ⟨hc, ys.take i, ys.drop (i + 1), ?_, fun t' h' => by rw [ht t' h']; rfl⟩
         have := List.take_append_drop (i + 1) ys
         rw [et] at this
         rw [List.append_assoc] at this
         exact this.symm
     . rintro σ H' ⟨rfl, ht, v, rfl⟩
       refine k1 ?_ a' _ x2 (u1.free n1) ct
       unfold hit
       rw [List.find?_eq_none]
       rw [List.length_map, List.take_length] at ht
       intro t hm
       rw [ht t hm]
       exact Bool.false_ne_true
   . exact ⟨_, rfl, _, rfl, .inr ⟨bad, k⟩⟩
end
section
variable {P : Program} {w : World} {K : Frag} {mg : Str -> Option Value} {base : Heap}
def B6g (CC : Addr) : Sp := fun vs H Q _ => ∃ c r y l m a b xs ys, vs = [.ref c] /\ CtxAt CC H c r y l m a b xs ys /\ Q (.int (l - r + 1)) H
theorem J4z : FnScope ["self"] ["self"] (A3 A7f) := scK
theorem G6u {f CC : Addr} {fd : FuncData} (F : Fun K "lowest" "Context.lowest" A7f f fd) (C : CtxC K mg CC) : FnOk P w K mg base (CX1 P w) 1 f fd ["self"] (B6g CC) := by
 refine FnOk.up (F.ok J4z (fun vs H Q E h => ?_) (fun cdv A outer s H vs Q E hr h => ?_))
 . obtain ⟨c, r, y, l, m, a, b, xs, ys, rfl, _⟩ := h
   rfl
 . obtain ⟨c, r, y, l, m, a, b, xs, ys, rfl, ⟨⟨dx, e⟩, _, _⟩, k⟩ := h
   refine ⟨_, (B0 (B9 (B1 G8 (B1 D9 (G0 (pv 0) rfl) (G0 (pv 0) rfl)) A1))), ?_⟩
   exact ⟨_, rfl, c, CC, dx, _, _, rfl, e, C.cl, C.n_least, G6x _ _ _ _ _ _, _, rfl, c, CC, dx, _, _, rfl, e, C.cl, C.n_room, A1k _ _ _ _ _ _, _, _, rfl, rfl, _, _, rfl, rfl, k⟩
def A8f (CC : Addr) : Sp := fun vs H Q _ => ∃ c r y l m a b xs ys, vs = [.ref c] /\ CtxAt CC H c r y l m a b xs ys /\ ∀ p, H p = none -> Q (.ref p) (upd H p (.lst xs))
theorem D4t : FnScope ["self"] ["self"] (A3 A1h) := scK
theorem C9d {f CC : Addr} {fd : FuncData} (F : Fun K "flags" "Context.flags" A1h f fd) (C : CtxC K mg CC) (O : Own mg) : FnOk P w K mg base (CX1 P w) 1 f fd ["self"] (A8f CC) := by
 refine FnOk.up (F.ok D4t (fun vs H Q E h => ?_) (fun cdv A outer s H vs Q E hr h => ?_))
 . obtain ⟨c, r, y, l, m, a, b, xs, ys, rfl, _⟩ := h
   rfl
 . obtain ⟨c, r, y, l, m, a, b, xs, ys, rfl, ⟨⟨dx, e⟩, ha, _⟩, k⟩ := h
   refine ⟨_, (B0 (B9 (V0 A3u (by rfl) O.list_ boot_list (A0 (G0 (pv 0) rfl) A8)))), ?_⟩
   exact ⟨_, rfl, c, CC, dx, _, _, rfl, e, C.cl, C.n_risen, C1n _ _ _ _ _ _, a, xs, rfl, .inl (SqL.of ha), k⟩
structure MakeC (P : Program) (w : World) (K : Frag) (mg : Str -> Option Value) (base : Heap) (CC CB fI : Addr) (fdI : FuncData) : Prop where
 m : Mk K CC fI
 g : FnOk P w K mg base (CX1 P w) 3 fI fdI ["self", "room", "way", "least", "most"] (B0j K CC CB)
theorem V0v {C x dx : Addr} {H H' : Hp} (n1 : H x = none) (n2 : H dx = none) (ne : dx ≠ x) (e : Exc x (upd (upd H dx (.own x)) x (.ins C dx [])) H') : Same H H' := fun b o h =>
 e b o (by rw [B3 (C6 h n1), B3 (C6 h n2)]; exact h) (C6 h n1)
theorem Y0w {CC CB x dx : Addr} {H : Hp} {Q : VK} {E : XK} {v1 v2 v3 v4 : V} {r : Int} {y : Wy} {l m : Int} (n1 : H x = none) (n2 : H dx = none) (ne : dx ≠ x) (h1 : v1 = .int r) (r1 : 1 <= r) (r2 : r <= 24) (h2 : v2 = .str y.name) (h3 : D4q l v3) (h4 : v4 = .int m) (m1 : 0 <= m) (m2 : m <= 60)
   (k : ∀ a b H', Same H H' -> CtxAt CC H' x r y l m a b [] [] -> Q .non H') : B0j K CC CB [.ref x, v1, v2, v3, v4] (upd (upd H dx (.own x)) x (.ins CC dx [])) Q E :=
 ⟨x, dx, v1, v2, v3, v4, rfl, A9, .inl ⟨r, y, l, m, h1, r1, r2, h2, h3, h4, m1, m2, fun a b H' e _ _ c => k a b H' (V0v n1 n2 ne e) c⟩⟩
end
section
variable {P : Program} {w : World} {K : Frag} {mg : Str -> Option Value} {base : Heap}
def A8g (CC : Addr) : Sp := fun vs H Q _ => ∃ c r y l m a b xs ys, vs = [.ref c] /\ CtxAt CC H c r y l m a b xs ys /\ ∀ p, H p = none -> Q (.ref p) (upd H p (.lst ys))
theorem D3j : FnScope ["self"] ["self"] (A3 A1g) := scK
theorem C9n {f CC : Addr} {fd : FuncData} (F : Fun K "traps" "Context.traps" A1g f fd) (C : CtxC K mg CC) (O : Own mg) : FnOk P w K mg base (CX1 P w) 1 f fd ["self"] (A8g CC) := by
 refine FnOk.up (F.ok D3j (fun vs H Q E h => ?_) (fun cdv A outer s H vs Q E hr h => ?_))
 . obtain ⟨c, r, y, l, m, a, b, xs, ys, rfl, _⟩ := h
   rfl
 . obtain ⟨c, r, y, l, m, a, b, xs, ys, rfl, ⟨⟨dx, e⟩, _, hb⟩, k⟩ := h
   refine ⟨_, (B0 (B9 (V0 A3u (by rfl) O.list_ boot_list (A0 (G0 (pv 0) rfl) A8)))), ?_⟩
   exact ⟨_, rfl, c, CC, dx, _, _, rfl, e, C.cl, C.n_trapped, B4u _ _ _ _ _ _, b, ys, rfl, .inl (SqL.of hb), k⟩
end
abbrev A7k : Stmt := (U7 (top 13) 0)
section
variable {P : Program} {w : World} {K : Frag} {mg : Str -> Option Value} {base : Heap}
theorem J5b : FnScope ["self", "signal"] ["self", "signal"] (A3 A7k) := scK
theorem G6s {f CT fI : Addr} {fd : FuncData} (F : Fun K "__init__" "Trapped.__init__" A7k f fd) (XI : ExcI K CT fI) (hn : findIn K (.ref CT) "signal" = some none) : FnOk P w K mg base CX0 1 f fd ["self", "signal"] (C3p CT "signal") := by
 refine F.ok J5b (fun vs H Q E h => ?_) (fun cdv A outer s H vs Q E hr h => ?_)
 . obtain ⟨e, t, v, rfl, _⟩ := h
   rfl
 . obtain ⟨e, t, v, rfl, he, k⟩ := h
   refine ⟨_, (B0 (U9c XI hn (pv 0) (pv 1) rfl)), ?_⟩
   exact ⟨_, rfl, _, rfl, e, t, rfl, he, fun d nd ne => k d nd ne⟩
end
abbrev A1e : Stmt := (top 25)
abbrev A2e : Stmt := (top 26)
abbrev A2c : Stmt := (top 27)
abbrev A4a : Stmt := (top 28)
structure Cv where
 r : Int
 y : Wy
 l : Int
 m : Int
structure Cv.Ok (c : Cv) : Prop where
 r1 : 1 <= c.r
 r2 : c.r <= 24
 l1 : -60 <= c.l
 l2 : c.l <= 0
 m1 : 0 <= c.m
 m2 : c.m <= 60
def A7z (f : Int) : Int := ((Str.ofString (toString f)).length : Nat)
def V5 (r f q : Int) : Int × Int := if f = A6 r then (f / 10, q + 1) else (f, q)
def A0m (m f p : Int) : Bool := if f = 0 then false else decide (p + A7z f - 1 > m)
def Y1 (a b : Int) : Int := if b > a then b else a
def CtxV (CC : Addr) (H : Hp) (c : Addr) (v : Cv) (a b : Addr) (xs ys : List Str) : Prop := CtxAt CC H c v.r v.y v.l v.m a b (xs.map V.str) (ys.map V.str)
theorem CtxV.same {CC : Addr} {H H' : Hp} {c : Addr} {v : Cv} {a b : Addr} {xs ys : List Str} (h : CtxV CC H c v a b xs ys) (e : Same H H') : CtxV CC H' c v a b xs ys := CtxAt.same h e
theorem B4w {CN : Addr} {H : Hp} {Q : VK} {E : XK} {k s f p : V} (h : ∀ n H', H n = none -> Same H H' -> NumAt CN H' n k s f p -> Q (.ref n) H') :
   ∀ x dx, H x = none -> H dx = none -> dx ≠ x -> C3k CN (.ref x :: ([k, s, f, p] ++ [])) (upd (upd H dx (.own x)) x (.ins CN dx [])) (fun v H2 => v = .non /\ Q (.ref x) H2) E := by
 intro x dx nx nd ne
 refine ⟨x, dx, k, s, f, p, rfl, A9, fun H' e kp => ⟨rfl, h x H' nx (fun b o z => ?_) ⟨dx, e⟩⟩⟩
 refine kp b o ?_ (C6 z nx)
 rw [B3 (C6 z nx), B3 (C6 z nd)]
 exact z
theorem J2r {t b u1 v1 u2 v2 d : Nat} (h : t * 10 ^ u1 < 10 * (b * 10 ^ v1)) (e : u2 + v1 <= u1 + v2 + d) : t * 10 ^ u2 < 10 ^ (d + 1) * (b * 10 ^ v2) := by
 have p : 0 < 10 ^ v1 := Nat.pow_pos (by decide)
 apply Nat.lt_of_mul_lt_mul_right (a := 10 ^ v1)
 calc t * 10 ^ u2 * 10 ^ v1 = t * 10 ^ (u2 + v1) := by rw [Nat.mul_assoc, <- Nat.pow_add]
   _ <= t * 10 ^ (u1 + v2 + d) := Nat.mul_le_mul_left t (Nat.pow_le_pow_right (by decide) e)
   _ = t * 10 ^ u1 * (10 ^ v2 * 10 ^ d) := by rw [Nat.mul_assoc, <- Nat.pow_add, <- Nat.pow_add, Nat.add_assoc]
   _ < 10 * (b * 10 ^ v1) * (10 ^ v2 * 10 ^ d) := Nat.mul_lt_mul_of_pos_right h (Nat.mul_pos (Nat.pow_pos (by decide)) (Nat.pow_pos (by decide)))
   _ = 10 ^ (d + 1) * (b * 10 ^ v2) * 10 ^ v1 := by rw [Nat.pow_succ]; ac_rfl
theorem U8b {t b s1 s2 r : Int} (ht : Sz t) (hb : Sz b) (h : Y5 t b s1) (hr : 1 <= r) (e : s2 <= s1 + (r - 1)) : 0 <= whI t b s2 /\ whI t b s2 < A6 r := by
 obtain ⟨tn, rfl, _, _⟩ := ht.nat
 obtain ⟨bn, rfl, b1, _⟩ := hb.nat
 have lp : 0 < (bn : Int) * A6 (-s2) := Int.mul_pos (by omega) (B8 _)
 refine ⟨Int.ediv_nonneg (Int.mul_nonneg (by omega) (Int.le_of_lt (B8 _))) (Int.le_of_lt lp), ?_⟩
 refine Int.ediv_lt_of_lt_mul lp ?_
 have a : tn * 10 ^ s1.toNat < 10 * (bn * 10 ^ (-s1).toNat) := Int.ofNat_lt.mp h.2
 have c := J2r (u2 := s2.toNat) (v2 := (-s2).toNat) (d := (r - 1).toNat) a (by omega)
 rw [show (r - 1).toNat + 1 = r.toNat by omega] at c
 exact Int.ofNat_lt.mpr c
theorem A7h {r : Int} (h : r <= 24) : A6 r <= 10 ^ 24 := by
 unfold A6
 have : 10 ^ r.toNat <= 10 ^ 24 := Nat.pow_le_pow_right (by decide) (by omega)
 exact Int.ofNat_le.mpr this
theorem D5b {t b s : Int} (ht : Sz t) (hb : Sz b) (h : Y5 t b s) : -1000 <= s /\ s <= 1000 := by
 have e := B8 1000
 refine ⟨?_, ?_⟩
 . apply Classical.byContradiction
   intro hs
   have z : A6 s = 1 := by unfold A6; rw [show s.toNat = 0 by omega]; rfl
   have g : A6 1000 <= A6 (-s) := B5j (by omega)
   have a := h.1
   rw [z, Int.mul_one] at a
   have : 1 * A6 (-s) <= b * A6 (-s) := Int.mul_le_mul_of_nonneg_right hb.1 (Int.le_of_lt (B8 _))
   have := ht.2
   omega
 . apply Classical.byContradiction
   intro hs
   have z : A6 (-s) = 1 := by unfold A6; rw [show (-s).toNat = 0 by omega]; rfl
   have g : A6 1001 <= A6 s := B5j (by omega)
   have e1 : A6 1001 = 10 * A6 1000 := by
     unfold A6
     rw [show (1001 : Int).toNat = (1000 : Int).toNat + 1 by decide, Nat.pow_succ, Nat.mul_comm]
     rfl
   have a := h.2
   rw [z, Int.mul_one] at a
   have : 1 * A6 s <= t * A6 s := Int.mul_le_mul_of_nonneg_right ht.1 (Int.le_of_lt (B8 _))
   have := hb.2
   omega
theorem A5s : Sz 1 := ⟨by decide, by
 have : A6 1 <= A6 1000 := B5j (by decide)
 have e : A6 1 = 10 := rfl
 omega⟩
theorem V6z {f : Int} (h0 : 0 <= f) (h : f ≠ 0) (h1 : f <= 10 ^ 60 - 1) : Sz f := by
 refine ⟨by omega, ?_⟩
 have : A6 60 <= A6 1000 := B5j (by decide)
 have e : A6 60 = 10 ^ 60 := by decide +kernel
 omega
section
variable {P : Program} {w : World} {K : Frag} {mg : Str -> Option Value} {base : Heap}
structure CtxL (P : Program) (w : World) (K : Frag) (mg : Str -> Option Value) (base : Heap) (CC : Addr) : Prop where
 c : CtxC K mg CC
 low : Has P w K mg base CC "lowest" 1 ["self"] (B6g CC)
def C8z (CN CC : Addr) : Sp := fun vs H Q _ => ∃ c v a b xs ys, ∃ s f q : Int, vs = [.ref c, .int s, .int f, .int q] /\ CtxV CC H c v a b xs ys /\ v.Ok /\ ∀ n H', H n = none -> Same H H' -> NumIs CN H' n ⟨.plain, s, (V5 v.r f q).1, (V5 v.r f q).2⟩ -> Q (.ref n) H'
theorem J3m : FnScope ["context", "sign", "figures", "power"] ["context", "sign", "figures", "power"] (A3 A2e) := scK
theorem G7z {f f1 fI CN CC : Addr} {fd fd1 fdI : FuncData} (D : Def K mg "within_room" ["context", "sign", "figures", "power"] A2e f fd) (D_ten_to : Def K mg "ten_to" ["count"] A0x f1 fd1) (G_ten_to : FnOk P w K mg base (CX1 P w) 2 f1 fd1 ["count"] A7d) (C : CtxL P w K mg base CC) (N : Num K mg CN) (M : MakeN P w K mg base CN fI fdI) :
   FnOk P w K mg base (CX1 P w) 3 f fd ["context", "sign", "figures", "power"] (C8z CN CC) := by
 refine FnOk.up (D.F.ok J3m (fun vs H Q E h => ?_) (fun cdv A outer s H vs Q E hr h => ?_))
 . obtain ⟨c, v, a, b, xs, ys, sg, f, q, rfl, _⟩ := h
   rfl
 . obtain ⟨c, v, a, b, xs, ys, sg, fg, q, rfl, hc, ok, k⟩ := h
   have hx : D8 (Z8 CX0 P w K mg base ["context", "sign", "figures", "power"] "within_room" (A3 A2e) f cdv A outer s H E).nox EKF := A0q
   refine ⟨_, (A7 (G2 (C0 G4 (pv 2) (C5 D_ten_to G_ten_to hr hx (A0 (G0 (pv 0) rfl) A8)) (C7 _)) (B0 (B9 (B0c M.m (FnOk.up M.g) hr N.g M.b .nil hx (A0 B5 (A0 (pv 1) (A0 (B1 D3 (pv 2) A1) (A0 (B1 G8 (pv 3) A1) A8))))))) C9)
     (B0 (B9 (B0c M.m (FnOk.up M.g) hr N.g M.b .nil hx (A0 B5 (A0 (pv 1) (A0 (pv 2) (A0 (pv 3) A8)))))))), ?_⟩
   have d10 : (0 : Int) < 10 /\ (10 : Int).natAbs.log2 < 9000 := ⟨by decide, by decide +kernel⟩
   obtain ⟨⟨dx, e⟩, _, _⟩ := id hc
   have r1 := ok.r1; have r2 := ok.r2
   refine ⟨_, rfl, _, rfl, c, CC, dx, _, _, rfl, e, C.c.cl, C.c.n_room, A1k _ _ _ _ _ _, v.r.toNat, (by rw [Int.toNat_of_nonneg (by omega)]; rfl), by omega, rfl, _, rfl, ?_⟩
   unfold V5 at k
   refine G9 (fun h => ?_) (fun h => ?_)
   . have h : fg = A6 v.r := by injection h
     rw [if_pos h] at k
     exact ⟨_, rfl, _, rfl, _, _, rfl, rfl, d10, _, rfl, _, _, rfl, rfl, B4w k⟩
   . have h : ¬ fg = A6 v.r := fun z => h (congrArg V.int z)
     rw [if_neg h] at k
     exact ⟨_, rfl, _, rfl, _, rfl, B4w k⟩
def C9w (CN CC : Addr) : Sp := fun vs H Q _ => ∃ c v a b xs ys n x, vs = [.ref c, .ref n] /\ CtxV CC H c v a b xs ys /\ NumIs CN H n x /\ x.f.natAbs < 2 ^ 300 /\ Q (.bl (A0m v.m x.f x.p)) H
theorem J4k : FnScope ["context", "number"] ["context", "number"] (A3 A2c) := scK
theorem G6r {f f1 CN CC : Addr} {fd fd1 : FuncData} (D : Def K mg "is_beyond" ["context", "number"] A2c f fd) (D_lead_of : Def K mg "lead_of" ["number"] B6p f1 fd1) (G_lead_of : FnOk P w K mg base (CX1 P w) 1 f1 fd1 ["number"] (J4w CN)) (C : CtxL P w K mg base CC) (N : Num K mg CN) :
   FnOk P w K mg base (CX1 P w) 2 f fd ["context", "number"] (C9w CN CC) := by
 refine FnOk.up (D.F.ok J4k (fun vs H Q E h => ?_) (fun cdv A outer s H vs Q E hr h => ?_))
 . obtain ⟨c, v, a, b, xs, ys, n, x, rfl, _⟩ := h
   rfl
 . obtain ⟨c, v, a, b, xs, ys, n, x, rfl, hc, hn, hf, k⟩ := h
   have hx : D8 (Z8 CX0 P w K mg base ["context", "number"] "is_beyond" (A3 A2c) f cdv A outer s H E).nox EKF := A0q
   refine ⟨_, (B0 (B9 (C3n (A0n V3x (G0 (pv 1) rfl) A1 (C7 _)) (D3v (A0n B5u (C5 D_lead_of G_lead_of hr hx (A0 (pv 1) A8)) (G0 (pv 0) rfl) (C7 _)))))), ?_⟩
   obtain ⟨⟨dx, e⟩, _, _⟩ := id hc
   obtain ⟨dn, en⟩ := id hn
   unfold A0m at k
   refine ⟨_, rfl, n, CN, dn, _, _, rfl, en, N.cl, N.n3, J4n _ _ _ _, rfl, _, rfl, ?_⟩
   by_cases h0 : x.f = 0
   . rw [if_pos h0] at k
     rw [decide_eq_true (congrArg V.int h0)]
     exact Z2 k
   . rw [if_neg h0] at k
     rw [decide_eq_false (fun q => h0 (by injection q) : ¬ V.int x.f = V.int 0)]
     exact A1n ⟨_, rfl, n, _, _, _, _, rfl, hn, hf, _, rfl, c, CC, dx, _, _, rfl, e, C.c.cl, C.c.n_most, B6a _ _ _ _ _ _, _, _, rfl, rfl, k⟩
def C4n (CN CC : Addr) : Sp := fun vs H Q _ => ∃ c v a b xs ys, ∃ s : Int, vs = [.ref c, .int s] /\ CtxV CC H c v a b xs ys /\ v.Ok /\ ∀ n H', H n = none -> Same H H' -> NumIs CN H' n ⟨.plain, s, A6 v.r - 1, v.m - v.r + 1⟩ -> Q (.ref n) H'
theorem U9k : FnScope ["context", "sign"] ["context", "sign"] (A3 A4a) := scK
theorem J2g {f f1 fI CN CC : Addr} {fd fd1 fdI : FuncData} (D : Def K mg "nines" ["context", "sign"] A4a f fd) (D_ten_to : Def K mg "ten_to" ["count"] A0x f1 fd1) (G_ten_to : FnOk P w K mg base (CX1 P w) 2 f1 fd1 ["count"] A7d) (C : CtxL P w K mg base CC) (N : Num K mg CN) (M : MakeN P w K mg base CN fI fdI) :
   FnOk P w K mg base (CX1 P w) 3 f fd ["context", "sign"] (C4n CN CC) := by
 refine FnOk.up (D.F.ok U9k (fun vs H Q E h => ?_) (fun cdv A outer s H vs Q E hr h => ?_))
 . obtain ⟨c, v, a, b, xs, ys, sg, rfl, _⟩ := h
   rfl
 . obtain ⟨c, v, a, b, xs, ys, sg, rfl, hc, ok, k⟩ := h
   have hx : D8 (Z8 CX0 P w K mg base ["context", "sign"] "nines" (A3 A4a) f cdv A outer s H E).nox EKF := A0q
   refine ⟨_, (B0 (B9 (B0c M.m (FnOk.up M.g) hr N.g M.b .nil hx (A0 B5 (A0 (pv 1) (A0 (B1 D9 (C5 D_ten_to G_ten_to hr hx (A0 (G0 (pv 0) rfl) A8)) A1) (A0 (B1 G8 (B1 D9 (G0 (pv 0) rfl) (G0 (pv 0) rfl)) A1) A8))))))), ?_⟩
   obtain ⟨⟨dx, e⟩, _, _⟩ := id hc
   have r1 := ok.r1; have r2 := ok.r2
   exact ⟨_, rfl, _, rfl, c, CC, dx, _, _, rfl, e, C.c.cl, C.c.n_room, A1k _ _ _ _ _ _, v.r.toNat, (by rw [Int.toNat_of_nonneg (by omega)]; rfl), by omega, _, _, rfl, rfl, _, rfl, c, CC, dx, _, _, rfl, e, C.c.cl, C.c.n_most, B6a _ _ _ _ _ _, _, rfl, c, CC, dx, _, _, rfl, e, C.c.cl, C.c.n_room, A1k _ _ _ _ _ _, _, _, rfl, rfl, _, _, rfl, rfl, B4w k⟩
def B7b (CC CR : Addr) : Sp := fun vs H Q _ => ∃ c v a b xs ys x, ∃ t bo n L : Int, vs = [.ref c, .ref x] /\ CtxV CC H c v a b xs ys /\ RatAt CR H x t bo n /\ Sz t /\ Sz bo /\ Y5 t bo (n - L) /\ ∀ H', Same H H' -> Q (.int (Y1 (L - v.r + 1) (v.l - v.r + 1))) H'
theorem J2b : FnScope ["context", "exact"] ["context", "exact"] (A3 A1e) := scK
theorem G6d {f CC CR CE g1 g2 : Addr} {fd gd1 gd2 : FuncData} (D : Def K mg "finest_power" ["context", "exact"] A1e f fd) (C : CtxL P w K mg base CC) (RM : RatM P w K mg base CR g1 g2 gd1 gd2) (R : RatC K mg CR CE) (O : Own mg) : FnOk P w K mg base (CX1 P w) 5 f fd ["context", "exact"] (B7b CC CR) := by
 refine FnOk.up (D.F.ok J2b (fun vs H Q E h => ?_) (fun cdv A outer s H vs Q E hr h => ?_))
 . obtain ⟨c, v, a, b, xs, ys, x, t, bo, n, L, rfl, _⟩ := h
   rfl
 . obtain ⟨c, v, a, b, xs, ys, x, t, bo, n, L, rfl, hc, ra, ht, hb, hL, k⟩ := h
   have hx : D8 (Z8 CX0 P w K mg base ["context", "exact"] "finest_power" (A3 A1e) f cdv A outer s H E).nox EKF := A0q
   obtain ⟨fL, fdL, mL, gL, bL⟩ := C.low
   refine ⟨_, (B0 (B9 (U0 (Y6 rfl) (by rfl) O.max_ boot_max (A0 (B1 G8 (B1 D9 (A5k (pv 1) R.cl RM.m1 RM.g1 hr RM.b1 .nil hx) (G0 (pv 0) rfl)) A1) (A0 (A5k (pv 0) C.c.cl mL gL hr bL .nil hx) A8))))), ?_⟩
   obtain ⟨dr, er⟩ := id ra
   refine ⟨_, rfl, x, dr, _, rfl, er, A9x _ _ _, x, t, bo, n, rfl, ra, ht, hb, fun f H1 s1 ld => ?_⟩
   have ef : f = L := by
     have := G4x (show 0 < bo by have := hb.1; omega) ld hL
     omega
   subst ef
   have hc1 := hc.same s1
   obtain ⟨⟨dx, e⟩, _, _⟩ := id hc1
   exact ⟨_, rfl, c, CC, dx, _, _, rfl, e, C.c.cl, C.c.n_room, A1k _ _ _ _ _ _, _, _, rfl, rfl, _, _, rfl, rfl, _, rfl, c, dx, _, rfl, e, A2k _ _ _ _ _ _, c, v.r, v.y, v.l, v.m, a, b, _, _, rfl, hc1, _, _, rfl, k H1 s1⟩
def Cv.fin (v : Cv) (L : Int) : Int := Y1 (L - v.r + 1) (v.l - v.r + 1)
end
abbrev A4e : Stmt := (top 30)
abbrev A3s : Stmt := (top 31)
abbrev A0s : Stmt := (top 32)
abbrev A1r : Stmt := (top 33)
abbrev A3n : Stmt := (top 34)
theorem J3k {v : Cv} {L n : Int} (ok : v.Ok) (h1 : -1000 <= n - L) (h2 : n - L <= 1000) (n1 : -400 <= n) (n2 : n <= 400) : -1500 <= n - v.fin L /\ n - v.fin L <= 1500 := by
 have := ok.r1; have := ok.r2; have := ok.l1; have := ok.l2
 unfold Cv.fin Y1
 split <;> omega
def G7r (v : Cv) (s f p L : Int) : Nm :=
 if A0m v.m (V5 v.r (whI f 1 (p - v.fin L) + 1) (v.fin L)).1 (V5 v.r (whI f 1 (p - v.fin L) + 1) (v.fin L)).2 = true then ⟨.end_, s, 0, 0⟩
 else ⟨.plain, s, (V5 v.r (whI f 1 (p - v.fin L) + 1) (v.fin L)).1, (V5 v.r (whI f 1 (p - v.fin L) + 1) (v.fin L)).2⟩
def C2f (v : Cv) (s f p L : Int) : Nm :=
 if L > v.m then ⟨.plain, s, A6 v.r - 1, v.m - v.r + 1⟩
 else if ptI f 1 (p - v.fin L) = 0 then
   (if whI f 1 (p - v.fin L) = A6 (v.r - 1) /\ v.fin L > v.l - v.r + 1 then ⟨.plain, s, A6 v.r - 1, v.fin L - 1⟩ else ⟨.plain, s, whI f 1 (p - v.fin L) - 1, v.fin L⟩)
 else ⟨.plain, s, whI f 1 (p - v.fin L), v.fin L⟩
def stepN (v : Cv) (x : Nm) (g L : Int) : Nm :=
 match x.k with
 | .none => ⟨.none, 0, 0, 0⟩
 | .end_ => if x.s = g then x else ⟨.plain, x.s, A6 v.r - 1, v.m - v.r + 1⟩
 | .plain => if x.f = 0 then ⟨.plain, g, 1, v.l - v.r + 1⟩ else if x.s = g then G7r v x.s x.f x.p L else C2f v x.s x.f x.p L
theorem B6u {v : Cv} {f p L : Int} (ok : v.Ok) (hf : Sz f) (h : Y5 f 1 (p - L)) : 0 <= whI f 1 (p - v.fin L) /\ whI f 1 (p - v.fin L) < A6 v.r := by
 refine U8b hf A5s h ok.r1 ?_
 unfold Cv.fin Y1
 split <;> omega
section
variable {P : Program} {w : World} {K : Frag} {mg : Str -> Option Value} {base : Heap}
def Y2e (CN CC CR : Addr) (vs : List V) (H : Hp) (Q : VK) (res : Cv -> Int -> Int -> Int -> Int -> Nm) : Prop := ∃ c v a b xs ys x, ∃ s f p L : Int, vs = [.ref c, .int s, .ref x] /\ CtxV CC H c v a b xs ys /\ v.Ok /\ RatAt CR H x f 1 p /\ Sz f /\ Y5 f 1 (p - L) /\ -1500 <= p - v.fin L /\ p - v.fin L <= 1500 /\ 0 <= s /\ s <= 1 /\
 ∀ n H', Same H H' -> NumIs CN H' n (res v s f p L) -> Q (.ref n) H'
def V4e (CN CC CR : Addr) : Sp := fun vs H Q _ => Y2e CN CC CR vs H Q G7r
def J2f (CN CC CR : Addr) : Sp := fun vs H Q _ => Y2e CN CC CR vs H Q C2f
theorem scFar : FnScope ["context", "sign", "exact", "finest", "number"] ["context", "sign", "exact"] (A3 A1r) := scK
theorem scNear : FnScope ["context", "sign", "exact", "finest", "pair"] ["context", "sign", "exact"] (A3 A3n) := scK
theorem V6h {f f1 f2 f3 f4 CN CC CR CE CB g1 g2 : Addr} {fd fd1 fd2 fd3 fd4 gd1 gd2 : FuncData} (D : Def K mg "farther" ["context", "sign", "exact"] A1r f fd) (D_finest_power : Def K mg "finest_power" ["context", "exact"] A1e f1 fd1) (G_finest_power : FnOk P w K mg base (CX1 P w) 5 f1 fd1 ["context", "exact"] (B7b CC CR))
   (D_within_room : Def K mg "within_room" ["context", "sign", "figures", "power"] A2e f2 fd2) (G_within_room : FnOk P w K mg base (CX1 P w) 3 f2 fd2 ["context", "sign", "figures", "power"] (C8z CN CC)) (D_is_beyond : Def K mg "is_beyond" ["context", "number"] A2c f3 fd3) (G_is_beyond : FnOk P w K mg base (CX1 P w) 2 f3 fd3 ["context", "number"] (C9w CN CC))
   (D_end : Def K mg "end" ["sign"] C8t f4 fd4) (G_end : FnOk P w K mg base (CX1 P w) 3 f4 fd4 ["sign"] (J4s K CN CB)) (C : CtxL P w K mg base CC) (RM : RatM P w K mg base CR g1 g2 gd1 gd2) (R : RatC K mg CR CE) : FnOk P w K mg base (CX1 P w) 6 f fd ["context", "sign", "exact"] (V4e CN CC CR) := by
 refine D.F.okE scFar (fun vs H Q E h => ?_) (fun X cdv A outer s H vs Q E hX hr hx h => ?_)
 . obtain ⟨c, v, a, b, xs, ys, x, sg, fg, p, L, rfl, _⟩ := h
   rfl
 . subst hX
   obtain ⟨c, v, a, b, xs, ys, x, sg, fg, p, L, rfl, hc, ok, ra, hf, hL, b1, b2, s0, s1, k⟩ := h
   refine ⟨_, (A7 (C8 (i := 3) scFar.nd rfl (Or.inl rfl) (C5 D_finest_power G_finest_power hr hx (A0 (pv 0) (A0 (pv 2) A8))))
     (A7 (C8 (i := 4) scFar.nd rfl (Or.inl rfl) (C5 D_within_room G_within_room hr hx (A0 (pv 0) (A0 (pv 1) (A0 (B1 G8 (J9 U4 (D0c (pv 2) R.cl RM.m2 RM.g2 hr RM.b2 .nil hx (A0 (pv 3) A8)) A1 (fun _ _ => rfl)) A1) (A0 (pv 3) A8))))))
     (B0 (B9 (A1w (A2m (C5 D_is_beyond G_is_beyond hr hx (A0 (pv 0) (A0 (pv 4) A8)))) (C5 D_end G_end hr hx (A0 (pv 1) A8)) (pv 4)))))), ?_⟩
   have wf := B6u ok hf hL
   refine ⟨_, rfl, _, rfl, c, v, a, b, xs, ys, x, fg, 1, p, L, rfl, hc, ra, hf, A5s, hL, fun H1 e1 => ?_⟩
   show _
   have ra1 := ra.same e1
   have hc1 := hc.same e1
   obtain ⟨dr, er⟩ := id ra1
   refine ⟨_, rfl, _, rfl, _, rfl, x, dr, _, rfl, er, B0z _ _ _, _, rfl, x, fg, 1, p, _, rfl, ra1, hf, A5s, b1, b2, fun q H2 e2 nq eq => ?_⟩
   refine ⟨q, _, _, _, rfl, rfl, SqT.of eq, rfl, _, _, rfl, rfl, _, rfl, c, v, a, b, xs, ys, sg, _, _, rfl, hc1.same e2, ok, fun n H3 nn e3 num => ?_⟩
   have t24 := A7h ok.r2
   have small : (V5 v.r (whI fg 1 (p - v.fin L) + 1) (v.fin L)).1.natAbs < 2 ^ 300 := by
     have lt : ∀ z : Int, 0 <= z -> z <= 10 ^ 24 -> z.natAbs < 2 ^ 300 := fun z a b => Nat.lt_of_le_of_lt (show z.natAbs <= 10 ^ 24 by omega) (by decide +kernel)
     have big : ((10 ^ 24 : Nat) : Int) = 10 ^ 24 := by decide +kernel
     unfold V5
     split
     . exact lt _ (by show 0 <= (whI fg 1 (p - v.fin L) + 1) / 10; omega) (by show (whI fg 1 (p - v.fin L) + 1) / 10 <= 10 ^ 24; omega)
     . exact lt _ (by show 0 <= whI fg 1 (p - v.fin L) + 1; omega) (by show whI fg 1 (p - v.fin L) + 1 <= 10 ^ 24; omega)
   refine ⟨_, rfl, _, rfl, c, v, a, b, xs, ys, n, _, rfl, (hc1.same e2).same e3, num, small, _, rfl, ?_⟩
   have e13 := (e1.trans e2).trans e3
   show if A0m v.m (V5 v.r (whI fg 1 (p - v.fin L) + 1) (v.fin L)).1 (V5 v.r (whI fg 1 (p - v.fin L) + 1) (v.fin L)).2 = true then _ else _
   unfold G7r at k
   by_cases hb : A0m v.m (V5 v.r (whI fg 1 (p - v.fin L) + 1) (v.fin L)).1 (V5 v.r (whI fg 1 (p - v.fin L) + 1) (v.fin L)).2 = true
   . rw [if_pos hb] at k ⊢
     exact ⟨_, rfl, _, rfl, .inl ⟨⟨sg, rfl, s0, s1⟩, fun m H4 _ e4 nm => k m H4 (e13.trans e4) nm⟩⟩
   . rw [if_neg hb] at k ⊢
     exact ⟨_, rfl, k n H3 e13 num⟩
end
theorem Y0z {c A B : Prop} [Decidable c] (h : ¬ c) (a : A) : if (!decide c) = true then A else B := by rw [decide_eq_false h]; exact A1n a
section
variable {P : Program} {w : World} {K : Frag} {mg : Str -> Option Value} {base : Heap}
theorem U8c {f f1 f2 f3 fI CN CC CR CE g1 g2 : Addr} {fd fd1 fd2 fd3 fdI gd1 gd2 : FuncData} (D : Def K mg "nearer" ["context", "sign", "exact"] A3n f fd) (D_finest_power : Def K mg "finest_power" ["context", "exact"] A1e f1 fd1) (G_finest_power : FnOk P w K mg base (CX1 P w) 5 f1 fd1 ["context", "exact"] (B7b CC CR))
   (D_nines : Def K mg "nines" ["context", "sign"] A4a f2 fd2) (G_nines : FnOk P w K mg base (CX1 P w) 3 f2 fd2 ["context", "sign"] (C4n CN CC)) (D_ten_to : Def K mg "ten_to" ["count"] A0x f3 fd3) (G_ten_to : FnOk P w K mg base (CX1 P w) 2 f3 fd3 ["count"] A7d)
   (N : Num K mg CN) (M : MakeN P w K mg base CN fI fdI) (C : CtxL P w K mg base CC) (RM : RatM P w K mg base CR g1 g2 gd1 gd2) (R : RatC K mg CR CE) : FnOk P w K mg base (CX1 P w) 6 f fd ["context", "sign", "exact"] (J2f CN CC CR) := by
 refine D.F.okE scNear (fun vs H Q E h => ?_) (fun X cdv A outer s H vs Q E hX hr hx h => ?_)
 . obtain ⟨c, v, a, b, xs, ys, x, sg, fg, p, L, rfl, _⟩ := h
   rfl
 . subst hX
   obtain ⟨c, v, a, b, xs, ys, x, sg, fg, p, L, rfl, hc, ok, ra, hf, hL, b1, b2, s0, s1, k⟩ := h
   obtain ⟨fL, fdL, mL, gL, bL⟩ := C.low
   refine ⟨_, (A7 (G2 (C0 B5u (A5k (pv 2) R.cl RM.m1 RM.g1 hr RM.b1 .nil hx) (G0 (pv 0) rfl) (C7 _)) (B0 (B9 (C5 D_nines G_nines hr hx (A0 (pv 0) (A0 (pv 1) A8))))) C9)
     (A7 (C8 (i := 3) scNear.nd rfl (Or.inl rfl) (C5 D_finest_power G_finest_power hr hx (A0 (pv 0) (A0 (pv 2) A8))))
     (A7 (C8 (i := 4) scNear.nd rfl (Or.inl rfl) (D0c (pv 2) R.cl RM.m2 RM.g2 hr RM.b2 .nil hx (A0 (pv 3) A8)))
     (A7 (G2 (C0 V3x (J9 U4 (pv 4) A1 (fun _ _ => rfl)) A1 (C7 _)) (B0 (B9 (B0c M.m (FnOk.up M.g) hr N.g M.b .nil hx (A0 B5 (A0 (pv 1) (A0 (J9 U4 (pv 4) A1 (fun _ _ => rfl)) (A0 (pv 3) A8))))))) C9)
     (A7 (G2 (PW.pt (C3z (C0 G4 (J9 U4 (pv 4) A1 (fun _ _ => rfl)) (C5 D_ten_to G_ten_to hr hx (A0 (B1 D9 (G0 (pv 0) rfl) A1) A8)) (C7 _)) (B5p (C0 B5u (pv 3) (A5k (pv 0) C.c.cl mL gL hr bL .nil hx) (C7 _))))) (B0 (B9 (B0c M.m (FnOk.up M.g) hr N.g M.b .nil hx (A0 B5 (A0 (pv 1) (A0 (B1 D9 (C5 D_ten_to G_ten_to hr hx (A0 (G0 (pv 0) rfl) A8)) A1) (A0 (B1 D9 (pv 3) A1) A8))))))) C9)
     (B0 (B9 (B0c M.m (FnOk.up M.g) hr N.g M.b .nil hx (A0 B5 (A0 (pv 1) (A0 (B1 D9 (J9 U4 (pv 4) A1 (fun _ _ => rfl)) A1) (A0 (pv 3) A8)))))))))))), ?_⟩
   have wf := B6u ok hf hL
   have r1 := ok.r1; have r2 := ok.r2
   obtain ⟨dr, er⟩ := id ra
   refine ⟨_, rfl, x, dr, _, rfl, er, A9x _ _ _, x, fg, 1, p, rfl, ra, hf, A5s, fun L' H1 e1 ld => ?_⟩
   have ef : L' = L := by
     have := G4x (by decide) ld hL
     omega
   subst ef
   have hc1 := hc.same e1
   have ra1 := ra.same e1
   obtain ⟨⟨dx, e⟩, _, _⟩ := id hc1
   unfold C2f at k
   refine ⟨_, rfl, c, CC, dx, _, _, rfl, e, C.c.cl, C.c.n_most, B6a _ _ _ _ _ _, _, _, rfl, rfl, _, rfl, G9 (fun h => ?_) (fun h => ?_)⟩
   . rw [if_pos h] at k
     exact ⟨_, rfl, _, rfl, c, v, a, b, xs, ys, sg, rfl, hc1, ok, fun n H2 _ e2 num => k n H2 (e1.trans e2) num⟩
   rw [if_neg h] at k
   refine ⟨_, rfl, _, rfl, c, v, a, b, xs, ys, x, fg, 1, p, L', rfl, hc1, ra1, hf, A5s, hL, fun H2 e2 => ?_⟩
   have hc2 := hc1.same e2
   have ra2 := ra1.same e2
   obtain ⟨dr2, er2⟩ := id ra2
   refine ⟨_, rfl, x, dr2, _, rfl, er2, B0z _ _ _, _, rfl, x, fg, 1, p, _, rfl, ra2, hf, A5s, b1, b2, fun q H3 e3 nq eq => ?_⟩
   have hc3 := hc2.same e3
   have e13 := (e1.trans e2).trans e3
   obtain ⟨⟨dx3, ec3⟩, _, _⟩ := id hc3
   refine ⟨_, rfl, q, _, _, _, rfl, rfl, SqT.of eq, rfl, rfl, _, rfl, ?_⟩
   by_cases hp : ptI fg 1 (p - v.fin L') = 0
   . rw [if_pos hp] at k
     refine Y2c (congrArg V.int hp) ?_
     refine ⟨_, rfl, q, _, _, _, rfl, rfl, SqT.of eq, rfl, _, rfl, c, CC, dx3, _, _, rfl, ec3, C.c.cl, C.c.n_room, A1k _ _ _ _ _ _, _, _, rfl, rfl, (v.r - 1).toNat, (by rw [Int.toNat_of_nonneg (by omega)]; rfl), by omega, rfl, _, rfl, ?_⟩
     by_cases hw : whI fg 1 (p - v.fin L') = A6 (v.r - 1)
     . refine B6h (congrArg V.int hw) ?_
       refine ⟨_, rfl, _, rfl, c, dx3, _, rfl, ec3, A2k _ _ _ _ _ _, c, v.r, v.y, v.l, v.m, a, b, _, _, rfl, hc3, _, _, rfl, rfl, _, rfl, G9 (fun h2 => ?_) (fun h2 => ?_)⟩
       . have h2 : v.fin L' > v.l - v.r + 1 := h2
         rw [if_pos ⟨hw, h2⟩] at k
         exact ⟨_, rfl, _, rfl, c, CC, dx3, _, _, rfl, ec3, C.c.cl, C.c.n_room, A1k _ _ _ _ _ _, v.r.toNat, (by rw [Int.toNat_of_nonneg (by omega)]; rfl), by omega, _, _, rfl, rfl, _, rfl, _, _, rfl, rfl, B4w fun n H4 _ e4 num => k n H4 (e13.trans e4) num⟩
       . have h2 : ¬ v.fin L' > v.l - v.r + 1 := h2
         rw [if_neg fun z => h2 z.2] at k
         exact ⟨_, rfl, _, rfl, q, _, _, _, rfl, rfl, SqT.of eq, rfl, _, _, rfl, rfl, _, rfl, B4w fun n H4 _ e4 num => k n H4 (e13.trans e4) num⟩
     . rw [if_neg fun z => hw z.1] at k
       refine C1h (fun z => hw (by injection z)) ?_
       exact Z2 ⟨_, rfl, _, rfl, q, _, _, _, rfl, rfl, SqT.of eq, rfl, _, _, rfl, rfl, _, rfl, B4w fun n H4 _ e4 num => k n H4 (e13.trans e4) num⟩
   . rw [if_neg hp] at k
     exact Y0z (fun z => hp (by injection z)) ⟨_, rfl, _, rfl, q, _, _, _, rfl, rfl, SqT.of eq, rfl, _, rfl, B4w fun n H4 _ e4 num => k n H4 (e13.trans e4) num⟩
def D4p (CN CC : Addr) : Sp := fun vs H Q _ => ∃ c v a b xs ys n x, ∃ g L : Int, vs = [.ref c, .ref n, .int g] /\ CtxV CC H c v a b xs ys /\ v.Ok /\ NumIs CN H n x /\ x.Ok /\ (x.k = .plain -> x.f ≠ 0 -> Y5 x.f 1 (x.p - L)) /\
 ∀ n' H', Same H H' -> NumIs CN H' n' (stepN v x g L) -> Q (.ref n') H'
theorem scStepped : FnScope ["context", "one", "goal", "exact"] ["context", "one", "goal"] (A3 A0s) := scK
theorem D3z {f f1 f2 f3 f4 fI fR CN CC CR : Addr} {fd fd1 fd2 fd3 fd4 fdI fdR : FuncData} {d0 : Value} {gP : List Value -> List Value -> List Value} {vP : List V -> List V -> List V} {CE : Addr} (D : Def K mg "stepped" ["context", "one", "goal"] A0s f fd)
   (D_nothing : Def K mg "nothing" [] A0t f1 fd1) (G_nothing : FnOk P w K mg base (CX1 P w) 3 f1 fd1 [] (B0n CN)) (D_nines : Def K mg "nines" ["context", "sign"] A4a f2 fd2) (G_nines : FnOk P w K mg base (CX1 P w) 3 f2 fd2 ["context", "sign"] (C4n CN CC))
   (D_farther : Def K mg "farther" ["context", "sign", "exact"] A1r f3 fd3) (G_farther : FnOk P w K mg base (CX1 P w) 6 f3 fd3 ["context", "sign", "exact"] (V4e CN CC CR)) (D_nearer : Def K mg "nearer" ["context", "sign", "exact"] A3n f4 fd4) (G_nearer : FnOk P w K mg base (CX1 P w) 6 f4 fd4 ["context", "sign", "exact"] (J2f CN CC CR))
   (N : Num K mg CN) (M : MakeN P w K mg base CN fI fdI) (C : CtxL P w K mg base CC) (MR : MakeR P w K mg base CR fR fdR d0 gP vP) (R : RatC K mg CR CE) : FnOk P w K mg base (CX1 P w) 7 f fd ["context", "one", "goal"] (D4p CN CC) := by
 refine D.F.okE scStepped (fun vs H Q E h => ?_) (fun X cdv A outer s H vs Q E hX hr hx h => ?_)
 . obtain ⟨c, v, a, b, xs, ys, n, x, g, L, rfl, _⟩ := h
   rfl
 . subst hX
   obtain ⟨c, v, a, b, xs, ys, n, x, g, L, rfl, hc, ok, hn, xo, hL, k⟩ := h
   obtain ⟨fL, fdL, mL, gL, bL⟩ := C.low
   refine ⟨_, (A7 (G2 (C0 G4 (G0 (pv 1) rfl) B5 (C7 _)) (B0 (B9 (J5n D_nothing G_nothing hr hx))) C9)
     (A7 (G2 (C0 G4 (G0 (pv 1) rfl) B5 (C7 _)) (B0 (B9 (A1w (C0 G4 (G0 (pv 1) rfl) (pv 2) (C7 _)) (pv 1) (C5 D_nines G_nines hr hx (A0 (pv 0) (A0 (G0 (pv 1) rfl) A8)))))) C9)
     (A7 (G2 (C0 G4 (G0 (pv 1) rfl) A1 (C7 _)) (B0 (B9 (B0c M.m (FnOk.up M.g) hr N.g M.b .nil hx (A0 B5 (A0 (pv 2) (A0 A1 (A0 (A5k (pv 0) C.c.cl mL gL hr bL .nil hx) A8))))))) C9)
     (A7 (C8 (i := 3) scStepped.nd rfl (Or.inl rfl) (B0c MR.m MR.g hr R.g MR.b3 .nil hx (A0 (G0 (pv 1) rfl) (A0 A1 (A0 (G0 (pv 1) rfl) A8)))))
     (B0 (B9 (A1w (C0 G4 (G0 (pv 1) rfl) (pv 2) (C7 _)) (C5 D_farther G_farther hr hx (A0 (pv 0) (A0 (G0 (pv 1) rfl) (A0 (pv 3) A8)))) (C5 D_nearer G_nearer hr hx (A0 (pv 0) (A0 (G0 (pv 1) rfl) (A0 (pv 3) A8))))))))))), ?_⟩
   obtain ⟨dn, en⟩ := id hn
   obtain ⟨⟨dx, ec⟩, _, _⟩ := id hc
   have d1 : ∀ {z : Str} {Z : Prop}, ¬ V.str z = V.str z -> Z := fun h => absurd rfl h
   refine ⟨_, rfl, n, CN, dn, _, _, rfl, en, N.cl, N.n1, V4s _ _ _ _, rfl, _, rfl, G9 (fun h => ?_) (fun h => ?_)⟩
   . have hk : x.k = .none := eqS (b := .none) h
     unfold stepN at k
     rw [hk] at k
     dsimp only at k
     exact ⟨rfl, fun m H1 _ e1 num => k m H1 e1 num⟩
   have nk0 : x.k ≠ .none := neS (b := .none) h
   refine ⟨_, rfl, n, CN, dn, _, _, rfl, en, N.cl, N.n1, V4s _ _ _ _, rfl, _, rfl, G9 (fun h => ?_) (fun h => ?_)⟩
   . have hk : x.k = .end_ := eqS (b := .end_) h
     unfold stepN at k
     rw [hk] at k
     dsimp only at k
     refine ⟨_, rfl, n, CN, dn, _, _, rfl, en, N.cl, N.n2, G7m _ _ _ _, _, rfl, rfl, _, rfl, G9 (fun h2 => ?_) (fun h2 => ?_)⟩
     . have h2 : x.s = g := by injection h2
       rw [if_pos h2] at k
       exact ⟨_, rfl, k n H (Same.refl _) hn⟩
     . have h2 : ¬ x.s = g := fun z => h2 (congrArg V.int z)
       rw [if_neg h2] at k
       exact ⟨_, rfl, _, rfl, n, CN, dn, _, _, rfl, en, N.cl, N.n2, G7m _ _ _ _, c, v, a, b, xs, ys, x.s, rfl, hc, ok, fun m H1 _ e1 num => k m H1 e1 num⟩
   have nk1 : x.k ≠ .end_ := neS (b := .end_) h
   have hk : x.k = .plain := by
     cases hk : x.k with
     | plain => rfl
     | end_ => exact absurd hk nk1
     | none => exact absurd hk nk0
   unfold stepN at k
   rw [hk] at k
   dsimp only at k
   refine ⟨_, rfl, n, CN, dn, _, _, rfl, en, N.cl, N.n3, J4n _ _ _ _, rfl, _, rfl, G9 (fun h => ?_) (fun h => ?_)⟩
   . have h : x.f = 0 := by injection h
     rw [if_pos h] at k
     exact ⟨_, rfl, _, rfl, c, dx, _, rfl, ec, A2k _ _ _ _ _ _, c, v.r, v.y, v.l, v.m, a, b, _, _, rfl, hc, B4w fun m H1 _ e1 num => k m H1 e1 num⟩
   have hf0 : ¬ x.f = 0 := fun z => h (congrArg V.int z)
   rw [if_neg hf0] at k
   have sz := V6z xo.f0 hf0 xo.f1
   have ld := hL hk hf0
   have sh := D5b sz A5s ld
   have := xo.p0; have := xo.p1
   have fn := J3k (v := v) ok sh.1 sh.2 (by omega) (by omega)
   refine ⟨_, rfl, n, CN, dn, _, _, rfl, en, N.cl, N.n3, J4n _ _ _ _, _, rfl, n, CN, dn, _, _, rfl, en, N.cl, N.n4, V5y _ _ _ _, fun x1 dx1 n1 n2 ne => Y1w n1 n2 ne fun H1 e1 ra => ⟨rfl, ?_⟩⟩
   have hn1 := hn.same e1
   have hc1 := hc.same e1
   obtain ⟨dn1, en1⟩ := id hn1
   refine ⟨_, rfl, n, CN, dn1, _, _, rfl, en1, N.cl, N.n2, G7m _ _ _ _, _, rfl, rfl, _, rfl, G9 (fun h2 => ?_) (fun h2 => ?_)⟩
   . have h2 : x.s = g := by injection h2
     rw [if_pos h2] at k
     exact ⟨_, rfl, _, rfl, n, CN, dn1, _, _, rfl, en1, N.cl, N.n2, G7m _ _ _ _, _, rfl, c, v, a, b, xs, ys, x1, x.s, x.f, x.p, L, rfl, hc1, ok, ra, sz, ld, fn.1, fn.2, xo.s0, xo.s1, fun m H2 e2 num => k m H2 (e1.trans e2) num⟩
   . have h2 : ¬ x.s = g := fun z => h2 (congrArg V.int z)
     rw [if_neg h2] at k
     exact ⟨_, rfl, _, rfl, n, CN, dn1, _, _, rfl, en1, N.cl, N.n2, G7m _ _ _ _, _, rfl, c, v, a, b, xs, ys, x1, x.s, x.f, x.p, L, rfl, hc1, ok, ra, sz, ld, fn.1, fn.2, xo.s0, xo.s1, fun m H2 e2 num => k m H2 (e1.trans e2) num⟩
def C4t (CN CC : Addr) (g : Int) : Sp := fun vs H Q _ => ∃ c v a b xs ys n x, ∃ L : Int, vs = [.ref c, .ref n] /\ CtxV CC H c v a b xs ys /\ v.Ok /\ NumIs CN H n x /\ x.Ok /\ (x.k = .plain -> x.f ≠ 0 -> Y5 x.f 1 (x.p - L)) /\
 ∀ n' H', Same H H' -> NumIs CN H' n' (stepN v x g L) -> Q (.ref n') H'
theorem J2j : FnScope ["context", "one"] ["context", "one"] (A3 A4e) := scK
theorem J4g : FnScope ["context", "one"] ["context", "one"] (A3 A3s) := scK
theorem G7f {f f1 f2 CN CC CB : Addr} {fd fd1 fd2 : FuncData} (D : Def K mg "next_up" ["context", "one"] A4e f fd) (D_need_number : Def K mg "need_number" ["thing"] A4b f1 fd1) (G_need_number : FnOk P w K mg base (CX1 P w) 1 f1 fd1 ["thing"] (C3r K CN CB))
   (D_stepped : Def K mg "stepped" ["context", "one", "goal"] A0s f2 fd2) (G_stepped : FnOk P w K mg base (CX1 P w) 7 f2 fd2 ["context", "one", "goal"] (D4p CN CC)) : FnOk P w K mg base (CX1 P w) 8 f fd ["context", "one"] (C4t CN CC 0) := by
 refine D.F.okE J2j (fun vs H Q E h => ?_) (fun X cdv A outer s H vs Q E hX hr hx h => ?_)
 . obtain ⟨c, v, a, b, xs, ys, n, x, L, rfl, _⟩ := h
   rfl
 . subst hX
   obtain ⟨c, v, a, b, xs, ys, n, x, L, rfl, hc, ok, hn, xo, hL, k⟩ := h
   refine ⟨_, (A7 (Y7 (C5 D_need_number G_need_number hr hx (A0 (pv 1) A8)))
     (B0 (B9 (C5 D_stepped G_stepped hr hx (A0 (pv 0) (A0 (pv 1) (A0 A1 A8))))))), ?_⟩
   exact ⟨_, rfl, _, rfl, .inl ⟨n, _, _, _, _, rfl, hn, _, rfl, _, rfl, c, v, a, b, xs, ys, n, x, 0, L, rfl, hc, ok, hn, xo, hL, k⟩⟩
theorem G7y {f f1 f2 CN CC CB : Addr} {fd fd1 fd2 : FuncData} (D : Def K mg "next_down" ["context", "one"] A3s f fd) (D_need_number : Def K mg "need_number" ["thing"] A4b f1 fd1) (G_need_number : FnOk P w K mg base (CX1 P w) 1 f1 fd1 ["thing"] (C3r K CN CB))
   (D_stepped : Def K mg "stepped" ["context", "one", "goal"] A0s f2 fd2) (G_stepped : FnOk P w K mg base (CX1 P w) 7 f2 fd2 ["context", "one", "goal"] (D4p CN CC)) : FnOk P w K mg base (CX1 P w) 8 f fd ["context", "one"] (C4t CN CC 1) := by
 refine D.F.okE J4g (fun vs H Q E h => ?_) (fun X cdv A outer s H vs Q E hX hr hx h => ?_)
 . obtain ⟨c, v, a, b, xs, ys, n, x, L, rfl, _⟩ := h
   rfl
 . subst hX
   obtain ⟨c, v, a, b, xs, ys, n, x, L, rfl, hc, ok, hn, xo, hL, k⟩ := h
   refine ⟨_, (A7 (Y7 (C5 D_need_number G_need_number hr hx (A0 (pv 1) A8)))
     (B0 (B9 (C5 D_stepped G_stepped hr hx (A0 (pv 0) (A0 (pv 1) (A0 A1 A8))))))), ?_⟩
   exact ⟨_, rfl, _, rfl, .inl ⟨n, _, _, _, _, rfl, hn, _, rfl, _, rfl, c, v, a, b, xs, ys, n, x, 1, L, rfl, hc, ok, hn, xo, hL, k⟩⟩
end
abbrev B6j : Stmt := (top 53)
section
variable {P : Program} {w : World} {K : Frag} {mg : Str -> Option Value} {base : Heap}
def J3z (K : Frag) : Sp := fun vs H Q _ => ∃ a ns k, vs = [.ref a, .int k] /\ SqL K H a ((ns : List Int).map V.int) /\ 0 <= k /\ ∀ i, Q (.int i) H
theorem V5x : FnScope ["_law_script", "_law_k"] ["_law_script", "_law_k"] (A3 B6j) := scK
theorem V0c {f : Addr} {fd : FuncData} (D : Def K mg "_law_cell_at" ["_law_script", "_law_k"] B6j f fd) (O : Own mg) : FnOk P w K mg base (CX1 P w) 1 f fd ["_law_script", "_law_k"] (J3z K) := by
 refine FnOk.up (D.F.ok V5x (fun vs H Q E h => ?_) (fun cdv A outer s H vs Q E hr h => ?_))
 . obtain ⟨a, ns, k, rfl, _⟩ := h
   rfl
 . obtain ⟨a, ns, i, rfl, hs, h0, k⟩ := h
   refine ⟨_, (A7 (G2 (C0 V3y (pv 1) (U0 C4k (by rfl) O.len_ PySem.boot_len (A0 (pv 0) A8)) (C7 _)) (B0 (B9 (J9 A0k (pv 0) (pv 1) (fun _ _ => rfl)))) C9)
     (B0 (B9 A1))), ?_⟩
   refine ⟨_, rfl, _, rfl, a, _, rfl, .inl hs, _, _, rfl, rfl, _, rfl, ?_⟩
   refine G9 (fun hlt => ?_) (fun _ => k 0)
   rw [List.length_map] at hlt
   obtain ⟨j, rfl⟩ := Int.eq_ofNat_of_zero_le h0
   have hj : j < ns.length := by omega
   exact ⟨_, rfl, _, rfl, a, _, _, _, rfl, rfl, hs, J0 (v := V.int ns[j]) (by simp [hj]), k _⟩
end
abbrev A3z : Stmt := (top 54)
section
variable {P : Program} {w : World} {K : Frag} {mg : Str -> Option Value} {base : Heap}
def B5h : Sp := fun vs H Q _ => ∃ c k, vs = [.int c, .int k] /\ 0 <= k /\ k <= 100 /\ ∀ m, 0 <= m -> m < 2147483629 -> Q (.int m) H
theorem V0z : FnScope ["_law_cell", "_law_k"] ["_law_cell", "_law_k"] (A3 A3z) := scK
theorem J3h {f : Addr} {fd : FuncData} (D : Def K mg "_law_mixed" ["_law_cell", "_law_k"] A3z f fd) : FnOk P w K mg base (CX1 P w) 1 f fd ["_law_cell", "_law_k"] B5h := by
 refine FnOk.up (D.F.ok V0z (fun vs H Q E h => ?_) (fun cdv A outer s H vs Q E hr h => ?_))
 . obtain ⟨c, k, rfl, _⟩ := h
   rfl
 . obtain ⟨c, i, rfl, h0, h1, k⟩ := h
   refine ⟨_, (B0 (B9 (B1 D7 (B1 U8 (B1 D7 (B1 G8 (B1 G8 (B1 U8 (pv 0) (B1 G8 A1 (B1 U8 (B1 U8 A1 (pv 1)) (pv 1)))) (B1 U8 A1 (pv 1))) A1) A1) A1) A1))), ?_⟩
   have q0 : (0 : Int) <= 2 * i * i := Int.mul_nonneg (by omega) h0
   have q1 : 2 * i * i <= 200 * 100 := Int.mul_le_mul (by omega) h1 h0 (by decide)
   have m1 : IntMulOk 2 i := CMul.ok (.inl ⟨by decide, by decide⟩)
   have m2 : IntMulOk (2 * i) i := CMul.ok (.inr ⟨by omega, by omega⟩)
   have m3 : IntMulOk c (48271 + 2 * i * i) := CMul.ok (.inr ⟨by omega, by omega⟩)
   have m4 : IntMulOk 69621 i := CMul.ok (.inl ⟨by decide, by decide⟩)
   have m5 : ∀ z : Int, IntMulOk z 69621 := fun z => CMul.ok (.inr ⟨by decide, by decide⟩)
   refine ⟨_, rfl, _, rfl, _, _, rfl, rfl, m1, _, rfl, _, _, rfl, rfl, m2, _, _, rfl, rfl, _, _, rfl, rfl, m3, _, rfl, _, _, rfl, rfl, m4, _, _, rfl, rfl, _, _, rfl, rfl, _, _, rfl, rfl, (by show (0 : Int) < 2147483647; decide), _, _, rfl, rfl, m5 _, _, _, rfl, rfl, (by show (0 : Int) < 2147483629; decide), ?_⟩
   exact k _ (Int.emod_nonneg _ (by decide)) (Int.emod_lt_of_pos _ (by decide))
end
abbrev A3a : Stmt := (top 55)
section
variable {P : Program} {w : World} {K : Frag} {mg : Str -> Option Value} {base : Heap}
def A5p : Sp := fun vs H Q _ => ∃ n : Nat, vs = [.int (n : Int)] /\ n <= 600 /\ Q (.int ((10 ^ n : Nat) : Int)) H
theorem V5b : FnScope ["_law_count"] ["_law_count"] (A3 A3a) := scK
theorem V0d {f : Addr} {fd : FuncData} (D : Def K mg "_law_ten" ["_law_count"] A3a f fd) (O : Own mg) : FnOk P w K mg base (CX1 P w) 1 f fd ["_law_count"] A5p := by
 refine FnOk.up (D.F.ok V5b (fun vs H Q E h => ?_) (fun cdv A outer s H vs Q E hr h => ?_))
 . obtain ⟨n, rfl, _⟩ := h
   rfl
 . obtain ⟨n, rfl, hn, k⟩ := h
   refine ⟨_, (B0 (B9 (V0 C1b (by rfl) O.int_ boot_int (A0 (B1 D4x B5 (B1 D3b B5 (pv 0))) A8)))), ?_⟩
   have l1 : ("1" : Str).length = 1 := by decide +kernel
   have l0 : ("0" : Str).length = 1 := by decide +kernel
   refine ⟨_, rfl, _, _, rfl, rfl, by omega, by omega, D5 (by rw [l0]; omega), _, _, rfl, rfl, D5 (by rw [B6c, l0, l1]; omega), ?_⟩
   exact ⟨G6e n, _, rfl, J2v n hn, by rw [C8u]; omega, k⟩
end
abbrev A1s : Stmt := (top 57)
abbrev A8e : Stmt := (top 58)
structure Nm.Wf (x : Nm) : Prop where
 ok : x.Ok
 e : x.k = .end_ -> x.f = 0 /\ x.p = 0
 n : x.k = .none -> x.s = 0 /\ x.f = 0 /\ x.p = 0
theorem B5z {s f p : Int} (h1 : 0 <= s /\ s <= 1) (h2 : 0 <= f /\ f <= 10 ^ 60 - 1) (h3 : -200 <= p /\ p <= 200) : (Nm.mk .plain s f p).Wf := ⟨⟨h1.1, h1.2, h2.1, h2.2, h3.1, h3.2⟩, fun q => (by cases q), fun q => (by cases q)⟩
theorem V4w {s : Int} (h1 : 0 <= s /\ s <= 1) : (Nm.mk .end_ s 0 0).Wf := ⟨⟨h1.1, h1.2, by show (0 : Int) <= 0; decide, by show (0 : Int) <= 10 ^ 60 - 1; decide, by show (-200 : Int) <= 0; decide, by show (0 : Int) <= 200; decide⟩, fun _ => ⟨rfl, rfl⟩, fun q => (by cases q)⟩
theorem V0y : (Nm.mk .none 0 0 0).Wf := ⟨⟨by show (0 : Int) <= 0; decide, by show (0 : Int) <= 1; decide, by show (0 : Int) <= 0; decide, by show (0 : Int) <= 10 ^ 60 - 1; decide, by show (-200 : Int) <= 0; decide, by show (0 : Int) <= 200; decide⟩, fun q => (by cases q), fun _ => ⟨rfl, rfl, rfl⟩⟩
theorem G3w {L : Int} {n : Nat} (hn : n <= 60) : 0 <= L % ((10 ^ n : Nat) : Int) /\ L % ((10 ^ n : Nat) : Int) <= 10 ^ 60 - 1 := by
 have p : 0 < ((10 ^ n : Nat) : Int) := Int.natCast_pos.mpr (Nat.pow_pos (by decide))
 have a := Int.emod_nonneg L (Int.ne_of_gt p)
 have b := Int.emod_lt_of_pos L p
 have c : (10 : Nat) ^ n <= 10 ^ 60 := Nat.pow_le_pow_right (by decide) hn
 have e : ((10 ^ 60 : Nat) : Int) = 10 ^ 60 := by decide +kernel
 omega
abbrev A0a : Stmt := (top 56)
theorem dv {n : Int} (h : 0 < n) (h2 : n.natAbs.log2 < 9000) : (0 : Int) < n /\ n.natAbs.log2 < 9000 := ⟨h, h2⟩
section
variable {P : Program} {w : World} {K : Frag} {mg : Str -> Option Value} {base : Heap}
def B7c : Sp := fun vs H Q _ => ∃ c wy : Int, vs = [.int c, .int wy] /\ 0 <= wy /\ wy < 8 /\ ∀ f H', 0 <= f -> f <= 10 ^ 60 - 1 -> Same H H' -> Q (.int f) H'
theorem scLFigures : FnScope ["_law_cell", "_law_way", "_law_more", "_law_found", "_law_k"] ["_law_cell", "_law_way"] (A3 A0a) := scK
theorem J3p {a : Int} {n : Nat} (h0 : 0 <= a) (h1 : a <= 99) (hn : n <= 13) : 0 <= a * ((10 ^ n : Nat) : Int) /\ a * ((10 ^ n : Nat) : Int) <= 10 ^ 60 - 1 := by
 have c : (10 : Nat) ^ n <= 10 ^ 13 := Nat.pow_le_pow_right (by decide) hn
 have x : a * ((10 ^ n : Nat) : Int) <= 99 * ((10 ^ 13 : Nat) : Int) := Int.mul_le_mul h1 (Int.ofNat_le.mpr c) (Int.natCast_nonneg _) (by decide)
 exact ⟨Int.mul_nonneg h0 (Int.natCast_nonneg _), Int.le_trans x (by decide +kernel)⟩
theorem D3r {n : Nat} {a : Int} (hn : n <= 24) (h1 : 0 <= a) (h2 : a <= 2) : 0 <= ((10 ^ n : Nat) : Int) - 1 + a /\ ((10 ^ n : Nat) : Int) - 1 + a <= 10 ^ 60 - 1 := by
 have c : (10 : Nat) ^ n <= 10 ^ 24 := Nat.pow_le_pow_right (by decide) hn
 have d : 0 < (10 : Nat) ^ n := Nat.pow_pos (by decide)
 have e : ((10 ^ 24 : Nat) : Int) + 2 <= 10 ^ 60 - 1 := by decide +kernel
 omega
theorem C8y {f f1 f2 : Addr} {fd fd1 fd2 : FuncData} (D : Def K mg "_law_figures" ["_law_cell", "_law_way"] A0a f fd) (D_l_mixed : Def K mg "_law_mixed" ["_law_cell", "_law_k"] A3z f1 fd1) (G_l_mixed : FnOk P w K mg base (CX1 P w) 1 f1 fd1 ["_law_cell", "_law_k"] B5h)
   (D_l_ten : Def K mg "_law_ten" ["_law_count"] A3a f2 fd2) (G_l_ten : FnOk P w K mg base (CX1 P w) 1 f2 fd2 ["_law_count"] A5p) (O : Own mg) : FnOk P w K mg base (CX1 P w) 2 f fd ["_law_cell", "_law_way"] B7c := by
 refine D.F.okE scLFigures (fun vs H Q E h => ?_) (fun X cdv A outer s H vs Q E hX hr hx h => ?_)
 . obtain ⟨c, wy, rfl, _⟩ := h
   rfl
 . subst hX
   obtain ⟨c, wy, rfl, w0, w8, k⟩ := h
   refine ⟨_, (A7 (C4 (C8 (i := 2) scLFigures.nd rfl (Or.inl rfl) (C5 D_l_mixed G_l_mixed hr hx (A0 (pv 0) (A0 A1 A8)))))
     (A7 (C4 (G2 (PW.pt (C1k (C0 G4 (pv 1) A1 (C7 _)) (B0x (C0 G4 (pv 1) A1 (C7 _))))) (A7 (C4 (C8 (i := 3) scLFigures.nd rfl (Or.inl rfl) A1))
     (A7 (C4 (C3g PassesOwn.leaving rfl (A7e rfl O.range_ (A0 A1 A8)) (V3 (i := 4) scLFigures.nd rfl (Or.inl rfl)) (B0 (C4 (C8 (i := 3) scLFigures.nd rfl (Or.inl rfl) (B1 G8 (B1 U8 (pv 3) A1) (B1 D7 (C5 D_l_mixed G_l_mixed hr hx (A0 (pv 0) (A0 (B1 G8 A1 (pv 4)) A8))) A1)))))))
     (B0 (B9 (B1 D7 (pv 3) (C5 D_l_ten G_l_ten hr hx (A0 (B1 G8 A1 (B1 D7 (pv 2) (J9 A0k (Y2 (A0 A1 (A0 A1 A8))) (B1 D9 (pv 1) A1) (fun _ _ => rfl)))) A8))))))) C9))
     (A7 (C4 (G2 (PW.pt (C1k (C0 G4 (pv 1) A1 (C7 _)) (B0x (C0 G4 (pv 1) A1 (C7 _))))) (B0 (B9 (B1 U8 (B1 G8 (B1 D7 (pv 2) A1) A1) (C5 D_l_ten G_l_ten hr hx (A0 (B1 D7 (B1 D3 (pv 2) A1) A1) A8))))) C9))
     (A7 (C4 (G2 (C0 G4 (pv 1) A1 (C7 _)) (B0 (B9 (B1 G8 (B1 D9 (C5 D_l_ten G_l_ten hr hx (A0 (B1 G8 A1 (B1 D7 (pv 2) A1)) A8)) A1) (B1 D7 (B1 D3 (pv 2) A1) A1)))) C9))
     (B0 (B9 (B1 D7 (pv 2) (J9 A0k (Y2 (A0 A1 (A0 A1 (A0 A1 A8)))) (B1 D7 (B1 D3 (pv 2) A1) A1) (fun _ _ => rfl))))))))), ?_⟩
   have z2 : 2 <= sizeLine := D5 (by decide)
   have z3 : 3 <= sizeLine := D5 (by decide)
   have mC : ∀ z n : Int, -(2 ^ 64) < n -> n < 2 ^ 64 -> IntMulOk z n := fun z n a b => CMul.ok (.inr ⟨a, b⟩)
   have mC' : ∀ z n : Int, -(2 ^ 64) < n -> n < 2 ^ 64 -> IntMulOk n z := fun z n a b => CMul.ok (.inl ⟨a, b⟩)
   have pT : ∀ n : Nat, 0 < ((10 ^ n : Nat) : Int) := fun n => Int.natCast_pos.mpr (Nat.pow_pos (by decide))
   refine ⟨fun σ' H' => ∃ m : Int, H' = H /\ 0 <= m /\ σ' = [some (.int c), some (.int wy), some (.int m), none, none], ?_, ?_⟩
   . exact ⟨_, rfl, c, 1, rfl, by decide, by decide, fun m m0 _ => ⟨m, rfl, m0, rfl⟩⟩
   rintro σ' H1 ⟨m, rfl, m0, rfl⟩
   refine ⟨fun σ' H' => H' = H1 /\ σ' = [some (.int c), some (.int wy), some (.int m), none, none], ?_, ?_⟩
   . refine ⟨_, rfl, rfl, _, rfl, G9 (fun h => ?_) (fun h => ⟨_, rfl, rfl, _, rfl, G9 (fun h' => ?_) (fun _ => ⟨rfl, rfl⟩)⟩)⟩
     . have h : wy = 2 := by injection h
       subst h
       refine A1n ?_
       refine ⟨fun σ' H' => H' = H1 /\ σ' = [some (.int c), some (.int 2), some (.int m), some (.int 0), none], ⟨rfl, rfl⟩, ?_⟩
       rintro σ' H2 ⟨rfl, rfl⟩
       refine ⟨fun σ' H' => H' = H2 /\ ∃ (L : Int) (v : Option V), σ' = [some (.int c), some (.int 2), some (.int m), some (.int L), v], ⟨7, rfl, by decide, by decide, B0m (n := 7) (fun i σ' H' => H' = H2 /\ ∃ (L : Int) (v : Option V), σ' = [some (.int c), some (.int 2), some (.int m), some (.int L), v]) ⟨rfl, 0, none, rfl⟩ ?_ (fun σ' H' h => h)⟩, ?_⟩
       . rintro i σ' H3 hi ⟨rfl, L, v, rfl⟩
         refine ⟨_, ?_, fun _ _ h => h⟩
         exact ⟨_, rfl, _, _, rfl, rfl, mC _ _ (by decide) (by decide), _, rfl, _, rfl, _, _, rfl, rfl, c, _, rfl, (by show (0 : Int) <= 10 + (0 + (i : Int)); omega), (by show 10 + (0 + (i : Int)) <= 100; omega), fun m' _ _ => ⟨_, _, rfl, rfl, (by decide : (0 : Int) < 1000000000), _, _, rfl, rfl, rfl, _, _, rfl⟩⟩
       . rintro σ' H3 ⟨rfl, L, v, rfl⟩
         refine ⟨_, rfl, _, rfl, z2, fun l nl => ?_⟩
         have a0 := Int.emod_nonneg m (by decide : (24 : Int) ≠ 0)
         have a1 := Int.emod_lt_of_pos m (by decide : (0 : Int) < 24)
         have fm := G3w (L := L) (n := (1 + m % 24).toNat) (by omega)
         exact ⟨_, rfl, _, _, rfl, rfl, l, _, _, _, rfl, rfl, SqL.of A9, J0 (j := 0) rfl, _, _, rfl, rfl, (by decide : (0 : Int) < 24), _, _, rfl, rfl, (1 + m % 24).toNat, (by rw [Int.toNat_of_nonneg (by omega)]; rfl), by omega, _, _, rfl, rfl, pT _, k _ _ fm.1 fm.2 (Same.upd nl)⟩
     . have h' : wy = 3 := by injection h'
       subst h'
       refine ⟨fun σ' H' => H' = H1 /\ σ' = [some (.int c), some (.int 3), some (.int m), some (.int 0), none], ⟨rfl, rfl⟩, ?_⟩
       rintro σ' H2 ⟨rfl, rfl⟩
       refine ⟨fun σ' H' => H' = H2 /\ ∃ (L : Int) (v : Option V), σ' = [some (.int c), some (.int 3), some (.int m), some (.int L), v], ⟨7, rfl, by decide, by decide, B0m (n := 7) (fun i σ' H' => H' = H2 /\ ∃ (L : Int) (v : Option V), σ' = [some (.int c), some (.int 3), some (.int m), some (.int L), v]) ⟨rfl, 0, none, rfl⟩ ?_ (fun σ' H' h => h)⟩, ?_⟩
       . rintro i σ' H3 hi ⟨rfl, L, v, rfl⟩
         refine ⟨_, ?_, fun _ _ h => h⟩
         exact ⟨_, rfl, _, _, rfl, rfl, mC _ _ (by decide) (by decide), _, rfl, _, rfl, _, _, rfl, rfl, c, _, rfl, (by show (0 : Int) <= 10 + (0 + (i : Int)); omega), (by show 10 + (0 + (i : Int)) <= 100; omega), fun m' _ _ => ⟨_, _, rfl, rfl, (by decide : (0 : Int) < 1000000000), _, _, rfl, rfl, rfl, _, _, rfl⟩⟩
       . rintro σ' H3 ⟨rfl, L, v, rfl⟩
         refine ⟨_, rfl, _, rfl, z2, fun l nl => ?_⟩
         have a0 := Int.emod_nonneg m (by decide : (60 : Int) ≠ 0)
         have a1 := Int.emod_lt_of_pos m (by decide : (0 : Int) < 60)
         have fm := G3w (L := L) (n := (1 + m % 60).toNat) (by omega)
         exact ⟨_, rfl, _, _, rfl, rfl, l, _, _, _, rfl, rfl, SqL.of A9, J0 (j := 1) rfl, _, _, rfl, rfl, (by decide : (0 : Int) < 60), _, _, rfl, rfl, (1 + m % 60).toNat, (by rw [Int.toNat_of_nonneg (by omega)]; rfl), by omega, _, _, rfl, rfl, pT _, k _ _ fm.1 fm.2 (Same.upd nl)⟩
   rintro σ' H2 ⟨rfl, rfl⟩
   have a0 := Int.emod_nonneg m (by decide : (99 : Int) ≠ 0)
   have a1 := Int.emod_lt_of_pos m (by decide : (0 : Int) < 99)
   have b0 := Int.emod_nonneg (m / 99) (by decide : (13 : Int) ≠ 0)
   have b1 := Int.emod_lt_of_pos (m / 99) (by decide : (0 : Int) < 13)
   have fs := J3p (a := m % 99 + 1) (n := (m / 99 % 13).toNat) (by omega) (by omega) (by omega)
   refine ⟨fun σ' H' => H' = H2 /\ σ' = [some (.int c), some (.int wy), some (.int m), none, none], ?_, ?_⟩
   . refine ⟨_, rfl, rfl, _, rfl, G9 (fun h => ?_) (fun h => ⟨_, rfl, rfl, _, rfl, G9 (fun h' => ?_) (fun _ => ⟨rfl, rfl⟩)⟩)⟩
     . exact A1n ⟨_, rfl, _, _, rfl, rfl, (by decide : (0 : Int) < 99), _, _, rfl, rfl, _, rfl, _, _, rfl, rfl, dv (n := 99) (by decide) (by decide +kernel), _, _, rfl, rfl, (by decide : (0 : Int) < 13), (m / 99 % 13).toNat, (by rw [Int.toNat_of_nonneg b0]; rfl), by omega, _, _, rfl, rfl, mC' _ _ (by omega) (by omega), k _ _ fs.1 fs.2 (Same.refl _)⟩
     . exact ⟨_, rfl, _, _, rfl, rfl, (by decide : (0 : Int) < 99), _, _, rfl, rfl, _, rfl, _, _, rfl, rfl, dv (n := 99) (by decide) (by decide +kernel), _, _, rfl, rfl, (by decide : (0 : Int) < 13), (m / 99 % 13).toNat, (by rw [Int.toNat_of_nonneg b0]; rfl), by omega, _, _, rfl, rfl, mC' _ _ (by omega) (by omega), k _ _ fs.1 fs.2 (Same.refl _)⟩
   rintro σ' H3 ⟨rfl, rfl⟩
   have c0 := Int.emod_nonneg m (by decide : (24 : Int) ≠ 0)
   have c1 := Int.emod_lt_of_pos m (by decide : (0 : Int) < 24)
   have d0 := Int.emod_nonneg (m / 24) (by decide : (3 : Int) ≠ 0)
   have d1 := Int.emod_lt_of_pos (m / 24) (by decide : (0 : Int) < 3)
   have fr := D3r (n := (1 + m % 24).toNat) (a := m / 24 % 3) (by omega) d0 (by omega)
   refine ⟨fun σ' H' => H' = H3 /\ σ' = [some (.int c), some (.int wy), some (.int m), none, none], ?_, ?_⟩
   . refine ⟨_, rfl, rfl, _, rfl, G9 (fun h => ?_) (fun h => ⟨rfl, rfl⟩)⟩
     exact ⟨_, rfl, _, _, rfl, rfl, (by decide : (0 : Int) < 24), _, _, rfl, rfl, (1 + m % 24).toNat, (by rw [Int.toNat_of_nonneg (by omega)]; rfl), by omega, _, _, rfl, rfl, _, rfl, _, _, rfl, rfl, dv (n := 24) (by decide) (by decide +kernel), _, _, rfl, rfl, (by decide : (0 : Int) < 3), _, _, rfl, rfl, k _ _ fr.1 fr.2 (Same.refl _)⟩
   rintro σ' H4 ⟨rfl, rfl⟩
   refine ⟨_, rfl, z3, fun l nl => ?_⟩
   obtain ⟨v, hv, ix⟩ := ixs (xs := [10, 100, 1000]) (i := m / 1000 % 3) (Int.emod_nonneg _ (by decide)) (by show m / 1000 % 3 < 3; exact Int.emod_lt_of_pos _ (by decide))
   have bv : 0 < v /\ v <= 1000 := by
     simp only [List.mem_cons, List.not_mem_nil, or_false] at hv
     omega
   have e0 := Int.emod_nonneg m (Int.ne_of_gt bv.1)
   have e1 := Int.emod_lt_of_pos m bv.1
   have big : (1000 : Int) <= 10 ^ 60 - 1 := by decide +kernel
   exact ⟨_, rfl, _, _, rfl, rfl, dv (n := 1000) (by decide) (by decide +kernel), _, _, rfl, rfl, (by decide : (0 : Int) < 3), l, _, _, _, rfl, rfl, SqL.of A9, ix, _, _, rfl, rfl, bv.1, k _ _ e0 (by omega) (Same.upd nl)⟩
end
section
variable {P : Program} {w : World} {K : Frag} {mg : Str -> Option Value} {base : Heap}
def C1y : Sp := fun vs H Q _ => ∃ c, vs = [.int c] /\ ∀ (x : Nm) t H', x.Wf -> Same H H' -> H' t = some (.tup x.vs) -> Q (.ref t) H'
theorem scLNumber : FnScope ["_law_cell", "_law_kind", "_law_sign", "_law_more", "_law_wide"] ["_law_cell"] (A3 A1s) := scK
theorem D4b {f f1 f2 : Addr} {fd fd1 fd2 : FuncData} (D : Def K mg "_law_number" ["_law_cell"] A1s f fd) (D_l_mixed : Def K mg "_law_mixed" ["_law_cell", "_law_k"] A3z f1 fd1) (G_l_mixed : FnOk P w K mg base (CX1 P w) 1 f1 fd1 ["_law_cell", "_law_k"] B5h)
   (D_l_figures : Def K mg "_law_figures" ["_law_cell", "_law_way"] A0a f2 fd2) (G_l_figures : FnOk P w K mg base (CX1 P w) 2 f2 fd2 ["_law_cell", "_law_way"] B7c) (O : Own mg) : FnOk P w K mg base (CX1 P w) 3 f fd ["_law_cell"] C1y := by
 refine D.F.okE scLNumber (fun vs H Q E h => ?_) (fun X cdv A outer s H vs Q E hX hr hx h => ?_)
 . obtain ⟨c, rfl, _⟩ := h
   rfl
 . subst hX
   obtain ⟨c, rfl, k⟩ := h
   refine ⟨_, (A7 (C4 (C8 (i := 1) scLNumber.nd rfl (Or.inl rfl) (B1 D7 (pv 0) A1)))
     (A7 (C4 (C8 (i := 2) scLNumber.nd rfl (Or.inl rfl) (B1 D7 (B1 D3 (pv 0) A1) A1)))
     (A7 (C4 (C8 (i := 3) scLNumber.nd rfl (Or.inl rfl) (C5 D_l_mixed G_l_mixed hr hx (A0 (pv 0) (A0 A1 A8)))))
     (A7 (C4 (G2 (C0 G4 (pv 1) A1 (C7 _)) (B0 (B9 (U5 (A0 B5 (A0 (pv 2) (A0 A1 (A0 (B1 D9 (B1 D7 (pv 3) A1) A1) A8))))))) C9))
     (A7 (C4 (G2 (C0 G4 (pv 1) A1 (C7 _)) (B0 (B9 (J9 A0k (Y2 (A0 (U5 (A0 B5 (A0 (pv 2) (A0 A1 (A0 A1 A8))))) (A0 (U5 (A0 B5 (A0 A1 (A0 A1 (A0 A1 A8))))) A8))) (V0 C1q (by rfl) O.int_ boot_int (A0 (A0n G4 (B1 D7 (pv 3) A1) A1 (C7 _)) A8)) (fun _ _ => rfl)))) C9))
     (A7 (C4 (C8 (i := 4) scLNumber.nd rfl (Or.inl rfl) (B1 D9 (B1 D7 (pv 3) A1) A1)))
     (A7 (C4 (G2 (C0 G4 (B1 D7 (B1 D3 (pv 3) A1) A1) A1 (C7 _)) (B0 (C4 (C8 (i := 4) scLNumber.nd rfl (Or.inl rfl) (B1 D9 (B1 D7 (B1 D3 (pv 3) A1) A1) A1)))) C9))
     (A7 (C4 (G2 (C0 G4 (B1 D7 (B1 D3 (pv 3) A1) A1) A1 (C7 _)) (B0 (C4 (C8 (i := 4) scLNumber.nd rfl (Or.inl rfl) (B1 D9 (B1 D7 (B1 D3 (pv 3) A1) A1) A1)))) C9))
     (B0 (B9 (U5 (A0 B5 (A0 (pv 2) (A0 (C5 D_l_figures G_l_figures hr hx (A0 (pv 0) (A0 (B1 D7 (B1 D3 (pv 0) A1) A1) A8))) (A0 (pv 4) A8))))))))))))))), ?_⟩
   have z2 : 2 <= sizeLine := D5 (by decide)
   have z4 : 4 <= sizeLine := D5 (by decide)
   refine ⟨fun σ' H' => ∃ kd : Int, H' = H /\ σ' = [some (.int c), some (.int kd), none, none, none], ⟨_, rfl, _, _, rfl, rfl, (by decide : (0 : Int) < 8), _, rfl, rfl⟩, ?_⟩
   rintro σ' H1 ⟨kd, rfl, rfl⟩
   refine ⟨fun σ' H' => ∃ sg : Int, H' = H1 /\ 0 <= sg /\ sg <= 1 /\ σ' = [some (.int c), some (.int kd), some (.int sg), none, none], ⟨_, rfl, _, _, rfl, rfl, dv (n := 8) (by decide) (by decide +kernel), _, _, rfl, rfl, (by decide : (0 : Int) < 2), c / 8 % 2, rfl, by omega, by omega, rfl⟩, ?_⟩
   rintro σ' H2 ⟨sg, rfl, s0, s1, rfl⟩
   refine ⟨fun σ' H' => ∃ m : Int, H' = H2 /\ 0 <= m /\ σ' = [some (.int c), some (.int kd), some (.int sg), some (.int m), none], ⟨_, rfl, c, 2, rfl, by decide, by decide, fun m m0 _ => ⟨m, rfl, m0, rfl⟩⟩, ?_⟩
   rintro σ' H3 ⟨m, rfl, m0, rfl⟩
   refine ⟨fun σ' H' => H' = H3 /\ σ' = [some (.int c), some (.int kd), some (.int sg), some (.int m), none], ?_, ?_⟩
   . refine ⟨_, rfl, rfl, _, rfl, G9 (fun h => ?_) (fun h => ⟨rfl, rfl⟩)⟩
     refine ⟨_, rfl, _, rfl, _, _, rfl, rfl, (by decide : (0 : Int) < 41), _, _, rfl, rfl, z4, fun t nt => ?_⟩
     exact k ⟨.plain, sg, 0, m % 41 - 20⟩ t _ (B5z ⟨s0, s1⟩ ⟨by decide, by decide +kernel⟩ ⟨by omega, by omega⟩) (Same.upd nt) A9
   rintro σ' H4 ⟨rfl, rfl⟩
   refine ⟨fun σ' H' => H' = H4 /\ σ' = [some (.int c), some (.int kd), some (.int sg), some (.int m), none], ?_, ?_⟩
   . refine ⟨_, rfl, rfl, _, rfl, G9 (fun h => ?_) (fun h => ⟨rfl, rfl⟩)⟩
     refine ⟨_, rfl, z4, fun t1 n1 => ⟨z4, fun t2 n2 => ⟨z2, fun l nl => ?_⟩⟩⟩
     have u1 := Same.upd (o := .tup [.str "end", .int sg, .int 0, .int 0]) n1
     have u2 := Same.upd (o := .tup [.str "none", .int 0, .int 0, .int 0]) n2
     have u3 := Same.upd (o := .lst [.ref t1, .ref t2]) nl
     refine ⟨_, rfl, _, _, rfl, rfl, (by decide : (0 : Int) < 4), rfl, .inr ⟨_, rfl, ?_⟩⟩
     by_cases hm : V.int (m % 4) = V.int 0
     . rw [decide_eq_true hm]
       exact ⟨l, _, _, _, rfl, rfl, SqL.of A9, J0 (j := 1) rfl, k ⟨.none, 0, 0, 0⟩ t2 _ V0y ((u1.trans u2).trans u3) (u3 _ _ A9)⟩
     . rw [decide_eq_false hm]
       exact ⟨l, _, _, _, rfl, rfl, SqL.of A9, J0 (j := 0) rfl, k ⟨.end_, sg, 0, 0⟩ t1 _ (V4w ⟨s0, s1⟩) ((u1.trans u2).trans u3) ((u2.trans u3) _ _ A9)⟩
   rintro σ' H5 ⟨rfl, rfl⟩
   refine ⟨fun σ' H' => H' = H5 /\ ∃ pw : Int, -200 <= pw /\ pw <= 200 /\ σ' = [some (.int c), some (.int kd), some (.int sg), some (.int m), some (.int pw)], ⟨_, rfl, _, _, rfl, rfl, (by decide : (0 : Int) < 13), _, _, rfl, rfl, rfl, m % 13 - 6, by omega, by omega, rfl⟩, ?_⟩
   rintro σ' H6 ⟨rfl, pw, p0, p1, rfl⟩
   refine ⟨fun σ' H' => H' = H6 /\ ∃ pw : Int, -200 <= pw /\ pw <= 200 /\ σ' = [some (.int c), some (.int kd), some (.int sg), some (.int m), some (.int pw)], ?_, ?_⟩
   . refine ⟨_, rfl, _, _, rfl, rfl, dv (n := 13) (by decide) (by decide +kernel), _, _, rfl, rfl, (by decide : (0 : Int) < 4), rfl, _, rfl, G9 (fun _ => ?_) (fun _ => ⟨rfl, pw, p0, p1, rfl⟩)⟩
     refine ⟨_, ?_, fun _ _ h => h⟩
     exact ⟨_, rfl, _, _, rfl, rfl, dv (n := 52) (by decide) (by decide +kernel), _, _, rfl, rfl, (by decide : (0 : Int) < 141), _, _, rfl, rfl, rfl, m / 52 % 141 - 70, by omega, by omega, rfl⟩
   rintro σ' H7 ⟨rfl, pw, p0, p1, rfl⟩
   refine ⟨fun σ' H' => H' = H7 /\ ∃ pw : Int, -200 <= pw /\ pw <= 200 /\ σ' = [some (.int c), some (.int kd), some (.int sg), some (.int m), some (.int pw)], ?_, ?_⟩
   . refine ⟨_, rfl, _, _, rfl, rfl, dv (n := 13) (by decide) (by decide +kernel), _, _, rfl, rfl, (by decide : (0 : Int) < 16), rfl, _, rfl, G9 (fun _ => ?_) (fun _ => ⟨rfl, pw, p0, p1, rfl⟩)⟩
     refine ⟨_, ?_, fun _ _ h => h⟩
     exact ⟨_, rfl, _, _, rfl, rfl, dv (n := 208) (by decide) (by decide +kernel), _, _, rfl, rfl, (by decide : (0 : Int) < 401), _, _, rfl, rfl, rfl, m / 208 % 401 - 200, by omega, by omega, rfl⟩
   rintro σ' H8 ⟨rfl, pw, p0, p1, rfl⟩
   refine ⟨_, rfl, _, rfl, _, rfl, _, _, rfl, rfl, dv (n := 16) (by decide) (by decide +kernel), _, _, rfl, rfl, (by decide : (0 : Int) < 8), c, _, rfl, Int.emod_nonneg _ (by decide), Int.emod_lt_of_pos _ (by decide), fun fg H9 g0 g1 s9 => ?_⟩
   refine ⟨_, rfl, z4, fun t nt => ?_⟩
   exact k ⟨.plain, sg, fg, pw⟩ t _ (B5z ⟨s0, s1⟩ ⟨g0, g1⟩ ⟨p0, p1⟩) (s9.trans (Same.upd nt)) A9
def G4p (CN : Addr) : Sp := fun vs H Q _ => ∃ t x, vs = [.ref t] /\ H t = some (.tup (Nm.vs x)) /\ x.Wf /\ ∀ n H', H n = none -> Same H H' -> NumIs CN H' n x -> Q (.ref n) H'
theorem U8w : FnScope ["_law_one"] ["_law_one"] (A3 A8e) := scK
theorem J3d {f f1 f2 f3 CN CB : Addr} {fd fd1 fd2 fd3 : FuncData} (D : Def K mg "_law_made" ["_law_one"] A8e f fd) (D_plain : Def K mg "plain" ["sign", "figures", "power"] A8h f1 fd1) (G_plain : FnOk P w K mg base (CX1 P w) 3 f1 fd1 ["sign", "figures", "power"] (G4r K CN CB))
   (D_end : Def K mg "end" ["sign"] C8t f2 fd2) (G_end : FnOk P w K mg base (CX1 P w) 3 f2 fd2 ["sign"] (J4s K CN CB)) (D_nothing : Def K mg "nothing" [] A0t f3 fd3) (G_nothing : FnOk P w K mg base (CX1 P w) 3 f3 fd3 [] (B0n CN)) : FnOk P w K mg base (CX1 P w) 4 f fd ["_law_one"] (G4p CN) := by
 refine D.F.okE U8w (fun vs H Q E h => ?_) (fun X cdv A outer s H vs Q E hX hr hx h => ?_)
 . obtain ⟨t, x, rfl, _⟩ := h
   rfl
 . subst hX
   obtain ⟨t, x, rfl, ht, wf, k⟩ := h
   refine ⟨_, (A7 (G2 (C0 G4 (J9 U4 (pv 0) A1 (fun _ _ => rfl)) B5 (C7 _)) (B0 (B9 (C5 D_plain G_plain hr hx (A0 (J9 U4 (pv 0) A1 (fun _ _ => rfl)) (A0 (J9 U4 (pv 0) A1 (fun _ _ => rfl)) (A0 (J9 U4 (pv 0) A1 (fun _ _ => rfl)) A8)))))) C9)
     (A7 (G2 (C0 G4 (J9 U4 (pv 0) A1 (fun _ _ => rfl)) B5 (C7 _)) (B0 (B9 (C5 D_end G_end hr hx (A0 (J9 U4 (pv 0) A1 (fun _ _ => rfl)) A8)))) C9)
     (B0 (B9 (J5n D_nothing G_nothing hr hx))))), ?_⟩
   have ok := wf.ok
   have g1 : A2z 0 1 (.int x.s) := ⟨_, rfl, ok.s0, ok.s1⟩
   have g2 : A2z 0 (10 ^ 60 - 1) (.int x.f) := ⟨_, rfl, ok.f0, ok.f1⟩
   have g3 : A2z (-200) 200 (.int x.p) := ⟨_, rfl, ok.p0, ok.p1⟩
   have ix : ∀ j : Nat, j < 4 -> atI x.vs (j : Int) = some (x.vs.getD j .non) := fun j hj => J0 (j := j) (by
     rcases (by omega : j = 0 \/ j = 1 \/ j = 2 \/ j = 3) with rfl | rfl | rfl | rfl <;> rfl)
   refine ⟨_, rfl, t, _, _, _, rfl, rfl, SqT.of ht, ix 0 (by decide), rfl, _, rfl, G9 (fun h => ?_) (fun h => ?_)⟩
   . have hk : x.k = .plain := eqS (b := .plain) h
     refine ⟨_, rfl, t, _, _, _, rfl, rfl, SqT.of ht, ix 1 (by decide), _, rfl, t, _, _, _, rfl, rfl, SqT.of ht, ix 2 (by decide), _, rfl, t, _, _, _, rfl, rfl, SqT.of ht, ix 3 (by decide), _, _, _, rfl, .inl ⟨g1, g2, g3, fun n H' nn sm num => k n H' nn sm ?_⟩⟩
     unfold NumIs
     rw [hk]
     exact num
   . have hk : x.k ≠ .plain := neS (b := .plain) h
     refine ⟨_, rfl, t, _, _, _, rfl, rfl, SqT.of ht, ix 0 (by decide), rfl, _, rfl, G9 (fun h => ?_) (fun h => ?_)⟩
     . have hk : x.k = .end_ := eqS (b := .end_) h
       obtain ⟨ef, ep⟩ := wf.e hk
       refine ⟨_, rfl, t, _, _, _, rfl, rfl, SqT.of ht, ix 1 (by decide), _, rfl, .inl ⟨g1, fun n H' nn sm num => k n H' nn sm ?_⟩⟩
       unfold NumIs
       rw [hk, ef, ep]
       exact num
     . have hk2 : x.k ≠ .end_ := neS (b := .end_) h
       have hk3 : x.k = .none := by
         cases hk' : x.k with
         | plain => exact absurd hk' hk
         | end_ => exact absurd hk' hk2
         | none => rfl
       obtain ⟨es, ef, ep⟩ := wf.n hk3
       refine ⟨rfl, fun n H' nn sm num => k n H' nn sm ?_⟩
       unfold NumIs
       rw [hk3, es, ef, ep]
       exact num
end
def rdS (zs : List Str) : PyData := .list (zs.map PyData.str)
def OkL (zs : List Str) : Prop := zs.length <= 100 /\ ∀ z ∈ zs, PyData.strOk z = true
theorem Y1n : ∀ {zs : List Str}, (∀ z ∈ zs, PyData.strOk z = true) -> PyData.canLayAll0 (zs.map PyData.str) = true /\ PyData.depthAll (zs.map PyData.str) <= 1
 | [], _ => by simp [PyData.canLayAll0, PyData.depthAll]
 | z :: zs, h => by
   obtain ⟨a, b⟩ := Y1n (zs := zs) fun z' h' => h z' (List.mem_cons_of_mem _ h')
   have c := h z List.mem_cons_self
   constructor
   . simp [PyData.canLayAll0, PyData.canLay0, c, a]
   . simp only [List.map_cons, PyData.depthAll, PyData.depth]
     omega
theorem shS {zs : List Str} (h : OkL zs) : SeqAt.shaped (rdS zs) = true := by
 obtain ⟨a, b⟩ := Y1n h.2
 unfold SeqAt.shaped rdS
 simp only [PyData.canLay0, PyData.depth, a, Bool.and_true, Bool.and_eq_true, decide_eq_true_eq, List.length_map]
 exact ⟨trivial, decide_eq_true (by omega)⟩
theorem V6x : ∀ zs : List Str, PyData.eqv (rdS zs) (rdS zs) = true := by
 have h : ∀ zs : List Str, PyData.eqvAll (zs.map PyData.str) (zs.map PyData.str) = true := fun zs => by
   induction zs with
   | nil => simp [PyData.eqvAll]
   | cons z zs ih => simp [PyData.eqvAll, PyData.eqv, ih]
 intro zs
 simp [rdS, PyData.eqv, h]
theorem Y1f {K : Frag} {H : Hp} : ∀ zs : List Str, RdDs K H (zs.map V.str) (zs.map PyData.str)
 | [] => .nil
 | z :: zs => .cons (.str z) (Y1f zs)
theorem B0q {K : Frag} {H : Hp} {p : Addr} {zs : List Str} (h : H p = some (.lst (zs.map V.str))) : RdD K H (.ref p) (rdS zs) := .lst (SqL.of h) (Y1f zs)
theorem G4d : ∀ z ∈ sigS, PyData.strOk z = true := by decide +kernel
def SubS (zs : List Str) : Prop := ∃ p : Str -> Bool, zs = sigS.filter p
theorem SubS.ok {zs : List Str} (h : SubS zs) : OkL zs := by
 obtain ⟨p, rfl⟩ := h
 exact ⟨Nat.le_trans (List.length_filter_le _ _) (by decide), fun z hz => G4d z (List.mem_filter.mp hz).1⟩
theorem SubS.len {zs : List Str} (h : SubS zs) : zs.length <= 7 := by
 obtain ⟨p, rfl⟩ := h
 exact List.length_filter_le _ _
theorem SubS.mem {zs : List Str} (h : SubS zs) : ∀ z ∈ zs, z ∈ sigS := by
 obtain ⟨p, rfl⟩ := h
 exact fun z hz => (List.mem_filter.mp hz).1
theorem B7j {zs ws : List Str} (h : SubS zs) (e : ∀ z, z ∈ ws ↔ z ∈ zs) : Y4 ws = zs := by
 obtain ⟨p, rfl⟩ := h
 unfold Y4
 refine List.filter_congr fun z hz => ?_
 rw [Bool.eq_iff_iff, List.contains_iff_mem, e, List.mem_filter]
 simp [hz]
theorem J5t (zs : List Str) : SubS (Y4 zs) := ⟨_, rfl⟩
theorem C3j : ∀ i < 7, A2y[i]? = some (.str (sigS.getD i "")) := by decide +kernel
theorem U9v : sigS = (List.range 7).map (fun i => sigS.getD i "") := by decide +kernel
theorem C8p (f : Nat -> Bool) : SubS (((List.range 7).filter f).map fun i => sigS.getD i "") := by
 refine ⟨fun z => f (sigS.idxOf z), ?_⟩
 conv => rhs; rw [U9v]
 rw [List.filter_map]
 congr 1
theorem G4q {f : Nat -> Bool} {ys : List V} (hl : ys.length = ((List.range 7).filter f).length) (h : ∀ (j i : Nat) (y : V), ((List.range 7).filter f)[j]? = some i -> ys[j]? = some y -> A2y[i]? = some y) :
   ys = ((((List.range 7).filter f).map fun i => sigS.getD i "")).map V.str := by
 apply List.ext_getElem
 . simp [hl]
 . intro j h1 h2
   have hj : j < ((List.range 7).filter f).length := by rw [<- hl]; exact h1
   have z := h j _ ys[j] (List.getElem?_eq_getElem hj) (List.getElem?_eq_getElem h1)
   have hm : ((List.range 7).filter f)[j] < 7 := by
     have := (List.mem_filter.mp (List.getElem_mem hj)).1
     simpa using this
   rw [C3j _ hm] at z
   simp only [List.getElem_map]
   exact (Option.some.inj z).symm
abbrev B7a : Stmt := (top 59)
def G7b (r : Int) (y : Wy) (l m : Int) (u t : Addr) : List (Key × V) := [(.inr "room", .int r), (.inr "way", .str y.name), (.inr "least", .int l), (.inr "most", .int m), (.inr "lowest", .int (l - r + 1)), (.inr "up", .ref u), (.inr "trapped", .ref t)]
structure OwnAt (H : Hp) (d u t : Addr) (r : Int) (y : Wy) (l m : Int) (up tr : List Str) : Prop where
 d : H d = some (.dK (G7b r y l m u t))
 u : H u = some (.lst (up.map V.str))
 t : H t = some (.lst (tr.map V.str))
theorem OwnAt.same {H H' : Hp} {d u t : Addr} {r l m : Int} {y : Wy} {up tr : List Str} (h : OwnAt H d u t r y l m up tr) (s : Same H H') : OwnAt H' d u t r y l m up tr := ⟨s _ _ h.d, s _ _ h.u, s _ _ h.t⟩
structure FrameOk (r l m : Int) : Prop where
 r1 : 1 <= r
 r2 : r <= 24
 l1 : -60 <= l
 l2 : l <= 0
 m1 : 0 <= m
 m2 : m <= 60
def ownWy : List Wy := [.halfEven, .down, .up, .floor, .ceiling, .halfUp, .halfDown, .fiveUp]
def J5m : List V := ownWy.map fun y => V.str y.name
def k5 (r : Int) (y : Wy) (l m : Int) : List (Key × V) := [(.inr "room", .int r), (.inr "way", .str y.name), (.inr "least", .int l), (.inr "most", .int m), (.inr "lowest", .int (l - r + 1))]
theorem kne : (¬ (("way" : Str) = "room")) /\ (¬ (("room" : Str) = "way")) /\ (¬ (("room" : Str) = "least")) /\ (¬ (("way" : Str) = "least")) /\ (¬ (("room" : Str) = "most")) /\ (¬ (("way" : Str) = "most")) /\ (¬ (("least" : Str) = "most")) /\
   (¬ (("room" : Str) = "lowest")) /\ (¬ (("way" : Str) = "lowest")) /\ (¬ (("least" : Str) = "lowest")) /\ (¬ (("most" : Str) = "lowest")) /\ (¬ (("room" : Str) = "up")) /\ (¬ (("way" : Str) = "up")) /\ (¬ (("least" : Str) = "up")) /\ (¬ (("most" : Str) = "up")) /\ (¬ (("lowest" : Str) = "up")) /\
   (¬ (("room" : Str) = "trapped")) /\ (¬ (("way" : Str) = "trapped")) /\ (¬ (("least" : Str) = "trapped")) /\ (¬ (("most" : Str) = "trapped")) /\ (¬ (("lowest" : Str) = "trapped")) /\ (¬ (("up" : Str) = "trapped")) /\ (¬ (("trapped" : Str) = "up")) := by decide +kernel
theorem Y5e (a b : V) : A5h [] [((.inr "room" : Key), a), (.inr "way", b)] = [(.inr "room", a), (.inr "way", b)] := by
 obtain ⟨h1, h2, _⟩ := kne
 simp [A5h, Z1, h1, h2]
theorem Y5g (a b v : V) : Z1 [((.inr "room" : Key), a), (.inr "way", b)] (.inr "room") v = [(.inr "room", v), (.inr "way", b)] := by
 obtain ⟨h1, h2, _⟩ := kne
 simp [Z1, h1, h2]
theorem Y4y (a b v : V) : Z1 [((.inr "room" : Key), a), (.inr "way", b)] (.inr "least") v = [(.inr "room", a), (.inr "way", b), (.inr "least", v)] := by
 obtain ⟨_, _, h1, h2, _⟩ := kne
 simp [Z1, h1, h2]
theorem Y5r (a b c v : V) : Z1 [((.inr "room" : Key), a), (.inr "way", b), (.inr "least", c)] (.inr "most") v = [(.inr "room", a), (.inr "way", b), (.inr "least", c), (.inr "most", v)] := by
 obtain ⟨_, _, _, _, h1, h2, h3, _⟩ := kne
 simp [Z1, h1, h2, h3]
theorem Y4t (a b c d v : V) : Z1 [((.inr "room" : Key), a), (.inr "way", b), (.inr "least", c), (.inr "most", d)] (.inr "lowest") v = [(.inr "room", a), (.inr "way", b), (.inr "least", c), (.inr "most", d), (.inr "lowest", v)] := by
 obtain ⟨_, _, _, _, _, _, _, h1, h2, h3, h4, _⟩ := kne
 simp [Z1, h1, h2, h3, h4]
theorem Y4v (r : Int) (y : Wy) (l m : Int) (v : V) : Z1 (k5 r y l m) (.inr "up") v = k5 r y l m ++ [(.inr "up", v)] := by
 obtain ⟨_, _, _, _, _, _, _, _, _, _, _, h1, h2, h3, h4, h5, _⟩ := kne
 simp [Z1, k5, h1, h2, h3, h4, h5]
theorem Y4f (r : Int) (y : Wy) (l m : Int) (u t : Addr) : Z1 (k5 r y l m ++ [(.inr "up", .ref u)]) (.inr "trapped") (.ref t) = G7b r y l m u t := by
 obtain ⟨_, _, _, _, _, _, _, _, _, _, _, _, _, _, _, _, h1, h2, h3, h4, h5, h6, _⟩ := kne
 simp [Z1, k5, G7b, h1, h2, h3, h4, h5, h6]
theorem Y4u (r : Int) (y : Wy) (l m : Int) (u u' t : Addr) : Z1 (G7b r y l m u t) (.inr "up") (.ref u') = G7b r y l m u' t := by
 obtain ⟨_, _, _, _, _, _, _, _, _, _, _, h1, h2, h3, h4, h5, _, _, _, _, _, _, h6⟩ := kne
 simp [Z1, G7b, h1, h2, h3, h4, h5, h6]
theorem at3 (a b c n : Int) : ∃ v, (v = a \/ v = b \/ v = c) /\ atI ([.int a, .int b, .int c] : List V) (n % 3) = some (.int v) := by
 rcases (by omega : n % 3 = 0 \/ n % 3 = 1 \/ n % 3 = 2) with h | h | h
 . exact ⟨a, .inl rfl, by rw [h]; exact J0 (j := 0) rfl⟩
 . exact ⟨b, .inr (.inl rfl), by rw [h]; exact J0 (j := 1) rfl⟩
 . exact ⟨c, .inr (.inr rfl), by rw [h]; exact J0 (j := 2) rfl⟩
theorem sh3 : ∀ i : Nat, i < 7 -> (0 : Int) < 3 * 2 ^ ((0 : Int) + (i : Int)).toNat /\ ((3 : Int) * 2 ^ ((0 : Int) + (i : Int)).toNat).natAbs.log2 < 9000 := by decide +kernel
theorem V5d : ∀ i : Nat, i < 7 -> (0 : Int) < 1200 * 2 ^ ((0 : Int) + (i : Int)).toNat /\ ((1200 : Int) * 2 ^ ((0 : Int) + (i : Int)).toNat).natAbs.log2 < 9000 := by decide +kernel
theorem G4h {i : Nat} (h : i < 7) : atI A2y ((0 : Int) + (i : Int)) = some (.str (sigS.getD i "")) := by
 rw [Int.zero_add]
 exact J0 (j := i) (C3j i h)
section
variable {P : Program} {w : World} {K : Frag} {mg : Str -> Option Value} {base : Heap}
def J2x : Sp := fun vs H Q _ => ∃ c : Int, vs = [.int c] /\ ∀ d u t r y l m up tr H', Same H H' -> H d = none -> H u = none -> H t = none -> FrameOk r l m -> SubS up -> SubS tr -> OwnAt H' d u t r y l m up tr -> Q (.ref d) H'
theorem scLOwn : FnScope ["_law_cell", "_law_ways", "_law_signals", "_law_more", "_law_own_here"] ["_law_cell"] (A3 B7a) := scK
theorem V0f {f f1 : Addr} {fd fd1 : FuncData} (D : Def K mg "_law_own" ["_law_cell"] B7a f fd) (D_l_mixed : Def K mg "_law_mixed" ["_law_cell", "_law_k"] A3z f1 fd1) (G_l_mixed : FnOk P w K mg base (CX1 P w) 1 f1 fd1 ["_law_cell", "_law_k"] B5h) (O : Own mg) :
   FnOk P w K mg base (CX1 P w) 2 f fd ["_law_cell"] J2x := by
 refine D.F.okE scLOwn (fun vs H Q E h => ?_) (fun X cdv A outer s H vs Q E hX hr hx h => ?_)
 . obtain ⟨c, rfl, _⟩ := h
   rfl
 . subst hX
   obtain ⟨c, rfl, k⟩ := h
   have HU := hr.units
   refine ⟨_, (A7 (C4 (C8 (i := 1) scLOwn.nd rfl (Or.inl rfl) (Y2 (A0 B5 (A0 B5 (A0 B5 (A0 B5 (A0 B5 (A0 B5 (A0 B5 (A0 B5 A8)))))))))))
     (A7 (C4 (C8 (i := 2) scLOwn.nd rfl (Or.inr rfl) (Y2 (A0 B5 (A0 B5 (A0 B5 (A0 B5 (A0 B5 (A0 B5 (A0 B5 A8))))))))))
     (A7 (C4 (C8 (i := 3) scLOwn.nd rfl (Or.inr rfl) (C5 D_l_mixed G_l_mixed hr hx (A0 (pv 0) (A0 A1 A8)))))
     (A7 (C4 (C8 (i := 4) scLOwn.nd rfl (Or.inl rfl) (V0j (C9b B5 (B1 G8 A1 (B1 D7 (pv 3) A1)) (C9b B5 (J9 A0k (pv 1) (B1 D7 (B1 D3 (pv 3) A1) A1) (fun _ _ => rfl)) U8m)) rfl rfl (by simp) (by decide))))
     (A7 (C4 (G2 (C0 G4 (B1 D7 (B1 D3 (pv 3) A1) A1) A1 (C7 _)) (B0 (C4 (A3p (Nat.lt_of_le_of_lt (Nat.add_le_add_left (by decide) _) HU) (pv 4) B5 (B1 G8 A1 (B1 D7 (B1 D3 (pv 3) A1) A1)) (by rfl)))) C9))
     (A7 (C4 (C8 (i := 3) scLOwn.nd rfl (Or.inr rfl) (C5 D_l_mixed G_l_mixed hr hx (A0 (pv 0) (A0 A1 A8)))))
     (A7 (C4 (A3p (Nat.lt_of_le_of_lt (Nat.add_le_add_left (by decide) _) HU) (pv 4) B5 (J9 A0k (Y2 (A0 (C1u B0t A1) (A0 (B1 D9 A1 (B1 D7 (B1 D3 (pv 3) A1) A1)) (A0 (B1 D9 A1 (B1 D7 (B1 D3 (pv 3) A1) A1)) A8)))) (B1 D7 (pv 3) A1) (fun _ _ => rfl)) (by rfl)))
     (A7 (C4 (A3p (Nat.lt_of_le_of_lt (Nat.add_le_add_left (by decide) _) HU) (pv 4) B5 (J9 A0k (Y2 (A0 A1 (A0 (B1 D7 (B1 D3 (pv 3) A1) A1) (A0 (B1 D7 (B1 D3 (pv 3) A1) A1) A8)))) (B1 D7 (B1 D3 (pv 3) A1) A1) (fun _ _ => rfl)) (by rfl)))
     (A7 (C4 (A3p (Nat.lt_of_le_of_lt (Nat.add_le_add_left (by decide) _) HU) (pv 4) B5 (B1 G8 (B1 D9 (G3 (Nat.lt_of_le_of_lt (Nat.add_le_add_left (by decide) _) HU) (pv 4) B5 (fun _ _ => rfl)) (G3 (Nat.lt_of_le_of_lt (Nat.add_le_add_left (by decide) _) HU) (pv 4) B5 (fun _ _ => rfl))) A1) (by rfl)))
     (A7 (C4 (C8 (i := 3) scLOwn.nd rfl (Or.inr rfl) (C5 D_l_mixed G_l_mixed hr hx (A0 (pv 0) (A0 A1 A8)))))
     (A7 (C4 (A3p (Nat.lt_of_le_of_lt (Nat.add_le_add_left (by decide) _) HU) (pv 4) B5 (C9k (N := ["_law_k"]) (F := ["_law_signals", "_law_more"]) (js := [2, 3]) (CompScopeF.of2 ⟨rfl, by decide +kernel, by decide +kernel, by decide +kernel, by decide +kernel⟩ (by rfl) (by rfl) ⟨_, by rfl⟩ (by rfl) (by rfl) (by rfl) ⟨_, by rfl⟩ (by rfl) (by rfl)) (.inl hr.hd) rfl (A7e rfl O.range_ (A0 A1 A8)) rfl (fun C s₀ H₀ ex pn h => V3 (i := 0) (by decide +kernel : (["_law_k", "_law_signals", "_law_more"] : List Str).Nodup) rfl (Or.inl rfl)) (fun C s₀ H₀ ex pn h => (PW.pt (C3z (C0 G4 (B1 D7 (pv 2) A1) A1 (C7 _)) (B5p (C0 G4 (B1 D7 (B1 D3 (pv 2) (B1 J2y A1 (pv 0))) A1) A1 (C7 _)))))) (fun C s₀ H₀ ex pn h => (J9 (C9f (K := K) rfl) (pv 1) (pv 0) (fun _ _ => rfl)))) (by rfl)))
     (A7 (C4 (A3p (Nat.lt_of_le_of_lt (Nat.add_le_add_left (by decide) _) HU) (pv 4) B5 (C9k (N := ["_law_k"]) (F := ["_law_signals", "_law_more"]) (js := [2, 3]) (CompScopeF.of2 ⟨rfl, by decide +kernel, by decide +kernel, by decide +kernel, by decide +kernel⟩ (by rfl) (by rfl) ⟨_, by rfl⟩ (by rfl) (by rfl) (by rfl) ⟨_, by rfl⟩ (by rfl) (by rfl)) (.inl hr.hd) rfl (A7e rfl O.range_ (A0 A1 A8)) rfl (fun C s₀ H₀ ex pn h => V3 (i := 0) (by decide +kernel : (["_law_k", "_law_signals", "_law_more"] : List Str).Nodup) rfl (Or.inl rfl)) (fun C s₀ H₀ ex pn h => (PW.pt (C3z (C0 G4 (B1 D7 (B1 D3 (pv 2) A1) A1) A1 (C7 _)) (B5p (C0 G4 (B1 D7 (B1 D3 (pv 2) (B1 J2y A1 (pv 0))) A1) A1 (C7 _)))))) (fun C s₀ H₀ ex pn h => (J9 (C9f (K := K) rfl) (pv 1) (pv 0) (fun _ _ => rfl)))) (by rfl)))
     (B0 (B9 (pv 4))))))))))))))), ?_⟩
   have z8 : 8 <= sizeLine := D5 (by decide)
   have z7 : 7 <= sizeLine := D5 (by decide)
   have z3 : 3 <= sizeLine := D5 (by decide)
   refine ⟨fun σ' H' => ∃ a1, Same H H' /\ H' a1 = some (.lst J5m) /\ σ' = [some (.int c), some (.ref a1), none, none, none], ⟨z8, fun a n => ⟨a, Same.upd n, A9, rfl⟩⟩, ?_⟩
   rintro σ' H1 ⟨a1, s1, e1, rfl⟩
   refine ⟨fun σ' H' => ∃ a2, Same H H' /\ H' a1 = some (.lst J5m) /\ H' a2 = some (.lst A2y) /\ σ' = [some (.int c), some (.ref a1), some (.ref a2), none, none], ⟨z7, fun a n => ⟨a, s1.trans (Same.upd n), (Same.upd n) _ _ e1, A9, rfl⟩⟩, ?_⟩
   rintro σ' H2 ⟨a2, s2, e1, e2, rfl⟩
   refine ⟨fun σ' H' => ∃ m : Int, H' = H2 /\ 0 <= m /\ σ' = [some (.int c), some (.ref a1), some (.ref a2), some (.int m), none], ⟨_, rfl, c, 30, rfl, by decide, by decide, fun m m0 _ => ⟨m, rfl, m0, rfl⟩⟩, ?_⟩
   rintro σ' H3 ⟨m, rfl, m0, rfl⟩
   refine ⟨fun σ' H' => ∃ d r y, Same H H' /\ H d = none /\ 1 <= r /\ r <= 24 /\ H' a2 = some (.lst A2y) /\ H' d = some (.dK [(.inr "room", .int r), (.inr "way", .str (Wy.name y))]) /\ σ' = [some (.int c), some (.ref a1), some (.ref a2), some (.int m), some (.ref d)], ?_, ?_⟩
   . intro d nd
     have ud := Same.upd (o := .dK []) nd
     have z8' : (0 : Int) < 8 := by decide
     obtain ⟨v, hv, ix⟩ := ixv (xs := J5m) (i := m / 6 % 8) (Int.emod_nonneg _ (by decide)) (by show m / 6 % 8 < 8; exact Int.emod_lt_of_pos _ z8')
     obtain ⟨y, _, rfl⟩ := List.mem_map.mp hv
     refine ⟨_, rfl, _, _, rfl, rfl, (by decide : (0 : Int) < 6), _, _, rfl, rfl, _, rfl, _, rfl, _, _, rfl, rfl, dv (n := 6) (by decide) (by decide +kernel), _, _, rfl, rfl, z8', a1, _, _, _, rfl, rfl, SqL.of (ud _ _ e1), ix, A9, [(.inr "room", .int (1 + m % 6)), (.inr "way", .str y.name)], rfl, by show 2 <= 15; decide, ?_⟩
     have xd : Exc d (upd H3 d (.dK [])) (upd (upd H3 d (.dK [])) d (.dK (A5h [] [(.inr "room", .int (1 + m % 6)), (.inr "way", .str y.name)]))) := Exc.upd
     have n2 : a2 ≠ d := C6 e2 nd
     refine ⟨d, 1 + m % 6, y, fun b o hb => ?_, s2.free nd, by omega, by omega, xd _ _ (ud _ _ e2) n2, by rw [Y5e]; exact A9, rfl⟩
     have q := s2 _ _ hb
     exact xd _ _ (ud _ _ q) (C6 q nd)
   rintro σ' H4 ⟨d, r, y, s4, nd, r1, r2, e2, ed, rfl⟩
   have nad : ∀ b o, H b = some o -> b ≠ d := fun b o hb => C6 hb nd
   have n2d : ∀ {G : Hp} {kvs : List (Key × V)}, G a2 = some (.lst A2y) -> G d = some (.dK kvs) -> a2 ≠ d := fun h1 h2 => J1 h1 h2 (by intro z; cases z)
   have keepS : ∀ {G : Hp} {u : HO}, Same H G -> Same H (upd G d u) := fun sm b o hb => by rw [B3 (nad b o hb)]; exact sm _ _ hb
   refine ⟨fun σ' H' => ∃ r, Same H H' /\ 1 <= r /\ r <= 24 /\ H' a2 = some (.lst A2y) /\ H' d = some (.dK [(.inr "room", .int r), (.inr "way", .str (Wy.name y))]) /\ σ' = [some (.int c), some (.ref a1), some (.ref a2), some (.int m), some (.ref d)], ?_, ?_⟩
   . refine ⟨_, rfl, _, _, rfl, rfl, dv (n := 48) (by decide) (by decide +kernel), _, _, rfl, rfl, (by decide : (0 : Int) < 4), rfl, _, rfl, G9 (fun _ => ?_) (fun _ => ⟨r, s4, r1, r2, e2, ed, rfl⟩)⟩
     refine ⟨_, ?_, fun _ _ h => h⟩
     refine ⟨_, rfl, _, _, rfl, rfl, dv (n := 192) (by decide) (by decide +kernel), _, _, rfl, rfl, (by decide : (0 : Int) < 24), _, _, rfl, rfl, _, rfl, d, _, rfl, DPut.k (k := .inr "room") ed (G7 (by show 2 <= 1000; decide)), ?_⟩
     exact ⟨1 + m / 192 % 24, keepS s4, by omega, by omega, by rw [B3 (n2d e2 ed)]; exact e2, by rw [Y5g]; exact A9, rfl⟩
   rintro σ' H5 ⟨r, s5, r1, r2, e2, ed, rfl⟩
   refine ⟨fun σ' H' => ∃ m : Int, H' = H5 /\ 0 <= m /\ σ' = [some (.int c), some (.ref a1), some (.ref a2), some (.int m), some (.ref d)], ⟨_, rfl, c, 31, rfl, by decide, by decide, fun m m0 _ => ⟨m, rfl, m0, rfl⟩⟩, ?_⟩
   rintro σ' H6 ⟨m2, rfl, q0, rfl⟩
   refine ⟨fun σ' H' => ∃ l : Int, Same H H' /\ -60 <= l /\ l <= 0 /\ H' a2 = some (.lst A2y) /\ H' d = some (.dK [(.inr "room", .int r), (.inr "way", .str (Wy.name y)), (.inr "least", .int l)]) /\ σ' = [some (.int c), some (.ref a1), some (.ref a2), some (.int m2), some (.ref d)], ?_, ?_⟩
   . obtain ⟨l, hl, ix⟩ := at3 (-60) (0 - m2 / 9 % 8) (0 - m2 / 9 % 61) m2
     refine ⟨_, rfl, _, rfl, _, _, rfl, rfl, dv (n := 9) (by decide) (by decide +kernel), _, _, rfl, rfl, (by decide : (0 : Int) < 8), _, _, rfl, rfl, _, rfl, _, _, rfl, rfl, dv (n := 9) (by decide) (by decide +kernel), _, _, rfl, rfl, (by decide : (0 : Int) < 61), _, _, rfl, rfl, z3, fun p np => ?_⟩
     have up := Same.upd (o := .lst [.int (-60), .int (0 - m2 / 9 % 8), .int (0 - m2 / 9 % 61)]) np
     have ed' := up _ _ ed
     have e2' := up _ _ e2
     refine ⟨_, rfl, _, _, rfl, rfl, (by decide : (0 : Int) < 3), p, _, _, _, rfl, rfl, SqL.of A9, ix, _, rfl, d, _, rfl, DPut.k (k := .inr "least") ed' (G7 (by show 2 <= 1000; decide)), ?_⟩
     exact ⟨l, keepS (s5.trans up), by omega, by omega, by rw [B3 (n2d e2' ed')]; exact e2', by rw [Y4y]; exact A9, rfl⟩
   rintro σ' H7 ⟨l, s7, l1, l2, e2, ed, rfl⟩
   refine ⟨fun σ' H' => ∃ mo : Int, Same H H' /\ 0 <= mo /\ mo <= 60 /\ H' a2 = some (.lst A2y) /\ H' d = some (.dK [(.inr "room", .int r), (.inr "way", .str (Wy.name y)), (.inr "least", .int l), (.inr "most", .int mo)]) /\ σ' = [some (.int c), some (.ref a1), some (.ref a2), some (.int m2), some (.ref d)], ?_, ?_⟩
   . obtain ⟨mo, hl, ix⟩ := at3 60 (m2 / 600 % 8) (m2 / 600 % 61) (m2 / 3)
     refine ⟨_, rfl, _, _, rfl, rfl, dv (n := 600) (by decide) (by decide +kernel), _, _, rfl, rfl, (by decide : (0 : Int) < 8), _, rfl, _, _, rfl, rfl, dv (n := 600) (by decide) (by decide +kernel), _, _, rfl, rfl, (by decide : (0 : Int) < 61), z3, fun p np => ?_⟩
     have up := Same.upd (o := .lst [.int 60, .int (m2 / 600 % 8), .int (m2 / 600 % 61)]) np
     have ed' := up _ _ ed
     have e2' := up _ _ e2
     refine ⟨_, rfl, _, _, rfl, rfl, dv (n := 3) (by decide) (by decide +kernel), _, _, rfl, rfl, (by decide : (0 : Int) < 3), p, _, _, _, rfl, rfl, SqL.of A9, ix, _, rfl, d, _, rfl, DPut.k (k := .inr "most") ed' (G7 (by show 3 <= 1000; decide)), ?_⟩
     exact ⟨mo, keepS (s7.trans up), by omega, by omega, by rw [B3 (n2d e2' ed')]; exact e2', by rw [Y5r]; exact A9, rfl⟩
   rintro σ' H8 ⟨mo, s8, m1, m2', e2, ed, rfl⟩
   refine ⟨fun σ' H' => Same H H' /\ H' a2 = some (.lst A2y) /\ H' d = some (.dK (k5 r y l mo)) /\ σ' = [some (.int c), some (.ref a1), some (.ref a2), some (.int m2), some (.ref d)], ?_, ?_⟩
   . have g1 : DGet H8 d (.str "least") (some (.int l)) := DGet.k (k := .inr "least") ed
     have g2 : DGet H8 d (.str "room") (some (.int r)) := DGet.k (k := .inr "room") ed
     refine ⟨_, rfl, d, _, rfl, g1, _, rfl, d, _, rfl, g2, _, _, rfl, rfl, _, _, rfl, rfl, _, rfl, d, _, rfl, DPut.k (k := .inr "lowest") ed (G7 (by show 4 <= 1000; decide)), ?_⟩
     exact ⟨keepS s8, by rw [B3 (n2d e2 ed)]; exact e2, by rw [Y4t]; exact A9, rfl⟩
   rintro σ' H9 ⟨s9, e2, ed, rfl⟩
   refine ⟨fun σ' H' => ∃ m : Int, H' = H9 /\ 0 <= m /\ σ' = [some (.int c), some (.ref a1), some (.ref a2), some (.int m), some (.ref d)], ⟨_, rfl, c, 32, rfl, by decide, by decide, fun m m0 _ => ⟨m, rfl, m0, rfl⟩⟩, ?_⟩
   rintro σ' H10 ⟨m3, rfl, q3, rfl⟩
   refine ⟨fun σ' H' => ∃ u up, Same H H' /\ H u = none /\ SubS up /\ H' a2 = some (.lst A2y) /\ H' u = some (.lst (up.map V.str)) /\ H' d = some (.dK (k5 r y l mo ++ [(.inr "up", .ref u)])) /\ σ' = [some (.int c), some (.ref a1), some (.ref a2), some (.int m3), some (.ref d)], ?_, ?_⟩
   . refine ⟨7, rfl, by decide, by decide, C9s (J := Itr 0 7) (n := 7) (fun i => decide (m3 % 3 = 1) && decide (m3 / (3 * 2 ^ ((0 : Int) + (i : Int)).toNat) % 2 = 1)) (fun i y _ => A2y[i]? = some y) (by decide) (fun _ _ _ _ _ _ h _ _ => h) (fun i H2 Qy Qn hi sm hy hn => ⟨hi, fun x H3 yl => ?_⟩) (fun H2 sm => Nat.le_refl _) (fun D' H' ys sm nD eD hlen hR => ?_)⟩
     . obtain ⟨rfl, rfl⟩ := yl
       refine ⟨_, rfl, _, _, rfl, rfl, (by decide : (0 : Int) < 3), rfl, _, rfl, G9 (fun h1 => ?_) (fun h1 => ?_)⟩
       . have h1 : m3 % 3 = 1 := V.int.inj h1
         refine ⟨_, rfl, _, rfl, _, _, rfl, rfl, ⟨by show 0 <= (0 : Int) + i; omega, by show (0 : Int) + i <= 1000000; omega, by decide⟩, _, _, rfl, rfl, sh3 i hi, _, _, rfl, rfl, (by decide : (0 : Int) < 2), rfl, _, rfl, G9 (fun h2 => ?_) (fun h2 => ?_)⟩
         . have h2 : m3 / (3 * 2 ^ ((0 : Int) + (i : Int)).toNat) % 2 = 1 := V.int.inj h2
           exact ⟨_, rfl, _, rfl, a2, _, _, _, rfl, rfl, SqL.of (sm _ _ e2), G4h hi, hy (by rw [decide_eq_true h1, decide_eq_true h2]; rfl) _ _ (Same.refl _) (C3j i hi)⟩
         . have h2 : ¬ m3 / (3 * 2 ^ ((0 : Int) + (i : Int)).toNat) % 2 = 1 := fun e => h2 (congrArg V.int e)
           exact hn (by rw [decide_eq_false h2, Bool.and_false]) _ (Same.refl _)
       . have h1 : ¬ m3 % 3 = 1 := fun e => h1 (congrArg V.int e)
         exact Z2 (hn (by rw [decide_eq_false h1]; rfl) _ (Same.refl _))
     . obtain ⟨zs, hz, rfl⟩ : ∃ zs, SubS zs /\ ys = zs.map V.str := ⟨_, C8p _, G4q hlen hR⟩
       have ed' := sm _ _ ed
       have e2' := sm _ _ e2
       have nDd : D' ≠ d := Ne.symm (C6 ed nD)
       refine ⟨_, rfl, d, _, rfl, DPut.k (k := .inr "up") ed' (G7 (by show 5 <= 1000; decide)), ?_⟩
       refine ⟨D', zs, keepS (s9.trans sm), s9.free nD, hz, by rw [B3 (n2d e2' ed')]; exact e2', ?_, by rw [Y4v]; exact A9, rfl⟩
       rw [B3 nDd, eD]
   rintro σ' H11 ⟨u, up, s11, nu, su, e2, eu, ed, rfl⟩
   refine ⟨fun σ' H' => ∃ t tr, Same H H' /\ H t = none /\ SubS tr /\ OwnAt H' d u t r y l mo up tr /\ σ' = [some (.int c), some (.ref a1), some (.ref a2), some (.int m3), some (.ref d)], ?_, ?_⟩
   . refine ⟨7, rfl, by decide, by decide, C9s (J := Itr 0 7) (n := 7) (fun i => decide (m3 / 400 % 3 = 1) && decide (m3 / (1200 * 2 ^ ((0 : Int) + (i : Int)).toNat) % 2 = 1)) (fun i y _ => A2y[i]? = some y) (by decide) (fun _ _ _ _ _ _ h _ _ => h) (fun i H2 Qy Qn hi sm hy hn => ⟨hi, fun x H3 yl => ?_⟩) (fun H2 sm => Nat.le_refl _) (fun D' H' ys sm nD eD hlen hR => ?_)⟩
     . obtain ⟨rfl, rfl⟩ := yl
       refine ⟨_, rfl, _, _, rfl, rfl, dv (n := 400) (by decide) (by decide +kernel), _, _, rfl, rfl, (by decide : (0 : Int) < 3), rfl, _, rfl, G9 (fun h1 => ?_) (fun h1 => ?_)⟩
       . have h1 : m3 / 400 % 3 = 1 := V.int.inj h1
         refine ⟨_, rfl, _, rfl, _, _, rfl, rfl, ⟨by show 0 <= (0 : Int) + i; omega, by show (0 : Int) + i <= 1000000; omega, by decide⟩, _, _, rfl, rfl, V5d i hi, _, _, rfl, rfl, (by decide : (0 : Int) < 2), rfl, _, rfl, G9 (fun h2 => ?_) (fun h2 => ?_)⟩
         . have h2 : m3 / (1200 * 2 ^ ((0 : Int) + (i : Int)).toNat) % 2 = 1 := V.int.inj h2
           exact ⟨_, rfl, _, rfl, a2, _, _, _, rfl, rfl, SqL.of (sm _ _ e2), G4h hi, hy (by rw [decide_eq_true h1, decide_eq_true h2]; rfl) _ _ (Same.refl _) (C3j i hi)⟩
         . have h2 : ¬ m3 / (1200 * 2 ^ ((0 : Int) + (i : Int)).toNat) % 2 = 1 := fun e => h2 (congrArg V.int e)
           exact hn (by rw [decide_eq_false h2, Bool.and_false]) _ (Same.refl _)
       . have h1 : ¬ m3 / 400 % 3 = 1 := fun e => h1 (congrArg V.int e)
         exact Z2 (hn (by rw [decide_eq_false h1]; rfl) _ (Same.refl _))
     . obtain ⟨zs, hz, rfl⟩ : ∃ zs, SubS zs /\ ys = zs.map V.str := ⟨_, C8p _, G4q hlen hR⟩
       have ed' := sm _ _ ed
       have eu' := sm _ _ eu
       have nDd : D' ≠ d := Ne.symm (C6 ed nD)
       have nud : u ≠ d := J1 eu ed (by intro z; cases z)
       refine ⟨_, rfl, d, _, rfl, DPut.k (k := .inr "trapped") ed' (G7 (by show 6 <= 1000; decide)), ?_⟩
       refine ⟨D', zs, keepS (s11.trans sm), s11.free nD, hz, ⟨by rw [Y4f]; exact A9, by rw [B3 nud]; exact eu', ?_⟩, rfl⟩
       rw [B3 nDd, eD]
   rintro σ' H12 ⟨t, tr, s12, nt, st, own, rfl⟩
   exact ⟨_, rfl, k d u t r y l mo up tr H12 s12 nd nu nt ⟨r1, r2, l1, l2, m1, m2'⟩ su st own⟩
end
abbrev Z7 : Stmt := (top 60)
section
variable {P : Program} {w : World} {K : Frag} {mg : Str -> Option Value} {base : Heap}
theorem OwnAt.exc {H H' : Hp} {d u t p : Addr} {r l m : Int} {y : Wy} {up tr : List Str} (h : OwnAt H d u t r y l m up tr) (x : Exc p H H') (h1 : d ≠ p) (h2 : u ≠ p) (h3 : t ≠ p) : OwnAt H' d u t r y l m up tr := ⟨x _ _ h.d h1, x _ _ h.u h2, x _ _ h.t h3⟩
theorem OwnAt.gRoom {H : Hp} {d u t : Addr} {r l m : Int} {y : Wy} {up tr : List Str} (h : OwnAt H d u t r y l m up tr) : DGet H d (.str "room") (some (.int r)) := DGet.k (k := .inr "room") h.d
theorem OwnAt.gWay {H : Hp} {d u t : Addr} {r l m : Int} {y : Wy} {up tr : List Str} (h : OwnAt H d u t r y l m up tr) : DGet H d (.str "way") (some (.str y.name)) := DGet.k (k := .inr "way") h.d
theorem OwnAt.gLeast {H : Hp} {d u t : Addr} {r l m : Int} {y : Wy} {up tr : List Str} (h : OwnAt H d u t r y l m up tr) : DGet H d (.str "least") (some (.int l)) := DGet.k (k := .inr "least") h.d
theorem OwnAt.gMost {H : Hp} {d u t : Addr} {r l m : Int} {y : Wy} {up tr : List Str} (h : OwnAt H d u t r y l m up tr) : DGet H d (.str "most") (some (.int m)) := DGet.k (k := .inr "most") h.d
theorem OwnAt.gLowest {H : Hp} {d u t : Addr} {r l m : Int} {y : Wy} {up tr : List Str} (h : OwnAt H d u t r y l m up tr) : DGet H d (.str "lowest") (some (.int (l - r + 1))) := DGet.k (k := .inr "lowest") h.d
theorem OwnAt.gUp {H : Hp} {d u t : Addr} {r l m : Int} {y : Wy} {up tr : List Str} (h : OwnAt H d u t r y l m up tr) : DGet H d (.str "up") (some (.ref u)) := DGet.k (k := .inr "up") h.d
theorem OwnAt.gTr {H : Hp} {d u t : Addr} {r l m : Int} {y : Wy} {up tr : List Str} (h : OwnAt H d u t r y l m up tr) : DGet H d (.str "trapped") (some (.ref t)) := DGet.k (k := .inr "trapped") h.d
def B6d (CC : Addr) : Sp := fun vs H Q _ => ∃ d u t r y l m up tr, vs = [.ref d] /\ OwnAt H d u t r y l m up tr /\ FrameOk r l m /\ SubS up /\ SubS tr /\ ∀ c a b H', Same H H' -> H c = none -> CtxAt CC H' c r y l m a b (up.map V.str) (tr.map V.str) -> Q (.ref c) H'
theorem scLContext : FnScope ["_law_own_here", "_law_context_here"] ["_law_own_here"] (A3 Z7) := scK
theorem C8k {f CC CB CT fI : Addr} {fd fdI : FuncData} (D : Def K mg "_law_context" ["_law_own_here"] Z7 f fd) (M : MakeC P w K mg base CC CB fI fdI) (b4 : Binds K fdI ["self", "room", "way", "least", "most"] []) (C : CtxC K mg CC) (MD : Has P w K mg base CC "raised" 3 ["self", "names"] (B6k K CC CB CT)) (MT : Has P w K mg base CC "trap" 2 ["self", "names"] (D4v K CC CB)) (O : Own mg) :
   FnOk P w K mg base (CX1 P w) 5 f fd ["_law_own_here"] (B6d CC) := by
 refine D.F.okE scLContext (fun vs H Q E h => ?_) (fun X cdv A outer s H vs Q E hX hr hx h => ?_)
 . obtain ⟨d, u, t, r, y, l, m, up, tr, rfl, _⟩ := h
   rfl
 . subst hX
   obtain ⟨d, u, t, r, y, l, m, up, tr, rfl, ow, fr, su, st, k⟩ := h
   obtain ⟨fr', fdr, mr, gr, br⟩ := MD
   obtain ⟨ft, fdt, mt, gt, bt⟩ := MT
   have HU := hr.units
   refine ⟨_, (A7 (C4 (C8 (i := 1) scLContext.nd rfl (Or.inl rfl) (B0c M.m M.g hr C.g b4 .nil hx (A0 (G3 (Nat.lt_of_le_of_lt (Nat.add_le_add_left (by decide) _) HU) (pv 0) B5 (fun _ _ => rfl)) (A0 (G3 (Nat.lt_of_le_of_lt (Nat.add_le_add_left (by decide) _) HU) (pv 0) B5 (fun _ _ => rfl)) (A0 (G3 (Nat.lt_of_le_of_lt (Nat.add_le_add_left (by decide) _) HU) (pv 0) B5 (fun _ _ => rfl)) (A0 (G3 (Nat.lt_of_le_of_lt (Nat.add_le_add_left (by decide) _) HU) (pv 0) B5 (fun _ _ => rfl)) A8)))))))
     (A7 (C4 (Y7 (D0c (pv 1) C.cl mr gr hr br .nil hx (A0 (V0 A3u (by rfl) O.list_ boot_list (A0 (G3 (Nat.lt_of_le_of_lt (Nat.add_le_add_left (by decide) _) HU) (pv 0) B5 (fun _ _ => rfl)) A8)) A8))))
     (A7 (C4 (Y7 (D0c (pv 1) C.cl mt gt hr bt .nil hx (A0 (V6k (G3 (Nat.lt_of_le_of_lt (Nat.add_le_add_left (by decide) _) HU) (pv 0) B5 (fun _ _ => rfl)) (C1u B0t A1)) A8))))
     (B0 (B9 (pv 1)))))), ?_⟩
   refine ⟨fun σ' H' => ∃ c a b, Same H H' /\ H c = none /\ CtxAt CC H' c r y l m a b [] [] /\ σ' = [some (.ref d), some (.ref c)], ?_, ?_⟩
   . refine ⟨_, rfl, d, _, rfl, ow.gRoom, _, rfl, d, _, rfl, ow.gWay, _, rfl, d, _, rfl, ow.gLeast, _, rfl, d, _, rfl, ow.gMost, fun x dx n1 n2 ne => ?_⟩
     exact Y0w n1 n2 ne rfl fr.r1 fr.r2 rfl (.inr ⟨rfl, fr.l1, fr.l2⟩) rfl fr.m1 fr.m2 fun a b H4 s4 hc => ⟨rfl, x, a, b, s4, n1, hc, rfl⟩
   rintro σ' H1 ⟨c, a, b, s1, nc, hc, rfl⟩
   refine ⟨fun σ' H' => ∃ a, Same H H' /\ CtxAt CC H' c r y l m a b (up.map V.str) [] /\ σ' = [some (.ref d), some (.ref c)], ?_, ?_⟩
   . obtain ⟨dx, e⟩ := hc.ins
     have ow1 := ow.same s1
     refine ⟨_, rfl, c, dx, _, rfl, e, C1a _ _ _ _ _ _, _, rfl, d, _, rfl, ow1.gUp, u, _, rfl, .inl (SqL.of ow1.u), fun p np => ?_⟩
     have uq := Same.upd (o := .lst (up.map V.str)) np
     refine ⟨c, r, y, l, m, a, b, [], [], _, rfl, hc.same uq, by show 0 + 100 <= 1000; decide, .inl ⟨p, up, rfl, A9, Nat.le_trans su.len (by decide), su.mem, fun _ a' H2 x2 na c2 => ⟨a', fun q o hq => ?_, ?_, rfl⟩, fun t ht => by cases ht⟩⟩
     . exact x2 _ _ (uq _ _ (s1 _ _ hq)) (C6 hq nc)
     . have := B7j (ws := [] ++ up) su (fun z => by simp)
       rw [this] at c2
       exact c2
   rintro σ' H2 ⟨a, s2, hc2, rfl⟩
   refine ⟨fun σ' H' => ∃ b, Same H H' /\ CtxAt CC H' c r y l m a b (up.map V.str) (tr.map V.str) /\ σ' = [some (.ref d), some (.ref c)], ?_, ?_⟩
   . obtain ⟨dx, e⟩ := hc2.ins
     have ow1 := ow.same s2
     refine ⟨_, rfl, c, dx, _, rfl, e, C9h _ _ _ _ _ _, _, rfl, d, _, rfl, ow1.gTr, _, rfl, rfl, t, _, rfl, SqL.of ow1.t, fun p np => ?_⟩
     have uq := Same.upd (o := .lst (tr.map V.str).reverse) np
     refine ⟨c, r, y, l, m, a, b, _, _, _, rfl, hc2.same uq, .inl ⟨p, tr.reverse, rfl, by rw [List.map_reverse]; exact A9, fun z hz => st.mem z (List.mem_reverse.mp hz), fun b' H3 x3 nb c3 => ⟨b', fun q o hq => ?_, ?_, rfl⟩⟩⟩
     . exact x3 _ _ (uq _ _ (s2 _ _ hq)) (C6 hq nc)
     . rw [B7j (ws := tr.reverse) st (fun z => List.mem_reverse)] at c3
       exact c3
   rintro σ' H3 ⟨b, s3, hc3, rfl⟩
   exact ⟨_, rfl, k c a b H3 s3 nc hc3⟩
end
abbrev A4c : Stmt := (top 61)
structure CaughtU (K : Frag) (mg : Str -> Option Value) (CT : Addr) : Prop where
 gT : mg "Trapped" = some (.ref CT)
 c : Clause K CT
 sub : subIn K (.ref CT) (.ref CT) = some true
 k : ExcK K CT
 dict : ∃ cd, clsIn K CT = some cd /\ cd.hasDict = true
 nosig : findIn K (.ref CT) "signal" = some none
section
variable {P : Program} {w : World} {K : Frag} {mg : Str -> Option Value} {base : Heap}
theorem J5j {X : Cx} {e : Expr} {f : Str} {pos : Pos} {ta : TE} (hK : X.K = K) (he : PE X e ta) (hb : attributeBase e f X.env (eval e X.env) = eval e X.env) : PE X (.Attribute e f pos) (V4c K ta f) := by
 subst hK
 exact U8a he hb
theorem J3g {X : Cx} {k : Nat} {EH : EK} {x : Str} {p pos : Pos} {i : Nat} (hx : D8 X EH) (hr : Room k X.A) (hN : X.N[i]? = some x) (hv : Vis X.env.scope x) (e1 : X.prog = P) (e2 : X.w = w) (e3 : X.K = K) (e4 : X.mg = mg) (e5 : X.base = base) (hex : X.ex = [] := by rfl) (hd : (x == ("__debug__" : Str)) = false := by decide) (hcd : (x == ("__classdict__" : Str)) = false := by decide) :
   PE X (.Call (.Name x p) [] [] pos) (V4k P w K mg base k i EH) := by
 subst e1 e2 e3 e4 e5
 exact V0q hN hv hr hx hex hd hcd
def Y0f (CN : Addr) (Q : VK) : VK := fun v H1 => ∃ n x, v = .ref n /\ NumIs CN H1 n x /\ ∀ t, H1 t = none -> Q (.ref t) (upd H1 t (.tup (Nm.vs x)))
def Y0h (CT : Addr) (Q : VK) : XK := fun C dd H1 => ∃ d sg, C = .ref CT /\ dd = some d /\ H1 d = some (.xd [("signal", .str sg)]) /\ ∀ t H2, Same H1 H2 -> H1 t = none -> H2 t = some (.tup [.str "trapped", .str sg]) -> Q (.ref t) H2
def C9q (P : Program) (w : World) (K : Frag) (mg : Str -> Option Value) (base : Heap) (k : Nat) (CN CT : Addr) : Sp := fun vs H Q _ => ∃ f J spd, vs = [.ref f] /\ DeedOk P w K mg base k f J spd /\ J H /\
 ∀ (Qd : VK) (Ed : XK), (∀ v H1, Y0f CN Q v H1 -> Qd v H1) -> (∀ C dd H1, Y0h CT Q C dd H1 -> Ed C dd H1) -> spd H Qd Ed
theorem scLTried : FnScope ["_law_deed", "error"] ["_law_deed"] (A3 A4c) := scK
theorem G7t {k : Nat} {f f1 CN CB CT : Addr} {fd fd1 : FuncData} (hk : 2 <= k) (D : Def K mg "_law_tried" ["_law_deed"] A4c f fd) (D_told : Def K mg "told" ["number"] B4r f1 fd1) (G_told : FnOk P w K mg base (CX1 P w) 2 f1 fd1 ["number"] (D3g K CN CB)) (R : CaughtU K mg CT) :
   FnOk P w K mg base (CX1 P w) (k + 1) f fd ["_law_deed"] (C9q P w K mg base k CN CT) := by
 refine D.F.okE scLTried (fun vs H Q E h => ?_) (fun X cdv A outer s H vs Q E hX hr hx h => ?_)
 . obtain ⟨f, J, spd, rfl, _⟩ := h
   rfl
 . subst hX
   obtain ⟨g, J, spd, rfl, DO, hJ, h⟩ := h
   have z2 : 2 <= sizeLine := D5 (by decide)
   refine ⟨_, (B0 (V6v ⟨rfl, rfl, rfl⟩ (by rfl) R.gT R.c scLTried.nd (i := 1) rfl rfl (fun pins Ew EHb hc => (B0 (B9 (C5 (hj := hk) D_told G_told hr hc (A0 (J3g (P := P) (w := w) (K := K) (mg := mg) (base := base) (i := 0) hc hr rfl (.inl rfl) rfl rfl rfl rfl rfl) A8))))) (fun pins a => (B0 (B9 (U5 (A0 B5 (A0 (J5j (K := K) rfl (pv 1) rfl) A8)))))))), ?_⟩
   refine ⟨g, J, _, rfl, DO, hJ, h _ _ (fun v H1 ⟨n, x, ev, num, k⟩ => ?_) (fun C dd H1 ⟨d, sg, eC, ed, e, k⟩ => ?_)⟩
   . subst ev
     exact ⟨_, rfl, .inl ⟨n, _, _, _, _, rfl, num, k⟩⟩
   . subst eC ed
     refine ⟨R.sub, fun a t T na => ?_⟩
     have u := Same.upd (o := .frz (Y9 (.ref CT) t (some d) (.ref T)) (.own a)) na
     have u2 : ∀ p, upd H1 a (.frz (Y9 (.ref CT) t (some d) (.ref T)) (.own a)) p = none -> H1 p = none := fun p np => u.free np
     refine ⟨_, rfl, a, CT, _, _, d, _, _, _, rfl, A9, u _ _ e, R.k, R.dict, R.nosig, rfl, z2, fun p np => ?_⟩
     exact k p _ (u.trans (Same.upd np)) (u2 p np) A9
end
def A9z (k : Str) (s f p : Int) : PyData := .tuple [.str k, .int s, .int f, .int p]
theorem shD {k : Str} (s f p : Int) (h : PyData.strOk k = true) : SeqAt.shaped (A9z k s f p) = true := by
 unfold SeqAt.shaped A9z
 simp [PyData.canLay0, PyData.canLayAll0, PyData.depth, PyData.depthAll, h]
theorem eqD (k : Str) (s f p : Int) : PyData.eqv (A9z k s f p) (A9z k s f p) = true := by
 simp [A9z, PyData.eqv, PyData.eqvAll]
theorem rdD {K : Frag} {H : Hp} {d : Addr} {k : Str} {s f p : Int} (h : H d = some (.tup [.str k, .int s, .int f, .int p])) : RdD K H (.ref d) (A9z k s f p) := .tup (SqT.of h) (.cons (.str _) (.cons (.int _) (.cons (.int _) (.cons (.int _) .nil))))
theorem okK (k : Kd) : PyData.strOk k.str = true := by cases k <;> decide +kernel
def B0v (d : PyData) : Prop := d.showable = true /\ d.depth <= 2 /\ d.shown.length <= 100
theorem C2a : ∀ ds : List PyData, PyData.shownAll ds = ds.map PyData.shown
 | [] => by simp [PyData.shownAll]
 | d :: ds => by simp [PyData.shownAll, C2a ds]
theorem A5x : ∀ {ds : List PyData}, (∀ d ∈ ds, B0v d) -> PyData.showableAll ds = true /\ PyData.depthAll ds <= 3
 | [], _ => by simp [PyData.showableAll, PyData.depthAll]
 | d :: ds, h => by
   obtain ⟨a, b⟩ := A5x (ds := ds) fun d' h' => h d' (List.mem_cons_of_mem _ h')
   obtain ⟨c, e, _⟩ := h d List.mem_cons_self
   constructor
   . simp [PyData.showableAll, a, c]
   . simp only [PyData.depthAll]
     omega
theorem V5k {ds : List PyData} (h : ∀ d ∈ ds, B0v d) : ((ds.map PyData.shown).map (fun x => x.length)).sum <= 100 * ds.length := by
 induction ds with
 | nil => simp
 | cons d ds ih =>
   have := ih fun d' h' => h d' (List.mem_cons_of_mem _ h')
   have := (h d List.mem_cons_self).2.2
   simp only [List.map_cons, List.sum_cons, List.length_cons]
   omega
theorem J3v {ds : List PyData} (h : ∀ d ∈ ds, B0v d) (hl : ds.length <= 5) : A4d (.tuple ds) := by
 obtain ⟨a, b⟩ := A5x h
 refine ⟨by simpa [PyData.showable] using a, by simp only [PyData.depth]; omega, ?_⟩
 have h1 := tupleText_len_le (ds.map PyData.shown)
 have h2 := V5k h
 rw [PyData.shown, C2a]
 refine D5 ?_
 rw [List.length_map] at h1
 omega
theorem C1g {i : Int} (h : i.natAbs < 10 ^ 61) : B0v (.int i) := by
 refine ⟨?_, by simp [PyData.depth], ?_⟩
 . simp only [PyData.showable, decide_eq_true_eq]
   have h0 : i.natAbs < 2 ^ 300 := Nat.lt_of_lt_of_le h (by decide +kernel)
   have h1 := Nat.log2_lt (n := i.natAbs) (k := 300)
   by_cases z : i.natAbs = 0
   . rw [z]; decide +kernel
   . exact Nat.lt_trans ((h1 z).mpr h0) (by decide)
 . have := int_text_length_le10 (a := i) (k := 61) (by decide) h
   simp only [PyData.shown]
   rw [PySem.ofString_length]
   omega
theorem V4d (k : Kd) : B0v (.str k.str) := by
 cases k <;> exact ⟨by simp [PyData.showable], by simp [PyData.depth], by decide +kernel⟩
theorem Y0j {z : Str} (h : z ∈ sigS) : B0v (.str z) := by
 have : ∀ z ∈ sigS, (PyData.shown (.str z)).length <= 100 := by decide +kernel
 exact ⟨by simp [PyData.showable], by simp [PyData.depth], this z h⟩
theorem Y1a {x : Nm} (ok : x.Ok) : A4d (A9z x.k.str x.s x.f x.p) := J3v (fun d hd => by
 have h60 : (10 : Int) ^ 60 < 10 ^ 61 := by decide +kernel
 have q1 := ok.s0; have q2 := ok.s1; have q3 := ok.f0; have q4 := ok.f1; have q5 := ok.p0; have q6 := ok.p1
 simp only [List.mem_cons, List.not_mem_nil, or_false] at hd
 rcases hd with rfl | rfl | rfl | rfl
 . exact V4d _
 . exact C1g (Nat.lt_of_le_of_lt (by omega : x.s.natAbs <= 1) (by decide +kernel))
 . exact C1g (Nat.lt_of_lt_of_le (by omega : x.f.natAbs < 10 ^ 60) (by decide +kernel))
 . exact C1g (Nat.lt_of_le_of_lt (by omega : x.p.natAbs <= 200) (by decide +kernel))) (by show 4 <= 5; decide)
theorem B4v {x : Nm} (h1 : x.s.natAbs < 10 ^ 61) (h2 : x.f.natAbs < 10 ^ 61) (h3 : x.p.natAbs < 10 ^ 61) : A4d (A9z x.k.str x.s x.f x.p) := J3v (fun d hd => by
 simp only [List.mem_cons, List.not_mem_nil, or_false] at hd
 rcases hd with rfl | rfl | rfl | rfl
 . exact V4d _
 . exact C1g h1
 . exact C1g h2
 . exact C1g h3) (by show 4 <= 5; decide)
theorem V5g {z : Str} (h : z ∈ sigS) : A4d (.tuple [.str "trapped", .str z]) := J3v (fun d hd => by
 simp only [List.mem_cons, List.not_mem_nil, or_false] at hd
 rcases hd with rfl | rfl
 . exact ⟨by simp [PyData.showable], by simp [PyData.depth], by decide +kernel⟩
 . exact Y0j h) (by show 2 <= 5; decide)
abbrev A1u : Stmt := (top 62)
def Exc2 (c d : Addr) (H H' : Hp) : Prop := ∀ b o, H b = some o -> b ≠ c -> b ≠ d -> H' b = some o
theorem Exc2.trans {c d : Addr} {H H1 H2 : Hp} (a : Exc2 c d H H1) (b : Exc2 c d H1 H2) : Exc2 c d H H2 := fun x o h n m => b x o (a x o h n m) n m
theorem Exc2.l {c d : Addr} {H H' : Hp} (a : Exc c H H') : Exc2 c d H H' := fun x o h n _ => a x o h n
theorem Exc2.r {c d : Addr} {H H' : Hp} (a : Exc d H H') : Exc2 c d H H' := fun x o h _ n => a x o h n
theorem Exc2.s {c d : Addr} {H H' : Hp} (a : Same H H') : Exc2 c d H H' := fun x o h _ _ => a x o h
theorem CtxAt.exc {CC c a b p : Addr} {H H' : Hp} {r l m : Int} {y : Wy} {xs ys : List V} (h : CtxAt CC H c r y l m a b xs ys) (x : Exc p H H') (h1 : c ≠ p) (h2 : a ≠ p) (h3 : b ≠ p) : CtxAt CC H' c r y l m a b xs ys := by
 obtain ⟨⟨dx, e⟩, ha, hb⟩ := h
 exact ⟨⟨dx, x _ _ e h1⟩, x _ _ ha h2, x _ _ hb h3⟩
theorem V4y (up zs : List Str) : (sigS.filter fun z => up.contains z || (Y4 zs).contains z) = Y4 (up ++ zs) := by
 unfold Y4
 refine List.filter_congr fun z hz => ?_
 rw [Bool.eq_iff_iff]
 simp [List.mem_filter, hz]
theorem D3c {tr zs : List Str} (h : SubS tr) : ((Y4 zs).filter fun z => tr.contains z).head? = hit tr zs := by
 obtain ⟨p, rfl⟩ := h
 unfold hit Y4
 rw [<- List.head?_filter, List.filter_filter, List.filter_filter]
 congr 1
 refine List.filter_congr fun z hz => ?_
 rw [Bool.eq_iff_iff]
 simp [List.mem_filter, hz]
 exact And.comm
theorem V0p (z : Str) (zs : List Str) : PyData.eqv (rdS (z :: zs)) (rdS []) = false := by
 simp [rdS, PyData.eqv, PyData.eqvAll]
theorem G7u {K : Frag} {H : Hp} {σ σf : L2.St} {a : Addr} {zs : List Str} {f : Str -> Bool} {tc : TT} {te : TE} {Q : VK} {i : Nat} (hi : σ[i]? = some (some (.ref a))) (hl : SqL K H a (zs.map V.str)) (hz : zs.length <= 100)
   (ht : ∀ (z : Str) (H' : Hp) (Qb : Bool -> Hp -> Prop), Same H H' -> Qb (f z) H' -> tc (some (.str z) :: σf) H' Qb) (he : ∀ (z : Str) (H' : Hp) (Qv : VK), Qv (.str z) H' -> te (some (.str z) :: σf) H' Qv)
   (k : ∀ D H', Same H H' -> H D = none -> H' D = some (.lst ((zs.filter f).map V.str)) -> Q (.ref D) H') {js : List Nat} (hj : A5e js σ = σf) : A5f 1 js (G4y K (V6t i)) (C2j 0) tc te σ H Q :=
 ⟨.ref a, hi, J4e (tc := tc) (te := te) (Q := Q) (js := js) (σ := σ) hl hz ht he k hj⟩
section
variable {P : Program} {w : World} {K : Frag} {mg : Str -> Option Value} {base : Heap}
def J2k (CN CC CT c : Addr) (r : Int) (y : Wy) (l m : Int) (b : Addr) (up tr zs : List Str) (x : Nm) (spd : Hp -> VK -> XK -> Prop) (H' : Hp) : Prop := ∀ (Qd : VK) (Ed : XK),
 (∀ n a' H1, hit tr zs = none -> Exc c H' H1 -> CtxAt CC H1 c r y l m a' b ((Y4 (up ++ zs)).map V.str) (tr.map V.str) -> NumIs CN H1 n x -> Qd (.ref n) H1) ->
 (∀ sg d' a' H1, hit tr zs = some sg -> Exc c H' H1 -> CtxAt CC H1 c r y l m a' b ((Y4 (up ++ zs)).map V.str) (tr.map V.str) -> H1 d' = some (.xd [("signal", .str sg)]) -> Ed (.ref CT) (some d') H1) -> spd H' Qd Ed
def B0h (P : Program) (w : World) (K : Frag) (mg : Str -> Option Value) (base : Heap) (k : Nat) (CN CC CT : Addr) : Sp := fun vs H Q _ => ∃ c d g q dt dl a b u t r y l m, ∃ (up tr zs : List Str) (x : Nm) (J : Hp -> Prop) (spd : Hp -> VK -> XK -> Prop), vs = [.ref c, .ref d, .ref g, .ref q] /\
 CtxAt CC H c r y l m a b (up.map V.str) (tr.map V.str) /\ OwnAt H d u t r y l m up tr /\ SubS up /\ SubS tr /\ H q = some (.tup [.ref dt, .ref dl]) /\ H dt = some (.tup (Nm.vs x)) /\ H dl = some (.lst (zs.map V.str)) /\ zs.length <= 100 /\ A4d (A9z x.k.str x.s x.f x.p) /\ DeedOk P w K mg base k g J spd /\
 (∀ H', Exc d H H' -> J H') /\ (∀ H', Exc d H H' -> CtxAt CC H' c r y l m a b (up.map V.str) (tr.map V.str) -> J2k CN CC CT c r y l m b up tr zs x spd H') /\
 ∀ a' u' H', Exc2 c d H H' -> CtxAt CC H' c r y l m a' b ((Y4 (up ++ zs)).map V.str) (tr.map V.str) -> OwnAt H' d u' t r y l m (Y4 (up ++ zs)) tr -> Q (.bl true) H'
theorem scLStands : FnScope ["_law_context_here", "_law_own_here", "_law_deed", "_law_due_here", "_law_signals", "_law_caught", "_law_wanted", "_law_found"] ["_law_context_here", "_law_own_here", "_law_deed", "_law_due_here"] (A3 A1u) := scK
theorem D4m {k : Nat} {f f1 CN CC CT aS : Addr} {fd fd1 : FuncData} (D : Def K mg "_law_stands" ["_law_context_here", "_law_own_here", "_law_deed", "_law_due_here"] A1u f fd) (D_l_tried : Def K mg "_law_tried" ["_law_deed"] A4c f1 fd1) (G_l_tried : FnOk P w K mg base (CX1 P w) (k + 1) f1 fd1 ["_law_deed"] (C9q P w K mg base k CN CT))
   (C : CtxC K mg CC) (MF : Has P w K mg base CC "flags" 1 ["self"] (A8f CC)) (SG : SigK K mg aS) (O : Own mg) : FnOkG P w K mg base (CX1 P w) (k + 2) f fd ["_law_context_here", "_law_own_here", "_law_deed", "_law_due_here"] (B0h P w K mg base k CN CC CT) := by
 refine D.F.okEG scLStands (fun vs H Q E h => ?_) (fun X cdv A outer s H vs Q E hX HG hr hx h => ?_)
 . obtain ⟨c, d, g, q, dt, dl, a, b, u, t, r, y, l, m, up, tr, zs, x, J, spd, rfl, _⟩ := h
   rfl
 . subst hX
   obtain ⟨c, d, g, q, dt, dl, a, b, u, t, r, y, l, m, up, tr, zs, x, J, spd, rfl, hc, ow, su, st, eq, et, el, lz, ok, DO, hJ, hD, k⟩ := h
   obtain ⟨ff, fdf, mf, gf, bf⟩ := MF
   have HU := Nat.lt_of_le_of_lt (Nat.add_le_add_left (by decide : 1 <= 64) _) hr.units
   refine ⟨_, (A7 (C4 (C8 (i := 4) scLStands.nd rfl (Or.inr rfl) (B7k (N := ["_law_name"]) (F := ["_law_due_here"]) (js := [3]) (CompScopeF.of1 ⟨rfl, by decide +kernel, by decide +kernel, by decide +kernel, by decide +kernel⟩ (by rfl) (by rfl) ⟨_, by rfl⟩ (by rfl) (by rfl)) (.inl hr.hd) (C3x (J3n SG.g)) rfl (fun C s₀ H₀ ex pn h => V3 (i := 0) (by decide +kernel : (["_law_name", "_law_due_here"] : List Str).Nodup) rfl (Or.inl rfl)) (fun C s₀ H₀ ex pn h => (C0 (A1p (K := K) rfl) (pv 0) (J9 (V0s (K := K) rfl) (pv 1) A1 (fun _ _ => rfl)) (by rfl))) (fun C s₀ H₀ ex pn h => (pv 0)))))
     (A7 (C4 (A3p HU (pv 1) B5 (B7k (N := ["_law_name"]) (F := ["_law_signals", "_law_own_here"]) (js := [4, 1]) (CompScopeF.of2 ⟨rfl, by decide +kernel, by decide +kernel, by decide +kernel, by decide +kernel⟩ (by rfl) (by rfl) ⟨_, by rfl⟩ (by rfl) (by rfl) (by rfl) ⟨_, by rfl⟩ (by rfl) (by rfl)) (.inl hr.hd) (C3x (J3n SG.g)) rfl (fun C s₀ H₀ ex pn h => V3 (i := 0) (by decide +kernel : (["_law_name", "_law_signals", "_law_own_here"] : List Str).Nodup) rfl (Or.inl rfl)) (fun C s₀ H₀ ex pn h => (PW.pt (C1k (C0 (A1p (K := K) rfl) (pv 0) (G3 HU (pv 2) B5 (fun _ _ => rfl)) (by rfl)) (B0x (C0 (A1p (K := K) rfl) (pv 0) (pv 1) (by rfl)))))) (fun C s₀ H₀ ex pn h => (pv 0))) (by rfl)))
     (A7 (C4 (J4c (i := 5) (N := ["_law_name"]) (F := ["_law_own_here"]) (js := [1]) (CompScopeF.of1 ⟨rfl, by decide +kernel, by decide +kernel, by decide +kernel, by decide +kernel⟩ (by rfl) (by rfl) ⟨_, by rfl⟩ (by rfl) (by rfl)) (.inl hr.hd) (J4b (pv 4)) rfl (fun C s₀ H₀ ex pn h => V3 (i := 0) (by decide +kernel : (["_law_name", "_law_own_here"] : List Str).Nodup) rfl (Or.inl rfl)) (fun C s₀ H₀ ex pn h => (C0 (A1p (K := K) rfl) (pv 0) (G3 HU (pv 1) B5 (fun _ _ => rfl)) (by rfl))) (fun C s₀ H₀ ex pn h => (pv 0)) scLStands.nd rfl (Or.inl rfl)))
     (A7 (C4 (C8 (i := 6) scLStands.nd rfl (Or.inl rfl) (A1w (C0 (C3s hr.units) (pv 5) (Y2 A8) (C7 _)) (J9 U4 (pv 3) A1 (fun _ _ => rfl)) (U5 (A0 B5 (A0 (J9 A0k (pv 5) A1 (fun _ _ => rfl)) A8))))))
     (A7 (C4 (C8 (i := 7) scLStands.nd rfl (Or.inl rfl) (C5 (hj := Nat.le_refl _) D_l_tried G_l_tried hr hx (A0 (pv 2) A8))))
     (B0 (B9 (C3n (A0n (C3s hr.units) (pv 7) (pv 6) (C7 _)) (C3n (A0n G4 (V0 (C1x HG hr.units) (by rfl) O.str_ boot_str (A0 (pv 7) A8)) (V0 (C1x HG hr.units) (by rfl) O.str_ boot_str (A0 (pv 6) A8)) (C7 _)) (D3v (A0n (C3s hr.units) (A5k (hj := Nat.succ_le_succ (Nat.zero_le _)) (pv 0) C.cl mf gf hr bf .nil hx) (G3 HU (pv 1) B5 (fun _ _ => rfl)) (C7 _)))))))))))), ?_⟩
   have z0 : 0 <= sizeLine := D5 (by decide)
   have z2 : 2 <= sizeLine := D5 (by decide)
   obtain ⟨dx, ec⟩ := hc.ins
   have ncd : c ≠ d := J1 ec ow.d (by intro z; cases z)
   have nad : a ≠ d := J1 hc.ha ow.d (by intro z; cases z)
   have nbd : b ≠ d := J1 hc.hb ow.d (by intro z; cases z)
   have nud : u ≠ d := J1 ow.u ow.d (by intro z; cases z)
   have ntd : t ≠ d := J1 ow.t ow.d (by intro z; cases z)
   have nqd : q ≠ d := J1 eq ow.d (by intro z; cases z)
   have nTd : dt ≠ d := J1 et ow.d (by intro z; cases z)
   have nqc : q ≠ c := J1 eq ec (by intro z; cases z)
   have nTc : dt ≠ c := J1 et ec (by intro z; cases z)
   have ix0 : atI [V.ref dt, .ref dl] 0 = some (.ref dt) := J0 (j := 0) rfl
   have ix1 : atI [V.ref dt, .ref dl] 1 = some (.ref dl) := J0 (j := 1) rfl
   refine ⟨fun σ' H' => ∃ s1, Same H H' /\ H s1 = none /\ H' s1 = some (.lst ((Y4 zs).map V.str)) /\ σ' = [some (.ref c), some (.ref d), some (.ref g), some (.ref q), some (.ref s1), none, none, none], ?_, ?_⟩
   . refine B6n (zs := sigS) (f := fun z => zs.contains z) (σf := [some (.ref q)]) SG.sq (by decide) (fun z H' Qb sm qq => ?_) (fun z H' Qv qq => ⟨_, rfl, qq⟩) (fun D H' sm nd e => ⟨D, sm, nd, e, rfl⟩) rfl
     refine ⟨_, rfl, _, rfl, q, _, _, _, rfl, rfl, SqT.of (sm _ _ eq), ix1, dl, _, rfl, .inl (SqL.of (sm _ _ el)), rfl, Y0 _, _, rfl, ?_⟩
     show Qb (inV (.str z) (zs.map V.str)) H'
     rw [Z5]
     exact qq
   rintro σ' H1 ⟨s1, sm1, n1, e1, rfl⟩
   have ow1 := ow.same sm1
   refine ⟨fun σ' H' => ∃ u', Exc d H H' /\ H' s1 = some (.lst ((Y4 zs).map V.str)) /\ s1 ≠ d /\ u' ≠ d /\ H u' = none /\ OwnAt H' d u' t r y l m (Y4 (up ++ zs)) tr /\ σ' = [some (.ref c), some (.ref d), some (.ref g), some (.ref q), some (.ref s1), none, none, none], ?_, ?_⟩
   . refine B6n (zs := sigS) (f := fun z => up.contains z || (Y4 zs).contains z) (σf := [some (.ref s1), some (.ref d)]) SG.sq (by decide) (fun z H' Qb sm qq => ?_) (fun z H' Qv qq => ⟨_, rfl, qq⟩) (fun D H' sm nd e => ?_) rfl
     . have o2 := ow1.same sm
       refine ⟨_, rfl, _, rfl, d, _, rfl, o2.gUp, u, _, rfl, .inl (SqL.of o2.u), rfl, Y0 _, _, rfl, ?_⟩
       rw [Z5]
       cases hz : up.contains z with
       | true => rw [hz] at qq; exact A1n qq
       | false =>
         rw [hz] at qq
         refine Z2 ⟨_, rfl, _, rfl, s1, _, rfl, .inl (SqL.of (sm _ _ e1)), rfl, Y0 _, _, rfl, ?_⟩
         rw [Z5]
         exact qq
     . have o2 := ow1.same sm
       rw [V4y] at e
       refine ⟨_, rfl, d, _, rfl, DPut.k (k := .inr "up") o2.d (G7 (by show 7 <= 1000; decide)), ?_⟩
       have nDd : D ≠ d := Ne.symm (C6 ow1.d nd)
       have ns1d : s1 ≠ d := J1 e1 ow1.d (by intro z; cases z)
       rw [Y4u]
       refine ⟨D, fun p o hp np => ?_, by rw [B3 ns1d]; exact sm _ _ e1, ns1d, nDd, sm1.free nd, ⟨A9, by rw [B3 nDd]; exact e, by rw [B3 ntd]; exact o2.t⟩, rfl⟩
       rw [B3 np]
       exact sm _ _ (sm1 _ _ hp)
   rintro σ' H2 ⟨u', x2, e1, n1d, nu'd, nu', ow2, rfl⟩
   refine ⟨fun σ' H' => ∃ s2, Same H2 H' /\ H' s2 = some (.lst (((Y4 zs).filter fun z => tr.contains z).map V.str)) /\ σ' = [some (.ref c), some (.ref d), some (.ref g), some (.ref q), some (.ref s1), some (.ref s2), none, none], ?_, ?_⟩
   . refine G7u (zs := Y4 zs) (f := fun z => tr.contains z) (σf := [some (.ref d)]) rfl (SqL.of e1) (Nat.le_trans (List.length_filter_le _ _) (by decide)) (fun z H' Qb sm qq => ?_) (fun z H' Qv qq => ⟨_, rfl, qq⟩) (fun D H' sm nd e => ⟨D, sm, e, rfl⟩) rfl
     have o2 := ow2.same sm
     refine ⟨_, rfl, _, rfl, d, _, rfl, o2.gTr, t, _, rfl, .inl (SqL.of o2.t), rfl, Y0 _, _, rfl, ?_⟩
     rw [Z5]
     exact qq
   rintro σ' H3 ⟨s2, sm3, e2, rfl⟩
   have x3 : Exc d H H3 := x2.trans (.of sm3)
   have hh := D3c (zs := zs) st
   have hm : ∀ z ∈ (Y4 zs).filter fun z => tr.contains z, z ∈ sigS := fun z hz => (List.mem_filter.mp (List.mem_filter.mp hz).1).1
   have okC : OkL ((Y4 zs).filter fun z => tr.contains z) := ⟨Nat.le_trans (List.length_filter_le _ _) (Nat.le_trans (List.length_filter_le _ _) (by decide)), fun z hz => G4d z (hm z hz)⟩
   refine ⟨fun σ' H' => ∃ wd, Same H3 H' /\ ((hit tr zs = none /\ wd = dt) \/ ∃ sg, hit tr zs = some sg /\ sg ∈ sigS /\ H' wd = some (.tup [.str "trapped", .str sg])) /\ σ' = [some (.ref c), some (.ref d), some (.ref g), some (.ref q), some (.ref s1), some (.ref s2), some (.ref wd), none], ?_, ?_⟩
   . generalize (Y4 zs).filter (fun z => tr.contains z) = cs at e2 hh hm okC
     refine ⟨_, rfl, z0, fun p np => ?_⟩
     have up := Same.upd (o := .lst []) np
     refine ⟨rdS cs, rdS [], B0q (up _ _ e2), B0q A9, shS okC, shS ⟨by decide, by simp⟩, PyData.eqv (rdS cs) (rdS []), rfl, ?_⟩
     cases cs with
     | nil =>
       rw [V6x]
       refine A1n ⟨_, rfl, q, _, _, _, rfl, rfl, SqT.of (up _ _ (sm3 _ _ (x2 _ _ eq nqd))), ix0, ?_⟩
       exact ⟨dt, up, .inl ⟨hh.symm, rfl⟩, rfl⟩
     | cons z cs =>
       rw [V0p]
       refine Z2 ⟨_, rfl, s2, _, _, _, rfl, rfl, SqL.of (up _ _ e2), J0 (j := 0) rfl, z2, fun v nv => ?_⟩
       exact ⟨v, up.trans (Same.upd nv), .inr ⟨z, hh.symm, hm z List.mem_cons_self, A9⟩, rfl⟩
   rintro σ' H4 ⟨wd, sm4, hw, rfl⟩
   have x4 : Exc d H H4 := x3.trans (.of sm4)
   have c4 := hc.exc x4 ncd nad nbd
   have ow4 := (ow2.same sm3).same sm4
   have et4 := x4 _ _ et nTd
   obtain ⟨dx4, ec4⟩ := c4.ins
   have ndc : d ≠ c := Ne.symm ncd
   have nuc : u' ≠ c := J1 ow4.u ec4 (by intro z; cases z)
   have ntc : t ≠ c := J1 ow4.t ec4 (by intro z; cases z)
   refine ⟨fun σ' H' => ∃ fo a' dd, Exc2 c d H H' /\ CtxAt CC H' c r y l m a' b ((Y4 (up ++ zs)).map V.str) (tr.map V.str) /\ OwnAt H' d u' t r y l m (Y4 (up ++ zs)) tr /\ RdD K H' (.ref fo) dd /\ RdD K H' (.ref wd) dd /\ RdR H' (.ref fo) dd /\ RdR H' (.ref wd) dd /\ SeqAt.shaped dd = true /\ PyData.eqv dd dd = true /\ A4d dd /\
     σ' = [some (.ref c), some (.ref d), some (.ref g), some (.ref q), some (.ref s1), some (.ref s2), some (.ref wd), some (.ref fo)], ?_, ?_⟩
   . refine ⟨_, rfl, g, J, spd, rfl, DO, hJ H4 x4, fun Qd Ed hQ hE => hD H4 x4 c4 Qd Ed (fun n a' H5 hn x5 c5 num => hQ _ _ ⟨n, x, rfl, num, fun p np => ?_⟩) (fun sg d' a' H5 hs x5 c5 ed => hE _ _ _ ⟨d', sg, rfl, rfl, ed, fun p H6 sm6 np e6 => ?_⟩)⟩
     . have hwd : wd = dt := by
         rcases hw with ⟨_, h⟩ | ⟨sg, h, _⟩
         . exact h
         . rw [hn] at h; cases h
       subst hwd
       have u6 := Same.upd (o := .tup (Nm.vs x)) np
       have et6 := u6 _ _ (x5 _ _ et4 nTc)
       refine ⟨p, a', A9z x.k.str x.s x.f x.p, (Exc2.r x4).trans ((Exc2.l x5).trans (.s u6)), c5.same u6, (ow4.exc x5 ndc nuc ntc).same u6, rdD A9, rdD et6, .tup A9 (.cons (.str _) (.cons (.int _) (.cons (.int _) (.cons (.int _) .nil)))), .tup et6 (.cons (.str _) (.cons (.int _) (.cons (.int _) (.cons (.int _) .nil)))), shD _ _ _ (okK _), eqD _ _ _ _, ok, rfl⟩
     . obtain ⟨sg', h1, h2, h3⟩ : ∃ sg, hit tr zs = some sg /\ sg ∈ sigS /\ H4 wd = some (.tup [.str "trapped", .str sg]) := by
         rcases hw with ⟨h, _⟩ | h
         . rw [hs] at h; cases h
         . exact h
       rw [hs] at h1
       cases h1
       have nwc : wd ≠ c := J1 h3 ec4 (by intro z; cases z)
       have e7 := sm6 _ _ (x5 _ _ h3 nwc)
       have shT : SeqAt.shaped (.tuple [.str "trapped", .str sg]) = true := by
         unfold SeqAt.shaped
         simp [PyData.canLay0, PyData.canLayAll0, PyData.depth, PyData.depthAll, G4d sg h2, (by decide +kernel : PyData.strOk "trapped" = true)]
       refine ⟨p, a', .tuple [.str "trapped", .str sg], (Exc2.r x4).trans ((Exc2.l x5).trans (.s sm6)), c5.same sm6, (ow4.exc x5 ndc nuc ntc).same sm6, .tup (SqT.of e6) (.cons (.str _) (.cons (.str _) .nil)), .tup (SqT.of e7) (.cons (.str _) (.cons (.str _) .nil)), .tup e6 (.cons (.str _) (.cons (.str _) .nil)), .tup e7 (.cons (.str _) (.cons (.str _) .nil)), shT, ?_, V5g h2, rfl⟩
       simp [PyData.eqv, PyData.eqvAll]
   rintro σ' H5 ⟨fo, a', dd, x5, c5, ow5, r1, r2, q1, q2, sh, ee, so, rfl⟩
   refine ⟨_, rfl, _, rfl, dd, dd, r1, r2, sh, sh, true, (by show V.bl (PyData.eqv dd dd) = _; rw [ee]), A1n ?_⟩
   refine ⟨_, rfl, fo, dd, rfl, q1, so, _, rfl, wd, dd, rfl, q2, so, rfl, _, rfl, B6h rfl ?_⟩
   obtain ⟨dx5, ec5⟩ := c5.ins
   refine ⟨_, rfl, c, dx5, _, rfl, ec5, C4q _ _ _ _ _ _, c, r, y, l, m, a', b, _, _, rfl, c5, fun p np => ?_⟩
   have u6 := Same.upd (o := .lst ((Y4 (up ++ zs)).map V.str)) np
   have ow6 := ow5.same u6
   have okU : OkL (Y4 (up ++ zs)) := (J5t _).ok
   refine ⟨_, rfl, d, _, rfl, ow6.gUp, rdS (Y4 (up ++ zs)), rdS (Y4 (up ++ zs)), B0q A9, B0q ow6.u, shS okU, shS okU, ?_⟩
   show Q (.bl (PyData.eqv (rdS (Y4 (up ++ zs))) (rdS (Y4 (up ++ zs))))) _
   rw [V6x]
   exact k a' u' _ (x5.trans (.s u6)) (c5.same u6) ow6
end
theorem V0w (n : Nat) (h : 1 <= n) : ∃ L : Nat, 10 ^ L <= n /\ n < 10 ^ (L + 1) := by
 induction n using Nat.strongRecOn with
 | ind n ih =>
   by_cases h10 : n < 10
   . exact ⟨0, by simpa using h, by simpa using h10⟩
   . obtain ⟨L, a, b⟩ := ih (n / 10) (by omega) (by omega)
     refine ⟨L + 1, ?_, ?_⟩
     . rw [Nat.pow_succ]; omega
     . rw [Nat.pow_succ]; omega
theorem G4u {n j : Nat} (h1 : n < 10 ^ (j + 1)) (h2 : 10 ^ j <= n) : A7z (n : Int) = (j : Int) + 1 := by
 unfold A7z
 have e : (Str.ofString (toString (n : Int))).length = (Nat.toDigits 10 n).length := by
   have := congrArg List.length (KIN.signs_num n)
   rw [List.length_map] at this
   rw [<- this]; rfl
 rw [e]
 have a : (Nat.toDigits 10 n).length <= j + 1 := digits10_le (by omega) h1
 have b : j + 1 <= (Nat.toDigits 10 n).length := digits10_ge h2
 omega
abbrev A1d : Stmt := (top 63)
abbrev A3x : Stmt := (top 64)
abbrev A5m : Stmt := (top 65)
def G6 (r M : Int) : Int := Y1 0 (A7z M - r)
def D0 (r l : Int) : Int := l - r + 1
def Z9 (r l s M : Int) : Nm := ⟨.plain, s, M / A6 (G6 r M), D0 r l + G6 r M⟩
def U9 (r l m : Int) : Int := (A6 r - 1) * A6 (m - l)
def U2 (r l f p : Int) : Int := f * A6 (p - D0 r l) / A6 (D0 r l - p)
def A3b (r l f p : Int) : Bool := decide (f * A6 (p - D0 r l) % A6 (D0 r l - p) > 0)
theorem C9j (e : Int) : A6 (Y1 0 e) = A6 e := by
 unfold A6 Y1
 congr 2
 split <;> omega
theorem B5k {e : Int} (h : e <= 1500) : 0 < A6 e /\ (A6 e).natAbs.log2 < 9000 := by
 refine ⟨B8 _, ?_⟩
 have := J4y (b := 1) (s := e) A5s h
 rw [Int.one_mul] at this
 exact this
theorem C4b {M : Int} (h1 : M < A6 400) (h0 : 0 <= M) : A7z M <= 401 /\ 0 <= A7z M /\ M.natAbs.log2 < 1920 := by
 have e : M.natAbs < 10 ^ 400 := by
   have : A6 400 = ((10 ^ 400 : Nat) : Int) := rfl
   omega
 have a := int_text_length_le10 (a := M) (k := 400) (by decide) e
 refine ⟨?_, ?_, ?_⟩
 . unfold A7z
   rw [PySem.ofString_length]
   omega
 . unfold A7z
   omega
 . by_cases z : M.natAbs = 0
   . rw [z]; decide +kernel
   . exact Nat.lt_trans ((Nat.log2_lt (k := 1500) z).mpr (Nat.lt_of_lt_of_le e (by decide +kernel))) (by decide)
section
variable {P : Program} {w : World} {K : Frag} {mg : Str -> Option Value} {base : Heap}
theorem tn {e : Int} (h0 : 0 <= e) : [V.int e] ++ [] = [V.int (e.toNat : Int)] := by rw [Int.toNat_of_nonneg h0]; rfl
def B0b : Sp := fun vs H Q _ => ∃ d u t r y l m up tr, ∃ s M : Int, vs = [.ref d, .int s, .int M] /\ OwnAt H d u t r y l m up tr /\ FrameOk r l m /\ 0 <= M /\ M < A6 400 /\ ∀ p, H p = none -> Q (.ref p) (upd H p (.tup (Z9 r l s M).vs))
theorem scLShown : FnScope ["_law_own_here", "_law_sign", "_law_many", "_law_cut"] ["_law_own_here", "_law_sign", "_law_many"] (A3 A1d) := scK
theorem G8c {f f1 : Addr} {fd fd1 : FuncData} (D : Def K mg "_law_shown" ["_law_own_here", "_law_sign", "_law_many"] A1d f fd) (D_l_ten : Def K mg "_law_ten" ["_law_count"] A3a f1 fd1) (G_l_ten : FnOk P w K mg base (CX1 P w) 1 f1 fd1 ["_law_count"] A5p) (O : Own mg) :
   FnOk P w K mg base (CX1 P w) 2 f fd ["_law_own_here", "_law_sign", "_law_many"] B0b := by
 refine D.F.okE scLShown (fun vs H Q E h => ?_) (fun X cdv A outer s H vs Q E hX hr hx h => ?_)
 . obtain ⟨d, u, t, r, y, l, m, up, tr, s, M, rfl, _⟩ := h
   rfl
 . subst hX
   obtain ⟨d, u, t, r, y, l, m, up, tr, s, M, rfl, ow, fr, m0, m1, k⟩ := h
   have HU := Nat.lt_of_le_of_lt (Nat.add_le_add_left (by decide : 1 <= 64) _) hr.units
   refine ⟨_, (A7 (C8 (i := 3) scLShown.nd rfl (Or.inl rfl) (U0 (Y6 rfl) (by rfl) O.max_ boot_max (A0 A1 (A0 (B1 D9 (U0 A1f (by rfl) O.len_ PySem.boot_len (A0 (V0 A1c (by rfl) O.str_ boot_str (A0 (pv 2) A8)) A8)) (G3 HU (pv 0) B5 (fun _ _ => rfl))) A8))))
     (B0 (B9 (U5 (A0 B5 (A0 (pv 1) (A0 (B1 D3 (pv 2) (C5 D_l_ten G_l_ten hr hx (A0 (pv 3) A8))) (A0 (B1 G8 (G3 HU (pv 0) B5 (fun _ _ => rfl)) (pv 3)) A8)))))))), ?_⟩
   obtain ⟨f1, f2, f3⟩ := C4b m1 m0
   have z4 : 4 <= sizeLine := D5 (by decide)
   have r1 := fr.r1
   refine ⟨_, rfl, M, rfl, f3, _, rfl, int_text_fits f3, _, rfl, d, _, rfl, ow.gRoom, _, _, rfl, rfl, _, _, rfl, ?_⟩
   show D3m _ _ _ [some (V.ref d), some (V.int s), some (V.int M), some (V.int (G6 r M))] H
   have c0 : 0 <= G6 r M := by unfold G6 Y1; split <;> omega
   have c1 : G6 r M <= 401 := by unfold G6 Y1; split <;> omega
   refine ⟨_, rfl, _, rfl, _, rfl, _, tn c0, by omega, ?_⟩
   exact ⟨_, _, rfl, rfl, B5k (by omega), _, rfl, d, _, rfl, ow.gLowest, _, rfl, _, _, rfl, rfl, z4, k⟩
def C3y : Sp := fun vs H Q _ => ∃ d u t r y l m up tr q x, vs = [.ref d, .ref q] /\ OwnAt H d u t r y l m up tr /\ FrameOk r l m /\ H q = some (.tup (Nm.vs x)) /\ x.Ok /\ ∀ p H', Same H H' -> H' p = some (.tup [.int (U2 r l x.f x.p), .bl (A3b r l x.f x.p)]) -> Q (.ref p) H'
theorem scLGrid : FnScope ["_law_own_here", "_law_one", "_law_wide", "_law_top", "_law_whole", "_law_left"] ["_law_own_here", "_law_one"] (A3 A5m) := scK
theorem J2u {f f1 : Addr} {fd fd1 : FuncData} (D : Def K mg "_law_grid" ["_law_own_here", "_law_one"] A5m f fd) (D_l_ten : Def K mg "_law_ten" ["_law_count"] A3a f1 fd1) (G_l_ten : FnOk P w K mg base (CX1 P w) 1 f1 fd1 ["_law_count"] A5p) (O : Own mg) :
   FnOk P w K mg base (CX1 P w) 2 f fd ["_law_own_here", "_law_one"] C3y := by
 refine D.F.okE scLGrid (fun vs H Q E h => ?_) (fun X cdv A outer s H vs Q E hX hr hx h => ?_)
 . obtain ⟨d, u, t, r, y, l, m, up, tr, q, x, rfl, _⟩ := h
   rfl
 . subst hX
   obtain ⟨d, u, t, r, y, l, m, up, tr, q, x, rfl, ow, fr, eq, ok, k⟩ := h
   have HU := Nat.lt_of_le_of_lt (Nat.add_le_add_left (by decide : 1 <= 64) _) hr.units
   refine ⟨_, (A7 (C8 (i := 2) scLGrid.nd rfl (Or.inl rfl) (B1 D9 (J9 U4 (pv 1) A1 (fun _ _ => rfl)) (G3 HU (pv 0) B5 (fun _ _ => rfl))))
     (A7 (C8 (i := 3) scLGrid.nd rfl (Or.inl rfl) (B1 U8 (J9 U4 (pv 1) A1 (fun _ _ => rfl)) (C5 D_l_ten G_l_ten hr hx (A0 (U0 (Y6 rfl) (by rfl) O.max_ boot_max (A0 A1 (A0 (pv 2) A8))) A8))))
     (A7 (D5a (U0 C3m (by rfl) O.divmod_ boot_divmod (A0 (pv 3) (A0 (C5 D_l_ten G_l_ten hr hx (A0 (U0 (Y6 rfl) (by rfl) O.max_ boot_max (A0 A1 (A0 (B1 D9 A1 (pv 2)) A8))) A8)) A8))) (D4a rfl (A2x (V3 (i := 4) scLGrid.nd rfl (Or.inl rfl)) (A2x (V3 (i := 5) scLGrid.nd rfl (Or.inl rfl)) C3f))))
     (B0 (B9 (U5 (A0 (pv 4) (A0 (A0n B5u (pv 5) A1 (C7 _)) A8)))))))), ?_⟩
   have z2 : 2 <= sizeLine := D5 (by decide)
   have r1 := fr.r1; have r2 := fr.r2; have l1 := fr.l1; have l2 := fr.l2
   have p0 := ok.p0; have p1 := ok.p1; have f0 := ok.f0; have f1' := ok.f1
   have ix : ∀ j : Nat, j < 4 -> atI x.vs (j : Int) = some (x.vs.getD j .non) := fun j hj => J0 (j := j) (by
     rcases (by omega : j = 0 \/ j = 1 \/ j = 2 \/ j = 3) with rfl | rfl | rfl | rfl <;> rfl)
   have mul : ∀ e : Int, e <= 1500 -> IntMulOk x.f (A6 e) := fun e he => by
     by_cases z : x.f = 0
     . rw [z]; exact CMul.ok (.inl ⟨by decide, by decide⟩)
     . exact B0y ⟨by omega, Int.lt_of_lt_of_le (show x.f < 10 ^ 60 by omega) (by decide +kernel)⟩ he
   have mx : ∀ e : Int, 0 <= Y1 0 e /\ (e <= 600 -> Y1 0 e <= 600) := fun e => by
     unfold Y1
     constructor
     . split <;> omega
     . intro h; split <;> omega
   refine ⟨_, rfl, q, _, _, _, rfl, rfl, SqT.of eq, ix 3 (by decide), _, rfl, d, _, rfl, ow.gLowest, _, _, rfl, rfl, ?_⟩
   show D3m _ _ _ [some (V.ref d), some (V.ref q), some (V.int (x.p - D0 r l)), none, none, none] H
   have wb : x.p - D0 r l <= 600 := by unfold D0; omega
   have wc : D0 r l - x.p <= 600 := by unfold D0; omega
   refine ⟨_, rfl, q, _, _, _, rfl, rfl, SqT.of eq, ix 2 (by decide), _, rfl, _, _, rfl, _, tn (mx (x.p - D0 r l)).1, by have := (mx (x.p - D0 r l)).2 wb; omega, _, _, rfl, rfl, mul (Y1 0 (x.p - D0 r l)) (Int.le_trans ((mx _).2 wb) (by decide)), ?_⟩
   show D3m _ _ _ [some (V.ref d), some (V.ref q), some (V.int (x.p - D0 r l)), some (V.int (x.f * A6 (Y1 0 (x.p - D0 r l)))), none, none] H
   rw [C9j]
   have e0 : 0 - (x.p - D0 r l) = D0 r l - x.p := by omega
   refine ⟨_, rfl, _, rfl, _, _, rfl, rfl, _, _, rfl, _, tn (e := Y1 0 (0 - (x.p - D0 r l))) (mx _).1, by rw [e0]; have := (mx (D0 r l - x.p)).2 wc; omega, _, _, rfl, B5k (e := Y1 0 (0 - (x.p - D0 r l))) (by rw [e0]; exact Int.le_trans ((mx _).2 wc) (by decide)), fun a na => ?_⟩
   have e1 : (((10 ^ (Y1 0 (0 - (x.p - D0 r l))).toNat : Nat) : Int)) = A6 (D0 r l - x.p) := by
     rw [e0]
     exact C9j _
   rw [e1] at *
   have ua := Same.upd (o := .tup [.int (x.f * A6 (x.p - D0 r l) / A6 (D0 r l - x.p)), .int (x.f * A6 (x.p - D0 r l) % A6 (D0 r l - x.p))]) na
   refine ⟨a, _, rfl, SqT.of A9, rfl, _, _, rfl, _, _, rfl, rfl, ?_⟩
   refine ⟨_, rfl, _, rfl, _, _, rfl, rfl, z2, fun p np => ?_⟩
   exact k p _ (ua.trans (Same.upd np)) A9
def B5g : Sp := fun vs H Q _ => ∃ d u t r y l m up tr, vs = [.ref d] /\ OwnAt H d u t r y l m up tr /\ FrameOk r l m /\ Q (.int (U9 r l m)) H
theorem scLMost : FnScope ["_law_own_here", "_law_nines", "_law_wide"] ["_law_own_here"] (A3 A3x) := scK
theorem J3j {f f1 : Addr} {fd fd1 : FuncData} (D : Def K mg "_law_most" ["_law_own_here"] A3x f fd) (D_l_ten : Def K mg "_law_ten" ["_law_count"] A3a f1 fd1) (G_l_ten : FnOk P w K mg base (CX1 P w) 1 f1 fd1 ["_law_count"] A5p) (O : Own mg) :
   FnOk P w K mg base (CX1 P w) 2 f fd ["_law_own_here"] B5g := by
 refine D.F.okE scLMost (fun vs H Q E h => ?_) (fun X cdv A outer s H vs Q E hX hr hx h => ?_)
 . obtain ⟨d, u, t, r, y, l, m, up, tr, rfl, _⟩ := h
   rfl
 . subst hX
   obtain ⟨d, u, t, r, y, l, m, up, tr, rfl, ow, fr, k⟩ := h
   have HU := Nat.lt_of_le_of_lt (Nat.add_le_add_left (by decide : 1 <= 64) _) hr.units
   refine ⟨_, (A7 (C8 (i := 1) scLMost.nd rfl (Or.inl rfl) (B1 D9 (C5 D_l_ten G_l_ten hr hx (A0 (G3 HU (pv 0) B5 (fun _ _ => rfl)) A8)) A1))
     (A7 (C8 (i := 2) scLMost.nd rfl (Or.inl rfl) (B1 G8 (B1 D9 (G3 HU (pv 0) B5 (fun _ _ => rfl)) (G3 HU (pv 0) B5 (fun _ _ => rfl))) A1))
     (B0 (B9 (B1 U8 (pv 1) (C5 D_l_ten G_l_ten hr hx (A0 (B1 D9 (pv 2) (G3 HU (pv 0) B5 (fun _ _ => rfl))) A8))))))), ?_⟩
   have r1 := fr.r1; have r2 := fr.r2; have l1 := fr.l1; have l2 := fr.l2; have m1 := fr.m1; have m2 := fr.m2
   have g2 := A7h r2
   have p : 10 <= A6 r := by
     unfold A6
     have : (10 : Nat) ^ 1 <= 10 ^ r.toNat := Nat.pow_le_pow_right (by decide) (by omega)
     omega
   refine ⟨_, rfl, d, _, rfl, ow.gRoom, _, tn (e := r) (by omega), by omega, _, _, rfl, rfl, ?_⟩
   refine ⟨_, rfl, d, _, rfl, ow.gMost, _, rfl, d, _, rfl, ow.gRoom, _, _, rfl, rfl, _, _, rfl, rfl, ?_⟩
   have e : m - r + 1 - (l - r + 1) = m - l := by omega
   refine ⟨_, rfl, _, rfl, _, rfl, d, _, rfl, ow.gLowest, _, _, rfl, rfl, _, tn (e := m - r + 1 - (l - r + 1)) (by omega), by omega, _, _, rfl, rfl, ?_, ?_⟩
   . show IntMulOk (A6 r - 1) (A6 (m - r + 1 - (l - r + 1)))
     rw [e]
     exact B0y ⟨by omega, Int.lt_of_lt_of_le (show A6 r - 1 < 10 ^ 24 by omega) (by decide +kernel)⟩ (by omega)
   . show Q (.int ((A6 r - 1) * A6 (m - r + 1 - (l - r + 1)))) H
     rw [e]
     exact k
end
theorem C1j (n e : Int) (h : 0 <= e) : ∃ d : Nat, A6 n = A6 (n - e) * ((10 ^ d : Nat) : Int) /\ A6 (-n) * A6 e = A6 (-(n - e)) * ((10 ^ d : Nat) : Int) := by
 refine ⟨n.toNat - (n - e).toNat, ?_, ?_⟩
 . unfold A6
   rw [<- Int.natCast_mul, <- Nat.pow_add]
   congr 2
   omega
 . unfold A6
   rw [<- Int.natCast_mul, <- Int.natCast_mul, <- Nat.pow_add, <- Nat.pow_add]
   congr 2
   omega
theorem C4d {t s e : Int} (h : 0 <= e) : whI t 1 (s - e) = whI t 1 s / A6 e := by
 obtain ⟨d, e1, e2⟩ := C1j s e h
 have hD : 0 < ((10 ^ d : Nat) : Int) := Int.natCast_pos.mpr (Nat.pow_pos (by decide))
 unfold whI
 rw [Int.one_mul, Int.one_mul, Int.ediv_ediv_of_nonneg (Int.le_of_lt (B8 _)), e2, e1, <- Int.mul_assoc]
 exact (Int.mul_ediv_mul_of_pos_left _ _ hD).symm
theorem C3v {r l f p : Int} : U2 r l f p = whI f 1 (p - D0 r l) := by
 unfold U2 whI
 rw [Int.one_mul, show -(p - D0 r l) = D0 r l - p by omega]
theorem V2 {a b : Int} (ha : 0 <= a) (hb : 0 <= b) : A6 (a + b) = A6 a * A6 b := by
 unfold A6
 rw [<- Int.natCast_mul, <- Nat.pow_add]
 congr 2
 omega
theorem U3 {a b : Int} (h : a <= b) : A6 a <= A6 b := by
 unfold A6
 exact Int.ofNat_le.mpr (Nat.pow_le_pow_right (by decide) (by omega))
theorem V9 {j : Int} (h : 0 <= j) : A6 (j + 1) = 10 * A6 j := by
 rw [V2 h (by omega), show A6 1 = 10 by decide +kernel, Int.mul_comm]
theorem A8c {M j : Int} (hj : 0 <= j) (h1 : A6 j <= M) (h2 : M < A6 (j + 1)) : A7z M = j + 1 := by
 obtain ⟨n, rfl⟩ : ∃ n : Nat, M = (n : Int) := ⟨M.toNat, by have := B8 j; omega⟩
 have := G4u (n := n) (j := j.toNat) (by
   have e : A6 (j + 1) = ((10 ^ (j.toNat + 1) : Nat) : Int) := by unfold A6; congr 2; omega
   rw [e] at h2
   exact Int.ofNat_lt.mp h2) (Int.ofNat_le.mp h1)
 omega
theorem B0s {M j : Int} (hj : 1 <= j) (h0 : 0 <= M) (h2 : M < A6 j) : A7z M <= j := by
 obtain ⟨n, rfl⟩ : ∃ n : Nat, M = (n : Int) := ⟨M.toNat, by omega⟩
 unfold A7z
 rw [PySem.ofString_length]
 have : n < 10 ^ j.toNat := Int.ofNat_lt.mp h2
 have q := toString_length_le (v := (n : Int)) (by omega) (k := j.toNat) (by omega) (by exact_mod_cast this)
 rw [PySem.ofString_length] at q
 omega
structure Steps (r e W : Int) : Prop where
 r1 : 1 <= r
 e0 : 0 <= e
 w0 : 0 <= W
 w1 : W < A6 (e + r)
 w2 : e = 0 \/ A6 (e + r - 1) <= W
theorem Y1d {W S : Int} (hS : 0 < S) : (W + 1 + S - 1) / S * S = (W / S + 1) * S := by
 rw [show W + 1 + S - 1 = W + 1 * S by omega, Int.add_mul_ediv_right _ _ (by omega)]
theorem G6b {r e W : Int} (h : Steps r e W) : (W + 1 + A6 (G6 r (W + 1)) - 1) / A6 (G6 r (W + 1)) * A6 (G6 r (W + 1)) = (W / A6 e + 1) * A6 e := by
 have r1 := h.r1; have e0 := h.e0; have w0 := h.w0; have w1 := h.w1
 rw [Y1d (B8 _)]
 by_cases hM : W + 1 = A6 (e + r)
 . have fm : A7z (W + 1) = e + r + 1 := A8c (by omega) (by omega) (by
     have := V9 (j := e + r) (by omega)
     have := B8 (e + r)
     omega)
   have hc : G6 r (W + 1) = e + 1 := by
     unfold G6 Y1
     rw [fm]
     split <;> omega
   rw [hc]
   have key : ∀ j, 0 <= j -> j <= e + r -> (W / A6 j + 1) * A6 j = A6 (e + r) := fun j j0 j1 => by
     have ej : A6 (e + r) = A6 (e + r - j) * A6 j := by rw [<- V2 (by omega) j0]; congr 1; omega
     have pj := B8 j
     have : W = (A6 j - 1) + (A6 (e + r - j) - 1) * A6 j := by
       rw [Int.sub_mul]
       omega
     rw [this, Int.add_mul_ediv_right _ _ (by omega), Int.ediv_eq_zero_of_lt (by omega) (by omega), ej]
     congr 1
     omega
   rw [key _ (by omega) (by omega), key _ (by omega) (by omega)]
 . have hc : G6 r (W + 1) = e := by
     unfold G6 Y1
     rcases h.w2 with z | z
     . have := B0s (M := W + 1) (j := r) r1 (by omega) (by subst z; rw [Int.zero_add] at *; omega)
       split <;> omega
     . by_cases ez : e = 0
       . have := B0s (M := W + 1) (j := r) r1 (by omega) (by subst ez; rw [Int.zero_add] at *; omega)
         split <;> omega
       . have := A8c (M := W + 1) (j := e + r - 1) (by omega) (by omega) (by rw [show e + r - 1 + 1 = e + r by omega]; omega)
         split <;> omega
   rw [hc]
theorem C8w {r l s e F : Int} (r1 : 1 <= r) (e0 : 0 <= e) (f1 : 1 <= F) (f2 : F <= A6 r) (f3 : e = 0 \/ A6 (r - 1) <= F) :
   Z9 r l s (F * A6 e) = ⟨.plain, s, (V5 r F (D0 r l + e)).1, (V5 r F (D0 r l + e)).2⟩ := by
 have pe := B8 e
 unfold Z9
 by_cases hF : F = A6 r
 . have hc : G6 r (F * A6 e) = e + 1 := by
     have er : F * A6 e = A6 (e + r) := by rw [hF, Int.add_comm, V2 (by omega) e0]
     have : A7z (F * A6 e) = e + r + 1 := by
       rw [er]
       have := V9 (j := e + r) (by omega)
       have := B8 (e + r)
       exact A8c (by omega) (Int.le_refl _) (by omega)
     unfold G6 Y1
     rw [this]
     split <;> omega
   have hr : V5 r F (D0 r l + e) = (F / 10, D0 r l + e + 1) := if_pos hF
   rw [hc, hr, V2 e0 (by omega), show A6 1 = 10 by decide +kernel, Int.mul_comm (A6 e) 10, Int.mul_ediv_mul_of_pos_left _ _ pe, <- Int.add_assoc]
 . have lt : F < A6 r := by omega
   have hc : G6 r (F * A6 e) = e := by
     unfold G6 Y1
     rcases f3 with z | z
     . subst z
       have e1 : A6 0 = 1 := by decide +kernel
       rw [e1, Int.mul_one]
       have := B0s (M := F) (j := r) r1 (by omega) lt
       split <;> omega
     . by_cases ez : e = 0
       . subst ez
         have e1 : A6 0 = 1 := by decide +kernel
         rw [e1, Int.mul_one]
         have := B0s (M := F) (j := r) r1 (by omega) lt
         split <;> omega
       . have a1 : A6 (r - 1 + e) <= F * A6 e := by
           rw [V2 (by omega) e0]
           exact Int.mul_le_mul_of_nonneg_right z (Int.le_of_lt pe)
         have a2 : F * A6 e < A6 (r - 1 + e + 1) := by
           rw [show r - 1 + e + 1 = r + e by omega, V2 (by omega) e0]
           exact Int.mul_lt_mul_of_pos_right lt pe
         have := A8c (by omega) a1 a2
         split <;> omega
   have hr : V5 r F (D0 r l + e) = (F, D0 r l + e) := if_neg hF
   rw [hc, hr, Int.mul_ediv_cancel _ (by omega)]
theorem C3d {r l m e F : Int} (fr : FrameOk r l m) (e0 : 0 <= e) (f1 : 1 <= F) (f2 : F <= A6 r) (f3 : e = 0 \/ A6 (r - 1) <= F) :
   (F * A6 e > U9 r l m) ↔ A0m m (V5 r F (D0 r l + e)).1 (V5 r F (D0 r l + e)).2 = true := by
 have r1 := fr.r1; have l2 := fr.l2; have m1 := fr.m1
 have pe := B8 e
 have pm := B8 (m - l)
 have pr : 10 <= A6 r := A7j r1
 have hm : U9 r l m + A6 (m - l) = A6 (r + (m - l)) := by
   unfold U9
   rw [V2 (by omega) (by omega), Int.sub_mul]
   omega
 have ml : U9 r l m = (A6 r - 1) * A6 (m - l) := rfl
 by_cases hF : F = A6 r
 . have hr : V5 r F (D0 r l + e) = (F / 10, D0 r l + e + 1) := if_pos hF
   have ft : F / 10 = A6 (r - 1) := by
     have := V9 (j := r - 1) (by omega)
     rw [show r - 1 + 1 = r by omega] at this
     omega
   have fg : A7z (A6 (r - 1)) = r := by
     have := V9 (j := r - 1) (by omega)
     have := B8 (r - 1)
     have := A8c (M := A6 (r - 1)) (j := r - 1) (by omega) (Int.le_refl _) (by omega)
     omega
   have er : F * A6 e = A6 (r + e) := by rw [hF, V2 (by omega) e0]
   rw [hr, er]
   show _ ↔ A0m m (F / 10) (D0 r l + e + 1) = true
   unfold A0m
   have nz : ¬ F / 10 = 0 := by have := B8 (r - 1); omega
   rw [if_neg nz, decide_eq_true_iff, ft, fg]
   unfold D0
   constructor
   . intro h
     apply Classical.byContradiction
     intro z
     have le : A6 (r + e) <= A6 (r + (m - l) - 1) := U3 (by omega)
     have n1 := V9 (j := r + (m - l) - 1) (by omega)
     rw [show r + (m - l) - 1 + 1 = r + (m - l) by omega] at n1
     have n2 : A6 (m - l) <= A6 (r + (m - l) - 1) := U3 (by omega)
     omega
   . intro h
     have le : A6 (r + (m - l)) <= A6 (r + e) := U3 (by omega)
     omega
 . have lt : F < A6 r := by omega
   have hr : V5 r F (D0 r l + e) = (F, D0 r l + e) := if_neg hF
   rw [hr]
   show _ ↔ A0m m F (D0 r l + e) = true
   unfold A0m
   rw [if_neg (by omega : ¬ F = 0), decide_eq_true_iff]
   by_cases ez : e = 0
   . subst ez
     have e1 : A6 0 = 1 := by decide +kernel
     rw [e1, Int.mul_one]
     have fl := B0s (M := F) (j := r) r1 (by omega) lt
     have q : A6 r - 1 <= U9 r l m := by
       have := Int.mul_le_mul_of_nonneg_left (show (1 : Int) <= A6 (m - l) by omega) (show 0 <= A6 r - 1 by omega)
       rw [Int.mul_one] at this
       exact this
     unfold D0
     constructor <;> intro h <;> omega
   . have z : A6 (r - 1) <= F := by
       rcases f3 with z | z
       . exact absurd z ez
       . exact z
     have fg : A7z F = r := by
       have := A8c (M := F) (j := r - 1) (by omega) z (by rw [show r - 1 + 1 = r by omega]; exact lt)
       omega
     rw [fg]
     unfold D0
     constructor
     . intro h
       apply Classical.byContradiction
       intro zz
       have le : A6 e <= A6 (m - l) := U3 (by omega)
       have a1 : F * A6 e <= (A6 r - 1) * A6 e := Int.mul_le_mul_of_nonneg_right (by omega) (Int.le_of_lt pe)
       have a2 : (A6 r - 1) * A6 e <= (A6 r - 1) * A6 (m - l) := Int.mul_le_mul_of_nonneg_left le (by omega)
       omega
     . intro h
       have a1 : A6 (r - 1) * A6 e <= F * A6 e := Int.mul_le_mul_of_nonneg_right z (Int.le_of_lt pe)
       rw [<- V2 (by omega) e0] at a1
       have le : A6 (r + (m - l)) <= A6 (r - 1 + e) := U3 (by omega)
       omega
def C0t (r l m s W : Int) : Nm :=
 if (W + 1 + A6 (G6 r (W + 1)) - 1) / A6 (G6 r (W + 1)) * A6 (G6 r (W + 1)) > U9 r l m then ⟨.end_, s, 0, 0⟩ else Z9 r l s ((W + 1 + A6 (G6 r (W + 1)) - 1) / A6 (G6 r (W + 1)) * A6 (G6 r (W + 1)))
def Y3 (l L : Int) : Int := Y1 L l - l
theorem A9u (v : Cv) (L : Int) : v.fin L = D0 v.r v.l + Y3 v.l L := by
 unfold Cv.fin D0 Y3 Y1
 split <;> split <;> omega
theorem C9u {v : Cv} {f p L : Int} (ok : v.Ok) (hf : Sz f) (h : Y5 f 1 (p - L)) : Steps v.r (Y3 v.l L) (U2 v.r v.l f p) := by
 have r1 := ok.r1
 have e0 : 0 <= Y3 v.l L := by unfold Y3 Y1; split <;> omega
 obtain ⟨h1, h2⟩ := h
 have pt := B8 (-(p - L))
 have a1 : 1 <= whI f 1 (p - L) := by
   unfold whI
   exact Int.le_ediv_of_mul_le (by omega) (by rw [Int.one_mul]; exact h1)
 have a2 : whI f 1 (p - L) < 10 := by
   unfold whI
   exact Int.ediv_lt_of_lt_mul (by omega) h2
 rw [C3v]
 have w0 : 0 <= whI f 1 (p - D0 v.r v.l) := by
   unfold whI
   exact Int.ediv_nonneg (Int.mul_nonneg (by have := hf.1; omega) (Int.le_of_lt (B8 _))) (by have := B8 (-(p - D0 v.r v.l)); omega)
 by_cases hL : D0 v.r v.l <= L
 . have e1 : whI f 1 (p - L) = whI f 1 (p - D0 v.r v.l) / A6 (L - D0 v.r v.l) := by
     rw [<- C4d (by omega)]
     congr 1
     omega
   rw [e1] at a1 a2
   generalize whI f 1 (p - D0 v.r v.l) = W at *
   have pj := B8 (L - D0 v.r v.l)
   have b1 : A6 (L - D0 v.r v.l) <= W := by
     have := Int.mul_le_of_le_ediv pj a1
     omega
   have b2 : W < A6 (L - D0 v.r v.l + 1) := by
     rw [V9 (by omega)]
     exact Int.lt_mul_of_ediv_lt pj a2
   refine ⟨r1, e0, w0, Int.lt_of_lt_of_le b2 (U3 ?_), ?_⟩
   . unfold Y3 Y1 D0
     split <;> omega
   . by_cases hl : v.l <= L
     . right
       refine Int.le_trans (U3 ?_) b1
       unfold Y3 Y1 D0
       split <;> omega
     . left
       unfold Y3 Y1
       split <;> omega
 . have e1 : whI f 1 (p - D0 v.r v.l) = whI f 1 (p - L) / A6 (D0 v.r v.l - L) := by
     rw [<- C4d (by omega)]
     congr 1
     omega
   have ge := A7j (d := D0 v.r v.l - L) (by omega)
   have z : whI f 1 (p - D0 v.r v.l) = 0 := by
     rw [e1]
     exact Int.ediv_eq_zero_of_lt (by omega) (by omega)
   rw [z]
   refine ⟨r1, e0, Int.le_refl _, B8 _, .inl ?_⟩
   unfold Y3 Y1
   unfold D0 at hL
   split <;> omega
theorem V4x {v : Cv} {s f p L : Int} (ok : v.Ok) (hf : Sz f) (h : Y5 f 1 (p - L)) : G7r v s f p L = C0t v.r v.l v.m s (U2 v.r v.l f p) := by
 have st := C9u ok hf h
 have fr : FrameOk v.r v.l v.m := ⟨ok.r1, ok.r2, ok.l1, ok.l2, ok.m1, ok.m2⟩
 have w := B6u ok hf h
 have ww : whI f 1 (p - v.fin L) = U2 v.r v.l f p / A6 (Y3 v.l L) := by
   rw [C3v, <- C4d st.e0, A9u]
   congr 1
   omega
 rw [ww] at w
 have f3 : Y3 v.l L = 0 \/ A6 (v.r - 1) <= U2 v.r v.l f p / A6 (Y3 v.l L) + 1 := by
   rcases st.w2 with z | z
   . exact .inl z
   . right
     rw [show Y3 v.l L + v.r - 1 = (v.r - 1) + Y3 v.l L by omega, V2 (by have := ok.r1; omega) st.e0] at z
     have := Int.le_ediv_of_mul_le (B8 _) z
     omega
 unfold G7r C0t
 rw [G6b st, ww, A9u]
 have b := C3d fr st.e0 (F := U2 v.r v.l f p / A6 (Y3 v.l L) + 1) (by omega) (by omega) f3
 by_cases hb : (U2 v.r v.l f p / A6 (Y3 v.l L) + 1) * A6 (Y3 v.l L) > U9 v.r v.l v.m
 . rw [if_pos hb, if_pos (b.mp hb)]
 . rw [if_neg hb, if_neg fun z => hb (b.mpr z), C8w ok.r1 st.e0 (by omega) (by omega) f3]
theorem J3a {X Y S : Int} (hX : 0 <= X) (hY : 0 < Y) (hS : 0 < S) : X % (Y * S) = 0 ↔ X % Y = 0 /\ X / Y % S = 0 := by
 have hd := Int.emod_add_mul_ediv X Y
 have he := Int.emod_add_mul_ediv (X / Y) S
 have hn := Int.emod_nonneg X (Int.ne_of_gt hY)
 have hm := Int.emod_nonneg (X / Y) (Int.ne_of_gt hS)
 constructor
 . intro h
   have hv : Y * S ∣ X := Int.dvd_of_emod_eq_zero h
   obtain ⟨c, rfl⟩ := hv
   have e1 : Y * S * c % Y = 0 := Int.emod_eq_zero_of_dvd ⟨S * c, by rw [Int.mul_assoc]⟩
   have e2 : Y * S * c / Y = S * c := by rw [Int.mul_assoc, Int.mul_ediv_cancel_left _ (Int.ne_of_gt hY)]
   rw [e2]
   exact ⟨e1, Int.emod_eq_zero_of_dvd ⟨c, rfl⟩⟩
 . rintro ⟨h1, h2⟩
   rw [h1, Int.zero_add] at hd
   rw [h2, Int.zero_add] at he
   rw [<- hd, <- he, <- Int.mul_assoc]
   exact Int.emod_eq_zero_of_dvd ⟨X / Y / S, rfl⟩
theorem U9j {W' S : Int} (hS : 0 < S) : W' / S * S <= W' /\ W' < (W' / S + 1) * S := by
 have a := Int.ediv_mul_le W' (Int.ne_of_gt hS)
 have b := Int.lt_ediv_add_one_mul_self W' hS
 exact ⟨a, b⟩
theorem U8s {t s : Int} : ptI t 1 s = 0 ↔ t * A6 s % A6 (-s) = 0 := by
 have hl := G3z (t := t) (b := 1) (s := s) (by decide)
 have e : t * A6 s - whI t 1 s * (1 * A6 (-s)) = t * A6 s % A6 (-s) := by
   unfold whI
   rw [Int.one_mul, Int.emod_def, Int.mul_comm (A6 (-s))]
 have pt := B8 (-s)
 unfold ptI
 rw [e] at hl ⊢
 rw [Int.one_mul] at hl ⊢
 generalize t * A6 s % A6 (-s) = left at *
 generalize A6 (-s) = low at *
 unfold A5v
 simp only [decide_eq_true_eq]
 constructor
 . intro h
   split at h <;> split at h <;> split at h <;> omega
 . intro h
   subst h
   rw [if_neg (by omega), if_neg (by omega), if_neg (by omega)]
   rfl
theorem U8q {r l f p e : Int} (hf : 0 <= f) (e0 : 0 <= e) : ptI f 1 (p - (D0 r l + e)) = 0 ↔ A3b r l f p = false /\ U2 r l f p % A6 e = 0 := by
 rw [U8s]
 have e3 : p - (D0 r l + e) = p - D0 r l - e := by omega
 rw [e3]
 obtain ⟨d, e1, e2⟩ := C1j (p - D0 r l) e e0
 have hD : 0 < ((10 ^ d : Nat) : Int) := Int.natCast_pos.mpr (Nat.pow_pos (by decide))
 have hX : 0 <= f * A6 (p - D0 r l) := Int.mul_nonneg hf (Int.le_of_lt (B8 _))
 have k := J3a hX (B8 (-(p - D0 r l))) (B8 e)
 have hs : f * A6 (p - D0 r l - e) % A6 (-(p - D0 r l - e)) = 0 ↔ f * A6 (p - D0 r l) % (A6 (-(p - D0 r l)) * A6 e) = 0 := by
   have sc : ∀ X Y : Int, X * ((10 ^ d : Nat) : Int) % (Y * ((10 ^ d : Nat) : Int)) = X % Y * ((10 ^ d : Nat) : Int) := fun X Y => by
     rw [Int.mul_comm X, Int.mul_comm Y, Int.mul_emod_mul_of_pos _ _ hD, Int.mul_comm]
   rw [e2, e1, <- Int.mul_assoc, sc]
   constructor
   . intro z; rw [z, Int.zero_mul]
   . intro z
     rcases Int.mul_eq_zero.mp z with z | z
     . exact z
     . omega
 rw [hs, k]
 unfold A3b U2
 rw [show -(p - D0 r l) = D0 r l - p by omega]
 have nn := Int.emod_nonneg (f * A6 (p - D0 r l)) (Int.ne_of_gt (B8 (D0 r l - p)))
 rw [decide_eq_false_iff_not]
 constructor
 . rintro ⟨a, b⟩; exact ⟨by omega, b⟩
 . rintro ⟨a, b⟩; exact ⟨by omega, b⟩
theorem D4c {r e N F : Int} (r1 : 1 <= r) (e0 : 0 <= e) (f0 : 0 <= F) (f2 : F < A6 r) (f3 : e = 0 \/ A6 (r - 1) <= F) (n1 : F * A6 e <= N) (n2 : N < (F + 1) * A6 e) : G6 r N = e /\ N / A6 e = F := by
 have pe := B8 e
 have hq : N / A6 e = F := by
   have a : F <= N / A6 e := Int.le_ediv_of_mul_le pe n1
   have b : N / A6 e < F + 1 := Int.ediv_lt_of_lt_mul pe n2
   omega
 refine ⟨?_, hq⟩
 unfold G6 Y1
 by_cases ez : e = 0
 . subst ez
   have e1 : A6 0 = 1 := by decide +kernel
   rw [e1] at n1 n2
   have := B0s (M := N) (j := r) r1 (by omega) (by omega)
   split <;> omega
 . have z : A6 (r - 1) <= F := by
     rcases f3 with z | z
     . exact absurd z ez
     . exact z
   have a1 : A6 (r - 1 + e) <= N := by
     rw [V2 (by omega) e0]
     exact Int.le_trans (Int.mul_le_mul_of_nonneg_right z (Int.le_of_lt pe)) n1
   have a2 : N < A6 (r - 1 + e + 1) := by
     rw [show r - 1 + e + 1 = r + e by omega, V2 (by omega) e0]
     exact Int.lt_of_lt_of_le n2 (Int.mul_le_mul_of_nonneg_right (by omega) (Int.le_of_lt pe))
   have := A8c (by omega) a1 a2
   split <;> omega
theorem A4f {r l s e N F : Int} (r1 : 1 <= r) (e0 : 0 <= e) (f0 : 0 <= F) (f2 : F < A6 r) (f3 : e = 0 \/ A6 (r - 1) <= F) (n1 : F * A6 e <= N) (n2 : N < (F + 1) * A6 e) :
   Z9 r l s (N / A6 (G6 r N) * A6 (G6 r N)) = ⟨.plain, s, F, D0 r l + e⟩ := by
 have pe := B8 e
 obtain ⟨c1, c2⟩ := D4c r1 e0 f0 f2 f3 n1 n2
 obtain ⟨c3, c4⟩ := D4c (N := F * A6 e) r1 e0 f0 f2 f3 (Int.le_refl _) (by rw [Int.add_mul]; omega)
 rw [c1, c2]
 unfold Z9
 rw [c3, c4]
def C8x (a b : Int) : Int := if b < a then b else a
def A0u (r l m W : Int) (more : Bool) : Int := C8x (W - (if more = true then 0 else 1)) (U9 r l m)
def C9v (r l m s W : Int) (more : Bool) : Nm := Z9 r l s (A0u r l m W more / A6 (G6 r (A0u r l m W more)) * A6 (G6 r (A0u r l m W more)))
theorem U7y {v : Cv} {s f p L : Int} (ok : v.Ok) (hf : Sz f) (h : Y5 f 1 (p - L)) : C2f v s f p L = C9v v.r v.l v.m s (U2 v.r v.l f p) (A3b v.r v.l f p) := by
 have st := C9u ok hf h
 have r1 := ok.r1; have l2 := ok.l2; have m1 := ok.m1
 have w := B6u ok hf h
 have ww : whI f 1 (p - v.fin L) = U2 v.r v.l f p / A6 (Y3 v.l L) := by
   rw [C3v, <- C4d st.e0, A9u]
   congr 1
   omega
 have pz := U8q (r := v.r) (l := v.l) (f := f) (p := p) (e := Y3 v.l L) (by have := hf.1; omega) st.e0
 rw [ww] at w
 have some1 : A3b v.r v.l f p = false -> 1 <= U2 v.r v.l f p := fun z => by
   unfold A3b at z
   rw [decide_eq_false_iff_not] at z
   have a := Int.emod_add_mul_ediv (f * A6 (p - D0 v.r v.l)) (A6 (D0 v.r v.l - p))
   have b : 1 <= f * A6 (p - D0 v.r v.l) := Int.mul_pos (by have := hf.1; omega) (B8 _)
   unfold U2
   apply Classical.byContradiction
   intro q
   have w0 := st.w0
   unfold U2 at w0
   have z0 : f * A6 (p - D0 v.r v.l) / A6 (D0 v.r v.l - p) = 0 := by omega
   rw [z0, Int.mul_zero] at a
   omega
 unfold C2f C9v
 rw [ww, A9u]
 generalize hW : U2 v.r v.l f p = W at *
 generalize hM : A3b v.r v.l f p = more at *
 have pm := B8 (v.m - v.l)
 have pr : 10 <= A6 v.r := A7j r1
 have hmost : U9 v.r v.l v.m + A6 (v.m - v.l) = A6 (v.r + (v.m - v.l)) := by
   unfold U9
   rw [V2 (by omega) (by omega), Int.sub_mul]
   omega
 have ml : U9 v.r v.l v.m = (A6 v.r - 1) * A6 (v.m - v.l) := rfl
 by_cases hL : L > v.m
 . rw [if_pos hL]
   have eo : Y3 v.l L = L - v.l := by unfold Y3 Y1; split <;> omega
   have big : A6 (v.r + (v.m - v.l)) <= W := by
     rcases st.w2 with z | z
     . omega
     . exact Int.le_trans (U3 (by omega)) z
   have hN : A0u v.r v.l v.m W more = U9 v.r v.l v.m := by
     unfold A0u C8x
     split <;> split <;> omega
   have t1 : A6 (v.r - 1) <= A6 v.r - 1 := by
     have := V9 (j := v.r - 1) (by omega)
     rw [show v.r - 1 + 1 = v.r by omega] at this
     have := B8 (v.r - 1)
     omega
   rw [hN, A4f (e := v.m - v.l) (F := A6 v.r - 1) r1 (by omega) (by omega) (by omega) (.inr t1) (Int.le_of_eq ml.symm) (by rw [ml, Int.add_mul]; omega)]
   unfold D0
   congr 1
   omega
 . rw [if_neg hL]
   have eo : Y3 v.l L <= v.m - v.l := by unfold Y3 Y1; split <;> omega
   have e0 := st.e0
   have w2 := st.w2
   generalize Y3 v.l L = e at *
   have pe := B8 e
   have bet : ∀ (j F W' : Int), 0 <= j -> j <= v.m - v.l -> F <= A6 v.r - 1 -> F * A6 j <= W' -> W' < (F + 1) * A6 j -> F * A6 j <= C8x W' (U9 v.r v.l v.m) /\ C8x W' (U9 v.r v.l v.m) < (F + 1) * A6 j := fun j F W' j0 j1 hF a b => by
     have q1 : F * A6 j <= (A6 v.r - 1) * A6 j := Int.mul_le_mul_of_nonneg_right hF (Int.le_of_lt (B8 j))
     have q2 : (A6 v.r - 1) * A6 j <= (A6 v.r - 1) * A6 (v.m - v.l) := Int.mul_le_mul_of_nonneg_left (U3 j1) (by omega)
     unfold C8x
     split <;> constructor <;> omega
   obtain ⟨d1, d2⟩ := U9j (W' := W) pe
   have hd := Int.emod_add_mul_ediv W (A6 e)
   have hn := Int.emod_nonneg W (Int.ne_of_gt pe)
   have cm : A6 e * (W / A6 e) = W / A6 e * A6 e := Int.mul_comm _ _
   have f3 : e = 0 \/ A6 (v.r - 1) <= W / A6 e := by
     rcases w2 with z | z
     . exact .inl z
     . right
       rw [show e + v.r - 1 = (v.r - 1) + e by omega, V2 (by omega) e0] at z
       exact Int.le_ediv_of_mul_le pe z
   by_cases hp : ptI f 1 (p - (D0 v.r v.l + e)) = 0
   . rw [if_pos hp]
     obtain ⟨hm, hz⟩ := pz.mp hp
     have w1 := some1 hm
     have e1 : W = W / A6 e * A6 e := by omega
     have nm : A0u v.r v.l v.m W more = C8x (W - 1) (U9 v.r v.l v.m) := by
       unfold A0u
       rw [hm]
       rfl
     rw [nm]
     by_cases hc : W / A6 e = A6 (v.r - 1) /\ D0 v.r v.l + e > v.l - v.r + 1
     . rw [if_pos hc]
       have ep : 1 <= e := by
         have := hc.2
         unfold D0 at this
         omega
       have t1 : A6 v.r = 10 * A6 (v.r - 1) := by
         have := V9 (j := v.r - 1) (by omega)
         rw [show v.r - 1 + 1 = v.r by omega] at this
         exact this
       have t2 : A6 e = 10 * A6 (e - 1) := by
         have := V9 (j := e - 1) (by omega)
         rw [show e - 1 + 1 = e by omega] at this
         exact this
       have pj := B8 (e - 1)
       have pk := B8 (v.r - 1)
       have e2 : W = A6 v.r * A6 (e - 1) := by
         rw [hc.1] at e1
         rw [e1, t1, t2]
         ac_rfl
       obtain ⟨b1, b2⟩ := bet (e - 1) (A6 v.r - 1) (W - 1) (by omega) (by omega) (Int.le_refl _) (by rw [Int.sub_mul]; omega) (by rw [show A6 v.r - 1 + 1 = A6 v.r by omega]; omega)
       rw [A4f r1 (by omega) (by omega) (by omega) (.inr (by omega)) b1 b2]
       congr 1
       omega
     . rw [if_neg hc]
       have wp : 1 <= W / A6 e := by
         apply Classical.byContradiction
         intro q
         have : W / A6 e = 0 := by omega
         rw [this, Int.zero_mul] at e1
         omega
       obtain ⟨b1, b2⟩ := bet e (W / A6 e - 1) (W - 1) e0 eo (by omega) (by rw [Int.sub_mul]; omega) (by rw [show W / A6 e - 1 + 1 = W / A6 e by omega]; omega)
       rw [A4f r1 e0 (by omega) (by omega) (by
         rcases f3 with z | z
         . exact .inl z
         . by_cases ez : e = 0
           . exact .inl ez
           . right
             apply Classical.byContradiction
             intro q
             exact hc ⟨by omega, by unfold D0; omega⟩) b1 b2]
   . rw [if_neg hp]
     have q : W / A6 e * A6 e <= W - (if more = true then 0 else 1) := by
       by_cases hm : more = true
       . rw [if_pos hm]; omega
       . rw [if_neg hm]
         have hm' : more = false := by cases more <;> simp_all
         have : W % A6 e ≠ 0 := fun z => hp (pz.mpr ⟨hm', z⟩)
         omega
     have q2 : W - (if more = true then 0 else 1) < (W / A6 e + 1) * A6 e := by
       split <;> omega
     obtain ⟨b1, b2⟩ := bet e (W / A6 e) _ e0 eo (by omega) q q2
     unfold A0u
     rw [A4f r1 e0 (by omega) (by omega) f3 b1 b2]
abbrev A0b : Stmt := (top 66)
abbrev A1m : Stmt := (top 67)
theorem J3r {r l m f p : Int} (fr : FrameOk r l m) (f0 : 0 <= f) (f1 : f <= 10 ^ 60 - 1) (p1 : p <= 200) : 0 <= U2 r l f p /\ U2 r l f p < A6 350 := by
 have r2 := fr.r2; have l1 := fr.l1
 have hX : 0 <= f * A6 (p - D0 r l) := Int.mul_nonneg f0 (Int.le_of_lt (B8 _))
 have hp := B8 (D0 r l - p)
 unfold U2
 refine ⟨Int.ediv_nonneg hX (by omega), ?_⟩
 have a : f * A6 (p - D0 r l) / A6 (D0 r l - p) <= f * A6 (p - D0 r l) := Int.ediv_le_self _ hX
 have b : A6 (p - D0 r l) <= A6 290 := U3 (by unfold D0; omega)
 have c : f * A6 (p - D0 r l) <= 10 ^ 60 * A6 290 := Int.mul_le_mul (by omega) b (Int.le_of_lt (B8 _)) (by decide +kernel)
 have d : (10 : Int) ^ 60 * A6 290 = A6 350 := by decide +kernel
 have e : f * A6 (p - D0 r l) <= (10 ^ 60 - 1) * A6 290 := Int.mul_le_mul f1 b (Int.le_of_lt (B8 _)) (by decide +kernel)
 rw [Int.sub_mul, d] at e
 have := B8 290
 omega
theorem V0t {r M : Int} (r1 : 1 <= r) (m1 : 1 <= M) : 0 <= G6 r M /\ A6 (G6 r M) <= M := by
 obtain ⟨n, rfl⟩ : ∃ n : Nat, M = (n : Int) := ⟨M.toNat, by omega⟩
 obtain ⟨j, h1, h2⟩ := V0w n (by omega)
 have fg := G4u h2 h1
 unfold G6 Y1
 rw [fg]
 split
 . refine ⟨by omega, Int.le_trans (U3 (b := (j : Int)) (by omega)) ?_⟩
   rw [J5q]
   exact Int.ofNat_le.mpr h1
 . refine ⟨by omega, ?_⟩
   rw [show A6 0 = 1 by decide +kernel]
   omega
theorem G6v {r l f p : Int} (hf : 1 <= f) (w0 : 0 <= U2 r l f p) (z : A3b r l f p = false) : 1 <= U2 r l f p := by
 unfold A3b at z
 rw [decide_eq_false_iff_not] at z
 have a := Int.emod_add_mul_ediv (f * A6 (p - D0 r l)) (A6 (D0 r l - p))
 have b : 1 <= f * A6 (p - D0 r l) := Int.mul_pos (by omega) (B8 _)
 unfold U2 at w0 ⊢
 apply Classical.byContradiction
 intro q
 have z0 : f * A6 (p - D0 r l) / A6 (D0 r l - p) = 0 := by omega
 rw [z0, Int.mul_zero] at a
 omega
theorem J4m {r l m : Int} (fr : FrameOk r l m) : 0 <= U9 r l m := by
 have := B8 r
 exact Int.mul_nonneg (by omega) (Int.le_of_lt (B8 _))
theorem U9y {a c : Int} (a0 : 0 <= a) (a1 : a < A6 1000) (h : c <= 1500) : IntMulOk a (A6 c) := by
 by_cases z : a = 0
 . rw [z]; exact CMul.ok (.inl ⟨by decide, by decide⟩)
 . exact B0y ⟨by omega, a1⟩ h
section
variable {P : Program} {w : World} {K : Frag} {mg : Str -> Option Value} {base : Heap}
def B7g : Sp := fun vs H Q _ => ∃ d u t r y l m up tr q x, ∃ s : Int, vs = [.ref d, .ref q, .int s] /\ OwnAt H d u t r y l m up tr /\ FrameOk r l m /\ H q = some (.tup (Nm.vs x)) /\ x.Ok /\ ∀ p H', Same H H' -> H' p = some (.tup (C0t r l m s (U2 r l x.f x.p)).vs) -> Q (.ref p) H'
theorem scLFarther : FnScope ["_law_own_here", "_law_one", "_law_sign", "_law_many", "_law_step"] ["_law_own_here", "_law_one", "_law_sign"] (A3 A0b) := scK
theorem C9m {f f1 f2 f3 f4 : Addr} {fd fd1 fd2 fd3 fd4 : FuncData} (D : Def K mg "_law_farther" ["_law_own_here", "_law_one", "_law_sign"] A0b f fd) (D_l_ten : Def K mg "_law_ten" ["_law_count"] A3a f1 fd1) (G_l_ten : FnOk P w K mg base (CX1 P w) 1 f1 fd1 ["_law_count"] A5p)
   (D_l_grid : Def K mg "_law_grid" ["_law_own_here", "_law_one"] A5m f2 fd2) (G_l_grid : FnOk P w K mg base (CX1 P w) 2 f2 fd2 ["_law_own_here", "_law_one"] C3y) (D_l_most : Def K mg "_law_most" ["_law_own_here"] A3x f3 fd3) (G_l_most : FnOk P w K mg base (CX1 P w) 2 f3 fd3 ["_law_own_here"] B5g)
   (D_l_shown : Def K mg "_law_shown" ["_law_own_here", "_law_sign", "_law_many"] A1d f4 fd4) (G_l_shown : FnOk P w K mg base (CX1 P w) 2 f4 fd4 ["_law_own_here", "_law_sign", "_law_many"] B0b) (O : Own mg) : FnOk P w K mg base (CX1 P w) 3 f fd ["_law_own_here", "_law_one", "_law_sign"] B7g := by
 refine D.F.okE scLFarther (fun vs H Q E h => ?_) (fun X cdv A outer s H vs Q E hX hr hx h => ?_)
 . obtain ⟨d, u, t, r, y, l, m, up, tr, q, x, s, rfl, _⟩ := h
   rfl
 . subst hX
   obtain ⟨d, u, t, r, y, l, m, up, tr, q, x, s, rfl, ow, fr, eq, ok, k⟩ := h
   have HU := Nat.lt_of_le_of_lt (Nat.add_le_add_left (by decide : 1 <= 64) _) hr.units
   refine ⟨_, (A7 (C8 (i := 3) scLFarther.nd rfl (Or.inl rfl) (B1 G8 (J9 U4 (C5 D_l_grid G_l_grid hr hx (A0 (pv 0) (A0 (pv 1) A8))) A1 (fun _ _ => rfl)) A1))
     (A7 (C8 (i := 4) scLFarther.nd rfl (Or.inl rfl) (C5 D_l_ten G_l_ten hr hx (A0 (U0 (Y6 rfl) (by rfl) O.max_ boot_max (A0 A1 (A0 (B1 D9 (U0 A1f (by rfl) O.len_ PySem.boot_len (A0 (V0 A1c (by rfl) O.str_ boot_str (A0 (pv 3) A8)) A8)) (G3 HU (pv 0) B5 (fun _ _ => rfl))) A8))) A8)))
     (A7 (C8 (i := 3) scLFarther.nd rfl (Or.inl rfl) (B1 U8 (B1 D3 (B1 D9 (B1 G8 (pv 3) (pv 4)) A1) (pv 4)) (pv 4)))
     (A7 (G2 (C0 B5u (pv 3) (C5 D_l_most G_l_most hr hx (A0 (pv 0) A8)) (C7 _)) (B0 (B9 (U5 (A0 B5 (A0 (pv 2) (A0 A1 (A0 A1 A8))))))) C9)
     (B0 (B9 (C5 D_l_shown G_l_shown hr hx (A0 (pv 0) (A0 (pv 2) (A0 (pv 3) A8)))))))))), ?_⟩
   obtain ⟨w0, w1⟩ := J3r fr ok.f0 ok.f1 ok.p1
   have z4 : 4 <= sizeLine := D5 (by decide)
   have t4 : A6 350 < A6 400 := by decide +kernel
   have t5 : 2 * A6 350 < A6 400 := by decide +kernel
   have t6 : 2 * A6 350 < A6 1000 := by decide +kernel
   refine ⟨_, rfl, _, rfl, d, u, t, r, y, l, m, up, tr, q, x, rfl, ow, fr, eq, ok, fun a H1 s1 ea => ?_⟩
   refine ⟨a, _, _, _, rfl, rfl, SqT.of ea, J0 (j := 0) rfl, _, _, rfl, rfl, ?_⟩
   have k' : ∀ p H', Same H H' -> H' p = some (.tup (C0t r l m s (U2 r l x.f x.p)).vs) -> Q (.ref p) H' := k
   generalize U2 r l x.f x.p = W at *
   have ow1 := ow.same s1
   obtain ⟨f1, f2, f3⟩ := C4b (M := W + 1) (by omega) (by omega)
   obtain ⟨c0, c2⟩ := V0t (M := W + 1) fr.r1 (by omega)
   have c1 : G6 r (W + 1) <= 401 := by have := fr.r1; unfold G6 Y1; split <;> omega
   have ps := B8 (G6 r (W + 1))
   refine ⟨_, rfl, _, rfl, f3, _, rfl, int_text_fits f3, _, rfl, d, _, rfl, ow1.gRoom, _, _, rfl, rfl, _, _, rfl, _, tn (e := G6 r (W + 1)) c0, by omega, ?_⟩
   show D3m _ _ _ [some (V.ref d), some (V.ref q), some (V.int s), some (V.int (W + 1)), some (V.int (A6 (G6 r (W + 1))))] H1
   have q1 : 1 <= (W + 1 + A6 (G6 r (W + 1)) - 1) / A6 (G6 r (W + 1)) := Int.le_ediv_of_mul_le ps (by omega)
   have q2 : (W + 1 + A6 (G6 r (W + 1)) - 1) / A6 (G6 r (W + 1)) <= W + 1 + A6 (G6 r (W + 1)) - 1 := Int.ediv_le_self _ (by omega)
   refine ⟨_, rfl, _, rfl, _, _, rfl, rfl, _, _, rfl, rfl, _, rfl, _, _, rfl, rfl, B5k (by omega), _, rfl, _, _, rfl, rfl, B0y ⟨q1, by omega⟩ (by omega), ?_⟩
   have q3 := Int.ediv_mul_le (W + 1 + A6 (G6 r (W + 1)) - 1) (Int.ne_of_gt ps)
   have q4 : 0 <= (W + 1 + A6 (G6 r (W + 1)) - 1) / A6 (G6 r (W + 1)) * A6 (G6 r (W + 1)) := Int.mul_nonneg (by omega) (Int.le_of_lt ps)
   refine ⟨_, rfl, _, rfl, d, u, t, r, y, l, m, up, tr, rfl, ow1, fr, _, _, rfl, rfl, _, rfl, G9 (fun h => ?_) (fun h => ?_)⟩
   . refine ⟨_, rfl, z4, fun p np => k' p _ (s1.trans (Same.upd np)) ?_⟩
     unfold C0t
     rw [if_pos h]
     exact A9
   . refine ⟨_, rfl, _, rfl, _, rfl, d, u, t, r, y, l, m, up, tr, s, _, rfl, ow1, fr, q4, by omega, fun p np => k' p _ (s1.trans (Same.upd np)) ?_⟩
     unfold C0t
     rw [if_neg h]
     exact A9
def C2h : Sp := fun vs H Q _ => ∃ d u t r y l m up tr q x, vs = [.ref d, .ref q] /\ OwnAt H d u t r y l m up tr /\ FrameOk r l m /\ H q = some (.tup (Nm.vs x)) /\ x.Ok /\ x.f ≠ 0 /\ ∀ p H', Same H H' -> H' p = some (.tup (C9v r l m x.s (U2 r l x.f x.p) (A3b r l x.f x.p)).vs) -> Q (.ref p) H'
theorem scLNearer : FnScope ["_law_own_here", "_law_one", "_law_whole", "_law_is_more", "_law_many", "_law_step"] ["_law_own_here", "_law_one"] (A3 A1m) := scK
theorem D5c {f f1 f2 f3 f4 : Addr} {fd fd1 fd2 fd3 fd4 : FuncData} (D : Def K mg "_law_nearer" ["_law_own_here", "_law_one"] A1m f fd) (D_l_ten : Def K mg "_law_ten" ["_law_count"] A3a f1 fd1) (G_l_ten : FnOk P w K mg base (CX1 P w) 1 f1 fd1 ["_law_count"] A5p)
   (D_l_grid : Def K mg "_law_grid" ["_law_own_here", "_law_one"] A5m f2 fd2) (G_l_grid : FnOk P w K mg base (CX1 P w) 2 f2 fd2 ["_law_own_here", "_law_one"] C3y) (D_l_most : Def K mg "_law_most" ["_law_own_here"] A3x f3 fd3) (G_l_most : FnOk P w K mg base (CX1 P w) 2 f3 fd3 ["_law_own_here"] B5g)
   (D_l_shown : Def K mg "_law_shown" ["_law_own_here", "_law_sign", "_law_many"] A1d f4 fd4) (G_l_shown : FnOk P w K mg base (CX1 P w) 2 f4 fd4 ["_law_own_here", "_law_sign", "_law_many"] B0b) (O : Own mg) : FnOk P w K mg base (CX1 P w) 3 f fd ["_law_own_here", "_law_one"] C2h := by
 refine D.F.okE scLNearer (fun vs H Q E h => ?_) (fun X cdv A outer s H vs Q E hX hr hx h => ?_)
 . obtain ⟨d, u, t, r, y, l, m, up, tr, q, x, rfl, _⟩ := h
   rfl
 . subst hX
   obtain ⟨d, u, t, r, y, l, m, up, tr, q, x, rfl, ow, fr, eq, ok, nz, k⟩ := h
   have HU := Nat.lt_of_le_of_lt (Nat.add_le_add_left (by decide : 1 <= 64) _) hr.units
   refine ⟨_, (A7 (D5a (C5 D_l_grid G_l_grid hr hx (A0 (pv 0) (A0 (pv 1) A8))) (D4a rfl (A2x (V3 (i := 2) scLNearer.nd rfl (Or.inl rfl)) (A2x (V3 (i := 3) scLNearer.nd rfl (Or.inl rfl)) C3f))))
     (A7 (C8 (i := 4) scLNearer.nd rfl (Or.inl rfl) (U0 (G6q rfl) (by rfl) O.min_ boot_min (A0 (B1 D9 (pv 2) (V0 C1q (by rfl) O.int_ boot_int (A0 (V5e (pv 3)) A8))) (A0 (C5 D_l_most G_l_most hr hx (A0 (pv 0) A8)) A8))))
     (A7 (C8 (i := 5) scLNearer.nd rfl (Or.inl rfl) (C5 D_l_ten G_l_ten hr hx (A0 (U0 (Y6 rfl) (by rfl) O.max_ boot_max (A0 A1 (A0 (B1 D9 (U0 A1f (by rfl) O.len_ PySem.boot_len (A0 (V0 A1c (by rfl) O.str_ boot_str (A0 (pv 4) A8)) A8)) (G3 HU (pv 0) B5 (fun _ _ => rfl))) A8))) A8)))
     (B0 (B9 (C5 D_l_shown G_l_shown hr hx (A0 (pv 0) (A0 (J9 U4 (pv 1) A1 (fun _ _ => rfl)) (A0 (B1 U8 (B1 D3 (pv 4) (pv 5)) (pv 5)) A8))))))))), ?_⟩
   obtain ⟨w0, w1⟩ := J3r fr ok.f0 ok.f1 ok.p1
   have gs := G6v (r := r) (l := l) (f := x.f) (p := x.p) (by have := ok.f0; omega) w0
   have t4 : A6 350 < A6 400 := by decide +kernel
   have t6 : A6 350 < A6 1000 := by decide +kernel
   refine ⟨_, rfl, _, rfl, d, u, t, r, y, l, m, up, tr, q, x, rfl, ow, fr, eq, ok, fun a H1 s1 ea => ?_⟩
   refine ⟨a, _, rfl, SqT.of ea, rfl, _, _, rfl, _, _, rfl, rfl, ?_⟩
   generalize U2 r l x.f x.p = W at *
   generalize A3b r l x.f x.p = more at *
   have ow1 := ow.same s1
   have mb := J4m fr
   refine ⟨_, rfl, _, rfl, _, rfl, .inr ⟨_, rfl, _, _, rfl, rfl, _, rfl, d, u, t, r, y, l, m, up, tr, rfl, ow1, fr, _, _, rfl, ?_⟩⟩
   have hN : (if U9 r l m < W - (if (!more) = true then 1 else 0) then U9 r l m else W - (if (!more) = true then 1 else 0)) = A0u r l m W more := by
     unfold A0u C8x
     cases more <;> rfl
   have hN' : A0u r l m W more <= W /\ 0 <= A0u r l m W more := by
     unfold A0u C8x
     cases more with
     | true => simp only [if_true]; split <;> omega
     | false =>
       have := gs rfl
       simp only [Bool.false_eq_true, if_false]
       split <;> omega
   show D3m _ _ _ [some (V.ref d), some (V.ref q), some (V.int W), some (V.bl more), some (V.int (if U9 r l m < W - (if (!more) = true then 1 else 0) then U9 r l m else W - (if (!more) = true then 1 else 0))), none] H1
   rw [hN]
   have k' : ∀ p H', Same H H' -> H' p = some (.tup (Z9 r l x.s (A0u r l m W more / A6 (G6 r (A0u r l m W more)) * A6 (G6 r (A0u r l m W more)))).vs) -> Q (.ref p) H' := k
   generalize A0u r l m W more = N at *
   obtain ⟨f1, f2, f3⟩ := C4b (M := N) (by omega) (by omega)
   have c0 : 0 <= G6 r N := by unfold G6 Y1; split <;> omega
   have c1 : G6 r N <= 401 := by have := fr.r1; unfold G6 Y1; split <;> omega
   have ps := B8 (G6 r N)
   refine ⟨_, rfl, _, rfl, f3, _, rfl, int_text_fits f3, _, rfl, d, _, rfl, ow1.gRoom, _, _, rfl, rfl, _, _, rfl, _, tn (e := G6 r N) c0, by omega, ?_⟩
   show D3m _ _ _ [some (V.ref d), some (V.ref q), some (V.int W), some (V.bl more), some (V.int N), some (V.int (A6 (G6 r N)))] H1
   have q1 : 0 <= N / A6 (G6 r N) := Int.ediv_nonneg (by omega) (by omega)
   have q2 : N / A6 (G6 r N) <= N := Int.ediv_le_self _ (by omega)
   have q3 := Int.ediv_mul_le N (Int.ne_of_gt ps)
   have q4 : 0 <= N / A6 (G6 r N) * A6 (G6 r N) := Int.mul_nonneg q1 (Int.le_of_lt ps)
   have ix1 : atI x.vs 1 = some (.int x.s) := J0 (j := 1) rfl
   refine ⟨_, rfl, _, rfl, q, _, _, _, rfl, rfl, SqT.of (s1 _ _ eq), ix1, _, rfl, _, rfl, _, _, rfl, rfl, B5k (by omega), _, rfl, _, _, rfl, rfl, U9y q1 (by omega) (by omega), ?_⟩
   exact ⟨d, u, t, r, y, l, m, up, tr, x.s, _, rfl, ow1, fr, q4, by omega, fun p np => k' p _ (s1.trans (Same.upd np)) A9⟩
end
abbrev B5w : Stmt := (top 68)
def B5f (r l m g : Int) (x : Nm) : Nm :=
 match x.k with
 | .none => x
 | .end_ => if x.s = g then x else Z9 r l x.s (U9 r l m)
 | .plain => if x.f = 0 \/ x.s = g then C0t r l m g (U2 r l x.f x.p) else C9v r l m x.s (U2 r l x.f x.p) (A3b r l x.f x.p)
theorem J4p {r l m : Int} (fr : FrameOk r l m) : U9 r l m < A6 400 := by
 have r2 := fr.r2; have l1 := fr.l1; have m2 := fr.m2
 have a : U9 r l m <= 10 ^ 24 * A6 120 := Int.mul_le_mul (by have := A7h r2; omega) (U3 (by omega)) (Int.le_of_lt (B8 _)) (by decide +kernel)
 have b : (10 : Int) ^ 24 * A6 120 < A6 400 := by decide +kernel
 omega
section
variable {P : Program} {w : World} {K : Frag} {mg : Str -> Option Value} {base : Heap}
def J4r : Sp := fun vs H Q _ => ∃ d u t r y l m up tr q x, ∃ g : Int, vs = [.ref d, .ref q, .int g] /\ OwnAt H d u t r y l m up tr /\ FrameOk r l m /\ H q = some (.tup (Nm.vs x)) /\ x.Ok /\
 ∀ p dt dl H', Same H H' -> H' p = some (.tup [.ref dt, .ref dl]) -> H' dt = some (.tup (B5f r l m g x).vs) -> H' dl = some (.lst []) -> Q (.ref p) H'
theorem V6a : FnScope ["_law_own_here", "_law_one", "_law_sign"] ["_law_own_here", "_law_one", "_law_sign"] (A3 B5w) := scK
theorem U9u {f f1 f2 f3 f4 : Addr} {fd fd1 fd2 fd3 fd4 : FuncData} (D : Def K mg "_law_due" ["_law_own_here", "_law_one", "_law_sign"] B5w f fd) (D_l_farther : Def K mg "_law_farther" ["_law_own_here", "_law_one", "_law_sign"] A0b f1 fd1) (G_l_farther : FnOk P w K mg base (CX1 P w) 3 f1 fd1 ["_law_own_here", "_law_one", "_law_sign"] B7g)
   (D_l_nearer : Def K mg "_law_nearer" ["_law_own_here", "_law_one"] A1m f2 fd2) (G_l_nearer : FnOk P w K mg base (CX1 P w) 3 f2 fd2 ["_law_own_here", "_law_one"] C2h) (D_l_most : Def K mg "_law_most" ["_law_own_here"] A3x f3 fd3) (G_l_most : FnOk P w K mg base (CX1 P w) 2 f3 fd3 ["_law_own_here"] B5g)
   (D_l_shown : Def K mg "_law_shown" ["_law_own_here", "_law_sign", "_law_many"] A1d f4 fd4) (G_l_shown : FnOk P w K mg base (CX1 P w) 2 f4 fd4 ["_law_own_here", "_law_sign", "_law_many"] B0b) : FnOk P w K mg base (CX1 P w) 4 f fd ["_law_own_here", "_law_one", "_law_sign"] J4r := by
 refine D.F.okE V6a (fun vs H Q E h => ?_) (fun X cdv A outer s H vs Q E hX hr hx h => ?_)
 . obtain ⟨d, u, t, r, y, l, m, up, tr, q, x, g, rfl, _⟩ := h
   rfl
 . subst hX
   obtain ⟨d, u, t, r, y, l, m, up, tr, q, x, g, rfl, ow, fr, eq, ok, k⟩ := h
   refine ⟨_, (A7 (G2 (C0 G4 (J9 U4 (pv 1) A1 (fun _ _ => rfl)) B5 (C7 _)) (B0 (B9 (U5 (A0 (pv 1) (A0 (Y2 A8) A8))))) C9)
     (A7 (G2 (PW.pt (C3z (C0 G4 (J9 U4 (pv 1) A1 (fun _ _ => rfl)) B5 (C7 _)) (B5p (C0 G4 (J9 U4 (pv 1) A1 (fun _ _ => rfl)) (pv 2) (C7 _))))) (B0 (B9 (U5 (A0 (pv 1) (A0 (Y2 A8) A8))))) C9)
     (A7 (G2 (C0 G4 (J9 U4 (pv 1) A1 (fun _ _ => rfl)) B5 (C7 _)) (B0 (B9 (U5 (A0 (C5 D_l_shown G_l_shown hr hx (A0 (pv 0) (A0 (J9 U4 (pv 1) A1 (fun _ _ => rfl)) (A0 (C5 D_l_most G_l_most hr hx (A0 (pv 0) A8)) A8)))) (A0 (Y2 A8) A8))))) C9)
     (A7 (G2 (PW.pt (C1k (C0 G4 (J9 U4 (pv 1) A1 (fun _ _ => rfl)) A1 (C7 _)) (B0x (C0 G4 (J9 U4 (pv 1) A1 (fun _ _ => rfl)) (pv 2) (C7 _))))) (B0 (B9 (U5 (A0 (C5 D_l_farther G_l_farther hr hx (A0 (pv 0) (A0 (pv 1) (A0 (pv 2) A8)))) (A0 (Y2 A8) A8))))) C9)
     (B0 (B9 (U5 (A0 (C5 D_l_nearer G_l_nearer hr hx (A0 (pv 0) (A0 (pv 1) A8))) (A0 (Y2 A8) A8))))))))), ?_⟩
   have z0 : 0 <= sizeLine := D5 (by decide)
   have z2 : 2 <= sizeLine := D5 (by decide)
   have ix0 : atI x.vs 0 = some (.str x.k.str) := J0 (j := 0) rfl
   have ix1 : atI x.vs 1 = some (.int x.s) := J0 (j := 1) rfl
   have ix2 : atI x.vs 2 = some (.int x.f) := J0 (j := 2) rfl
   have fin : ∀ dt H1, Same H H1 -> H1 dt = some (.tup (B5f r l m g x).vs) -> ∀ p, H1 p = none -> ∀ p2, upd H1 p (.lst []) p2 = none -> Q (.ref p2) (upd (upd H1 p (.lst [])) p2 (.tup [.ref dt, .ref p])) := fun dt H1 s1 e1 p np p2 np2 =>
     k p2 dt p _ (s1.trans ((Same.upd np).trans (Same.upd np2))) A9 ((Same.upd np2) _ _ ((Same.upd np) _ _ e1)) ((Same.upd np2) _ _ A9)
   have un : B5f r l m g x = B5f r l m g x := rfl
   conv at un => rhs; unfold B5f
   refine ⟨_, rfl, q, _, _, _, rfl, rfl, SqT.of eq, ix0, rfl, _, rfl, G9 (fun h => ?_) (fun h => ?_)⟩
   . have hk : x.k = .none := eqS (b := .none) h
     rw [hk] at un
     exact ⟨_, rfl, z0, fun p np => ⟨z2, fun p2 np2 => fin q H (Same.refl _) (by rw [un]; exact eq) p np p2 np2⟩⟩
   have hk0 : x.k ≠ .none := fun z => h (by rw [z]; rfl)
   refine ⟨_, rfl, q, _, _, _, rfl, rfl, SqT.of eq, ix0, rfl, _, rfl, G9 (fun h2 => ?_) (fun h2 => ?_)⟩
   . have hk : x.k = .end_ := eqS (b := .end_) h2
     rw [hk] at un
     refine ⟨_, rfl, q, _, _, _, rfl, rfl, SqT.of eq, ix1, _, rfl, rfl, _, rfl, G9 (fun h3 => ?_) (fun h3 => ?_)⟩
     . have h3 : x.s = g := V.int.inj h3
       have un2 : B5f r l m g x = x := un.trans (if_pos h3)
       exact ⟨_, rfl, z0, fun p np => ⟨z2, fun p2 np2 => fin q H (Same.refl _) (by rw [un2]; exact eq) p np p2 np2⟩⟩
     . have h3 : ¬ x.s = g := fun e => h3 (congrArg V.int e)
       have un2 : B5f r l m g x = Z9 r l x.s (U9 r l m) := un.trans (if_neg h3)
       refine ⟨_, rfl, q, _, _, _, rfl, rfl, SqT.of eq, ix0, rfl, _, rfl, B6h h2 ?_⟩
       refine ⟨_, rfl, _, rfl, q, _, _, _, rfl, rfl, SqT.of eq, ix1, _, rfl, d, u, t, r, y, l, m, up, tr, rfl, ow, fr, d, u, t, r, y, l, m, up, tr, x.s, _, rfl, ow, fr, J4m fr, J4p fr, fun p0 n0 => ?_⟩
       exact ⟨z0, fun p np => ⟨z2, fun p2 np2 => fin p0 _ (Same.upd n0) (by rw [un2]; exact A9) p np p2 np2⟩⟩
   . have hk : x.k = .plain := by
       cases hx : x.k with
       | plain => rfl
       | none => exact absurd hx hk0
       | end_ => exact absurd (by rw [hx]; rfl) h2
     rw [hk] at un
     refine Z2 ⟨_, rfl, q, _, _, _, rfl, rfl, SqT.of eq, ix0, rfl, _, rfl, C1h h2 ?_⟩
     have far : x.f = 0 \/ x.s = g -> _ := fun hf => un.trans (if_pos hf)
     have goF : ∀ (hf : x.f = 0 \/ x.s = g) (p0 : Addr) (H1 : Hp), Same H H1 -> H1 p0 = some (.tup (C0t r l m g (U2 r l x.f x.p)).vs) -> H1 p0 = some (.tup (B5f r l m g x).vs) := fun hf p0 H1 s1 e1 => by rw [far hf]; exact e1
     refine ⟨_, rfl, q, _, _, _, rfl, rfl, SqT.of eq, ix2, rfl, _, rfl, G9 (fun h3 => A1n ?_) (fun h3 => ?_)⟩
     . have h3 : x.f = 0 := V.int.inj h3
       refine ⟨_, rfl, _, rfl, _, rfl, d, u, t, r, y, l, m, up, tr, q, x, g, rfl, ow, fr, eq, ok, fun p0 H1 s1 e1 => ?_⟩
       exact ⟨z0, fun p np => ⟨z2, fun p2 np2 => fin p0 H1 s1 (goF (.inl h3) p0 H1 s1 e1) p np p2 np2⟩⟩
     . have h3 : ¬ x.f = 0 := fun e => h3 (congrArg V.int e)
       refine ⟨_, rfl, q, _, _, _, rfl, rfl, SqT.of eq, ix1, _, rfl, rfl, _, rfl, G9 (fun h4 => ?_) (fun h4 => ?_)⟩
       . have h4 : x.s = g := V.int.inj h4
         refine ⟨_, rfl, _, rfl, _, rfl, d, u, t, r, y, l, m, up, tr, q, x, g, rfl, ow, fr, eq, ok, fun p0 H1 s1 e1 => ?_⟩
         exact ⟨z0, fun p np => ⟨z2, fun p2 np2 => fin p0 H1 s1 (goF (.inr h4) p0 H1 s1 e1) p np p2 np2⟩⟩
       . have h4 : ¬ x.s = g := fun e => h4 (congrArg V.int e)
         have un2 : B5f r l m g x = C9v r l m x.s (U2 r l x.f x.p) (A3b r l x.f x.p) := un.trans (if_neg fun z => z.elim h3 h4)
         refine ⟨_, rfl, _, rfl, d, u, t, r, y, l, m, up, tr, q, x, rfl, ow, fr, eq, ok, h3, fun p0 H1 s1 e1 => ?_⟩
         exact ⟨z0, fun p np => ⟨z2, fun p2 np2 => fin p0 H1 s1 (by rw [un2]; exact e1) p np p2 np2⟩⟩
end
theorem D4w {r l m s : Int} (fr : FrameOk r l m) : Z9 r l s (U9 r l m) = ⟨.plain, s, A6 r - 1, m - r + 1⟩ := by
 have r1 := fr.r1; have l2 := fr.l2; have m1 := fr.m1
 have pm := B8 (m - l)
 have pr : 10 <= A6 r := A7j r1
 have t1 : A6 (r - 1) <= A6 r - 1 := by
   have := V9 (j := r - 1) (by omega)
   rw [show r - 1 + 1 = r by omega] at this
   have := B8 (r - 1)
   omega
 obtain ⟨c1, c2⟩ := D4c (N := U9 r l m) (e := m - l) (F := A6 r - 1) r1 (by omega) (by omega) (by omega) (.inr t1) (Int.le_refl _) (by unfold U9; rw [Int.add_mul]; omega)
 unfold Z9
 rw [c1, c2]
 unfold D0
 congr 1
 omega
theorem D3q {r l m g : Int} (fr : FrameOk r l m) : C0t r l m g 0 = ⟨.plain, g, 1, l - r + 1⟩ := by
 have r1 := fr.r1; have l2 := fr.l2; have m1 := fr.m1
 have e1 : A6 0 = 1 := by decide +kernel
 have f1 : A7z 1 = 1 := by decide +kernel
 have c : G6 r (0 + 1) = 0 := by
   unfold G6 Y1
   rw [Int.zero_add, f1]
   split <;> omega
 have pr : 10 <= A6 r := A7j r1
 have mo : 9 <= U9 r l m := by
   have := Int.mul_le_mul_of_nonneg_left (show (1 : Int) <= A6 (m - l) from B8 _) (show 0 <= A6 r - 1 by omega)
   rw [Int.mul_one] at this
   have z : U9 r l m = (A6 r - 1) * A6 (m - l) := rfl
   omega
 unfold C0t
 rw [c, e1]
 have q : (0 + 1 + 1 - 1) / 1 * 1 = (1 : Int) := by decide
 rw [q, if_neg (by omega)]
 unfold Z9
 have c' : G6 r 1 = 0 := c
 rw [c', e1]
 unfold D0
 congr 1
 omega
theorem V5m {v : Cv} {x : Nm} {g L : Int} (ok : v.Ok) (wf : x.Wf) (h : x.k = .plain -> x.f ≠ 0 -> Y5 x.f 1 (x.p - L)) : B5f v.r v.l v.m g x = stepN v x g L := by
 have fr : FrameOk v.r v.l v.m := ⟨ok.r1, ok.r2, ok.l1, ok.l2, ok.m1, ok.m2⟩
 obtain ⟨k, s, f, p⟩ := x
 have xo := wf.ok
 unfold B5f stepN
 cases k with
 | none =>
   obtain ⟨a, b, c⟩ := wf.n rfl
   dsimp only at a b c ⊢
   rw [a, b, c]
 | end_ =>
   dsimp only
   by_cases hs : s = g
   . rw [if_pos hs, if_pos hs]
   . rw [if_neg hs, if_neg hs, D4w fr]
 | plain =>
   dsimp only at h ⊢
   by_cases hf : f = 0
   . rw [if_pos (.inl hf), if_pos hf, hf]
     have z : U2 v.r v.l 0 p = 0 := by unfold U2; rw [Int.zero_mul, Int.zero_ediv]
     rw [z, D3q fr]
   . have sz : Sz f := ⟨by have := xo.f0; dsimp only at this; omega, Int.lt_of_le_of_lt xo.f1 (by decide +kernel)⟩
     rw [if_neg hf]
     by_cases hs : s = g
     . rw [if_pos (.inr hs), if_pos hs, V4x ok sz (h rfl hf), hs]
     . rw [if_neg (fun z => z.elim hf hs), if_neg hs, U7y ok sz (h rfl hf)]
abbrev A8j : Stmt := (top 70)
section
variable {P : Program} {w : World} {K : Frag} {mg : Str -> Option Value} {base : Heap}
def G4k (CN CC : Addr) : Sp := fun vs H Q _ => ∃ c v a b xs ys n x, ∃ g L : Int, vs = [.ref c, .ref n, .int g] /\ (g = 0 \/ g = 1) /\ CtxV CC H c v a b xs ys /\ v.Ok /\ NumIs CN H n x /\ x.Ok /\ (x.k = .plain -> x.f ≠ 0 -> Y5 x.f 1 (x.p - L)) /\
 ∀ n' H', Same H H' -> NumIs CN H' n' (stepN v x g L) -> Q (.ref n') H'
theorem U9r : FnScope ["_law_context_here", "_law_number_here", "_law_sign"] ["_law_context_here", "_law_number_here", "_law_sign"] (A3 A8j) := scK
theorem J2p {f f1 f2 CN CC : Addr} {fd fd1 fd2 : FuncData} (D : Def K mg "_law_gone" ["_law_context_here", "_law_number_here", "_law_sign"] A8j f fd) (D_next_up : Def K mg "next_up" ["context", "one"] A4e f1 fd1) (G_next_up : FnOk P w K mg base (CX1 P w) 8 f1 fd1 ["context", "one"] (C4t CN CC 0))
   (D_next_down : Def K mg "next_down" ["context", "one"] A3s f2 fd2) (G_next_down : FnOk P w K mg base (CX1 P w) 8 f2 fd2 ["context", "one"] (C4t CN CC 1)) : FnOk P w K mg base (CX1 P w) 9 f fd ["_law_context_here", "_law_number_here", "_law_sign"] (G4k CN CC) := by
 refine D.F.okE U9r (fun vs H Q E h => ?_) (fun X cdv A outer s H vs Q E hX hr hx h => ?_)
 . obtain ⟨c, v, a, b, xs, ys, n, x, g, L, rfl, _⟩ := h
   rfl
 . subst hX
   obtain ⟨c, v, a, b, xs, ys, n, x, g, L, rfl, hg, hc, ok, hn, xo, hL, k⟩ := h
   refine ⟨_, (A7 (G2 (C0 G4 (pv 2) A1 (C7 _)) (B0 (B9 (C5 D_next_up G_next_up hr hx (A0 (pv 0) (A0 (pv 1) A8))))) C9)
     (B0 (B9 (C5 D_next_down G_next_down hr hx (A0 (pv 0) (A0 (pv 1) A8)))))), ?_⟩
   refine ⟨_, rfl, rfl, _, rfl, G9 (fun h => ?_) (fun h => ?_)⟩
   . have h : g = 0 := V.int.inj h
     subst h
     exact ⟨_, rfl, _, rfl, c, v, a, b, xs, ys, n, x, L, rfl, hc, ok, hn, xo, hL, k⟩
   . have h : ¬ g = 0 := fun e => h (congrArg V.int e)
     have h : g = 1 := by omega
     subst h
     exact ⟨_, rfl, _, rfl, c, v, a, b, xs, ys, n, x, L, rfl, hc, ok, hn, xo, hL, k⟩
end
abbrev A1q : Stmt := (top 69)
def PairAt (H : Hp) (t : Addr) : Prop := ∃ f w : Int, H t = some (.tup [.int f, .int w]) /\ 0 <= f /\ f <= 10 ^ 24 /\ -150 <= w /\ w <= 150
theorem PairAt.same {H H' : Hp} {t : Addr} (h : PairAt H t) (s : Same H H') : PairAt H' t := by
 obtain ⟨f, w, e, b⟩ := h
 exact ⟨f, w, s _ _ e, b⟩
structure PairsAt (H : Hp) (p : Addr) (ts : List Addr) : Prop where
 l : H p = some (.lst (ts.map V.ref))
 t : ∀ t ∈ ts, PairAt H t
theorem PairsAt.cat {H : Hp} {p q c : Addr} {ts us : List Addr} (h : PairsAt H p ts) (h' : PairsAt H q us) (nc : H c = none) : PairsAt (upd H c (.lst (ts.map V.ref ++ us.map V.ref))) c (ts ++ us) := by
 refine ⟨by rw [A9, List.map_append], fun t ht => ?_⟩
 rcases List.mem_append.mp ht with ht | ht
 . exact (h.t t ht).same (Same.upd nc)
 . exact (h'.t t ht).same (Same.upd nc)
theorem PairsAt.same {H H' : Hp} {p : Addr} {ts : List Addr} (h : PairsAt H p ts) (s : Same H H') : PairsAt H' p ts := ⟨s _ _ h.l, fun t ht => (h.t t ht).same s⟩
theorem PairsAt.push {H : Hp} {p t : Addr} {ts : List Addr} {f w : Int} (h : PairsAt H p ts) (nt : H t = none) (b : 0 <= f /\ f <= 10 ^ 24 /\ -150 <= w /\ w <= 150) : PairsAt (upd (upd H t (.tup [.int f, .int w])) p (.lst (ts.map V.ref ++ [.ref t]))) p (ts ++ [t]) := by
 have ne : t ≠ p := Ne.symm (C6 h.l nt)
 refine ⟨by rw [A9, List.map_append]; rfl, fun z hz => ?_⟩
 rcases List.mem_append.mp hz with hz | hz
 . obtain ⟨f', w', e, b'⟩ := h.t z hz
   exact ⟨f', w', by rw [B3 (J1 e h.l (by intro q; cases q)), B3 (C6 e nt)]; exact e, b'⟩
 . obtain rfl : z = t := by simpa using hz
   exact ⟨f, w, by rw [B3 ne, A9], b⟩
theorem G5x {H H' : Hp} {p : Addr} {o : HO} (s : Same H H') (n : H p = none) : Same H (upd H' p o) := fun b u e => by
 rw [B3 (C6 e n)]
 exact s _ _ e
section
variable {P : Program} {w : World} {K : Frag} {mg : Str -> Option Value} {base : Heap}
def C1z : Sp := fun vs H Q _ => ∃ d u t r y l m up tr, ∃ c : Int, vs = [.ref d, .int c] /\ OwnAt H d u t r y l m up tr /\ FrameOk r l m /\ ∀ (x : Nm) t H', x.Wf -> Same H H' -> H' t = some (.tup x.vs) -> Q (.ref t) H'
theorem scLBorder : FnScope ["_law_own_here", "_law_cell", "_law_room", "_law_low", "_law_some", "_law_figures_here", "_law_wide"] ["_law_own_here", "_law_cell"] (A3 A1q) := scK
theorem D3k {f f1 : Addr} {fd fd1 : FuncData} (D : Def K mg "_law_border" ["_law_own_here", "_law_cell"] A1q f fd) (D_l_ten : Def K mg "_law_ten" ["_law_count"] A3a f1 fd1) (G_l_ten : FnOk P w K mg base (CX1 P w) 1 f1 fd1 ["_law_count"] A5p) (O : Own mg) :
   FnOk P w K mg base (CX1 P w) 2 f fd ["_law_own_here", "_law_cell"] C1z := by
 refine D.F.okE scLBorder (fun vs H Q E h => ?_) (fun X cdv A outer s H vs Q E hX hr hx h => ?_)
 . obtain ⟨d, u, t, r, y, l, m, up, tr, c, rfl, _⟩ := h
   rfl
 . subst hX
   obtain ⟨d, u, t, r, y, l, m, up, tr, c, rfl, ow, fr, k⟩ := h
   have HU := Nat.lt_of_le_of_lt (Nat.add_le_add_left (by decide : 1 <= 64) _) hr.units
   refine ⟨_, (A7 (C4 (C8 (i := 2) scLBorder.nd rfl (Or.inl rfl) (G3 HU (pv 0) B5 (fun _ _ => rfl))))
     (A7 (C4 (C8 (i := 3) scLBorder.nd rfl (Or.inl rfl) (G3 HU (pv 0) B5 (fun _ _ => rfl))))
     (A7 (C4 (C8 (i := 4) scLBorder.nd rfl (Or.inl rfl) (Y2 (A0 (U5 (A0 (B1 D9 (C5 D_l_ten G_l_ten hr hx (A0 (pv 2) A8)) A1) (A0 (B1 G8 (B1 D9 (G3 HU (pv 0) B5 (fun _ _ => rfl)) (pv 2)) A1) A8))) (A0 (U5 (A0 A1 (A0 (B1 G8 (G3 HU (pv 0) B5 (fun _ _ => rfl)) A1) A8))) A8)))))
     (A7 (C4 (C8 (i := 4) scLBorder.nd rfl (Or.inl rfl) (B1 D3h (pv 4) (Y2 (A0 (U5 (A0 A1 (A0 (pv 3) A8))) (A0 (U5 (A0 (C5 D_l_ten G_l_ten hr hx (A0 (B1 D9 (pv 2) A1) A8)) (A0 (pv 3) A8))) (A0 (U5 (A0 (C5 D_l_ten G_l_ten hr hx (A0 (pv 2) A8)) (A0 (pv 3) A8))) A8)))))))
     (A7 (C4 (C8 (i := 4) scLBorder.nd rfl (Or.inl rfl) (B1 D3h (pv 4) (Y2 (A0 (U5 (A0 A1 (A0 (G3 HU (pv 0) B5 (fun _ _ => rfl)) A8))) (A0 (U5 (A0 A1 (A0 (B1 D9 (B1 D7 (B1 D3 (pv 1) A1) A1) A1) A8))) A8))))))
     (A7 (C4 (Y7 (Y2j PySem.F.plainAttrs_list PySem.F.slot_list_append PySem.F.type_list_append B0r (pv 4) (A0 (U5 (A0 (B1 D9 (C5 D_l_ten G_l_ten hr hx (A0 (pv 2) A8)) A1) (A0 (B1 D9 (B1 D7 (B1 D3 (pv 1) A1) A1) A1) A8))) A8))))
     (A7 (C4 (D5a (J9 A0k (pv 4) (B1 D7 (B1 D3 (pv 1) A1) A1) (fun _ _ => rfl)) (D4a rfl (A2x (V3 (i := 5) scLBorder.nd rfl (Or.inl rfl)) (A2x (V3 (i := 6) scLBorder.nd rfl (Or.inl rfl)) C3f)))))
     (B0 (B9 (U5 (A0 B5 (A0 (B1 D7 (B1 D3 (pv 1) A1) A1) (A0 (U0 (Y6 rfl) (by rfl) O.max_ boot_max (A0 A1 (A0 (B1 D9 (B1 G8 (pv 5) (B1 D7 (B1 D3 (pv 1) A1) A1)) A1) A8))) (A0 (pv 6) A8)))))))))))))), ?_⟩
   have r1 := fr.r1; have r2 := fr.r2; have l1 := fr.l1; have l2 := fr.l2; have m1 := fr.m1; have m2 := fr.m2
   have z2 : 2 <= sizeLine := D5 (by decide)
   have z3 : 3 <= sizeLine := D5 (by decide)
   have z4 : 4 <= sizeLine := D5 (by decide)
   have g2 := A7h r2
   have g3 := A7h (show r - 1 <= 24 by omega)
   have p2 := B8 r
   have p3 := B8 (r - 1)
   have one : (1 : Int) <= 10 ^ 24 := by decide
   refine ⟨fun σ' H' => H' = H /\ σ' = [some (.ref d), some (.int c), some (.int r), none, none, none, none], ⟨_, rfl, d, _, rfl, ow.gRoom, rfl, rfl⟩, ?_⟩
   rintro σ' H1 ⟨rfl, rfl⟩
   refine ⟨fun σ' H' => H' = H1 /\ σ' = [some (.ref d), some (.int c), some (.int r), some (.int (l - r + 1)), none, none, none], ⟨_, rfl, d, _, rfl, ow.gLowest, rfl, rfl⟩, ?_⟩
   rintro σ' H2 ⟨rfl, rfl⟩
   refine ⟨fun σ' H' => ∃ p ts, Same H2 H' /\ H2 p = none /\ PairsAt H' p ts /\ ts.length = 2 /\ σ' = [some (.ref d), some (.int c), some (.int r), some (.int (l - r + 1)), some (.ref p), none, none], ?_, ?_⟩
   . refine ⟨_, rfl, _, tn (e := r) (by omega), by omega, _, _, rfl, rfl, _, rfl, d, _, rfl, ow.gMost, _, rfl, _, _, rfl, rfl, _, _, rfl, rfl, z2, fun t1 n1 => ?_⟩
     have u1 := Same.upd (o := .tup [.int (A6 r - 1), .int (m - r + 1)]) n1
     refine ⟨_, rfl, d, _, rfl, (ow.same u1).gMost, _, _, rfl, rfl, z2, fun t2 n2 => ⟨z2, fun p np => ?_⟩⟩
     have u2 := Same.upd (o := .tup [.int 1, .int (m + 1)]) n2
     have u3 := Same.upd (o := .lst [.ref t1, .ref t2]) np
     refine ⟨p, [t1, t2], (u1.trans u2).trans u3, (u1.trans u2).free np, ⟨A9, fun z hz => ?_⟩, rfl, rfl⟩
     rcases (by simpa using hz : z = t1 \/ z = t2) with rfl | rfl
     . exact ⟨A6 r - 1, m - r + 1, (u2.trans u3) _ _ A9, by omega, by omega, by omega, by omega⟩
     . exact ⟨1, m + 1, u3 _ _ A9, by omega, by omega, by omega, by omega⟩
   rintro σ' H3 ⟨p, ts, s3, np, pa, len, rfl⟩
   refine ⟨fun σ' H' => ∃ p ts, Same H2 H' /\ H2 p = none /\ PairsAt H' p ts /\ ts.length = 5 /\ σ' = [some (.ref d), some (.int c), some (.int r), some (.int (l - r + 1)), some (.ref p), none, none], ?_, ?_⟩
   . refine ⟨_, rfl, _, rfl, z2, fun t1 n1 => ⟨_, rfl, _, _, rfl, rfl, _, tn (e := r - 1) (by omega), by omega, _, rfl, z2, fun t2 n2 => ⟨_, rfl, _, tn (e := r) (by omega), by omega, _, rfl, z2, fun t3 n3 => ⟨z3, fun q nq => ?_⟩⟩⟩⟩
     have u1 := Same.upd (o := .tup [.int 1, .int (l - r + 1)]) n1
     have u2 := Same.upd (o := .tup [.int (A6 (r - 1)), .int (l - r + 1)]) n2
     have u3 := Same.upd (o := .tup [.int (A6 r), .int (l - r + 1)]) n3
     have u4 := Same.upd (o := .lst [.ref t1, .ref t2, .ref t3]) nq
     have u14 := (u1.trans u2).trans (u3.trans u4)
     have pa' := pa.same u14
     refine ⟨p, q, _, _, rfl, rfl, pa'.l, A9, D5 (by rw [List.length_map, len]; show 2 + 3 <= 1000; decide), fun c' nc => ?_⟩
     refine ⟨c', ts ++ [t1, t2, t3], s3.trans (u14.trans (Same.upd nc)), (s3.trans u14).free nc, pa'.cat (us := [t1, t2, t3]) ⟨A9, fun z hz => ?_⟩ nc, by rw [List.length_append, len]; rfl, rfl⟩
     rcases (by simpa using hz : z = t1 \/ z = t2 \/ z = t3) with rfl | rfl | rfl
     . exact ⟨1, l - r + 1, (u2.trans (u3.trans u4)) _ _ A9, by omega, by omega, by omega, by omega⟩
     . exact ⟨A6 (r - 1), l - r + 1, (u3.trans u4) _ _ A9, by omega, by omega, by omega, by omega⟩
     . exact ⟨A6 r, l - r + 1, u4 _ _ A9, by omega, by omega, by omega, by omega⟩
   rintro σ' H4 ⟨p, ts, s4, np, pa, len, rfl⟩
   have a0 := Int.emod_nonneg (c / 40) (by decide : (7 : Int) ≠ 0)
   have a1 := Int.emod_lt_of_pos (c / 40) (by decide : (0 : Int) < 7)
   refine ⟨fun σ' H' => ∃ p ts, Same H2 H' /\ H2 p = none /\ PairsAt H' p ts /\ ts.length = 7 /\ σ' = [some (.ref d), some (.int c), some (.int r), some (.int (l - r + 1)), some (.ref p), none, none], ?_, ?_⟩
   . refine ⟨_, rfl, _, rfl, d, _, rfl, (ow.same s4).gLeast, z2, fun t1 n1 => ⟨_, rfl, _, _, rfl, rfl, dv (n := 40) (by decide) (by decide +kernel), _, _, rfl, rfl, (by decide : (0 : Int) < 7), _, _, rfl, rfl, z2, fun t2 n2 => ⟨z2, fun q nq => ?_⟩⟩⟩
     have u1 := Same.upd (o := .tup [.int 1, .int l]) n1
     have u2 := Same.upd (o := .tup [.int 1, .int (c / 40 % 7 - 3)]) n2
     have u4 := Same.upd (o := .lst [.ref t1, .ref t2]) nq
     have u14 := (u1.trans u2).trans u4
     have pa' := pa.same u14
     refine ⟨p, q, _, _, rfl, rfl, pa'.l, A9, D5 (by rw [List.length_map, len]; show 5 + 2 <= 1000; decide), fun c' nc => ?_⟩
     refine ⟨c', ts ++ [t1, t2], s4.trans (u14.trans (Same.upd nc)), (s4.trans u14).free nc, pa'.cat (us := [t1, t2]) ⟨A9, fun z hz => ?_⟩ nc, by rw [List.length_append, len]; rfl, rfl⟩
     rcases (by simpa using hz : z = t1 \/ z = t2) with rfl | rfl
     . exact ⟨1, l, (u2.trans u4) _ _ A9, by omega, by omega, by omega, by omega⟩
     . exact ⟨1, c / 40 % 7 - 3, u4 _ _ A9, by omega, by omega, by omega, by omega⟩
   rintro σ' H5 ⟨p, ts, s5, np, pa, len, rfl⟩
   refine ⟨fun σ' H' => ∃ ts, Same H2 H' /\ PairsAt H' p ts /\ ts.length = 8 /\ σ' = [some (.ref d), some (.int c), some (.int r), some (.int (l - r + 1)), some (.ref p), none, none], ?_, ?_⟩
   . refine ⟨_, rfl, .inl ⟨rfl, _, SqL.of pa.l⟩, _, rfl, _, tn (e := r) (by omega), by omega, _, _, rfl, rfl, _, rfl, _, _, rfl, rfl, dv (n := 40) (by decide) (by decide +kernel), _, _, rfl, rfl, (by decide : (0 : Int) < 7), _, _, rfl, rfl, z2, fun t1 n1 => ?_⟩
     refine ⟨p, _, _, rfl, rfl, (Same.upd n1) _ _ pa.l, Nat.lt_of_le_of_lt (by rw [List.length_map, len]; decide) (G7 (Nat.le_refl _)), ?_⟩
     exact ⟨_, G5x (s5.trans (Same.upd n1)) np, pa.push (f := A6 r - 1) (w := c / 40 % 7 - 3) n1 ⟨by omega, by omega, by omega, by omega⟩, by rw [List.length_append, len]; rfl, rfl⟩
   rintro σ' H6 ⟨ts, s6, pa, len, rfl⟩
   refine ⟨fun σ' H' => ∃ fg wd : Int, H' = H6 /\ 0 <= fg /\ fg <= 10 ^ 24 /\ -150 <= wd /\ wd <= 150 /\ σ' = [some (.ref d), some (.int c), some (.int r), some (.int (l - r + 1)), some (.ref p), some (.int fg), some (.int wd)], ?_, ?_⟩
   . obtain ⟨v, hv, ix⟩ := ixv (xs := ts.map V.ref) (i := c / 4 % 8) (Int.emod_nonneg _ (by decide)) (by rw [List.length_map, len]; exact Int.emod_lt_of_pos _ (by decide))
     obtain ⟨t1, ht, rfl⟩ := List.mem_map.mp hv
     obtain ⟨fg, wd, e, b⟩ := pa.t t1 ht
     exact ⟨_, rfl, _, rfl, _, _, rfl, rfl, dv (n := 4) (by decide) (by decide +kernel), _, _, rfl, rfl, (by decide : (0 : Int) < 8), p, _, _, _, rfl, rfl, SqL.of pa.l, ix, t1, _, rfl, SqT.of e, rfl, _, _, rfl, _, _, rfl, rfl, fg, wd, rfl, b.1, b.2.1, b.2.2.1, b.2.2.2, rfl⟩
   rintro σ' H7 ⟨fg, wd, rfl, f0, f1, w0, w1, rfl⟩
   have b0 := Int.emod_nonneg (c / 300) (by decide : (3 : Int) ≠ 0)
   have b1 := Int.emod_lt_of_pos (c / 300) (by decide : (0 : Int) < 3)
   have c0 := Int.emod_nonneg (c / 2) (by decide : (2 : Int) ≠ 0)
   have c1 := Int.emod_lt_of_pos (c / 2) (by decide : (0 : Int) < 2)
   have big : (10 ^ 24 : Int) + 2 <= 10 ^ 60 - 1 := by decide +kernel
   refine ⟨_, rfl, _, _, rfl, rfl, dv (n := 2) (by decide) (by decide +kernel), _, _, rfl, rfl, (by decide : (0 : Int) < 2), _, rfl, _, rfl, _, _, rfl, rfl, dv (n := 300) (by decide) (by decide +kernel), _, _, rfl, rfl, (by decide : (0 : Int) < 3), _, _, rfl, rfl, _, _, rfl, rfl, _, _, rfl, _, rfl, z4, fun t1 n1 => ?_⟩
   refine k ⟨.plain, c / 2 % 2, if fg + c / 300 % 3 - 1 > 0 then fg + c / 300 % 3 - 1 else 0, wd⟩ t1 _ (B5z ⟨c0, by omega⟩ ?_ ⟨by omega, by omega⟩) (s6.trans (Same.upd n1)) A9
   split <;> omega
end
theorem V6f (n : Nat) : ([n + 1 + 1 + 1, n + 1 + 1, n + 1] : List Nat).Nodup := by
 refine List.nodup_cons.mpr ⟨fun h => ?_, List.nodup_cons.mpr ⟨fun h => ?_, List.nodup_cons.mpr ⟨fun h => ?_, List.nodup_nil⟩⟩⟩
 . simp only [List.mem_cons, List.not_mem_nil, or_false] at h
   omega
 . simp only [List.mem_cons, List.not_mem_nil, or_false] at h
   omega
 . simp only [List.not_mem_nil] at h
structure Held (CN CC CT P0 : Addr) (pos : Pos) (qual : Str) (K : Frag) (sc : Addr) (ns : List Int) (d t c b : Addr) (r : Int) (y : Wy) (l m : Int) (up tr : List Str) (H : Hp) (a u : Addr) : Prop where
 own : OwnAt H d u t r y l m up tr
 ctx : CtxAt CC H c r y l m a b (up.map V.str) (tr.map V.str)
 tab : TabOk P0 pos qual H
 scr : SqL K H sc (ns.map V.int)
theorem OwnAt.keep {H H' : Hp} {d u t : Addr} {r l m : Int} {y : Wy} {up tr : List Str} (h : OwnAt H d u t r y l m up tr) (s : D5g H H') : OwnAt H' d u t r y l m up tr := ⟨s _ _ (fun _ z => by cases z) h.d, s _ _ (fun _ z => by cases z) h.u, s _ _ (fun _ z => by cases z) h.t⟩
theorem CtxAt.keep {CC : Addr} {H H' : Hp} {c : Addr} {r : Int} {y : Wy} {l m : Int} {a b : Addr} {xs ys : List V} (h : CtxAt CC H c r y l m a b xs ys) (s : D5g H H') : CtxAt CC H' c r y l m a b xs ys := by
 obtain ⟨⟨dx, e⟩, ha, hb⟩ := h
 exact ⟨⟨dx, s _ _ (fun _ z => by cases z) e⟩, s _ _ (fun _ z => by cases z) ha, s _ _ (fun _ z => by cases z) hb⟩
theorem NumIs.keep {CN : Addr} {H H' : Hp} {n : Addr} {x : Nm} (h : NumIs CN H n x) (s : D5g H H') : NumIs CN H' n x := by
 obtain ⟨dx, e⟩ := h
 exact ⟨dx, s _ _ (fun _ z => by cases z) e⟩
theorem CtxAt.hide {CC : Addr} {H : Hp} {cs : List Addr} {c : Addr} {r : Int} {y : Wy} {l m : Int} {a b : Addr} {xs ys : List V} (h : CtxAt CC H c r y l m a b xs ys) (A : AllFrz cs H) : CtxAt CC (U1 cs H) c r y l m a b xs ys := by
 obtain ⟨⟨dx, e⟩, ha, hb⟩ := h
 exact ⟨⟨dx, A.hide e (fun _ z => by cases z)⟩, A.hide ha (fun _ z => by cases z), A.hide hb (fun _ z => by cases z)⟩
theorem OwnAt.hide {H : Hp} {cs : List Addr} {d u t : Addr} {r l m : Int} {y : Wy} {up tr : List Str} (h : OwnAt H d u t r y l m up tr) (A : AllFrz cs H) : OwnAt (U1 cs H) d u t r y l m up tr := ⟨A.hide h.d (fun _ z => by cases z), A.hide h.u (fun _ z => by cases z), A.hide h.t (fun _ z => by cases z)⟩
theorem NumIs.hide {CN : Addr} {H : Hp} {cs : List Addr} {n : Addr} {x : Nm} (h : NumIs CN H n x) (A : AllFrz cs H) : NumIs CN (U1 cs H) n x := by
 obtain ⟨dx, e⟩ := h
 exact ⟨dx, A.hide e (fun _ z => by cases z)⟩
theorem NumIs.back {CN : Addr} {H H' : Hp} {cs : List Addr} {n : Addr} {x : Nm} (h : NumIs CN H' n x) (hn : ∀ c ∈ cs, H' c = none) : NumIs CN (Z3 cs H H') n x := by
 obtain ⟨dx, e⟩ := h
 exact ⟨dx, by rw [V4 fun z => by rw [hn n z] at e; cases e]; exact e⟩
section
variable {P : Program} {w : World} {K : Frag} {mg : Str -> Option Value} {base : Heap}
variable {CN CC CT P0 : Addr} {pos : Pos} {qual : Str} {sc : Addr} {ns : List Int} {d t c b : Addr} {r : Int} {y : Wy} {l m : Int} {up tr : List Str} {H : Hp} {a u : Addr}
theorem Held.same {H' : Hp} (h : Held CN CC CT P0 pos qual K sc ns d t c b r y l m up tr H a u) (s : Same H H') : Held CN CC CT P0 pos qual K sc ns d t c b r y l m up tr H' a u := ⟨h.own.same s, h.ctx.same s, h.tab.same s, s.seq h.scr⟩
theorem V0g {k : Nat} {params : Arguments} {body : Expr} {scope : Scope} {cl : List (Str × Addr)} {vs : List V} {spd : Hp -> VK -> XK -> Prop} {H3 H4 : Hp} {f q dt dl : Addr} {zs : List Str} {x : Nm} {Q : VK} {E : XK}
   (h : Held CN CC CT P0 pos qual K sc ns d t c b r y l m up tr H a u) (su : SubS up) (st : SubS tr) (sT : SameT P0 H H3) (tab : TabOk P0 pos qual H3) (la : LamAt H3 f qual params body scope cl)
   (hn : ∀ c ∈ cl.map (·.2), H3 c = none) (ho : ∀ b, b ∉ cl.map (·.2) -> H4 b = H3 b) (A4 : AllFrz (cl.map (·.2)) H4) (kn : ∀ (i : Nat) (x : Str) (c : Addr), cl[i]? = some (x, c) -> ∃ v, vs[i]? = some v /\ Knows H4 c v)
   (eq : H q = some (.tup [.ref dt, .ref dl])) (et : H dt = some (.tup x.vs)) (el : H dl = some (.lst (zs.map V.str))) (lz : zs.length <= 100) (ok : A4d (A9z x.k.str x.s x.f x.p))
   (DO : DeedOk P w K mg base k f (V6r f qual params body scope cl vs) spd)
   (hD : ∀ H', D5g H H4 -> Exc d H4 H' -> CtxAt CC H' c r y l m a b (up.map V.str) (tr.map V.str) -> J2k CN CC CT c r y l m b up tr zs x spd H')
   (fin : ∀ a' u' H5, Exc2 c d H3 (U1 (cl.map (·.2)) H5) -> Held CN CC CT P0 pos qual K sc ns d t c b r y l m (Y4 (up ++ zs)) tr (U1 (cl.map (·.2)) H5) a' u' -> Q (.bl true) H5) :
   B0h P w K mg base k CN CC CT [.ref c, .ref d, .ref f, .ref q] H4 Q E := by
 obtain ⟨ps, eP, _⟩ := h.tab
 have k3 : D5g H H3 := sT.keep eP
 have k34 : ∀ b o, H3 b = some o -> H4 b = some o := fun b o e => by
   rw [ho b fun z => by rw [hn b z] at e; cases e]
   exact e
 have k4 : D5g H H4 := fun b o n e => k34 b o (k3 b o n e)
 obtain ⟨dx, ec⟩ := (h.ctx.keep k4).ins
 have ed := (h.own.keep k4).d
 refine ⟨c, d, f, q, dt, dl, a, b, u, t, r, y, l, m, up, tr, zs, x, _, spd, rfl, h.ctx.keep k4, h.own.keep k4, su, st, k4 _ _ (fun _ z => by cases z) eq, k4 _ _ (fun _ z => by cases z) et, k4 _ _ (fun _ z => by cases z) el, lz, ok, DO, fun H' x' => ?_, fun H' x' => hD H' k4 x', fun a' u' H5 x5 c5 o5 => ?_⟩
 . have nd : ∀ b o, H4 b = some (.frz o (.own b)) -> H' b = some (.frz o (.own b)) := fun b o e => x' _ _ e (J1 e ed (by intro z; cases z))
   refine ⟨(la.kept fun b o e => k34 b _ e).kept nd, fun i x c' hi => ?_⟩
   obtain ⟨v, hv, hk⟩ := kn i x c' hi
   exact ⟨v, hv, hk.kept nd⟩
 . have A5 : AllFrz (cl.map (·.2)) H5 := fun c' hc' => by
     obtain ⟨o, e⟩ := A4 c' hc'
     exact ⟨o, x5 _ _ e (J1 e ec (by intro z; cases z)) (J1 e ed (by intro z; cases z))⟩
   have x36 : Exc2 c d H3 (U1 (cl.map (·.2)) H5) := fun b o e n1 n2 => by
     rw [V8 fun z => by rw [hn b z] at e; cases e]
     exact x5 b o (k34 b o e) n1 n2
   have e3c := (h.ctx.keep k3).ins
   have e3d := (h.own.keep k3).d
   obtain ⟨dx3, e3c⟩ := e3c
   refine fin a' u' _ x36 ⟨o5.hide A5, c5.hide A5, tab.at fun b o e hb => ?_, (h.scr.kept fun o e _ => k3 _ _ ?_ e).kept fun o e hb => ?_⟩
   . rcases hb with rfl | ⟨oc, rfl⟩
     . obtain ⟨ps3, z, _⟩ := tab
       rw [z] at e
       cases e
       exact x36 _ _ z (J1 z e3c (by intro z; cases z)) (J1 z e3d (by intro z; cases z))
     . exact x36 _ _ e (J1 e e3c (by intro z; cases z)) (J1 e e3d (by intro z; cases z))
   . rename_i hb
     rcases hb with rfl | ⟨oc, rfl⟩ <;> exact fun _ z => by cases z
   . rcases hb with rfl | ⟨oc, rfl⟩
     . exact x36 _ _ e (J1 e e3c (by intro z; cases z)) (J1 e e3d (by intro z; cases z))
     . exact x36 _ _ e (J1 e e3c (by intro z; cases z)) (J1 e e3d (by intro z; cases z))
end
abbrev C0x : Stmt := (top 71)
theorem V0h {f p : Int} (hf : 1 <= f) : ∃ L, Y5 f 1 (p - L) := by
 obtain ⟨n, rfl⟩ := Int.eq_ofNat_of_zero_le (show 0 <= f by omega)
 have hn : 1 <= n := by omega
 have : ∀ k n : Nat, 1 <= n -> n < 10 ^ k -> ∃ j, 10 ^ j <= n /\ n < 10 ^ (j + 1) := by
   intro k
   induction k with
   | zero => intro n h1 h2; simp at h2; omega
   | succ k ih =>
     intro n h1 h2
     by_cases h : n < 10 ^ k
     . exact ih n h1 h
     . exact ⟨k, by omega, h2⟩
 obtain ⟨j, j1, j2⟩ := this n n hn (Nat.lt_pow_self (by decide))
 refine ⟨p + j, ?_, ?_⟩
 . have e : p - (p + (j : Int)) = -(j : Int) := by omega
   rw [e]
   unfold A6
   rw [show (- -(j : Int)).toNat = j by omega, show (-(j : Int)).toNat = 0 by omega]
   show (1 : Int) * ((10 ^ j : Nat) : Int) <= (n : Int) * ((10 ^ 0 : Nat) : Int)
   omega
 . have e : p - (p + (j : Int)) = -(j : Int) := by omega
   rw [e]
   unfold A6
   rw [show (- -(j : Int)).toNat = j by omega, show (-(j : Int)).toNat = 0 by omega]
   show (n : Int) * ((10 ^ 0 : Nat) : Int) < 10 * (1 * ((10 ^ j : Nat) : Int))
   rw [Nat.pow_succ] at j2
   omega
theorem U8r {f p L : Int} (f1 : 1 <= f) (f2 : f < 10 ^ 60) (h : Y5 f 1 (p - L)) : p <= L /\ L <= p + 60 := by
 obtain ⟨a, b⟩ := h
 rw [Int.one_mul] at a b
 constructor
 . apply Classical.byContradiction
   intro z
   have e : A6 (-(p - L)) = 1 := by
     unfold A6
     rw [show (-(p - L)).toNat = 0 by omega]
     rfl
   rw [e] at b
   have : A6 1 <= A6 (p - L) := U3 (by omega)
   have e1 : A6 1 = 10 := by decide +kernel
   have : 1 * A6 (p - L) <= f * A6 (p - L) := Int.mul_le_mul_of_nonneg_right f1 (Int.le_of_lt (B8 _))
   omega
 . apply Classical.byContradiction
   intro z
   have e : A6 (p - L) = 1 := by
     unfold A6
     rw [show (p - L).toNat = 0 by omega]
     rfl
   rw [e, Int.mul_one] at a
   have : A6 60 <= A6 (-(p - L)) := U3 (by omega)
   have e1 : A6 60 = 10 ^ 60 := by decide +kernel
   omega
theorem G8a {v : Cv} {x : Nm} {g L : Int} (ok : v.Ok) (wf : x.Wf) (hg : g = 0 \/ g = 1) (h : x.k = .plain -> x.f ≠ 0 -> Y5 x.f 1 (x.p - L)) : A4d (A9z (stepN v x g L).k.str (stepN v x g L).s (stepN v x g L).f (stepN v x g L).p) := by
 have r1 := ok.r1; have r2 := ok.r2; have l1 := ok.l1; have l2 := ok.l2; have m1 := ok.m1; have m2 := ok.m2
 have t24 := A7h r2
 have tp := B8 v.r
 have big : (10 : Int) ^ 24 + 1000 < 10 ^ 61 := by decide +kernel
 have bigN : ((10 ^ 61 : Nat) : Int) = 10 ^ 61 := by decide +kernel
 have q1 := wf.ok.s0; have q2 := wf.ok.s1; have q3 := wf.ok.f0; have q4 := wf.ok.f1; have q5 := wf.ok.p0; have q6 := wf.ok.p1
 obtain ⟨k, s, f, p⟩ := x
 dsimp only at q1 q2 q3 q4 q5 q6 h
 have sm : ∀ {z : Int}, -(10 ^ 24 + 1000) <= z -> z <= 10 ^ 24 + 1000 -> z.natAbs < 10 ^ 61 := fun {z} a b => by omega
 unfold stepN
 cases k with
 | none => exact B4v (x := ⟨.none, 0, 0, 0⟩) (by decide) (by decide) (by decide)
 | end_ =>
   dsimp only
   split
   . exact Y1a wf.ok
   . exact B4v (sm (by dsimp only; omega) (by dsimp only; omega)) (sm (by dsimp only; omega) (by dsimp only; omega)) (sm (by dsimp only; omega) (by dsimp only; omega))
 | plain =>
   dsimp only at h ⊢
   split
   . exact B4v (sm (by dsimp only; omega) (by dsimp only; omega)) (sm (by dsimp only; omega) (by dsimp only; omega)) (sm (by dsimp only; omega) (by dsimp only; omega))
   . rename_i hf
     have hl := h rfl hf
     obtain ⟨b1, b2⟩ := U8r (by omega) (by omega) hl
     have sz : Sz f := ⟨by omega, Int.lt_of_le_of_lt q4 (by decide +kernel)⟩
     obtain ⟨w0, w1⟩ := B6u ok sz hl
     have fb : -100 <= v.fin L /\ v.fin L <= 300 := by
       unfold Cv.fin Y1
       split <;> omega
     have rb : -(10 ^ 24 + 1000) <= (V5 v.r (whI f 1 (p - v.fin L) + 1) (v.fin L)).1 /\ (V5 v.r (whI f 1 (p - v.fin L) + 1) (v.fin L)).1 <= 10 ^ 24 + 1000 /\ -(10 ^ 24 + 1000) <= (V5 v.r (whI f 1 (p - v.fin L) + 1) (v.fin L)).2 /\ (V5 v.r (whI f 1 (p - v.fin L) + 1) (v.fin L)).2 <= 10 ^ 24 + 1000 := by
       unfold V5
       split <;> (dsimp only; omega)
     have sb := sm (z := s) (by omega) (by omega)
     split
     . unfold G7r
       split
       . exact B4v sb (by show (0 : Int).natAbs < 10 ^ 61; decide) (by show (0 : Int).natAbs < 10 ^ 61; decide)
       . exact B4v sb (sm rb.1 rb.2.1) (sm rb.2.2.1 rb.2.2.2)
     . unfold C2f
       split
       . exact B4v sb (sm (by dsimp only; omega) (by dsimp only; omega)) (sm (by dsimp only; omega) (by dsimp only; omega))
       . split
         . split <;> exact B4v sb (sm (by dsimp only; omega) (by dsimp only; omega)) (sm (by dsimp only; omega) (by dsimp only; omega))
         . exact B4v sb (sm (by dsimp only; omega) (by dsimp only; omega)) (sm (by dsimp only; omega) (by dsimp only; omega))
theorem U8h (tr : List Str) : hit tr [] = none := by
 unfold hit
 rw [List.find?_eq_none]
 simp
theorem C9y {up : List Str} (su : SubS up) : Y4 (up ++ []) = up := B7j su (fun z => by simp)
def D5f : Str := ("law" : Str) ++ ".<locals>." ++ "<lambda>"
def D3f : Pos := ⟨429, 61, 429, 120⟩
section
variable {P : Program} {w : World} {K : Frag} {mg : Str -> Option Value} {base : Heap}
def U8d (CN CC c n : Addr) (v : Cv) (x : Nm) (g L : Int) : Hp -> VK -> XK -> Prop := fun H Q _ => (∃ a b xs ys, CtxV CC H c v a b xs ys) /\ NumIs CN H n x /\ ∀ n' H1, Same H H1 -> NumIs CN H1 n' (stepN v x g L) -> Q (.ref n') H1
def G4b (K : Frag) (P0 : Addr) : Sp := fun vs H Q _ => ∃ a ns, vs = [.ref a] /\ (ns : List Int).length <= 63 /\ SqL K H a (ns.map V.int) /\ H P0 = some (.tbl #[]) /\ ∀ H', Q (.bl true) H'
theorem scLaw : FnScope ["_law_script", "_law_own_here", "_law_context_here", "_law_one", "_law_first", "_law_turn", "_law_sign", "_law_due_here"] ["_law_script"] (A3 C0x) := scK
theorem V5w {f cc P0 f1 f2 f3 f4 f5 f6 f7 f8 f9 f10 CC CN CB CT : Addr} {fd fd1 fd2 fd3 fd4 fd5 fd6 fd7 fd8 fd9 fd10 : FuncData} (D : Def K mg "law" ["_law_script"] C0x f fd) (hcode : fd.code = .ref cc) (LB : LamB mg base cc P0)
   (D_l_cell_at : Def K mg "_law_cell_at" ["_law_script", "_law_k"] B6j f1 fd1) (G_l_cell_at : FnOk P w K mg base (CX1 P w) 1 f1 fd1 ["_law_script", "_law_k"] (J3z K)) (D_l_own : Def K mg "_law_own" ["_law_cell"] B7a f2 fd2) (G_l_own : FnOk P w K mg base (CX1 P w) 2 f2 fd2 ["_law_cell"] J2x)
   (D_l_context : Def K mg "_law_context" ["_law_own_here"] Z7 f3 fd3) (G_l_context : FnOk P w K mg base (CX1 P w) 5 f3 fd3 ["_law_own_here"] (B6d CC)) (D_l_number : Def K mg "_law_number" ["_law_cell"] A1s f4 fd4) (G_l_number : FnOk P w K mg base (CX1 P w) 3 f4 fd4 ["_law_cell"] C1y)
   (D_l_border : Def K mg "_law_border" ["_law_own_here", "_law_cell"] A1q f5 fd5) (G_l_border : FnOk P w K mg base (CX1 P w) 2 f5 fd5 ["_law_own_here", "_law_cell"] C1z) (D_l_made : Def K mg "_law_made" ["_law_one"] A8e f6 fd6) (G_l_made : FnOk P w K mg base (CX1 P w) 4 f6 fd6 ["_law_one"] (G4p CN))
   (D_l_due : Def K mg "_law_due" ["_law_own_here", "_law_one", "_law_sign"] B5w f7 fd7) (G_l_due : FnOk P w K mg base (CX1 P w) 4 f7 fd7 ["_law_own_here", "_law_one", "_law_sign"] J4r) (D_l_stands : Def K mg "_law_stands" ["_law_context_here", "_law_own_here", "_law_deed", "_law_due_here"] A1u f8 fd8) (G_l_stands : FnOkG P w K mg base (CX1 P w) 12 f8 fd8 ["_law_context_here", "_law_own_here", "_law_deed", "_law_due_here"] (B0h P w K mg base 10 CN CC CT))
   (D_l_gone : Def K mg "_law_gone" ["_law_context_here", "_law_number_here", "_law_sign"] A8j f9 fd9) (G_l_gone : FnOk P w K mg base (CX1 P w) 9 f9 fd9 ["_law_context_here", "_law_number_here", "_law_sign"] (G4k CN CC)) (D_told : Def K mg "told" ["number"] B4r f10 fd10) (G_told : FnOk P w K mg base (CX1 P w) 2 f10 fd10 ["number"] (D3g K CN CB))
   (C : CtxC K mg CC) (MT : Has P w K mg base CC "traps" 1 ["self"] (A8g CC)) (O : Own mg) : FnOkG P w K mg base (CX1 P w) 13 f fd ["_law_script"] (G4b K P0) := by
 refine D.F.okEL hcode scLaw (fun vs H Q E h => ?_) (fun X A outer s H vs Q E hX HG hr hx h => ?_)
 . obtain ⟨a, ns, rfl, _⟩ := h
   rfl
 . subst hX
   obtain ⟨sc, ns, rfl, n63, hS, hP, kk⟩ := h
   obtain ⟨ff, fdf, mf, gf, bf⟩ := MT
   have HU := Nat.lt_of_le_of_lt (Nat.add_le_add_left (by decide : 1 <= 64) _) hr.units
   have CZ : CellsZ [("_law_sign", s.heap.objs.size + 1 + 1 + 1), ("_law_first", s.heap.objs.size + 1 + 1), ("_law_context_here", s.heap.objs.size + 1)] [6, 4, 2] ["_law_script", "_law_own_here", "_law_context_here", "_law_one", "_law_first", "_law_turn", "_law_sign", "_law_due_here"] (envOfC "law" (A3 C0x) s.heap.objs.size f (.ref cc)) := ⟨fun i x c h => by
     rcases i with _ | _ | _ | i
     . obtain ⟨rfl, rfl⟩ := Prod.mk.inj (Option.some.inj h)
       exact ⟨rfl, rfl, fun j hj => by cases hj; rfl⟩
     . obtain ⟨rfl, rfl⟩ := Prod.mk.inj (Option.some.inj h)
       exact ⟨rfl, rfl, fun j hj => by cases hj; rfl⟩
     . obtain ⟨rfl, rfl⟩ := Prod.mk.inj (Option.some.inj h)
       exact ⟨rfl, rfl, fun j hj => by cases hj; rfl⟩
     . cases h⟩
   refine ⟨_, (A7 (C4 (C8 (i := 1) scLaw.nd rfl (Or.inl rfl) (C5 D_l_own G_l_own hr hx (A0 (C5 D_l_cell_at G_l_cell_at hr hx (A0 (pv 0) (A0 A1 A8))) A8))))
     (A7 (C4 (C8 (i := 2) scLaw.nd rfl (Or.inr rfl) (C5 D_l_context G_l_context hr hx (A0 (pv 1) A8))))
     (A7 (C4 (C8 (i := 3) scLaw.nd rfl (Or.inl rfl) (C5 D_l_number G_l_number hr hx (A0 (C5 D_l_cell_at G_l_cell_at hr hx (A0 (pv 0) (A0 A1 A8))) A8))))
     (A7 (C4 (G2 (C0 G4 (B1 D7 (C5 D_l_cell_at G_l_cell_at hr hx (A0 (pv 0) (A0 A1 A8))) A1) A1 (C7 _)) (B0 (C4 (C8 (i := 3) scLaw.nd rfl (Or.inl rfl) (C5 D_l_border G_l_border hr hx (A0 (pv 1) (A0 (C5 D_l_cell_at G_l_cell_at hr hx (A0 (pv 0) (A0 A1 A8))) A8)))))) C9))
     (A7 (C4 (C8 (i := 4) scLaw.nd rfl (Or.inr rfl) (C5 D_l_made G_l_made hr hx (A0 (pv 3) A8))))
     (A7 (C4 (C3g PassesOwn.leaving rfl (A7e rfl O.range_ (A0 A1 A8)) (V3 (i := 5) scLaw.nd rfl (Or.inl rfl)) (A7 (C4 (C8 (i := 6) scLaw.nd rfl (Or.inr rfl) (B1 D7 (B1 G8 (pv 5) (C5 D_l_cell_at G_l_cell_at hr hx (A0 (pv 0) (A0 A1 A8)))) A1)))
     (A7 (C4 (C8 (i := 7) scLaw.nd rfl (Or.inl rfl) (C5 D_l_due G_l_due hr hx (A0 (pv 1) (A0 (pv 3) (A0 (pv 6) A8))))))
     (A7 (C4 (G2 (A5g (A2m (V6c D_l_stands G_l_stands HG hr hx CZ (A0 (pv 2) (A0 (pv 1) (A0 (G8b LB rfl (by rfl)) (A0 (pv 7) A8))))))) (B0 (B9 J5r)) C9))
     (B0 (C4 (G2 (C0 (V5z hr.units) (C5 D_told G_told hr hx (A0 (pv 4) A8)) (pv 3) (C7 _)) (B0 (B9 J5r)) C9))))))))
     (B0 (B9 (A0n (C3s hr.units) (A5k (pv 2) C.cl mf gf hr bf .nil hx) (G3 HU (pv 1) B5 (fun _ _ => rfl)) (C7 _)))))))))), ?_⟩
   refine ⟨fun σ' H' => ∃ d u t r y l m up tr, Same H H' /\ FrameOk r l m /\ SubS up /\ SubS tr /\ OwnAt H' d u t r y l m up tr /\ σ' = [some (.ref sc), some (.ref d), none, none, none, none, none, none], ?_, ?_⟩
   . exact ⟨_, rfl, sc, ns, 0, rfl, hS, by decide, fun c0 => ⟨c0, rfl, fun d u t r y l m up tr H' s' _ _ _ fr su st ow => ⟨d, u, t, r, y, l, m, up, tr, s', fr, su, st, ow, rfl⟩⟩⟩
   rintro σ' H1 ⟨d, u, t, r, y, l, m, up, tr, s1, fr, su, st, ow1, rfl⟩
   refine ⟨fun σ' H' => ∃ c a b, Held CN CC CT P0 D3f D5f K sc ns d t c b r y l m up tr H' a u /\ σ' = [some (.ref sc), some (.ref d), some (.ref c), none, none, none, none, none], ?_, ?_⟩
   . exact ⟨_, rfl, d, u, t, r, y, l, m, up, tr, rfl, ow1, fr, su, st, fun c a b H' s' _ hc => ⟨c, a, b, ⟨ow1.same s', hc, U9z ((s1.trans s') _ _ hP), (s1.trans s').seq hS⟩, rfl⟩⟩
   rintro σ' H2 ⟨c, a, b, h2, rfl⟩
   refine ⟨fun σ' H' => ∃ (x : Nm) (q : Addr), Held CN CC CT P0 D3f D5f K sc ns d t c b r y l m up tr H' a u /\ x.Wf /\ H' q = some (.tup x.vs) /\ σ' = [some (.ref sc), some (.ref d), some (.ref c), some (.ref q), none, none, none, none], ?_, ?_⟩
   . exact ⟨_, rfl, sc, ns, 1, rfl, h2.scr, by decide, fun c1 => ⟨c1, rfl, fun x q H' wf s' e => ⟨x, q, h2.same s', wf, e, rfl⟩⟩⟩
   rintro σ' H3 ⟨x, q, h3, wf, eq, rfl⟩
   refine ⟨fun σ' H' => ∃ (x : Nm) (q : Addr), Held CN CC CT P0 D3f D5f K sc ns d t c b r y l m up tr H' a u /\ x.Wf /\ H' q = some (.tup x.vs) /\ σ' = [some (.ref sc), some (.ref d), some (.ref c), some (.ref q), none, none, none, none], ?_, ?_⟩
   . refine ⟨_, rfl, sc, ns, 2, rfl, h3.scr, by decide, fun c2 => ⟨_, _, rfl, rfl, (by decide : (0 : Int) < 2), rfl, _, rfl, G9 (fun _ => ?_) (fun _ => ⟨x, q, h3, wf, eq, rfl⟩)⟩⟩
     refine ⟨_, ?_, fun _ _ h => h⟩
     exact ⟨_, rfl, _, rfl, sc, ns, 2, rfl, h3.scr, by decide, fun c3 => ⟨d, u, t, r, y, l, m, up, tr, c3, rfl, h3.own, fr, fun x q H' wf s' e => ⟨x, q, h3.same s', wf, e, rfl⟩⟩⟩
   clear h3 wf eq
   rintro σ' H4 ⟨x, q, h4, wf, eq, rfl⟩
   refine ⟨fun σ' H' => ∃ n, Held CN CC CT P0 D3f D5f K sc ns d t c b r y l m up tr H' a u /\ n ≠ c /\ NumIs CN H' n x /\ H' q = some (.tup x.vs) /\ σ' = [some (.ref sc), some (.ref d), some (.ref c), some (.ref q), some (.ref n), none, none, none], ?_, ?_⟩
   . refine ⟨_, rfl, q, x, rfl, eq, wf, fun n H' nn s' num => ⟨n, h4.same s', ?_, num, s' _ _ eq, rfl⟩⟩
     obtain ⟨dx, ec⟩ := h4.ctx.ins
     exact Ne.symm (C6 ec nn)
   rintro σ' H5 ⟨n, h5, nc, num5, eq5, rfl⟩
   have ok : (Cv.mk r y l m).Ok := ⟨fr.r1, fr.r2, fr.l1, fr.l2, fr.m1, fr.m2⟩
   obtain ⟨L, hL⟩ : ∃ L, x.k = .plain -> x.f ≠ 0 -> Y5 x.f 1 (x.p - L) := by
     by_cases h : x.f = 0
     . exact ⟨0, fun _ z => absurd h z⟩
     . obtain ⟨L, hL⟩ := V0h (f := x.f) (p := x.p) (by have := wf.ok.f0; omega)
       exact ⟨L, fun _ _ => hL⟩
   have due : ∀ g, B5f r l m g x = stepN ⟨r, y, l, m⟩ x g L := fun g => V5m (v := ⟨r, y, l, m⟩) ok wf hL
   refine ⟨fun σ' H' => ∃ a u v5 v6 v7, Held CN CC CT P0 D3f D5f K sc ns d t c b r y l m up tr H' a u /\ σ' = [some (.ref sc), some (.ref d), some (.ref c), some (.ref q), some (.ref n), v5, v6, v7], ⟨4, rfl, by decide, by decide, B0m (n := 4) (fun i σ' H' => ∃ a u v5 v6 v7, Held CN CC CT P0 D3f D5f K sc ns d t c b r y l m up tr H' a u /\ NumIs CN H' n x /\ H' q = some (.tup x.vs) /\ σ' = [some (.ref sc), some (.ref d), some (.ref c), some (.ref q), some (.ref n), v5, v6, v7]) ⟨a, u, none, none, none, h5, num5, eq5, rfl⟩ ?_ ?_⟩, ?_⟩
   . clear h5 num5 eq5 h4 eq
     rintro i σ' H6 hi ⟨a, u, v5, v6, v7, h6, num6, eq6, rfl⟩
     refine ⟨fun σ' H' => ∃ g : Int, (g = 0 \/ g = 1) /\ H' = H6 /\ σ' = [some (.ref sc), some (.ref d), some (.ref c), some (.ref q), some (.ref n), some (.int (0 + (i : Int))), some (.int g), v7], ?_, ?_⟩
     . refine ⟨_, rfl, _, rfl, sc, ns, 3, rfl, h6.scr, by decide, fun c3 => ⟨_, _, rfl, rfl, _, _, rfl, rfl, (by decide : (0 : Int) < 2), _, ?_, rfl, rfl⟩⟩
       omega
     rintro σ' H7 ⟨g, hg, rfl, rfl⟩
     refine ⟨fun σ' H' => ∃ p dt dl, Same H7 H' /\ H' p = some (.tup [.ref dt, .ref dl]) /\ H' dt = some (.tup (stepN ⟨r, y, l, m⟩ x g L).vs) /\ H' dl = some (.lst []) /\ σ' = [some (.ref sc), some (.ref d), some (.ref c), some (.ref q), some (.ref n), some (.int (0 + (i : Int))), some (.int g), some (.ref p)], ?_, ?_⟩
     . refine ⟨_, rfl, _, rfl, _, rfl, d, u, t, r, y, l, m, up, tr, q, x, g, rfl, h6.own, fr, eq6, wf.ok, fun p dt dl H' s' e1 e2 e3 => ⟨p, dt, dl, s', e1, ?_, e3, rfl⟩⟩
       rw [<- due g]
       exact e2
     rintro σ' H8 ⟨p, dt, dl, s8, ep, edt, edl, rfl⟩
     have h8 := h6.same s8
     have num8 := num6.same s8
     have eq8 := s8 _ _ eq6
     refine ⟨fun σ' H' => ∃ a u, Held CN CC CT P0 D3f D5f K sc ns d t c b r y l m up tr H' a u /\ NumIs CN H' n x /\ H' q = some (.tup x.vs) /\ σ' = [some (.ref sc), some (.ref d), some (.ref c), some (.ref q), some (.ref n), some (.int (0 + (i : Int))), some (.int g), some (.ref p)], ?_, ?_⟩
     . refine ⟨_, rfl, _, rfl, h8.tab, fun fl H9 sT nf la tab9 _ => ⟨_, rfl, fun hn H10 ho A10 kn => ?_⟩⟩
       have xok := G8a (v := ⟨r, y, l, m⟩) (g := g) ok wf hg hL
       have DO := U8e (P := P) (w := w) (K := K) (mg := mg) (base := base) (k := 9) (vs := [.int g, .ref n, .ref c]) (sp := U8d CN CC c n ⟨r, y, l, m⟩ x g L) la (show LamS ["_law_sign", "_law_first", "_law_context_here"] _ from ⟨rfl, rfl, rfl, by decide +kernel, by decide +kernel, by decide +kernel, by decide +kernel⟩) rfl (V6f _) (fun _ _ _ => rfl) (fun X cdv A' outer' s' H' Q' E' hX hr' hx' hsp af => by
         subst hX
         obtain ⟨⟨a', b', xs, ys, hc'⟩, hn', k'⟩ := hsp
         refine ⟨_, C5 D_l_gone G_l_gone hr' hx' (A0 (pv 2) (A0 (pv 1) (A0 (pv 0) A8))), ?_⟩
         exact ⟨_, rfl, _, rfl, _, rfl, c, ⟨r, y, l, m⟩, a', b', xs, ys, n, x, g, L, rfl, hg, CtxAt.hide hc' af, ok, hn'.hide af, wf.ok, hL, fun n' H1 s1 nm1 hno => k' n' _ (G5u s1) (nm1.back hno)⟩)
       refine V0g (zs := []) h8 su st sT tab9 la hn ho A10 (fun j x' c' hj => ?_) ep edt edl (by decide) xok DO (fun H' kp x' hc' Qd Ed h1 h2 => ?_) (fun a' u' H11 x11 h11 _ => ?_)
       . rcases j with _ | _ | _ | j
         . exact ⟨_, rfl, kn 0 x' c' 6 _ hj rfl rfl⟩
         . exact ⟨_, rfl, kn 1 x' c' 4 _ hj rfl rfl⟩
         . exact ⟨_, rfl, kn 2 x' c' 2 _ hj rfl rfl⟩
         . cases hj
       . have nd : n ≠ d := by
           obtain ⟨dx, z⟩ := num8
           exact J1 z h8.own.d (by intro z; cases z)
         have nm' : NumIs CN H' n x := by
           obtain ⟨dx, z⟩ := num8.keep kp
           exact ⟨dx, x' _ _ z nd⟩
         exact ⟨⟨a, b, up, tr, hc'⟩, nm', fun n' H1 s1 nm1 => h1 n' a H1 (U8h _) (.of s1) (by rw [C9y su]; exact hc'.same s1) nm1⟩
       . rw [C9y su] at h11
         obtain ⟨ps, eP, _⟩ := h8.tab
         have k9 := sT.keep eP
         obtain ⟨dx, ec⟩ := (h8.ctx.keep k9).ins
         have ed := (h8.own.keep k9).d
         obtain ⟨dx', z⟩ := num8.keep k9
         have q9 := k9 _ _ (fun _ z => by cases z) eq8
         exact ⟨_, rfl, Z2 ⟨a', u', h11, ⟨dx', x11 _ _ z nc (J1 z ed (by intro z; cases z))⟩, x11 _ _ q9 (J1 q9 ec (by intro z; cases z)) (J1 q9 ed (by intro z; cases z)), rfl⟩⟩
     rintro σ' H9 ⟨a, u, h9, num9, eq9, rfl⟩
     refine ⟨_, ?_, fun _ _ h => h⟩
     refine ⟨_, rfl, _, rfl, Or.inl ⟨n, _, _, _, _, rfl, num9, fun z nz => ⟨_, rfl, A9z x.k.str x.s x.f x.p, A9z x.k.str x.s x.f x.p, rdD A9, rdD ((Same.upd nz) _ _ eq9), shD _ _ _ (okK _), shD _ _ _ (okK _), _, rfl, ?_⟩⟩⟩
     rw [if_pos rfl, eqD]
     exact Z2 ⟨a, u, _, _, _, h9.same (Same.upd nz), num9.same (Same.upd nz), (Same.upd nz) _ _ eq9, rfl⟩
   . rintro σ' H6 ⟨a, u, v5, v6, v7, h6, _, _, rfl⟩
     exact ⟨a, u, v5, v6, v7, h6, rfl⟩
   rintro σ' H6 ⟨a, u, v5, v6, v7, h6, rfl⟩
   obtain ⟨dx, ec⟩ := h6.ctx.ins
   refine ⟨_, rfl, c, dx, _, rfl, ec, C4j _ _ _ _ _ _, c, r, y, l, m, a, b, _, _, rfl, h6.ctx, fun l2 n2 => ⟨_, rfl, d, _, rfl, (h6.own.same (Same.upd n2)).gTr, ?_⟩⟩
   have okT : OkL tr := ⟨Nat.le_trans st.len (by decide), fun z hz => G4d z (st.mem z hz)⟩
   refine ⟨rdS tr, rdS tr, B0q A9, B0q (h6.own.same (Same.upd n2)).t, shS okT, shS okT, ?_⟩
   rw [if_neg Bool.false_ne_true, V6x]
   exact kk _
end
end TR
namespace TR
open PySem L2 PySem.W PyProof.Rows
theorem all_mk {cc P0 : Addr} {l : OpenLaw} {w : World} {K : Frag} {h : Heap} {mg : Str -> Option Value} {fa CW W0 A3f W1 A3k W2 A3h W3 A3e W4 A3c W5 A3g W6 A3j W7 A3m CN C2x CC C2z U1u A2a A0v A1z A3d A0w CQ C2p U7s A0f A7p CE C1 C2 C3 CR fX aS U0d B2g B3d C5j C6s C8j C6f U3v B4h D7t C4w D9s B4b C7j B7u C5k B9x B9t B7p C5r B7s B7v B1n B3v B7x G1r C5h J7m B1d C0j G1u G1a A9q C6v B8b C6z D5r G3f A9t B3j U6v B7q D8p U3t : Addr} (X : K.In h) (G : h.Ns mainGlobals mg) (hfa : mg "law" = some (.ref fa))
   {V8q V9a : Option Addr} {V7n : Array (Option Value)} {V8h V8d V9t V7d U6n V8f : Value}
   (U0g : nsIn K mainGlobals "is_between" = some (some (.ref U0d))) (J7e : K.lookup U0d = some ⟨V8h, V8q, .func (fnOf "is_between" "is_between" (B7 C0u) (B4 C0u) (A3 C0u) .none V8d V9t V7d V9a U6n V8f), V7n⟩) (J9d : codeIn K U6n "is_between" = true) (J8h : keepIn K (.ref U0d) = true)
   {G0x D7c : Option Addr} {D6a : Array (Option Value)} {D5y G3n G0t G2w C0h D8f : Value}
   (B1x : nsIn K mainGlobals "need_between" = some (some (.ref B2g))) (B2v : K.lookup B2g = some ⟨D5y, G0x, .func (fnOf "need_between" "need_between" (B7 A0p) (B4 A0p) (A3 A0p) .none G3n G0t G2w D7c C0h D8f), D6a⟩) (B3k : codeIn K C0h "need_between" = true) (B2r : keepIn K (.ref B2g) = true)
   {D5t D9g : Option Addr} {D9p : Array (Option Value)} {D8x D6j D8g D7g B8z D5v : Value}
   (B1v : nsIn K mainGlobals "bounded" = some (some (.ref B3d))) (B3e : K.lookup B3d = some ⟨D8x, D5t, .func (fnOf "bounded" "bounded" (B7 A1v) (B4 A1v) (A3 A1v) .none D6j D8g D7g D9g B8z D5v), D9p⟩) (B2e : codeIn K B8z "bounded" = true) (B1e : keepIn K (.ref B3d) = true)
   {U3g U6u : Option Addr} {U0w : Array (Option Value)} {U6s J9y U4m U6d D0j J8t : Value}
   (C8g : nsIn K mainGlobals "way_of" = some (some (.ref C5j))) (C7r : K.lookup C5j = some ⟨U6s, U3g, .func (fnOf "way_of" "way_of" (B7 A8d) (B4 A8d) (A3 A8d) .none J9y U4m U6d U6u D0j J8t), U0w⟩) (C7b : codeIn K D0j "way_of" = true) (C5t : keepIn K (.ref C5j) = true)
   {U7p U4b : Option Addr} {U4q : Array (Option Value)} {U1m J9x U2n U5x D0f U6b : Value}
   (C8h : nsIn K mainGlobals "need_signals" = some (some (.ref C6s))) (C6x : K.lookup C6s = some ⟨U1m, U7p, .func (fnOf "need_signals" "need_signals" (B7 A5u) (B4 A5u) (A3 A5u) .none J9x U2n U5x U4b D0f U6b), U4q⟩) (C7f : codeIn K D0f "need_signals" = true) (C6m : keepIn K (.ref C6s) = true)
   {J6v U6g : Option Addr} {U0q : Array (Option Value)} {U5m J7v U6h U7d D2c U7k : Value}
   (C4x : nsIn K mainGlobals "in_order" = some (some (.ref C8j))) (C5d : K.lookup C8j = some ⟨U5m, J6v, .func (fnOf "in_order" "in_order" (B7 A5z) (B4 A5z) (A3 A5z) .none J7v U6h U7d U6g D2c U7k), U0q⟩) (C7d : codeIn K D2c "in_order" = true) (C7w : keepIn K (.ref C8j) = true)
   {J8k J5x : Option Addr} {U4x : Array (Option Value)} {U1t U5f U0h U3p D0z J6c : Value}
   (C6n : nsIn K mainGlobals "plain" = some (some (.ref C6f))) (C6k : K.lookup C6f = some ⟨U1t, J8k, .func (fnOf "plain" "plain" (B7 A8h) (B4 A8h) (A3 A8h) .none U5f U0h U3p J5x D0z J6c), U4x⟩) (C8d : codeIn K D0z "plain" = true) (C7m : keepIn K (.ref C6f) = true)
   {V8p V7w : Option Addr} {V9e : Array (Option Value)} {V8a V7q V9b V8r U5d V9c : Value}
   (U0k : nsIn K mainGlobals "end" = some (some (.ref U3v))) (J7t : K.lookup U3v = some ⟨V8a, V8p, .func (fnOf "end" "end" (B7 C8t) (B4 C8t) (A3 C8t) .none V7q V9b V8r V7w U5d V9c), V9e⟩) (J6e : codeIn K U5d "end" = true) (U5t : keepIn K (.ref U3v) = true)
   {D9u G0s : Option Addr} {G2c : Array (Option Value)} {G0p G0e D6q D7m B7z G3a : Value}
   (B2a : nsIn K mainGlobals "nothing" = some (some (.ref B4h))) (B2j : K.lookup B4h = some ⟨G0p, D9u, .func (fnOf "nothing" "nothing" (B7 A0t) (B4 A0t) (A3 A0t) .none G0e D6q D7m G0s B7z G3a), G2c⟩) (B2s : codeIn K B7z "nothing" = true) (B4d : keepIn K (.ref B4h) = true)
   {V3u V1y : Option Addr} {V3m : Array (Option Value)} {V1k V3n V3g V3w G5j V3q : Value}
   (D6g : nsIn K mainGlobals "told" = some (some (.ref D7t))) (G2d : K.lookup D7t = some ⟨V1k, V3u, .func (fnOf "told" "told" (B7 B4r) (B4 B4r) (A3 B4r) .none V3n V3g V3w V1y G5j V3q), V3m⟩) (D7a : codeIn K G5j "told" = true) (G2f : keepIn K (.ref D7t) = true)
   {J9u U7f : Option Addr} {U1s : Array (Option Value)} {U3f U4k U3c U4d D1n U0p : Value}
   (C8b : nsIn K mainGlobals "need_number" = some (some (.ref C4w))) (C7t : K.lookup C4w = some ⟨U3f, J9u, .func (fnOf "need_number" "need_number" (B7 A4b) (B4 A4b) (A3 A4b) .none U4k U3c U4d U7f D1n U0p), U1s⟩) (C6h : codeIn K D1n "need_number" = true) (C6t : keepIn K (.ref C4w) = true)
   {V1u V1z : Option Addr} {V3e : Array (Option Value)} {V2v V1v V1s V1f G5h V2y : Value}
   (G2g : nsIn K mainGlobals "lead_of" = some (some (.ref D9s))) (G1m : K.lookup D9s = some ⟨V2v, V1u, .func (fnOf "lead_of" "lead_of" (B7 B6p) (B4 B6p) (A3 B6p) .none V1v V1s V1f V1z G5h V2y), V3e⟩) (D8c : codeIn K G5h "lead_of" = true) (D7h : keepIn K (.ref D9s) = true)
   {G3j G0q : Option Addr} {D9x : Array (Option Value)} {G1z D8y D7w D7b B8n G3p : Value}
   (B3g : nsIn K mainGlobals "product_of" = some (some (.ref B4b))) (B1m : K.lookup B4b = some ⟨G1z, G3j, .func (fnOf "product_of" "product_of" (B7 Y8) (B4 Y8) (A3 Y8) .none D8y D7w D7b G0q B8n G3p), D9x⟩) (B4c : codeIn K B8n "product_of" = true) (B4j : keepIn K (.ref B4b) = true)
   {U7m U5e : Option Addr} {J5y : Array (Option Value)} {U3m U0e U2r U5r D1s J8u : Value}
   (C7x : nsIn K mainGlobals "ten_to" = some (some (.ref C7j))) (C6b : K.lookup C7j = some ⟨U3m, U7m, .func (fnOf "ten_to" "ten_to" (B7 A0x) (B4 A0x) (A3 A0x) .none U0e U2r U5r U5e D1s J8u), J5y⟩) (C6p : codeIn K D1s "ten_to" = true) (C5s : keepIn K (.ref C7j) = true)
   {G9v J0x : Option Addr} {G9y : Array (Option Value)} {G9r J1z J1c J1d C2y J1g : Value}
   (B9d : nsIn K mainGlobals "part_of" = some (some (.ref B7u))) (B8y : K.lookup B7u = some ⟨G9r, G9v, .func (fnOf "part_of" "part_of" (B7 A3y) (B4 A3y) (A3 A3y) .none J1z J1c J1d J0x C2y J1g), G9y⟩) (C0f : codeIn K C2y "part_of" = true) (B8p : keepIn K (.ref B7u) = true)
   {U7w U2e : Option Addr} {J9v : Array (Option Value)} {U7v U2v U2p U6r D2v J6s : Value}
   (C5p : nsIn K mainGlobals "whole_lead" = some (some (.ref C5k))) (C6j : K.lookup C5k = some ⟨U7v, U7w, .func (fnOf "whole_lead" "whole_lead" (B7 A5r) (B4 A5r) (A3 A5r) .none U2v U2p U6r U2e D2v J6s), J9v⟩) (C4v : codeIn K D2v "whole_lead" = true) (C5v : keepIn K (.ref C5k) = true)
   {G9x G9b : Option Addr} {G9t : Array (Option Value)} {J0g G8f G8u G9m C2t J1f : Value}
   (B7y : nsIn K mainGlobals "finest_power" = some (some (.ref B9x))) (B8x : K.lookup B9x = some ⟨J0g, G9x, .func (fnOf "finest_power" "finest_power" (B7 A1e) (B4 A1e) (A3 A1e) .none G8f G8u G9m G9b C2t J1f), G9t⟩) (B9s : codeIn K C2t "finest_power" = true) (B8g : keepIn K (.ref B9x) = true)
   {J1m G9j : Option Addr} {J0c : Array (Option Value)} {J0r G8e G8p J0y C2q G8h : Value}
   (C0q : nsIn K mainGlobals "within_room" = some (some (.ref B9t))) (B8q : K.lookup B9t = some ⟨J0r, J1m, .func (fnOf "within_room" "within_room" (B7 A2e) (B4 A2e) (A3 A2e) .none G8e G8p J0y G9j C2q G8h), J0c⟩) (B9q : codeIn K C2q "within_room" = true) (B9r : keepIn K (.ref B9t) = true)
   {J0b J1j : Option Addr} {G9a : Array (Option Value)} {J1y G8k G8v J1t C2v G9q : Value}
   (C0r : nsIn K mainGlobals "is_beyond" = some (some (.ref B7p))) (C0d : K.lookup B7p = some ⟨J1y, J0b, .func (fnOf "is_beyond" "is_beyond" (B7 A2c) (B4 A2c) (A3 A2c) .none G8k G8v J1t J1j C2v G9q), G9a⟩) (B9p : codeIn K C2v "is_beyond" = true) (B9m : keepIn K (.ref B7p) = true)
   {U7b U3d : Option Addr} {J6x : Array (Option Value)} {J7f U3e U4y U1b D0x J7x : Value}
   (C7u : nsIn K mainGlobals "nines" = some (some (.ref C5r))) (C7n : K.lookup C5r = some ⟨J7f, U7b, .func (fnOf "nines" "nines" (B7 A4a) (B4 A4a) (A3 A4a) .none U3e U4y U1b U3d D0x J7x), J6x⟩) (C5f : codeIn K D0x "nines" = true) (C6a : keepIn K (.ref C5r) = true)
   {J1v J1q : Option Addr} {G9e : Array (Option Value)} {J1e J1h G9k G9u C2s G9d : Value}
   (B8f : nsIn K mainGlobals "next_up" = some (some (.ref B7s))) (B8w : K.lookup B7s = some ⟨J1e, J1v, .func (fnOf "next_up" "next_up" (B7 A4e) (B4 A4e) (A3 A4e) .none J1h G9k G9u J1q C2s G9d), G9e⟩) (B7r : codeIn K C2s "next_up" = true) (B9k : keepIn K (.ref B7s) = true)
   {G8r J0n : Option Addr} {J1p : Array (Option Value)} {J1b G8d J0p J0u C2n G8m : Value}
   (B8j : nsIn K mainGlobals "next_down" = some (some (.ref B7v))) (B8t : K.lookup B7v = some ⟨J1b, G8r, .func (fnOf "next_down" "next_down" (B7 A3s) (B4 A3s) (A3 A3s) .none G8d J0p J0u J0n C2n G8m), J1p⟩) (B8u : codeIn K C2n "next_down" = true) (B8k : keepIn K (.ref B7v) = true)
   {D9e D6t : Option Addr} {D7j : Array (Option Value)} {D8j D7p D7r G3q B8r G3u : Value}
   (B3p : nsIn K mainGlobals "stepped" = some (some (.ref B1n))) (B3a : K.lookup B1n = some ⟨D8j, D9e, .func (fnOf "stepped" "stepped" (B7 A0s) (B4 A0s) (A3 A0s) .none D7p D7r G3q D6t B8r G3u), D7j⟩) (B1q : codeIn K B8r "stepped" = true) (B3m : keepIn K (.ref B1n) = true)
   {G1q G1j : Option Addr} {D9d : Array (Option Value)} {G2k D8e D8d G2p C0c D8b : Value}
   (B1f : nsIn K mainGlobals "farther" = some (some (.ref B3v))) (B3b : K.lookup B3v = some ⟨G2k, G1q, .func (fnOf "farther" "farther" (B7 A1r) (B4 A1r) (A3 A1r) .none D8e D8d G2p G1j C0c D8b), D9d⟩) (B2u : codeIn K C0c "farther" = true) (B2f : keepIn K (.ref B3v) = true)
   {J0z J0v : Option Addr} {G8g : Array (Option Value)} {G8t G9p J0h G8w C2w G8s : Value}
   (B8v : nsIn K mainGlobals "nearer" = some (some (.ref B7x))) (B9w : K.lookup B7x = some ⟨G8t, J0z, .func (fnOf "nearer" "nearer" (B7 A3n) (B4 A3n) (A3 A3n) .none G9p J0h G8w J0v C2w G8s), G8g⟩) (B9a : codeIn K C2w "nearer" = true) (B9g : keepIn K (.ref B7x) = true)
   {V2z V1j : Option Addr} {V2h : Array (Option Value)} {V2u V1n V1x V1w G5q V2c : Value}
   (D9h : nsIn K mainGlobals "_law_cell_at" = some (some (.ref G1r))) (G0w : K.lookup G1r = some ⟨V2u, V2z, .func (fnOf "_law_cell_at" "_law_cell_at" (B7 B6j) (B4 B6j) (A3 B6j) .none V1n V1x V1w V1j G5q V2c), V2h⟩) (D6n : codeIn K G5q "_law_cell_at" = true) (G1k : keepIn K (.ref G1r) = true)
   {U4u U7j : Option Addr} {J8v : Array (Option Value)} {U0b J9q U7t U4s D1f U7u : Value}
   (C7k : nsIn K mainGlobals "_law_mixed" = some (some (.ref C5h))) (C8e : K.lookup C5h = some ⟨U0b, U4u, .func (fnOf "_law_mixed" "_law_mixed" (B7 A3z) (B4 A3z) (A3 A3z) .none J9q U7t U4s U7j D1f U7u), J8v⟩) (C7p : codeIn K D1f "_law_mixed" = true) (C7a : keepIn K (.ref C5h) = true)
   {V8v V9z : Option Addr} {V8t : Array (Option Value)} {V9y V8x V9q V9x U3b V8u : Value}
   (U7h : nsIn K mainGlobals "_law_ten" = some (some (.ref J7m))) (J6f : K.lookup J7m = some ⟨V9y, V8v, .func (fnOf "_law_ten" "_law_ten" (B7 A3a) (B4 A3a) (A3 A3a) .none V8x V9q V9x V9z U3b V8u), V8t⟩) (U3s : codeIn K U3b "_law_ten" = true) (U3k : keepIn K (.ref J7m) = true)
   {G2u D6c : Option Addr} {D9j : Array (Option Value)} {D9m D5z G1y G2x B9c G0n : Value}
   (B4k : nsIn K mainGlobals "_law_figures" = some (some (.ref B1d))) (B1y : K.lookup B1d = some ⟨D9m, G2u, .func (fnOf "_law_figures" "_law_figures" (B7 A0a) (B4 A0a) (A3 A0a) .none D5z G1y G2x D6c B9c G0n), D9j⟩) (B4a : codeIn K B9c "_law_figures" = true) (B4e : keepIn K (.ref B1d) = true)
   {G9f J0t : Option Addr} {J0m : Array (Option Value)} {G8z J0w J1s G8j C3c J1k : Value}
   (C0g : nsIn K mainGlobals "_law_number" = some (some (.ref C0j))) (B9u : K.lookup C0j = some ⟨G8z, G9f, .func (fnOf "_law_number" "_law_number" (B7 A1s) (B4 A1s) (A3 A1s) .none J0w J1s G8j J0t C3c J1k), J0m⟩) (B9v : codeIn K C3c "_law_number" = true) (B9b : keepIn K (.ref C0j) = true)
   {V3p V1h : Option Addr} {V2m : Array (Option Value)} {V2g V3h V1d V2w G5k V1q : Value}
   (G2a : nsIn K mainGlobals "_law_made" = some (some (.ref G1u))) (D7u : K.lookup G1u = some ⟨V2g, V3p, .func (fnOf "_law_made" "_law_made" (B7 A8e) (B4 A8e) (A3 A8e) .none V3h V1d V2w V1h G5k V1q), V2m⟩) (D9v : codeIn K G5k "_law_made" = true) (D7y : keepIn K (.ref G1u) = true)
   {V2x V3k : Option Addr} {V1m : Array (Option Value)} {V3s V1g V2d V3t G5m V2k : Value}
   (G0y : nsIn K mainGlobals "_law_own" = some (some (.ref G1a))) (D6k : K.lookup G1a = some ⟨V3s, V2x, .func (fnOf "_law_own" "_law_own" (B7 B7a) (B4 B7a) (A3 B7a) .none V1g V2d V3t V3k G5m V2k), V1m⟩) (G1w : codeIn K G5m "_law_own" = true) (G3b : keepIn K (.ref G1a) = true)
   {D0e D0q : Option Addr} {D0v : Array (Option Value)} {D2z D0w D2h D0k B4z D2p : Value}
   (A8t : nsIn K mainGlobals "_law_context" = some (some (.ref A9q))) (A8s : K.lookup A9q = some ⟨D2z, D0e, .func (fnOf "_law_context" "_law_context" (B7 Z7) (B4 Z7) (A3 Z7) .none D0w D2h D0k D0q B4z D2p), D0v⟩) (A8y : codeIn K B4z "_law_context" = true) (A9p : keepIn K (.ref A9q) = true)
   {J7k U5g : Option Addr} {J8w : Array (Option Value)} {J7a U0f J7b U4w D2f J6a : Value}
   (C5b : nsIn K mainGlobals "_law_tried" = some (some (.ref C6v))) (C8c : K.lookup C6v = some ⟨J7a, J7k, .func (fnOf "_law_tried" "_law_tried" (B7 A4c) (B4 A4c) (A3 A4c) .none U0f J7b U4w U5g D2f J6a), J8w⟩) (C6c : codeIn K D2f "_law_tried" = true) (C4u : keepIn K (.ref C6v) = true)
   {G8y J1r : Option Addr} {G9s : Array (Option Value)} {J0k G9n J0d G9z C3b J0s : Value}
   (B8s : nsIn K mainGlobals "_law_stands" = some (some (.ref B8b))) (B8h : K.lookup B8b = some ⟨J0k, G8y, .func (fnOf "_law_stands" "_law_stands" (B7 A1u) (B4 A1u) (A3 A1u) .none G9n J0d G9z J1r C3b J0s), G9s⟩) (B8e : codeIn K C3b "_law_stands" = true) (C0b : keepIn K (.ref B8b) = true)
   {U0t U5q : Option Addr} {U1j : Array (Option Value)} {U1x J7j U5s U1z D2q J8f : Value}
   (C5y : nsIn K mainGlobals "_law_shown" = some (some (.ref C6z))) (C7e : K.lookup C6z = some ⟨U1x, U0t, .func (fnOf "_law_shown" "_law_shown" (B7 A1d) (B4 A1d) (A3 A1d) .none J7j U5s U1z U5q D2q J8f), U1j⟩) (C6g : codeIn K D2q "_law_shown" = true) (C5c : keepIn K (.ref C6z) = true)
   {V1p V2f : Option Addr} {V2q : Array (Option Value)} {V1t V2a V1e V2j G5n V3a : Value}
   (D7d : nsIn K mainGlobals "_law_most" = some (some (.ref D5r))) (G2q : K.lookup D5r = some ⟨V1t, V1p, .func (fnOf "_law_most" "_law_most" (B7 A3x) (B4 A3x) (A3 A3x) .none V2a V1e V2j V2f G5n V3a), V2q⟩) (D8z : codeIn K G5n "_law_most" = true) (D7q : keepIn K (.ref D5r) = true)
   {V3d V3v : Option Addr} {V3j : Array (Option Value)} {V2n V3f V3c V1b G5r V2s : Value}
   (G3g : nsIn K mainGlobals "_law_grid" = some (some (.ref G3f))) (D9f : K.lookup G3f = some ⟨V2n, V3d, .func (fnOf "_law_grid" "_law_grid" (B7 A5m) (B4 A5m) (A3 A5m) .none V3f V3c V1b V3v G5r V2s), V3j⟩) (D9q : codeIn K G5r "_law_grid" = true) (D5q : keepIn K (.ref G3f) = true)
   {D1b D1w : Option Addr} {D2d : Array (Option Value)} {D1p D1c D1u D0r B4x D1a : Value}
   (A9b : nsIn K mainGlobals "_law_farther" = some (some (.ref A9t))) (A9m : K.lookup A9t = some ⟨D1p, D1b, .func (fnOf "_law_farther" "_law_farther" (B7 A0b) (B4 A0b) (A3 A0b) .none D1c D1u D0r D1w B4x D1a), D2d⟩) (A9g : codeIn K B4x "_law_farther" = true) (A8k : keepIn K (.ref A9t) = true)
   {D7f G3m : Option Addr} {G1p : Array (Option Value)} {G3t D8u G0h G2b B7t G3h : Value}
   (B3u : nsIn K mainGlobals "_law_nearer" = some (some (.ref B3j))) (B2m : K.lookup B3j = some ⟨G3t, D7f, .func (fnOf "_law_nearer" "_law_nearer" (B7 A1m) (B4 A1m) (A3 A1m) .none D8u G0h G2b G3m B7t G3h), G1p⟩) (B1k : codeIn K B7t "_law_nearer" = true) (B2p : keepIn K (.ref B3j) = true)
   {V7j V7c : Option Addr} {V9j : Array (Option Value)} {V9v V8b V8e V7u J6k V7f : Value}
   (U2a : nsIn K mainGlobals "_law_due" = some (some (.ref U6v))) (U5k : K.lookup U6v = some ⟨V9v, V7j, .func (fnOf "_law_due" "_law_due" (B7 B5w) (B4 B5w) (A3 B5w) .none V8b V8e V7u V7c J6k V7f), V9j⟩) (U2x : codeIn K J6k "_law_due" = true) (J8a : keepIn K (.ref U6v) = true)
   {J0j J1w : Option Addr} {G9h : Array (Option Value)} {J0q J1n G8n G9c C2k J1a : Value}
   (B7n : nsIn K mainGlobals "_law_border" = some (some (.ref B7q))) (B8c : K.lookup B7q = some ⟨J0q, J0j, .func (fnOf "_law_border" "_law_border" (B7 A1q) (B4 A1q) (A3 A1q) .none J1n G8n G9c J1w C2k J1a), G9h⟩) (C0e : codeIn K C2k "_law_border" = true) (C0p : keepIn K (.ref B7q) = true)
   {V2p V1c : Option Addr} {V1a : Array (Option Value)} {V2b V1r V2t V2r G5t V3r : Value}
   (D6y : nsIn K mainGlobals "_law_gone" = some (some (.ref D8p))) (D8k : K.lookup D8p = some ⟨V2b, V2p, .func (fnOf "_law_gone" "_law_gone" (B7 A8j) (B4 A8j) (A3 A8j) .none V1r V2t V2r V1c G5t V3r), V1a⟩) (G0m : codeIn K G5t "_law_gone" = true) (D7z : keepIn K (.ref D8p) = true)
   {V7a U2y : Option Addr} {V7h : Array (Option Value)} {V8w J7q U5y J6t C6q U5b : Value}
   (G5f : nsIn K mainGlobals "law" = some (some (.ref U3t))) (U1a : K.lookup U3t = some ⟨V8w, V7a, .func (fnOf "law" "law" (B7 C0x) (B4 C0x) (A3 C0x) .none J7q U5y J6t U2y C6q U5b), V7h⟩) (U6e : codeIn K C6q "law" = true) (J6y : keepIn K (.ref U3t) = true)
   (A4q : nsIn K mainGlobals "isinstance" = some none)
   (U3w : nsIn K mainGlobals "int" = some none)
   (G3r : nsIn K mainGlobals "bool" = some none)
   (U3n : nsIn K mainGlobals "str" = some none)
   (G0r : nsIn K mainGlobals "list" = some none)
   (C5x : nsIn K mainGlobals "tuple" = some none)
   (D5j : nsIn K mainGlobals "dict" = some none)
   (U3x : nsIn K mainGlobals "len" = some none)
   (C4y : nsIn K mainGlobals "range" = some none)
   (J8j : nsIn K mainGlobals "min" = some none)
   (J8e : nsIn K mainGlobals "max" = some none)
   (U3q : nsIn K mainGlobals "abs" = some none)
   (U6m : nsIn K mainGlobals "any" = some none)
   (U5c : nsIn K mainGlobals "all" = some none)
   (U5v : nsIn K mainGlobals "sum" = some none)
   (D6p : nsIn K mainGlobals "repr" = some none)
   (A7a : nsIn K mainGlobals "enumerate" = some none)
   (A9s : nsIn K mainGlobals "reversed" = some none)
   (J6w : nsIn K mainGlobals "zip" = some none)
   (B9n : nsIn K mainGlobals "sorted" = some none)
   (B9h : nsIn K mainGlobals "divmod" = some none)
   (U6x : nsIn K mainGlobals "set" = some none)
   (A4t : nsIn K mainGlobals "ValueError" = some none)
   (A9r : kitOne K (.type "int") (.type "int") = some true)
   (A6z : kitOne K (.type "int") (.type "bool") = some false)
   (A8z : kitOne K (.type "int") (.type "str") = some false)
   (A6d : kitOne K (.type "int") (.type "list") = some false)
   (A5c : kitOne K (.type "int") (.type "tuple") = some false)
   (A6u : kitOne K (.type "int") (.type "dict") = some false)
   (A6j : kitOne K (.type "bool") (.type "int") = some true)
   (A4n : kitOne K (.type "bool") (.type "bool") = some true)
   (A6h : kitOne K (.type "bool") (.type "str") = some false)
   (A4v : kitOne K (.type "bool") (.type "list") = some false)
   (A2q : kitOne K (.type "bool") (.type "tuple") = some false)
   (A4w : kitOne K (.type "bool") (.type "dict") = some false)
   (A8m : kitOne K (.type "str") (.type "int") = some false)
   (A6v : kitOne K (.type "str") (.type "bool") = some false)
   (A9n : kitOne K (.type "str") (.type "str") = some true)
   (A6n : kitOne K (.type "str") (.type "list") = some false)
   (A4m : kitOne K (.type "str") (.type "tuple") = some false)
   (A6g : kitOne K (.type "str") (.type "dict") = some false)
   (A6q : kitOne K (.type "list") (.type "int") = some false)
   (A4j : kitOne K (.type "list") (.type "bool") = some false)
   (A6s : kitOne K (.type "list") (.type "str") = some false)
   (A4y : kitOne K (.type "list") (.type "list") = some true)
   (A2r : kitOne K (.type "list") (.type "tuple") = some false)
   (A4z : kitOne K (.type "list") (.type "dict") = some false)
   (A5d : kitOne K (.type "tuple") (.type "int") = some false)
   (A2t : kitOne K (.type "tuple") (.type "bool") = some false)
   (A4x : kitOne K (.type "tuple") (.type "str") = some false)
   (A2n : kitOne K (.type "tuple") (.type "list") = some false)
   (A1y : kitOne K (.type "tuple") (.type "tuple") = some true)
   (A2p : kitOne K (.type "tuple") (.type "dict") = some false)
   (A6x : kitOne K (.type "dict") (.type "int") = some false)
   (A4h : kitOne K (.type "dict") (.type "bool") = some false)
   (A6f : kitOne K (.type "dict") (.type "str") = some false)
   (A4s : kitOne K (.type "dict") (.type "list") = some false)
   (A2s : kitOne K (.type "dict") (.type "tuple") = some false)
   (A4r : kitOne K (.type "dict") (.type "dict") = some true)
   (A1a : kitOne K (.type "NoneType") (.type "int") = some false)
   (A0e : kitOne K (.type "NoneType") (.type "bool") = some false)
   (A0z : kitOne K (.type "NoneType") (.type "str") = some false)
   (A0g : kitOne K (.type "NoneType") (.type "list") = some false)
   (Z6 : kitOne K (.type "NoneType") (.type "tuple") = some false)
   (A0d : kitOne K (.type "NoneType") (.type "dict") = some false)
   (sn : specialIn K (.builtin "object.__class__") "__get__" = some (some (.builtin "getset_descriptor.__get__")))
   (tk : takesIn K (.builtin "object.__class__") = some true)
   (Y2w : nsIn K mainGlobals "Way" = some (some (.ref CW)))
   (V7v : nsIn K mainGlobals "Down" = some (some (.ref W0)))
   (J6u : plainGet K W0 Str.empty = true)
   (J8b : hasDictIn K W0 = true)
   (U6a : plainOver K W0 = true)
   (U1y : findIn K (.ref W0) "__setattr__" = some (some (.builtin "object.__setattr__")))
   (U1n : makesIn K W0 = true)
   (U4j : keepIn K (.ref W0) = true)
   (J7h : findIn K (.ref W0) "__class__" = some (some (.builtin "object.__class__")))
   (J6b : mroIn K W0 (.type "object") = some true)
   (U5j : findIn K (.ref W0) "__init__" = some (some (.builtin "object.__init__")))
   (U3r : kitOne K (.ref W0) (.ref CW) = some true)
   (B2t : findIn K (.ref W0) "name" = some (some (.ref A3f)))
   (B1j : isFn K (.ref A3f) = true)
   {D8m D5u : Option Addr} {G1f : Array (Option Value)} {D5n D8w D5p G3c B9y G2s : Value} (B2q : K.lookup A3f = some ⟨D5n, D8m, .func (fnOf "name" "Down.name" (B7 sN0) (B4 sN0) (A3 sN0) .none D8w D5p G3c D5u B9y G2s), G1f⟩)
   (B2c : codeIn K B9y "Down.name" = true)
   (A7v : keepIn K (.ref A3f) = true)
   (V9p : nsIn K mainGlobals "Up" = some (some (.ref W1)))
   (J5v : plainGet K W1 Str.empty = true)
   (U6z : hasDictIn K W1 = true)
   (J8c : plainOver K W1 = true)
   (U0z : findIn K (.ref W1) "__setattr__" = some (some (.builtin "object.__setattr__")))
   (U6p : makesIn K W1 = true)
   (J7y : keepIn K (.ref W1) = true)
   (U3u : findIn K (.ref W1) "__class__" = some (some (.builtin "object.__class__")))
   (J8d : mroIn K W1 (.type "object") = some true)
   (U0c : findIn K (.ref W1) "__init__" = some (some (.builtin "object.__init__")))
   (J8q : kitOne K (.ref W1) (.ref CW) = some true)
   (B4g : findIn K (.ref W1) "name" = some (some (.ref A3k)))
   (B1s : isFn K (.ref A3k) = true)
   {G2j D9n : Option Addr} {G0g : Array (Option Value)} {D6u D9a G0j G1v C0a G1b : Value} (B3s : K.lookup A3k = some ⟨D6u, G2j, .func (fnOf "name" "Up.name" (B7 sN1) (B4 sN1) (A3 sN1) .none D9a G0j G1v D9n C0a G1b), G0g⟩)
   (B4n : codeIn K C0a "Up.name" = true)
   (A7s : keepIn K (.ref A3k) = true)
   (V8k : nsIn K mainGlobals "Floor" = some (some (.ref W2)))
   (J7w : plainGet K W2 Str.empty = true)
   (U2k : hasDictIn K W2 = true)
   (J9t : plainOver K W2 = true)
   (J9a : findIn K (.ref W2) "__setattr__" = some (some (.builtin "object.__setattr__")))
   (J9r : makesIn K W2 = true)
   (J9w : keepIn K (.ref W2) = true)
   (U4v : findIn K (.ref W2) "__class__" = some (some (.builtin "object.__class__")))
   (U4h : mroIn K W2 (.type "object") = some true)
   (U2u : findIn K (.ref W2) "__init__" = some (some (.builtin "object.__init__")))
   (U2b : kitOne K (.ref W2) (.ref CW) = some true)
   (B1g : findIn K (.ref W2) "name" = some (some (.ref A3h)))
   (B3f : isFn K (.ref A3h) = true)
   {D6d G3k : Option Addr} {G1d : Array (Option Value)} {G1c G2v D6m G1t B9j G2t : Value} (B3x : K.lookup A3h = some ⟨G1c, D6d, .func (fnOf "name" "Floor.name" (B7 sN2) (B4 sN2) (A3 sN2) .none G2v D6m G1t G3k B9j G2t), G1d⟩)
   (B2k : codeIn K B9j "Floor.name" = true)
   (A7m : keepIn K (.ref A3h) = true)
   (V7b : nsIn K mainGlobals "Ceiling" = some (some (.ref W3)))
   (J7n : plainGet K W3 Str.empty = true)
   (U7a : hasDictIn K W3 = true)
   (J8g : plainOver K W3 = true)
   (J9h : findIn K (.ref W3) "__setattr__" = some (some (.builtin "object.__setattr__")))
   (U7g : makesIn K W3 = true)
   (U3h : keepIn K (.ref W3) = true)
   (J7r : findIn K (.ref W3) "__class__" = some (some (.builtin "object.__class__")))
   (U4f : mroIn K W3 (.type "object") = some true)
   (U2s : findIn K (.ref W3) "__init__" = some (some (.builtin "object.__init__")))
   (U2j : kitOne K (.ref W3) (.ref CW) = some true)
   (B3w : findIn K (.ref W3) "name" = some (some (.ref A3e)))
   (B1c : isFn K (.ref A3e) = true)
   {D9t D7v : Option Addr} {D5h : Array (Option Value)} {G1h D9r D6x D9c B9f D8r : Value} (B1z : K.lookup A3e = some ⟨G1h, D9t, .func (fnOf "name" "Ceiling.name" (B7 sN3) (B4 sN3) (A3 sN3) .none D9r D6x D9c D7v B9f D8r), D5h⟩)
   (B4f : codeIn K B9f "Ceiling.name" = true)
   (A7w : keepIn K (.ref A3e) = true)
   (V9k : nsIn K mainGlobals "HalfUp" = some (some (.ref W4)))
   (U4z : plainGet K W4 Str.empty = true)
   (U5z : hasDictIn K W4 = true)
   (J7s : plainOver K W4 = true)
   (U7q : findIn K (.ref W4) "__setattr__" = some (some (.builtin "object.__setattr__")))
   (J5z : makesIn K W4 = true)
   (J6r : keepIn K (.ref W4) = true)
   (U4e : findIn K (.ref W4) "__class__" = some (some (.builtin "object.__class__")))
   (U4c : mroIn K W4 (.type "object") = some true)
   (U2f : findIn K (.ref W4) "__init__" = some (some (.builtin "object.__init__")))
   (U1w : kitOne K (.ref W4) (.ref CW) = some true)
   (B2d : findIn K (.ref W4) "name" = some (some (.ref A3c)))
   (B3h : isFn K (.ref A3c) = true)
   {D6b G2n : Option Addr} {D7e : Array (Option Value)} {G1x D6e D5m D7k B8d D6h : Value} (B1p : K.lookup A3c = some ⟨G1x, D6b, .func (fnOf "name" "HalfUp.name" (B7 sN4) (B4 sN4) (A3 sN4) .none D6e D5m D7k G2n B8d D6h), D7e⟩)
   (B3z : codeIn K B8d "HalfUp.name" = true)
   (A7q : keepIn K (.ref A3c) = true)
   (V9n : nsIn K mainGlobals "HalfDown" = some (some (.ref W5)))
   (U6w : plainGet K W5 Str.empty = true)
   (U1v : hasDictIn K W5 = true)
   (J9e : plainOver K W5 = true)
   (U2c : findIn K (.ref W5) "__setattr__" = some (some (.builtin "object.__setattr__")))
   (U1f : makesIn K W5 = true)
   (J9b : keepIn K (.ref W5) = true)
   (J6m : findIn K (.ref W5) "__class__" = some (some (.builtin "object.__class__")))
   (J9c : mroIn K W5 (.type "object") = some true)
   (U0r : findIn K (.ref W5) "__init__" = some (some (.builtin "object.__init__")))
   (U1h : kitOne K (.ref W5) (.ref CW) = some true)
   (B1w : findIn K (.ref W5) "name" = some (some (.ref A3g)))
   (B3y : isFn K (.ref A3g) = true)
   {D6r D6f : Option Addr} {D8n : Array (Option Value)} {D5s D5k G0a G2r B8a G0v : Value} (B3t : K.lookup A3g = some ⟨D5s, D6r, .func (fnOf "name" "HalfDown.name" (B7 sN5) (B4 sN5) (A3 sN5) .none D5k G0a G2r D6f B8a G0v), D8n⟩)
   (B4m : codeIn K B8a "HalfDown.name" = true)
   (A7x : keepIn K (.ref A3g) = true)
   (V7p : nsIn K mainGlobals "HalfEven" = some (some (.ref W6)))
   (U1g : plainGet K W6 Str.empty = true)
   (J8r : hasDictIn K W6 = true)
   (U4n : plainOver K W6 = true)
   (U7c : findIn K (.ref W6) "__setattr__" = some (some (.builtin "object.__setattr__")))
   (J9k : makesIn K W6 = true)
   (U4t : keepIn K (.ref W6) = true)
   (U1c : findIn K (.ref W6) "__class__" = some (some (.builtin "object.__class__")))
   (J6g : mroIn K W6 (.type "object") = some true)
   (U4a : findIn K (.ref W6) "__init__" = some (some (.builtin "object.__init__")))
   (J6d : kitOne K (.ref W6) (.ref CW) = some true)
   (B1b : findIn K (.ref W6) "name" = some (some (.ref A3j)))
   (B2z : isFn K (.ref A3j) = true)
   {D8h G0k : Option Addr} {G3d : Array (Option Value)} {G1g D9w G0c G2e C0m G0f : Value} (B3q : K.lookup A3j = some ⟨G1g, D8h, .func (fnOf "name" "HalfEven.name" (B7 sN6) (B4 sN6) (A3 sN6) .none D9w G0c G2e G0k C0m G0f), G3d⟩)
   (B1r : codeIn K C0m "HalfEven.name" = true)
   (A7u : keepIn K (.ref A3j) = true)
   (V8m : nsIn K mainGlobals "FiveUp" = some (some (.ref W7)))
   (U1q : plainGet K W7 Str.empty = true)
   (U6y : hasDictIn K W7 = true)
   (U0m : plainOver K W7 = true)
   (J9z : findIn K (.ref W7) "__setattr__" = some (some (.builtin "object.__setattr__")))
   (J6q : makesIn K W7 = true)
   (U6k : keepIn K (.ref W7) = true)
   (J8y : findIn K (.ref W7) "__class__" = some (some (.builtin "object.__class__")))
   (U7n : mroIn K W7 (.type "object") = some true)
   (U2m : findIn K (.ref W7) "__init__" = some (some (.builtin "object.__init__")))
   (J6z : kitOne K (.ref W7) (.ref CW) = some true)
   (B2n : findIn K (.ref W7) "name" = some (some (.ref A3m)))
   (B1t : isFn K (.ref A3m) = true)
   {D7s D5w : Option Addr} {D8v : Array (Option Value)} {D7n G1e G0z D9b B9e D6v : Value} (B4p : K.lookup A3m = some ⟨D7n, D7s, .func (fnOf "name" "FiveUp.name" (B7 sN7) (B4 sN7) (A3 sN7) .none G1e G0z D9b D5w B9e D6v), D8v⟩)
   (B3n : codeIn K B9e "FiveUp.name" = true)
   (A7t : keepIn K (.ref A3m) = true)
   (V7s : nsIn K mainGlobals "Number" = some (some (.ref CN)))
   (U0x : plainGet K CN Str.empty = true)
   (U2t : hasDictIn K CN = true)
   (U0s : plainOver K CN = true)
   (U2g : findIn K (.ref CN) "__setattr__" = some (some (.builtin "object.__setattr__")))
   (J7g : makesIn K CN = true)
   (U5a : keepIn K (.ref CN) = true)
   (J9m : findIn K (.ref CN) "__class__" = some (some (.builtin "object.__class__")))
   (U2q : mroIn K CN (.type "object") = some true)
   (B1u : findIn K (.ref CN) "kind" = some none)
   (B2h : findIn K (.ref CN) "sign" = some none)
   (A4p : findIn K (.ref CN) "figures" = some none)
   (A9d : findIn K (.ref CN) "power" = some none)
   (J9s : findIn K (.ref CN) "__init__" = some (some (.ref C2x)))
   (U3j : isFn K (.ref C2x) = true)
   {V8j V8g : Option Addr} {V8n : Array (Option Value)} {V7r V9m V9g V7k J7c V7g : Value} (U5u : K.lookup C2x = some ⟨V7r, V8j, .func (fnOf "__init__" "Number.__init__" (B7 C1d) (B4 C1d) (A3 C1d) .none V9m V9g V7k V8g J7c V7g), V8n⟩)
   (U0n : codeIn K J7c "Number.__init__" = true)
   (U5h : keepIn K (.ref C2x) = true)
   (C7z : kitOne K (.ref CN) (.ref CN) = some true)
   (V9f : nsIn K mainGlobals "Context" = some (some (.ref CC)))
   (J7z : plainGet K CC Str.empty = true)
   (U0j : hasDictIn K CC = true)
   (U5n : plainOver K CC = true)
   (J8n : findIn K (.ref CC) "__setattr__" = some (some (.builtin "object.__setattr__")))
   (J9p : makesIn K CC = true)
   (U3z : keepIn K (.ref CC) = true)
   (B2w : findIn K (.ref CC) "room" = some none)
   (B1h : findIn K (.ref CC) "rule" = some none)
   (A9k : findIn K (.ref CC) "least" = some none)
   (B2x : findIn K (.ref CC) "most" = some none)
   (A9j : findIn K (.ref CC) "risen" = some none)
   (A5b : findIn K (.ref CC) "trapped" = some none)
   (J6n : findIn K (.ref CC) "__init__" = some (some (.ref C2z)))
   (U3y : isFn K (.ref C2z) = true)
   {V7y U2w : Option Addr} {V7x : Array (Option Value)} {Y0a J8m J8s U4r G2h U4p : Value} (U0u : K.lookup C2z = some ⟨Y0a, V7y, .func (fnOf "__init__" "Context.__init__" (B7 Z4) (B4 Z4) (A3 Z4) (.ref U1u) J8m J8s U4r U2w G2h U4p), V7x⟩)
   (J7d : codeIn K G2h "Context.__init__" = true)
   (U1k : keepIn K (.ref C2z) = true)
   {Y3e Y2s Y3n : Tok} {Y3g : Nat} {V9r : Option Addr} {V7z : Value} {V8y : Array (Option Value)} (U6f : K.lookup U1u = some ⟨V7z, V9r, .seq #[.int 9 Y3e, .str "half even" Y2s, .none, .int 60 Y3n] Y3g, V8y⟩)
   (A8w : findIn K (.ref CC) "flags" = some (some (.ref A2a)))
   (A9c : isFn K (.ref A2a) = true)
   {D3a D1x : Option Addr} {D1r : Array (Option Value)} {D2t D1j D1q D2j B5b D0g : Value} (A8p : K.lookup A2a = some ⟨D2t, D3a, .func (fnOf "flags" "Context.flags" (B7 A1h) (B4 A1h) (A3 A1h) .none D1j D1q D2j D1x B5b D0g), D1r⟩)
   (A9a : codeIn K B5b "Context.flags" = true)
   (A5a : keepIn K (.ref A2a) = true)
   (A6c : findIn K (.ref CC) "lowest" = some (some (.ref A0v)))
   (A6r : isFn K (.ref A0v) = true)
   {C6w C7y : Option Addr} {C7q : Array (Option Value)} {C5u C5n C7h C7s B0f C5z : Value} (A6t : K.lookup A0v = some ⟨C5u, C6w, .func (fnOf "lowest" "Context.lowest" (B7 A7f) (B4 A7f) (A3 A7f) .none C5n C7h C7s C7y B0f C5z), C7q⟩)
   (A6y : codeIn K B0f "Context.lowest" = true)
   (A2f : keepIn K (.ref A0v) = true)
   (A8u : findIn K (.ref CC) "traps" = some (some (.ref A1z)))
   (A8x : isFn K (.ref A1z) = true)
   {D2u D2n : Option Addr} {D0h : Array (Option Value)} {D2y D2m D0n D0m B5a D2b : Value} (A8v : K.lookup A1z = some ⟨D2y, D2u, .func (fnOf "traps" "Context.traps" (B7 A1g) (B4 A1g) (A3 A1g) .none D2m D0n D0m D2n B5a D2b), D0h⟩)
   (A9h : codeIn K B5a "Context.traps" = true)
   (A4k : keepIn K (.ref A1z) = true)
   (B2b : findIn K (.ref CC) "trap" = some (some (.ref A3d)))
   (B3r : isFn K (.ref A3d) = true)
   {D6s D9y : Option Addr} {G2z : Array (Option Value)} {G3s G0u G3e D8s C0n D8a : Value} (B3c : K.lookup A3d = some ⟨G3s, D6s, .func (fnOf "trap" "Context.trap" (B7 A2v) (B4 A2v) (A3 A2v) .none G0u G3e D8s D9y C0n D8a), G2z⟩)
   (B2y : codeIn K C0n "Context.trap" = true)
   (A7n : keepIn K (.ref A3d) = true)
   (A6k : findIn K (.ref CC) "raised" = some (some (.ref A0w)))
   (A6e : isFn K (.ref A0w) = true)
   {C6u C6e : Option Addr} {C8a : Array (Option Value)} {C5m C7g C7v C8f B0e C5g : Value} (A6p : K.lookup A0w = some ⟨C5m, C6u, .func (fnOf "raised" "Context.raised" (B7 A0c) (B4 A0c) (A3 A0c) .none C7g C7v C8f C6e B0e C5g), C8a⟩)
   (A6m : codeIn K B0e "Context.raised" = true)
   (A2g : keepIn K (.ref A0w) = true)
   (V7m : nsIn K mainGlobals "Ratio" = some (some (.ref CQ)))
   (J8x : plainGet K CQ Str.empty = true)
   (U4g : hasDictIn K CQ = true)
   (U1p : plainOver K CQ = true)
   (J9f : findIn K (.ref CQ) "__setattr__" = some (some (.builtin "object.__setattr__")))
   (U7e : makesIn K CQ = true)
   (U5p : keepIn K (.ref CQ) = true)
   (J9n : findIn K (.ref CQ) "__class__" = some (some (.builtin "object.__class__")))
   (U2h : mroIn K CQ (.type "object") = some true)
   (B8m : findIn K (.ref CQ) "top" = some none)
   (A6w : findIn K (.ref CQ) "bottom" = some none)
   (A8r : findIn K (.ref CQ) "power" = some none)
   (U0a : findIn K (.ref CQ) "__init__" = some (some (.ref C2p)))
   (U1e : isFn K (.ref C2p) = true)
   {V9u U6j : Option Addr} {V8c : Array (Option Value)} {V9w J7u J8p U6c D8q U3a : Value} (U6t : K.lookup C2p = some ⟨V9w, V9u, .func (fnOf "__init__" "Ratio.__init__" (B7 A4g) (B4 A4g) (A3 A4g) (.ref U7s) J7u J8p U6c U6j D8q U3a), V8c⟩)
   (J8z : codeIn K D8q "Ratio.__init__" = true)
   (J9g : keepIn K (.ref C2p) = true)
   {V4q : Tok} {Y3q : Nat} {V9h : Option Addr} {V7e : Value} {V7t : Array (Option Value)} (D1z : K.lookup U7s = some ⟨V7e, V9h, .seq #[.int 0 V4q] Y3q, V7t⟩)
   (A9e : findIn K (.ref CQ) "first" = some (some (.ref A0f)))
   (A8q : isFn K (.ref A0f) = true)
   {D2a D0d : Option Addr} {D2w : Array (Option Value)} {D1e D0s D0y D2k B5c D0u : Value} (A8n : K.lookup A0f = some ⟨D1e, D2a, .func (fnOf "first" "Ratio.first" (B7 A1j) (B4 A1j) (A3 A1j) .none D0s D0y D2k D0d B5c D0u), D2w⟩)
   (A9f : codeIn K B5c "Ratio.first" = true)
   (A4u : keepIn K (.ref A0f) = true)
   (C5q : findIn K (.ref CQ) "at" = some (some (.ref A7p)))
   (C4z : isFn K (.ref A7p) = true)
   {U0y U1r : Option Addr} {U6q : Array (Option Value)} {U7r J6p J6h J6j D1y J9j : Value} (C6y : K.lookup A7p = some ⟨U7r, U0y, .func (fnOf "at" "Ratio.at" (B7 B6t) (B4 B6t) (A3 B6t) .none J6p J6h J6j U1r D1y J9j), U6q⟩)
   (C6r : codeIn K D1y "Ratio.at" = true)
   (B5r : keepIn K (.ref A7p) = true)
   (V8s : nsIn K mainGlobals "Exact" = some (some (.ref CE)))
   (J5w : kitOne K (.ref CQ) (.ref CE) = some true)
   (V9d : nsIn K mainGlobals "BadContext" = some (some (.ref C1)))
   (V8z : nsIn K mainGlobals "BadNumber" = some (some (.ref C2)))
   (V2e : nsIn K mainGlobals "Trapped" = some (some (.ref C3)))
   (Y3d : nsIn K mainGlobals "ReckonError" = some (some (.ref CR)))
   (cty : typeIn K (.ref CR) = some (.type "type"))
   {dR : ClassData} (ccl : clsIn K CR = some dR)
   (cex : subIn K (.ref CR) (.type "BaseException") = some true)
   (q1 : excIn K C1 [.type "ValueError", .type "Exception", .type "BaseException", .type "object"] "ValueError.__new__" = true)
   (q2 : excIn K C2 [.type "ValueError", .type "Exception", .type "BaseException", .type "object"] "ValueError.__new__" = true)
   (sub3 : subIn K (.ref C3) (.ref CR) = some true)
   (xga3 : findIn K (.ref C3) "__getattribute__" = some (some (.builtin "BaseException.__getattribute__")))
   (xgh3 : findIn K (.ref C3) "__getattr__" = some none)
   (xca3 : findIn K (.ref C3) "__class__" = some (some (.builtin "object.__class__")))
   (xob3 : mroIn K C3 (.type "object") = some true)
   (xbe3 : subIn K (.ref C3) (.type "BaseException") = some true)
   {d3 : ClassData} (xcl3 : clsIn K C3 = some d3)
   (Y2y : kitOne K (.ref C3) (.ref C1) = some false)
   (Y3j : kitOne K (.ref C3) (.ref C2) = some false)
   (Y3v : kitOne K (.ref C3) (.ref C3) = some true)
   (hv3 : kitOne K (.ref C3) (.type "ValueError") = some true)
   {nmT qT : Str} {NT : Addr} {bsT bmT : List Value} {snT : List Str} {suT : List Value} {abT : Bool} {coT : Option Bool} {ddT : Option Addr} {kT0 kT1 kT2 kT3 kT5 : Option Value} (lT : K.lookup C3 = some (excClassObj nmT qT C3 NT bsT bmT true snT suT abT coT ddT kT0 kT1 kT2 kT3 kT5 "ValueError.__new__"))
   {ocN : Value} {odN : Option Addr} {esN : Array DictEntry} {epN : Nat} {slN : Array (Option Value)} (lN : K.lookup NT = some ⟨ocN, odN, .dict esN epN, slN⟩)
   (alN : (esN.all fun e => match e.key with | .str _ _ => true | _ => false) = true)
   (niT : nsIn K NT "__init__" = some (some (.ref fX)))
   {nmU qU : Str} {NU : Addr} {bsU : List Value} {snU : List Str} {suU : List Value} {abU : Bool} {coU : Option Bool} {ddU : Option Addr} {kU0 kU1 kU2 kU3 kU5 : Option Value} (lT1 : K.lookup C1 = some (excClassObj nmU qU C1 NU bsU bmT true snU suU abU coU ddU kU0 kU1 kU2 kU3 kU5 "ValueError.__new__"))
   (saT : findIn K (.ref C3) "__setattr__" = some (some (.builtin "object.__setattr__")))
   (nsg3 : findIn K (.ref C3) "signal" = some none)
   {Y3t Y3a : Option Addr} {Y2x : Array (Option Value)} {V4n Y2v Y3c Y4c V4m Y2n : Value} (V3b : K.lookup fX = some ⟨V4n, Y3t, .func (fnOf "__init__" "Trapped.__init__" (B7 A7k) (B4 A7k) (A3 A7k) .none Y2v Y3c Y4c Y3a V4m Y2n), Y2x⟩)
   (V9s : codeIn K V4m "Trapped.__init__" = true)
   (Y0b : keepIn K (.ref fX) = true)
   (fcT : V4n = .type "function")
   (kTR : kitOne K (.ref C3) (.ref CR) = some true)
   (tyT : typeIn K (.ref C3) = some (.type "type"))
   (subT : subIn K (.ref C3) (.ref C3) = some true)
   (a_S : nsIn K mainGlobals "SIGNALS" = some (some (.ref aS)))
   {u0 u1 u2 u3 u4 u5 u6 : Tok} {nS : Nat} {odS : Option Addr} {slS : Array (Option Value)} (lS : K.lookup aS = some ⟨.type "tuple", odS, .seq #[.str "void" u0, .str "split" u1, .str "burst" u2, .str "sunk" u3, .str "faint" u4, .str "off" u5, .str "cut" u6] nS, slS⟩)
   (hcode : C6q = .ref cc) :
   ∃ fd : FuncData, (∀ (s : Shared) (v : Value), BindsTo s fd ⟨[v], []⟩ [("_law_script", v)]) /\ ∀ base : Heap, K.In base -> base.Ns mainGlobals mg -> LamB mg base cc P0 -> FnOkG l.prog w K mg base (CX1 l.prog w) 13 fa fd ["_law_script"] (G4b K P0) := by
 have e := hfa.symm.trans (mg_of X G G5f)
 cases e
 have U2d := D6 (ps := ["thing", "least", "most"]) (st := C0u) X G U0g J7e J9d J8h fun _ _ _ _ _ _ us hl => match us, hl with | [_, _, _], _ => rfl
 have C2u := D6 (ps := ["thing", "least", "most"]) (st := A0p) X G B1x B2v B3k B2r fun _ _ _ _ _ _ us hl => match us, hl with | [_, _, _], _ => rfl
 have D_bounded := D6 (ps := ["thing", "least", "most"]) (st := A1v) X G B1v B3e B2e B1e fun _ _ _ _ _ _ us hl => match us, hl with | [_, _, _], _ => rfl
 have G5e := D6 (ps := ["name"]) (st := A8d) X G C8g C7r C7b C5t fun _ _ _ _ _ _ us hl => match us, hl with | [_], _ => rfl
 have C5w := D6 (ps := ["names"]) (st := A5u) X G C8h C6x C7f C6m fun _ _ _ _ _ _ us hl => match us, hl with | [_], _ => rfl
 have C5e := D6 (ps := ["names"]) (st := A5z) X G C4x C5d C7d C7w fun _ _ _ _ _ _ us hl => match us, hl with | [_], _ => rfl
 have D_plain := D6 (ps := ["sign", "figures", "power"]) (st := A8h) X G C6n C6k C8d C7m fun _ _ _ _ _ _ us hl => match us, hl with | [_, _, _], _ => rfl
 have D_end := D6 (ps := ["sign"]) (st := C8t) X G U0k J7t J6e U5t fun _ _ _ _ _ _ us hl => match us, hl with | [_], _ => rfl
 have D_nothing := D6 (ps := []) (st := A0t) X G B2a B2j B2s B4d fun _ _ _ _ _ _ us hl => match us, hl with | [], _ => rfl
 have D_told := D6 (ps := ["number"]) (st := B4r) X G D6g G2d D7a G2f fun _ _ _ _ _ _ us hl => match us, hl with | [_], _ => rfl
 have B5s := D6 (ps := ["thing"]) (st := A4b) X G C8b C7t C6h C6t fun _ _ _ _ _ _ us hl => match us, hl with | [_], _ => rfl
 have U5w := D6 (ps := ["number"]) (st := B6p) X G G2g G1m D8c D7h fun _ _ _ _ _ _ us hl => match us, hl with | [_], _ => rfl
 have C3a := D6 (ps := ["whole", "count"]) (st := Y8) X G B3g B1m B4c B4j fun _ _ _ _ _ _ us hl => match us, hl with | [_, _], _ => rfl
 have A7r := D6 (ps := ["count"]) (st := A0x) X G C7x C6b C6p C5s fun _ _ _ _ _ _ us hl => match us, hl with | [_], _ => rfl
 have D1g := D6 (ps := ["size", "middle"]) (st := A3y) X G B9d B8y C0f B8p fun _ _ _ _ _ _ us hl => match us, hl with | [_, _], _ => rfl
 have G5g := D6 (ps := ["whole"]) (st := A5r) X G C5p C6j C4v C5v fun _ _ _ _ _ _ us hl => match us, hl with | [_], _ => rfl
 have B7w := D6 (ps := ["context", "exact"]) (st := A1e) X G B7y B8x B9s B8g fun _ _ _ _ _ _ us hl => match us, hl with | [_, _], _ => rfl
 have D1h := D6 (ps := ["context", "sign", "figures", "power"]) (st := A2e) X G C0q B8q B9q B9r fun _ _ _ _ _ _ us hl => match us, hl with | [_, _, _, _], _ => rfl
 have D1d := D6 (ps := ["context", "number"]) (st := A2c) X G C0r C0d B9p B9m fun _ _ _ _ _ _ us hl => match us, hl with | [_, _], _ => rfl
 have D_nines := D6 (ps := ["context", "sign"]) (st := A4a) X G C7u C7n C5f C6a fun _ _ _ _ _ _ us hl => match us, hl with | [_, _], _ => rfl
 have D2x := D6 (ps := ["context", "one"]) (st := A4e) X G B8f B8w B7r B9k fun _ _ _ _ _ _ us hl => match us, hl with | [_, _], _ => rfl
 have D1m := D6 (ps := ["context", "one"]) (st := A3s) X G B8j B8t B8u B8k fun _ _ _ _ _ _ us hl => match us, hl with | [_, _], _ => rfl
 have D_stepped := D6 (ps := ["context", "one", "goal"]) (st := A0s) X G B3p B3a B1q B3m fun _ _ _ _ _ _ us hl => match us, hl with | [_, _, _], _ => rfl
 have D_farther := D6 (ps := ["context", "sign", "exact"]) (st := A1r) X G B1f B3b B2u B2f fun _ _ _ _ _ _ us hl => match us, hl with | [_, _, _], _ => rfl
 have D_nearer := D6 (ps := ["context", "sign", "exact"]) (st := A3n) X G B8v B9w B9a B9g fun _ _ _ _ _ _ us hl => match us, hl with | [_, _, _], _ => rfl
 have U1d := D6 (ps := ["_law_script", "_law_k"]) (st := B6j) X G D9h G0w D6n G1k fun _ _ _ _ _ _ us hl => match us, hl with | [_, _], _ => rfl
 have B5t := D6 (ps := ["_law_cell", "_law_k"]) (st := A3z) X G C7k C8e C7p C7a fun _ _ _ _ _ _ us hl => match us, hl with | [_, _], _ => rfl
 have B4y := D6 (ps := ["_law_count"]) (st := A3a) X G U7h J6f U3s U3k fun _ _ _ _ _ _ us hl => match us, hl with | [_], _ => rfl
 have C2r := D6 (ps := ["_law_cell", "_law_way"]) (st := A0a) X G B4k B1y B4a B4e fun _ _ _ _ _ _ us hl => match us, hl with | [_, _], _ => rfl
 have D2r := D6 (ps := ["_law_cell"]) (st := A1s) X G C0g B9u B9v B9b fun _ _ _ _ _ _ us hl => match us, hl with | [_], _ => rfl
 have U0v := D6 (ps := ["_law_one"]) (st := A8e) X G G2a D7u D9v D7y fun _ _ _ _ _ _ us hl => match us, hl with | [_], _ => rfl
 have J7p := D6 (ps := ["_law_cell"]) (st := B7a) X G G0y D6k G1w G3b fun _ _ _ _ _ _ us hl => match us, hl with | [_], _ => rfl
 have C0k := D6 (ps := ["_law_own_here"]) (st := Z7) X G A8t A8s A8y A9p fun _ _ _ _ _ _ us hl => match us, hl with | [_], _ => rfl
 have G5s := D6 (ps := ["_law_deed"]) (st := A4c) X G C5b C8c C6c C4u fun _ _ _ _ _ _ us hl => match us, hl with | [_], _ => rfl
 have D1v := D6 (ps := ["_law_context_here", "_law_own_here", "_law_deed", "_law_due_here"]) (st := A1u) X G B8s B8h B8e C0b fun _ _ _ _ _ _ us hl => match us, hl with | [_, _, _, _], _ => rfl
 have B5q := D6 (ps := ["_law_own_here", "_law_sign", "_law_many"]) (st := A1d) X G C5y C7e C6g C5c fun _ _ _ _ _ _ us hl => match us, hl with | [_, _, _], _ => rfl
 have C5a := D6 (ps := ["_law_own_here"]) (st := A3x) X G D7d G2q D8z D7q fun _ _ _ _ _ _ us hl => match us, hl with | [_], _ => rfl
 have G0b := D6 (ps := ["_law_own_here", "_law_one"]) (st := A5m) X G G3g D9f D9q D5q fun _ _ _ _ _ _ us hl => match us, hl with | [_, _], _ => rfl
 have B9z := D6 (ps := ["_law_own_here", "_law_one", "_law_sign"]) (st := A0b) X G A9b A9m A9g A8k fun _ _ _ _ _ _ us hl => match us, hl with | [_, _, _], _ => rfl
 have C2m := D6 (ps := ["_law_own_here", "_law_one"]) (st := A1m) X G B3u B2m B1k B2p fun _ _ _ _ _ _ us hl => match us, hl with | [_, _], _ => rfl
 have V4p := D6 (ps := ["_law_own_here", "_law_one", "_law_sign"]) (st := B5w) X G U2a U5k U2x J8a fun _ _ _ _ _ _ us hl => match us, hl with | [_, _, _], _ => rfl
 have D1t := D6 (ps := ["_law_own_here", "_law_cell"]) (st := A1q) X G B7n B8c C0e C0p fun _ _ _ _ _ _ us hl => match us, hl with | [_, _], _ => rfl
 have U2z := D6 (ps := ["_law_context_here", "_law_number_here", "_law_sign"]) (st := A8j) X G D6y D8k G0m D7z fun _ _ _ _ _ _ us hl => match us, hl with | [_, _, _], _ => rfl
 have Y2m := D6 (ps := ["_law_script"]) (st := C0x) X G G5f U1a U6e J6y fun _ _ _ _ _ _ us hl => match us, hl with | [_], _ => rfl
 have O : Own mg := ⟨mg_none_of X G A4q, mg_none_of X G U3w, mg_none_of X G G3r, mg_none_of X G U3n, mg_none_of X G G0r, mg_none_of X G C5x, mg_none_of X G D5j, mg_none_of X G U3x, mg_none_of X G C4y, mg_none_of X G J8j, mg_none_of X G J8e, mg_none_of X G U3q, mg_none_of X G U6m, mg_none_of X G U5c, mg_none_of X G U5v, mg_none_of X G D6p, mg_none_of X G A7a, mg_none_of X G A9s, mg_none_of X G J6w, mg_none_of X G B9n, mg_none_of X G B9h, mg_none_of X G U6x, mg_none_of X G A4t⟩
 have T : Kit K := ⟨A9r, A6z, A8z, A6d, A5c, A6u, A6j, A4n, A6h, A4v, A2q, A4w, A8m, A6v, A9n, A6n, A4m, A6g, A6q, A4j, A6s, A4y, A2r, A4z, A5d, A2t, A4x, A2n, A1y, A2p, A6x, A4h, A6f, A4s, A2s, A4r, A1a, A0e, A0z, A0g, Z6, A0d⟩
 have Y3r : Cls K W0 := ⟨J6u, J8b, U6a, U1y⟩
 have Y4d : Mk0 K W0 := ⟨U1n, U5j, U4j⟩
 have F_name_W0 := V7 (st := sN0) B2q B2c A7v
 have G9g := F_name_W0.binds (ps := ["self"]) fun _ _ _ _ _ _ us hl => match us, hl with | [_], _ => rfl
 have D9z : Meth K W0 "name" A3f := ⟨B2t, B1j, A7v⟩
 have WC0 : WayC K mg "Down" W0 CW := ⟨mg_of X G V7v, Y3r, Y4d, J7h, sn, tk, J6b, U3r⟩
 have Y3b : Cls K W1 := ⟨J5v, U6z, J8c, U0z⟩
 have Y3x : Mk0 K W1 := ⟨U6p, U0c, J7y⟩
 have F_name_W1 := V7 (st := sN1) B3s B4n A7s
 have J0e := F_name_W1.binds (ps := ["self"]) fun _ _ _ _ _ _ us hl => match us, hl with | [_], _ => rfl
 have D6w : Meth K W1 "name" A3k := ⟨B4g, B1s, A7s⟩
 have WC1 : WayC K mg "Up" W1 CW := ⟨mg_of X G V9p, Y3b, Y3x, U3u, sn, tk, J8d, J8q⟩
 have Y3h : Cls K W2 := ⟨J7w, U2k, J9t, J9a⟩
 have Y3k : Mk0 K W2 := ⟨J9r, U2u, J9w⟩
 have F_name_W2 := V7 (st := sN2) B3x B2k A7m
 have G9w := F_name_W2.binds (ps := ["self"]) fun _ _ _ _ _ _ us hl => match us, hl with | [_], _ => rfl
 have G0d : Meth K W2 "name" A3h := ⟨B1g, B3f, A7m⟩
 have WC2 : WayC K mg "Floor" W2 CW := ⟨mg_of X G V8k, Y3h, Y3k, U4v, sn, tk, U4h, U2b⟩
 have Y4a : Cls K W3 := ⟨J7n, U7a, J8g, J9h⟩
 have Y3z : Mk0 K W3 := ⟨U7g, U2s, U3h⟩
 have F_name_W3 := V7 (st := sN3) B1z B4f A7w
 have J0f := F_name_W3.binds (ps := ["self"]) fun _ _ _ _ _ _ us hl => match us, hl with | [_], _ => rfl
 have D7x : Meth K W3 "name" A3e := ⟨B3w, B1c, A7w⟩
 have WC3 : WayC K mg "Ceiling" W3 CW := ⟨mg_of X G V7b, Y4a, Y3z, J7r, sn, tk, U4f, U2j⟩
 have Y2p : Cls K W4 := ⟨U4z, U5z, J7s, U7q⟩
 have Y3m : Mk0 K W4 := ⟨J5z, U2f, J6r⟩
 have F_name_W4 := V7 (st := sN4) B1p B3z A7q
 have G8x := F_name_W4.binds (ps := ["self"]) fun _ _ _ _ _ _ us hl => match us, hl with | [_], _ => rfl
 have G1n : Meth K W4 "name" A3c := ⟨B2d, B3h, A7q⟩
 have WC4 : WayC K mg "HalfUp" W4 CW := ⟨mg_of X G V9k, Y2p, Y3m, U4e, sn, tk, U4c, U1w⟩
 have Y2r : Cls K W5 := ⟨U6w, U1v, J9e, U2c⟩
 have Y2z : Mk0 K W5 := ⟨U1f, U0r, J9b⟩
 have F_name_W5 := V7 (st := sN5) B3t B4m A7x
 have J1u := F_name_W5.binds (ps := ["self"]) fun _ _ _ _ _ _ us hl => match us, hl with | [_], _ => rfl
 have D8t : Meth K W5 "name" A3g := ⟨B1w, B3y, A7x⟩
 have WC5 : WayC K mg "HalfDown" W5 CW := ⟨mg_of X G V9n, Y2r, Y2z, J6m, sn, tk, J9c, U1h⟩
 have Y3w : Cls K W6 := ⟨U1g, J8r, U4n, U7c⟩
 have Y2t : Mk0 K W6 := ⟨J9k, U4a, U4t⟩
 have F_name_W6 := V7 (st := sN6) B3q B1r A7u
 have J1x := F_name_W6.binds (ps := ["self"]) fun _ _ _ _ _ _ us hl => match us, hl with | [_], _ => rfl
 have D9k : Meth K W6 "name" A3j := ⟨B1b, B2z, A7u⟩
 have WC6 : WayC K mg "HalfEven" W6 CW := ⟨mg_of X G V7p, Y3w, Y2t, U1c, sn, tk, J6g, J6d⟩
 have Y2q : Cls K W7 := ⟨U1q, U6y, U0m, J9z⟩
 have Y3y : Mk0 K W7 := ⟨J6q, U2m, U6k⟩
 have F_name_W7 := V7 (st := sN7) B4p B3n A7t
 have G8q := F_name_W7.binds (ps := ["self"]) fun _ _ _ _ _ _ us hl => match us, hl with | [_], _ => rfl
 have D5x : Meth K W7 "name" A3m := ⟨B2n, B1t, A7t⟩
 have WC7 : WayC K mg "FiveUp" W7 CW := ⟨mg_of X G V8m, Y2q, Y3y, J8y, sn, tk, U7n, J6z⟩
 let cw : Wy -> Addr := fun y => match y with | .down => W0 | .up => W1 | .floor => W2 | .ceiling => W3 | .halfUp => W4 | .halfDown => W5 | .halfEven => W6 | .fiveUp => W7
 have W : ∀ y : Wy, WayC K mg y.cls (cw y) CW := fun y => match y with | .down => WC0 | .up => WC1 | .floor => WC2 | .ceiling => WC3 | .halfUp => WC4 | .halfDown => WC5 | .halfEven => WC6 | .fiveUp => WC7
 have Y4b : Cls K CN := ⟨U0x, U2t, U0s, U2g⟩
 have FI_CN := V7 (st := C1d) U5u U0n U5h
 have Y3f := FI_CN.binds (ps := ["self", "kind", "sign", "figures", "power"]) fun _ _ _ _ _ _ us hl => match us, hl with | [_, _, _, _, _], _ => rfl
 have Y5w : Mk K CN C2x := ⟨J7g, J9s, U3j, U5a⟩
 have N : Num K mg CN := ⟨mg_of X G V7s, Y4b, B1u, B2h, A4p, A9d, J9m, sn, tk, U2q, C7z⟩
 have Y3p : Cls K CC := ⟨J7z, U0j, U5n, J8n⟩
 have Y2u := G3v (st := Z4) U0u J7d U1k
 have Y5x : Mk K CC C2z := ⟨J9p, J6n, U3y, U3z⟩
 have F_flags_CC := V7 (st := A1h) A8p A9a A5a
 have G2m := F_flags_CC.binds (ps := ["self"]) fun _ _ _ _ _ _ us hl => match us, hl with | [_], _ => rfl
 have D0t : Meth K CC "flags" A2a := ⟨A8w, A9c, A5a⟩
 have F_lowest_CC := V7 (st := A7f) A6t A6y A2f
 have D2g := F_lowest_CC.binds (ps := ["self"]) fun _ _ _ _ _ _ us hl => match us, hl with | [_], _ => rfl
 have C6d : Meth K CC "lowest" A0v := ⟨A6c, A6r, A2f⟩
 have F_traps_CC := V7 (st := A1g) A8v A9h A4k
 have G2y := F_traps_CC.binds (ps := ["self"]) fun _ _ _ _ _ _ us hl => match us, hl with | [_], _ => rfl
 have D1k : Meth K CC "traps" A1z := ⟨A8u, A8x, A4k⟩
 have F_trap_CC := V7 (st := A2v) B3c B2y A7n
 have J0a := F_trap_CC.binds (ps := ["self", "names"]) fun _ _ _ _ _ _ us hl => match us, hl with | [_, _], _ => rfl
 have G1s : Meth K CC "trap" A3d := ⟨B2b, B3r, A7n⟩
 have F_raised_CC := V7 (st := A0c) A6p A6m A2g
 have D2s := F_raised_CC.binds (ps := ["self", "names"]) fun _ _ _ _ _ _ us hl => match us, hl with | [_, _], _ => rfl
 have C7c : Meth K CC "raised" A0w := ⟨A6k, A6e, A2g⟩
 have Y3u : Cls K CQ := ⟨J8x, U4g, U1p, J9f⟩
 have Y3s := G3v (st := A4g) U6t J8z J9g
 have Y5z : Mk K CQ C2p := ⟨U7e, U0a, U1e, U5p⟩
 have F_first_CQ := V7 (st := A1j) A8n A9f A4u
 have D6z := F_first_CQ.binds (ps := ["self"]) fun _ _ _ _ _ _ us hl => match us, hl with | [_], _ => rfl
 have D0p : Meth K CQ "first" A0f := ⟨A9e, A8q, A4u⟩
 have F_at_CQ := V7 (st := B6t) C6y C6r B5r
 have G5p := F_at_CQ.binds (ps := ["self", "power"]) fun _ _ _ _ _ _ us hl => match us, hl with | [_, _], _ => rfl
 have D2e : Meth K CQ "at" A7p := ⟨C5q, C4z, B5r⟩
 have xk3 : ExcK K C3 := ⟨xga3, xgh3, xca3, sn, tk, xob3, xbe3, by rw [xcl3]; rfl⟩
 have nkT : nsOkIn K NT = true := by unfold nsOkIn; rw [lN]; exact alN
 have tlT : tailIn K G3x bmT = true := by
   have z := q1
   unfold excIn at z
   rw [lT1] at z
   simp only [excClassObj, Bool.and_eq_true] at z
   exact z.1.1.2
 have F_iT := V7 (st := A7k) V3b V9s Y0b
 have Y5y := F_iT.binds (ps := ["self", "signal"]) fun _ _ _ _ _ _ us hl => match us, hl with | [_, _], _ => rfl
 have XI3 : ExcI K C3 fX := ⟨⟨_, _, _, _, _, _, _, _, _, _, _, _, _, _, _, lT, nkT, niT, tlT⟩, ⟨_, V3b, fcT⟩, saT, xob3⟩
 have SG : SigK K mg aS := ⟨mg_of X G a_S, ⟨_, lS, rfl⟩, fun H => .inr ⟨_, _, _, lS, rfl, rfl, D5 (by show 7 <= 1000; decide), .cons ⟨_, rfl⟩ (.cons ⟨_, rfl⟩ (.cons ⟨_, rfl⟩ (.cons ⟨_, rfl⟩ (.cons ⟨_, rfl⟩ (.cons ⟨_, rfl⟩ (.cons ⟨_, rfl⟩ (.nil)))))))⟩⟩
 have C : CtxC K mg CC := ⟨mg_of X G V9f, Y3p, B2w, B1h, A9k, B2x, A9j, A5b⟩
 have B : Err K mg "BadNumber" C2 := ⟨mg_of X G V8z, q2⟩
 have B2 : Err K mg "BadContext" C1 := ⟨mg_of X G V9d, q1⟩
 have RT : CaughtU K mg C3 := ⟨mg_of X G V2e, ⟨tyT, by unfold clsIn; rw [lT]; rfl, xbe3⟩, subT, xk3, ⟨_, by unfold clsIn; rw [lT], rfl⟩, nsg3⟩
 have R : RatC K mg CQ CE := ⟨mg_of X G V7m, mg_of X G V8s, Y3u, B8m, A6w, A8r, J9n, sn, tk, U2h, J5w⟩
 have b4 := D3e (fd := fnOf "__init__" "Context.__init__" (B7 Z4) (B4 Z4) (A3 Z4) (.ref U1u) J8m J8s U4r U2w G2h U4p) (ps := ["self", "room", "way", "least", "most"]) (ds := []) rfl U6f rfl fun us hl => by obtain ⟨a, b, c, d, e, rfl⟩ := Y5b (U8u hl); exact ⟨_, rfl, rfl⟩
 refine ⟨fnOf "law" "law" (B7 C0x) (B4 C0x) (A3 C0x) .none J7q U5y J6t U2y C6q U5b, fun s v => .of_eq rfl, fun base _ _ LB => ?_⟩
 have WN : ∀ y : Wy, Y1p l.prog w K mg base (cw y) y.name := fun y => match y with | .down => ⟨_, _, D9z, Y0d F_name_W0, G9g⟩ | .up => ⟨_, _, D6w, Y1s F_name_W1, J0e⟩ | .floor => ⟨_, _, G0d, Y1u F_name_W2, G9w⟩ | .ceiling => ⟨_, _, D7x, Y1c F_name_W3, J0f⟩ | .halfUp => ⟨_, _, G1n, Y0y F_name_W4, G8x⟩ | .halfDown => ⟨_, _, D8t, Y0c F_name_W5, J1u⟩ | .halfEven => ⟨_, _, D9k, Y0u F_name_W6, J1x⟩ | .fiveUp => ⟨_, _, D5x, Y1h F_name_W7, G8q⟩
 have Gb := D3n (P := l.prog) (w := w) (base := base) D_bounded U2d O T B2
 have Gw := J5s (P := l.prog) (w := w) (base := base) G5e O T B2 W
 have MC : MakeC l.prog w K mg base CC C1 C2z _ := ⟨Y5x, D5e Y2u D_bounded G5e Gb Gw C W WN⟩
 have MR : MakeR l.prog w K mg base CQ C2p (fnOf "__init__" "Ratio.__init__" (B7 A4g) (B4 A4g) (A3 A4g) (.ref U7s) J7u J8p U6c U6j D8q U3a) (.int 0 V4q) (fun us ws => match ws with | [a] => us ++ [a] | _ => []) (fun us ws => match ws with | [a] => us ++ [a] | _ => []) :=
   { m := Y5z
     g := J2n Y3s R
     b3 := D3e rfl D1z rfl fun us hl => by obtain ⟨a, b, c, d, rfl⟩ := Y5k (U8u hl); exact ⟨_, rfl, rfl⟩
     b2 := D3e rfl D1z rfl fun us hl => by obtain ⟨a, b, c, rfl⟩ := Y1x (U8u hl); exact ⟨_, rfl, rfl⟩
     r0 := ⟨_, rfl⟩
     kP := ⟨(fun s us ws XK hl => by
         rcases ws with _ | ⟨p, _ | ⟨q, t⟩⟩
         . cases hl
         . obtain ⟨a, b, c, rfl⟩ := Y1x (U8u hl)
           exact binds_K XK rfl D1z rfl rfl rfl
         . cases hl), fun r z => match z with
       | .cons a .nil => r.append (.cons a .nil)
       | .nil => .nil
       | .cons _ (.cons _ _) => .nil⟩
     eP := fun _ _ _ _ => rfl }
 have M : MakeN l.prog w K mg base CN C2x _ := ⟨Y5w, U8y FI_CN N, Y3f⟩
 have Gn := J2h (P := l.prog) (w := w) (base := base) C5w O T B2 SG
 have Go := J5d (P := l.prog) (w := w) (base := base) C5e SG
 have GX := G6s (P := l.prog) (w := w) (mg := mg) (base := base) F_iT XI3 nsg3
 have MF : Has l.prog w K mg base CC "flags" 1 ["self"] (A8f CC) := ⟨_, _, D0t, C9d F_flags_CC C O, G2m⟩
 have ML : Has l.prog w K mg base CC "lowest" 1 ["self"] (B6g CC) := ⟨_, _, C6d, G6u F_lowest_CC C, D2g⟩
 have MT : Has l.prog w K mg base CC "traps" 1 ["self"] (A8g CC) := ⟨_, _, D1k, C9n F_traps_CC C O, G2y⟩
 have MP : Has l.prog w K mg base CC "trap" 2 ["self", "names"] (D4v K CC C1) := ⟨_, _, G1s, V0k F_trap_CC C5w Gn C5e Go C, J0a⟩
 have MD : Has l.prog w K mg base CC "raised" 3 ["self", "names"] (B6k K CC C1 C3) := ⟨_, _, C7c, G7e F_raised_CC C5w Gn C5e Go C (mg_of X G V2e) XI3 GX Y5y, D2s⟩
 have CL : CtxL l.prog w K mg base CC := ⟨C, ML⟩
 have Gneedn := C9x (P := l.prog) (w := w) (base := base) B5s O T B N
 have Gtold := U8p (P := l.prog) (w := w) (base := base) D_told B5s O T B N
 have Gplain := J3w (P := l.prog) (w := w) (base := base) D_plain C2u U2d O T B N M
 have Gend := V5v (P := l.prog) (w := w) (base := base) D_end C2u U2d O T B N M
 have Gnothing := D4j (P := l.prog) (w := w) (base := base) D_nothing N M
 have Glead := U9h (P := l.prog) (w := w) (base := base) U5w O N
 have Gto := J2t (P := l.prog) (w := w) (base := base) A7r C3a (C3q C3a)
 have Gten := V0d (P := l.prog) (w := w) (base := base) B4y O
 have Gat := V5c (P := l.prog) (w := w) (base := base) F_at_CQ A7r Gto D1g (G7x D1g) R O
 have RM : RatM l.prog w K mg base CQ A0f A7p _ _ := ⟨D0p, G7k F_first_CQ G5g (J4h G5g A7r Gto) D2e Gat G5p R, D6z, D2e, Gat, G5p⟩
 have Gfin := G6d (P := l.prog) (w := w) (base := base) B7w CL RM R O
 have Gwit := G7z (P := l.prog) (w := w) (base := base) D1h A7r Gto CL N M
 have Gbey := G6r (P := l.prog) (w := w) (base := base) D1d U5w Glead CL N
 have Gnin := J2g (P := l.prog) (w := w) (base := base) D_nines A7r Gto CL N M
 have Gfar := V6h (P := l.prog) (w := w) (base := base) D_farther B7w Gfin D1h Gwit D1d Gbey D_end Gend CL RM R
 have Gnea := U8c (P := l.prog) (w := w) (base := base) D_nearer B7w Gfin D_nines Gnin A7r Gto N M CL RM R
 have Gst := D3z (P := l.prog) (w := w) (base := base) D_stepped D_nothing Gnothing D_nines Gnin D_farther Gfar D_nearer Gnea N M CL MR R
 have Gup := G7f (P := l.prog) (w := w) (base := base) D2x B5s Gneedn D_stepped Gst
 have Gdn := G7y (P := l.prog) (w := w) (base := base) D1m B5s Gneedn D_stepped Gst
 have Gmix := J3h (P := l.prog) (w := w) (base := base) B5t
 have Gfig := C8y (P := l.prog) (w := w) (base := base) C2r B5t Gmix B4y Gten O
 have Ggone := J2p (P := l.prog) (w := w) (base := base) U2z D2x Gup D1m Gdn
 have Gsh := G8c (P := l.prog) (w := w) (base := base) B5q B4y Gten O
 have Gmo := J3j (P := l.prog) (w := w) (base := base) C5a B4y Gten O
 have Ggr := J2u (P := l.prog) (w := w) (base := base) G0b B4y Gten O
 have Gtr := G7t (P := l.prog) (w := w) (base := base) (k := 10) (by decide) G5s D_told Gtold RT
 exact V5w Y2m hcode LB U1d (V0c U1d O) J7p (V0f J7p B5t Gmix O) C0k (C8k C0k MC b4 C MD MP O) D2r (D4b D2r B5t Gmix C2r Gfig O)
   D1t (D3k D1t B4y Gten O) U0v (J3d U0v D_plain Gplain D_end Gend D_nothing Gnothing) V4p (U9u V4p B9z (C9m B9z B4y Gten G0b Ggr C5a Gmo B5q Gsh O) C2m (D5c C2m B4y Gten G0b Ggr C5a Gmo B5q Gsh O) C5a Gmo B5q Gsh)
   D1v (D4m (k := 10) D1v G5s Gtr C MF SG O) U2z Ggone D_told Gtold C MT O
theorem walk {cc P0 : Addr} {l : OpenLaw} {q : Program} {loose : List Str} {XP : (Str -> Option Value) -> Heap -> Prop} {YP : World -> Heap -> Prop} {d : DefRec} {K : Params -> Frag} (hn : l.most = some 63) (hdf : d.params.defaults = [])
   (hY : ∀ (w : World) (h : Heap), YP w h -> (K w.params).In h /\ CodeHd h cc P0 /\ h.get? P0 = some (tabObj #[])) (hKP : ∀ p, (K p).lookup P0 = none)
   (F : ∀ (w : World) (mg : Str -> Option Value) (fa : Addr) (h : Heap), (K w.params).In h -> h.Ns mainGlobals mg -> mg d.name = some (.ref fa) ->
     ∃ fd : FuncData, (∀ (s : Shared) (u : Value), BindsTo s fd ⟨[u], []⟩ [("_law_script", u)]) /\ ∀ base : Heap, (K w.params).In base -> base.Ns mainGlobals mg -> LamB mg base cc P0 -> FnOkG l.prog w (K w.params) mg base (CX1 l.prog w) 13 fa fd ["_law_script"] ((G4b (K w.params) P0))) :
   WalkO q loose XP YP l.row.toRowW d [] (fun f vs => PySem.call f vs) :=
 L2.walk_ofL (n := 63) (k := 13) (x := "_law_script") (CX := fun w => CX1 l.prog w) (sp := fun w => (G4b (K w.params) P0)) hn (by decide) hdf ⟨rfl, by decide, by decide⟩ hY hKP F (fun _ _ a ns hl hP hS => ⟨a, ns, rfl, hl, hS, hP, fun _ => rfl⟩) fun _ _ _ _ _ z => by
   obtain ⟨_, _, _, _, _, _, _, _, _, _, z, _⟩ := z
   exact z
end TR
def PySem.W.Fast.tw6966905679306008290 : Unit := ()
def PySem.W.Fast.tw10571438154042280372 : Unit := ()
def PySem.W.Fast.tw14165825541894003454 : Unit := ()
def PySem.W.Fast.tw11449613638682255908 : Unit := ()
def PySem.W.Fast.tw12811554234442032075 : Unit := ()
def PySem.W.Fast.tw2844386270888129500 : Unit := ()
def PySem.W.Fast.tw14885285954597773306 : Unit := ()
def PySem.W.Fast.tw1987850580862857078 : Unit := ()
def PySem.W.Fast.tw10770785271491221818 : Unit := ()
def PySem.W.Fast.tw1424324924376622240 : Unit := ()
def PySem.W.Fast.tw16838871706886444241 : Unit := ()
def PySem.W.Fast.tw1237248040151589388 : Unit := ()
def PySem.W.Fast.tw15787785897040712724 : Unit := ()
def PySem.W.Fast.tw1321494571585229723 : Unit := ()
def PySem.W.Fast.tw8324488291353092686 : Unit := ()
def PySem.W.Fast.tw12963786492450352162 : Unit := ()
def PySem.W.Fast.tw13709673266202639201 : Unit := ()
def PySem.W.Fast.tw388374658992139296 : Unit := ()
def PySem.W.Fast.tw4825863498057570188 : Unit := ()
def PySem.W.Fast.tw6753286450645685455 : Unit := ()
def PySem.W.Fast.tw14094659357533091827 : Unit := ()
def PySem.W.Fast.tw2422097062669635628 : Unit := ()
def PySem.W.Fast.tw14343030123188183399 : Unit := ()
def PySem.W.Fast.tw13757084645337360963 : Unit := ()
def PySem.W.Fast.tw6293782425090602098 : Unit := ()
def PySem.W.Fast.tw15199050522980692622 : Unit := ()
def PySem.W.Fast.tw14274510901021583118 : Unit := ()
def PySem.W.Fast.tw92287574908728311 : Unit := ()
def PySem.W.Fast.tw10025036629402831992 : Unit := ()
def PySem.W.Fast.tw5840128761096728806 : Unit := ()
def PySem.W.Fast.tw18379986771669063557 : Unit := ()
def PySem.W.Fast.tw2998170764610570796 : Unit := ()
def PySem.W.Fast.tw7016689855201543563 : Unit := ()
def PySem.W.Fast.tw1458023716709512519 : Unit := ()
def PySem.W.Fast.tw9764656941009161183 : Unit := ()
def PySem.W.Fast.tw5832558352935293606 : Unit := ()
def PySem.W.Fast.tw219673555605172746 : Unit := ()
def PySem.W.Fast.tw12497615523876988971 : Unit := ()
def PySem.W.Fast.tw3667888308311601944 : Unit := ()
def PySem.W.Fast.tw16731659334198171095 : Unit := ()
def PySem.W.Fast.tw15717616316411321515 : Unit := ()
def PySem.W.Fast.tw9723593125151063231 : Unit := ()
def PySem.W.Fast.tw6790885090490916741 : Unit := ()
def PySem.W.Fast.tw6146046364055727690 : Unit := ()
def PySem.W.Fast.tw2200357182964859948 : Unit := ()
def PySem.W.Fast.tw16248302950649092880 : Unit := ()
def PySem.W.Fast.tw4925242779262090145 : Unit := ()
def PySem.W.Fast.tw6441014145394390218 : Unit := ()
def PySem.W.Fast.tw3608154167020631600 : Unit := ()
def PySem.W.Fast.tw11558304250604402323 : Unit := ()
def PySem.W.Fast.tw15618651921036952273 : Unit := ()
def PySem.W.Fast.tw2527723837602767796 : Unit := ()
def PySem.W.Fast.tw6094168305132046994 : Unit := ()
def PySem.W.Fast.tw2625855767214798447 : Unit := ()
def PySem.W.Fast.tw6331688996972420180 : Unit := ()
def PySem.W.Fast.tw12536653573800401005 : Unit := ()
def PySem.W.Fast.tw13912179776114320336 : Unit := ()
def PySem.W.Fast.tw10928335864328151774 : Unit := ()
def PySem.W.Fast.tw3226278538541282403 : Unit := ()
def PySem.W.Fast.tw10073612214136084164 : Unit := ()
def PySem.W.Fast.tw4089246961342058576 : Unit := ()
def PySem.W.Fast.tw16276776532022334453 : Unit := ()
def PySem.W.Fast.tw15694069314845306733 : Unit := ()
def PySem.W.Fast.tw13460862507907291377 : Unit := ()
def PySem.W.Fast.tw15494436927145737799 : Unit := ()
def PySem.W.Fast.tw5977751758686229005 : Unit := ()
open PySem PySem.W PyProof.Rows
set_option maxRecDepth 100000 in
set_option maxHeartbeats 0 in
theorem PySem.Challenge.cw_tenreckon_k30_next_ones_holds : PySem.Challenge.rw_tenreckon_k30_next_ones.Holds := by
 w_on; o_law; k_head; (case hw => w_witness2)
 k_fill
 refine TR.walk (l := PySem.Challenge.rw_tenreckon_k30_next_ones) (cc := 832) (P0 := 828) rfl rfl (fun w h Y => ⟨PySem.W.km_in_of Y, PySem.W.codeHd_of_K (PySem.W.km_in_of Y) (by kernel_rfl), PySem.W.km_tabs_of Y _ (by k_mem)⟩) (fun _ => by kernel_rfl) ?F
 case F =>
   intro w mg fa h KX G hmg
   refine' TR.all_mk (cc := 832) (P0 := 828) KX G hmg ?U0g ?J7e ?J9d ?J8h ?B1x ?B2v ?B3k ?B2r ?B1v ?B3e ?B2e ?B1e ?C8g ?C7r ?C7b ?C5t ?C8h ?C6x ?C7f ?C6m ?C4x ?C5d ?C7d ?C7w ?C6n ?C6k ?C8d ?C7m ?U0k ?J7t ?J6e ?U5t ?B2a ?B2j ?B2s ?B4d ?D6g ?G2d ?D7a ?G2f ?C8b ?C7t ?C6h ?C6t ?G2g ?G1m ?D8c ?D7h ?B3g ?B1m ?B4c ?B4j ?C7x ?C6b ?C6p ?C5s ?B9d ?B8y ?C0f ?B8p ?C5p ?C6j ?C4v ?C5v ?B7y ?B8x ?B9s ?B8g ?C0q ?B8q ?B9q ?B9r ?C0r ?C0d ?B9p ?B9m ?C7u ?C7n ?C5f ?C6a ?B8f ?B8w ?B7r ?B9k ?B8j ?B8t ?B8u ?B8k ?B3p ?B3a ?B1q ?B3m ?B1f ?B3b ?B2u ?B2f ?B8v ?B9w ?B9a ?B9g ?D9h ?G0w ?D6n ?G1k ?C7k ?C8e ?C7p ?C7a ?U7h ?J6f ?U3s ?U3k ?B4k ?B1y ?B4a ?B4e ?C0g ?B9u ?B9v ?B9b ?G2a ?D7u ?D9v ?D7y ?G0y ?D6k ?G1w ?G3b ?A8t ?A8s ?A8y ?A9p ?C5b ?C8c ?C6c ?C4u ?B8s ?B8h ?B8e ?C0b ?C5y ?C7e ?C6g ?C5c ?D7d ?G2q ?D8z ?D7q ?G3g ?D9f ?D9q ?D5q ?A9b ?A9m ?A9g ?A8k ?B3u ?B2m ?B1k ?B2p ?U2a ?U5k ?U2x ?J8a ?B7n ?B8c ?C0e ?C0p ?D6y ?D8k ?G0m ?D7z ?G5f ?U1a ?U6e ?J6y ?A4q ?U3w ?G3r ?U3n ?G0r ?C5x ?D5j ?U3x ?C4y ?J8j ?J8e ?U3q ?U6m ?U5c ?U5v ?D6p ?A7a ?A9s ?J6w ?B9n ?B9h ?U6x ?A4t ?A9r ?A6z ?A8z ?A6d ?A5c ?A6u ?A6j ?A4n ?A6h ?A4v ?A2q ?A4w ?A8m ?A6v ?A9n ?A6n ?A4m ?A6g ?A6q ?A4j ?A6s ?A4y ?A2r ?A4z ?A5d ?A2t ?A4x ?A2n ?A1y ?A2p ?A6x ?A4h ?A6f ?A4s ?A2s ?A4r ?A1a ?A0e ?A0z ?A0g ?Z6 ?A0d ?sn ?tk ?Y2w ?V7v ?J6u ?J8b ?U6a ?U1y ?U1n ?U4j ?J7h ?J6b ?U5j ?U3r ?B2t ?B1j ?B2q ?B2c ?A7v ?V9p ?J5v ?U6z ?J8c ?U0z ?U6p ?J7y ?U3u ?J8d ?U0c ?J8q ?B4g ?B1s ?B3s ?B4n ?A7s ?V8k ?J7w ?U2k ?J9t ?J9a ?J9r ?J9w ?U4v ?U4h ?U2u ?U2b ?B1g ?B3f ?B3x ?B2k ?A7m ?V7b ?J7n ?U7a ?J8g ?J9h ?U7g ?U3h ?J7r ?U4f ?U2s ?U2j ?B3w ?B1c ?B1z ?B4f ?A7w ?V9k ?U4z ?U5z ?J7s ?U7q ?J5z ?J6r ?U4e ?U4c ?U2f ?U1w ?B2d ?B3h ?B1p ?B3z ?A7q ?V9n ?U6w ?U1v ?J9e ?U2c ?U1f ?J9b ?J6m ?J9c ?U0r ?U1h ?B1w ?B3y ?B3t ?B4m ?A7x ?V7p ?U1g ?J8r ?U4n ?U7c ?J9k ?U4t ?U1c ?J6g ?U4a ?J6d ?B1b ?B2z ?B3q ?B1r ?A7u ?V8m ?U1q ?U6y ?U0m ?J9z ?J6q ?U6k ?J8y ?U7n ?U2m ?J6z ?B2n ?B1t ?B4p ?B3n ?A7t ?V7s ?U0x ?U2t ?U0s ?U2g ?J7g ?U5a ?J9m ?U2q ?B1u ?B2h ?A4p ?A9d ?J9s ?U3j ?U5u ?U0n ?U5h ?C7z ?V9f ?J7z ?U0j ?U5n ?J8n ?J9p ?U3z ?B2w ?B1h ?A9k ?B2x ?A9j ?A5b ?J6n ?U3y ?U0u ?J7d ?U1k ?U6f ?A8w ?A9c ?A8p ?A9a ?A5a ?A6c ?A6r ?A6t ?A6y ?A2f ?A8u ?A8x ?A8v ?A9h ?A4k ?B2b ?B3r ?B3c ?B2y ?A7n ?A6k ?A6e ?A6p ?A6m ?A2g ?V7m ?J8x ?U4g ?U1p ?J9f ?U7e ?U5p ?J9n ?U2h ?B8m ?A6w ?A8r ?U0a ?U1e ?U6t ?J8z ?J9g ?D1z ?A9e ?A8q ?A8n ?A9f ?A4u ?C5q ?C4z ?C6y ?C6r ?B5r ?V8s ?J5w ?V9d ?V8z ?V2e ?Y3d ?cty ?ccl ?cex ?q1 ?q2 ?sub3 ?xga3 ?xgh3 ?xca3 ?xob3 ?xbe3 ?xcl3 ?Y2y ?Y3j ?Y3v ?hv3 ?lT ?lN ?alN ?niT ?lT1 ?saT ?nsg3 ?V3b ?V9s ?Y0b ?fcT ?kTR ?tyT ?subT ?a_S ?lS ?hcode
   case U0g|J7e|J9d|J8h|B1x|B2v|B3k|B2r|B1v|B3e|B2e|B1e|C8g|C7r|C7b|C5t|C8h|C6x|C7f|C6m|C4x|C5d|C7d|C7w|C6n|C6k|C8d|C7m|U0k|J7t|J6e|U5t|B2a|B2j|B2s|B4d|D6g|G2d|D7a|G2f|C8b|C7t|C6h|C6t|G2g|G1m|D8c|D7h|B3g|B1m|B4c|B4j|C7x|C6b|C6p|C5s|B9d|B8y|C0f|B8p => k_is
   case C5p|C6j|C4v|C5v|B7y|B8x|B9s|B8g|C0q|B8q|B9q|B9r|C0r|C0d|B9p|B9m|C7u|C7n|C5f|C6a|B8f|B8w|B7r|B9k|B8j|B8t|B8u|B8k|B3p|B3a|B1q|B3m|B1f|B3b|B2u|B2f|B8v|B9w|B9a|B9g|D9h|G0w|D6n|G1k|C7k|C8e|C7p|C7a|U7h|J6f|U3s|U3k|B4k|B1y|B4a|B4e|C0g|B9u|B9v|B9b => k_is
   case G2a|D7u|D9v|D7y|G0y|D6k|G1w|G3b|A8t|A8s|A8y|A9p|C5b|C8c|C6c|C4u|B8s|B8h|B8e|C0b|C5y|C7e|C6g|C5c|D7d|G2q|D8z|D7q|G3g|D9f|D9q|D5q|A9b|A9m|A9g|A8k|B3u|B2m|B1k|B2p|U2a|U5k|U2x|J8a|B7n|B8c|C0e|C0p|D6y|D8k|G0m|D7z|G5f|U1a|U6e|J6y|A4q|U3w|G3r|U3n => k_is
   case G0r|C5x|D5j|U3x|C4y|J8j|J8e|U3q|U6m|U5c|U5v|D6p|A7a|A9s|J6w|B9n|B9h|U6x|A4t => k_is
   case A9r|A6z|A8z|A6d|A5c|A6u|A6j|A4n|A6h|A4v|A2q|A4w|A8m|A6v|A9n|A6n|A4m|A6g|A6q|A4j|A6s|A4y|A2r|A4z|A5d|A2t|A4x|A2n|A1y|A2p|A6x|A4h|A6f|A4s|A2s|A4r|A1a|A0e|A0z|A0g|Z6|A0d => kit_is
   case sn|tk|Y2w|V7v|J6u|J8b|U6a|U1y|U1n|U4j|J7h|J6b|U5j => k_is
   case U3r => kit_is
   case B2t|B1j|B2q|B2c|A7v|V9p|J5v|U6z|J8c|U0z|U6p|J7y|U3u|J8d|U0c => k_is
   case J8q => kit_is
   case B4g|B1s|B3s|B4n|A7s|V8k|J7w|U2k|J9t|J9a|J9r|J9w|U4v|U4h|U2u => k_is
   case U2b => kit_is
   case B1g|B3f|B3x|B2k|A7m|V7b|J7n|U7a|J8g|J9h|U7g|U3h|J7r|U4f|U2s => k_is
   case U2j => kit_is
   case B3w|B1c|B1z|B4f|A7w|V9k|U4z|U5z|J7s|U7q|J5z|J6r|U4e|U4c|U2f => k_is
   case U1w => kit_is
   case B2d|B3h|B1p|B3z|A7q|V9n|U6w|U1v|J9e|U2c|U1f|J9b|J6m|J9c|U0r => k_is
   case U1h => kit_is
   case B1w|B3y|B3t|B4m|A7x|V7p|U1g|J8r|U4n|U7c|J9k|U4t|U1c|J6g|U4a => k_is
   case J6d => kit_is
   case B1b|B2z|B3q|B1r|A7u|V8m|U1q|U6y|U0m|J9z|J6q|U6k|J8y|U7n|U2m => k_is
   case J6z => kit_is
   case B2n|B1t|B4p|B3n|A7t|V7s|U0x|U2t|U0s|U2g|J7g|U5a|J9m|U2q|B1u|B2h|A4p|A9d|J9s|U3j|U5u|U0n|U5h => k_is
   case C7z => kit_is
   case V9f|J7z|U0j|U5n|J8n|J9p|U3z|B2w|B1h|A9k|B2x|A9j|A5b|J6n|U3y|U0u|J7d|U1k|U6f|A8w|A9c|A8p|A9a|A5a|A6c|A6r|A6t|A6y|A2f|A8u|A8x|A8v|A9h|A4k|B2b|B3r|B3c|B2y|A7n|A6k|A6e|A6p|A6m|A2g|V7m|J8x|U4g|U1p|J9f|U7e|U5p|J9n|U2h|B8m|A6w|A8r|U0a|U1e|U6t|J8z => k_is
   case J9g|D1z|A9e|A8q|A8n|A9f|A4u|C5q|C4z|C6y|C6r|B5r|V8s => k_is
   case J5w => kit_is
   case V9d|V8z|V2e|Y3d|cty|ccl|cex => k_is
   case q1|q2 => k_exc
   case sub3|xga3|xgh3|xca3|xob3|xbe3|xcl3 => k_is
   case Y2y|Y3j|Y3v|hv3 => kit_is
   case lT|lN => k_is
   case alN => simp
   case niT|lT1|saT|nsg3|V3b|V9s|Y0b => k_is
   case fcT => rfl
   case kTR => kit_is
   case tyT|subT|a_S|lS => k_is
   case hcode => rfl

