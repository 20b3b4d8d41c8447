import PyProof.Rows.All
import Wide.All
import OpenK.AllK
import Wide.FinOn
import Lean
import PyProof.EqAt
import PyProof.EqKinds
import PyProof.TupleCall
import PyProof.Rows.Catch
import PyProof.Rows.TupIter
import PyProof.TupleIter
import PyProof.Seq
import PyProof.ExcInit
import PyProof.ExcClass2
import KE.KIntText
import PyProof.StrOps2
import PyProof.ConsumeWalk
import PyProof.Rows.RuleM_int
import PyProof.ZipIter
import PyProof.EnumMake
import KE.KLam
import PySem.Challenge.RW_tenreckon_k27_same_powers
set_option Elab.async false
set_option linter.all false
set_option maxRecDepth 100000
namespace L2
open PySem PySem.Spec PyProof.Rows
abbrev Key := Sum Int Str
def C5s : Key -> Value -> Bool
 | .inl k, v => Value.isInt k v
 | .inr x, v => Value.isStrOf x v
def Y7y (w : World) : Key -> Int
 | .inl k => hashInt k
 | .inr x => hashStr w x
theorem U9 : ∀ {k : Key} {v : Value}, C5s k v = true -> (∃ i t, k = Sum.inl i /\ v = Value.int i t) \/ (∃ x t, k = Sum.inr x /\ v = Value.str x t)
 | .inl i, v, h => by
   obtain ⟨t, e⟩ := Value.isInt_shape (k := i) (v := v) h
   exact .inl ⟨i, t, rfl, e⟩
 | .inr x, v, h => by
   obtain ⟨t, e⟩ := Value.isStrOf_shape (x := x) (v := v) h
   exact .inr ⟨x, t, rfl, e⟩
theorem J1v (i : Int) (t : Tok) : C5s (.inl i) (.int i t) = true := by simp [C5s, Value.isInt]
theorem J2z (x : Str) (t : Tok) : C5s (.inr x) (.str x t) = true := by simp [C5s, Value.isStrOf]
theorem V7t (a b : Int) : decide ((Sum.inl a : Key) = Sum.inl b) = (a == b) := by
 by_cases e : a = b
 . subst e; simp
 . have h : ¬ (Sum.inl a : Key) = Sum.inl b := fun q => e (Sum.inl.inj q)
   rw [decide_eq_false h]
   exact (beq_eq_false_iff_ne.mpr e).symm
theorem V7w (a b : Str) : decide ((Sum.inr a : Key) = Sum.inr b) = decide (a = b) := by
 by_cases e : a = b
 . subst e; simp
 . have h : ¬ (Sum.inr a : Key) = Sum.inr b := fun q => e (Sum.inr.inj q)
   rw [decide_eq_false h, decide_eq_false e]
theorem V9t (a : Int) (b : Str) : decide ((Sum.inl a : Key) = Sum.inr b) = false := decide_eq_false (fun q => nomatch q)
theorem V8n (a : Str) (b : Int) : decide ((Sum.inr a : Key) = Sum.inl b) = false := decide_eq_false (fun q => nomatch q)
def V6 (prog : Program) (w : World) : PySem.KeyKind prog w Key where
 is := C5s
 hash := Y7y w
 inj := fun v a b ha hb => by
   rcases U9 ha with ⟨i, t, rfl, rfl⟩ | ⟨x, t, rfl, rfl⟩
   . rcases U9 hb with ⟨j, u, rfl, e⟩ | ⟨y, u, rfl, e⟩
     . injection e with e1 _; rw [e1]
     . exact nomatch e
   . rcases U9 hb with ⟨j, u, rfl, e⟩ | ⟨y, u, rfl, e⟩
     . exact nomatch e
     . injection e with e1 _; rw [e1]
 byValue := fun k v h => by
   rcases U9 h with ⟨i, t, rfl, rfl⟩ | ⟨x, t, rfl, rfl⟩ <;> rfl
 pyHash := fun hv h => by
   rcases U9 hv with ⟨i, t, rfl, rfl⟩ | ⟨x, t, rfl, rfl⟩
   . exact wpAny_pyHash_int h
   . exact wpAny_pyHash_str h
 eqBool := fun hu hv h => by
   rcases U9 hu with ⟨i, t, rfl, rfl⟩ | ⟨x, t, rfl, rfl⟩
   . rcases U9 hv with ⟨j, u, rfl, rfl⟩ | ⟨y, u, rfl, rfl⟩
     . rw [V7t] at h; exact wpAny_eqBool_int h
     . rw [V9t] at h; exact SeqAt.EqAt.int_str i t y u _ _ _ _ h
   . rcases U9 hv with ⟨j, u, rfl, rfl⟩ | ⟨y, u, rfl, rfl⟩
     . rw [V8n] at h; exact SeqAt.EqAt.str_int x t j u _ _ _ _ h
     . rw [V7w] at h; exact wpAny_eqBool_str h
 «strs» := fun k x t v h => by
   rcases U9 h with ⟨i, u, rfl, e⟩ | ⟨y, u, rfl, e⟩
   . exact nomatch e
   . injection e with e1 _
     subst e1
     cases v <;> rfl
theorem D4g (prog : Program) (w : World) (i : Int) (t : Tok) : (V6 prog w).is (.inl i) (.int i t) = true := J1v i t
theorem D4x (prog : Program) (w : World) (x : Str) (t : Tok) : (V6 prog w).is (.inr x) (.str x t) = true := J2z x t
inductive V where
 | non | bl (b : Bool) | int (i : Int) | str (x : Str) | byt (b : Array UInt8) | flt (b : UInt64) | ref (a : Addr) | ty (n : String)
 deriving DecidableEq
def RelV : V -> Value -> Prop
 | .non, u => u = Value.none
 | .bl b, u => u = Value.bool b
 | .int i, u => ∃ t, u = Value.int i t
 | .str x, u => ∃ t, u = Value.str x t
 | .byt b, u => ∃ t, u = Value.bytes b t
 | .flt b, u => ∃ t, u = Value.float b t
 | .ref a, u => u = Value.ref a
 | .ty n, u => u = Value.type n
abbrev Vals : List V -> List Value -> Prop := Paired RelV
theorem Vals.length {xs : List V} {us : List Value} (r : Vals xs us) : xs.length = us.length := Paired.length r
theorem Vals.get : ∀ {xs : List V} {us : List Value} {i : Nat} {x : V}, Vals xs us -> xs[i]? = some x -> ∃ u, us[i]? = some u /\ RelV x u
 | _, _, _, _, .nil, e => by simp at e
 | _, _, 0, _, .cons r _, e => by simp at e; subst e; exact ⟨_, rfl, r⟩
 | _, _, i + 1, x, .cons _ t, e => by
   obtain ⟨u, h1, h2⟩ := Vals.get (i := i) (x := x) t (by simpa using e)
   exact ⟨u, by simpa using h1, h2⟩
theorem Vals.append : ∀ {xs ys : List V} {us ws : List Value}, Vals xs us -> Vals ys ws -> Vals (xs ++ ys) (us ++ ws)
 | _, _, _, _, .nil, s => s
 | _, _, _, _, .cons r t, s => .cons r (Vals.append t s)
def RelO : Option V -> Option Value -> Prop
 | some v, some u => RelV v u
 | none, none => True
 | _, _ => False
def KV {κ : Type} : List (κ × V) -> List (κ × Value) -> Prop := Paired fun (p : κ × V) (q : κ × Value) => p.1 = q.1 /\ RelV p.2 q.2
def kV : Key -> V
 | .inl i => .int i
 | .inr x => .str x
inductive HO where
 | lst (xs : List V)
 | tup (xs : List V)
 | dK (kvs : List (Key × V)) | dT (kvs : List (List Key × V))
 | set (S : Int -> Bool) (n : Nat)
 | ins (C dx : Addr) (fs : List (Str × V))
 | own (x : Addr)
 | xd (fs : List (Str × V))
 | met (f x : Addr)
 | rng (lo hi : Int)
 | frz (o : Obj) (u : HO)
 | tbl (ps : Array Value)
 | ext (φ : Heap -> Prop)
abbrev Hp := Addr -> Option HO
def upd (H : Hp) (a : Addr) (o : HO) : Hp := fun b => if b = a then some o else H b
theorem A6 {H : Hp} {a : Addr} {o : HO} : upd H a o a = some o := by unfold upd; rw [if_pos rfl]
theorem B4 {H : Hp} {a b : Addr} {o : HO} (h : b ≠ a) : upd H a o b = H b := by unfold upd; rw [if_neg h]
theorem G9s {H : Hp} {a : Addr} {o u : HO} : upd (upd H a o) a u = upd H a u := by
 funext b; unfold upd; split <;> rfl
theorem J1 {H : Hp} {a b : Addr} {o u : HO} (h : H a = some o) (h' : H b = some u) (d : o ≠ u) : a ≠ b := by
 intro e; subst e; rw [h] at h'; exact d (Option.some.inj h')
theorem C5 {H : Hp} {a b : Addr} {o : HO} (h : H a = some o) (h' : H b = none) : a ≠ b := by
 intro e; subst e; rw [h] at h'; cases h'
section
variable (P : Program) (w : World)
def ObjOk (H : Hp) (h : Heap) (a : Addr) : HO -> Prop
 | .lst xs => xs.length <= sizeLine /\ ∃ (its : List Value) (n : Nat), Vals xs its /\ h.get? a = some { cls := .type "list", data := .seq its.toArray n }
 | .tup xs => xs.length <= sizeLine /\ ∃ its : List Value, Vals xs its /\ IsTup h a its.toArray
 | .dK kvs => kvs.length <= sizeLine /\ (a == sysModules) = false /\ ∃ vs, KV kvs vs /\ h.DictOf (V6 P w) a vs
 | .dT kvs => kvs.length <= sizeLine /\ (a == sysModules) = false /\ ∃ xs : List (List Key × Addr × Value),
     Paired (fun (p : List Key × V) (q : List Key × Addr × Value) => p.1 = q.1 /\ H q.2.1 = some (.tup (p.1.map kV)) /\ RelV p.2 q.2.2) kvs xs /\
     ∃ o es ep, h.get? a = some o /\ o.ExactDict /\ o.data = .dict es ep /\ es.toList = xs.map (entryOfKey (tupleKind (V6 P w))) /\ (xs.map (·.1)).Nodup
 | .set S n => h.SetOf (intKind P w) a S n
 | .ins C dx fs => H dx = some (.own a) /\ fs.length <= 1000 /\ dx ≠ a /\ h.get? a = some (PySem.W.instObj C dx) /\
     ∃ mA, h.Ns1 dx mA /\ (∀ f, RelO (fs.lookup f) (mA f)) /\ PySem.Within mA (fs.map (·.1))
 | .own _ => ∃ o, h.get? a = some o
 | .xd fs => ∃ mA, h.Ns1 a mA /\ ∀ f, RelO (fs.lookup f) (mA f)
 | .rng lo hi => ∃ t u v, h.get? a = some { cls := .type "range", data := .fields #[.int lo t, .int hi u, .int 1 v] }
 | .frz o u => h.get? a = some o /\ ObjOk H h a u
 | .tbl ps => h.get? a = some { cls := .none, data := .fields ps }
 | .met f x => h.get? a = some (PySem.W.methodObj (.ref f) (.ref x))
 | .ext φ => φ h /\ (∃ o, h.get? a = some o) /\ ∀ h1 h2 : Heap, φ h1 -> (∀ o, h1.get? a = some o -> h2.get? a = some o) -> φ h2
def HOk (H : Hp) (h : Heap) : Prop := ∀ a o, H a = some o -> ObjOk P w H h a o
end
section
variable {P : Program} {w : World} {H H' : Hp} {h h' : Heap} {a : Addr} {o : HO}
theorem ObjOk.lt (x : ObjOk P w H h a o) : a < h.objs.size := by
 cases o with
 | lst xs => obtain ⟨_, _, _, _, e⟩ := x; exact Heap.lt_size e
 | tup xs => obtain ⟨_, _, _, p⟩ := x; exact p.lt
 | dK kvs => obtain ⟨_, _, _, _, o, _, _, e, _⟩ := x; exact Heap.lt_size e
 | dT kvs => obtain ⟨_, _, _, _, o, _, _, e, _⟩ := x; exact Heap.lt_size e
 | set S n => obtain ⟨o, _, _, _, e, _⟩ := x; exact Heap.lt_size e
 | ins C dx fs => obtain ⟨_, _, _, e, _⟩ := x; exact Heap.lt_size e
 | own y => obtain ⟨_, e⟩ := x; exact Heap.lt_size e
 | xd fs => obtain ⟨_, ⟨_, _, _, e, _⟩, _⟩ := x; exact Heap.lt_size e
 | rng lo hi => obtain ⟨_, _, _, e⟩ := x; exact Heap.lt_size e
 | frz ob u => obtain ⟨e, _⟩ := x; exact Heap.lt_size e
 | tbl ps => exact Heap.lt_size (show h.get? a = some _ from x)
 | met f y => exact Heap.lt_size (show h.get? a = some _ from x)
 | ext φ => obtain ⟨_, ⟨_, e⟩, _⟩ := x; exact Heap.lt_size e
theorem Paired.mapP {α β : Type} {F G : α -> β -> Prop} : ∀ {l₁ : List α} {l₂ : List β}, Paired F l₁ l₂ -> (∀ a b, F a b -> G a b) -> Paired G l₁ l₂
 | _, _, .nil, _ => .nil
 | _, _, .cons r t, f => .cons (f _ _ r) (Paired.mapP t f)
theorem ObjOk.stay (x : ObjOk P w H h a o) (k : ∀ b u, (b = a \/ H b = some (.own a)) -> h.get? b = some u -> h'.get? b = some u)
   (ho : ∀ b, H b = some (.own a) -> H' b = some (.own a)) (ht : ∀ b xs, H b = some (.tup xs) -> H' b = some (.tup xs)) : ObjOk P w H' h' a o := by
 induction o with
 | lst xs => obtain ⟨z, its, n, r, e⟩ := x; exact ⟨z, its, n, r, k _ _ (.inl rfl) e⟩
 | tup xs => obtain ⟨z, its, r, ob, e, c⟩ := x; exact ⟨z, its, r, ob, k _ _ (.inl rfl) e, c⟩
 | dK kvs => obtain ⟨z, y, vs, r, ob, es, ep, e, c⟩ := x; exact ⟨z, y, vs, r, ob, es, ep, k _ _ (.inl rfl) e, c⟩
 | dT kvs =>
   obtain ⟨z, y, xs, r, ob, es, ep, e, c⟩ := x
   exact ⟨z, y, xs, Paired.mapP r fun p q z => ⟨z.1, ht _ _ z.2.1, z.2.2⟩, ob, es, ep, k _ _ (.inl rfl) e, c⟩
 | set S n => obtain ⟨ob, es, ep, t, e, c⟩ := x; exact ⟨ob, es, ep, t, k _ _ (.inl rfl) e, c⟩
 | ins C dx fs =>
   obtain ⟨d, z, ne, e, mA, ⟨od, es, ep, e2, c⟩, r⟩ := x
   exact ⟨ho _ d, z, ne, k _ _ (.inl rfl) e, mA, ⟨od, es, ep, k _ _ (.inr d) e2, c⟩, r⟩
 | own y => obtain ⟨ob, e⟩ := x; exact ⟨ob, k _ _ (.inl rfl) e⟩
 | xd fs => obtain ⟨mA, ⟨od, es, ep, e, c⟩, r⟩ := x; exact ⟨mA, ⟨od, es, ep, k _ _ (.inl rfl) e, c⟩, r⟩
 | rng lo hi => obtain ⟨t, u, v, e⟩ := x; exact ⟨t, u, v, k _ _ (.inl rfl) e⟩
 | frz ob u ih => obtain ⟨e, q⟩ := x; exact ⟨k _ _ (.inl rfl) e, ih q⟩
 | tbl ps =>
   have e : h.get? a = some { cls := .none, data := .fields ps } := x
   show h'.get? a = some { cls := .none, data := .fields ps }
   exact k a _ (.inl rfl) e
 | met f y =>
   have e : h.get? a = some (PySem.W.methodObj (.ref f) (.ref y)) := x
   show h'.get? a = some (PySem.W.methodObj (.ref f) (.ref y))
   exact k a _ (.inl rfl) e
 | ext φ => obtain ⟨p, ⟨o, e⟩, st⟩ := x; exact ⟨st _ _ p fun o q => k _ _ (.inl rfl) q, ⟨o, k _ _ (.inl rfl) e⟩, st⟩
theorem HOk.lt (x : HOk P w H h) (e : H a = some o) : a < h.objs.size := (x a o e).lt
theorem HOk.fresh (x : HOk P w H h) (e : h.objs.size <= a) : H a = none := by
 cases q : H a with
 | none => rfl
 | some u => exact absurd (Nat.lt_of_lt_of_le (x.lt q) e) (Nat.lt_irrefl _)
theorem HOk.kept (x : HOk P w H h) (k : ∀ b u, h.get? b = some u -> h'.get? b = some u) : HOk P w H h' := fun a o e =>
 (x a o e).stay (fun b u _ q => k b u q) (fun _ q => q) fun _ _ q => q
theorem HOk.laid (x : HOk P w H h) (k : ∀ b u, h.get? b = some u -> h'.get? b = some u) (hp : h.objs.size <= a) (new : ObjOk P w (upd H a o) h' a o) : HOk P w (upd H a o) h' := fun b u e => by
 have hn := x.fresh hp
 by_cases hb : b = a
 . subst hb; rw [A6] at e; cases e; exact new
 . rw [B4 hb] at e
   exact (x b u e).stay (fun c v _ q => k c v q) (fun c q => by rw [B4 (C5 q hn)]; exact q) fun c xs q => by rw [B4 (C5 q hn)]; exact q
end
def Rd (H : Hp) (a : Addr) (u : HO) : Prop := H a = some u \/ ∃ o, H a = some (.frz o u)
theorem Rd.ok {P : Program} {w : World} {H : Hp} {h : Heap} {a : Addr} {u : HO} (r : Rd H a u) (x : HOk P w H h) : ObjOk P w H h a u := by
 rcases r with r | ⟨o, r⟩
 . exact x a u r
 . obtain ⟨_, q⟩ := x a _ r
   exact q
def Mut : Option HO -> Prop
 | some (.lst _) => True
 | some (.dK _) => True
 | some (.dT _) => True
 | some (.set _ _) => True
 | some (.ins _ _ _) => True
 | some (.ext _) => True
 | _ => False
section
variable {P : Program} {w : World} {H : Hp} {h h' : Heap} {x e : Addr} {o' : HO}
theorem HOk.write (ok : HOk P w H h) (mu : Mut (H x)) (he : e = x \/ H e = some (.own x)) (k : ∀ b u, b ≠ e -> h.get? b = some u -> h'.get? b = some u) (heo : ∃ u, h'.get? e = some u)
   (new : ObjOk P w (upd H x o') h' x o') : HOk P w (upd H x o') h' := fun b u q => by
 have nown : ∀ c y, H c = some (.own y) -> c ≠ x := fun c y r z => by subst z; rw [r] at mu; exact mu
 have ntup : ∀ c xs, H c = some (.tup xs) -> c ≠ x := fun c xs r z => by subst z; rw [r] at mu; exact mu
 by_cases hb : b = x
 . subst hb; rw [A6] at q; cases q; exact new
 . rw [B4 hb] at q
   by_cases hbe : b = e
   . have q' : H b = some (.own x) := by
       rcases he with z | z
       . exact absurd (hbe.trans z) hb
       . rw [hbe]; exact z
     rw [q] at q'; cases q'
     obtain ⟨v, hv⟩ := heo
     exact ⟨v, by rw [hbe]; exact hv⟩
   . refine (ok b u q).stay (fun c v hc r => k c v ?_ r) (fun c r => by rw [B4 (nown c b r)]; exact r) fun c xs r => by rw [B4 (ntup c xs r)]; exact r
     rcases hc with rfl | hc
     . exact hbe
     . rintro rfl
       rcases he with z | z
       . exact nown c b hc z
       . rw [hc] at z; cases z; exact hb rfl
end
structure Un (fs ex : List Addr) (H H' : Hp) (h h' : Heap) : Prop where
 keep : ∀ b o, h.get? b = some o -> H b = none -> b ∉ fs -> b ∉ ex -> h'.get? b = some o
 slot : ∀ b o, h.get? b = some o -> H b = none -> b ∈ fs -> b ∉ ex -> ∃ sl, h'.get? b = some { o with slots := sl }
 free : ∀ b o, h.get? b = some o -> H b = none -> b ∉ ex -> H' b = none
 there : ∀ b o, h.get? b = some o -> b ∉ ex -> ∃ o', h'.get? b = some o'
 tups : ∀ b xs, H b = some (.tup xs) -> H' b = some (.tup xs)
 frzs : ∀ b o u, H b = some (.frz o u) -> H' b = some (.frz o u)
 tbls : ∀ b ps, H b = some (.tbl ps) -> ∃ more, H' b = some (.tbl (ps ++ more))
section
variable {fs fs' ex ex' : List Addr} {H H1 H2 : Hp} {h h1 h2 h' : Heap} {a x e : Addr} {o : HO}
theorem Un.any (u : Un fs ex H H1 h h1) {b : Addr} {ob : Obj} (q : h.get? b = some ob) (n : H b = none) (hx : b ∉ ex) : ∃ sl, h1.get? b = some { ob with slots := sl } := by
 by_cases hb : b ∈ fs
 . exact u.slot b ob q n hb hx
 . exact ⟨ob.slots, u.keep b ob q n hb hx⟩
theorem Un.kept (k : ∀ b u, h.get? b = some u -> h'.get? b = some u) : Un fs ex H H h h' :=
 ⟨fun b ob q _ _ _ => k b ob q, fun b ob q _ _ _ => ⟨ob.slots, k b ob q⟩, fun _ _ _ n _ => n, fun b ob q _ => ⟨ob, k b ob q⟩, fun _ _ q => q, fun _ _ _ q => q, fun _ ps q => ⟨#[], by rw [q]; simp⟩⟩
theorem Un.refl : Un fs ex H H h h := Un.kept fun _ _ q => q
theorem Un.laid (k : ∀ b u, h.get? b = some u -> h'.get? b = some u) (hp : h.objs.size <= a) (hn : H a = none) : Un fs ex H (upd H a o) h h' where
 keep := fun b u q _ _ _ => k b u q
 slot := fun b u q _ _ _ => ⟨u.slots, k b u q⟩
 free := fun b u q n _ => by rw [B4 (Nat.ne_of_lt (Nat.lt_of_lt_of_le (Heap.lt_size q) hp))]; exact n
 there := fun b u q _ => ⟨u, k b u q⟩
 tups := fun b xs q => by rw [B4 (C5 q hn)]; exact q
 frzs := fun b u xs q => by rw [B4 (C5 q hn)]; exact q
 tbls := fun b ps q => ⟨#[], by rw [B4 (C5 q hn), q]; simp⟩
theorem Un.write (mu : Mut (H x)) (he : e = x \/ H e = some (.own x)) (k : ∀ b u, b ≠ e -> h.get? b = some u -> h'.get? b = some u) (heo : ∃ u, h'.get? e = some u) : Un fs ex H (upd H x o) h h' := by
 have hx : ∀ b, H b = none -> b ≠ x := fun b n z => by subst z; rw [n] at mu; exact mu
 have hb : ∀ b, H b = none -> b ≠ e := fun b n z => by
   subst z
   rcases he with r | r
   . exact hx b n r
   . rw [n] at r; cases r
 have hm : ∀ b u, H b = some u -> ¬ Mut (some u) -> b ≠ x := fun b u q nm z => by subst z; rw [q] at mu; exact nm mu
 refine ⟨fun b u q n _ _ => k b u (hb b n) q, fun b u q n _ _ => ⟨u.slots, k b u (hb b n) q⟩, fun b u q n _ => by rw [B4 (hx b n)]; exact n, fun b u q _ => ?_,
   fun b xs q => by rw [B4 (hm b _ q fun z => z)]; exact q, fun b u xs q => by rw [B4 (hm b _ q fun z => z)]; exact q, fun b ps q => ⟨#[], by rw [B4 (hm b _ q fun z => z), q]; simp⟩⟩
 by_cases hbe : b = e
 . subst hbe; exact heo
 . exact ⟨u, k b u hbe q⟩
end
def trk (h : Heap) (H : Hp) : List Addr := (List.range h.objs.size).filter fun a => (H a).isSome
def C1w (h : Heap) (H : Hp) : Heap := PySem.W.hideAll h (trk h H)
theorem J2u (h : Heap) (H : Hp) : (C1w h H).objs.size = h.objs.size := PySem.W.hideAll_size _ _
theorem J7n {h : Heap} {H : Hp} {b : Addr} {o : Obj} (e : h.get? b = some o) (n : H b = none) : (C1w h H).get? b = some o :=
 PySem.W.hideAll_get _ e fun hm => by
   have q : (H b).isSome = true := (List.mem_filter.mp hm).2
   rw [n] at q; simp at q
theorem V4a {h : Heap} {H : Hp} {b : Addr} {o : Obj} (e : (C1w h H).get? b = some o) : h.get? b = some o /\ H b = none := by
 have e' : h.get? b = some o := PySem.W.of_hideAll (trk h H) e
 refine ⟨e', ?_⟩
 cases q : H b with
 | none => rfl
 | some x =>
   have hm : b ∈ trk h H := List.mem_filter.mpr ⟨List.mem_range.mpr (Heap.lt_size e'), by simp [q]⟩
   have z : (C1w h H).get? b = none := PySem.W.hideAll_none (trk h H) hm
   rw [z] at e; cases e
structure Mod (K : PySem.W.Frag) (mg : Str -> Option Value) (base : Heap) : Prop where
 kin : K.In base
 glob : base.Ns mainGlobals mg
 blt : ∃ mb, base.Ns builtinsNs mb /\ ∀ x : Str, x ≠ "__name__" -> mb x = bootBuiltins x
 nolimit : base.NoLimit
structure Cx where
 prog : Program
 w : World
 K : PySem.W.Frag
 mg : Str -> Option Value
 base : Heap
 A : Around
 N : List Str
 s₀ : Shared
 H₀ : Hp
 env : Env
 outer : List Env
 stack : List Env
 ex : List Addr
 fn : Str -> Bool
 calm : Bool
 pn : List (Addr × Obj)
 xe : Value -> Shared -> Prop
def frs (l : List Env) : List Addr := l.filterMap (·.frame)
abbrev Cx.fs (X : Cx) : List Addr := frs X.outer
def Vis (sc : Scope) (x : Str) : Prop := sc.names.lookup x = some .local \/ sc.names.lookup x = some .cell \/ sc.names.lookup x = some .free
def Loc (sc : Scope) (x : Str) : Prop := sc.names.lookup x = some .local \/ sc.names.lookup x = some .cell
def Y4k (env : Env) (h : Heap) (m : Str -> Option Value) (x : Str) (u : Value) : Prop :=
 (env.kindOf x = some .local /\ m x = some u) \/ ((env.kindOf x = some .cell \/ env.kindOf x = some .free) /\ ∃ c, env.cells.lookup x = some c /\ h.IsCell c (some u))
structure Cx.Ok (X : Cx) : Prop where
 mod : Mod X.K X.mg X.base
 kind : X.env.scope.kind = .function
 glob : X.env.globals = mainGlobals
 blt : X.env.builtins = builtinsNs
 above : X.s₀.heap.objs.size <= X.env.locals
 inj : ∀ x y c, X.env.cells.lookup x = some c -> X.env.cells.lookup y = some c -> x = y
 has : ∀ x, (X.env.kindOf x = some .cell \/ X.env.kindOf x = some .free) -> ∃ c, X.env.cells.lookup x = some c
 cab : ∀ x c, X.fn x = true -> X.env.cells.lookup x = some c -> X.s₀.heap.objs.size <= c
 hd : X.calm = true -> X.A.handled = none
 frames : X.A.frames = some X.stack
 stk : X.stack = X.outer \/ (X.stack = X.env :: X.outer /\ X.env.frame = some X.env.locals)
 exf : ∀ b ∈ X.ex, b ≠ X.env.locals /\ ∀ x c, X.env.cells.lookup x = some c -> c ≠ b
 bs : ∀ b o, X.base.get? b = some o -> X.s₀.heap.get? b = some o /\ X.H₀ b = none
 bsz : X.base.objs.size <= X.s₀.heap.objs.size
 noex : ∀ b o, X.base.get? b = some o -> b ∉ X.ex
 exfs : ∀ b ∈ X.ex, b ∉ X.fs
 funs : X.s₀.heap.FunFrames X.base X.outer
 frf : ∀ b ∈ X.fs, X.H₀ b = none
structure Inv (X : Cx) (pins : List (Addr × Obj)) (σ : List (Option V)) (H : Hp) (s : Shared) : Prop where
 ok : X.Ok
 os : s.os = X.s₀.os
 bare : AllBare s.gens
 base : Un X.fs X.ex X.H₀ H X.s₀.heap s.heap
 loc : ∃ m, s.heap.Ns X.env.locals m /\ ∀ (i : Nat) (x : Str) (v : V), X.N[i]? = some x -> σ[i]? = some (some v) -> Vis X.env.scope x -> ∃ u, RelV v u /\ Y4k X.env s.heap m x u
 cell : ∀ x c, X.env.cells.lookup x = some c -> ∃ v, s.heap.IsCell c v
 free : H X.env.locals = none
 freeC : ∀ x c, X.env.cells.lookup x = some c -> H c = none
 pin : ∀ p ∈ X.pn ++ pins, s.heap.get? p.1 = some p.2 /\ H p.1 = none /\ p.1 ≠ X.env.locals /\ p.1 ∉ X.fs /\ ∀ v, p.2.data ≠ .cell v
 hok : HOk X.prog X.w H s.heap
 len : σ.length = X.N.length
section
variable {X : Cx} {pins : List (Addr × Obj)} {σ : List (Option V)} {H H' : Hp} {s : Shared} {h' : Heap}
theorem Cx.Ok.nofr (ok : X.Ok) {b : Addr} {o : Obj} (e : X.base.get? b = some o) : b ∉ X.fs := fun hb => by
 have := (ok.funs.mem hb).1
 rw [e] at this; cases this
theorem Inv.bs (I : Inv X pins σ H s) : ∀ b o, X.base.get? b = some o -> s.heap.get? b = some o /\ H b = none := fun b o e =>
 ⟨I.base.keep b o (I.ok.bs b o e).1 (I.ok.bs b o e).2 (I.ok.nofr e) (I.ok.noex b o e), I.base.free b o (I.ok.bs b o e).1 (I.ok.bs b o e).2 (I.ok.noex b o e)⟩
theorem Inv.bk (I : Inv X pins σ H s) : ∀ b o, X.base.get? b = some o -> s.heap.get? b = some o := fun b o e => (I.bs b o e).1
theorem Inv.mod (I : Inv X pins σ H s) : Mod X.K X.mg X.base := I.ok.mod
theorem Inv.kIn (I : Inv X pins σ H s) : X.K.In s.heap := I.ok.mod.kin.keeps I.bk
theorem Inv.lt (I : Inv X pins σ H s) : X.env.locals < s.heap.objs.size := let ⟨_, hn, _⟩ := I.loc; hn.lt
theorem Inv.sz (I : Inv X pins σ H s) : X.s₀.heap.objs.size <= s.heap.objs.size := Nat.le_trans I.ok.above (Nat.le_of_lt I.lt)
theorem Inv.nofs (I : Inv X pins σ H s) {a : Addr} (h : s.heap.objs.size <= a) : a ∉ X.fs := fun hb => by
 obtain ⟨_, o, ho, _⟩ := I.ok.funs.mem hb
 exact absurd (Nat.lt_of_lt_of_le (Heap.lt_size ho) (Nat.le_trans I.sz h)) (Nat.lt_irrefl _)
theorem Inv.cne (I : Inv X pins σ H s) : ∀ x c, X.env.cells.lookup x = some c -> c ≠ X.env.locals := fun x c e z => by
 obtain ⟨v, o, ho, hd⟩ := I.cell x c e
 obtain ⟨m, ⟨o', es, ep, ho', hd', _⟩, _⟩ := I.loc
 rw [z, ho'] at ho; cases ho; rw [hd'] at hd; cases hd
theorem Inv.funs (I : Inv X pins σ H s) : s.heap.FunFrames X.base X.outer := by
 have all : ∀ (l : List Env), (∀ b ∈ frs l, b ∈ X.fs) -> X.s₀.heap.FunFrames X.base l -> s.heap.FunFrames X.base l := by
   intro l
   induction l with
   | nil => intro _ _; trivial
   | cons env r ih =>
     intro hs hl
     obtain ⟨hk, ⟨L, o, hf, hn, ho, hd⟩, hr⟩ := hl
     have hL : L ∈ X.fs := hs L (by unfold frs; rw [List.filterMap_cons, hf]; exact List.mem_cons_self)
     obtain ⟨sl, e⟩ := I.base.slot L o ho (I.ok.frf L hL) hL fun z => I.ok.exfs L z hL
     exact ⟨hk, ⟨L, _, hf, hn, e, hd⟩, ih (fun b hb => hs b (by unfold frs; rw [List.filterMap_cons, hf]; exact List.mem_cons_of_mem _ hb)) hr⟩
 exact all X.outer (fun _ hb => hb) I.ok.funs
theorem Inv.stack (I : Inv X pins σ H s) : s.heap.FunFrames X.base X.stack := by
 rcases I.ok.stk with e | ⟨e, hf⟩
 . rw [e]; exact I.funs
 . rw [e]
   obtain ⟨m, hn, _⟩ := I.loc
   refine .cons (by rw [I.ok.kind]; decide) hf hn ?_ I.funs
   exact Heap.get?_none_of_le (Nat.le_trans I.ok.bsz I.ok.above)
theorem Inv.stkSub (I : Inv X pins σ H s) : ∀ b ∈ frs X.stack, b ∈ X.env.locals :: X.fs := fun b hb => by
 rcases I.ok.stk with e | ⟨e, hf⟩
 . rw [e] at hb; exact List.mem_cons_of_mem _ hb
 . rw [e] at hb
   unfold frs at hb
   rw [List.filterMap_cons, hf] at hb
   exact hb
theorem Inv.stkFree (I : Inv X pins σ H s) : ∀ b ∈ frs X.stack, H b = none := fun b hb => by
 rcases List.mem_cons.mp (I.stkSub b hb) with e | hb
 . rw [e]; exact I.free
 . obtain ⟨_, o, ho, _⟩ := I.ok.funs.mem hb
   exact I.base.free b o ho (I.ok.frf b hb) fun z => I.ok.exfs b z hb
theorem Inv.step {g' : Array GenState} {t' : Nat} {d' : Drawn} {ch : List Addr} (I : Inv X pins σ H s)
   (hch : ∀ b ∈ ch, (b ∈ X.ex \/ X.s₀.heap.objs.size <= b) /\ b ≠ X.env.locals /\ (∀ x c, X.env.cells.lookup x = some c -> c ≠ b) /\ ∀ p ∈ X.pn ++ pins, p.1 ≠ b)
   (keep : ∀ b o, b ≠ X.env.locals -> b ∉ X.fs -> b ∉ ch -> s.heap.get? b = some o -> H b = none -> h'.get? b = some o)
   (slot : ∀ b o, b ≠ X.env.locals -> b ∈ X.fs -> b ∉ ch -> s.heap.get? b = some o -> H b = none -> ∃ sl, h'.get? b = some { o with slots := sl }) (free : ∀ b o, b ∉ ch -> s.heap.get? b = some o -> H b = none -> H' b = none)
   (there : ∀ b o, b ∉ ch -> s.heap.get? b = some o -> ∃ o', h'.get? b = some o')
   (tups : ∀ b xs, H b = some (.tup xs) -> H' b = some (.tup xs)) (frzs : ∀ b o u, H b = some (.frz o u) -> H' b = some (.frz o u)) (tbls : ∀ b ps, H b = some (.tbl ps) -> ∃ more, H' b = some (.tbl (ps ++ more)))
   (ns : ∀ m, s.heap.Ns X.env.locals m -> h'.Ns X.env.locals m) (hok : HOk X.prog X.w H' h') (hg : AllBare g') :
   Inv X pins σ H' { s with heap := h', gens := g', drawn := d', toks := t' } := by
 have neL : ∀ b o, X.s₀.heap.get? b = some o -> b ≠ X.env.locals := fun b o e => Nat.ne_of_lt (Nat.lt_of_lt_of_le (Heap.lt_size e) I.ok.above)
 have neC : ∀ b o, X.s₀.heap.get? b = some o -> b ∉ X.ex -> b ∉ ch := fun b o e hx hb => by
   rcases (hch b hb).1 with z | z
   . exact hx z
   . exact absurd (Nat.lt_of_lt_of_le (Heap.lt_size e) z) (Nat.lt_irrefl _)
 have cellK : ∀ x c, X.env.cells.lookup x = some c -> ∀ v, s.heap.IsCell c v -> h'.IsCell c v := fun x c e v ⟨o, ho, hd⟩ => by
   have nch : c ∉ ch := fun z => (hch c z).2.2.1 x c e rfl
   by_cases hc : c ∈ X.fs
   . obtain ⟨sl, q⟩ := slot c o (I.cne x c e) hc nch ho (I.freeC x c e)
     exact ⟨_, q, hd⟩
   . exact ⟨o, keep c o (I.cne x c e) hc nch ho (I.freeC x c e), hd⟩
 refine ⟨I.ok, I.os, hg, ⟨fun b o e n hb hx => ?_, fun b o e n hb hx => ?_, fun b o e n hx => ?_, fun b o e hx => ?_, fun b xs e => tups b xs (I.base.tups b xs e), fun b o xs e => frzs b o xs (I.base.frzs b o xs e), fun b ps e => ?_⟩, ?_, fun x c e => ?_, ?_, fun x c e => ?_, fun p hp => ?_, hok, I.len⟩
 . exact keep b o (neL b o e) hb (neC b o e hx) (I.base.keep b o e n hb hx) (I.base.free b o e n hx)
 . obtain ⟨sl, e1⟩ := I.base.slot b o e n hb hx
   obtain ⟨sl', e2⟩ := slot b _ (neL b o e) hb (neC b o e hx) e1 (I.base.free b o e n hx)
   exact ⟨sl', e2⟩
 . obtain ⟨o', e1⟩ := I.base.there b o e hx
   exact free b o' (neC b o e hx) e1 (I.base.free b o e n hx)
 . obtain ⟨o', e1⟩ := I.base.there b o e hx
   exact there b o' (neC b o e hx) e1
 . obtain ⟨m1, e1⟩ := I.base.tbls b ps e
   obtain ⟨m2, e2⟩ := tbls b _ e1
   exact ⟨m1 ++ m2, by rw [e2, Array.append_assoc]⟩
 . obtain ⟨m, hn, hl⟩ := I.loc
   refine ⟨m, ns m hn, fun i x v e1 e2 e3 => ?_⟩
   obtain ⟨u, r, l⟩ := hl i x v e1 e2 e3
   refine ⟨u, r, ?_⟩
   rcases l with l | ⟨k, c, e, z⟩
   . exact .inl l
   . exact .inr ⟨k, c, e, cellK x c e _ z⟩
 . obtain ⟨v, z⟩ := I.cell x c e
   exact ⟨v, cellK x c e v z⟩
 . obtain ⟨m, ⟨o, _, _, ho, _⟩, _⟩ := I.loc
   exact free _ o (fun z => (hch _ z).2.1 rfl) ho I.free
 . obtain ⟨v, o, ho, hd⟩ := I.cell x c e
   exact free c o (fun z => (hch c z).2.2.1 x c e rfl) ho (I.freeC x c e)
 . obtain ⟨e, n, ne, nf, d⟩ := I.pin p hp
   have nch : p.1 ∉ ch := fun z => (hch p.1 z).2.2.2 p hp rfl
   exact ⟨keep p.1 p.2 ne nf nch e n, free p.1 p.2 nch e n, ne, nf, d⟩
theorem Inv.un {t' : Nat} (I : Inv X pins σ H s) (u : Un X.fs [] H H' s.heap h') (hok : HOk X.prog X.w H' h') : Inv X pins σ H' { s with heap := h', toks := t' } := by
 obtain ⟨m, ⟨o, es, ep, ho, r⟩, _⟩ := id I.loc
 obtain ⟨sl, hL⟩ := u.any ho I.free (by simp)
 exact I.step (g' := s.gens) (d' := s.drawn) (ch := []) (fun _ z => nomatch z) (fun b o _ hb _ e n => u.keep b o e n hb (by simp)) (fun b o _ hb _ e n => u.slot b o e n hb (by simp)) (fun b o _ e n => u.free b o e n (by simp)) (fun b o _ e => u.there b o e (by simp)) u.tups u.frzs u.tbls (fun m' hm => by
   obtain ⟨o', es', ep', ho', r'⟩ := hm
   rw [ho] at ho'; cases ho'
   exact ⟨_, es', ep', hL, r'⟩) hok I.bare
theorem Inv.call {g' : Array GenState} {t' : Nat} {d' : Drawn} {ch : List Addr} (I : Inv X pins σ H s) (u : Un (frs X.stack) ch H H' s.heap h') (hok : HOk X.prog X.w H' h') (hg : AllBare g')
   (hch : ∀ b ∈ ch, (b ∈ X.ex \/ X.s₀.heap.objs.size <= b) /\ b ≠ X.env.locals /\ (∀ x c, X.env.cells.lookup x = some c -> c ≠ b) /\ ∀ p ∈ X.pn ++ pins, p.1 ≠ b) :
   Inv X pins σ H' { s with heap := h', gens := g', drawn := d', toks := t' } := by
 obtain ⟨m, ⟨o, es, ep, ho, r⟩, _⟩ := id I.loc
 obtain ⟨sl, hL⟩ := u.any ho I.free fun z => (hch _ z).2.1 rfl
 exact I.step (ch := ch) hch (fun b o hL hb hc e n => u.keep b o e n (fun z => (List.mem_cons.mp (I.stkSub b z)).elim hL hb) hc) (fun b o _ _ hc e n => u.any e n hc) (fun b o hc e n => u.free b o e n hc) (fun b o hc e => u.there b o e hc) u.tups u.frzs u.tbls (fun m' hm => by
   obtain ⟨o', es', ep', ho', r'⟩ := hm
   rw [ho] at ho'; cases ho'
   exact ⟨_, es', ep', hL, r'⟩) hok hg
theorem Inv.turned {t' : Nat} {it : Addr} (I : Inv X pins σ H s) (k : ∀ b o, b ≠ it -> s.heap.get? b = some o -> h'.get? b = some o) (hn : H it = none) (hL : it ≠ X.env.locals)
   (h1 : it ∈ X.ex \/ X.s₀.heap.objs.size <= it) (h2 : ∀ x c, X.env.cells.lookup x = some c -> c ≠ it) (h3 : ∀ p ∈ X.pn ++ pins, p.1 ≠ it) : Inv X pins σ H { s with heap := h', toks := t' } := by
 have nit : ∀ b u, H b = some u -> b ≠ it := fun b u e z => by rw [z, hn] at e; cases e
 refine I.step (g' := s.gens) (d' := s.drawn) (ch := [it]) (fun b hb => ?_) (fun b o _ _ hc e _ => k b o (fun z => hc (by simp [z])) e) (fun b o _ _ hc e _ => ⟨o.slots, k b o (fun z => hc (by simp [z])) e⟩) (fun _ _ _ _ n => n)
   (fun b o hc e => ⟨o, k b o (fun z => hc (by simp [z])) e⟩) (fun _ _ e => e) (fun _ _ _ e => e) (fun b ps e => ⟨#[], by rw [e]; simp⟩) (fun m hm => ?_) (fun b u e => ?_) I.bare
 . have e : b = it := by simpa using hb
   subst e
   exact ⟨h1, hL, h2, h3⟩
 . obtain ⟨o, es, ep, ho, r⟩ := hm
   exact ⟨o, es, ep, k _ o (Ne.symm hL) ho, r⟩
 . refine (I.hok b u e).stay (fun c v hc q => k c v ?_ q) (fun _ q => q) fun _ _ q => q
   rcases hc with z | z
   . rw [z]; exact nit b u e
   . exact nit c _ z
theorem Inv.tok (I : Inv X pins σ H s) (t : Nat) : Inv X pins σ H { s with toks := t } := I.un (h' := s.heap) (t' := t) Un.refl I.hok
theorem Inv.kept {t' : Nat} (I : Inv X pins σ H s) (k : ∀ b u, s.heap.get? b = some u -> h'.get? b = some u) : Inv X pins σ H { s with heap := h', toks := t' } := I.un (Un.kept k) (I.hok.kept k)
theorem Inv.laid {a : Addr} {o : HO} {t' : Nat} (I : Inv X pins σ H s) (k : ∀ b u, s.heap.get? b = some u -> h'.get? b = some u) (hp : s.heap.objs.size <= a) (new : ObjOk X.prog X.w (upd H a o) h' a o) :
   Inv X pins σ (upd H a o) { s with heap := h', toks := t' } := I.un (Un.laid k hp (I.hok.fresh hp)) (I.hok.laid k hp new)
theorem Inv.write {x e : Addr} {o : HO} {t' : Nat} (I : Inv X pins σ H s) (mu : Mut (H x)) (he : e = x \/ H e = some (.own x)) (k : ∀ b u, b ≠ e -> s.heap.get? b = some u -> h'.get? b = some u) (heo : ∃ u, h'.get? e = some u)
   (new : ObjOk X.prog X.w (upd H x o) h' x o) : Inv X pins σ (upd H x o) { s with heap := h', toks := t' } := I.un (Un.write mu he k heo) (I.hok.write mu he k heo new)
theorem Inv.pins_of {pins' : List (Addr × Obj)} (I : Inv X pins σ H s) (h : ∀ p ∈ pins', s.heap.get? p.1 = some p.2 /\ H p.1 = none /\ p.1 ≠ X.env.locals /\ p.1 ∉ X.fs /\ ∀ v, p.2.data ≠ .cell v) : Inv X pins' σ H s :=
 ⟨I.ok, I.os, I.bare, I.base, I.loc, I.cell, I.free, I.freeC, fun p hp => (List.mem_append.mp hp).elim (fun z => I.pin p (List.mem_append_left _ z)) (h p), I.hok, I.len⟩
theorem B9h {N : List Str} (hN : N.Nodup) {i j : Nat} {x : Str} (a : N[i]? = some x) (b : N[j]? = some x) : i = j := by
 obtain ⟨h1, e1⟩ := List.getElem?_eq_some_iff.mp a
 obtain ⟨h2, e2⟩ := List.getElem?_eq_some_iff.mp b
 exact (List.getElem_inj hN).mp (e1.trans e2.symm)
theorem C6f {M : Model} {A : Around} {E : Value -> Shared -> Prop} {i : Nat} {x : Str} {v : V} {u : Value} {Q : Unit -> Shared -> Prop} (I : Inv X pins σ H s) (hN : X.N.Nodup) (hi : X.N[i]? = some x) (hx : Loc X.env.scope x) (r : RelV v u)
   (h : ∀ s', Inv X pins (σ.set i (some v)) H s' -> (∃ a, Heap.SameBut a s.heap s'.heap /\ (a = X.env.locals \/ X.env.cells.lookup x = some a)) -> Q () s') (hf : X.fn x = true \/ X.env.scope.names.lookup x = some .local := by first | exact .inl rfl | exact .inr rfl | assumption) : wpAny M A (storeName X.env x u) Q E s := by
 obtain ⟨m, hn, hl⟩ := id I.loc
 have hcls : (X.env.scope.kind == .class || (X.env.scope.kind == .module && X.env.locals != X.env.globals)) = false := by rw [I.ok.kind]; rfl
 have hiσ : i < σ.length := by rw [I.len]; exact (List.getElem?_eq_some_iff.mp hi).1
 have cne := I.cne
 have tracked : ∀ {a : Addr} {h' : Heap}, (∃ o, s.heap.get? a = some o /\ H a = none) -> Heap.SameBut a s.heap h' -> HOk X.prog X.w H h' := fun {a h'} ha hs b ob e => by
   obtain ⟨_, _, hfree⟩ := ha
   refine (I.hok b ob e).stay (fun c w' hc q => (hs.2 c ?_).trans q) (fun _ q => q) fun _ _ q => q
   rintro rfl
   rcases hc with rfl | hc
   . rw [hfree] at e; cases e
   . rw [hfree] at hc; cases hc
 rcases hx with hk | hk
 . refine wpAny_storeName_local hk hn (fun h' hn' hs => ?_) hcls
   obtain ⟨oL, _, _, hoL, _⟩ := id hn
   refine h _ ⟨I.ok, I.os, I.bare, ⟨fun b o e n hb hx => ?_, fun b o e n hb hx => ?_, I.base.free, fun b o e hx => ?_, I.base.tups, I.base.frzs, I.base.tbls⟩, ⟨_, hn', fun j y v' e1 e2 e3 => ?_⟩, fun y c e => ?_, I.free, I.freeC, fun p hp => ?_, tracked ⟨oL, hoL, I.free⟩ hs, by simpa using I.len⟩ ⟨_, hs, .inl rfl⟩
   . exact (hs.2 b (Nat.ne_of_lt (Nat.lt_of_lt_of_le (Heap.lt_size e) I.ok.above))).trans (I.base.keep b o e n hb hx)
   . obtain ⟨sl, e1⟩ := I.base.slot b o e n hb hx
     exact ⟨sl, (hs.2 b (Nat.ne_of_lt (Nat.lt_of_lt_of_le (Heap.lt_size e) I.ok.above))).trans e1⟩
   . obtain ⟨o', e1⟩ := I.base.there b o e hx
     exact ⟨o', (hs.2 b (Nat.ne_of_lt (Nat.lt_of_lt_of_le (Heap.lt_size e) I.ok.above))).trans e1⟩
   . by_cases hj : j = i
     . subst hj
       rw [hi] at e1; cases e1
       rw [List.getElem?_set_self hiσ] at e2
       cases e2
       exact ⟨u, r, .inl ⟨hk, by simp⟩⟩
     . rw [List.getElem?_set_ne (Ne.symm hj)] at e2
       obtain ⟨u', r', q⟩ := hl j y v' e1 e2 e3
       refine ⟨u', r', ?_⟩
       rcases q with ⟨k, e⟩ | ⟨k, c, e, z⟩
       . refine .inl ⟨k, ?_⟩
         have : y ≠ x := fun e => hj (B9h hN e1 (e ▸ hi))
         simp [this, e]
       . exact .inr ⟨k, c, e, z.sameBut hs (cne y c e)⟩
   . obtain ⟨w', z⟩ := I.cell y c e
     exact ⟨w', z.sameBut hs (cne y c e)⟩
   . obtain ⟨e, n, ne, nf, d⟩ := I.pin p hp
     exact ⟨(hs.2 p.1 ne).trans e, n, ne, nf, d⟩
 . have hfn : X.fn x = true := by
     rcases hf with z | z
     . exact z
     . rw [z] at hk; cases hk
   obtain ⟨c, hc⟩ := I.ok.has x (.inl hk)
   obtain ⟨w', z⟩ := I.cell x c hc
   refine wpAny_storeName_cell I.ok.kind hk hc z (fun h' hc' hs => ?_)
   obtain ⟨oc, hoc, hocd⟩ := id z
   refine h { s with heap := h' } ⟨I.ok, I.os, I.bare, ⟨fun b o e n hb hx => ?_, fun b o e n hb hx => ?_, I.base.free, fun b o e hx => ?_, I.base.tups, I.base.frzs, I.base.tbls⟩, ⟨m, hn.sameBut hs (Ne.symm (cne x c hc)), fun j y v' e1 e2 e3 => ?_⟩, fun y c' e => ?_, I.free, I.freeC, fun p hp => ?_, tracked ⟨oc, hoc, I.freeC x c hc⟩ hs, by simpa using I.len⟩ ⟨c, hs, .inr hc⟩
   . exact (hs.2 b (Nat.ne_of_lt (Nat.lt_of_lt_of_le (Heap.lt_size e) (I.ok.cab x c hfn hc)))).trans (I.base.keep b o e n hb hx)
   . obtain ⟨sl, e1⟩ := I.base.slot b o e n hb hx
     exact ⟨sl, (hs.2 b (Nat.ne_of_lt (Nat.lt_of_lt_of_le (Heap.lt_size e) (I.ok.cab x c hfn hc)))).trans e1⟩
   . obtain ⟨o', e1⟩ := I.base.there b o e hx
     exact ⟨o', (hs.2 b (Nat.ne_of_lt (Nat.lt_of_lt_of_le (Heap.lt_size e) (I.ok.cab x c hfn hc)))).trans e1⟩
   . by_cases hj : j = i
     . subst hj
       rw [hi] at e1; cases e1
       rw [List.getElem?_set_self hiσ] at e2
       cases e2
       exact ⟨u, r, .inr ⟨.inl hk, c, hc, hc'⟩⟩
     . rw [List.getElem?_set_ne (Ne.symm hj)] at e2
       obtain ⟨u', r', q⟩ := hl j y v' e1 e2 e3
       refine ⟨u', r', ?_⟩
       rcases q with q | ⟨k, c', e, z'⟩
       . exact .inl q
       . refine .inr ⟨k, c', e, z'.sameBut hs ?_⟩
         rintro rfl
         exact hj (B9h hN e1 (I.ok.inj _ _ _ e hc ▸ hi))
   . by_cases hcc : c' = c
     . subst hcc; exact ⟨_, hc'⟩
     . obtain ⟨w2, z2⟩ := I.cell y c' e
       exact ⟨w2, z2.sameBut hs hcc⟩
   . obtain ⟨e, n, ne, nf, d⟩ := I.pin p hp
     refine ⟨(hs.2 p.1 ?_).trans e, n, ne, nf, d⟩
     intro q
     rw [q, hoc] at e
     have q' : oc = p.2 := Option.some.inj e
     exact d w' (by rw [<- q']; exact hocd)
theorem B2e {M : Model} {A : Around} {E : Value -> Shared -> Prop} {i : Nat} {x : Str} {v : V} {u : Value} {Q : Unit -> Shared -> Prop} (I : Inv X pins σ H s) (hN : X.N.Nodup) (hi : X.N[i]? = some x) (hx : Loc X.env.scope x) (r : RelV v u)
   (h : ∀ s', Inv X pins (σ.set i (some v)) H s' -> Q () s') (hf : X.fn x = true \/ X.env.scope.names.lookup x = some .local := by first | exact .inl rfl | exact .inr rfl | assumption) : wpAny M A (storeName X.env x u) Q E s :=
 C6f I hN hi hx r (fun s' I' _ => h s' I') hf
theorem Inv.call' {s' : Shared} {ch : List Addr} (I : Inv X pins σ H s) (ho : s'.os = s.os) (u : Un (frs X.stack) ch H H' s.heap s'.heap) (hok : HOk X.prog X.w H' s'.heap) (hg : AllBare s'.gens)
   (hch : ∀ b ∈ ch, (b ∈ X.ex \/ X.s₀.heap.objs.size <= b) /\ b ≠ X.env.locals /\ (∀ x c, X.env.cells.lookup x = some c -> c ≠ b) /\ ∀ p ∈ X.pn ++ pins, p.1 ≠ b) : Inv X pins σ H' s' := by
 obtain ⟨h', g', d', t', o'⟩ := s'
 have e : o' = s.os := ho
 subst e
 exact I.call (g' := g') (t' := t') (d' := d') u hok hg hch
end
abbrev XK := Value -> Option Addr -> Hp -> Prop
abbrev St := List (Option V)
abbrev VK := V -> Hp -> Prop
abbrev TE := St -> Hp -> VK -> Prop
abbrev TT := St -> Hp -> (Bool -> Hp -> Prop) -> Prop
abbrev TA := St -> Hp -> (List V -> Hp -> Prop) -> Prop
structure Ends where
 nx : St -> Hp -> Prop
 rt : VK
 bk : St -> Hp -> Prop := fun _ _ => False
 ct : St -> Hp -> Prop := fun _ _ => False
abbrev TS := Ends -> St -> Hp -> Prop
def EP (X : Cx) (pins : List (Addr × Obj)) (σ : St) (Q : VK) (u : Value) (s' : Shared) : Prop := ∃ v H', Inv X pins σ H' s' /\ RelV v u /\ Q v H'
def TP (X : Cx) (pins : List (Addr × Obj)) (σ : St) (Q : Bool -> Hp -> Prop) (b : Bool) (s' : Shared) : Prop := ∃ H', Inv X pins σ H' s' /\ Q b H'
def AP (X : Cx) (pins : List (Addr × Obj)) (σ : St) (Q : List V -> Hp -> Prop) (us : List Value) (s' : Shared) : Prop := ∃ vs H', Inv X pins σ H' s' /\ Vals vs us /\ Q vs H'
def SP (X : Cx) (pins : List (Addr × Obj)) (D : Ends) (f : Flow) (s' : Shared) : Prop :=
 match f with
 | .next => ∃ σ' H', Inv X pins σ' H' s' /\ D.nx σ' H'
 | .brk => ∃ σ' H', Inv X pins σ' H' s' /\ D.bk σ' H'
 | .cont => ∃ σ' H', Inv X pins σ' H' s' /\ D.ct σ' H'
 | .ret u => ∃ v σ' H', Inv X pins σ' H' s' /\ RelV v u /\ D.rt v H'
def PE (X : Cx) (e : Expr) (t : TE) : Prop :=
 ∀ (pins : List (Addr × Obj)) (s : Shared) (σ : St) (H : Hp) (Q : VK), Inv X pins σ H s -> t σ H Q -> wpAny (model X.prog X.w) X.A (eval e X.env) (EP X pins σ Q) X.xe s
def PT (X : Cx) (e : Expr) (t : TT) : Prop :=
 ∀ (pins : List (Addr × Obj)) (s : Shared) (σ : St) (H : Hp) (Q : Bool -> Hp -> Prop), Inv X pins σ H s -> t σ H Q -> wpAny (model X.prog X.w) X.A (isTrue e X.env (eval e X.env)) (TP X pins σ Q) X.xe s
def PW (X : Cx) (e : Expr) (t : TT) : Prop :=
 ∀ (whole : Sem Value) (pins : List (Addr × Obj)) (s : Shared) (σ : St) (H : Hp) (Q : Bool -> Hp -> Prop), Inv X pins σ H s -> t σ H Q -> wpAny (model X.prog X.w) X.A (isTrue e X.env whole) (TP X pins σ Q) X.xe s
theorem PW.pt {X : Cx} {e : Expr} {t : TT} (h : PW X e t) : PT X e t := h _
def PA (X : Cx) (es : List Expr) (t : TA) : Prop :=
 ∀ (pos : Pos) (pins : List (Addr × Obj)) (s : Shared) (σ : St) (H : Hp) (Q : List V -> Hp -> Prop), Inv X pins σ H s -> t σ H Q -> wpAny (model X.prog X.w) X.A (spliced (backTo pos (starEach es X.env))) (AP X pins σ Q) X.xe s
def PS (X : Cx) (st : Stmt) (t : TS) : Prop :=
 ∀ (pins : List (Addr × Obj)) (s : Shared) (σ : St) (H : Hp) (D : Ends), Inv X pins σ H s -> t D σ H -> wpAny (model X.prog X.w) X.A (exec st X.env) (SP X pins D) X.xe s
def PSs (X : Cx) (st : List Stmt) (t : TS) : Prop :=
 ∀ (pins : List (Addr × Obj)) (s : Shared) (σ : St) (H : Hp) (D : Ends), Inv X pins σ H s -> t D σ H -> wpAny (model X.prog X.w) X.A (execs st X.env) (SP X pins D) X.xe s
theorem thn {α : Type} {t : Sem α} {Q Q' : α -> Shared -> Prop} {M : Model} {A : Around} {E : Value -> Shared -> Prop} {s : Shared} (h : wpAny M A t Q E s) (hQ : ∀ a s, Q a s -> Q' a s) : wpAny M A t Q' E s := wpAny_mono h hQ fun _ _ x => x
section
variable {X : Cx}
def V8w (i : Nat) : TE := fun σ H Q => ∃ v, σ[i]? = some (some v) /\ Q v H
def tC (v : V) : TE := fun _ H Q => Q v H
theorem J6j {i : Nat} {x : Str} {pos : Pos} (hN : X.N[i]? = some x) (hv : Vis X.env.scope x) (hd : (x == ("__debug__" : Str)) = false := by decide) (hcd : (x == ("__classdict__" : Str)) = false := by decide) : PE X (.Name x pos) (V8w i) := by
 intro pins s σ H Q I h
 obtain ⟨v, e, h⟩ := h
 obtain ⟨m, hn, hl⟩ := I.loc
 obtain ⟨u, r, l⟩ := hl i x v hN e hv
 have fin : EP X pins σ Q u s := ⟨v, H, I, r, h⟩
 rcases l with ⟨hk, hm⟩ | ⟨hk, c, hc, hcell⟩
 . exact wpAny_Name (wpAny_loadName_local I.ok.kind hk hn hm fin) hd
 . rcases hk with hk | hk
   . exact wpAny_Name (wpAny_loadName_cell I.ok.kind hk hc hcell fin) hd
   . exact wpAny_Name (wpAny_loadName_free I.ok.kind hk hc hcell fin hcd) hd
theorem A1 {i j pos} : PE X (.Constant (.int i) j pos) (tC (.int i)) := fun _ _ _ H _ I h => wpAny_Constant_int ⟨.int i, H, I.tok _, ⟨_, rfl⟩, h⟩
theorem D5e {b j pos} : PE X (.Constant (.bool b) j pos) (tC (.bl b)) := fun _ _ _ H _ I h => Constant_bool ⟨.bl b, H, I, rfl, h⟩
theorem V8h {j pos} : PE X (.Constant .none j pos) (tC .non) := fun _ _ _ H _ I h => Constant_none ⟨.non, H, I, rfl, h⟩
theorem B0 {x j pos} : PE X (.Constant (.str x) j pos) (tC (.str x)) := fun _ _ _ H _ I h => Calls.Constant_str ⟨.str x, H, I.tok _, ⟨_, rfl⟩, h⟩
def Gl (X : Cx) (x : Str) : Prop := X.env.kindOf x = some .globalImplicit
theorem A0k {E : Value -> Shared -> Prop} {pins : List (Addr × Obj)} {s : Shared} {σ : St} {H : Hp} {x : Str} {u : Value} {pos : Pos} {Q : Value -> Shared -> Prop} (I : Inv X pins σ H s) (hg : Gl X x) (hm : X.mg x = some u) (h : Q u s)
   (hd : (x == ("__debug__" : Str)) = false := by decide) : wpAny (model X.prog X.w) X.A (eval (.Name x pos) X.env) Q E s :=
 Calls.Name_function_global I.ok.kind hg (Calls.loadGlobal_global (by rw [I.ok.glob]; exact I.mod.glob.keeps I.bk) hm h) hd
theorem C7y {E : Value -> Shared -> Prop} {pins : List (Addr × Obj)} {s : Shared} {σ : St} {H : Hp} {x : Str} {u : Value} {pos : Pos} {Q : Value -> Shared -> Prop} (I : Inv X pins σ H s) (hg : Gl X x) (hm : X.mg x = none) (hv : bootBuiltins x = some u) (h : Q u s)
   (hn : x ≠ "__name__" := by decide) (hd : (x == ("__debug__" : Str)) = false := by decide) : wpAny (model X.prog X.w) X.A (eval (.Name x pos) X.env) Q E s := by
 obtain ⟨mb, h1, h2⟩ := I.mod.blt
 exact Calls.Name_function_global I.ok.kind hg (Calls.loadGlobal_builtin (by rw [I.ok.glob]; exact I.mod.glob.keeps I.bk) hm (by rw [I.ok.blt]; exact h1.keeps I.bk) ((h2 x hn).trans hv) h) hd
theorem V2w {x : Str} {v : V} {u : Value} {pos : Pos} (hg : Gl X x) (hm : X.mg x = some u) (r : RelV v u) (hd : (x == ("__debug__" : Str)) = false := by decide) : PE X (.Name x pos) (tC v) :=
 fun _ _ _ H _ I h => A0k I hg hm ⟨v, H, I, r, h⟩ hd
theorem V1x {x : Str} {v : V} {u : Value} {pos : Pos} (hg : Gl X x) (hm : X.mg x = none) (hv : bootBuiltins x = some u) (r : RelV v u) (hn : x ≠ "__name__" := by decide) (hd : (x == ("__debug__" : Str)) = false := by decide) : PE X (.Name x pos) (tC v) :=
 fun _ _ _ H _ I h => C7y I hg hm hv ⟨v, H, I, r, h⟩ hn hd
variable {a b : Expr} {ta tb : TE} {pos : Pos}
def tB (t : TE) : TT := fun σ H Q => t σ H fun x H1 => ∃ c, x = .bl c /\ Q c H1
theorem Y6 {e : Expr} {t : TE} (h : PE X e t) (he : ∀ whole, isTrue e X.env whole = (do let v <- whole; standAt e.pos; holding [v] (truthy v)) := by intro _; rfl) : PT X e (tB t) := by
 intro pins s σ H Q I hw
 refine isTrue_plain (thn (h pins s σ H _ I hw) fun v s1 ⟨x, H1, I1, r1, q1⟩ => ?_) (he _)
 obtain ⟨d, rfl, q⟩ := q1
 cases r1
 exact wpAny_truthy_bool ⟨H1, I1, q⟩
variable {tA tB' : TT} {rest : List Expr}
def Y9p (t u : TT) : TT := fun σ H Q => t σ H fun c H1 => if c = true then u σ H1 Q else Q false H1
def tOr (t u : TT) : TT := fun σ H Q => t σ H fun c H1 => if c = true then Q true H1 else u σ H1 Q
def Y9j (t : TT) : TT := fun σ H Q => t σ H fun c H1 => Q (!c) H1
theorem A0z (ha : PT X a tA) : PW X (.BoolOp .And [a] pos) tA := by
 intro wh pins s σ H Q I h
 refine isTrue_and (thn (ha pins s σ H Q I h) fun c s1 e => ?_)
 cases c with
 | true => exact isTrue_and_nil e
 | false => exact e
theorem A3c (ha : PT X a tA) : PW X (.BoolOp .Or [a] pos) tA := by
 intro wh pins s σ H Q I h
 refine isTrue_or (thn (ha pins s σ H Q I h) fun c s1 e => ?_)
 cases c with
 | false => exact isTrue_or_nil e
 | true => exact e
theorem A2c (ha : PT X a tA) (hb : PW X (.BoolOp .And (b :: rest) pos) tB') : PW X (.BoolOp .And (a :: b :: rest) pos) (Y9p tA tB') := by
 intro wh pins s σ H Q I h
 refine isTrue_and (thn (ha pins s σ H _ I h) fun c s1 ⟨H1, I1, q1⟩ => ?_)
 cases c with
 | true => exact hb wh pins s1 σ H1 Q I1 q1
 | false => exact ⟨H1, I1, q1⟩
theorem A7k (ha : PT X a tA) (hb : PW X (.BoolOp .Or (b :: rest) pos) tB') : PW X (.BoolOp .Or (a :: b :: rest) pos) (tOr tA tB') := by
 intro wh pins s σ H Q I h
 refine isTrue_or (thn (ha pins s σ H _ I h) fun c s1 ⟨H1, I1, q1⟩ => ?_)
 cases c with
 | true => exact ⟨H1, I1, q1⟩
 | false => exact hb wh pins s1 σ H1 Q I1 q1
theorem A7s (ha : PT X a tA) : PT X (.UnaryOp .Not a pos) (Y9j tA) := by
 intro pins s σ H Q I h
 exact isTrue_not (ha pins s σ H (fun c H1 => Q (!c) H1) I h)
def Y5b (ta tb : TE) : TE := fun σ H Q => ta σ H fun x H1 => ∃ c, x = .bl c /\ if c = true then tb σ H1 Q else Q (.bl false) H1
def Y7u (ta tb : TE) : TE := fun σ H Q => ta σ H fun x H1 => ∃ c, x = .bl c /\ if c = true then Q (.bl true) H1 else tb σ H1 Q
theorem A1w {op} {t : TE} (h : PE X a t) : PE X (.BoolOp op [a] pos) t := fun pins s σ H Q I hw => BoolOp_one (h pins s σ H Q I hw)
theorem A7j (ha : PE X a ta) (hb : PE X (.BoolOp .And (b :: rest) pos) tb) : PE X (.BoolOp .And (a :: b :: rest) pos) (Y5b ta tb) := by
 intro pins s σ H Q I h
 refine BoolOp_and (thn (ha pins s σ H _ I h) fun v s1 ⟨x, H1, I1, r1, q1⟩ => ?_)
 obtain ⟨c, rfl, q1⟩ := q1
 cases r1
 refine wpAny_truthy_bool ?_
 cases c with
 | true => exact hb pins s1 σ H1 Q I1 q1
 | false => exact ⟨.bl false, H1, I1, rfl, q1⟩
theorem D3x (ha : PE X a ta) (hb : PE X (.BoolOp .Or (b :: rest) pos) tb) : PE X (.BoolOp .Or (a :: b :: rest) pos) (Y7u ta tb) := by
 intro pins s σ H Q I h
 refine BoolOp_or (thn (ha pins s σ H _ I h) fun v s1 ⟨x, H1, I1, r1, q1⟩ => ?_)
 obtain ⟨c, rfl, q1⟩ := q1
 cases r1
 refine wpAny_truthy_bool ?_
 cases c with
 | false => exact hb pins s1 σ H1 Q I1 q1
 | true => exact ⟨.bl true, H1, I1, rfl, q1⟩
def tIf (t : TT) (ta tb : TE) : TE := fun σ H Q => t σ H fun c H1 => if c = true then ta σ H1 Q else tb σ H1 Q
theorem A2a {c : Expr} (hc : PT X c tA) (ha : PE X a ta) (hb : PE X b tb) : PE X (.IfExp c a b pos) (tIf tA ta tb) := by
 intro pins s σ H Q I h
 refine wpAny_IfExp (thn (hc pins s σ H _ I h) fun d s1 ⟨H1, I1, q1⟩ => ?_)
 cases d with
 | true => exact ha pins s1 σ H1 Q I1 q1
 | false => exact hb pins s1 σ H1 Q I1 q1
end
def SqL (K : PySem.W.Frag) (H : Hp) (a : Addr) (xs : List V) : Prop :=
 Rd H a (.lst xs) \/
   ∃ (o : Obj) (its : Array Value) (n : Nat), K.lookup a = some o /\ o.cls = .type "list" /\ o.dict = none /\ o.data = .seq its n /\ its.size <= sizeLine /\ Vals xs its.toList
def SqT (K : PySem.W.Frag) (H : Hp) (a : Addr) (xs : List V) : Prop :=
 Rd H a (.tup xs) \/
   ∃ (o : Obj) (its : Array Value) (n : Nat), K.lookup a = some o /\ o.cls = .type "tuple" /\ o.data = .seq its n /\ its.size <= sizeLine /\ Vals xs its.toList
def Y8b : Value -> Option V
 | .none => some .non
 | .bool b => some (.bl b)
 | .int i _ => some (.int i)
 | .str x _ => some (.str x)
 | .bytes b _ => some (.byt b)
 | .float b _ => some (.flt b)
 | .ref a => some (.ref a)
 | .type n => some (.ty n)
 | _ => none
theorem RelV.abs {x : V} {u : Value} (r : RelV x u) : Y8b u = some x := by
 cases x with
 | non => cases r; rfl
 | bl _ => cases r; rfl
 | int _ => obtain ⟨t, rfl⟩ := r; rfl
 | str _ => obtain ⟨t, rfl⟩ := r; rfl
 | byt _ => obtain ⟨t, rfl⟩ := r; rfl
 | flt _ => obtain ⟨t, rfl⟩ := r; rfl
 | ref _ => cases r; rfl
 | ty _ => cases r; rfl
theorem RelV.inj {x y : V} {u : Value} (r : RelV x u) (q : RelV y u) : x = y := Option.some.inj (r.abs.symm.trans q.abs)
theorem Vals.inj : ∀ {xs ys : List V} {us : List Value}, Vals xs us -> Vals ys us -> xs = ys
 | _, _, _, .nil, .nil => rfl
 | _, _, _, .cons r t, .cons r' t' => by rw [r.inj r', Vals.inj t t']
section
variable {X : Cx} {pins : List (Addr × Obj)} {σ : St} {H : Hp} {s : Shared} {a : Addr} {xs ys : List V}
theorem SqL.of {K : PySem.W.Frag} (h : H a = some (.lst xs)) : SqL K H a xs := .inl (.inl h)
theorem SqT.of {K : PySem.W.Frag} (h : H a = some (.tup xs)) : SqT K H a xs := .inl (.inl h)
theorem Inv.list (I : Inv X pins σ H s) (h : SqL X.K H a xs) : ∃ its : List Value, Vals xs its /\ PlainL s.heap a its.toArray /\ xs.length <= sizeLine := by
 rcases h with h | ⟨o, its, n, hk, hc, hd, hs, hz, r⟩
 . obtain ⟨z, its, n, r, e⟩ := h.ok I.hok
   exact ⟨its, r, ⟨_, n, e, rfl, rfl, rfl⟩, z⟩
 . refine ⟨its.toList, r, ⟨o, n, I.kIn a o hk, hc, hd, by simpa using hs⟩, ?_⟩
   have e := r.length
   simp only [Array.length_toList] at e
   omega
theorem Inv.tuple (I : Inv X pins σ H s) (h : SqT X.K H a xs) : ∃ its : List Value, Vals xs its /\ IsTup s.heap a its.toArray /\ xs.length <= sizeLine := by
 rcases h with h | ⟨o, its, n, hk, hc, hs, hz, r⟩
 . obtain ⟨z, its, r, p⟩ := h.ok I.hok
   exact ⟨its, r, p, z⟩
 . refine ⟨its.toList, r, ⟨o, I.kIn a o hk, hc, n, by simpa using hs⟩, ?_⟩
   have e := r.length
   simp only [Array.length_toList] at e
   omega
theorem Inv.list_inj (I : Inv X pins σ H s) (h : SqL X.K H a xs) (h' : SqL X.K H a ys) : xs = ys := by
 obtain ⟨its, r, ⟨o, n, e, _, _, d⟩, _⟩ := I.list h
 obtain ⟨its', r', ⟨o', n', e', _, _, d'⟩, _⟩ := I.list h'
 rw [e] at e'; cases e'
 rw [d] at d'
 injection d' with d1 _
 have : its = its' := by simpa using congrArg Array.toList d1
 subst this
 exact r.inj r'
theorem Inv.tuple_inj (I : Inv X pins σ H s) (h : SqT X.K H a xs) (h' : SqT X.K H a ys) : xs = ys := by
 obtain ⟨its, r, ⟨o, e, _, n, d⟩, _⟩ := I.tuple h
 obtain ⟨its', r', ⟨o', e', _, n', d'⟩, _⟩ := I.tuple h'
 rw [e] at e'; cases e'
 rw [d] at d'
 injection d' with d1 _
 have : its = its' := by simpa using congrArg Array.toList d1
 subst this
 exact r.inj r'
end
abbrev Cx.wish (X : Cx) (E : Value -> Shared -> Prop) : Cx := { X with xe := E }
abbrev Cx.nox (X : Cx) : Cx := X.wish fun _ _ => False
theorem Cx.Ok.wish {X : Cx} (ok : X.Ok) (E : Value -> Shared -> Prop) : (X.wish E).Ok :=
 ⟨ok.mod, ok.kind, ok.glob, ok.blt, ok.above, ok.inj, ok.has, ok.cab, ok.hd, ok.frames, ok.stk, ok.exf, ok.bs, ok.bsz, ok.noex, ok.exfs, ok.funs, ok.frf⟩
theorem Cx.Ok.unwish {X : Cx} {E : Value -> Shared -> Prop} (ok : (X.wish E).Ok) : X.Ok :=
 ⟨ok.mod, ok.kind, ok.glob, ok.blt, ok.above, ok.inj, ok.has, ok.cab, ok.hd, ok.frames, ok.stk, ok.exf, ok.bs, ok.bsz, ok.noex, ok.exfs, ok.funs, ok.frf⟩
section
variable {X : Cx} {pins : List (Addr × Obj)} {σ : St} {H : Hp} {s : Shared} {E : Value -> Shared -> Prop}
theorem Inv.wish (I : Inv X pins σ H s) (E : Value -> Shared -> Prop) : Inv (X.wish E) pins σ H s := ⟨I.ok.wish E, I.os, I.bare, I.base, I.loc, I.cell, I.free, I.freeC, I.pin, I.hok, I.len⟩
theorem Inv.unwish (I : Inv (X.wish E) pins σ H s) : Inv X pins σ H s := ⟨I.ok.unwish, I.os, I.bare, I.base, I.loc, I.cell, I.free, I.freeC, I.pin, I.hok, I.len⟩
theorem SP.unwish {D : Ends} {f : Flow} {s' : Shared} (h : SP (X.wish E) pins D f s') : SP X pins D f s' := by
 cases f with
 | next => obtain ⟨σ', H', I, q⟩ := h; exact ⟨σ', H', I.unwish, q⟩
 | brk => obtain ⟨σ', H', I, q⟩ := h; exact ⟨σ', H', I.unwish, q⟩
 | cont => obtain ⟨σ', H', I, q⟩ := h; exact ⟨σ', H', I.unwish, q⟩
 | ret u => obtain ⟨v, σ', H', I, r, q⟩ := h; exact ⟨v, σ', H', I.unwish, r, q⟩
theorem PSs.nox {st : List Stmt} {t : TS} (h : PSs X.nox st t) : PSs X st t := fun pins s σ H D I hw =>
 wpAny_mono (h pins s σ H D (I.wish _) hw) (fun _ _ q => q.unwish) fun _ _ z => False.elim z
end
section
variable {X : Cx} {st : Stmt} {rest : List Stmt} {t u : TS} {e : Expr} {te : TE} {pos : Pos}
def Y5q : TS := fun D σ H => D.nx σ H
def Y9h (t u : TS) : TS := fun D σ H => t { D with nx := u D } σ H
theorem C6 : PSs X [] Y5q := fun _ _ σ H _ I h => wpAny_execs_nil ⟨σ, H, I, h⟩
theorem A7 (h1 : PS X st t) (h2 : PSs X rest u) : PSs X (st :: rest) (Y9h t u) := by
 intro pins s σ H D I h
 refine wpAny_execs_cons (thn (h1 pins s σ H { D with nx := u D } I h) fun f s1 q => ?_)
 cases f with
 | next =>
   obtain ⟨σ', H', I', q⟩ := q
   exact h2 pins s1 σ' H' D I' q
 | ret v => exact q
 | brk => exact q
 | cont => exact q
theorem A9 (h1 : PS X st t) : PSs X [st] t := by
 intro pins s σ H D I h
 refine wpAny_execs_cons (thn (h1 pins s σ H D I h) fun f s1 q => ?_)
 cases f with
 | next => exact wpAny_execs_nil q
 | ret v => exact q
 | brk => exact q
 | cont => exact q
theorem Inv.quiet {pins : List (Addr × Obj)} {σ : St} {H : Hp} {s : Shared} (I : Inv X pins σ H s) : interactive X.env = false := by simp [interactive, I.ok.kind]
def Y4d (te : TE) : TS := fun D σ H => te σ H fun _ H1 => D.nx σ H1
theorem Y1 (he : PE X e te) (hs : swapsWith e none pos.line X.env = pure false := by rfl) : PS X (.Expr e pos) (Y4d te) := by
 intro pins s σ H D I h
 exact wpAny_Expr_any (thn (he pins s σ H _ I h) fun v s1 ⟨x, H1, I1, r1, q1⟩ => ⟨σ, H1, I1, q1⟩) I.quiet hs
def Y9f (te : TE) : TS := fun D σ H => te σ H D.rt
theorem B8 (he : PE X e te) : PS X (.Return (some e) pos) (Y9f te) := by
 intro pins s σ H D I h
 exact wpAny_Return_some (thn (he pins s σ H _ I h) fun v s1 ⟨x, H1, I1, r1, q1⟩ => ⟨x, σ, H1, I1, r1, q1⟩)
def Y7v (c : TT) (t u : TS) : TS := fun D σ H => c σ H fun b H1 => if b = true then t D σ H1 else u D σ H1
theorem D9 {c : Expr} {a b : List Stmt} {tc : TT} (hc : PT X c tc) (ha : PSs X a t) (hb : PSs X b u) : PS X (.If c a b pos) (Y7v tc t u) := by
 intro pins s σ H D I h
 refine wpAny_If (thn (hc pins s σ H _ I h) fun d s1 ⟨H1, I1, q1⟩ => ?_)
 cases d with
 | true => exact ha pins s1 σ H1 D I1 q1
 | false => exact hb pins s1 σ H1 D I1 q1
end
abbrev TG := V -> St -> Hp -> (St -> Hp -> Prop) -> Prop
abbrev TGs := List V -> St -> Hp -> (St -> Hp -> Prop) -> Prop
def PG (X : Cx) (target : Expr) (t : TG) : Prop :=
 ∀ (pins : List (Addr × Obj)) (s : Shared) (σ : St) (H : Hp) (v : V) (u : Value) (Q : St -> Hp -> Prop), Inv X pins σ H s -> RelV v u -> t v σ H Q ->
   wpAny (model X.prog X.w) X.A (assign target X.env u) (fun _ s' => ∃ σ' H', Inv X pins σ' H' s' /\ Q σ' H') X.xe s
def PGs (X : Cx) (ts : List Expr) (t : TGs) : Prop :=
 ∀ (pins : List (Addr × Obj)) (s : Shared) (σ : St) (H : Hp) (vs : List V) (us : List Value) (Q : St -> Hp -> Prop), Inv X pins σ H s -> Vals vs us -> t vs σ H Q ->
   wpAny (model X.prog X.w) X.A (assignInOrder ((assignEach ts X.env).map (·.2)) us) (fun _ s' => ∃ σ' H', Inv X pins σ' H' s' /\ Q σ' H') X.xe s
section
variable {X : Cx} {pos : Pos}
def C6c (i : Nat) : TG := fun v σ H Q => Q (σ.set i (some v)) H
theorem U8 {i : Nat} {x : Str} (hN : X.N.Nodup) (hi : X.N[i]? = some x) (hx : Loc X.env.scope x) (hf : X.fn x = true \/ X.env.scope.names.lookup x = some .local := by first | exact .inl rfl | exact .inr rfl | assumption) : PG X (.Name x pos) (C6c i) := by
 intro pins s σ H v u Q I r h
 exact wpAny_assign_Name (B2e I hN hi hx r (fun s' I' => ⟨_, H, I', h⟩) hf)
def Y7w : TGs := fun vs σ H Q => vs = [] /\ Q σ H
def Y4u (t : TG) (u : TGs) : TGs := fun vs σ H Q => ∃ v r, vs = v :: r /\ t v σ H fun σ' H' => u r σ' H' Q
theorem C7j : PGs X [] Y7w := by
 intro pins s σ H vs us Q I r h
 obtain ⟨e, h⟩ := h
 subst e
 cases r
 exact assignInOrder_nil ⟨σ, H, I, h⟩
theorem A3n {e : Expr} {es : List Expr} {t : TG} {u : TGs} (h1 : PG X e t) (h2 : PGs X es u)
   (hs : (assignEach (e :: es) X.env).map (·.2) = assign e X.env :: (assignEach es X.env).map (·.2) := by rfl) : PGs X (e :: es) (Y4u t u) := by
 intro pins s σ H vs us Q I r h
 obtain ⟨v, vr, e1, h⟩ := h
 subst e1
 cases r with
 | cons r rr =>
   rw [hs]
   refine assignInOrder_cons (thn (h1 pins s σ H _ _ _ I r h) fun _ s1 ⟨σ1, H1, I1, q1⟩ => ?_)
   exact h2 pins s1 σ1 H1 _ _ Q I1 rr q1
def Y8s (K : PySem.W.Frag) (n : Nat) (t : TGs) : TG := fun v σ H Q => ∃ a xs, v = .ref a /\ SqT K H a xs /\ xs.length = n /\ t xs σ H Q
theorem D9v {es : List Expr} {k : Nat} {t : TGs} {n : Nat} (hc : X.calm = true) (h : PGs X es t)
   (hn : (assignEach es X.env).length = n := by rfl) (hst : (assignEach es X.env).findIdx? (·.1) = none := by rfl) : PG X (.Tuple es k pos) (Y8s X.K n t) := by
 intro pins s σ H v u Q I r hw
 obtain ⟨a, xs, e1, hq, hl, hw⟩ := hw
 subst e1
 cases r
 obtain ⟨its, rv, ht, hz⟩ := I.tuple hq
 refine assign_Tuple_tuple (I.ok.hd hc) ht (by simp [hn, <- hl, rv.length]) hst fun h' hx => ?_
 have I1 : Inv X pins σ H { s with heap := h' } := I.kept (t' := s.toks) fun b o e => hx b o (Nat.ne_of_lt (Heap.lt_size e)) e
 exact h pins _ σ H xs _ Q I1 (by simpa using rv) hw
def V9n (te : TE) (g : TG) : TS := fun D σ H => te σ H fun x H1 => g x σ H1 D.nx
theorem D8t {tg e : Expr} {te : TE} {g : TG} (he : PE X e te) (hg : PG X tg g) (hs : swapsWithSole [tg] e pos.line X.env = pure false := by rfl) (hw : swappedStores [tg] e X.env = pure none := by rfl)
   (h1 : (assignEach [tg] X.env).map (·.2) = [assign tg X.env] := by rfl) : PS X (.Assign [tg] e pos) (V9n te g) := by
 intro pins s σ H D I h
 refine wpAny_Assign_stores (thn (he pins s σ H _ I h) fun v s1 ⟨x, H1, I1, r1, q1⟩ => ?_) hs hw
 rw [h1]
 exact thn (hg pins s1 σ H1 x v _ I1 r1 q1) fun _ s2 q => q
theorem C9 {i : Nat} {x : Str} {e : Expr} {te : TE} {pos' : Pos} (hN : X.N.Nodup) (hi : X.N[i]? = some x) (hx : Loc X.env.scope x) (he : PE X e te) (hs : swapsWith e (some (.Name x pos')) pos.line X.env = pure false := by rfl) (hf : X.fn x = true \/ X.env.scope.names.lookup x = some .local := by first | exact .inl rfl | exact .inr rfl | assumption) :
   PS X (.Assign [.Name x pos'] e pos) (V9n te (C6c i)) := by
 intro pins s σ H D I h
 refine wpAny_Assign_Name (thn (he pins s σ H _ I h) fun v s1 ⟨y, H1, I1, r1, q1⟩ => ?_) hs
 exact B2e I1 hN hi hx r1 (fun s2 I2 => ⟨_, H1, I2, q1⟩) hf
end
section
variable {X : Cx} {pos : Pos}
def J6c (c : TT) (tb : TS) : TS := fun D σ H => ∃ W : Nat -> St -> Hp -> Prop, (∃ m, W m σ H) /\ ∀ m σ H, W m σ H ->
 c σ H fun b H1 => if b = true then ∃ N : St -> Hp -> Prop, (∀ σ' H', N σ' H' -> ∃ m', m' < m /\ W m' σ' H') /\ tb { D with nx := N, ct := N, bk := D.nx } σ H1 else D.nx σ H1
theorem J5j {c : Expr} {body : List Stmt} {tc : TT} {tb : TS} (hp : PassesOwn (model X.prog X.w) X.A X.env X.xe) (hc : PT X c tc) (hb : PSs X body tb) : PS X (.While c body [] pos) (J6c tc tb) := by
 intro pins s σ H D I h
 obtain ⟨W, ⟨m0, w0⟩, turn⟩ := h
 refine wpAny_While (codeAny_whileLoop (fun n s' => ∃ σ' H', Inv X pins σ' H' s' /\ W n σ' H') ?_ m0 ⟨σ, H, I, w0⟩)
 rintro n s1 ⟨σ1, H1, I1, w1⟩
 refine wpAny_passesOwn hp (thn (hc pins s1 σ1 H1 _ I1 (turn n σ1 H1 w1)) fun b s2 ⟨H2, I2, q2⟩ => ?_)
 cases b with
 | true =>
   obtain ⟨N, hN, q2⟩ := q2
   rw [if_pos rfl]
   refine wpAny_passesOwn hp (thn (hb pins s2 σ1 H2 _ I2 q2) fun f s3 q3 => ?_)
   cases f with
   | next =>
     obtain ⟨σ3, H3, I3, n3⟩ := q3
     obtain ⟨m', hm, w3⟩ := hN σ3 H3 n3
     exact ⟨m', hm, σ3, H3, I3, w3⟩
   | cont =>
     obtain ⟨σ3, H3, I3, n3⟩ := q3
     obtain ⟨m', hm, w3⟩ := hN σ3 H3 n3
     exact ⟨m', hm, σ3, H3, I3, w3⟩
   | brk => exact q3
   | ret v => exact q3
 | false =>
   rw [if_neg Bool.false_ne_true]
   exact wpAny_execs_nil ⟨σ1, H2, I2, q2⟩
end
structure It where
 go : Nat -> Hp -> Prop
 yld : Nat -> Hp -> V -> Hp -> Prop
 stop : Nat -> Hp -> Prop
def A2g (X : Cx) (pins : List (Addr × Obj)) (H : Hp) (b : Addr) : Prop :=
 H b = none /\ b ≠ X.env.locals /\ b ∉ X.fs /\ (b ∈ X.ex \/ X.s₀.heap.objs.size <= b) /\ (∀ x c, X.env.cells.lookup x = some c -> c ≠ b) /\ ∀ p ∈ X.pn ++ pins, p.1 ≠ b
theorem Inv.fpOk {X : Cx} {pins : List (Addr × Obj)} {σ : St} {H H' : Hp} {s : Shared} {b : Addr} (I : Inv X pins σ H s) (hb : s.heap.objs.size <= b) (hn : H' b = none) : A2g X pins H' b := by
 refine ⟨hn, Nat.ne_of_gt (Nat.lt_of_lt_of_le I.lt hb), I.nofs hb, .inr (Nat.le_trans I.sz hb), fun x c e z => ?_, fun p hp z => ?_⟩
 . obtain ⟨v, q⟩ := I.cell x c e
   exact absurd (Nat.lt_of_lt_of_le q.lt (by rw [z]; exact hb)) (Nat.lt_irrefl _)
 . exact absurd (Nat.lt_of_lt_of_le (Heap.lt_size (I.pin p hp).1) (by rw [z]; exact hb)) (Nat.lt_irrefl _)
structure Turn (P : Program) (w : World) (K : PySem.W.Frag) (tg : Expr) (J : It) (fp : List Addr) (it : Addr) (tn : Nat -> Heap -> Prop) : Prop where
 mem : it ∈ fp
 obj : ∀ i h, tn i h -> ∀ b ∈ fp, ∃ o, h.get? b = some o /\ ∀ v, o.data ≠ .cell v
 keep : ∀ i h h', tn i h -> (∀ b ∈ fp, ∀ o, h.get? b = some o -> h'.get? b = some o) -> tn i h'
 item : ∀ (X : Cx), X.prog = P -> X.w = w -> X.K = K -> X.calm = true -> ∀ (i : Nat) (pins : List (Addr × Obj)) (s : Shared) (σ : St) (H : Hp) (E : Value -> Shared -> Prop), Inv X pins σ H s -> (∀ b ∈ fp, A2g X pins H b) -> tn i s.heap -> J.go i H ->
   wpAny (model P w) X.A (pyNext (.ref it)) (fun r s1 => ∃ u, r = some u /\
     wpAny (model P w) X.A (letOwnedTupleGo tg (.ref it) u) (fun _ s2 => ∃ x H', Inv X pins σ H' s2 /\ RelV x u /\ J.yld i H x H' /\ tn (i + 1) s2.heap /\ ∀ b ∈ fp, H' b = none) E s1) E s
 done : ∀ (X : Cx), X.prog = P -> X.w = w -> X.K = K -> X.calm = true -> ∀ (i : Nat) (pins : List (Addr × Obj)) (s : Shared) (σ : St) (H : Hp) (E : Value -> Shared -> Prop), Inv X pins σ H s -> (∀ b ∈ fp, A2g X pins H b) -> tn i s.heap -> J.stop i H ->
   wpAny (model P w) X.A (pyNext (.ref it)) (fun r s1 => r = none /\ Inv X pins σ H s1) E s
 self : ∀ (A : Around) (i : Nat) (s : Shared) (Q : Value -> Shared -> Prop) (E : Value -> Shared -> Prop), tn i s.heap -> Q (.ref it) s -> wpAny (model P w) A (pyIter (.ref it)) Q E s
abbrev TI := St -> Hp -> (It -> Hp -> Prop) -> Prop
def PIE (X : Cx) (pins : List (Addr × Obj)) (σ : St) (tg : Expr) (R : It -> Hp -> Prop) (itv : Value) (s2 : Shared) : Prop :=
 ∃ (it : Addr) (fp : List Addr) (tn : Nat -> Heap -> Prop) (J : It) (H' : Hp), itv = .ref it /\ Inv X pins σ H' s2 /\ Turn X.prog X.w X.K tg J fp it tn /\ tn 0 s2.heap /\ (∀ b ∈ fp, A2g X pins H' b) /\ R J H'
def PI (X : Cx) (tg iter : Expr) (wi : TI) : Prop :=
 ∀ (pins : List (Addr × Obj)) (s : Shared) (σ : St) (H : Hp) (R : It -> Hp -> Prop), Inv X pins σ H s -> wi σ H R ->
   wpAny (model X.prog X.w) X.A (eval iter X.env) (fun v s1 => wpAny (model X.prog X.w) X.A (pyIter v) (PIE X pins σ tg R) X.xe s1) X.xe s
theorem J0h {M : Model} {A : Around} {E : Value -> Shared -> Prop} {s : Shared} {tg : Expr} {it : Addr} {u : Value} {o : Obj} {n : String} {vs : Array Value} {Q : Unit -> Shared -> Prop} (ho : s.heap.get? it = some o) (hc : o.cls = .type n) (hd : o.data = .fields vs)
   (hn : ["enumerate", "zip", "dict_itemiterator", "dict_reverseitemiterator", "odict_iterator", "itertools.zip_longest", "itertools.pairwise"].contains n = false) (hQ : Q () s) : wpAny M A (letOwnedTupleGo tg (.ref it) u) Q E s := by
 unfold letOwnedTupleGo
 cases tg <;> first
   | exact wpAny_pure hQ
   | (cases u <;> first
       | exact wpAny_pure hQ
       | (refine wpAny_bind (wpAny_load ho ?_)
          rw [hc, hd]
          show wpAny M A (if (["enumerate", "zip", "dict_itemiterator", "dict_reverseitemiterator", "odict_iterator", "itertools.zip_longest", "itertools.pairwise"].contains n && vs[0]? == some (rawInt _)) = true then _ else _) Q E s
          rw [if_neg (by intro h; rw [hn, Bool.false_and] at h; cases h)]
          exact wpAny_pure hQ))
def Itl (K : PySem.W.Frag) (a : Addr) : It :=
 ⟨fun i H => ∃ xs x, SqL K H a xs /\ xs[i]? = some x, fun i H x H' => H' = H /\ ∀ xs, SqL K H a xs -> xs[i]? = some x, fun i H => ∃ xs, SqL K H a xs /\ xs.length <= i⟩
def Itt (K : PySem.W.Frag) (a : Addr) : It :=
 ⟨fun i H => ∃ xs x, SqT K H a xs /\ xs[i]? = some x, fun i H x H' => H' = H /\ ∀ xs, SqT K H a xs -> xs[i]? = some x, fun i H => ∃ xs, SqT K H a xs /\ xs.length <= i⟩
def Itr (lo : Int) (n : Nat) : It := ⟨fun i _ => i < n, fun i H x H' => H' = H /\ x = .int (lo + i), fun i _ => n <= i⟩
theorem J1z {P : Program} {w : World} {K : PySem.W.Frag} {tg : Expr} (a it : Addr) : Turn P w K tg (Itl K a) [it] it (fun i h => h.IsListIter it a i) where
 mem := by simp
 obj := fun i h st b hb => by
   have e : b = it := by simpa using hb
   subst e
   obtain ⟨o, e, c, d⟩ := st
   exact ⟨o, e, fun v z => by rw [d] at z; cases z⟩
 keep := fun i h h' st k => st.at fun o e => k it (by simp) o e
 item := by
   intro X hP hw hK hc i pins s σ H E I hf st hg
   subst hP hw hK
   obtain ⟨xs, x, hq, hx⟩ := hg
   obtain ⟨its, rv, p, hz⟩ := I.list hq
   obtain ⟨u, hu, ru⟩ := rv.get hx
   obtain ⟨f0, f1, f2, f3, f4, f5⟩ := hf it (by simp)
   refine wpAny_pyNext_list_item st p.isList (x := u) (by simpa using hu) fun h' st' sb => ?_
   have I1 : Inv X pins σ H { s with heap := h' } := I.turned (t' := s.toks) (fun b o hb e => (sb.2 b hb).trans e) f0 f1 f3 f4 f5
   obtain ⟨o, e, c, d⟩ := id st'
   exact ⟨u, rfl, J0h (s := { s with heap := h' }) e c d (by decide) ⟨x, H, I1, ru, ⟨rfl, fun ys hy => by rw [I.list_inj hy hq]; exact hx⟩, st', fun b hb => (hf b hb).1⟩⟩
 done := by
   intro X hP hw hK hc i pins s σ H E I hf st hg
   subst hP hw hK
   obtain ⟨xs, hq, hx⟩ := hg
   obtain ⟨its, rv, p, hz⟩ := I.list hq
   obtain ⟨f0, f1, f2, f3, f4, f5⟩ := hf it (by simp)
   have hl := rv.length
   exact wpAny_pyNext_list_end (I.ok.hd hc) st p.isList (by simp; omega) fun h' eb => ⟨rfl, I.turned (t' := s.toks) (fun b o hb e => eb b o hb e) f0 f1 f3 f4 f5⟩
 self := fun _ _ _ _ _ st h => wpAny_pyIter_listiter st h
theorem D8g {P : Program} {w : World} {K : PySem.W.Frag} {tg : Expr} (it : Addr) (lo : Int) (n : Nat) : Turn P w K tg (Itr lo n) [it] it (fun i h => IsRangeIter h it (lo + (i : Nat) * 1) ((n : Int) - (i : Nat)) 1) where
 mem := by simp
 obj := fun i h st b hb => by
   have e : b = it := by simpa using hb
   subst e
   exact ⟨_, st, fun v z => by
     have z' : Data.fields _ = Data.cell v := z
     cases z'⟩
 keep := fun i h h' st k => k it (by simp) _ st
 item := by
   intro X hP hw hK hc i pins s σ H E I hf st hg
   subst hP hw hK
   obtain ⟨f0, f1, f2, f3, f4, f5⟩ := hf it (by simp)
   have W := Walks.range (prog := X.prog) (w := X.w) (I.ok.hd hc) it lo 1 n
   refine W.item i s _ _ hg st fun v h' tk hv st' kk => ?_
   obtain ⟨t, rfl⟩ := hv
   have I1 : Inv X pins σ H { s with heap := h', toks := tk } := I.turned (fun b o hb e => kk b o (by simpa using hb) e) f0 f1 f3 f4 f5
   refine ⟨_, rfl, J0h (s := { s with heap := h', toks := tk }) (n := "range_iterator") st' rfl rfl (by decide) ⟨.int (lo + i), H, I1, ⟨t, ?_⟩, ⟨rfl, rfl⟩, st', fun b hb => (hf b hb).1⟩⟩
   rw [Int.mul_one]
 done := by
   intro X hP hw hK hc i pins s σ H E I hf st hg
   subst hP hw hK
   obtain ⟨f0, f1, f2, f3, f4, f5⟩ := hf it (by simp)
   exact wpAny_pyNext_range_end (I.ok.hd hc) st (by have : n <= i := hg; omega) fun h' eb => ⟨rfl, I.turned (t' := s.toks) (fun b o hb e => eb b o hb e) f0 f1 f3 f4 f5⟩
 self := fun _ _ _ _ _ st h => wpAny_pyIter_rangeiter st h
section
variable {X : Cx} {tg : Expr}
def G9n (K : PySem.W.Frag) (tl : TE) : TI := fun σ H R => tl σ H fun x H1 => ∃ a, x = .ref a /\ (∃ xs, SqL K H1 a xs) /\ R (Itl K a) H1
def Y3v (K : PySem.W.Frag) (tl : TE) : TI := fun σ H R => tl σ H fun x H1 => ∃ a, x = .ref a /\ (∃ xs, SqT K H1 a xs) /\ R (Itt K a) H1
theorem B7y {l : Expr} {tl : TE} (hl : PE X l tl) : PI X tg l (G9n X.K tl) := by
 intro pins s σ H R I h
 refine thn (hl pins s σ H _ I h) fun v s1 ⟨x, H1, I1, r1, q1⟩ => ?_
 obtain ⟨a, e, ⟨xs, hq⟩, q⟩ := q1
 subst e
 cases r1
 obtain ⟨its, rv, p, hz⟩ := I1.list hq
 refine wpAny_pyIter_list p.isList ?_
 refine ⟨s1.heap.objs.size, [s1.heap.objs.size], _, _, H1, rfl, I1.kept (t' := s1.toks) fun b o e => Heap.get?_push_of_some _ e, J1z a _, ⟨_, Heap.get?_push_size _ rfl, rfl, rfl⟩, fun b hb => ?_, q⟩
 have e : b = s1.heap.objs.size := by simpa using hb
 subst e
 exact I1.fpOk (Nat.le_refl _) (I1.hok.fresh (Nat.le_refl _))
theorem J6w {pins : List (Addr × Obj)} {σ : St} {H : Hp} {s : Shared} {R : It -> Hp -> Prop} {E : Value -> Shared -> Prop} {lo hi : Int} {t u v : Tok} {tk : Nat} (I : Inv X pins σ H s) (h1 : -(2 ^ 62) <= lo) (h2 : lo < 2 ^ 62) (h3 : -(2 ^ 62) <= hi) (h4 : hi < 2 ^ 62)
   (q : R (Itr lo (hi - lo).toNat) H) : wpAny (model X.prog X.w) X.A (pyIter (.ref s.heap.objs.size)) (PIE X pins σ tg R) E { s with heap := s.heap.push { cls := .type "range", data := .fields #[.int lo t, .int hi u, .int 1 v] }, toks := tk } := by
 refine wpAny_pyIter_range (IsRange.new ..) (small_one h1 h2 h3 h4) ?_
 have I1 : Inv X pins σ H { s with heap := s.heap.push { cls := .type "range", data := .fields #[.int lo t, .int hi u, .int 1 v] }, toks := tk } := I.kept fun b o e => Heap.get?_push_of_some _ e
 refine ⟨(s.heap.push { cls := .type "range", data := .fields #[.int lo t, .int hi u, .int 1 v] }).objs.size, [(s.heap.push { cls := .type "range", data := .fields #[.int lo t, .int hi u, .int 1 v] }).objs.size], _, _, H, rfl,
   I1.kept (t' := tk) fun b o e => Heap.get?_push_of_some _ e, D8g _ lo (hi - lo).toNat, ?_, fun b hb => ?_, q⟩
 . have e1 : lo + ((0 : Nat) : Int) * 1 = lo := by simp
   have e2 : (((hi - lo).toNat : Nat) : Int) - ((0 : Nat) : Int) = Builtin.Range.rangeSize lo hi 1 := by rw [rangeSize_one]; split <;> omega
   show IsRangeIter _ _ (lo + ((0 : Nat) : Int) * 1) ((((hi - lo).toNat : Nat) : Int) - ((0 : Nat) : Int)) 1
   rw [e1, e2]
   exact Heap.get?_push_size _ rfl
 . have e : b = (s.heap.push { cls := .type "range", data := .fields #[.int lo t, .int hi u, .int 1 v] }).objs.size := by simpa using hb
   subst e
   exact I1.fpOk (Nat.le_refl _) (I1.hok.fresh (Nat.le_refl _))
def Y4r (ta : TA) : TI := fun σ H R => ta σ H fun vs H1 => ∃ j : Int, vs = [.int j] /\ -(2 ^ 62) <= j /\ j < 2 ^ 62 /\ R (Itr 0 j.toNat) H1
theorem B3f {a : Expr} {ta : TA} {p pos : Pos} (hg : Gl X "range") (hm : X.mg "range" = none) (ha : PA X [a] ta) (hs : starEach [a] X.env = [(false, eval a X.env)] := by rfl) : PI X tg (.Call (.Name "range" p) [a] [] pos) (Y4r ta) := by
 intro pins s σ H R I h
 refine Call_ (C7y I hg hm boot_range (PyProof.Rows.callWith_type1 (thn (ha pos pins s σ H _ I h) fun us s1 ⟨vs, H1, I1, r1, q1⟩ => ?_) hs rfl))
 obtain ⟨j, e, q1, q2, q⟩ := q1
 subst e
 cases r1 with
 | cons r rr =>
   cases rr
   obtain ⟨t, rfl⟩ := r
   exact call_range_1 (J6w I1 (by omega) (by omega) q1 q2 (by simpa using q))
def Y8e (wi : TI) (g : TG) (tb : TS) : TS := fun D σ H => wi σ H fun J H1 => ∃ W : Nat -> Nat -> St -> Hp -> Prop, (∃ m, W 0 m σ H1) /\ ∀ i m σ H, W i m σ H ->
 (J.stop i H /\ D.nx σ H) \/ (J.go i H /\ ∃ N : St -> Hp -> Prop, (∀ σ' H', N σ' H' -> ∃ m', m' < m /\ W (i + 1) m' σ' H') /\ ∀ x H', J.yld i H x H' -> g x σ H' fun σ2 H2 => tb { D with nx := N, ct := N, bk := D.nx } σ2 H2)
def A3b (fp : List Addr) (h : Heap) : List (Addr × Obj) := fp.filterMap fun b => (h.get? b).map fun o => (b, o)
theorem A4t {fp : List Addr} {h : Heap} {b : Addr} {o : Obj} (hb : b ∈ fp) (e : h.get? b = some o) : (b, o) ∈ A3b fp h := List.mem_filterMap.mpr ⟨b, hb, by rw [e]; rfl⟩
theorem J1r {fp : List Addr} {h : Heap} {p : Addr × Obj} (hp : p ∈ A3b fp h) : p.1 ∈ fp /\ h.get? p.1 = some p.2 := by
 obtain ⟨b, hb, e⟩ := List.mem_filterMap.mp hp
 cases q : h.get? b with
 | none => rw [q] at e; cases e
 | some o =>
   rw [q] at e
   have e' : (b, o) = p := Option.some.inj e
   subst e'
   exact ⟨hb, q⟩
theorem Inv.pinned {pins : List (Addr × Obj)} {σ : St} {H : Hp} {s : Shared} {fp : List Addr} (I : Inv X pins σ H s) (hf : ∀ b ∈ fp, A2g X pins H b) (ho : ∀ b ∈ fp, ∃ o, s.heap.get? b = some o /\ ∀ v, o.data ≠ .cell v) : Inv X (pins ++ A3b fp s.heap) σ H s :=
 I.pins_of fun p hp => (List.mem_append.mp hp).elim (fun z => I.pin p (List.mem_append_right _ z)) fun z => by
   obtain ⟨hb, e⟩ := J1r z
   obtain ⟨f0, f1, f2, _⟩ := hf p.1 hb
   obtain ⟨o, e', d⟩ := ho p.1 hb
   rw [e] at e'; cases e'
   exact ⟨e, f0, f1, f2, d⟩
theorem Inv.unpinned {pins pl : List (Addr × Obj)} {σ : St} {H : Hp} {s : Shared} (I : Inv X (pins ++ pl) σ H s) : Inv X pins σ H s := I.pins_of fun p hp => I.pin p (List.mem_append_right _ (List.mem_append_left _ hp))
theorem B8e {iter : Expr} {body : List Stmt} {wi : TI} {g : TG} {tb : TS} {pos : Pos} (hp : PassesOwn (model X.prog X.w) X.A X.env X.xe) (hc : X.calm = true) (hi : PI X tg iter wi) (hg : PG X tg g) (hb : PSs X body tb)
   (hs : ∀ x, foldedSetIterable iter X.env x = pure x := by intro _; rfl) : PS X (.For tg iter body [] pos) (Y8e wi g tb) := by
 intro pins s σ H D I h
 refine wpAny_For (thn (hi pins s σ H _ I h) fun v s1 h1 => thn h1 fun itv s2 h2 => ?_) hs
 obtain ⟨it, fp, tn, J, H2, e, I2, T, st2, f2, W, ⟨m0, w0⟩, turn⟩ := h2
 subst e
 have stat : ∀ {H' : Hp}, (∀ b ∈ fp, H' b = none) -> ∀ b ∈ fp, A2g X pins H' b := fun hn b hb => ⟨hn b hb, (f2 b hb).2⟩
 refine codeAny_forLoop_any (fun n s' => ∃ i σ' H', Inv X pins σ' H' s' /\ tn i s'.heap /\ (∀ b ∈ fp, H' b = none) /\ W i n σ' H') ?_ m0 ⟨0, σ, H2, I2, st2, fun b hb => (f2 b hb).1, w0⟩
 rintro n s3 ⟨i, σ3, H3, I3, st3, fr3, w3⟩
 rcases turn i n σ3 H3 w3 with ⟨stop, qn⟩ | ⟨go, N, hN, step⟩
 . refine wpAny_passesOwn hp (thn (T.done X rfl rfl rfl hc i pins s3 σ3 H3 X.xe I3 (stat fr3) st3 stop) fun r s4 ⟨hr, I4⟩ => ?_)
   subst hr
   exact wpAny_execs_nil ⟨σ3, H3, I4, qn⟩
 . refine wpAny_passesOwn hp (thn (T.item X rfl rfl rfl hc i pins s3 σ3 H3 X.xe I3 (stat fr3) st3 go) fun r s4 ⟨u, hr, h4⟩ => ?_)
   subst hr
   refine wpAny_passesOwn hp (thn h4 fun _ s5 ⟨x, H5, I5, r5, y5, st5, fr5⟩ => ?_)
   have I5' := I5.pinned (stat fr5) (T.obj _ _ st5)
   refine wpAny_passesOwn hp (thn (hg _ s5 σ3 H5 x u _ I5' r5 (step x H5 y5)) fun _ s6 ⟨σ6, H6, I6, q6⟩ => ?_)
   refine wpAny_passesOwn hp (thn (hb _ s6 σ6 H6 _ I6 q6) fun f s7 q7 => ?_)
   have again : ∀ {σ7 : St} {H7 : Hp}, Inv X (pins ++ A3b fp s5.heap) σ7 H7 s7 -> N σ7 H7 -> ∃ m, m < n /\ ∃ i σ' H', Inv X pins σ' H' s7 /\ tn i s7.heap /\ (∀ b ∈ fp, H' b = none) /\ W i m σ' H' := fun {σ7 H7} I7 n7 => by
     obtain ⟨m', hm, w7⟩ := hN σ7 H7 n7
     refine ⟨m', hm, i + 1, σ7, H7, I7.unpinned, T.keep _ _ _ st5 fun b hb o e => (I7.pin (b, o) (List.mem_append_right _ (List.mem_append_right _ (A4t hb e)))).1, fun b hb => ?_, w7⟩
     obtain ⟨o, e, d⟩ := T.obj _ _ st5 b hb
     exact (I7.pin (b, o) (List.mem_append_right _ (List.mem_append_right _ (A4t hb e)))).2.1
   cases f with
   | next => obtain ⟨σ7, H7, I7, n7⟩ := q7; exact again I7 n7
   | cont => obtain ⟨σ7, H7, I7, n7⟩ := q7; exact again I7 n7
   | brk => obtain ⟨σ7, H7, I7, q7⟩ := q7; exact ⟨σ7, H7, I7.unpinned, q7⟩
   | ret v => obtain ⟨x7, σ7, H7, I7, r7, q7⟩ := q7; exact ⟨x7, σ7, H7, I7.unpinned, r7, q7⟩
end
theorem A3r {K : PySem.W.Frag} {a : Addr} {xs : List V} {g : TG} {tb : TS} {D : Ends} {σ : St} {H : Hp} (Pv : Nat -> St -> Hp -> Prop) (h0 : Pv 0 σ H) (hl : ∀ i σ H, i <= xs.length -> Pv i σ H -> SqL K H a xs)
   (hs : ∀ i x σ H, xs[i]? = some x -> Pv i σ H -> g x σ H fun σ2 H2 => tb { D with nx := Pv (i + 1), ct := Pv (i + 1), bk := D.nx } σ2 H2) (hd : ∀ σ H, Pv xs.length σ H -> D.nx σ H) :
   ∃ W : Nat -> Nat -> St -> Hp -> Prop, (∃ m, W 0 m σ H) /\ ∀ i m σ H, W i m σ H ->
     ((Itl K a).stop i H /\ D.nx σ H) \/ ((Itl K a).go i H /\ ∃ N : St -> Hp -> Prop, (∀ σ' H', N σ' H' -> ∃ m', m' < m /\ W (i + 1) m' σ' H') /\ ∀ x H', (Itl K a).yld i H x H' -> g x σ H' fun σ2 H2 => tb { D with nx := N, ct := N, bk := D.nx } σ2 H2) := by
 refine ⟨fun i m σ H => m = xs.length - i /\ i <= xs.length /\ Pv i σ H, ⟨xs.length, by simp, Nat.zero_le _, h0⟩, ?_⟩
 rintro i m σ H ⟨rfl, hi, p⟩
 have q := hl i σ H hi p
 by_cases hlt : i < xs.length
 . refine .inr ⟨⟨xs, xs[i], q, by simp [hlt]⟩, Pv (i + 1), fun σ' H' p' => ⟨xs.length - (i + 1), by omega, rfl, hlt, p'⟩, fun x H' y => ?_⟩
   obtain ⟨e, y⟩ := y
   subst e
   exact hs i x σ _ (y xs q) p
 . have e : i = xs.length := by omega
   subst e
   exact .inl ⟨⟨xs, q, Nat.le_refl _⟩, hd σ H p⟩
theorem C6n {lo : Int} {n : Nat} {g : TG} {tb : TS} {D : Ends} {σ : St} {H : Hp} (Pv : Nat -> St -> Hp -> Prop) (h0 : Pv 0 σ H)
   (hs : ∀ i σ H, i < n -> Pv i σ H -> g (.int (lo + i)) σ H fun σ2 H2 => tb { D with nx := Pv (i + 1), ct := Pv (i + 1), bk := D.nx } σ2 H2) (hd : ∀ σ H, Pv n σ H -> D.nx σ H) :
   ∃ W : Nat -> Nat -> St -> Hp -> Prop, (∃ m, W 0 m σ H) /\ ∀ i m σ H, W i m σ H ->
     ((Itr lo n).stop i H /\ D.nx σ H) \/ ((Itr lo n).go i H /\ ∃ N : St -> Hp -> Prop, (∀ σ' H', N σ' H' -> ∃ m', m' < m /\ W (i + 1) m' σ' H') /\ ∀ x H', (Itr lo n).yld i H x H' -> g x σ H' fun σ2 H2 => tb { D with nx := N, ct := N, bk := D.nx } σ2 H2) := by
 refine ⟨fun i m σ H => m = n - i /\ i <= n /\ Pv i σ H, ⟨n, by simp, Nat.zero_le _, h0⟩, ?_⟩
 rintro i m σ H ⟨rfl, hi, p⟩
 by_cases hlt : i < n
 . refine .inr ⟨hlt, Pv (i + 1), fun σ' H' p' => ⟨n - (i + 1), by omega, rfl, hlt, p'⟩, fun x H' y => ?_⟩
   obtain ⟨e, y⟩ := y
   subst e y
   exact hs i σ _ hlt p
 . have e : i = n := by omega
   subst e
   exact .inl ⟨Nat.le_refl _, hd σ H p⟩
theorem J7b {c : TT} {tb : TS} {D : Ends} {σ : St} {H : Hp} (Pv : St -> Hp -> Prop) (μ : St -> Hp -> Nat) (h0 : Pv σ H)
   (hs : ∀ σ H, Pv σ H -> c σ H fun b H1 => if b = true then tb { D with nx := fun σ' H' => Pv σ' H' /\ μ σ' H' < μ σ H, ct := fun σ' H' => Pv σ' H' /\ μ σ' H' < μ σ H, bk := D.nx } σ H1 else D.nx σ H1)
   (mono : ∀ σ H Q Q', (∀ b H1, Q b H1 -> Q' b H1) -> c σ H Q -> c σ H Q') : J6c c tb D σ H := by
 refine ⟨fun m σ H => m = μ σ H /\ Pv σ H, ⟨_, rfl, h0⟩, ?_⟩
 rintro m σ H ⟨rfl, p⟩
 refine mono σ H _ _ (fun b H1 q => ?_) (hs σ H p)
 cases b with
 | true => exact ⟨_, fun σ' H' ⟨p', l⟩ => ⟨_, l, rfl, p'⟩, q⟩
 | false => exact q
abbrev R2 := V -> V -> Hp -> VK -> Prop
def OpR (X : Cx) (f : Value -> Value -> Sem Value) (r : R2) : Prop :=
 ∀ (pins : List (Addr × Obj)) (s : Shared) (σ : St) (H : Hp) (x y : V) (v u : Value) (Q : VK), Inv X pins σ H s -> RelV x v -> RelV y u -> r x y H Q ->
   wpAny (model X.prog X.w) X.A (f v u) (EP X pins σ Q) X.xe s
def UnR (X : Cx) (f : Value -> Sem Value) (r : V -> Hp -> VK -> Prop) : Prop :=
 ∀ (pins : List (Addr × Obj)) (s : Shared) (σ : St) (H : Hp) (x : V) (v : Value) (Q : VK), Inv X pins σ H s -> RelV x v -> r x H Q ->
   wpAny (model X.prog X.w) X.A (f v) (EP X pins σ Q) X.xe s
def A2u (X : Cx) (f : Value) (r : List V -> Hp -> VK -> Prop) : Prop :=
 ∀ (pins : List (Addr × Obj)) (s : Shared) (σ : St) (H : Hp) (xs : List V) (us : List Value) (Q : VK), Inv X pins σ H s -> Vals xs us -> r xs H Q ->
   wpAny (model X.prog X.w) X.A (call f us) (EP X pins σ Q) X.xe s
def tOp (r : R2) (ta tb : TE) : TE := fun σ H Q => ta σ H fun x H1 => tb σ H1 fun y H2 => r x y H2 Q
def tUn (r : V -> Hp -> VK -> Prop) (ta : TE) : TE := fun σ H Q => ta σ H fun x H1 => r x H1 Q
def rI (C : Int -> Int -> Prop) (g : Int -> Int -> V) : R2 := fun x y H Q => ∃ i j, x = .int i /\ y = .int j /\ C i j /\ Q (g i j) H
def rI0 (g : Int -> Int -> V) : R2 := fun x y H Q => ∃ i j, x = .int i /\ y = .int j /\ Q (g i j) H
def rU (g : Int -> V) : V -> Hp -> VK -> Prop := fun x H Q => ∃ i, x = .int i /\ Q (g i) H
section
variable {X : Cx} {a b c : Expr} {ta tb tc : TE} {pos : Pos}
theorem V7x (ha : PE X a ta) (hb : PE X b tb) {pins : List (Addr × Obj)} {s : Shared} {σ : St} {H : Hp} {R : V -> V -> Hp -> Prop} (I : Inv X pins σ H s)
   (h : ta σ H fun x H1 => tb σ H1 fun y H2 => R x y H2) {Q : Value -> Shared -> Prop} {f : Value -> Value -> Sem Value}
   (hf : ∀ v u s2 x y H2, Inv X pins σ H2 s2 -> RelV x v -> RelV y u -> R x y H2 -> wpAny (model X.prog X.w) X.A (f v u) Q X.xe s2) :
   wpAny (model X.prog X.w) X.A (eval a X.env) (fun v s₁ => wpAny (model X.prog X.w) X.A (eval b X.env) (fun u s₂ => wpAny (model X.prog X.w) X.A (f v u) Q X.xe s₂) X.xe s₁) X.xe s := by
 refine thn (ha pins s σ H _ I h) fun v s1 ⟨x, H1, I1, r1, q1⟩ => ?_
 refine thn (hb pins s1 σ H1 _ I1 q1) fun u s2 ⟨y, H2, I2, r2, q2⟩ => ?_
 exact hf v u s2 x y H2 I2 r1 r2 q2
theorem B3 {op : Operator} {r : R2} (ho : OpR X (binaryOp op) r) (ha : PE X a ta) (hb : PE X b tb) : PE X (.BinOp a op b pos) (tOp r ta tb) := by
 intro pins s σ H Q I h
 exact wpAny_BinOp (V7x ha hb I h fun v u s2 x y H2 I2 rx ry q => ho pins s2 σ H2 x y v u Q I2 rx ry q)
theorem B9b {op : UnaryOp} {r : V -> Hp -> VK -> Prop} (ho : UnR X (unaryOp op) r) (ha : PE X a ta) : PE X (.UnaryOp op a pos) (tUn r ta) := by
 intro pins s σ H Q I h
 exact UnaryOp_ (thn (ha pins s σ H _ I h) fun v s1 ⟨x, H1, I1, r1, q1⟩ => ho pins s1 σ H1 x v Q I1 r1 q1)
theorem opI {f : Value -> Value -> Sem Value} {C : Int -> Int -> Prop} {g : Int -> Int -> Int}
   (rule : ∀ (i j : Int) (t u : Tok) (s : Shared) (Q : Value -> Shared -> Prop) (E : Value -> Shared -> Prop), C i j -> Q (.int (g i j) s.toks) { s with toks := s.toks + 1 } -> wpAny (model X.prog X.w) X.A (f (.int i t) (.int j u)) Q E s) :
   OpR X f (rI C fun i j => .int (g i j)) := by
 intro pins s σ H x y v u Q I rx ry h
 obtain ⟨i, j, rfl, rfl, hc, q⟩ := h
 obtain ⟨t, rfl⟩ := rx
 obtain ⟨t', rfl⟩ := ry
 exact rule i j t t' s _ _ hc ⟨.int (g i j), H, I.tok _, ⟨_, rfl⟩, q⟩
theorem Y4j {f : Value -> Value -> Sem Value} {g : Int -> Int -> Int}
   (rule : ∀ (i j : Int) (t u : Tok) (s : Shared) (Q : Value -> Shared -> Prop) (E : Value -> Shared -> Prop), Q (.int (g i j) s.toks) { s with toks := s.toks + 1 } -> wpAny (model X.prog X.w) X.A (f (.int i t) (.int j u)) Q E s) :
   OpR X f (rI0 fun i j => .int (g i j)) := by
 intro pins s σ H x y v u Q I rx ry h
 obtain ⟨i, j, rfl, rfl, q⟩ := h
 obtain ⟨t, rfl⟩ := rx
 obtain ⟨t', rfl⟩ := ry
 exact rule i j t t' s _ _ ⟨.int (g i j), H, I.tok _, ⟨_, rfl⟩, q⟩
theorem V2a {f : Value -> Value -> Sem Value} {g : Int -> Int -> Bool}
   (rule : ∀ (i j : Int) (t u : Tok) (s : Shared) (Q : Value -> Shared -> Prop) (E : Value -> Shared -> Prop), Q (.bool (g i j)) s -> wpAny (model X.prog X.w) X.A (f (.int i t) (.int j u)) Q E s) :
   OpR X f (rI0 fun i j => .bl (g i j)) := by
 intro pins s σ H x y v u Q I rx ry h
 obtain ⟨i, j, rfl, rfl, q⟩ := h
 obtain ⟨t, rfl⟩ := rx
 obtain ⟨t', rfl⟩ := ry
 exact rule i j t t' s _ _ ⟨.bl (g i j), H, I, rfl, q⟩
def V8g (i j : Int) : Prop := 0 <= j /\ j <= 1000000 /\ i.natAbs < 2 ^ 64
def CMul (i j : Int) : Prop := (-(2 ^ 64) < i /\ i < 2 ^ 64) \/ (-(2 ^ 64) < j /\ j < 2 ^ 64)
theorem CMul.ok {i j : Int} (h : CMul i j) : IntMulOk i j := by
 rcases h with ⟨h1, h2⟩ | ⟨h1, h2⟩
 . exact .of_left (intBits_le_64 h1 h2)
 . exact .of_right (intBits_le_64 h1 h2)
theorem V2 : OpR X (binaryOp .Add) (rI0 fun i j => .int (i + j)) := Y4j fun _ _ _ _ _ _ _ q => add_int q
theorem V4 : OpR X (binaryOp .Sub) (rI0 fun i j => .int (i - j)) := Y4j fun _ _ _ _ _ _ _ q => sub_int q
theorem D3 : OpR X (binaryOp .Mod) (rI (fun _ j => 0 < j) fun i j => .int (i % j)) := opI fun i j _ _ _ _ _ hc q => by
 have h1 : (0 : Int) < j := hc
 exact mod_int' (by omega) (by rw [Int.fmod_eq_emod_of_nonneg i (by omega)]; exact q)
theorem V8f : OpR X (binaryOp .Pow) (rI V8g fun i j => .int (i ^ j.toNat)) := opI fun _ _ _ _ _ _ _ hc q => pow_int_small hc.1 hc.2.1 hc.2.2 q
theorem J5g : OpR X (binaryOp .LShift) (rI V8g fun i j => .int (i * 2 ^ j.toNat)) := opI fun _ _ _ _ _ _ _ hc q => lshift_int_small hc.1 hc.2.1 hc.2.2 q
theorem unI {f : Value -> Sem Value} {g : Int -> Int}
   (rule : ∀ (i : Int) (t : Tok) (s : Shared) (Q : Value -> Shared -> Prop) (E : Value -> Shared -> Prop), Q (.int (g i) s.toks) { s with toks := s.toks + 1 } -> wpAny (model X.prog X.w) X.A (f (.int i t)) Q E s) :
   UnR X f (rU fun i => .int (g i)) := by
 intro pins s σ H x v Q I rx h
 obtain ⟨i, rfl, q⟩ := h
 obtain ⟨t, rfl⟩ := rx
 exact rule i t s _ _ ⟨.int (g i), H, I.tok _, ⟨_, rfl⟩, q⟩
theorem B0r : UnR X (unaryOp .USub) (rU fun i => .int (-i)) := unI fun _ _ _ _ _ q => neg_int q
end
def Y5m : V -> V -> Bool
 | .non, .non => true | .non, .int _ => true | .int _, .non => true | .non, .bl _ => true | .bl _, .non => true | .non, .str _ => true | .str _, .non => true
 | .int _, .int _ => true | .bl _, .bl _ => true | .str _, .str _ => true | .byt _, .byt _ => true
 | .int _, .str _ => true | .str _, .int _ => true | .bl _, .str _ => true | .str _, .bl _ => true
 | _, _ => false
def rEq : R2 := fun x y H Q => Y5m x y = true /\ Q (.bl (decide (x = y))) H
def rNe : R2 := fun x y H Q => Y5m x y = true /\ Q (.bl (!decide (x = y))) H
theorem G9z {i j : Int} : decide (V.int i = V.int j) = (i == j) := by
 rw [Bool.eq_iff_iff]
 simp
theorem J7v {i j : Bool} : decide (V.bl i = V.bl j) = (i == j) := by
 rw [Bool.eq_iff_iff]
 simp
theorem B8a {i j : Str} : decide (V.str i = V.str j) = (i == j) := by
 rw [Bool.eq_iff_iff]
 simp
theorem G9q {i j : Array UInt8} : decide (V.byt i = V.byt j) = (i.toList == j.toList) := by
 rw [Bool.eq_iff_iff]
 cases i
 cases j
 simp
section
variable {X : Cx} {a b c : Expr} {ta tb tc : TE} {pos : Pos}
theorem G9 {pins : List (Addr × Obj)} {σ : St} {H : Hp} {s : Shared} {Q : VK} {k k' : Bool} (I : Inv X pins σ H s) (q : Q (.bl k) H) (e : k = k') : EP X pins σ Q (.bool k') s := by
 subst e
 exact ⟨.bl k, H, I, rfl, q⟩
theorem D6 : OpR X (compareOp .Eq) rEq := by
 intro pins s σ H x y v u Q I rx ry h
 obtain ⟨hs, q⟩ := h
 cases x with
 | non =>
   cases rx
   cases y with
   | non => cases ry; exact PySem.EqNone.eq_none_none (G9 I q (by simp))
   | bl j => cases ry; exact PySem.EqNone.eq_none_bool (G9 I q (by simp))
   | int j => obtain ⟨t', rfl⟩ := ry; exact PySem.EqNone.eq_none_int (G9 I q (by simp))
   | str j => obtain ⟨t', rfl⟩ := ry; exact PySem.EqNone.eq_none_str (G9 I q (by simp))
   | _ => exact absurd (show false = true from hs) Bool.false_ne_true
 | bl i =>
   cases rx
   cases y with
   | non => cases ry; exact PySem.EqNone.eq_bool_none (G9 I q (by simp))
   | bl j => cases ry; exact eq_bool (G9 I q J7v)
   | str j => obtain ⟨t', rfl⟩ := ry; exact PySem.EqMixed.eq_bool_str (G9 I q (by simp))
   | _ => exact absurd (show false = true from hs) Bool.false_ne_true
 | int i =>
   obtain ⟨t, rfl⟩ := rx
   cases y with
   | non => cases ry; exact PySem.EqNone.eq_int_none (G9 I q (by simp))
   | int j => obtain ⟨t', rfl⟩ := ry; exact eq_int (G9 I q G9z)
   | str j => obtain ⟨t', rfl⟩ := ry; exact PySem.EqMixed.eq_int_str (G9 I q (by simp))
   | _ => exact absurd (show false = true from hs) Bool.false_ne_true
 | str i =>
   obtain ⟨t, rfl⟩ := rx
   cases y with
   | non => cases ry; exact PySem.EqNone.eq_str_none (G9 I q (by simp))
   | bl j => cases ry; exact PySem.EqMixed.eq_str_bool (G9 I q (by simp))
   | int j => obtain ⟨t', rfl⟩ := ry; exact PySem.EqMixed.eq_str_int (G9 I q (by simp))
   | str j => obtain ⟨t', rfl⟩ := ry; exact eq_str (G9 I q B8a)
   | _ => exact absurd (show false = true from hs) Bool.false_ne_true
 | byt i =>
   obtain ⟨t, rfl⟩ := rx
   cases y with
   | byt j => obtain ⟨t', rfl⟩ := ry; exact PySem.W.eq_bytes (G9 I q G9q)
   | _ => exact absurd (show false = true from hs) Bool.false_ne_true
 | _ => cases y <;> exact absurd (show false = true from hs) Bool.false_ne_true
theorem D3u : OpR X (compareOp .NotEq) rNe := by
 intro pins s σ H x y v u Q I rx ry h
 obtain ⟨hs, q⟩ := h
 cases x with
 | non =>
   cases rx
   cases y with
   | non => cases ry; exact PySem.EqNone.ne_none_none (G9 I q (by simp))
   | bl j => cases ry; exact PySem.EqNone.ne_none_bool (G9 I q (by simp))
   | int j => obtain ⟨t', rfl⟩ := ry; exact PySem.EqNone.ne_none_int (G9 I q (by simp))
   | str j => obtain ⟨t', rfl⟩ := ry; exact PySem.EqNone.ne_none_str (G9 I q (by simp))
   | _ => exact absurd (show false = true from hs) Bool.false_ne_true
 | bl i =>
   cases rx
   cases y with
   | non => cases ry; exact PySem.EqNone.ne_bool_none (G9 I q (by simp))
   | bl j => cases ry; exact ne_bool (G9 I q (congrArg not J7v))
   | str j => obtain ⟨t', rfl⟩ := ry; exact PySem.EqMixed.ne_bool_str (G9 I q (by simp))
   | _ => exact absurd (show false = true from hs) Bool.false_ne_true
 | int i =>
   obtain ⟨t, rfl⟩ := rx
   cases y with
   | non => cases ry; exact PySem.EqNone.ne_int_none (G9 I q (by simp))
   | int j => obtain ⟨t', rfl⟩ := ry; exact ne_int (G9 I q (congrArg not G9z))
   | str j => obtain ⟨t', rfl⟩ := ry; exact PySem.EqMixed.ne_int_str (G9 I q (by simp))
   | _ => exact absurd (show false = true from hs) Bool.false_ne_true
 | str i =>
   obtain ⟨t, rfl⟩ := rx
   cases y with
   | non => cases ry; exact PySem.EqNone.ne_str_none (G9 I q (by simp))
   | bl j => cases ry; exact PySem.EqMixed.ne_str_bool (G9 I q (by simp))
   | int j => obtain ⟨t', rfl⟩ := ry; exact PySem.EqMixed.ne_str_int (G9 I q (by simp))
   | str j => obtain ⟨t', rfl⟩ := ry; exact ne_str (G9 I q (congrArg not B8a))
   | _ => exact absurd (show false = true from hs) Bool.false_ne_true
 | byt i =>
   obtain ⟨t, rfl⟩ := rx
   cases y with
   | byt j => obtain ⟨t', rfl⟩ := ry; exact PySem.W.ne_bytes (G9 I q (congrArg not G9q))
   | _ => exact absurd (show false = true from hs) Bool.false_ne_true
 | _ => cases y <;> exact absurd (show false = true from hs) Bool.false_ne_true
theorem D4u : OpR X (compareOp .Lt) (rI0 fun i j => .bl (decide (i < j))) := V2a fun _ _ _ _ _ _ _ q => lt_int q
theorem Y5c : OpR X (compareOp .LtE) (rI0 fun i j => .bl (decide (i <= j))) := V2a fun _ _ _ _ _ _ _ q => le_int q
theorem A3k : OpR X (compareOp .Gt) (rI0 fun i j => .bl (decide (j < i))) := V2a fun _ _ _ _ _ _ _ q => gt_int q
theorem G9p : OpR X (compareOp .GtE) (rI0 fun i j => .bl (decide (j <= i))) := V2a fun _ _ _ _ _ _ _ q => ge_int q
theorem V9f : OpR X (compareOp .Is) (fun x y H Q => y = .non /\ Q (.bl (decide (x = .non))) H) := by
 intro pins s σ H x y v u Q I rx ry h
 obtain ⟨rfl, q⟩ := h
 cases ry
 refine is_none_gen (G9 I q ?_)
 cases x <;> first
   | (cases rx; rfl)
   | (obtain ⟨t, rfl⟩ := rx; rfl)
theorem B9 (b : Expr) {op : CmpOp} (h : op ≠ .In := by decide) (h2 : op ≠ .NotIn := by decide) : behindInMarks op b = false := by
 have e1 : (op == CmpOp.In) = false := by cases op <;> first | rfl | exact absurd rfl h
 have e2 : (op == CmpOp.NotIn) = false := by cases op <;> first | rfl | exact absurd rfl h2
 cases b <;> simp [behindInMarks, e1, e2]
theorem G0 {op : CmpOp} {r : R2} (ho : OpR X (compareOp op) r) (ha : PE X a ta) (hb : PE X b tb) (hm : behindInMarks op b = false) : PE X (.Compare a [op] [b] pos) (tOp r ta tb) := by
 intro pins s σ H Q I h
 exact wpAny_Compare1 (V7x ha hb I h fun v u s2 x y H2 I2 rx ry q => ho pins s2 σ H2 x y v u Q I2 rx ry q) hm
def Y4p (t : TE) : TT := fun σ H Q => t σ H fun x H' => ∃ k, x = .bl k /\ Q k H'
theorem C4 {op : CmpOp} {r : R2} (ho : OpR X (compareOp op) r) (ha : PE X a ta) (hb : PE X b tb) (hm : behindInMarks op b = false) : PT X (.Compare a [op] [b] pos) (Y4p (tOp r ta tb)) := by
 intro pins s σ H Q I h
 refine wpAny_isTrue_Compare1 (thn (ha pins s σ H _ I h) fun v s1 ⟨x, H1, I1, r1, q1⟩ => thn (hb pins s1 σ H1 _ I1 q1) fun u s2 ⟨y, H2, I2, r2, q2⟩ =>
   thn (ho pins s2 σ H2 x y v u _ I2 r1 r2 q2) fun c s3 ⟨z, H3, I3, r3, k, e, q3⟩ => ?_) hm
 subst e
 cases r3
 exact wpAny_truthy_bool ⟨H3, I3, q3⟩
theorem C8e : (sizeLine : Nat) < 2 ^ 63 := by rw [sizeLine_eq]; decide
theorem D8q : OpR X (binaryOp .Add) (fun x y H Q => ∃ i j, x = .str i /\ y = .str j /\ i.length + j.length <= sizeLine /\ Q (.str (i ++ j)) H) := by
 intro pins s σ H x y v u Q I rx ry h
 obtain ⟨i, j, rfl, rfl, hz, q⟩ := h
 obtain ⟨t, rfl⟩ := rx
 obtain ⟨t', rfl⟩ := ry
 exact add_str (fun t' tk => ⟨.str (i ++ j), H, I.tok _, ⟨_, rfl⟩, q⟩) hz
theorem B8x {x : V} {us : List Value} (r : Vals [x] us) : ∃ u, us = [u] /\ RelV x u := by
 cases r with
 | cons r1 r2 => cases r2; exact ⟨_, rfl, r1⟩
theorem J6b {x y : V} {us : List Value} (r : Vals [x, y] us) : ∃ u w', us = [u, w'] /\ RelV x u /\ RelV y w' := by
 cases r with
 | cons r1 r2 =>
   cases r2 with
   | cons r3 r4 => cases r4; exact ⟨_, _, rfl, r1, r3⟩
theorem A3p (hc : X.calm = true) : A2u X (.builtin "max") (fun xs H Q => ∃ i j, xs = [.int i, .int j] /\ Q (.int (if j > i then j else i)) H) := by
 intro pins s σ H xs us Q I r h
 obtain ⟨i, j, rfl, q⟩ := h
 obtain ⟨u, w', rfl, ⟨t, rfl⟩, ⟨t', rfl⟩⟩ := J6b r
 refine max_two_ints (I.ok.hd hc) fun h' tk k => ⟨_, H, I.kept k, ?_, q⟩
 by_cases hj : j > i
 . rw [if_pos hj, if_pos hj]; exact ⟨_, rfl⟩
 . rw [if_neg hj, if_neg hj]; exact ⟨_, rfl⟩
theorem J1q (hc : X.calm = true) : A2u X (.builtin "min") (fun xs H Q => ∃ i j, xs = [.int i, .int j] /\ Q (.int (if j < i then j else i)) H) := by
 intro pins s σ H xs us Q I r h
 obtain ⟨i, j, rfl, q⟩ := h
 obtain ⟨u, w', rfl, ⟨t, rfl⟩, ⟨t', rfl⟩⟩ := J6b r
 refine min_two_ints (I.ok.hd hc) fun h' tk k => ⟨_, H, I.kept k, ?_, q⟩
 by_cases hj : j < i
 . rw [if_pos hj, if_pos hj]; exact ⟨_, rfl⟩
 . rw [if_neg hj, if_neg hj]; exact ⟨_, rfl⟩
theorem A9h : A2u X (.type "int") (fun xs H Q => (∃ i, xs = [.int i] /\ Q (.int i) H) \/ ∃ k, xs = [.bl k] /\ Q (.int (if k then 1 else 0)) H) := by
 intro pins s σ H xs us Q I r h
 rcases h with ⟨i, rfl, q⟩ | ⟨k, rfl, q⟩
 . obtain ⟨u, rfl, t, rfl⟩ := B8x r
   exact call_int_int ⟨.int i, H, I, ⟨_, rfl⟩, q⟩
 . obtain ⟨u, rfl, r1⟩ := B8x r
   cases r1
   exact call_int_bool ⟨.int (if k then 1 else 0), H, I.tok _, ⟨_, rfl⟩, q⟩
theorem A1c : A2u X (.type "str") (fun xs H Q => ∃ i, xs = [.int i] /\ i.natAbs.log2 < 1920 /\ Q (.str (toString i)) H) := by
 intro pins s σ H xs us Q I r h
 obtain ⟨i, rfl, hz, q⟩ := h
 obtain ⟨u, rfl, t, rfl⟩ := B8x r
 exact PySem.P.str_of_int hz ⟨.str _, H, I.tok _, ⟨_, rfl⟩, q⟩
end
structure ObjM (h : Heap) (x dx C : Addr) (mA : Str -> Option Value) : Prop where
 obj : h.get? x = some (PySem.W.instObj C dx)
 ns : h.Ns1 dx mA
 ne : dx ≠ x
theorem B2z {h : Heap} {dx : Addr} {mA : Str -> Option Value} (n : h.Ns1 dx mA) : ∃ od, h.get? dx = some od /\ ∀ name, PySem.W.lookIn name od = some (mA name) := by
 obtain ⟨o, es, ep, ho, hd, hk, _, hm⟩ := n
 refine ⟨o, ho, fun name => ?_⟩
 have e := hm name
 unfold nsFind findBy at e
 rw [<- Array.find?_toList] at e
 unfold PySem.W.lookIn
 rw [hd]
 dsimp only
 split
 . rename_i y q
   rw [q] at e
   exact congrArg some e
 . rename_i q
   rw [q] at e
   have a : es.toList.any (·.refKey) = false := by
     rw [List.any_eq_false]
     intro y hy
     obtain ⟨z, t, hkey⟩ := hk y (Array.mem_toList_iff.mp hy)
     simp [DictEntry.refKey, hkey]
   have a' : ¬ es.toList.any (·.refKey) = true := by rw [a]; exact Bool.false_ne_true
   rw [if_neg a']
   exact congrArg some e
theorem ObjM.look {h : Heap} {x dx C : Addr} {mA : Str -> Option Value} (I : ObjM h x dx C mA) : ∃ od, PySem.W.InstAt h x (PySem.W.instObj C dx) C (some od) /\ ∀ name, PySem.W.lookIn name od = some (mA name) :=
 let ⟨od, ho, hl⟩ := B2z I.ns
 ⟨od, ⟨I.obj, rfl, rfl, ho⟩, hl⟩
section
variable {prog : Program} {w : World} {A : Around} {E : Value -> Shared -> Prop} {s : Shared} {K : PySem.W.Frag} {x dx C f : Addr} {mA : Str -> Option Value} {name : Str} {v : Value}
theorem V1s {expr : Bool} {Q : Value -> Shared -> Prop} (X : K.In s.heap) (I : ObjM s.heap x dx C mA) (hg : PySem.W.plainGet K C name = true) (hh : PySem.W.hasDictIn K C = true)
   (ha : PySem.W.findIn K (.ref C) name = some none) (hv : mA name = some v) (hv' : PySem.W.handedIn v = true) (h : Q v { s with toks := s.toks + 1 }) :
   wpAny (model prog w) A (getAttr (.ref x) name expr) Q E s := by
 obtain ⟨od, J, hl⟩ := I.look
 exact PySem.W.get_value X J (PySem.W.plainGet_of hg).1 (PySem.W.findObj_own hh ha rfl (by rw [hl, hv])) hv' h
theorem J7s {pl : Sem Bool} {Q : Value × List Value -> Shared -> Prop} (X : K.In s.heap) (I : ObjM s.heap x dx C mA) (hg : PySem.W.plainGet K C name = true)
   (hf : PySem.W.findIn K (.ref C) name = some (some (.ref f))) (ht : PySem.W.isFn K (.ref f) = true) (hv : mA name = none) (h : Q (.ref f, [.ref x]) s) :
   wpAny (model prog w) A (getMethod (.ref x) name pl) Q E s := by
 obtain ⟨od, J, hl⟩ := I.look
 exact PySem.W.method_fn X J (PySem.W.plainGet_of hg).1 (PySem.W.plainGet_of hg).2 hf (beq_iff_eq.mp ht) (by show (PySem.W.lookIn name od).map (·.isSome) = some false; rw [hl, hv]; rfl) h
theorem V3k {ns : List Str} {Q : Unit -> Shared -> Prop} (X : K.In s.heap) (I : ObjM s.heap x dx C mA)
   (hs : PySem.W.findIn K (.ref C) "__setattr__" = some (some (.builtin "object.__setattr__"))) (hp : PySem.W.plainOver K C = true) (ht : PySem.W.takerIn K C name = some none) (hh : PySem.W.hasDictIn K C = true)
   (hw : PySem.Within mA ns) (hsz : ns.length <= sizeLine)
   (h : ∀ h', ObjM h' x dx C (fun y => if y = name then some v else mA y) -> Heap.SameBut dx s.heap h' -> Q () { s with heap := h', toks := s.toks + 2 }) :
   wpAny (model prog w) A (setAttr (.ref x) name v) Q E s := by
 obtain ⟨od, J, hl⟩ := I.look
 refine PySem.W.set_plain X J hs (PySem.W.osa_open (s := { s with toks := s.toks + 1 }) (r := none) X J hp ht fun b => ?_)
 obtain ⟨cd, hc, hd'⟩ := PySem.W.any_some hh
 have hx : s.heap.get? x = some ⟨.ref C, some dx, .plain, #[]⟩ := I.obj
 refine wpAny_bind (wpAny_pure (wpAny_bind (wpAny_bind (wpAny_loadPart hx (wpAny_bind (PySem.W.Looks.here (s := { s with toks := s.toks + 1 }) (PySem.W.looks_clsIn X hc) ?_))))))
 rw [hd']
 refine wpAny_pure (a := some dx) (wpAny_bind (wpAny_pure (wpAny_bind ?_)))
 refine wpAny_nsSet1 (s := { s with toks := s.toks + 1 }) I.ns fun h' hn2 hs2 => ?_
 obtain ⟨oD, esD, epD, hoD, hdD, hcD⟩ := hn2.count (PySem.Within.cons name v hw)
 refine wpAny_bind (wpAny_lookBehind hoD (by rw [hdD]; exact pastItsLine_dict (Nat.le_trans hcD (by rw [List.length_cons]; omega))) ?_)
 exact wpAny_pure (h _ ⟨(hs2.2 _ (Ne.symm I.ne)).trans I.obj, hn2, I.ne⟩ hs2)
theorem D4j {R : Result -> Shared -> Prop} {vs : List Value} {kw : List (Str × Value)} (X : K.In s.heap) (hm : PySem.W.makesIn K C = true)
   (hi : PySem.W.findIn K (.ref C) "__init__" = some (some (.ref f))) (hf : PySem.W.typeIn K (.ref f) = some (.type "function"))
   (h : codeAny (model prog w) (A.under (.builtin "type.__call__" ⟨.ref C :: vs, kw⟩)) (.call (.ref f) ⟨.ref (s.heap.objs.size + 1) :: vs, kw⟩) (PySem.W.InitBack (s.heap.objs.size + 1) R)
     { s with heap := (s.heap.push PySem.W.emptyDict).push (PySem.W.instObj C s.heap.objs.size) }) :
   codeAny (model prog w) A (.call (.ref C) ⟨vs, kw⟩) R s := by
 obtain ⟨hh, g, d, t, os⟩ := s
 exact PySem.W.make_core (PySem.W.makes_of X hm) (PySem.W.looks_findIn X hi) (fun self => PySem.W.bind_fn X self hf) (.inl rfl) h
theorem J2m {R : Result -> Shared -> Prop} (X : K.In s.heap) (hm : PySem.W.makesIn K C = true)
   (hi : PySem.W.findIn K (.ref C) "__init__" = some (some (.builtin "object.__init__")))
   (hb : ∀ self, PySem.W.Looks (model prog w) s.heap (bindSpecial (.builtin "object.__init__") self) (.builtin "object.__init__", [self]))
   (h : codeAny (model prog w) (A.under (.builtin "type.__call__" ⟨[.ref C], []⟩)) (.call (.builtin "object.__init__") ⟨[.ref (s.heap.objs.size + 1)], []⟩) (PySem.W.InitBack (s.heap.objs.size + 1) R)
     { s with heap := (s.heap.push PySem.W.emptyDict).push (PySem.W.instObj C s.heap.objs.size) }) :
   codeAny (model prog w) A (.call (.ref C) ⟨[], []⟩) R s := by
 obtain ⟨hh, g, d, t, os⟩ := s
 exact PySem.W.make_core (PySem.W.makes_of X hm) (PySem.W.looks_findIn X hi) hb (.inr ⟨rfl, rfl⟩) h
end
def U6 (f : Str) (v : V) : List (Str × V) -> List (Str × V)
 | [] => [(f, v)]
 | (g, x) :: r => if g = f then (g, v) :: r else (g, x) :: U6 f v r
theorem D0 (f g : Str) (v : V) : ∀ fs : List (Str × V), (U6 f v fs).lookup g = if g = f then some v else fs.lookup g
 | [] => by
   show List.lookup g [(f, v)] = _
   by_cases h : g = f
   . have hb : (g == f) = true := beq_iff_eq.mpr h
     simp only [List.lookup, hb, if_pos h]
   . have hb : (g == f) = false := beq_eq_false_iff_ne.mpr h
     simp only [List.lookup, hb, if_neg h]
 | (k, x) :: r => by
   have ih := D0 f g v r
   rw [show U6 f v ((k, x) :: r) = (if k = f then (k, v) :: r else (k, x) :: U6 f v r) from rfl]
   by_cases hk : k = f
   . rw [if_pos hk]
     by_cases h : g = k
     . have hb : (g == k) = true := beq_iff_eq.mpr h
       simp only [List.lookup, hb, if_pos (h.trans hk)]
     . have hb : (g == k) = false := beq_eq_false_iff_ne.mpr h
       simp only [List.lookup, hb, if_neg (fun e : g = f => h (e.trans hk.symm))]
   . rw [if_neg hk]
     by_cases h : g = k
     . have hb : (g == k) = true := beq_iff_eq.mpr h
       simp only [List.lookup, hb, if_neg (fun e : g = f => hk (h.symm.trans e))]
     . have hb : (g == k) = false := beq_eq_false_iff_ne.mpr h
       simp only [List.lookup, hb]
       exact ih
theorem B3g (f : Str) (v : V) : ∀ fs : List (Str × V), f ∈ (U6 f v fs).map (·.1) /\ ∀ g, g ∈ fs.map (·.1) -> g ∈ (U6 f v fs).map (·.1)
 | [] => ⟨by simp [U6], fun g h => by simp at h⟩
 | (k, x) :: r => by
   obtain ⟨i1, i2⟩ := B3g f v r
   rw [show U6 f v ((k, x) :: r) = (if k = f then (k, v) :: r else (k, x) :: U6 f v r) from rfl]
   by_cases hk : k = f
   . rw [if_pos hk]
     subst hk
     exact ⟨by simp, fun g h => by simpa using h⟩
   . rw [if_neg hk]
     refine ⟨?_, fun g h => ?_⟩
     . rw [List.map_cons]
       exact List.mem_cons_of_mem _ i1
     . rw [List.map_cons] at h ⊢
       rcases List.mem_cons.mp h with e | e
       . exact List.mem_cons.mpr (.inl e)
       . exact List.mem_cons_of_mem _ (i2 g e)
theorem A0n (f : Str) (v : V) : ∀ fs : List (Str × V), (U6 f v fs).length <= fs.length + 1
 | [] => by simp [U6]
 | (k, x) :: r => by
   have ih := A0n f v r
   rw [show U6 f v ((k, x) :: r) = (if k = f then (k, v) :: r else (k, x) :: U6 f v r) from rfl]
   by_cases hk : k = f
   . rw [if_pos hk, List.length_cons, List.length_cons]; omega
   . rw [if_neg hk, List.length_cons, List.length_cons]; omega
theorem RelO.some_of {v : V} {o : Option Value} (r : RelO (some v) o) : ∃ u, o = some u /\ RelV v u := by
 cases o with
 | none => exact (show False from r).elim
 | some u => exact ⟨u, rfl, r⟩
theorem RelO.none_of {o : Option Value} (r : RelO none o) : o = none := by
 cases o with
 | none => rfl
 | some u => exact (show False from r).elim
theorem C5v {v : V} {u : Value} (r : RelV v u) : PySem.W.handedIn u = true := by
 cases v with
 | non => cases (show u = Value.none from r); rfl
 | bl b => cases (show u = Value.bool b from r); rfl
 | int i => obtain ⟨t, e⟩ := (show ∃ t, u = Value.int i t from r); cases e; rfl
 | str x => obtain ⟨t, e⟩ := (show ∃ t, u = Value.str x t from r); cases e; rfl
 | byt b => obtain ⟨t, e⟩ := (show ∃ t, u = Value.bytes b t from r); cases e; rfl
 | flt b => obtain ⟨t, e⟩ := (show ∃ t, u = Value.float b t from r); cases e; rfl
 | ref a => cases (show u = Value.ref a from r); rfl
 | ty n => cases (show u = Value.type n from r); rfl
section
variable {P : Program} {w : World} {H H' : Hp} {h h' : Heap} {a C dx : Addr} {fs fs' : List (Str × V)}
theorem B7v (hok : HOk P w H h) (e : H a = some (.ins C dx fs)) : ∃ mA, ObjM h a dx C mA /\ (∀ f, RelO (fs.lookup f) (mA f)) /\ PySem.Within mA (fs.map (·.1)) /\ fs.length <= 1000 /\ H dx = some (.own a) := by
 obtain ⟨d, z, ne, ob, mA, n, r, q⟩ := (show ObjOk P w H h a (.ins C dx fs) from hok a _ e)
 exact ⟨mA, ⟨ob, n, ne⟩, r, q, z, d⟩
end
structure Cls (K : PySem.W.Frag) (C : Addr) : Prop where
 pg : PySem.W.plainGet K C Str.empty = true
 hd : PySem.W.hasDictIn K C = true
 po : PySem.W.plainOver K C = true
 sa : PySem.W.findIn K (.ref C) "__setattr__" = some (some (.builtin "object.__setattr__"))
theorem Cls.get {K : PySem.W.Frag} {C : Addr} (c : Cls K C) (f : Str) : PySem.W.plainGet K C f = true := c.pg
def NoAttr (K : PySem.W.Frag) (C : Addr) (f : Str) : Prop := PySem.W.findIn K (.ref C) f = some none
theorem NoAttr.taker {K : PySem.W.Frag} {C : Addr} {f : Str} (n : NoAttr K C f) : PySem.W.takerIn K C f = some none := by
 unfold PySem.W.takerIn
 rw [show PySem.W.findIn K (.ref C) f = some none from n]
 rfl
structure Meth (K : PySem.W.Frag) (C : Addr) (m : Str) (f : Addr) : Prop where
 at_ : PySem.W.findIn K (.ref C) m = some (some (.ref f))
 fn : PySem.W.isFn K (.ref f) = true
 kp : PySem.W.keepIn K (.ref f) = true
section
variable {X : Cx} {pins : List (Addr × Obj)} {σ : St} {H : Hp} {s : Shared} {a C dx : Addr} {fs : List (Str × V)} {f : Str} {v : V} {A : Around} {E : Value -> Shared -> Prop}
theorem D9g {b : Bool} {Q : Value -> Shared -> Prop} (I : Inv X pins σ H s) (e : H a = some (.ins C dx fs)) (c : Cls X.K C) (n : NoAttr X.K C f) (l : fs.lookup f = some v)
   (h : ∀ u s', Inv X pins σ H s' -> RelV v u -> Q u s') : wpAny (model X.prog X.w) A (getAttr (.ref a) f b) Q E s := by
 obtain ⟨mA, O, r, _, _, _⟩ := B7v I.hok e
 obtain ⟨u, hu, ru⟩ := RelO.some_of (v := v) (o := mA f) (by rw [<- l]; exact r f)
 exact V1s I.kIn O (c.get f) c.hd n hu (C5v ru) (h u _ (I.tok _) ru)
theorem B9f {m : Str} {g : Addr} {pl : Sem Bool} {Q : Value × List Value -> Shared -> Prop} (I : Inv X pins σ H s) (e : H a = some (.ins C dx fs)) (c : Cls X.K C) (k : Meth X.K C m g) (l : fs.lookup m = none)
   (h : Q (.ref g, [.ref a]) s) : wpAny (model X.prog X.w) A (getMethod (.ref a) m pl) Q E s := by
 obtain ⟨mA, O, r, _, _, _⟩ := B7v I.hok e
 have hn : mA m = none := RelO.none_of (by rw [<- l]; exact r m)
 exact J7s I.kIn O (c.get m) k.at_ k.fn hn h
theorem D8d {y : V} {u : Value} {Q : Unit -> Shared -> Prop} (I : Inv X pins σ H s) (e : H a = some (.ins C dx fs)) (c : Cls X.K C) (n : NoAttr X.K C f) (hl : fs.length < 1000) (ry : RelV y u)
   (h : ∀ s', Inv X pins σ (upd H a (.ins C dx (U6 f y fs))) s' -> Q () s') : wpAny (model X.prog X.w) A (setAttr (.ref a) f u) Q E s := by
 obtain ⟨mA, O, r, wi, _, ho⟩ := B7v I.hok e
 have hz : (fs.map (·.1)).length <= sizeLine := by rw [List.length_map, sizeLine_eq]; omega
 refine V3k I.kIn O c.sa c.po n.taker c.hd wi hz fun h' O' sb => h _ ?_
 have hd : ∃ o, h'.get? dx = some o := let ⟨o, _, _, e', _⟩ := O'.ns; ⟨o, e'⟩
 refine I.write (x := a) (e := dx) (by rw [e]; exact True.intro) (.inr ho) (fun b q hb z => (sb.2 b hb).trans z) hd ?_
 refine ⟨by rw [B4 O.ne]; exact ho, ?_, O.ne, O'.obj, _, O'.ns, fun g => ?_, fun g hg => ?_⟩
 . have := A0n f y fs; omega
 . show RelO ((U6 f y fs).lookup g) (if g = f then some u else mA g)
   rw [D0]
   by_cases q : g = f
   . rw [if_pos q, if_pos q]; exact ry
   . rw [if_neg q, if_neg q]; exact r g
 . by_cases q : g = f
   . rw [q]; exact (B3g f y fs).1
   . refine (B3g f y fs).2 g (wi g fun z => hg ?_)
     show (if g = f then some u else mA g) = none
     rw [if_neg q]; exact z
theorem Inv.made (I : Inv X pins σ H s) : Inv X pins σ (upd (upd H s.heap.objs.size (.own (s.heap.objs.size + 1))) (s.heap.objs.size + 1) (.ins C s.heap.objs.size []))
   { s with heap := (s.heap.push PySem.W.emptyDict).push (PySem.W.instObj C s.heap.objs.size) } := by
 have e1 : (s.heap.push PySem.W.emptyDict).get? s.heap.objs.size = some PySem.W.emptyDict := Heap.get?_push_size s.heap rfl
 have e2 : ((s.heap.push PySem.W.emptyDict).push (PySem.W.instObj C s.heap.objs.size)).get? (s.heap.objs.size + 1) = some (PySem.W.instObj C s.heap.objs.size) := by
   have := Heap.get?_push_size (s.heap.push PySem.W.emptyDict) (o := PySem.W.instObj C s.heap.objs.size) rfl
   rwa [Heap.size_push] at this
 have e3 : (s.heap.push PySem.W.emptyDict).Ns s.heap.objs.size (fun _ => none) := ⟨PySem.W.emptyDict, #[], _, e1, rfl, (fun e he => absurd he (by simp)), fun _ => rfl⟩
 have I1 := I.laid (a := s.heap.objs.size) (o := .own (s.heap.objs.size + 1)) (h' := s.heap.push PySem.W.emptyDict) (t' := s.toks) (fun b u q => Heap.get?_push_of_some _ q) (Nat.le_refl _) ⟨_, e1⟩
 refine I1.laid (a := s.heap.objs.size + 1) (o := .ins C s.heap.objs.size []) (t' := s.toks) (fun b u q => Heap.get?_push_of_some _ q) (Nat.le_of_eq (Heap.size_push _ _)) ?_
 have ne : s.heap.objs.size ≠ s.heap.objs.size + 1 := Nat.ne_of_lt (Nat.lt_succ_self _)
 refine ⟨by rw [B4 ne, A6], Nat.zero_le _, ne, e2, fun _ => none, (Heap.Ns1.of_empty e3).at fun o q => Heap.get?_push_of_some _ q, fun _ => True.intro, fun y hy => absurd rfl hy⟩
theorem G9r {prog : Program} {w : World} {env : Env} {e : Expr} {f : Str} {pos : Pos} {s : Shared} {Q : Value -> Shared -> Prop} (hb : attributeBase e f env (eval e env) = eval e env)
   (h : wpAny (model prog w) A (eval e env) (fun o s₁ => wpAny (model prog w) A (getAttr o f true) Q E s₁) E s) : wpAny (model prog w) A (eval (.Attribute e f pos) env) Q E s :=
 Attribute_any_ h (by rw [arm_eval_Attribute, hb])
end
def Y5w (K : PySem.W.Frag) (ta : TE) (f : Str) : TE := fun σ H Q => ta σ H fun x H1 => ∃ a C dx fs v, x = .ref a /\ H1 a = some (.ins C dx fs) /\ Cls K C /\ NoAttr K C f /\ fs.lookup f = some v /\ Q v H1
def Y8u (K : PySem.W.Frag) (ta tv : TE) (f : Str) : TS := fun D σ H => tv σ H fun y H1 => ta σ H1 fun x H2 => ∃ a C dx fs, x = .ref a /\ H2 a = some (.ins C dx fs) /\ Cls K C /\ NoAttr K C f /\ fs.length < 1000 /\
 D.nx σ (upd H2 a (.ins C dx (U6 f y fs)))
section
variable {X : Cx} {o e value : Expr} {f : Str} {pos pos' tpos : Pos} {ta tv : TE}
theorem G4 (he : PE X e ta) (hb : attributeBase e f X.env (eval e X.env) = eval e X.env) : PE X (.Attribute e f pos) (Y5w X.K ta f) := by
 intro pins s σ H Q I h
 refine G9r hb (thn (he pins s σ H _ I h) fun u s1 ⟨x, H1, I1, rx, a, C, dx, fs, v, ex, ea, c, n, l, q⟩ => ?_)
 subst ex
 obtain rfl : u = Value.ref a := rx
 exact D9g I1 ea c n l fun u' s2 I2 ru => ⟨v, H1, I2, ru, q⟩
theorem Y8 (ha : PE X o ta) (hv : PE X value tv) (hs : swapsWith value (some (.Attribute o f pos')) pos.line X.env = pure false) : PS X (.Assign [.Attribute o f pos'] value pos) (Y8u X.K ta tv f) := by
 intro pins s σ H D I h
 refine plainObj_wpAny_Assign_Attribute (thn (hv pins s σ H _ I h) fun u s1 ⟨y, H1, I1, ry, q⟩ => thn (ha pins s1 σ H1 _ I1 q) fun ov s2 ⟨x, H2, I2, rx, a, C, dx, fs, ex, ea, c, n, l, q2⟩ => ?_) hs
 subst ex
 obtain rfl : ov = Value.ref a := rx
 exact D8d I2 ea c n l ry fun s3 I3 => ⟨σ, _, I3, q2⟩
end
section
variable {X : Cx} {pins : List (Addr × Obj)} {σ : St} {H : Hp} {s : Shared} {A : Around} {E : Value -> Shared -> Prop} {Q : Value -> Shared -> Prop} {c : Value} {b : Bool}
inductive TyOf (K : PySem.W.Frag) (H : Hp) : V -> Value -> Prop where
 | non : TyOf K H .non (.type "NoneType")
 | bl (x : Bool) : TyOf K H (.bl x) (.type "bool")
 | int (i : Int) : TyOf K H (.int i) (.type "int")
 | str (x : Str) : TyOf K H (.str x) (.type "str")
 | flt (x : UInt64) : TyOf K H (.flt x) (.type "float")
 | lst {a : Addr} {xs : List V} (e : H a = some (.lst xs)) : TyOf K H (.ref a) (.type "list")
 | frz {a : Addr} {o : Obj} {xs : List V} (e : H a = some (.frz o (.lst xs))) : TyOf K H (.ref a) (.type "list")
 | tup {a : Addr} {xs : List V} (e : H a = some (.tup xs)) : TyOf K H (.ref a) (.type "tuple")
 | dK {a : Addr} {kvs : List (Key × V)} (e : H a = some (.dK kvs)) : TyOf K H (.ref a) (.type "dict")
 | dT {a : Addr} {kvs : List (List Key × V)} (e : H a = some (.dT kvs)) : TyOf K H (.ref a) (.type "dict")
 | ins {a C dx : Addr} {fs : List (Str × V)} (e : H a = some (.ins C dx fs)) (cl : Cls K C) (ha : PySem.W.findIn K (.ref C) "__class__" = some (some (.builtin "object.__class__")))
     (hn : PySem.W.specialIn K (.builtin "object.__class__") "__get__" = some (some (.builtin "getset_descriptor.__get__"))) (htk : PySem.W.takesIn K (.builtin "object.__class__") = some true)
     (hm : PySem.W.mroIn K C (.type "object") = some true) : TyOf K H (.ref a) (.ref C)
theorem J2s {x : V} {u t : Value} (I : Inv X pins σ H s) (rx : RelV x u) (ty : TyOf X.K H x t) (e : PySem.W.kitOne X.K t c = some b) (h : ∀ tk, Q (.bool b) { s with toks := tk }) :
   wpAny (model X.prog X.w) A (call (.builtin "isinstance") [u, c]) Q E s := by
 cases ty with
 | non => cases (show u = Value.none from rx); exact PySem.W.kia_one PySem.W.kitx_none I.kIn True.intro e (fun z => nomatch z) h
 | bl y => cases (show u = Value.bool y from rx); exact PySem.W.kia_one PySem.W.kitx_bool I.kIn True.intro e (fun z => nomatch z) h
 | int i => obtain ⟨t, q⟩ := (show ∃ t, u = Value.int i t from rx); cases q; exact PySem.W.kia_one PySem.W.kitx_int I.kIn True.intro e (fun z => nomatch z) h
 | str y => obtain ⟨t, q⟩ := (show ∃ t, u = Value.str y t from rx); cases q; exact PySem.W.kia_one PySem.W.kitx_str I.kIn True.intro e (fun z => nomatch z) h
 | flt y => obtain ⟨t, q⟩ := (show ∃ t, u = Value.float y t from rx); cases q; exact PySem.W.kia_one PySem.W.kitx_float I.kIn True.intro e (fun z => nomatch z) h
 | @lst a xs ea =>
   cases (show u = Value.ref a from rx)
   obtain ⟨_, _, n, _, h1⟩ := (show ObjOk X.prog X.w H s.heap a (.lst xs) from I.hok a _ ea)
   exact PySem.W.kia_one PySem.W.kitx_list I.kIn ⟨_, h1, rfl⟩ e (fun z => nomatch z) h
 | @frz a ob xs ea =>
   cases (show u = Value.ref a from rx)
   obtain ⟨_, _, _, n, _, h1⟩ := (show ObjOk X.prog X.w H s.heap a (.frz ob (.lst xs)) from I.hok a _ ea)
   exact PySem.W.kia_one PySem.W.kitx_list I.kIn ⟨_, h1, rfl⟩ e (fun z => nomatch z) h
 | @tup a xs ea =>
   cases (show u = Value.ref a from rx)
   obtain ⟨_, _, _, p⟩ := (show ObjOk X.prog X.w H s.heap a (.tup xs) from I.hok a _ ea)
   obtain ⟨o, h1, h2, _⟩ := p
   exact PySem.W.kia_one PySem.W.kitx_tuple I.kIn ⟨o, h1, h2⟩ e (fun z => nomatch z) h
 | @dK a kvs ea =>
   cases (show u = Value.ref a from rx)
   obtain ⟨_, _, vs, _, p⟩ := (show ObjOk X.prog X.w H s.heap a (.dK kvs) from I.hok a _ ea)
   obtain ⟨o, es, ep, h1, h2, _⟩ := p
   exact PySem.W.kia_one PySem.W.kitx_dict I.kIn ⟨o, h1, h2.1⟩ e (fun z => nomatch z) h
 | @dT a kvs ea =>
   cases (show u = Value.ref a from rx)
   obtain ⟨_, _, xs, _, o, es, ep, h1, h2, _⟩ := (show ObjOk X.prog X.w H s.heap a (.dT kvs) from I.hok a _ ea)
   exact PySem.W.kia_one PySem.W.kitx_dict I.kIn ⟨o, h1, h2.1⟩ e (fun z => nomatch z) h
 | @ins a C dx fs ea cl ha hn htk hm =>
   cases (show u = Value.ref a from rx)
   obtain ⟨mA, O, _⟩ := B7v I.hok ea
   obtain ⟨od, J, _⟩ := O.look
   exact PySem.W.kia_one (PySem.W.kitx_own (cl.get _) cl.hd ha hn htk hm) I.kIn J e (fun z => nomatch z) h
end
structure Room (k : Nat) (A : Around) : Prop where
 hd : A.handled = none
 dp : A.depth + 3 * k + 5 < recursionLimit
 un : A.units + 16 * k + 200 < cLine
theorem Room.mono {j k : Nat} {A : Around} (r : Room k A) (h : j <= k) : Room j A := ⟨r.hd, by have := r.dp; omega, by have := r.un; omega⟩
theorem Room.deeper {k : Nat} {A : Around} (r : Room (k + 1) A) (env : Env) : Room k (A.deeper env) :=
 ⟨r.hd, by have := r.dp; show A.depth + 1 + 3 * k + 5 < _; omega, by have := r.un; show A.units + 3 + 16 * k + 200 < _; omega⟩
theorem D9w {A : Around} {C : Addr} {us : List Value} {kw : List (Str × Value)} : (A.under (.builtin "type.__call__" ⟨.ref C :: us, kw⟩)).depth = A.depth + 1 := by
 first | rfl | simp [Around.under, Code.weight, Code.isCreation, Code.isGuard, Code.isCaller, Code.frames, Code.isFrame, guardIds]
theorem D9a {A : Around} {C : Addr} {us : List Value} {kw : List (Str × Value)} : (A.under (.builtin "type.__call__" ⟨.ref C :: us, kw⟩)).units = A.units + 1 := by
 first | rfl | simp [Around.under, Code.cUnits, Code.frames, Code.isFrame]
theorem Room.make {k : Nat} {A : Around} (r : Room (k + 1) A) (C : Addr) (us : List Value) (kw : List (Str × Value)) : Room k (A.under (.builtin "type.__call__" ⟨.ref C :: us, kw⟩)) :=
 ⟨r.hd, by have := r.dp; rw [D9w]; omega, by have := r.un; rw [D9a]; omega⟩
theorem Room.depth {k : Nat} {A : Around} (r : Room k A) : A.depth < recursionLimit := by have := r.dp; omega
theorem Room.units {k : Nat} {A : Around} (r : Room k A) : A.units + 64 < cLine := by have := r.un; omega
def J8e : TA := fun _ H Q => Q [] H
def J8g (ta : TE) (tr : TA) : TA := fun σ H Q => ta σ H fun x H1 => tr σ H1 fun xs H2 => Q (x :: xs) H2
section
variable {X : Cx} {e : Expr} {es : List Expr} {te : TE} {t : TA} {pos : Pos}
theorem A8 : PA X [] J8e := fun _ _ _ _ H Q I h => Calls.spliced_nil ⟨[], H, I, .nil, h⟩
theorem A0 (ha : PE X e te) (hr : PA X es t) (hs : starEach (e :: es) X.env = (false, eval e X.env) :: starEach es X.env := by rfl) : PA X (e :: es) (J8g te t) := by
 intro pos pins s σ H Q I h
 rw [hs]
 show wpAny _ _ (spliced ((false, eval e X.env) :: backTo pos (starEach es X.env))) _ _ s
 refine Calls.spliced_cons (thn (ha pins s σ H _ I h) fun u s1 ⟨x, H1, I1, r1, q1⟩ => ?_)
 exact thn (hr pos pins s1 σ H1 _ I1 q1) fun us s2 ⟨xs, H2, I2, r2, q2⟩ => ⟨x :: xs, H2, I2, .cons r1 r2, q2⟩
def Y8v (t : TA) : TE := fun σ H Q => t σ H fun xs H1 => xs.length <= sizeLine /\ ∀ p, H1 p = none -> Q (.ref p) (upd H1 p (.tup xs))
def Y8m (t : TA) : TE := fun σ H Q => t σ H fun xs H1 => xs.length <= sizeLine /\ ∀ p, H1 p = none -> Q (.ref p) (upd H1 p (.lst xs))
theorem G8 {x1} (h : PA X es t) : PE X (.Tuple es x1 pos) (Y8v t) := by
 intro pins s σ H Q I hq
 refine wpAny_Tuple_spliced (thn (h pos pins s σ H _ I hq) fun us s1 ⟨xs, H1, I1, r, z, q⟩ => ⟨by rw [<- r.length]; exact z, ?_⟩)
 have hf : H1 s1.heap.objs.size = none := I1.hok.fresh (Nat.le_refl _)
 refine ⟨.ref s1.heap.objs.size, upd H1 s1.heap.objs.size (.tup xs), I1.laid (t' := s1.toks) (fun b u e => Heap.get?_push_of_some _ e) (Nat.le_refl _) ?_, rfl, q _ hf⟩
 exact ⟨z, us, r, ⟨_, Heap.get?_push_size _ rfl, rfl, _, rfl⟩⟩
theorem J0 (h : PA X es t) : PE X (.List es pos) (Y8m t) := by
 intro pins s σ H Q I hq
 refine wpAny_List_spliced (thn (h pos pins s σ H _ I hq) fun us s1 ⟨xs, H1, I1, r, z, q⟩ => ⟨by rw [<- r.length]; exact z, ?_⟩)
 have hf : H1 s1.heap.objs.size = none := I1.hok.fresh (Nat.le_refl _)
 refine ⟨.ref s1.heap.objs.size, upd H1 s1.heap.objs.size (.lst xs), I1.laid (t' := s1.toks) (fun b u e => Heap.get?_push_of_some _ e) (Nat.le_refl _) ?_, rfl, q _ hf⟩
 exact ⟨z, us, 0, r, Heap.get?_push_size _ rfl⟩
end
abbrev Sp := List V -> Hp -> VK -> XK -> Prop
abbrev CXT := List Env -> Hp -> Shared -> XK -> Value -> Shared -> Prop
structure Env0 (P : Program) (w : World) (K : PySem.W.Frag) (mg : Str -> Option Value) (base : Heap) (A : Around) (outer : List Env) (s : Shared) (H : Hp) : Prop where
 frames : A.frames = some outer
 mod : Mod K mg base
 bs : ∀ b o, base.get? b = some o -> s.heap.get? b = some o /\ H b = none
 bsz : base.objs.size <= s.heap.objs.size
 funs : s.heap.FunFrames base outer
 frf : ∀ b ∈ frs outer, H b = none
 hok : HOk P w H s.heap
 bare : AllBare s.gens
def CE (outer : List Env) (P : Program) (w : World) (H : Hp) (s : Shared) (Q : VK) (u : Value) (s' : Shared) : Prop :=
 ∃ v H', s'.os = s.os /\ AllBare s'.gens /\ Un (frs outer) [] H H' s.heap s'.heap /\ HOk P w H' s'.heap /\ RelV v u /\ Q v H'
def CR (CX : CXT) (outer : List Env) (P : Program) (w : World) (H : Hp) (s : Shared) (Q : VK) (E : XK) (r : Result) (s' : Shared) : Prop :=
 match r with
 | .ok (.ret u) => CE outer P w H s Q u s'
 | .ok _ => False
 | .error e => CX outer H s E e s'
structure FnOk (P : Program) (w : World) (K : PySem.W.Frag) (mg : Str -> Option Value) (base : Heap) (CX : CXT) (k : Nat) (f : Addr) (fd : FuncData) (ps : List Str) (sp : Sp) : Prop where
 len : ∀ vs H Q E, sp vs H Q E -> vs.length = ps.length
 run : ∀ (A : Around) (outer : List Env) (s : Shared) (H : Hp) (args : Args) (us : List Value) (vs : List V) (Q : VK) (E : XK), Room k A -> Env0 P w K mg base A outer s H -> BindsTo s fd args (ps.zip us) -> Vals vs us -> sp vs H Q E ->
   codeAny (model P w) A (.call (.ref f) args) (CR CX outer P w H s Q E) s
theorem FnOk.mono {P : Program} {w : World} {K : PySem.W.Frag} {mg : Str -> Option Value} {base : Heap} {CX : CXT} {j k : Nat} {f : Addr} {fd : FuncData} {ps : List Str} {sp : Sp} (F : FnOk P w K mg base CX j f fd ps sp) (h : j <= k) :
   FnOk P w K mg base CX k f fd ps sp := ⟨F.len, fun A outer s H args us vs Q E hr => F.run A outer s H args us vs Q E (hr.mono h)⟩
theorem Env0.make {P : Program} {w : World} {K : PySem.W.Frag} {mg : Str -> Option Value} {base : Heap} {A : Around} {outer : List Env} {s : Shared} {H : Hp} (e : Env0 P w K mg base A outer s H) (C : Addr) (us : List Value) (kw : List (Str × Value)) :
   Env0 P w K mg base (A.under (.builtin "type.__call__" ⟨.ref C :: us, kw⟩)) outer s H := ⟨by first | exact e.frames | (simpa [Around.under, Code.envs, Code.isFrame, pushEnvs] using e.frames), e.mod, e.bs, e.bsz, e.funs, e.frf, e.hok, e.bare⟩
section
variable {X : Cx} {pins : List (Addr × Obj)} {σ : St} {H : Hp} {s s' : Shared}
theorem Inv.env0 (I : Inv X pins σ H s) : Env0 X.prog X.w X.K X.mg X.base X.A X.stack s H :=
 ⟨I.ok.frames, I.ok.mod, I.bs, Nat.le_trans I.ok.bsz I.sz, I.stack, I.stkFree, I.hok, I.bare⟩
theorem Inv.after {Q : VK} {u : Value} (I : Inv X pins σ H s) (h : CE X.stack X.prog X.w H s Q u s') : EP X pins σ Q u s' := by
 obtain ⟨v, H', os, bare, un, hok, r, q⟩ := h
 obtain ⟨hh, g, d, t, os'⟩ := s'
 obtain rfl : os' = s.os := os
 exact ⟨v, H', I.call (h' := hh) (g' := g) (d' := d) (t' := t) (ch := []) un hok bare (fun b z => absurd z (by simp)), r, q⟩
end
def Y3n (C : Addr) (sp : Sp) (dvs : List V) (E : XK) (t : TA) : TE := fun σ H Q => t σ H fun vs H1 => ∀ x dx, H1 x = none -> H1 dx = none -> dx ≠ x ->
 sp (.ref x :: (vs ++ dvs)) (upd (upd H1 dx (.own x)) x (.ins C dx [])) (fun v H2 => v = .non /\ Q (.ref x) H2) E
def Binds (K : PySem.W.Frag) (fd : FuncData) (ps : List Str) (ds : List Value) : Prop :=
 ∀ (s : Shared) (us : List Value), K.In s.heap -> (us ++ ds).length = ps.length -> BindsTo s fd ⟨us, []⟩ (ps.zip (us ++ ds))
theorem Binds.all {K : PySem.W.Frag} {fd : FuncData} {ps : List Str} (h : ∀ us : List Value, us.length = ps.length -> bindArgs fd ⟨us, []⟩ = pure (ps.zip us)) : Binds K fd ps [] := fun s us _ hl => by
 rw [List.append_nil] at hl ⊢
 exact .of_eq (h us hl)
def D8z (CX : CXT) (X : Cx) (E : XK) : Prop := ∀ (pins : List (Addr × Obj)) (σ : St) (H : Hp) (s : Shared) (e : Value) (s' : Shared), Inv X pins σ H s -> CX X.stack H s E e s' -> X.xe e s'
section
variable {X : Cx} {CX : CXT} {k : Nat} {f C : Addr} {fd : FuncData} {ps : List Str} {sp : Sp} {dvs : List V} {ds : List Value} {E : XK} {x m : Str} {p pos apos : Pos} {e o : Expr} {es : List Expr} {ta : TE} {t : TA}
structure Mk (K : PySem.W.Frag) (C f : Addr) : Prop where
 makes : PySem.W.makesIn K C = true
 init : PySem.W.findIn K (.ref C) "__init__" = some (some (.ref f))
 fn : PySem.W.isFn K (.ref f) = true
 kp : PySem.W.keepIn K (.ref C) = true
theorem J7r {pins : List (Addr × Obj)} {σ : St} {H : Hp} {s : Shared} {Q : VK} {us : List Value} {vs : List V} (M : Mk X.K C f) (F : FnOk X.prog X.w X.K X.mg X.base CX k f fd ps sp) (hr : Room (k + 1) X.A) (hb : Binds X.K fd ps ds) (hd : Vals dvs ds)
   (hx : D8z CX X E) (I : Inv X pins σ H s) (r : Vals vs us)
   (h : ∀ x dx, H x = none -> H dx = none -> dx ≠ x -> sp (.ref x :: (vs ++ dvs)) (upd (upd H dx (.own x)) x (.ins C dx [])) (fun v H2 => v = .non /\ Q (.ref x) H2) E) :
   wpAny (model X.prog X.w) X.A (call (.ref C) us) (EP X pins σ Q) X.xe s := by
 have hq := h (s.heap.objs.size + 1) s.heap.objs.size (I.hok.fresh (Nat.le_succ _)) (I.hok.fresh (Nat.le_refl _)) (Nat.ne_of_lt (Nat.lt_succ_self _))
 have I2 := Inv.made (C := C) I
 have r2 : Vals (V.ref (s.heap.objs.size + 1) :: (vs ++ dvs)) (Value.ref (s.heap.objs.size + 1) :: (us ++ ds)) := .cons rfl (r.append hd)
 have hl : (Value.ref (s.heap.objs.size + 1) :: us ++ ds).length = ps.length := by
   have e := r2.length
   rw [F.len _ _ _ _ hq] at e
   exact e.symm
 refine wpAny_call (D4j (f := f) I.kIn M.makes M.init (beq_iff_eq.mp M.fn) (codeAny_mono (F.run _ X.stack _ _ ⟨Value.ref (s.heap.objs.size + 1) :: us, []⟩ (Value.ref (s.heap.objs.size + 1) :: (us ++ ds)) _ _ E (hr.make C us [])
   (I2.env0.make C us []) (hb _ (Value.ref (s.heap.objs.size + 1) :: us) I2.kIn hl) r2 hq) fun r s' hq' => ?_))
 cases r with
 | error e => exact hx pins σ _ _ e s' I2 hq'
 | ok fl =>
   cases fl with
   | ret u =>
     obtain ⟨v, H', I3, rv, ev, q3⟩ := I2.after hq'
     subst ev
     exact ⟨rv, ⟨V.ref (s.heap.objs.size + 1), H', I3, rfl, q3⟩⟩
   | next => exact False.elim hq'
   | brk => exact False.elim hq'
   | cont => exact False.elim hq'
theorem C7p (M : Mk X.K C f) (F : FnOk X.prog X.w X.K X.mg X.base CX k f fd ps sp) (hr : Room (k + 1) X.A) (hg : Gl X x) (hm : X.mg x = some (.ref C)) (hb : Binds X.K fd ps ds) (hd : Vals dvs ds) (hx : D8z CX X E)
   (ha : PA X (e :: es) t) (hdb : (x == ("__debug__" : Str)) = false := by decide) (he : starEach (e :: es) X.env = (false, eval e X.env) :: starEach es X.env := by rfl) (hpl : (backTo pos (starEach es X.env)).any (·.1) = false := by rfl) :
   PE X (.Call (.Name x p) (e :: es) [] pos) (Y3n C sp dvs E t) := by
 intro pins s σ H Q I h
 refine wpAny_Call_Name_kw (A0k I hg hm ?_ hdb)
 refine PySem.W.callWith_K (h₀ := X.base) I.ok.mod.kin M.kp (thn (ha pos pins s σ H _ I h) fun us s1 ⟨vs, H1, I1, r, q⟩ => ⟨I1.kIn, ?_⟩) he hpl
 exact J7r M F hr hb hd hx I1 r q
end
section
variable {X : Cx} {CX : CXT} {k : Nat} {f C : Addr} {fd : FuncData} {ps ks : List Str} {sp : Sp} {E : XK} {x m : Str} {p pos apos kpos : Pos} {e o : Expr} {es : List Expr} {kws : List Keyword} {te ta : TE} {t tk : TA} {nm : Option Str}
structure KBinds (K : PySem.W.Frag) (fd : FuncData) (ps ks : List Str) (g : List Value -> List Value -> List Value) (gV : List V -> List V -> List V) : Prop where
 to : ∀ (s : Shared) (us ws : List Value), K.In s.heap -> (g us ws).length = ps.length -> BindsTo s fd ⟨us, ks.zip ws⟩ (ps.zip (g us ws))
 rel : ∀ {vs : List V} {us : List Value} {zs : List V} {ws : List Value}, Vals vs us -> Vals zs ws -> Vals (gV vs zs) (g us ws)
variable {g : List Value -> List Value -> List Value} {gV : List V -> List V -> List V}
end
structure FnScope (N P : List Str) (sc : Scope) : Prop where
 kind : sc.kind = .function
 co : sc.isCoroutine = false
 gen : sc.isGenerator = false
 nd : N.Nodup
 pre : N.take P.length = P
 par : ∀ x ∈ P, sc.names.lookup x = some .local \/ sc.names.lookup x = some .cell
 nofree : ∀ y ∈ sc.names, y.2 ≠ .free
theorem C5t {kindOf : Str -> Option NameKind} {x : Str} : ∀ {binds : List (Str × Value)} {m : Str -> Option Value}, (∀ v, (x, v) ∉ binds) -> bindL kindOf binds m x = m x
 | [], _, _ => rfl
 | (n, v) :: r, m, h => by
   unfold bindL
   rw [C5t fun w hw => h w (List.mem_cons_of_mem _ hw)]
   split
   . have : x ≠ n := by rintro rfl; exact h v List.mem_cons_self
     simp [this]
   . rfl
theorem C5u {kindOf : Str -> Option NameKind} {x : Str} : ∀ {binds : List (Str × Value)} {m : Str -> Option Value}, (∀ v, (x, v) ∉ binds) -> bindC kindOf binds m x = m x
 | [], _, _ => rfl
 | (n, v) :: r, m, h => by
   unfold bindC
   rw [C5u fun w hw => h w (List.mem_cons_of_mem _ hw)]
   split
   . rfl
   . have : x ≠ n := by rintro rfl; exact h v List.mem_cons_self
     simp [this]
theorem C5r {kindOf : Str -> Option NameKind} {x : Str} {v : Value} : ∀ {P : List Str} {vs : List Value} {i : Nat} {m : Str -> Option Value}, P.Nodup -> P[i]? = some x -> vs[i]? = some v -> kindOf x = some .local ->
   bindL kindOf (P.zip vs) m x = some v
 | [], _, _, _, _, h, _, _ => by simp at h
 | _ :: _, [], _, _, _, _, h, _ => by simp at h
 | p :: P, w :: vs, 0, m, nd, h1, h2, hk => by
   simp at h1 h2; subst h1; subst h2
   show bindL kindOf ((p, w) :: P.zip vs) m p = _
   unfold bindL
   rw [C5t fun v hv => (List.nodup_cons.mp nd).1 (List.of_mem_zip hv).1, if_pos hk]
   simp
 | p :: P, w :: vs, i + 1, m, nd, h1, h2, hk => by
   show bindL kindOf ((p, w) :: P.zip vs) m x = _
   unfold bindL
   exact C5r (i := i) (List.nodup_cons.mp nd).2 (by simpa using h1) (by simpa using h2) hk
theorem C6m {kindOf : Str -> Option NameKind} {x : Str} {v : Value} : ∀ {P : List Str} {vs : List Value} {i : Nat} {m : Str -> Option Value}, P.Nodup -> P[i]? = some x -> vs[i]? = some v -> kindOf x ≠ some .local ->
   bindC kindOf (P.zip vs) m x = some v
 | [], _, _, _, _, h, _, _ => by simp at h
 | _ :: _, [], _, _, _, _, h, _ => by simp at h
 | p :: P, w :: vs, 0, m, nd, h1, h2, hk => by
   simp at h1 h2; subst h1; subst h2
   show bindC kindOf ((p, w) :: P.zip vs) m p = _
   unfold bindC
   rw [C5u fun v hv => (List.nodup_cons.mp nd).1 (List.of_mem_zip hv).1, if_neg hk]
   simp
 | p :: P, w :: vs, i + 1, m, nd, h1, h2, hk => by
   show bindC kindOf ((p, w) :: P.zip vs) m x = _
   unfold bindC
   exact C6m (i := i) (List.nodup_cons.mp nd).2 (by simpa using h1) (by simpa using h2) hk
def A1t (N : List Str) (vs : List V) : St := vs.map some ++ List.replicate (N.length - vs.length) none
def A2j (CX : CXT) (P : Program) (w : World) (K : PySem.W.Frag) (mg : Str -> Option Value) (base : Heap) (N : List Str) (qual : Str) (scope : Scope) (f : Addr) (cd : Value) (A : Around) (outer : List Env) (s : Shared) (H : Hp) (E : XK) : Cx where
 prog := P
 w := w
 K := K
 mg := mg
 base := base
 A := A.deeper (envOfC qual scope s.heap.objs.size f cd)
 N := N
 s₀ := s
 H₀ := H
 env := envOfC qual scope s.heap.objs.size f cd
 outer := outer
 stack := envOfC qual scope s.heap.objs.size f cd :: outer
 ex := []
 calm := true
 fn := fun _ => true
 pn := []
 xe := fun e s' => wpAny (model P w) (A.deeper (envOfC qual scope s.heap.objs.size f cd)) (leaving (envOfC qual scope s.heap.objs.size f cd) e) (fun _ s'' => CX outer H s E e s'') (fun e' s'' => CX outer H s E e' s'') s'
theorem D4q {sc : Scope} {n : Nat} {x : Str} (h : sc.names.lookup x = some .cell) : ∃ c, (cellsFrom n sc.names []).lookup x = some c := by
 have q := PySem.W.cellsFrom_some sc.names n [] (.inl h)
 exact Option.isSome_iff_exists.mp q
theorem C6e {CX : CXT} {P : Program} {w : World} {K : PySem.W.Frag} {mg : Str -> Option Value} {base : Heap} {N ps : List Str} {qual : Str} {scope : Scope} {f : Addr} {cd : Value} {A : Around} {outer : List Env} {s s1 : Shared} {H : Hp} {E : XK} {us : List Value} {vs : List V}
   (S : FnScope N ps scope) (hd : A.handled = none) (e0 : Env0 P w K mg base A outer s H) (hl : vs.length = ps.length) (r : Vals vs us)
   (x : InCallC s s.heap.objs.size (bindL (envOfC qual scope s.heap.objs.size f cd).kindOf (ps.zip us) fun _ => none) (cellsFrom (s.heap.objs.size + 1) scope.names []) (bindC (envOfC qual scope s.heap.objs.size f cd).kindOf (ps.zip us) fun _ => none) s1) :
   Inv (A2j CX P w K mg base N qual scope f cd A outer s H E) [] (A1t N vs) H s1 := by
 have hpl : ps.length <= N.length := by have := congrArg List.length S.pre; rw [List.length_take] at this; omega
 obtain ⟨h1, tk, rfl, hk⟩ := x.done
 have noA : ∀ b : Addr, b ∉ (A2j CX P w K mg base N qual scope f cd A outer s H E).ex := fun b z => absurd (show b ∈ ([] : List Addr) from z) (by simp)
 refine ⟨⟨e0.mod, S.kind, rfl, rfl, Nat.le_refl _, fun y z c h1 h2 => ?_, fun y hy => ?_, fun y c _ h => ?_, fun _ => hd, Around.frames_deeper e0.frames, .inr ⟨rfl, rfl⟩, fun b z => absurd z (noA b), e0.bs, e0.bsz, fun b _ _ => noA b, fun b z => absurd z (noA b), e0.funs, e0.frf⟩,
   rfl, e0.bare, Un.kept hk, ⟨_, x.toInCall.ns, fun i y v h1 h2 h3 => ?_⟩, fun y c h => ⟨_, x.cell y c h⟩, e0.hok.fresh (Nat.le_refl _), fun y c h => ?_, fun p hp => absurd (show p ∈ ([] : List (Addr × Obj)) from hp) (by simp), e0.hok.kept hk, ?_⟩
 . exact name_of_addr x.apart (PySem.mem_of_lookup h1) (PySem.mem_of_lookup h2)
 . have hy : scope.names.lookup y = some .cell \/ scope.names.lookup y = some .free := hy
   rcases hy with hy | hy
   . exact D4q hy
   . exact absurd rfl (S.nofree _ (PySem.mem_of_lookup hy))
 . exact Nat.le_of_lt (x.above y c (PySem.mem_of_lookup h))
 . have hi : i < vs.length := by
     unfold A1t at h2
     by_cases hi : i < vs.length
     . exact hi
     . rw [List.getElem?_append_right (by simpa using hi)] at h2
       rw [List.getElem?_replicate] at h2
       split at h2 <;> cases h2
   have ha : vs[i]? = some v := by
     unfold A1t at h2
     rw [List.getElem?_append_left (by simpa using hi), List.getElem?_map] at h2
     cases e : vs[i]? with
     | none => rw [e] at h2; cases h2
     | some a => rw [e] at h2; cases h2; rfl
   obtain ⟨u, hu, rv⟩ := r.get ha
   have hp : ps[i]? = some y := by
     rw [<- S.pre, List.getElem?_take_of_lt (by omega)]; exact h1
   have ndP : ps.Nodup := by rw [<- S.pre]; exact S.nd.sublist (List.take_sublist _ _)
   refine ⟨u, rv, ?_⟩
   rcases S.par y (List.mem_of_getElem? hp) with k | k
   . exact .inl ⟨k, C5r ndP hp hu k⟩
   . obtain ⟨c, e⟩ := D4q (n := s.heap.objs.size + 1) k
     refine .inr ⟨.inl k, c, e, ?_⟩
     have q := x.cell y c e
     rw [C6m ndP hp hu (by show scope.names.lookup y ≠ _; rw [k]; decide)] at q
     exact q
 . exact e0.hok.fresh (Nat.le_of_lt (x.above y c (PySem.mem_of_lookup h)))
 . unfold A1t
   show _ = N.length
   rw [List.length_append, List.length_map, List.length_replicate]
   omega
theorem J6q {CX : CXT} {P : Program} {w : World} {K : PySem.W.Frag} {mg : Str -> Option Value} {base : Heap} {k : Nat} {f : Addr} {name qual : Str} {params : Arguments} {body : List Stmt} {scope : Scope} {dV kV doc pm cdv ct oc : Value} {an od : Option Addr}
   {osl : Array (Option Value)} {N ps : List Str} {sp : Sp} (lk : K.lookup f = some ⟨oc, od, .func (PySem.W.fnOf name qual params body scope dV kV doc pm an cdv ct), osl⟩) (hcd : PySem.W.codeIn K cdv qual = true) (S : FnScope N ps scope)
   (len : ∀ vs H Q E, sp vs H Q E -> vs.length = ps.length)
   (hbody : ∀ (A : Around) (outer : List Env) (s : Shared) (H : Hp) (vs : List V) (Q : VK) (E : XK), Room k (A.deeper (envOfC qual scope s.heap.objs.size f cdv)) -> sp vs H Q E ->
     ∃ t, PSs (A2j CX P w K mg base N qual scope f cdv A outer s H E) body t /\ t { nx := fun _ H' => Q .non H', rt := Q } (A1t N vs) H) :
   FnOk P w K mg base CX (k + 1) f (PySem.W.fnOf name qual params body scope dV kV doc pm an cdv ct) ps sp := by
 refine ⟨len, fun A outer s H args us vs Q E hr e0 hb r hsp => ?_⟩
 have hl := len _ _ _ _ hsp
 have KX : K.In s.heap := e0.mod.kin.keeps fun b o e => (e0.bs b o e).1
 have lim : s.heap.NoLimit := e0.mod.nolimit.keeps fun b o e => (e0.bs b o e).1
 have hkind : ∀ y ∈ ps.zip us, scope.names.lookup y.1 = some .local \/ (scope.names.lookup y.1 = some .cell /\ ((cellsFrom (s.heap.objs.size + 1) scope.names []).lookup y.1).isSome = true) := fun ⟨n, v⟩ hy => by
   rcases S.par n (List.of_mem_zip hy).1 with q | q
   . exact .inl q
   . exact .inr ⟨q, PySem.W.cellsFrom_some _ _ _ (.inl q)⟩
 refine codeAny_call_function hr.depth (KX _ _ lk) rfl S.co S.gen rfl (PySem.W.codeRec_of KX hcd) (hb _ _ _ _ ?_)
 refine wpAny_newFunctionEnv_cells S.kind hkind fun env he s1 x => ?_
 subst he
 refine ⟨lim.keeps x.toInCall.keep, codeAny_func ?_⟩
 obtain ⟨t, ht, hq⟩ := hbody A outer s H vs Q E (hr.deeper _) hsp
 have I : Inv (A2j CX P w K mg base N qual scope f cdv A outer s H E) [] (A1t N vs) H s1 := C6e S hr.hd e0 hl r x
 refine wpAny_mono (ht [] s1 (A1t N vs) H _ I hq) (fun fl s' hs => ?_) fun e s' hs => hs
 have fin : ∀ {σ' : St} {H' : Hp} {v : V} {u : Value}, Inv (A2j CX P w K mg base N qual scope f cdv A outer s H E) [] σ' H' s' -> RelV v u -> Q v H' -> CE outer P w H s Q u s' :=
   fun {σ' H' v u} J rv q => ⟨v, H', J.os, J.bare, J.base, J.hok, rv, q⟩
 cases fl with
 | ret u =>
   obtain ⟨v, σ', H', J, rv, q⟩ := hs
   exact fin J rv q
 | next =>
   obtain ⟨σ', H', J, q⟩ := hs
   exact fin (v := V.non) (u := Value.none) J rfl q
 | brk =>
   obtain ⟨_, _, _, q⟩ := hs
   exact False.elim q
 | cont =>
   obtain ⟨_, _, _, q⟩ := hs
   exact False.elim q
section
variable {X : Cx} {x : Str} {p pos : Pos} {e : Expr} {es : List Expr} {t : TA} {id T : String} {r : List V -> Hp -> VK -> Prop}
def tCB (r : List V -> Hp -> VK -> Prop) (t : TA) : TE := fun σ H Q => t σ H fun vs H1 => r vs H1 Q
theorem V0 (hc : A2u X (.builtin id) r) (hg : Gl X x) (hm : X.mg x = none) (hv : bootBuiltins x = some (.builtin id)) (ha : PA X (e :: es) t) (hn : x ≠ "__name__" := by decide) (hdb : (x == ("__debug__" : Str)) = false := by decide)
   (he : starEach (e :: es) X.env = (false, eval e X.env) :: starEach es X.env := by rfl) (hpl : (backTo pos (starEach es X.env)).any (·.1) = false := by rfl) : PE X (.Call (.Name x p) (e :: es) [] pos) (tCB r t) := by
 intro pins s σ H Q I h
 refine wpAny_Call_Name_kw (C7y I hg hm hv ?_ hn hdb)
 exact PyProof.Rows.callWith_builtin1 (thn (ha pos pins s σ H _ I h) fun us s1 ⟨vs, H1, I1, r1, q1⟩ => hc pins s1 σ H1 vs us Q I1 r1 q1) he hpl
theorem U5 (hc : A2u X (.type T) r) (hg : Gl X x) (hm : X.mg x = none) (hv : bootBuiltins x = some (.type T)) (ha : PA X (e :: es) t) (hn : x ≠ "__name__" := by decide) (hdb : (x == ("__debug__" : Str)) = false := by decide)
   (he : starEach (e :: es) X.env = (false, eval e X.env) :: starEach es X.env := by rfl) (hpl : (backTo pos (starEach es X.env)).any (·.1) = false := by rfl) : PE X (.Call (.Name x p) (e :: es) [] pos) (tCB r t) := by
 intro pins s σ H Q I h
 refine wpAny_Call_Name_kw (C7y I hg hm hv ?_ hn hdb)
 exact PyProof.Rows.callWith_type1 (thn (ha pos pins s σ H _ I h) fun us s1 ⟨vs, H1, I1, r1, q1⟩ => hc pins s1 σ H1 vs us Q I1 r1 q1) he hpl
end
end L2
namespace HT
open PySem PyProof.Rows
section
open PySem.SeqAt
open PySem.AutoSeq1 (wpAny_loadPart')
open PySem.MeetsSeq PySem.MeetsSeq2 PySem.MeetsSeq3
end
section
variable {prog : Program} {w : World} {A : Around} {E : Value -> Shared -> Prop} {s : Shared}
end
end HT
namespace L2
open PySem PySem.Spec PyProof.Rows
section
variable {X : Cx} {e : Expr} {te : TE} {lo hi : Option Expr} {tl th : TO} {pos p2 : Pos}
end
def ixN (n : Nat) (i : Int) : Option Nat := if 0 <= i then (if i < n then some i.toNat else none) else if -(n : Int) <= i then some (i + n).toNat else none
def atI {α : Type} (xs : List α) (i : Int) : Option α := (ixN xs.length i).bind fun j => xs[j]?
theorem V3r {n : Nat} {i : Int} {j : Nat} (h : ixN n i = some j) : seqIndex? i n = some j /\ j < n /\ -(n : Int) <= i /\ i < n := by
 unfold ixN at h
 by_cases h0 : 0 <= i
 . rw [if_pos h0] at h
   by_cases h1 : i < n
   . rw [if_pos h1] at h
     have e : i.toNat = j := Option.some.inj h
     exact ⟨by rw [seqIndex_of h0 h1, e], by omega, by omega, h1⟩
   . rw [if_neg h1] at h; cases h
 . rw [if_neg h0] at h
   by_cases h1 : -(n : Int) <= i
   . rw [if_pos h1] at h
     have e : (i + n).toNat = j := Option.some.inj h
     exact ⟨by rw [seqIndex_neg (by omega) h1, e], by omega, h1, by omega⟩
   . rw [if_neg h1] at h; cases h
theorem G9g {α : Type} {xs : List α} {i : Int} {v : α} (h : atI xs i = some v) : ∃ j, seqIndex? i xs.length = some j /\ xs[j]? = some v /\ j < xs.length /\ -(xs.length : Int) <= i /\ i < xs.length := by
 unfold atI at h
 cases e : ixN xs.length i with
 | none => rw [e] at h; cases h
 | some j =>
   rw [e] at h
   obtain ⟨h1, h2, h3, h4⟩ := V3r e
   exact ⟨j, h1, h, h2, h3, h4⟩
theorem G7 {α : Type} {xs : List α} {j : Nat} {v : α} (h : xs[j]? = some v) : atI xs (j : Int) = some v := by
 have hj : j < xs.length := (List.getElem?_eq_some_iff.mp h).1
 have e : ixN xs.length (j : Int) = some j := by
   unfold ixN
   rw [if_pos (by omega), if_pos (by omega)]; simp
 unfold atI; rw [e]; exact h
def V1p (b : Expr) : Prop := ∀ o i, subscripted b false o i = operate [o, i] (getItem o i)
def IxR (X : Cx) (r : R2) : Prop :=
 ∀ (value slice : Expr) (pins : List (Addr × Obj)) (s : Shared) (σ : St) (H : Hp) (x y : V) (v u : Value) (Q : VK), Inv X pins σ H s -> RelV x v -> RelV y u -> r x y H Q ->
   subscripted slice false v u = operate [v, u] (getItem v u) -> wpAny (model X.prog X.w) X.A (subscriptTail value slice v u) (EP X pins σ Q) X.xe s
section
variable {X : Cx} {a b : Expr} {ta tb : TE} {pos : Pos}
theorem D7 {r : R2} (hr : IxR X r) (ha : PE X a ta) (hb : PE X b tb) (hs : V1p b) : PE X (.Subscript a b pos) (tOp r ta tb) := by
 intro pins s σ H Q I h
 exact Subscript_ (V7x ha hb I h fun v u s2 x y H2 I2 rx ry q => hr a b pins s2 σ H2 x y v u Q I2 rx ry q (hs _ _))
def Y4f (K : PySem.W.Frag) : R2 := fun x y H Q => ∃ p xs i v, x = .ref p /\ y = .int i /\ SqL K H p xs /\ atI xs i = some v /\ Q v H
def Y5p (K : PySem.W.Frag) : R2 := fun x y H Q => ∃ p xs i v, x = .ref p /\ y = .int i /\ SqT K H p xs /\ atI xs i = some v /\ Q v H
theorem A1b : IxR X (Y4f X.K) := by
 intro value slice pins s σ H x y v u Q I rx ry h hs
 obtain ⟨p, xs, i, z, rfl, rfl, hq, he, q⟩ := h
 cases rx
 obtain ⟨t, rfl⟩ := ry
 obtain ⟨its, r, pl, hz⟩ := I.list hq
 obtain ⟨j, h1, h2, h3, h4, h5⟩ := G9g he
 obtain ⟨w, ew, rw'⟩ := r.get h2
 have hl := r.length
 have hn := C8e
 have fin : EP X pins σ Q w s := ⟨z, H, I, rw', q⟩
 by_cases h0 : 0 <= i
 . have hj : i.toNat = j := by
     rw [seqIndex_of h0 h5] at h1
     exact Option.some.inj h1
   exact item_listR pl.isList h0 (by omega) (by rw [hj]; simpa using ew) fin hs
 . have hj : (i + (its.toArray.size : Int)).toNat = j := by
     rw [seqIndex_neg (by omega) h4] at h1
     rw [List.size_toArray, <- hl]
     exact Option.some.inj h1
   exact subscriptTail_builtinR (x := w) pl.isList.typeIs slot_list_getitem.lookup
     (wpAny_getItem_list_neg (Q := fun r s' => r = w /\ EP X pins σ Q r s') pl.isList (by omega) (by rw [List.size_toArray] <;> omega) (by omega) (by rw [hj]; simpa using ew) ⟨rfl, fin⟩) hs
theorem D4 : IxR X (Y5p X.K) := by
 intro value slice pins s σ H x y v u Q I rx ry h hs
 obtain ⟨p, xs, i, z, rfl, rfl, hq, he, q⟩ := h
 cases rx
 obtain ⟨t, rfl⟩ := ry
 obtain ⟨its, r, pl, hz⟩ := I.tuple hq
 obtain ⟨j, h1, h2, h3, h4, h5⟩ := G9g he
 obtain ⟨w, ew, rw'⟩ := r.get h2
 have hl := r.length
 have hn := C8e
 have fin : EP X pins σ Q w s := ⟨z, H, I, rw', q⟩
 exact subscriptTail_builtinR (x := w) pl.typeIs slot_tuple_getitem.lookup
   (getItem_tuple (j := j) (Q := fun r s' => r = w /\ EP X pins σ Q r s') pl (by omega) (by omega) (by rw [List.size_toArray, <- hl]; exact h1) (by simpa using ew) ⟨rfl, fin⟩) hs
def B2m : V -> Bool
 | .non => true
 | .bl _ => true
 | .int _ => true
 | .str _ => true
 | _ => false
def eqV : V -> V -> Bool
 | .non, .non => true
 | .bl a, .bl b => a == b
 | .bl a, .int b => (if a then 1 else 0) == b
 | .int a, .bl b => a == (if b then 1 else 0)
 | .int a, .int b => a == b
 | .str a, .str b => a == b
 | _, _ => false
theorem V9h {A : Around} {s : Shared} {y x : V} {u v : Value} (ry : RelV y u) (rx : RelV x v) (fy : B2m y = true) (fx : B2m x = true) : SeqAt.EqAt A s u v (eqV y x) := by
 cases y with
 | non =>
   cases ry
   cases x with
   | non => cases rx; exact SeqAt.EqAt.same _
   | bl b => cases rx; exact SeqAt.EqAt.none_bool b
   | int b => obtain ⟨t, rfl⟩ := rx; exact SeqAt.EqAt.none_int b t
   | str b => obtain ⟨t, rfl⟩ := rx; exact SeqAt.EqAt.none_str b t
   | _ => exact absurd (show false = true from fx) Bool.false_ne_true
 | bl a =>
   cases ry
   cases x with
   | non => cases rx; exact SeqAt.EqAt.bool_none a
   | bl b => cases rx; exact SeqAt.EqAt.bool_bool a b
   | int b => obtain ⟨t, rfl⟩ := rx; exact SeqAt.EqAt.bool_int a b t
   | str b => obtain ⟨t, rfl⟩ := rx; exact SeqAt.EqAt.bool_str a b t
   | _ => exact absurd (show false = true from fx) Bool.false_ne_true
 | int a =>
   obtain ⟨t', rfl⟩ := ry
   cases x with
   | non => cases rx; exact SeqAt.EqAt.int_none a t'
   | bl b => cases rx; exact SeqAt.EqAt.int_bool a t' b
   | int b => obtain ⟨t, rfl⟩ := rx; exact SeqAt.EqAt.int_int a t' b t
   | str b => obtain ⟨t, rfl⟩ := rx; exact SeqAt.EqAt.int_str a t' b t
   | _ => exact absurd (show false = true from fx) Bool.false_ne_true
 | str a =>
   obtain ⟨t', rfl⟩ := ry
   cases x with
   | non => cases rx; exact SeqAt.EqAt.str_none a t'
   | bl b => cases rx; exact SeqAt.EqAt.str_bool a t' b
   | int b => obtain ⟨t, rfl⟩ := rx; exact SeqAt.EqAt.str_int a t' b t
   | str b => obtain ⟨t, rfl⟩ := rx; exact SeqAt.EqAt.str_str a t' b t
   | _ => exact absurd (show false = true from fx) Bool.false_ne_true
 | _ => exact absurd (show false = true from fy) Bool.false_ne_true
def eqU (x : V) (u : Value) : Bool := match u with
 | .none => eqV .non x
 | .bool b => eqV (.bl b) x
 | .int i _ => eqV (.int i) x
 | .str z _ => eqV (.str z) x
 | _ => false
theorem J8t {x y : V} {u : Value} (r : RelV y u) (f : B2m y = true) : eqU x u = eqV y x := by
 cases y with
 | non => cases r; rfl
 | bl b => cases r; rfl
 | int i => obtain ⟨t, rfl⟩ := r; rfl
 | str z => obtain ⟨t, rfl⟩ := r; rfl
 | _ => exact absurd (show false = true from f) Bool.false_ne_true
theorem B2f {x : V} : ∀ {xs : List V} {us : List Value}, Vals xs us -> xs.all B2m = true -> us.any (eqU x) = xs.any fun y => eqV y x
 | _, _, .nil, _ => rfl
 | y :: xs, u :: us, .cons r t, f => by
   rw [List.all_cons, Bool.and_eq_true] at f
   rw [List.any_cons, List.any_cons, J8t r f.1, B2f t f.2]
theorem A7b {A : Around} {s : Shared} {x : V} {v : Value} (rx : RelV x v) (fx : B2m x = true) : ∀ {xs : List V} {us : List Value}, Vals xs us -> xs.all B2m = true -> ∀ u ∈ us, SeqAt.EqAt A s u v (eqU x u)
 | _, _, .nil, _ => fun u hu => by cases hu
 | y :: xs, u :: us, .cons r t, f => fun u' hu => by
   rw [List.all_cons, Bool.and_eq_true] at f
   rcases List.mem_cons.mp hu with rfl | hu
   . rw [J8t r f.1]; exact V9h r rx f.1 fx
   . exact A7b rx fx t f.2 u' hu
def inV (x : V) (xs : List V) : Bool := xs.any fun y => eqV y x
def rIn (K : PySem.W.Frag) (neg : Bool) : R2 := fun x y H Q => ∃ p xs, y = .ref p /\ (SqL K H p xs \/ SqT K H p xs) /\ B2m x = true /\ xs.all B2m = true /\ Q (.bl (if neg then !inV x xs else inV x xs)) H
theorem A1r : OpR X (compareOp .In) (rIn X.K false) := by
 intro pins s σ H x y v u Q I rx ry h
 obtain ⟨p, xs, rfl, hq, fx, fs, q⟩ := h
 cases ry
 rcases hq with hq | hq
 . obtain ⟨its, r, pl, hz⟩ := I.list hq
   refine SeqAt.in_listAt (eqU x) pl.isList (fun w hw => A7b rx fx r fs w (by simpa using hw)) ⟨.bl _, H, I, rfl, ?_⟩
   rw [show its.toArray.any (eqU x) = its.any (eqU x) by simp, B2f r fs]
   exact q
 . obtain ⟨its, r, pl, hz⟩ := I.tuple hq
   refine SeqAt.in_tupleAt (eqU x) pl (fun w hw => A7b rx fx r fs w (by simpa using hw)) ⟨.bl _, H, I, rfl, ?_⟩
   rw [show its.toArray.any (eqU x) = its.any (eqU x) by simp, B2f r fs]
   exact q
theorem C8r : OpR X (compareOp .NotIn) (rIn X.K true) := by
 intro pins s σ H x y v u Q I rx ry h
 obtain ⟨p, xs, rfl, hq, fx, fs, q⟩ := h
 cases ry
 rcases hq with hq | hq
 . obtain ⟨its, r, pl, hz⟩ := I.list hq
   refine SeqAt.notIn_listAt (eqU x) pl.isList (fun w hw => A7b rx fx r fs w (by simpa using hw)) ⟨.bl _, H, I, rfl, ?_⟩
   rw [show its.toArray.any (eqU x) = its.any (eqU x) by simp, B2f r fs]
   exact q
 . obtain ⟨its, r, pl, hz⟩ := I.tuple hq
   refine SeqAt.notIn_tupleAt (eqU x) pl (fun w hw => A7b rx fx r fs w (by simpa using hw)) ⟨.bl _, H, I, rfl, ?_⟩
   rw [show its.toArray.any (eqU x) = its.any (eqU x) by simp, B2f r fs]
   exact q
theorem C8h : A2u X (.builtin "len") (fun xs H Q => ∃ p ys, xs = [.ref p] /\ (SqL X.K H p ys \/ SqT X.K H p ys) /\ Q (.int ys.length) H) := by
 intro pins s σ H xs us Q I r h
 obtain ⟨p, ys, rfl, hq, q⟩ := h
 obtain ⟨u, rfl, rx⟩ := B8x r
 cases rx
 have hn := C8e
 rcases hq with hq | hq
 . obtain ⟨its, r', pl, hz⟩ := I.list hq
   have hlen := r'.length
   exact Calls.call_len_list pl.isList (by simp only [List.size_toArray] <;> omega) ⟨.int ys.length, H, I.tok _, ⟨s.toks + 1, by rw [List.size_toArray, hlen]⟩, q⟩
 . obtain ⟨its, r', pl, hz⟩ := I.tuple hq
   have hlen := r'.length
   exact len_tuple pl (by simp only [List.size_toArray] <;> omega) ⟨.int ys.length, H, I.tok _, ⟨s.toks + 1, by rw [List.size_toArray, hlen]⟩, q⟩
theorem A1d : A2u X (.builtin "len") (fun xs H Q => ∃ z, xs = [.str z] /\ z.length <= sizeLine /\ Q (.int z.length) H) := by
 intro pins s σ H xs us Q I r h
 obtain ⟨z, rfl, hz, q⟩ := h
 obtain ⟨u, rfl, t, rfl⟩ := B8x r
 have hn := C8e
 exact len_str (by omega) ⟨.int z.length, H, I.tok _, ⟨_, rfl⟩, q⟩
theorem A4f : A2u X (.type "list") (fun xs H Q => ∃ p ys, xs = [.ref p] /\ (SqL X.K H p ys \/ SqT X.K H p ys) /\ ∀ l, H l = none -> Q (.ref l) (upd H l (.lst ys))) := by
 intro pins s σ H xs us Q I r h
 obtain ⟨p, ys, rfl, hq, q⟩ := h
 obtain ⟨u, rfl, rx⟩ := B8x r
 cases rx
 have fin : ∀ (its : List Value), Vals ys its -> ys.length <= sizeLine -> ∀ (h' : Heap) (c' : Nat), (∀ b o', s.heap.get? b = some o' -> h'.get? b = some o') ->
     h'.get? s.heap.objs.size = some { cls := .type "list", dict := none, data := .seq its.toArray c', slots := #[] } -> EP X pins σ Q (.ref s.heap.objs.size) { s with heap := h' } := fun its r' hz h' c' kp e =>
   ⟨.ref s.heap.objs.size, _, I.laid (t' := s.toks) kp (Nat.le_refl _) (show ObjOk X.prog X.w _ h' _ (.lst ys) from ⟨hz, its, c', r', e⟩), rfl, q _ (I.hok.fresh (Nat.le_refl _))⟩
 rcases hq with hq | hq
 . obtain ⟨its, r', pl, hz⟩ := I.list hq
   have hlen := r'.length
   obtain ⟨o, ho, hc, n, hd⟩ := pl.isList
   exact call_list_seq p (.inl rfl) ho hc hd (fun h' c' kp e => fin its r' hz h' c' kp e) (by simp only [List.size_toArray] <;> omega)
 . obtain ⟨its, r', pl, hz⟩ := I.tuple hq
   have hlen := r'.length
   obtain ⟨o, ho, hc, n, hd⟩ := pl
   exact call_list_seq p (.inr rfl) ho hc hd (fun h' c' kp e => fin its r' hz h' c' kp e) (by simp only [List.size_toArray] <;> omega)
variable {o e : Expr} {es : List Expr} {to : TE} {t : TA} {name : Str} {apos cpos : Pos} {T id : String} {r : V -> List V -> Hp -> VK -> Prop}
end
def MtM (X : Cx) (id : String) (r : V -> List V -> Hp -> VK -> Prop) : Prop :=
 ∀ (pins : List (Addr × Obj)) (s : Shared) (σ : St) (H : Hp) (x : V) (xs : List V) (v : Value) (us : List Value) (Q : VK), Inv X pins σ H s -> RelV x v -> Vals xs us -> r x xs H Q ->
   wpAny (model X.prog X.w) X.A (call (.builtin id) (v :: us)) (EP X pins σ Q) X.xe s
theorem Vals.one : ∀ {x : V} {us : List Value}, Vals [x] us -> ∃ u, us = [u] /\ RelV x u
 | _, _, .cons r .nil => ⟨_, rfl, r⟩
theorem Vals.two : ∀ {x y : V} {us : List Value}, Vals [x, y] us -> ∃ u v, us = [u, v] /\ RelV x u /\ RelV y v
 | _, _, _, .cons r (.cons q .nil) => ⟨_, _, rfl, r, q⟩
theorem Vals.reverse {xs : List V} {us : List Value} (h : Vals xs us) : Vals xs.reverse us.reverse := by
 induction h with
 | nil => exact .nil
 | cons r t ih => rw [List.reverse_cons, List.reverse_cons]; exact Vals.append ih (.cons r .nil)
theorem Vals.rep {xs : List V} {us : List Value} (h : Vals xs us) : ∀ k : Nat, Vals (List.replicate k xs).flatten (List.replicate k us).flatten
 | 0 => .nil
 | k + 1 => by
   rw [List.replicate_succ, List.replicate_succ, List.flatten_cons, List.flatten_cons]
   exact Vals.append h (Vals.rep h k)
theorem C6b (its : List Value) : ∀ (k : Nat) (acc : List Value),
   List.foldl (fun x1 x2 => x1 ++ x2) acc.toArray (List.replicate k its.toArray) = (acc ++ (List.replicate k its).flatten).toArray
 | 0, acc => by simp
 | k + 1, acc => by
   have e : acc.toArray ++ its.toArray = (acc ++ its).toArray := by simp
   have e2 : (acc ++ its) ++ (List.replicate k its).flatten = acc ++ (List.replicate (k + 1) its).flatten := by
     rw [List.replicate_succ, List.flatten_cons, List.append_assoc]
   rw [<- e2, <- C6b its k (acc ++ its), <- e, List.replicate_succ, List.foldl_cons]
section
variable {X : Cx} {pins : List (Addr × Obj)} {σ : St} {H : Hp} {s : Shared} {l b : Addr} {xs ys zs : List V}
theorem Inv.lset {its its' : List Value} {n : Nat} {f : Array Value -> Array Value} {t' : Nat} (I : Inv X pins σ H s) (hH : H l = some (.lst xs))
   (e : s.heap.get? l = some { cls := .type "list", data := .seq its.toArray n }) (hf : f its.toArray = its'.toArray) (hv : Vals ys its') (hz : ys.length <= sizeLine) :
   Inv X pins σ (upd H l (.lst ys)) { s with heap := s.heap.update l (Obj.mapSeq f), toks := t' } := by
 have q := PySem.IsL.update e f
 rw [hf] at q
 refine I.write (x := l) (e := l) (by rw [hH]; exact trivial) (.inl rfl) (fun b' u hb hu => (Heap.get?_update_other s.heap (Obj.mapSeq f) (Ne.symm hb)).trans hu) ⟨_, q⟩ ?_
 exact ⟨hz, its', _, hv, q⟩
theorem Inv.lnew {its : List Value} {t' : Nat} (I : Inv X pins σ H s) (hv : Vals ys its) (hz : ys.length <= sizeLine) :
   Inv X pins σ (upd H s.heap.objs.size (.lst ys)) { s with heap := s.heap.push { cls := .type "list", data := .seq its.toArray }, toks := t' } :=
 I.laid (fun _ _ q => Heap.get?_push_of_some _ q) (Nat.le_refl _) ⟨hz, its, 0, hv, Heap.get?_push_size _ rfl⟩
theorem Inv.fresh (I : Inv X pins σ H s) : H s.heap.objs.size = none := I.hok.fresh (Nat.le_refl _)
theorem Inv.lstM (I : Inv X pins σ H s) (hH : H l = some (.lst xs)) : xs.length <= sizeLine /\ ∃ (its : List Value) (n : Nat), Vals xs its /\ xs.length = its.length /\ s.heap.get? l = some { cls := .type "list", data := .seq its.toArray n } := by
 obtain ⟨z, its, n, r, e⟩ := I.hok l _ hH
 exact ⟨z, its, n, r, r.length, e⟩
theorem J6r {n : Nat} (h : n <= sizeLine) : Builtin.List.listTooLong n = false := by
 unfold Builtin.List.listTooLong
 exact decide_eq_false (by omega)
end
section
variable {X : Cx}
def V2f : V -> List V -> Hp -> VK -> Prop := fun x vs H Q => ∃ l xs y, x = .ref l /\ vs = [y] /\ H l = some (.lst xs) /\ xs.length < sizeLine /\ Q .non (upd H l (.lst (xs ++ [y])))
theorem B3d : MtM X "list.append" V2f := by
 intro pins s σ H x vs v us Q I rx rv h
 obtain ⟨l, xs, y, rfl, rfl, hH, hz, q⟩ := h
 cases rx
 obtain ⟨u, rfl, ru⟩ := rv.one
 obtain ⟨z, its, n, r, hl, e⟩ := I.lstM hH
 refine call_meets F.slot_list_append ⟨_, e, rfl⟩ F.entry_list_append (F.args_list_append_2 _ _) (PySem.list_append l its.toArray n u (by rw [List.size_toArray]; omega)) ⟨e, ?_⟩
 refine ⟨.non, _, I.lset (its' := its ++ [u]) hH e (by simp) (r.append (.cons ru .nil)) ?_, rfl, q⟩
 rw [List.length_append, List.length_singleton]
 omega
def Y9g : R2 := fun x y H Q => ∃ l b xs zs, x = .ref l /\ y = .ref b /\ H l = some (.lst xs) /\ H b = some (.lst zs) /\ xs.length + zs.length <= sizeLine /\ ∀ p, H p = none -> Q (.ref p) (upd H p (.lst (xs ++ zs)))
theorem B8n : OpR X (binaryOp .Add) Y9g := by
 intro pins s σ H x y v u Q I rx ry h
 obtain ⟨l, b, xs, zs, rfl, rfl, hH, hB, hz, q⟩ := h
 cases rx
 cases ry
 obtain ⟨z, its, n, r, hl, e⟩ := I.lstM hH
 obtain ⟨z2, its2, n2, r2, hl2, e2⟩ := I.lstM hB
 refine PySem.P.add_list e e2 ?_ (by rw [List.size_toArray, List.size_toArray]; omega)
 have ea : its.toArray ++ its2.toArray = (its ++ its2).toArray := by simp
 rw [ea]
 exact ⟨.ref _, _, I.lnew (t' := s.toks) (r.append r2) (by rw [List.length_append]; omega), rfl, q _ I.fresh⟩
def Y9k : R2 := fun x y H Q => ∃ l k xs, x = .ref l /\ y = .int k /\ H l = some (.lst xs) /\ -(2 ^ 63) <= k /\ k < 2 ^ 63 /\ xs.length * k.toNat <= sizeLine /\
 ∀ p, H p = none -> Q (.ref p) (upd H p (.lst (List.replicate k.toNat xs).flatten))
theorem G9f {α : Type} (xs : List α) (k : Nat) : (List.replicate k xs).flatten.length = k * xs.length := by
 induction k with
 | zero => simp
 | succ k ih => rw [List.replicate_succ, List.flatten_cons, List.length_append, ih, Nat.succ_mul, Nat.add_comm]
theorem D8b : OpR X (binaryOp .Mult) Y9k := by
 intro pins s σ H x y v u Q I rx ry h
 obtain ⟨l, k, xs, rfl, rfl, hH, h1, h2, hz, q⟩ := h
 cases rx
 obtain ⟨t, rfl⟩ := ry
 obtain ⟨z, its, n, r, hl, e⟩ := I.lstM hH
 have hlen : its.toArray.size * k.toNat <= sizeLine := by rw [List.size_toArray, <- hl]; exact hz
 have hcap : ¬ its.toArray.size * k.toNat > (2 ^ 63 - 1) / 8 := by
   have : (sizeLine : Nat) <= (2 ^ 63 - 1) / 8 := by decide
   omega
 have hfit : ¬ (!Builtin.List.listFitsIndex k) = true := by
   rw [fitsIndex_both h1 h2]
   exact Bool.false_ne_true
 have hlong : ¬ Builtin.List.listTooLong (its.toArray.size * k.toNat) = true := by
   rw [J6r hlen]
   exact Bool.false_ne_true
 have hnew : List.foldl (fun x1 x2 => x1 ++ x2) #[] (List.replicate (if its.toArray.isEmpty = true then 0 else k.toNat) its.toArray) = (List.replicate k.toNat its).flatten.toArray := by
   have f0 : ∀ m : Nat, List.foldl (fun x1 x2 => x1 ++ x2) #[] (List.replicate m its.toArray) = (List.replicate m its).flatten.toArray := fun m => by
     have := C6b its m []
     rw [List.nil_append] at this
     exact this
   rw [f0]
   cases its with
   | nil => simp
   | cons a r' => rw [if_neg (by simp)]
 refine wpAny_binaryOp_repeat_ref (T := "list") (U := "int") (by decide) ⟨_, e, rfl⟩ (fun s' => typeIs_int s' k t) noFill_list_mul F.fills_int_mul F.slot_int_rmul repeat_list F.slot_int_index.lookup
   (call_meets F.slot_int_rmul (typeIs_int s k t) F.entry_int_rmul (F.args_int_rmul_2 _ _) (int___rmul___int_list k t l its.toArray n)
     ⟨e, rfl, ⟨_, e, rfl⟩, call_meets F.slot_list_mul ⟨_, e, rfl⟩ F.entry_list_mul (F.args_list_mul_2 _ _) (AutoListH.list___mul___list_int_3 l its.toArray n k t hfit hcap hlong) ⟨e, ?_⟩⟩)
 rw [hnew]
 exact ⟨.ref _, _, I.lnew (t' := s.toks) (r.rep k.toNat) (by rw [G9f, Nat.mul_comm]; exact hz), rfl, q _ I.fresh⟩
end
section
variable {prog : Program} {w : World} {A : Around} {E : Value -> Shared -> Prop} {s : Shared}
end
section
variable {X : Cx}
end
end L2
namespace Att
open PySem PySem.W PySem.Calls PyProof.Rows
theorem B7t {P : Params} {h : Heap} : ∀ (ns : List Int) (vs : List Value), WellAll P h vs (ns.map WData.int) -> IntsAre vs ns := by
 intro ns
 induction ns with
 | nil =>
   intro vs w
   rw [List.map_nil] at w
   cases w
   exact .nil
 | cons n ns ih =>
   intro vs w
   rw [List.map_cons] at w
   cases w with
   | cons a b =>
     cases a
     exact .cons _ _ (ih _ b)
theorem J2d {l : OpenLaw} {n : Nat} (hn : l.most = some n) {P : Params} {h : Heap} {args : List WData} {vals : List Value}
   (hpre : l.row.toRowW.claim.pre args = true) (hwl : WellAll P h vals args) :
   ∃ a vs ns, vals = [Value.ref a] /\ args = [WData.list (ns.map WData.int)] /\ h.get? a = some { cls := .type "list", data := .seq vs.toArray } /\ IntsAre vs ns /\ ns.length <= n := by
 have hsh : WShape.hasAll [] args [.list .int] = true := (pre_splitW hpre).1
 have hc : l.pre.holds [] { args := args } = true := (pre_splitW hpre).2
 obtain ⟨d, r, rfl, h1, h2⟩ := hasAllW_cons hsh
 obtain rfl := hasAllW_nil h2
 obtain ⟨xs, rfl, h3⟩ := hasW_list h1
 obtain ⟨ns, rfl⟩ := items_int h3
 have hlen : ns.length <= n := by
   unfold OpenLaw.pre at hc
   have h4 : (WTm.not (.lt (.lit (.int (n : Int))) (.len (.arg 0)))).holds [] { args := [.list (ns.map .int)] } = true := by
     have h4 := (holds_andW hc).1
     rw [hn] at h4
     exact h4
   have h5 := condW_of h4 (w_not (w_lt w_lit (w_len_list (w_arg rfl))))
   rw [List.length_map] at h5
   refine Nat.le_of_not_lt fun q => ?_
   have q' : (n : Int) < ((ns.length : Nat) : Int) := by omega
   first
     | (rw [decide_eq_true q'] at h5; exact absurd h5 (by decide))
     | (simp at h5; omega)
 cases hwl with
 | cons w1 w2 =>
   cases w2
   cases w1 with
   | list ho hall => exact ⟨_, _, ns, rfl, rfl, ho, B7t ns _ hall, hlen⟩
theorem J1c (l : OpenLaw) (args : List WData) : l.row.toRowW.claim.post args (.bool true) args = true :=
 postW_of (r := l.row.toRowW) (X := (true == true))
   (show WShape.has [] (.bool true) .bool = true by first | rfl | decide | simp [WShape.has, WShape.arms, WShape.armsAll])
   (show (WTm.eq .res (.lit (.bool true))).value [] { args := args, res := some (.bool true), after := args } = some (.bool (true == true)) from w_eq_bool (w_res rfl) w_lit) rfl
theorem attach_call {l : OpenLaw} {n : Nat} {q : Program} {loose : List Str} {XP : (Str -> Option Value) -> Heap -> Prop} {YP : World -> Heap -> Prop} {d : DefRec}
   (hn : l.most = some n) (hdf : d.params.defaults = [])
   (call : ∀ (w : World) (s₀ s₁ : Shared) (mg mb : Str -> Option Value) (fa : Addr) (o : Obj) (pm cd doc : Value) (a : Addr) (vs : List Value) (ns : List Int),
     Ground q loose [] XP w s₀ mg mb s₁.heap -> YP w s₁.heap ->
     s₁.heap.get? fa = some o -> o.data = .func (docDef d.name d.params d.body d.scope pm cd doc) -> s₁.heap.CodeRec cd d.name -> mg d.name = some (.ref fa) ->
     s₁.heap.get? a = some { cls := .type "list", data := .seq vs.toArray } -> IntsAre vs ns -> ns.length <= n -> s₁.gens = #[] ->
     codeAny (model l.prog w) callerA (.call (.ref fa) ⟨[.ref a], []⟩) (fun r s' => r = .ok (.ret (.bool true)) /\ OldK s₁.heap s'.heap /\ s'.os = s₁.os /\ AllBare s'.gens) s₁) :
   WalkO q loose XP YP l.row.toRowW d [] (fun f vs => PySem.call f vs) := by
 intro w s₀ s₁ mg mb G Y fa o pm cd doc dV kV ho hd hcd hD hmg hg args vals as hpre hlay hrd hwl hlo
 obtain rfl : dV = .none := Dflts.none hD hdf
 obtain rfl : kV = .none := Dflts.noKw hD
 obtain ⟨a, vs, ns, rfl, rfl, hobj, hints, hlen⟩ := J2d hn hpre hwl
 refine enter_call (codeAny_mono (call w s₀ s₁ mg mb fa o pm cd doc a vs ns G Y ho (fd_plain hd) hcd hmg hobj hints hlen hg) fun r s' hq => ?_)
 obtain ⟨rfl, h2, h3, h4⟩ := hq
 exact ⟨.inl ⟨.bool true, .bool true, [], rfl, fun _ => rfl, .bool true, J1c l _, fun _ => ⟨List.Pairwise.nil, fun _ hm => (nomatch hm)⟩⟩, h2, h3, h4⟩
section
variable {prog : Program} {w : World} {A : Around} {E : Value -> Shared -> Prop} {s : Shared} {K : Frag}
end
end Att
namespace L2
open PySem PySem.Spec PyProof.Rows
theorem C6j : ∀ {vs : List Value} {ns : List Int}, IntsAre vs ns -> Vals (ns.map V.int) vs
 | _, _, .nil => .nil
 | _, _, .cons n t h => .cons ⟨t, rfl⟩ (C6j h)
def G5 (s : Stmt) (j : Nat) : Stmt := match s with
 | .ClassDef _ _ _ body _ _ _ _ _ _ _ => body.getD j (.Pass ⟨0, 0, 0, 0⟩)
 | _ => .Pass ⟨0, 0, 0, 0⟩
def B5 (s : Stmt) : Arguments := match s with
 | .FunctionDef _ a _ _ _ _ _ _ _ _ => a
 | _ => { posonlyargs := [], args := [], vararg := none, kwonlyargs := [], kw_defaults := [], kwarg := none, defaults := [] }
def B1 (s : Stmt) : List Stmt := match s with
 | .FunctionDef _ _ b _ _ _ _ _ _ _ => b
 | _ => []
def A3 (s : Stmt) : Scope := match s with
 | .FunctionDef _ _ _ _ _ _ sc _ _ _ => sc
 | _ => { kind := .function, names := [], isGenerator := false, isCoroutine := false }
abbrev CX0 : CXT := fun _ _ _ _ _ _ => False
abbrev E0 : XK := fun _ _ _ => False
theorem J7c {X : Cx} : D8z CX0 X E0 := fun _ _ _ _ _ _ _ h => h.elim
structure Fun (K : PySem.W.Frag) (x qual : Str) (st : Stmt) (f : Addr) (fd : FuncData) : Prop where
 ex : ∃ (oc : Value) (od : Option Addr) (kV doc pm : Value) (an : Option Addr) (cdv ct : Value) (osl : Array (Option Value)),
   fd = PySem.W.fnOf x qual (B5 st) (B1 st) (A3 st) .none kV doc pm an cdv ct /\ K.lookup f = some ⟨oc, od, .func fd, osl⟩ /\ PySem.W.codeIn K cdv qual = true
 kp : PySem.W.keepIn K (.ref f) = true
section
variable {P : Program} {w : World} {K : PySem.W.Frag} {mg : Str -> Option Value} {base : Heap}
theorem Fun.ok {x qual : Str} {st : Stmt} {f : Addr} {fd : FuncData} {N ps : List Str} {k : Nat} {sp : Sp} (F : Fun K x qual st f fd) (S : FnScope N ps (A3 st)) (len : ∀ vs H Q E, sp vs H Q E -> vs.length = ps.length)
   (hbody : ∀ (cdv : Value) (A : Around) (outer : List Env) (s : Shared) (H : Hp) (vs : List V) (Q : VK) (E : XK), Room k (A.deeper (envOfC qual (A3 st) s.heap.objs.size f cdv)) -> sp vs H Q E ->
     ∃ t, PSs (A2j CX0 P w K mg base N qual (A3 st) f cdv A outer s H E).nox (B1 st) t /\ t { nx := fun _ H' => Q .non H', rt := Q } (A1t N vs) H) : FnOk P w K mg base CX0 (k + 1) f fd ps sp := by
 obtain ⟨oc, od, kV, doc, pm, an, cdv, ct, osl, rfl, lk, hcd⟩ := F.ex
 refine J6q lk hcd S len fun A outer s H vs Q E hr hsp => ?_
 obtain ⟨t, h, q⟩ := hbody cdv A outer s H vs Q E hr hsp
 exact ⟨t, h.nox, q⟩
theorem Fun.binds {x qual : Str} {st : Stmt} {f : Addr} {fd : FuncData} {ps : List Str} (F : Fun K x qual st f fd)
   (h : ∀ (kV doc pm : Value) (an : Option Addr) (cdv ct : Value) (us : List Value), us.length = ps.length -> bindArgs (PySem.W.fnOf x qual (B5 st) (B1 st) (A3 st) .none kV doc pm an cdv ct) ⟨us, []⟩ = pure (ps.zip us)) : Binds K fd ps [] := by
 obtain ⟨oc, od, kV, doc, pm, an, cdv, ct, osl, rfl, lk, hcd⟩ := F.ex
 exact .all (h kV doc pm an cdv ct)
theorem U0 {x qual : Str} {st : Stmt} {f : Addr} {oc : Value} {od an : Option Addr} {osl : Array (Option Value)} {kV doc pm cdv ct : Value} (l : K.lookup f = some ⟨oc, od, .func (PySem.W.fnOf x qual (B5 st) (B1 st) (A3 st) .none kV doc pm an cdv ct), osl⟩)
   (c : PySem.W.codeIn K cdv qual = true) (k : PySem.W.keepIn K (.ref f) = true) : Fun K x qual st f (PySem.W.fnOf x qual (B5 st) (B1 st) (A3 st) .none kV doc pm an cdv ct) := ⟨⟨oc, od, kV, doc, pm, an, cdv, ct, osl, rfl, l, c⟩, k⟩
end
theorem J9 {n : Nat} (h : n <= 1000) : n < sizeLine := Nat.lt_of_le_of_lt h (by decide)
section
variable {X : Cx}
theorem pv (i : Nat) {x : Str} {pos : Pos} (hN : X.N[i]? = some x := by rfl) (hv : Vis X.env.scope x := by first | exact Or.inl rfl | exact Or.inr (Or.inl rfl) | exact Or.inr (Or.inr rfl)) (hd : (x == ("__debug__" : Str)) = false := by decide)
   (hcd : (x == ("__classdict__" : Str)) = false := by decide) : PE X (.Name x pos) (V8w i) := J6j hN hv hd hcd
end
theorem U4 {A B : Prop} (h : B) : if false = true then A else B := by
 rw [if_neg Bool.false_ne_true]
 exact h
theorem V5 {A B : Prop} (h : A) : if true = true then A else B := by
 rw [if_pos rfl]
 exact h
theorem C6d {c A B : Prop} [Decidable c] (hc : c) (h : B) : if (!decide c) = true then A else B := by
 rw [decide_eq_true hc]
 exact U4 h
def Same (H H' : Hp) : Prop := ∀ b o, H b = some o -> H' b = some o
theorem Same.refl (H : Hp) : Same H H := fun _ _ h => h
theorem Same.trans {H H1 H2 : Hp} (a : Same H H1) (b : Same H1 H2) : Same H H2 := fun c o h => b c o (a c o h)
theorem Same.free {H H' : Hp} (e : Same H H') {l : Addr} (h : H' l = Option.none) : H l = Option.none := by
 cases q : H l with
 | none => rfl
 | some o =>
   rw [e l o q] at h
   cases h
theorem Same.seq {K : PySem.W.Frag} {H H' : Hp} {a : Addr} {xs : List V} (e : Same H H') (h : SqL K H a xs) : SqL K H' a xs := by
 rcases h with (h | ⟨o, h⟩) | h
 . exact .inl (.inl (e _ _ h))
 . exact .inl (.inr ⟨o, e _ _ h⟩)
 . exact .inr h
end L2
set_option maxHeartbeats 4000000
namespace L2
open PySem PySem.Spec PyProof.Rows
abbrev Y4 (C : Value) (t : Addr) (dd : Option Addr) (tb : Value) : Obj :=
 { cls := C, dict := dd, data := .fields #[.ref t, tb, .none, .none, .bool false, .none] }
structure Noted (fs : List Addr) (h h' : Heap) (a : Addr) (C : Value) (t : Addr) (dd : Option Addr) (T : Addr) (fl : Value) : Prop where
 keep : ∀ b o, b ∉ fs -> b ≠ a -> h.get? b = some o -> h'.get? b = some o
 slot : ∀ b o, b ≠ a -> h.get? b = some o -> ∃ sl, h'.get? b = some { o with slots := sl }
 new : h.get? T = none
 ne : T ≠ a
 exc : h'.get? a = some (Y4 C t dd (.ref T))
 tbk : ∃ oT ts, h'.get? T = some oT /\ oT.data = .fields ts /\ ts[3]? = some fl
section
variable {M : Model} {A : Around} {E : Value -> Shared -> Prop} {s : Shared} {base : Heap} {env : Env} {outer : List Env} {L a t : Addr} {C : Value} {dd : Option Addr} {tb : Value} {Q : Unit -> Shared -> Prop}
theorem V1q {oa : Obj} {vs : Array Value} {l : List Env} (hl : s.heap.FunFrames base l) (ha : s.heap.get? a = some oa) (hd : oa.data = .fields vs) : a ∉ l.filterMap (·.frame) := by
 intro hm
 obtain ⟨_, o, ho, hn⟩ := hl.mem hm
 rw [ha] at ho
 cases ho
 exact hn vs hd
theorem G9a {head : Value} {hn : Bool} (hfr : A.frames = some (env :: outer)) (hl : s.heap.FunFrames base (env :: outer)) (hf : env.frame = some L)
   (ha : s.heap.get? a = some (Y4 C t dd tb))
   (h : ∀ h' T, Noted ((env :: outer).filterMap (·.frame)) s.heap h' a C t dd T (rawInt L) -> Q () { s with heap := h' }) :
   wpAny M A (do
     let x <- frameOf env
     let pl <- entryPlaceOf L hn
     let b <- EntryCells.newEntry head x .none (rawInt L) .none pl
     setField (.ref a) 1 b) Q E s := by
 have na := V1q hl ha rfl
 refine wpAny_bind (wpAny_frameOf_fun hfr hl hf fun g hg => ?_)
 refine wpAny_bind (wpAny_entryPlaceOf fun pl hpl => ?_)
 unfold EntryCells.newEntry newFields
 refine wpAny_bind (wpAny_newObj_type ?_ (hpl.sizeOk5 _ _ _ _ _))
 have a1 : g.get? a = some (Y4 C t dd tb) := (hg.2.1 a na).trans ha
 have a2 := fun (z : Obj) => Heap.get?_push_of_some (h := g) z a1
 have nT : g.objs.size ≠ a := Nat.ne_of_gt (Heap.lt_size a1)
 refine wpAny_setField (a2 _) rfl (by show 1 < 6; decide) (h _ g.objs.size ?_)
 have up : ∀ (z : Obj) (f : Obj -> Obj) b o, b ≠ a -> g.get? b = some o -> ((g.push z).update a f).get? b = some o := by
   intro z f b o hb e
   rw [Heap.get?_update_other _ _ (Ne.symm hb)]
   exact Heap.get?_push_of_some _ e
 refine ⟨fun b o hb hba e => up _ _ b o hba ((hg.2.1 b hb).trans e), fun b o hba e => ?_, ?_, nT, ?_, ?_⟩
 . obtain ⟨sl, e1⟩ := hg.2.2 b o e
   exact ⟨sl, up _ _ b _ hba e1⟩
 . refine Heap.get?_none_of_le ?_
   rw [hg.1]
   exact Nat.le_refl _
 . exact Heap.get?_update_self _ (a2 _) rfl
 . refine ⟨_, _, (Heap.get?_update_other _ _ (Ne.symm nT)).trans (Heap.get?_push_size _ rfl), rfl, ?_⟩
   first
     | (simp; done)
     | (rcases hpl with rfl | ⟨_, _, _, _, _, _, _, rfl⟩ <;> simp)
def V9k (h : Heap) (a : Addr) (tb : Value) : Prop := tb = .none \/ ∃ T oT ts, tb = .ref T /\ T ≠ a /\ h.get? T = some oT /\ oT.data = .fields ts /\ ts[3]? = some .none
theorem V8k (hfr : A.frames = some (env :: outer)) (hl : s.heap.FunFrames base (env :: outer)) (hf : env.frame = some L)
   (ha : s.heap.get? a = some (Y4 C t dd tb)) (ht : V9k s.heap a tb)
   (h : ∀ h' T, (∀ b o, b ∉ (env :: outer).filterMap (·.frame) -> b ≠ a -> tb ≠ .ref b -> s.heap.get? b = some o -> h'.get? b = some o) ->
     (∀ b o, b ≠ a -> tb ≠ .ref b -> s.heap.get? b = some o -> ∃ sl, h'.get? b = some { o with slots := sl }) -> s.heap.get? T = none -> T ≠ a ->
     h'.get? a = some (Y4 C t dd (.ref T)) -> (∃ oT ts, h'.get? T = some oT /\ oT.data = .fields ts /\ ts[3]? = some (rawInt L)) -> Q () { s with heap := h' }) :
   wpAny M A (noteFrame (.ref a) env) Q E s := by
 unfold noteFrame
 simp only [hf]
 refine wpAny_bind (wpAny_field ha rfl (x := tb) rfl ?_)
 rcases ht with rfl | ⟨T, oT, ts, rfl, nT, hT, dT, h3⟩
 . rw [if_neg (by decide)]
   refine G9a hfr hl hf ha fun h' T N => ?_
   exact h h' T (fun b o hb hba _ e => N.keep b o hb hba e) (fun b o hba _ e => N.slot b o hba e) N.new N.ne N.exc N.tbk
 . rw [if_pos (show (Value.ref T != Value.none) = true by simp)]
   refine wpAny_bind (wpAny_field hT dT h3 ?_)
   rw [if_neg (show ¬ ((Value.none == rawInt L) = true) by simp [rawInt])]
   refine wpAny_bind (wpAny_setField hT dT (Array.getElem?_eq_some_iff.mp h3).1 ?_)
   have oth : ∀ (f : Obj -> Obj) b, b ≠ T -> (s.heap.update T f).get? b = s.heap.get? b := fun f b hb => Heap.get?_update_other _ _ (Ne.symm hb)
   have nrec : ∀ b o, s.heap.get? b = some o -> (∀ vs, o.data ≠ .fields vs) -> b ≠ T := by
     intro b o e hn q
     rw [q, hT] at e
     cases e
     exact hn ts dT
   refine G9a (s := { s with heap := _ }) hfr (hl.of_keeps fun b o e hn => ⟨o, (oth _ b (nrec b o e hn)).trans e, rfl⟩) hf ((oth _ a (Ne.symm nT)).trans ha) fun h' T' N => ?_
   have neb : ∀ b, Value.ref T ≠ Value.ref b -> b ≠ T := fun b q z => q (by rw [z])
   refine h h' T' (fun b o hb hba hbT e => N.keep b o hb hba ((oth _ b (neb b hbT)).trans e)) (fun b o hba hbT e => N.slot b o hba ((oth _ b (neb b hbT)).trans e)) ?_ N.ne N.exc N.tbk
   have nw := N.new
   by_cases q : T' = T
   . subst q
     have := Heap.get?_update_self (Obj.mapFields (·.setIfInBounds 3 Value.none)) hT (Obj.isFreed_of_fields (Obj.data_mapFields dT _))
     rw [nw] at this
     cases this
   . rw [oth _ T' q] at nw
     exact nw
theorem V9q {T : Addr} {oT : Obj} {ts : Array Value} {fl : Value} (ha : s.heap.get? a = some (Y4 C t dd (.ref T))) (nT : T ≠ a) (hT : s.heap.get? T = some oT) (dT : oT.data = .fields ts) (h3 : ts[3]? = some fl)
   (h : ∀ h', (∀ b o, b ≠ T -> s.heap.get? b = some o -> h'.get? b = some o) -> V9k h' a (.ref T) -> Q () { s with heap := h' }) : wpAny M A (setFlight (.ref a) none) Q E s := by
 have sz : 3 < ts.size := (Array.getElem?_eq_some_iff.mp h3).1
 unfold setFlight
 refine wpAny_bind (wpAny_field ha rfl (x := .ref T) rfl ?_)
 rw [if_pos (show (Value.ref T != Value.none) = true by simp)]
 refine wpAny_setField hT dT sz (h _ (fun b o hb e => (Heap.get?_update_other _ _ (Ne.symm hb)).trans e) ?_)
 have d2 := Obj.data_mapFields dT (·.setIfInBounds 3 ((none : Option Addr).elim Value.none fun f => rawInt f))
 exact .inr ⟨T, _, _, rfl, nT, Heap.get?_update_self _ hT (Obj.isFreed_of_fields d2), d2, by simp [sz]⟩
end
def Hd (A : Around) (h : Heap) : Prop := A.handled = none \/ ∃ x ox vs, A.handled = some (.ref x) /\ h.get? x = some ox /\ ox.data = .fields vs /\ vs[2]? = some .none
theorem C1u : entryFor table "proto.unchain" = some Builtin.«proto.unchain» := entryFor_of_tree (by kernel_rfl)
section
variable {prog : Program} {w : World} {A : Around} {E : Value -> Shared -> Prop} {s : Shared}
theorem D3y {α : Type} {a : Addr} {oa : Obj} {ws : Array Value} {h₀ : Heap} {Q : α -> Shared -> Prop} (hd : Hd A h₀) (k : ∀ b o, h₀.get? b = some o -> s.heap.get? b = some o) (na : h₀.get? a = none)
   (ha : s.heap.get? a = some oa) (da : oa.data = .fields ws) (h2 : 2 < ws.size)
   (h : ∀ h', (∀ b o, b ≠ a -> s.heap.get? b = some o -> h'.get? b = some o) -> (∃ o', h'.get? a = some o' /\ o'.cls = oa.cls) -> E (.ref a) { s with heap := h' }) :
   wpAny (model prog w) A (raiseNew (.ref a) : Sem α) Q E s := by
 unfold raiseNew
 refine wpAny_bind (wpAny_handled ?_)
 rcases hd with z | ⟨x, ox, vs, z, e, d, n⟩
 . rw [z]
   exact wpAny_bind (wpAny_pure (wpAny_throw (h _ (fun b o _ e => e) ⟨_, ha, rfl⟩)))
 . rw [z]
   have nx : x ≠ a := by
     intro q
     rw [q, na] at e
     cases e
   dsimp only
   rw [if_pos (show (Value.ref x != Value.ref a) = true by simpa using nx)]
   refine wpAny_bind (wpAny_holding (wpAny_runValue (codeAny_builtin C1u ?_)))
   unfold Builtin.«proto.unchain»
   dsimp only
   refine wpAny_bind (wpAny_field (k x ox e) d n ?_)
   rw [if_pos (by decide)]
   refine wpAny_pure ?_
   dsimp only
   unfold updateField
   refine wpAny_bind (wpAny_bind (wpAny_load ha ?_))
   rw [da]
   dsimp only
   rw [if_pos h2]
   refine wpAny_update ha (wpAny_throw (h _ (fun b o hb e => (Heap.get?_update_other _ _ (Ne.symm hb)).trans e) ⟨_, Heap.get?_update_self _ ha (Obj.isFreed_of_fields (Obj.data_mapFields da _)), Obj.cls_mapFields _ _⟩))
theorem G9w {α : Type} {Q : α -> Shared -> Prop} (hd : Hd A s.heap)
   (h : ∀ h' e, (∀ b o, s.heap.get? b = some o -> h'.get? b = some o) -> ({ s with heap := h' } : Shared).TypeIs (.ref e) "StopIteration" -> E (.ref e) { s with heap := h' }) :
   wpAny (model prog w) A (newExc (.type "StopIteration") [] >>= fun e => (raiseNew e : Sem α)) Q E s := by
 refine wpAny_bind ?_
 simp only [newExc, newTuple]
 refine wpAny_bind (wpAny_newObj_type ?_ (by size_fits)); refine wpAny_bind (m := firstArgMember _ _) (wpAny_of_eq (a := Value.none) (by first | rfl | (simp only [firstArgMember]; rfl)) ?_)
 refine wpAny_newObj_type ?_ (by size_fits); dsimp only
 have k1 : ∀ (z : Obj) b o, s.heap.get? b = some o -> (s.heap.push z).get? b = some o := fun z b o e => Heap.get?_push_of_some _ e
 have k2 : ∀ (z y : Obj) b o, s.heap.get? b = some o -> ((s.heap.push z).push y).get? b = some o := fun z y b o e => Heap.get?_push_of_some _ (Heap.get?_push_of_some _ e)
 have nw : ∀ (z : Obj), s.heap.get? (s.heap.push z).objs.size = none := fun z => Heap.get?_none_of_le (by rw [Heap.size_push]; exact Nat.le_succ _)
 refine D3y (s := { s with heap := _ }) (h₀ := s.heap) hd (k2 _ _) (nw _) (Heap.get?_push_size _ rfl) rfl (by show 2 < 6; decide) fun h' k ⟨o', e', c'⟩ => h h' _ (fun b o e => ?_) ⟨o', e', c'⟩
 refine k b o ?_ (k2 _ _ b o e)
 intro q; rw [q, nw] at e; cases e
theorem B3a {it l : Addr} {i : Nat} {items : Array Value} {Q : Option Value -> Shared -> Prop} (hd : ∀ h' : Heap, Heap.ExtBut it s.heap h' -> Hd A h')
   (hit : s.heap.IsListIter it l i) (hl : s.heap.IsList l items) (hx : items[i]? = none)
   (hQ : ∀ h', Heap.ExtBut it s.heap h' -> Q none { s with heap := h' }) : wpAny (model prog w) A (pyNext (.ref it)) Q E s := by
 obtain ⟨o, ho, hc, dt⟩ := id hit
 obtain ⟨ol, hol, _, nl, dl⟩ := hl
 unfold pyNext
 refine wpAny_bind (wpAny_attempt (wpAny_callSpecial?_slot (name := Str.ofString "__next__") hit.typeIs slot_listiter_next (wpAny_call_entry slot_listiter_next hit.typeIs entry_listiter_next ?_ (args_listiter_next _))))
 show wpAny _ _ (field (.ref it) 0 >>= _) _ _ _; refine wpAny_bind (wpAny_field ho dt (x := .ref l) rfl ?_)
 show wpAny _ _ (if (Value.ref l == Value.none) = true then _ else _) _ _ _; rw [if_neg (show ¬ ((Value.ref l == Value.none) = true) by simp)]
 show wpAny _ _ (field (.ref it) 1 >>= _) _ _ _; refine wpAny_bind (wpAny_field ho dt (x := .int i 0) rfl ?_)
 show wpAny _ _ (seqItems? (.ref l) >>= _) _ _ _; refine wpAny_bind (wpAny_seqItems hol dl ?_)
 simp only [Int.toNat_natCast, hx]
 refine wpAny_bind (wpAny_rule (wpAny_bind (wpAny_setField ho dt (by simp) ?_)))
 have up := fun f => (Heap.SameBut.update (a := it) (h := s.heap) (f := f)).extBut
 refine G9w (s := { s with heap := _ }) (A := A.in1) (hd _ (up _)) fun h' e k ty => ?_
 refine wpAny_bind (wpAny_isInstance (T := "StopIteration") (b := true) ty isSubtype_stop ?_)
 exact wpAny_pure (hQ h' fun b o hb z => k b o (up _ b o hb z))
theorem B7u {it t : Addr} {i : Nat} {items : Array Value} {Q : Option Value -> Shared -> Prop} (hd : ∀ h' : Heap, Heap.ExtBut it s.heap h' -> Hd A h')
   (hit : IsTupIter s.heap it t i) (hl : IsTup s.heap t items) (hx : items[i]? = none)
   (hQ : ∀ h', Heap.ExtBut it s.heap h' -> Q none { s with heap := h' }) : wpAny (model prog w) A (pyNext (.ref it)) Q E s := by
 obtain ⟨o, ho, hc, dt⟩ := id hit
 obtain ⟨ol, hol, _, nl, dl⟩ := hl
 unfold pyNext
 refine wpAny_bind (wpAny_attempt (wpAny_callSpecial?_slot (name := Str.ofString "__next__") hit.typeIs slot_tupleiter_next (wpAny_call_entry slot_tupleiter_next hit.typeIs entry_tupleiter_next ?_ (args_tupleiter_next _))))
 show wpAny _ _ (field (.ref it) 0 >>= _) _ _ _; refine wpAny_bind (wpAny_field ho dt (x := .ref t) rfl ?_)
 show wpAny _ _ (if (Value.ref t == Value.none) = true then _ else _) _ _ _; rw [if_neg (show ¬ ((Value.ref t == Value.none) = true) by simp)]
 show wpAny _ _ (field (.ref it) 1 >>= _) _ _ _; refine wpAny_bind (wpAny_field ho dt (x := .int i 0) rfl ?_)
 show wpAny _ _ (seqItems? (.ref t) >>= _) _ _ _; refine wpAny_bind (wpAny_seqItems hol dl ?_)
 simp only [Int.toNat_natCast, hx]
 refine wpAny_bind (wpAny_rule (wpAny_bind (wpAny_setField ho dt (by simp) ?_)))
 have up := fun f => (Heap.SameBut.update (a := it) (h := s.heap) (f := f)).extBut
 refine G9w (s := { s with heap := _ }) (A := A.in1) (hd _ (up _)) fun h' e k ty => ?_
 refine wpAny_bind (wpAny_isInstance (T := "StopIteration") (b := true) ty isSubtype_stop ?_)
 exact wpAny_pure (hQ h' fun b o hb z => k b o (up _ b o hb z))
end
theorem ObjOk.there {P : Program} {w : World} {H : Hp} {h : Heap} {a : Addr} {o : HO} (x : ObjOk P w H h a o) : ∃ u, h.get? a = some u := by
 cases o with
 | lst xs => obtain ⟨_, _, _, _, e⟩ := x; exact ⟨_, e⟩
 | tup xs => obtain ⟨_, _, _, _, e, _⟩ := x; exact ⟨_, e⟩
 | dK kvs => obtain ⟨_, _, _, _, o, _, _, e, _⟩ := x; exact ⟨_, e⟩
 | dT kvs => obtain ⟨_, _, _, _, o, _, _, e, _⟩ := x; exact ⟨_, e⟩
 | set S n => obtain ⟨o, _, _, _, e, _⟩ := x; exact ⟨_, e⟩
 | ins C dx fs => obtain ⟨_, _, _, e, _⟩ := x; exact ⟨_, e⟩
 | own y => obtain ⟨_, e⟩ := x; exact ⟨_, e⟩
 | xd fs => obtain ⟨_, ⟨_, _, _, e, _⟩, _⟩ := x; exact ⟨_, e⟩
 | rng lo hi => obtain ⟨_, _, _, e⟩ := x; exact ⟨_, e⟩
 | frz ob u => obtain ⟨e, _⟩ := x; exact ⟨_, e⟩
 | tbl ps => exact ⟨_, show h.get? a = some _ from x⟩
 | met f y => exact ⟨_, show h.get? a = some _ from x⟩
 | ext φ => obtain ⟨_, e, _⟩ := x; exact e
theorem HOk.new {P : Program} {w : World} {H : Hp} {h : Heap} {a : Addr} (x : HOk P w H h) (e : h.get? a = none) : H a = none := by
 cases q : H a with
 | none => rfl
 | some u =>
   obtain ⟨o, z⟩ := (x a u q).there
   rw [e] at z
   cases z
structure Nw (X : Cx) (pins : List (Addr × Obj)) (H : Hp) (b : Addr) : Prop where
 un : H b = none
 loc : b ≠ X.env.locals
 fs : b ∉ X.fs
 old : X.s₀.heap.get? b = none
 cell : ∀ x c, X.env.cells.lookup x = some c -> c ≠ b
 pin : ∀ p ∈ X.pn ++ pins, p.1 ≠ b
section
variable {X : Cx} {pins : List (Addr × Obj)} {σ : St} {H H' : Hp} {s s' : Shared} {a b t : Addr} {C : Value} {dd : Option Addr}
theorem Inv.fsFree (I : Inv X pins σ H s) : ∀ b ∈ X.fs, H b = none := fun b hb => I.stkFree b (by
 rcases I.ok.stk with z | ⟨z, zf⟩
 . rw [z]; exact hb
 . rw [z]
   unfold frs
   rw [List.filterMap_cons, zf]
   exact List.mem_cons_of_mem _ hb)
theorem Inv.nw (I : Inv X pins σ H s) (hex : X.ex = []) (e : s.heap.get? b = none) (hu : H' b = none) : Nw X pins H' b := by
 refine ⟨hu, ?_, ?_, ?_, ?_, ?_⟩
 . rintro rfl
   obtain ⟨m, ⟨o, _, _, ho, _⟩, _⟩ := I.loc
   rw [e] at ho
   cases ho
 . intro hb
   obtain ⟨_, o, ho, _⟩ := I.funs.mem hb
   rw [e] at ho
   cases ho
 . cases q : X.s₀.heap.get? b with
   | none => rfl
   | some o =>
     obtain ⟨o', z⟩ := I.base.there b o q (by rw [hex]; simp)
     rw [e] at z
     cases z
 . rintro x c h rfl
   obtain ⟨v, o, ho, _⟩ := I.cell x c h
   rw [e] at ho
   cases ho
 . rintro p hp rfl
   obtain ⟨z, _⟩ := I.pin p hp
   rw [e] at z
   cases z
theorem Inv.stepN {h' : Heap} {ch : List Addr} (I : Inv X pins σ H s) (hch : ∀ b ∈ ch, Nw X pins H b)
   (keep : ∀ b o, b ≠ X.env.locals -> b ∉ X.fs -> b ∉ ch -> s.heap.get? b = some o -> h'.get? b = some o)
   (slot : ∀ b o, b ∉ ch -> s.heap.get? b = some o -> ∃ sl, h'.get? b = some { o with slots := sl }) : Inv X pins σ H { s with heap := h' } := by
 have neL : ∀ b o, X.s₀.heap.get? b = some o -> b ≠ X.env.locals := fun b o e => Nat.ne_of_lt (Nat.lt_of_lt_of_le (Heap.lt_size e) I.ok.above)
 have neC : ∀ b o, X.s₀.heap.get? b = some o -> b ∉ ch := fun b o e hb => by
   have z := (hch b hb).old
   rw [e] at z
   cases z
 have cellK : ∀ x c, X.env.cells.lookup x = some c -> ∀ v, s.heap.IsCell c v -> h'.IsCell c v := fun x c e v ⟨o, ho, hd⟩ => by
   have nch : c ∉ ch := fun z => (hch c z).cell x c e rfl
   obtain ⟨sl, q⟩ := slot c o nch ho
   exact ⟨_, q, hd⟩
 refine ⟨I.ok, I.os, I.bare, ⟨fun b o e n hb hx => ?_, fun b o e n hb hx => ?_, I.base.free, fun b o e hx => ?_, I.base.tups, I.base.frzs, I.base.tbls⟩, ?_, fun x c e => ?_, I.free, I.freeC, fun p hp => ?_, ?_, I.len⟩
 . exact keep b o (neL b o e) hb (neC b o e) (I.base.keep b o e n hb hx)
 . obtain ⟨sl, e1⟩ := I.base.slot b o e n hb hx
   obtain ⟨sl', e2⟩ := slot b _ (neC b o e) e1
   exact ⟨sl', e2⟩
 . obtain ⟨o', e1⟩ := I.base.there b o e hx
   obtain ⟨sl', e2⟩ := slot b _ (neC b o e) e1
   exact ⟨_, e2⟩
 . obtain ⟨m, hn, hl⟩ := I.loc
   refine ⟨m, ?_, fun i x v e1 e2 e3 => ?_⟩
   . obtain ⟨o, es, ep, ho, r⟩ := hn
     obtain ⟨sl, q⟩ := slot _ o (fun z => (hch _ z).loc rfl) ho
     exact ⟨_, es, ep, q, r⟩
   . obtain ⟨u, r, l⟩ := hl i x v e1 e2 e3
     refine ⟨u, r, ?_⟩
     rcases l with l | ⟨k, c, e, z⟩
     . exact .inl l
     . exact .inr ⟨k, c, e, cellK x c e _ z⟩
 . obtain ⟨v, z⟩ := I.cell x c e
   exact ⟨v, cellK x c e v z⟩
 . obtain ⟨e, n, ne, nf, d⟩ := I.pin p hp
   exact ⟨keep p.1 p.2 ne nf (fun z => (hch p.1 z).pin p hp rfl) e, n, ne, nf, d⟩
 . intro c o e
   have tr : ∀ b, H b ≠ none -> ∀ u, s.heap.get? b = some u -> h'.get? b = some u := fun b hb u q =>
     keep b u (fun z => hb (by rw [z]; exact I.free)) (fun z => hb (I.fsFree b z)) (fun z => hb (hch b z).un) q
   refine (I.hok c o e).stay (fun b u hb q => tr b ?_ u q) (fun _ q => q) fun _ _ q => q
   rcases hb with rfl | hb
   . rw [e]; simp
   . rw [hb]; simp
def Flt (X : Cx) (pins : List (Addr × Obj)) (H : Hp) (s : Shared) (a : Addr) (C : Value) (t : Addr) (dd : Option Addr) : Prop :=
 Nw X pins H a /\ ∃ tb, s.heap.get? a = some (Y4 C t dd tb) /\ V9k s.heap a tb /\ ∀ T, tb = .ref T -> Nw X pins H T
def FltAt (X : Cx) (pins : List (Addr × Obj)) (H : Hp) (s : Shared) (a : Addr) (C : Value) (t : Addr) (dd : Option Addr) (fl : Value) : Prop :=
 Nw X pins H a /\ ∃ T oT ts, s.heap.get? a = some (Y4 C t dd (.ref T)) /\ T ≠ a /\ Nw X pins H T /\ s.heap.get? T = some oT /\ oT.data = .fields ts /\ ts[3]? = some fl
structure Body (X : Cx) : Prop where
 ex : X.ex = []
 st : X.stack = X.env :: X.outer
 fr : X.env.frame = some X.env.locals
theorem FltAt.flt (F : FltAt X pins H s a C t dd .none) : Flt X pins H s a C t dd := by
 obtain ⟨n, T, oT, ts, e, ne, nT, eT, dT, h3⟩ := F
 exact ⟨n, _, e, .inr ⟨T, oT, ts, rfl, ne, eT, dT, h3⟩, fun T' z => by cases z; exact nT⟩
def D9n : Value -> List Addr
 | .ref z => [z]
 | _ => []
theorem D4m {M : Model} {E : Value -> Shared -> Prop} {Q : Unit -> Shared -> Prop} (B : Body X) (I : Inv X pins σ H s) (F : Flt X pins H s a C t dd)
   (k : ∀ s', Inv X pins σ H s' -> FltAt X pins H s' a C t dd (rawInt X.env.locals) -> Q () s') : wpAny M X.A (noteFrame (.ref a) X.env) Q E s := by
 obtain ⟨na, tb, e, ht, nT⟩ := F
 have hfr := I.ok.frames
 rw [B.st] at hfr
 have hl := I.stack
 rw [B.st] at hl
 refine V8k hfr hl B.fr e ht fun h' T k1 k2 k3 k4 k5 k6 => ?_
 have ch : ∀ b, b ∉ a :: D9n tb -> b ≠ a /\ tb ≠ .ref b := by
   intro b hb
   refine ⟨fun z => hb (by rw [z]; exact List.mem_cons_self), fun z => hb ?_⟩
   rw [z]
   exact List.mem_cons_of_mem _ (List.mem_singleton.mpr rfl)
 have I' : Inv X pins σ H { s with heap := h' } := by
   refine I.stepN (ch := a :: D9n tb) (fun b hb => ?_) (fun b o h1 h2 h3 q => k1 b o ?_ (ch b h3).1 (ch b h3).2 q) (fun b o h3 q => k2 b o (ch b h3).1 (ch b h3).2 q)
   . rcases List.mem_cons.mp hb with rfl | hb
     . exact na
     . cases tb <;> simp [D9n] at hb
       subst hb
       exact nT _ rfl
   . intro z
     rw [List.filterMap_cons, B.fr] at z
     rcases List.mem_cons.mp z with z | z
     . exact h1 z
     . exact h2 z
 obtain ⟨oT, ts, q1, q2, q3⟩ := k6
 exact k _ I' ⟨na, T, oT, ts, k5, k4, I.nw B.ex k3 (I.hok.new k3), q1, q2, q3⟩
theorem B8w {M : Model} {A : Around} {E : Value -> Shared -> Prop} {Q : Unit -> Shared -> Prop} {fl : Value} (I : Inv X pins σ H s) (F : FltAt X pins H s a C t dd fl)
   (k : ∀ s', Inv X pins σ H s' -> FltAt X pins H s' a C t dd .none -> Q () s') : wpAny M A (setFlight (.ref a) none) Q E s := by
 obtain ⟨na, T, oT, ts, e, ne, nT, eT, dT, h3⟩ := F
 refine V9q e ne eT dT h3 fun h' k1 k2 => ?_
 have I' : Inv X pins σ H { s with heap := h' } := I.stepN (ch := [T]) (fun b hb => by
   have : b = T := by simpa using hb
   subst this
   exact nT) (fun b o _ _ hb q => k1 b o (fun z => hb (by simp [z])) q) (fun b o hb q => ⟨_, k1 b o (fun z => hb (by simp [z])) q⟩)
 rcases k2 with z | ⟨T', oT', ts', z, _, q1, q2, q3⟩
 . cases z
 . cases z
   exact k _ I' ⟨na, T, oT', ts', k1 a _ (Ne.symm ne) e, ne, nT, q1, q2, q3⟩
theorem C6h {M : Model} {E : Value -> Shared -> Prop} {Q : Unit -> Shared -> Prop} (B : Body X) (I : Inv X pins σ H s) (F : Flt X pins H s a C t dd)
   (k : ∀ s', Inv X pins σ H s' -> FltAt X pins H s' a C t dd .none -> Q () s') : wpAny M X.A (leaving X.env (.ref a)) Q E s := by
 unfold leaving
 exact wpAny_bind (D4m B I F fun s1 I1 F1 => B8w I1 F1 k)
end
abbrev EK := Value -> Option Addr -> St -> Hp -> Prop
def G3 (X : Cx) (EH : EK) : Prop := ∀ (pins : List (Addr × Obj)) (σ : St) (H : Hp) (s : Shared) (a t : Addr) (C : Value) (dd : Option Addr), Inv X pins σ H s -> Flt X pins H s a C t dd -> EH C dd σ H -> X.xe (.ref a) s
def CX1 (P : Program) (w : World) : CXT := fun outer H s E e s' => ∃ (a t : Addr) (C : Value) (dd : Option Addr) (H' : Hp), e = .ref a /\ s'.os = s.os /\ AllBare s'.gens /\ Un (frs outer) [] H H' s.heap s'.heap /\ HOk P w H' s'.heap /\ E C dd H' /\
 (s.heap.get? a = none /\ H' a = none) /\ ∃ T oT ts, s'.heap.get? a = some (Y4 C t dd (.ref T)) /\ T ≠ a /\ (s.heap.get? T = none /\ H' T = none) /\ s'.heap.get? T = some oT /\ oT.data = .fields ts /\ ts[3]? = some .none
theorem A4n {P : Program} {w : World} {K : PySem.W.Frag} {mg : Str -> Option Value} {base : Heap} {N : List Str} {qual : Str} {scope : Scope} {f : Addr} {cd : Value} {A : Around} {outer : List Env} {s : Shared} {H : Hp} {E : XK} :
   G3 (A2j (CX1 P w) P w K mg base N qual scope f cd A outer s H E) (fun C dd _ H' => E C dd H') := by
 intro pins σ H' s' a t C dd I F h
 refine C6h (X := A2j (CX1 P w) P w K mg base N qual scope f cd A outer s H E) ⟨rfl, rfl, rfl⟩ I F fun s2 I2 F2 => ?_
 obtain ⟨na, T, oT, ts, e, ne, nT, eT, dT, h3⟩ := F2
 exact ⟨a, t, C, dd, H', rfl, I2.os, I2.bare, I2.base, I2.hok, h, ⟨na.old, na.un⟩, T, oT, ts, e, ne, ⟨nT.old, nT.un⟩, eT, dT, h3⟩
section
variable {X : Cx} {k : Nat} {f C : Addr} {fd : FuncData} {ps : List Str} {sp : Sp} {dvs : List V} {ds : List Value} {EH : EK} {x m : Str} {p pos apos : Pos} {e o : Expr} {es : List Expr} {ta : TE} {t : TA}
theorem V2r {pins : List (Addr × Obj)} {σ : St} {H : Hp} {s : Shared} {e : Value} {s' : Shared} (hx : G3 X EH) (hex : X.ex = []) (I : Inv X pins σ H s)
   (h : CX1 X.prog X.w X.stack H s (fun C d H' => EH C d σ H') e s') : X.xe e s' := by
 obtain ⟨a, t, C, dd, H', rfl, os, bare, un, hok, hE, ⟨a1, a2⟩, T, oT, ts, z, ne, ⟨t1, t2⟩, eT, dT, h3⟩ := h
 have I' : Inv X pins σ H' s' := I.call' (ch := []) os un hok bare (fun b q => absurd q (by simp))
 exact hx pins σ H' s' a t C dd I' (FltAt.flt ⟨I.nw hex a1 a2, T, oT, ts, z, ne, I.nw hex t1 t2, eT, dT, h3⟩) hE
theorem B7x {pins : List (Addr × Obj)} {σ : St} {H : Hp} {s : Shared} {Q : VK} {us : List Value} {vs : List V} (F : FnOk X.prog X.w X.K X.mg X.base (CX1 X.prog X.w) k f fd ps sp) (hr : Room k X.A) (hb : Binds X.K fd ps ds) (hd : Vals dvs ds)
   (hx : G3 X EH) (hex : X.ex = []) (I : Inv X pins σ H s) (r : Vals vs us) (h : sp (vs ++ dvs) H Q (fun C d H' => EH C d σ H')) : wpAny (model X.prog X.w) X.A (call (.ref f) us) (EP X pins σ Q) X.xe s := by
 have r2 : Vals (vs ++ dvs) (us ++ ds) := r.append hd
 have hl : (us ++ ds).length = ps.length := by rw [<- r2.length]; exact F.len _ _ _ _ h
 refine wpAny_call (codeAny_mono (F.run X.A X.stack s H ⟨us, []⟩ (us ++ ds) (vs ++ dvs) Q _ hr I.env0 (hb s us I.kIn hl) r2 h) fun r s' hq => ?_)
 cases r with
 | error e => exact V2r hx hex I hq
 | ok fl =>
   cases fl with
   | ret u => exact I.after hq
   | next => exact False.elim hq
   | brk => exact False.elim hq
   | cont => exact False.elim hq
def C7q (sp : Sp) (dvs : List V) (EH : EK) (t : TA) : TE := fun σ H Q => t σ H fun vs H1 => sp (vs ++ dvs) H1 Q (fun C d H' => EH C d σ H')
theorem J6d (F : FnOk X.prog X.w X.K X.mg X.base (CX1 X.prog X.w) k f fd ps sp) (hr : Room k X.A) (hg : Gl X x) (hm : X.mg x = some (.ref f)) (hk : PySem.W.keepIn X.K (.ref f) = true) (hb : Binds X.K fd ps ds) (hd : Vals dvs ds)
   (hx : G3 X EH) (ha : PA X (e :: es) t) (hex : X.ex = [] := by rfl) (hdb : (x == ("__debug__" : Str)) = false := by decide) (he : starEach (e :: es) X.env = (false, eval e X.env) :: starEach es X.env := by rfl)
   (hpl : (backTo pos (starEach es X.env)).any (·.1) = false := by rfl) : PE X (.Call (.Name x p) (e :: es) [] pos) (C7q sp dvs EH t) := by
 intro pins s σ H Q I h
 refine wpAny_Call_Name_kw (A0k I hg hm ?_ hdb)
 refine PySem.W.callWith_K (h₀ := X.base) I.ok.mod.kin hk (thn (ha pos pins s σ H _ I h) fun us s1 ⟨vs, H1, I1, r, q⟩ => ⟨I1.kIn, ?_⟩) he hpl
 exact B7x F hr hb hd hx hex I1 r q
theorem J2e (F : FnOk X.prog X.w X.K X.mg X.base (CX1 X.prog X.w) k f fd ps sp) (hr : Room k X.A) (hg : Gl X x) (hm : X.mg x = some (.ref f)) (hk : PySem.W.keepIn X.K (.ref f) = true) (hb : Binds X.K fd ps ds) (hd : Vals dvs ds)
   (hx : G3 X EH) (hex : X.ex = [] := by rfl) (hdb : (x == ("__debug__" : Str)) = false := by decide) : PE X (.Call (.Name x p) [] [] pos) (C7q sp dvs EH J8e) := by
 intro pins s σ H Q I h
 refine wpAny_Call_Name_kw (A0k I hg hm ?_ hdb)
 exact PySem.W.callWith_K0 I.kIn hk (B7x (us := []) F hr hb hd hx hex I .nil h)
end
section
variable {P : Program} {w : World} {K : PySem.W.Frag} {mg : Str -> Option Value} {base : Heap}
theorem Fun.okE {x qual : Str} {st : Stmt} {f : Addr} {fd : FuncData} {N ps : List Str} {k : Nat} {sp : Sp} (F : Fun K x qual st f fd) (S : FnScope N ps (A3 st)) (len : ∀ vs H Q E, sp vs H Q E -> vs.length = ps.length)
   (hbody : ∀ (X : Cx) (cdv : Value) (A : Around) (outer : List Env) (s : Shared) (H : Hp) (vs : List V) (Q : VK) (E : XK), X = A2j (CX1 P w) P w K mg base N qual (A3 st) f cdv A outer s H E -> Room k X.A -> G3 X (fun C dd _ H' => E C dd H') -> sp vs H Q E ->
     ∃ t, PSs (A2j (CX1 P w) P w K mg base N qual (A3 st) f cdv A outer s H E) (B1 st) t /\ t { nx := fun _ H' => Q .non H', rt := Q } (A1t N vs) H) : FnOk P w K mg base (CX1 P w) (k + 1) f fd ps sp := by
 obtain ⟨oc, od, kV, doc, pm, an, cdv, ct, osl, rfl, lk, hc⟩ := F.ex
 exact J6q lk hc S len fun A outer s H vs Q E hr h => hbody _ cdv A outer s H vs Q E rfl hr A4n h
theorem FnOk.up {k : Nat} {f : Addr} {fd : FuncData} {ps : List Str} {sp : Sp} (F : FnOk P w K mg base CX0 k f fd ps sp) : FnOk P w K mg base (CX1 P w) k f fd ps sp := by
 refine ⟨F.len, fun A outer s H args us vs Q E hr e0 hb r h => codeAny_mono (F.run A outer s H args us vs Q E hr e0 hb r h) fun r s' q => ?_⟩
 cases r with
 | error e => exact False.elim q
 | ok fl => cases fl <;> exact q
end
end L2
namespace L2
open PySem PySem.Spec PyProof.Rows PySem.W
theorem V2x {K : Frag} {h : Heap} {C : Addr} {bmB : List Value} {newId : String} (X : K.In h) (q : excIn K C bmB newId = true) :
   ∃ (bm : List Value) (N : Addr) (nm qn : Str) (bs : List Value) (hd : Bool) (sn : List Str) (sub : List Value) (ab : Bool) (col : Option Bool) (dd : Option Addr) (k0 k1 k2 k3 k5 : Option Value) (mN : Str -> Option Value),
     h.get? C = some (excClassObj nm qn C N bs bm hd sn sub ab col dd k0 k1 k2 k3 k5 newId) /\ h.Ns N mN /\ mN "__init__" = none /\ OwnTail h bmB bm := by
 unfold excIn at q
 split at q
 . rename_i dd cd sl ho
   split at q
   . rename_i C' bm k0 k1 k2 k3 n k5 hm hs
     simp only [Bool.and_eq_true, beq_iff_eq, Bool.not_eq_true'] at q
     obtain ⟨⟨⟨⟨⟨r1, r2⟩, r3⟩, r4⟩, r5⟩, r6⟩ := q
     subst r1 r2
     obtain ⟨a1, a2, a3, a4, a5, a6, a7, a8, a9, a10, a11⟩ := cd
     dsimp only at hm r3 r5 r6
     subst hm r3
     have hsl : sl = #[k0, k1, k2, k3, some (.builtin n), k5] := by
       obtain ⟨l⟩ := sl
       simp only at hs
       rw [hs]
     subst hsl
     exact ⟨bm, a4, a1, a5, a2, a6, a7, a8, a9, a10, dd, k0, k1, k2, k3, k5, _, X _ _ ho, .of_isNs (isNs_of_in X r5), nsMap_none_of_in X r5 r6, tail_of_in X r4⟩
   . cases q
 . cases q
section
variable {X : Cx} {x : Str} {p cpos pos : Pos} {e : Expr} {es : List Expr} {t : TA} {C : Addr} {bmB : List Value} {B newId initId : String} {EH : EK}
def V8j (C : Addr) (EH : EK) (t : TA) : TS := fun _ σ H => t σ H fun vs H1 => vs.length <= sizeLine /\ EH (.ref C) none σ H1
theorem A1v (hg : Gl X x) (hm : X.mg x = some (.ref C)) (q : excIn X.K C bmB newId = true) (FB : ExcBaseFacts B newId initId bmB) (hh : X.A.handled = none) (hx : G3 X EH) (ha : PA X (e :: es) t) (hex : X.ex = [] := by rfl)
   (hdb : (x == ("__debug__" : Str)) = false := by decide) (he : starEach (e :: es) X.env = (false, eval e X.env) :: starEach es X.env := by rfl) (hpl : (backTo cpos (starEach es X.env)).any (·.1) = false := by rfl) :
   PS X (.Raise (some (.Call (.Name x p) (e :: es) [] cpos)) none pos) (V8j C EH t) := by
 intro pins s σ H D I h
 obtain ⟨bm, N, nm, qn, bs, hd, sn, sub, ab, col, dd, k0, k1, k2, k3, k5, mN, hC, hN, hni, T⟩ := V2x I.ok.mod.kin q
 refine wpAny_Raise_call_subT (C := C) (nm := nm) (q := qn) (N := N) (bs := bs) (bm := bm) (hdct := hd) (sn := sn) (sub := sub) (ab := ab) (col := col) (dd := dd) (k0 := k0) (k1 := k1) (k2 := k2) (k3 := k3) (k5 := k5) FB (mN := mN) (T.hasType FB.hasBase) hh
   (by rw [he]; show (false || (backTo cpos (starEach es X.env)).any (·.1)) = false; rw [hpl]; rfl) hni (A0k I hg hm ⟨rfl, ?_⟩ hdb)
 have ha' := ha cpos pins s σ H _ I h
 rw [he] at ha' ⊢
 refine Calls.evalArgs_plain (wpAny_mono ha' (fun us s2 ⟨vs, H1, I1, r, z, q⟩ => ⟨rfl, by rw [<- r.length]; exact z, I1.bk _ _ hC, hN.keeps I1.bk, T.keeps I1.bk, fun h' a m => ?_⟩) fun _ _ y => y)
 have I2 : Inv X pins σ H1 { s2 with heap := h' } := I1.kept (t' := s2.toks) m.keeps
 obtain ⟨t', e1, tn, e2⟩ := m.there
 exact hx pins σ H1 _ a t' (.ref C) none I2 ⟨I1.nw hex m.new (I1.hok.new m.new), .none, e1, .inl rfl, fun T z => nomatch z⟩ q
end
section
variable {X : Cx} {pins : List (Addr × Obj)} {σ : St} {H : Hp} {s : Shared}
theorem Inv.track {a : Addr} {o : Obj} (I : Inv X pins σ H s) (n : Nw X pins H a) (e : s.heap.get? a = some o) : Inv X pins σ (upd H a (.frz o (.own a))) s := by
 have ne : ∀ b u, H b = some u -> b ≠ a := fun b u z q => by rw [q, n.un] at z; cases z
 have up : ∀ b, b ≠ a -> upd H a (.frz o (.own a)) b = H b := fun b hb => B4 hb
 refine ⟨I.ok, I.os, I.bare, ⟨I.base.keep, I.base.slot, fun b u z m hx => ?_, I.base.there, fun b xs z => ?_, fun b u v z => ?_, fun b ps z => ?_⟩, I.loc, I.cell, ?_, fun x c z => ?_, fun p hp => ?_, fun b u z => ?_, I.len⟩
 . rw [up b fun q => by rw [q, n.old] at z; cases z]
   exact I.base.free b u z m hx
 . have := I.base.tups b xs z
   rw [up b (ne b _ this)]; exact this
 . have := I.base.frzs b u v z
   rw [up b (ne b _ this)]; exact this
 . obtain ⟨more, this⟩ := I.base.tbls b ps z
   exact ⟨more, by rw [up b (ne b _ this)]; exact this⟩
 . rw [up _ (Ne.symm n.loc)]; exact I.free
 . rw [up _ (n.cell x c z)]; exact I.freeC x c z
 . obtain ⟨q1, q2, q3⟩ := I.pin p hp
   exact ⟨q1, by rw [up _ (n.pin p hp)]; exact q2, q3⟩
 . by_cases hb : b = a
   . subst hb
     rw [A6] at z
     cases z
     exact ⟨e, _, e⟩
   . rw [up b hb] at z
     exact (I.hok b u z).stay (fun _ _ _ q => q) (fun c q => by rw [up c (ne c _ q)]; exact q) (fun c xs q => by rw [up c (ne c _ q)]; exact q)
theorem J2t {M : Model} {A : Around} {E : Value -> Shared -> Prop} {i : Nat} {x : Str} {v : V} {Q : Unit -> Shared -> Prop} (I : Inv X pins σ H s) (hN : X.N.Nodup) (hi : X.N[i]? = some x) (hk : X.env.scope.names.lookup x = some .local) (hv : σ[i]? = some (some v))
   (k : ∀ s', Inv X pins (σ.set i none) H s' -> Q () s') : wpAny M A (unbindName X.env x) Q E s := by
 obtain ⟨m, hn, hl⟩ := id I.loc
 have hcls : (X.env.scope.kind == .class || (X.env.scope.kind == .module && X.env.locals != X.env.globals)) = false := by rw [I.ok.kind]; rfl
 obtain ⟨u, _, lk⟩ := hl i x v hi hv (.inl hk)
 have hm : m x = some u := by
   rcases lk with ⟨_, z⟩ | ⟨z, _⟩
   . exact z
   . have z : X.env.scope.names.lookup x = some .cell \/ X.env.scope.names.lookup x = some .free := z
     rw [hk] at z
     rcases z with z | z <;> cases z
 refine wpAny_unbindName_local hk hn hm hcls fun h' w' hn' hs => k _ ?_
 obtain ⟨oL, _, _, hoL, _⟩ := id hn
 have nl : ∀ b o, X.s₀.heap.get? b = some o -> b ≠ X.env.locals := fun b o e => Nat.ne_of_lt (Nat.lt_of_lt_of_le (Heap.lt_size e) I.ok.above)
 refine ⟨I.ok, I.os, I.bare, ⟨fun b o e n hb hx => ?_, fun b o e n hb hx => ?_, I.base.free, fun b o e hx => ?_, I.base.tups, I.base.frzs, I.base.tbls⟩, ⟨_, hn', fun j y v' e1 e2 e3 => ?_⟩, fun y c e => ?_, I.free, I.freeC, fun p hp => ?_, fun b u z => ?_, by simpa using I.len⟩
 . exact (hs.2 b (nl b o e)).trans (I.base.keep b o e n hb hx)
 . obtain ⟨sl, e1⟩ := I.base.slot b o e n hb hx
   exact ⟨sl, (hs.2 b (nl b o e)).trans e1⟩
 . obtain ⟨o', e1⟩ := I.base.there b o e hx
   exact ⟨o', (hs.2 b (nl b o e)).trans e1⟩
 . by_cases hj : j = i
   . subst hj
     have hlen : j < σ.length := (List.getElem?_eq_some_iff.mp hv).1
     rw [List.getElem?_set_self hlen] at e2
     cases e2
   . rw [List.getElem?_set_ne (Ne.symm hj)] at e2
     obtain ⟨u', r', q⟩ := hl j y v' e1 e2 e3
     refine ⟨u', r', ?_⟩
     rcases q with ⟨k1, e⟩ | ⟨k1, c, e, z⟩
     . have : y ≠ x := fun e => hj (B9h hN e1 (e ▸ hi))
       exact .inl ⟨k1, by simp [this, e]⟩
     . exact .inr ⟨k1, c, e, z.sameBut hs (I.cne y c e)⟩
 . obtain ⟨w2, z⟩ := I.cell y c e
   exact ⟨w2, z.sameBut hs (I.cne y c e)⟩
 . obtain ⟨e, n, ne, nf, d⟩ := I.pin p hp
   exact ⟨(hs.2 p.1 ne).trans e, n, ne, nf, d⟩
 . refine (I.hok b u z).stay (fun c w2 hc q => (hs.2 c ?_).trans q) (fun _ q => q) fun _ _ q => q
   rintro rfl
   rcases hc with rfl | hc
   . rw [I.free] at z; cases z
   . rw [I.free] at hc; cases hc
end
abbrev Cx.hold (X : Cx) (pins : List (Addr × Obj)) (E : Value -> Shared -> Prop) : Cx := { X with pn := X.pn ++ pins, xe := E }
abbrev Cx.hnd (X : Cx) (pins : List (Addr × Obj)) (a : Addr) : Cx := { X with A := X.A.mark (some (.ref a)), calm := false, pn := X.pn ++ pins, xe := fun _ _ => False }
section
variable {X : Cx} {pins pins' : List (Addr × Obj)} {σ : St} {H : Hp} {s : Shared} {a : Addr} {E : Value -> Shared -> Prop}
theorem Inv.hold (I : Inv X pins σ H s) : Inv (X.hold pins E) [] σ H s :=
 ⟨⟨I.ok.mod, I.ok.kind, I.ok.glob, I.ok.blt, I.ok.above, I.ok.inj, I.ok.has, I.ok.cab, I.ok.hd, I.ok.frames, I.ok.stk, I.ok.exf, I.ok.bs, I.ok.bsz, I.ok.noex, I.ok.exfs, I.ok.funs, I.ok.frf⟩,
   I.os, I.bare, I.base, I.loc, I.cell, I.free, I.freeC, fun p hp => I.pin p (by simpa using hp), I.hok, I.len⟩
theorem Inv.unhold (I : Inv (X.hold pins E) pins' σ H s) : Inv X pins σ H s :=
 ⟨⟨I.ok.mod, I.ok.kind, I.ok.glob, I.ok.blt, I.ok.above, I.ok.inj, I.ok.has, I.ok.cab, I.ok.hd, I.ok.frames, I.ok.stk, I.ok.exf, I.ok.bs, I.ok.bsz, I.ok.noex, I.ok.exfs, I.ok.funs, I.ok.frf⟩,
   I.os, I.bare, I.base, I.loc, I.cell, I.free, I.freeC, fun p hp => I.pin p (List.mem_append_left _ hp), I.hok, I.len⟩
theorem Inv.hnd (I : Inv X pins σ H s) : Inv (X.hnd pins a) [] σ H s :=
 ⟨⟨I.ok.mod, I.ok.kind, I.ok.glob, I.ok.blt, I.ok.above, I.ok.inj, I.ok.has, I.ok.cab, (fun z => nomatch z), I.ok.frames, I.ok.stk, I.ok.exf, I.ok.bs, I.ok.bsz, I.ok.noex, I.ok.exfs, I.ok.funs, I.ok.frf⟩,
   I.os, I.bare, I.base, I.loc, I.cell, I.free, I.freeC, fun p hp => I.pin p (by simpa using hp), I.hok, I.len⟩
theorem Inv.unhnd (ok : X.Ok) (I : Inv (X.hnd pins a) pins' σ H s) : Inv X pins σ H s :=
 ⟨ok, I.os, I.bare, I.base, I.loc, I.cell, I.free, I.freeC, fun p hp => I.pin p (List.mem_append_left _ hp), I.hok, I.len⟩
theorem Nw.unhold {b : Addr} (n : Nw (X.hold pins E) pins' H b) : Nw X pins H b := ⟨n.un, n.loc, n.fs, n.old, n.cell, fun p hp => n.pin p (List.mem_append_left _ hp)⟩
theorem Flt.unhold {t : Addr} {C : Value} {dd : Option Addr} (F : Flt (X.hold pins E) pins' H s a C t dd) : Flt X pins H s a C t dd := by
 obtain ⟨n, tb, e, ok, m⟩ := F
 exact ⟨n.unhold, tb, e, ok, fun T z => (m T z).unhold⟩
theorem SP.unhold {D : Ends} {f : Flow} {s' : Shared} (h : SP (X.hold pins E) pins' D f s') : SP X pins D f s' := by
 cases f with
 | next => obtain ⟨σ', H', I, q⟩ := h; exact ⟨σ', H', I.unhold, q⟩
 | brk => obtain ⟨σ', H', I, q⟩ := h; exact ⟨σ', H', I.unhold, q⟩
 | cont => obtain ⟨σ', H', I, q⟩ := h; exact ⟨σ', H', I.unhold, q⟩
 | ret u => obtain ⟨v, σ', H', I, r, q⟩ := h; exact ⟨v, σ', H', I.unhold, r, q⟩
end
structure Clause (K : Frag) (R : Addr) : Prop where
 ty : typeIn K (.ref R) = some (.type "type")
 cl : (clsIn K R).isSome = true
 ex : subIn K (.ref R) (.type "BaseException") = some true
theorem A4j {K : Frag} {M : Model} {h : Heap} {R : Addr} (X : K.In h) (c : (clsIn K R).isSome = true) : Looks M h (isType (.ref R)) true := by
 unfold clsIn at c
 split at c
 . rename_i ho
   intro A' Q' E' s' k q
   unfold isType loadHead
   exact wpAny_bind (wpAny_loadPart (k _ _ (X _ _ ho)) (wpAny_pure q))
 . cases c
theorem J1d {K : Frag} {M : Model} {A : Around} {E : Value -> Shared -> Prop} {s : Shared} {a R : Addr} {C : Value} {oa : Obj} {b : Bool} {Q : Bool -> Shared -> Prop} (X : K.In s.heap) (ha : s.heap.get? a = some oa) (hc : oa.cls = C) (c : Clause K R)
   (m : subIn K C (.ref R) = some b) (h : Q b s) : wpAny M A (excMatches (.ref a) (.ref R)) Q E s := by
 obtain ⟨hp, g, d, tk, os⟩ := s
 have L1 : Looks M hp (typeOf (.ref R)) (.type "type") := looks_typeIn X c.ty
 have L2 : Looks M hp (isSubtype (.ref R) (.type "BaseException")) true := looks_subIn X c.ex
 have L3 : Looks M hp (isSubtype C (.ref R)) b := looks_subIn X m
 have L4 : Looks M hp (typeOf (.ref a)) C := hc ▸ (Looks.ld ha).andThen .now
 have L5 : Looks M hp (isType (.ref R)) true := A4j X c.cl
 unfold excMatches
 unfold isInstance
 refine wpAny_bind (wpAny_bind (L1.at ?_))
 rw [tc_notTuple]
 refine wpAny_pure ?_
 simp only [Bool.false_eq_true, if_false]
 refine wpAny_bind (wpAny_pure ?_)
 simp only [List.forIn_cons, List.forIn_nil]
 unfold isExcClass
 refine wpAny_bind (wpAny_bind (wpAny_bind (wpAny_bind (L5.at ?_))))
 simp only [if_true]
 refine L2.at ?_
 simp only [Bool.not_true, Bool.false_eq_true, if_false]
 refine wpAny_pure (wpAny_pure ?_)
 refine wpAny_bind (L4.at ?_)
 refine wpAny_bind (wpAny_bind (wpAny_bind (L3.at ?_)))
 cases b with
 | true => simp only [if_true]; exact wpAny_pure (wpAny_pure (wpAny_pure h))
 | false => simp only [Bool.false_eq_true, if_false]; exact wpAny_pure (wpAny_pure (wpAny_pure h))
def Y8z (K : Frag) (R : Addr) (i : Nat) (tb : EK -> TS) (ts : Addr -> TS) : TS := fun D σ H =>
 tb (fun C dd σ' H' => subIn K C (.ref R) = some true /\ ∀ (a t T : Addr), H' a = none ->
   ts a { nx := fun σ2 H2 => D.nx (σ2.set i none) H2, rt := D.rt, bk := fun σ2 H2 => D.bk (σ2.set i none) H2, ct := fun σ2 H2 => D.ct (σ2.set i none) H2 }
     (σ'.set i (some (.ref a))) (upd H' a (.frz (Y4 C t dd (.ref T)) (.own a)))) D σ H
section
variable {X : Cx} {x n : Str} {np hpos pos : Pos} {R : Addr} {i : Nat} {body suite : List Stmt} {b₀ : Stmt} {tb : EK -> TS} {ts : Addr -> TS}
theorem V9u (B : Body X) (hg : Gl X x) (hm : X.mg x = some (.ref R)) (c : Clause X.K R) (hN : X.N.Nodup) (hi : X.N[i]? = some n) (hk : X.env.scope.names.lookup n = some .local)
   (hb : ∀ pins Ew EHb, G3 (X.hold pins Ew) EHb -> PSs (X.hold pins Ew) body (tb EHb)) (hs : ∀ pins a, PSs (X.hnd pins a) (b₀ :: suite) (ts a))
   (hdb : (x == ("__debug__" : Str)) = false := by decide) (hf : X.fn n = true \/ X.env.scope.names.lookup n = some .local := by first | exact .inl rfl | exact .inr rfl | assumption) :
   PS X (.Try body [.ExceptHandler (some (.Name x np)) (some n) (b₀ :: suite) hpos] [] [] pos) (Y8z X.K R i tb ts) := by
 intro pins s σ H D I h
 refine wpAny_Try_except ?_
 refine wpAny_mono (hb pins _ _ ?cat [] s σ H D I.hold h) (fun f s1 hf1 => ?_) (fun e s1 he => he)
 case cat =>
   intro pins' σ' H' s' a t C dd I' F' hE
   obtain ⟨hsub, hE⟩ := hE
   show wpAny (model X.prog X.w) X.A (noteFrame (.ref a) X.env) _ X.xe s'
   have J := I'.unhold
   have F := F'.unhold
   refine D4m B J F fun s2 J2 F2 => B8w J2 F2 fun s3 J3 F3 => ?_
   obtain ⟨na, T, oT, ts', e3, ne3, nT3, eT3, dT3, h33⟩ := id F3
   refine wpAny_handleBy_cons (codeAny_handlers_test ?_) (by intro z; cases z)
   have K3 : Inv (X.hnd pins a) [] σ' H' s3 := J3.hnd
   refine A0k K3 hg hm ?_ hdb
   refine J1d J3.kIn e3 rfl c hsub ?_
   show codeAny _ _ _ _ _
   refine codeAny_handlers_suite_as ?_
   refine B8w J3 F3 fun s4 J4 F4 => ?_
   obtain ⟨na4, T4, oT4, ts4, e4, _⟩ := id F4
   have J5 := J4.track na4 e4
   refine B2e (v := .ref a) J5 hN hi (.inl hk) rfl (fun s5 J6 => ?_) hf
   refine wpAny_mono (hs pins a [] s5 _ _ _ J6.hnd (hE a t T4 na4.un)) (fun f s6 hf6 => ?_) (fun _ _ z => z.elim)
   have fin : ∀ {σ6 : St} {H6 : Hp} {Q6 : Unit -> Shared -> Prop}, Inv (X.hnd pins a) [] σ6 H6 s6 -> (∀ s7, Inv X pins (σ6.set i none) H6 s7 -> Q6 () s7) ->
       wpAny (model X.prog X.w) X.A (do bindName X.env n .none; unbindBehindTheSuite X.env n hpos) Q6 X.xe s6 := by
     intro σ6 H6 Q6 K6 k6
     have L6 := K6.unhnd J6.ok
     refine wpAny_bind (wpAny_bindName (B2e (v := .non) L6 hN hi (.inl hk) rfl (fun s7 J7 => ?_) hf))
     unfold unbindBehindTheSuite
     have hlen : i < σ6.length := by rw [L6.len]; exact (List.getElem?_eq_some_iff.mp hi).1
     refine wpAny_onRaise (J2t J7 hN hi hk (List.getElem?_set_self hlen) fun s8 J8 => k6 s8 ?_)
     rw [List.set_set] at J8
     exact J8
   cases f with
   | next => obtain ⟨σ6, H6, K6, q⟩ := hf6; exact fin K6 fun s7 J7 => ⟨_, _, J7, q⟩
   | brk => obtain ⟨σ6, H6, K6, q⟩ := hf6; exact fin K6 fun s7 J7 => ⟨_, _, J7, q⟩
   | cont => obtain ⟨σ6, H6, K6, q⟩ := hf6; exact fin K6 fun s7 J7 => ⟨_, _, J7, q⟩
   | ret u => obtain ⟨v, σ6, H6, K6, r, q⟩ := hf6; exact fin K6 fun s7 J7 => ⟨v, _, _, J7, r, q⟩
 . cases f with
   | next => exact wpAny_execs_nil (SP.unhold hf1)
   | brk => exact SP.unhold hf1
   | cont => exact SP.unhold hf1
   | ret u => exact SP.unhold hf1
end
structure ExcK (K : Frag) (C : Addr) : Prop where
 ga : findIn K (.ref C) "__getattribute__" = some (some (.builtin "BaseException.__getattribute__"))
 gh : findIn K (.ref C) "__getattr__" = some none
 ca : findIn K (.ref C) "__class__" = some (some (.builtin "object.__class__"))
 sn : specialIn K (.builtin "object.__class__") "__get__" = some (some (.builtin "getset_descriptor.__get__"))
 tk : takesIn K (.builtin "object.__class__") = some true
 ob : mroIn K C (.type "object") = some true
 be : subIn K (.ref C) (.type "BaseException") = some true
 cl : (clsIn K C).isSome = true
theorem A7h {prog : Program} {w : World} {A : Around} {E : Value -> Shared -> Prop} {s : Shared} {K : Frag} {a C : Addr} {oa : Obj} {od : Option Obj} {Q : Option Value -> Shared -> Prop} (F : ExcK K C) (X : K.In s.heap) (I : PySem.W.InstAt s.heap a oa C od)
   (h : Q (some (.ref C)) { s with toks := s.toks + 1 }) : wpAny (model prog w) A (getAttr? (.ref a) "__class__") Q E s := by
 obtain ⟨hp, g, d, t, os⟩ := s
 have L0 := I.type (M := model prog w)
 have L1 := looks_findIn (M := model prog w) X F.ga
 have L2 := looks_findIn (M := model prog w) X F.gh
 have L3 : Looks (model prog w) hp (isInstance (.ref a) (.type "BaseException")) true := L0.andThen (looks_subIn X F.be)
 have hf : findObj K C od "__class__" = some (.bind (.builtin "getset_descriptor.__get__") (.builtin "object.__class__")) := by
   obtain ⟨cd, hc⟩ := Option.isSome_iff_exists.mp F.cl
   unfold findObj
   rw [hc, Option.bind_some, F.ca, Option.bind_some]
   simp [F.sn, F.tk]
 have L4 := looks_find (M := model prog w) X I hf
 have hk : builtinKind "BaseException.__getattribute__" = some .slot := by decide +kernel
 have hsplit : splitId "BaseException.__getattribute__" = some ("BaseException", "__getattribute__") := by decide +kernel
 have hargs := PySem.F.args_bexc_ga (.ref a) (.str "__class__" t)
 have hb := PySem.F.attr_ValueError.ga.bind (.ref a)
 unfold getAttr? getAttrBy? getAttrBy
 refine wpAny_bind (wpAny_mkText (wpAny_bind (wpAny_attempt (wpAny_holding (wpAny_bind (L0.at (wpAny_bind (L1.at ?_))))))))
 dsimp only
 rw [if_neg (show ¬ ((onTheHeap (Value.ref C) && Value.builtin "BaseException.__getattribute__" == Value.builtin "object.__getattribute__") = true) by
   rw [show (Value.builtin "BaseException.__getattribute__" == Value.builtin "object.__getattribute__") = false by decide +kernel, Bool.and_false]; exact Bool.false_ne_true)]
 unfold getAttrByItsOwn
 refine wpAny_bind (m := hookBefore (.ref C)) (L2.at ?_)
 refine wpAny_bind (wpAny_attempt (wpAny_holding ?_))
 unfold callGetattribute
 rw [if_neg (by decide)]
 unfold boundAndCalled
 rw [hb]
 refine wpAny_bind (wpAny_pure ?_)
 refine wpAny_call (codeAny_call_builtin PySem.F.attr_ValueError.ga.plain PySem.F.entry_bexc_ga ?_)
 have chk : ∀ {A' : Around} {Q' : Unit -> Shared -> Prop} {E' : Value -> Shared -> Prop}, Q' () ⟨hp, g, d, t + 1, os⟩ -> wpAny (model prog w) A' (checkBuiltinCall "BaseException.__getattribute__" ⟨[.ref a, .str "__class__" t], []⟩) Q' E' ⟨hp, g, d, t + 1, os⟩ := by
   intro A' Q' E' hq
   simp only [checkBuiltinCall, hk, hsplit]
   refine wpAny_bind ?_
   refine L3.at ?_
   repeat (first | assumption | wp_step)
 refine chk ?_
 show wpAny _ _ (Builtin.«object.__getattribute__» ⟨[.ref a, .str "__class__" t], []⟩) _ _ _
 unfold Builtin.«object.__getattribute__»
 refine wpAny_bind (wpAny_pure ?_)
 refine wpAny_bind (wpAny_pure ?_)
 refine wpAny_bind (L0.at (wpAny_bind (L4.at ?_)))
 dsimp only
 show wpAny _ _ (holding [Value.builtin "object.__class__"] (call (.builtin "getset_descriptor.__get__") [.builtin "object.__class__", .ref a, .ref C]) >>= ret) _ _ _
 refine wpAny_bind (wpAny_holding (wpAny_call (class_get (s := ⟨hp, g, d, t + 1, os⟩) X I F.ob (wpAny_pure ?_))))
 exact handed_on rfl (wpAny_pure h)
def Y3 (X : Cx) : Prop := X.A.handled = none \/ ∃ x o u vs, X.A.handled = some (.ref x) /\ X.H₀ x = some (.frz o u) /\ o.data = .fields vs /\ vs[2]? = some .none
section
variable {X : Cx} {pins : List (Addr × Obj)} {σ : St} {H : Hp} {s : Shared}
theorem Inv.hdB {it : Addr} (I : Inv X pins σ H s) (h : Y3 X) (hn : H it = none) : ∀ h' : Heap, Heap.ExtBut it s.heap h' -> Hd X.A h' := by
 intro h' k
 rcases h with z | ⟨x, o, u, vs, z, e, d, n⟩
 . exact .inl z
 . have q := I.base.frzs x o u e
   exact .inr ⟨x, o, vs, z, k x o (fun w => by rw [w, hn] at q; cases q) (I.hok x _ q).1, d, n⟩
end
structure TurnH (P : Program) (w : World) (K : Frag) (tg : Expr) (J : It) (it : Addr) (tn : Nat -> Heap -> Prop) : Prop where
 obj : ∀ i h, tn i h -> ∃ o, h.get? it = some o /\ ∀ v, o.data ≠ .cell v
 keep : ∀ i h h', tn i h -> (∀ o, h.get? it = some o -> h'.get? it = some o) -> tn i h'
 item : ∀ (X : Cx), X.prog = P -> X.w = w -> X.K = K -> Y3 X -> ∀ (i : Nat) (pins : List (Addr × Obj)) (s : Shared) (σ : St) (H : Hp) (E : Value -> Shared -> Prop), Inv X pins σ H s -> A2g X pins H it -> tn i s.heap -> J.go i H ->
   wpAny (model P w) X.A (pyNext (.ref it)) (fun r s1 => ∃ u, r = some u /\
     wpAny (model P w) X.A (letOwnedTupleGo tg (.ref it) u) (fun _ s2 => ∃ x, Inv X pins σ H s2 /\ RelV x u /\ J.yld i H x H /\ tn (i + 1) s2.heap) E s1) E s
 done : ∀ (X : Cx), X.prog = P -> X.w = w -> X.K = K -> Y3 X -> ∀ (i : Nat) (pins : List (Addr × Obj)) (s : Shared) (σ : St) (H : Hp) (E : Value -> Shared -> Prop), Inv X pins σ H s -> A2g X pins H it -> tn i s.heap -> J.stop i H ->
   wpAny (model P w) X.A (pyNext (.ref it)) (fun r s1 => r = none /\ Inv X pins σ H s1) E s
 self : ∀ (A : Around) (i : Nat) (s : Shared) (Q : Value -> Shared -> Prop) (E : Value -> Shared -> Prop), tn i s.heap -> Q (.ref it) s -> wpAny (model P w) A (pyIter (.ref it)) Q E s
theorem G0c {P : Program} {w : World} {K : Frag} {tg : Expr} (a it : Addr) : TurnH P w K tg (Itl K a) it (fun i h => h.IsListIter it a i) where
 obj := fun i h ⟨o, e, c, d⟩ => ⟨o, e, fun v z => by rw [d] at z; cases z⟩
 keep := fun i h h' st k => st.at fun o e => k o e
 item := by
   intro X hP hw hK hc i pins s σ H E I hf st hg
   subst hP hw hK
   obtain ⟨xs, x, hq, hx⟩ := hg
   obtain ⟨its, rv, p, hz⟩ := I.list hq
   obtain ⟨u, hu, ru⟩ := rv.get hx
   obtain ⟨f0, f1, f2, f3, f4, f5⟩ := hf
   refine wpAny_pyNext_list_item st p.isList (x := u) (by simpa using hu) fun h' st' sb => ?_
   have I1 : Inv X pins σ H { s with heap := h' } := I.turned (t' := s.toks) (fun b o hb e => (sb.2 b hb).trans e) f0 f1 f3 f4 f5
   obtain ⟨o, e, c, d⟩ := id st'
   exact ⟨u, rfl, J0h (s := { s with heap := h' }) e c d (by decide) ⟨x, I1, ru, ⟨rfl, fun ys hy => by rw [I.list_inj hy hq]; exact hx⟩, st'⟩⟩
 done := by
   intro X hP hw hK hc i pins s σ H E I hf st hg
   subst hP hw hK
   obtain ⟨xs, hq, hx⟩ := hg
   obtain ⟨its, rv, p, hz⟩ := I.list hq
   obtain ⟨f0, f1, f2, f3, f4, f5⟩ := hf
   have hl := rv.length
   exact B3a (I.hdB hc f0) st p.isList (by simp; omega) fun h' eb => ⟨rfl, I.turned (t' := s.toks) (fun b o hb e => eb b o hb e) f0 f1 f3 f4 f5⟩
 self := fun _ _ _ _ _ st h => wpAny_pyIter_listiter st h
theorem J1g {P : Program} {w : World} {K : Frag} {tg : Expr} (a it : Addr) : TurnH P w K tg (Itt K a) it (fun i h => h.IsTupleIter it a i) where
 obj := fun i h ⟨o, e, c, d⟩ => ⟨o, e, fun v z => by rw [d] at z; cases z⟩
 keep := fun i h h' st k => st.at fun o e => k o e
 item := by
   intro X hP hw hK hc i pins s σ H E I hf st hg
   subst hP hw hK
   obtain ⟨xs, x, hq, hx⟩ := hg
   obtain ⟨its, rv, p, hz⟩ := I.tuple hq
   obtain ⟨u, hu, ru⟩ := rv.get hx
   obtain ⟨f0, f1, f2, f3, f4, f5⟩ := hf
   refine wpAny_pyNext_tuple_item st (show s.heap.IsTuple a its.toArray from p) (x := u) (by simpa using hu) fun h' st' sb => ?_
   have I1 : Inv X pins σ H { s with heap := h' } := I.turned (t' := s.toks) (fun b o hb e => (sb.2 b hb).trans e) f0 f1 f3 f4 f5
   obtain ⟨o, e, c, d⟩ := id st'
   exact ⟨u, rfl, J0h (s := { s with heap := h' }) e c d (by decide) ⟨x, I1, ru, ⟨rfl, fun ys hy => by rw [I.tuple_inj hy hq]; exact hx⟩, st'⟩⟩
 done := by
   intro X hP hw hK hc i pins s σ H E I hf st hg
   subst hP hw hK
   obtain ⟨xs, hq, hx⟩ := hg
   obtain ⟨its, rv, p, hz⟩ := I.tuple hq
   obtain ⟨f0, f1, f2, f3, f4, f5⟩ := hf
   have hl := rv.length
   exact B7u (I.hdB hc f0) st p (by simp; omega) fun h' eb => ⟨rfl, I.turned (t' := s.toks) (fun b o hb e => eb b o hb e) f0 f1 f3 f4 f5⟩
 self := fun _ _ _ _ _ st h => wpAny_pyIter_tupleiter st h
def PIH (X : Cx) (tg iter : Expr) (wi : TI) : Prop :=
 ∀ (pins : List (Addr × Obj)) (s : Shared) (σ : St) (H : Hp) (R : It -> Hp -> Prop), Inv X pins σ H s -> wi σ H R ->
   wpAny (model X.prog X.w) X.A (eval iter X.env) (fun v s1 => wpAny (model X.prog X.w) X.A (pyIter v) (fun itv s2 => ∃ (it : Addr) (tn : Nat -> Heap -> Prop) (J : It) (H' : Hp), itv = .ref it /\ Inv X pins σ H' s2 /\ TurnH X.prog X.w X.K tg J it tn /\ tn 0 s2.heap /\
     A2g X pins H' it /\ R J H') X.xe s1) X.xe s
section
variable {X : Cx} {tg : Expr}
theorem D4h {l : Expr} {tl : TE} (hl : PE X l tl) : PIH X tg l (G9n X.K tl) := by
 intro pins s σ H R I h
 refine thn (hl pins s σ H _ I h) fun v s1 ⟨x, H1, I1, r1, q1⟩ => ?_
 obtain ⟨a, e, ⟨xs, hq⟩, q⟩ := q1
 subst e
 cases r1
 obtain ⟨its, rv, p, hz⟩ := I1.list hq
 exact wpAny_pyIter_list p.isList ⟨s1.heap.objs.size, _, _, H1, rfl, I1.kept (t' := s1.toks) fun b o e => Heap.get?_push_of_some _ e, G0c a _, ⟨_, Heap.get?_push_size _ rfl, rfl, rfl⟩, I1.fpOk (Nat.le_refl _) (I1.hok.fresh (Nat.le_refl _)), q⟩
theorem C8a {l : Expr} {tl : TE} (hl : PE X l tl) : PIH X tg l (Y3v X.K tl) := by
 intro pins s σ H R I h
 refine thn (hl pins s σ H _ I h) fun v s1 ⟨x, H1, I1, r1, q1⟩ => ?_
 obtain ⟨a, e, ⟨xs, hq⟩, q⟩ := q1
 subst e
 cases r1
 obtain ⟨its, rv, p, hz⟩ := I1.tuple hq
 exact wpAny_pyIter_tuple (show s1.heap.IsTuple a its.toArray from p) ⟨s1.heap.objs.size, _, _, H1, rfl, I1.kept (t' := s1.toks) fun b o e => Heap.get?_push_of_some _ e, J1g a _, ⟨_, Heap.get?_push_size _ rfl, rfl, rfl⟩, I1.fpOk (Nat.le_refl _) (I1.hok.fresh (Nat.le_refl _)), q⟩
end
theorem J6a {prog : Program} {w : World} {A : Around} {s : Shared} {elt target iter : Expr} {scope : Scope} {pos : Pos} {it acc : Value} {env : Env} {R : Result -> Shared -> Prop} (I : Nat -> Shared -> Prop)
   (turn : ∀ n s, I n s -> wpAny (model prog w) A (pyNext it) (fun r s₁ => match r with
     | none => R (.ok .next) s₁
     | some v => wpAny (model prog w) A (letOwnedTupleGo target it v) (fun _ s₀ => wpAny (model prog w) A (assign target env v) (fun _ s₂ => wpAny (model prog w) A (eval elt env) (fun x s₄ =>
         wpAny (model prog w) A (call (.builtin "list.append") [acc, x]) (fun _ s₅ => ∃ m, m < n /\ I m s₅) (notedBy (model prog w) A env fun e s' => R (.error e) s') s₄) (notedBy (model prog w) A env fun e s' => R (.error e) s') s₂)
         (notedBy (model prog w) A env fun e s' => R (.error e) s') s₀) (notedBy (model prog w) A env fun e s' => R (.error e) s') s₁) (notedBy (model prog w) A env fun e s' => R (.error e) s') s)
   (n : Nat) (h : I n s) : codeAny (model prog w) A (.compLoop (.ListComp elt [⟨target, iter, [], 0⟩] scope pos) 0 it acc env) R s := by
 refine codeAny_loop rfl I (fun n s hI => ?_) n h
 show wpAny _ A ((compTurn (.ListComp elt [⟨target, iter, [], 0⟩] scope pos) 0 it acc env).onRaise (fun x => do noteFrame x env; theTreesLotGoes x)) _ _ s
 refine wpAny_noted ?_; rw [compTurn_list1]
 refine wpAny_bind (wpAny_standAt (wpAny_bind (wpAny_mono (turn n s hI) (fun r s₁ h₁ => ?_) fun _ _ z => z)))
 cases r with
 | none => exact wpAny_pure h₁
 | some v =>
   refine wpAny_bind (wpAny_mono h₁ (fun _ s₀ q₀ => ?_) fun _ _ z => z)
   refine wpAny_bind (wpAny_mono q₀ (fun _ s₂ q₂ => ?_) fun _ _ z => z)
   exact wpAny_bind (wpAny_bind (wpAny_mono q₂ (fun x s₄ q₄ => wpAny_bind (wpAny_mono q₄ (fun _ s₅ q₅ => wpAny_pure (wpAny_pure ⟨rfl, q₅⟩)) fun _ _ z => z)) fun _ _ z => z))
section
variable {X : Cx}
theorem J0m {pins : List (Addr × Obj)} {σ : St} {H : Hp} {s : Shared} {C : Addr} {h' : Heap} (I : Inv X pins σ H s) (f : A2g X pins H C) (sb : Heap.SameBut C s.heap h') : Inv X pins σ H { s with heap := h' } :=
 I.turned (t' := s.toks) (fun b o hb e => (sb.2 b hb).trans e) f.1 f.2.1 f.2.2.2.1 f.2.2.2.2.1 f.2.2.2.2.2
end
section
variable {X : Cx} {a b c : Expr} {ta tb tc : TE} {pos : Pos}
theorem V1 : OpR X (binaryOp .Mult) (rI IntMulOk fun i j => .int (i * j)) := opI fun _ _ _ _ _ _ _ hc q => mul_int q hc
theorem G2 : OpR X (binaryOp .FloorDiv) (rI (fun _ j => 0 < j /\ j.natAbs.log2 < 9000) fun i j => .int (i / j)) := opI fun i j _ _ _ _ _ hc q => by
 have h1 : (0 : Int) < j := hc.1
 exact floordiv_int (by omega) (by rw [Int.fdiv_eq_ediv_of_nonneg i (by omega)]; exact q) (.inl (PyProof.noPylong_of_log2 hc.2))
theorem B0t {i : Int} {k : Nat} (h : i.natAbs < 2 ^ k) (hk : 0 < k) : i.natAbs.log2 < k := by
 by_cases z : i.natAbs = 0
 . rw [z]; simpa using hk
 . exact (Nat.log2_lt z).mpr h
inductive TyE (K : Frag) (H : Hp) : V -> Value -> Prop where
 | of {x : V} {t : Value} (h : TyOf K H x t) : TyE K H x t
 | exc {a C t : Addr} {T : Value} {u : HO} (e : H a = some (.frz (Y4 (.ref C) t none T) u)) (k : ExcK K C) : TyE K H (.ref a) (.ref C)
 | excD {a C t : Addr} {T : Value} {d : Addr} {u : HO} {fs : List (Str × V)} (e : H a = some (.frz (Y4 (.ref C) t (some d) T) u)) (hd : H d = some (.xd fs)) (k : ExcK K C) : TyE K H (.ref a) (.ref C)
 | tupK {a : Addr} {o : Obj} (l : K.lookup a = some o) (c : o.cls = .type "tuple") : TyE K H (.ref a) (.type "tuple")
theorem D9s {pins : List (Addr × Obj)} {σ : St} {H : Hp} {s : Shared} {A : Around} {E : Value -> Shared -> Prop} {Q : Value -> Shared -> Prop} {c : Value} {b : Bool} {x : V} {u t : Value} (I : Inv X pins σ H s) (rx : RelV x u) (ty : TyE X.K H x t)
   (e : kitOne X.K t c = some b) (h : ∀ tk, Q (.bool b) { s with toks := tk }) : wpAny (model X.prog X.w) A (call (.builtin "isinstance") [u, c]) Q E s := by
 cases ty with
 | of h' => exact J2s I rx h' e h
 | exc ea k =>
   cases rx
   rename_i a C t0 T u0
   have o1 : s.heap.get? a = some (Y4 (.ref C) t0 none T) := (I.hok a _ ea).1
   refine kia_one (H := fun h => PySem.W.InstAt h a (Y4 (.ref C) t0 none T) C none) ?_ I.kIn ⟨o1, rfl, rfl, trivial⟩ e (fun z => nomatch z) h
   refine ⟨fun M h _ J => J.type, fun M h K _ => A4j K k.cl, fun h tp dd its n sl K htp => ?_, fun K J q => A7h k K J q⟩
   refine Bool.eq_false_iff.mpr fun q => ?_
   have e : C = tp := Value.ref.inj (beq_iff_eq.mp q)
   subst e
   have z := k.cl
   unfold clsIn at z
   split at z
   . rename_i ho
     have y := (K _ _ ho).symm.trans htp
     cases y
   . cases z
 | tupK l c =>
   cases rx
   exact PySem.W.kia_one PySem.W.kitx_tuple I.kIn ⟨_, I.kIn _ _ l, c⟩ e (fun z => nomatch z) h
 | excD ea hd k =>
   cases rx
   rename_i a C t0 T d u0 fs
   have o1 : s.heap.get? a = some (Y4 (.ref C) t0 (some d) T) := (I.hok a _ ea).1
   obtain ⟨mA, nA, _⟩ := (show ∃ mA, s.heap.Ns1 d mA /\ ∀ f, RelO (fs.lookup f) (mA f) from I.hok d _ hd)
   obtain ⟨od, o2, _⟩ := B2z nA
   refine kia_one (H := fun h => PySem.W.InstAt h a (Y4 (.ref C) t0 (some d) T) C (some od)) ?_ I.kIn ⟨o1, rfl, rfl, o2⟩ e (fun z => nomatch z) h
   refine ⟨fun M h _ J => J.type, fun M h K _ => A4j K k.cl, fun h tp dd its n sl K htp => ?_, fun K J q => A7h k K J q⟩
   refine Bool.eq_false_iff.mpr fun q => ?_
   have e : C = tp := Value.ref.inj (beq_iff_eq.mp q)
   subst e
   have z := k.cl
   unfold clsIn at z
   split at z
   . rename_i ho
     have y := (K _ _ ho).symm.trans htp
     cases y
   . cases z
def V8c : V -> Option Value
 | .ty n => some (.type n)
 | .ref a => some (.ref a)
 | _ => none
theorem D3v : A2u X (.builtin "isinstance") (fun xs H Q => ∃ x c cv t b, xs = [x, c] /\ V8c c = some cv /\ TyE X.K H x t /\ kitOne X.K t cv = some b /\ Q (.bl b) H) := by
 intro pins s σ H xs us Q I r h
 obtain ⟨x, c, cv, t, b, rfl, hc, ty, e, q⟩ := h
 obtain ⟨u, v, rfl, ru, rv⟩ := Vals.two r
 have : v = cv := by
   cases c <;> simp only [V8c] at hc <;> first | (cases hc; exact rv) | cases hc
 subst this
 exact D9s I ru ty e fun tk => ⟨.bl b, H, I.tok tk, rfl, q⟩
mutual
inductive RdD (K : Frag) (H : Hp) : V -> PyData -> Prop where
 | non : RdD K H .non .none
 | bl (b : Bool) : RdD K H (.bl b) (.bool b)
 | int (i : Int) : RdD K H (.int i) (.int i)
 | str (x : Str) : RdD K H (.str x) (.str x)
 | tup {a : Addr} {xs : List V} {ds : List PyData} (h : SqT K H a xs) (r : RdDs K H xs ds) : RdD K H (.ref a) (.tuple ds)
 | lst {a : Addr} {xs : List V} {ds : List PyData} (h : SqL K H a xs) (r : RdDs K H xs ds) : RdD K H (.ref a) (.list ds)
inductive RdDs (K : Frag) (H : Hp) : List V -> List PyData -> Prop where
 | nil : RdDs K H [] []
 | cons {x : V} {xs : List V} {d : PyData} {ds : List PyData} (h : RdD K H x d) (r : RdDs K H xs ds) : RdDs K H (x :: xs) (d :: ds)
end
mutual
theorem RdD.reads {pins : List (Addr × Obj)} {σ : St} {H : Hp} {s : Shared} (I : Inv X pins σ H s) : ∀ {x : V} {d : PyData} {u : Value}, RdD X.K H x d -> RelV x u -> ∃ as, Reads s.heap u d as
 | _, _, _, .non, r => by cases r; exact ⟨_, .none⟩
 | _, _, _, .bl b, r => by cases r; exact ⟨_, .bool b⟩
 | _, _, _, .int i, r => by obtain ⟨t, rfl⟩ := r; exact ⟨_, .int i t⟩
 | _, _, _, .str x, r => by obtain ⟨t, rfl⟩ := r; exact ⟨_, .str x t⟩
 | _, _, _, .tup h q, r => by
   cases r
   obtain ⟨its, rv, ⟨o, e, c, n, d⟩, _⟩ := I.tuple h
   obtain ⟨as, z⟩ := RdDs.reads I q rv
   exact ⟨_, reads_tuple_at e c d (by simpa using z)⟩
 | _, _, _, .lst h q, r => by
   cases r
   obtain ⟨its, rv, p, _⟩ := I.list h
   obtain ⟨o, e, c, n, d⟩ := p.isList
   obtain ⟨as, z⟩ := RdDs.reads I q rv
   exact ⟨_, reads_list_at e c d (by simpa using z)⟩
theorem RdDs.reads {pins : List (Addr × Obj)} {σ : St} {H : Hp} {s : Shared} (I : Inv X pins σ H s) : ∀ {xs : List V} {ds : List PyData} {us : List Value}, RdDs X.K H xs ds -> Vals xs us -> ∃ as, ReadsAll s.heap us ds as
 | _, _, _, .nil, r => by cases r; exact ⟨_, .nil⟩
 | _, _, _, .cons h q, r => by
   cases r with
   | cons r1 r2 =>
     obtain ⟨as, z⟩ := RdD.reads I h r1
     obtain ⟨bs, y⟩ := RdDs.reads I q r2
     exact ⟨_, .cons z y⟩
end
def Y4m (K : Frag) (n : Bool) : R2 := fun x y H Q => ∃ d e, RdD K H x d /\ RdD K H y e /\ SeqAt.shaped d = true /\ SeqAt.shaped e = true /\ Q (.bl (if n then !PyData.eqv d e else PyData.eqv d e)) H
theorem C8f (hu : X.A.units + 64 < cLine) : OpR X (compareOp .Eq) (Y4m X.K false) := by
 intro pins s σ H x y v u Q I rx ry q
 obtain ⟨d, e, hx, hy, sd, se, q⟩ := q
 obtain ⟨as, z⟩ := hx.reads I rx
 obtain ⟨bs, z'⟩ := hy.reads I ry
 exact eq_dataH z z' sd se hu ⟨.bl (PyData.eqv d e), H, I, rfl, q⟩
theorem J7d (hu : X.A.units + 64 < cLine) : OpR X (compareOp .NotEq) (Y4m X.K true) := by
 intro pins s σ H x y v u Q I rx ry q
 obtain ⟨d, e, hx, hy, sd, se, q⟩ := q
 obtain ⟨as, z⟩ := hx.reads I rx
 obtain ⟨bs, z'⟩ := hy.reads I ry
 exact ne_dataH z z' sd se hu ⟨.bl (!PyData.eqv d e), H, I, rfl, q⟩
theorem J7u (hc : X.A.handled = none) : A2u X (.builtin "any") (fun xs H Q => ∃ (l : Addr) (bs : List Bool), xs = [.ref l] /\ SqL X.K H l (bs.map V.bl) /\ Q (.bl (bs.any id)) H) := by
 intro pins s σ H xs us Q I r h
 obtain ⟨l, bs, rfl, hl, q⟩ := h
 obtain ⟨u, rfl, ru⟩ := Vals.one r
 cases ru
 obtain ⟨its, rv, p, hz⟩ := I.list hl
 obtain ⟨o, e, _⟩ := id p.isList
 have hlt : l < s.heap.objs.size := Heap.lt_size e
 have hlen : its.length = bs.length := by rw [<- rv.length, List.length_map]
 refine call_any_walk (wpAny_pyIter_list p.isList ?_)
 refine ⟨s.heap.objs.size, [s.heap.objs.size, l], [s.heap.objs.size], its.toArray.size, _, _, fun i => (bs[i]?).getD false, rfl, Walks.list (A := X.A.in1) hc _ l (Nat.ne_of_lt hlt) its.toArray, ⟨⟨_, Heap.get?_push_size _ rfl, rfl, rfl⟩, p.isList.push _⟩, fun i v s' Q' E' hP hQ => ?_, fun h' tk hk => ?_⟩
 . have hP : its[i]? = some v := by simpa using hP
   have hi : i < bs.length := by rw [<- hlen]; exact (List.getElem?_eq_some_iff.mp hP).1
   obtain ⟨u', hu', ru'⟩ := rv.get (i := i) (x := V.bl bs[i]) (by simp [hi])
   rw [hP] at hu'
   cases hu'
   cases ru'
   have z : (bs[i]?).getD false = bs[i] := by simp [hi]
   dsimp only at hQ
   rw [z] at hQ
   exact wpAny_truthy_bool hQ
 . have z : ((List.range its.toArray.size).any fun i => (bs[i]?).getD false) = bs.any id := by
     rw [List.size_toArray, hlen]
     exact LSm.range_any bs
   rw [z]
   exact ⟨.bl (bs.any id), H, I.kept fun b x e => hk b x (fun hm => by rw [List.mem_singleton.mp hm] at e; exact Nat.lt_irrefl _ (Heap.lt_size e)) (Heap.get?_push_of_some _ e), rfl, q⟩
inductive FPart (X : Cx) : Expr -> TE -> Prop where
 | lit {x : Str} {j : Nat} {pos : Pos} : FPart X (.Constant (.str x) j pos) (tC (.str x))
 | int {v : Expr} {tv : TE} {pos : Pos} (h : PE X v tv) : FPart X (.FormattedValue v (-1) none pos) (fun σ H Q => tv σ H fun y H1 => ∃ i, y = .int i /\ i.natAbs.log2 < 1920 /\ Q (.str (toString i)) H1)
theorem FPart.pe {e : Expr} {t : TE} (h : FPart X e t) : PE X e t := by
 cases h with
 | lit => exact B0
 | int h =>
   intro pins s σ H Q I q
   refine FormattedValue_plain (thn (h pins s σ H _ I q) fun u s1 ⟨y, H1, I1, r, i, e, l, q⟩ => ?_)
   subst e
   obtain ⟨t, rfl⟩ := r
   exact formatField_int_small l ⟨.str (toString i), H1, I1.tok _, ⟨_, rfl⟩, q⟩
inductive FParts (X : Cx) : List Expr -> (Str -> TE) -> Prop where
 | nil : FParts X [] (fun out _ H Q => out.length <= sizeLine /\ Q (.str out) H)
 | cons {e : Expr} {es : List Expr} {t : TE} {r : Str -> TE} (h : FPart X e t) (hr : FParts X es r) : FParts X (e :: es) (fun out σ H Q => t σ H fun x H1 => ∃ y, x = .str y /\ (out ++ y).length <= sizeLine /\ r (out ++ y) σ H1 Q)
theorem FParts.run {es : List Expr} {t : Str -> TE} (h : FParts X es t) : ∀ (out : Str) (pins : List (Addr × Obj)) (s : Shared) (σ : St) (H : Hp) (Q : VK), Inv X pins σ H s -> t out σ H Q ->
   wpAny (model X.prog X.w) X.A (joinParts out (evalEach es X.env)) (EP X pins σ Q) X.xe s := by
 induction h with
 | nil =>
   intro out pins s σ H Q I q
   exact joinParts_nil ⟨.str out, H, I.tok _, ⟨_, rfl⟩, q.2⟩ q.1
 | @cons e es t r h hr ih =>
   intro out pins s σ H Q I q
   show wpAny _ _ (joinParts out (eval e X.env :: evalEach es X.env)) _ _ _
   refine joinParts_cons (thn (h.pe pins s σ H _ I q) fun u s1 ⟨x, H1, I1, rx, y, ey, z, q⟩ => ?_)
   subst ey
   obtain ⟨t', rfl⟩ := rx
   exact ⟨z, ih _ pins s1 σ H1 Q I1 q⟩
theorem G9h {e1 e2 : Expr} {es : List Expr} {t : Str -> TE} {pos : Pos} (h : FParts X (e1 :: e2 :: es) t) : PE X (.JoinedStr (e1 :: e2 :: es) pos) (t Str.empty) := by
 intro pins s σ H Q I q
 exact JoinedStr_many (h.run _ pins s σ H Q I q)
end
section
variable {P : Program} {w : World} {K : Frag} {mg : Str -> Option Value} {base : Heap}
end
section
variable {X : Cx} {k : Nat} {f : Addr} {fd : FuncData} {ps : List Str} {sp : Sp} {x : Str} {p pos : Pos} {e : Expr} {es : List Expr} {t : TA}
end
theorem Inv.big {X : Cx} {pins : List (Addr × Obj)} {σ : St} {H : Hp} {s : Shared} (I : Inv X pins σ H s) : sysModules < s.heap.objs.size := by
 have h : mainGlobals < s.heap.objs.size := (I.mod.glob.keeps I.bk).lt
 exact Nat.lt_trans (by decide) h
theorem J6g {P : Program} {w : World} {H : Hp} (h : Heap) (hb : sysModules < h.objs.size) : ObjOk P w H (h.push { cls := .type "dict", data := .dict #[] }) h.objs.size (.dK []) :=
 ⟨Nat.zero_le _, beq_eq_false_iff_ne.mpr (Ne.symm (Nat.ne_of_lt hb)), [], .nil, Heap.DictOf.new h⟩
abbrev EKF : EK := fun _ _ _ _ => False
theorem B2j {X : Cx} : G3 X EKF := fun _ _ _ _ _ _ _ _ _ _ h => h.elim
structure Def (K : Frag) (mg : Str -> Option Value) (x : Str) (ps : List Str) (st : Stmt) (f : Addr) (fd : FuncData) : Prop where
 F : Fun K x x st f fd
 g : mg x = some (.ref f)
 b : Binds K fd ps []
theorem D8 {K : Frag} {h : Heap} {mg : Str -> Option Value} {x : Str} {ps : List Str} {st : Stmt} {f : Addr} {oc : Value} {od an : Option Addr} {osl : Array (Option Value)} {kV doc pm cdv ct : Value} (X : K.In h) (G : h.Ns mainGlobals mg)
   (a : nsIn K mainGlobals x = some (some (.ref f))) (l : K.lookup f = some ⟨oc, od, .func (fnOf x x (B5 st) (B1 st) (A3 st) .none kV doc pm an cdv ct), osl⟩) (c : codeIn K cdv x = true) (k : keepIn K (.ref f) = true)
   (hb : ∀ (kV doc pm : Value) (an : Option Addr) (cdv ct : Value) (us : List Value), us.length = ps.length -> bindArgs (fnOf x x (B5 st) (B1 st) (A3 st) .none kV doc pm an cdv ct) ⟨us, []⟩ = pure (ps.zip us)) :
   Def K mg x ps st f (fnOf x x (B5 st) (B1 st) (A3 st) .none kV doc pm an cdv ct) :=
 ⟨U0 (st := st) l c k, mg_of X G a, (U0 (st := st) l c k).binds hb⟩
theorem A0c {c A B : Prop} [Decidable c] (h : ¬ c) (b : B) : if decide c = true then A else B := by rw [decide_eq_false h]; exact U4 b
theorem A7t {c A B : Prop} [Decidable c] (h : c) (a : A) : if decide c = true then A else B := by rw [decide_eq_true h]; exact V5 a
theorem G6 {c A B : Prop} [Decidable c] (a : c -> A) (b : ¬ c -> B) : if decide c = true then A else B := by
 by_cases h : c
 . exact A7t h (a h)
 . exact A0c h (b h)
def Y4b (t : TS) : TS := fun D σ H => ∃ J : St -> Hp -> Prop, t { D with nx := J } σ H /\ ∀ σ' H', J σ' H' -> D.nx σ' H'
theorem B7 {X : Cx} {st : Stmt} {t : TS} (h : PS X st t) : PS X st (Y4b t) := by
 intro pins s σ H D I q
 obtain ⟨J, q, k⟩ := q
 refine thn (h pins s σ H _ I q) fun f s' z => ?_
 cases f with
 | next => obtain ⟨σ', H', I', y⟩ := z; exact ⟨σ', H', I', k _ _ y⟩
 | brk => exact z
 | cont => exact z
 | ret u => exact z
theorem ixs {xs : List Int} {i : Int} (h0 : 0 <= i) (h1 : i < xs.length) : ∃ v, v ∈ xs /\ atI (xs.map V.int) i = some (.int v) := by
 obtain ⟨j, rfl⟩ := Int.eq_ofNat_of_zero_le h0
 have hj : j < xs.length := by omega
 exact ⟨xs[j], List.getElem_mem hj, G7 (by simp [hj])⟩
theorem ixv {xs : List V} {i : Int} (h0 : 0 <= i) (h1 : i < xs.length) : ∃ v, v ∈ xs /\ atI xs i = some v := by
 obtain ⟨j, rfl⟩ := Int.eq_ofNat_of_zero_le h0
 have hj : j < xs.length := by omega
 exact ⟨xs[j], List.getElem_mem hj, G7 (by simp [hj])⟩
theorem Same.upd {H : Hp} {p : Addr} {o : HO} (h : H p = none) : Same H (L2.upd H p o) := fun b u e => by rw [B4 (C5 e h)]; exact e
theorem C7 {n : Nat} (h : n <= 1000) : n <= sizeLine := Nat.le_of_lt (J9 h)
section
variable {X : Cx} {k j : Nat} {f : Addr} {fd : FuncData} {ps : List Str} {sp : Sp} {EH : EK} {x : Str} {st : Stmt} {p pos : Pos} {e : Expr} {es : List Expr} {t : TA}
theorem C8 (D : Def X.K X.mg x ps st f fd) (F : FnOk X.prog X.w X.K X.mg X.base (CX1 X.prog X.w) j f fd ps sp) (hr : Room k X.A) (hx : G3 X EH) (ha : PA X (e :: es) t) (hj : j <= k := by decide) (hg : Gl X x := by rfl) (hex : X.ex = [] := by rfl) (hdb : (x == ("__debug__" : Str)) = false := by decide)
   (he : starEach (e :: es) X.env = (false, eval e X.env) :: starEach es X.env := by rfl) (hpl : (backTo pos (starEach es X.env)).any (·.1) = false := by rfl) : PE X (.Call (.Name x p) (e :: es) [] pos) (C7q sp [] EH t) :=
 J6d (F.mono hj) hr hg D.g D.F.kp D.b .nil hx ha hex hdb he hpl
theorem G0k (D : Def X.K X.mg x ps st f fd) (F : FnOk X.prog X.w X.K X.mg X.base (CX1 X.prog X.w) j f fd ps sp) (hr : Room k X.A) (hx : G3 X EH) (hj : j <= k := by decide) (hg : Gl X x := by rfl) (hex : X.ex = [] := by rfl) (hdb : (x == ("__debug__" : Str)) = false := by decide) :
   PE X (.Call (.Name x p) [] [] pos) (C7q sp [] EH J8e) :=
 J2e (F.mono hj) hr hg D.g D.F.kp D.b .nil hx hex hdb
theorem pty {n : Str} {T : String} (hm : X.mg n = none) (hv : bootBuiltins n = some (.type T)) (hg : Gl X n := by rfl) (hn : n ≠ "__name__" := by decide) (hdb : (n == ("__debug__" : Str)) = false := by decide) : PE X (.Name n pos) (tC (.ty T)) := V1x hg hm hv rfl hn hdb
theorem J5f {n : Str} {C : Addr} (hm : X.mg n = some (.ref C)) (hg : Gl X n := by rfl) (hdb : (n == ("__debug__" : Str)) = false := by decide) : PE X (.Name n pos) (tC (.ref C)) := V2w hg hm rfl hdb
theorem J2y {a b : Expr} {ta tb : TE} (hm : X.mg "isinstance" = none) (ha : PE X a ta) (hb : PE X b tb) (hg : Gl X "isinstance" := by rfl)
   (h1 : starEach [a, b] X.env = (false, eval a X.env) :: starEach [b] X.env := by rfl) (h2 : starEach [b] X.env = (false, eval b X.env) :: starEach [] X.env := by rfl) (h3 : (backTo pos (starEach [b] X.env)).any (·.1) = false := by rfl) :
   PE X (.Call (.Name "isinstance" p) [a, b] [] pos) (tCB (fun xs H Q => ∃ x c cv t b, xs = [x, c] /\ V8c c = some cv /\ TyE X.K H x t /\ kitOne X.K t cv = some b /\ Q (.bl b) H) (J8g ta (J8g tb J8e))) :=
 V0 D3v hg hm boot_isinstance (A0 ha (A0 hb A8 h2) h1) (he := h1) (hpl := h3)
end
section
variable {X : Cx} {k j : Nat} {f : Addr} {fd : FuncData} {ps : List Str} {sp : Sp} {x : Str} {st : Stmt} {p pos : Pos} {e : Expr} {es : List Expr} {t : TA}
end
structure Mk0 (K : Frag) (C : Addr) : Prop where
 makes : makesIn K C = true
 init : findIn K (.ref C) "__init__" = some (some (.builtin "object.__init__"))
 kp : keepIn K (.ref C) = true
section
variable {X : Cx} {k j : Nat} {f C : Addr} {fd : FuncData} {ps : List Str} {sp : Sp} {dvs : List V} {ds : List Value} {EH : EK} {x m : Str} {p pos apos : Pos} {e o : Expr} {es : List Expr} {ta : TE} {t : TA}
def V9w (C : Addr) : TE := fun _ H Q => ∀ x dx, H x = none -> H dx = none -> dx ≠ x -> Q (.ref x) (upd (upd H dx (.own x)) x (.ins C dx []))
theorem V3m {pins : List (Addr × Obj)} {σ : St} {H : Hp} {s : Shared} {Q : VK} (M : Mk0 X.K C) (I : Inv X pins σ H s) (h : V9w C σ H Q) : wpAny (model X.prog X.w) X.A (call (.ref C) []) (EP X pins σ Q) X.xe s := by
 have hq := h (s.heap.objs.size + 1) s.heap.objs.size (I.hok.fresh (Nat.le_succ _)) (I.hok.fresh (Nat.le_refl _)) (Nat.ne_of_lt (Nat.lt_succ_self _))
 have I2 := Inv.made (C := C) I
 have Y := makes_of (M := model X.prog X.w) I.kIn M.makes
 refine wpAny_call (J2m I.kIn M.makes M.init (fun self => Looks.of_pure (oi_bind self)) ?_)
 have e2 : ((s.heap.push emptyDict).push (instObj C s.heap.objs.size)).get? (s.heap.objs.size + 1) = some (instObj C s.heap.objs.size) := by
   have := Heap.get?_push_size (s.heap.push emptyDict) (o := instObj C s.heap.objs.size) rfl
   rwa [Heap.size_push] at this
 have t1 : Looks (model X.prog X.w) ((s.heap.push emptyDict).push (instObj C s.heap.objs.size)) (typeOf (.ref (s.heap.objs.size + 1))) (.ref C) := (Looks.ld e2).andThen .now
 have t2 : Looks (model X.prog X.w) ((s.heap.push emptyDict).push (instObj C s.heap.objs.size)) (isInstance (.ref (s.heap.objs.size + 1)) (.type "object")) true := t1.andThen (Y.top.keeps fun b o e => Heap.get?_push_of_some _ (Heap.get?_push_of_some _ e))
 refine codeAny_call_builtin oi_plain entry_oi (@check_slot (model X.prog X.w) _ _ _ "object.__init__" "object" "__init__" (.ref (s.heap.objs.size + 1)) [] [] _ oi_kind oi_split t2 (oi_args (.ref (s.heap.objs.size + 1))) ?_)
 rw [oi_run]
 exact wpAny_pure (And.intro rfl ⟨V.ref (s.heap.objs.size + 1), _, I2, rfl, hq⟩)
theorem A7p (M : Mk0 X.K C) (hg : Gl X x) (hm : X.mg x = some (.ref C)) (hdb : (x == ("__debug__" : Str)) = false := by decide) : PE X (.Call (.Name x p) [] [] pos) (V9w C) := by
 intro pins s σ H Q I h
 refine wpAny_Call_Name_kw (A0k I hg hm ?_ hdb)
 exact callWith_K0 I.kIn M.kp (V3m M I h)
def J5v (C : Addr) (m : Str) (sp : Sp) (dvs : List V) (EH : EK) (ta : TE) (t : TA) : TE := fun σ H Q => ta σ H fun x H1 => ∃ a dx fs, x = .ref a /\ H1 a = some (.ins C dx fs) /\ fs.lookup m = none /\
 t σ H1 fun vs H2 => sp (x :: (vs ++ dvs)) H2 Q (fun C d H' => EH C d σ H')
theorem C5f {pl : Sem Bool} (he : PE X o ta) (c : Cls X.K C) (hm : Meth X.K C m f) (F : FnOk X.prog X.w X.K X.mg X.base (CX1 X.prog X.w) j f fd ps sp) (hr : Room k X.A) (hb : Binds X.K fd ps ds) (hd : Vals dvs ds) (hx : G3 X EH) (ha : PA X (e :: es) t)
   (hj : j <= k := by decide) (hex : X.ex = [] := by rfl)
   (hst : starEach (e :: es) X.env = (false, eval e X.env) :: starEach es X.env := by rfl) (hpl : (backTo pos (starEach es X.env)).any (·.1) = false := by rfl)
   (ht : eval (.Call (.Attribute o m apos) (e :: es) [] pos) X.env = (do
     let ov <- eval o X.env
     standAt apos.atName
     let (f, first) <- holding [ov] (getMethod ov m pl)
     callWith pos f first (backTo pos (starEach (e :: es) X.env)) (backToKw pos (keywordEach [] X.env))) := by rfl) :
   PE X (.Call (.Attribute o m apos) (e :: es) [] pos) (J5v C m sp dvs EH ta t) := by
 intro pins s σ H Q I h
 refine methodCall_KW (pl := pl) (thn (he pins s σ H _ I h) fun u s1 ⟨x, H1, I1, rx, a, dx, fs, ex, ea, l, q⟩ => ?_) ht
 subst ex
 obtain rfl : u = Value.ref a := rx
 refine B9f I1 ea c hm l ?_
 refine callWith_K (first := [.ref a]) (h₀ := X.base) I.ok.mod.kin hm.kp (thn (ha pos pins s1 σ H1 _ I1 q) fun us s2 ⟨vs, H2, I2, r, q2⟩ => ⟨I2.kIn, ?_⟩) hst hpl
 exact B7x (us := .ref a :: us) (vs := .ref a :: vs) (F.mono hj) hr hb hd hx hex I2 (.cons rfl r) q2
theorem B9q {pl : Sem Bool} (he : PE X o ta) (c : Cls X.K C) (hm : Meth X.K C m f) (F : FnOk X.prog X.w X.K X.mg X.base (CX1 X.prog X.w) j f fd ps sp) (hr : Room k X.A) (hb : Binds X.K fd ps ds) (hd : Vals dvs ds) (hx : G3 X EH)
   (hj : j <= k := by decide) (hex : X.ex = [] := by rfl)
   (ht : eval (.Call (.Attribute o m apos) [] [] pos) X.env = (do
     let ov <- eval o X.env
     standAt apos.atName
     let (f, first) <- holding [ov] (getMethod ov m pl)
     callWith pos f first (backTo pos (starEach [] X.env)) (backToKw pos (keywordEach [] X.env))) := by rfl) :
   PE X (.Call (.Attribute o m apos) [] [] pos) (J5v C m sp dvs EH ta J8e) := by
 intro pins s σ H Q I h
 refine methodCall_KW (pl := pl) (thn (he pins s σ H _ I h) fun u s1 ⟨x, H1, I1, rx, a, dx, fs, ex, ea, l, q⟩ => ?_) ht
 subst ex
 obtain rfl : u = Value.ref a := rx
 refine B9f I1 ea c hm l ?_
 exact callWith_K0 (first := [.ref a]) I1.kIn hm.kp (B7x (us := [.ref a]) (vs := [.ref a]) (F.mono hj) hr hb hd hx hex I1 (.cons rfl .nil) q)
def V9b (C : Addr) (sp : Sp) (dvs : List V) (EH : EK) (t : TA) : TE := fun σ H Q => t σ H fun vs H1 => ∀ x dx, H1 x = none -> H1 dx = none -> dx ≠ x ->
 sp (.ref x :: (vs ++ dvs)) (upd (upd H1 dx (.own x)) x (.ins C dx [])) (fun v H2 => v = .non /\ Q (.ref x) H2) (fun C d H' => EH C d σ H')
theorem J2g {pins : List (Addr × Obj)} {σ : St} {H : Hp} {s : Shared} {Q : VK} {us : List Value} {vs : List V} (M : Mk X.K C f) (F : FnOk X.prog X.w X.K X.mg X.base (CX1 X.prog X.w) k f fd ps sp) (hr : Room (k + 1) X.A) (hb : Binds X.K fd ps ds) (hd : Vals dvs ds)
   (hx : G3 X EH) (hex : X.ex = []) (I : Inv X pins σ H s) (r : Vals vs us)
   (h : ∀ x dx, H x = none -> H dx = none -> dx ≠ x -> sp (.ref x :: (vs ++ dvs)) (upd (upd H dx (.own x)) x (.ins C dx [])) (fun v H2 => v = .non /\ Q (.ref x) H2) (fun C d H' => EH C d σ H')) :
   wpAny (model X.prog X.w) X.A (call (.ref C) us) (EP X pins σ Q) X.xe s := by
 have hq := h (s.heap.objs.size + 1) s.heap.objs.size (I.hok.fresh (Nat.le_succ _)) (I.hok.fresh (Nat.le_refl _)) (Nat.ne_of_lt (Nat.lt_succ_self _))
 have I2 := Inv.made (C := C) I
 have r2 : Vals (V.ref (s.heap.objs.size + 1) :: (vs ++ dvs)) (Value.ref (s.heap.objs.size + 1) :: (us ++ ds)) := .cons rfl (r.append hd)
 have hl : (Value.ref (s.heap.objs.size + 1) :: us ++ ds).length = ps.length := by
   have e := r2.length
   rw [F.len _ _ _ _ hq] at e
   exact e.symm
 refine wpAny_call (D4j (f := f) I.kIn M.makes M.init (beq_iff_eq.mp M.fn) (codeAny_mono (F.run _ X.stack _ _ ⟨Value.ref (s.heap.objs.size + 1) :: us, []⟩ (Value.ref (s.heap.objs.size + 1) :: (us ++ ds)) _ _ _ (hr.make C us [])
   (I2.env0.make C us []) (hb _ (Value.ref (s.heap.objs.size + 1) :: us) I2.kIn hl) r2 hq) fun r s' hq' => ?_))
 cases r with
 | error e => exact V2r hx hex I2 hq'
 | ok fl =>
   cases fl with
   | ret u =>
     obtain ⟨v, H', I3, rv, ev, q3⟩ := I2.after hq'
     subst ev
     exact ⟨rv, ⟨V.ref (s.heap.objs.size + 1), H', I3, rfl, q3⟩⟩
   | next => exact False.elim hq'
   | brk => exact False.elim hq'
   | cont => exact False.elim hq'
theorem J6z (M : Mk X.K C f) (F : FnOk X.prog X.w X.K X.mg X.base (CX1 X.prog X.w) j f fd ps sp) (hr : Room k X.A) (hm : X.mg x = some (.ref C)) (hb : Binds X.K fd ps ds) (hd : Vals dvs ds) (hx : G3 X EH)
   (ha : PA X (e :: es) t) (hj : j + 1 <= k := by decide) (hg : Gl X x := by rfl) (hex : X.ex = [] := by rfl) (hdb : (x == ("__debug__" : Str)) = false := by decide) (he : starEach (e :: es) X.env = (false, eval e X.env) :: starEach es X.env := by rfl) (hpl : (backTo pos (starEach es X.env)).any (·.1) = false := by rfl) :
   PE X (.Call (.Name x p) (e :: es) [] pos) (V9b C sp dvs EH t) := by
 intro pins s σ H Q I h
 refine wpAny_Call_Name_kw (A0k I hg hm ?_ hdb)
 refine callWith_K (h₀ := X.base) I.ok.mod.kin M.kp (thn (ha pos pins s σ H _ I h) fun us s1 ⟨vs, H1, I1, r, q⟩ => ⟨I1.kIn, ?_⟩) he hpl
 exact J2g M F (hr.mono hj) hb hd hx hex I1 r q
end
theorem V1r {n : Nat} (h : n <= sizeLine) : Builtin.Str.tooLong n = false := by
 unfold Builtin.Str.tooLong
 exact decide_eq_false (by omega)
section
variable {X : Cx}
end
structure FunD (K : Frag) (x qual : Str) (st : Stmt) (dV : Value) (f : Addr) (fd : FuncData) : Prop where
 ex : ∃ (oc : Value) (od : Option Addr) (kV doc pm : Value) (an : Option Addr) (cdv ct : Value) (osl : Array (Option Value)),
   fd = fnOf x qual (B5 st) (B1 st) (A3 st) dV kV doc pm an cdv ct /\ K.lookup f = some ⟨oc, od, .func fd, osl⟩ /\ codeIn K cdv qual = true
 kp : keepIn K (.ref f) = true
section
variable {P : Program} {w : World} {K : Frag} {mg : Str -> Option Value} {base : Heap}
theorem FunD.okE {x qual : Str} {st : Stmt} {dV : Value} {f : Addr} {fd : FuncData} {N ps : List Str} {k : Nat} {sp : Sp} (F : FunD K x qual st dV f fd) (S : FnScope N ps (A3 st)) (len : ∀ vs H Q E, sp vs H Q E -> vs.length = ps.length)
   (hbody : ∀ (X : Cx) (cdv : Value) (A : Around) (outer : List Env) (s : Shared) (H : Hp) (vs : List V) (Q : VK) (E : XK), X = A2j (CX1 P w) P w K mg base N qual (A3 st) f cdv A outer s H E -> Room k X.A -> G3 X (fun C dd _ H' => E C dd H') -> sp vs H Q E ->
     ∃ t, PSs (A2j (CX1 P w) P w K mg base N qual (A3 st) f cdv A outer s H E) (B1 st) t /\ t { nx := fun _ H' => Q .non H', rt := Q } (A1t N vs) H) : FnOk P w K mg base (CX1 P w) (k + 1) f fd ps sp := by
 obtain ⟨oc, od, kV, doc, pm, an, cdv, ct, osl, rfl, lk, hc⟩ := F.ex
 exact J6q lk hc S len fun A outer s H vs Q E hr h => hbody _ cdv A outer s H vs Q E rfl hr A4n h
theorem G9b {x qual : Str} {st : Stmt} {dV : Value} {f : Addr} {oc : Value} {od an : Option Addr} {osl : Array (Option Value)} {kV doc pm cdv ct : Value} (l : K.lookup f = some ⟨oc, od, .func (fnOf x qual (B5 st) (B1 st) (A3 st) dV kV doc pm an cdv ct), osl⟩)
   (c : codeIn K cdv qual = true) (k : keepIn K (.ref f) = true) : FunD K x qual st dV f (fnOf x qual (B5 st) (B1 st) (A3 st) dV kV doc pm an cdv ct) := ⟨⟨oc, od, kV, doc, pm, an, cdv, ct, osl, rfl, l, c⟩, k⟩
theorem D9t {fd : FuncData} {ps : List Str} {ds : List Value} {T : Addr} {o : Obj} {items : Array Value} {n : Nat} (hd : fd.defaults = .ref T) (ho : K.lookup T = some o) (hs : o.data = .seq items n)
   (h : ∀ us : List Value, (us ++ ds).length = ps.length -> ∃ k, bindArgs fd ⟨us, []⟩ = seqItems? fd.defaults >>= k /\ k (some items) = pure (ps.zip (us ++ ds))) : Binds K fd ps ds := fun s us X hl => by
 obtain ⟨k, h1, h2⟩ := h us hl
 exact binds_K X hd ho hs h1 h2
end
section
variable {X : Cx} {k j : Nat} {f C : Addr} {fd : FuncData} {ps ks : List Str} {sp : Sp} {EH : EK} {x m : Str} {p pos apos : Pos} {e o : Expr} {es : List Expr} {kws : List Keyword} {ta : TE} {t tk : TA} {g : List Value -> List Value -> List Value} {gV : List V -> List V -> List V}
end
section
variable {X : Cx} {K : Frag} {e : Expr} {f : Str} {pos : Pos} {ta : TE}
theorem D5j (h : X.K = K) : IxR X (Y4f K) := by subst h; exact A1b
theorem V3t (h : X.K = K) : IxR X (Y5p K) := by subst h; exact D4
theorem V3e (h : X.K = K) (he : PE X e ta) (hb : attributeBase e f X.env (eval e X.env) = eval e X.env) : PE X (.Attribute e f pos) (Y5w K ta f) := by subst h; exact G4 he hb
theorem A2b (h : X.K = K) : OpR X (compareOp .In) (rIn K false) := by subst h; exact A1r
end
end L2
namespace TR
open PySem L2 PySem.W PyProof.Rows
structure Own (mg : Str -> Option Value) : Prop where
 isi : mg "isinstance" = none
 int_ : mg "int" = none
 bool_ : mg "bool" = none
 str_ : mg "str" = none
 list_ : mg "list" = none
 tuple_ : mg "tuple" = none
 dict_ : mg "dict" = none
 len_ : mg "len" = none
 range_ : mg "range" = none
 min_ : mg "min" = none
 max_ : mg "max" = none
 abs_ : mg "abs" = none
 any_ : mg "any" = none
 all_ : mg "all" = none
 sum_ : mg "sum" = none
 repr_ : mg "repr" = none
 enumerate_ : mg "enumerate" = none
 reversed_ : mg "reversed" = none
 zip_ : mg "zip" = none
 sorted_ : mg "sorted" = none
 divmod_ : mg "divmod" = none
 set_ : mg "set" = none
 ValueError_ : mg "ValueError" = none
structure Kit (K : Frag) : Prop where
 int_int : kitOne K (.type "int") (.type "int") = some true
 int_bool : kitOne K (.type "int") (.type "bool") = some false
 int_str : kitOne K (.type "int") (.type "str") = some false
 int_list : kitOne K (.type "int") (.type "list") = some false
 int_tuple : kitOne K (.type "int") (.type "tuple") = some false
 int_dict : kitOne K (.type "int") (.type "dict") = some false
 bool_int : kitOne K (.type "bool") (.type "int") = some true
 bool_bool : kitOne K (.type "bool") (.type "bool") = some true
 bool_str : kitOne K (.type "bool") (.type "str") = some false
 bool_list : kitOne K (.type "bool") (.type "list") = some false
 bool_tuple : kitOne K (.type "bool") (.type "tuple") = some false
 bool_dict : kitOne K (.type "bool") (.type "dict") = some false
 str_int : kitOne K (.type "str") (.type "int") = some false
 str_bool : kitOne K (.type "str") (.type "bool") = some false
 str_str : kitOne K (.type "str") (.type "str") = some true
 str_list : kitOne K (.type "str") (.type "list") = some false
 str_tuple : kitOne K (.type "str") (.type "tuple") = some false
 str_dict : kitOne K (.type "str") (.type "dict") = some false
 list_int : kitOne K (.type "list") (.type "int") = some false
 list_bool : kitOne K (.type "list") (.type "bool") = some false
 list_str : kitOne K (.type "list") (.type "str") = some false
 list_list : kitOne K (.type "list") (.type "list") = some true
 list_tuple : kitOne K (.type "list") (.type "tuple") = some false
 list_dict : kitOne K (.type "list") (.type "dict") = some false
 tuple_int : kitOne K (.type "tuple") (.type "int") = some false
 tuple_bool : kitOne K (.type "tuple") (.type "bool") = some false
 tuple_str : kitOne K (.type "tuple") (.type "str") = some false
 tuple_list : kitOne K (.type "tuple") (.type "list") = some false
 tuple_tuple : kitOne K (.type "tuple") (.type "tuple") = some true
 tuple_dict : kitOne K (.type "tuple") (.type "dict") = some false
 dict_int : kitOne K (.type "dict") (.type "int") = some false
 dict_bool : kitOne K (.type "dict") (.type "bool") = some false
 dict_str : kitOne K (.type "dict") (.type "str") = some false
 dict_list : kitOne K (.type "dict") (.type "list") = some false
 dict_tuple : kitOne K (.type "dict") (.type "tuple") = some false
 dict_dict : kitOne K (.type "dict") (.type "dict") = some true
 NoneType_int : kitOne K (.type "NoneType") (.type "int") = some false
 NoneType_bool : kitOne K (.type "NoneType") (.type "bool") = some false
 NoneType_str : kitOne K (.type "NoneType") (.type "str") = some false
 NoneType_list : kitOne K (.type "NoneType") (.type "list") = some false
 NoneType_tuple : kitOne K (.type "NoneType") (.type "tuple") = some false
 NoneType_dict : kitOne K (.type "NoneType") (.type "dict") = some false
theorem scK {N P : List Str} {sc : Scope} (a : sc.kind = .function := by rfl) (b : sc.isCoroutine = false := by rfl) (c : sc.isGenerator = false := by rfl) (d : N.Nodup := by decide +kernel) (e : N.take P.length = P := by rfl) (f : ∀ x ∈ P, sc.names.lookup x = some .local \/ sc.names.lookup x = some .cell := by decide +kernel) (g : ∀ y ∈ sc.names, y.2 ≠ .free := by decide +kernel) : FnScope N P sc := ⟨a, b, c, d, e, f, g⟩
theorem V7a {K : Frag} {H : Hp} (i : Int) : TyE K H (.int i) (.type "int") := .of (.int i)
theorem J6t {K : Frag} {H : Hp} (z : Str) : TyE K H (.str z) (.type "str") := .of (.str z)
theorem V6x {K : Frag} {H : Hp} {a : Addr} {xs : List V} (h : H a = some (.lst xs)) : TyE K H (.ref a) (.type "list") := .of (.lst h)
def A3m (lo hi : Int) (v : V) : Prop := ∃ i, v = .int i /\ lo <= i /\ i <= hi
def C1x (K : Frag) (H : Hp) (lo hi : Int) (v : V) : Prop := ∃ t b1 b2, TyE K H v t /\ kitOne K t (.type "int") = some b1 /\ kitOne K t (.type "bool") = some b2 /\ ((b1 && !b2) = false \/ ∃ i, v = .int i /\ (i < lo \/ hi < i))
section
variable {K : Frag} {H : Hp} {lo hi : Int}
end
def Exc (p : Addr) (H H' : Hp) : Prop := ∀ b o, H b = some o -> b ≠ p -> H' b = some o
theorem Exc.refl (p : Addr) (H : Hp) : Exc p H H := fun _ _ h _ => h
theorem Exc.trans {p : Addr} {H H1 H2 : Hp} (a : Exc p H H1) (b : Exc p H1 H2) : Exc p H H2 := fun c o h n => b c o (a c o h n) n
theorem Exc.upd {p : Addr} {H : Hp} {o : HO} : Exc p H (L2.upd H p o) := fun b u e n => by rw [B4 n]; exact e
theorem Exc.of {p : Addr} {H H' : Hp} (s : Same H H') : Exc p H H' := fun b o h _ => s b o h
def Has (P : Program) (w : World) (K : Frag) (mg : Str -> Option Value) (base : Heap) (C : Addr) (m : Str) (k : Nat) (ps : List Str) (sp : Sp) : Prop := ∃ f fd, Meth K C m f /\ FnOk P w K mg base (CX1 P w) k f fd ps sp /\ Binds K fd ps []
def A6z (z : Str) (b : Bool) : List Str := if b then [z] else []
theorem Y4h : ∀ {us : List Value}, us.length = 3 -> ∃ a b c, us = [a, b, c]
 | [a, b, c], _ => ⟨a, b, c, rfl⟩
theorem Y9a : ∀ {us : List Value}, us.length = 4 -> ∃ a b c d, us = [a, b, c, d]
 | [a, b, c, d], _ => ⟨a, b, c, d, rfl⟩
theorem Y8f : ∀ {us : List Value}, us.length = 5 -> ∃ a b c d e, us = [a, b, c, d, e]
 | [a, b, c, d, e], _ => ⟨a, b, c, d, e, rfl⟩
theorem V1u {us ds : List Value} {n : Nat} (h : (us ++ ds).length = n) : us.length = n - ds.length := by rw [List.length_append] at h; omega
end TR
namespace L2
open PySem PySem.Spec PyProof.Rows
section
variable {κ : Type} [DecidableEq κ]
def B9d (kvs : List (κ × V)) (k : κ) : Option V := (kvs.find? fun kv => decide (kv.1 = k)).map (·.2)
def Y9 (kvs : List (κ × V)) (k : κ) (v : V) : List (κ × V) :=
 if (kvs.any fun kv => decide (kv.1 = k)) = true then kvs.map (fun kv => if kv.1 = k then (kv.1, v) else kv) else kvs ++ [(k, v)]
theorem B8g {p : κ × V} {r : List (κ × V)} {k : κ} (e : p.1 = k) : B9d (p :: r) k = some p.2 := by simp [B9d, List.find?_cons, e]
theorem B8j {p : κ × V} {r : List (κ × V)} {k : κ} (e : ¬ p.1 = k) : B9d (p :: r) k = B9d r k := by simp [B9d, List.find?_cons, e]
theorem D4z (k : κ) : ∀ kvs : List (κ × V), (kvs.any fun kv => decide (kv.1 = k)) = (B9d kvs k).isSome
 | [] => rfl
 | p :: r => by
   rw [List.any_cons]
   by_cases e : p.1 = k
   . simp only [B8g e, decide_eq_true e, Bool.true_or, Option.isSome_some]
   . rw [B8j e, decide_eq_false e, Bool.false_or]; exact D4z k r
theorem A7d (kvs : List (κ × V)) (k : κ) (v : V) : (Y9 kvs k v).length <= kvs.length + 1 := by
 unfold Y9
 split
 . rw [List.length_map]; omega
 . rw [List.length_append, List.length_cons, List.length_nil]; omega
theorem RelO.isSome_eq {o : Option V} {u : Option Value} (r : RelO o u) : o.isSome = u.isSome := by
 cases o with
 | none => cases u with
   | none => rfl
   | some _ => exact (show False from r).elim
 | some _ => cases u with
   | none => exact (show False from r).elim
   | some _ => rfl
theorem KV.val {kvs : List (κ × V)} {vs : List (κ × Value)} (r : KV kvs vs) (k : κ) : RelO (B9d kvs k) (valueAt vs k) := by
 unfold KV at r
 induction r with
 | nil => exact True.intro
 | @cons p q ps qs h t ih =>
   obtain ⟨h1, h2⟩ := h
   by_cases e : p.1 = k
   . have e' : q.1 = k := h1.symm.trans e
     have b : valueAt (q :: qs) k = some q.2 := by simp [valueAt, List.find?_cons, e']
     rw [B8g e, b]; exact h2
   . have e' : ¬ q.1 = k := fun z => e (h1.trans z)
     have b : valueAt (q :: qs) k = valueAt qs k := by simp [valueAt, List.find?_cons, e']
     rw [B8j e, b]; exact ih
theorem KV.any {kvs : List (κ × V)} {vs : List (κ × Value)} (r : KV kvs vs) (k : κ) : (kvs.any fun kv => decide (kv.1 = k)) = vs.any fun kv => decide (kv.1 = k) := by
 unfold KV at r
 induction r with
 | nil => rfl
 | cons h t ih => rw [List.any_cons, List.any_cons, ih, h.1]
theorem KV.repl {kvs : List (κ × V)} {vs : List (κ × Value)} (r : KV kvs vs) (k : κ) {y : V} {u : Value} (ry : RelV y u) :
   KV (kvs.map fun kv => if kv.1 = k then (kv.1, y) else kv) (vs.map fun kv => if kv.1 = k then (kv.1, u) else kv) := by
 unfold KV at r ⊢
 induction r with
 | nil => exact .nil
 | @cons p q ps qs h t ih =>
   rw [List.map_cons, List.map_cons]
   refine .cons ?_ ih
   obtain ⟨h1, h2⟩ := h
   by_cases e : p.1 = k
   . rw [if_pos e, if_pos (h1.symm.trans e)]; exact ⟨h1, ry⟩
   . rw [if_neg e, if_neg (fun z => e (h1.trans z))]; exact ⟨h1, h2⟩
theorem KV.put {kvs : List (κ × V)} {vs : List (κ × Value)} (r : KV kvs vs) (k : κ) {y : V} {u : Value} (ry : RelV y u) : KV (Y9 kvs k y) (stored vs k u) := by
 unfold Y9 stored
 rw [r.any k]
 by_cases e : (vs.any fun kv => decide (kv.1 = k)) = true
 . rw [if_pos e, if_pos e]; exact r.repl k ry
 . rw [if_neg e, if_neg e]; exact Paired.snoc r ⟨rfl, ry⟩
theorem KV.length {kvs : List (κ × V)} {vs : List (κ × Value)} (r : KV kvs vs) : kvs.length = vs.length := Paired.length r
end
theorem G9c {P : Program} {w : World} {k : Key} {u : Value} (r : RelV (kV k) u) : (V6 P w).is k u = true := by
 cases k with
 | inl i => obtain ⟨t, e⟩ := (show ∃ t, u = Value.int i t from r); subst e; exact D4g P w i t
 | inr x => obtain ⟨t, e⟩ := (show ∃ t, u = Value.str x t from r); subst e; exact D4x P w x t
theorem C5j {P : Program} {w : World} : ∀ {ks : List Key} {us : List Value}, Vals (ks.map kV) us -> ItemsAre (V6 P w) ks us
 | [], _, r => by rw [List.map_nil] at r; cases r; exact .nil
 | k :: ks, _, r => by
   rw [List.map_cons] at r
   cases r with
   | cons h t => exact .cons (G9c h) (C5j t)
abbrev KT (H : Hp) : List (List Key × V) -> List (List Key × Addr × Value) -> Prop := Paired fun p q => p.1 = q.1 /\ H q.2.1 = some (.tup (p.1.map kV)) /\ RelV p.2 q.2.2
theorem KT.val {H : Hp} {kvs : List (List Key × V)} {xs : List (List Key × Addr × Value)} (r : KT H kvs xs) (k : List Key) : RelO (B9d kvs k) ((atKey xs k).map (·.2)) := by
 induction r with
 | nil => exact True.intro
 | @cons p q ps qs h t ih =>
   obtain ⟨h1, _, h2⟩ := h
   by_cases e : p.1 = k
   . have e' : q.1 = k := h1.symm.trans e
     have b : atKey (q :: qs) k = some q.2 := by simp [atKey, List.find?_cons, e']
     rw [B8g e, b]; exact h2
   . have e' : ¬ q.1 = k := fun z => e (h1.trans z)
     have b : atKey (q :: qs) k = atKey qs k := by simp [atKey, List.find?_cons, e']
     rw [B8j e, b]; exact ih
theorem KT.repl {H : Hp} {kvs : List (List Key × V)} {xs : List (List Key × Addr × Value)} (r : KT H kvs xs) (k : List Key) {y : V} {u : Value} (ry : RelV y u) :
   KT H (kvs.map fun kv => if kv.1 = k then (kv.1, y) else kv) (xs.map (putAt k u)) := by
 induction r with
 | nil => exact .nil
 | @cons p q ps qs h t ih =>
   rw [List.map_cons, List.map_cons]
   refine .cons ?_ ih
   obtain ⟨h1, h2, h3⟩ := h
   unfold putAt
   by_cases e : p.1 = k
   . rw [if_pos e, if_pos (h1.symm.trans e)]; exact ⟨h1, h2, ry⟩
   . rw [if_neg e, if_neg (fun z => e (h1.trans z))]; exact ⟨h1, h2, h3⟩
theorem KT.put {H : Hp} {kvs : List (List Key × V)} {xs : List (List Key × Addr × Value)} (r : KT H kvs xs) (k : List Key) {b : Addr} {y : V} {u : Value} (hb : H b = some (.tup (k.map kV))) (ry : RelV y u) :
   KT H (Y9 kvs k y) (storedH xs k b u) := by
 have e : (kvs.any fun kv => decide (kv.1 = k)) = (atKey xs k).isSome := by
   rw [D4z, (r.val k).isSome_eq, Option.isSome_map]
 unfold Y9 storedH
 rw [e]
 by_cases q : (atKey xs k).isSome = true
 . rw [if_pos q, if_pos q]; exact r.repl k ry
 . rw [if_neg q, if_neg q]; exact Paired.snoc r ⟨rfl, hb, ry⟩
theorem KT.keeps {H H' : Hp} {kvs : List (List Key × V)} {xs : List (List Key × Addr × Value)} (r : KT H kvs xs) (ht : ∀ b ys, H b = some (.tup ys) -> H' b = some (.tup ys)) : KT H' kvs xs :=
 Paired.mapP r fun _ _ z => ⟨z.1, ht _ _ z.2.1, z.2.2⟩
section
variable {P : Program} {w : World} {H : Hp} {h : Heap} {a : Addr}
theorem V7f {u : HO} (ok : HOk P w H h) (e : Rd H a u) : ObjOk P w H h a u := e.ok ok
theorem J7k {kvs : List (Key × V)} (ok : HOk P w H h) (e : Rd H a (.dK kvs)) : kvs.length <= sizeLine /\ (a == sysModules) = false /\ ∃ vs, KV kvs vs /\ h.DictOf (V6 P w) a vs :=
 show ObjOk P w H h a (.dK kvs) from V7f ok e
theorem V7g {kvs : List (Key × V)} (ok : HOk P w H h) (e : H a = some (.dK kvs)) : kvs.length <= sizeLine /\ (a == sysModules) = false /\ ∃ vs, KV kvs vs /\ h.DictOf (V6 P w) a vs := J7k ok (.inl e)
theorem D9q {ks : List Key} (ok : HOk P w H h) (e : H a = some (.tup (ks.map kV))) : (tupleKind (V6 P w)).is h ks a := by
 obtain ⟨_, its, r, o, h1, h2, n, h3⟩ := (show ObjOk P w H h a (.tup (ks.map kV)) from ok a _ e)
 exact ⟨o, its.toArray, n, h1, h2, h3, by simpa using C5j r⟩
theorem J8a {kvs : List (List Key × V)} (ok : HOk P w H h) (e : Rd H a (.dT kvs)) : kvs.length <= sizeLine /\ (a == sysModules) = false /\
   ∃ xs, KT H kvs xs /\ h.DictOfH (tupleKind (V6 P w)) a xs := by
 obtain ⟨z, y, xs, r, o, es, ep, h1, h2, h3, h4, h5⟩ := (show ObjOk P w H h a (.dT kvs) from V7f ok e)
 refine ⟨z, y, xs, r, o, es, ep, h1, h2, h3, h4, fun x hx => ?_, h5⟩
 have all : ∀ {l : List (List Key × V)} {m : List (List Key × Addr × Value)}, KT H l m -> ∀ x ∈ m, (tupleKind (V6 P w)).is h x.1 x.2.1 := by
   intro l m q
   induction q with
   | nil => intro x hx; exact nomatch hx
   | @cons p q ps qs hq t ih =>
     intro x hx
     rcases List.mem_cons.mp hx with e | hx
     . subst e
       exact D9q ok (by rw [<- hq.1]; exact hq.2.1)
     . exact ih x hx
 exact all r x hx
theorem Y5n {kvs : List (List Key × V)} (ok : HOk P w H h) (e : H a = some (.dT kvs)) : kvs.length <= sizeLine /\ (a == sysModules) = false /\
   ∃ xs, KT H kvs xs /\ h.DictOfH (tupleKind (V6 P w)) a xs := J8a ok (.inl e)
end
def DGet (H : Hp) (a : Addr) (y : V) (r : Option V) : Prop :=
 (∃ kvs k, Rd H a (.dK kvs) /\ y = kV k /\ r = B9d kvs k) \/ ∃ kvs k b, Rd H a (.dT kvs) /\ y = .ref b /\ H b = some (.tup (k.map kV)) /\ r = B9d kvs k
def DPut (H : Hp) (a : Addr) (y v : V) (H' : Hp) : Prop :=
 (∃ kvs k, H a = some (.dK kvs) /\ y = kV k /\ kvs.length < sizeLine /\ H' = upd H a (.dK (Y9 kvs k v))) \/
 ∃ kvs k b, H a = some (.dT kvs) /\ y = .ref b /\ H b = some (.tup (k.map kV)) /\ kvs.length < sizeLine /\ H' = upd H a (.dT (Y9 kvs k v))
theorem DGet.k {H : Hp} {a : Addr} {kvs : List (Key × V)} {k : Key} (e : H a = some (.dK kvs)) : DGet H a (kV k) (B9d kvs k) := .inl ⟨kvs, k, .inl e, rfl, rfl⟩
theorem DPut.k {H : Hp} {a : Addr} {kvs : List (Key × V)} {k : Key} {v : V} (e : H a = some (.dK kvs)) (hl : kvs.length < sizeLine) : DPut H a (kV k) v (upd H a (.dK (Y9 kvs k v))) := .inl ⟨kvs, k, e, rfl, hl, rfl⟩
section
variable {X : Cx} {pins : List (Addr × Obj)} {σ : St} {H : Hp} {s : Shared} {a : Addr} {y v : V} {u r : Value} {o : Option V} {A : Around} {E : Value -> Shared -> Prop}
theorem J1a {Q : Value -> Shared -> Prop} (hu : A.units + 1 < cLine) (I : Inv X pins σ H s) (g : DGet H a y (some v)) (ry : RelV y u) (h : ∀ w' s', Inv X pins σ H s' -> RelV v w' -> Q w' s') :
   wpAny (model X.prog X.w) A (getItem (.ref a) u) Q E s := by
 rcases g with ⟨kvs, k, e, ey, l⟩ | ⟨kvs, k, b, e, ey, eb, l⟩
 . subst ey
   obtain ⟨z, hd, vs, rel, dd⟩ := J7k I.hok e
   obtain ⟨w', hw, rw'⟩ := RelO.some_of (v := v) (o := valueAt vs k) (by rw [l]; exact rel.val k)
   exact wpAny_getItem_of (G9c ry) dd.mapOf hw (h w' _ (I.tok _) rw')
 . subst ey
   cases (show u = Value.ref b from ry)
   obtain ⟨z, hd, xs, rel, dd⟩ := J8a I.hok e
   obtain ⟨w', hw, rw'⟩ := RelO.some_of (v := v) (o := (atKey xs k).map (·.2)) (by rw [l]; exact rel.val k)
   obtain ⟨p, hp, hp2⟩ := Option.map_eq_some_iff.mp hw
   refine wpAny_getItem_heap (tupleKind_room_in1 hu) (D9q I.hok eb) dd hp ?_
   rw [hp2]
   exact h w' _ (I.tok _) rw'
theorem C8k {h' : Heap} {t' : Nat} {ob : HO} (I : Inv X pins σ H s) (mu : Mut (H a)) (hs : Heap.SameBut a s.heap h') (he : ∃ q, h'.get? a = some q) (new : ObjOk X.prog X.w (upd H a ob) h' a ob) :
   Inv X pins σ (upd H a ob) { s with heap := h', toks := t' } :=
 I.write (x := a) (e := a) mu (.inl rfl) (fun b q hb z => (hs.2 b hb).trans z) he new
theorem J5h {P : Program} {w : World} {H' : Hp} {h' : Heap} {kvs : List (Key × V)} {vs : List (Key × Value)} (z : kvs.length <= sizeLine) (hd : (a == sysModules) = false) (rel : KV kvs vs) (dd : h'.DictOf (V6 P w) a vs) :
   ObjOk P w H' h' a (.dK kvs) := ⟨z, hd, vs, rel, dd⟩
theorem J2a {H' : Hp} {Q : Unit -> Shared -> Prop} (hu : A.units + 1 < cLine) (I : Inv X pins σ H s) (g : DPut H a y v H') (ry : RelV y u) (rv : RelV v r) (h : ∀ s', Inv X pins σ H' s' -> Q () s') :
   wpAny (model X.prog X.w) A (setItem (.ref a) u r) Q E s := by
 rcases g with ⟨kvs, k, e, ey, l, eH⟩ | ⟨kvs, k, b, e, ey, eb, l, eH⟩
 . subst ey eH
   obtain ⟨z, hd, vs, rel, dd⟩ := V7g I.hok e
   have hz : vs.length <= sizeLine := by rw [<- rel.length]; exact z
   have hl : (Y9 kvs k v).length <= sizeLine := by have := A7d kvs k v; omega
   refine wpAny_setItem_pairs (hsz := hz) (G9c ry) dd fun h' dd' hs => h _ ?_
   have he : ∃ q, h'.get? a = some q := let ⟨q, _, _, hq, _⟩ := dd'; ⟨q, hq⟩
   exact C8k I (by rw [e]; exact True.intro) hs he (J5h hl hd (rel.put k rv) dd')
 . subst ey eH
   cases (show u = Value.ref b from ry)
   obtain ⟨z, hd, xs, rel, dd⟩ := Y5n I.hok e
   have hz : xs.length <= sizeLine := by rw [<- Paired.length rel]; exact z
   have hl : (Y9 kvs k v).length <= sizeLine := by have := A7d kvs k v; omega
   refine wpAny_setItem_heap (hsz := hz) (tupleKind_room_in1 hu) (D9q I.hok eb) dd fun h' dd' hs => h _ ?_
   obtain ⟨q, es, ep, hq, h2, h3, h4, _, h5⟩ := dd'
   refine C8k I (by rw [e]; exact True.intro) hs ⟨q, hq⟩ ⟨hl, hd, _, (rel.put k eb rv).keeps fun c ys ec => ?_, q, es, ep, hq, h2, h3, h4, h5⟩
   rw [B4 (J1 ec e (fun z => nomatch z))]
   exact ec
end
section
variable {X : Cx} {pins : List (Addr × Obj)} {σ : St} {H : Hp} {s : Shared} {a : Addr} {kvs : List (Key × V)} {k : Key} {u : Value} {A : Around} {E : Value -> Shared -> Prop}
end
def Y4q (i : Expr) : Prop := ∀ ov iv, subscripted i false ov iv = operate [ov, iv] (getItem ov iv)
theorem V3g {prog : Program} {w : World} {A : Around} {E : Value -> Shared -> Prop} {s : Shared} {env : Env} {value slice : Expr} {pos : Pos} {T id : String} {Q : Value -> Shared -> Prop}
   (hl : typeLookup (.type T) "__getitem__" = pure (some (.builtin id))) (hs : Y4q slice)
   (h : wpAny (model prog w) A (eval value env) (fun o s₁ => wpAny (model prog w) A (eval slice env) (fun i s₂ => s₂.TypeIs o T /\ wpAny (model prog w) A (getItem o i) Q E s₂) E s₁) E s) :
   wpAny (model prog w) A (eval (.Subscript value slice pos) env) Q E s := by
 refine Subscript_ (wpAny_mono h (fun o s₁ h₁ => wpAny_mono h₁ (fun i s₂ h₂ => ?_) fun _ _ x => x) fun _ _ x => x)
 obtain ⟨hT, h₂⟩ := h₂
 unfold subscriptTail
 refine wpAny_bind ?_
 rw [getitemInPython_of_ne hT.not_modules]
 refine wpAny_bind (wpAny_specialOf hT hl ?_)
 have fin : wpAny (model prog w) A (subscripted slice false o i) (fun r s₃ => wpAny (model prog w) A (letTemporaryGo value o r >>= fun _ => pure r) Q E s₃) E s₂ := by
   rw [hs o i]
   exact wpAny_operating (wpAny_mono h₂ (fun r s₃ h₃ => wpAny_bind (wpAny_letTemporaryGo (wpAny_pure h₃))) fun _ _ x => x)
 first
   | exact wpAny_pure (wpAny_bind fin)
   | exact wpAny_bind (wpAny_pure (wpAny_bind fin))
   | exact wpAny_bind fin
theorem D3z {X : Cx} {pins : List (Addr × Obj)} {σ : St} {H : Hp} {s : Shared} {a : Addr} {y : V} {o : Option V} (I : Inv X pins σ H s) (g : DGet H a y o) : s.TypeIs (.ref a) "dict" := by
 rcases g with ⟨kvs, k, e, _, _⟩ | ⟨kvs, k, b, e, _, _, _⟩
 . obtain ⟨_, _, vs, _, dd⟩ := J7k I.hok e
   exact dd.typeIs
 . obtain ⟨_, _, xs, _, dd⟩ := J8a I.hok e
   exact dd.typeIs
def Y3j (td ty : TE) : TE := fun σ H Q => td σ H fun x H1 => ty σ H1 fun y H2 => ∃ a v, x = .ref a /\ DGet H2 a y (some v) /\ Q v H2
def Y3q (td ty tv : TE) : TS := fun D σ H => tv σ H fun v H1 => td σ H1 fun x H2 => ty σ H2 fun y H3 => ∃ a H4, x = .ref a /\ DPut H3 a y v H4 /\ D.nx σ H4
section
variable {X : Cx} {o i e value : Expr} {pos pos' tpos : Pos} {td ty tv : TE}
theorem U2 (hu : X.A.units + 1 < cLine) (ho : PE X o td) (hi : PE X i ty) (hs : Y4q i) : PE X (.Subscript o i pos) (Y3j td ty) := by
 intro pins s σ H Q I h
 refine V3g PySem.F.slot_dict_getitem.lookup hs (thn (ho pins s σ H _ I h) fun u s1 ⟨x, H1, I1, rx, q1⟩ => thn (hi pins s1 σ H1 _ I1 q1) fun iv s2 ⟨y, H2, I2, ry, a, v, ex, g, q2⟩ => ?_)
 subst ex
 obtain rfl : u = Value.ref a := rx
 exact ⟨D3z I2 g, J1a hu I2 g ry fun w' s3 I3 rw' => ⟨v, H2, I3, rw', q2⟩⟩
theorem A4m (hu : X.A.units + 1 < cLine) (ho : PE X o td) (hi : PE X i ty) (hv : PE X value tv) (hs : swapsWith value (some (.Subscript o i pos')) pos.line X.env = pure false) :
   PS X (.Assign [.Subscript o i pos'] value pos) (Y3q td ty tv) := by
 intro pins s σ H D I h
 refine wpAny_Assign_Subscript (thn (hv pins s σ H _ I h) fun r s1 ⟨v, H1, I1, rv, q1⟩ => thn (ho pins s1 σ H1 _ I1 q1) fun u s2 ⟨x, H2, I2, rx, q2⟩ => thn (hi pins s2 σ H2 _ I2 q2) fun iv s3 ⟨y, H3, I3, ry, a, H4, ex, g, q3⟩ => ?_) hs
 subst ex
 obtain rfl : u = Value.ref a := rx
 exact J2a hu I3 g ry rv fun s4 I4 => ⟨σ, H4, I4, q3⟩
end
section
variable {X : Cx} {pos : Pos}
end
def D9k : List (TE × TE) -> St -> Hp -> (List (V × V) -> Hp -> Prop) -> Prop
 | [], _, H, Q => Q [] H
 | (tk, tv) :: r, σ, H, Q => tk σ H fun x H1 => tv σ H1 fun y H2 => D9k r σ H2 fun ps H3 => Q ((x, y) :: ps) H3
abbrev VV : List (V × V) -> List (Value × Value) -> Prop := Paired fun p q => RelV p.1 q.1 /\ RelV p.2 q.2
def PPs (X : Cx) (pos : Pos) (keys : List (Option Expr)) (values : List Expr) (trs : List (TE × TE)) : Prop :=
 ∀ (pins : List (Addr × Obj)) (s : Shared) (σ : St) (H : Hp) (Q : List (V × V) -> Hp -> Prop), Inv X pins σ H s -> D9k trs σ H Q ->
   wpAny (model X.prog X.w) X.A (evalPairs (pairTrees keys values X.env pos)) (fun vs s' => ∃ ps H', Inv X pins σ H' s' /\ VV ps vs /\ Q ps H') X.xe s
theorem V4d {X : Cx} {pos : Pos} : PPs X pos [] [] [] := fun pins s σ H Q I h => pairTrees_nil_walk ⟨[], H, I, .nil, h⟩
theorem D4r {X : Cx} {pos : Pos} {k v : Expr} {ks : List (Option Expr)} {vs : List Expr} {tk tv : TE} {trs : List (TE × TE)} (hk : PE X k tk) (hv : PE X v tv) (hr : PPs X pos ks vs trs) :
   PPs X pos (some k :: ks) (v :: vs) ((tk, tv) :: trs) := fun pins s σ H Q I h =>
 pairTrees_cons_walk (thn (hk pins s σ H _ I h) fun u s1 ⟨x, H1, I1, rx, q1⟩ => thn (hv pins s1 σ H1 _ I1 q1) fun w2 s2 ⟨y, H2, I2, ry, q2⟩ =>
   thn (hr pins s2 σ H2 _ I2 q2) fun ws s3 ⟨ps, H3, I3, rel, q3⟩ => ⟨(x, y) :: ps, H3, I3, .cons ⟨rx, ry⟩ rel, q3⟩)
def A7e (kvs more : List (Key × V)) : List (Key × V) := more.foldl (fun acc kv => Y9 acc kv.1 kv.2) kvs
theorem KV.merge : ∀ {more : List (Key × V)} {rs : List (Key × Value)} {kvs : List (Key × V)} {vs : List (Key × Value)}, KV more rs -> KV kvs vs -> KV (A7e kvs more) (merged vs rs) := by
 intro more rs kvs vs r
 unfold KV at r
 induction r generalizing kvs vs with
 | nil => intro q; exact q
 | @cons p q ps qs h t ih =>
   intro r0
   have e : KV (Y9 kvs p.1 p.2) (stored vs q.1 q.2) := by
     have := r0.put p.1 h.2
     rw [<- h.1]; exact this
   exact ih e
theorem B0d : ∀ (more kvs : List (Key × V)), (A7e kvs more).length <= kvs.length + more.length
 | [], kvs => by show kvs.length <= kvs.length + 0; omega
 | p :: r, kvs => by
   have h1 := B0d r (Y9 kvs p.1 p.2)
   have h2 := A7d kvs p.1 p.2
   show (A7e (Y9 kvs p.1 p.2) r).length <= _
   rw [List.length_cons]; omega
theorem B9p {P : Program} {w : World} : ∀ {kvs : List (Key × V)} {ws : List (Value × Value)}, VV (kvs.map fun kv => (kV kv.1, kv.2)) ws -> ∃ rs, Carries (V6 P w) ws rs /\ KV kvs rs
 | [], _, r => by rw [List.map_nil] at r; cases r; exact ⟨[], True.intro, .nil⟩
 | p :: kvs, _, r => by
   rw [List.map_cons] at r
   cases r with
   | @cons a b as bs h t =>
     obtain ⟨rs, c, q⟩ := B9p (P := P) (w := w) t
     obtain ⟨b1, b2⟩ := b
     exact ⟨(p.1, b2) :: rs, ⟨G9c h.1, rfl, c⟩, .cons ⟨rfl, h.2⟩ q⟩
def Y5f (trs : List (TE × TE)) : TE := fun σ H Q => ∀ p, H p = none -> D9k trs σ (upd H p (.dK [])) fun ps H2 => H2 p = some (.dK []) /\ ∃ kvs : List (Key × V), ps = kvs.map (fun kv => (kV kv.1, kv.2)) /\ kvs.length <= 15 /\ Q (.ref p) (upd H2 p (.dK (A7e [] kvs)))
theorem V4h {X : Cx} {pos : Pos} {keys : List (Option Expr)} {values : List Expr} {trs : List (TE × TE)} (h : PPs X pos keys values trs) (hall : keys.all (·.isSome) = true) (hl : keys.length = values.length) (h0 : keys ≠ [])
   (h15 : keys.length <= 15) : PE X (.Dict keys values pos) (Y5f trs) := by
 intro pins s σ H Q I q
 have hn := I.hok.fresh (Nat.le_refl s.heap.objs.size)
 have I1 := I.laid (a := s.heap.objs.size) (o := .dK []) (h' := s.heap.push { cls := .type "dict", data := .dict #[] }) (t' := s.toks) (fun _ _ q => Heap.get?_push_of_some _ q) (Nat.le_refl _) (J6g s.heap I.big)
 refine wpAny_Dict_walk (knd := V6 X.prog X.w) hall hl h0 h15 (thn (h pins _ σ _ _ I1 (q _ hn)) fun ws s2 ⟨ps, H2, I2, rel, e, kvs, ep, lk, q2⟩ => ?_)
 subst ep
 obtain ⟨rs, c, rk⟩ := B9p (P := X.prog) (w := X.w) rel
 obtain ⟨z, hd, vs0, r0, dd⟩ := V7g I2.hok e
 cases r0
 refine ⟨rs, c, dd, fun h' dd' hs => ⟨.ref s.heap.objs.size, _, ?_, rfl, q2⟩⟩
 have hz : (A7e [] kvs).length <= sizeLine := by
   have h1 := B0d kvs []
   rw [List.length_nil] at h1
   rw [sizeLine_eq]; omega
 have he : ∃ q, h'.get? s.heap.objs.size = some q := let ⟨q, _, _, hq, _⟩ := dd'; ⟨q, hq⟩
 exact C8k I2 (by rw [e]; exact True.intro) hs he (J5h hz hd (rk.merge .nil) dd')
end L2
namespace L2
open PySem PySem.Spec PyProof.Rows PySem.W
def A0p (F : List Str) (env : Env) : List (Str × Addr) := F.map fun x => (x, (env.cells.lookup x).getD 0)
def A2s (js : List Nat) (σ : St) : St := js.map fun j => (σ[j]?).getD none
abbrev Cx.compF (X : Cx) (scope : Scope) (N F : List Str) (C : Addr) (s₀ : Shared) (H₀ : Hp) (ex : List Addr) (pins : List (Addr × Obj)) : Cx :=
 { X with N := N ++ F, s₀ := s₀, H₀ := H₀, env := compEnvC scope (A0p F X.env) C X.env, outer := X.stack, ex := ex, fn := fun _ => false, pn := pins, xe := fun _ _ => False }
structure CompScopeF (N F : List Str) (js : List Nat) (sc : Scope) (XN : List Str) (env : Env) : Prop where
 kind : sc.kind = .function
 cell : ∀ y ∈ sc.names, y.2 ≠ .cell
 loc : ∀ y ∈ sc.names, y.2 = .local -> sc.names.lookup y.1 = some .local
 nd : (N ++ F).Nodup
 clos : closureFor sc env = pure (A0p F env)
 fr : ∀ y ∈ (relabel sc env).names, y.2 = .cell \/ y.2 = .free -> y.1 ∈ F
 at_ : ∀ (k : Nat) (x : Str), F[k]? = some x -> (∃ j : Nat, js[k]? = some j /\ XN[j]? = some x) /\ (∃ c, env.cells.lookup x = some c) /\ env.kindOf x = some .cell /\ (relabel sc env).names.lookup x = some .cell
 jl : js.length = F.length
def A7q (n : Nat) (js : List Nat) (wi : TI) (g : TG) (tc : TT) (te : TE) : TE := fun σ H Q => wi σ H fun J H1 => ∀ D, H1 D = none ->
 ∃ (m : Nat) (W : Nat -> List V -> Hp -> Prop), W 0 [] (upd H1 D (.lst [])) /\ ∀ i ys H2, W i ys H2 -> i <= m /\ H2 D = some (.lst ys) /\ ((J.stop i H2 /\ Q (.ref D) H2) \/ (i < m /\ J.go i H2 /\ ∀ x H3, J.yld i H2 x H3 ->
   g x (List.replicate n none ++ A2s js σ) H3 fun σ4 H4 => tc σ4 H4 fun b H5 => if b = true then te σ4 H5 fun y H6 => H6 D = some (.lst ys) /\ ys.length < sizeLine /\ W (i + 1) (ys ++ [y]) (upd H6 D (.lst (ys ++ [y]))) else W (i + 1) ys H5))
def G9m (n : Nat) (js : List Nat) (wi : TI) (g : TG) (te : TE) : TE := fun σ H Q => wi σ H fun J H1 => ∀ D, H1 D = none ->
 ∃ (m : Nat) (W : Nat -> List V -> Hp -> Prop), W 0 [] (upd H1 D (.lst [])) /\ ∀ i ys H2, W i ys H2 -> i <= m /\ H2 D = some (.lst ys) /\ ((J.stop i H2 /\ Q (.ref D) H2) \/ (i < m /\ J.go i H2 /\ ∀ x H3, J.yld i H2 x H3 ->
   g x (List.replicate n none ++ A2s js σ) H3 fun σ4 H4 => te σ4 H4 fun y H6 => H6 D = some (.lst ys) /\ ys.length < sizeLine /\ W (i + 1) (ys ++ [y]) (upd H6 D (.lst (ys ++ [y])))))
theorem V9v {F : List Str} {env : Env} {x : Str} {c : Addr} (h : (A0p F env).lookup x = some c) : x ∈ F /\ c = (env.cells.lookup x).getD 0 := by
 have := PySem.mem_of_lookup h
 obtain ⟨y, hy, e⟩ := List.mem_map.mp this
 cases e
 exact ⟨hy, rfl⟩
theorem J7z {env : Env} {x : Str} : ∀ {F : List Str}, x ∈ F -> (A0p F env).lookup x = some ((env.cells.lookup x).getD 0)
 | y :: F, h => by
   show List.lookup x ((y, (env.cells.lookup y).getD 0) :: A0p F env) = _
   by_cases e : x = y
   . subst e; simp [List.lookup]
   . have hb : (x == y) = false := beq_eq_false_iff_ne.mpr e
     rw [List.lookup_cons, hb]
     exact J7z (by rcases List.mem_cons.mp h with z | z; exact absurd z e; exact z)
section
variable {X : Cx} {N F : List Str} {js : List Nat} {scope : Scope}
theorem CompScopeF.sub (S : CompScopeF N F js scope X.N X.env) : ∀ x c, (A0p F X.env).lookup x = some c -> X.env.cells.lookup x = some c := fun x c z => by
 obtain ⟨hx, rfl⟩ := V9v z
 obtain ⟨k, hk⟩ := List.mem_iff_getElem?.mp hx
 obtain ⟨_, ⟨c, hc⟩, _⟩ := S.at_ k x hk
 rw [hc]; rfl
theorem CompScopeF.has (S : CompScopeF N F js scope X.N X.env) {x : Str} (hx : x ∈ F) : ∃ c, (A0p F X.env).lookup x = some c /\ X.env.cells.lookup x = some c :=
 ⟨_, J7z hx, S.sub _ _ (J7z hx)⟩
theorem A9k {pins : List (Addr × Obj)} {σ : St} {H : Hp} {s : Shared} (S : CompScopeF N F js scope X.N X.env) (I : Inv X pins σ H s) {h' : Heap} {m : Str -> Option Value} {C : Addr} (hc : ∀ x c v, X.env.cells.lookup x = some c -> s.heap.IsCell c v -> h'.IsCell c v) :
   ∀ (i : Nat) (x : Str) (v : V), (N ++ F)[i]? = some x -> (List.replicate N.length none ++ A2s js σ)[i]? = some (some v) -> ∃ u, RelV v u /\ Y4k (compEnvC scope (A0p F X.env) C X.env) h' m x u := by
 intro i x v e1 e2
 by_cases hi : i < N.length
 . rw [List.getElem?_append_left (by simpa using hi), List.getElem?_replicate] at e2
   split at e2 <;> cases e2
 . rw [List.getElem?_append_right (by omega)] at e1
   rw [List.getElem?_append_right (by simp; omega)] at e2
   rw [List.length_replicate] at e2
   obtain ⟨⟨j, hj, hx⟩, ⟨c, hcc⟩, kx, kr⟩ := S.at_ _ x e1
   unfold A2s at e2
   rw [List.getElem?_map, hj] at e2
   have e2 : (σ[j]?).getD none = some v := Option.some.inj e2
   have e3 : σ[j]? = some (some v) := by
     cases q : σ[j]? with
     | none => rw [q] at e2; cases e2
     | some o => rw [q] at e2; exact congrArg some e2
   obtain ⟨m0, _, hl⟩ := I.loc
   obtain ⟨u, r, l⟩ := hl j x v hx e3 (.inr (.inl kx))
   refine ⟨u, r, .inr ⟨.inl kr, c, ?_, ?_⟩⟩
   . obtain ⟨c', h1, h2⟩ := S.has (List.mem_of_getElem? e1)
     rw [hcc] at h2
     cases h2
     exact h1
   . rcases l with ⟨k, _⟩ | ⟨_, c', h1, h2⟩
     . rw [kx] at k; cases k
     . rw [hcc] at h1
       cases h1
       exact hc x c _ hcc h2
theorem C8m (S : CompScopeF N F js scope X.N X.env) (σ : St) : (List.replicate N.length none ++ A2s js σ : St).length = (N ++ F).length := by
 unfold A2s
 rw [List.length_append, List.length_replicate, List.length_map, S.jl, List.length_append]
theorem C5p {pins : List (Addr × Obj)} {σ : St} {H : Hp} {s : Shared} {it : Addr} {h' : Heap} (S : CompScopeF N F js scope X.N X.env) (I : Inv X pins σ H s) (hf : A2g X pins H it) (hit : ∃ o, s.heap.get? it = some o) (hnb : X.base.get? it = none)
   (hns : h'.Ns s.heap.objs.size (fun _ => none)) (hsb : ∀ b o, s.heap.get? b = some o -> h'.get? b = some o) {tk : Nat} :
   Inv (X.compF scope N F s.heap.objs.size s H [it] (X.pn ++ pins)) [] (List.replicate N.length none ++ A2s js σ) H { s with heap := h', toks := tk } := by
 obtain ⟨f0, f1, f2, f3, f4, f5⟩ := hf
 obtain ⟨oi, ei⟩ := hit
 have lt : it < s.heap.objs.size := Heap.lt_size ei
 have ck : ∀ c v, s.heap.IsCell c v -> h'.IsCell c v := fun c v ⟨o, e, d⟩ => ⟨o, hsb _ _ e, d⟩
 have inF : ∀ x, ((compEnvC scope (A0p F X.env) s.heap.objs.size X.env).kindOf x = some .cell \/ (compEnvC scope (A0p F X.env) s.heap.objs.size X.env).kindOf x = some .free) -> x ∈ F := by
   intro x z
   have z : (relabel scope X.env).names.lookup x = some .cell \/ (relabel scope X.env).names.lookup x = some .free := z
   rcases z with z | z
   . exact S.fr _ (PySem.mem_of_lookup z) (.inl rfl)
   . exact S.fr _ (PySem.mem_of_lookup z) (.inr rfl)
 refine ⟨⟨I.ok.mod, S.kind, I.ok.glob, I.ok.blt, Nat.le_refl _, fun x y c z z' => I.ok.inj x y c (S.sub x c z) (S.sub y c z'), fun x z => ?_, fun x c z _ => (nomatch z), I.ok.hd, I.ok.frames, .inl rfl, fun b hb => ?_, I.bs, Nat.le_trans I.ok.bsz I.sz, fun b o e hb => ?_, fun b hb hfs => ?_, I.stack, I.stkFree⟩,
   rfl, I.bare, Un.kept hsb, ⟨_, hns, fun i x v e1 e2 e3 => A9k S I (fun x c v _ z => ck c v z) i x v e1 e2⟩, fun x c z => ?_, I.hok.fresh (Nat.le_refl _), fun x c z => I.freeC x c (S.sub x c z), fun p hp => ?_, I.hok.kept hsb, C8m S σ⟩
 . obtain ⟨c, h1, _⟩ := S.has (inF x z)
   exact ⟨c, h1⟩
 . have e : b = it := by simpa using hb
   subst e
   exact ⟨Nat.ne_of_lt lt, fun x c z => f4 x c (S.sub x c z)⟩
 . have e' : b = it := by simpa using hb
   subst e'
   rw [hnb] at e
   cases e
 . have e' : b = it := by simpa using hb
   subst e'
   rcases List.mem_cons.mp (I.stkSub b hfs) with z | z
   . exact f1 z
   . exact f2 z
 . obtain ⟨v, z'⟩ := I.cell x c (S.sub x c z)
   exact ⟨v, ck c v z'⟩
 . have hp' : p ∈ X.pn ++ pins := by simpa using hp
   obtain ⟨q1, q2, q3, q4, q5⟩ := I.pin p hp'
   refine ⟨hsb _ _ q1, q2, Nat.ne_of_lt (Heap.lt_size q1), fun z => ?_, q5⟩
   rcases List.mem_cons.mp (I.stkSub p.1 z) with z | z
   . exact q3 z
   . exact q4 z
theorem C6g {pins pl : List (Addr × Obj)} {σ σ' : St} {H H' : Hp} {s s' : Shared} {it : Addr} (S : CompScopeF N F js scope X.N X.env) (I : Inv X pins σ H s) (hf : A2g X pins H it) (J : Inv (X.compF scope N F s.heap.objs.size s H [it] (X.pn ++ pins)) pl σ' H' s') :
   Inv (X.compF scope N F s.heap.objs.size s H [it] (X.pn ++ pins)) [] (List.replicate N.length none ++ A2s js σ) H' s' := by
 obtain ⟨m, hn, _⟩ := J.loc
 refine ⟨J.ok, J.os, J.bare, J.base, ⟨m, hn, fun i x v e1 e2 e3 => A9k S I (fun x c v z q => ?_) i x v e1 e2⟩, J.cell, J.free, J.freeC, fun p hp => J.pin p (by
   have hp : p ∈ (X.pn ++ pins) ++ [] := hp
   rw [List.append_nil] at hp
   exact List.mem_append_left _ hp), J.hok, C8m S σ⟩
 obtain ⟨o, e, d⟩ := q
 have ne : c ∉ [it] := fun w => hf.2.2.2.2.1 x c z (by simpa using w)
 obtain ⟨sl, q⟩ := J.base.any e (I.freeC x c z) ne
 exact ⟨_, q, d⟩
theorem B9n {elt target iter c : Expr} {scope : Scope} {pos : Pos} {N F : List Str} {js : List Nat} {wi : TI} {g : TG} {tc : TT} {te : TE} (S : CompScopeF N F js scope X.N X.env) (hd : Y3 X) (hi : PIH X target iter wi) (hex : X.ex = [])
   (hg : ∀ C s₀ H₀ ex pn, Y3 (X.compF scope N F C s₀ H₀ ex pn) -> PG (X.compF scope N F C s₀ H₀ ex pn) target g)
   (hc : ∀ C s₀ H₀ ex pn, Y3 (X.compF scope N F C s₀ H₀ ex pn) -> PT (X.compF scope N F C s₀ H₀ ex pn) c tc)
   (he : ∀ C s₀ H₀ ex pn, Y3 (X.compF scope N F C s₀ H₀ ex pn) -> PE (X.compF scope N F C s₀ H₀ ex pn) elt te)
   {pins : List (Addr × Obj)} {s : Shared} {σ : St} {H : Hp} {Q : VK} {RR : Value -> Env -> Result -> Shared -> Prop} (I : Inv X pins σ H s) (h : (A7q N.length js wi g tc te) σ H Q)
   (hRR : ∀ (D C : Addr) (s6 : Shared) (H5 : Hp) (mm : Str -> Option Value), Inv X pins σ H5 s6 -> s6.heap.Ns C mm -> A2g X pins H5 C -> Q (.ref D) H5 -> RR (.ref D) (compEnvC scope (A0p F X.env) C X.env) (.ok .next) s6) :
   wpAny (model X.prog X.w) X.A (eval iter X.env) (fun v s1 => wpAny (model X.prog X.w) X.A (pyIter v) (fun itv s2 => wpAny (model X.prog X.w) X.A (newList []) (fun acc s3 => wpAny (model X.prog X.w) X.A (newFunctionEnv scope X.env.globals (A0p F X.env) [] X.env.qual none .none (some X.env)) (fun cenv s4 =>
     codeAny (model X.prog X.w) X.A (.compStart (.ListComp elt [⟨target, iter, [c], 0⟩] scope pos) 0 itv acc { cenv with scope := relabel scope X.env }) (RR acc { cenv with scope := relabel scope X.env }) s4) X.xe s3) X.xe s2) X.xe s1) X.xe s := by
 refine thn (hi pins s σ H _ I h) fun v s1 h1 => thn h1 fun itv s2 h2 => ?_
 obtain ⟨it, tn, J, H2, rfl, I2, T, st2, f2, R⟩ := h2
 obtain ⟨oi, ei, di⟩ := T.obj _ _ st2
 have hf2 := I2.hok.fresh (Nat.le_refl _)
 refine wpAny_newObj_type ?_
 have I3 : Inv X pins σ (upd H2 s2.heap.objs.size (.lst [])) { s2 with heap := s2.heap.push { cls := .type "list", dict := none, data := .seq ([] : List Value).toArray } } := Inv.lnew (t' := s2.toks) I2 .nil (Nat.zero_le _)
 refine wpAny_newFunctionEnv S.cell (by intro y hy; simp at hy) (fun h4 hns hsb => ?_) S.kind
 dsimp only at hns hsb ⊢
 generalize hG : s2.heap.push { cls := .type "list", dict := none, data := .seq ([] : List Value).toArray } = G at I3 hns hsb ⊢
 generalize hD : s2.heap.objs.size = D at I3 hf2
 have nD : it ≠ D := by rw [<- hD]; exact Nat.ne_of_lt (Heap.lt_size ei)
 have eiG : G.get? it = some oi := by rw [<- hG]; exact Heap.get?_push_of_some _ ei
 have kp : ∀ b o, G.get? b = some o -> h4.get? b = some o := fun b o e => hsb.extBut b o (Nat.ne_of_lt (Heap.lt_size e)) (Heap.get?_push_of_some _ e)
 have f3 : A2g X pins (upd H2 D (.lst [])) it := ⟨by rw [B4 nD]; exact f2.1, f2.2⟩
 have nb : X.base.get? it = none := by
   cases q : X.base.get? it with
   | none => rfl
   | some o =>
     have := (I.ok.bs it o q).1
     rcases f2.2.2.2.1 with z | z
     . rw [hex] at z; simp at z
     . exact absurd (Nat.lt_of_lt_of_le (Heap.lt_size this) z) (Nat.lt_irrefl _)
 have hns' : h4.Ns G.objs.size (fun _ => none) := by
   obtain ⟨o, es, ep, q1, q2, q3, q4⟩ := hns
   exact ⟨o, es, ep, q1, q2, q3, fun x => by rw [q4]; rfl⟩
 have I4 := C5p (tk := s2.toks + ([] : List (Str × Value)).length) S I3 f3 ⟨oi, eiG⟩ nb hns' kp
 have hdc : Y3 (X.compF scope N F G.objs.size { s2 with heap := G } (upd H2 D (.lst [])) [it] (X.pn ++ pins)) := by
   rcases hd with z | ⟨x, o, u, vs, z, e, d, n⟩
   . exact .inl z
   . refine .inr ⟨x, o, u, vs, z, ?_, d, n⟩
     have q := I2.base.frzs x o u e
     show upd H2 D (.lst []) x = _
     rw [B4 fun w => by rw [w, hf2] at q; cases q]
     exact q
 obtain ⟨m, W, w0, turn⟩ := R D hf2
 have gg := hg _ _ _ _ _ hdc
 have cc := hc _ _ _ _ _ hdc
 have ee := he _ _ _ _ _ hdc
 have fpc : ∀ {H' : Hp} {σ' : St} {s' : Shared} {pl : List (Addr × Obj)}, Inv (X.compF scope N F G.objs.size { s2 with heap := G } (upd H2 D (.lst [])) [it] (X.pn ++ pins)) pl σ' H' s' -> H' it = none -> (∀ p ∈ pl, p.1 ≠ it) -> A2g (X.compF scope N F G.objs.size { s2 with heap := G } (upd H2 D (.lst [])) [it] (X.pn ++ pins)) pl H' it := by
   intro H' σ' s' pl J' hn hp
   refine ⟨hn, Nat.ne_of_lt (Heap.lt_size eiG), ?_, .inl (List.mem_singleton.mpr rfl), (fun x c z => f2.2.2.2.2.1 x c (S.sub x c z)), fun p hpp => ?_⟩
   . intro z
     rcases List.mem_cons.mp (I.stkSub it z) with z | z
     . exact f2.2.1 z
     . exact f2.2.2.1 z
   . rcases List.mem_append.mp hpp with z | z
     . exact f2.2.2.2.2.2 p z
     . exact hp p z
 have loop : codeAny (model X.prog X.w) X.A (.compLoop (.ListComp elt [⟨target, iter, [c], 0⟩] scope pos) 0 (.ref it) (.ref D) (compEnvC scope (A0p F X.env) G.objs.size X.env))
     (RR (.ref D) (compEnvC scope (A0p F X.env) G.objs.size X.env))
     { s2 with heap := h4, toks := s2.toks + ([] : List (Str × Value)).length } := by
   refine kct_loop (fun k s' => ∃ i ys H', k = m + 1 - i /\ Inv (X.compF scope N F G.objs.size { s2 with heap := G } (upd H2 D (.lst [])) [it] (X.pn ++ pins)) [] (List.replicate N.length none ++ A2s js σ) H' s' /\ tn i s'.heap /\ H' it = none /\ W i ys H') ?_ (m + 1)
     ⟨0, [], _, rfl, I4, T.keep _ _ _ st2 fun o e => kp it o (by rw [<- hG]; exact Heap.get?_push_of_some _ e), f3.1, w0⟩
   rintro k s5 ⟨i, ys, H5, rfl, I5, st5, n5, w5⟩
   obtain ⟨hi5, hD5, w5⟩ := turn i ys H5 w5
   rcases w5 with ⟨stop, q⟩ | ⟨lt5, go, step⟩
   . refine wpAny_mono (T.done (X.compF scope N F G.objs.size { s2 with heap := G } (upd H2 D (.lst [])) [it] (X.pn ++ pins)) rfl rfl rfl hdc i [] s5 _ H5 (fun _ _ => False) I5 (fpc I5 n5 (by simp)) st5 stop) (fun r s6 z => ?_) (fun _ _ z => z.elim)
     obtain ⟨rfl, I6⟩ := z
     obtain ⟨mm, hn6, _⟩ := I6.loc
     have B6 := I6.base
     have J6 : Inv X pins σ H5 s6 := by
       refine I3.call' (ch := [it]) I6.os ⟨B6.keep, B6.slot, B6.free, B6.there, B6.tups, B6.frzs, B6.tbls⟩ I6.hok I6.bare (fun b hb => ?_)
       have e : b = it := by simpa using hb
       subst e
       exact ⟨f2.2.2.2.1, f2.2.1, f2.2.2.2.2.1, f2.2.2.2.2.2⟩
     have szG : X.s₀.heap.objs.size <= G.objs.size := I3.sz
     refine hRR D G.objs.size s6 H5 mm J6 hn6 ⟨I6.free, ?_, ?_, .inr szG, ?_, ?_⟩ q
     . exact Nat.ne_of_gt I3.lt
     . intro z
       obtain ⟨_, o, ho, _⟩ := I3.funs.mem z
       exact Nat.lt_irrefl _ (Heap.lt_size ho)
     . rintro x c z rfl
       obtain ⟨v', o, ho, _⟩ := I3.cell x _ z
       exact Nat.lt_irrefl _ (Heap.lt_size ho)
     . rintro p hp z
       have zz := (I3.pin p hp).1
       rw [z] at zz
       exact Nat.lt_irrefl _ (Heap.lt_size zz)
   . refine wpAny_mono (T.item (X.compF scope N F G.objs.size { s2 with heap := G } (upd H2 D (.lst [])) [it] (X.pn ++ pins)) rfl rfl rfl hdc i [] s5 _ H5 (fun _ _ => False) I5 (fpc I5 n5 (by simp)) st5 go) (fun r s6 z => ?_) (fun _ _ z => z.elim)
     obtain ⟨u, rfl, z⟩ := z
     refine wpAny_mono z (fun _ s7 z => ?_) (fun _ _ z => z.elim)
     obtain ⟨x, I7, rx, yl, st7⟩ := z
     obtain ⟨o7, e7, d7⟩ := T.obj _ _ st7
     obtain ⟨p0, p1, p2, _⟩ := fpc I7 n5 (by simp)
     have I7' : Inv (X.compF scope N F G.objs.size { s2 with heap := G } (upd H2 D (.lst [])) [it] (X.pn ++ pins)) [(it, o7)] (List.replicate N.length none ++ A2s js σ) H5 s7 := I7.pins_of fun p hp => by
       have e : p = (it, o7) := by simpa using hp
       subst e
       exact ⟨e7, p0, p1, p2, d7⟩
     have back : ∀ {i' : Nat} {ys' : List V} {H' : Hp} {σ' : St} {s' : Shared}, i' = i + 1 -> Inv (X.compF scope N F G.objs.size { s2 with heap := G } (upd H2 D (.lst [])) [it] (X.pn ++ pins)) [(it, o7)] σ' H' s' -> W i' ys' H' ->
         ∃ k', k' < m + 1 - i /\ ∃ i ys H', k' = m + 1 - i /\ Inv (X.compF scope N F G.objs.size { s2 with heap := G } (upd H2 D (.lst [])) [it] (X.pn ++ pins)) [] (List.replicate N.length none ++ A2s js σ) H' s' /\ tn i s'.heap /\ H' it = none /\ W i ys H' := by
       rintro i' ys' H' σ' s' rfl J' w'
       obtain ⟨q1, q2, _⟩ := J'.pin (it, o7) (List.mem_append_right _ (List.mem_singleton.mpr rfl))
       refine ⟨m + 1 - (i + 1), by omega, i + 1, ys', H', rfl, C6g S I3 f3 J', T.keep _ _ _ st7 fun o z => ?_, q2, w'⟩
       rw [e7] at z
       cases z
       exact q1
     refine wpAny_mono (gg [(it, o7)] s7 _ H5 x u _ I7' rx (step x H5 yl)) (fun _ s8 z => ?_) (fun _ _ z => z.elim)
     obtain ⟨σ8, H8, I8, q8⟩ := z
     refine wpAny_mono (cc [(it, o7)] s8 σ8 H8 _ I8 q8) (fun b s9 z => ?_) (fun _ _ z => z.elim)
     obtain ⟨H9, I9, q9⟩ := z
     cases b with
     | false =>
       simp only [Bool.false_eq_true, if_false] at q9 ⊢
       exact back rfl I9 q9
     | true =>
       simp only [if_true] at q9 ⊢
       refine wpAny_mono (ee [(it, o7)] s9 σ8 H9 _ I9 q9) (fun y s10 z => ?_) (fun _ _ z => z.elim)
       obtain ⟨yv, H10, I10, ry, hD10, hz10, w10⟩ := z
       refine wpAny_mono (B3d (X := X.compF scope N F G.objs.size { s2 with heap := G } (upd H2 D (.lst [])) [it] (X.pn ++ pins)) [(it, o7)] s10 σ8 H10 (.ref D) [yv] (.ref D) [y] (fun _ H11 => W (i + 1) (ys ++ [yv]) H11) I10 rfl (.cons ry .nil) ⟨D, ys, yv, rfl, rfl, hD10, hz10, w10⟩) (fun _ s11 z => ?_) (fun _ _ z => z.elim)
       obtain ⟨_, H11, I11, _, w11⟩ := z
       exact back rfl I11 w11
 exact codeAny_compStart_list loop (T.self _ 0 _ _ _ (T.keep _ _ _ st2 fun o e => kp it o (by rw [<- hG]; exact Heap.get?_push_of_some _ e)) loop)
theorem D4d {elt target iter : Expr} {scope : Scope} {pos : Pos} {N F : List Str} {js : List Nat} {wi : TI} {g : TG} {te : TE} (S : CompScopeF N F js scope X.N X.env) (hd : Y3 X) (hi : PIH X target iter wi) (hex : X.ex = [])
   (hg : ∀ C s₀ H₀ ex pn, Y3 (X.compF scope N F C s₀ H₀ ex pn) -> PG (X.compF scope N F C s₀ H₀ ex pn) target g)
   (he : ∀ C s₀ H₀ ex pn, Y3 (X.compF scope N F C s₀ H₀ ex pn) -> PE (X.compF scope N F C s₀ H₀ ex pn) elt te)
   {pins : List (Addr × Obj)} {s : Shared} {σ : St} {H : Hp} {Q : VK} {RR : Value -> Env -> Result -> Shared -> Prop} (I : Inv X pins σ H s) (h : (G9m N.length js wi g te) σ H Q)
   (hRR : ∀ (D C : Addr) (s6 : Shared) (H5 : Hp) (mm : Str -> Option Value), Inv X pins σ H5 s6 -> s6.heap.Ns C mm -> A2g X pins H5 C -> Q (.ref D) H5 -> RR (.ref D) (compEnvC scope (A0p F X.env) C X.env) (.ok .next) s6) :
   wpAny (model X.prog X.w) X.A (eval iter X.env) (fun v s1 => wpAny (model X.prog X.w) X.A (pyIter v) (fun itv s2 => wpAny (model X.prog X.w) X.A (newList []) (fun acc s3 => wpAny (model X.prog X.w) X.A (newFunctionEnv scope X.env.globals (A0p F X.env) [] X.env.qual none .none (some X.env)) (fun cenv s4 =>
     codeAny (model X.prog X.w) X.A (.compStart (.ListComp elt [⟨target, iter, [], 0⟩] scope pos) 0 itv acc { cenv with scope := relabel scope X.env }) (RR acc { cenv with scope := relabel scope X.env }) s4) X.xe s3) X.xe s2) X.xe s1) X.xe s := by
 refine thn (hi pins s σ H _ I h) fun v s1 h1 => thn h1 fun itv s2 h2 => ?_
 obtain ⟨it, tn, J, H2, rfl, I2, T, st2, f2, R⟩ := h2
 obtain ⟨oi, ei, di⟩ := T.obj _ _ st2
 have hf2 := I2.hok.fresh (Nat.le_refl _)
 refine wpAny_newObj_type ?_
 have I3 : Inv X pins σ (upd H2 s2.heap.objs.size (.lst [])) { s2 with heap := s2.heap.push { cls := .type "list", dict := none, data := .seq ([] : List Value).toArray } } := Inv.lnew (t' := s2.toks) I2 .nil (Nat.zero_le _)
 refine wpAny_newFunctionEnv S.cell (by intro y hy; simp at hy) (fun h4 hns hsb => ?_) S.kind
 dsimp only at hns hsb ⊢
 generalize hG : s2.heap.push { cls := .type "list", dict := none, data := .seq ([] : List Value).toArray } = G at I3 hns hsb ⊢
 generalize hD : s2.heap.objs.size = D at I3 hf2
 have nD : it ≠ D := by rw [<- hD]; exact Nat.ne_of_lt (Heap.lt_size ei)
 have eiG : G.get? it = some oi := by rw [<- hG]; exact Heap.get?_push_of_some _ ei
 have kp : ∀ b o, G.get? b = some o -> h4.get? b = some o := fun b o e => hsb.extBut b o (Nat.ne_of_lt (Heap.lt_size e)) (Heap.get?_push_of_some _ e)
 have f3 : A2g X pins (upd H2 D (.lst [])) it := ⟨by rw [B4 nD]; exact f2.1, f2.2⟩
 have nb : X.base.get? it = none := by
   cases q : X.base.get? it with
   | none => rfl
   | some o =>
     have := (I.ok.bs it o q).1
     rcases f2.2.2.2.1 with z | z
     . rw [hex] at z; simp at z
     . exact absurd (Nat.lt_of_lt_of_le (Heap.lt_size this) z) (Nat.lt_irrefl _)
 have hns' : h4.Ns G.objs.size (fun _ => none) := by
   obtain ⟨o, es, ep, q1, q2, q3, q4⟩ := hns
   exact ⟨o, es, ep, q1, q2, q3, fun x => by rw [q4]; rfl⟩
 have I4 := C5p (tk := s2.toks + ([] : List (Str × Value)).length) S I3 f3 ⟨oi, eiG⟩ nb hns' kp
 have hdc : Y3 (X.compF scope N F G.objs.size { s2 with heap := G } (upd H2 D (.lst [])) [it] (X.pn ++ pins)) := by
   rcases hd with z | ⟨x, o, u, vs, z, e, d, n⟩
   . exact .inl z
   . refine .inr ⟨x, o, u, vs, z, ?_, d, n⟩
     have q := I2.base.frzs x o u e
     show upd H2 D (.lst []) x = _
     rw [B4 fun w => by rw [w, hf2] at q; cases q]
     exact q
 obtain ⟨m, W, w0, turn⟩ := R D hf2
 have gg := hg _ _ _ _ _ hdc
 have ee := he _ _ _ _ _ hdc
 have fpc : ∀ {H' : Hp} {σ' : St} {s' : Shared} {pl : List (Addr × Obj)}, Inv (X.compF scope N F G.objs.size { s2 with heap := G } (upd H2 D (.lst [])) [it] (X.pn ++ pins)) pl σ' H' s' -> H' it = none -> (∀ p ∈ pl, p.1 ≠ it) -> A2g (X.compF scope N F G.objs.size { s2 with heap := G } (upd H2 D (.lst [])) [it] (X.pn ++ pins)) pl H' it := by
   intro H' σ' s' pl J' hn hp
   refine ⟨hn, Nat.ne_of_lt (Heap.lt_size eiG), ?_, .inl (List.mem_singleton.mpr rfl), (fun x c z => f2.2.2.2.2.1 x c (S.sub x c z)), fun p hpp => ?_⟩
   . intro z
     rcases List.mem_cons.mp (I.stkSub it z) with z | z
     . exact f2.2.1 z
     . exact f2.2.2.1 z
   . rcases List.mem_append.mp hpp with z | z
     . exact f2.2.2.2.2.2 p z
     . exact hp p z
 have loop : codeAny (model X.prog X.w) X.A (.compLoop (.ListComp elt [⟨target, iter, [], 0⟩] scope pos) 0 (.ref it) (.ref D) (compEnvC scope (A0p F X.env) G.objs.size X.env))
     (RR (.ref D) (compEnvC scope (A0p F X.env) G.objs.size X.env))
     { s2 with heap := h4, toks := s2.toks + ([] : List (Str × Value)).length } := by
   refine J6a (fun k s' => ∃ i ys H', k = m + 1 - i /\ Inv (X.compF scope N F G.objs.size { s2 with heap := G } (upd H2 D (.lst [])) [it] (X.pn ++ pins)) [] (List.replicate N.length none ++ A2s js σ) H' s' /\ tn i s'.heap /\ H' it = none /\ W i ys H') ?_ (m + 1)
     ⟨0, [], _, rfl, I4, T.keep _ _ _ st2 fun o e => kp it o (by rw [<- hG]; exact Heap.get?_push_of_some _ e), f3.1, w0⟩
   rintro k s5 ⟨i, ys, H5, rfl, I5, st5, n5, w5⟩
   obtain ⟨hi5, hD5, w5⟩ := turn i ys H5 w5
   rcases w5 with ⟨stop, q⟩ | ⟨lt5, go, step⟩
   . refine wpAny_mono (T.done (X.compF scope N F G.objs.size { s2 with heap := G } (upd H2 D (.lst [])) [it] (X.pn ++ pins)) rfl rfl rfl hdc i [] s5 _ H5 (fun _ _ => False) I5 (fpc I5 n5 (by simp)) st5 stop) (fun r s6 z => ?_) (fun _ _ z => z.elim)
     obtain ⟨rfl, I6⟩ := z
     obtain ⟨mm, hn6, _⟩ := I6.loc
     have B6 := I6.base
     have J6 : Inv X pins σ H5 s6 := by
       refine I3.call' (ch := [it]) I6.os ⟨B6.keep, B6.slot, B6.free, B6.there, B6.tups, B6.frzs, B6.tbls⟩ I6.hok I6.bare (fun b hb => ?_)
       have e : b = it := by simpa using hb
       subst e
       exact ⟨f2.2.2.2.1, f2.2.1, f2.2.2.2.2.1, f2.2.2.2.2.2⟩
     have szG : X.s₀.heap.objs.size <= G.objs.size := I3.sz
     refine hRR D G.objs.size s6 H5 mm J6 hn6 ⟨I6.free, ?_, ?_, .inr szG, ?_, ?_⟩ q
     . exact Nat.ne_of_gt I3.lt
     . intro z
       obtain ⟨_, o, ho, _⟩ := I3.funs.mem z
       exact Nat.lt_irrefl _ (Heap.lt_size ho)
     . rintro x c z rfl
       obtain ⟨v', o, ho, _⟩ := I3.cell x _ z
       exact Nat.lt_irrefl _ (Heap.lt_size ho)
     . rintro p hp z
       have zz := (I3.pin p hp).1
       rw [z] at zz
       exact Nat.lt_irrefl _ (Heap.lt_size zz)
   . refine wpAny_mono (T.item (X.compF scope N F G.objs.size { s2 with heap := G } (upd H2 D (.lst [])) [it] (X.pn ++ pins)) rfl rfl rfl hdc i [] s5 _ H5 (fun _ _ => False) I5 (fpc I5 n5 (by simp)) st5 go) (fun r s6 z => ?_) (fun _ _ z => z.elim)
     obtain ⟨u, rfl, z⟩ := z
     refine wpAny_mono z (fun _ s7 z => ?_) (fun _ _ z => z.elim)
     obtain ⟨x, I7, rx, yl, st7⟩ := z
     obtain ⟨o7, e7, d7⟩ := T.obj _ _ st7
     obtain ⟨p0, p1, p2, _⟩ := fpc I7 n5 (by simp)
     have I7' : Inv (X.compF scope N F G.objs.size { s2 with heap := G } (upd H2 D (.lst [])) [it] (X.pn ++ pins)) [(it, o7)] (List.replicate N.length none ++ A2s js σ) H5 s7 := I7.pins_of fun p hp => by
       have e : p = (it, o7) := by simpa using hp
       subst e
       exact ⟨e7, p0, p1, p2, d7⟩
     have back : ∀ {i' : Nat} {ys' : List V} {H' : Hp} {σ' : St} {s' : Shared}, i' = i + 1 -> Inv (X.compF scope N F G.objs.size { s2 with heap := G } (upd H2 D (.lst [])) [it] (X.pn ++ pins)) [(it, o7)] σ' H' s' -> W i' ys' H' ->
         ∃ k', k' < m + 1 - i /\ ∃ i ys H', k' = m + 1 - i /\ Inv (X.compF scope N F G.objs.size { s2 with heap := G } (upd H2 D (.lst [])) [it] (X.pn ++ pins)) [] (List.replicate N.length none ++ A2s js σ) H' s' /\ tn i s'.heap /\ H' it = none /\ W i ys H' := by
       rintro i' ys' H' σ' s' rfl J' w'
       obtain ⟨q1, q2, _⟩ := J'.pin (it, o7) (List.mem_append_right _ (List.mem_singleton.mpr rfl))
       refine ⟨m + 1 - (i + 1), by omega, i + 1, ys', H', rfl, C6g S I3 f3 J', T.keep _ _ _ st7 fun o z => ?_, q2, w'⟩
       rw [e7] at z
       cases z
       exact q1
     refine wpAny_mono (gg [(it, o7)] s7 _ H5 x u _ I7' rx (step x H5 yl)) (fun _ s8 z => ?_) (fun _ _ z => z.elim)
     obtain ⟨σ8, H8, I8, q8⟩ := z
     refine wpAny_mono (ee [(it, o7)] s8 σ8 H8 _ I8 q8) (fun y s10 z => ?_) (fun _ _ z => z.elim)
     obtain ⟨yv, H10, I10, ry, hD10, hz10, w10⟩ := z
     refine wpAny_mono (B3d (X := X.compF scope N F G.objs.size { s2 with heap := G } (upd H2 D (.lst [])) [it] (X.pn ++ pins)) [(it, o7)] s10 σ8 H10 (.ref D) [yv] (.ref D) [y] (fun _ H11 => W (i + 1) (ys ++ [yv]) H11) I10 rfl (.cons ry .nil) ⟨D, ys, yv, rfl, rfl, hD10, hz10, w10⟩) (fun _ s11 z => ?_) (fun _ _ z => z.elim)
     obtain ⟨_, H11, I11, _, w11⟩ := z
     exact back rfl I11 w11
 exact codeAny_compStart_list loop (T.self _ 0 _ _ _ (T.keep _ _ _ st2 fun o e => kp it o (by rw [<- hG]; exact Heap.get?_push_of_some _ e)) loop)
theorem B8k {elt target iter : Expr} {c : Expr} {tc : TT} {pos : Pos} {wi : TI} {g : TG} {te : TE} (S : CompScopeF N F js scope X.N X.env) (hd : Y3 X) (hi : PIH X target iter wi) (hex : X.ex = [])
   (hg : ∀ C s₀ H₀ ex pn, Y3 (X.compF scope N F C s₀ H₀ ex pn) -> PG (X.compF scope N F C s₀ H₀ ex pn) target g)
   (hc : ∀ C s₀ H₀ ex pn, Y3 (X.compF scope N F C s₀ H₀ ex pn) -> PT (X.compF scope N F C s₀ H₀ ex pn) c tc)
   (he : ∀ C s₀ H₀ ex pn, Y3 (X.compF scope N F C s₀ H₀ ex pn) -> PE (X.compF scope N F C s₀ H₀ ex pn) elt te)
   (hs : ∀ x, foldedSetIterable iter X.env x = pure x := by intro _; rfl) : PE X (.ListComp elt [⟨target, iter, [c], 0⟩] scope pos) (A7q N.length js wi g tc te) := by
 intro pins s σ H Q I h
 rw [eval_ListComp]
 refine wpAny_comprehension_free (use := none) rfl hs S.clos S.kind S.loc (B9n S hd hi hex hg hc he I h (RR := fun acc ce r s' => compPost (model X.prog X.w) X.A X.xe none (EP X pins σ Q) acc ce.locals r s') ?_)
 intro D C s6 H5 mm I6 n6 f6 q
 exact ⟨mm, n6, fun h' sb => ⟨.ref D, H5, J0m I6 f6 sb, rfl, q⟩⟩
theorem J1m {elt target iter : Expr} {pos : Pos} {wi : TI} {g : TG} {te : TE} (S : CompScopeF N F js scope X.N X.env) (hd : Y3 X) (hi : PIH X target iter wi) (hex : X.ex = [])
   (hg : ∀ C s₀ H₀ ex pn, Y3 (X.compF scope N F C s₀ H₀ ex pn) -> PG (X.compF scope N F C s₀ H₀ ex pn) target g)
   (he : ∀ C s₀ H₀ ex pn, Y3 (X.compF scope N F C s₀ H₀ ex pn) -> PE (X.compF scope N F C s₀ H₀ ex pn) elt te)
   (hs : ∀ x, foldedSetIterable iter X.env x = pure x := by intro _; rfl) : PE X (.ListComp elt [⟨target, iter, [], 0⟩] scope pos) (G9m N.length js wi g te) := by
 intro pins s σ H Q I h
 rw [eval_ListComp]
 refine wpAny_comprehension_free (use := none) rfl hs S.clos S.kind S.loc (D4d S hd hi hex hg he I h (RR := fun acc ce r s' => compPost (model X.prog X.w) X.A X.xe none (EP X pins σ Q) acc ce.locals r s') ?_)
 intro D C s6 H5 mm I6 n6 f6 q
 exact ⟨mm, n6, fun h' sb => ⟨.ref D, H5, J0m I6 f6 sb, rfl, q⟩⟩
theorem J5p {i : Nat} {y : Str} {py spos : Pos} {elt target iter : Expr} {c : Expr} {tc : TT} {pos : Pos} {wi : TI} {g : TG} {te : TE} (S : CompScopeF N F js scope X.N X.env) (hd : Y3 X) (hi : PIH X target iter wi) (hex : X.ex = [])
   (hg : ∀ C s₀ H₀ ex pn, Y3 (X.compF scope N F C s₀ H₀ ex pn) -> PG (X.compF scope N F C s₀ H₀ ex pn) target g)
   (hc : ∀ C s₀ H₀ ex pn, Y3 (X.compF scope N F C s₀ H₀ ex pn) -> PT (X.compF scope N F C s₀ H₀ ex pn) c tc)
   (he : ∀ C s₀ H₀ ex pn, Y3 (X.compF scope N F C s₀ H₀ ex pn) -> PE (X.compF scope N F C s₀ H₀ ex pn) elt te) (hN : X.N.Nodup) (hi' : X.N[i]? = some y) (hy : Loc X.env.scope y)
   (hf : X.fn y = true \/ X.env.scope.names.lookup y = some .local := by first | exact .inl rfl | exact .inr rfl | assumption)
   (hsw : swapsWith (.ListComp elt [⟨target, iter, [c], 0⟩] scope pos) (some (.Name y py)) spos.line X.env = pure true := by rfl)
   (hs : ∀ x, foldedSetIterable iter X.env x = pure x := by intro _; rfl) : PS X (.Assign [.Name y py] (.ListComp elt [⟨target, iter, [c], 0⟩] scope pos) spos) (V9n (A7q N.length js wi g tc te) (C6c i)) := by
 intro pins s σ H D I h
 rw [exec_Assign_Name_used _ _ _ _ hsw]
 refine wpAny_bind (wpAny_standAt (wpAny_bind ?_))
 show wpAny _ X.A (do let _ <- comprehension (.ListComp elt [⟨target, iter, [c], 0⟩] scope pos) scope X.env _ (newList []) false (eval iter X.env) (some (assign (.Name y py) X.env))) _ _ s
 refine wpAny_bind (wpAny_mono (wpAny_comprehension_free (Q := fun _ s' => SP X pins D .next s') rfl hs S.clos S.kind S.loc (B9n S hd hi hex hg hc he I h (RR := fun acc ce r s' => compPost (model X.prog X.w) X.A X.xe (some (assign (.Name y py) X.env)) (fun _ s' => SP X pins D .next s') acc ce.locals r s') ?_))
   (fun _ s' hq => wpAny_pure (wpAny_pure hq)) fun _ _ e => e)
 intro D' C s6 H5 mm I6 n6 f6 q
 refine wpAny_assign_Name (C6f (v := .ref D') I6 hN hi' hy rfl (fun s7 I7 st => ?_) hf)
 obtain ⟨a, sb, ha⟩ := st
 have na : C ≠ a := by
   rcases ha with rfl | ha
   . exact f6.2.1
   . exact (f6.2.2.2.2.1 y a ha).symm
 exact ⟨mm, n6.sameBut sb na, fun h' sb' => ⟨_, _, J0m I7 f6 sb', q⟩⟩
end
structure CompS (N F : List Str) (sc : Scope) : Prop where
 kind : sc.kind = .function
 cell : ∀ y ∈ sc.names, y.2 ≠ .cell
 loc : ∀ y ∈ sc.names, y.2 = .local -> sc.names.lookup y.1 = some .local
 fr : ∀ y ∈ sc.names, y.2 = .free -> y.1 ∈ F
 nd : (N ++ F).Nodup
theorem B8h {sc : Scope} {env : Env} {F : List Str} (cell : ∀ y ∈ sc.names, y.2 ≠ .cell) (fr : ∀ y ∈ sc.names, y.2 = .free -> y.1 ∈ F) : ∀ y ∈ (relabel sc env).names, y.2 = .cell \/ y.2 = .free -> y.1 ∈ F := by
 intro y hy h
 obtain ⟨⟨n, k⟩, hm, e⟩ := List.mem_map.mp hy
 dsimp only at e
 split at e
 . rename_i hc
   subst e
   simp only [Bool.and_eq_true] at hc
   exact fr (n, k) hm (by simpa using hc.1.1)
 . subst e
   rcases h with h | h
   . exact absurd h (cell (n, k) hm)
   . exact fr (n, k) hm h
theorem CompScopeF.of1 {N : List Str} {x : Str} {j : Nat} {sc : Scope} {XN : List Str} {env : Env} (S : CompS N [x] sc) (clos : closureFor sc env = pure (A0p [x] env)) (hj : XN[j]? = some x) (hc : ∃ c, env.cells.lookup x = some c) (hk : env.kindOf x = some .cell)
   (hr : (relabel sc env).names.lookup x = some .cell) : CompScopeF N [x] [j] sc XN env :=
 ⟨S.kind, S.cell, S.loc, S.nd, clos, B8h S.cell S.fr, fun k y h => match k, h with
   | 0, h => by cases h; exact ⟨⟨j, rfl, hj⟩, hc, hk, hr⟩
   | k + 1, h => by simp at h, rfl⟩
theorem CompScopeF.of2 {N : List Str} {x y : Str} {j k : Nat} {sc : Scope} {XN : List Str} {env : Env} (S : CompS N [x, y] sc) (clos : closureFor sc env = pure (A0p [x, y] env)) (hj : XN[j]? = some x) (hc : ∃ c, env.cells.lookup x = some c) (hk : env.kindOf x = some .cell)
   (hr : (relabel sc env).names.lookup x = some .cell) (hj' : XN[k]? = some y) (hc' : ∃ c, env.cells.lookup y = some c) (hk' : env.kindOf y = some .cell) (hr' : (relabel sc env).names.lookup y = some .cell) : CompScopeF N [x, y] [j, k] sc XN env :=
 ⟨S.kind, S.cell, S.loc, S.nd, clos, B8h S.cell S.fr, fun i z h => match i, h with
   | 0, h => by cases h; exact ⟨⟨j, rfl, hj⟩, hc, hk, hr⟩
   | 1, h => by cases h; exact ⟨⟨k, rfl, hj'⟩, hc', hk', hr'⟩
   | i + 2, h => by simp at h, rfl⟩
theorem Z1 (z : Str) : ∀ zs : List Str, inV (.str z) (zs.map V.str) = zs.contains z
 | [] => rfl
 | y :: zs => by
   show (eqV (.str y) (.str z) || inV (.str z) (zs.map V.str)) = _
   rw [Z1 z zs, List.contains_cons]
   show ((y == z) || _) = _
   rw [BEq.comm]
theorem V8 : ∀ zs : List Str, (zs.map V.str).all B2m = true
 | [] => rfl
 | _ :: zs => V8 zs
theorem B9a {K : Frag} {H : Hp} {σ σf : L2.St} {a : Addr} {zs : List Str} {f : Str -> Bool} {tc : TT} {te : TE} {Q : VK} (hl : ∀ H, SqT K H a (zs.map V.str)) (hz : zs.length <= 100)
   (ht : ∀ (z : Str) (H' : Hp) (Qb : Bool -> Hp -> Prop), Same H H' -> Qb (f z) H' -> tc (some (.str z) :: σf) H' Qb) (he : ∀ (z : Str) (H' : Hp) (Qv : VK), Qv (.str z) H' -> te (some (.str z) :: σf) H' Qv)
   (k : ∀ D H', Same H H' -> H D = none -> H' D = some (.lst ((zs.filter f).map V.str)) -> Q (.ref D) H') {js : List Nat} (hj : A2s js σ = σf) : A7q 1 js (Y3v K (tC (.ref a))) (C6c 0) tc te σ H Q := by
 refine ⟨a, rfl, ⟨_, hl H⟩, fun D hD => ⟨zs.length, fun i ys H2 => i <= zs.length /\ ys = ((zs.take i).filter f).map V.str /\ H2 = upd H D (.lst ys), ⟨Nat.zero_le _, rfl, rfl⟩, ?_⟩⟩
 rintro i ys H2 ⟨hi, rfl, rfl⟩
 refine ⟨hi, A6, ?_⟩
 have sm : Same H (upd H D (.lst (((zs.take i).filter f).map V.str))) := Same.upd hD
 have lz : (((zs.take i).filter f).map V.str).length <= 100 := by
   rw [List.length_map]
   exact Nat.le_trans (List.length_filter_le _ _) (by rw [List.length_take]; omega)
 by_cases hlt : i < zs.length
 . refine .inr ⟨hlt, ⟨_, V.str zs[i], hl _, by simp [hlt]⟩, fun x H3 y => ?_⟩
   obtain ⟨rfl, y⟩ := y
   have ex : x = V.str zs[i] := by
     have := y _ (hl _)
     simp [hlt] at this
     exact this.symm
   subst ex
   rw [hj]
   show tc (some (.str zs[i]) :: σf) _ _
   refine ht _ _ _ sm ?_
   have et : (zs.take (i + 1)).filter f = (zs.take i).filter f ++ (if f zs[i] then [zs[i]] else []) := by
     rw [List.take_succ_eq_append_getElem hlt, List.filter_append]
     congr 1
     cases hb : f zs[i] <;> simp [hb]
   cases hb : f zs[i] with
   | false =>
     refine U4 ⟨hlt, ?_, rfl⟩
     rw [et, hb]; simp
   | true =>
     refine V5 (he _ _ _ ⟨A6, Nat.lt_of_le_of_lt lz (J9 (by decide)), hlt, ?_, ?_⟩)
     . rw [et, hb]; simp
     . rw [G9s]
 . have e : i = zs.length := by omega
   subst e
   refine .inl ⟨⟨_, hl _, by simp⟩, k D _ sm hD ?_⟩
   rw [List.take_length]
   exact A6
end L2
namespace L2
open PySem
section
variable {prog : Program} {w : World} {A : Around} {E : Value -> Shared -> Prop} {h : Heap} {g : Array GenState} {d : Drawn} {t : Nat} {os : OsState}
variable {nm q : Str} {C N : Addr} {bs bm bmB : List Value} {hdct : Bool} {sn : List Str} {sub : List Value} {ab : Bool} {col : Option Bool} {dd : Option Addr} {k0 k1 k2 k3 k5 : Option Value} {B newId initId : String}
theorem B0b (F : ExcBaseFacts B newId initId bmB) (T : OwnTail h bmB bm) {mN : Str -> Option Value} {rest : List Value} {fI : Addr} {oI : Obj} {Q : Fin -> Shared -> Prop}
   (hC : h.get? C = some (excClassObj nm q C N bs bm hdct sn sub ab col dd k0 k1 k2 k3 k5 newId)) (hn : h.Ns N mN) (hi : mN "__init__" = some (.ref fI))
   (hfI : h.get? fI = some oI) (hfc : oI.cls = .type "function")
   (hq : ∀ h' e, Heap.MadeExcOf h h' e (.ref C) rest ->
     wpAny (model prog w) A (call (.ref fI) (.ref e :: rest)) (fun r s' => r = .none /\ Q (.done (.ret (.ref e))) s') E ⟨h', g, d, t, os⟩) (hrest : rest.length <= sizeLine) :
   wpAny (model prog w) A (Builtin.«type.__call__» ⟨.ref C :: rest, []⟩) Q E ⟨h, g, d, t, os⟩ := by
 repeat (first | with_reducible refine wpAny_loadPart_at hC ?_ | with_reducible refine wpAny_madeBy_exc hC ?_ | wp_step)
 refine codeAny_call_builtin_code (Code.quiet_builtin _ F.quiet) (wpAny_check_new_subT F T hC ?_)
 refine codeAny_exc_new_subT F T hC ?_ hrest
 show wpAny _ _ _ _ _ _
 have hC₁ := Heap.get?_push_of_some { cls := .ref C, data := .fields #[.ref h.objs.size, .none, .none, .none, .bool false, .none] }
   (Heap.get?_push_of_some { cls := .type "tuple", data := .seq rest.toArray } hC)
 have hfI₁ := Heap.get?_push_of_some { cls := .ref C, data := .fields #[.ref h.objs.size, .none, .none, .none, .bool false, .none] }
   (Heap.get?_push_of_some { cls := .type "tuple", data := .seq rest.toArray } hfI)
 have hn₁ : ((h.push { cls := .type "tuple", data := .seq rest.toArray }).push { cls := .ref C, data := .fields #[.ref h.objs.size, .none, .none, .none, .bool false, .none] }).Ns N mN :=
   let ⟨o, es, ep, e, r⟩ := hn; ⟨o, es, ep, Heap.get?_push_of_some _ (Heap.get?_push_of_some _ e), r⟩
 have hget : ((h.push { cls := .type "tuple", data := .seq rest.toArray }).push
     { cls := .ref C, data := .fields #[.ref h.objs.size, .none, .none, .none, .bool false, .none] }).get? (h.objs.size + 1) = some
     { cls := .ref C, data := .fields #[.ref h.objs.size, .none, .none, .none, .bool false, .none] } := by heap_get
 have hcC : (Value.ref C :: bm).contains (.ref C) = true := by simp
 have T₁ := T.keeps (h' := (h.push { cls := .type "tuple", data := .seq rest.toArray }).push { cls := .ref C, data := .fields #[.ref h.objs.size, .none, .none, .none, .bool false, .none] })
   fun b o e => Heap.get?_push_of_some _ (Heap.get?_push_of_some _ e)
 unfold isInstance
 repeat (first | with_reducible refine wpAny_loadPart_at hget ?_ | (with_reducible refine wpAny_isSubtype_exc hC₁ ?_; rw [hcC]) | wp_step)
 show wpAny _ _ (typeLookup (.ref C) _) _ _ _
 refine wpAny_typeLookup_tail hC₁ hn₁ T₁ F.mroIs F.init.lookup ?_
 rw [hi]
 refine wpAny_holding (wpAny_bind ?_)
 unfold bindSpecial
 refine wpAny_bind (wpAny_typeOf (T := "function") ⟨_, hfI₁, hfc⟩ ?_)
 rw [if_pos (by decide)]
 refine wpAny_pure (wpAny_bind (wpAny_mono (hq _ (h.objs.size + 1) ⟨fun b o hb => Heap.get?_push_of_some _ (Heap.get?_push_of_some _ hb), Heap.get?_none_of_le (Nat.le_succ _), h.objs.size, hget, Heap.get?_none_of_le (Nat.le_refl _), ?_⟩) (fun r s' hr => ?_) fun _ _ x => x))
 . exact Heap.get?_push_of_some _ (Heap.get?_push_at rfl rfl)
 . obtain ⟨rfl, hQ⟩ := hr
   wp_walk
   exact hQ
theorem B8s (F : ExcBaseFacts B newId initId bmB) (T : OwnTail h bmB bm) {mN : Str -> Option Value} {rest : List Value} {fI : Addr} {oI : Obj} {Q : Value -> Shared -> Prop}
   (hC : h.get? C = some (excClassObj nm q C N bs bm hdct sn sub ab col dd k0 k1 k2 k3 k5 newId)) (hn : h.Ns N mN) (hi : mN "__init__" = some (.ref fI))
   (hfI : h.get? fI = some oI) (hfc : oI.cls = .type "function")
   (hq : ∀ h' e, Heap.MadeExcOf h h' e (.ref C) rest ->
     wpAny (model prog w) (A.under (.builtin "type.__call__" ⟨.ref C :: rest, []⟩)) (call (.ref fI) (.ref e :: rest)) (fun r s' => r = .none /\ Q (.ref e) s') E ⟨h', g, d, t, os⟩) (hrest : rest.length <= sizeLine) :
   wpAny (model prog w) A (call (.ref C) rest) Q E ⟨h, g, d, t, os⟩ := by
 have f1 := tc_lookup
 have f2 := tc_bind (.ref C)
 have hT : (⟨h, g, d, t, os⟩ : Shared).TypeIs (.ref C) "type" := ⟨_, hC, rfl⟩
 refine wpAny_call (codeAny_of_tree ?_)
 show wpAny _ _ (callAny (.ref C) _) _ _ _
 repeat (any_goals (first | assumption | with_reducible refine wpAny_loadPart_at hC ?_ | wp_step))
 refine ⟨rfl, ?_⟩
 refine codeAny_call_builtin_at (Code.quiet_builtin _ (by decide +kernel)) entry_typeCall (wpAny_check_type_call_sub hC (B0b (hrest := hrest) F T hC hn hi hfI hfc fun h' e hm => ?_))
 exact hq h' e hm
end
section
variable {M : Model} {prog : Program} {w : World} {A : Around} {E : Value -> Shared -> Prop} {s : Shared} {env : Env}
variable {nm q : Str} {C N : Addr} {bs bm bmB : List Value} {hdct : Bool} {sn : List Str} {sub : List Value} {ab : Bool} {col : Option Bool} {dd : Option Addr} {k0 k1 k2 k3 k5 : Option Value} {B newId initId : String}
theorem A7m {x : Sem Value} {Q : Flow -> Shared -> Prop} (hbase : bm.contains (.type "BaseException") = true) (hh : A.handled = none)
   (h : wpAny M A x (fun v s₁ => ∃ e t de, v = .ref e /\ s₁.heap.get? C = some (excClassObj nm q C N bs bm hdct sn sub ab col dd k0 k1 k2 k3 k5 newId) /\
     s₁.heap.get? e = some { cls := .ref C, dict := de, data := .fields #[.ref t, .none, .none, .none, .bool false, .none] } /\ E (.ref e) s₁) E s) :
   wpAny M A (raiseStmt env (some x) none) Q E s := by
 have hcB : (Value.ref C :: bm).contains (.type "BaseException") = true := by rw [List.contains_cons, hbase, Bool.or_true]
 unfold raiseStmt
 refine wpAny_bind (wpAny_mono h (fun v s₁ h₁ => ?_) fun _ _ x => x)
 obtain ⟨e, t, de, rfl, hC, he, hE⟩ := h₁
 obtain ⟨hp, g, d, tk, os⟩ := s₁
 repeat (first | with_reducible refine wpAny_loadPart_at he ?_ | with_reducible refine wpAny_loadPart_at hC ?_ | (with_reducible refine wpAny_isSubtype_exc hC ?_; rw [hcB]) | wp_step)
 exact wpAny_raiseNew_none hh hE
theorem B3b (F : ExcBaseFacts B newId initId bmB) {mN : Str -> Option Value} {x : Str} {np cpos pos : Pos} {args : List Expr} {Q : Flow -> Shared -> Prop} {fI : Addr} {oI : Obj}
   (hbase : bm.contains (.type "BaseException") = true) (hh : A.handled = none) (hplain : (backTo cpos (starEach args env)).any (·.1) = false) (hi : mN "__init__" = some (.ref fI)) (hfc : oI.cls = .type "function")
   (h : wpAny (model prog w) A (eval (.Name x np) env) (fun f s₁ => f = .ref C /\ wpAny (model prog w) A (evalArgs (.ref C) true (backTo cpos (starEach args env)) [])
     (fun a s₂ => a.kw = [] /\ a.pos.length <= sizeLine /\ s₂.heap.get? C = some (excClassObj nm q C N bs bm hdct sn sub ab col dd k0 k1 k2 k3 k5 newId) /\ s₂.heap.Ns N mN /\ OwnTail s₂.heap bmB bm /\ s₂.heap.get? fI = some oI /\
       ∀ h' e, Heap.MadeExcOf s₂.heap h' e (.ref C) a.pos -> wpAny (model prog w) (A.under (.builtin "type.__call__" ⟨.ref C :: a.pos, []⟩)) (call (.ref fI) (.ref e :: a.pos))
         (fun r s₃ => r = .none /\ s₃.heap.get? C = some (excClassObj nm q C N bs bm hdct sn sub ab col dd k0 k1 k2 k3 k5 newId) /\ (∃ t de, s₃.heap.get? e = some { cls := .ref C, dict := de, data := .fields #[.ref t, .none, .none, .none, .bool false, .none] }) /\ E (.ref e) s₃) E { s₂ with heap := h' }) E s₁) E s) :
   wpAny (model prog w) A (exec (.Raise (some (.Call (.Name x np) args [] cpos)) none pos) env) Q E s := by
 rw [arm_exec_Raise]
 first
   | refine wpAny_bind (wpAny_standAt (A7m (C := C) (nm := nm) (q := q) (N := N) (bs := bs) (bm := bm) (hdct := hdct) (sn := sn) (sub := sub) (ab := ab) (col := col) (dd := dd) (k0 := k0) (k1 := k1) (k2 := k2) (k3 := k3) (k5 := k5) (newId := newId) hbase hh (wpAny_bind (wpAny_mono (wpAny_Call_ofName (wpAny_mono h (fun f s₁ h₁ => ?_) fun _ _ x => x)) (fun v s₃ h₃ => wpAny_bind (wpAny_standAt (wpAny_pure h₃))) fun _ _ x => x))))
   | (simp only [evalOpt, Option.map]; refine wpAny_bind (wpAny_standAt (A7m (C := C) (nm := nm) (q := q) (N := N) (bs := bs) (bm := bm) (hdct := hdct) (sn := sn) (sub := sub) (ab := ab) (col := col) (dd := dd) (k0 := k0) (k1 := k1) (k2 := k2) (k3 := k3) (k5 := k5) (newId := newId) hbase hh (wpAny_bind (wpAny_mono (wpAny_Call_ofName (wpAny_mono h (fun f s₁ h₁ => ?_) fun _ _ x => x)) (fun v s₃ h₃ => wpAny_bind (wpAny_standAt (wpAny_pure h₃))) fun _ _ x => x)))))
 obtain ⟨rfl, h₁⟩ := h₁
 unfold callWith
 refine wpAny_bind (wpAny_holding (wpAny_mono h₁ (fun a s₂ h₂ => wpAny_bind (wpAny_standAt ?_)) fun _ _ x => x))
 obtain ⟨apos, akw⟩ := a
 obtain ⟨hkw, hlen, hC, hn, T, hf, h₂⟩ := h₂
 obtain rfl : akw = [] := hkw
 obtain ⟨hp, g, d, tk, os⟩ := s₂
 simp only [hplain]
 refine wpAny_bind (wpAny_keeperOf_exc hC ?_)
 refine wpAny_bind (B8s F T hC hn hi hf hfc (fun h' e hm => wpAny_mono (h₂ h' e hm) (fun r s₃ z => ⟨z.1, wpAny_bind (wpAny_holding (wpAny_point (wpAny_pure ?_)))⟩) fun _ _ x => x) hlen)
 obtain ⟨_, hC3, ⟨t, de, he⟩, hE⟩ := z
 exact ⟨e, t, de, rfl, hC3, he, hE⟩
end
end L2
namespace L2
open PySem PySem.Spec PyProof.Rows PySem.W
abbrev G9j : List Value := [.type "ValueError", .type "Exception", .type "BaseException", .type "object"]
structure ExcI (K : Frag) (C fI : Addr) : Prop where
 cls : ∃ nm q N bs bm sn sub ab col dd k0 k1 k2 k3 k5, K.lookup C = some (excClassObj nm q C N bs bm true sn sub ab col dd k0 k1 k2 k3 k5 "ValueError.__new__") /\ nsOkIn K N = true /\ nsIn K N "__init__" = some (some (.ref fI)) /\ tailIn K G9j bm = true
 fn : ∃ o, K.lookup fI = some o /\ o.cls = .type "function"
 sa : findIn K (.ref C) "__setattr__" = some (some (.builtin "object.__setattr__"))
 ob : mroIn K C (.type "object") = some true
theorem D8x {K : Frag} {h : Heap} {N : Addr} {mg : Str -> Option Value} {n : Str} {v : Value} (X : K.In h) (G : h.Ns N mg) (e : nsIn K N n = some (some v)) : mg n = some v := by
 obtain ⟨o, es, ep, ho, hd, _, hf⟩ := G
 unfold nsIn at e
 split at e
 . rename_i c d es' n' sl q
   have := X _ _ q
   rw [ho] at this
   cases this
   cases hd
   split at e
   . rename_i en he
     cases e
     rw [<- hf]
     unfold nsFind findBy
     rw [<- Array.find?_toList, he]
     rfl
   . split at e <;> cases e
 . cases e
theorem B7m {h : Heap} (self : Value) : ∀ {l : List Value}, OwnTail h G9j l -> refuseLoop self "__setattr__" l = pure ()
 | _, .base => PySem.F.store_ValueError.passes self
 | _, .own _ _ _ t => by rw [refuseLoop_ref]; exact B7m self t
section
variable {prog : Program} {w : World} {A : Around} {s : Shared} {K : Frag} {C e fI : Addr} {t : Addr} {R : Result -> Shared -> Prop} {name : Str} {tk : Tok} {v : Value}
theorem V4g (X : K.In s.heap) (F : ExcI K C fI) (he : s.heap.get? e = some (Y4 (.ref C) t none .none)) (ht : findIn K (.ref C) name = some none)
   (h : ∀ h' tk' d, (∀ b ob, b ≠ e -> s.heap.get? b = some ob -> h'.get? b = some ob) -> h'.get? e = some (Y4 (.ref C) t (some d) .none) -> h'.Ns1 d (fun y => if y = name then some v else none) -> s.heap.get? d = none -> d ≠ e ->
     R (.ok (.ret .none)) { s with heap := h', toks := tk' }) :
   codeAny (model prog w) A (.call (.builtin "object.__setattr__") ⟨[.ref e, .str name tk, v], []⟩) R s := by
 have SF := PySem.F.store_object
 obtain ⟨nm, q, N, bs, bm, sn, sub, ab, col, dd, k0, k1, k2, k3, k5, lC, nO, nI, tl⟩ := F.cls
 have hC := X _ _ lC
 have I : PySem.W.InstAt s.heap e (Y4 (.ref C) t none .none) C none := ⟨he, rfl, rfl, trivial⟩
 have hc : clsIn K C = some { name := nm, bases := bs, mro := .ref C :: bm, ns := N, qualname := q, hasDict := true, slotNames := sn, subclasses := sub, abstract := ab, collection := col, hasDel := false } := by
   unfold clsIn
   rw [lC]
 have sub' : Looks (model prog w) s.heap (isInstance (.ref e) (.type "object")) true := I.type.andThen (looks_mroIn X F.ob)
 refine codeAny_call_builtin SF.slot.plain SF.entry (@check_slot (model prog w) _ _ s "object.__setattr__" "object" "__setattr__" (.ref e) [.str name tk, v] [] _ SF.kind SF.split sub' (SF.args (.ref e) (.str name tk) v) ?_)
 have hm : Looks (model prog w) s.heap (mroOf (.ref C)) (.ref C :: bm) := (looks_clsIn X hc).andThen .now
 have L3 : Looks (model prog w) s.heap (Builtin.ObjectAttr.storeTaker? none) none := .now
 rw [osa_eq, refuse_eq]
 refine wpAny_bind (wpAny_bind (I.type.here (wpAny_bind (hm.here ?_))))
 rw [refuseLoop_ref, B7m _ (tail_of_in X tl)]
 refine wpAny_pure (wpAny_bind (I.type.here (wpAny_bind ((looks_findIn X ht).here (wpAny_bind (L3.here ?_))))))
 dsimp only
 refine wpAny_bind (wpAny_pure (wpAny_bind (wpAny_bind (wpAny_loadPart he (wpAny_bind (PySem.W.Looks.here (PySem.W.looks_clsIn X hc) ?_))))))
 have hx₁ : (s.heap.push { cls := .type "dict", data := .dict #[] }).get? e = some (Y4 (.ref C) t none .none) := Heap.get?_push_of_some _ he
 have hxs : e ≠ s.heap.objs.size := Nat.ne_of_lt (Heap.lt_size he)
 show wpAny (model prog w) A.in1 (do
     let d <- alloc { cls := Value.type "dict", data := Data.dict #[] }
     update e fun o => { cls := o.cls, dict := some d, data := o.data, slots := o.slots }
     pure (some d)) _ _ _
 refine wpAny_bind (wpAny_alloc' ?_)
 refine wpAny_bind (wpAny_update' hx₁ ?_)
 refine wpAny_pure ?_
 have hgd : ((s.heap.push { cls := .type "dict", data := .dict #[] }).update e fun o => { cls := o.cls, dict := some s.heap.objs.size, data := o.data, slots := o.slots }).get? s.heap.objs.size
     = some { cls := .type "dict", data := .dict #[] } :=
   (Heap.get?_update_ne _ _ _ _ hxs.symm).trans (Heap.get?_push_at rfl rfl)
 have hnd : ((s.heap.push { cls := .type "dict", data := .dict #[] }).update e fun o => { cls := o.cls, dict := some s.heap.objs.size, data := o.data, slots := o.slots }).Ns s.heap.objs.size (fun _ => none) :=
   ⟨_, #[], _, hgd, rfl, fun e he => absurd he (by simp), fun _ => rfl⟩
 show wpAny _ _ (Builtin.ObjectAttr.storeInDict s.heap.objs.size (.str name tk) name v) _ _ _
 unfold Builtin.ObjectAttr.storeInDict Builtin.ObjectAttr.newKeyGuard
 refine wpAny_bind (wpAny_pure (wpAny_bind (wpAny_nsSet1 (Heap.Ns1.of_empty hnd) fun h' hn' hs => ?_)))
 obtain ⟨oD, esD, epD, hoD, hdD, hcD⟩ := hn'.count (Within.cons name v Within.nil)
 refine wpAny_bind (wpAny_lookBehind hoD (by rw [hdD]; exact pastItsLine_dict (Nat.le_trans hcD (by rw [List.length_cons, List.length_nil, sizeLine_eq]; omega))) ?_)
 have hx' : h'.get? e = some (Y4 (.ref C) t (some s.heap.objs.size) .none) := (hs.2 e hxs).trans (Heap.get?_update_self _ hx₁ rfl)
 refine wpAny_pure (h h' _ s.heap.objs.size (fun b ob hbx hb => ?_) hx' hn' (Heap.get?_none_of_le (Nat.le_refl _)) hxs.symm)
 exact (hs.2 b (Nat.ne_of_lt (Heap.lt_size hb))).trans ((Heap.get?_update_ne _ _ _ _ hbx).trans (Heap.get?_push_of_some _ hb))
end
def A2t (e C t : Addr) (d : Option Addr) : Heap -> Prop := fun h => h.get? e = some (Y4 (.ref C) t d .none)
theorem J5w {P : Program} {w : World} {H : Hp} {h : Heap} {e C t : Addr} {d : Option Addr} (q : h.get? e = some (Y4 (.ref C) t d .none)) : ObjOk P w H h e (.ext (A2t e C t d)) :=
 ⟨q, ⟨_, q⟩, fun _ _ z k => k _ z⟩
section
variable {X : Cx} {pins : List (Addr × Obj)} {σ : St} {H : Hp} {s : Shared}
theorem Inv.trackO {a : Addr} {ho : HO} (I : Inv X pins σ H s) (n : Nw X pins H a) (ok : ObjOk X.prog X.w (upd H a ho) s.heap a ho) : Inv X pins σ (upd H a ho) s := by
 have ne : ∀ b u, H b = some u -> b ≠ a := fun b u z q => by rw [q, n.un] at z; cases z
 have up : ∀ b, b ≠ a -> upd H a ho b = H b := fun b hb => B4 hb
 refine ⟨I.ok, I.os, I.bare, ⟨I.base.keep, I.base.slot, fun b u z m hx => ?_, I.base.there, fun b xs z => ?_, fun b u v z => ?_, fun b ps z => ?_⟩, I.loc, I.cell, ?_, fun x c z => ?_, fun p hp => ?_, fun b u z => ?_, I.len⟩
 . rw [up b fun q => by rw [q, n.old] at z; cases z]
   exact I.base.free b u z m hx
 . have := I.base.tups b xs z
   rw [up b (ne b _ this)]; exact this
 . have := I.base.frzs b u v z
   rw [up b (ne b _ this)]; exact this
 . obtain ⟨more, this⟩ := I.base.tbls b ps z
   exact ⟨more, by rw [up b (ne b _ this)]; exact this⟩
 . rw [up _ (Ne.symm n.loc)]; exact I.free
 . rw [up _ (n.cell x c z)]; exact I.freeC x c z
 . obtain ⟨q1, q2, q3⟩ := I.pin p hp
   exact ⟨q1, by rw [up _ (n.pin p hp)]; exact q2, q3⟩
 . by_cases hb : b = a
   . subst hb
     rw [A6] at z
     cases z
     exact ok
   . rw [up b hb] at z
     exact (I.hok b u z).stay (fun _ _ _ q => q) (fun c q => by rw [up c (ne c _ q)]; exact q) (fun c xs q => by rw [up c (ne c _ q)]; exact q)
def rem (H : Hp) (a : Addr) : Hp := fun b => if b = a then none else H b
theorem B8f {a : Addr} : rem H a a = none := by unfold rem; rw [if_pos rfl]
theorem A4r {a b : Addr} (h : b ≠ a) : rem H a b = H b := by unfold rem; rw [if_neg h]
theorem Inv.forget {a : Addr} {φ : Heap -> Prop} (I : Inv X pins σ H s) (e : H a = some (.ext φ)) : Inv X pins σ (rem H a) s := by
 have ne : ∀ b u, H b = some u -> (∀ φ, u ≠ .ext φ) -> b ≠ a := fun b u z q w => by rw [w, e] at z; cases z; exact q _ rfl
 have non : ∀ b, H b = none -> rem H a b = none := fun b z => by
   by_cases q : b = a
   . rw [q]; exact B8f
   . rw [A4r q]; exact z
 refine ⟨I.ok, I.os, I.bare, ⟨I.base.keep, I.base.slot, fun b u z m hx => non b (I.base.free b u z m hx), I.base.there, fun b xs z => ?_, fun b u v z => ?_, fun b ps z => ?_⟩, I.loc, I.cell, non _ I.free, fun x c z => non _ (I.freeC x c z), fun p hp => ?_, fun b u z => ?_, I.len⟩
 . have := I.base.tups b xs z
   rw [A4r (ne b _ this (fun _ q => nomatch q))]; exact this
 . have := I.base.frzs b u v z
   rw [A4r (ne b _ this (fun _ q => nomatch q))]; exact this
 . obtain ⟨more, this⟩ := I.base.tbls b ps z
   exact ⟨more, by rw [A4r (ne b _ this (fun _ q => nomatch q))]; exact this⟩
 . obtain ⟨q1, q2, q3⟩ := I.pin p hp
   exact ⟨q1, non _ q2, q3⟩
 . have hb : b ≠ a := fun q => by rw [q, B8f] at z; cases z
   rw [A4r hb] at z
   exact (I.hok b u z).stay (fun _ _ _ q => q) (fun c q => by rw [A4r (ne c _ q (fun _ w => nomatch w))]; exact q) (fun c xs q => by rw [A4r (ne c _ q (fun _ w => nomatch w))]; exact q)
end
def Y5v (C : Addr) (ta tv : TE) (f : Str) : TS := fun D σ H => tv σ H fun y H1 => ta σ H1 fun x H2 => ∃ e t, x = .ref e /\ H2 e = some (.ext (A2t e C t none)) /\
 ∀ d, H2 d = none -> d ≠ e -> D.nx σ (upd (upd H2 e (.ext (A2t e C t (some d)))) d (.xd [(f, y)]))
section
variable {X : Cx} {o value : Expr} {f : Str} {pos pos' : Pos} {ta tv : TE} {C fI : Addr}
theorem V3u (F : ExcI X.K C fI) (hf : findIn X.K (.ref C) f = some none) (ha : PE X o ta) (hv : PE X value tv) (hs : swapsWith value (some (.Attribute o f pos')) pos.line X.env = pure false) (hex : X.ex = [] := by rfl) :
   PS X (.Assign [.Attribute o f pos'] value pos) (Y5v C ta tv f) := by
 intro pins s σ H D I h
 refine plainObj_wpAny_Assign_Attribute (thn (hv pins s σ H _ I h) fun u s1 ⟨y, H1, I1, ry, q⟩ => thn (ha pins s1 σ H1 _ I1 q) fun ov s2 ⟨x, H2, I2, rx, e, t, ex, ea, q2⟩ => ?_) hs
 subst ex
 obtain rfl : ov = Value.ref e := rx
 have he : s2.heap.get? e = some (Y4 (.ref C) t none .none) := (I2.hok e _ ea).1
 refine set_plain I2.kIn (⟨he, rfl, rfl, trivial⟩ : PySem.W.InstAt s2.heap e (Y4 (.ref C) t none .none) C none) F.sa (V4g (s := { s2 with toks := s2.toks + 1 }) I2.kIn F he hf fun h' tk' d k1 k2 k3 k4 k5 => ?_)
 have nd : H2 d = none := I2.hok.new k4
 have I3 : Inv X pins σ (upd H2 e (.ext (A2t e C t (some d)))) { s2 with heap := h', toks := tk' } :=
   I2.write (x := e) (e := e) (by rw [ea]; exact trivial) (.inl rfl) (fun b u hb z => k1 b u hb z) ⟨_, k2⟩ (J5w k2)
 have nw : Nw X pins (upd H2 e (.ext (A2t e C t (some d)))) d := I2.nw hex k4 (by rw [B4 k5]; exact nd)
 refine ⟨σ, _, I3.trackO (ho := .xd [(f, y)]) nw ⟨_, k3, fun g => ?_⟩, q2 d nd k5⟩
 show RelO (List.lookup g [(f, y)]) (if g = f then some u else none)
 by_cases z : g = f
 . rw [if_pos z, z]
   have : List.lookup f [(f, y)] = some y := by simp [List.lookup]
   rw [this]; exact ry
 . rw [if_neg z]
   have : List.lookup g [(f, y)] = none := by
     have hb : (g == f) = false := beq_eq_false_iff_ne.mpr z
     simp [List.lookup, hb]
   rw [this]; exact trivial
end
def C7k (C : Addr) (f : Str) : Sp := fun vs H Q _ => ∃ e t v, vs = [.ref e, v] /\ H e = some (.ext (A2t e C t none)) /\ ∀ d, H d = none -> d ≠ e -> Q .non (upd (upd H e (.ext (A2t e C t (some d)))) d (.xd [(f, v)]))
def V4j (C : Addr) (f : Str) (EH : EK) (t : TA) : TS := fun _ σ H => t σ H fun vs H1 => ∃ v, vs = [v] /\ ∀ d H2, Same H1 H2 -> H1 d = none -> H2 d = some (.xd [(f, v)]) -> EH (.ref C) (some d) σ H2
section
variable {X : Cx} {x f : Str} {p cpos pos : Pos} {e : Expr} {t : TA} {C fI : Addr} {fdI : FuncData} {ps : List Str} {EH : EK} {j k : Nat}
theorem J2w (hm : X.mg x = some (.ref C)) (F : ExcI X.K C fI) (G : FnOk X.prog X.w X.K X.mg X.base CX0 j fI fdI ps (C7k C f)) (bI : Binds X.K fdI ps []) (hr : Room k X.A) (hx : G3 X EH) (ha : PA X [e] t) (hj : j + 1 <= k := by decide) (hg : Gl X x := by rfl) (hex : X.ex = [] := by rfl)
   (hdb : (x == ("__debug__" : Str)) = false := by decide) (he : starEach [e] X.env = (false, eval e X.env) :: starEach [] X.env := by rfl) (hpl : (backTo cpos (starEach [] X.env)).any (·.1) = false := by rfl) :
   PS X (.Raise (some (.Call (.Name x p) [e] [] cpos)) none pos) (V4j C f EH t) := by
 intro pins s σ H D I h
 obtain ⟨nm, q, N, bs, bm, sn, sub, ab, col, dd, k0, k1, k2, k3, k5, lC, nO, nI, tl⟩ := F.cls
 obtain ⟨oI, lI, cI⟩ := F.fn
 have T0 : OwnTail X.base G9j bm := tail_of_in I.ok.mod.kin tl
 have hN0 : X.base.Ns N (X.base.nsMap N) := .of_isNs (isNs_of_in I.ok.mod.kin nO)
 have hi0 : X.base.nsMap N "__init__" = some (.ref fI) := D8x I.ok.mod.kin hN0 nI
 refine B3b (C := C) (nm := nm) (q := q) (N := N) (bs := bs) (bm := bm) (hdct := true) (sn := sn) (sub := sub) (ab := ab) (col := col) (dd := dd) (k0 := k0) (k1 := k1) (k2 := k2) (k3 := k3) (k5 := k5) (oI := oI) PySem.F.excBase_ValueError (mN := X.base.nsMap N) (T0.hasType PySem.F.excBase_ValueError.hasBase) hr.hd
   (by rw [he]; show (false || (backTo cpos (starEach [] X.env)).any (·.1)) = false; rw [hpl]; rfl) hi0 cI (A0k I hg hm ⟨rfl, ?_⟩ hdb)
 have ha' := ha cpos pins s σ H _ I h
 rw [he] at ha' ⊢
 refine Calls.evalArgs_plain (wpAny_mono ha' (fun us s2 ⟨vs, H1, I1, r, v, ev, z⟩ => ?_) fun _ _ y => y)
 subst ev
 obtain ⟨u, rfl, ru⟩ := r.one
 refine ⟨rfl, C7 (by show 1 <= 1000; decide), I1.kIn _ _ lC, hN0.keeps I1.bk, T0.keeps I1.bk, I1.kIn _ _ lI, fun h' a m => ?_⟩
 obtain ⟨t', e1, tn, e2⟩ := m.there
 have I2 : Inv X pins σ H1 { s2 with heap := h' } := I1.kept (t' := s2.toks) m.keeps
 have na : H1 a = none := I1.hok.new m.new
 have I3 := I2.trackO (ho := .ext (A2t a C t' none)) (I1.nw hex m.new na) (J5w e1)
 have sp0 : C7k C f [.ref a, v] (upd H1 a (.ext (A2t a C t' none))) (fun v0 H' => v0 = .non /\ ∃ d, H1 d = none /\ d ≠ a /\ H' = upd (upd (upd H1 a (.ext (A2t a C t' none))) a (.ext (A2t a C t' (some d)))) d (.xd [(f, v)])) E0 :=
   ⟨a, t', v, rfl, A6, fun d nd nda => ⟨rfl, d, by rw [B4 nda] at nd; exact nd, nda, rfl⟩⟩
 have rr : Vals [.ref a, v] [.ref a, u] := .cons rfl (.cons ru .nil)
 have hl : ([Value.ref a, u] ++ []).length = ps.length := by
   have := G.len _ _ _ _ sp0
   rw [<- this]; rfl
 refine wpAny_call (codeAny_mono (G.run _ X.stack _ _ ⟨[.ref a, u], []⟩ ([.ref a, u] ++ []) [.ref a, v] _ E0 ((hr.mono hj).make C [u] []) (I3.env0.make C [u] []) (bI _ [.ref a, u] I3.kIn hl) rr sp0) fun r s' hq => ?_)
 cases r with
 | error e => exact hq.elim
 | ok fl =>
   cases fl with
   | ret u0 =>
     obtain ⟨v0, H', I4, rv, ev, d, nd, nda, eH⟩ := I3.after hq
     subst ev eH
     have ea : (upd (upd (upd H1 a (.ext (A2t a C t' none))) a (.ext (A2t a C t' (some d)))) d (.xd [(f, v)])) a = some (.ext (A2t a C t' (some d))) := by
       rw [B4 (Ne.symm nda), A6]
     have g1 : s'.heap.get? a = some (Y4 (.ref C) t' (some d) .none) := (I4.hok a _ ea).1
     refine ⟨rv, I4.kIn _ _ lC, ⟨t', some d, g1⟩, ?_⟩
     refine hx pins σ _ s' a t' (.ref C) (some d) (I4.forget ea) ⟨I1.nw hex m.new B8f, .none, g1, .inl rfl, fun T z => nomatch z⟩ (z d _ (fun b ob q => ?_) nd ?_)
     . have nb : b ≠ a := C5 q na
       have nbd : b ≠ d := C5 q nd
       rw [A4r nb, B4 nbd, B4 nb, B4 nb]
       exact q
     . rw [A4r nda, A6]
   | next => exact hq.elim
   | brk => exact hq.elim
   | cont => exact hq.elim
end
theorem J7q {prog : Program} {w : World} {A : Around} {E : Value -> Shared -> Prop} {s : Shared} {K : Frag} {a C : Addr} {oa : Obj} {od : Option Obj} {name : Str} {v : Value} {b : Bool} {Q : Value -> Shared -> Prop} (F : ExcK K C) (X : K.In s.heap) (I : PySem.W.InstAt s.heap a oa C od)
   (hf : findObj K C od name = some (.value v)) (hh : handedIn v = true) (h : Q v { s with toks := s.toks + 1 }) : wpAny (model prog w) A (getAttr (.ref a) name b) Q E s := by
 obtain ⟨hp, g, d, t, os⟩ := s
 have L0 := I.type (M := model prog w)
 have L1 := looks_findIn (M := model prog w) X F.ga
 have L2 := looks_findIn (M := model prog w) X F.gh
 have L3 : Looks (model prog w) hp (isInstance (.ref a) (.type "BaseException")) true := L0.andThen (looks_subIn X F.be)
 have L4 := looks_find (M := model prog w) X I hf
 have hk : builtinKind "BaseException.__getattribute__" = some .slot := by decide +kernel
 have hsplit : splitId "BaseException.__getattribute__" = some ("BaseException", "__getattribute__") := by decide +kernel
 have hargs := PySem.F.args_bexc_ga (.ref a) (.str name t)
 have hb := PySem.F.attr_ValueError.ga.bind (.ref a)
 unfold getAttr getAttrBy
 refine wpAny_bind (wpAny_mkText (wpAny_holding (wpAny_bind (L0.at (wpAny_bind (L1.at ?_))))))
 dsimp only
 rw [if_neg (show ¬ ((onTheHeap (Value.ref C) && Value.builtin "BaseException.__getattribute__" == Value.builtin "object.__getattribute__") = true) by
   rw [show (Value.builtin "BaseException.__getattribute__" == Value.builtin "object.__getattribute__") = false by decide +kernel, Bool.and_false]; exact Bool.false_ne_true)]
 unfold getAttrByItsOwn
 refine wpAny_bind (m := hookBefore (.ref C)) (L2.at ?_)
 refine wpAny_bind (wpAny_attempt (wpAny_holding ?_))
 unfold callGetattribute
 rw [if_neg (show ¬ ((b && onTheHeap (Value.builtin "BaseException.__getattribute__")) = true) by
   rw [show onTheHeap (Value.builtin "BaseException.__getattribute__") = false from rfl, Bool.and_false]; exact Bool.false_ne_true)]
 unfold boundAndCalled
 rw [hb]
 refine wpAny_bind (wpAny_pure ?_)
 refine wpAny_call (codeAny_call_builtin PySem.F.attr_ValueError.ga.plain PySem.F.entry_bexc_ga ?_)
 have chk : ∀ {A' : Around} {Q' : Unit -> Shared -> Prop} {E' : Value -> Shared -> Prop}, Q' () ⟨hp, g, d, t + 1, os⟩ -> wpAny (model prog w) A' (checkBuiltinCall "BaseException.__getattribute__" ⟨[.ref a, .str name t], []⟩) Q' E' ⟨hp, g, d, t + 1, os⟩ := by
   intro A' Q' E' hq
   simp only [checkBuiltinCall, hk, hsplit]
   refine wpAny_bind ?_
   refine L3.at ?_
   repeat (first | assumption | wp_step)
 refine chk ?_
 show wpAny _ _ (Builtin.«object.__getattribute__» ⟨[.ref a, .str name t], []⟩) _ _ _
 unfold Builtin.«object.__getattribute__»
 refine wpAny_bind (wpAny_pure ?_)
 refine wpAny_bind (wpAny_pure ?_)
 refine wpAny_bind (L0.at (wpAny_bind (L4.at ?_)))
 dsimp only
 refine wpAny_pure ?_
 exact handed_on hh h
def V6w (K : Frag) (ta : TE) (f : Str) : TE := fun σ H Q => ta σ H fun x H1 => ∃ a C t T d u fs v, x = .ref a /\ H1 a = some (.frz (Y4 (.ref C) t (some d) T) u) /\ H1 d = some (.xd fs) /\ ExcK K C /\ (∃ cd, clsIn K C = some cd /\ cd.hasDict = true) /\ findIn K (.ref C) f = some none /\ fs.lookup f = some v /\ Q v H1
section
variable {X : Cx} {e : Expr} {f : Str} {pos : Pos} {ta : TE}
theorem V4e (he : PE X e ta) (hb : attributeBase e f X.env (eval e X.env) = eval e X.env) : PE X (.Attribute e f pos) (V6w X.K ta f) := by
 intro pins s σ H Q I h
 refine G9r hb (thn (he pins s σ H _ I h) fun u s1 ⟨x, H1, I1, rx, a, C, t, T, d, u0, fs, v, ex, ea, hd, k, ⟨cd, hc, hD⟩, hn, l, q⟩ => ?_)
 subst ex
 obtain rfl : u = Value.ref a := rx
 have o1 : s1.heap.get? a = some (Y4 (.ref C) t (some d) T) := (I1.hok a _ ea).1
 obtain ⟨mA, nA, rA⟩ := (show ∃ mA, s1.heap.Ns1 d mA /\ ∀ f, RelO (fs.lookup f) (mA f) from I1.hok d _ hd)
 obtain ⟨od, o2, lk⟩ := B2z nA
 obtain ⟨uv, hu, ru⟩ := RelO.some_of (v := v) (o := mA f) (by rw [<- l]; exact rA f)
 have J : PySem.W.InstAt s1.heap a (Y4 (.ref C) t (some d) T) C (some od) := ⟨o1, rfl, rfl, o2⟩
 have hf : findObj X.K C (some od) f = some (.value uv) := by
   unfold findObj
   rw [hc, Option.bind_some, hn, Option.bind_some]
   show ((PySem.W.ownOf cd (some od) f).bind _) = _
   unfold PySem.W.ownOf
   rw [hD, if_pos rfl]
   show ((lookIn f od).bind _) = _
   rw [lk f, hu]
   rfl
 exact J7q k I1.kIn J hf (C5v ru) ⟨v, H1, I1.tok _, ru, q⟩
end
def A7v (z : Str) (n : Int) : Str := if n < 1 then Str.empty else if (n == 1 || z.length == 0) = true then z else ⟨(List.replicate n.toNat z.cps).foldl (· ++ ·) #[]⟩
def V7r : R2 := fun x y H Q => ∃ z n, x = .str z /\ y = .int n /\ -(2 ^ 63) <= n /\ n < 2 ^ 63 /\ z.length * n.toNat <= sizeLine /\ Q (.str (A7v z n)) H
theorem C6p (z : Array Nat) : ∀ (k : Nat) (acc : Array Nat), ((List.replicate k z).foldl (· ++ ·) acc).toList = acc.toList ++ (List.replicate k z.toList).flatten
 | 0, acc => by simp
 | k + 1, acc => by
   rw [List.replicate_succ, List.foldl_cons, C6p z k, Array.toList_append, List.replicate_succ, List.flatten_cons, List.append_assoc]
theorem A0m (z : Str) : z.cps.toList.length = z.length := Array.length_toList
theorem B7b (z : Str) (n : Int) : (A7v z n).cps.toList = (List.replicate n.toNat z.cps.toList).flatten := by
 unfold A7v
 split
 . have : n.toNat = 0 := by omega
   rw [this]; rfl
 . split
   . rename_i h1 h2
     rcases Bool.or_eq_true _ _ |>.mp h2 with h | h
     . have : n = 1 := by simpa using h
       subst this
       simp
     . have e : z.length = 0 := by simpa using h
       have e2 : z.cps.toList = [] := List.eq_nil_of_length_eq_zero (by rw [A0m]; exact e)
       rw [e2]
       have : ∀ k : Nat, (List.replicate k ([] : List Nat)).flatten = [] := fun k => by simp
       rw [this]
   . show ((List.replicate n.toNat z.cps).foldl (· ++ ·) #[]).toList = _
     rw [C6p]
     rfl
theorem B9j (z : Str) (n : Int) : (A7v z n).length = n.toNat * z.length := by
 rw [<- A0m, B7b, G9f, A0m]
section
variable {X : Cx}
theorem D8w : OpR X (binaryOp .Mult) V7r := by
 intro pins s σ H x y v u Q I rx ry h
 obtain ⟨z, n, rfl, rfl, h1, h2, hz, q⟩ := h
 obtain ⟨t, rfl⟩ := rx
 obtain ⟨t', rfl⟩ := ry
 have lo : ¬ n < -(2 ^ 63 : Int) := by omega
 have hi : ¬ n >= (2 ^ 63 : Int) := by omega
 have hl := B9j z n
 have hs : (A7v z n).length <= sizeLine := by rw [hl, Nat.mul_comm]; exact hz
 refine PySem.P.mul_str (by rw [decide_eq_false lo, decide_eq_false hi]; rfl) (fun n1 n2 => ?_) (fun n1 n2 => V1r hz) ?_
 . intro g
   have p : 0 < n := by omega
   have e : ((z.length * n.toNat : Nat) : Int) = (z.length : Int) * n := by rw [Int.natCast_mul, Int.toNat_of_nonneg (by omega)]
   have c : ((z.length * n.toNat : Nat) : Int) <= (sizeLine : Nat) := Int.ofNat_le.mpr hz
   have k : (sizeLine : Nat) <= 2 ^ 63 - 1 := by decide
   have k' : ((sizeLine : Nat) : Int) <= (2 ^ 63 - 1 : Int) := by
     have := Int.ofNat_le.mpr k
     exact this
   have : (z.length : Int) <= (2 ^ 63 - 1) / n := (Int.le_ediv_iff_mul_le p).mpr (by omega)
   omega
 . unfold A7v at q hs
   split
   . rw [if_pos (by assumption)] at q
     exact ⟨by decide, .str _, H, I.tok _, ⟨_, rfl⟩, q⟩
   . rw [if_neg (by assumption)] at q hs
     split
     . rw [if_pos (by assumption)] at q
       exact ⟨.str _, H, I, ⟨_, rfl⟩, q⟩
     . rw [if_neg (by assumption)] at q hs
       exact ⟨hs, .str _, H, I.tok _, ⟨_, rfl⟩, q⟩
theorem C1y : A2u X (.type "int") (fun xs H Q => ∃ z n, xs = [.str z] /\ PySem.intText? z = some n /\ z.length <= 640 /\ Q (.int n) H) := by
 intro pins s σ H xs us Q I r h
 obtain ⟨z, n, rfl, h1, h2, q⟩ := h
 obtain ⟨u, rfl, t, rfl⟩ := B8x r
 exact KIN.call_text h1 h2 ⟨.int n, H, I.tok _, ⟨_, rfl⟩, q⟩
end
def J1n (n : Nat) : Str := ("1" : Str) ++ A7v ("0" : Str) (n : Int)
theorem J1y (n : Nat) : (List.replicate n [48]).flatten = List.replicate n 48 := by
 induction n with
 | zero => rfl
 | succ n ih => rw [List.replicate_succ, List.flatten_cons, ih, List.replicate_succ]; rfl
theorem A9r (n : Nat) : (J1n n).cps.toList = 49 :: List.replicate n 48 := by
 unfold J1n
 show (("1" : Str).cps ++ (A7v ("0" : Str) (n : Int)).cps).toList = _
 rw [Array.toList_append, B7b]
 have a : ("1" : Str).cps.toList = [49] := by decide +kernel
 have b : ("0" : Str).cps.toList = [48] := by decide +kernel
 rw [a, b]
 show [49] ++ (List.replicate n [48]).flatten = _
 rw [J1y]
 rfl
theorem D5a (n : Nat) : (J1n n).length = n + 1 := by
 rw [<- A0m, A9r]
 simp
theorem D8r (n : Nat) : ∀ a : Nat, (List.replicate n 48).foldl (fun acc c => acc * 10 + (c - 48)) a = a * 10 ^ n := by
 induction n with
 | zero => intro a; simp
 | succ n ih =>
   intro a
   rw [List.replicate_succ, List.foldl_cons, ih, Nat.pow_succ]
   show (a * 10 + 0) * 10 ^ n = _
   rw [Nat.add_zero, Nat.mul_assoc, Nat.mul_comm 10]
theorem J8r (n : Nat) (h : n <= 600) : PySem.intText? (J1n n) = some ((10 ^ n : Nat) : Int) := by
 have e : PySem.NumText.digitsVal (J1n n).cps.toList = 10 ^ n := by
   rw [A9r]
   unfold PySem.NumText.digitsVal
   rw [List.foldl_cons, D8r]
   show (0 * 10 + 1) * 10 ^ n = _
   omega
 rw [<- e]
 refine PySem.intText_digits ?_ ?_ ?_
 . rw [A9r]
   intro c hc
   rcases List.mem_cons.mp hc with rfl | hc
   . exact ⟨by decide, by decide⟩
   . obtain ⟨_, rfl⟩ := List.mem_replicate.mp hc
     exact ⟨by decide, by decide⟩
 . rw [A9r]; exact fun z => nomatch z
 . rw [D5a]; omega
section
variable {X : Cx}
end
section
variable {X : Cx} {a b : Expr} {rest : List Expr} {pos : Pos} {ta tb : TE}
end
section
variable {X : Cx} {j k : Nat} {f C : Addr} {fd : FuncData} {ps : List Str} {sp : Sp} {dvs : List V} {ds : List Value} {x m : Str} {p pos apos : Pos} {e o : Expr} {es : List Expr} {ta : TE} {t : TA} {st : Stmt}
end
section
variable {X : Cx} {N F : List Str} {js : List Nat} {scope : Scope}
theorem J3a {pins : List (Addr × Obj)} {σ : St} {H : Hp} {s : Shared} {fp : List Addr} {h' : Heap} (S : CompScopeF N F js scope X.N X.env) (I : Inv X pins σ H s) (hf : ∀ b ∈ fp, A2g X pins H b) (hit : ∀ b ∈ fp, ∃ o, s.heap.get? b = some o) (hnb : ∀ b ∈ fp, X.base.get? b = none)
   (hns : h'.Ns s.heap.objs.size (fun _ => none)) (hsb : ∀ b o, s.heap.get? b = some o -> h'.get? b = some o) {tk : Nat} :
   Inv (X.compF scope N F s.heap.objs.size s H fp (X.pn ++ pins)) [] (List.replicate N.length none ++ A2s js σ) H { s with heap := h', toks := tk } := by
 have ck : ∀ c v, s.heap.IsCell c v -> h'.IsCell c v := fun c v ⟨o, e, d⟩ => ⟨o, hsb _ _ e, d⟩
 have inF : ∀ x, ((compEnvC scope (A0p F X.env) s.heap.objs.size X.env).kindOf x = some .cell \/ (compEnvC scope (A0p F X.env) s.heap.objs.size X.env).kindOf x = some .free) -> x ∈ F := by
   intro x z
   have z : (relabel scope X.env).names.lookup x = some .cell \/ (relabel scope X.env).names.lookup x = some .free := z
   rcases z with z | z
   . exact S.fr _ (PySem.mem_of_lookup z) (.inl rfl)
   . exact S.fr _ (PySem.mem_of_lookup z) (.inr rfl)
 refine ⟨⟨I.ok.mod, S.kind, I.ok.glob, I.ok.blt, Nat.le_refl _, fun x y c z z' => I.ok.inj x y c (S.sub x c z) (S.sub y c z'), fun x z => ?_, fun x c z _ => (nomatch z), I.ok.hd, I.ok.frames, .inl rfl, fun b hb => ?_, I.bs, Nat.le_trans I.ok.bsz I.sz, fun b o e hb => ?_, fun b hb hfs => ?_, I.stack, I.stkFree⟩,
   rfl, I.bare, Un.kept hsb, ⟨_, hns, fun i x v e1 e2 e3 => A9k S I (fun x c v _ z => ck c v z) i x v e1 e2⟩, fun x c z => ?_, I.hok.fresh (Nat.le_refl _), fun x c z => I.freeC x c (S.sub x c z), fun p hp => ?_, I.hok.kept hsb, C8m S σ⟩
 . obtain ⟨c, h1, _⟩ := S.has (inF x z)
   exact ⟨c, h1⟩
 . obtain ⟨oi, ei⟩ := hit b hb
   exact ⟨Nat.ne_of_lt (Heap.lt_size ei), fun x c z => (hf b hb).2.2.2.2.1 x c (S.sub x c z)⟩
 . rw [hnb b hb] at e
   cases e
 . rcases List.mem_cons.mp (I.stkSub b hfs) with z | z
   . exact (hf b hb).2.1 z
   . exact (hf b hb).2.2.1 z
 . obtain ⟨v, z'⟩ := I.cell x c (S.sub x c z)
   exact ⟨v, ck c v z'⟩
 . have hp' : p ∈ X.pn ++ pins := by simpa using hp
   obtain ⟨q1, q2, q3, q4, q5⟩ := I.pin p hp'
   refine ⟨hsb _ _ q1, q2, Nat.ne_of_lt (Heap.lt_size q1), fun z => ?_, q5⟩
   rcases List.mem_cons.mp (I.stkSub p.1 z) with z | z
   . exact q3 z
   . exact q4 z
theorem D9p {pins pl : List (Addr × Obj)} {σ σ' : St} {H H' : Hp} {s s' : Shared} {fp : List Addr} (S : CompScopeF N F js scope X.N X.env) (I : Inv X pins σ H s) (hf : ∀ b ∈ fp, A2g X pins H b) (J : Inv (X.compF scope N F s.heap.objs.size s H fp (X.pn ++ pins)) pl σ' H' s') :
   Inv (X.compF scope N F s.heap.objs.size s H fp (X.pn ++ pins)) [] (List.replicate N.length none ++ A2s js σ) H' s' := by
 obtain ⟨m, hn, _⟩ := J.loc
 refine ⟨J.ok, J.os, J.bare, J.base, ⟨m, hn, fun i x v e1 e2 e3 => A9k S I (fun x c v z q => ?_) i x v e1 e2⟩, J.cell, J.free, J.freeC, fun p hp => J.pin p (by
   have hp : p ∈ (X.pn ++ pins) ++ [] := hp
   rw [List.append_nil] at hp
   exact List.mem_append_left _ hp), J.hok, C8m S σ⟩
 obtain ⟨o, e, d⟩ := q
 have ne : c ∉ fp := fun w => (hf c w).2.2.2.2.1 x c z rfl
 obtain ⟨sl, q⟩ := J.base.any e (I.freeC x c z) ne
 exact ⟨_, q, d⟩
theorem G0b {elt target iter c : Expr} {scope : Scope} {pos : Pos} {N F : List Str} {js : List Nat} {wi : TI} {g : TG} {tc : TT} {te : TE} (S : CompScopeF N F js scope X.N X.env) (hd : Y3 X) (hc0 : X.calm = true) (hi : PI X target iter wi) (hex : X.ex = [])
   (hg : ∀ C s₀ H₀ ex pn, Y3 (X.compF scope N F C s₀ H₀ ex pn) -> PG (X.compF scope N F C s₀ H₀ ex pn) target g)
   (hc : ∀ C s₀ H₀ ex pn, Y3 (X.compF scope N F C s₀ H₀ ex pn) -> PT (X.compF scope N F C s₀ H₀ ex pn) c tc)
   (he : ∀ C s₀ H₀ ex pn, Y3 (X.compF scope N F C s₀ H₀ ex pn) -> PE (X.compF scope N F C s₀ H₀ ex pn) elt te)
   {pins : List (Addr × Obj)} {s : Shared} {σ : St} {H : Hp} {Q : VK} {RR : Value -> Env -> Result -> Shared -> Prop} (I : Inv X pins σ H s) (h : (A7q N.length js wi g tc te) σ H Q)
   (hRR : ∀ (D C : Addr) (s6 : Shared) (H5 : Hp) (mm : Str -> Option Value), Inv X pins σ H5 s6 -> s6.heap.Ns C mm -> A2g X pins H5 C -> Q (.ref D) H5 -> RR (.ref D) (compEnvC scope (A0p F X.env) C X.env) (.ok .next) s6) :
   wpAny (model X.prog X.w) X.A (eval iter X.env) (fun v s1 => wpAny (model X.prog X.w) X.A (pyIter v) (fun itv s2 => wpAny (model X.prog X.w) X.A (newList []) (fun acc s3 => wpAny (model X.prog X.w) X.A (newFunctionEnv scope X.env.globals (A0p F X.env) [] X.env.qual none .none (some X.env)) (fun cenv s4 =>
     codeAny (model X.prog X.w) X.A (.compStart (.ListComp elt [⟨target, iter, [c], 0⟩] scope pos) 0 itv acc { cenv with scope := relabel scope X.env }) (RR acc { cenv with scope := relabel scope X.env }) s4) X.xe s3) X.xe s2) X.xe s1) X.xe s := by
 refine thn (hi pins s σ H _ I h) fun v s1 h1 => thn h1 fun itv s2 h2 => ?_
 obtain ⟨it, fp, tn, J, H2, rfl, I2, T, st2, f2, R⟩ := h2
 have ob2 := T.obj _ _ st2
 have hf2 := I2.hok.fresh (Nat.le_refl _)
 refine wpAny_newObj_type ?_
 have I3 : Inv X pins σ (upd H2 s2.heap.objs.size (.lst [])) { s2 with heap := s2.heap.push { cls := .type "list", dict := none, data := .seq ([] : List Value).toArray } } := Inv.lnew (t' := s2.toks) I2 .nil (Nat.zero_le _)
 refine wpAny_newFunctionEnv S.cell (by intro y hy; simp at hy) (fun h4 hns hsb => ?_) S.kind
 dsimp only at hns hsb ⊢
 generalize hG : s2.heap.push { cls := .type "list", dict := none, data := .seq ([] : List Value).toArray } = G at I3 hns hsb ⊢
 generalize hD : s2.heap.objs.size = D at I3 hf2
 have nD : ∀ b ∈ fp, b ≠ D := fun b hb => by
   obtain ⟨o, eo, _⟩ := ob2 b hb
   rw [<- hD]; exact Nat.ne_of_lt (Heap.lt_size eo)
 have eiG : ∀ b ∈ fp, ∃ o, G.get? b = some o := fun b hb => by
   obtain ⟨o, eo, _⟩ := ob2 b hb
   exact ⟨o, by rw [<- hG]; exact Heap.get?_push_of_some _ eo⟩
 have kp : ∀ b o, G.get? b = some o -> h4.get? b = some o := fun b o e => hsb.extBut b o (Nat.ne_of_lt (Heap.lt_size e)) (Heap.get?_push_of_some _ e)
 have f3 : ∀ b ∈ fp, A2g X pins (upd H2 D (.lst [])) b := fun b hb => ⟨by rw [B4 (nD b hb)]; exact (f2 b hb).1, (f2 b hb).2⟩
 have nb : ∀ b ∈ fp, X.base.get? b = none := fun b hb => by
   cases q : X.base.get? b with
   | none => rfl
   | some o =>
     have := (I.ok.bs b o q).1
     rcases (f2 b hb).2.2.2.1 with z | z
     . rw [hex] at z; simp at z
     . exact absurd (Nat.lt_of_lt_of_le (Heap.lt_size this) z) (Nat.lt_irrefl _)
 have hns' : h4.Ns G.objs.size (fun _ => none) := by
   obtain ⟨o, es, ep, q1, q2, q3, q4⟩ := hns
   exact ⟨o, es, ep, q1, q2, q3, fun x => by rw [q4]; rfl⟩
 have I4 := J3a (tk := s2.toks + ([] : List (Str × Value)).length) S I3 f3 eiG nb hns' kp
 have hdc : Y3 (X.compF scope N F G.objs.size { s2 with heap := G } (upd H2 D (.lst [])) fp (X.pn ++ pins)) := by
   rcases hd with z | ⟨x, o, u, vs, z, e, d, n⟩
   . exact .inl z
   . refine .inr ⟨x, o, u, vs, z, ?_, d, n⟩
     have q := I2.base.frzs x o u e
     show upd H2 D (.lst []) x = _
     rw [B4 fun w => by rw [w, hf2] at q; cases q]
     exact q
 obtain ⟨m, W, w0, turn⟩ := R D hf2
 have gg := hg _ _ _ _ _ hdc
 have cc := hc _ _ _ _ _ hdc
 have ee := he _ _ _ _ _ hdc
 have fpc : ∀ {H' : Hp} {σ' : St} {s' : Shared} {pl : List (Addr × Obj)}, Inv (X.compF scope N F G.objs.size { s2 with heap := G } (upd H2 D (.lst [])) fp (X.pn ++ pins)) pl σ' H' s' -> (∀ b ∈ fp, H' b = none) -> (∀ b ∈ fp, ∀ p ∈ pl, p.1 ≠ b) -> ∀ b ∈ fp, A2g (X.compF scope N F G.objs.size { s2 with heap := G } (upd H2 D (.lst [])) fp (X.pn ++ pins)) pl H' b := by
   intro H' σ' s' pl J' hn hp b hb
   obtain ⟨oi, ei⟩ := eiG b hb
   refine ⟨hn b hb, Nat.ne_of_lt (Heap.lt_size ei), ?_, .inl hb, (fun x c z => (f2 b hb).2.2.2.2.1 x c (S.sub x c z)), fun p hpp => ?_⟩
   . intro z
     rcases List.mem_cons.mp (I.stkSub b z) with z | z
     . exact (f2 b hb).2.1 z
     . exact (f2 b hb).2.2.1 z
   . rcases List.mem_append.mp hpp with z | z
     . exact (f2 b hb).2.2.2.2.2 p z
     . exact hp b hb p z
 have loop : codeAny (model X.prog X.w) X.A (.compLoop (.ListComp elt [⟨target, iter, [c], 0⟩] scope pos) 0 (.ref it) (.ref D) (compEnvC scope (A0p F X.env) G.objs.size X.env))
     (RR (.ref D) (compEnvC scope (A0p F X.env) G.objs.size X.env))
     { s2 with heap := h4, toks := s2.toks + ([] : List (Str × Value)).length } := by
   refine kct_loop (fun k s' => ∃ i ys H', k = m + 1 - i /\ Inv (X.compF scope N F G.objs.size { s2 with heap := G } (upd H2 D (.lst [])) fp (X.pn ++ pins)) [] (List.replicate N.length none ++ A2s js σ) H' s' /\ tn i s'.heap /\ (∀ b ∈ fp, H' b = none) /\ W i ys H') ?_ (m + 1)
     ⟨0, [], _, rfl, I4, T.keep _ _ _ st2 fun b hb o e => kp b o (by rw [<- hG]; exact Heap.get?_push_of_some _ e), fun b hb => (f3 b hb).1, w0⟩
   rintro k s5 ⟨i, ys, H5, rfl, I5, st5, n5, w5⟩
   obtain ⟨hi5, hD5, w5⟩ := turn i ys H5 w5
   rcases w5 with ⟨stop, q⟩ | ⟨lt5, go, step⟩
   . refine wpAny_mono (T.done (X.compF scope N F G.objs.size { s2 with heap := G } (upd H2 D (.lst [])) fp (X.pn ++ pins)) rfl rfl rfl hc0 i [] s5 _ H5 (fun _ _ => False) I5 (fpc I5 n5 (by simp)) st5 stop) (fun r s6 z => ?_) (fun _ _ z => z.elim)
     obtain ⟨rfl, I6⟩ := z
     obtain ⟨mm, hn6, _⟩ := I6.loc
     have B6 := I6.base
     have J6 : Inv X pins σ H5 s6 := by
       refine I3.call' (ch := fp) I6.os ⟨B6.keep, B6.slot, B6.free, B6.there, B6.tups, B6.frzs, B6.tbls⟩ I6.hok I6.bare (fun b hb => ⟨(f2 b hb).2.2.2.1, (f2 b hb).2.1, (f2 b hb).2.2.2.2.1, (f2 b hb).2.2.2.2.2⟩)
     have szG : X.s₀.heap.objs.size <= G.objs.size := I3.sz
     refine hRR D G.objs.size s6 H5 mm J6 hn6 ⟨I6.free, ?_, ?_, .inr szG, ?_, ?_⟩ q
     . exact Nat.ne_of_gt I3.lt
     . intro z
       obtain ⟨_, o, ho, _⟩ := I3.funs.mem z
       exact Nat.lt_irrefl _ (Heap.lt_size ho)
     . rintro x c z rfl
       obtain ⟨v', o, ho, _⟩ := I3.cell x _ z
       exact Nat.lt_irrefl _ (Heap.lt_size ho)
     . rintro p hp z
       have zz := (I3.pin p hp).1
       rw [z] at zz
       exact Nat.lt_irrefl _ (Heap.lt_size zz)
   . refine wpAny_mono (T.item (X.compF scope N F G.objs.size { s2 with heap := G } (upd H2 D (.lst [])) fp (X.pn ++ pins)) rfl rfl rfl hc0 i [] s5 _ H5 (fun _ _ => False) I5 (fpc I5 n5 (by simp)) st5 go) (fun r s6 z => ?_) (fun _ _ z => z.elim)
     obtain ⟨u, rfl, z⟩ := z
     refine wpAny_mono z (fun _ s7 z => ?_) (fun _ _ z => z.elim)
     obtain ⟨x, H7, I7, rx, yl, st7, fr7⟩ := z
     have ob7 := T.obj _ _ st7
     have I7' : Inv (X.compF scope N F G.objs.size { s2 with heap := G } (upd H2 D (.lst [])) fp (X.pn ++ pins)) (A3b fp s7.heap) (List.replicate N.length none ++ A2s js σ) H7 s7 := I7.pinned (fpc I7 fr7 (by simp)) ob7
     have back : ∀ {i' : Nat} {ys' : List V} {H' : Hp} {σ' : St} {s' : Shared}, i' = i + 1 -> Inv (X.compF scope N F G.objs.size { s2 with heap := G } (upd H2 D (.lst [])) fp (X.pn ++ pins)) (A3b fp s7.heap) σ' H' s' -> W i' ys' H' ->
         ∃ k', k' < m + 1 - i /\ ∃ i ys H', k' = m + 1 - i /\ Inv (X.compF scope N F G.objs.size { s2 with heap := G } (upd H2 D (.lst [])) fp (X.pn ++ pins)) [] (List.replicate N.length none ++ A2s js σ) H' s' /\ tn i s'.heap /\ (∀ b ∈ fp, H' b = none) /\ W i ys H' := by
       rintro i' ys' H' σ' s' rfl J' w'
       refine ⟨m + 1 - (i + 1), by omega, i + 1, ys', H', rfl, D9p S I3 f3 J', T.keep _ _ _ st7 fun b hb o z => (J'.pin (b, o) (List.mem_append_right _ (A4t hb z))).1, fun b hb => ?_, w'⟩
       obtain ⟨o, eo, _⟩ := ob7 b hb
       exact (J'.pin (b, o) (List.mem_append_right _ (A4t hb eo))).2.1
     refine wpAny_mono (gg (A3b fp s7.heap) s7 _ H7 x u _ I7' rx (step x H7 yl)) (fun _ s8 z => ?_) (fun _ _ z => z.elim)
     obtain ⟨σ8, H8, I8, q8⟩ := z
     refine wpAny_mono (cc (A3b fp s7.heap) s8 σ8 H8 _ I8 q8) (fun b s9 z => ?_) (fun _ _ z => z.elim)
     obtain ⟨H9, I9, q9⟩ := z
     cases b with
     | false =>
       simp only [Bool.false_eq_true, if_false] at q9 ⊢
       exact back rfl I9 q9
     | true =>
       simp only [if_true] at q9 ⊢
       refine wpAny_mono (ee (A3b fp s7.heap) s9 σ8 H9 _ I9 q9) (fun y s10 z => ?_) (fun _ _ z => z.elim)
       obtain ⟨yv, H10, I10, ry, hD10, hz10, w10⟩ := z
       refine wpAny_mono (B3d (X := X.compF scope N F G.objs.size { s2 with heap := G } (upd H2 D (.lst [])) fp (X.pn ++ pins)) (A3b fp s7.heap) s10 σ8 H10 (.ref D) [yv] (.ref D) [y] (fun _ H11 => W (i + 1) (ys ++ [yv]) H11) I10 rfl (.cons ry .nil) ⟨D, ys, yv, rfl, rfl, hD10, hz10, w10⟩) (fun _ s11 z => ?_) (fun _ _ z => z.elim)
       obtain ⟨_, H11, I11, _, w11⟩ := z
       exact back rfl I11 w11
 exact codeAny_compStart_list loop (T.self _ 0 _ _ _ (T.keep _ _ _ st2 fun b hb o e => kp b o (by rw [<- hG]; exact Heap.get?_push_of_some _ e)) loop)
theorem D5n {elt target iter : Expr} {c : Expr} {tc : TT} {pos : Pos} {wi : TI} {g : TG} {te : TE} (S : CompScopeF N F js scope X.N X.env) (hd : Y3 X) (hc0 : X.calm = true) (hi : PI X target iter wi) (hex : X.ex = [])
   (hg : ∀ C s₀ H₀ ex pn, Y3 (X.compF scope N F C s₀ H₀ ex pn) -> PG (X.compF scope N F C s₀ H₀ ex pn) target g)
   (hc : ∀ C s₀ H₀ ex pn, Y3 (X.compF scope N F C s₀ H₀ ex pn) -> PT (X.compF scope N F C s₀ H₀ ex pn) c tc)
   (he : ∀ C s₀ H₀ ex pn, Y3 (X.compF scope N F C s₀ H₀ ex pn) -> PE (X.compF scope N F C s₀ H₀ ex pn) elt te)
   (hs : ∀ x, foldedSetIterable iter X.env x = pure x := by intro _; rfl) : PE X (.ListComp elt [⟨target, iter, [c], 0⟩] scope pos) (A7q N.length js wi g tc te) := by
 intro pins s σ H Q I h
 rw [eval_ListComp]
 refine wpAny_comprehension_free (use := none) rfl hs S.clos S.kind S.loc (G0b S hd hc0 hi hex hg hc he I h (RR := fun acc ce r s' => compPost (model X.prog X.w) X.A X.xe none (EP X pins σ Q) acc ce.locals r s') ?_)
 intro D C s6 H5 mm I6 n6 f6 q
 exact ⟨mm, n6, fun h' sb => ⟨.ref D, H5, J0m I6 f6 sb, rfl, q⟩⟩
end
section
variable {X : Cx} {pins : List (Addr × Obj)} {σ : St} {H : Hp} {s : Shared} {h' : Heap}
end
section
variable {X : Cx} {es : List Expr} {k : Nat} {tp : Pos}
def Y7z (K : Frag) (te ts : TE) : TE := fun σ H Q => te σ H fun x H1 => ts σ H1 fun z H2 => z = .int (-1) /\ ∃ a xs, x = .ref a /\ SqL K H2 a xs /\ ∀ p, H2 p = none -> Q (.ref p) (upd H2 p (.lst xs.reverse))
theorem B0c {α β : Type} {f : α -> Option β} {g : α -> β} : ∀ l : List α, (∀ k ∈ l, f k = some (g k)) -> l.filterMap f = l.map g
 | [], _ => rfl
 | a :: l, h => by
   rw [List.filterMap_cons, h a (List.mem_cons_self ..)]
   show g a :: l.filterMap f = g a :: l.map g
   rw [B0c l fun k hk => h k (List.mem_cons_of_mem _ hk)]
theorem J6f (its : List Value) : slicePick its.toArray none none (some (-1)) = its.reverse.toArray := by
 unfold slicePick
 congr 1
 show (sliceRange ((its.toArray.size : Int) - 1) (-1) (-1)).filterMap (its.toArray[·]?) = its.reverse
 have e : sliceRange ((its.toArray.size : Int) - 1) (-1) (-1) = (List.range its.length).map fun k => its.length - 1 - k := by
   unfold sliceRange
   have c : (if (-1 : Int) > 0 then (if ((its.toArray.size : Int) - 1) < -1 then (-1 - ((its.toArray.size : Int) - 1) + -1 - 1) / -1 else 0) else (if ((its.toArray.size : Int) - 1) > -1 then (((its.toArray.size : Int) - 1) - -1 - -1 - 1) / (- -1) else 0)).toNat = its.length := by
     rw [if_neg (by decide), List.size_toArray]
     split
     . rw [show (- -1 : Int) = 1 by decide, Int.ediv_one]; omega
     . omega
   show (List.range (if (-1 : Int) > 0 then (if ((its.toArray.size : Int) - 1) < -1 then (-1 - ((its.toArray.size : Int) - 1) + -1 - 1) / -1 else 0) else (if ((its.toArray.size : Int) - 1) > -1 then (((its.toArray.size : Int) - 1) - -1 - -1 - 1) / (- -1) else 0)).toNat).map (fun k : Nat => (((its.toArray.size : Int) - 1) + (-1) * (k : Int)).toNat) = _
   rw [c]
   refine List.map_congr_left fun k hk => ?_
   have := List.mem_range.mp hk
   rw [List.size_toArray]
   omega
 rw [e]
 apply List.ext_getElem?
 intro i
 have fm : ((List.range its.length).map fun k => its.length - 1 - k).filterMap (its.toArray[·]?) = ((List.range its.length).map fun k => its.length - 1 - k).filterMap (its[·]?) := by simp
 rw [fm, List.filterMap_map]
 have g : (List.range its.length).filterMap ((its[·]?) ∘ fun k => its.length - 1 - k) = its.reverse := by
   have h1 : ∀ k ∈ List.range its.length, ((its[·]?) ∘ fun k => its.length - 1 - k) k = some (its.reverse[k]?.getD .none) := fun k hk => by
     have hk := List.mem_range.mp hk
     show its[its.length - 1 - k]? = _
     rw [List.getElem?_reverse hk, List.getElem?_eq_getElem (by omega)]
     rfl
   rw [B0c _ h1]
   apply List.ext_getElem?
   intro j
   rw [List.getElem?_map]
   by_cases hj : j < its.length
   . rw [List.getElem?_range hj]
     show some (its.reverse[j]?.getD .none) = its.reverse[j]?
     rw [List.getElem?_eq_getElem (by simpa using hj)]
     rfl
   . rw [List.getElem?_eq_none (by simpa using hj), List.getElem?_eq_none (by simpa using hj)]
     rfl
 rw [g]
theorem V8q {e st : Expr} {te ts : TE} {p2 pos : Pos} (he : PE X e te) (hst : PE X st ts) : PE X (.Subscript e (.Slice none none (some st) p2) pos) (Y7z X.K te ts) := by
 intro pins s σ H Q I h
 refine Subscript_ (thn (he pins s σ H _ I h) fun v s1 ⟨x, H1, I1, r1, q1⟩ => ?_)
 refine wpAny_Slice ?_
 rw [evalPart_none]
 refine wpAny_pure (wpAny_pure ?_)
 rw [evalPart_some]
 refine thn (hst pins s1 σ H1 _ I1 q1) fun vs s3 ⟨z, H3, I3, rz, q3⟩ => ?_
 obtain ⟨rfl, a, xs, rfl, hx, q⟩ := q3
 obtain ⟨t, rfl⟩ := rz
 cases r1
 have I4 : Inv X pins σ H3 { s3 with heap := s3.heap.push { cls := .type "slice", data := .fields #[.none, .none, .int (-1) t] } } := I3.kept (t' := s3.toks) fun b ob q => Heap.get?_push_of_some _ q
 obtain ⟨its, r, ht, hz⟩ := I4.list hx
 have hlen := r.length
 have hg : wpAny (model X.prog X.w) X.A (getItem (.ref a) (.ref s3.heap.objs.size)) (EP X pins σ Q) X.xe { s3 with heap := s3.heap.push { cls := .type "slice", data := .fields #[.none, .none, .int (-1) t] } } := by
   refine wpAny_getItem_list_slice ht.isList (Heap.IsSliceOf.new ..) .none .none (.int (-1) t) (by decide) ?_ (by rw [List.size_toArray] <;> omega)
   rw [J6f]
   refine ⟨.ref _, _, I4.laid (t' := s3.toks) (o := .lst xs.reverse) (fun b ob q => Heap.get?_push_of_some _ q) (Nat.le_refl _) ?_, rfl, q _ (I4.hok.fresh (Nat.le_refl _))⟩
   exact ⟨by rw [List.length_reverse]; exact hz, _, 0, r.reverse, Heap.get?_push_size _ rfl⟩
 show wpAny (model X.prog X.w) X.A (subscriptTail e (.Slice none none (some st) p2) (.ref a) (.ref s3.heap.objs.size)) (EP X pins σ Q) X.xe { s3 with heap := s3.heap.push { cls := .type "slice", data := .fields #[.none, .none, .int (-1) t] } }
 exact tail_any (ops := [.ref a, .ref s3.heap.objs.size]) ht.isList.typeIs slot_list_getitem.lookup hg (by with_unfolding_all rfl)
end
def V3h (D : Addr) (H H' : Hp) : Prop := ∀ b o, H b = some o -> b ≠ D -> H' b = some o
theorem J1e {J : It} {g : TG} {te : TE} {σ0 : St} {H1 : Hp} {QD : Addr -> Hp -> Prop} {n : Nat} (R : Nat -> V -> Hp -> Prop) (hn : n <= 1000)
   (mono : ∀ i y H' H'' D l, R i y H' -> H' D = some (.lst l) -> V3h D H' H'' -> R i y H'')
   (step : ∀ i H2 Qy, i < n -> Same H1 H2 -> (∀ y H6, Same H2 H6 -> R i y H6 -> Qy y H6) -> J.go i H2 /\ ∀ x H3, J.yld i H2 x H3 -> g x σ0 H3 fun σ4 H4 => te σ4 H4 Qy)
   (stop : ∀ H2, Same H1 H2 -> J.stop n H2)
   (k : ∀ D H' ys, Same H1 H' -> H1 D = none -> H' D = some (.lst ys) -> ys.length = n -> (∀ i y, ys[i]? = some y -> R i y H') -> QD D H') : ∀ D, H1 D = none ->
   ∃ (m : Nat) (W : Nat -> List V -> Hp -> Prop), W 0 [] (upd H1 D (.lst [])) /\ ∀ i ys H2, W i ys H2 -> i <= m /\ H2 D = some (.lst ys) /\ ((J.stop i H2 /\ QD D H2) \/ (i < m /\ J.go i H2 /\ ∀ x H3, J.yld i H2 x H3 ->
     g x σ0 H3 fun σ4 H4 => te σ4 H4 fun y H6 => H6 D = some (.lst ys) /\ ys.length < sizeLine /\ W (i + 1) (ys ++ [y]) (upd H6 D (.lst (ys ++ [y]))))) := by
 intro D hD
 refine ⟨n, fun i ys H2 => i <= n /\ ys.length = i /\ H2 D = some (.lst ys) /\ Same H1 H2 /\ ∀ j y, ys[j]? = some y -> R j y H2, ⟨Nat.zero_le _, rfl, A6, Same.upd hD, fun j y h => by simp at h⟩, ?_⟩
 rintro i ys H2 ⟨hi, hl, hd, sm, hR⟩
 refine ⟨hi, hd, ?_⟩
 by_cases hlt : i < n
 . refine .inr ⟨hlt, step i H2 _ hlt sm fun y H6 s6 r6 => ?_⟩
   have d6 : H6 D = some (.lst ys) := s6 _ _ hd
   have ex : V3h D H6 (upd H6 D (.lst (ys ++ [y]))) := fun b o e hb => by rw [B4 hb]; exact e
   refine ⟨d6, Nat.lt_of_le_of_lt (by omega : ys.length <= 1000) (J9 (Nat.le_refl _)), hlt, by simp [hl], A6, fun b o e => ?_, fun j z hj => ?_⟩
   . rw [B4 (C5 e hD)]
     exact s6 _ _ (sm _ _ e)
   . by_cases hj' : j < ys.length
     . rw [List.getElem?_append_left hj'] at hj
       exact mono j z H6 _ D ys (mono j z H2 H6 D ys (hR j z hj) hd fun b o e _ => s6 _ _ e) d6 ex
     . rw [List.getElem?_append_right (by omega)] at hj
       have e0 : j - ys.length = 0 := by
         apply Classical.byContradiction
         intro q
         rw [List.getElem?_eq_none (by simp; omega)] at hj
         cases hj
       rw [e0] at hj
       have ej : j = i := by omega
       subst ej
       cases hj
       exact mono _ _ H6 _ D ys r6 d6 ex
 . have e : i = n := by omega
   subst e
   exact .inl ⟨stop H2 sm, k D H2 ys sm hD hd hl hR⟩
theorem D5b {J : It} {g : TG} {tc : TT} {te : TE} {σ0 : St} {H1 : Hp} {QD : Addr -> Hp -> Prop} {n : Nat} (f : Nat -> Bool) (R : Nat -> V -> Hp -> Prop) (hn : n <= 1000)
   (mono : ∀ i y H' H'' D l, R i y H' -> H' D = some (.lst l) -> V3h D H' H'' -> R i y H'')
   (step : ∀ (i : Nat) (H2 : Hp) (Qy : VK) (Qn : Hp -> Prop), i < n -> Same H1 H2 -> (f i = true -> ∀ y H6, Same H2 H6 -> R i y H6 -> Qy y H6) -> (f i = false -> ∀ H6, Same H2 H6 -> Qn H6) -> J.go i H2 /\ ∀ x H3, J.yld i H2 x H3 -> g x σ0 H3 fun σ4 H4 => tc σ4 H4 fun b H5 => if b = true then te σ4 H5 Qy else Qn H5)
   (stop : ∀ H2, Same H1 H2 -> J.stop n H2)
   (k : ∀ D H' ys, Same H1 H' -> H1 D = none -> H' D = some (.lst ys) -> ys.length = ((List.range n).filter f).length -> (∀ (j i : Nat) (y : V), ((List.range n).filter f)[j]? = some i -> ys[j]? = some y -> R i y H') -> QD D H') : ∀ D, H1 D = none ->
   ∃ (m : Nat) (W : Nat -> List V -> Hp -> Prop), W 0 [] (upd H1 D (.lst [])) /\ ∀ i ys H2, W i ys H2 -> i <= m /\ H2 D = some (.lst ys) /\ ((J.stop i H2 /\ QD D H2) \/ (i < m /\ J.go i H2 /\ ∀ x H3, J.yld i H2 x H3 ->
     g x σ0 H3 fun σ4 H4 => tc σ4 H4 fun b H5 => if b = true then te σ4 H5 fun y H6 => H6 D = some (.lst ys) /\ ys.length < sizeLine /\ W (i + 1) (ys ++ [y]) (upd H6 D (.lst (ys ++ [y]))) else W (i + 1) ys H5)) := by
 intro D hD
 refine ⟨n, fun i ys H2 => i <= n /\ ys.length = ((List.range i).filter f).length /\ H2 D = some (.lst ys) /\ Same H1 H2 /\ ∀ (j i' : Nat) (y : V), ((List.range i).filter f)[j]? = some i' -> ys[j]? = some y -> R i' y H2, ⟨Nat.zero_le _, rfl, A6, Same.upd hD, fun j i' y h => by simp at h⟩, ?_⟩
 rintro i ys H2 ⟨hi, hl, hd, sm, hR⟩
 refine ⟨hi, hd, ?_⟩
 by_cases hlt : i < n
 . have fl : ((List.range i).filter f).length <= i := Nat.le_trans (List.length_filter_le _ _) (by simp)
   refine .inr ⟨hlt, step i H2 _ _ hlt sm (fun hf y H6 s6 r6 => ?_) (fun hf H6 s6 => ?_)⟩
   . have d6 : H6 D = some (.lst ys) := s6 _ _ hd
     have ex : V3h D H6 (upd H6 D (.lst (ys ++ [y]))) := fun b o e hb => by rw [B4 hb]; exact e
     have ef : (List.range (i + 1)).filter f = (List.range i).filter f ++ [i] := by rw [List.range_succ, List.filter_append, List.filter_cons, hf]; rfl
     refine ⟨d6, Nat.lt_of_le_of_lt (by omega : ys.length <= 1000) (J9 (Nat.le_refl _)), hlt, by rw [ef, List.length_append, List.length_append, hl]; rfl, A6, fun b o e => ?_, fun j i' z hi' hj => ?_⟩
     . rw [B4 (C5 e hD)]
       exact s6 _ _ (sm _ _ e)
     . rw [ef] at hi'
       by_cases hj' : j < ys.length
       . rw [List.getElem?_append_left hj'] at hj
         rw [List.getElem?_append_left (by omega)] at hi'
         exact mono i' z H6 _ D ys (mono i' z H2 H6 D ys (hR j i' z hi' hj) hd fun b o e _ => s6 _ _ e) d6 ex
       . rw [List.getElem?_append_right (by omega)] at hj
         rw [List.getElem?_append_right (by omega)] at hi'
         have e0 : j - ys.length = 0 := by
           apply Classical.byContradiction
           intro q
           rw [List.getElem?_eq_none (by simp; omega)] at hj
           cases hj
         rw [e0] at hj
         rw [<- hl, e0] at hi'
         cases hj
         cases hi'
         exact mono _ _ H6 _ D ys r6 d6 ex
   . have ef : (List.range (i + 1)).filter f = (List.range i).filter f := by rw [List.range_succ, List.filter_append, List.filter_cons, hf]; simp
     refine ⟨hlt, by rw [ef]; exact hl, s6 _ _ hd, sm.trans s6, fun j i' z hi' hj => ?_⟩
     rw [ef] at hi'
     exact mono i' z H2 H6 D ys (hR j i' z hi' hj) hd fun b o e _ => s6 _ _ e
 . have e : i = n := by omega
   subst e
   exact .inl ⟨stop H2 sm, k D H2 ys sm hD hd hl hR⟩
open AutoSeq1 (wpAny_loadPart')
section
variable {prog : Program} {w : World} {A : Around} {E : Value -> Shared -> Prop} {s : Shared}
end
section
variable {X : Cx} {es : List Expr} {k : Nat} {tp : Pos}
end
end L2
namespace L2
open PySem PySem.Spec PyProof.Rows PySem.W
section
variable {X : Cx}
theorem C7s : A2u X (.builtin "divmod") (fun xs H Q => ∃ i j : Int, xs = [.int i, .int j] /\ (0 < j /\ j.natAbs.log2 < 9000) /\ ∀ p, H p = none -> Q (.ref p) (upd H p (.tup [.int (i / j), .int (i % j)]))) := by
 intro pins s σ H xs us Q I r h
 obtain ⟨i, j, rfl, ⟨h1, h2⟩, q⟩ := h
 obtain ⟨u, w', rfl, ⟨t, rfl⟩, ⟨t', rfl⟩⟩ := J6b r
 refine divmod_int (by omega) ?_ (.inl (PyProof.noPylong_of_log2 h2))
 rw [Int.fdiv_eq_ediv_of_nonneg i (by omega), Int.fmod_eq_emod_of_nonneg i (by omega)]
 refine ⟨.ref s.heap.objs.size, upd H s.heap.objs.size (.tup [.int (i / j), .int (i % j)]), I.laid (fun b o e => Heap.get?_push_of_some _ e) (Nat.le_refl _) ⟨C7 (by show 2 <= 1000; decide), [.int (i / j) s.toks, .int (i % j) (s.toks + 1)], .cons ⟨_, rfl⟩ (.cons ⟨_, rfl⟩ .nil), ⟨_, Heap.get?_push_size s.heap rfl, rfl, 0, rfl⟩⟩, rfl, q _ (I.hok.fresh (Nat.le_refl _))⟩
end
end L2
namespace L2
open PySem PySem.W PyProof.Rows
section
variable {X : Cx} {o e : Expr} {ta : TE} {m : Str} {apos pos : Pos} {j k : Nat} {ps : List Str} {ι : Type} {cw f : ι -> Addr} {fd : ι -> FuncData} {sp : ι -> Sp} {EH : EK}
end
section
variable {X : Cx} {a b e o : Expr} {es : List Expr} {ta tb te to : TE} {t : TA} {pos : Pos} {st : Stmt} {rest : List Stmt} {ts u : TS}
end
end L2
namespace L2
open PySem PySem.Spec PyProof.Rows PySem.W
section
variable {X : Cx} {x f : Str} {p cpos pos : Pos} {e : Expr} {t : TA} {C fI : Addr} {fdI : FuncData} {ps : List Str} {j k : Nat}
end
theorem J6n {K : Frag} {H : Hp} {σ σf : L2.St} {a : Addr} {zs : List Str} {f : Str -> Bool} {tc : TT} {te : TE} {Q : VK} (hl : SqL K H a (zs.map V.str)) (hz : zs.length <= 100)
   (ht : ∀ (z : Str) (H' : Hp) (Qb : Bool -> Hp -> Prop), Same H H' -> Qb (f z) H' -> tc (some (.str z) :: σf) H' Qb) (he : ∀ (z : Str) (H' : Hp) (Qv : VK), Qv (.str z) H' -> te (some (.str z) :: σf) H' Qv)
   (k : ∀ D H', Same H H' -> H D = none -> H' D = some (.lst ((zs.filter f).map V.str)) -> Q (.ref D) H') {js : List Nat} (hj : A2s js σ = σf) : A7q 1 js (G9n K (tC (.ref a))) (C6c 0) tc te σ H Q := by
 refine ⟨a, rfl, ⟨_, hl⟩, fun D hD => ⟨zs.length, fun i ys H2 => i <= zs.length /\ ys = ((zs.take i).filter f).map V.str /\ H2 = upd H D (.lst ys), ⟨Nat.zero_le _, rfl, rfl⟩, ?_⟩⟩
 rintro i ys H2 ⟨hi, rfl, rfl⟩
 refine ⟨hi, A6, ?_⟩
 have sm : Same H (upd H D (.lst (((zs.take i).filter f).map V.str))) := Same.upd hD
 have lz : (((zs.take i).filter f).map V.str).length <= 100 := by
   rw [List.length_map]
   exact Nat.le_trans (List.length_filter_le _ _) (by rw [List.length_take]; omega)
 by_cases hlt : i < zs.length
 . refine .inr ⟨hlt, ⟨_, V.str zs[i], sm.seq hl, by simp [hlt]⟩, fun x H3 y => ?_⟩
   obtain ⟨rfl, y⟩ := y
   have ex : x = V.str zs[i] := by
     have := y _ (sm.seq hl)
     simp [hlt] at this
     exact this.symm
   subst ex
   rw [hj]
   show tc (some (.str zs[i]) :: σf) _ _
   refine ht _ _ _ sm ?_
   have et : (zs.take (i + 1)).filter f = (zs.take i).filter f ++ (if f zs[i] then [zs[i]] else []) := by
     rw [List.take_succ_eq_append_getElem hlt, List.filter_append]
     congr 1
     cases hb : f zs[i] <;> simp [hb]
   cases hb : f zs[i] with
   | false =>
     refine U4 ⟨hlt, ?_, rfl⟩
     rw [et, hb]; simp
   | true =>
     refine V5 (he _ _ _ ⟨A6, Nat.lt_of_le_of_lt lz (J9 (by decide)), hlt, ?_, ?_⟩)
     . rw [et, hb]; simp
     . rw [G9s]
 . have e : i = zs.length := by omega
   subst e
   refine .inl ⟨⟨_, sm.seq hl, by simp⟩, k D _ sm hD ?_⟩
   rw [List.take_length]
   exact A6
section
variable {X : Cx} {x y : Str} {e : Expr} {t : TE} {p q : Pos} {pos pos2 : Pos}
end
end L2
namespace L2
open PySem PySem.Spec PyProof.Rows
structure FnOkG (P : Program) (w : World) (K : PySem.W.Frag) (mg : Str -> Option Value) (base : Heap) (CX : CXT) (k : Nat) (f : Addr) (fd : FuncData) (ps : List Str) (sp : Sp) : Prop where
 len : ∀ vs H Q E, sp vs H Q E -> vs.length = ps.length
 run : ∀ (A : Around) (outer : List Env) (s : Shared) (H : Hp) (args : Args) (us : List Value) (vs : List V) (Q : VK) (E : XK), A.guards = some [] -> Room k A -> Env0 P w K mg base A outer s H -> BindsTo s fd args (ps.zip us) -> Vals vs us -> sp vs H Q E -> codeAny (model P w) A (Code.call (Value.ref f) args) (CR CX outer P w H s Q E) s
theorem J8q {CX : CXT} {P : Program} {w : World} {K : PySem.W.Frag} {mg : Str -> Option Value} {base : Heap} {k : Nat} {f : Addr} {name qual : Str} {params : Arguments} {body : List Stmt} {scope : Scope} {dV kV doc pm cdv ct oc : Value} {an od : Option Addr}
   {osl : Array (Option Value)} {N ps : List Str} {sp : Sp} (lk : K.lookup f = some ⟨oc, od, .func (PySem.W.fnOf name qual params body scope dV kV doc pm an cdv ct), osl⟩) (hcd : PySem.W.codeIn K cdv qual = true) (S : FnScope N ps scope)
   (len : ∀ vs H Q E, sp vs H Q E -> vs.length = ps.length)
   (hbody : ∀ (A : Around) (outer : List Env) (s : Shared) (H : Hp) (vs : List V) (Q : VK) (E : XK), A.guards = some [] -> Room k (A.deeper (envOfC qual scope s.heap.objs.size f cdv)) -> sp vs H Q E ->
     ∃ t, PSs (A2j CX P w K mg base N qual scope f cdv A outer s H E) body t /\ t { nx := fun _ H' => Q .non H', rt := Q } (A1t N vs) H) :
   FnOkG P w K mg base CX (k + 1) f (PySem.W.fnOf name qual params body scope dV kV doc pm an cdv ct) ps sp := by
 refine ⟨len, fun A outer s H args us vs Q E hgd hr e0 hb r hsp => ?_⟩
 have hl := len _ _ _ _ hsp
 have KX : K.In s.heap := e0.mod.kin.keeps fun b o e => (e0.bs b o e).1
 have lim : s.heap.NoLimit := e0.mod.nolimit.keeps fun b o e => (e0.bs b o e).1
 have hkind : ∀ y ∈ ps.zip us, scope.names.lookup y.1 = some .local \/ (scope.names.lookup y.1 = some .cell /\ ((cellsFrom (s.heap.objs.size + 1) scope.names []).lookup y.1).isSome = true) := fun ⟨n, v⟩ hy => by
   rcases S.par n (List.of_mem_zip hy).1 with q | q
   . exact .inl q
   . exact .inr ⟨q, PySem.W.cellsFrom_some _ _ _ (.inl q)⟩
 refine codeAny_call_function hr.depth (KX _ _ lk) rfl S.co S.gen rfl (PySem.W.codeRec_of KX hcd) (hb _ _ _ _ ?_)
 refine wpAny_newFunctionEnv_cells S.kind hkind fun env he s1 x => ?_
 subst he
 refine ⟨lim.keeps x.toInCall.keep, codeAny_func ?_⟩
 obtain ⟨t, ht, hq⟩ := hbody A outer s H vs Q E hgd (hr.deeper _) hsp
 have I : Inv (A2j CX P w K mg base N qual scope f cdv A outer s H E) [] (A1t N vs) H s1 := C6e S hr.hd e0 hl r x
 refine wpAny_mono (ht [] s1 (A1t N vs) H _ I hq) (fun fl s' hs => ?_) fun e s' hs => hs
 have fin : ∀ {σ' : St} {H' : Hp} {v : V} {u : Value}, Inv (A2j CX P w K mg base N qual scope f cdv A outer s H E) [] σ' H' s' -> RelV v u -> Q v H' -> CE outer P w H s Q u s' :=
   fun {σ' H' v u} J rv q => ⟨v, H', J.os, J.bare, J.base, J.hok, rv, q⟩
 cases fl with
 | ret u =>
   obtain ⟨v, σ', H', J, rv, q⟩ := hs
   exact fin J rv q
 | next =>
   obtain ⟨σ', H', J, q⟩ := hs
   exact fin (v := V.non) (u := Value.none) J rfl q
 | brk =>
   obtain ⟨_, _, _, q⟩ := hs
   exact False.elim q
 | cont =>
   obtain ⟨_, _, _, q⟩ := hs
   exact False.elim q
open PySem.W in
theorem Fun.okEG {P : Program} {w : World} {K : Frag} {mg : Str -> Option Value} {base : Heap} {x qual : Str} {st : Stmt} {f : Addr} {fd : FuncData} {N ps : List Str} {k : Nat} {sp : Sp} (F : Fun K x qual st f fd) (S : FnScope N ps (A3 st)) (len : ∀ vs H Q E, sp vs H Q E -> vs.length = ps.length)
   (hbody : ∀ (X : Cx) (cdv : Value) (A : Around) (outer : List Env) (s : Shared) (H : Hp) (vs : List V) (Q : VK) (E : XK), X = A2j (CX1 P w) P w K mg base N qual (A3 st) f cdv A outer s H E -> X.A.guards = some [] -> Room k X.A -> G3 X (fun C dd _ H' => E C dd H') -> sp vs H Q E ->
     ∃ t, PSs (A2j (CX1 P w) P w K mg base N qual (A3 st) f cdv A outer s H E) (B1 st) t /\ t { nx := fun _ H' => Q .non H', rt := Q } (A1t N vs) H) : FnOkG P w K mg base (CX1 P w) (k + 1) f fd ps sp := by
 obtain ⟨oc, od, kV, doc, pm, an, cdv, ct, osl, rfl, lk, hc⟩ := F.ex
 exact J8q lk hc S len fun A outer s H vs Q E hg hr h => hbody _ cdv A outer s H vs Q E rfl hg hr A4n h
end L2
namespace L2
open PySem PySem.Spec PyProof.Rows PySem.W
mutual
inductive RdR (H : Hp) : V -> PyData -> Prop where
 | non : RdR H .non .none
 | bl (b : Bool) : RdR H (.bl b) (.bool b)
 | int (i : Int) : RdR H (.int i) (.int i)
 | str (x : Str) : RdR H (.str x) (.str x)
 | tup {a : Addr} {xs : List V} {ds : List PyData} (h : H a = some (.tup xs)) (r : RdRs H xs ds) : RdR H (.ref a) (.tuple ds)
 | lst {a : Addr} {xs : List V} {ds : List PyData} (h : H a = some (.lst xs)) (n : a ≠ sysModules) (r : RdRs H xs ds) : RdR H (.ref a) (.list ds)
 | dct0 {a : Addr} (h : H a = some (.dK [])) : RdR H (.ref a) (.dict [])
 | dct1 {a : Addr} {z : Str} {b : Bool} (h : H a = some (.dK [(.inr z, .bl b)])) : RdR H (.ref a) (.dict [(.str z, .bool b)])
inductive RdRs (H : Hp) : List V -> List PyData -> Prop where
 | nil : RdRs H [] []
 | cons {x : V} {xs : List V} {d : PyData} {ds : List PyData} (h : RdR H x d) (r : RdRs H xs ds) : RdRs H (x :: xs) (d :: ds)
end
mutual
theorem RdR.same {H H' : Hp} (s : ∀ b o, H b = some o -> H' b = some o) : ∀ {x : V} {d : PyData}, RdR H x d -> RdR H' x d
 | _, _, .non => .non
 | _, _, .bl b => .bl b
 | _, _, .int i => .int i
 | _, _, .str x => .str x
 | _, _, .tup h r => .tup (s _ _ h) (RdRs.same s r)
 | _, _, .lst h n r => .lst (s _ _ h) n (RdRs.same s r)
 | _, _, .dct0 h => .dct0 (s _ _ h)
 | _, _, .dct1 h => .dct1 (s _ _ h)
theorem RdRs.same {H H' : Hp} (s : ∀ b o, H b = some o -> H' b = some o) : ∀ {x : List V} {d : List PyData}, RdRs H x d -> RdRs H' x d
 | _, _, .nil => .nil
 | _, _, .cons h r => .cons (RdR.same s h) (RdRs.same s r)
end
section
variable {X : Cx}
mutual
theorem RdR.reads {pins : List (Addr × Obj)} {σ : St} {H : Hp} {s : Shared} (I : Inv X pins σ H s) : ∀ {x : V} {d : PyData} {u : Value}, RdR H x d -> RelV x u -> ∃ as, Reads s.heap u d as /\ sysModules ∉ as
 | _, _, _, .non, r => by cases r; exact ⟨_, .none, by simp⟩
 | _, _, _, .bl b, r => by cases r; exact ⟨_, .bool b, by simp⟩
 | _, _, _, .int i, r => by obtain ⟨t, rfl⟩ := r; exact ⟨_, .int i t, by simp⟩
 | _, _, _, .str x, r => by obtain ⟨t, rfl⟩ := r; exact ⟨_, .str x t, by simp⟩
 | _, _, _, .tup h q, r => by
   cases r
   obtain ⟨_, its, rv, o, e, c, n, d⟩ := I.hok _ _ h
   obtain ⟨as, z, y⟩ := RdRs.reads I q rv
   exact ⟨_, .tuple e c d (by simpa using z), y⟩
 | _, _, _, .lst (a := a) h nn q, r => by
   cases r
   obtain ⟨_, its, n, rv, e⟩ := I.hok _ _ h
   obtain ⟨as, z, y⟩ := RdRs.reads I q rv
   refine ⟨_, .list e rfl rfl (by simpa using z), fun hm => ?_⟩
   rcases List.mem_cons.mp hm with hm | hm
   . exact nn hm.symm
   . exact y hm
 | _, _, _, .dct0 (a := a) h, r => by
   cases r
   obtain ⟨_, nS, vs, kv, o, es, ep, e, c, d, _, ps, _⟩ := I.hok _ _ h
   cases kv
   cases hp : es.toList with
   | cons _ _ => rw [hp] at ps; cases ps
   | nil =>
     refine ⟨_, .dict (kvs := []) e c.1 d (by rw [hp]; exact .nil) (by rw [hp]; exact .nil), fun hm => ?_⟩
     exact beq_eq_false_iff_ne.mp nS (by simpa using hm : sysModules = a).symm
 | _, _, _, .dct1 (a := a) (z := z) (b := b) h, r => by
   cases r
   obtain ⟨_, nS, vs, kv, o, es, ep, e, c, d, _, ps, _⟩ := I.hok _ _ h
   cases kv with
   | cons k1 k2 =>
     cases k2
     obtain ⟨k1a, k1b⟩ := k1
     cases ps' : es.toList with
     | nil => rw [ps'] at ps; cases ps
     | cons en rest =>
       rw [ps'] at ps
       cases ps with
       | cons p1 p2 p3 =>
         cases p3
         have hk : ∃ t, en.key = .str z t := by
           rw [<- k1a] at p1
           have p1 : Value.isStrOf z en.key = true := p1
           cases hk : en.key <;> rw [hk] at p1 <;> simp [Value.isStrOf] at p1
           subst p1
           exact ⟨_, rfl⟩
         obtain ⟨t, hk⟩ := hk
         have hv : en.val = .bool b := p2.trans k1b
         refine ⟨_, .dict (kvs := [(.str z, .bool b)]) e c.1 d (by rw [ps']; show ReadsAll s.heap [en.key] [.str z] _; rw [hk]; exact .cons (.str z t) .nil) (by rw [ps']; show ReadsAll s.heap [en.val] [.bool b] _; rw [hv]; exact .cons (.bool b) .nil), fun hm => ?_⟩
         exact beq_eq_false_iff_ne.mp nS (by simpa using hm : sysModules = a).symm
theorem RdRs.reads {pins : List (Addr × Obj)} {σ : St} {H : Hp} {s : Shared} (I : Inv X pins σ H s) : ∀ {xs : List V} {ds : List PyData} {us : List Value}, RdRs H xs ds -> Vals xs us -> ∃ as, ReadsAll s.heap us ds as /\ sysModules ∉ as
 | _, _, _, .nil, r => by cases r; exact ⟨_, .nil, by simp⟩
 | _, _, _, .cons h q, r => by
   cases r with
   | cons r1 r2 =>
     obtain ⟨as, z, n1⟩ := RdR.reads I h r1
     obtain ⟨bs, y, n2⟩ := RdRs.reads I q r2
     exact ⟨_, .cons z y, by simp [n1, n2]⟩
end
def A0w (d : PyData) : Prop := d.showable = true /\ d.depth <= 10 /\ d.shown.length <= sizeLine
end
section
variable {X : Cx} {j k : Nat} {f C : Addr} {fd : FuncData} {ps : List Str} {sp : Sp} {dvs : List V} {ds : List Value} {x m : Str} {p pos apos : Pos} {e o : Expr} {es : List Expr} {ta : TE} {t : TA} {st : Stmt}
end
structure LamB (mg : Str -> Option Value) (base : Heap) (c P : Addr) : Prop where
 code : CodeHd base c P
 bm : ∃ bm ob, mg "__builtins__" = some (.ref bm) /\ bm ≠ builtinsNs /\ bm ≠ mainGlobals /\ base.get? bm = some ob /\ ob.cls = .type "module" /\ ob.dict = some builtinsNs /\ ob.data = .plain
def V6z (oc : Obj) (qual : Str) : Prop := ∃ vs t, oc.data = .fields vs /\ vs[1]? = some (.str qual t)
def TabOk (P : Addr) (pos : Pos) (qual : Str) (H : Hp) : Prop := ∃ ps, H P = some (.tbl ps) /\ TriplesOk ps.toList /\ (codeAmong pos ps.toList = none \/ ∃ c' oc, codeAmong pos ps.toList = some (.ref c') /\ H c' = some (.frz oc (.own c')) /\ V6z oc qual)
def LamAt (H : Hp) (f : Addr) (qual : Str) (params : Arguments) (body : Expr) (scope : Scope) (clos : List (Str × Addr)) : Prop :=
 ∃ pm c' ctv oc, H f = some (.frz (kla_obj "<lambda>" qual params body scope clos pm c' ctv) (.own f)) /\ H c' = some (.frz oc (.own c')) /\ V6z oc qual
def SameT (P : Addr) (H H' : Hp) : Prop := ∀ b o, b ≠ P -> H b = some o -> H' b = some o
def Y8k (P : Addr) (pos : Pos) (qual : Str) (params : Arguments) (body : Expr) (scope : Scope) (clos : List (Str × Addr)) : TE := fun _ H Q => TabOk P pos qual H /\ ∀ f H', SameT P H H' -> H f = none -> LamAt H' f qual params body scope clos -> TabOk P pos qual H' -> (∀ pos' q', (pos'.line ≠ pos.line \/ pos'.col ≠ pos.col) -> TabOk P pos' q' H -> TabOk P pos' q' H') -> Q (.ref f) H'
theorem B2g {a b c : Value} {n m : Int} {t u : Tok} : ∀ l : List Value, TriplesOk l -> TriplesOk (l ++ [.int n t, .int m u, c]) := by
 intro l h
 fun_induction TriplesOk l with
 | case1 => exact True.intro
 | case2 _ _ _ _ _ rest ih => exact ih h
 | case3 => exact h.elim
theorem D8j {pos pos' : Pos} {c : Value} (hp : pos'.line ≠ pos.line \/ pos'.col ≠ pos.col) : ∀ l : List Value, TriplesOk l -> codeAmong pos' (l ++ [rawInt pos.line, rawInt pos.col, c]) = codeAmong pos' l := by
 intro l h
 fun_induction TriplesOk l with
 | case1 =>
   have : ¬ (((pos.line : Int) == (pos'.line : Int) && (pos.col : Int) == (pos'.col : Int)) = true) := by
     intro z
     simp only [Bool.and_eq_true, beq_iff_eq] at z
     omega
   show (if ((pos.line : Int) == (pos'.line : Int) && (pos.col : Int) == (pos'.col : Int)) = true then some c else codeAmong pos' []) = none
   rw [if_neg this]
   rfl
 | case2 a t b u x rest ih =>
   show (if _ then _ else codeAmong pos' (rest ++ _)) = (if _ then _ else codeAmong pos' rest)
   rw [ih h]
 | case3 => exact h.elim
theorem J1h {X : Cx} {c P : Addr} {params : Arguments} {body : Expr} {scope : Scope} {pos : Pos} {clos : List (Str × Addr)} (L : LamB X.mg X.base c P) (hc : X.env.code = .ref c) (hcl : closureFor scope X.env = pure clos) (hex : X.ex = [] := by rfl) (hdef : defaultsOf params X.env = ([], []) := by rfl) :
   PE X (.Lambda params body scope pos) (Y8k P pos (X.env.qual ++ "<lambda>") params body scope clos) := by
 intro pins s σ H Q I ⟨⟨ps, hP, ht, hcase⟩, k⟩
 obtain ⟨bm, ob, b1, b2, b3, b4, b5, b6, b7⟩ := L.bm
 have hg : s.heap.Ns mainGlobals X.mg := I.ok.mod.glob.keeps I.bk
 have hPo : s.heap.get? P = some (tabObj ps) := I.hok P _ hP
 have nP : ∀ b o, X.base.get? b = some o -> b ≠ P := fun b o e z => by
   have := (I.bs b o e).2
   rw [z, hP] at this
   cases this
 have hgP : mainGlobals ≠ P := by
   obtain ⟨o, _, _, e, _⟩ := I.ok.mod.glob
   exact nP _ _ e
 refine kla_eval hdef ?_
 rcases hcase with hnf | ⟨c', oc, hf, hc', ho⟩
 . refine kla_makeFunction hcl I.ok.glob hg hc (L.code.keeps I.bk) hPo ht hnf hgP ⟨bm, ob, b1, b2, b3, nP _ _ b4, I.bk _ _ b4, b5, b6, b7⟩ fun c' ctv h' tk hx hge hlt hrec htb => ?_
   obtain ⟨c2, oc, vs, t, e2, hoc, hd, hv⟩ := hrec
   cases e2
   generalize hfo : kla_obj "<lambda>" (X.env.qual ++ "<lambda>") params body scope clos ((X.mg "__name__").getD .none) c' ctv = fo
   have kx : ∀ b o, b ≠ P -> s.heap.get? b = some o -> (h'.push fo).get? b = some o := fun b o hb e => Heap.get?_push_of_some _ (hx b o hb e)
   have fP : ∀ b, H b = none -> b ≠ P := fun b n z => by rw [z, hP] at n; cases n
   have I1 : Inv X pins σ (upd H P (.tbl (ps ++ #[rawInt pos.line, rawInt pos.col, .ref c']))) { s with heap := h'.push fo, toks := tk } := by
     refine I.un ⟨fun b o e n _ _ => kx b o (fP b n) e, fun b o e n _ _ => ⟨o.slots, kx b o (fP b n) e⟩, fun b o e n _ => by rw [B4 (fP b n)]; exact n, fun b o e _ => ?_, fun b xs e => ?_, fun b o u e => ?_, fun b qs e => ?_⟩ fun b u e => ?_
     . by_cases hb : b = P
       . exact ⟨_, by rw [hb]; exact Heap.get?_push_of_some _ htb⟩
       . exact ⟨o, kx b o hb e⟩
     . rw [B4 (by rintro rfl; rw [hP] at e; cases e)]; exact e
     . rw [B4 (by rintro rfl; rw [hP] at e; cases e)]; exact e
     . by_cases hb : b = P
       . subst hb
         rw [hP] at e
         cases e
         exact ⟨_, A6⟩
       . exact ⟨#[], by rw [B4 hb, e]; simp⟩
     . by_cases hb : b = P
       . subst hb
         rw [A6] at e
         cases e
         exact Heap.get?_push_of_some _ htb
       . rw [B4 hb] at e
         refine (I.hok b u e).stay (fun d v hd q => kx d v ?_ q) (fun d q => ?_) fun d xs q => ?_
         . rcases hd with rfl | hd
           . exact hb
           . rintro rfl
             rw [hP] at hd
             cases hd
         . rw [B4 (by rintro rfl; rw [hP] at q; cases q)]; exact q
         . rw [B4 (by rintro rfl; rw [hP] at q; cases q)]; exact q
   have nc : s.heap.get? c' = none := Heap.get?_none_of_le hge
   have nf : s.heap.get? h'.objs.size = none := Heap.get?_none_of_le (Nat.le_trans hge (Nat.le_of_lt hlt))
   have uc : H c' = none := I.hok.new nc
   have uf : H h'.objs.size = none := I.hok.new nf
   have cP : c' ≠ P := fP c' uc
   have fP' : h'.objs.size ≠ P := fP _ uf
   have cf : c' ≠ h'.objs.size := Nat.ne_of_lt hlt
   have I2 := I1.track (a := c') (o := oc) (I.nw hex nc (by rw [B4 cP]; exact uc)) (Heap.get?_push_of_some _ hoc)
   have I3 := I2.track (a := h'.objs.size) (o := fo) (I.nw hex nf (by rw [B4 cf.symm, B4 fP']; exact uf)) (Heap.get?_push_size _ (by rw [<- hfo]; rfl))
   refine ⟨.ref h'.objs.size, _, I3, rfl, k _ _ (fun b o hb e => ?_) uf ⟨_, c', ctv, oc, by rw [A6, hfo], by rw [B4 cf, A6], vs, t, hd, hv⟩ ⟨ps ++ #[rawInt pos.line, rawInt pos.col, .ref c'], by rw [B4 fP'.symm, B4 cP.symm, A6], ?_, .inr ⟨c', oc, ?_, by rw [B4 cf, A6], vs, t, hd, hv⟩⟩ fun pos' q' hp ⟨ps2, z1, z2, z3⟩ => ⟨ps ++ #[rawInt pos.line, rawInt pos.col, .ref c'], by rw [B4 fP'.symm, B4 cP.symm, A6], ?_, ?_⟩⟩
   . rw [B4 (by rintro rfl; rw [uf] at e; cases e), B4 (by rintro rfl; rw [uc] at e; cases e), B4 hb]; exact e
   . rw [Array.toList_append]
     exact B2g (a := .none) (b := .none) _ ht
   . rw [Array.toList_append]
     exact codeAmong_snoc _ ht hnf
   . rw [Array.toList_append]
     exact B2g (a := .none) (b := .none) _ ht
   . rw [hP] at z1
     cases z1
     rw [Array.toList_append]
     have e : codeAmong pos' (ps.toList ++ [rawInt pos.line, rawInt pos.col, Value.ref c']) = codeAmong pos' ps.toList := D8j hp _ ht
     rcases z3 with z3 | ⟨c2, oc2, z4, z5, z6⟩
     . exact .inl (e.trans z3)
     . exact .inr ⟨c2, oc2, e.trans z4, by rw [B4 (by rintro rfl; rw [uf] at z5; cases z5), B4 (by rintro rfl; rw [uc] at z5; cases z5), B4 (by rintro rfl; rw [hP] at z5; cases z5)]; exact z5, z6⟩
 . refine kla_makeFunctionHit hcl I.ok.glob hg hc (L.code.keeps I.bk) hPo ht hf ⟨bm, ob, b1, b2, b3, nP _ _ b4, I.bk _ _ b4, b5, b6, b7⟩ fun ctv h' tk hk hsz => ?_
   generalize hfo : kla_obj "<lambda>" (X.env.qual ++ "<lambda>") params body scope clos ((X.mg "__name__").getD .none) c' ctv = fo
   have nf : s.heap.get? h'.objs.size = none := Heap.get?_none_of_le hsz
   have uf : H h'.objs.size = none := I.hok.new nf
   have I1 : Inv X pins σ H { s with heap := h'.push fo, toks := tk } := I.kept fun b o e => Heap.get?_push_of_some _ (hk b o e)
   have I3 := I1.track (a := h'.objs.size) (o := fo) (I.nw hex nf uf) (Heap.get?_push_size _ (by rw [<- hfo]; rfl))
   have ne : ∀ b o, H b = some o -> b ≠ h'.objs.size := fun b o e z => by rw [z, uf] at e; cases e
   show ∃ v H', Inv X pins σ H' { s with heap := h'.push (kla_obj "<lambda>" (X.env.qual ++ "<lambda>") params body scope clos ((X.mg "__name__").getD .none) c' ctv), toks := tk } /\ RelV v (.ref h'.objs.size) /\ Q v H'
   rw [hfo]
   refine ⟨.ref h'.objs.size, upd H h'.objs.size (.frz fo (.own h'.objs.size)), I3, rfl, k _ _ (fun b o hb e => by rw [B4 (ne b o e)]; exact e) uf ⟨_, c', ctv, oc, by rw [A6, hfo], by rw [B4 (ne _ _ hc')]; exact hc', ho⟩ ⟨ps, by rw [B4 (ne _ _ hP)]; exact hP, ht, .inr ⟨c', oc, hf, by rw [B4 (ne _ _ hc')]; exact hc', ho⟩⟩ fun pos' q' hp ⟨ps2, z1, z2, z3⟩ => ⟨ps2, by rw [B4 (ne _ _ z1)]; exact z1, z2, z3.imp id fun ⟨c2, oc2, z4, z5, z6⟩ => ⟨c2, oc2, z4, by rw [B4 (ne _ _ z5)]; exact z5, z6⟩⟩⟩
def U1 (cs : List Addr) (H : Hp) : Hp := fun b => if b ∈ cs then none else H b
def Y2 (cs : List Addr) (H H' : Hp) : Hp := fun b => if b ∈ cs then H b else H' b
section
variable {cs : List Addr} {H H' H2 : Hp} {b : Addr} {P : Program} {w : World} {h h' : Heap} {fs : List Addr}
theorem B2h (hb : b ∈ cs) : U1 cs H b = none := by unfold U1; rw [if_pos hb]
theorem V7 (hb : b ∉ cs) : U1 cs H b = H b := by unfold U1; rw [if_neg hb]
theorem A9m (n : H b = none) : U1 cs H b = none := by
 unfold U1
 split
 . rfl
 . exact n
theorem C8n (hb : b ∈ cs) : Y2 cs H H' b = H b := by unfold Y2; rw [if_pos hb]
theorem U3 (hb : b ∉ cs) : Y2 cs H H' b = H' b := by unfold Y2; rw [if_neg hb]
def AllFrz (cs : List Addr) (H : Hp) : Prop := ∀ c ∈ cs, ∃ o, H c = some (.frz o (.own c))
theorem AllFrz.out {u : HO} (A : AllFrz cs H) (e : H b = some u) (hu : ∀ o, u ≠ .frz o (.own b)) : b ∉ cs := fun hb => by
 obtain ⟨o, z⟩ := A b hb
 rw [e] at z
 exact hu o (Option.some.inj z)
theorem AllFrz.hide {u : HO} (A : AllFrz cs H) (e : H b = some u) (hu : ∀ o, u ≠ .frz o (.own b)) : U1 cs H b = some u := by rw [V7 (A.out e hu)]; exact e
theorem HOk.hide (x : HOk P w H h) (A : AllFrz cs H) : HOk P w (U1 cs H) h := fun a o e => by
 by_cases ha : a ∈ cs
 . rw [B2h ha] at e; cases e
 . rw [V7 ha] at e
   exact (x a o e).stay (fun _ _ _ q => q) (fun d q => A.hide q fun o z => nomatch z) fun d xs q => A.hide q fun o z => nomatch z
theorem V3w (u : Un fs [] (U1 cs H) H' h h') (A : AllFrz cs H) : Un fs [] H (Y2 cs H H') h h' where
 keep := fun b o e n hb hx => u.keep b o e (by unfold U1; split <;> first | rfl | exact n) hb hx
 slot := fun b o e n hb hx => u.slot b o e (by unfold U1; split <;> first | rfl | exact n) hb hx
 free := fun b o e n hx => by
   have hb : b ∉ cs := fun z => by
     obtain ⟨o, q⟩ := A b z
     rw [n] at q; cases q
   rw [U3 hb]
   exact u.free b o e (by rw [V7 hb]; exact n) hx
 there := u.there
 tups := fun b xs e => by
   have hb := A.out e fun o z => nomatch z
   rw [U3 hb]
   exact u.tups b xs (by rw [V7 hb]; exact e)
 frzs := fun b o v e => by
   by_cases hb : b ∈ cs
   . rw [C8n hb]; exact e
   . rw [U3 hb]; exact u.frzs b o v (by rw [V7 hb]; exact e)
 tbls := fun b ps e => by
   have hb := A.out e fun o z => nomatch z
   rw [U3 hb]
   exact u.tbls b ps (by rw [V7 hb]; exact e)
theorem J0f (u : Un fs [] (U1 cs H) H' h h') (A : AllFrz cs H) (x : HOk P w H h) : ∀ c ∈ cs, H' c = none := fun c hc => by
 obtain ⟨o, e⟩ := A c hc
 obtain ⟨e1, _⟩ := x c _ e
 exact u.free c o e1 (B2h hc) (by simp)
theorem J8c (u : Un fs [] (U1 cs H) H' h h') (A : AllFrz cs H) (x : HOk P w H h) (x' : HOk P w H' h') (hf : ∀ b ∈ fs, H b = none) : HOk P w (Y2 cs H H') h' := fun a o e => by
 have nn := J0f u A x
 by_cases ha : a ∈ cs
 . rw [C8n ha] at e
   obtain ⟨o', e'⟩ := A a ha
   rw [e] at e'
   cases e'
   obtain ⟨e1, _⟩ := x a _ e
   have e2 := u.keep a o' e1 (B2h ha) (fun z => by rw [hf a z] at e; cases e) (by simp)
   exact ⟨e2, o', e2⟩
 . rw [U3 ha] at e
   refine (x' a o e).stay (fun _ _ _ q => q) (fun d q => ?_) fun d xs q => ?_
   . rw [U3 fun z => by rw [nn d z] at q; cases q]; exact q
   . rw [U3 fun z => by rw [nn d z] at q; cases q]; exact q
theorem V4n (u : Un fs [] H2 H' h h') (A : AllFrz cs H2) (ho : ∀ b, b ∉ cs -> H2 b = H b) (hn : ∀ b ∈ cs, H b = none) (x : HOk P w H2 h) (x' : HOk P w H' h') : Un fs [] H (U1 cs H') h h' := by
 have kp : ∀ b o, b ∈ cs -> h.get? b = some o -> h'.get? b = some o := fun b o hb e => by
   obtain ⟨o1, z⟩ := A b hb
   obtain ⟨e1, _⟩ := x b _ z
   rw [e] at e1
   cases e1
   exact (x' b _ (u.frzs b _ _ z)).1
 have out : ∀ b v, H b = some v -> b ∉ cs := fun b v e z => by rw [hn b z] at e; cases e
 refine ⟨fun b o e n hb hx => ?_, fun b o e n hb hx => ?_, fun b o e n hx => ?_, u.there, fun b xs e => ?_, fun b o v e => ?_, fun b ps e => ?_⟩
 . by_cases hc : b ∈ cs
   . exact kp b o hc e
   . exact u.keep b o e (by rw [ho b hc]; exact n) hb hx
 . by_cases hc : b ∈ cs
   . exact ⟨o.slots, kp b o hc e⟩
   . exact u.slot b o e (by rw [ho b hc]; exact n) hb hx
 . by_cases hc : b ∈ cs
   . exact B2h hc
   . rw [V7 hc]; exact u.free b o e (by rw [ho b hc]; exact n) hx
 . rw [V7 (out b _ e)]; exact u.tups b xs (by rw [ho b (out b _ e)]; exact e)
 . rw [V7 (out b _ e)]; exact u.frzs b o v (by rw [ho b (out b _ e)]; exact e)
 . rw [V7 (out b _ e)]; exact u.tbls b ps (by rw [ho b (out b _ e)]; exact e)
end
def Knows (H : Hp) (c : Addr) (v : V) : Prop := ∃ o u, H c = some (.frz o (.own c)) /\ o.data = .cell (some u) /\ RelV v u
def B8y (CX : CXT) (P : Program) (w : World) (K : Frag) (mg : Str -> Option Value) (base : Heap) (N : List Str) (qual : Str) (scope : Scope) (f : Addr) (cd : Value) (cl : List (Str × Addr)) (A : Around) (outer : List Env) (s : Shared) (H : Hp) (E : XK) : Cx where
 prog := P
 w := w
 K := K
 mg := mg
 base := base
 A := A.deeper (envX qual scope s.heap.objs.size f cd cl)
 N := N
 s₀ := s
 H₀ := H
 env := envX qual scope s.heap.objs.size f cd cl
 outer := outer
 stack := envX qual scope s.heap.objs.size f cd cl :: outer
 ex := []
 calm := true
 fn := fun _ => false
 pn := []
 xe := fun e s' => wpAny (model P w) (A.deeper (envX qual scope s.heap.objs.size f cd cl)) (leaving (envX qual scope s.heap.objs.size f cd cl) e) (fun _ s'' => CX outer H s E e s'') (fun e' s'' => CX outer H s E e' s'') s'
structure LamS (F : List Str) (sc : Scope) : Prop where
 kind : sc.kind = .function
 co : sc.isCoroutine = false
 gen : sc.isGenerator = false
 nocell : ∀ y ∈ sc.names, y.2 ≠ .cell
 fr : ∀ y ∈ sc.names, y.2 = .free -> y.1 ∈ F
 at_ : ∀ x ∈ F, sc.names.lookup x = some .free
 nd : F.Nodup
structure DeedOk (P : Program) (w : World) (K : Frag) (mg : Str -> Option Value) (base : Heap) (k : Nat) (f : Addr) (J : Hp -> Prop) (sp : Hp -> VK -> XK -> Prop) : Prop where
 fn : ∀ H h, J H -> HOk P w H h -> FnAt f h
 run : ∀ (A : Around) (outer : List Env) (s : Shared) (H : Hp) (Q : VK) (E : XK), Room k A -> Env0 P w K mg base A outer s H -> J H -> sp H Q E -> codeAny (model P w) A (.call (.ref f) ⟨[], []⟩) (CR (CX1 P w) outer P w H s Q E) s
def V9r (f : Addr) (qual : Str) (params : Arguments) (body : Expr) (scope : Scope) (cl : List (Str × Addr)) (vs : List V) (H : Hp) : Prop :=
 LamAt H f qual params body scope cl /\ ∀ (i : Nat) (x : Str) (c : Addr), cl[i]? = some (x, c) -> ∃ v, vs[i]? = some v /\ Knows H c v
theorem B2x : ∀ {cl : List (Str × Addr)} {i : Nat} {x : Str} {c : Addr}, (cl.map (·.1)).Nodup -> cl[i]? = some (x, c) -> cl.lookup x = some c
 | [], i, x, c, _, h => by cases i <;> cases h
 | (y, d) :: r, 0, x, c, _, h => by cases h; simp [List.lookup]
 | (y, d) :: r, i + 1, x, c, nd, h => by
   have nd' : y ∉ r.map (·.1) /\ (r.map (·.1)).Nodup := List.nodup_cons.mp nd
   have hm : x ∈ r.map (·.1) := List.mem_map.mpr ⟨(x, c), List.mem_of_getElem? (by simpa using h), rfl⟩
   have ne : (x == y) = false := beq_eq_false_iff_ne.mpr fun z => nd'.1 (z ▸ hm)
   rw [List.lookup_cons, ne]
   exact B2x nd'.2 (by simpa using h)
theorem J8n : ∀ {cl : List (Str × Addr)} {x y : Str} {c : Addr}, (cl.map (·.2)).Nodup -> (x, c) ∈ cl -> (y, c) ∈ cl -> x = y
 | p :: r, x, y, c, nd, h1, h2 => by
   have nd' : p.2 ∉ r.map (·.2) /\ (r.map (·.2)).Nodup := List.nodup_cons.mp nd
   rcases List.mem_cons.mp h1 with e1 | h1 <;> rcases List.mem_cons.mp h2 with e2 | h2
   . rw [<- e1] at e2; cases e2; rfl
   . exact absurd (List.mem_map.mpr ⟨(y, c), h2, by rw [<- e1]⟩) nd'.1
   . exact absurd (List.mem_map.mpr ⟨(x, c), h1, by rw [<- e2]⟩) nd'.1
   . exact J8n nd'.2 h1 h2
theorem D5g {P : Program} {w : World} {K : Frag} {mg : Str -> Option Value} {base : Heap} {N : List Str} {qual : Str} {scope : Scope} {f : Addr} {cd : Value} {cl : List (Str × Addr)} {A : Around} {outer : List Env} {s : Shared} {H : Hp} {E : XK} :
   G3 (B8y (CX1 P w) P w K mg base N qual scope f cd cl A outer s H E) (fun C dd _ H' => E C dd H') := by
 intro pins σ H' s' a t C dd I F h
 refine C6h (X := B8y (CX1 P w) P w K mg base N qual scope f cd cl A outer s H E) ⟨rfl, rfl, rfl⟩ I F fun s2 I2 F2 => ?_
 obtain ⟨na, T, oT, ts, e, ne, nT, eT, dT, h3⟩ := F2
 exact ⟨a, t, C, dd, H', rfl, I2.os, I2.bare, I2.base, I2.hok, h, ⟨na.old, na.un⟩, T, oT, ts, e, ne, ⟨nT.old, nT.un⟩, eT, dT, h3⟩
theorem V2v {P : Program} {w : World} {K : Frag} {mg : Str -> Option Value} {base : Heap} {k : Nat} {f : Addr} {qual : Str} {params : Arguments} {body : Expr} {scope : Scope} {cl : List (Str × Addr)} {vs : List V} {sp : Hp -> VK -> XK -> Prop}
   (S : LamS (cl.map (·.1)) scope) (hF : cl.length = vs.length) (hnd : (cl.map (·.2)).Nodup)
   (hb0 : ∀ (pm : Value) (c' : Addr) (ctv : Value), bindArgs (kla_fn "<lambda>" qual params body scope cl pm (.ref c') ctv) ⟨[], []⟩ = pure [])
   (hbody : ∀ (X : Cx) (cdv : Value) (A : Around) (outer : List Env) (s : Shared) (H : Hp) (Q : VK) (E : XK), X = B8y (CX1 P w) P w K mg base (cl.map (·.1)) qual scope f cdv cl A outer s (U1 (cl.map (·.2)) H) (fun C d H' => (∀ c ∈ cl.map (·.2), H' c = none) -> E C d (Y2 (cl.map (·.2)) H H')) -> Room k X.A ->
     G3 X (fun C dd _ H' => (∀ c ∈ cl.map (·.2), H' c = none) -> E C dd (Y2 (cl.map (·.2)) H H')) -> sp H Q E -> AllFrz (cl.map (·.2)) H ->
     ∃ t, PE (B8y (CX1 P w) P w K mg base (cl.map (·.1)) qual scope f cdv cl A outer s (U1 (cl.map (·.2)) H) (fun C d H' => (∀ c ∈ cl.map (·.2), H' c = none) -> E C d (Y2 (cl.map (·.2)) H H'))) body t /\ t (vs.map some) (U1 (cl.map (·.2)) H) (fun v H' => (∀ c ∈ cl.map (·.2), H' c = none) -> Q v (Y2 (cl.map (·.2)) H H'))) :
   DeedOk P w K mg base (k + 1) f (V9r f qual params body scope cl vs) sp := by
 refine ⟨fun H h ⟨⟨pm, c', ctv, oc, e, _⟩, _⟩ hok => ?_, fun A outer s H Q E hr e0 ⟨⟨pm, c', ctv, oc, e, ec, vs', t', hd, hv⟩, hk⟩ hsp => ?_⟩
 . obtain ⟨e1, _⟩ := hok f _ e
   exact ⟨_, _, _, _, e1⟩
 obtain ⟨e1, _⟩ := e0.hok f _ e
 obtain ⟨e2, _⟩ := e0.hok c' _ ec
 have lim : s.heap.NoLimit := e0.mod.nolimit.keeps fun b o e => (e0.bs b o e).1
 have af : AllFrz (cl.map (·.2)) H := by
   intro c hc
   obtain ⟨⟨x, c2⟩, hm, rfl⟩ := List.mem_map.mp hc
   obtain ⟨i, hi⟩ := List.mem_iff_getElem?.mp hm
   obtain ⟨v, _, o, u, h3, _⟩ := hk i x c2 hi
   exact ⟨o, h3⟩
 refine kla_callFunE hr.depth e1 rfl S.co S.gen rfl ⟨c', oc, vs', t', rfl, e2, hd, hv⟩ ?_
 rw [hb0]
 refine wpAny_pure (wpAny_newFunctionEnv S.nocell (fun x hx => absurd hx (by simp)) (fun h1 hns hsb => ?_) S.kind)
 have hk1 : ∀ b o, s.heap.get? b = some o -> h1.get? b = some o := fun b o e => (hsb.2 b (Nat.ne_of_lt (Heap.lt_size e))).trans (Heap.get?_push_of_some _ e)
 refine ⟨lim.keeps hk1, ?_⟩
 obtain ⟨t, ht, hq⟩ := hbody _ (.ref c') A outer s H Q E rfl (hr.deeper _) D5g hsp af
 have hokH : HOk P w (U1 (cl.map (·.2)) H) s.heap := e0.hok.hide af
 have look : ∀ x c, cl.lookup x = some c -> (x, c) ∈ cl := fun x c z => PySem.mem_of_lookup z
 have cell : ∀ x c, cl.lookup x = some c -> ∃ v, s.heap.IsCell c v := fun x c z => by
   obtain ⟨i, hi⟩ := List.mem_iff_getElem?.mp (look x c z)
   obtain ⟨v, _, o, u, h3, h4, _⟩ := hk i x c hi
   exact ⟨_, o, (e0.hok c _ h3).1, h4⟩
 have incs : ∀ x c, cl.lookup x = some c -> c ∈ cl.map (·.2) := fun x c z => List.mem_map.mpr ⟨(x, c), look x c z, rfl⟩
 generalize hX : B8y (CX1 P w) P w K mg base (cl.map (·.1)) qual scope f (.ref c') cl A outer s (U1 (cl.map (·.2)) H) (fun C d H' => (∀ c ∈ cl.map (·.2), H' c = none) -> E C d (Y2 (cl.map (·.2)) H H')) = X at ht
 have I : Inv X [] (vs.map some) (U1 (cl.map (·.2)) H) { s with heap := h1, toks := s.toks + 0 } := by
   subst hX
   refine ⟨⟨e0.mod, S.kind, rfl, rfl, Nat.le_refl _, fun x y c z1 z2 => J8n hnd (look x c z1) (look y c z2), fun x z => ?_, (fun _ _ z => by cases z), fun _ => hr.hd, Around.frames_deeper e0.frames, .inr ⟨rfl, rfl⟩, (fun b z => absurd (show b ∈ ([] : List Addr) from z) (by simp)), fun b o z => ⟨(e0.bs b o z).1, ?_⟩, e0.bsz, (fun b o _ z => absurd (show b ∈ ([] : List Addr) from z) (by simp)), (fun b z => absurd (show b ∈ ([] : List Addr) from z) (by simp)), e0.funs, fun b hb => ?_⟩,
     rfl, e0.bare, Un.kept hk1, ⟨_, hns, fun i x v z1 z2 z3 => ?_⟩, fun x c z => ?_, hokH.fresh (Nat.le_refl _), fun x c z => B2h (incs x c z), (fun p hp => absurd (show p ∈ ([] : List (Addr × Obj)) from hp) (by simp)), hokH.kept hk1, ?_⟩
   . have z : scope.names.lookup x = some .cell \/ scope.names.lookup x = some .free := z
     rcases z with z | z
     . exact absurd rfl (S.nocell _ (PySem.mem_of_lookup z))
     . have hx := S.fr _ (PySem.mem_of_lookup z) rfl
       obtain ⟨⟨y, c⟩, hm, rfl⟩ := List.mem_map.mp hx
       obtain ⟨i, hi⟩ := List.mem_iff_getElem?.mp hm
       exact ⟨c, B2x S.nd hi⟩
   . exact A9m (e0.bs b o z).2
   . exact A9m (e0.frf b hb)
   . have z1 : (cl.map (·.1))[i]? = some x := z1
     rw [List.getElem?_map] at z1 z2
     cases q : cl[i]? with
     | none => rw [q] at z1; cases z1
     | some p =>
       rw [q] at z1
       cases z1
       obtain ⟨v2, h2, o, u, h3, h4, h5⟩ := hk i p.1 p.2 q
       rw [h2] at z2
       cases z2
       refine ⟨u, h5, .inr ⟨.inr (S.at_ _ (List.mem_map.mpr ⟨p, List.mem_of_getElem? q, rfl⟩)), p.2, B2x S.nd q, o, hk1 _ _ (e0.hok _ _ h3).1, h4⟩⟩
   . obtain ⟨v, o, h3, h4⟩ := cell x c z
     exact ⟨v, o, hk1 _ _ h3, h4⟩
   . show (vs.map some).length = (cl.map (·.1)).length
     rw [List.length_map, List.length_map, hF]
 have res : ∀ {H' : Hp} {s' : Shared}, Un (frs outer) [] (U1 (cl.map (·.2)) H) H' s.heap s'.heap -> HOk P w H' s'.heap -> Un (frs outer) [] H (Y2 (cl.map (·.2)) H H') s.heap s'.heap /\ HOk P w (Y2 (cl.map (·.2)) H H') s'.heap /\ ∀ c ∈ cl.map (·.2), H' c = none :=
   fun u x => ⟨V3w u af, J8c u af e0.hok x e0.frf, J0f u af e0.hok⟩
 refine kla_codeExpr ?_
 have hA : X.A = A.deeper (envX qual scope s.heap.objs.size f (.ref c') cl) := by rw [<- hX]; rfl
 have := ht [] _ _ _ _ I hq
 subst hX
 refine wpAny_mono this (fun u s' ⟨v, H', I', r, q⟩ => ?_) fun e s' z => wpAny_mono z (fun _ s2 z2 => ?_) fun e' s2 z2 => ?_
 . obtain ⟨r1, r2, r3⟩ := res I'.base I'.hok
   exact ⟨v, _, I'.os, I'.bare, r1, r2, r, q r3⟩
 . obtain ⟨a, t, C, dd, H', rfl, os, bare, un, hok, hE, ⟨a1, a2⟩, T, oT, ts, z, ne, ⟨t1, t2⟩, rest⟩ := z2
   obtain ⟨r1, r2, r3⟩ := res un hok
   have nc : ∀ b, s.heap.get? b = none -> b ∉ cl.map (·.2) := fun b z hb => by
     obtain ⟨o, q⟩ := af b hb
     rw [(e0.hok b _ q).1] at z
     cases z
   exact ⟨a, t, C, dd, _, rfl, os, bare, r1, r2, hE r3, ⟨a1, by rw [U3 (nc a a1)]; exact a2⟩, T, oT, ts, z, ne, ⟨t1, by rw [U3 (nc T t1)]; exact t2⟩, rest⟩
 . obtain ⟨a, t, C, dd, H', rfl, os, bare, un, hok, hE, ⟨a1, a2⟩, T, oT, ts, z, ne, ⟨t1, t2⟩, rest⟩ := z2
   obtain ⟨r1, r2, r3⟩ := res un hok
   have nc : ∀ b, s.heap.get? b = none -> b ∉ cl.map (·.2) := fun b z hb => by
     obtain ⟨o, q⟩ := af b hb
     rw [(e0.hok b _ q).1] at z
     cases z
   exact ⟨a, t, C, dd, _, rfl, os, bare, r1, r2, hE r3, ⟨a1, by rw [U3 (nc a a1)]; exact a2⟩, T, oT, ts, z, ne, ⟨t1, by rw [U3 (nc T t1)]; exact t2⟩, rest⟩
section
variable {X : Cx} {j k : Nat} {f : Addr} {fd : FuncData} {ps : List Str} {sp : Sp} {ds : List Value} {EH : EK} {x : Str} {p pos : Pos} {e : Expr} {es : List Expr} {t : TA} {st : Stmt}
def V7d (P : Program) (w : World) (K : Frag) (mg : Str -> Option Value) (base : Heap) (k i : Nat) (EH : EK) : TE := fun σ H Q => ∃ f J spd, σ[i]? = some (some (.ref f)) /\ DeedOk P w K mg base k f J spd /\ J H /\ spd H Q (fun C d H' => EH C d σ H')
theorem V3a {i : Nat} (hN : X.N[i]? = some x) (hv : Vis X.env.scope x) (hr : Room k X.A) (hx : G3 X EH) (hex : X.ex = [] := by rfl) (hd : (x == ("__debug__" : Str)) = false := by decide) (hcd : (x == ("__classdict__" : Str)) = false := by decide) :
   PE X (.Call (.Name x p) [] [] pos) (V7d X.prog X.w X.K X.mg X.base k i EH) := by
 intro pins s σ H Q I ⟨f, J, spd, e, D, hJ, h⟩
 refine wpAny_Call_Name_kw (thn (J6j (pos := p) hN hv hd hcd pins s σ H (fun v H' => v = .ref f /\ H' = H) I ⟨.ref f, e, rfl, rfl⟩) fun u s1 ⟨v, H1, I1, r, ev, eH⟩ => ?_)
 subst ev eH
 obtain rfl : u = Value.ref f := r
 refine callWith_F0 (D.fn _ _ hJ I1.hok) (wpAny_call (codeAny_mono (D.run X.A X.stack s1 H1 Q _ hr I1.env0 hJ h) fun r s' hq => ?_))
 cases r with
 | error e => exact V2r hx hex I1 hq
 | ok fl =>
   cases fl with
   | ret u => exact I1.after hq
   | next => exact False.elim hq
   | brk => exact False.elim hq
   | cont => exact False.elim hq
def V8r (sp : Sp) (cl : List (Str × Addr)) (js : List Nat) (EH : EK) (t : TA) : TE := fun σ H Q => t σ H fun vs H1 => (∀ c ∈ cl.map (·.2), H1 c = none) -> ∀ H2, (∀ b, b ∉ cl.map (·.2) -> H2 b = H1 b) -> AllFrz (cl.map (·.2)) H2 ->
 (∀ (i : Nat) (x : Str) (c : Addr) (j : Nat) (v : V), cl[i]? = some (x, c) -> js[i]? = some j -> σ[j]? = some (some v) -> Knows H2 c v) ->
 sp vs H2 (fun v H' => (∀ c ∈ cl.map (·.2), H' c = H2 c) -> Q v (U1 (cl.map (·.2)) H')) (fun C d H' => (∀ c ∈ cl.map (·.2), H' c = H2 c) -> EH C d σ (U1 (cl.map (·.2)) H'))
structure CellsZ (cl : List (Str × Addr)) (js : List Nat) (XN : List Str) (env : Env) : Prop where
 at_ : ∀ (i : Nat) (x : Str) (c : Addr), cl[i]? = some (x, c) -> env.cells.lookup x = some c /\ env.kindOf x = some .cell /\ ∀ j, js[i]? = some j -> XN[j]? = some x
theorem V7v {cl : List (Str × Addr)} {js : List Nat} (D : Def X.K X.mg x ps st f fd) (F : FnOkG X.prog X.w X.K X.mg X.base (CX1 X.prog X.w) j f fd ps sp) (hgd : X.A.guards = some []) (hr : Room k X.A) (hx : G3 X EH) (Z : CellsZ cl js X.N X.env) (ha : PA X (e :: es) t) (hj : j <= k := by decide) (hfn : ∀ y, X.fn y = true := by intro _; rfl) (hg : Gl X x := by rfl) (hex : X.ex = [] := by rfl)
   (hdb : (x == ("__debug__" : Str)) = false := by decide) (he : starEach (e :: es) X.env = (false, eval e X.env) :: starEach es X.env := by rfl) (hpl : (backTo pos (starEach es X.env)).any (·.1) = false := by rfl) : PE X (.Call (.Name x p) (e :: es) [] pos) (V8r sp cl js EH t) := by
 intro pins s0 σ H0 Q I0 h0
 refine wpAny_Call_Name_kw (A0k I0 hg D.g ?_ hdb)
 refine PySem.W.callWith_K (h₀ := X.base) I0.ok.mod.kin D.F.kp (thn (ha pos pins s0 σ H0 _ I0 h0) fun us s ⟨vs, H, I, r, q⟩ => ⟨I.kIn, ?_⟩) he hpl
 have inn : ∀ c ∈ cl.map (·.2), ∃ x, X.env.cells.lookup x = some c := fun c hc => by
   obtain ⟨⟨y, c2⟩, hm, rfl⟩ := List.mem_map.mp hc
   obtain ⟨i, hi⟩ := List.mem_iff_getElem?.mp hm
   exact ⟨y, (Z.at_ i y c2 hi).1⟩
 have hn : ∀ c ∈ cl.map (·.2), H c = none := fun c hc => by
   obtain ⟨y, hy⟩ := inn c hc
   exact I.freeC y c hy
 have hc : ∀ c ∈ cl.map (·.2), ∃ o v, s.heap.get? c = some o /\ o.data = .cell v := fun c hc => by
   obtain ⟨y, hy⟩ := inn c hc
   obtain ⟨v, o, h1, h2⟩ := I.cell y c hy
   exact ⟨o, v, h1, h2⟩
 let H2 : Hp := fun b => if b ∈ cl.map (·.2) then (s.heap.get? b).map fun o => .frz o (.own b) else H b
 have h2i : ∀ c o, c ∈ cl.map (·.2) -> s.heap.get? c = some o -> H2 c = some (.frz o (.own c)) := fun c o hc e => by
   show (if c ∈ cl.map (·.2) then _ else _) = _
   rw [if_pos hc, e]
   rfl
 have h2o : ∀ b, b ∉ cl.map (·.2) -> H2 b = H b := fun b hb => if_neg hb
 have A2 : AllFrz (cl.map (·.2)) H2 := fun c hcc => by
   obtain ⟨o, v, h1, _⟩ := hc c hcc
   exact ⟨o, h2i c o hcc h1⟩
 have out : ∀ b u, H b = some u -> b ∉ cl.map (·.2) := fun b u e z => by rw [hn b z] at e; cases e
 have hok2 : HOk X.prog X.w H2 s.heap := fun b u e => by
   by_cases hb : b ∈ cl.map (·.2)
   . obtain ⟨o, v, h1, _⟩ := hc b hb
     rw [h2i b o hb h1] at e
     cases e
     exact ⟨h1, o, h1⟩
   . rw [h2o b hb] at e
     exact (I.hok b u e).stay (fun _ _ _ q => q) (fun d q => by rw [h2o d (out d _ q)]; exact q) fun d xs q => by rw [h2o d (out d _ q)]; exact q
 have ncell : ∀ b o, b ∈ cl.map (·.2) -> s.heap.get? b = some o -> ∃ v, o.data = .cell v := fun b o hb e => by
   obtain ⟨o', v, h1, h2⟩ := hc b hb
   rw [e] at h1
   cases h1
   exact ⟨v, h2⟩
 have e2 : Env0 X.prog X.w X.K X.mg X.base X.A X.stack s H2 := by
   have e0 := I.env0
   refine ⟨e0.frames, e0.mod, fun b o z => ⟨(e0.bs b o z).1, ?_⟩, e0.bsz, e0.funs, fun b hb => ?_, hok2, e0.bare⟩
   . rw [h2o b fun z2 => ?_]
     . exact (e0.bs b o z).2
     . obtain ⟨y, hy⟩ := inn b z2
       have := Nat.le_trans I.ok.bsz (I.ok.cab y b (hfn y) hy)
       exact absurd (Nat.lt_of_lt_of_le (Heap.lt_size z) this) (Nat.lt_irrefl _)
   . rw [h2o b fun z2 => ?_]
     . exact e0.frf b hb
     . obtain ⟨y, hy⟩ := inn b z2
       rcases List.mem_cons.mp (I.stkSub b hb) with z3 | z3
       . exact I.cne y b hy z3
       . obtain ⟨_, o, ho, _⟩ := I.ok.funs.mem z3
         exact absurd (Nat.lt_of_lt_of_le (Heap.lt_size ho) (I.ok.cab y b (hfn y) hy)) (Nat.lt_irrefl _)
 have q2 := q hn H2 h2o A2 fun i y c j v h1 h2 h3 => by
   obtain ⟨z1, z2, z3⟩ := Z.at_ i y c h1
   obtain ⟨m, _, hl⟩ := I.loc
   obtain ⟨u, r, l⟩ := hl j y v (z3 j h2) h3 (.inr (.inl z2))
   rcases l with ⟨k, _⟩ | ⟨_, c', h4, o, h5, h6⟩
   . rw [z2] at k; cases k
   . rw [z1] at h4
     cases h4
     exact ⟨o, u, h2i c o (List.mem_map.mpr ⟨(y, c), List.mem_of_getElem? h1, rfl⟩) h5, h6, r⟩
 have hl : us.length = ps.length := by rw [<- r.length]; exact F.len _ _ _ _ q2
 refine wpAny_call (codeAny_mono (F.run X.A X.stack s H2 ⟨us, []⟩ us vs _ _ hgd (hr.mono hj) e2 (by have := D.b s us I.kIn (by simpa using hl); simpa using this) r q2) fun r s' hq => ?_)
 have fin : ∀ {H' : Hp}, Un (frs X.stack) [] H2 H' s.heap s'.heap -> HOk X.prog X.w H' s'.heap -> Un (frs X.stack) [] H (U1 (cl.map (·.2)) H') s.heap s'.heap /\ HOk X.prog X.w (U1 (cl.map (·.2)) H') s'.heap /\ ∀ c ∈ cl.map (·.2), H' c = H2 c := fun {H'} un hok => by
   have same : ∀ c ∈ cl.map (·.2), H' c = H2 c := fun c hcc => by
     obtain ⟨o, z⟩ := A2 c hcc
     rw [z]
     exact un.frzs c o _ z
   exact ⟨V4n un A2 h2o hn hok2 hok, hok.hide fun c hcc => by rw [same c hcc]; exact A2 c hcc, same⟩
 cases r with
 | error e =>
   obtain ⟨a, t, C, dd, H', rfl, os, bare, un, hok, hE, ⟨a1, a2⟩, T, oT, ts, z, ne, ⟨t1, t2⟩, rest⟩ := hq
   obtain ⟨r1, r2, r3⟩ := fin un hok
   exact V2r hx hex I ⟨a, t, C, dd, _, rfl, os, bare, r1, r2, hE r3, ⟨a1, A9m a2⟩, T, oT, ts, z, ne, ⟨t1, A9m t2⟩, rest⟩
 | ok fl =>
   cases fl with
   | ret u =>
     obtain ⟨v, H', os, bare, un, hok, rv, q3⟩ := hq
     obtain ⟨r1, r2, r3⟩ := fin un hok
     exact I.after ⟨v, _, os, bare, r1, r2, rv, q3 r3⟩
   | next => exact False.elim hq
   | brk => exact False.elim hq
   | cont => exact False.elim hq
end
theorem J2v {c P0 : Addr} {P : Program} {w : World} {K : PySem.W.Frag} {mg mb : Str -> Option Value} {CX : CXT} {k : Nat} {fa a : Addr} {fd : FuncData} {x : Str} {sp : Sp} {s₁ : Shared} {vs : List Value} {ns : List Int}
   (hC : CodeHd s₁.heap c P0) (hT : s₁.heap.get? P0 = some (tabObj #[])) (hKP : K.lookup P0 = none) (hbm : ∃ bm ob, mg "__builtins__" = some (.ref bm) /\ bm ≠ builtinsNs /\ s₁.heap.get? bm = some ob /\ ob.cls = .type "module" /\ ob.dict = some builtinsNs /\ ob.data = .plain)
   (KX : K.In s₁.heap) (hns : s₁.heap.Ns mainGlobals mg) (hb : s₁.heap.Ns builtinsNs mb) (hbb : ∀ x : Str, x ≠ "__name__" -> mb x = bootBuiltins x) (hlim : s₁.heap.NoLimit) (hg : s₁.gens = #[])
   (ha : s₁.heap.get? a = some { cls := .type "list", data := .seq vs.toArray }) (hi : IntsAre vs ns) (hl : ns.length <= sizeLine) (hr : Room k callerA)
   (F : ∀ base : Heap, K.In base -> base.Ns mainGlobals mg -> LamB mg base c P0 -> FnOkG P w K mg base CX k fa fd [x] sp) (hbind : ∀ (s : Shared) (u : Value), BindsTo s fd ⟨[u], []⟩ [(x, u)])
   (hsp : ∀ H : Hp, H P0 = some (.tbl #[]) -> SqL K H a (ns.map V.int) -> sp [.ref a] H (fun v _ => v = .bl true) fun _ _ _ => False)
   (hCX : ∀ H e s', CX [] H s₁ (fun _ _ _ => False) e s' -> False) :
   codeAny (model P w) callerA (.call (.ref fa) ⟨[.ref a], []⟩) (fun r s' => r = .ok (.ret (.bool true)) /\ OldK s₁.heap s'.heap /\ s'.os = s₁.os /\ AllBare s'.gens) s₁ := by
 have rv := C6j hi
 have lenV := hi.length
 have core : ∀ H : Hp, H P0 = some (.tbl #[]) -> (∀ b, H b = none \/ b = P0 \/ ∃ o xs, H b = some (.frz o (.lst xs))) -> SqL K H a (ns.map V.int) -> HOk P w H s₁.heap -> (∀ b, H b ≠ none -> b = P0 \/ b = a) -> (H a ≠ none -> K.lookup a = none) ->
     codeAny (model P w) callerA (.call (.ref fa) ⟨[.ref a], []⟩) (fun r s' => r = .ok (.ret (.bool true)) /\ OldK s₁.heap s'.heap /\ s'.os = s₁.os /\ AllBare s'.gens) s₁ := by
   intro H hPt hO hS hok hA hK
   have base_of : ∀ {b : Addr} {o : Obj}, s₁.heap.get? b = some o -> H b = none -> (C1w s₁.heap H).get? b = some o := fun e n => J7n e n
   have noA : ∀ {b : Addr} {o : Obj} {es : Array DictEntry} {ep : Nat}, s₁.heap.get? b = some o -> o.data = .dict es ep -> H b = none := fun {b o es ep} e d => by
     cases q : H b with
     | none => rfl
     | some u =>
       rcases hA b (by rw [q]; simp) with e' | e'
       . subst e'
         rw [hT] at e; cases e
         have d' : Data.fields #[] = Data.dict es ep := d
         cases d'
       . subst e'
         rw [ha] at e; cases e
         have d' : Data.seq vs.toArray _ = Data.dict es ep := d
         cases d'
   have nsK : ∀ {b : Addr} {m : Str -> Option Value}, s₁.heap.Ns b m -> (C1w s₁.heap H).Ns b m := fun {b m} ⟨o, es, ep, e, d, r⟩ => ⟨o, es, ep, base_of e (noA e d), d, r⟩
   have hKb : K.In (C1w s₁.heap H) := fun b o e => base_of (KX b o e) (by
     cases q : H b with
     | none => rfl
     | some u =>
       rcases hA b (by rw [q]; simp) with e' | e'
       . subst e'
         rw [hKP] at e; cases e
       . subst e'
         rw [hK (by rw [q]; simp)] at e; cases e)
   have noC : ∀ {b : Addr} {o : Obj}, s₁.heap.get? b = some o -> o ≠ tabObj #[] -> (∀ n, o ≠ { cls := .type "list", data := .seq vs.toArray n }) -> H b = none := fun {b o} e n1 n2 => by
     cases q : H b with
     | none => rfl
     | some u =>
       rcases hA b (by rw [q]; simp) with e' | e'
       . subst e'
         rw [hT] at e; cases e
         exact absurd rfl n1
       . subst e'
         rw [ha] at e; cases e
         exact absurd rfl (n2 _)
   have hLB : LamB mg (C1w s₁.heap H) c P0 := by
     refine ⟨?_, ?_⟩
     . obtain ⟨o, vs1, file, tf, flags, tg, inF, text, tt, e1, r1, r2⟩ := hC
       exact ⟨o, vs1, file, tf, flags, tg, inF, text, tt, base_of e1 (noC e1 (fun z => by rw [z] at r1; cases r1) fun n z => by rw [z] at r1; exact absurd (Value.type.inj r1) (by decide)), r1, r2⟩
     . obtain ⟨bm, ob, b1, b2, b3, b4, b5, b6⟩ := hbm
       refine ⟨bm, ob, b1, b2, ?_, base_of b3 (noC b3 (fun z => by rw [z] at b4; cases b4) fun n z => by rw [z] at b4; exact absurd (Value.type.inj b4) (by decide)), b4, b5, b6⟩
       rintro rfl
       obtain ⟨o, es, ep, e, d, _⟩ := hns
       rw [b3] at e; cases e
       rw [b6] at d; cases d
   have hM : Mod K mg (C1w s₁.heap H) := ⟨hKb, nsK hns, ⟨mb, nsK hb, hbb⟩, let ⟨mc, h1, h2⟩ := hlim; ⟨mc, nsK h1, h2⟩⟩
   have e0 : Env0 P w K mg (C1w s₁.heap H) callerA [] s₁ H := ⟨rfl, hM, fun b o e => V4a e, Nat.le_of_eq (J2u _ _), trivial, fun b hb => absurd (show b ∈ ([] : List Addr) from hb) (by simp), hok, .of_eq hg⟩
   refine codeAny_mono ((F _ hKb (nsK hns) hLB).run callerA [] s₁ H ⟨[.ref a], []⟩ [.ref a] [.ref a] _ _ rfl hr e0 (hbind s₁ (.ref a)) (.cons rfl .nil) (hsp H hPt hS)) fun r s' h => ?_
   cases r with
   | error e => exact (hCX H e s' h).elim
   | ok fl =>
     cases fl with
     | next => exact False.elim h
     | brk => exact False.elim h
     | cont => exact False.elim h
     | ret u =>
       obtain ⟨v, H', os, bare, un, hok', r', q⟩ := h
       have q' : v = .bl true := q
       subst q'
       obtain rfl : u = Value.bool true := r'
       obtain ⟨more, hm⟩ := un.tbls P0 _ hPt
       have hP' : s'.heap.get? P0 = some (tabObj (#[] ++ more)) := hok' P0 _ hm
       have kp : ∀ b o, b ≠ P0 -> s₁.heap.get? b = some o -> s'.heap.get? b = some o := fun b o nb e => ?_
       refine ⟨rfl, ⟨fun b o e => ?_, fun b o e => ?_⟩, os, bare⟩
       . by_cases hb : b = P0
         . subst hb
           rw [hT] at e
           cases e
           exact .inr (.inl ⟨(hC.tab hT).isCodeTable, rfl, #[], more, rfl, hP'⟩)
         . exact .inl (kp b o hb e)
       . by_cases hb : b = P0
         . exact ⟨_, by rw [hb]; exact hP'⟩
         . exact ⟨o, kp b o hb e⟩
       cases q : H b with
       | none => exact un.keep b o e q (by intro z; exact absurd (show b ∈ ([] : List Addr) from z) (by simp)) (by simp)
       | some u =>
         rcases hO b with z | z | ⟨ob, xs, z⟩
         . rw [q] at z; cases z
         . exact absurd z nb
         . have z2 := un.frzs b ob _ z
           obtain ⟨e1, _⟩ := hok b _ z
           obtain ⟨e2, _⟩ := hok' b _ z2
           rw [e] at e1; cases e1
           exact e2
 have nPa : P0 ≠ a := fun z => by rw [z, ha] at hT; cases hT
 cases hk : K.lookup a with
 | some o =>
   have e := KX a o hk
   rw [ha] at e
   cases e
   refine core (fun b => if b = P0 then some (.tbl #[]) else none) (if_pos rfl) (fun b => ?_) (.inr ⟨_, vs.toArray, _, hk, rfl, rfl, rfl, by rw [List.size_toArray, lenV]; exact hl, by simpa using rv⟩) (fun b u z => ?_) (fun b z => ?_) fun z => absurd (if_neg nPa.symm) z
   . by_cases hb : b = P0
     . exact .inr (.inl hb)
     . exact .inl (if_neg hb)
   . by_cases hb : b = P0
     . have z' := (if_pos hb).symm.trans z
       cases z'
       subst hb
       exact hT
     . have z' := (if_neg hb).symm.trans z
       cases z'
   . by_cases hb : b = P0
     . exact .inl hb
     . exact absurd (if_neg hb) z
 | none =>
   refine core (fun b => if b = P0 then some (.tbl #[]) else if b = a then some (.frz { cls := .type "list", data := .seq vs.toArray } (.lst (ns.map V.int))) else none) (if_pos rfl) (fun b => ?_) (.inl (.inr ⟨{ cls := .type "list", data := .seq vs.toArray }, (if_neg nPa.symm).trans (if_pos rfl)⟩)) (fun b u z => ?_) (fun b z => ?_) fun _ => hk
   . by_cases hp : b = P0
     . exact .inr (.inl hp)
     . by_cases hb : b = a
       . exact .inr (.inr ⟨_, _, (if_neg hp).trans (if_pos hb)⟩)
       . exact .inl ((if_neg hp).trans (if_neg hb))
   . by_cases hp : b = P0
     . have z' := (if_pos hp).symm.trans z
       cases z'
       subst hp
       exact hT
     . by_cases hb : b = a
       . have z' := ((if_neg hp).trans (if_pos hb)).symm.trans z
         cases z'
         subst hb
         exact ⟨ha, by rw [List.length_map]; exact hl, vs, _, rv, ha⟩
       . have z' := ((if_neg hp).trans (if_neg hb)).symm.trans z
         cases z'
   . by_cases hp : b = P0
     . exact .inl hp
     . by_cases hb : b = a
       . exact .inr hb
       . exact absurd ((if_neg hp).trans (if_neg hb)) z
theorem walk_ofL {c P0 : Addr} {l : PySem.W.OpenLaw} {n k : Nat} {q : Program} {loose : List Str} {XP : (Str -> Option Value) -> Heap -> Prop} {YP : World -> Heap -> Prop} {d : DefRec} {K : Params -> PySem.W.Frag} {CX : World -> CXT} {sp : World -> Sp} {x : Str}
   (hn : l.most = some n) (hn2 : n <= sizeLine) (hdf : d.params.defaults = []) (hr : Room k callerA)
   (hY : ∀ (w : World) (h : Heap), YP w h -> (K w.params).In h /\ CodeHd h c P0 /\ h.get? P0 = some (tabObj #[])) (hKP : ∀ p, (K p).lookup P0 = none)
   (F : ∀ (w : World) (mg : Str -> Option Value) (fa : Addr) (h : Heap), (K w.params).In h -> h.Ns mainGlobals mg -> mg d.name = some (.ref fa) ->
     ∃ fd : FuncData, (∀ (s : Shared) (u : Value), BindsTo s fd ⟨[u], []⟩ [(x, u)]) /\
       ∀ base : Heap, (K w.params).In base -> base.Ns mainGlobals mg -> LamB mg base c P0 -> FnOkG l.prog w (K w.params) mg base (CX w) k fa fd [x] (sp w))
   (hsp : ∀ (w : World) (H : Hp) (a : Addr) (ns : List Int), ns.length <= n -> H P0 = some (.tbl #[]) -> SqL (K w.params) H a (ns.map V.int) -> sp w [.ref a] H (fun v _ => v = .bl true) fun _ _ _ => False)
   (hCX : ∀ (w : World) (H : Hp) (s : Shared) (e : Value) (s' : Shared), CX w [] H s (fun _ _ _ => False) e s' -> False) :
   PySem.W.WalkO q loose XP YP l.row.toRowW d [] (fun f vs => PySem.call f vs) := by
 refine Att.attach_call hn hdf fun w s₀ s₁ mg mb fa o pm cd doc a vs ns G Y ho hd hcd hmg hobj hints hlen hg => ?_
 obtain ⟨KX, hC, hT⟩ := hY w _ Y
 obtain ⟨fd, hb, hF⟩ := F w mg fa _ KX G.T.g hmg
 exact J2v hC hT (hKP _) G.T.bmain KX G.T.g G.T.b G.T.builtins G.T.nolimit hg hobj hints (Nat.le_trans hlen hn2) hr hF hb (fun H hO hS => hsp w H a ns hlen hO hS) fun H e s' => hCX w H s₁ e s'
section
variable {X : Cx}
theorem C6q (hg : X.A.guards = some []) (hu : X.A.units + 64 < cLine) : A2u X (.type "str") (fun xs H Q => ∃ a d, xs = [.ref a] /\ RdR H (.ref a) d /\ A0w d /\ Q (.str d.shown) H) := by
 intro pins s σ H xs us Q I r h
 obtain ⟨a, d, rfl, hv, ⟨sh, dp, ln⟩, q⟩ := h
 obtain ⟨u, rfl, ru⟩ := Vals.one r
 obtain ⟨as, z, ny⟩ := hv.reads I ru
 cases ru
 exact str_of_reads z sh (fun _ => ny) hg (by omega) (fun b o e => e) (fun h' u tk k => ⟨.str d.shown, H, I.kept k, ⟨u, rfl⟩, q⟩) ln
end
def D5k (H H' : Hp) : Prop := ∀ b o, (∀ ps, o ≠ .tbl ps) -> H b = some o -> H' b = some o
theorem SameT.keep {P : Addr} {ps : Array Value} {H H' : Hp} (s : SameT P H H') (h : H P = some (.tbl ps)) : D5k H H' := fun b o n e => s b o (fun z => by rw [z, h] at e; exact n ps (Option.some.inj e).symm) e
theorem TabOk.same {P : Addr} {pos : Pos} {q : Str} {H H' : Hp} (h : TabOk P pos q H) (s : ∀ b o, H b = some o -> H' b = some o) : TabOk P pos q H' := by
 obtain ⟨ps, e, t, c⟩ := h
 exact ⟨ps, s _ _ e, t, c.imp id fun ⟨c', oc, a, b, d⟩ => ⟨c', oc, a, s _ _ b, d⟩⟩
theorem TabOk.at {P : Addr} {pos : Pos} {q : Str} {H H' : Hp} (h : TabOk P pos q H) (s : ∀ b o, H b = some o -> (b = P \/ ∃ oc, o = .frz oc (.own b)) -> H' b = some o) : TabOk P pos q H' := by
 obtain ⟨ps, e, t, c⟩ := h
 exact ⟨ps, s _ _ e (.inl rfl), t, c.imp id fun ⟨c', oc, a, b, d⟩ => ⟨c', oc, a, s _ _ b (.inr ⟨oc, rfl⟩), d⟩⟩
theorem V3j {P : Addr} {pos : Pos} {q : Str} {H : Hp} (h : H P = some (.tbl #[])) : TabOk P pos q H := ⟨#[], h, trivial, .inl rfl⟩
theorem SqL.kept {K : Frag} {H H' : Hp} {a : Addr} {xs : List V} (h : SqL K H a xs) (s : ∀ o, H a = some o -> (o = .lst xs \/ ∃ oc, o = .frz oc (.lst xs)) -> H' a = some o) : SqL K H' a xs := by
 rcases h with (h | ⟨o, h⟩) | h
 . exact .inl (.inl (s _ h (.inl rfl)))
 . exact .inl (.inr ⟨o, s _ h (.inr ⟨o, rfl⟩)⟩)
 . exact .inr h
theorem Fun.okEL {P : Program} {w : World} {K : Frag} {mg : Str -> Option Value} {base : Heap} {x qual : Str} {st : Stmt} {f c : Addr} {fd : FuncData} {N ps : List Str} {k : Nat} {sp : Sp} (F : Fun K x qual st f fd) (hc0 : fd.code = .ref c) (S : FnScope N ps (A3 st)) (len : ∀ vs H Q E, sp vs H Q E -> vs.length = ps.length)
   (hbody : ∀ (X : Cx) (A : Around) (outer : List Env) (s : Shared) (H : Hp) (vs : List V) (Q : VK) (E : XK), X = A2j (CX1 P w) P w K mg base N qual (A3 st) f (.ref c) A outer s H E -> X.A.guards = some [] -> Room k X.A -> G3 X (fun C dd _ H' => E C dd H') -> sp vs H Q E ->
     ∃ t, PSs (A2j (CX1 P w) P w K mg base N qual (A3 st) f (.ref c) A outer s H E) (B1 st) t /\ t { nx := fun _ H' => Q .non H', rt := Q } (A1t N vs) H) : FnOkG P w K mg base (CX1 P w) (k + 1) f fd ps sp := by
 obtain ⟨oc, od, kV, doc, pm, an, cdv, ct, osl, rfl, lk, hc⟩ := F.ex
 obtain rfl : cdv = .ref c := hc0
 exact J8q lk hc S len fun A outer s H vs Q E hg hr h => hbody _ A outer s H vs Q E rfl hg hr A4n h
theorem V2y {P : Program} {w : World} {K : Frag} {mg : Str -> Option Value} {base : Heap} {k : Nat} {f : Addr} {qual : Str} {params : Arguments} {body : Expr} {scope : Scope} {cl : List (Str × Addr)} {vs : List V} {sp : Hp -> VK -> XK -> Prop} {H0 : Hp} (la : LamAt H0 f qual params body scope cl)
   (S : LamS (cl.map (·.1)) scope) (hF : cl.length = vs.length) (hnd : (cl.map (·.2)).Nodup)
   (hb0 : ∀ (pm : Value) (c' : Addr) (ctv : Value), bindArgs (kla_fn "<lambda>" qual params body scope cl pm (.ref c') ctv) ⟨[], []⟩ = pure [])
   (hbody : ∀ (X : Cx) (cdv : Value) (A : Around) (outer : List Env) (s : Shared) (H : Hp) (Q : VK) (E : XK), X = B8y (CX1 P w) P w K mg base (cl.map (·.1)) qual scope f cdv cl A outer s (U1 (cl.map (·.2)) H) (fun C d H' => (∀ c ∈ cl.map (·.2), H' c = none) -> E C d (Y2 (cl.map (·.2)) H H')) -> Room k X.A ->
     G3 X (fun C dd _ H' => (∀ c ∈ cl.map (·.2), H' c = none) -> E C dd (Y2 (cl.map (·.2)) H H')) -> sp H Q E -> AllFrz (cl.map (·.2)) H ->
     ∃ t, PE (B8y (CX1 P w) P w K mg base (cl.map (·.1)) qual scope f cdv cl A outer s (U1 (cl.map (·.2)) H) (fun C d H' => (∀ c ∈ cl.map (·.2), H' c = none) -> E C d (Y2 (cl.map (·.2)) H H'))) body t /\ t (vs.map some) (U1 (cl.map (·.2)) H) (fun v H' => (∀ c ∈ cl.map (·.2), H' c = none) -> Q v (Y2 (cl.map (·.2)) H H'))) :
   DeedOk P w K mg base (k + 1) f (V9r f qual params body scope cl vs) sp := V2v S hF hnd hb0 hbody
theorem LamAt.kept {H H' : Hp} {f : Addr} {qual : Str} {params : Arguments} {body : Expr} {scope : Scope} {cl : List (Str × Addr)} (h : LamAt H f qual params body scope cl) (s : ∀ b o, H b = some (.frz o (.own b)) -> H' b = some (.frz o (.own b))) : LamAt H' f qual params body scope cl := by
 obtain ⟨pm, c', ctv, oc, e1, e2, r⟩ := h
 exact ⟨pm, c', ctv, oc, s _ _ e1, s _ _ e2, r⟩
theorem Knows.kept {H H' : Hp} {c : Addr} {v : V} (h : Knows H c v) (s : ∀ b o, H b = some (.frz o (.own b)) -> H' b = some (.frz o (.own b))) : Knows H' c v := by
 obtain ⟨o, u, e, r⟩ := h
 exact ⟨o, u, s _ _ e, r⟩
end L2
namespace TR
open PySem L2 PySem.W PyProof.Rows
seal PE PS PSs PA PT PW PG PGs PI
def top (i : Nat) : Stmt := PySem.Challenge.pw_tenreckon_k27_same_powers.main.body.getD i (.Pass ⟨0, 0, 0, 0⟩)
abbrev C1z : Stmt := (top 23)
section
variable {P : Program} {w : World} {K : Frag} {mg : Str -> Option Value} {base : Heap}
def Y4e (K : Frag) : Sp := fun vs H Q _ => ∃ v lo hi, vs = [v, .int lo, .int hi] /\ ((A3m lo hi v /\ Q (.bl true) H) \/ (C1x K H lo hi v /\ Q (.bl false) H))
theorem Y4x : FnScope ["thing", "least", "most"] ["thing", "least", "most"] (A3 C1z) := scK
theorem J7m {f : Addr} {fd : FuncData} (D : Def K mg "is_between" ["thing", "least", "most"] C1z f fd) (O : Own mg) (T : Kit K) : FnOk P w K mg base (CX1 P w) 1 f fd ["thing", "least", "most"] (Y4e K) := by
 refine FnOk.up (D.F.ok Y4x (fun vs H Q E h => ?_) (fun cdv A outer s H vs Q E hr h => ?_))
 . obtain ⟨v, lo, hi, rfl, _⟩ := h
   rfl
 . obtain ⟨v, lo, hi, rfl, h⟩ := h
   refine ⟨_, (A7 (D9 (PW.pt (A7k (A7s (Y6 (J2y O.isi (pv 0) (pty O.int_ boot_int)))) (A3c (Y6 (J2y O.isi (pv 0) (pty O.bool_ boot_bool)))))) (A9 (B8 D5e)) C6)
     (A9 (B8 (A7j (G0 G9p (pv 0) (pv 1) (B9 _)) (A1w (G0 Y5c (pv 0) (pv 2) (B9 _))))))), ?_⟩
   rcases h with ⟨⟨i, rfl, h1, h2⟩, k⟩ | ⟨⟨t, b1, b2, ty, k1, k2, bad⟩, k⟩
   . refine ⟨_, rfl, _, _, _, _, true, rfl, rfl, V7a i, T.int_int, _, rfl, U4 ?_⟩
     refine ⟨_, rfl, _, _, _, _, false, rfl, rfl, V7a i, T.int_bool, _, rfl, U4 ?_⟩
     refine ⟨_, rfl, _, rfl, _, _, rfl, rfl, _, rfl, A7t h1 ?_⟩
     refine ⟨_, rfl, _, rfl, _, _, rfl, rfl, ?_⟩
     show Q (.bl (decide (i <= hi))) H
     rw [decide_eq_true h2]
     exact k
   . refine ⟨_, rfl, _, _, _, _, b1, rfl, rfl, ty, k1, _, rfl, ?_⟩
     cases b1 with
     | false => exact V5 (V5 k)
     | true =>
       refine U4 ⟨_, rfl, _, _, _, _, b2, rfl, rfl, ty, k2, _, rfl, ?_⟩
       cases b2 with
       | true => exact V5 k
       | false =>
         obtain ⟨i, rfl, out⟩ := bad.resolve_left (by decide)
         refine U4 ⟨_, rfl, _, rfl, _, _, rfl, rfl, _, rfl, G6 (fun h1 => ?_) (fun h1 => ?_)⟩
         . refine ⟨_, rfl, _, rfl, _, _, rfl, rfl, ?_⟩
           show Q (.bl (decide (i <= hi))) H
           rw [decide_eq_false (by omega : ¬ i <= hi)]
           exact k
         . exact k
end
structure Err (K : Frag) (mg : Str -> Option Value) (x : Str) (CB : Addr) : Prop where
 g : mg x = some (.ref CB)
 q : excIn K CB [.type "ValueError", .type "Exception", .type "BaseException", .type "object"] "ValueError.__new__" = true
def B2k (lo hi : Int) : Prop := lo.natAbs.log2 < 1920 /\ hi.natAbs.log2 < 1920 /\ (Str.ofString (toString lo)).length <= 100 /\ (Str.ofString (toString hi)).length <= 100
abbrev A1y : Stmt := (top 50)
section
variable {P : Program} {w : World} {K : Frag} {mg : Str -> Option Value} {base : Heap}
def C5x (K : Frag) (CB : Addr) : Sp := fun vs H Q E => ∃ v lo hi, vs = [v, .int lo, .int hi] /\ B2k lo hi /\ ((A3m lo hi v /\ Q v H) \/ (C1x K H lo hi v /\ E (.ref CB) none H))
theorem J2b : FnScope ["thing", "least", "most"] ["thing", "least", "most"] (A3 A1y) := scK
theorem D8y {f f1 CB : Addr} {fd fd1 : FuncData} (D : Def K mg "bounded" ["thing", "least", "most"] A1y f fd) (D1 : Def K mg "is_between" ["thing", "least", "most"] C1z f1 fd1) (O : Own mg) (T : Kit K) (B : Err K mg "BadContext" CB) :
   FnOk P w K mg base (CX1 P w) 2 f fd ["thing", "least", "most"] (C5x K CB) := by
 have G1 := J7m (P := P) (w := w) (base := base) D1 O T
 refine D.F.okE J2b (fun vs H Q E h => ?_) (fun X cdv A outer s H vs Q E hX hr hx h => ?_)
 . obtain ⟨v, lo, hi, rfl, _⟩ := h
   rfl
 . subst hX
   obtain ⟨v, lo, hi, rfl, ⟨l1, l2, l3, l4⟩, h⟩ := h
   refine ⟨_, (A7 (D9 (A7s (Y6 (C8 D1 G1 hr hx (A0 (pv 0) (A0 (pv 1) (A0 (pv 2) A8))))))
     (A9 (A1v (by rfl) B.g B.q PySem.F.excBase_ValueError hr.hd hx (A0 (G9h (.cons .lit (.cons (.int (pv 1)) (.cons .lit (.cons (.int (pv 2)) .nil))))) A8))) C6)
     (A9 (B8 (pv 0)))), ?_⟩
   rcases h with ⟨g, k⟩ | ⟨bad, k⟩
   . exact ⟨_, rfl, _, rfl, _, rfl, _, _, _, rfl, .inl ⟨g, _, rfl, U4 ⟨_, rfl, k⟩⟩⟩
   . have a0 : Str.empty.length = 0 := rfl
     have a1 : (Str.ofString "not a whole number from ").length = 24 := by decide +kernel
     have a2 : (Str.ofString " to ").length = 4 := by decide +kernel
     have sz : ∀ {n : Nat}, n <= 1000 -> n <= sizeLine := fun h => Nat.le_of_lt (J9 h)
     refine ⟨_, rfl, _, rfl, _, rfl, _, _, _, rfl, .inr ⟨bad, _, rfl, V5 ?_⟩⟩
     exact ⟨_, rfl, sz (by rw [strLen_append]; omega), _, rfl, _, rfl, l1, _, rfl, sz (by rw [strLen_append, strLen_append]; omega), _, rfl, sz (by rw [strLen_append, strLen_append, strLen_append]; omega), _, rfl, _, rfl, l2, _, rfl, sz (by rw [strLen_append, strLen_append, strLen_append, strLen_append]; omega), sz (by rw [strLen_append, strLen_append, strLen_append, strLen_append]; omega), sz (by show 1 <= 1000; decide), k⟩
end
abbrev A0q : Stmt := (top 24)
section
variable {P : Program} {w : World} {K : Frag} {mg : Str -> Option Value} {base : Heap}
def J2p (K : Frag) (CB : Addr) : Sp := fun vs H Q E => ∃ v lo hi, vs = [v, .int lo, .int hi] /\ B2k lo hi /\
 ((A3m lo hi v /\ Q .non H) \/ (C1x K H lo hi v /\ E (.ref CB) none H))
theorem J2x : FnScope ["thing", "least", "most"] ["thing", "least", "most"] (A3 A0q) := scK
theorem B8m {f f1 CB : Addr} {fd fd1 : FuncData} (D : Def K mg "need_between" ["thing", "least", "most"] A0q f fd) (D1 : Def K mg "is_between" ["thing", "least", "most"] C1z f1 fd1) (O : Own mg) (T : Kit K) (B : Err K mg "BadNumber" CB) :
   FnOk P w K mg base (CX1 P w) 2 f fd ["thing", "least", "most"] (J2p K CB) := by
 have G1 := J7m (P := P) (w := w) (base := base) D1 O T
 refine D.F.okE J2x (fun vs H Q E h => ?_) (fun X cdv A outer s H vs Q E hX hr hx h => ?_)
 . obtain ⟨v, lo, hi, rfl, _⟩ := h
   rfl
 . subst hX
   obtain ⟨v, lo, hi, rfl, ⟨l1, l2, l3, l4⟩, h⟩ := h
   refine ⟨_, (A9 (D9 (A7s (Y6 (C8 D1 G1 hr hx (A0 (pv 0) (A0 (pv 1) (A0 (pv 2) A8))))))
     (A9 (A1v (by rfl) B.g B.q PySem.F.excBase_ValueError hr.hd hx (A0 (G9h (.cons .lit (.cons (.int (pv 1)) (.cons .lit (.cons (.int (pv 2)) .nil))))) A8))) C6)), ?_⟩
   rcases h with ⟨g, k⟩ | ⟨bad, k⟩
   . exact ⟨_, rfl, _, rfl, _, rfl, _, _, _, rfl, .inl ⟨g, _, rfl, U4 k⟩⟩
   . have a0 : Str.empty.length = 0 := rfl
     have a1 : (Str.ofString "not a whole number from ").length = 24 := by decide +kernel
     have a2 : (Str.ofString " to ").length = 4 := by decide +kernel
     have sz : ∀ {n : Nat}, n <= 1000 -> n <= sizeLine := fun h => Nat.le_of_lt (J9 h)
     refine ⟨_, rfl, _, rfl, _, rfl, _, _, _, rfl, .inr ⟨bad, _, rfl, V5 ?_⟩⟩
     exact ⟨_, rfl, sz (by rw [strLen_append]; omega), _, rfl, _, rfl, l1, _, rfl, sz (by rw [strLen_append, strLen_append]; omega), _, rfl, sz (by rw [strLen_append, strLen_append, strLen_append]; omega), _, rfl, _, rfl, l2, _, rfl, sz (by rw [strLen_append, strLen_append, strLen_append, strLen_append]; omega), sz (by rw [strLen_append, strLen_append, strLen_append, strLen_append]; omega), sz (by show 1 <= 1000; decide), k⟩
end
abbrev C5h : Stmt := (G5 (top 14) 0)
abbrev B7c : Stmt := (top 18)
abbrev A7a : Stmt := (top 20)
structure Num (K : Frag) (mg : Str -> Option Value) (CN : Addr) : Prop where
 g : mg "Number" = some (.ref CN)
 cl : Cls K CN
 n1 : NoAttr K CN "kind"
 n2 : NoAttr K CN "sign"
 n3 : NoAttr K CN "figures"
 n4 : NoAttr K CN "power"
 ca : findIn K (.ref CN) "__class__" = some (some (.builtin "object.__class__"))
 sn : specialIn K (.builtin "object.__class__") "__get__" = some (some (.builtin "getset_descriptor.__get__"))
 tk : takesIn K (.builtin "object.__class__") = some true
 ob : mroIn K CN (.type "object") = some true
 self : kitOne K (.ref CN) (.ref CN) = some true
def C2a (k s f p : V) : List (Str × V) := U6 "power" p (U6 "figures" f (U6 "sign" s (U6 "kind" k [])))
theorem e12 : ¬ (("kind" : Str) = "sign") := by decide +kernel
theorem e13 : ¬ (("kind" : Str) = "figures") := by decide +kernel
theorem e14 : ¬ (("kind" : Str) = "power") := by decide +kernel
theorem e23 : ¬ (("sign" : Str) = "figures") := by decide +kernel
theorem e24 : ¬ (("sign" : Str) = "power") := by decide +kernel
theorem e34 : ¬ (("figures" : Str) = "power") := by decide +kernel
theorem num1 (k s f p : V) : (C2a k s f p).lookup ("kind" : Str) = some k := by unfold C2a; rw [D0, if_neg e14, D0, if_neg e13, D0, if_neg e12, D0, if_pos rfl]
theorem V8v (k s f p : V) : (C2a k s f p).lookup ("sign" : Str) = some s := by unfold C2a; rw [D0, if_neg e24, D0, if_neg e23, D0, if_pos rfl]
theorem D4f (k s f p : V) : (C2a k s f p).lookup ("figures" : Str) = some f := by unfold C2a; rw [D0, if_neg e34, D0, if_pos rfl]
theorem G0a (k s f p : V) : (C2a k s f p).lookup ("power" : Str) = some p := by unfold C2a; rw [D0, if_pos rfl]
def NumAt (CN : Addr) (H : Hp) (n : Addr) (k s f p : V) : Prop := ∃ dx, H n = some (.ins CN dx (C2a k s f p))
theorem NumAt.same {CN : Addr} {H H' : Hp} {n : Addr} {k s f p : V} (h : NumAt CN H n k s f p) (e : Same H H') : NumAt CN H' n k s f p := by
 obtain ⟨dx, z⟩ := h
 exact ⟨dx, e _ _ z⟩
theorem Num.ty {K : Frag} {mg : Str -> Option Value} {CN : Addr} (N : Num K mg CN) {H : Hp} {n : Addr} {k s f p : V} (h : NumAt CN H n k s f p) : TyE K H (.ref n) (.ref CN) := by
 obtain ⟨dx, z⟩ := h
 exact .of (.ins z N.cl N.ca N.sn N.tk N.ob)
section
variable {P : Program} {w : World} {K : Frag} {mg : Str -> Option Value} {base : Heap}
def C8s (CN : Addr) : Sp := fun vs H Q _ => ∃ (p dx : Addr) (k s f pw : V), vs = [.ref p, k, s, f, pw] /\ H p = some (.ins CN dx []) /\ ∀ H', H' p = some (.ins CN dx (C2a k s f pw)) -> (∀ b o, H b = some o -> b ≠ p -> H' b = some o) -> Q .non H'
theorem V8y : FnScope ["self", "kind", "sign", "figures", "power"] ["self", "kind", "sign", "figures", "power"] (A3 C5h) := scK
theorem V3d {f CN : Addr} {fd : FuncData} (F : Fun K "__init__" "Number.__init__" C5h f fd) (N : Num K mg CN) : FnOk P w K mg base CX0 1 f fd ["self", "kind", "sign", "figures", "power"] (C8s CN) := by
 refine F.ok V8y (fun vs H Q E h => ?_) (fun cdv A outer s H vs Q E hr h => ?_)
 . obtain ⟨p, dx, a, b, c, d, rfl, _⟩ := h
   rfl
 . obtain ⟨p, dx, a, b, c, d, rfl, hp, k⟩ := h
   refine ⟨_, A7 (Y8 (pv 0) (pv 1) rfl) (A7 (Y8 (pv 0) (pv 2) rfl) (A7 (Y8 (pv 0) (pv 3) rfl) (A9 (Y8 (pv 0) (pv 4) rfl)))), ?_⟩
   have l : ∀ (fs : List (Str × V)) (f : Str) (v : V) (n : Nat), fs.length <= n -> (U6 f v fs).length <= n + 1 := fun fs f v n h => Nat.le_trans (A0n f v fs) (Nat.succ_le_succ h)
   refine ⟨_, rfl, _, rfl, p, CN, dx, [], rfl, hp, N.cl, N.n1, (by show 0 < 1000; decide), ?_⟩
   refine ⟨_, rfl, _, rfl, p, CN, dx, _, rfl, A6, N.cl, N.n2, Nat.lt_of_le_of_lt (l _ _ _ 0 (Nat.le_refl _)) (by decide), ?_⟩
   refine ⟨_, rfl, _, rfl, p, CN, dx, _, rfl, A6, N.cl, N.n3, Nat.lt_of_le_of_lt (l _ _ _ 1 (l _ _ _ 0 (Nat.le_refl _))) (by decide), ?_⟩
   refine ⟨_, rfl, _, rfl, p, CN, dx, _, rfl, A6, N.cl, N.n4, Nat.lt_of_le_of_lt (l _ _ _ 2 (l _ _ _ 1 (l _ _ _ 0 (Nat.le_refl _)))) (by decide), ?_⟩
   refine k _ A6 fun b o e hb => ?_
   rw [B4 hb, B4 hb, B4 hb, B4 hb]
   exact e
structure MakeN (P : Program) (w : World) (K : Frag) (mg : Str -> Option Value) (base : Heap) (CN fI : Addr) (fdI : FuncData) : Prop where
 m : Mk K CN fI
 g : FnOk P w K mg base CX0 1 fI fdI ["self", "kind", "sign", "figures", "power"] (C8s CN)
 b : Binds K fdI ["self", "kind", "sign", "figures", "power"] []
theorem made {CN : Addr} {H : Hp} {Q : VK} {k s f p : V} (h : ∀ n H', H n = none -> Same H H' -> NumAt CN H' n k s f p -> Q (.ref n) H') :
   ∀ x dx, H x = none -> H dx = none -> dx ≠ x -> C8s CN (.ref x :: ([k, s, f, p] ++ [])) (upd (upd H dx (.own x)) x (.ins CN dx [])) (fun v H2 => v = .non /\ Q (.ref x) H2) E0 := by
 intro x dx nx nd ne
 refine ⟨x, dx, k, s, f, p, rfl, A6, fun H' e kp => ⟨rfl, h x H' nx (fun b o z => ?_) ⟨dx, e⟩⟩⟩
 refine kp b o ?_ (C5 z nx)
 rw [B4 (C5 z nx), B4 (C5 z nd)]
 exact z
def D9h (K : Frag) (CN : Addr) (H : Hp) (v : V) : Prop := ∃ t, TyE K H v t /\ kitOne K t (.ref CN) = some false
def G8z (K : Frag) (CN CB : Addr) : Sp := fun vs H Q E => ∃ v, vs = [v] /\ ((∃ n k s f p, v = .ref n /\ NumAt CN H n k s f p /\ Q v H) \/ (D9h K CN H v /\ E (.ref CB) none H))
theorem V2q : FnScope ["thing"] ["thing"] (A3 A7a) := scK
theorem D4k {f CN CB : Addr} {fd : FuncData} (D : Def K mg "need_number" ["thing"] A7a f fd) (O : Own mg) (T : Kit K) (B : Err K mg "BadNumber" CB) (N : Num K mg CN) : FnOk P w K mg base (CX1 P w) 1 f fd ["thing"] (G8z K CN CB) := by
 refine D.F.okE V2q (fun vs H Q E h => ?_) (fun X cdv A outer s H vs Q E hX hr hx h => ?_)
 . obtain ⟨v, rfl, _⟩ := h
   rfl
 . subst hX
   obtain ⟨v, rfl, h⟩ := h
   refine ⟨_, (A7 (D9 (A7s (Y6 (J2y O.isi (pv 0) (J5f N.g)))) (A9 (A1v (by rfl) B.g B.q PySem.F.excBase_ValueError hr.hd hx (A0 B0 A8))) C6)
     (A9 (B8 (pv 0)))), ?_⟩
   rcases h with ⟨n, a, b, c, d, rfl, hn, k⟩ | ⟨⟨t, ty, k1⟩, k⟩
   . exact ⟨_, rfl, _, _, _, _, true, rfl, rfl, N.ty hn, N.self, _, rfl, U4 ⟨_, rfl, k⟩⟩
   . exact ⟨_, rfl, _, _, _, t, false, rfl, rfl, ty, k1, _, rfl, V5 ⟨Nat.le_of_lt (J9 (by show 1 <= 1000; decide)), k⟩⟩
def G0e (K : Frag) (CN CB : Addr) : Sp := fun vs H Q E => ∃ v, vs = [v] /\ ((∃ n k s f p, v = .ref n /\ NumAt CN H n k s f p /\ ∀ t, H t = none -> Q (.ref t) (upd H t (.tup [k, s, f, p]))) \/ (D9h K CN H v /\ E (.ref CB) none H))
theorem V7y : FnScope ["number"] ["number"] (A3 B7c) := scK
theorem V2c {f f1 CN CB : Addr} {fd fd1 : FuncData} (D : Def K mg "told" ["number"] B7c f fd) (D_need_number : Def K mg "need_number" ["thing"] A7a f1 fd1) (O : Own mg) (T : Kit K) (B : Err K mg "BadNumber" CB) (N : Num K mg CN) :
   FnOk P w K mg base (CX1 P w) 2 f fd ["number"] (G0e K CN CB) := by
 have G_need_number := D4k (P := P) (w := w) (base := base) D_need_number O T B N
 refine D.F.okE V7y (fun vs H Q E h => ?_) (fun X cdv A outer s H vs Q E hX hr hx h => ?_)
 . obtain ⟨v, rfl, _⟩ := h
   rfl
 . subst hX
   obtain ⟨v, rfl, h⟩ := h
   refine ⟨_, (A7 (Y1 (C8 D_need_number G_need_number hr hx (A0 (pv 0) A8)))
     (A9 (B8 (G8 (A0 (G4 (pv 0) rfl) (A0 (G4 (pv 0) rfl) (A0 (G4 (pv 0) rfl) (A0 (G4 (pv 0) rfl) A8)))))))), ?_⟩
   rcases h with ⟨n, a, b, c, d, rfl, hn, k⟩ | ⟨bad, k⟩
   . refine ⟨_, rfl, _, rfl, .inl ⟨n, a, b, c, d, rfl, hn, ?_⟩⟩
     obtain ⟨dx, e⟩ := hn
     exact ⟨_, rfl, n, CN, dx, _, _, rfl, e, N.cl, N.n1, num1 _ _ _ _, _, rfl, n, CN, dx, _, _, rfl, e, N.cl, N.n2, V8v _ _ _ _, _, rfl, n, CN, dx, _, _, rfl, e, N.cl, N.n3, D4f _ _ _ _, _, rfl, n, CN, dx, _, _, rfl, e, N.cl, N.n4, G0a _ _ _ _,
       Nat.le_of_lt (J9 (by show 4 <= 1000; decide)), k⟩
   . exact ⟨_, rfl, _, rfl, .inr ⟨bad, k⟩⟩
end
abbrev B0z : Stmt := (top 15)
abbrev D9y : Stmt := (top 16)
abbrev Z2 : Stmt := (top 17)
section
variable {P : Program} {w : World} {K : Frag} {mg : Str -> Option Value} {base : Heap}
def G9v (K : Frag) (CN CB : Addr) : Sp := fun vs H Q E => ∃ x y z, vs = [x, y, z] /\
 ((A3m 0 1 x /\ A3m 0 (10 ^ 60 - 1) y /\ A3m (-200) 200 z /\ ∀ n H', H n = none -> Same H H' -> NumAt CN H' n (.str "plain") x y z -> Q (.ref n) H') \/
  ((C1x K H 0 1 x \/ (A3m 0 1 x /\ (C1x K H 0 (10 ^ 60 - 1) y \/ (A3m 0 (10 ^ 60 - 1) y /\ C1x K H (-200) 200 z)))) /\ E (.ref CB) none H))
theorem V1m : FnScope ["sign", "figures", "power"] ["sign", "figures", "power"] (A3 B0z) := scK
theorem b01 : B2k 0 1 := by unfold B2k; decide +kernel
theorem b60 : B2k 0 (10 ^ 60 - 1) := by unfold B2k; decide +kernel
theorem Y5r : B2k (-200) 200 := by unfold B2k; decide +kernel
theorem J7w {f f1 f2 fI CN CB : Addr} {fd fd1 fd2 fdI : FuncData} (D : Def K mg "plain" ["sign", "figures", "power"] B0z f fd) (D_need_between : Def K mg "need_between" ["thing", "least", "most"] A0q f1 fd1) (D2 : Def K mg "is_between" ["thing", "least", "most"] C1z f2 fd2)
   (O : Own mg) (T : Kit K) (B : Err K mg "BadNumber" CB) (N : Num K mg CN) (M : MakeN P w K mg base CN fI fdI) : FnOk P w K mg base (CX1 P w) 3 f fd ["sign", "figures", "power"] (G9v K CN CB) := by
 have G_need_between := B8m (P := P) (w := w) (base := base) D_need_between D2 O T B
 refine D.F.okE V1m (fun vs H Q E h => ?_) (fun X cdv A outer s H vs Q E hX hr hx h => ?_)
 . obtain ⟨x, y, z, rfl, _⟩ := h
   rfl
 . subst hX
   obtain ⟨x, y, z, rfl, h⟩ := h
   refine ⟨_, (A7 (Y1 (C8 D_need_between G_need_between hr hx (A0 (pv 0) (A0 A1 (A0 A1 A8)))))
     (A7 (Y1 (C8 D_need_between G_need_between hr hx (A0 (pv 1) (A0 A1 (A0 (B3 V4 (B3 V8f A1 A1) A1) A8)))))
     (A7 (Y1 (C8 D_need_between G_need_between hr hx (A0 (pv 2) (A0 (B9b B0r A1) (A0 A1 A8)))))
     (A9 (B8 (C7p M.m M.g hr rfl N.g M.b .nil J7c (A0 B0 (A0 (pv 0) (A0 (pv 1) (A0 (pv 2) A8)))))))))), ?_⟩
   have pw : V8g 10 60 := ⟨by decide, by decide, by decide⟩
   rcases h with ⟨⟨i1, rfl, l1, u1⟩, ⟨i2, rfl, l2, u2⟩, ⟨i3, rfl, l3, u3⟩, k⟩ | ⟨bad, k⟩
   . refine ⟨_, rfl, _, _, _, rfl, b01, .inl ⟨⟨i1, rfl, l1, u1⟩, ?_⟩⟩
     refine ⟨_, rfl, _, _, rfl, rfl, pw, _, _, rfl, rfl, _, _, _, rfl, b60, .inl ⟨⟨i2, rfl, l2, u2⟩, ?_⟩⟩
     refine ⟨_, rfl, _, rfl, _, _, _, rfl, Y5r, .inl ⟨⟨i3, rfl, l3, u3⟩, ?_⟩⟩
     exact ⟨_, rfl, _, rfl, _, rfl, made k⟩
   . rcases bad with bad | ⟨⟨i1, rfl, l1, u1⟩, bad | ⟨⟨i2, rfl, l2, u2⟩, bad⟩⟩
     . exact ⟨_, rfl, _, _, _, rfl, b01, .inr ⟨bad, k⟩⟩
     . refine ⟨_, rfl, _, _, _, rfl, b01, .inl ⟨⟨i1, rfl, l1, u1⟩, ?_⟩⟩
       exact ⟨_, rfl, _, _, rfl, rfl, pw, _, _, rfl, rfl, _, _, _, rfl, b60, .inr ⟨bad, k⟩⟩
     . refine ⟨_, rfl, _, _, _, rfl, b01, .inl ⟨⟨i1, rfl, l1, u1⟩, ?_⟩⟩
       refine ⟨_, rfl, _, _, rfl, rfl, pw, _, _, rfl, rfl, _, _, _, rfl, b60, .inl ⟨⟨i2, rfl, l2, u2⟩, ?_⟩⟩
       exact ⟨_, rfl, _, rfl, _, _, _, rfl, Y5r, .inr ⟨bad, k⟩⟩
def V7c (K : Frag) (CN CB : Addr) : Sp := fun vs H Q E => ∃ x, vs = [x] /\ ((A3m 0 1 x /\ ∀ n H', H n = none -> Same H H' -> NumAt CN H' n (.str "end") x (.int 0) (.int 0) -> Q (.ref n) H') \/ (C1x K H 0 1 x /\ E (.ref CB) none H))
theorem Y3h : FnScope ["sign"] ["sign"] (A3 D9y) := scK
theorem V9j {f f1 f2 fI CN CB : Addr} {fd fd1 fd2 fdI : FuncData} (D : Def K mg "end" ["sign"] D9y f fd) (D_need_between : Def K mg "need_between" ["thing", "least", "most"] A0q f1 fd1) (D2 : Def K mg "is_between" ["thing", "least", "most"] C1z f2 fd2)
   (O : Own mg) (T : Kit K) (B : Err K mg "BadNumber" CB) (N : Num K mg CN) (M : MakeN P w K mg base CN fI fdI) : FnOk P w K mg base (CX1 P w) 3 f fd ["sign"] (V7c K CN CB) := by
 have G_need_between := B8m (P := P) (w := w) (base := base) D_need_between D2 O T B
 refine D.F.okE Y3h (fun vs H Q E h => ?_) (fun X cdv A outer s H vs Q E hX hr hx h => ?_)
 . obtain ⟨x, rfl, _⟩ := h
   rfl
 . subst hX
   obtain ⟨x, rfl, h⟩ := h
   refine ⟨_, (A7 (Y1 (C8 D_need_between G_need_between hr hx (A0 (pv 0) (A0 A1 (A0 A1 A8)))))
     (A9 (B8 (C7p M.m M.g hr rfl N.g M.b .nil J7c (A0 B0 (A0 (pv 0) (A0 A1 (A0 A1 A8)))))))), ?_⟩
   rcases h with ⟨⟨i1, rfl, l1, u1⟩, k⟩ | ⟨bad, k⟩
   . refine ⟨_, rfl, _, _, _, rfl, b01, .inl ⟨⟨i1, rfl, l1, u1⟩, ?_⟩⟩
     exact ⟨_, rfl, made k⟩
   . exact ⟨_, rfl, _, _, _, rfl, b01, .inr ⟨bad, k⟩⟩
def A9p (CN : Addr) : Sp := fun vs H Q _ => vs = [] /\ ∀ n H', H n = none -> Same H H' -> NumAt CN H' n (.str "none") (.int 0) (.int 0) (.int 0) -> Q (.ref n) H'
theorem J1u : FnScope [] [] (A3 Z2) := scK
theorem D8n {f fI CN : Addr} {fd fdI : FuncData} (D : Def K mg "nothing" [] Z2 f fd) (N : Num K mg CN) (M : MakeN P w K mg base CN fI fdI) : FnOk P w K mg base (CX1 P w) 3 f fd [] (A9p CN) := by
 refine D.F.okE J1u (fun vs H Q E h => ?_) (fun X cdv A outer s H vs Q E hX hr hx h => ?_)
 . obtain ⟨rfl, _⟩ := h
   rfl
 . subst hX
   obtain ⟨rfl, k⟩ := h
   refine ⟨_, (A9 (B8 (C7p M.m M.g hr rfl N.g M.b .nil J7c (A0 B0 (A0 A1 (A0 A1 (A0 A1 A8))))))), ?_⟩
   exact made k
end
abbrev B7g : Stmt := (top 19)
section
variable {P : Program} {w : World} {K : Frag} {mg : Str -> Option Value} {base : Heap}
def D9b (CN : Addr) : Sp := fun vs H Q _ => ∃ n k s f p, vs = [.ref n] /\ NumAt CN H n k s (.int f) (.int p) /\ f.natAbs < 2 ^ 300 /\ Q (.int (p + ((Str.ofString (toString f)).length : Nat) - 1)) H
theorem V9a : FnScope ["number"] ["number"] (A3 B7g) := scK
theorem V2p {f CN : Addr} {fd : FuncData} (D : Def K mg "lead_of" ["number"] B7g f fd) (O : Own mg) (N : Num K mg CN) : FnOk P w K mg base (CX1 P w) 1 f fd ["number"] (D9b CN) := by
 refine D.F.okE V9a (fun vs H Q E h => ?_) (fun X cdv A outer s H vs Q E hX hr hx h => ?_)
 . obtain ⟨n, a, b, c, d, rfl, _⟩ := h
   rfl
 . subst hX
   obtain ⟨n, a, b, fg, pw, rfl, ⟨dx, e⟩, hf, k⟩ := h
   refine ⟨_, (A9 (B8 (B3 V4 (B3 V2 (G4 (pv 0) rfl) (V0 A1d (by rfl) O.len_ PySem.boot_len (A0 (U5 A1c (by rfl) O.str_ boot_str (A0 (G4 (pv 0) rfl) A8)) A8))) A1))), ?_⟩
   have lg : fg.natAbs.log2 < 1920 := Nat.lt_trans (B0t hf (by decide)) (by decide)
   exact ⟨_, rfl, n, CN, dx, _, _, rfl, e, N.cl, N.n4, G0a _ _ _ _, _, rfl, n, CN, dx, _, _, rfl, e, N.cl, N.n3, D4f _ _ _ _, _, rfl, lg, _, rfl, int_text_fits lg, _, _, rfl, rfl, _, _, rfl, rfl, k⟩
end
abbrev Y7 : Stmt := (top 2)
abbrev A4c : Stmt := (top 3)
theorem C8b {x k : Nat} (h : x < 2 ^ k) (hk : k <= 1048576) : Builtin.Int.intBits (x : Int) <= 2 ^ 20 := by
 unfold Builtin.Int.intBits
 split
 . exact Nat.zero_le _
 . have z : (x : Int).natAbs ≠ 0 := by
     intro z
     rename_i hz
     exact hz (by simpa using z)
   have : (x : Int).natAbs.log2 < k := (Nat.log2_lt z).mpr h
   have e : (2 : Nat) ^ 20 = 1048576 := by decide
   omega
theorem B9c {b s j n : Nat} (hb : b < 2 ^ s) (hj : j <= n) (hn : n * s < 1048576) : Builtin.Int.intBits ((b ^ j : Nat) : Int) <= 2 ^ 20 := by
 refine C8b (k := n * s + 1) ?_ hn
 have a : b ^ j <= (2 ^ s) ^ j := Nat.pow_le_pow_left (Nat.le_of_lt hb) j
 have c : (2 ^ s) ^ j <= 2 ^ (n * s) := by
   rw [<- Nat.pow_mul, Nat.mul_comm n s]
   exact Nat.pow_le_pow_right (by decide) (Nat.mul_le_mul_left s hj)
 have d : 2 ^ (n * s) < 2 ^ (n * s + 1) := Nat.pow_lt_pow_right (by decide) (by omega)
 exact Nat.lt_of_le_of_lt a (Nat.lt_of_le_of_lt c d)
theorem B3e {b s i j n : Nat} (hb : b < 2 ^ s) (hi : i <= n) (hj : j <= n) (hn : n * s < 1048576) : IntMulOk ((b ^ i : Nat) : Int) ((b ^ j : Nat) : Int) := IntMulOk.of_bits (B9c hb hi hn) (B9c hb hj hn)
section
variable {P : Program} {w : World} {K : Frag} {mg : Str -> Option Value} {base : Heap}
def B7h : Sp := fun vs H Q _ => ∃ b n s : Nat, vs = [.int (b : Int), .int (n : Int)] /\ b < 2 ^ s /\ n * s < 1048576 /\ Q (.int ((b ^ n : Nat) : Int)) H
theorem scProductOf : FnScope ["whole", "count", "product"] ["whole", "count"] (A3 Y7) := scK
theorem C8p {f : Addr} {fd : FuncData} (D : Def K mg "product_of" ["whole", "count"] Y7 f fd) : FnOk P w K mg base (CX1 P w) 1 f fd ["whole", "count"] B7h := by
 refine FnOk.up (D.F.ok scProductOf (fun vs H Q E h => ?_) (fun cdv A outer s H vs Q E hr h => ?_))
 . obtain ⟨b, n, z, rfl, _⟩ := h
   rfl
 . obtain ⟨b, n, z, rfl, hb, hn, k⟩ := h
   refine ⟨_, (A7 (C9 (i := 2) scProductOf.nd rfl (Or.inl rfl) A1)
     (A7 (J5j PassesOwn.never (C4 A3k (pv 1) A1 (B9 _)) (A7 (D9 (C4 D6 (B3 D3 (pv 1) A1) A1 (B9 _)) (A9 (C9 (i := 2) scProductOf.nd rfl (Or.inl rfl) (B3 V1 (pv 2) (pv 0)))) C6)
     (A7 (C9 (i := 0) scProductOf.nd rfl (Or.inl rfl) (B3 V1 (pv 0) (pv 0)))
     (A9 (C9 (i := 1) scProductOf.nd rfl (Or.inl rfl) (B3 G2 (pv 1) A1))))))
     (A9 (B8 (pv 2))))), ?_⟩
   have d2 : (0 : Int) < 2 /\ (2 : Int).natAbs.log2 < 9000 := ⟨by decide, by decide +kernel⟩
   refine J7b (fun σ H2 => H2 = H /\ ∃ i m c : Nat, m + i * c = n /\ σ = [some (.int ((b ^ i : Nat) : Int)), some (.int (c : Int)), some (.int ((b ^ m : Nat) : Int))]) (fun σ _ => match σ with | [_, some (.int c), _] => c.toNat | _ => 0) ?_ ?_ ?_
   . exact ⟨rfl, 1, 0, n, by omega, by rw [Nat.pow_one]; rfl⟩
   . rintro σ H2 ⟨rfl, i, m, c, hc, rfl⟩
     refine ⟨_, rfl, _, _, rfl, rfl, _, rfl, G6 (fun h0 => ?_) (fun h0 => ?_)⟩
     . have c1 : 1 <= c := by
         have : (0 : Int) < c := h0
         omega
       have hi : i <= n := Nat.le_trans (Nat.le_mul_of_pos_right i c1) (by omega)
       have hm : m <= n := by omega
       have sq : ((b ^ i : Nat) : Int) * ((b ^ i : Nat) : Int) = ((b ^ (2 * i) : Nat) : Int) := by rw [Nat.two_mul, Nat.pow_add]; rfl
       have lt : ((c : Int) / 2).toNat < (c : Int).toNat := by omega
       refine ⟨_, rfl, _, _, rfl, rfl, d2.1, rfl, _, rfl, G6 (fun ho => ?_) (fun he => ?_)⟩
       . have ho : (c : Int) % 2 = 1 := by injection ho
         have mu : ((b ^ m : Nat) : Int) * ((b ^ i : Nat) : Int) = ((b ^ (m + i) : Nat) : Int) := by rw [Nat.pow_add]; rfl
         refine ⟨_, rfl, _, rfl, _, _, rfl, rfl, B3e hb hm hi hn, _, rfl, _, rfl, _, _, rfl, rfl, B3e hb hi hi hn, _, rfl, _, _, rfl, rfl, d2, ⟨rfl, 2 * i, m + i, c / 2, ?_, ?_⟩, lt⟩
         . have e : i * c = i * (2 * (c / 2) + 1) := congrArg (i * ·) (by omega)
           rw [Nat.mul_add, Nat.mul_one, <- Nat.mul_assoc, Nat.mul_comm i 2] at e
           omega
         . show [some (V.int (((b ^ i : Nat) : Int) * ((b ^ i : Nat) : Int))), some (V.int ((c : Int) / 2)), some (V.int (((b ^ m : Nat) : Int) * ((b ^ i : Nat) : Int)))] = _
           rw [sq, mu]
           rfl
       . have he : ¬ (c : Int) % 2 = 1 := fun z => he (congrArg V.int z)
         refine ⟨_, rfl, _, rfl, _, _, rfl, rfl, B3e hb hi hi hn, _, rfl, _, _, rfl, rfl, d2, ⟨rfl, 2 * i, m, c / 2, ?_, ?_⟩, lt⟩
         . have e : i * c = i * (2 * (c / 2)) := congrArg (i * ·) (by omega)
           rw [<- Nat.mul_assoc, Nat.mul_comm i 2] at e
           omega
         . show [some (V.int (((b ^ i : Nat) : Int) * ((b ^ i : Nat) : Int))), some (V.int ((c : Int) / 2)), some (V.int ((b ^ m : Nat) : Int))] = _
           rw [sq]
           rfl
     . have c0 : c = 0 := by
         have : ¬ (0 : Int) < c := h0
         omega
       subst c0
       have hm : m = n := by omega
       subst hm
       exact ⟨_, rfl, k⟩
   . rintro σ H2 Q1 Q2 hQ ⟨v, e, i, j, e1, e2, b, e3, q⟩
     exact ⟨v, e, i, j, e1, e2, b, e3, hQ _ _ q⟩
def C7z : Sp := fun vs H Q _ => ∃ n : Nat, vs = [.int (n : Int)] /\ n <= 4000 /\ Q (.int ((10 ^ n : Nat) : Int)) H
theorem V2n : FnScope ["count"] ["count"] (A3 A4c) := scK
theorem J7f {f f1 : Addr} {fd fd1 : FuncData} (D : Def K mg "ten_to" ["count"] A4c f fd) (D_product_of : Def K mg "product_of" ["whole", "count"] Y7 f1 fd1) (G_product_of : FnOk P w K mg base (CX1 P w) 1 f1 fd1 ["whole", "count"] B7h) : FnOk P w K mg base (CX1 P w) 2 f fd ["count"] C7z := by
 refine FnOk.up (D.F.ok V2n (fun vs H Q E h => ?_) (fun cdv A outer s H vs Q E hr h => ?_))
 . obtain ⟨n, rfl, _⟩ := h
   rfl
 . obtain ⟨n, rfl, hn, k⟩ := h
   have hx : G3 (A2j CX0 P w K mg base ["count"] "ten_to" (A3 A4c) f cdv A outer s H E).nox EKF := B2j
   refine ⟨_, (A9 (B8 (C8 D_product_of G_product_of hr hx (A0 A1 (A0 (pv 0) A8))))), ?_⟩
   exact ⟨_, rfl, 10, n, 4, rfl, by decide, by omega, k⟩
end
inductive Kd where
 | plain | end_ | none
def Kd.str : Kd -> Str
 | .plain => "plain"
 | .end_ => "end"
 | .none => "none"
theorem Kd.str_inj {a b : Kd} (h : a.str = b.str) : a = b := by
 cases a <;> cases b <;> first | rfl | exact absurd h (by decide +kernel)
structure Nm where
 k : Kd
 s : Int
 f : Int
 p : Int
def Nm.vs (x : Nm) : List V := [.str x.k.str, .int x.s, .int x.f, .int x.p]
structure Nm.Ok (x : Nm) : Prop where
 s0 : 0 <= x.s
 s1 : x.s <= 1
 f0 : 0 <= x.f
 f1 : x.f <= 10 ^ 60 - 1
 p0 : -200 <= x.p
 p1 : x.p <= 200
def NumIs (CN : Addr) (H : Hp) (n : Addr) (x : Nm) : Prop := NumAt CN H n (.str x.k.str) (.int x.s) (.int x.f) (.int x.p)
theorem NumIs.same {CN : Addr} {H H' : Hp} {n : Addr} {x : Nm} (h : NumIs CN H n x) (e : Same H H') : NumIs CN H' n x := NumAt.same h e
structure NumsAt (CN : Addr) (H : Hp) (l : Addr) (ns : List (Addr × Nm)) : Prop where
 l : H l = some (.lst (ns.map fun p => V.ref p.1))
 n : ∀ p ∈ ns, NumIs CN H p.1 p.2
def D5 (n : Int) : Int := ((10 ^ n.toNat : Nat) : Int)
theorem A0s (n : Int) : 0 < D5 n := Int.natCast_pos.mpr (Nat.pow_pos (by decide))
theorem neS {a b : Kd} (h : ¬ V.str a.str = V.str b.str) : a ≠ b := fun q => h (by rw [q])
theorem eqS {a b : Kd} (h : V.str a.str = V.str b.str) : a = b := Kd.str_inj (by injection h)
theorem J1f {d : Int} (h : d <= 4000) : Builtin.Int.intBits (D5 d) <= 2 ^ 20 := B9c (b := 10) (s := 4) (n := 4000) (by decide) (by omega) (by decide)
def V3 (left low : Int) : Int := (if decide (0 < left) = true then 1 else 0) + (if decide (low <= 2 * left) = true then 1 else 0) + (if decide (low < 2 * left) = true then 1 else 0)
theorem Y3k (s : Int) : (if (0 : Int) > s then 0 else s) = ((s.toNat : Nat) : Int) := by
 by_cases h : (0 : Int) > s
 . rw [if_pos h]; omega
 . rw [if_neg h]; omega
theorem B7z {a b : Int} (h : a <= b) : D5 a <= D5 b := by
 unfold D5
 exact Int.ofNat_le.mpr (Nat.pow_le_pow_right (by decide) (by omega))
def Sz (t : Int) : Prop := 1 <= t /\ t < D5 1000
theorem J0c (n : Nat) : 10 ^ n <= 2 ^ (4 * n) := by
 rw [Nat.pow_mul]
 exact Nat.pow_le_pow_left (by decide) n
theorem D4c (n : Nat) : 10 ^ (3 * n) <= 2 ^ (10 * n) := by
 rw [Nat.pow_mul, Nat.pow_mul]
 exact Nat.pow_le_pow_left (by decide) n
theorem Sz.nat {t : Int} (h : Sz t) : ∃ n : Nat, t = (n : Int) /\ 1 <= n /\ n < 10 ^ 1000 := by
 obtain ⟨n, rfl⟩ := Int.eq_ofNat_of_zero_le (show 0 <= t by have := h.1; omega)
 exact ⟨n, rfl, Int.ofNat_le.mp h.1, Int.ofNat_lt.mp h.2⟩
theorem C7g {t s : Int} (ht : Sz t) (h : s <= 1500) : ∃ n : Nat, t * D5 s = (n : Int) /\ n < 10 ^ 2502 := by
 obtain ⟨n, rfl, _, hn⟩ := ht.nat
 refine ⟨n * 10 ^ s.toNat, rfl, ?_⟩
 have a : 10 ^ s.toNat <= 10 ^ 1502 := Nat.pow_le_pow_right (by decide) (by omega)
 calc n * 10 ^ s.toNat <= n * 10 ^ 1502 := Nat.mul_le_mul_left n a
   _ < 10 ^ 1000 * 10 ^ 1502 := Nat.mul_lt_mul_of_pos_right hn (Nat.pow_pos (by decide))
   _ = 10 ^ 2502 := by rw [<- Nat.pow_add]
theorem D5m {n : Nat} (h : n < 10 ^ 2502) : Builtin.Int.intBits (n : Int) <= 2 ^ 20 := C8b (k := 4 * 2502) (Nat.lt_of_lt_of_le h (J0c 2502)) (by decide)
theorem V1z {t : Int} (h : Sz t) : Builtin.Int.intBits t <= 2 ^ 20 := by
 obtain ⟨n, rfl, _, hn⟩ := h.nat
 exact C8b (k := 4 * 1000) (Nat.lt_of_lt_of_le hn (J0c 1000)) (by decide)
theorem D9u {t s : Int} (ht : Sz t) (h : s <= 1500) : IntMulOk t (D5 s) := IntMulOk.of_bits (V1z ht) (J1f (by omega))
theorem J8p {b s : Int} (hb : Sz b) (h : s <= 1500) : (b * D5 s).natAbs.log2 < 9000 := by
 obtain ⟨n, e, hn⟩ := C7g hb h
 rw [e]
 have : n < 2 ^ 8340 := Nat.lt_of_lt_of_le hn (D4c 834)
 exact Nat.lt_trans (B0t (i := (n : Int)) (k := 8340) (by rw [Int.natAbs_natCast]; exact this) (by decide)) (by decide)
def whI (t b s : Int) : Int := t * D5 s / (b * D5 (-s))
def ptI (t b s : Int) : Int := V3 (t * D5 s - whI t b s * (b * D5 (-s))) (b * D5 (-s))
theorem V1y {t b s : Int} (hb : 0 < b) : 0 <= t * D5 s - whI t b s * (b * D5 (-s)) /\ t * D5 s - whI t b s * (b * D5 (-s)) < b * D5 (-s) := by
 have l := Int.mul_pos hb (A0s (-s))
 have e := Int.emod_add_mul_ediv (t * D5 s) (b * D5 (-s))
 have a := Int.emod_nonneg (t * D5 s) (Int.ne_of_gt l)
 have c := Int.emod_lt_of_pos (t * D5 s) l
 have e2 : whI t b s * (b * D5 (-s)) = b * D5 (-s) * (t * D5 s / (b * D5 (-s))) := Int.mul_comm _ _
 omega
theorem Y4z {t b s : Int} (ht : Sz t) (hb : Sz b) (h1 : -1500 <= s) (h2 : s <= 1500) : IntMulOk (whI t b s) (b * D5 (-s)) := by
 obtain ⟨n, e, hn⟩ := C7g hb (s := -s) (by omega)
 obtain ⟨k, e', hk⟩ := C7g ht h2
 unfold whI
 rw [e, e']
 exact IntMulOk.of_bits (D5m (Nat.lt_of_le_of_lt (Nat.div_le_self k n) hk)) (D5m hn)
abbrev A4h : Stmt := (G5 (top 6) 0)
structure RatC (K : Frag) (mg : Str -> Option Value) (CR CE : Addr) : Prop where
 g : mg "Ratio" = some (.ref CR)
 ge : mg "Exact" = some (.ref CE)
 cl : Cls K CR
 n_top : NoAttr K CR "top"
 n_bottom : NoAttr K CR "bottom"
 n_power : NoAttr K CR "power"
 ca : findIn K (.ref CR) "__class__" = some (some (.builtin "object.__class__"))
 sn : specialIn K (.builtin "object.__class__") "__get__" = some (some (.builtin "getset_descriptor.__get__"))
 tk : takesIn K (.builtin "object.__class__") = some true
 ob : mroIn K CR (.type "object") = some true
 up : kitOne K (.ref CR) (.ref CE) = some true
def D5h (t b n : V) : List (Str × V) := U6 "power" n (U6 "bottom" b (U6 "top" t []))
theorem C7w (t b n : V) (x : Str) : (D5h t b n).lookup x = if x = "power" then some n else if x = "bottom" then some b else if x = "top" then some t else none := by
 unfold D5h
 rw [D0, D0, D0]
 rfl
theorem V4k (t b n : V) : (D5h t b n).lookup ("top" : Str) = some t := by rw [C7w, if_neg (by decide +kernel), if_neg (by decide +kernel), if_pos rfl]
theorem D8f (t b n : V) : (D5h t b n).lookup ("bottom" : Str) = some b := by rw [C7w, if_neg (by decide +kernel), if_pos rfl]
theorem J2c (t b n : V) : (D5h t b n).lookup ("power" : Str) = some n := by rw [C7w, if_pos rfl]
theorem J1x (t b n : V) : (D5h t b n).lookup ("at" : Str) = none := by rw [C7w, if_neg (by decide +kernel), if_neg (by decide +kernel), if_neg (by decide +kernel)]
def V6v (CR : Addr) (H : Hp) (x : Addr) (t b n : Int) : Prop := ∃ dx, H x = some (.ins CR dx (D5h (.int t) (.int b) (.int n)))
section
variable {P : Program} {w : World} {K : Frag} {mg : Str -> Option Value} {base : Heap}
def C7u (CR : Addr) : Sp := fun vs H Q _ => ∃ (p dx : Addr) (t b n : V), vs = [.ref p, t, b, n] /\ H p = some (.ins CR dx []) /\ ∀ H', H' p = some (.ins CR dx (D5h t b n)) -> Exc p H H' -> Q .non H'
theorem V4c : FnScope ["self", "top", "bottom", "power"] ["self", "top", "bottom", "power"] (A3 A4h) := scK
theorem J8j {f CR CE : Addr} {fd : FuncData} {dV : Value} (F : FunD K "__init__" "Ratio.__init__" A4h dV f fd) (R : RatC K mg CR CE) : FnOk P w K mg base (CX1 P w) 1 f fd ["self", "top", "bottom", "power"] (C7u CR) := by
 refine F.okE V4c (fun vs H Q E h => ?_) (fun X cdv A outer s H vs Q E hX hr hx h => ?_)
 . obtain ⟨p, dx, a, b, c, rfl, _⟩ := h
   rfl
 . subst hX
   obtain ⟨p, dx, a, b, c, rfl, hp, k⟩ := h
   refine ⟨_, (A7 (Y8 (pv 0) (pv 1) rfl)
     (A7 (Y8 (pv 0) (pv 2) rfl)
     (A9 (Y8 (pv 0) (pv 3) rfl)))), ?_⟩
   have l : ∀ (fs : List (Str × V)) (f : Str) (v : V) (n : Nat), fs.length <= n -> (U6 f v fs).length <= n + 1 := fun fs f v n h => Nat.le_trans (A0n f v fs) (Nat.succ_le_succ h)
   refine ⟨_, rfl, _, rfl, p, CR, dx, [], rfl, hp, R.cl, R.n_top, (by show 0 < 1000; decide), ?_⟩
   refine ⟨_, rfl, _, rfl, p, CR, dx, _, rfl, A6, R.cl, R.n_bottom, Nat.lt_of_le_of_lt (l _ _ _ 0 (Nat.le_refl _)) (by decide), ?_⟩
   refine ⟨_, rfl, _, rfl, p, CR, dx, _, rfl, A6, R.cl, R.n_power, Nat.lt_of_le_of_lt (l _ _ _ 1 (l _ _ _ 0 (Nat.le_refl _))) (by decide), ?_⟩
   refine k _ A6 fun b o e hb => ?_
   rw [B4 hb, B4 hb, B4 hb]
   exact e
def V7e (CR : Addr) : Sp := fun vs H Q _ => ∃ x t b n p, vs = [.ref x, .int p] /\ V6v CR H x t b n /\ Sz t /\ Sz b /\ -1500 <= n - p /\ n - p <= 1500 /\
 ∀ q H', Same H H' -> H q = none -> H' q = some (.tup [.int (whI t b (n - p)), .int (ptI t b (n - p))]) -> Q (.ref q) H'
structure MakeR (P : Program) (w : World) (K : Frag) (mg : Str -> Option Value) (base : Heap) (CR fI : Addr) (fdI : FuncData) (d0 : Value) (gP : List Value -> List Value -> List Value) (vP : List V -> List V -> List V) : Prop where
 m : Mk K CR fI
 g : FnOk P w K mg base (CX1 P w) 1 fI fdI ["self", "top", "bottom", "power"] (C7u CR)
 b3 : Binds K fdI ["self", "top", "bottom", "power"] []
 b2 : Binds K fdI ["self", "top", "bottom", "power"] [d0]
 r0 : RelV (.int 0) d0
 kP : KBinds K fdI ["self", "top", "bottom", "power"] ["power"] gP vP
 eP : ∀ x a b c, vP [x, a, b] [c] = [x, a, b, c]
theorem Y4w {CR x dx : Addr} {H : Hp} {Q : VK} {E : XK} {t b n : Int} (n1 : H x = none) (n2 : H dx = none) (ne : dx ≠ x) (k : ∀ H', Same H H' -> V6v CR H' x t b n -> Q .non H') :
   C7u CR [.ref x, .int t, .int b, .int n] (upd (upd H dx (.own x)) x (.ins CR dx [])) Q E :=
 ⟨x, dx, _, _, _, rfl, A6, fun H' e s => k H' (fun c o z => s c o (by rw [B4 (C5 z n1), B4 (C5 z n2)]; exact z) (C5 z n1)) ⟨dx, e⟩⟩
end
abbrev A4e : Stmt := (top 7)
section
variable {P : Program} {w : World} {K : Frag} {mg : Str -> Option Value} {base : Heap}
def D5q : Sp := fun vs H Q _ => ∃ l m : Int, vs = [.int (2 * l), .int m] /\ 0 <= l /\ 0 < m /\ Q (.int (V3 l m)) H
theorem J6s : FnScope ["size", "middle"] ["size", "middle"] (A3 A4e) := scK
theorem V2h {m : Int} (hm : 0 < m) : V3 0 m = 0 := by
 unfold V3
 rw [decide_eq_false (by omega : ¬ (0 : Int) < 0), decide_eq_false (by omega : ¬ m <= 2 * 0), decide_eq_false (by omega : ¬ m < 2 * 0)]
 rfl
theorem V2z {l m : Int} (hl : 0 < l) (h : 2 * l < m) : V3 l m = 1 := by
 unfold V3
 rw [decide_eq_true hl, decide_eq_false (by omega : ¬ m <= 2 * l), decide_eq_false (by omega : ¬ m < 2 * l)]
 rfl
theorem V3b {l m : Int} (hl : 0 < l) (h : 2 * l = m) : V3 l m = 2 := by
 unfold V3
 rw [decide_eq_true hl, decide_eq_true (by omega : m <= 2 * l), decide_eq_false (by omega : ¬ m < 2 * l)]
 rfl
theorem V1t {l m : Int} (hl : 0 < l) (h : m < 2 * l) : V3 l m = 3 := by
 unfold V3
 rw [decide_eq_true hl, decide_eq_true (by omega : m <= 2 * l), decide_eq_true h]
 rfl
theorem J2h {f : Addr} {fd : FuncData} (D : Def K mg "part_of" ["size", "middle"] A4e f fd) : FnOk P w K mg base (CX1 P w) 1 f fd ["size", "middle"] D5q := by
 refine FnOk.up (D.F.ok J6s (fun vs H Q E h => ?_) (fun cdv A outer s H vs Q E hr h => ?_))
 . obtain ⟨l, m, rfl, _⟩ := h
   rfl
 . obtain ⟨l, m, rfl, hl, hm, k⟩ := h
   refine ⟨_, (A7 (D9 (C4 D6 (pv 0) A1 (B9 _)) (A9 (B8 A1)) C6)
     (A7 (D9 (C4 D4u (pv 0) (pv 1) (B9 _)) (A9 (B8 A1)) C6)
     (A9 (B8 (A2a (C4 D6 (pv 0) (pv 1) (B9 _)) A1 A1))))), ?_⟩
   refine ⟨_, rfl, rfl, _, rfl, G6 (fun h0 => ?_) (fun h0 => ?_)⟩
   . have e : l = 0 := by
       have : 2 * l = 0 := by injection h0
       omega
     subst e
     rw [V2h hm] at k
     exact k
   . have hl' : 0 < l := by
       apply Classical.byContradiction
       intro z
       exact h0 (by rw [show l = 0 by omega]; rfl)
     refine ⟨_, rfl, _, rfl, _, _, rfl, rfl, _, rfl, G6 (fun h1 => ?_) (fun h1 => ?_)⟩
     . rw [V2z hl' h1] at k
       exact k
     . refine ⟨_, rfl, _, rfl, rfl, _, rfl, G6 (fun h2 => ?_) (fun h2 => ?_)⟩
       . rw [V3b hl' (by injection h2)] at k
         exact k
       . rw [V1t hl' (by
           have : 2 * l ≠ m := fun z => h2 (by rw [z])
           omega)] at k
         exact k
end
section
variable {P : Program} {w : World} {K : Frag} {mg : Str -> Option Value} {base : Heap}
end
abbrev B8z : Stmt := (G5 (top 6) 2)
section
variable {P : Program} {w : World} {K : Frag} {mg : Str -> Option Value} {base : Heap}
theorem scRAt : FnScope ["self", "power", "shift", "top", "bottom", "whole"] ["self", "power"] (A3 B8z) := scK
theorem V8u {f f1 f2 CR CE : Addr} {fd fd1 fd2 : FuncData} (F : Fun K "at" "Ratio.at" B8z f fd) (D_ten_to : Def K mg "ten_to" ["count"] A4c f1 fd1) (G_ten_to : FnOk P w K mg base (CX1 P w) 2 f1 fd1 ["count"] C7z)
   (D_part_of : Def K mg "part_of" ["size", "middle"] A4e f2 fd2) (G_part_of : FnOk P w K mg base (CX1 P w) 1 f2 fd2 ["size", "middle"] D5q) (R : RatC K mg CR CE) (O : Own mg) : FnOk P w K mg base (CX1 P w) 3 f fd ["self", "power"] (V7e CR) := by
 refine FnOk.up (F.ok scRAt (fun vs H Q E h => ?_) (fun cdv A outer s H vs Q E hr h => ?_))
 . obtain ⟨x, t, b, n, p, rfl, _⟩ := h
   rfl
 . obtain ⟨x, t, b, n, p, rfl, ⟨dx, e⟩, ht, hb, h1, h2, k⟩ := h
   have hx : G3 (A2j CX0 P w K mg base ["self", "power", "shift", "top", "bottom", "whole"] "Ratio.at" (A3 B8z) f cdv A outer s H E).nox EKF := B2j
   refine ⟨_, (A7 (C9 (i := 2) scRAt.nd rfl (Or.inl rfl) (B3 V4 (G4 (pv 0) rfl) (pv 1)))
     (A7 (C9 (i := 3) scRAt.nd rfl (Or.inl rfl) (B3 V1 (G4 (pv 0) rfl) (C8 D_ten_to G_ten_to hr hx (A0 (V0 (A3p rfl) (by rfl) O.max_ boot_max (A0 (pv 2) (A0 A1 A8))) A8))))
     (A7 (C9 (i := 4) scRAt.nd rfl (Or.inl rfl) (B3 V1 (G4 (pv 0) rfl) (C8 D_ten_to G_ten_to hr hx (A0 (V0 (A3p rfl) (by rfl) O.max_ boot_max (A0 (B9b B0r (pv 2)) (A0 A1 A8))) A8))))
     (A7 (C9 (i := 5) scRAt.nd rfl (Or.inl rfl) (B3 G2 (pv 3) (pv 4)))
     (A9 (B8 (G8 (A0 (pv 5) (A0 (C8 D_part_of G_part_of hr hx (A0 (B3 V1 A1 (B3 V4 (pv 3) (B3 V1 (pv 5) (pv 4)))) (A0 (pv 4) A8))) A8))))))))), ?_⟩
   have z2 : 2 <= sizeLine := C7 (by decide)
   have mC' : ∀ z n : Int, -(2 ^ 64) < n -> n < 2 ^ 64 -> IntMulOk n z := fun z n a b => CMul.ok (.inl ⟨a, b⟩)
   have hb0 : 0 < b := by have := hb.1; omega
   refine ⟨_, rfl, x, CR, dx, _, _, rfl, e, R.cl, R.n_power, J2c _ _ _, _, rfl, _, _, rfl, rfl, ?_⟩
   refine ⟨_, rfl, x, CR, dx, _, _, rfl, e, R.cl, R.n_top, V4k _ _ _, _, rfl, _, _, rfl, (n - p).toNat, congrArg (fun z => [V.int z]) (Y3k (n - p)), by omega, _, _, rfl, rfl, D9u ht h2, ?_⟩
   refine ⟨_, rfl, x, CR, dx, _, _, rfl, e, R.cl, R.n_bottom, D8f _ _ _, _, rfl, _, rfl, _, _, rfl, (-(n - p)).toNat, congrArg (fun z => [V.int z]) (Y3k (-(n - p))), by omega, _, _, rfl, rfl, D9u hb (by omega), ?_⟩
   have lp : 0 < b * D5 (-(n - p)) := Int.mul_pos hb0 (A0s _)
   have ll : (b * D5 (-(n - p))).natAbs.log2 < 9000 := J8p hb (by omega)
   refine ⟨_, rfl, _, rfl, _, _, rfl, rfl, ⟨lp, ll⟩, ?_⟩
   have lf := V1y (t := t) (s := n - p) hb0
   refine ⟨_, rfl, _, rfl, _, rfl, _, rfl, _, _, rfl, rfl, Y4z ht hb h1 h2, _, _, rfl, rfl, _, _, rfl, rfl, mC' _ _ (by decide) (by decide), _, rfl, _, _, rfl, lf.1, lp, z2, fun q nq => k q _ (Same.upd nq) nq A6⟩
end
section
variable {P : Program} {w : World} {K : Frag} {mg : Str -> Option Value} {base : Heap}
end
inductive Wy where
 | down
 | up
 | floor
 | ceiling
 | halfUp
 | halfDown
 | halfEven
 | fiveUp
def Wy.name : Wy -> Str
 | .down => "down"
 | .up => "up"
 | .floor => "floor"
 | .ceiling => "ceiling"
 | .halfUp => "half up"
 | .halfDown => "half down"
 | .halfEven => "half even"
 | .fiveUp => "five up"
def Wy.cls : Wy -> Str
 | .down => "Down"
 | .up => "Up"
 | .floor => "Floor"
 | .ceiling => "Ceiling"
 | .halfUp => "HalfUp"
 | .halfDown => "HalfDown"
 | .halfEven => "HalfEven"
 | .fiveUp => "FiveUp"
theorem Wy.inj {a b : Wy} (h : a.name = b.name) : a = b := by
 cases a <;> cases b <;> first | rfl | exact absurd h (by decide +kernel)
structure WayC (K : Frag) (mg : Str -> Option Value) (x : Str) (C CW : Addr) : Prop where
 g : mg x = some (.ref C)
 cl : Cls K C
 mk0 : Mk0 K C
 ca : findIn K (.ref C) "__class__" = some (some (.builtin "object.__class__"))
 sn : specialIn K (.builtin "object.__class__") "__get__" = some (some (.builtin "getset_descriptor.__get__"))
 tk : takesIn K (.builtin "object.__class__") = some true
 ob : mroIn K C (.type "object") = some true
 up : kitOne K (.ref C) (.ref CW) = some true
section
variable {P : Program} {w : World} {K : Frag} {mg : Str -> Option Value} {base : Heap}
def A4d (s : Str) : Sp := fun vs H Q _ => ∃ p, vs = [.ref p] /\ Q (.str s) H
def Y5t (P : Program) (w : World) (K : Frag) (mg : Str -> Option Value) (base : Heap) (C : Addr) (s : Str) : Prop := Has P w K mg base C "name" 1 ["self"] (A4d s)
abbrev sN0 : Stmt := (G5 (top 38) 0)
theorem Y7s : FnScope ["self"] ["self"] (A3 sN0) := scK
theorem Y4g {f : Addr} {fd : FuncData} (F : Fun K "name" "Down.name" sN0 f fd) : FnOk P w K mg base (CX1 P w) 1 f fd ["self"] (A4d "down") := by
 refine FnOk.up (F.ok Y7s (fun vs H Q E h => ?_) (fun cdv A outer s H vs Q E hr h => ?_))
 . obtain ⟨p, rfl, _⟩ := h
   rfl
 . obtain ⟨p, rfl, k⟩ := h
   exact ⟨_, A9 (B8 B0), k⟩
abbrev sN1 : Stmt := (G5 (top 39) 0)
theorem Y9b : FnScope ["self"] ["self"] (A3 sN1) := scK
theorem Y5g {f : Addr} {fd : FuncData} (F : Fun K "name" "Up.name" sN1 f fd) : FnOk P w K mg base (CX1 P w) 1 f fd ["self"] (A4d "up") := by
 refine FnOk.up (F.ok Y9b (fun vs H Q E h => ?_) (fun cdv A outer s H vs Q E hr h => ?_))
 . obtain ⟨p, rfl, _⟩ := h
   rfl
 . obtain ⟨p, rfl, k⟩ := h
   exact ⟨_, A9 (B8 B0), k⟩
abbrev sN2 : Stmt := (G5 (top 40) 0)
theorem Y8n : FnScope ["self"] ["self"] (A3 sN2) := scK
theorem Y5a {f : Addr} {fd : FuncData} (F : Fun K "name" "Floor.name" sN2 f fd) : FnOk P w K mg base (CX1 P w) 1 f fd ["self"] (A4d "floor") := by
 refine FnOk.up (F.ok Y8n (fun vs H Q E h => ?_) (fun cdv A outer s H vs Q E hr h => ?_))
 . obtain ⟨p, rfl, _⟩ := h
   rfl
 . obtain ⟨p, rfl, k⟩ := h
   exact ⟨_, A9 (B8 B0), k⟩
abbrev sN3 : Stmt := (G5 (top 41) 0)
theorem Y7x : FnScope ["self"] ["self"] (A3 sN3) := scK
theorem Y4t {f : Addr} {fd : FuncData} (F : Fun K "name" "Ceiling.name" sN3 f fd) : FnOk P w K mg base (CX1 P w) 1 f fd ["self"] (A4d "ceiling") := by
 refine FnOk.up (F.ok Y7x (fun vs H Q E h => ?_) (fun cdv A outer s H vs Q E hr h => ?_))
 . obtain ⟨p, rfl, _⟩ := h
   rfl
 . obtain ⟨p, rfl, k⟩ := h
   exact ⟨_, A9 (B8 B0), k⟩
abbrev sN4 : Stmt := (G5 (top 42) 0)
theorem Y8j : FnScope ["self"] ["self"] (A3 sN4) := scK
theorem Y5e {f : Addr} {fd : FuncData} (F : Fun K "name" "HalfUp.name" sN4 f fd) : FnOk P w K mg base (CX1 P w) 1 f fd ["self"] (A4d "half up") := by
 refine FnOk.up (F.ok Y8j (fun vs H Q E h => ?_) (fun cdv A outer s H vs Q E hr h => ?_))
 . obtain ⟨p, rfl, _⟩ := h
   rfl
 . obtain ⟨p, rfl, k⟩ := h
   exact ⟨_, A9 (B8 B0), k⟩
abbrev sN5 : Stmt := (G5 (top 43) 0)
theorem Y8x : FnScope ["self"] ["self"] (A3 sN5) := scK
theorem Y3u {f : Addr} {fd : FuncData} (F : Fun K "name" "HalfDown.name" sN5 f fd) : FnOk P w K mg base (CX1 P w) 1 f fd ["self"] (A4d "half down") := by
 refine FnOk.up (F.ok Y8x (fun vs H Q E h => ?_) (fun cdv A outer s H vs Q E hr h => ?_))
 . obtain ⟨p, rfl, _⟩ := h
   rfl
 . obtain ⟨p, rfl, k⟩ := h
   exact ⟨_, A9 (B8 B0), k⟩
abbrev sN6 : Stmt := (G5 (top 44) 0)
theorem Y9n : FnScope ["self"] ["self"] (A3 sN6) := scK
theorem Y5s {f : Addr} {fd : FuncData} (F : Fun K "name" "HalfEven.name" sN6 f fd) : FnOk P w K mg base (CX1 P w) 1 f fd ["self"] (A4d "half even") := by
 refine FnOk.up (F.ok Y9n (fun vs H Q E h => ?_) (fun cdv A outer s H vs Q E hr h => ?_))
 . obtain ⟨p, rfl, _⟩ := h
   rfl
 . obtain ⟨p, rfl, k⟩ := h
   exact ⟨_, A9 (B8 B0), k⟩
abbrev sN7 : Stmt := (G5 (top 45) 0)
theorem Y8c : FnScope ["self"] ["self"] (A3 sN7) := scK
theorem Y3t {f : Addr} {fd : FuncData} (F : Fun K "name" "FiveUp.name" sN7 f fd) : FnOk P w K mg base (CX1 P w) 1 f fd ["self"] (A4d "five up") := by
 refine FnOk.up (F.ok Y8c (fun vs H Q E h => ?_) (fun cdv A outer s H vs Q E hr h => ?_))
 . obtain ⟨p, rfl, _⟩ := h
   rfl
 . obtain ⟨p, rfl, k⟩ := h
   exact ⟨_, A9 (B8 B0), k⟩
def V7h (K : Frag) (H : Hp) (v : V) : Prop := ∃ t b, TyE K H v t /\ kitOne K t (.type "str") = some b /\ (b = false \/ ∃ z, v = .str z /\ ∀ y : Wy, z ≠ y.name)
theorem A7u {C : Addr} {σ : L2.St} {H : Hp} {Q : VK} (k : ∀ p dx H', H p = none -> Same H H' -> H' p = some (.ins C dx []) -> Q (.ref p) H') : V9w C σ H Q := fun x dx n1 n2 ne =>
 k x dx _ n1 ((Same.upd n2).trans (Same.upd (by rw [B4 (Ne.symm ne)]; exact n1))) A6
abbrev A7c : Stmt := (top 46)
def C7h (K : Frag) (CB : Addr) (cw : Wy -> Addr) : Sp := fun vs H Q E => ∃ v, vs = [v] /\ ((∃ y : Wy, v = .str y.name /\ ∀ p dx H', H p = none -> Same H H' -> H' p = some (.ins (cw y) dx []) -> Q (.ref p) H') \/ (V7h K H v /\ E (.ref CB) none H))
theorem V3x : FnScope ["name"] ["name"] (A3 A7c) := scK
theorem J5r {f CB CW : Addr} {cw : Wy -> Addr} {fd : FuncData} (D : Def K mg "way_of" ["name"] A7c f fd) (O : Own mg) (T : Kit K) (B : Err K mg "BadContext" CB) (W : ∀ y : Wy, WayC K mg y.cls (cw y) CW) :
   FnOk P w K mg base (CX1 P w) 1 f fd ["name"] (C7h K CB cw) := by
 refine D.F.okE V3x (fun vs H Q E h => ?_) (fun X cdv A outer s H vs Q E hX hr hx h => ?_)
 . obtain ⟨v, rfl, _⟩ := h
   rfl
 . subst hX
   obtain ⟨v, rfl, h⟩ := h
   refine ⟨_, (A7 (D9 (A7s (Y6 (J2y O.isi (pv 0) (pty O.str_ boot_str)))) (A9 (A1v (by rfl) B.g B.q PySem.F.excBase_ValueError hr.hd hx (A0 B0 A8))) C6)
     (A7 (D9 (C4 D6 (pv 0) B0 (B9 _)) (A9 (B8 (A7p (W .down).mk0 rfl (W .down).g))) C6)
     (A7 (D9 (C4 D6 (pv 0) B0 (B9 _)) (A9 (B8 (A7p (W .up).mk0 rfl (W .up).g))) C6)
     (A7 (D9 (C4 D6 (pv 0) B0 (B9 _)) (A9 (B8 (A7p (W .floor).mk0 rfl (W .floor).g))) C6)
     (A7 (D9 (C4 D6 (pv 0) B0 (B9 _)) (A9 (B8 (A7p (W .ceiling).mk0 rfl (W .ceiling).g))) C6)
     (A7 (D9 (C4 D6 (pv 0) B0 (B9 _)) (A9 (B8 (A7p (W .halfUp).mk0 rfl (W .halfUp).g))) C6)
     (A7 (D9 (C4 D6 (pv 0) B0 (B9 _)) (A9 (B8 (A7p (W .halfDown).mk0 rfl (W .halfDown).g))) C6)
     (A7 (D9 (C4 D6 (pv 0) B0 (B9 _)) (A9 (B8 (A7p (W .halfEven).mk0 rfl (W .halfEven).g))) C6)
     (A7 (D9 (C4 D6 (pv 0) B0 (B9 _)) (A9 (B8 (A7p (W .fiveUp).mk0 rfl (W .fiveUp).g))) C6)
     (A9 (A1v (by rfl) B.g B.q PySem.F.excBase_ValueError hr.hd hx (A0 B0 A8)))))))))))), ?_⟩
   have z1 : 1 <= sizeLine := C7 (by decide)
   rcases h with ⟨y, rfl, k⟩ | ⟨⟨t, b, ty, kk, bad⟩, k⟩
   . refine ⟨_, rfl, _, _, _, _, true, rfl, rfl, J6t _, T.str_str, _, rfl, U4 ?_⟩
     refine ⟨_, rfl, rfl, _, rfl, G6 (fun e => ?_) (fun n0 => ?_)⟩
     . have q : y = .down := Wy.inj (V.str.inj (e : V.str y.name = V.str (Wy.name .down)))
       subst q
       exact A7u k
     refine ⟨_, rfl, rfl, _, rfl, G6 (fun e => ?_) (fun n1 => ?_)⟩
     . have q : y = .up := Wy.inj (V.str.inj (e : V.str y.name = V.str (Wy.name .up)))
       subst q
       exact A7u k
     refine ⟨_, rfl, rfl, _, rfl, G6 (fun e => ?_) (fun n2 => ?_)⟩
     . have q : y = .floor := Wy.inj (V.str.inj (e : V.str y.name = V.str (Wy.name .floor)))
       subst q
       exact A7u k
     refine ⟨_, rfl, rfl, _, rfl, G6 (fun e => ?_) (fun n3 => ?_)⟩
     . have q : y = .ceiling := Wy.inj (V.str.inj (e : V.str y.name = V.str (Wy.name .ceiling)))
       subst q
       exact A7u k
     refine ⟨_, rfl, rfl, _, rfl, G6 (fun e => ?_) (fun n4 => ?_)⟩
     . have q : y = .halfUp := Wy.inj (V.str.inj (e : V.str y.name = V.str (Wy.name .halfUp)))
       subst q
       exact A7u k
     refine ⟨_, rfl, rfl, _, rfl, G6 (fun e => ?_) (fun n5 => ?_)⟩
     . have q : y = .halfDown := Wy.inj (V.str.inj (e : V.str y.name = V.str (Wy.name .halfDown)))
       subst q
       exact A7u k
     refine ⟨_, rfl, rfl, _, rfl, G6 (fun e => ?_) (fun n6 => ?_)⟩
     . have q : y = .halfEven := Wy.inj (V.str.inj (e : V.str y.name = V.str (Wy.name .halfEven)))
       subst q
       exact A7u k
     refine ⟨_, rfl, rfl, _, rfl, G6 (fun e => ?_) (fun n7 => ?_)⟩
     . have q : y = .fiveUp := Wy.inj (V.str.inj (e : V.str y.name = V.str (Wy.name .fiveUp)))
       subst q
       exact A7u k
     cases y with
     | down => exact absurd rfl n0
     | up => exact absurd rfl n1
     | floor => exact absurd rfl n2
     | ceiling => exact absurd rfl n3
     | halfUp => exact absurd rfl n4
     | halfDown => exact absurd rfl n5
     | halfEven => exact absurd rfl n6
     | fiveUp => exact absurd rfl n7
   . refine ⟨_, rfl, _, _, _, _, b, rfl, rfl, ty, kk, _, rfl, ?_⟩
     cases b with
     | false => exact V5 ⟨z1, k⟩
     | true =>
       obtain ⟨z, rfl, nz⟩ := bad.resolve_left (by decide)
       refine U4 ?_
       refine ⟨_, rfl, rfl, _, rfl, G6 (fun e => absurd (V.str.inj e) (nz .down)) (fun n0 => ?_)⟩
       refine ⟨_, rfl, rfl, _, rfl, G6 (fun e => absurd (V.str.inj e) (nz .up)) (fun n1 => ?_)⟩
       refine ⟨_, rfl, rfl, _, rfl, G6 (fun e => absurd (V.str.inj e) (nz .floor)) (fun n2 => ?_)⟩
       refine ⟨_, rfl, rfl, _, rfl, G6 (fun e => absurd (V.str.inj e) (nz .ceiling)) (fun n3 => ?_)⟩
       refine ⟨_, rfl, rfl, _, rfl, G6 (fun e => absurd (V.str.inj e) (nz .halfUp)) (fun n4 => ?_)⟩
       refine ⟨_, rfl, rfl, _, rfl, G6 (fun e => absurd (V.str.inj e) (nz .halfDown)) (fun n5 => ?_)⟩
       refine ⟨_, rfl, rfl, _, rfl, G6 (fun e => absurd (V.str.inj e) (nz .halfEven)) (fun n6 => ?_)⟩
       refine ⟨_, rfl, rfl, _, rfl, G6 (fun e => absurd (V.str.inj e) (nz .fiveUp)) (fun n7 => ?_)⟩
       exact ⟨z1, k⟩
end
def sigS : List Str := ["void", "split", "burst", "sunk", "faint", "off", "cut"]
def A3q : List V := sigS.map V.str
structure SigK (K : Frag) (mg : Str -> Option Value) (aS : Addr) : Prop where
 g : mg "SIGNALS" = some (.ref aS)
 ty : ∃ o, K.lookup aS = some o /\ o.cls = .type "tuple"
 sq : ∀ H, SqT K H aS A3q
abbrev A7w : Stmt := (top 51)
section
variable {P : Program} {w : World} {K : Frag} {mg : Str -> Option Value} {base : Heap}
def Y9d (K : Frag) (H : Hp) (x : V) : Prop := ∃ t b, TyE K H x t /\ kitOne K t (.type "str") = some b /\ (b = false \/ ∃ z, x = .str z /\ z ∉ sigS)
def D9z (K : Frag) (H : Hp) (v : V) : Prop := (∃ t, TyE K H v t /\ kitOne K t (.type "list") = some false) \/ (∃ (p : Addr) (zs : List Str) (x : V) (r : List V), v = .ref p /\ H p = some (.lst (zs.map V.str ++ x :: r)) /\ (∀ z ∈ zs, z ∈ sigS) /\ Y9d K H x)
def C8q (K : Frag) (CB : Addr) : Sp := fun vs H Q E => ∃ v, vs = [v] /\ ((∃ (p : Addr) (zs : List Str), v = .ref p /\ H p = some (.lst (zs.map V.str)) /\ (∀ z ∈ zs, z ∈ sigS) /\ Q .non H) \/ (D9z K H v /\ E (.ref CB) none H))
theorem scNeedS : FnScope ["names", "name"] ["names"] (A3 A7w) := scK
theorem J6u {f CB aS : Addr} {fd : FuncData} (D : Def K mg "need_signals" ["names"] A7w f fd) (O : Own mg) (T : Kit K) (B : Err K mg "BadContext" CB) (SG : SigK K mg aS) : FnOk P w K mg base (CX1 P w) 1 f fd ["names"] (C8q K CB) := by
 refine D.F.okE scNeedS (fun vs H Q E h => ?_) (fun X cdv A outer s H vs Q E hX hr hx h => ?_)
 . obtain ⟨v, rfl, _⟩ := h
   rfl
 . subst hX
   obtain ⟨v, rfl, h⟩ := h
   refine ⟨_, (A7 (D9 (A7s (Y6 (J2y O.isi (pv 0) (pty O.list_ boot_list)))) (A9 (A1v (by rfl) B.g B.q PySem.F.excBase_ValueError hr.hd hx (A0 B0 A8))) C6)
     (A9 (B8e PassesOwn.leaving rfl (B7y (pv 0)) (U8 (i := 1) scNeedS.nd rfl (Or.inl rfl)) (A9 (D9 (PW.pt (A7k (A7s (Y6 (J2y O.isi (pv 1) (pty O.str_ boot_str)))) (A3c (C4 C8r (pv 1) (J5f SG.g) (by rfl))))) (A9 (A1v (by rfl) B.g B.q PySem.F.excBase_ValueError hr.hd hx (A0 B0 A8))) C6))))), ?_⟩
   have z1 : 1 <= sizeLine := C7 (by decide)
   rcases h with ⟨p, zs, rfl, hp, hz, k⟩ | ⟨(⟨t, ty, kk⟩ | ⟨p, zs, x, r, rfl, hp, hz, t, b, ty, kk, bad⟩), k⟩
   . refine ⟨_, rfl, _, _, _, _, true, rfl, rfl, V6x hp, T.list_list, _, rfl, U4 ?_⟩
     refine ⟨_, rfl, p, rfl, ⟨_, SqL.of hp⟩, A3r (xs := zs.map V.str) (fun i σ H' => H' = H /\ ∃ v, σ = [some (.ref p), v]) ⟨rfl, none, rfl⟩ ?_ ?_ ?_⟩
     . rintro i σ H' _ ⟨rfl, _⟩
       exact SqL.of hp
     . rintro i x σ H' hi ⟨rfl, v, rfl⟩
       obtain ⟨z, hzm, rfl⟩ := List.mem_map.mp (List.mem_of_getElem? hi)
       refine ⟨_, rfl, _, _, _, _, true, rfl, rfl, J6t _, T.str_str, _, rfl, U4 ?_⟩
       refine ⟨_, rfl, aS, A3q, rfl, .inr (SG.sq _), rfl, V8 _, _, rfl, ?_⟩
       have e : inV (.str z) A3q = true := by
         show inV (.str z) (sigS.map V.str) = true
         rw [Z1]
         simpa using hz z hzm
       rw [e]
       exact U4 ⟨rfl, _, rfl⟩
     . rintro σ H' ⟨rfl, v, rfl⟩
       exact k
   . exact ⟨_, rfl, _, _, _, _, false, rfl, rfl, ty, kk, _, rfl, V5 ⟨z1, k⟩⟩
   . refine ⟨_, rfl, _, _, _, _, true, rfl, rfl, V6x hp, T.list_list, _, rfl, U4 ?_⟩
     refine ⟨_, rfl, p, rfl, ⟨_, SqL.of hp⟩, A3r (xs := zs.map V.str ++ x :: r) (fun i σ H' => H' = H /\ i <= zs.length /\ ∃ v, σ = [some (.ref p), v]) ⟨rfl, Nat.zero_le _, none, rfl⟩ ?_ ?_ ?_⟩
     . rintro i σ H' _ ⟨rfl, _⟩
       exact SqL.of hp
     . rintro i y σ H' hi ⟨rfl, hl, v, rfl⟩
       by_cases hlt : i < zs.length
       . rw [List.getElem?_append_left (by simpa using hlt)] at hi
         obtain ⟨z, hzm, rfl⟩ := List.mem_map.mp (List.mem_of_getElem? hi)
         refine ⟨_, rfl, _, _, _, _, true, rfl, rfl, J6t _, T.str_str, _, rfl, U4 ?_⟩
         refine ⟨_, rfl, aS, A3q, rfl, .inr (SG.sq _), rfl, V8 _, _, rfl, ?_⟩
         have e : inV (.str z) A3q = true := by
           show inV (.str z) (sigS.map V.str) = true
           rw [Z1]
           simpa using hz z hzm
         rw [e]
         exact U4 ⟨rfl, by omega, _, rfl⟩
       . have e : i = zs.length := by omega
         subst e
         rw [List.getElem?_append_right (by simp)] at hi
         simp at hi
         subst hi
         refine ⟨_, rfl, _, _, _, _, b, rfl, rfl, ty, kk, _, rfl, ?_⟩
         cases b with
         | false => exact V5 (V5 ⟨z1, k⟩)
         | true =>
           obtain ⟨z, rfl, nz⟩ := bad.resolve_left (by decide)
           refine U4 ⟨_, rfl, aS, A3q, rfl, .inr (SG.sq _), rfl, V8 _, _, rfl, ?_⟩
           have e : inV (.str z) A3q = false := by
             show inV (.str z) (sigS.map V.str) = false
             rw [Z1]
             simpa using nz
           rw [e]
           exact V5 ⟨z1, k⟩
     . rintro σ H' ⟨rfl, hl, _⟩
       exfalso
       rw [List.length_append, List.length_map, List.length_cons] at hl
       omega
end
abbrev A7r : Stmt := (top 52)
section
variable {P : Program} {w : World} {K : Frag} {mg : Str -> Option Value} {base : Heap}
def U7 (zs : List Str) : List Str := sigS.filter fun z => zs.contains z
def C8d (K : Frag) : Sp := fun vs H Q _ => ∃ (p : Addr) (zs : List Str), vs = [.ref p] /\ SqL K H p (zs.map V.str) /\ ∀ l H', Same H H' -> H l = none -> H' l = some (.lst ((U7 zs).map V.str)) -> Q (.ref l) H'
theorem V3f : FnScope ["names"] ["names"] (A3 A7r) := scK
theorem J5y {f aS : Addr} {fd : FuncData} (D : Def K mg "in_order" ["names"] A7r f fd) (SG : SigK K mg aS) : FnOk P w K mg base (CX1 P w) 1 f fd ["names"] (C8d K) := by
 refine FnOk.up (D.F.ok V3f (fun vs H Q E h => ?_) (fun cdv A outer s H vs Q E hr h => ?_))
 . obtain ⟨p, zs, rfl, _⟩ := h
   rfl
 . obtain ⟨p, zs, rfl, hp, k⟩ := h
   refine ⟨_, (A9 (B8 (B8k (N := ["name"]) (F := ["names"]) (js := [0]) (CompScopeF.of1 ⟨rfl, by decide +kernel, by decide +kernel, by decide +kernel, by decide +kernel⟩ (by rfl) (by rfl) ⟨_, by rfl⟩ (by rfl) (by rfl)) (.inl hr.hd) (C8a (J5f SG.g)) rfl (fun C s₀ H₀ ex pn h => U8 (i := 0) (by decide +kernel : (["name", "names"] : List Str).Nodup) rfl (Or.inl rfl)) (fun C s₀ H₀ ex pn h => (C4 (A2b (K := K) rfl) (pv 0) (pv 1) (by rfl))) (fun C s₀ H₀ ex pn h => (pv 0))))), ?_⟩
   refine B9a (zs := sigS) (f := fun z => zs.contains z) (σf := [some (.ref p)]) SG.sq (by decide) (fun z H' Qb sm q => ?_) (fun z H' Qv q => ⟨_, rfl, q⟩) (fun D H' sm nd e => k D H' sm nd e) rfl
   refine ⟨_, rfl, _, rfl, p, _, rfl, .inl (sm.seq hp), rfl, V8 _, _, rfl, ?_⟩
   show Qb (inV (.str z) (zs.map V.str)) H'
   rw [Z1]
   exact q
end
structure CtxC (K : Frag) (mg : Str -> Option Value) (CC : Addr) : Prop where
 g : mg "Context" = some (.ref CC)
 cl : Cls K CC
 n_room : NoAttr K CC "room"
 n_rule : NoAttr K CC "rule"
 n_least : NoAttr K CC "least"
 n_most : NoAttr K CC "most"
 n_risen : NoAttr K CC "risen"
 n_trapped : NoAttr K CC "trapped"
def A0r (r s l m a b : V) : List (Str × V) := U6 "trapped" b (U6 "risen" a (U6 "most" m (U6 "least" l (U6 "rule" s (U6 "room" r [])))))
theorem A0v (r s l m a b : V) (n : Str) : (A0r r s l m a b).lookup n = if n = "trapped" then some b else if n = "risen" then some a else if n = "most" then some m else if n = "least" then some l else if n = "rule" then some s else if n = "room" then some r else none := by
 unfold A0r
 rw [D0, D0, D0, D0, D0, D0]
 rfl
theorem D4w (r s l m a b : V) : (A0r r s l m a b).lookup ("room" : Str) = some r := by rw [A0v, if_neg (by decide +kernel), if_neg (by decide +kernel), if_neg (by decide +kernel), if_neg (by decide +kernel), if_neg (by decide +kernel), if_pos rfl]
theorem J6x (r s l m a b : V) : (A0r r s l m a b).lookup ("rule" : Str) = some s := by rw [A0v, if_neg (by decide +kernel), if_neg (by decide +kernel), if_neg (by decide +kernel), if_neg (by decide +kernel), if_pos rfl]
theorem C5g (r s l m a b : V) : (A0r r s l m a b).lookup ("least" : Str) = some l := by rw [A0v, if_neg (by decide +kernel), if_neg (by decide +kernel), if_neg (by decide +kernel), if_pos rfl]
theorem D4p (r s l m a b : V) : (A0r r s l m a b).lookup ("most" : Str) = some m := by rw [A0v, if_neg (by decide +kernel), if_neg (by decide +kernel), if_pos rfl]
theorem C6k (r s l m a b : V) : (A0r r s l m a b).lookup ("risen" : Str) = some a := by rw [A0v, if_neg (by decide +kernel), if_pos rfl]
theorem B7d (r s l m a b : V) : (A0r r s l m a b).lookup ("trapped" : Str) = some b := by rw [A0v, if_pos rfl]
theorem G0m (r s l m a b : V) : (A0r r s l m a b).lookup ("way" : Str) = none := by rw [A0v, if_neg (by decide +kernel), if_neg (by decide +kernel), if_neg (by decide +kernel), if_neg (by decide +kernel), if_neg (by decide +kernel), if_neg (by decide +kernel)]
theorem C1v (r s l m a b : V) : (A0r r s l m a b).lookup ("lowest" : Str) = none := by rw [A0v, if_neg (by decide +kernel), if_neg (by decide +kernel), if_neg (by decide +kernel), if_neg (by decide +kernel), if_neg (by decide +kernel), if_neg (by decide +kernel)]
theorem C7n (r s l m a b : V) : (A0r r s l m a b).lookup ("flags" : Str) = none := by rw [A0v, if_neg (by decide +kernel), if_neg (by decide +kernel), if_neg (by decide +kernel), if_neg (by decide +kernel), if_neg (by decide +kernel), if_neg (by decide +kernel)]
theorem D4s (r s l m a b : V) : (A0r r s l m a b).lookup ("trap" : Str) = none := by rw [A0v, if_neg (by decide +kernel), if_neg (by decide +kernel), if_neg (by decide +kernel), if_neg (by decide +kernel), if_neg (by decide +kernel), if_neg (by decide +kernel)]
theorem C7v (r s l m a b : V) : (A0r r s l m a b).lookup ("traps" : Str) = none := by rw [A0v, if_neg (by decide +kernel), if_neg (by decide +kernel), if_neg (by decide +kernel), if_neg (by decide +kernel), if_neg (by decide +kernel), if_neg (by decide +kernel)]
theorem A3a (r s l m a b : V) : (A0r r s l m a b).lookup ("raised" : Str) = none := by rw [A0v, if_neg (by decide +kernel), if_neg (by decide +kernel), if_neg (by decide +kernel), if_neg (by decide +kernel), if_neg (by decide +kernel), if_neg (by decide +kernel)]
structure CtxAt (CC : Addr) (H : Hp) (c : Addr) (r : Int) (y : Wy) (l m : Int) (a b : Addr) (xs ys : List V) : Prop where
 ins : ∃ dx, H c = some (.ins CC dx (A0r (.int r) (.str y.name) (.int l) (.int m) (.ref a) (.ref b)))
 ha : H a = some (.lst xs)
 hb : H b = some (.lst ys)
theorem CtxAt.same {CC : Addr} {H H' : Hp} {c : Addr} {r : Int} {y : Wy} {l m : Int} {a b : Addr} {xs ys : List V} (h : CtxAt CC H c r y l m a b xs ys) (e : Same H H') : CtxAt CC H' c r y l m a b xs ys := by
 obtain ⟨⟨dx, z⟩, z1, z2⟩ := h
 exact ⟨⟨dx, e _ _ z⟩, e _ _ z1, e _ _ z2⟩
section
variable {P : Program} {w : World} {K : Frag} {mg : Str -> Option Value} {base : Heap}
abbrev Z0 : Stmt := (G5 (top 49) 0)
abbrev A9j : Stmt := (G5 (top 49) 1)
abbrev A9q : Stmt := (G5 (top 49) 2)
abbrev A1p : Stmt := (G5 (top 49) 3)
abbrev A1s : Stmt := (G5 (top 49) 6)
def D9d (l : Int) (v : V) : Prop := (v = .non /\ l = -60) \/ (v = .int l /\ -60 <= l /\ l <= 0)
def V8p (K : Frag) (S : Hp -> Prop) (v1 v2 v3 v4 : V) : Prop := (∀ H', S H' -> C1x K H' 1 24 v1) \/ (A3m 1 24 v1 /\ ((∀ H', S H' -> V7h K H' v2) \/ ((∃ y : Wy, v2 = .str y.name) /\ ((v3 ≠ .non /\ ∀ H', S H' -> C1x K H' (-60) 0 v3) \/ ((∃ l, D9d l v3) /\ ∀ H', S H' -> C1x K H' 0 60 v4)))))
theorem Exc.none {p a : Addr} {H H' : Hp} {o : HO} (x : Exc p H H') (hp : H' p = some o) (n : H' a = none) : H a = none := by
 cases q : H a with
 | none => rfl
 | some u =>
   have := x a u q (fun e => by rw [e, hp] at n; cases n)
   rw [n] at this
   cases this
def B2y (K : Frag) (CC CB : Addr) : Sp := fun vs H Q E => ∃ p dx v1 v2 v3 v4, vs = [.ref p, v1, v2, v3, v4] /\ H p = some (.ins CC dx []) /\
 ((∃ r y l m, v1 = .int r /\ 1 <= r /\ r <= 24 /\ v2 = .str (Wy.name y) /\ D9d l v3 /\ v4 = .int m /\ 0 <= m /\ m <= 60 /\ ∀ a b H', Exc p H H' -> H a = none -> H b = none -> CtxAt CC H' p r y l m a b [] [] -> Q .non H') \/
  (V8p K (Exc p H) v1 v2 v3 v4 /\ ∀ H', Exc p H H' -> E (.ref CB) none H'))
theorem J2f : FnScope ["self", "room", "way", "least", "most"] ["self", "room", "way", "least", "most"] (A3 Z0) := scK
theorem J5k : B2k 1 24 := by unfold B2k; decide +kernel
theorem D8h : B2k (-60) 0 := by unfold B2k; decide +kernel
theorem J5t : B2k 0 60 := by unfold B2k; decide +kernel
theorem G0g {f fB fW CC CB CW : Addr} {dV : Value} {cw : Wy -> Addr} {fd fdB fdW : FuncData} (F : FunD K "__init__" "Context.__init__" Z0 dV f fd) (D_bounded : Def K mg "bounded" ["thing", "least", "most"] A1y fB fdB) (D_way_of : Def K mg "way_of" ["name"] A7c fW fdW)
   (G_bounded : FnOk P w K mg base (CX1 P w) 2 fB fdB ["thing", "least", "most"] (C5x K CB)) (G_way_of : FnOk P w K mg base (CX1 P w) 1 fW fdW ["name"] (C7h K CB cw)) (C : CtxC K mg CC)
   (W : ∀ y : Wy, WayC K mg y.cls (cw y) CW) (N : ∀ y : Wy, Y5t P w K mg base (cw y) y.name) : FnOk P w K mg base (CX1 P w) 3 f fd ["self", "room", "way", "least", "most"] (B2y K CC CB) := by
 refine F.okE J2f (fun vs H Q E h => ?_) (fun X cdv A outer s H vs Q E hX hr hx h => ?_)
 . obtain ⟨p, dx, v1, v2, v3, v4, rfl, _⟩ := h
   rfl
 . subst hX
   obtain ⟨p, dx, v1, v2, v3, v4, rfl, hp, h⟩ := h
   obtain ⟨y, hy⟩ : ∃ y : Wy, ∀ z : Wy, v2 = .str z.name -> z = y := by
     by_cases q : ∃ z : Wy, v2 = .str z.name
     . obtain ⟨z, rfl⟩ := q
       exact ⟨z, fun u e => Wy.inj (V.str.inj e.symm)⟩
     . exact ⟨.down, fun z e => absurd ⟨z, e⟩ q⟩
   obtain ⟨fN, fdN, mN, gN, bN⟩ := N y
   refine ⟨_, (A7 (Y8 (pv 0) (C8 D_bounded G_bounded hr hx (A0 (pv 1) (A0 A1 (A0 A1 A8)))) rfl)
     (A7 (Y8 (pv 0) (B9q (C8 D_way_of G_way_of hr hx (A0 (pv 2) A8)) (W y).cl mN gN hr bN .nil hx) rfl)
     (A7 (B7 (Y8 (pv 0) (A2a (C4 V9f (pv 3) V8h (B9 _)) (B9b B0r A1) (C8 D_bounded G_bounded hr hx (A0 (pv 3) (A0 (B9b B0r A1) (A0 A1 A8))))) rfl))
     (A7 (Y8 (pv 0) (C8 D_bounded G_bounded hr hx (A0 (pv 4) (A0 A1 (A0 A1 A8)))) rfl)
     (A7 (Y8 (pv 0) (J0 A8) rfl)
     (A9 (Y8 (pv 0) (J0 A8) rfl))))))), ?_⟩
   have lz : ∀ (fs : List (Str × V)) (f : Str) (v : V) (n : Nat), fs.length <= n -> (U6 f v fs).length <= n + 1 := fun fs f v n h => Nat.le_trans (A0n f v fs) (Nat.succ_le_succ h)
   have q0 : (([] : List (Str × V))).length <= 0 := Nat.le_refl _
   have z0 : 0 <= sizeLine := Nat.zero_le _
   rcases h with ⟨r, y', l, m, rfl, r1, r2, rfl, hl, rfl, m1, m2, k⟩ | ⟨bad, k⟩
   . obtain rfl := hy _ rfl
     refine ⟨_, rfl, _, _, _, rfl, J5k, .inl ⟨⟨r, rfl, r1, r2⟩, ?_⟩⟩
     refine ⟨_, rfl, p, CC, dx, [], rfl, hp, C.cl, C.n_room, by show 0 < 1000; decide, ?_⟩
     refine ⟨_, rfl, _, rfl, .inl ⟨_, rfl, fun q dq H2 nq s2 eq => ⟨q, dq, [], rfl, eq, rfl, _, rfl, ?_⟩⟩⟩
     have hp2 := s2 _ _ (A6 (H := H) (a := p) (o := .ins CC dx (U6 "room" (.int r) [])))
     have x2 : Exc p H H2 := (Exc.upd (H := H) (o := .ins CC dx (U6 "room" (.int r) []))).trans (.of s2)
     refine ⟨_, rfl, p, CC, dx, _, rfl, hp2, C.cl, C.n_rule, Nat.lt_of_le_of_lt (lz _ _ _ 0 q0) (by decide), ?_⟩
     refine ⟨fun σ' H' => σ' = [some (.ref p), some (.int r), some (.str y'.name), some v3, some (.int m)] /\ Exc p H H' /\ H' p = some (.ins CC dx (U6 "least" (.int l) (U6 "rule" (.str y'.name) (U6 "room" (.int r) [])))), ?_, ?_⟩
     . refine ⟨_, rfl, rfl, _, rfl, ?_⟩
       rcases hl with ⟨rfl, rfl⟩ | ⟨rfl, l1, l2⟩
       . refine A7t rfl ⟨_, rfl, ?_⟩
         exact ⟨_, rfl, p, CC, dx, _, rfl, A6, C.cl, C.n_least, Nat.lt_of_le_of_lt (lz _ _ _ 1 (lz _ _ _ 0 q0)) (by decide), rfl, (x2.trans Exc.upd).trans Exc.upd, A6⟩
       . refine A0c (by intro z; cases z) ⟨_, rfl, _, rfl, _, _, _, rfl, D8h, .inl ⟨⟨l, rfl, l1, l2⟩, ?_⟩⟩
         exact ⟨_, rfl, p, CC, dx, _, rfl, A6, C.cl, C.n_least, Nat.lt_of_le_of_lt (lz _ _ _ 1 (lz _ _ _ 0 q0)) (by decide), rfl, (x2.trans Exc.upd).trans Exc.upd, A6⟩
     rintro σ' H4 ⟨rfl, x4, hp4⟩
     refine ⟨_, rfl, _, _, _, rfl, J5t, .inl ⟨⟨m, rfl, m1, m2⟩, ?_⟩⟩
     refine ⟨_, rfl, p, CC, dx, _, rfl, hp4, C.cl, C.n_most, Nat.lt_of_le_of_lt (lz _ _ _ 2 (lz _ _ _ 1 (lz _ _ _ 0 q0))) (by decide), ?_⟩
     refine ⟨z0, fun a na => ?_⟩
     refine ⟨_, rfl, p, CC, dx, _, rfl, Same.upd na _ _ A6, C.cl, C.n_risen, Nat.lt_of_le_of_lt (lz _ _ _ 3 (lz _ _ _ 2 (lz _ _ _ 1 (lz _ _ _ 0 q0)))) (by decide), ?_⟩
     refine ⟨z0, fun b nb => ?_⟩
     refine ⟨_, rfl, p, CC, dx, _, rfl, Same.upd nb _ _ A6, C.cl, C.n_trapped, Nat.lt_of_le_of_lt (lz _ _ _ 4 (lz _ _ _ 3 (lz _ _ _ 2 (lz _ _ _ 1 (lz _ _ _ 0 q0))))) (by decide), ?_⟩
     have x5 := x4.trans (Exc.upd (H := H4) (o := .ins CC dx (U6 "most" (.int m) (U6 "least" (.int l) (U6 "rule" (.str y'.name) (U6 "room" (.int r) []))))))
     have nap : a ≠ p := fun e => by rw [e, A6] at na; cases na
     have nbp : b ≠ p := fun e => by rw [e, A6] at nb; cases nb
     have x6 := (x5.trans (.of (Same.upd (o := .lst []) na))).trans (Exc.upd (o := .ins CC dx (U6 "risen" (.ref a) (U6 "most" (.int m) (U6 "least" (.int l) (U6 "rule" (.str y'.name) (U6 "room" (.int r) [])))))))
     have x7 := (x6.trans (.of (Same.upd (o := .lst []) nb))).trans (Exc.upd (o := .ins CC dx (A0r (.int r) (.str y'.name) (.int l) (.int m) (.ref a) (.ref b))))
     refine k a b _ x7 (x5.none A6 na) (x6.none A6 nb) ⟨⟨dx, A6⟩, ?_, ?_⟩
     . rw [B4 nap]
       refine Same.upd nb _ _ ?_
       rw [B4 nap]
       exact A6
     . rw [B4 nbp]
       exact A6
   . rcases bad with b1 | ⟨⟨r, rfl, r1, r2⟩, bad⟩
     . exact ⟨_, rfl, _, _, _, rfl, J5k, .inr ⟨b1 _ (Exc.refl p H), k _ (Exc.refl p H)⟩⟩
     refine ⟨_, rfl, _, _, _, rfl, J5k, .inl ⟨⟨r, rfl, r1, r2⟩, ?_⟩⟩
     refine ⟨_, rfl, p, CC, dx, [], rfl, hp, C.cl, C.n_room, by show 0 < 1000; decide, ?_⟩
     have x1 : Exc p H (upd H p (.ins CC dx (U6 "room" (.int r) []))) := Exc.upd
     rcases bad with b2 | ⟨⟨y', rfl⟩, bad⟩
     . exact ⟨_, rfl, _, rfl, .inr ⟨b2 _ x1, k _ x1⟩⟩
     obtain rfl := hy _ rfl
     refine ⟨_, rfl, _, rfl, .inl ⟨_, rfl, fun q dq H2 nq s2 eq => ⟨q, dq, [], rfl, eq, rfl, _, rfl, ?_⟩⟩⟩
     have hp2 := s2 _ _ (A6 (H := H) (a := p) (o := .ins CC dx (U6 "room" (.int r) [])))
     have x2 : Exc p H H2 := x1.trans (.of s2)
     refine ⟨_, rfl, p, CC, dx, _, rfl, hp2, C.cl, C.n_rule, Nat.lt_of_le_of_lt (lz _ _ _ 0 q0) (by decide), ?_⟩
     rcases bad with ⟨n3, b3⟩ | ⟨⟨l, hl⟩, b4⟩
     . refine ⟨fun _ _ => False, ?_, fun _ _ z => z.elim⟩
       refine ⟨_, rfl, rfl, _, rfl, A0c n3 ?_⟩
       exact ⟨_, rfl, _, rfl, _, _, _, rfl, D8h, .inr ⟨b3 _ (x2.trans Exc.upd), k _ (x2.trans Exc.upd)⟩⟩
     refine ⟨fun σ' H' => σ' = [some (.ref p), some (.int r), some (.str y'.name), some v3, some v4] /\ Exc p H H', ?_, ?_⟩
     . refine ⟨_, rfl, rfl, _, rfl, ?_⟩
       rcases hl with ⟨rfl, rfl⟩ | ⟨rfl, l1, l2⟩
       . refine A7t rfl ⟨_, rfl, ?_⟩
         exact ⟨_, rfl, p, CC, dx, _, rfl, A6, C.cl, C.n_least, Nat.lt_of_le_of_lt (lz _ _ _ 1 (lz _ _ _ 0 q0)) (by decide), rfl, (x2.trans Exc.upd).trans Exc.upd⟩
       . refine A0c (by intro z; cases z) ⟨_, rfl, _, rfl, _, _, _, rfl, D8h, .inl ⟨⟨l, rfl, l1, l2⟩, ?_⟩⟩
         exact ⟨_, rfl, p, CC, dx, _, rfl, A6, C.cl, C.n_least, Nat.lt_of_le_of_lt (lz _ _ _ 1 (lz _ _ _ 0 q0)) (by decide), rfl, (x2.trans Exc.upd).trans Exc.upd⟩
     rintro σ' H4 ⟨rfl, x4⟩
     exact ⟨_, rfl, _, _, _, rfl, J5t, .inr ⟨b4 _ x4, k _ x4⟩⟩
end
section
variable {P : Program} {w : World} {K : Frag} {mg : Str -> Option Value} {base : Heap}
def B8p (CC : Addr) (cw : Wy -> Addr) : Sp := fun vs H Q _ => ∃ c r y l m a b xs ys, vs = [.ref c] /\ CtxAt CC H c r y l m a b xs ys /\ ∀ p dx H', H p = none -> Same H H' -> H' p = some (.ins (cw y) dx []) -> Q (.ref p) H'
theorem J6h : FnScope ["self"] ["self"] (A3 A9j) := scK
theorem J2j {f fW CC CB : Addr} {cw : Wy -> Addr} {fd fdW : FuncData} (F : Fun K "way" "Context.way" A9j f fd) (D_way_of : Def K mg "way_of" ["name"] A7c fW fdW) (G_way_of : FnOk P w K mg base (CX1 P w) 1 fW fdW ["name"] (C7h K CB cw)) (C : CtxC K mg CC) :
   FnOk P w K mg base (CX1 P w) 2 f fd ["self"] (B8p CC cw) := by
 refine F.okE J6h (fun vs H Q E h => ?_) (fun X cdv A outer s H vs Q E hX hr hx h => ?_)
 . obtain ⟨c, r, y, l, m, a, b, xs, ys, rfl, _⟩ := h
   rfl
 . subst hX
   obtain ⟨c, r, y, l, m, a, b, xs, ys, rfl, ⟨⟨dx, e⟩, _, _⟩, k⟩ := h
   refine ⟨_, (A9 (B8 (C8 D_way_of G_way_of hr hx (A0 (G4 (pv 0) rfl) A8)))), ?_⟩
   exact ⟨_, rfl, c, CC, dx, _, _, rfl, e, C.cl, C.n_rule, J6x _ _ _ _ _ _, _, rfl, .inl ⟨y, rfl, k⟩⟩
def B8u (CC : Addr) : Sp := fun vs H Q _ => ∃ c r y l m a b xs ys, vs = [.ref c] /\ CtxAt CC H c r y l m a b xs ys /\ Q (.int (l - r + 1)) H
theorem J7t : FnScope ["self"] ["self"] (A3 A9q) := scK
theorem J1j {f CC : Addr} {fd : FuncData} (F : Fun K "lowest" "Context.lowest" A9q f fd) (C : CtxC K mg CC) : FnOk P w K mg base (CX1 P w) 1 f fd ["self"] (B8u CC) := by
 refine FnOk.up (F.ok J7t (fun vs H Q E h => ?_) (fun cdv A outer s H vs Q E hr h => ?_))
 . obtain ⟨c, r, y, l, m, a, b, xs, ys, rfl, _⟩ := h
   rfl
 . obtain ⟨c, r, y, l, m, a, b, xs, ys, rfl, ⟨⟨dx, e⟩, _, _⟩, k⟩ := h
   refine ⟨_, (A9 (B8 (B3 V2 (B3 V4 (G4 (pv 0) rfl) (G4 (pv 0) rfl)) A1))), ?_⟩
   exact ⟨_, rfl, c, CC, dx, _, _, rfl, e, C.cl, C.n_least, C5g _ _ _ _ _ _, _, rfl, c, CC, dx, _, _, rfl, e, C.cl, C.n_room, D4w _ _ _ _ _ _, _, _, rfl, rfl, _, _, rfl, rfl, k⟩
def B0p (CC : Addr) : Sp := fun vs H Q _ => ∃ c r y l m a b xs ys, vs = [.ref c] /\ CtxAt CC H c r y l m a b xs ys /\ ∀ p, H p = none -> Q (.ref p) (upd H p (.lst xs))
theorem D9r : FnScope ["self"] ["self"] (A3 A1p) := scK
theorem D5c {f CC : Addr} {fd : FuncData} (F : Fun K "flags" "Context.flags" A1p f fd) (C : CtxC K mg CC) (O : Own mg) : FnOk P w K mg base (CX1 P w) 1 f fd ["self"] (B0p CC) := by
 refine FnOk.up (F.ok D9r (fun vs H Q E h => ?_) (fun cdv A outer s H vs Q E hr h => ?_))
 . obtain ⟨c, r, y, l, m, a, b, xs, ys, rfl, _⟩ := h
   rfl
 . obtain ⟨c, r, y, l, m, a, b, xs, ys, rfl, ⟨⟨dx, e⟩, ha, _⟩, k⟩ := h
   refine ⟨_, (A9 (B8 (U5 A4f (by rfl) O.list_ boot_list (A0 (G4 (pv 0) rfl) A8)))), ?_⟩
   exact ⟨_, rfl, c, CC, dx, _, _, rfl, e, C.cl, C.n_risen, C6k _ _ _ _ _ _, a, xs, rfl, .inl (SqL.of ha), k⟩
structure MakeC (P : Program) (w : World) (K : Frag) (mg : Str -> Option Value) (base : Heap) (CC CB fI : Addr) (fdI : FuncData) : Prop where
 m : Mk K CC fI
 g : FnOk P w K mg base (CX1 P w) 3 fI fdI ["self", "room", "way", "least", "most"] (B2y K CC CB)
theorem V3n {C x dx : Addr} {H H' : Hp} (n1 : H x = none) (n2 : H dx = none) (ne : dx ≠ x) (e : Exc x (upd (upd H dx (.own x)) x (.ins C dx [])) H') : Same H H' := fun b o h =>
 e b o (by rw [B4 (C5 h n1), B4 (C5 h n2)]; exact h) (C5 h n1)
theorem Y5k {CC CB x dx : Addr} {H : Hp} {Q : VK} {E : XK} {v1 v2 v3 v4 : V} {r : Int} {y : Wy} {l m : Int} (n1 : H x = none) (n2 : H dx = none) (ne : dx ≠ x) (h1 : v1 = .int r) (r1 : 1 <= r) (r2 : r <= 24) (h2 : v2 = .str y.name) (h3 : D9d l v3) (h4 : v4 = .int m) (m1 : 0 <= m) (m2 : m <= 60)
   (k : ∀ a b H', Same H H' -> CtxAt CC H' x r y l m a b [] [] -> Q .non H') : B2y K CC CB [.ref x, v1, v2, v3, v4] (upd (upd H dx (.own x)) x (.ins CC dx [])) Q E :=
 ⟨x, dx, v1, v2, v3, v4, rfl, A6, .inl ⟨r, y, l, m, h1, r1, r2, h2, h3, h4, m1, m2, fun a b H' e _ _ c => k a b H' (V3n n1 n2 ne e) c⟩⟩
end
abbrev A3s : Stmt := (G5 (top 49) 5)
abbrev A0d : Stmt := (G5 (top 49) 7)
theorem D4v (r s l m a b : V) : (A0r r s l m a b).length = 6 := rfl
theorem C8g (r s l m a b v : V) : U6 "trapped" v (A0r r s l m a b) = A0r r s l m a v := rfl
theorem G0f (r s l m a b v : V) : U6 "risen" v (A0r r s l m a b) = A0r r s l m v b := rfl
section
variable {P : Program} {w : World} {K : Frag} {mg : Str -> Option Value} {base : Heap}
def D9x (K : Frag) (CC CB : Addr) : Sp := fun vs H Q E => ∃ c r y l m a b xs ys v, vs = [.ref c, v] /\ CtxAt CC H c r y l m a b xs ys /\
 ((∃ (p : Addr) (zs : List Str), v = .ref p /\ H p = some (.lst (zs.map V.str)) /\ (∀ z ∈ zs, z ∈ sigS) /\ ∀ b' H', Exc c H H' -> H b' = none -> CtxAt CC H' c r y l m a b' xs ((U7 zs).map V.str) -> Q .non H') \/ (D9z K H v /\ E (.ref CB) none H))
theorem V9e : FnScope ["self", "names"] ["self", "names"] (A3 A3s) := scK
theorem V3p {f f1 f2 CC CB : Addr} {fd fd1 fd2 : FuncData} (F : Fun K "trap" "Context.trap" A3s f fd) (D_need_signals : Def K mg "need_signals" ["names"] A7w f1 fd1) (G_need_signals : FnOk P w K mg base (CX1 P w) 1 f1 fd1 ["names"] (C8q K CB))
   (D_in_order : Def K mg "in_order" ["names"] A7r f2 fd2) (G_in_order : FnOk P w K mg base (CX1 P w) 1 f2 fd2 ["names"] (C8d K)) (C : CtxC K mg CC) : FnOk P w K mg base (CX1 P w) 2 f fd ["self", "names"] (D9x K CC CB) := by
 refine F.okE V9e (fun vs H Q E h => ?_) (fun X cdv A outer s H vs Q E hX hr hx h => ?_)
 . obtain ⟨c, r, y, l, m, a, b, xs, ys, v, rfl, _⟩ := h
   rfl
 . subst hX
   obtain ⟨c, r, y, l, m, a, b, xs, ys, v, rfl, ⟨⟨dx, e⟩, ha, hb⟩, h⟩ := h
   refine ⟨_, (A7 (Y1 (C8 D_need_signals G_need_signals hr hx (A0 (pv 1) A8)))
     (A9 (Y8 (pv 0) (C8 D_in_order G_in_order hr hx (A0 (pv 1) A8)) rfl))), ?_⟩
   rcases h with ⟨p, zs, rfl, hp, hz, k⟩ | ⟨bad, k⟩
   . refine ⟨_, rfl, _, rfl, .inl ⟨p, zs, rfl, hp, hz, ?_⟩⟩
     refine ⟨_, rfl, p, zs, rfl, SqL.of hp, fun b' H1 s1 n1 e1 => ?_⟩
     refine ⟨_, rfl, c, CC, dx, _, rfl, s1 _ _ e, C.cl, C.n_trapped, by rw [D4v]; decide, ?_⟩
     rw [C8g]
     have nac : a ≠ c := J1 ha e (by intro z; cases z)
     have nbc : b' ≠ c := J1 e1 (s1 _ _ e) (by intro z; cases z)
     exact k b' _ ((Exc.of s1).trans Exc.upd) n1 ⟨⟨dx, A6⟩, by rw [B4 nac]; exact s1 _ _ ha, by rw [B4 nbc]; exact e1⟩
   . exact ⟨_, rfl, _, rfl, .inr ⟨bad, k⟩⟩
def hit (ys zs : List Str) : Option Str := ys.find? fun t => zs.contains t
def B2n (K : Frag) (CC CB CT : Addr) : Sp := fun vs H Q E => ∃ c r y l m a b, ∃ (xs ys : List Str) (v : V), vs = [.ref c, v] /\ CtxAt CC H c r y l m a b (xs.map V.str) (ys.map V.str) /\ xs.length + 100 <= 1000 /\
 ((∃ (p : Addr) (zs : List Str), v = .ref p /\ H p = some (.lst (zs.map V.str)) /\ zs.length <= 100 /\ (∀ z ∈ zs, z ∈ sigS) /\
     (hit ys zs = none -> ∀ a' H', Exc c H H' -> H a' = none -> CtxAt CC H' c r y l m a' b ((U7 (xs ++ zs)).map V.str) (ys.map V.str) -> Q .non H') /\
     (∀ t, hit ys zs = some t -> ∀ a' d H', Exc c H H' -> H a' = none -> CtxAt CC H' c r y l m a' b ((U7 (xs ++ zs)).map V.str) (ys.map V.str) -> H d = none -> H' d = some (.xd [("signal", .str t)]) -> E (.ref CT) (some d) H')) \/
  (D9z K H v /\ E (.ref CB) none H))
theorem scRaised : FnScope ["self", "names", "name"] ["self", "names"] (A3 A0d) := scK
theorem J2r {f f1 f2 fX CC CB CT : Addr} {fd fd1 fd2 fdX : FuncData} (F : Fun K "raised" "Context.raised" A0d f fd) (D_need_signals : Def K mg "need_signals" ["names"] A7w f1 fd1) (G_need_signals : FnOk P w K mg base (CX1 P w) 1 f1 fd1 ["names"] (C8q K CB))
   (D_in_order : Def K mg "in_order" ["names"] A7r f2 fd2) (G_in_order : FnOk P w K mg base (CX1 P w) 1 f2 fd2 ["names"] (C8d K)) (C : CtxC K mg CC)
   (gT : mg "Trapped" = some (.ref CT)) (XI : ExcI K CT fX) (GX : FnOk P w K mg base CX0 1 fX fdX ["self", "signal"] (C7k CT "signal")) (BX : Binds K fdX ["self", "signal"] []) : FnOk P w K mg base (CX1 P w) 3 f fd ["self", "names"] (B2n K CC CB CT) := by
 refine F.okE scRaised (fun vs H Q E h => ?_) (fun X cdv A outer s H vs Q E hX hr hx h => ?_)
 . obtain ⟨c, r, y, l, m, a, b, xs, ys, v, rfl, _⟩ := h
   rfl
 . subst hX
   obtain ⟨c, r, y, l, m, a, b, xs, ys, v, rfl, ⟨⟨dx, e⟩, ha, hb⟩, lx, h⟩ := h
   refine ⟨_, (A7 (Y1 (C8 D_need_signals G_need_signals hr hx (A0 (pv 1) A8)))
     (A7 (Y8 (pv 0) (C8 D_in_order G_in_order hr hx (A0 (B3 B8n (G4 (pv 0) rfl) (pv 1)) A8)) rfl)
     (A9 (B8e PassesOwn.leaving rfl (B7y (G4 (pv 0) rfl)) (U8 (i := 2) scRaised.nd rfl (Or.inl rfl)) (A9 (D9 (C4 A1r (pv 2) (pv 1) (by rfl)) (A9 (J2w gT XI GX BX hr hx (A0 (pv 2) A8))) C6)))))), ?_⟩
   rcases h with ⟨p, zs, rfl, hp, lz, hz, k1, k2⟩ | ⟨bad, k⟩
   . refine ⟨_, rfl, _, rfl, .inl ⟨p, zs, rfl, hp, hz, ?_⟩⟩
     refine ⟨_, rfl, c, CC, dx, _, _, rfl, e, C.cl, C.n_risen, C6k _ _ _ _ _ _, _, rfl, a, p, _, _, rfl, rfl, ha, hp, C7 (by rw [List.length_map, List.length_map]; omega), fun q nq => ?_⟩
     have u1 := Same.upd (o := .lst (xs.map V.str ++ zs.map V.str)) nq
     refine ⟨q, xs ++ zs, rfl, SqL.of (by rw [A6, List.map_append]), fun a' H1 s1 n1 e1 => ?_⟩
     have s2 := u1.trans s1
     refine ⟨_, rfl, c, CC, dx, _, rfl, s2 _ _ e, C.cl, C.n_risen, by rw [D4v]; decide, ?_⟩
     rw [G0f]
     have nbc : b ≠ c := J1 hb e (by intro z; cases z)
     have npc : p ≠ c := J1 hp e (by intro z; cases z)
     have nac : a' ≠ c := J1 e1 (s2 _ _ e) (by intro z; cases z)
     have x2 : Exc c H (upd H1 c (.ins CC dx (A0r (.int r) (.str y.name) (.int l) (.int m) (.ref a') (.ref b)))) := (Exc.of s2).trans Exc.upd
     have hb2 : (upd H1 c (.ins CC dx (A0r (.int r) (.str y.name) (.int l) (.int m) (.ref a') (.ref b)))) b = some (.lst (ys.map V.str)) := by rw [B4 nbc]; exact s2 _ _ hb
     have hp2 : (upd H1 c (.ins CC dx (A0r (.int r) (.str y.name) (.int l) (.int m) (.ref a') (.ref b)))) p = some (.lst (zs.map V.str)) := by rw [B4 npc]; exact s2 _ _ hp
     have ct : CtxAt CC (upd H1 c (.ins CC dx (A0r (.int r) (.str y.name) (.int l) (.int m) (.ref a') (.ref b)))) c r y l m a' b ((U7 (xs ++ zs)).map V.str) (ys.map V.str) := ⟨⟨dx, A6⟩, by rw [B4 nac]; exact e1, hb2⟩
     refine ⟨_, rfl, c, CC, dx, _, _, rfl, A6, C.cl, C.n_trapped, B7d _ _ _ _ _ _, b, rfl, ⟨_, SqL.of hb2⟩, ?_⟩
     generalize upd H1 c (.ins CC dx (A0r (.int r) (.str y.name) (.int l) (.int m) (.ref a') (.ref b))) = H3 at x2 hb2 hp2 ct ⊢
     refine A3r (xs := ys.map V.str) (fun i σ H' => H' = H3 /\ (∀ t ∈ ys.take i, zs.contains t = false) /\ ∃ v, σ = [some (.ref c), some (.ref p), v]) ⟨rfl, by simp, none, rfl⟩ ?_ ?_ ?_
     . rintro i σ H' _ ⟨rfl, _⟩
       exact SqL.of hb2
     . rintro i x σ H' hi ⟨rfl, ht, v, rfl⟩
       rw [List.getElem?_map] at hi
       obtain ⟨t, hti, rfl⟩ := Option.map_eq_some_iff.mp hi
       refine ⟨_, rfl, _, rfl, p, _, rfl, .inl (SqL.of hp2), rfl, V8 _, _, rfl, ?_⟩
       have hlt : i < ys.length := (List.getElem?_eq_some_iff.mp hti).1
       have et : ys.take (i + 1) = ys.take i ++ [t] := by
         rw [List.take_succ_eq_append_getElem hlt, (List.getElem?_eq_some_iff.mp hti).2]
       cases hc : zs.contains t with
       | false =>
         rw [show (if false = true then !inV (V.str t) (zs.map V.str) else inV (V.str t) (zs.map V.str)) = false by rw [if_neg Bool.false_ne_true, Z1, hc]]
         refine U4 ⟨rfl, fun t' h' => ?_, _, rfl⟩
         rw [et] at h'
         rcases List.mem_append.mp h' with h' | h'
         . exact ht t' h'
         . rw [List.mem_singleton.mp h']; exact hc
       | true =>
         rw [show (if false = true then !inV (V.str t) (zs.map V.str) else inV (V.str t) (zs.map V.str)) = true by rw [if_neg Bool.false_ne_true, Z1, hc]]
         obtain ⟨dx', hc3⟩ := ct.ins
         refine V5 ⟨_, rfl, _, rfl, fun d H4 s4 nd e4 => ?_⟩
         refine k2 t ?_ a' d H4 (x2.trans (.of s4)) ((u1.free n1)) (ct.same s4) (x2.none hc3 nd) e4
         unfold hit
         rw [List.find?_eq_some_iff_append]
         refine ⟨hc, ys.take i, ys.drop (i + 1), ?_, fun t' h' => by rw [ht t' h']; rfl⟩
         have := List.take_append_drop (i + 1) ys
         rw [et] at this
         rw [List.append_assoc] at this
         exact this.symm
     . rintro σ H' ⟨rfl, ht, v, rfl⟩
       refine k1 ?_ a' _ x2 (u1.free n1) ct
       unfold hit
       rw [List.find?_eq_none]
       rw [List.length_map, List.take_length] at ht
       intro t hm
       rw [ht t hm]
       exact Bool.false_ne_true
   . exact ⟨_, rfl, _, rfl, .inr ⟨bad, k⟩⟩
end
section
variable {P : Program} {w : World} {K : Frag} {mg : Str -> Option Value} {base : Heap}
def B0w (CC : Addr) : Sp := fun vs H Q _ => ∃ c r y l m a b xs ys, vs = [.ref c] /\ CtxAt CC H c r y l m a b xs ys /\ ∀ p, H p = none -> Q (.ref p) (upd H p (.lst ys))
theorem G0d : FnScope ["self"] ["self"] (A3 A1s) := scK
theorem D4e {f CC : Addr} {fd : FuncData} (F : Fun K "traps" "Context.traps" A1s f fd) (C : CtxC K mg CC) (O : Own mg) : FnOk P w K mg base (CX1 P w) 1 f fd ["self"] (B0w CC) := by
 refine FnOk.up (F.ok G0d (fun vs H Q E h => ?_) (fun cdv A outer s H vs Q E hr h => ?_))
 . obtain ⟨c, r, y, l, m, a, b, xs, ys, rfl, _⟩ := h
   rfl
 . obtain ⟨c, r, y, l, m, a, b, xs, ys, rfl, ⟨⟨dx, e⟩, _, hb⟩, k⟩ := h
   refine ⟨_, (A9 (B8 (U5 A4f (by rfl) O.list_ boot_list (A0 (G4 (pv 0) rfl) A8)))), ?_⟩
   exact ⟨_, rfl, c, CC, dx, _, _, rfl, e, C.cl, C.n_trapped, B7d _ _ _ _ _ _, b, ys, rfl, .inl (SqL.of hb), k⟩
end
abbrev A9n : Stmt := (G5 (top 12) 0)
section
variable {P : Program} {w : World} {K : Frag} {mg : Str -> Option Value} {base : Heap}
theorem J7y : FnScope ["self", "signal"] ["self", "signal"] (A3 A9n) := scK
theorem J1p {f CT fI : Addr} {fd : FuncData} (F : Fun K "__init__" "Trapped.__init__" A9n f fd) (XI : ExcI K CT fI) (hn : findIn K (.ref CT) "signal" = some none) : FnOk P w K mg base CX0 1 f fd ["self", "signal"] (C7k CT "signal") := by
 refine F.ok J7y (fun vs H Q E h => ?_) (fun cdv A outer s H vs Q E hr h => ?_)
 . obtain ⟨e, t, v, rfl, _⟩ := h
   rfl
 . obtain ⟨e, t, v, rfl, he, k⟩ := h
   refine ⟨_, (A9 (V3u XI hn (pv 0) (pv 1) rfl)), ?_⟩
   exact ⟨_, rfl, _, rfl, e, t, rfl, he, fun d nd ne => k d nd ne⟩
end
def Wy.goes (y : Wy) (s last part : Int) : Bool := match y with
 | .down => false
 | .up => true
 | .floor => decide (V.int s = V.int 1)
 | .ceiling => decide (V.int s = V.int 0)
 | .halfUp => decide (part >= 2)
 | .halfDown => decide (V.int part = V.int 3)
 | .halfEven => if decide (V.int part = V.int 3) = true then true else if decide (V.int part = V.int 2) = true then decide (V.int (last % 2) = V.int 1) else false
 | .fiveUp => inV (.int last) [.int 0, .int 5]
section
variable {P : Program} {w : World} {K : Frag} {mg : Str -> Option Value} {base : Heap}
def A4g (y : Wy) : Sp := fun vs H Q _ => ∃ p s l t, vs = [.ref p, .int s, .int l, .int t] /\ ∀ H', Same H H' -> Q (.bl (y.goes s l t)) H'
def Y5d (P : Program) (w : World) (K : Frag) (mg : Str -> Option Value) (base : Heap) (C : Addr) (y : Wy) : Prop := Has P w K mg base C "goes_up" 1 ["self", "sign", "last", "part"] (A4g y)
abbrev sU0 : Stmt := (G5 (top 38) 1)
theorem Y8r : FnScope ["self", "sign", "last", "part"] ["self", "sign", "last", "part"] (A3 sU0) := scK
theorem Y5u {f : Addr} {fd : FuncData} (F : Fun K "goes_up" "Down.goes_up" sU0 f fd) : FnOk P w K mg base (CX1 P w) 1 f fd ["self", "sign", "last", "part"] (A4g .down) := by
 refine FnOk.up (F.ok Y8r (fun vs H Q E h => ?_) (fun cdv A outer s H vs Q E hr h => ?_))
 . obtain ⟨p, z, l, t, rfl, _⟩ := h
   rfl
 . obtain ⟨p, z, l, t, rfl, k⟩ := h
   refine ⟨_, (A9 (B8 D5e)), ?_⟩
   exact k H (Same.refl H)
abbrev sU1 : Stmt := (G5 (top 39) 1)
theorem Y8y : FnScope ["self", "sign", "last", "part"] ["self", "sign", "last", "part"] (A3 sU1) := scK
theorem Y3r {f : Addr} {fd : FuncData} (F : Fun K "goes_up" "Up.goes_up" sU1 f fd) : FnOk P w K mg base (CX1 P w) 1 f fd ["self", "sign", "last", "part"] (A4g .up) := by
 refine FnOk.up (F.ok Y8y (fun vs H Q E h => ?_) (fun cdv A outer s H vs Q E hr h => ?_))
 . obtain ⟨p, z, l, t, rfl, _⟩ := h
   rfl
 . obtain ⟨p, z, l, t, rfl, k⟩ := h
   refine ⟨_, (A9 (B8 D5e)), ?_⟩
   exact k H (Same.refl H)
abbrev sU2 : Stmt := (G5 (top 40) 1)
theorem Y8h : FnScope ["self", "sign", "last", "part"] ["self", "sign", "last", "part"] (A3 sU2) := scK
theorem Y4s {f : Addr} {fd : FuncData} (F : Fun K "goes_up" "Floor.goes_up" sU2 f fd) : FnOk P w K mg base (CX1 P w) 1 f fd ["self", "sign", "last", "part"] (A4g .floor) := by
 refine FnOk.up (F.ok Y8h (fun vs H Q E h => ?_) (fun cdv A outer s H vs Q E hr h => ?_))
 . obtain ⟨p, z, l, t, rfl, _⟩ := h
   rfl
 . obtain ⟨p, z, l, t, rfl, k⟩ := h
   refine ⟨_, (A9 (B8 (G0 D6 (pv 1) A1 (B9 _)))), ?_⟩
   exact ⟨_, rfl, rfl, k H (Same.refl H)⟩
abbrev sU3 : Stmt := (G5 (top 41) 1)
theorem Y9e : FnScope ["self", "sign", "last", "part"] ["self", "sign", "last", "part"] (A3 sU3) := scK
theorem Y5h {f : Addr} {fd : FuncData} (F : Fun K "goes_up" "Ceiling.goes_up" sU3 f fd) : FnOk P w K mg base (CX1 P w) 1 f fd ["self", "sign", "last", "part"] (A4g .ceiling) := by
 refine FnOk.up (F.ok Y9e (fun vs H Q E h => ?_) (fun cdv A outer s H vs Q E hr h => ?_))
 . obtain ⟨p, z, l, t, rfl, _⟩ := h
   rfl
 . obtain ⟨p, z, l, t, rfl, k⟩ := h
   refine ⟨_, (A9 (B8 (G0 D6 (pv 1) A1 (B9 _)))), ?_⟩
   exact ⟨_, rfl, rfl, k H (Same.refl H)⟩
abbrev sU4 : Stmt := (G5 (top 42) 1)
theorem Y8a : FnScope ["self", "sign", "last", "part"] ["self", "sign", "last", "part"] (A3 sU4) := scK
theorem Y3s {f : Addr} {fd : FuncData} (F : Fun K "goes_up" "HalfUp.goes_up" sU4 f fd) : FnOk P w K mg base (CX1 P w) 1 f fd ["self", "sign", "last", "part"] (A4g .halfUp) := by
 refine FnOk.up (F.ok Y8a (fun vs H Q E h => ?_) (fun cdv A outer s H vs Q E hr h => ?_))
 . obtain ⟨p, z, l, t, rfl, _⟩ := h
   rfl
 . obtain ⟨p, z, l, t, rfl, k⟩ := h
   refine ⟨_, (A9 (B8 (G0 G9p (pv 3) A1 (B9 _)))), ?_⟩
   exact ⟨_, rfl, _, _, rfl, rfl, k H (Same.refl H)⟩
abbrev sU5 : Stmt := (G5 (top 43) 1)
theorem Y8g : FnScope ["self", "sign", "last", "part"] ["self", "sign", "last", "part"] (A3 sU5) := scK
theorem Y4v {f : Addr} {fd : FuncData} (F : Fun K "goes_up" "HalfDown.goes_up" sU5 f fd) : FnOk P w K mg base (CX1 P w) 1 f fd ["self", "sign", "last", "part"] (A4g .halfDown) := by
 refine FnOk.up (F.ok Y8g (fun vs H Q E h => ?_) (fun cdv A outer s H vs Q E hr h => ?_))
 . obtain ⟨p, z, l, t, rfl, _⟩ := h
   rfl
 . obtain ⟨p, z, l, t, rfl, k⟩ := h
   refine ⟨_, (A9 (B8 (G0 D6 (pv 3) A1 (B9 _)))), ?_⟩
   exact ⟨_, rfl, rfl, k H (Same.refl H)⟩
abbrev sU6 : Stmt := (G5 (top 44) 1)
theorem Y8w : FnScope ["self", "sign", "last", "part"] ["self", "sign", "last", "part"] (A3 sU6) := scK
theorem Y3p {f : Addr} {fd : FuncData} (F : Fun K "goes_up" "HalfEven.goes_up" sU6 f fd) : FnOk P w K mg base (CX1 P w) 1 f fd ["self", "sign", "last", "part"] (A4g .halfEven) := by
 refine FnOk.up (F.ok Y8w (fun vs H Q E h => ?_) (fun cdv A outer s H vs Q E hr h => ?_))
 . obtain ⟨p, z, l, t, rfl, _⟩ := h
   rfl
 . obtain ⟨p, z, l, t, rfl, k⟩ := h
   refine ⟨_, (A9 (B8 (D3x (G0 D6 (pv 3) A1 (B9 _)) (A1w (A7j (G0 D6 (pv 3) A1 (B9 _)) (A1w (G0 D6 (B3 D3 (pv 2) A1) A1 (B9 _)))))))), ?_⟩
   have k := k H (Same.refl H)
   unfold Wy.goes at k
   refine ⟨_, rfl, rfl, _, rfl, ?_⟩
   cases e : decide (V.int t = V.int 3) with
   | true => rw [e] at k; exact V5 k
   | false =>
     rw [e] at k
     refine U4 ⟨_, rfl, rfl, _, rfl, ?_⟩
     cases e2 : decide (V.int t = V.int 2) with
     | true => rw [e2] at k; exact V5 ⟨_, rfl, _, _, rfl, rfl, (by decide : (0 : Int) < 2), rfl, k⟩
     | false => rw [e2] at k; exact U4 k
abbrev sU7 : Stmt := (G5 (top 45) 1)
theorem Y7t : FnScope ["self", "sign", "last", "part"] ["self", "sign", "last", "part"] (A3 sU7) := scK
theorem Y4c {f : Addr} {fd : FuncData} (F : Fun K "goes_up" "FiveUp.goes_up" sU7 f fd) : FnOk P w K mg base (CX1 P w) 1 f fd ["self", "sign", "last", "part"] (A4g .fiveUp) := by
 refine FnOk.up (F.ok Y7t (fun vs H Q E h => ?_) (fun cdv A outer s H vs Q E hr h => ?_))
 . obtain ⟨p, z, l, t, rfl, _⟩ := h
   rfl
 . obtain ⟨p, z, l, t, rfl, k⟩ := h
   refine ⟨_, (A9 (B8 (G0 A1r (pv 2) (G8 (A0 A1 (A0 A1 A8))) (by rfl)))), ?_⟩
   exact ⟨_, rfl, C7 (by decide), fun q nq => ⟨q, _, rfl, .inr (SqT.of A6), rfl, rfl, k _ (Same.upd nq)⟩⟩
end
abbrev Y0 : Stmt := (top 26)
abbrev A2x : Stmt := (top 27)
abbrev A2e : Stmt := (top 28)
abbrev A1z : Stmt := (top 29)
structure Cv where
 r : Int
 y : Wy
 l : Int
 m : Int
structure Cv.Ok (c : Cv) : Prop where
 r1 : 1 <= c.r
 r2 : c.r <= 24
 l1 : -60 <= c.l
 l2 : c.l <= 0
 m1 : 0 <= c.m
 m2 : c.m <= 60
def A2m (f : Int) : Int := ((Str.ofString (toString f)).length : Nat)
def upI (y : Wy) (s wh pt : Int) : Int := if (if pt = 0 then false else y.goes s (wh % 10) pt) = true then wh + 1 else wh
def V9 (m f p : Int) : Bool := if f = 0 then false else decide (p + A2m f - 1 > m)
def A2w (pt : Int) (cut : Bool) : List Str := if pt = 0 then (if cut = true then ["cut"] else []) else ["off", "cut"]
def A7n (l L pt : Int) : List Str := if L >= l then [] else if pt = 0 then ["faint"] else ["sunk", "faint"]
def C1s (a b : Int) : Int := if b > a then b else a
def CtxV (CC : Addr) (H : Hp) (c : Addr) (v : Cv) (a b : Addr) (xs ys : List Str) : Prop := CtxAt CC H c v.r v.y v.l v.m a b (xs.map V.str) (ys.map V.str)
theorem CtxV.same {CC : Addr} {H H' : Hp} {c : Addr} {v : Cv} {a b : Addr} {xs ys : List Str} (h : CtxV CC H c v a b xs ys) (e : Same H H') : CtxV CC H' c v a b xs ys := CtxAt.same h e
theorem Y4n {CN : Addr} {H : Hp} {Q : VK} {E : XK} {k s f p : V} (h : ∀ n H', H n = none -> Same H H' -> NumAt CN H' n k s f p -> Q (.ref n) H') :
   ∀ x dx, H x = none -> H dx = none -> dx ≠ x -> C8s CN (.ref x :: ([k, s, f, p] ++ [])) (upd (upd H dx (.own x)) x (.ins CN dx [])) (fun v H2 => v = .non /\ Q (.ref x) H2) E := by
 intro x dx nx nd ne
 refine ⟨x, dx, k, s, f, p, rfl, A6, fun H' e kp => ⟨rfl, h x H' nx (fun b o z => ?_) ⟨dx, e⟩⟩⟩
 refine kp b o ?_ (C5 z nx)
 rw [B4 (C5 z nx), B4 (C5 z nd)]
 exact z
section
variable {P : Program} {w : World} {K : Frag} {mg : Str -> Option Value} {base : Heap}
structure CtxM (P : Program) (w : World) (K : Frag) (mg : Str -> Option Value) (base : Heap) (CC CB CT CW : Addr) (cw : Wy -> Addr) : Prop where
 c : CtxC K mg CC
 way : Has P w K mg base CC "way" 2 ["self"] (B8p CC cw)
 low : Has P w K mg base CC "lowest" 1 ["self"] (B8u CC)
 raised : Has P w K mg base CC "raised" 3 ["self", "names"] (B2n K CC CB CT)
 wc : ∀ y : Wy, WayC K mg y.cls (cw y) CW
 u : ∀ y : Wy, Y5d P w K mg base (cw y) y
def B7j (CC : Addr) : Sp := fun vs H Q _ => ∃ c v a b xs ys p, ∃ s wh pt : Int, vs = [.ref c, .int s, .ref p] /\ CtxV CC H c v a b xs ys /\ H p = some (.tup [.int wh, .int pt]) /\ ∀ H', Same H H' -> Q (.int (upI v.y s wh pt)) H'
theorem D5p : FnScope ["context", "sign", "pair"] ["context", "sign", "pair"] (A3 Y0) := scK
theorem C8c {f CC CB CT CW : Addr} {cw : Wy -> Addr} {fd : FuncData} (D : Def K mg "neighbour" ["context", "sign", "pair"] Y0 f fd) (C : CtxM P w K mg base CC CB CT CW cw) : FnOk P w K mg base (CX1 P w) 3 f fd ["context", "sign", "pair"] (B7j CC) := by
 refine FnOk.up (D.F.ok D5p (fun vs H Q E h => ?_) (fun cdv A outer s H vs Q E hr h => ?_))
 . obtain ⟨c, v, a, b, xs, ys, p, sg, wh, pt, rfl, _⟩ := h
   rfl
 . obtain ⟨c, v, a, b, xs, ys, p, sg, wh, pt, rfl, hc, hp, k⟩ := h
   have hx : G3 (A2j CX0 P w K mg base ["context", "sign", "pair"] "neighbour" (A3 Y0) f cdv A outer s H E).nox EKF := B2j
   obtain ⟨fW, fdW, mW, gW, bW⟩ := C.way
   obtain ⟨fU, fdU, mU, gU, bU⟩ := C.u v.y
   refine ⟨_, (A7 (D9 (PW.pt (A2c (C4 D3u (D7 D4 (pv 2) A1 (fun _ _ => rfl)) A1 (B9 _)) (A0z (Y6 (C5f (B9q (pv 0) C.c.cl mW gW hr bW .nil hx) (C.wc v.y).cl mU gU hr bU .nil hx (A0 (pv 1) (A0 (B3 D3 (D7 D4 (pv 2) A1 (fun _ _ => rfl)) A1) (A0 (D7 D4 (pv 2) A1 (fun _ _ => rfl)) A8)))))))) (A9 (B8 (B3 V2 (D7 D4 (pv 2) A1 (fun _ _ => rfl)) A1))) C6)
     (A9 (B8 (D7 D4 (pv 2) A1 (fun _ _ => rfl))))), ?_⟩
   obtain ⟨⟨dx, e⟩, _, _⟩ := id hc
   unfold upI at k
   refine ⟨_, rfl, p, _, _, _, rfl, rfl, SqT.of hp, G7 (j := 1) rfl, rfl, _, rfl, ?_⟩
   by_cases h0 : pt = 0
   . subst h0
     rw [if_pos rfl, if_neg Bool.false_ne_true] at k
     exact C6d rfl (U4 ⟨_, rfl, p, _, _, _, rfl, rfl, SqT.of hp, G7 (j := 0) rfl, k H (Same.refl H)⟩)
   . rw [if_neg h0] at k
     rw [decide_eq_false (fun q => h0 (by injection q) : ¬ V.int pt = V.int 0)]
     refine V5 ⟨_, rfl, c, dx, _, rfl, e, G0m _ _ _ _ _ _, c, v.r, v.y, v.l, v.m, a, b, _, _, rfl, hc, fun q dq H1 nq s1 eq => ?_⟩
     refine ⟨q, dq, _, rfl, eq, rfl, _, rfl, _, rfl, p, _, _, _, rfl, rfl, SqT.of (s1 _ _ hp), G7 (j := 0) rfl, _, _, rfl, rfl, (by decide : (0 : Int) < 10), _, rfl, p, _, _, _, rfl, rfl, SqT.of (s1 _ _ hp), G7 (j := 1) rfl, q, sg, wh % 10, pt, rfl, fun H2 s2 => ⟨_, rfl, ?_⟩⟩
     have s3 := s1.trans s2
     cases g : v.y.goes sg (wh % 10) pt with
     | true =>
       rw [g, if_pos rfl] at k
       exact V5 ⟨_, rfl, p, _, _, _, rfl, rfl, SqT.of (s3 _ _ hp), G7 (j := 0) rfl, _, _, rfl, rfl, k H2 s3⟩
     | false =>
       rw [g, if_neg Bool.false_ne_true] at k
       exact U4 ⟨_, rfl, p, _, _, _, rfl, rfl, SqT.of (s3 _ _ hp), G7 (j := 0) rfl, k H2 s3⟩
def D5s (CN CC : Addr) : Sp := fun vs H Q _ => ∃ c v a b xs ys n x, vs = [.ref c, .ref n] /\ CtxV CC H c v a b xs ys /\ NumIs CN H n x /\ x.f.natAbs < 2 ^ 300 /\ Q (.bl (V9 v.m x.f x.p)) H
theorem J8d : FnScope ["context", "number"] ["context", "number"] (A3 A2x) := scK
theorem J0z {f f1 CN CC CB CT CW : Addr} {cw : Wy -> Addr} {fd fd1 : FuncData} (D : Def K mg "is_beyond" ["context", "number"] A2x f fd) (D_lead_of : Def K mg "lead_of" ["number"] B7g f1 fd1) (G_lead_of : FnOk P w K mg base (CX1 P w) 1 f1 fd1 ["number"] (D9b CN)) (C : CtxM P w K mg base CC CB CT CW cw) (N : Num K mg CN) :
   FnOk P w K mg base (CX1 P w) 2 f fd ["context", "number"] (D5s CN CC) := by
 refine FnOk.up (D.F.ok J8d (fun vs H Q E h => ?_) (fun cdv A outer s H vs Q E hr h => ?_))
 . obtain ⟨c, v, a, b, xs, ys, n, x, rfl, _⟩ := h
   rfl
 . obtain ⟨c, v, a, b, xs, ys, n, x, rfl, hc, hn, hf, k⟩ := h
   have hx : G3 (A2j CX0 P w K mg base ["context", "number"] "is_beyond" (A3 A2x) f cdv A outer s H E).nox EKF := B2j
   refine ⟨_, (A9 (B8 (A7j (G0 D3u (G4 (pv 1) rfl) A1 (B9 _)) (A1w (G0 A3k (C8 D_lead_of G_lead_of hr hx (A0 (pv 1) A8)) (G4 (pv 0) rfl) (B9 _)))))), ?_⟩
   obtain ⟨⟨dx, e⟩, _, _⟩ := id hc
   obtain ⟨dn, en⟩ := id hn
   unfold V9 at k
   refine ⟨_, rfl, n, CN, dn, _, _, rfl, en, N.cl, N.n3, D4f _ _ _ _, rfl, _, rfl, ?_⟩
   by_cases h0 : x.f = 0
   . rw [if_pos h0] at k
     rw [decide_eq_true (congrArg V.int h0)]
     exact U4 k
   . rw [if_neg h0] at k
     rw [decide_eq_false (fun q => h0 (by injection q) : ¬ V.int x.f = V.int 0)]
     exact V5 ⟨_, rfl, n, _, _, _, _, rfl, hn, hf, _, rfl, c, CC, dx, _, _, rfl, e, C.c.cl, C.c.n_most, D4p _ _ _ _ _ _, _, _, rfl, rfl, k⟩
def C6a : Sp := fun vs H Q _ => ∃ (pt : Int) (cut : Bool), vs = [.int pt, .bl cut] /\ ∀ l, H l = none -> Q (.ref l) (upd H l (.lst ((A2w pt cut).map V.str)))
theorem J2n : FnScope ["part", "is_cut"] ["part", "is_cut"] (A3 A2e) := scK
theorem D8v {f : Addr} {fd : FuncData} (D : Def K mg "signals_of_rest" ["part", "is_cut"] A2e f fd) : FnOk P w K mg base (CX1 P w) 1 f fd ["part", "is_cut"] C6a := by
 refine FnOk.up (D.F.ok J2n (fun vs H Q E h => ?_) (fun cdv A outer s H vs Q E hr h => ?_))
 . obtain ⟨pt, cut, rfl, _⟩ := h
   rfl
 . obtain ⟨pt, cut, rfl, k⟩ := h
   refine ⟨_, (A7 (D9 (C4 D3u (pv 0) A1 (B9 _)) (A9 (B8 (J0 (A0 B0 (A0 B0 A8))))) C6)
     (A9 (B8 (A2a (Y6 (pv 1)) (J0 (A0 B0 A8)) (J0 A8))))), ?_⟩
   unfold A2w at k
   refine ⟨_, rfl, rfl, _, rfl, ?_⟩
   by_cases h0 : pt = 0
   . subst h0
     rw [if_pos rfl] at k
     refine C6d rfl ⟨_, rfl, _, rfl, ?_⟩
     cases cut with
     | true => exact V5 ⟨C7 (by decide), k⟩
     | false => exact U4 ⟨C7 (by decide), k⟩
   . rw [if_neg h0] at k
     rw [decide_eq_false (fun q => h0 (by injection q) : ¬ V.int pt = V.int 0)]
     exact V5 ⟨C7 (by decide), k⟩
def C5k (CC : Addr) : Sp := fun vs H Q _ => ∃ c v a b xs ys, ∃ L pt : Int, vs = [.ref c, .int L, .int pt] /\ CtxV CC H c v a b xs ys /\ ∀ l, H l = none -> Q (.ref l) (upd H l (.lst ((A7n v.l L pt).map V.str)))
theorem J1w : FnScope ["context", "lead", "part"] ["context", "lead", "part"] (A3 A1z) := scK
theorem D8s {f CC CB CT CW : Addr} {cw : Wy -> Addr} {fd : FuncData} (D : Def K mg "signals_of_lead" ["context", "lead", "part"] A1z f fd) (C : CtxM P w K mg base CC CB CT CW cw) : FnOk P w K mg base (CX1 P w) 1 f fd ["context", "lead", "part"] (C5k CC) := by
 refine FnOk.up (D.F.ok J1w (fun vs H Q E h => ?_) (fun cdv A outer s H vs Q E hr h => ?_))
 . obtain ⟨c, v, a, b, xs, ys, L, pt, rfl, _⟩ := h
   rfl
 . obtain ⟨c, v, a, b, xs, ys, L, pt, rfl, hc, k⟩ := h
   refine ⟨_, (A7 (D9 (C4 G9p (pv 1) (G4 (pv 0) rfl) (B9 _)) (A9 (B8 (J0 A8))) C6)
     (A9 (B8 (A2a (C4 D6 (pv 2) A1 (B9 _)) (J0 (A0 B0 A8)) (J0 (A0 B0 (A0 B0 A8))))))), ?_⟩
   obtain ⟨⟨dx, e⟩, _, _⟩ := id hc
   unfold A7n at k
   refine ⟨_, rfl, _, rfl, c, CC, dx, _, _, rfl, e, C.c.cl, C.c.n_least, C5g _ _ _ _ _ _, _, _, rfl, rfl, _, rfl, G6 (fun h => ?_) (fun h => ?_)⟩
   . rw [if_pos h] at k
     exact ⟨C7 (by decide), k⟩
   . rw [if_neg h] at k
     refine ⟨_, rfl, rfl, _, rfl, G6 (fun h => ?_) (fun h => ?_)⟩
     . rw [if_pos (by injection h)] at k
       exact ⟨C7 (by decide), k⟩
     . rw [if_neg fun q => h (congrArg V.int q)] at k
       exact ⟨C7 (by decide), k⟩
end
theorem G9t {r : Int} (h : r <= 24) : D5 r <= 10 ^ 24 := by
 unfold D5
 have : 10 ^ r.toNat <= 10 ^ 24 := Nat.pow_le_pow_right (by decide) (by omega)
 exact Int.ofNat_le.mpr this
section
variable {P : Program} {w : World} {K : Frag} {mg : Str -> Option Value} {base : Heap}
def Ends2 (CN CC CT : Addr) (H : Hp) (c : Addr) (v : Cv) (b : Addr) (xs ys : List Str) (res : Nm × List Str) (Q : VK) (E : XK) : Prop :=
 (hit ys res.2 = none -> ∀ m a' H', Exc c H H' -> CtxV CC H' c v a' b (U7 (xs ++ res.2)) ys -> NumIs CN H' m res.1 -> Q (.ref m) H') /\
 (∀ z, hit ys res.2 = some z -> ∀ a' d H', Exc c H H' -> CtxV CC H' c v a' b (U7 (xs ++ res.2)) ys -> H' d = some (.xd [("signal", .str z)]) -> E (.ref CT) (some d) H')
theorem D3w {pt : Int} {cut : Bool} {l L : Int} : ∀ z ∈ A2w pt cut ++ A7n l L pt, z ∈ sigS := by
 have r : ∀ z ∈ A2w pt cut, z ∈ sigS := by
   unfold A2w
   split
   . split
     . decide +kernel
     . decide +kernel
   . decide +kernel
 have d : ∀ z ∈ A7n l L pt, z ∈ sigS := by
   unfold A7n
   split
   . decide +kernel
   . split
     . decide +kernel
     . decide +kernel
 intro z hz
 rcases List.mem_append.mp hz with h | h
 . exact r z h
 . exact d z h
theorem B9e {pt : Int} {cut : Bool} {l L : Int} : (A2w pt cut ++ A7n l L pt).length <= 4 := by
 have r : (A2w pt cut).length <= 2 := by
   unfold A2w
   split
   . split <;> decide
   . decide
 have d : (A7n l L pt).length <= 2 := by
   unfold A7n
   split
   . decide
   . split <;> decide
 rw [List.length_append]
 omega
end
section
variable {P : Program} {w : World} {K : Frag} {mg : Str -> Option Value} {base : Heap}
theorem J8h : Sz 1 := ⟨by decide, by
 have : D5 1 <= D5 1000 := B7z (by decide)
 have e : D5 1 = 10 := rfl
 omega⟩
theorem J6y {f : Int} (h0 : 0 <= f) (h : f ≠ 0) (h1 : f <= 10 ^ 60 - 1) : Sz f := by
 refine ⟨by omega, ?_⟩
 have : D5 60 <= D5 1000 := B7z (by decide)
 have e : D5 60 = 10 ^ 60 := by decide +kernel
 omega
end
abbrev A4q : Stmt := (top 21)
abbrev B0y : Stmt := (top 22)
section
variable {P : Program} {w : World} {K : Frag} {mg : Str -> Option Value} {base : Heap}
def D5r (K : Frag) (CN CB : Addr) : Sp := fun vs H Q E => ∃ l ns, vs = [.ref l] /\ (∀ p ∈ (ns : List (Addr × Nm)), NumIs CN H p.1 p.2) /\
 ((H l = some (.lst (ns.map fun p => V.ref p.1)) /\ Q .non H) \/ (∃ v r, H l = some (.lst ((ns.map fun p => V.ref p.1) ++ v :: r)) /\ D9h K CN H v /\ E (.ref CB) none H))
theorem scNeedNs : FnScope ["things", "thing"] ["things"] (A3 A4q) := scK
theorem J1t {f f1 CN CB : Addr} {fd fd1 : FuncData} (D : Def K mg "need_numbers" ["things"] A4q f fd) (D_need_number : Def K mg "need_number" ["thing"] A7a f1 fd1) (G_need_number : FnOk P w K mg base (CX1 P w) 1 f1 fd1 ["thing"] (G8z K CN CB)) : FnOk P w K mg base (CX1 P w) 2 f fd ["things"] (D5r K CN CB) := by
 refine D.F.okE scNeedNs (fun vs H Q E h => ?_) (fun X cdv A outer s H vs Q E hX hr hx h => ?_)
 . obtain ⟨l, ns, rfl, _⟩ := h
   rfl
 . subst hX
   obtain ⟨l, ns, rfl, hn, h⟩ := h
   refine ⟨_, (A9 (B8e PassesOwn.leaving rfl (B7y (pv 0)) (U8 (i := 1) scNeedNs.nd rfl (Or.inl rfl)) (A9 (Y1 (C8 D_need_number G_need_number hr hx (A0 (pv 1) A8)))))), ?_⟩
   rcases h with ⟨hl, k⟩ | ⟨v, r, hl, nv, k⟩
   . refine ⟨_, rfl, l, rfl, ⟨_, SqL.of hl⟩, A3r (xs := ns.map fun p => V.ref p.1) (fun i σ H' => H' = H /\ ∃ v, σ = [some (.ref l), v]) ⟨rfl, none, rfl⟩ ?_ ?_ ?_⟩
     . rintro i σ H' _ ⟨rfl, _⟩
       exact SqL.of hl
     . rintro i x σ H' hi ⟨rfl, v, rfl⟩
       obtain ⟨p, hp, rfl⟩ := List.mem_map.mp (List.mem_of_getElem? hi)
       exact ⟨_, rfl, _, rfl, .inl ⟨p.1, _, _, _, _, rfl, hn p hp, rfl, _, rfl⟩⟩
     . rintro σ H' ⟨rfl, v, rfl⟩
       exact k
   . refine ⟨_, rfl, l, rfl, ⟨_, SqL.of hl⟩, A3r (xs := (ns.map fun p => V.ref p.1) ++ v :: r) (fun i σ H' => H' = H /\ i <= ns.length /\ ∃ v, σ = [some (.ref l), v]) ⟨rfl, Nat.zero_le _, none, rfl⟩ ?_ ?_ ?_⟩
     . rintro i σ H' _ ⟨rfl, _⟩
       exact SqL.of hl
     . rintro i x σ H' hi ⟨rfl, hle, u, rfl⟩
       by_cases hlt : i < ns.length
       . rw [List.getElem?_append_left (by simpa using hlt)] at hi
         obtain ⟨p, hp, rfl⟩ := List.mem_map.mp (List.mem_of_getElem? hi)
         exact ⟨_, rfl, _, rfl, .inl ⟨p.1, _, _, _, _, rfl, hn p hp, rfl, by omega, _, rfl⟩⟩
       . have e : i = ns.length := by omega
         subst e
         rw [List.getElem?_append_right (by simp)] at hi
         simp at hi
         subst hi
         exact ⟨_, rfl, _, rfl, .inr ⟨nv, k⟩⟩
     . rintro σ H' ⟨rfl, hle, _⟩
       exfalso
       rw [List.length_append, List.length_map, List.length_cons] at hle
       omega
def J0e (CN : Addr) : Sp := fun vs H Q _ => ∃ l ns z, vs = [.ref l, .str z] /\ NumsAt CN H l ns /\ ns.length <= 1000 /\ ∀ H', Same H H' -> Q (.bl (ns.any fun p => decide (p.2.k.str = z))) H'
theorem V2e : FnScope ["numbers", "kind"] ["numbers", "kind"] (A3 B0y) := scK
theorem V7u (ns : List (Addr × Nm)) (z : Str) : (ns.map fun p => decide (p.2.k.str = z)).any id = ns.any fun p => decide (p.2.k.str = z) := by rw [List.any_map]; rfl
theorem B8a {a b : Str} : decide (V.str a = V.str b) = decide (a = b) := by
 by_cases h : a = b
 . rw [decide_eq_true h, decide_eq_true (congrArg V.str h)]
 . rw [decide_eq_false h, decide_eq_false fun q => h (by injection q)]
theorem J5s {f CN : Addr} {fd : FuncData} (D : Def K mg "some_of_kind" ["numbers", "kind"] B0y f fd) (O : Own mg) (N : Num K mg CN) : FnOk P w K mg base (CX1 P w) 1 f fd ["numbers", "kind"] (J0e CN) := by
 refine FnOk.up (D.F.ok V2e (fun vs H Q E h => ?_) (fun cdv A outer s H vs Q E hr h => ?_))
 . obtain ⟨l, ns, z, rfl, _⟩ := h
   rfl
 . obtain ⟨l, ns, z, rfl, ⟨hl, hn⟩, hz, k⟩ := h
   refine ⟨_, (A9 (B8 (V0 (J7u hr.hd) (by rfl) O.any_ boot_any (A0 (J1m (N := ["number"]) (F := ["kind"]) (js := [1]) (CompScopeF.of1 ⟨rfl, by decide +kernel, by decide +kernel, by decide +kernel, by decide +kernel⟩ (by rfl) (by rfl) ⟨_, by rfl⟩ (by rfl) (by rfl)) (.inl hr.hd) (D4h (pv 0)) rfl (fun C s₀ H₀ ex pn h => U8 (i := 0) (by decide +kernel : (["number", "kind"] : List Str).Nodup) rfl (Or.inl rfl)) (fun C s₀ H₀ ex pn h => (G0 D6 (V3e (K := K) rfl (pv 0) rfl) (pv 1) (B9 _)))) A8)))), ?_⟩
   refine ⟨_, rfl, l, rfl, ⟨_, SqL.of hl⟩, J1e (J := Itl K l) (n := ns.length) (fun i y _ => ∃ p, ns[i]? = some p /\ y = .bl (decide (p.2.k.str = z))) hz (fun _ _ _ _ _ _ h _ _ => h) (fun i H2 Qy hi sm hy => ⟨⟨_, V.ref ns[i].1, SqL.of (sm _ _ hl), by simp [hi]⟩, fun x H3 yl => ?_⟩) (fun H2 sm => ⟨_, SqL.of (sm _ _ hl), by simp⟩) (fun D H' ys sm nD eD hlen hR => ?_)⟩
   . obtain ⟨rfl, yl⟩ := yl
     have ex : x = V.ref ns[i].1 := by
       have := yl _ (SqL.of (sm _ _ hl))
       simp [hi] at this
       exact this.symm
     subst ex
     obtain ⟨dx, e⟩ := (hn _ (List.getElem_mem hi)).same sm
     refine ⟨_, rfl, ns[i].1, CN, dx, _, _, rfl, e, N.cl, N.n1, num1 _ _ _ _, _, rfl, rfl, hy _ _ (Same.refl _) ⟨ns[i], by simp [hi], ?_⟩⟩
     rw [B8a]
   . have ey : ys = (ns.map fun p => decide (p.2.k.str = z)).map V.bl := by
       apply List.ext_getElem?
       intro i
       by_cases hi : i < ns.length
       . obtain ⟨p, hp, hy⟩ := hR i ys[i] (by simp [hlen, hi])
         rw [List.getElem?_eq_getElem (by omega), hy]
         simp [hp]
       . rw [List.getElem?_eq_none (by omega), List.getElem?_eq_none (by simp; omega)]
     subst ey
     refine ⟨D, _, rfl, SqL.of eD, ?_⟩
     rw [V7u]
     exact k H' sm
end
abbrev B7f : Stmt := (top 54)
section
variable {P : Program} {w : World} {K : Frag} {mg : Str -> Option Value} {base : Heap}
def G0h (K : Frag) : Sp := fun vs H Q _ => ∃ a ns k, vs = [.ref a, .int k] /\ SqL K H a ((ns : List Int).map V.int) /\ 0 <= k /\ ∀ i, Q (.int i) H
theorem V8s : FnScope ["_law_script", "_law_k"] ["_law_script", "_law_k"] (A3 B7f) := scK
theorem G9u {f : Addr} {fd : FuncData} (D : Def K mg "_law_cell_at" ["_law_script", "_law_k"] B7f f fd) (O : Own mg) : FnOk P w K mg base (CX1 P w) 1 f fd ["_law_script", "_law_k"] (G0h K) := by
 refine FnOk.up (D.F.ok V8s (fun vs H Q E h => ?_) (fun cdv A outer s H vs Q E hr h => ?_))
 . obtain ⟨a, ns, k, rfl, _⟩ := h
   rfl
 . obtain ⟨a, ns, i, rfl, hs, h0, k⟩ := h
   refine ⟨_, (A7 (D9 (C4 D4u (pv 1) (V0 C8h (by rfl) O.len_ PySem.boot_len (A0 (pv 0) A8)) (B9 _)) (A9 (B8 (D7 A1b (pv 0) (pv 1) (fun _ _ => rfl)))) C6)
     (A9 (B8 A1))), ?_⟩
   refine ⟨_, rfl, _, rfl, a, _, rfl, .inl hs, _, _, rfl, rfl, _, rfl, ?_⟩
   refine G6 (fun hlt => ?_) (fun _ => k 0)
   rw [List.length_map] at hlt
   obtain ⟨j, rfl⟩ := Int.eq_ofNat_of_zero_le h0
   have hj : j < ns.length := by omega
   exact ⟨_, rfl, _, rfl, a, _, _, _, rfl, rfl, hs, G7 (v := V.int ns[j]) (by simp [hj]), k _⟩
end
abbrev A4k : Stmt := (top 55)
section
variable {P : Program} {w : World} {K : Frag} {mg : Str -> Option Value} {base : Heap}
def B7w : Sp := fun vs H Q _ => ∃ c k, vs = [.int c, .int k] /\ 0 <= k /\ k <= 100 /\ ∀ m, 0 <= m -> m < 2147483629 -> Q (.int m) H
theorem V2u : FnScope ["_law_cell", "_law_k"] ["_law_cell", "_law_k"] (A3 A4k) := scK
theorem J5q {f : Addr} {fd : FuncData} (D : Def K mg "_law_mixed" ["_law_cell", "_law_k"] A4k f fd) : FnOk P w K mg base (CX1 P w) 1 f fd ["_law_cell", "_law_k"] B7w := by
 refine FnOk.up (D.F.ok V2u (fun vs H Q E h => ?_) (fun cdv A outer s H vs Q E hr h => ?_))
 . obtain ⟨c, k, rfl, _⟩ := h
   rfl
 . obtain ⟨c, i, rfl, h0, h1, k⟩ := h
   refine ⟨_, (A9 (B8 (B3 D3 (B3 V1 (B3 D3 (B3 V2 (B3 V2 (B3 V1 (pv 0) (B3 V2 A1 (B3 V1 (B3 V1 A1 (pv 1)) (pv 1)))) (B3 V1 A1 (pv 1))) A1) A1) A1) A1))), ?_⟩
   have q0 : (0 : Int) <= 2 * i * i := Int.mul_nonneg (by omega) h0
   have q1 : 2 * i * i <= 200 * 100 := Int.mul_le_mul (by omega) h1 h0 (by decide)
   have m1 : IntMulOk 2 i := CMul.ok (.inl ⟨by decide, by decide⟩)
   have m2 : IntMulOk (2 * i) i := CMul.ok (.inr ⟨by omega, by omega⟩)
   have m3 : IntMulOk c (48271 + 2 * i * i) := CMul.ok (.inr ⟨by omega, by omega⟩)
   have m4 : IntMulOk 69621 i := CMul.ok (.inl ⟨by decide, by decide⟩)
   have m5 : ∀ z : Int, IntMulOk z 69621 := fun z => CMul.ok (.inr ⟨by decide, by decide⟩)
   refine ⟨_, rfl, _, rfl, _, _, rfl, rfl, m1, _, rfl, _, _, rfl, rfl, m2, _, _, rfl, rfl, _, _, rfl, rfl, m3, _, rfl, _, _, rfl, rfl, m4, _, _, rfl, rfl, _, _, rfl, rfl, _, _, rfl, rfl, (by show (0 : Int) < 2147483647; decide), _, _, rfl, rfl, m5 _, _, _, rfl, rfl, (by show (0 : Int) < 2147483629; decide), ?_⟩
   exact k _ (Int.emod_nonneg _ (by decide)) (Int.emod_lt_of_pos _ (by decide))
end
abbrev B7k : Stmt := (top 56)
section
variable {P : Program} {w : World} {K : Frag} {mg : Str -> Option Value} {base : Heap}
def G0p : Sp := fun vs H Q _ => ∃ n : Nat, vs = [.int (n : Int)] /\ n <= 600 /\ Q (.int ((10 ^ n : Nat) : Int)) H
theorem V7s : FnScope ["_law_count"] ["_law_count"] (A3 B7k) := scK
theorem V3s {f : Addr} {fd : FuncData} (D : Def K mg "_law_ten" ["_law_count"] B7k f fd) (O : Own mg) : FnOk P w K mg base (CX1 P w) 1 f fd ["_law_count"] G0p := by
 refine FnOk.up (D.F.ok V7s (fun vs H Q E h => ?_) (fun cdv A outer s H vs Q E hr h => ?_))
 . obtain ⟨n, rfl, _⟩ := h
   rfl
 . obtain ⟨n, rfl, hn, k⟩ := h
   refine ⟨_, (A9 (B8 (U5 C1y (by rfl) O.int_ boot_int (A0 (B3 D8q B0 (B3 D8w B0 (pv 0))) A8)))), ?_⟩
   have l1 : ("1" : Str).length = 1 := by decide +kernel
   have l0 : ("0" : Str).length = 1 := by decide +kernel
   refine ⟨_, rfl, _, _, rfl, rfl, by omega, by omega, C7 (by rw [l0]; omega), _, _, rfl, rfl, C7 (by rw [B9j, l0, l1]; omega), ?_⟩
   exact ⟨J1n n, _, rfl, J8r n hn, by rw [D5a]; omega, k⟩
end
abbrev A1x : Stmt := (top 58)
abbrev B0u : Stmt := (top 59)
structure Nm.Wf (x : Nm) : Prop where
 ok : x.Ok
 e : x.k = .end_ -> x.f = 0 /\ x.p = 0
 n : x.k = .none -> x.s = 0 /\ x.f = 0 /\ x.p = 0
theorem A7f {s f p : Int} (h1 : 0 <= s /\ s <= 1) (h2 : 0 <= f /\ f <= 10 ^ 60 - 1) (h3 : -200 <= p /\ p <= 200) : (Nm.mk .plain s f p).Wf := ⟨⟨h1.1, h1.2, h2.1, h2.2, h3.1, h3.2⟩, fun q => (by cases q), fun q => (by cases q)⟩
theorem V8e {s : Int} (h1 : 0 <= s /\ s <= 1) : (Nm.mk .end_ s 0 0).Wf := ⟨⟨h1.1, h1.2, by show (0 : Int) <= 0; decide, by show (0 : Int) <= 10 ^ 60 - 1; decide, by show (-200 : Int) <= 0; decide, by show (0 : Int) <= 200; decide⟩, fun _ => ⟨rfl, rfl⟩, fun q => (by cases q)⟩
theorem V1v : (Nm.mk .none 0 0 0).Wf := ⟨⟨by show (0 : Int) <= 0; decide, by show (0 : Int) <= 1; decide, by show (0 : Int) <= 0; decide, by show (0 : Int) <= 10 ^ 60 - 1; decide, by show (-200 : Int) <= 0; decide, by show (0 : Int) <= 200; decide⟩, fun q => (by cases q), fun _ => ⟨rfl, rfl, rfl⟩⟩
theorem J0a {L : Int} {n : Nat} (hn : n <= 60) : 0 <= L % ((10 ^ n : Nat) : Int) /\ L % ((10 ^ n : Nat) : Int) <= 10 ^ 60 - 1 := by
 have p : 0 < ((10 ^ n : Nat) : Int) := Int.natCast_pos.mpr (Nat.pow_pos (by decide))
 have a := Int.emod_nonneg L (Int.ne_of_gt p)
 have b := Int.emod_lt_of_pos L p
 have c : (10 : Nat) ^ n <= 10 ^ 60 := Nat.pow_le_pow_right (by decide) hn
 have e : ((10 ^ 60 : Nat) : Int) = 10 ^ 60 := by decide +kernel
 omega
abbrev A0f : Stmt := (top 57)
theorem dv {n : Int} (h : 0 < n) (h2 : n.natAbs.log2 < 9000) : (0 : Int) < n /\ n.natAbs.log2 < 9000 := ⟨h, h2⟩
section
variable {P : Program} {w : World} {K : Frag} {mg : Str -> Option Value} {base : Heap}
def B9k : Sp := fun vs H Q _ => ∃ c wy : Int, vs = [.int c, .int wy] /\ 0 <= wy /\ wy < 8 /\ ∀ f H', 0 <= f -> f <= 10 ^ 60 - 1 -> Same H H' -> Q (.int f) H'
theorem scLFigures : FnScope ["_law_cell", "_law_way", "_law_more", "_law_found", "_law_k"] ["_law_cell", "_law_way"] (A3 A0f) := scK
theorem J6p {a : Int} {n : Nat} (h0 : 0 <= a) (h1 : a <= 99) (hn : n <= 13) : 0 <= a * ((10 ^ n : Nat) : Int) /\ a * ((10 ^ n : Nat) : Int) <= 10 ^ 60 - 1 := by
 have c : (10 : Nat) ^ n <= 10 ^ 13 := Nat.pow_le_pow_right (by decide) hn
 have x : a * ((10 ^ n : Nat) : Int) <= 99 * ((10 ^ 13 : Nat) : Int) := Int.mul_le_mul h1 (Int.ofNat_le.mpr c) (Int.natCast_nonneg _) (by decide)
 exact ⟨Int.mul_nonneg h0 (Int.natCast_nonneg _), Int.le_trans x (by decide +kernel)⟩
theorem D9j {n : Nat} {a : Int} (hn : n <= 24) (h1 : 0 <= a) (h2 : a <= 2) : 0 <= ((10 ^ n : Nat) : Int) - 1 + a /\ ((10 ^ n : Nat) : Int) - 1 + a <= 10 ^ 60 - 1 := by
 have c : (10 : Nat) ^ n <= 10 ^ 24 := Nat.pow_le_pow_right (by decide) hn
 have d : 0 < (10 : Nat) ^ n := Nat.pow_pos (by decide)
 have e : ((10 ^ 24 : Nat) : Int) + 2 <= 10 ^ 60 - 1 := by decide +kernel
 omega
theorem D4t {f f1 f2 : Addr} {fd fd1 fd2 : FuncData} (D : Def K mg "_law_figures" ["_law_cell", "_law_way"] A0f f fd) (D_l_mixed : Def K mg "_law_mixed" ["_law_cell", "_law_k"] A4k f1 fd1) (G_l_mixed : FnOk P w K mg base (CX1 P w) 1 f1 fd1 ["_law_cell", "_law_k"] B7w)
   (D_l_ten : Def K mg "_law_ten" ["_law_count"] B7k f2 fd2) (G_l_ten : FnOk P w K mg base (CX1 P w) 1 f2 fd2 ["_law_count"] G0p) (O : Own mg) : FnOk P w K mg base (CX1 P w) 2 f fd ["_law_cell", "_law_way"] B9k := by
 refine D.F.okE scLFigures (fun vs H Q E h => ?_) (fun X cdv A outer s H vs Q E hX hr hx h => ?_)
 . obtain ⟨c, wy, rfl, _⟩ := h
   rfl
 . subst hX
   obtain ⟨c, wy, rfl, w0, w8, k⟩ := h
   refine ⟨_, (A7 (B7 (C9 (i := 2) scLFigures.nd rfl (Or.inl rfl) (C8 D_l_mixed G_l_mixed hr hx (A0 (pv 0) (A0 A1 A8)))))
     (A7 (B7 (D9 (PW.pt (A7k (C4 D6 (pv 1) A1 (B9 _)) (A3c (C4 D6 (pv 1) A1 (B9 _))))) (A7 (B7 (C9 (i := 3) scLFigures.nd rfl (Or.inl rfl) A1))
     (A7 (B7 (B8e PassesOwn.leaving rfl (B3f rfl O.range_ (A0 A1 A8)) (U8 (i := 4) scLFigures.nd rfl (Or.inl rfl)) (A9 (B7 (C9 (i := 3) scLFigures.nd rfl (Or.inl rfl) (B3 V2 (B3 V1 (pv 3) A1) (B3 D3 (C8 D_l_mixed G_l_mixed hr hx (A0 (pv 0) (A0 (B3 V2 A1 (pv 4)) A8))) A1)))))))
     (A9 (B8 (B3 D3 (pv 3) (C8 D_l_ten G_l_ten hr hx (A0 (B3 V2 A1 (B3 D3 (pv 2) (D7 A1b (J0 (A0 A1 (A0 A1 A8))) (B3 V4 (pv 1) A1) (fun _ _ => rfl)))) A8))))))) C6))
     (A7 (B7 (D9 (PW.pt (A7k (C4 D6 (pv 1) A1 (B9 _)) (A3c (C4 D6 (pv 1) A1 (B9 _))))) (A9 (B8 (B3 V1 (B3 V2 (B3 D3 (pv 2) A1) A1) (C8 D_l_ten G_l_ten hr hx (A0 (B3 D3 (B3 G2 (pv 2) A1) A1) A8))))) C6))
     (A7 (B7 (D9 (C4 D6 (pv 1) A1 (B9 _)) (A9 (B8 (B3 V2 (B3 V4 (C8 D_l_ten G_l_ten hr hx (A0 (B3 V2 A1 (B3 D3 (pv 2) A1)) A8)) A1) (B3 D3 (B3 G2 (pv 2) A1) A1)))) C6))
     (A9 (B8 (B3 D3 (pv 2) (D7 A1b (J0 (A0 A1 (A0 A1 (A0 A1 A8)))) (B3 D3 (B3 G2 (pv 2) A1) A1) (fun _ _ => rfl))))))))), ?_⟩
   have z2 : 2 <= sizeLine := C7 (by decide)
   have z3 : 3 <= sizeLine := C7 (by decide)
   have mC : ∀ z n : Int, -(2 ^ 64) < n -> n < 2 ^ 64 -> IntMulOk z n := fun z n a b => CMul.ok (.inr ⟨a, b⟩)
   have mC' : ∀ z n : Int, -(2 ^ 64) < n -> n < 2 ^ 64 -> IntMulOk n z := fun z n a b => CMul.ok (.inl ⟨a, b⟩)
   have pT : ∀ n : Nat, 0 < ((10 ^ n : Nat) : Int) := fun n => Int.natCast_pos.mpr (Nat.pow_pos (by decide))
   refine ⟨fun σ' H' => ∃ m : Int, H' = H /\ 0 <= m /\ σ' = [some (.int c), some (.int wy), some (.int m), none, none], ?_, ?_⟩
   . exact ⟨_, rfl, c, 1, rfl, by decide, by decide, fun m m0 _ => ⟨m, rfl, m0, rfl⟩⟩
   rintro σ' H1 ⟨m, rfl, m0, rfl⟩
   refine ⟨fun σ' H' => H' = H1 /\ σ' = [some (.int c), some (.int wy), some (.int m), none, none], ?_, ?_⟩
   . refine ⟨_, rfl, rfl, _, rfl, G6 (fun h => ?_) (fun h => ⟨_, rfl, rfl, _, rfl, G6 (fun h' => ?_) (fun _ => ⟨rfl, rfl⟩)⟩)⟩
     . have h : wy = 2 := by injection h
       subst h
       refine V5 ?_
       refine ⟨fun σ' H' => H' = H1 /\ σ' = [some (.int c), some (.int 2), some (.int m), some (.int 0), none], ⟨rfl, rfl⟩, ?_⟩
       rintro σ' H2 ⟨rfl, rfl⟩
       refine ⟨fun σ' H' => H' = H2 /\ ∃ (L : Int) (v : Option V), σ' = [some (.int c), some (.int 2), some (.int m), some (.int L), v], ⟨7, rfl, by decide, by decide, C6n (n := 7) (fun i σ' H' => H' = H2 /\ ∃ (L : Int) (v : Option V), σ' = [some (.int c), some (.int 2), some (.int m), some (.int L), v]) ⟨rfl, 0, none, rfl⟩ ?_ (fun σ' H' h => h)⟩, ?_⟩
       . rintro i σ' H3 hi ⟨rfl, L, v, rfl⟩
         refine ⟨_, ?_, fun _ _ h => h⟩
         exact ⟨_, rfl, _, _, rfl, rfl, mC _ _ (by decide) (by decide), _, rfl, _, rfl, _, _, rfl, rfl, c, _, rfl, (by show (0 : Int) <= 10 + (0 + (i : Int)); omega), (by show 10 + (0 + (i : Int)) <= 100; omega), fun m' _ _ => ⟨_, _, rfl, rfl, (by decide : (0 : Int) < 1000000000), _, _, rfl, rfl, rfl, _, _, rfl⟩⟩
       . rintro σ' H3 ⟨rfl, L, v, rfl⟩
         refine ⟨_, rfl, _, rfl, z2, fun l nl => ?_⟩
         have a0 := Int.emod_nonneg m (by decide : (24 : Int) ≠ 0)
         have a1 := Int.emod_lt_of_pos m (by decide : (0 : Int) < 24)
         have fm := J0a (L := L) (n := (1 + m % 24).toNat) (by omega)
         exact ⟨_, rfl, _, _, rfl, rfl, l, _, _, _, rfl, rfl, SqL.of A6, G7 (j := 0) rfl, _, _, rfl, rfl, (by decide : (0 : Int) < 24), _, _, rfl, rfl, (1 + m % 24).toNat, (by rw [Int.toNat_of_nonneg (by omega)]; rfl), by omega, _, _, rfl, rfl, pT _, k _ _ fm.1 fm.2 (Same.upd nl)⟩
     . have h' : wy = 3 := by injection h'
       subst h'
       refine ⟨fun σ' H' => H' = H1 /\ σ' = [some (.int c), some (.int 3), some (.int m), some (.int 0), none], ⟨rfl, rfl⟩, ?_⟩
       rintro σ' H2 ⟨rfl, rfl⟩
       refine ⟨fun σ' H' => H' = H2 /\ ∃ (L : Int) (v : Option V), σ' = [some (.int c), some (.int 3), some (.int m), some (.int L), v], ⟨7, rfl, by decide, by decide, C6n (n := 7) (fun i σ' H' => H' = H2 /\ ∃ (L : Int) (v : Option V), σ' = [some (.int c), some (.int 3), some (.int m), some (.int L), v]) ⟨rfl, 0, none, rfl⟩ ?_ (fun σ' H' h => h)⟩, ?_⟩
       . rintro i σ' H3 hi ⟨rfl, L, v, rfl⟩
         refine ⟨_, ?_, fun _ _ h => h⟩
         exact ⟨_, rfl, _, _, rfl, rfl, mC _ _ (by decide) (by decide), _, rfl, _, rfl, _, _, rfl, rfl, c, _, rfl, (by show (0 : Int) <= 10 + (0 + (i : Int)); omega), (by show 10 + (0 + (i : Int)) <= 100; omega), fun m' _ _ => ⟨_, _, rfl, rfl, (by decide : (0 : Int) < 1000000000), _, _, rfl, rfl, rfl, _, _, rfl⟩⟩
       . rintro σ' H3 ⟨rfl, L, v, rfl⟩
         refine ⟨_, rfl, _, rfl, z2, fun l nl => ?_⟩
         have a0 := Int.emod_nonneg m (by decide : (60 : Int) ≠ 0)
         have a1 := Int.emod_lt_of_pos m (by decide : (0 : Int) < 60)
         have fm := J0a (L := L) (n := (1 + m % 60).toNat) (by omega)
         exact ⟨_, rfl, _, _, rfl, rfl, l, _, _, _, rfl, rfl, SqL.of A6, G7 (j := 1) rfl, _, _, rfl, rfl, (by decide : (0 : Int) < 60), _, _, rfl, rfl, (1 + m % 60).toNat, (by rw [Int.toNat_of_nonneg (by omega)]; rfl), by omega, _, _, rfl, rfl, pT _, k _ _ fm.1 fm.2 (Same.upd nl)⟩
   rintro σ' H2 ⟨rfl, rfl⟩
   have a0 := Int.emod_nonneg m (by decide : (99 : Int) ≠ 0)
   have a1 := Int.emod_lt_of_pos m (by decide : (0 : Int) < 99)
   have b0 := Int.emod_nonneg (m / 99) (by decide : (13 : Int) ≠ 0)
   have b1 := Int.emod_lt_of_pos (m / 99) (by decide : (0 : Int) < 13)
   have fs := J6p (a := m % 99 + 1) (n := (m / 99 % 13).toNat) (by omega) (by omega) (by omega)
   refine ⟨fun σ' H' => H' = H2 /\ σ' = [some (.int c), some (.int wy), some (.int m), none, none], ?_, ?_⟩
   . refine ⟨_, rfl, rfl, _, rfl, G6 (fun h => ?_) (fun h => ⟨_, rfl, rfl, _, rfl, G6 (fun h' => ?_) (fun _ => ⟨rfl, rfl⟩)⟩)⟩
     . exact V5 ⟨_, rfl, _, _, rfl, rfl, (by decide : (0 : Int) < 99), _, _, rfl, rfl, _, rfl, _, _, rfl, rfl, dv (n := 99) (by decide) (by decide +kernel), _, _, rfl, rfl, (by decide : (0 : Int) < 13), (m / 99 % 13).toNat, (by rw [Int.toNat_of_nonneg b0]; rfl), by omega, _, _, rfl, rfl, mC' _ _ (by omega) (by omega), k _ _ fs.1 fs.2 (Same.refl _)⟩
     . exact ⟨_, rfl, _, _, rfl, rfl, (by decide : (0 : Int) < 99), _, _, rfl, rfl, _, rfl, _, _, rfl, rfl, dv (n := 99) (by decide) (by decide +kernel), _, _, rfl, rfl, (by decide : (0 : Int) < 13), (m / 99 % 13).toNat, (by rw [Int.toNat_of_nonneg b0]; rfl), by omega, _, _, rfl, rfl, mC' _ _ (by omega) (by omega), k _ _ fs.1 fs.2 (Same.refl _)⟩
   rintro σ' H3 ⟨rfl, rfl⟩
   have c0 := Int.emod_nonneg m (by decide : (24 : Int) ≠ 0)
   have c1 := Int.emod_lt_of_pos m (by decide : (0 : Int) < 24)
   have d0 := Int.emod_nonneg (m / 24) (by decide : (3 : Int) ≠ 0)
   have d1 := Int.emod_lt_of_pos (m / 24) (by decide : (0 : Int) < 3)
   have fr := D9j (n := (1 + m % 24).toNat) (a := m / 24 % 3) (by omega) d0 (by omega)
   refine ⟨fun σ' H' => H' = H3 /\ σ' = [some (.int c), some (.int wy), some (.int m), none, none], ?_, ?_⟩
   . refine ⟨_, rfl, rfl, _, rfl, G6 (fun h => ?_) (fun h => ⟨rfl, rfl⟩)⟩
     exact ⟨_, rfl, _, _, rfl, rfl, (by decide : (0 : Int) < 24), _, _, rfl, rfl, (1 + m % 24).toNat, (by rw [Int.toNat_of_nonneg (by omega)]; rfl), by omega, _, _, rfl, rfl, _, rfl, _, _, rfl, rfl, dv (n := 24) (by decide) (by decide +kernel), _, _, rfl, rfl, (by decide : (0 : Int) < 3), _, _, rfl, rfl, k _ _ fr.1 fr.2 (Same.refl _)⟩
   rintro σ' H4 ⟨rfl, rfl⟩
   refine ⟨_, rfl, z3, fun l nl => ?_⟩
   obtain ⟨v, hv, ix⟩ := ixs (xs := [10, 100, 1000]) (i := m / 1000 % 3) (Int.emod_nonneg _ (by decide)) (by show m / 1000 % 3 < 3; exact Int.emod_lt_of_pos _ (by decide))
   have bv : 0 < v /\ v <= 1000 := by
     simp only [List.mem_cons, List.not_mem_nil, or_false] at hv
     omega
   have e0 := Int.emod_nonneg m (Int.ne_of_gt bv.1)
   have e1 := Int.emod_lt_of_pos m bv.1
   have big : (1000 : Int) <= 10 ^ 60 - 1 := by decide +kernel
   exact ⟨_, rfl, _, _, rfl, rfl, dv (n := 1000) (by decide) (by decide +kernel), _, _, rfl, rfl, (by decide : (0 : Int) < 3), l, _, _, _, rfl, rfl, SqL.of A6, ix, _, _, rfl, rfl, bv.1, k _ _ e0 (by omega) (Same.upd nl)⟩
end
section
variable {P : Program} {w : World} {K : Frag} {mg : Str -> Option Value} {base : Heap}
def C5n : Sp := fun vs H Q _ => ∃ c, vs = [.int c] /\ ∀ (x : Nm) t H', x.Wf -> Same H H' -> H' t = some (.tup x.vs) -> Q (.ref t) H'
theorem scLNumber : FnScope ["_law_cell", "_law_kind", "_law_sign", "_law_more", "_law_wide"] ["_law_cell"] (A3 A1x) := scK
theorem D9f {f f1 f2 : Addr} {fd fd1 fd2 : FuncData} (D : Def K mg "_law_number" ["_law_cell"] A1x f fd) (D_l_mixed : Def K mg "_law_mixed" ["_law_cell", "_law_k"] A4k f1 fd1) (G_l_mixed : FnOk P w K mg base (CX1 P w) 1 f1 fd1 ["_law_cell", "_law_k"] B7w)
   (D_l_figures : Def K mg "_law_figures" ["_law_cell", "_law_way"] A0f f2 fd2) (G_l_figures : FnOk P w K mg base (CX1 P w) 2 f2 fd2 ["_law_cell", "_law_way"] B9k) (O : Own mg) : FnOk P w K mg base (CX1 P w) 3 f fd ["_law_cell"] C5n := by
 refine D.F.okE scLNumber (fun vs H Q E h => ?_) (fun X cdv A outer s H vs Q E hX hr hx h => ?_)
 . obtain ⟨c, rfl, _⟩ := h
   rfl
 . subst hX
   obtain ⟨c, rfl, k⟩ := h
   refine ⟨_, (A7 (B7 (C9 (i := 1) scLNumber.nd rfl (Or.inl rfl) (B3 D3 (pv 0) A1)))
     (A7 (B7 (C9 (i := 2) scLNumber.nd rfl (Or.inl rfl) (B3 D3 (B3 G2 (pv 0) A1) A1)))
     (A7 (B7 (C9 (i := 3) scLNumber.nd rfl (Or.inl rfl) (C8 D_l_mixed G_l_mixed hr hx (A0 (pv 0) (A0 A1 A8)))))
     (A7 (B7 (D9 (C4 D6 (pv 1) A1 (B9 _)) (A9 (B8 (G8 (A0 B0 (A0 (pv 2) (A0 A1 (A0 (B3 V4 (B3 D3 (pv 3) A1) A1) A8))))))) C6))
     (A7 (B7 (D9 (C4 D6 (pv 1) A1 (B9 _)) (A9 (B8 (D7 A1b (J0 (A0 (G8 (A0 B0 (A0 (pv 2) (A0 A1 (A0 A1 A8))))) (A0 (G8 (A0 B0 (A0 A1 (A0 A1 (A0 A1 A8))))) A8))) (U5 A9h (by rfl) O.int_ boot_int (A0 (G0 D6 (B3 D3 (pv 3) A1) A1 (B9 _)) A8)) (fun _ _ => rfl)))) C6))
     (A7 (B7 (C9 (i := 4) scLNumber.nd rfl (Or.inl rfl) (B3 V4 (B3 D3 (pv 3) A1) A1)))
     (A7 (B7 (D9 (C4 D6 (B3 D3 (B3 G2 (pv 3) A1) A1) A1 (B9 _)) (A9 (B7 (C9 (i := 4) scLNumber.nd rfl (Or.inl rfl) (B3 V4 (B3 D3 (B3 G2 (pv 3) A1) A1) A1)))) C6))
     (A7 (B7 (D9 (C4 D6 (B3 D3 (B3 G2 (pv 3) A1) A1) A1 (B9 _)) (A9 (B7 (C9 (i := 4) scLNumber.nd rfl (Or.inl rfl) (B3 V4 (B3 D3 (B3 G2 (pv 3) A1) A1) A1)))) C6))
     (A9 (B8 (G8 (A0 B0 (A0 (pv 2) (A0 (C8 D_l_figures G_l_figures hr hx (A0 (pv 0) (A0 (B3 D3 (B3 G2 (pv 0) A1) A1) A8))) (A0 (pv 4) A8))))))))))))))), ?_⟩
   have z2 : 2 <= sizeLine := C7 (by decide)
   have z4 : 4 <= sizeLine := C7 (by decide)
   refine ⟨fun σ' H' => ∃ kd : Int, H' = H /\ σ' = [some (.int c), some (.int kd), none, none, none], ⟨_, rfl, _, _, rfl, rfl, (by decide : (0 : Int) < 8), _, rfl, rfl⟩, ?_⟩
   rintro σ' H1 ⟨kd, rfl, rfl⟩
   refine ⟨fun σ' H' => ∃ sg : Int, H' = H1 /\ 0 <= sg /\ sg <= 1 /\ σ' = [some (.int c), some (.int kd), some (.int sg), none, none], ⟨_, rfl, _, _, rfl, rfl, dv (n := 8) (by decide) (by decide +kernel), _, _, rfl, rfl, (by decide : (0 : Int) < 2), c / 8 % 2, rfl, by omega, by omega, rfl⟩, ?_⟩
   rintro σ' H2 ⟨sg, rfl, s0, s1, rfl⟩
   refine ⟨fun σ' H' => ∃ m : Int, H' = H2 /\ 0 <= m /\ σ' = [some (.int c), some (.int kd), some (.int sg), some (.int m), none], ⟨_, rfl, c, 2, rfl, by decide, by decide, fun m m0 _ => ⟨m, rfl, m0, rfl⟩⟩, ?_⟩
   rintro σ' H3 ⟨m, rfl, m0, rfl⟩
   refine ⟨fun σ' H' => H' = H3 /\ σ' = [some (.int c), some (.int kd), some (.int sg), some (.int m), none], ?_, ?_⟩
   . refine ⟨_, rfl, rfl, _, rfl, G6 (fun h => ?_) (fun h => ⟨rfl, rfl⟩)⟩
     refine ⟨_, rfl, _, rfl, _, _, rfl, rfl, (by decide : (0 : Int) < 41), _, _, rfl, rfl, z4, fun t nt => ?_⟩
     exact k ⟨.plain, sg, 0, m % 41 - 20⟩ t _ (A7f ⟨s0, s1⟩ ⟨by decide, by decide +kernel⟩ ⟨by omega, by omega⟩) (Same.upd nt) A6
   rintro σ' H4 ⟨rfl, rfl⟩
   refine ⟨fun σ' H' => H' = H4 /\ σ' = [some (.int c), some (.int kd), some (.int sg), some (.int m), none], ?_, ?_⟩
   . refine ⟨_, rfl, rfl, _, rfl, G6 (fun h => ?_) (fun h => ⟨rfl, rfl⟩)⟩
     refine ⟨_, rfl, z4, fun t1 n1 => ⟨z4, fun t2 n2 => ⟨z2, fun l nl => ?_⟩⟩⟩
     have u1 := Same.upd (o := .tup [.str "end", .int sg, .int 0, .int 0]) n1
     have u2 := Same.upd (o := .tup [.str "none", .int 0, .int 0, .int 0]) n2
     have u3 := Same.upd (o := .lst [.ref t1, .ref t2]) nl
     refine ⟨_, rfl, _, _, rfl, rfl, (by decide : (0 : Int) < 4), rfl, .inr ⟨_, rfl, ?_⟩⟩
     by_cases hm : V.int (m % 4) = V.int 0
     . rw [decide_eq_true hm]
       exact ⟨l, _, _, _, rfl, rfl, SqL.of A6, G7 (j := 1) rfl, k ⟨.none, 0, 0, 0⟩ t2 _ V1v ((u1.trans u2).trans u3) (u3 _ _ A6)⟩
     . rw [decide_eq_false hm]
       exact ⟨l, _, _, _, rfl, rfl, SqL.of A6, G7 (j := 0) rfl, k ⟨.end_, sg, 0, 0⟩ t1 _ (V8e ⟨s0, s1⟩) ((u1.trans u2).trans u3) ((u2.trans u3) _ _ A6)⟩
   rintro σ' H5 ⟨rfl, rfl⟩
   refine ⟨fun σ' H' => H' = H5 /\ ∃ pw : Int, -200 <= pw /\ pw <= 200 /\ σ' = [some (.int c), some (.int kd), some (.int sg), some (.int m), some (.int pw)], ⟨_, rfl, _, _, rfl, rfl, (by decide : (0 : Int) < 13), _, _, rfl, rfl, rfl, m % 13 - 6, by omega, by omega, rfl⟩, ?_⟩
   rintro σ' H6 ⟨rfl, pw, p0, p1, rfl⟩
   refine ⟨fun σ' H' => H' = H6 /\ ∃ pw : Int, -200 <= pw /\ pw <= 200 /\ σ' = [some (.int c), some (.int kd), some (.int sg), some (.int m), some (.int pw)], ?_, ?_⟩
   . refine ⟨_, rfl, _, _, rfl, rfl, dv (n := 13) (by decide) (by decide +kernel), _, _, rfl, rfl, (by decide : (0 : Int) < 4), rfl, _, rfl, G6 (fun _ => ?_) (fun _ => ⟨rfl, pw, p0, p1, rfl⟩)⟩
     refine ⟨_, ?_, fun _ _ h => h⟩
     exact ⟨_, rfl, _, _, rfl, rfl, dv (n := 52) (by decide) (by decide +kernel), _, _, rfl, rfl, (by decide : (0 : Int) < 141), _, _, rfl, rfl, rfl, m / 52 % 141 - 70, by omega, by omega, rfl⟩
   rintro σ' H7 ⟨rfl, pw, p0, p1, rfl⟩
   refine ⟨fun σ' H' => H' = H7 /\ ∃ pw : Int, -200 <= pw /\ pw <= 200 /\ σ' = [some (.int c), some (.int kd), some (.int sg), some (.int m), some (.int pw)], ?_, ?_⟩
   . refine ⟨_, rfl, _, _, rfl, rfl, dv (n := 13) (by decide) (by decide +kernel), _, _, rfl, rfl, (by decide : (0 : Int) < 16), rfl, _, rfl, G6 (fun _ => ?_) (fun _ => ⟨rfl, pw, p0, p1, rfl⟩)⟩
     refine ⟨_, ?_, fun _ _ h => h⟩
     exact ⟨_, rfl, _, _, rfl, rfl, dv (n := 208) (by decide) (by decide +kernel), _, _, rfl, rfl, (by decide : (0 : Int) < 401), _, _, rfl, rfl, rfl, m / 208 % 401 - 200, by omega, by omega, rfl⟩
   rintro σ' H8 ⟨rfl, pw, p0, p1, rfl⟩
   refine ⟨_, rfl, _, rfl, _, rfl, _, _, rfl, rfl, dv (n := 16) (by decide) (by decide +kernel), _, _, rfl, rfl, (by decide : (0 : Int) < 8), c, _, rfl, Int.emod_nonneg _ (by decide), Int.emod_lt_of_pos _ (by decide), fun fg H9 g0 g1 s9 => ?_⟩
   refine ⟨_, rfl, z4, fun t nt => ?_⟩
   exact k ⟨.plain, sg, fg, pw⟩ t _ (A7f ⟨s0, s1⟩ ⟨g0, g1⟩ ⟨p0, p1⟩) (s9.trans (Same.upd nt)) A6
def J0d (CN : Addr) : Sp := fun vs H Q _ => ∃ t x, vs = [.ref t] /\ H t = some (.tup (Nm.vs x)) /\ x.Wf /\ ∀ n H', H n = none -> Same H H' -> NumIs CN H' n x -> Q (.ref n) H'
theorem V2s : FnScope ["_law_one"] ["_law_one"] (A3 B0u) := scK
theorem J5n {f f1 f2 f3 CN CB : Addr} {fd fd1 fd2 fd3 : FuncData} (D : Def K mg "_law_made" ["_law_one"] B0u f fd) (D_plain : Def K mg "plain" ["sign", "figures", "power"] B0z f1 fd1) (G_plain : FnOk P w K mg base (CX1 P w) 3 f1 fd1 ["sign", "figures", "power"] (G9v K CN CB))
   (D_end : Def K mg "end" ["sign"] D9y f2 fd2) (G_end : FnOk P w K mg base (CX1 P w) 3 f2 fd2 ["sign"] (V7c K CN CB)) (D_nothing : Def K mg "nothing" [] Z2 f3 fd3) (G_nothing : FnOk P w K mg base (CX1 P w) 3 f3 fd3 [] (A9p CN)) : FnOk P w K mg base (CX1 P w) 4 f fd ["_law_one"] (J0d CN) := by
 refine D.F.okE V2s (fun vs H Q E h => ?_) (fun X cdv A outer s H vs Q E hX hr hx h => ?_)
 . obtain ⟨t, x, rfl, _⟩ := h
   rfl
 . subst hX
   obtain ⟨t, x, rfl, ht, wf, k⟩ := h
   refine ⟨_, (A7 (D9 (C4 D6 (D7 D4 (pv 0) A1 (fun _ _ => rfl)) B0 (B9 _)) (A9 (B8 (C8 D_plain G_plain hr hx (A0 (D7 D4 (pv 0) A1 (fun _ _ => rfl)) (A0 (D7 D4 (pv 0) A1 (fun _ _ => rfl)) (A0 (D7 D4 (pv 0) A1 (fun _ _ => rfl)) A8)))))) C6)
     (A7 (D9 (C4 D6 (D7 D4 (pv 0) A1 (fun _ _ => rfl)) B0 (B9 _)) (A9 (B8 (C8 D_end G_end hr hx (A0 (D7 D4 (pv 0) A1 (fun _ _ => rfl)) A8)))) C6)
     (A9 (B8 (G0k D_nothing G_nothing hr hx))))), ?_⟩
   have ok := wf.ok
   have g1 : A3m 0 1 (.int x.s) := ⟨_, rfl, ok.s0, ok.s1⟩
   have g2 : A3m 0 (10 ^ 60 - 1) (.int x.f) := ⟨_, rfl, ok.f0, ok.f1⟩
   have g3 : A3m (-200) 200 (.int x.p) := ⟨_, rfl, ok.p0, ok.p1⟩
   have ix : ∀ j : Nat, j < 4 -> atI x.vs (j : Int) = some (x.vs.getD j .non) := fun j hj => G7 (j := j) (by
     rcases (by omega : j = 0 \/ j = 1 \/ j = 2 \/ j = 3) with rfl | rfl | rfl | rfl <;> rfl)
   refine ⟨_, rfl, t, _, _, _, rfl, rfl, SqT.of ht, ix 0 (by decide), rfl, _, rfl, G6 (fun h => ?_) (fun h => ?_)⟩
   . have hk : x.k = .plain := eqS (b := .plain) h
     refine ⟨_, rfl, t, _, _, _, rfl, rfl, SqT.of ht, ix 1 (by decide), _, rfl, t, _, _, _, rfl, rfl, SqT.of ht, ix 2 (by decide), _, rfl, t, _, _, _, rfl, rfl, SqT.of ht, ix 3 (by decide), _, _, _, rfl, .inl ⟨g1, g2, g3, fun n H' nn sm num => k n H' nn sm ?_⟩⟩
     unfold NumIs
     rw [hk]
     exact num
   . have hk : x.k ≠ .plain := neS (b := .plain) h
     refine ⟨_, rfl, t, _, _, _, rfl, rfl, SqT.of ht, ix 0 (by decide), rfl, _, rfl, G6 (fun h => ?_) (fun h => ?_)⟩
     . have hk : x.k = .end_ := eqS (b := .end_) h
       obtain ⟨ef, ep⟩ := wf.e hk
       refine ⟨_, rfl, t, _, _, _, rfl, rfl, SqT.of ht, ix 1 (by decide), _, rfl, .inl ⟨g1, fun n H' nn sm num => k n H' nn sm ?_⟩⟩
       unfold NumIs
       rw [hk, ef, ep]
       exact num
     . have hk2 : x.k ≠ .end_ := neS (b := .end_) h
       have hk3 : x.k = .none := by
         cases hk' : x.k with
         | plain => exact absurd hk' hk
         | end_ => exact absurd hk' hk2
         | none => rfl
       obtain ⟨es, ef, ep⟩ := wf.n hk3
       refine ⟨rfl, fun n H' nn sm num => k n H' nn sm ?_⟩
       unfold NumIs
       rw [hk3, es, ef, ep]
       exact num
end
def rdS (zs : List Str) : PyData := .list (zs.map PyData.str)
def OkL (zs : List Str) : Prop := zs.length <= 100 /\ ∀ z ∈ zs, PyData.strOk z = true
theorem Y3y : ∀ {zs : List Str}, (∀ z ∈ zs, PyData.strOk z = true) -> PyData.canLayAll0 (zs.map PyData.str) = true /\ PyData.depthAll (zs.map PyData.str) <= 1
 | [], _ => by simp [PyData.canLayAll0, PyData.depthAll]
 | z :: zs, h => by
   obtain ⟨a, b⟩ := Y3y (zs := zs) fun z' h' => h z' (List.mem_cons_of_mem _ h')
   have c := h z List.mem_cons_self
   constructor
   . simp [PyData.canLayAll0, PyData.canLay0, c, a]
   . simp only [List.map_cons, PyData.depthAll, PyData.depth]
     omega
theorem shS {zs : List Str} (h : OkL zs) : SeqAt.shaped (rdS zs) = true := by
 obtain ⟨a, b⟩ := Y3y h.2
 unfold SeqAt.shaped rdS
 simp only [PyData.canLay0, PyData.depth, a, Bool.and_true, Bool.and_eq_true, decide_eq_true_eq, List.length_map]
 exact ⟨trivial, decide_eq_true (by omega)⟩
theorem V8d : ∀ zs : List Str, PyData.eqv (rdS zs) (rdS zs) = true := by
 have h : ∀ zs : List Str, PyData.eqvAll (zs.map PyData.str) (zs.map PyData.str) = true := fun zs => by
   induction zs with
   | nil => simp [PyData.eqvAll]
   | cons z zs ih => simp [PyData.eqvAll, PyData.eqv, ih]
 intro zs
 simp [rdS, PyData.eqv, h]
theorem Y4y {K : Frag} {H : Hp} : ∀ zs : List Str, RdDs K H (zs.map V.str) (zs.map PyData.str)
 | [] => .nil
 | z :: zs => .cons (.str z) (Y4y zs)
theorem B2v {K : Frag} {H : Hp} {p : Addr} {zs : List Str} (h : H p = some (.lst (zs.map V.str))) : RdD K H (.ref p) (rdS zs) := .lst (SqL.of h) (Y4y zs)
theorem J0g : ∀ z ∈ sigS, PyData.strOk z = true := by decide +kernel
def SubS (zs : List Str) : Prop := ∃ p : Str -> Bool, zs = sigS.filter p
theorem SubS.ok {zs : List Str} (h : SubS zs) : OkL zs := by
 obtain ⟨p, rfl⟩ := h
 exact ⟨Nat.le_trans (List.length_filter_le _ _) (by decide), fun z hz => J0g z (List.mem_filter.mp hz).1⟩
theorem SubS.len {zs : List Str} (h : SubS zs) : zs.length <= 7 := by
 obtain ⟨p, rfl⟩ := h
 exact List.length_filter_le _ _
theorem SubS.mem {zs : List Str} (h : SubS zs) : ∀ z ∈ zs, z ∈ sigS := by
 obtain ⟨p, rfl⟩ := h
 exact fun z hz => (List.mem_filter.mp hz).1
theorem B8q {zs ws : List Str} (h : SubS zs) (e : ∀ z, z ∈ ws ↔ z ∈ zs) : U7 ws = zs := by
 obtain ⟨p, rfl⟩ := h
 unfold U7
 refine List.filter_congr fun z hz => ?_
 rw [Bool.eq_iff_iff, List.contains_iff_mem, e, List.mem_filter]
 simp [hz]
theorem J7j (zs : List Str) : SubS (U7 zs) := ⟨_, rfl⟩
theorem C7t : ∀ i < 7, A3q[i]? = some (.str (sigS.getD i "")) := by decide +kernel
theorem V1w : sigS = (List.range 7).map (fun i => sigS.getD i "") := by decide +kernel
theorem D4y (f : Nat -> Bool) : SubS (((List.range 7).filter f).map fun i => sigS.getD i "") := by
 refine ⟨fun z => f (sigS.idxOf z), ?_⟩
 conv => rhs; rw [V1w]
 rw [List.filter_map]
 congr 1
theorem G9e {f : Nat -> Bool} {ys : List V} (hl : ys.length = ((List.range 7).filter f).length) (h : ∀ (j i : Nat) (y : V), ((List.range 7).filter f)[j]? = some i -> ys[j]? = some y -> A3q[i]? = some y) :
   ys = ((((List.range 7).filter f).map fun i => sigS.getD i "")).map V.str := by
 apply List.ext_getElem
 . simp [hl]
 . intro j h1 h2
   have hj : j < ((List.range 7).filter f).length := by rw [<- hl]; exact h1
   have z := h j _ ys[j] (List.getElem?_eq_getElem hj) (List.getElem?_eq_getElem h1)
   have hm : ((List.range 7).filter f)[j] < 7 := by
     have := (List.mem_filter.mp (List.getElem_mem hj)).1
     simpa using this
   rw [C7t _ hm] at z
   simp only [List.getElem_map]
   exact (Option.some.inj z).symm
abbrev B9g : Stmt := (top 60)
def J1k (r : Int) (y : Wy) (l m : Int) (u t : Addr) : List (Key × V) := [(.inr "room", .int r), (.inr "way", .str y.name), (.inr "least", .int l), (.inr "most", .int m), (.inr "lowest", .int (l - r + 1)), (.inr "up", .ref u), (.inr "trapped", .ref t)]
structure OwnAt (H : Hp) (d u t : Addr) (r : Int) (y : Wy) (l m : Int) (up tr : List Str) : Prop where
 d : H d = some (.dK (J1k r y l m u t))
 u : H u = some (.lst (up.map V.str))
 t : H t = some (.lst (tr.map V.str))
theorem OwnAt.same {H H' : Hp} {d u t : Addr} {r l m : Int} {y : Wy} {up tr : List Str} (h : OwnAt H d u t r y l m up tr) (s : Same H H') : OwnAt H' d u t r y l m up tr := ⟨s _ _ h.d, s _ _ h.u, s _ _ h.t⟩
structure FrameOk (r l m : Int) : Prop where
 r1 : 1 <= r
 r2 : r <= 24
 l1 : -60 <= l
 l2 : l <= 0
 m1 : 0 <= m
 m2 : m <= 60
def ownWy : List Wy := [.halfEven, .down, .up, .floor, .ceiling, .halfUp, .halfDown, .fiveUp]
def J6e : List V := ownWy.map fun y => V.str y.name
def k5 (r : Int) (y : Wy) (l m : Int) : List (Key × V) := [(.inr "room", .int r), (.inr "way", .str y.name), (.inr "least", .int l), (.inr "most", .int m), (.inr "lowest", .int (l - r + 1))]
theorem kne : (¬ (("way" : Str) = "room")) /\ (¬ (("room" : Str) = "way")) /\ (¬ (("room" : Str) = "least")) /\ (¬ (("way" : Str) = "least")) /\ (¬ (("room" : Str) = "most")) /\ (¬ (("way" : Str) = "most")) /\ (¬ (("least" : Str) = "most")) /\
   (¬ (("room" : Str) = "lowest")) /\ (¬ (("way" : Str) = "lowest")) /\ (¬ (("least" : Str) = "lowest")) /\ (¬ (("most" : Str) = "lowest")) /\ (¬ (("room" : Str) = "up")) /\ (¬ (("way" : Str) = "up")) /\ (¬ (("least" : Str) = "up")) /\ (¬ (("most" : Str) = "up")) /\ (¬ (("lowest" : Str) = "up")) /\
   (¬ (("room" : Str) = "trapped")) /\ (¬ (("way" : Str) = "trapped")) /\ (¬ (("least" : Str) = "trapped")) /\ (¬ (("most" : Str) = "trapped")) /\ (¬ (("lowest" : Str) = "trapped")) /\ (¬ (("up" : Str) = "trapped")) /\ (¬ (("trapped" : Str) = "up")) := by decide +kernel
theorem Y9q (a b : V) : A7e [] [((.inr "room" : Key), a), (.inr "way", b)] = [(.inr "room", a), (.inr "way", b)] := by
 obtain ⟨h1, h2, _⟩ := kne
 simp [A7e, Y9, h1, h2]
theorem Y7r (a b v : V) : Y9 [((.inr "room" : Key), a), (.inr "way", b)] (.inr "room") v = [(.inr "room", v), (.inr "way", b)] := by
 obtain ⟨h1, h2, _⟩ := kne
 simp [Y9, h1, h2]
theorem Y9m (a b v : V) : Y9 [((.inr "room" : Key), a), (.inr "way", b)] (.inr "least") v = [(.inr "room", a), (.inr "way", b), (.inr "least", v)] := by
 obtain ⟨_, _, h1, h2, _⟩ := kne
 simp [Y9, h1, h2]
theorem Y8d (a b c v : V) : Y9 [((.inr "room" : Key), a), (.inr "way", b), (.inr "least", c)] (.inr "most") v = [(.inr "room", a), (.inr "way", b), (.inr "least", c), (.inr "most", v)] := by
 obtain ⟨_, _, _, _, h1, h2, h3, _⟩ := kne
 simp [Y9, h1, h2, h3]
theorem Y8q (a b c d v : V) : Y9 [((.inr "room" : Key), a), (.inr "way", b), (.inr "least", c), (.inr "most", d)] (.inr "lowest") v = [(.inr "room", a), (.inr "way", b), (.inr "least", c), (.inr "most", d), (.inr "lowest", v)] := by
 obtain ⟨_, _, _, _, _, _, _, h1, h2, h3, h4, _⟩ := kne
 simp [Y9, h1, h2, h3, h4]
theorem Y9c (r : Int) (y : Wy) (l m : Int) (v : V) : Y9 (k5 r y l m) (.inr "up") v = k5 r y l m ++ [(.inr "up", v)] := by
 obtain ⟨_, _, _, _, _, _, _, _, _, _, _, h1, h2, h3, h4, h5, _⟩ := kne
 simp [Y9, k5, h1, h2, h3, h4, h5]
theorem Y8t (r : Int) (y : Wy) (l m : Int) (u t : Addr) : Y9 (k5 r y l m ++ [(.inr "up", .ref u)]) (.inr "trapped") (.ref t) = J1k r y l m u t := by
 obtain ⟨_, _, _, _, _, _, _, _, _, _, _, _, _, _, _, _, h1, h2, h3, h4, h5, h6, _⟩ := kne
 simp [Y9, k5, J1k, h1, h2, h3, h4, h5, h6]
theorem Y8p (r : Int) (y : Wy) (l m : Int) (u u' t : Addr) : Y9 (J1k r y l m u t) (.inr "up") (.ref u') = J1k r y l m u' t := by
 obtain ⟨_, _, _, _, _, _, _, _, _, _, _, h1, h2, h3, h4, h5, _, _, _, _, _, _, h6⟩ := kne
 simp [Y9, J1k, h1, h2, h3, h4, h5, h6]
theorem at3 (a b c n : Int) : ∃ v, (v = a \/ v = b \/ v = c) /\ atI ([.int a, .int b, .int c] : List V) (n % 3) = some (.int v) := by
 rcases (by omega : n % 3 = 0 \/ n % 3 = 1 \/ n % 3 = 2) with h | h | h
 . exact ⟨a, .inl rfl, by rw [h]; exact G7 (j := 0) rfl⟩
 . exact ⟨b, .inr (.inl rfl), by rw [h]; exact G7 (j := 1) rfl⟩
 . exact ⟨c, .inr (.inr rfl), by rw [h]; exact G7 (j := 2) rfl⟩
theorem sh3 : ∀ i : Nat, i < 7 -> (0 : Int) < 3 * 2 ^ ((0 : Int) + (i : Int)).toNat /\ ((3 : Int) * 2 ^ ((0 : Int) + (i : Int)).toNat).natAbs.log2 < 9000 := by decide +kernel
theorem V8z : ∀ i : Nat, i < 7 -> (0 : Int) < 1200 * 2 ^ ((0 : Int) + (i : Int)).toNat /\ ((1200 : Int) * 2 ^ ((0 : Int) + (i : Int)).toNat).natAbs.log2 < 9000 := by decide +kernel
theorem G9k {i : Nat} (h : i < 7) : atI A3q ((0 : Int) + (i : Int)) = some (.str (sigS.getD i "")) := by
 rw [Int.zero_add]
 exact G7 (j := i) (C7t i h)
section
variable {P : Program} {w : World} {K : Frag} {mg : Str -> Option Value} {base : Heap}
def J7e : Sp := fun vs H Q _ => ∃ c : Int, vs = [.int c] /\ ∀ d u t r y l m up tr H', Same H H' -> H d = none -> H u = none -> H t = none -> FrameOk r l m -> SubS up -> SubS tr -> OwnAt H' d u t r y l m up tr -> Q (.ref d) H'
theorem scLOwn : FnScope ["_law_cell", "_law_ways", "_law_signals", "_law_more", "_law_own_here"] ["_law_cell"] (A3 B9g) := scK
theorem V3q {f f1 : Addr} {fd fd1 : FuncData} (D : Def K mg "_law_own" ["_law_cell"] B9g f fd) (D_l_mixed : Def K mg "_law_mixed" ["_law_cell", "_law_k"] A4k f1 fd1) (G_l_mixed : FnOk P w K mg base (CX1 P w) 1 f1 fd1 ["_law_cell", "_law_k"] B7w) (O : Own mg) :
   FnOk P w K mg base (CX1 P w) 2 f fd ["_law_cell"] J7e := by
 refine D.F.okE scLOwn (fun vs H Q E h => ?_) (fun X cdv A outer s H vs Q E hX hr hx h => ?_)
 . obtain ⟨c, rfl, _⟩ := h
   rfl
 . subst hX
   obtain ⟨c, rfl, k⟩ := h
   have HU := hr.units
   refine ⟨_, (A7 (B7 (C9 (i := 1) scLOwn.nd rfl (Or.inl rfl) (J0 (A0 B0 (A0 B0 (A0 B0 (A0 B0 (A0 B0 (A0 B0 (A0 B0 (A0 B0 A8)))))))))))
     (A7 (B7 (C9 (i := 2) scLOwn.nd rfl (Or.inr rfl) (J0 (A0 B0 (A0 B0 (A0 B0 (A0 B0 (A0 B0 (A0 B0 (A0 B0 A8))))))))))
     (A7 (B7 (C9 (i := 3) scLOwn.nd rfl (Or.inr rfl) (C8 D_l_mixed G_l_mixed hr hx (A0 (pv 0) (A0 A1 A8)))))
     (A7 (B7 (C9 (i := 4) scLOwn.nd rfl (Or.inl rfl) (V4h (D4r B0 (B3 V2 A1 (B3 D3 (pv 3) A1)) (D4r B0 (D7 A1b (pv 1) (B3 D3 (B3 G2 (pv 3) A1) A1) (fun _ _ => rfl)) V4d)) rfl rfl (by simp) (by decide))))
     (A7 (B7 (D9 (C4 D6 (B3 D3 (B3 G2 (pv 3) A1) A1) A1 (B9 _)) (A9 (B7 (A4m (Nat.lt_of_le_of_lt (Nat.add_le_add_left (by decide) _) HU) (pv 4) B0 (B3 V2 A1 (B3 D3 (B3 G2 (pv 3) A1) A1)) (by rfl)))) C6))
     (A7 (B7 (C9 (i := 3) scLOwn.nd rfl (Or.inr rfl) (C8 D_l_mixed G_l_mixed hr hx (A0 (pv 0) (A0 A1 A8)))))
     (A7 (B7 (A4m (Nat.lt_of_le_of_lt (Nat.add_le_add_left (by decide) _) HU) (pv 4) B0 (D7 A1b (J0 (A0 (B9b B0r A1) (A0 (B3 V4 A1 (B3 D3 (B3 G2 (pv 3) A1) A1)) (A0 (B3 V4 A1 (B3 D3 (B3 G2 (pv 3) A1) A1)) A8)))) (B3 D3 (pv 3) A1) (fun _ _ => rfl)) (by rfl)))
     (A7 (B7 (A4m (Nat.lt_of_le_of_lt (Nat.add_le_add_left (by decide) _) HU) (pv 4) B0 (D7 A1b (J0 (A0 A1 (A0 (B3 D3 (B3 G2 (pv 3) A1) A1) (A0 (B3 D3 (B3 G2 (pv 3) A1) A1) A8)))) (B3 D3 (B3 G2 (pv 3) A1) A1) (fun _ _ => rfl)) (by rfl)))
     (A7 (B7 (A4m (Nat.lt_of_le_of_lt (Nat.add_le_add_left (by decide) _) HU) (pv 4) B0 (B3 V2 (B3 V4 (U2 (Nat.lt_of_le_of_lt (Nat.add_le_add_left (by decide) _) HU) (pv 4) B0 (fun _ _ => rfl)) (U2 (Nat.lt_of_le_of_lt (Nat.add_le_add_left (by decide) _) HU) (pv 4) B0 (fun _ _ => rfl))) A1) (by rfl)))
     (A7 (B7 (C9 (i := 3) scLOwn.nd rfl (Or.inr rfl) (C8 D_l_mixed G_l_mixed hr hx (A0 (pv 0) (A0 A1 A8)))))
     (A7 (B7 (A4m (Nat.lt_of_le_of_lt (Nat.add_le_add_left (by decide) _) HU) (pv 4) B0 (D5n (N := ["_law_k"]) (F := ["_law_signals", "_law_more"]) (js := [2, 3]) (CompScopeF.of2 ⟨rfl, by decide +kernel, by decide +kernel, by decide +kernel, by decide +kernel⟩ (by rfl) (by rfl) ⟨_, by rfl⟩ (by rfl) (by rfl) (by rfl) ⟨_, by rfl⟩ (by rfl) (by rfl)) (.inl hr.hd) rfl (B3f rfl O.range_ (A0 A1 A8)) rfl (fun C s₀ H₀ ex pn h => U8 (i := 0) (by decide +kernel : (["_law_k", "_law_signals", "_law_more"] : List Str).Nodup) rfl (Or.inl rfl)) (fun C s₀ H₀ ex pn h => (PW.pt (A2c (C4 D6 (B3 D3 (pv 2) A1) A1 (B9 _)) (A0z (C4 D6 (B3 D3 (B3 G2 (pv 2) (B3 J5g A1 (pv 0))) A1) A1 (B9 _)))))) (fun C s₀ H₀ ex pn h => (D7 (D5j (K := K) rfl) (pv 1) (pv 0) (fun _ _ => rfl)))) (by rfl)))
     (A7 (B7 (A4m (Nat.lt_of_le_of_lt (Nat.add_le_add_left (by decide) _) HU) (pv 4) B0 (D5n (N := ["_law_k"]) (F := ["_law_signals", "_law_more"]) (js := [2, 3]) (CompScopeF.of2 ⟨rfl, by decide +kernel, by decide +kernel, by decide +kernel, by decide +kernel⟩ (by rfl) (by rfl) ⟨_, by rfl⟩ (by rfl) (by rfl) (by rfl) ⟨_, by rfl⟩ (by rfl) (by rfl)) (.inl hr.hd) rfl (B3f rfl O.range_ (A0 A1 A8)) rfl (fun C s₀ H₀ ex pn h => U8 (i := 0) (by decide +kernel : (["_law_k", "_law_signals", "_law_more"] : List Str).Nodup) rfl (Or.inl rfl)) (fun C s₀ H₀ ex pn h => (PW.pt (A2c (C4 D6 (B3 D3 (B3 G2 (pv 2) A1) A1) A1 (B9 _)) (A0z (C4 D6 (B3 D3 (B3 G2 (pv 2) (B3 J5g A1 (pv 0))) A1) A1 (B9 _)))))) (fun C s₀ H₀ ex pn h => (D7 (D5j (K := K) rfl) (pv 1) (pv 0) (fun _ _ => rfl)))) (by rfl)))
     (A9 (B8 (pv 4))))))))))))))), ?_⟩
   have z8 : 8 <= sizeLine := C7 (by decide)
   have z7 : 7 <= sizeLine := C7 (by decide)
   have z3 : 3 <= sizeLine := C7 (by decide)
   refine ⟨fun σ' H' => ∃ a1, Same H H' /\ H' a1 = some (.lst J6e) /\ σ' = [some (.int c), some (.ref a1), none, none, none], ⟨z8, fun a n => ⟨a, Same.upd n, A6, rfl⟩⟩, ?_⟩
   rintro σ' H1 ⟨a1, s1, e1, rfl⟩
   refine ⟨fun σ' H' => ∃ a2, Same H H' /\ H' a1 = some (.lst J6e) /\ H' a2 = some (.lst A3q) /\ σ' = [some (.int c), some (.ref a1), some (.ref a2), none, none], ⟨z7, fun a n => ⟨a, s1.trans (Same.upd n), (Same.upd n) _ _ e1, A6, rfl⟩⟩, ?_⟩
   rintro σ' H2 ⟨a2, s2, e1, e2, rfl⟩
   refine ⟨fun σ' H' => ∃ m : Int, H' = H2 /\ 0 <= m /\ σ' = [some (.int c), some (.ref a1), some (.ref a2), some (.int m), none], ⟨_, rfl, c, 30, rfl, by decide, by decide, fun m m0 _ => ⟨m, rfl, m0, rfl⟩⟩, ?_⟩
   rintro σ' H3 ⟨m, rfl, m0, rfl⟩
   refine ⟨fun σ' H' => ∃ d r y, Same H H' /\ H d = none /\ 1 <= r /\ r <= 24 /\ H' a2 = some (.lst A3q) /\ H' d = some (.dK [(.inr "room", .int r), (.inr "way", .str (Wy.name y))]) /\ σ' = [some (.int c), some (.ref a1), some (.ref a2), some (.int m), some (.ref d)], ?_, ?_⟩
   . intro d nd
     have ud := Same.upd (o := .dK []) nd
     have z8' : (0 : Int) < 8 := by decide
     obtain ⟨v, hv, ix⟩ := ixv (xs := J6e) (i := m / 6 % 8) (Int.emod_nonneg _ (by decide)) (by show m / 6 % 8 < 8; exact Int.emod_lt_of_pos _ z8')
     obtain ⟨y, _, rfl⟩ := List.mem_map.mp hv
     refine ⟨_, rfl, _, _, rfl, rfl, (by decide : (0 : Int) < 6), _, _, rfl, rfl, _, rfl, _, rfl, _, _, rfl, rfl, dv (n := 6) (by decide) (by decide +kernel), _, _, rfl, rfl, z8', a1, _, _, _, rfl, rfl, SqL.of (ud _ _ e1), ix, A6, [(.inr "room", .int (1 + m % 6)), (.inr "way", .str y.name)], rfl, by show 2 <= 15; decide, ?_⟩
     have xd : Exc d (upd H3 d (.dK [])) (upd (upd H3 d (.dK [])) d (.dK (A7e [] [(.inr "room", .int (1 + m % 6)), (.inr "way", .str y.name)]))) := Exc.upd
     have n2 : a2 ≠ d := C5 e2 nd
     refine ⟨d, 1 + m % 6, y, fun b o hb => ?_, s2.free nd, by omega, by omega, xd _ _ (ud _ _ e2) n2, by rw [Y9q]; exact A6, rfl⟩
     have q := s2 _ _ hb
     exact xd _ _ (ud _ _ q) (C5 q nd)
   rintro σ' H4 ⟨d, r, y, s4, nd, r1, r2, e2, ed, rfl⟩
   have nad : ∀ b o, H b = some o -> b ≠ d := fun b o hb => C5 hb nd
   have n2d : ∀ {G : Hp} {kvs : List (Key × V)}, G a2 = some (.lst A3q) -> G d = some (.dK kvs) -> a2 ≠ d := fun h1 h2 => J1 h1 h2 (by intro z; cases z)
   have keepS : ∀ {G : Hp} {u : HO}, Same H G -> Same H (upd G d u) := fun sm b o hb => by rw [B4 (nad b o hb)]; exact sm _ _ hb
   refine ⟨fun σ' H' => ∃ r, Same H H' /\ 1 <= r /\ r <= 24 /\ H' a2 = some (.lst A3q) /\ H' d = some (.dK [(.inr "room", .int r), (.inr "way", .str (Wy.name y))]) /\ σ' = [some (.int c), some (.ref a1), some (.ref a2), some (.int m), some (.ref d)], ?_, ?_⟩
   . refine ⟨_, rfl, _, _, rfl, rfl, dv (n := 48) (by decide) (by decide +kernel), _, _, rfl, rfl, (by decide : (0 : Int) < 4), rfl, _, rfl, G6 (fun _ => ?_) (fun _ => ⟨r, s4, r1, r2, e2, ed, rfl⟩)⟩
     refine ⟨_, ?_, fun _ _ h => h⟩
     refine ⟨_, rfl, _, _, rfl, rfl, dv (n := 192) (by decide) (by decide +kernel), _, _, rfl, rfl, (by decide : (0 : Int) < 24), _, _, rfl, rfl, _, rfl, d, _, rfl, DPut.k (k := .inr "room") ed (J9 (by show 2 <= 1000; decide)), ?_⟩
     exact ⟨1 + m / 192 % 24, keepS s4, by omega, by omega, by rw [B4 (n2d e2 ed)]; exact e2, by rw [Y7r]; exact A6, rfl⟩
   rintro σ' H5 ⟨r, s5, r1, r2, e2, ed, rfl⟩
   refine ⟨fun σ' H' => ∃ m : Int, H' = H5 /\ 0 <= m /\ σ' = [some (.int c), some (.ref a1), some (.ref a2), some (.int m), some (.ref d)], ⟨_, rfl, c, 31, rfl, by decide, by decide, fun m m0 _ => ⟨m, rfl, m0, rfl⟩⟩, ?_⟩
   rintro σ' H6 ⟨m2, rfl, q0, rfl⟩
   refine ⟨fun σ' H' => ∃ l : Int, Same H H' /\ -60 <= l /\ l <= 0 /\ H' a2 = some (.lst A3q) /\ H' d = some (.dK [(.inr "room", .int r), (.inr "way", .str (Wy.name y)), (.inr "least", .int l)]) /\ σ' = [some (.int c), some (.ref a1), some (.ref a2), some (.int m2), some (.ref d)], ?_, ?_⟩
   . obtain ⟨l, hl, ix⟩ := at3 (-60) (0 - m2 / 9 % 8) (0 - m2 / 9 % 61) m2
     refine ⟨_, rfl, _, rfl, _, _, rfl, rfl, dv (n := 9) (by decide) (by decide +kernel), _, _, rfl, rfl, (by decide : (0 : Int) < 8), _, _, rfl, rfl, _, rfl, _, _, rfl, rfl, dv (n := 9) (by decide) (by decide +kernel), _, _, rfl, rfl, (by decide : (0 : Int) < 61), _, _, rfl, rfl, z3, fun p np => ?_⟩
     have up := Same.upd (o := .lst [.int (-60), .int (0 - m2 / 9 % 8), .int (0 - m2 / 9 % 61)]) np
     have ed' := up _ _ ed
     have e2' := up _ _ e2
     refine ⟨_, rfl, _, _, rfl, rfl, (by decide : (0 : Int) < 3), p, _, _, _, rfl, rfl, SqL.of A6, ix, _, rfl, d, _, rfl, DPut.k (k := .inr "least") ed' (J9 (by show 2 <= 1000; decide)), ?_⟩
     exact ⟨l, keepS (s5.trans up), by omega, by omega, by rw [B4 (n2d e2' ed')]; exact e2', by rw [Y9m]; exact A6, rfl⟩
   rintro σ' H7 ⟨l, s7, l1, l2, e2, ed, rfl⟩
   refine ⟨fun σ' H' => ∃ mo : Int, Same H H' /\ 0 <= mo /\ mo <= 60 /\ H' a2 = some (.lst A3q) /\ H' d = some (.dK [(.inr "room", .int r), (.inr "way", .str (Wy.name y)), (.inr "least", .int l), (.inr "most", .int mo)]) /\ σ' = [some (.int c), some (.ref a1), some (.ref a2), some (.int m2), some (.ref d)], ?_, ?_⟩
   . obtain ⟨mo, hl, ix⟩ := at3 60 (m2 / 600 % 8) (m2 / 600 % 61) (m2 / 3)
     refine ⟨_, rfl, _, _, rfl, rfl, dv (n := 600) (by decide) (by decide +kernel), _, _, rfl, rfl, (by decide : (0 : Int) < 8), _, rfl, _, _, rfl, rfl, dv (n := 600) (by decide) (by decide +kernel), _, _, rfl, rfl, (by decide : (0 : Int) < 61), z3, fun p np => ?_⟩
     have up := Same.upd (o := .lst [.int 60, .int (m2 / 600 % 8), .int (m2 / 600 % 61)]) np
     have ed' := up _ _ ed
     have e2' := up _ _ e2
     refine ⟨_, rfl, _, _, rfl, rfl, dv (n := 3) (by decide) (by decide +kernel), _, _, rfl, rfl, (by decide : (0 : Int) < 3), p, _, _, _, rfl, rfl, SqL.of A6, ix, _, rfl, d, _, rfl, DPut.k (k := .inr "most") ed' (J9 (by show 3 <= 1000; decide)), ?_⟩
     exact ⟨mo, keepS (s7.trans up), by omega, by omega, by rw [B4 (n2d e2' ed')]; exact e2', by rw [Y8d]; exact A6, rfl⟩
   rintro σ' H8 ⟨mo, s8, m1, m2', e2, ed, rfl⟩
   refine ⟨fun σ' H' => Same H H' /\ H' a2 = some (.lst A3q) /\ H' d = some (.dK (k5 r y l mo)) /\ σ' = [some (.int c), some (.ref a1), some (.ref a2), some (.int m2), some (.ref d)], ?_, ?_⟩
   . have g1 : DGet H8 d (.str "least") (some (.int l)) := DGet.k (k := .inr "least") ed
     have g2 : DGet H8 d (.str "room") (some (.int r)) := DGet.k (k := .inr "room") ed
     refine ⟨_, rfl, d, _, rfl, g1, _, rfl, d, _, rfl, g2, _, _, rfl, rfl, _, _, rfl, rfl, _, rfl, d, _, rfl, DPut.k (k := .inr "lowest") ed (J9 (by show 4 <= 1000; decide)), ?_⟩
     exact ⟨keepS s8, by rw [B4 (n2d e2 ed)]; exact e2, by rw [Y8q]; exact A6, rfl⟩
   rintro σ' H9 ⟨s9, e2, ed, rfl⟩
   refine ⟨fun σ' H' => ∃ m : Int, H' = H9 /\ 0 <= m /\ σ' = [some (.int c), some (.ref a1), some (.ref a2), some (.int m), some (.ref d)], ⟨_, rfl, c, 32, rfl, by decide, by decide, fun m m0 _ => ⟨m, rfl, m0, rfl⟩⟩, ?_⟩
   rintro σ' H10 ⟨m3, rfl, q3, rfl⟩
   refine ⟨fun σ' H' => ∃ u up, Same H H' /\ H u = none /\ SubS up /\ H' a2 = some (.lst A3q) /\ H' u = some (.lst (up.map V.str)) /\ H' d = some (.dK (k5 r y l mo ++ [(.inr "up", .ref u)])) /\ σ' = [some (.int c), some (.ref a1), some (.ref a2), some (.int m3), some (.ref d)], ?_, ?_⟩
   . refine ⟨7, rfl, by decide, by decide, D5b (J := Itr 0 7) (n := 7) (fun i => decide (m3 % 3 = 1) && decide (m3 / (3 * 2 ^ ((0 : Int) + (i : Int)).toNat) % 2 = 1)) (fun i y _ => A3q[i]? = some y) (by decide) (fun _ _ _ _ _ _ h _ _ => h) (fun i H2 Qy Qn hi sm hy hn => ⟨hi, fun x H3 yl => ?_⟩) (fun H2 sm => Nat.le_refl _) (fun D' H' ys sm nD eD hlen hR => ?_)⟩
     . obtain ⟨rfl, rfl⟩ := yl
       refine ⟨_, rfl, _, _, rfl, rfl, (by decide : (0 : Int) < 3), rfl, _, rfl, G6 (fun h1 => ?_) (fun h1 => ?_)⟩
       . have h1 : m3 % 3 = 1 := V.int.inj h1
         refine ⟨_, rfl, _, rfl, _, _, rfl, rfl, ⟨by show 0 <= (0 : Int) + i; omega, by show (0 : Int) + i <= 1000000; omega, by decide⟩, _, _, rfl, rfl, sh3 i hi, _, _, rfl, rfl, (by decide : (0 : Int) < 2), rfl, _, rfl, G6 (fun h2 => ?_) (fun h2 => ?_)⟩
         . have h2 : m3 / (3 * 2 ^ ((0 : Int) + (i : Int)).toNat) % 2 = 1 := V.int.inj h2
           exact ⟨_, rfl, _, rfl, a2, _, _, _, rfl, rfl, SqL.of (sm _ _ e2), G9k hi, hy (by rw [decide_eq_true h1, decide_eq_true h2]; rfl) _ _ (Same.refl _) (C7t i hi)⟩
         . have h2 : ¬ m3 / (3 * 2 ^ ((0 : Int) + (i : Int)).toNat) % 2 = 1 := fun e => h2 (congrArg V.int e)
           exact hn (by rw [decide_eq_false h2, Bool.and_false]) _ (Same.refl _)
       . have h1 : ¬ m3 % 3 = 1 := fun e => h1 (congrArg V.int e)
         exact U4 (hn (by rw [decide_eq_false h1]; rfl) _ (Same.refl _))
     . obtain ⟨zs, hz, rfl⟩ : ∃ zs, SubS zs /\ ys = zs.map V.str := ⟨_, D4y _, G9e hlen hR⟩
       have ed' := sm _ _ ed
       have e2' := sm _ _ e2
       have nDd : D' ≠ d := Ne.symm (C5 ed nD)
       refine ⟨_, rfl, d, _, rfl, DPut.k (k := .inr "up") ed' (J9 (by show 5 <= 1000; decide)), ?_⟩
       refine ⟨D', zs, keepS (s9.trans sm), s9.free nD, hz, by rw [B4 (n2d e2' ed')]; exact e2', ?_, by rw [Y9c]; exact A6, rfl⟩
       rw [B4 nDd, eD]
   rintro σ' H11 ⟨u, up, s11, nu, su, e2, eu, ed, rfl⟩
   refine ⟨fun σ' H' => ∃ t tr, Same H H' /\ H t = none /\ SubS tr /\ OwnAt H' d u t r y l mo up tr /\ σ' = [some (.int c), some (.ref a1), some (.ref a2), some (.int m3), some (.ref d)], ?_, ?_⟩
   . refine ⟨7, rfl, by decide, by decide, D5b (J := Itr 0 7) (n := 7) (fun i => decide (m3 / 400 % 3 = 1) && decide (m3 / (1200 * 2 ^ ((0 : Int) + (i : Int)).toNat) % 2 = 1)) (fun i y _ => A3q[i]? = some y) (by decide) (fun _ _ _ _ _ _ h _ _ => h) (fun i H2 Qy Qn hi sm hy hn => ⟨hi, fun x H3 yl => ?_⟩) (fun H2 sm => Nat.le_refl _) (fun D' H' ys sm nD eD hlen hR => ?_)⟩
     . obtain ⟨rfl, rfl⟩ := yl
       refine ⟨_, rfl, _, _, rfl, rfl, dv (n := 400) (by decide) (by decide +kernel), _, _, rfl, rfl, (by decide : (0 : Int) < 3), rfl, _, rfl, G6 (fun h1 => ?_) (fun h1 => ?_)⟩
       . have h1 : m3 / 400 % 3 = 1 := V.int.inj h1
         refine ⟨_, rfl, _, rfl, _, _, rfl, rfl, ⟨by show 0 <= (0 : Int) + i; omega, by show (0 : Int) + i <= 1000000; omega, by decide⟩, _, _, rfl, rfl, V8z i hi, _, _, rfl, rfl, (by decide : (0 : Int) < 2), rfl, _, rfl, G6 (fun h2 => ?_) (fun h2 => ?_)⟩
         . have h2 : m3 / (1200 * 2 ^ ((0 : Int) + (i : Int)).toNat) % 2 = 1 := V.int.inj h2
           exact ⟨_, rfl, _, rfl, a2, _, _, _, rfl, rfl, SqL.of (sm _ _ e2), G9k hi, hy (by rw [decide_eq_true h1, decide_eq_true h2]; rfl) _ _ (Same.refl _) (C7t i hi)⟩
         . have h2 : ¬ m3 / (1200 * 2 ^ ((0 : Int) + (i : Int)).toNat) % 2 = 1 := fun e => h2 (congrArg V.int e)
           exact hn (by rw [decide_eq_false h2, Bool.and_false]) _ (Same.refl _)
       . have h1 : ¬ m3 / 400 % 3 = 1 := fun e => h1 (congrArg V.int e)
         exact U4 (hn (by rw [decide_eq_false h1]; rfl) _ (Same.refl _))
     . obtain ⟨zs, hz, rfl⟩ : ∃ zs, SubS zs /\ ys = zs.map V.str := ⟨_, D4y _, G9e hlen hR⟩
       have ed' := sm _ _ ed
       have eu' := sm _ _ eu
       have nDd : D' ≠ d := Ne.symm (C5 ed nD)
       have nud : u ≠ d := J1 eu ed (by intro z; cases z)
       refine ⟨_, rfl, d, _, rfl, DPut.k (k := .inr "trapped") ed' (J9 (by show 6 <= 1000; decide)), ?_⟩
       refine ⟨D', zs, keepS (s11.trans sm), s11.free nD, hz, ⟨by rw [Y8t]; exact A6, by rw [B4 nud]; exact eu', ?_⟩, rfl⟩
       rw [B4 nDd, eD]
   rintro σ' H12 ⟨t, tr, s12, nt, st, own, rfl⟩
   exact ⟨_, rfl, k d u t r y l mo up tr H12 s12 nd nu nt ⟨r1, r2, l1, l2, m1, m2'⟩ su st own⟩
end
abbrev A0e : Stmt := (top 61)
section
variable {P : Program} {w : World} {K : Frag} {mg : Str -> Option Value} {base : Heap}
theorem OwnAt.exc {H H' : Hp} {d u t p : Addr} {r l m : Int} {y : Wy} {up tr : List Str} (h : OwnAt H d u t r y l m up tr) (x : Exc p H H') (h1 : d ≠ p) (h2 : u ≠ p) (h3 : t ≠ p) : OwnAt H' d u t r y l m up tr := ⟨x _ _ h.d h1, x _ _ h.u h2, x _ _ h.t h3⟩
theorem OwnAt.gRoom {H : Hp} {d u t : Addr} {r l m : Int} {y : Wy} {up tr : List Str} (h : OwnAt H d u t r y l m up tr) : DGet H d (.str "room") (some (.int r)) := DGet.k (k := .inr "room") h.d
theorem OwnAt.gWay {H : Hp} {d u t : Addr} {r l m : Int} {y : Wy} {up tr : List Str} (h : OwnAt H d u t r y l m up tr) : DGet H d (.str "way") (some (.str y.name)) := DGet.k (k := .inr "way") h.d
theorem OwnAt.gLeast {H : Hp} {d u t : Addr} {r l m : Int} {y : Wy} {up tr : List Str} (h : OwnAt H d u t r y l m up tr) : DGet H d (.str "least") (some (.int l)) := DGet.k (k := .inr "least") h.d
theorem OwnAt.gMost {H : Hp} {d u t : Addr} {r l m : Int} {y : Wy} {up tr : List Str} (h : OwnAt H d u t r y l m up tr) : DGet H d (.str "most") (some (.int m)) := DGet.k (k := .inr "most") h.d
theorem OwnAt.gLowest {H : Hp} {d u t : Addr} {r l m : Int} {y : Wy} {up tr : List Str} (h : OwnAt H d u t r y l m up tr) : DGet H d (.str "lowest") (some (.int (l - r + 1))) := DGet.k (k := .inr "lowest") h.d
theorem OwnAt.gUp {H : Hp} {d u t : Addr} {r l m : Int} {y : Wy} {up tr : List Str} (h : OwnAt H d u t r y l m up tr) : DGet H d (.str "up") (some (.ref u)) := DGet.k (k := .inr "up") h.d
theorem OwnAt.gTr {H : Hp} {d u t : Addr} {r l m : Int} {y : Wy} {up tr : List Str} (h : OwnAt H d u t r y l m up tr) : DGet H d (.str "trapped") (some (.ref t)) := DGet.k (k := .inr "trapped") h.d
def B8r (CC : Addr) : Sp := fun vs H Q _ => ∃ d u t r y l m up tr, vs = [.ref d] /\ OwnAt H d u t r y l m up tr /\ FrameOk r l m /\ SubS up /\ SubS tr /\ ∀ c a b H', Same H H' -> H c = none -> CtxAt CC H' c r y l m a b (up.map V.str) (tr.map V.str) -> Q (.ref c) H'
theorem scLContext : FnScope ["_law_own_here", "_law_context_here"] ["_law_own_here"] (A3 A0e) := scK
theorem D4b {f CC CB CT fI : Addr} {fd fdI : FuncData} (D : Def K mg "_law_context" ["_law_own_here"] A0e f fd) (M : MakeC P w K mg base CC CB fI fdI) (b4 : Binds K fdI ["self", "room", "way", "least", "most"] []) (C : CtxC K mg CC) (MD : Has P w K mg base CC "raised" 3 ["self", "names"] (B2n K CC CB CT)) (MT : Has P w K mg base CC "trap" 2 ["self", "names"] (D9x K CC CB)) (O : Own mg) :
   FnOk P w K mg base (CX1 P w) 5 f fd ["_law_own_here"] (B8r CC) := by
 refine D.F.okE scLContext (fun vs H Q E h => ?_) (fun X cdv A outer s H vs Q E hX hr hx h => ?_)
 . obtain ⟨d, u, t, r, y, l, m, up, tr, rfl, _⟩ := h
   rfl
 . subst hX
   obtain ⟨d, u, t, r, y, l, m, up, tr, rfl, ow, fr, su, st, k⟩ := h
   obtain ⟨fr', fdr, mr, gr, br⟩ := MD
   obtain ⟨ft, fdt, mt, gt, bt⟩ := MT
   have HU := hr.units
   refine ⟨_, (A7 (B7 (C9 (i := 1) scLContext.nd rfl (Or.inl rfl) (J6z M.m M.g hr C.g b4 .nil hx (A0 (U2 (Nat.lt_of_le_of_lt (Nat.add_le_add_left (by decide) _) HU) (pv 0) B0 (fun _ _ => rfl)) (A0 (U2 (Nat.lt_of_le_of_lt (Nat.add_le_add_left (by decide) _) HU) (pv 0) B0 (fun _ _ => rfl)) (A0 (U2 (Nat.lt_of_le_of_lt (Nat.add_le_add_left (by decide) _) HU) (pv 0) B0 (fun _ _ => rfl)) (A0 (U2 (Nat.lt_of_le_of_lt (Nat.add_le_add_left (by decide) _) HU) (pv 0) B0 (fun _ _ => rfl)) A8)))))))
     (A7 (B7 (Y1 (C5f (pv 1) C.cl mr gr hr br .nil hx (A0 (U5 A4f (by rfl) O.list_ boot_list (A0 (U2 (Nat.lt_of_le_of_lt (Nat.add_le_add_left (by decide) _) HU) (pv 0) B0 (fun _ _ => rfl)) A8)) A8))))
     (A7 (B7 (Y1 (C5f (pv 1) C.cl mt gt hr bt .nil hx (A0 (V8q (U2 (Nat.lt_of_le_of_lt (Nat.add_le_add_left (by decide) _) HU) (pv 0) B0 (fun _ _ => rfl)) (B9b B0r A1)) A8))))
     (A9 (B8 (pv 1)))))), ?_⟩
   refine ⟨fun σ' H' => ∃ c a b, Same H H' /\ H c = none /\ CtxAt CC H' c r y l m a b [] [] /\ σ' = [some (.ref d), some (.ref c)], ?_, ?_⟩
   . refine ⟨_, rfl, d, _, rfl, ow.gRoom, _, rfl, d, _, rfl, ow.gWay, _, rfl, d, _, rfl, ow.gLeast, _, rfl, d, _, rfl, ow.gMost, fun x dx n1 n2 ne => ?_⟩
     exact Y5k n1 n2 ne rfl fr.r1 fr.r2 rfl (.inr ⟨rfl, fr.l1, fr.l2⟩) rfl fr.m1 fr.m2 fun a b H4 s4 hc => ⟨rfl, x, a, b, s4, n1, hc, rfl⟩
   rintro σ' H1 ⟨c, a, b, s1, nc, hc, rfl⟩
   refine ⟨fun σ' H' => ∃ a, Same H H' /\ CtxAt CC H' c r y l m a b (up.map V.str) [] /\ σ' = [some (.ref d), some (.ref c)], ?_, ?_⟩
   . obtain ⟨dx, e⟩ := hc.ins
     have ow1 := ow.same s1
     refine ⟨_, rfl, c, dx, _, rfl, e, A3a _ _ _ _ _ _, _, rfl, d, _, rfl, ow1.gUp, u, _, rfl, .inl (SqL.of ow1.u), fun p np => ?_⟩
     have uq := Same.upd (o := .lst (up.map V.str)) np
     refine ⟨c, r, y, l, m, a, b, [], [], _, rfl, hc.same uq, by show 0 + 100 <= 1000; decide, .inl ⟨p, up, rfl, A6, Nat.le_trans su.len (by decide), su.mem, fun _ a' H2 x2 na c2 => ⟨a', fun q o hq => ?_, ?_, rfl⟩, fun t ht => by cases ht⟩⟩
     . exact x2 _ _ (uq _ _ (s1 _ _ hq)) (C5 hq nc)
     . have := B8q (ws := [] ++ up) su (fun z => by simp)
       rw [this] at c2
       exact c2
   rintro σ' H2 ⟨a, s2, hc2, rfl⟩
   refine ⟨fun σ' H' => ∃ b, Same H H' /\ CtxAt CC H' c r y l m a b (up.map V.str) (tr.map V.str) /\ σ' = [some (.ref d), some (.ref c)], ?_, ?_⟩
   . obtain ⟨dx, e⟩ := hc2.ins
     have ow1 := ow.same s2
     refine ⟨_, rfl, c, dx, _, rfl, e, D4s _ _ _ _ _ _, _, rfl, d, _, rfl, ow1.gTr, _, rfl, rfl, t, _, rfl, SqL.of ow1.t, fun p np => ?_⟩
     have uq := Same.upd (o := .lst (tr.map V.str).reverse) np
     refine ⟨c, r, y, l, m, a, b, _, _, _, rfl, hc2.same uq, .inl ⟨p, tr.reverse, rfl, by rw [List.map_reverse]; exact A6, fun z hz => st.mem z (List.mem_reverse.mp hz), fun b' H3 x3 nb c3 => ⟨b', fun q o hq => ?_, ?_, rfl⟩⟩⟩
     . exact x3 _ _ (uq _ _ (s2 _ _ hq)) (C5 hq nc)
     . rw [B8q (ws := tr.reverse) st (fun z => List.mem_reverse)] at c3
       exact c3
   rintro σ' H3 ⟨b, s3, hc3, rfl⟩
   exact ⟨_, rfl, k c a b H3 s3 nc hc3⟩
end
abbrev A4s : Stmt := (top 63)
structure CaughtU (K : Frag) (mg : Str -> Option Value) (CT : Addr) : Prop where
 gT : mg "Trapped" = some (.ref CT)
 c : Clause K CT
 sub : subIn K (.ref CT) (.ref CT) = some true
 k : ExcK K CT
 dict : ∃ cd, clsIn K CT = some cd /\ cd.hasDict = true
 nosig : findIn K (.ref CT) "signal" = some none
section
variable {P : Program} {w : World} {K : Frag} {mg : Str -> Option Value} {base : Heap}
theorem J7h {X : Cx} {e : Expr} {f : Str} {pos : Pos} {ta : TE} (hK : X.K = K) (he : PE X e ta) (hb : attributeBase e f X.env (eval e X.env) = eval e X.env) : PE X (.Attribute e f pos) (V6w K ta f) := by
 subst hK
 exact V4e he hb
theorem J7p {X : Cx} {k : Nat} {EH : EK} {x : Str} {p pos : Pos} {i : Nat} (hx : G3 X EH) (hr : Room k X.A) (hN : X.N[i]? = some x) (hv : Vis X.env.scope x) (e1 : X.prog = P) (e2 : X.w = w) (e3 : X.K = K) (e4 : X.mg = mg) (e5 : X.base = base) (hex : X.ex = [] := by rfl) (hd : (x == ("__debug__" : Str)) = false := by decide) (hcd : (x == ("__classdict__" : Str)) = false := by decide) :
   PE X (.Call (.Name x p) [] [] pos) (V7d P w K mg base k i EH) := by
 subst e1 e2 e3 e4 e5
 exact V3a hN hv hr hx hex hd hcd
def Y5j (CN : Addr) (Q : VK) : VK := fun v H1 => ∃ n x, v = .ref n /\ NumIs CN H1 n x /\ ∀ t, H1 t = none -> Q (.ref t) (upd H1 t (.tup (Nm.vs x)))
def Y3w (CT : Addr) (Q : VK) : XK := fun C dd H1 => ∃ d sg, C = .ref CT /\ dd = some d /\ H1 d = some (.xd [("signal", .str sg)]) /\ ∀ t H2, Same H1 H2 -> H1 t = none -> H2 t = some (.tup [.str "trapped", .str sg]) -> Q (.ref t) H2
def D5f (P : Program) (w : World) (K : Frag) (mg : Str -> Option Value) (base : Heap) (k : Nat) (CN CT : Addr) : Sp := fun vs H Q _ => ∃ f J spd, vs = [.ref f] /\ DeedOk P w K mg base k f J spd /\ J H /\
 ∀ (Qd : VK) (Ed : XK), (∀ v H1, Y5j CN Q v H1 -> Qd v H1) -> (∀ C dd H1, Y3w CT Q C dd H1 -> Ed C dd H1) -> spd H Qd Ed
theorem scLTried : FnScope ["_law_deed", "error"] ["_law_deed"] (A3 A4s) := scK
theorem J1b {k : Nat} {f f1 CN CB CT : Addr} {fd fd1 : FuncData} (hk : 2 <= k) (D : Def K mg "_law_tried" ["_law_deed"] A4s f fd) (D_told : Def K mg "told" ["number"] B7c f1 fd1) (G_told : FnOk P w K mg base (CX1 P w) 2 f1 fd1 ["number"] (G0e K CN CB)) (R : CaughtU K mg CT) :
   FnOk P w K mg base (CX1 P w) (k + 1) f fd ["_law_deed"] (D5f P w K mg base k CN CT) := by
 refine D.F.okE scLTried (fun vs H Q E h => ?_) (fun X cdv A outer s H vs Q E hX hr hx h => ?_)
 . obtain ⟨f, J, spd, rfl, _⟩ := h
   rfl
 . subst hX
   obtain ⟨g, J, spd, rfl, DO, hJ, h⟩ := h
   have z2 : 2 <= sizeLine := C7 (by decide)
   refine ⟨_, (A9 (V9u ⟨rfl, rfl, rfl⟩ (by rfl) R.gT R.c scLTried.nd (i := 1) rfl rfl (fun pins Ew EHb hc => (A9 (B8 (C8 (hj := hk) D_told G_told hr hc (A0 (J7p (P := P) (w := w) (K := K) (mg := mg) (base := base) (i := 0) hc hr rfl (.inl rfl) rfl rfl rfl rfl rfl) A8))))) (fun pins a => (A9 (B8 (G8 (A0 B0 (A0 (J7h (K := K) rfl (pv 1) rfl) A8)))))))), ?_⟩
   refine ⟨g, J, _, rfl, DO, hJ, h _ _ (fun v H1 ⟨n, x, ev, num, k⟩ => ?_) (fun C dd H1 ⟨d, sg, eC, ed, e, k⟩ => ?_)⟩
   . subst ev
     exact ⟨_, rfl, .inl ⟨n, _, _, _, _, rfl, num, k⟩⟩
   . subst eC ed
     refine ⟨R.sub, fun a t T na => ?_⟩
     have u := Same.upd (o := .frz (Y4 (.ref CT) t (some d) (.ref T)) (.own a)) na
     have u2 : ∀ p, upd H1 a (.frz (Y4 (.ref CT) t (some d) (.ref T)) (.own a)) p = none -> H1 p = none := fun p np => u.free np
     refine ⟨_, rfl, a, CT, _, _, d, _, _, _, rfl, A6, u _ _ e, R.k, R.dict, R.nosig, rfl, z2, fun p np => ?_⟩
     exact k p _ (u.trans (Same.upd np)) (u2 p np) A6
end
def A4p (k : Str) (s f p : Int) : PyData := .tuple [.str k, .int s, .int f, .int p]
theorem shD {k : Str} (s f p : Int) (h : PyData.strOk k = true) : SeqAt.shaped (A4p k s f p) = true := by
 unfold SeqAt.shaped A4p
 simp [PyData.canLay0, PyData.canLayAll0, PyData.depth, PyData.depthAll, h]
theorem eqD (k : Str) (s f p : Int) : PyData.eqv (A4p k s f p) (A4p k s f p) = true := by
 simp [A4p, PyData.eqv, PyData.eqvAll]
theorem rdD {K : Frag} {H : Hp} {d : Addr} {k : Str} {s f p : Int} (h : H d = some (.tup [.str k, .int s, .int f, .int p])) : RdD K H (.ref d) (A4p k s f p) := .tup (SqT.of h) (.cons (.str _) (.cons (.int _) (.cons (.int _) (.cons (.int _) .nil))))
theorem okK (k : Kd) : PyData.strOk k.str = true := by cases k <;> decide +kernel
def B2w (d : PyData) : Prop := d.showable = true /\ d.depth <= 2 /\ d.shown.length <= 100
theorem C5w : ∀ ds : List PyData, PyData.shownAll ds = ds.map PyData.shown
 | [] => by simp [PyData.shownAll]
 | d :: ds => by simp [PyData.shownAll, C5w ds]
theorem A7g : ∀ {ds : List PyData}, (∀ d ∈ ds, B2w d) -> PyData.showableAll ds = true /\ PyData.depthAll ds <= 3
 | [], _ => by simp [PyData.showableAll, PyData.depthAll]
 | d :: ds, h => by
   obtain ⟨a, b⟩ := A7g (ds := ds) fun d' h' => h d' (List.mem_cons_of_mem _ h')
   obtain ⟨c, e, _⟩ := h d List.mem_cons_self
   constructor
   . simp [PyData.showableAll, a, c]
   . simp only [PyData.depthAll]
     omega
theorem V9c {ds : List PyData} (h : ∀ d ∈ ds, B2w d) : ((ds.map PyData.shown).map (fun x => x.length)).sum <= 100 * ds.length := by
 induction ds with
 | nil => simp
 | cons d ds ih =>
   have := ih fun d' h' => h d' (List.mem_cons_of_mem _ h')
   have := (h d List.mem_cons_self).2.2
   simp only [List.map_cons, List.sum_cons, List.length_cons]
   omega
theorem J8f {ds : List PyData} (h : ∀ d ∈ ds, B2w d) (hl : ds.length <= 5) : A0w (.tuple ds) := by
 obtain ⟨a, b⟩ := A7g h
 refine ⟨by simpa [PyData.showable] using a, by simp only [PyData.depth]; omega, ?_⟩
 have h1 := tupleText_len_le (ds.map PyData.shown)
 have h2 := V9c h
 rw [PyData.shown, C5w]
 refine C7 ?_
 rw [List.length_map] at h1
 omega
theorem C5y {i : Int} (h : i.natAbs < 10 ^ 61) : B2w (.int i) := by
 refine ⟨?_, by simp [PyData.depth], ?_⟩
 . simp only [PyData.showable, decide_eq_true_eq]
   have h0 : i.natAbs < 2 ^ 300 := Nat.lt_of_lt_of_le h (by decide +kernel)
   have h1 := Nat.log2_lt (n := i.natAbs) (k := 300)
   by_cases z : i.natAbs = 0
   . rw [z]; decide +kernel
   . exact Nat.lt_trans ((h1 z).mpr h0) (by decide)
 . have := int_text_length_le10 (a := i) (k := 61) (by decide) h
   simp only [PyData.shown]
   rw [PySem.ofString_length]
   omega
theorem V7j (k : Kd) : B2w (.str k.str) := by
 cases k <;> exact ⟨by simp [PyData.showable], by simp [PyData.depth], by decide +kernel⟩
theorem Y3z {z : Str} (h : z ∈ sigS) : B2w (.str z) := by
 have : ∀ z ∈ sigS, (PyData.shown (.str z)).length <= 100 := by decide +kernel
 exact ⟨by simp [PyData.showable], by simp [PyData.depth], this z h⟩
theorem Y3x {x : Nm} (ok : x.Ok) : A0w (A4p x.k.str x.s x.f x.p) := J8f (fun d hd => by
 have h60 : (10 : Int) ^ 60 < 10 ^ 61 := by decide +kernel
 have q1 := ok.s0; have q2 := ok.s1; have q3 := ok.f0; have q4 := ok.f1; have q5 := ok.p0; have q6 := ok.p1
 simp only [List.mem_cons, List.not_mem_nil, or_false] at hd
 rcases hd with rfl | rfl | rfl | rfl
 . exact V7j _
 . exact C5y (Nat.lt_of_le_of_lt (by omega : x.s.natAbs <= 1) (by decide +kernel))
 . exact C5y (Nat.lt_of_lt_of_le (by omega : x.f.natAbs < 10 ^ 60) (by decide +kernel))
 . exact C5y (Nat.lt_of_le_of_lt (by omega : x.p.natAbs <= 200) (by decide +kernel))) (by show 4 <= 5; decide)
theorem Y3m {x : Nm} (h1 : x.s.natAbs < 10 ^ 61) (h2 : x.f.natAbs < 10 ^ 61) (h3 : x.p.natAbs < 10 ^ 61) : A0w (A4p x.k.str x.s x.f x.p) := J8f (fun d hd => by
 simp only [List.mem_cons, List.not_mem_nil, or_false] at hd
 rcases hd with rfl | rfl | rfl | rfl
 . exact V7j _
 . exact C5y h1
 . exact C5y h2
 . exact C5y h3) (by show 4 <= 5; decide)
theorem V8b {z : Str} (h : z ∈ sigS) : A0w (.tuple [.str "trapped", .str z]) := J8f (fun d hd => by
 simp only [List.mem_cons, List.not_mem_nil, or_false] at hd
 rcases hd with rfl | rfl
 . exact ⟨by simp [PyData.showable], by simp [PyData.depth], by decide +kernel⟩
 . exact Y3z h) (by show 2 <= 5; decide)
abbrev A2d : Stmt := (top 64)
def Exc2 (c d : Addr) (H H' : Hp) : Prop := ∀ b o, H b = some o -> b ≠ c -> b ≠ d -> H' b = some o
theorem Exc2.trans {c d : Addr} {H H1 H2 : Hp} (a : Exc2 c d H H1) (b : Exc2 c d H1 H2) : Exc2 c d H H2 := fun x o h n m => b x o (a x o h n m) n m
theorem Exc2.l {c d : Addr} {H H' : Hp} (a : Exc c H H') : Exc2 c d H H' := fun x o h n _ => a x o h n
theorem Exc2.r {c d : Addr} {H H' : Hp} (a : Exc d H H') : Exc2 c d H H' := fun x o h _ n => a x o h n
theorem Exc2.s {c d : Addr} {H H' : Hp} (a : Same H H') : Exc2 c d H H' := fun x o h _ _ => a x o h
theorem CtxAt.exc {CC c a b p : Addr} {H H' : Hp} {r l m : Int} {y : Wy} {xs ys : List V} (h : CtxAt CC H c r y l m a b xs ys) (x : Exc p H H') (h1 : c ≠ p) (h2 : a ≠ p) (h3 : b ≠ p) : CtxAt CC H' c r y l m a b xs ys := by
 obtain ⟨⟨dx, e⟩, ha, hb⟩ := h
 exact ⟨⟨dx, x _ _ e h1⟩, x _ _ ha h2, x _ _ hb h3⟩
theorem V9m (up zs : List Str) : (sigS.filter fun z => up.contains z || (U7 zs).contains z) = U7 (up ++ zs) := by
 unfold U7
 refine List.filter_congr fun z hz => ?_
 rw [Bool.eq_iff_iff]
 simp [List.mem_filter, hz]
theorem D9c {tr zs : List Str} (h : SubS tr) : ((U7 zs).filter fun z => tr.contains z).head? = hit tr zs := by
 obtain ⟨p, rfl⟩ := h
 unfold hit U7
 rw [<- List.head?_filter, List.filter_filter, List.filter_filter]
 congr 1
 refine List.filter_congr fun z hz => ?_
 rw [Bool.eq_iff_iff]
 simp [List.mem_filter, hz]
 exact And.comm
theorem V2j (z : Str) (zs : List Str) : PyData.eqv (rdS (z :: zs)) (rdS []) = false := by
 simp [rdS, PyData.eqv, PyData.eqvAll]
theorem J2q {K : Frag} {H : Hp} {σ σf : L2.St} {a : Addr} {zs : List Str} {f : Str -> Bool} {tc : TT} {te : TE} {Q : VK} {i : Nat} (hi : σ[i]? = some (some (.ref a))) (hl : SqL K H a (zs.map V.str)) (hz : zs.length <= 100)
   (ht : ∀ (z : Str) (H' : Hp) (Qb : Bool -> Hp -> Prop), Same H H' -> Qb (f z) H' -> tc (some (.str z) :: σf) H' Qb) (he : ∀ (z : Str) (H' : Hp) (Qv : VK), Qv (.str z) H' -> te (some (.str z) :: σf) H' Qv)
   (k : ∀ D H', Same H H' -> H D = none -> H' D = some (.lst ((zs.filter f).map V.str)) -> Q (.ref D) H') {js : List Nat} (hj : A2s js σ = σf) : A7q 1 js (G9n K (V8w i)) (C6c 0) tc te σ H Q :=
 ⟨.ref a, hi, J6n (tc := tc) (te := te) (Q := Q) (js := js) (σ := σ) hl hz ht he k hj⟩
section
variable {P : Program} {w : World} {K : Frag} {mg : Str -> Option Value} {base : Heap}
def J5x (CN CC CT c : Addr) (r : Int) (y : Wy) (l m : Int) (b : Addr) (up tr zs : List Str) (x : Nm) (spd : Hp -> VK -> XK -> Prop) (H' : Hp) : Prop := ∀ (Qd : VK) (Ed : XK),
 (∀ n a' H1, hit tr zs = none -> Exc c H' H1 -> CtxAt CC H1 c r y l m a' b ((U7 (up ++ zs)).map V.str) (tr.map V.str) -> NumIs CN H1 n x -> Qd (.ref n) H1) ->
 (∀ sg d' a' H1, hit tr zs = some sg -> Exc c H' H1 -> CtxAt CC H1 c r y l m a' b ((U7 (up ++ zs)).map V.str) (tr.map V.str) -> H1 d' = some (.xd [("signal", .str sg)]) -> Ed (.ref CT) (some d') H1) -> spd H' Qd Ed
def B3c (P : Program) (w : World) (K : Frag) (mg : Str -> Option Value) (base : Heap) (k : Nat) (CN CC CT : Addr) : Sp := fun vs H Q _ => ∃ c d g q dt dl a b u t r y l m, ∃ (up tr zs : List Str) (x : Nm) (J : Hp -> Prop) (spd : Hp -> VK -> XK -> Prop), vs = [.ref c, .ref d, .ref g, .ref q] /\
 CtxAt CC H c r y l m a b (up.map V.str) (tr.map V.str) /\ OwnAt H d u t r y l m up tr /\ SubS up /\ SubS tr /\ H q = some (.tup [.ref dt, .ref dl]) /\ H dt = some (.tup (Nm.vs x)) /\ H dl = some (.lst (zs.map V.str)) /\ zs.length <= 100 /\ A0w (A4p x.k.str x.s x.f x.p) /\ DeedOk P w K mg base k g J spd /\
 (∀ H', Exc d H H' -> J H') /\ (∀ H', Exc d H H' -> CtxAt CC H' c r y l m a b (up.map V.str) (tr.map V.str) -> J5x CN CC CT c r y l m b up tr zs x spd H') /\
 ∀ a' u' H', Exc2 c d H H' -> CtxAt CC H' c r y l m a' b ((U7 (up ++ zs)).map V.str) (tr.map V.str) -> OwnAt H' d u' t r y l m (U7 (up ++ zs)) tr -> Q (.bl true) H'
theorem scLStands : FnScope ["_law_context_here", "_law_own_here", "_law_deed", "_law_due_here", "_law_signals", "_law_caught", "_law_wanted", "_law_found"] ["_law_context_here", "_law_own_here", "_law_deed", "_law_due_here"] (A3 A2d) := scK
theorem D8p {k : Nat} {f f1 CN CC CT aS : Addr} {fd fd1 : FuncData} (D : Def K mg "_law_stands" ["_law_context_here", "_law_own_here", "_law_deed", "_law_due_here"] A2d f fd) (D_l_tried : Def K mg "_law_tried" ["_law_deed"] A4s f1 fd1) (G_l_tried : FnOk P w K mg base (CX1 P w) (k + 1) f1 fd1 ["_law_deed"] (D5f P w K mg base k CN CT))
   (C : CtxC K mg CC) (MF : Has P w K mg base CC "flags" 1 ["self"] (B0p CC)) (SG : SigK K mg aS) (O : Own mg) : FnOkG P w K mg base (CX1 P w) (k + 2) f fd ["_law_context_here", "_law_own_here", "_law_deed", "_law_due_here"] (B3c P w K mg base k CN CC CT) := by
 refine D.F.okEG scLStands (fun vs H Q E h => ?_) (fun X cdv A outer s H vs Q E hX HG hr hx h => ?_)
 . obtain ⟨c, d, g, q, dt, dl, a, b, u, t, r, y, l, m, up, tr, zs, x, J, spd, rfl, _⟩ := h
   rfl
 . subst hX
   obtain ⟨c, d, g, q, dt, dl, a, b, u, t, r, y, l, m, up, tr, zs, x, J, spd, rfl, hc, ow, su, st, eq, et, el, lz, ok, DO, hJ, hD, k⟩ := h
   obtain ⟨ff, fdf, mf, gf, bf⟩ := MF
   have HU := Nat.lt_of_le_of_lt (Nat.add_le_add_left (by decide : 1 <= 64) _) hr.units
   refine ⟨_, (A7 (B7 (C9 (i := 4) scLStands.nd rfl (Or.inr rfl) (B8k (N := ["_law_name"]) (F := ["_law_due_here"]) (js := [3]) (CompScopeF.of1 ⟨rfl, by decide +kernel, by decide +kernel, by decide +kernel, by decide +kernel⟩ (by rfl) (by rfl) ⟨_, by rfl⟩ (by rfl) (by rfl)) (.inl hr.hd) (C8a (J5f SG.g)) rfl (fun C s₀ H₀ ex pn h => U8 (i := 0) (by decide +kernel : (["_law_name", "_law_due_here"] : List Str).Nodup) rfl (Or.inl rfl)) (fun C s₀ H₀ ex pn h => (C4 (A2b (K := K) rfl) (pv 0) (D7 (V3t (K := K) rfl) (pv 1) A1 (fun _ _ => rfl)) (by rfl))) (fun C s₀ H₀ ex pn h => (pv 0)))))
     (A7 (B7 (A4m HU (pv 1) B0 (B8k (N := ["_law_name"]) (F := ["_law_signals", "_law_own_here"]) (js := [4, 1]) (CompScopeF.of2 ⟨rfl, by decide +kernel, by decide +kernel, by decide +kernel, by decide +kernel⟩ (by rfl) (by rfl) ⟨_, by rfl⟩ (by rfl) (by rfl) (by rfl) ⟨_, by rfl⟩ (by rfl) (by rfl)) (.inl hr.hd) (C8a (J5f SG.g)) rfl (fun C s₀ H₀ ex pn h => U8 (i := 0) (by decide +kernel : (["_law_name", "_law_signals", "_law_own_here"] : List Str).Nodup) rfl (Or.inl rfl)) (fun C s₀ H₀ ex pn h => (PW.pt (A7k (C4 (A2b (K := K) rfl) (pv 0) (U2 HU (pv 2) B0 (fun _ _ => rfl)) (by rfl)) (A3c (C4 (A2b (K := K) rfl) (pv 0) (pv 1) (by rfl)))))) (fun C s₀ H₀ ex pn h => (pv 0))) (by rfl)))
     (A7 (B7 (J5p (i := 5) (N := ["_law_name"]) (F := ["_law_own_here"]) (js := [1]) (CompScopeF.of1 ⟨rfl, by decide +kernel, by decide +kernel, by decide +kernel, by decide +kernel⟩ (by rfl) (by rfl) ⟨_, by rfl⟩ (by rfl) (by rfl)) (.inl hr.hd) (D4h (pv 4)) rfl (fun C s₀ H₀ ex pn h => U8 (i := 0) (by decide +kernel : (["_law_name", "_law_own_here"] : List Str).Nodup) rfl (Or.inl rfl)) (fun C s₀ H₀ ex pn h => (C4 (A2b (K := K) rfl) (pv 0) (U2 HU (pv 1) B0 (fun _ _ => rfl)) (by rfl))) (fun C s₀ H₀ ex pn h => (pv 0)) scLStands.nd rfl (Or.inl rfl)))
     (A7 (B7 (C9 (i := 6) scLStands.nd rfl (Or.inl rfl) (A2a (C4 (C8f hr.units) (pv 5) (J0 A8) (B9 _)) (D7 D4 (pv 3) A1 (fun _ _ => rfl)) (G8 (A0 B0 (A0 (D7 A1b (pv 5) A1 (fun _ _ => rfl)) A8))))))
     (A7 (B7 (C9 (i := 7) scLStands.nd rfl (Or.inl rfl) (C8 (hj := Nat.le_refl _) D_l_tried G_l_tried hr hx (A0 (pv 2) A8))))
     (A9 (B8 (A7j (G0 (C8f hr.units) (pv 7) (pv 6) (B9 _)) (A7j (G0 D6 (U5 (C6q HG hr.units) (by rfl) O.str_ boot_str (A0 (pv 7) A8)) (U5 (C6q HG hr.units) (by rfl) O.str_ boot_str (A0 (pv 6) A8)) (B9 _)) (A1w (G0 (C8f hr.units) (B9q (hj := Nat.succ_le_succ (Nat.zero_le _)) (pv 0) C.cl mf gf hr bf .nil hx) (U2 HU (pv 1) B0 (fun _ _ => rfl)) (B9 _)))))))))))), ?_⟩
   have z0 : 0 <= sizeLine := C7 (by decide)
   have z2 : 2 <= sizeLine := C7 (by decide)
   obtain ⟨dx, ec⟩ := hc.ins
   have ncd : c ≠ d := J1 ec ow.d (by intro z; cases z)
   have nad : a ≠ d := J1 hc.ha ow.d (by intro z; cases z)
   have nbd : b ≠ d := J1 hc.hb ow.d (by intro z; cases z)
   have nud : u ≠ d := J1 ow.u ow.d (by intro z; cases z)
   have ntd : t ≠ d := J1 ow.t ow.d (by intro z; cases z)
   have nqd : q ≠ d := J1 eq ow.d (by intro z; cases z)
   have nTd : dt ≠ d := J1 et ow.d (by intro z; cases z)
   have nqc : q ≠ c := J1 eq ec (by intro z; cases z)
   have nTc : dt ≠ c := J1 et ec (by intro z; cases z)
   have ix0 : atI [V.ref dt, .ref dl] 0 = some (.ref dt) := G7 (j := 0) rfl
   have ix1 : atI [V.ref dt, .ref dl] 1 = some (.ref dl) := G7 (j := 1) rfl
   refine ⟨fun σ' H' => ∃ s1, Same H H' /\ H s1 = none /\ H' s1 = some (.lst ((U7 zs).map V.str)) /\ σ' = [some (.ref c), some (.ref d), some (.ref g), some (.ref q), some (.ref s1), none, none, none], ?_, ?_⟩
   . refine B9a (zs := sigS) (f := fun z => zs.contains z) (σf := [some (.ref q)]) SG.sq (by decide) (fun z H' Qb sm qq => ?_) (fun z H' Qv qq => ⟨_, rfl, qq⟩) (fun D H' sm nd e => ⟨D, sm, nd, e, rfl⟩) rfl
     refine ⟨_, rfl, _, rfl, q, _, _, _, rfl, rfl, SqT.of (sm _ _ eq), ix1, dl, _, rfl, .inl (SqL.of (sm _ _ el)), rfl, V8 _, _, rfl, ?_⟩
     show Qb (inV (.str z) (zs.map V.str)) H'
     rw [Z1]
     exact qq
   rintro σ' H1 ⟨s1, sm1, n1, e1, rfl⟩
   have ow1 := ow.same sm1
   refine ⟨fun σ' H' => ∃ u', Exc d H H' /\ H' s1 = some (.lst ((U7 zs).map V.str)) /\ s1 ≠ d /\ u' ≠ d /\ H u' = none /\ OwnAt H' d u' t r y l m (U7 (up ++ zs)) tr /\ σ' = [some (.ref c), some (.ref d), some (.ref g), some (.ref q), some (.ref s1), none, none, none], ?_, ?_⟩
   . refine B9a (zs := sigS) (f := fun z => up.contains z || (U7 zs).contains z) (σf := [some (.ref s1), some (.ref d)]) SG.sq (by decide) (fun z H' Qb sm qq => ?_) (fun z H' Qv qq => ⟨_, rfl, qq⟩) (fun D H' sm nd e => ?_) rfl
     . have o2 := ow1.same sm
       refine ⟨_, rfl, _, rfl, d, _, rfl, o2.gUp, u, _, rfl, .inl (SqL.of o2.u), rfl, V8 _, _, rfl, ?_⟩
       rw [Z1]
       cases hz : up.contains z with
       | true => rw [hz] at qq; exact V5 qq
       | false =>
         rw [hz] at qq
         refine U4 ⟨_, rfl, _, rfl, s1, _, rfl, .inl (SqL.of (sm _ _ e1)), rfl, V8 _, _, rfl, ?_⟩
         rw [Z1]
         exact qq
     . have o2 := ow1.same sm
       rw [V9m] at e
       refine ⟨_, rfl, d, _, rfl, DPut.k (k := .inr "up") o2.d (J9 (by show 7 <= 1000; decide)), ?_⟩
       have nDd : D ≠ d := Ne.symm (C5 ow1.d nd)
       have ns1d : s1 ≠ d := J1 e1 ow1.d (by intro z; cases z)
       rw [Y8p]
       refine ⟨D, fun p o hp np => ?_, by rw [B4 ns1d]; exact sm _ _ e1, ns1d, nDd, sm1.free nd, ⟨A6, by rw [B4 nDd]; exact e, by rw [B4 ntd]; exact o2.t⟩, rfl⟩
       rw [B4 np]
       exact sm _ _ (sm1 _ _ hp)
   rintro σ' H2 ⟨u', x2, e1, n1d, nu'd, nu', ow2, rfl⟩
   refine ⟨fun σ' H' => ∃ s2, Same H2 H' /\ H' s2 = some (.lst (((U7 zs).filter fun z => tr.contains z).map V.str)) /\ σ' = [some (.ref c), some (.ref d), some (.ref g), some (.ref q), some (.ref s1), some (.ref s2), none, none], ?_, ?_⟩
   . refine J2q (zs := U7 zs) (f := fun z => tr.contains z) (σf := [some (.ref d)]) rfl (SqL.of e1) (Nat.le_trans (List.length_filter_le _ _) (by decide)) (fun z H' Qb sm qq => ?_) (fun z H' Qv qq => ⟨_, rfl, qq⟩) (fun D H' sm nd e => ⟨D, sm, e, rfl⟩) rfl
     have o2 := ow2.same sm
     refine ⟨_, rfl, _, rfl, d, _, rfl, o2.gTr, t, _, rfl, .inl (SqL.of o2.t), rfl, V8 _, _, rfl, ?_⟩
     rw [Z1]
     exact qq
   rintro σ' H3 ⟨s2, sm3, e2, rfl⟩
   have x3 : Exc d H H3 := x2.trans (.of sm3)
   have hh := D9c (zs := zs) st
   have hm : ∀ z ∈ (U7 zs).filter fun z => tr.contains z, z ∈ sigS := fun z hz => (List.mem_filter.mp (List.mem_filter.mp hz).1).1
   have okC : OkL ((U7 zs).filter fun z => tr.contains z) := ⟨Nat.le_trans (List.length_filter_le _ _) (Nat.le_trans (List.length_filter_le _ _) (by decide)), fun z hz => J0g z (hm z hz)⟩
   refine ⟨fun σ' H' => ∃ wd, Same H3 H' /\ ((hit tr zs = none /\ wd = dt) \/ ∃ sg, hit tr zs = some sg /\ sg ∈ sigS /\ H' wd = some (.tup [.str "trapped", .str sg])) /\ σ' = [some (.ref c), some (.ref d), some (.ref g), some (.ref q), some (.ref s1), some (.ref s2), some (.ref wd), none], ?_, ?_⟩
   . generalize (U7 zs).filter (fun z => tr.contains z) = cs at e2 hh hm okC
     refine ⟨_, rfl, z0, fun p np => ?_⟩
     have up := Same.upd (o := .lst []) np
     refine ⟨rdS cs, rdS [], B2v (up _ _ e2), B2v A6, shS okC, shS ⟨by decide, by simp⟩, PyData.eqv (rdS cs) (rdS []), rfl, ?_⟩
     cases cs with
     | nil =>
       rw [V8d]
       refine V5 ⟨_, rfl, q, _, _, _, rfl, rfl, SqT.of (up _ _ (sm3 _ _ (x2 _ _ eq nqd))), ix0, ?_⟩
       exact ⟨dt, up, .inl ⟨hh.symm, rfl⟩, rfl⟩
     | cons z cs =>
       rw [V2j]
       refine U4 ⟨_, rfl, s2, _, _, _, rfl, rfl, SqL.of (up _ _ e2), G7 (j := 0) rfl, z2, fun v nv => ?_⟩
       exact ⟨v, up.trans (Same.upd nv), .inr ⟨z, hh.symm, hm z List.mem_cons_self, A6⟩, rfl⟩
   rintro σ' H4 ⟨wd, sm4, hw, rfl⟩
   have x4 : Exc d H H4 := x3.trans (.of sm4)
   have c4 := hc.exc x4 ncd nad nbd
   have ow4 := (ow2.same sm3).same sm4
   have et4 := x4 _ _ et nTd
   obtain ⟨dx4, ec4⟩ := c4.ins
   have ndc : d ≠ c := Ne.symm ncd
   have nuc : u' ≠ c := J1 ow4.u ec4 (by intro z; cases z)
   have ntc : t ≠ c := J1 ow4.t ec4 (by intro z; cases z)
   refine ⟨fun σ' H' => ∃ fo a' dd, Exc2 c d H H' /\ CtxAt CC H' c r y l m a' b ((U7 (up ++ zs)).map V.str) (tr.map V.str) /\ OwnAt H' d u' t r y l m (U7 (up ++ zs)) tr /\ RdD K H' (.ref fo) dd /\ RdD K H' (.ref wd) dd /\ RdR H' (.ref fo) dd /\ RdR H' (.ref wd) dd /\ SeqAt.shaped dd = true /\ PyData.eqv dd dd = true /\ A0w dd /\
     σ' = [some (.ref c), some (.ref d), some (.ref g), some (.ref q), some (.ref s1), some (.ref s2), some (.ref wd), some (.ref fo)], ?_, ?_⟩
   . refine ⟨_, rfl, g, J, spd, rfl, DO, hJ H4 x4, fun Qd Ed hQ hE => hD H4 x4 c4 Qd Ed (fun n a' H5 hn x5 c5 num => hQ _ _ ⟨n, x, rfl, num, fun p np => ?_⟩) (fun sg d' a' H5 hs x5 c5 ed => hE _ _ _ ⟨d', sg, rfl, rfl, ed, fun p H6 sm6 np e6 => ?_⟩)⟩
     . have hwd : wd = dt := by
         rcases hw with ⟨_, h⟩ | ⟨sg, h, _⟩
         . exact h
         . rw [hn] at h; cases h
       subst hwd
       have u6 := Same.upd (o := .tup (Nm.vs x)) np
       have et6 := u6 _ _ (x5 _ _ et4 nTc)
       refine ⟨p, a', A4p x.k.str x.s x.f x.p, (Exc2.r x4).trans ((Exc2.l x5).trans (.s u6)), c5.same u6, (ow4.exc x5 ndc nuc ntc).same u6, rdD A6, rdD et6, .tup A6 (.cons (.str _) (.cons (.int _) (.cons (.int _) (.cons (.int _) .nil)))), .tup et6 (.cons (.str _) (.cons (.int _) (.cons (.int _) (.cons (.int _) .nil)))), shD _ _ _ (okK _), eqD _ _ _ _, ok, rfl⟩
     . obtain ⟨sg', h1, h2, h3⟩ : ∃ sg, hit tr zs = some sg /\ sg ∈ sigS /\ H4 wd = some (.tup [.str "trapped", .str sg]) := by
         rcases hw with ⟨h, _⟩ | h
         . rw [hs] at h; cases h
         . exact h
       rw [hs] at h1
       cases h1
       have nwc : wd ≠ c := J1 h3 ec4 (by intro z; cases z)
       have e7 := sm6 _ _ (x5 _ _ h3 nwc)
       have shT : SeqAt.shaped (.tuple [.str "trapped", .str sg]) = true := by
         unfold SeqAt.shaped
         simp [PyData.canLay0, PyData.canLayAll0, PyData.depth, PyData.depthAll, J0g sg h2, (by decide +kernel : PyData.strOk "trapped" = true)]
       refine ⟨p, a', .tuple [.str "trapped", .str sg], (Exc2.r x4).trans ((Exc2.l x5).trans (.s sm6)), c5.same sm6, (ow4.exc x5 ndc nuc ntc).same sm6, .tup (SqT.of e6) (.cons (.str _) (.cons (.str _) .nil)), .tup (SqT.of e7) (.cons (.str _) (.cons (.str _) .nil)), .tup e6 (.cons (.str _) (.cons (.str _) .nil)), .tup e7 (.cons (.str _) (.cons (.str _) .nil)), shT, ?_, V8b h2, rfl⟩
       simp [PyData.eqv, PyData.eqvAll]
   rintro σ' H5 ⟨fo, a', dd, x5, c5, ow5, r1, r2, q1, q2, sh, ee, so, rfl⟩
   refine ⟨_, rfl, _, rfl, dd, dd, r1, r2, sh, sh, true, (by show V.bl (PyData.eqv dd dd) = _; rw [ee]), V5 ?_⟩
   refine ⟨_, rfl, fo, dd, rfl, q1, so, _, rfl, wd, dd, rfl, q2, so, rfl, _, rfl, A7t rfl ?_⟩
   obtain ⟨dx5, ec5⟩ := c5.ins
   refine ⟨_, rfl, c, dx5, _, rfl, ec5, C7n _ _ _ _ _ _, c, r, y, l, m, a', b, _, _, rfl, c5, fun p np => ?_⟩
   have u6 := Same.upd (o := .lst ((U7 (up ++ zs)).map V.str)) np
   have ow6 := ow5.same u6
   have okU : OkL (U7 (up ++ zs)) := (J7j _).ok
   refine ⟨_, rfl, d, _, rfl, ow6.gUp, rdS (U7 (up ++ zs)), rdS (U7 (up ++ zs)), B2v A6, B2v ow6.u, shS okU, shS okU, ?_⟩
   show Q (.bl (PyData.eqv (rdS (U7 (up ++ zs))) (rdS (U7 (up ++ zs))))) _
   rw [V8d]
   exact k a' u' _ (x5.trans (.s u6)) (c5.same u6) ow6
end
theorem V9d (n : Nat) : ([n + 1 + 1 + 1, n + 1 + 1, n + 1] : List Nat).Nodup := by
 refine List.nodup_cons.mpr ⟨fun h => ?_, List.nodup_cons.mpr ⟨fun h => ?_, List.nodup_cons.mpr ⟨fun h => ?_, List.nodup_nil⟩⟩⟩
 . simp only [List.mem_cons, List.not_mem_nil, or_false] at h
   omega
 . simp only [List.mem_cons, List.not_mem_nil, or_false] at h
   omega
 . simp only [List.not_mem_nil] at h
theorem V8a (n : Nat) : ([n + 1 + 1, n + 1] : List Nat).Nodup := (List.nodup_cons.mp (V9d n)).2
structure Held (CN CC CT P0 : Addr) (pos : Pos) (qual : Str) (K : Frag) (sc : Addr) (ns : List Int) (d t c b : Addr) (r : Int) (y : Wy) (l m : Int) (up tr : List Str) (H : Hp) (a u : Addr) : Prop where
 own : OwnAt H d u t r y l m up tr
 ctx : CtxAt CC H c r y l m a b (up.map V.str) (tr.map V.str)
 tab : TabOk P0 pos qual H
 scr : SqL K H sc (ns.map V.int)
theorem OwnAt.keep {H H' : Hp} {d u t : Addr} {r l m : Int} {y : Wy} {up tr : List Str} (h : OwnAt H d u t r y l m up tr) (s : D5k H H') : OwnAt H' d u t r y l m up tr := ⟨s _ _ (fun _ z => by cases z) h.d, s _ _ (fun _ z => by cases z) h.u, s _ _ (fun _ z => by cases z) h.t⟩
theorem CtxAt.keep {CC : Addr} {H H' : Hp} {c : Addr} {r : Int} {y : Wy} {l m : Int} {a b : Addr} {xs ys : List V} (h : CtxAt CC H c r y l m a b xs ys) (s : D5k H H') : CtxAt CC H' c r y l m a b xs ys := by
 obtain ⟨⟨dx, e⟩, ha, hb⟩ := h
 exact ⟨⟨dx, s _ _ (fun _ z => by cases z) e⟩, s _ _ (fun _ z => by cases z) ha, s _ _ (fun _ z => by cases z) hb⟩
theorem NumIs.keep {CN : Addr} {H H' : Hp} {n : Addr} {x : Nm} (h : NumIs CN H n x) (s : D5k H H') : NumIs CN H' n x := by
 obtain ⟨dx, e⟩ := h
 exact ⟨dx, s _ _ (fun _ z => by cases z) e⟩
theorem CtxAt.hide {CC : Addr} {H : Hp} {cs : List Addr} {c : Addr} {r : Int} {y : Wy} {l m : Int} {a b : Addr} {xs ys : List V} (h : CtxAt CC H c r y l m a b xs ys) (A : AllFrz cs H) : CtxAt CC (U1 cs H) c r y l m a b xs ys := by
 obtain ⟨⟨dx, e⟩, ha, hb⟩ := h
 exact ⟨⟨dx, A.hide e (fun _ z => by cases z)⟩, A.hide ha (fun _ z => by cases z), A.hide hb (fun _ z => by cases z)⟩
theorem OwnAt.hide {H : Hp} {cs : List Addr} {d u t : Addr} {r l m : Int} {y : Wy} {up tr : List Str} (h : OwnAt H d u t r y l m up tr) (A : AllFrz cs H) : OwnAt (U1 cs H) d u t r y l m up tr := ⟨A.hide h.d (fun _ z => by cases z), A.hide h.u (fun _ z => by cases z), A.hide h.t (fun _ z => by cases z)⟩
theorem NumIs.hide {CN : Addr} {H : Hp} {cs : List Addr} {n : Addr} {x : Nm} (h : NumIs CN H n x) (A : AllFrz cs H) : NumIs CN (U1 cs H) n x := by
 obtain ⟨dx, e⟩ := h
 exact ⟨dx, A.hide e (fun _ z => by cases z)⟩
theorem NumIs.back {CN : Addr} {H H' : Hp} {cs : List Addr} {n : Addr} {x : Nm} (h : NumIs CN H' n x) (hn : ∀ c ∈ cs, H' c = none) : NumIs CN (Y2 cs H H') n x := by
 obtain ⟨dx, e⟩ := h
 exact ⟨dx, by rw [U3 fun z => by rw [hn n z] at e; cases e]; exact e⟩
section
variable {P : Program} {w : World} {K : Frag} {mg : Str -> Option Value} {base : Heap}
variable {CN CC CT P0 : Addr} {pos : Pos} {qual : Str} {sc : Addr} {ns : List Int} {d t c b : Addr} {r : Int} {y : Wy} {l m : Int} {up tr : List Str} {H : Hp} {a u : Addr}
theorem Held.same {H' : Hp} (h : Held CN CC CT P0 pos qual K sc ns d t c b r y l m up tr H a u) (s : Same H H') : Held CN CC CT P0 pos qual K sc ns d t c b r y l m up tr H' a u := ⟨h.own.same s, h.ctx.same s, h.tab.same s, s.seq h.scr⟩
theorem V4f {k : Nat} {params : Arguments} {body : Expr} {scope : Scope} {cl : List (Str × Addr)} {vs : List V} {spd : Hp -> VK -> XK -> Prop} {H3 H4 : Hp} {f q dt dl : Addr} {zs : List Str} {x : Nm} {Q : VK} {E : XK}
   (h : Held CN CC CT P0 pos qual K sc ns d t c b r y l m up tr H a u) (su : SubS up) (st : SubS tr) (sT : SameT P0 H H3) (tab : TabOk P0 pos qual H3) (la : LamAt H3 f qual params body scope cl)
   (hn : ∀ c ∈ cl.map (·.2), H3 c = none) (ho : ∀ b, b ∉ cl.map (·.2) -> H4 b = H3 b) (A4 : AllFrz (cl.map (·.2)) H4) (kn : ∀ (i : Nat) (x : Str) (c : Addr), cl[i]? = some (x, c) -> ∃ v, vs[i]? = some v /\ Knows H4 c v)
   (eq : H q = some (.tup [.ref dt, .ref dl])) (et : H dt = some (.tup x.vs)) (el : H dl = some (.lst (zs.map V.str))) (lz : zs.length <= 100) (ok : A0w (A4p x.k.str x.s x.f x.p))
   (DO : DeedOk P w K mg base k f (V9r f qual params body scope cl vs) spd)
   (hD : ∀ H', D5k H H4 -> Exc d H4 H' -> CtxAt CC H' c r y l m a b (up.map V.str) (tr.map V.str) -> J5x CN CC CT c r y l m b up tr zs x spd H')
   (fin : ∀ a' u' H5, Exc2 c d H3 (U1 (cl.map (·.2)) H5) -> Held CN CC CT P0 pos qual K sc ns d t c b r y l m (U7 (up ++ zs)) tr (U1 (cl.map (·.2)) H5) a' u' -> Q (.bl true) H5) :
   B3c P w K mg base k CN CC CT [.ref c, .ref d, .ref f, .ref q] H4 Q E := by
 obtain ⟨ps, eP, _⟩ := h.tab
 have k3 : D5k H H3 := sT.keep eP
 have k34 : ∀ b o, H3 b = some o -> H4 b = some o := fun b o e => by
   rw [ho b fun z => by rw [hn b z] at e; cases e]
   exact e
 have k4 : D5k H H4 := fun b o n e => k34 b o (k3 b o n e)
 obtain ⟨dx, ec⟩ := (h.ctx.keep k4).ins
 have ed := (h.own.keep k4).d
 refine ⟨c, d, f, q, dt, dl, a, b, u, t, r, y, l, m, up, tr, zs, x, _, spd, rfl, h.ctx.keep k4, h.own.keep k4, su, st, k4 _ _ (fun _ z => by cases z) eq, k4 _ _ (fun _ z => by cases z) et, k4 _ _ (fun _ z => by cases z) el, lz, ok, DO, fun H' x' => ?_, fun H' x' => hD H' k4 x', fun a' u' H5 x5 c5 o5 => ?_⟩
 . have nd : ∀ b o, H4 b = some (.frz o (.own b)) -> H' b = some (.frz o (.own b)) := fun b o e => x' _ _ e (J1 e ed (by intro z; cases z))
   refine ⟨(la.kept fun b o e => k34 b _ e).kept nd, fun i x c' hi => ?_⟩
   obtain ⟨v, hv, hk⟩ := kn i x c' hi
   exact ⟨v, hv, hk.kept nd⟩
 . have A5 : AllFrz (cl.map (·.2)) H5 := fun c' hc' => by
     obtain ⟨o, e⟩ := A4 c' hc'
     exact ⟨o, x5 _ _ e (J1 e ec (by intro z; cases z)) (J1 e ed (by intro z; cases z))⟩
   have x36 : Exc2 c d H3 (U1 (cl.map (·.2)) H5) := fun b o e n1 n2 => by
     rw [V7 fun z => by rw [hn b z] at e; cases e]
     exact x5 b o (k34 b o e) n1 n2
   have e3c := (h.ctx.keep k3).ins
   have e3d := (h.own.keep k3).d
   obtain ⟨dx3, e3c⟩ := e3c
   refine fin a' u' _ x36 ⟨o5.hide A5, c5.hide A5, tab.at fun b o e hb => ?_, (h.scr.kept fun o e _ => k3 _ _ ?_ e).kept fun o e hb => ?_⟩
   . rcases hb with rfl | ⟨oc, rfl⟩
     . obtain ⟨ps3, z, _⟩ := tab
       rw [z] at e
       cases e
       exact x36 _ _ z (J1 z e3c (by intro z; cases z)) (J1 z e3d (by intro z; cases z))
     . exact x36 _ _ e (J1 e e3c (by intro z; cases z)) (J1 e e3d (by intro z; cases z))
   . rename_i hb
     rcases hb with rfl | ⟨oc, rfl⟩ <;> exact fun _ z => by cases z
   . rcases hb with rfl | ⟨oc, rfl⟩
     . exact x36 _ _ e (J1 e e3c (by intro z; cases z)) (J1 e e3d (by intro z; cases z))
     . exact x36 _ _ e (J1 e e3c (by intro z; cases z)) (J1 e e3d (by intro z; cases z))
end
theorem V2t (n : Nat) (h : 1 <= n) : ∃ L : Nat, 10 ^ L <= n /\ n < 10 ^ (L + 1) := by
 induction n using Nat.strongRecOn with
 | ind n ih =>
   by_cases h10 : n < 10
   . exact ⟨0, by simpa using h, by simpa using h10⟩
   . obtain ⟨L, a, b⟩ := ih (n / 10) (by omega) (by omega)
     refine ⟨L + 1, ?_, ?_⟩
     . rw [Nat.pow_succ]; omega
     . rw [Nat.pow_succ]; omega
theorem V2d {n j : Nat} (h1 : n < 10 ^ (j + 1)) (h2 : 10 ^ j <= n) : A2m (n : Int) = (j : Int) + 1 := by
 unfold A2m
 have e : (Str.ofString (toString (n : Int))).length = (Nat.toDigits 10 n).length := by
   have := congrArg List.length (KIN.signs_num n)
   rw [List.length_map] at this
   rw [<- this]; rfl
 rw [e]
 have a : (Nat.toDigits 10 n).length <= j + 1 := digits10_le (by omega) h1
 have b : j + 1 <= (Nat.toDigits 10 n).length := digits10_ge h2
 omega
theorem J0k {c A B : Prop} [Decidable c] (h : ¬ c) (a : A) : if (!decide c) = true then A else B := by rw [decide_eq_false h]; exact V5 a
abbrev B0q : Stmt := (top 62)
def Wy.code : Wy -> Nat
 | .down => 0
 | .up => 1
 | .floor => 2
 | .ceiling => 3
 | .halfUp => 4
 | .halfDown => 5
 | .halfEven => 6
 | .fiveUp => 7
theorem nW {y z : Wy} (h : y.code ≠ z.code) : ¬ V.str y.name = V.str z.name := fun q => h (by rw [Wy.inj (V.str.inj q)])
theorem C7m {a b : Int} (h : 0 < a) (h2 : b < 2 * a) : V3 a b = 3 := by
 unfold V3
 rw [decide_eq_true h, decide_eq_true (show b <= 2 * a by omega), decide_eq_true h2]
 rfl
theorem C7x {a b : Int} (h : 0 < a) (h2 : 2 * a = b) : V3 a b = 2 := by
 unfold V3
 rw [decide_eq_true h, decide_eq_true (show b <= 2 * a by omega), decide_eq_false (show ¬ b < 2 * a by omega)]
 rfl
theorem C7r {a b : Int} (h : 0 < a) (h2 : 2 * a < b) : V3 a b = 1 := by
 unfold V3
 rw [decide_eq_true h, decide_eq_false (show ¬ b <= 2 * a by omega), decide_eq_false (show ¬ b < 2 * a by omega)]
 rfl
theorem G0n {a b : Int} (h : a = 0) (hb : 0 < b) : V3 a b = 0 := by
 subst h
 unfold V3
 rw [decide_eq_false (show ¬ (0 : Int) < 0 by omega), decide_eq_false (show ¬ b <= 2 * 0 by omega), decide_eq_false (show ¬ b < 2 * 0 by omega)]
 rfl
theorem V4b {l : Int} (h0 : 0 <= l) (h1 : l <= 9) : inV (.int l) [.int 0, .int 5] = decide (V.int (l % 5) = V.int 0) := by
 rcases (by omega : l = 0 \/ l = 1 \/ l = 2 \/ l = 3 \/ l = 4 \/ l = 5 \/ l = 6 \/ l = 7 \/ l = 8 \/ l = 9) with rfl | rfl | rfl | rfl | rfl | rfl | rfl | rfl | rfl | rfl <;> decide +kernel
section
variable {P : Program} {w : World} {K : Frag} {mg : Str -> Option Value} {base : Heap}
def G8y : Sp := fun vs H Q _ => ∃ (y : Wy) (s l lf lo : Int), vs = [.str y.name, .int s, .int l, .int lf, .int lo] /\ 0 <= l /\ l <= 9 /\ 0 < lf /\ ∀ H', Same H H' -> Q (.bl (y.goes s l (V3 lf lo))) H'
theorem V3y : FnScope ["_law_way", "_law_sign", "_law_last", "_law_left", "_law_bottom"] ["_law_way", "_law_sign", "_law_last", "_law_left", "_law_bottom"] (A3 B0q) := scK
theorem J8s {f : Addr} {fd : FuncData} (D : Def K mg "_law_goes_up" ["_law_way", "_law_sign", "_law_last", "_law_left", "_law_bottom"] B0q f fd) : FnOk P w K mg base (CX1 P w) 1 f fd ["_law_way", "_law_sign", "_law_last", "_law_left", "_law_bottom"] G8y := by
 refine FnOk.up (D.F.ok V3y (fun vs H Q E h => ?_) (fun cdv A outer s H vs Q E hr h => ?_))
 . obtain ⟨y, z, l, a, b, rfl, _⟩ := h
   rfl
 . obtain ⟨y, z, l, a, b, rfl, l0, l9, a0, k⟩ := h
   refine ⟨_, (A7 (D9 (C4 A1r (pv 0) (G8 (A0 B0 (A0 B0 (A0 B0 A8)))) (by rfl)) (A7 (D9 (C4 D3u (B3 V1 A1 (pv 3)) (pv 4) (B9 _)) (A9 (B8 (G0 A3k (B3 V1 A1 (pv 3)) (pv 4) (B9 _)))) C6)
     (A9 (B8 (D3x (G0 D6 (pv 0) B0 (B9 _)) (A1w (A7j (G0 D6 (pv 0) B0 (B9 _)) (A1w (G0 D6 (B3 D3 (pv 2) A1) A1 (B9 _))))))))) C6)
     (A7 (D9 (C4 D6 (pv 0) B0 (B9 _)) (A9 (B8 (G0 D6 (B3 D3 (pv 2) A1) A1 (B9 _)))) C6)
     (A9 (B8 (D3x (G0 D6 (pv 0) B0 (B9 _)) (D3x (A7j (G0 D6 (pv 0) B0 (B9 _)) (A1w (G0 D6 (pv 1) A1 (B9 _)))) (A1w (A7j (G0 D6 (pv 0) B0 (B9 _)) (A1w (G0 D6 (pv 1) A1 (B9 _))))))))))), ?_⟩
   have z3 : 3 <= sizeLine := C7 (by decide)
   have mC : ∀ z n : Int, -(2 ^ 64) < n -> n < 2 ^ 64 -> IntMulOk n z := fun z n a b => CMul.ok (.inl ⟨a, b⟩)
   refine ⟨_, rfl, z3, fun p np => ⟨p, _, rfl, .inr (SqT.of A6), rfl, rfl, _, rfl, ?_⟩⟩
   have u := Same.upd (o := .tup [.str "half up", .str "half down", .str "half even"]) np
   have k := k _ u
   generalize upd H p (.tup [.str "half up", .str "half down", .str "half even"]) = H1 at u k
   have no : ∀ y : Wy, y.code < 4 \/ y.code = 7 -> inV (.str y.name) [.str "half up", .str "half down", .str "half even"] = false := fun y => by cases y <;> decide +kernel
   have yes : ∀ y : Wy, 4 <= y.code -> y.code <= 6 -> inV (.str y.name) [.str "half up", .str "half down", .str "half even"] = true := fun y => by cases y <;> decide +kernel
   show if (inV (.str y.name) [.str "half up", .str "half down", .str "half even"]) = true then _ else _
   cases y with
   | down =>
     rw [no .down (by decide)]
     exact U4 ⟨_, rfl, rfl, _, rfl, A0c (nW (y := .down) (z := .fiveUp) (by decide)) ⟨_, rfl, rfl, _, rfl, A0c (nW (y := .down) (z := .up) (by decide)) ⟨_, rfl, rfl, _, rfl, A0c (nW (y := .down) (z := .floor) (by decide)) ⟨_, rfl, U4 ⟨_, rfl, rfl, _, rfl, A0c (nW (y := .down) (z := .ceiling) (by decide)) k⟩⟩⟩⟩⟩
   | up =>
     rw [no .up (by decide)]
     exact U4 ⟨_, rfl, rfl, _, rfl, A0c (nW (y := .up) (z := .fiveUp) (by decide)) ⟨_, rfl, rfl, _, rfl, A7t rfl k⟩⟩
   | floor =>
     rw [no .floor (by decide)]
     have kT : V.int z = V.int 1 -> Q (.bl true) H1 := fun e => by
       have k : Q (.bl (decide (V.int z = V.int 1))) H1 := k
       rw [decide_eq_true e] at k
       exact k
     have kF : ¬ V.int z = V.int 1 -> Q (.bl false) H1 := fun e => by
       have k : Q (.bl (decide (V.int z = V.int 1))) H1 := k
       rw [decide_eq_false e] at k
       exact k
     exact U4 ⟨_, rfl, rfl, _, rfl, A0c (nW (y := .floor) (z := .fiveUp) (by decide)) ⟨_, rfl, rfl, _, rfl, A0c (nW (y := .floor) (z := .up) (by decide)) ⟨_, rfl, rfl, _, rfl, A7t rfl ⟨_, rfl, rfl, _, rfl, G6 (fun e => kT e) fun e => ⟨_, rfl, rfl, _, rfl, A0c (nW (y := .floor) (z := .ceiling) (by decide)) (kF e)⟩⟩⟩⟩⟩
   | ceiling =>
     rw [no .ceiling (by decide)]
     exact U4 ⟨_, rfl, rfl, _, rfl, A0c (nW (y := .ceiling) (z := .fiveUp) (by decide)) ⟨_, rfl, rfl, _, rfl, A0c (nW (y := .ceiling) (z := .up) (by decide)) ⟨_, rfl, rfl, _, rfl, A0c (nW (y := .ceiling) (z := .floor) (by decide)) ⟨_, rfl, U4 ⟨_, rfl, rfl, _, rfl, A7t rfl ⟨_, rfl, rfl, k⟩⟩⟩⟩⟩⟩
   | fiveUp =>
     rw [no .fiveUp (by decide)]
     have k : Q (.bl (inV (.int l) [.int 0, .int 5])) H1 := k
     rw [V4b l0 l9] at k
     exact U4 ⟨_, rfl, rfl, _, rfl, A7t rfl ⟨_, rfl, _, _, rfl, rfl, (by decide : (0 : Int) < 5), rfl, k⟩⟩
   | halfUp =>
     rw [yes .halfUp (by decide) (by decide)]
     refine V5 ⟨_, rfl, _, _, rfl, rfl, mC _ _ (by decide) (by decide), _, rfl, rfl, _, rfl, ?_⟩
     by_cases e : 2 * a = b
     . rw [C7x a0 e] at k
       exact C6d (congrArg V.int e) ⟨_, rfl, rfl, _, rfl, A7t rfl k⟩
     . refine J0k (fun z => e (V.int.inj z)) ⟨_, rfl, _, _, rfl, rfl, mC _ _ (by decide) (by decide), _, rfl, _, _, rfl, rfl, ?_⟩
       show Q (.bl (decide (2 * a > b))) H1
       by_cases h : b < 2 * a
       . rw [C7m a0 h] at k
         rw [decide_eq_true h]
         exact k
       . rw [C7r a0 (by omega)] at k
         rw [decide_eq_false h]
         exact k
   | halfDown =>
     rw [yes .halfDown (by decide) (by decide)]
     refine V5 ⟨_, rfl, _, _, rfl, rfl, mC _ _ (by decide) (by decide), _, rfl, rfl, _, rfl, ?_⟩
     by_cases e : 2 * a = b
     . rw [C7x a0 e] at k
       exact C6d (congrArg V.int e) ⟨_, rfl, rfl, _, rfl, A0c (nW (y := .halfDown) (z := .halfUp) (by decide)) ⟨_, rfl, rfl, _, rfl, A0c (nW (y := .halfDown) (z := .halfEven) (by decide)) k⟩⟩
     . refine J0k (fun z => e (V.int.inj z)) ⟨_, rfl, _, _, rfl, rfl, mC _ _ (by decide) (by decide), _, rfl, _, _, rfl, rfl, ?_⟩
       show Q (.bl (decide (2 * a > b))) H1
       by_cases h : b < 2 * a
       . rw [C7m a0 h] at k
         rw [decide_eq_true h]
         exact k
       . rw [C7r a0 (by omega)] at k
         rw [decide_eq_false h]
         exact k
   | halfEven =>
     rw [yes .halfEven (by decide) (by decide)]
     refine V5 ⟨_, rfl, _, _, rfl, rfl, mC _ _ (by decide) (by decide), _, rfl, rfl, _, rfl, ?_⟩
     by_cases e : 2 * a = b
     . rw [C7x a0 e] at k
       exact C6d (congrArg V.int e) ⟨_, rfl, rfl, _, rfl, A0c (nW (y := .halfEven) (z := .halfUp) (by decide)) ⟨_, rfl, rfl, _, rfl, A7t rfl ⟨_, rfl, _, _, rfl, rfl, (by decide : (0 : Int) < 2), rfl, k⟩⟩⟩
     . refine J0k (fun z => e (V.int.inj z)) ⟨_, rfl, _, _, rfl, rfl, mC _ _ (by decide) (by decide), _, rfl, _, _, rfl, rfl, ?_⟩
       show Q (.bl (decide (2 * a > b))) H1
       by_cases h : b < 2 * a
       . rw [C7m a0 h] at k
         rw [decide_eq_true h]
         exact k
       . rw [C7r a0 (by omega)] at k
         rw [decide_eq_false h]
         exact k
end
theorem D4n (e : Int) : D5 (C1s 0 e) = D5 e := by
 unfold C1s D5
 split
 . rfl
 . rw [show e.toNat = 0 by omega]; rfl
theorem tn {e : Int} (h0 : 0 <= e) : [V.int e] ++ [] = [V.int (e.toNat : Int)] := by rw [Int.toNat_of_nonneg h0]; rfl
theorem mx (e : Int) : 0 <= C1s 0 e /\ (e <= 600 -> C1s 0 e <= 600) := by
 unfold C1s
 constructor
 . split <;> omega
 . intro h; split <;> omega
def SzL (t : Int) : Prop := 1 <= t /\ t < D5 500
theorem SzL.nat {t : Int} (h : SzL t) : ∃ n : Nat, t = (n : Int) /\ 1 <= n /\ n < 10 ^ 500 := by
 obtain ⟨n, rfl⟩ := Int.eq_ofNat_of_zero_le (show 0 <= t by have := h.1; omega)
 exact ⟨n, rfl, Int.ofNat_le.mp h.1, Int.ofNat_lt.mp h.2⟩
theorem SzL.log {t : Int} (h : SzL t) : t.natAbs.log2 < 1920 := by
 obtain ⟨n, rfl, _, hn⟩ := h.nat
 have : n < 2 ^ 1670 := Nat.lt_of_lt_of_le (Nat.lt_of_lt_of_le hn (Nat.pow_le_pow_right (by decide) (by decide : 500 <= 3 * 167))) (D4c 167)
 exact Nat.lt_trans (B0t (i := (n : Int)) (k := 1670) (by rw [Int.natAbs_natCast]; exact this) (by decide)) (by decide)
def V6y (H : Hp) (q : Addr) (x : Nm) (zs : List Str) : Prop := ∃ t l, H q = some (.tup [.ref t, .ref l]) /\ H t = some (.tup x.vs) /\ H l = some (.lst (zs.map V.str))
theorem D9m (x : Str) (b : Bool) : (List.replicate (if b = true then (1 : Int) else 0).toNat [V.str x]).flatten = (A6z x b).map V.str := by cases b <;> rfl
theorem B8b (x : Str) (b : Bool) : (A6z x b).length <= 1 := by cases b <;> simp [A6z]
theorem D5d {a b : Int} (h : 0 < a) (hb : 0 < b) : ¬ V3 a b = 0 := by
 rcases (by omega : 2 * a < b \/ 2 * a = b \/ b < 2 * a) with h2 | h2 | h2
 . rw [C7r h h2]; decide
 . rw [C7x h h2]; decide
 . rw [C7m h h2]; decide
def noneN : Nm := ⟨.none, 0, 0, 0⟩
theorem Ends2.same {CN CC CT : Addr} {H H1 : Hp} {c : Addr} {v : Cv} {b : Addr} {xs ys : List Str} {res : Nm × List Str} {Q : VK} {E : XK} (k : Ends2 CN CC CT H c v b xs ys res Q E) (s : Same H H1) : Ends2 CN CC CT H1 c v b xs ys res Q E :=
 ⟨fun hn m a' H' x => k.1 hn m a' H' ((Exc.of s).trans x), fun z hz a' d H' x => k.2 z hz a' d H' ((Exc.of s).trans x)⟩
theorem V2k (tr : List Str) : hit tr [] = none := by
 unfold hit
 rw [List.find?_eq_none]
 simp
theorem Ends2.calm {CN CC CT : Addr} {H H1 : Hp} {c n a : Addr} {v : Cv} {b : Addr} {xs ys : List Str} {x : Nm} {Q : VK} {E : XK} (k : Ends2 CN CC CT H c v b xs ys (x, []) Q E) (ox : U7 xs = xs) (s : Same H H1) (hc : CtxV CC H c v a b xs ys) (hn : NumIs CN H1 n x) : Q (.ref n) H1 :=
 k.1 (V2k _) n a H1 (Exc.of s) (by show CtxV CC H1 c v a b (U7 (xs ++ [])) ys; rw [List.append_nil, ox]; exact hc.same s) hn
deriving instance DecidableEq for Kd
abbrev A2k : Stmt := (top 34)
theorem A2v (s : Int) : whI 0 1 s = 0 /\ ptI 0 1 s = 0 := by
 have h : whI 0 1 s = 0 := by unfold whI; rw [Int.zero_mul, Int.zero_ediv]
 refine ⟨h, ?_⟩
 unfold ptI
 rw [h, Int.zero_mul, Int.zero_mul]
 exact G0n rfl (by rw [Int.one_mul]; exact A0s _)
section
variable {P : Program} {w : World} {K : Frag} {mg : Str -> Option Value} {base : Heap}
def C5m (CN : Addr) : Sp := fun vs H Q _ => ∃ n x, ∃ q : Int, vs = [.ref n, .int q] /\ NumIs CN H n x /\ x.Ok /\ -1500 <= x.p - q /\ x.p - q <= 1500 /\ ∀ t H', Same H H' -> H' t = some (.tup [.int (whI x.f 1 (x.p - q)), .int (ptI x.f 1 (x.p - q))]) -> Q (.ref t) H'
theorem J1s : FnScope ["number", "power"] ["number", "power"] (A3 A2k) := scK
theorem D8m {f fR CN CR CE g2 : Addr} {fd fdR gd2 : FuncData} {d0 : Value} {gP : List Value -> List Value -> List Value} {vP : List V -> List V -> List V} (D : Def K mg "parts_at" ["number", "power"] A2k f fd) (N : Num K mg CN) (MR : MakeR P w K mg base CR fR fdR d0 gP vP) (R : RatC K mg CR CE) (m2 : Meth K CR "at" g2) (h2 : FnOk P w K mg base (CX1 P w) 3 g2 gd2 ["self", "power"] (V7e CR)) (b2 : Binds K gd2 ["self", "power"] []) :
   FnOk P w K mg base (CX1 P w) 4 f fd ["number", "power"] (C5m CN) := by
 refine D.F.okE J1s (fun vs H Q E h => ?_) (fun X cdv A outer s H vs Q E hX hr hx h => ?_)
 . obtain ⟨n, x, q, rfl, _⟩ := h
   rfl
 . subst hX
   obtain ⟨n, x, q, rfl, num, ok, q0, q1, k⟩ := h
   refine ⟨_, (A9 (B8 (A2a (C4 D6 (G4 (pv 0) rfl) A1 (B9 _)) (G8 (A0 A1 (A0 A1 A8))) (C5f (J6z MR.m MR.g hr R.g MR.b3 .nil hx (A0 (G4 (pv 0) rfl) (A0 A1 (A0 (G4 (pv 0) rfl) A8)))) R.cl m2 h2 hr b2 .nil hx (A0 (pv 1) A8))))), ?_⟩
   have z2 : 2 <= sizeLine := C7 (by decide)
   obtain ⟨dn, en⟩ := id num
   refine ⟨_, rfl, n, CN, dn, _, _, rfl, en, N.cl, N.n3, D4f _ _ _ _, rfl, _, rfl, G6 (fun h => ?_) (fun h => ?_)⟩
   . have h : x.f = 0 := V.int.inj h
     rw [h, (A2v _).1, (A2v _).2] at k
     exact ⟨z2, fun t nt => k t _ (Same.upd nt) A6⟩
   . have h : ¬ x.f = 0 := fun z => h (congrArg V.int z)
     have z1 : Sz x.f := J6y ok.f0 h ok.f1
     refine ⟨_, rfl, n, CN, dn, _, _, rfl, en, N.cl, N.n3, D4f _ _ _ _, _, rfl, n, CN, dn, _, _, rfl, en, N.cl, N.n4, G0a _ _ _ _, fun r dr m1 m2 me => Y4w m1 m2 me fun H1 s1 ra => ⟨rfl, ?_⟩⟩
     obtain ⟨dr', er⟩ := id ra
     exact ⟨r, dr', _, rfl, er, J1x _ _ _, _, rfl, r, x.f, 1, x.p, q, rfl, ra, z1, J8h, q0, q1, fun t H2 s2 nt et => k t H2 (s1.trans s2) et⟩
end
abbrev B7e : Stmt := (top 30)
abbrev A1u : Stmt := (top 35)
abbrev B0x : Stmt := (top 33)
abbrev Y5 : Stmt := (top 32)
def Two (CN : Addr) (H : Hp) (n1 n2 : Addr) (x1 x2 : Nm) : Prop := NumIs CN H n1 x1 /\ NumIs CN H n2 x2
theorem Two.same {CN : Addr} {H H' : Hp} {n1 n2 : Addr} {x1 x2 : Nm} (h : Two CN H n1 n2 x1 x2) (e : Same H H') : Two CN H' n1 n2 x1 x2 := ⟨h.1.same e, h.2.same e⟩
theorem B8v {CN : Addr} {H : Hp} {l n1 n2 : Addr} {x1 x2 : Nm} (h : Two CN H n1 n2 x1 x2) (hl : H l = some (.lst [.ref n1, .ref n2])) : NumsAt CN H l [(n1, x1), (n2, x2)] := ⟨hl, List.forall_mem_cons.2 ⟨h.1, List.forall_mem_cons.2 ⟨h.2, by simp⟩⟩⟩
def A2f (v : Cv) (W p pt : Int) (cut : Bool) : List Str := A2w pt cut ++ (if W = 0 then [] else A7n v.l (p + A2m W - 1) pt)
def upW (v : Cv) (x : Nm) (p : Int) : Int := upI v.y x.s (whI x.f 1 (x.p - p)) (ptI x.f 1 (x.p - p))
def A2h (v : Cv) (x : Nm) (p : Int) : Nm × List Str :=
 if upW v x p >= D5 v.r then (noneN, ["void"]) else if V9 v.m (upW v x p) p = true then (noneN, ["void"])
 else if x.f = 0 then (⟨.plain, x.s, upW v x p, p⟩, []) else (⟨.plain, x.s, upW v x p, p⟩, A2f v (upW v x p) p (ptI x.f 1 (x.p - p)) (decide (p > x.p)))
def A1a (v : Cv) (x1 x2 : Nm) (_ : Int) : Nm × List Str :=
 if x1.k = .none \/ x2.k = .none then (noneN, [])
 else if x1.k = .end_ \/ x2.k = .end_ then (if x1.k = x2.k then (x1, []) else (noneN, ["void"]))
 else if x2.p < v.l - v.r + 1 then (noneN, ["void"]) else if x2.p > v.m then (noneN, ["void"]) else A2h v x1 x2.p
def Pre (_ _ : Nm) (_ : Int) : Prop := True
theorem V8m {y : Wy} {s wh pt : Int} (h : 0 <= wh) : 0 <= upI y s wh pt /\ upI y s wh pt <= wh + 1 := by
 unfold upI
 generalize (if pt = 0 then false else y.goes s (wh % 10) pt) = g
 cases g with
 | true => exact ⟨by show 0 <= wh + 1; omega, Int.le_refl _⟩
 | false => exact ⟨h, by show wh <= wh + 1; omega⟩
theorem J7g {f s : Int} (f0 : 0 <= f) (f1 : f <= 10 ^ 60 - 1) (hs : s <= 300) : 0 <= whI f 1 s /\ whI f 1 s < D5 400 := by
 have tp := A0s s
 have np := A0s (-s)
 have a : 0 <= f * D5 s := Int.mul_nonneg f0 (Int.le_of_lt tp)
 unfold whI
 rw [Int.one_mul]
 refine ⟨Int.ediv_nonneg a (by omega), ?_⟩
 have b : f * D5 s / D5 (-s) <= f * D5 s := Int.ediv_le_self _ a
 have e : D5 s <= D5 300 := B7z (by omega)
 have c : f * D5 s <= (10 ^ 60 - 1) * D5 300 := Int.mul_le_mul f1 e (Int.le_of_lt tp) (by decide +kernel)
 have d : (10 ^ 60 - 1) * D5 300 < D5 400 := by decide +kernel
 omega
theorem G9y {W : Int} (h0 : 0 <= W) (h : W <= D5 400) : W.natAbs.log2 < 1920 := by
 by_cases z : W = 0
 . rw [z]; decide
 . have h2 : W <= D5 499 := Int.le_trans h (B7z (by decide))
   have h3 : D5 499 < D5 500 := by decide +kernel
   exact SzL.log ⟨by omega, by omega⟩
section
variable {P : Program} {w : World} {K : Frag} {mg : Str -> Option Value} {base : Heap}
def D8k (CN CC CT : Addr) : Sp := fun vs H Q E => ∃ c v a b xs ys, vs = [.ref c] /\ CtxV CC H c v a b xs ys /\ xs.length <= 900 /\ Ends2 CN CC CT H c v b xs ys (noneN, ["void"]) Q E
theorem V8x : FnScope ["context"] ["context"] (A3 B7e) := scK
theorem V2m {f f1 CN CC CB CT CW : Addr} {cw : Wy -> Addr} {fd fd1 : FuncData} (D : Def K mg "void" ["context"] B7e f fd) (D_nothing : Def K mg "nothing" [] Z2 f1 fd1) (G_nothing : FnOk P w K mg base (CX1 P w) 3 f1 fd1 [] (A9p CN)) (C : CtxM P w K mg base CC CB CT CW cw) : FnOk P w K mg base (CX1 P w) 4 f fd ["context"] (D8k CN CC CT) := by
 refine D.F.okE V8x (fun vs H Q E h => ?_) (fun X cdv A outer s H vs Q E hX hr hx h => ?_)
 . obtain ⟨c, v, a, b, xs, ys, rfl, _⟩ := h
   rfl
 . subst hX
   obtain ⟨c, v, a, b, xs, ys, rfl, hc, lx, k⟩ := h
   obtain ⟨fR, fdR, mR, gR, bR⟩ := C.raised
   refine ⟨_, (A7 (Y1 (C5f (pv 0) C.c.cl mR gR hr bR .nil hx (A0 (J0 (A0 B0 A8)) A8)))
     (A9 (B8 (G0k D_nothing G_nothing hr hx)))), ?_⟩
   have z1 : 1 <= sizeLine := C7 (by decide)
   obtain ⟨dx, e⟩ := hc.ins
   refine ⟨_, rfl, c, dx, _, rfl, e, A3a _ _ _ _ _ _, z1, fun p np => ?_⟩
   have u := Same.upd (o := .lst [.str "void"]) np
   refine ⟨c, v.r, v.y, v.l, v.m, a, b, xs, ys, _, rfl, hc.same u, by omega, .inl ⟨p, ["void"], rfl, A6, by decide, by decide +kernel, fun hn a' H' x na ct => ?_, fun t ht a' d H' x na ct nd ed => ?_⟩⟩
   . exact ⟨rfl, fun n H2 nn s2 num => k.1 hn n a' H2 ((Exc.of u).trans (x.trans (Exc.of s2))) (CtxAt.same ct s2) num⟩
   . exact k.2 t ht a' d H' ((Exc.of u).trans x) ct ed
def C5z (CN CC : Addr) : Sp := fun vs H Q _ => ∃ c v a b xs ys n x, ∃ pt : Int, ∃ cut : Bool, vs = [.ref c, .ref n, .int pt, .bl cut] /\ CtxV CC H c v a b xs ys /\ NumIs CN H n x /\ x.f.natAbs < 2 ^ 300 /\ ∀ l H', Same H H' -> H' l = some (.lst ((A2f v x.f x.p pt cut).map V.str)) -> Q (.ref l) H'
theorem scSigMove : FnScope ["context", "number", "part", "is_cut", "names"] ["context", "number", "part", "is_cut"] (A3 A1u) := scK
theorem D8c {f f1 f2 f3 CN CC CB CT CW : Addr} {cw : Wy -> Addr} {fd fd1 fd2 fd3 : FuncData} (D : Def K mg "signals_of_move" ["context", "number", "part", "is_cut"] A1u f fd) (D_signals_of_rest : Def K mg "signals_of_rest" ["part", "is_cut"] A2e f1 fd1) (G_signals_of_rest : FnOk P w K mg base (CX1 P w) 1 f1 fd1 ["part", "is_cut"] C6a)
   (D_signals_of_lead : Def K mg "signals_of_lead" ["context", "lead", "part"] A1z f2 fd2) (G_signals_of_lead : FnOk P w K mg base (CX1 P w) 1 f2 fd2 ["context", "lead", "part"] (C5k CC)) (D_lead_of : Def K mg "lead_of" ["number"] B7g f3 fd3) (G_lead_of : FnOk P w K mg base (CX1 P w) 1 f3 fd3 ["number"] (D9b CN)) (C : CtxM P w K mg base CC CB CT CW cw) (N : Num K mg CN) :
   FnOk P w K mg base (CX1 P w) 2 f fd ["context", "number", "part", "is_cut"] (C5z CN CC) := by
 refine D.F.okE scSigMove (fun vs H Q E h => ?_) (fun X cdv A outer s H vs Q E hX hr hx h => ?_)
 . obtain ⟨c, v, a, b, xs, ys, n, x, pt, cut, rfl, _⟩ := h
   rfl
 . subst hX
   obtain ⟨c, v, a, b, xs, ys, n, x, pt, cut, rfl, hc, num, lg, k⟩ := h
   refine ⟨_, (A7 (C9 (i := 4) scSigMove.nd rfl (Or.inl rfl) (C8 D_signals_of_rest G_signals_of_rest hr hx (A0 (pv 2) (A0 (pv 3) A8))))
     (A7 (D9 (C4 D6 (G4 (pv 1) rfl) A1 (B9 _)) (A9 (B8 (pv 4))) C6)
     (A9 (B8 (B3 B8n (pv 4) (C8 D_signals_of_lead G_signals_of_lead hr hx (A0 (pv 0) (A0 (C8 D_lead_of G_lead_of hr hx (A0 (pv 1) A8)) (A0 (pv 2) A8))))))))), ?_⟩
   unfold A2f at k
   refine ⟨_, rfl, _, rfl, pt, cut, rfl, fun l nl => ?_⟩
   have u1 := Same.upd (o := .lst ((A2w pt cut).map V.str)) nl
   have e1 : upd H l (.lst ((A2w pt cut).map V.str)) l = some (.lst ((A2w pt cut).map V.str)) := A6
   have num1 := num.same u1
   have hc1 := hc.same u1
   generalize upd H l (.lst ((A2w pt cut).map V.str)) = H1 at u1 e1 num1 hc1
   obtain ⟨dn, en⟩ := id num1
   refine ⟨_, rfl, n, CN, dn, _, _, rfl, en, N.cl, N.n3, D4f _ _ _ _, rfl, _, rfl, G6 (fun h => ?_) (fun h => ?_)⟩
   . have h : x.f = 0 := V.int.inj h
     rw [if_pos h, List.append_nil] at k
     exact ⟨_, rfl, k l H1 u1 e1⟩
   . have h : ¬ x.f = 0 := fun z => h (congrArg V.int z)
     rw [if_neg h] at k
     refine ⟨_, rfl, _, rfl, _, rfl, n, _, _, x.f, x.p, rfl, num1, lg, _, rfl, c, v, a, b, xs, ys, _, pt, rfl, hc1, fun l2 n2 => ?_⟩
     have u2 := Same.upd (o := .lst ((A7n v.l (x.p + A2m x.f - 1) pt).map V.str)) n2
     refine ⟨l, l2, _, _, rfl, rfl, u2 _ _ e1, A6, ?_, fun l3 n3 => ?_⟩
     . refine C7 ?_
       have := B9e (pt := pt) (cut := cut) (l := v.l) (L := x.p + A2m x.f - 1)
       rw [List.length_append] at this
       rw [List.length_map, List.length_map]
       exact Nat.le_trans this (by decide)
     . refine k l3 _ (u1.trans (u2.trans (Same.upd n3))) ?_
       rw [A6, List.map_append]
       rfl
def G9x (CN CC CT : Addr) : Sp := fun vs H Q E => ∃ c v a b xs ys n x, ∃ p : Int, vs = [.ref c, .ref n, .int p] /\ CtxV CC H c v a b xs ys /\ v.Ok /\ xs.length <= 900 /\ U7 xs = xs /\ NumIs CN H n x /\ x.Ok /\ v.l - v.r + 1 <= p /\ p <= v.m /\ Ends2 CN CC CT H c v b xs ys (A2h v x p) Q E
theorem scMoved : FnScope ["context", "one", "power", "pair", "number"] ["context", "one", "power"] (A3 B0x) := scK
theorem J7x {v : Cv} {W p pt : Int} {cut : Bool} : ∀ z ∈ A2f v W p pt cut, z ∈ sigS := by
 unfold A2f
 split
 . intro z hz
   rw [List.append_nil] at hz
   exact D3w (l := 0) (L := 0) z (List.mem_append.mpr (.inl hz))
 . exact D3w
theorem J6v {v : Cv} {W p pt : Int} {cut : Bool} : (A2f v W p pt cut).length <= 4 := by
 unfold A2f
 split
 . rw [List.append_nil]
   have := B9e (pt := pt) (cut := cut) (l := 0) (L := 0)
   rw [List.length_append] at this
   omega
 . exact B9e
theorem J8m {f f1 f2 f3 f4 f5 f6 fI CN CC CB CT CW : Addr} {cw : Wy -> Addr} {fd fd1 fd2 fd3 fd4 fd5 fd6 fdI : FuncData} (D : Def K mg "moved" ["context", "one", "power"] B0x f fd) (D_parts_at : Def K mg "parts_at" ["number", "power"] A2k f1 fd1) (G_parts_at : FnOk P w K mg base (CX1 P w) 4 f1 fd1 ["number", "power"] (C5m CN))
   (D_neighbour : Def K mg "neighbour" ["context", "sign", "pair"] Y0 f2 fd2) (G_neighbour : FnOk P w K mg base (CX1 P w) 3 f2 fd2 ["context", "sign", "pair"] (B7j CC)) (D_ten_to : Def K mg "ten_to" ["count"] A4c f3 fd3) (G_ten_to : FnOk P w K mg base (CX1 P w) 2 f3 fd3 ["count"] C7z)
   (D_is_beyond : Def K mg "is_beyond" ["context", "number"] A2x f4 fd4) (G_is_beyond : FnOk P w K mg base (CX1 P w) 2 f4 fd4 ["context", "number"] (D5s CN CC)) (D_void : Def K mg "void" ["context"] B7e f5 fd5) (G_void : FnOk P w K mg base (CX1 P w) 4 f5 fd5 ["context"] (D8k CN CC CT))
   (D_signals_of_move : Def K mg "signals_of_move" ["context", "number", "part", "is_cut"] A1u f6 fd6) (G_signals_of_move : FnOk P w K mg base (CX1 P w) 2 f6 fd6 ["context", "number", "part", "is_cut"] (C5z CN CC)) (C : CtxM P w K mg base CC CB CT CW cw) (N : Num K mg CN) (M : MakeN P w K mg base CN fI fdI) :
   FnOk P w K mg base (CX1 P w) 5 f fd ["context", "one", "power"] (G9x CN CC CT) := by
 refine D.F.okE scMoved (fun vs H Q E h => ?_) (fun X cdv A outer s H vs Q E hX hr hx h => ?_)
 . obtain ⟨c, v, a, b, xs, ys, n, x, p, rfl, _⟩ := h
   rfl
 . subst hX
   obtain ⟨c, v, a, b, xs, ys, n, x, p, rfl, hc, ok, lx, ox, num, xo, p0, p1, k⟩ := h
   obtain ⟨fR, fdR, mR, gR, bR⟩ := C.raised
   refine ⟨_, (A7 (B7 (C9 (i := 3) scMoved.nd rfl (Or.inl rfl) (C8 D_parts_at G_parts_at hr hx (A0 (pv 1) (A0 (pv 2) A8)))))
     (A7 (B7 (C9 (i := 4) scMoved.nd rfl (Or.inl rfl) (J6z M.m (FnOk.up M.g) hr N.g M.b .nil hx (A0 B0 (A0 (G4 (pv 1) rfl) (A0 (C8 D_neighbour G_neighbour hr hx (A0 (pv 0) (A0 (G4 (pv 1) rfl) (A0 (pv 3) A8)))) (A0 (pv 2) A8)))))))
     (A7 (B7 (D9 (PW.pt (A7k (C4 G9p (G4 (pv 4) rfl) (C8 D_ten_to G_ten_to hr hx (A0 (G4 (pv 0) rfl) A8)) (B9 _)) (A3c (Y6 (C8 D_is_beyond G_is_beyond hr hx (A0 (pv 0) (A0 (pv 4) A8))))))) (A9 (B8 (C8 D_void G_void hr hx (A0 (pv 0) A8)))) C6))
     (A7 (B7 (D9 (C4 D3u (G4 (pv 1) rfl) A1 (B9 _)) (A9 (Y1 (C5f (pv 0) C.c.cl mR gR hr bR .nil hx (A0 (C8 D_signals_of_move G_signals_of_move hr hx (A0 (pv 0) (A0 (pv 4) (A0 (D7 D4 (pv 3) A1 (fun _ _ => rfl)) (A0 (G0 A3k (pv 2) (G4 (pv 1) rfl) (B9 _)) A8))))) A8)))) C6))
     (A9 (B8 (pv 4))))))), ?_⟩
   have r1 := ok.r1; have r2 := ok.r2; have l1 := ok.l1; have l2 := ok.l2; have m1 := ok.m1; have m2 := ok.m2
   have q0 := xo.p0; have q1 := xo.p1
   have wb := J7g (s := x.p - p) xo.f0 xo.f1 (by omega)
   have ub := V8m (y := v.y) (s := x.s) (pt := ptI x.f 1 (x.p - p)) wb.1
   refine ⟨fun σ' H' => ∃ t, Same H H' /\ H' t = some (.tup [.int (whI x.f 1 (x.p - p)), .int (ptI x.f 1 (x.p - p))]) /\ σ' = [some (.ref c), some (.ref n), some (.int p), some (.ref t), none], ⟨_, rfl, _, rfl, n, x, p, rfl, num, xo, by omega, by omega, fun t H' s' e => ⟨t, s', e, rfl⟩⟩, ?_⟩
   rintro σ' H1 ⟨t, s1, et, rfl⟩
   have num1 := num.same s1
   have hc1 := hc.same s1
   obtain ⟨dn, en⟩ := id num1
   unfold A2h at k
   have eu : upW v x p = upI v.y x.s (whI x.f 1 (x.p - p)) (ptI x.f 1 (x.p - p)) := rfl
   refine ⟨fun σ' H' => ∃ k, Same H H' /\ H k = none /\ H' t = some (.tup [.int (whI x.f 1 (x.p - p)), .int (ptI x.f 1 (x.p - p))]) /\ NumIs CN H' k ⟨.plain, x.s, upW v x p, p⟩ /\ σ' = [some (.ref c), some (.ref n), some (.int p), some (.ref t), some (.ref k)], ?_, ?_⟩
   . refine ⟨_, rfl, n, CN, dn, _, _, rfl, en, N.cl, N.n2, V8v _ _ _ _, _, rfl, _, rfl, n, CN, dn, _, _, rfl, en, N.cl, N.n2, V8v _ _ _ _, _, rfl, c, v, a, b, xs, ys, t, x.s, _, _, rfl, hc1, et, fun H2 s2 => ⟨_, rfl, ?_⟩⟩
     exact Y4n (Q := fun u H' => ∃ k, Same H H' /\ H k = none /\ H' t = some (.tup [.int (whI x.f 1 (x.p - p)), .int (ptI x.f 1 (x.p - p))]) /\ NumIs CN H' k ⟨.plain, x.s, upW v x p, p⟩ /\ [some (V.ref c), some (.ref n), some (.int p), some (.ref t), some u] = [some (.ref c), some (.ref n), some (.int p), some (.ref t), some (.ref k)]) fun k' H3 nn s3 nk => ⟨k', s1.trans (s2.trans s3), (s1.trans s2).free nn, (s2.trans s3) _ _ et, nk, rfl⟩
   rintro σ' H2 ⟨nk, s2, nn, et2, numk, rfl⟩
   have hc2 := hc.same s2
   have num2' := num.same s2
   rw [<- eu] at ub
   generalize upW v x p = W at *
   have W4 : W <= D5 400 := by omega
   have kV : W >= D5 v.r \/ V9 v.m W p = true -> Ends2 CN CC CT H c v b xs ys (noneN, ["void"]) Q E := fun h => by
     by_cases h1 : W >= D5 v.r
     . rw [if_pos h1] at k
       exact k
     . rw [if_neg h1, if_pos (h.resolve_left h1)] at k
       exact k
   have kO : W < D5 v.r -> V9 v.m W p = false -> Ends2 CN CC CT H c v b xs ys (if x.f = 0 then (⟨.plain, x.s, W, p⟩, []) else (⟨.plain, x.s, W, p⟩, A2f v W p (ptI x.f 1 (x.p - p)) (decide (p > x.p)))) Q E := fun h1 h2 => by
     rw [if_neg (by omega), if_neg (by rw [h2]; exact Bool.false_ne_true)] at k
     exact k
   clear k
   obtain ⟨dk, ek⟩ := id numk
   obtain ⟨dx, ec⟩ := hc2.ins
   obtain ⟨dn2, en2⟩ := id num2'
   have nkc : nk ≠ c := by
     obtain ⟨dx0, ec0⟩ := hc.ins
     exact Ne.symm (C5 ec0 nn)
   have t24 := G9t r2
   have small : W < D5 v.r -> W.natAbs < 2 ^ 300 := fun h => Nat.lt_of_lt_of_le (by omega : W.natAbs < 10 ^ 24) (by decide +kernel)
   refine ⟨fun σ' H' => H' = H2 /\ W < D5 v.r /\ V9 v.m W p = false /\ σ' = [some (.ref c), some (.ref n), some (.int p), some (.ref t), some (.ref nk)], ?_, ?_⟩
   . refine ⟨_, rfl, nk, CN, dk, _, _, rfl, ek, N.cl, N.n3, D4f _ _ _ _, _, rfl, c, CC, dx, _, _, rfl, ec, C.c.cl, C.c.n_room, D4w _ _ _ _ _ _, v.r.toNat, (by rw [Int.toNat_of_nonneg (by omega)]; rfl), by omega, _, _, rfl, rfl, _, rfl, G6 (fun h => V5 ?_) (fun h => ?_)⟩
     . have h : W >= D5 v.r := h
       exact ⟨_, rfl, c, v, a, b, xs, ys, rfl, hc2, lx, (kV (.inl h)).same s2⟩
     . have h : ¬ W >= D5 v.r := h
       refine ⟨_, rfl, _, rfl, c, v, a, b, xs, ys, nk, ⟨.plain, x.s, W, p⟩, rfl, hc2, numk, small (by omega), _, rfl, ?_⟩
       cases hb : V9 v.m W p with
       | true => exact V5 ⟨_, rfl, c, v, a, b, xs, ys, rfl, hc2, lx, (kV (.inr hb)).same s2⟩
       | false => exact U4 ⟨rfl, by omega, rfl, rfl⟩
   rintro σ' H3 ⟨rfl, hW, hB, rfl⟩
   have kO := kO hW hB
   refine ⟨fun σ' H' => ((x.f = 0 /\ H' = H3) \/ (x.f ≠ 0 /\ hit ys (A2f v W p (ptI x.f 1 (x.p - p)) (decide (p > x.p))) = none /\ ∃ a', Exc c H H' /\ CtxV CC H' c v a' b (U7 (xs ++ A2f v W p (ptI x.f 1 (x.p - p)) (decide (p > x.p)))) ys /\ NumIs CN H' nk ⟨.plain, x.s, W, p⟩)) /\ σ' = [some (.ref c), some (.ref n), some (.int p), some (.ref t), some (.ref nk)], ?_, ?_⟩
   . refine ⟨_, rfl, n, CN, dn2, _, _, rfl, en2, N.cl, N.n3, D4f _ _ _ _, rfl, _, rfl, ?_⟩
     by_cases hf : x.f = 0
     . exact C6d (congrArg V.int hf) ⟨.inl ⟨hf, rfl⟩, rfl⟩
     . rw [if_neg hf] at kO
       refine J0k (fun z => hf (V.int.inj z)) ?_
       refine ⟨_, rfl, c, dx, _, rfl, ec, A3a _ _ _ _ _ _, _, rfl, _, rfl, _, rfl, t, _, _, _, rfl, rfl, SqT.of et2, G7 (j := 1) rfl, _, rfl, _, rfl, n, CN, dn2, _, _, rfl, en2, N.cl, N.n4, G0a _ _ _ _, _, _, rfl, rfl, c, v, a, b, xs, ys, nk, ⟨.plain, x.s, W, p⟩, _, _, rfl, hc2, numk, small hW, fun l H4 s4 el => ?_⟩
       refine ⟨c, v.r, v.y, v.l, v.m, a, b, xs, ys, _, rfl, hc2.same s4, by omega, .inl ⟨l, A2f v W p (ptI x.f 1 (x.p - p)) (decide (p > x.p)), rfl, el, Nat.le_trans J6v (by decide), J7x, fun hn a' H5 x5 na ct => ?_, fun z hz a' d H5 x5 na ct nd ed => ?_⟩⟩
       . obtain ⟨dk', ek'⟩ := numk.same s4
         exact ⟨.inr ⟨hf, hn, a', (Exc.of (s2.trans s4)).trans x5, ct, ⟨dk', x5 _ _ ek' nkc⟩⟩, rfl⟩
       . exact kO.2 z hz a' d H5 ((Exc.of (s2.trans s4)).trans x5) ct ed
   rintro σ' H4 ⟨h, rfl⟩
   rcases h with ⟨hf, rfl⟩ | ⟨hf, hn, a', x4, ct, nm4⟩
   . rw [if_pos hf] at kO
     exact ⟨_, rfl, kO.calm ox s2 hc numk⟩
   . rw [if_neg hf] at kO
     exact ⟨_, rfl, kO.1 hn nk a' H4 x4 ct nm4⟩
def J6k (CN CC CT : Addr) : Sp := fun vs H Q E => ∃ c v a b xs ys n1 n2 x1 x2 L, vs = [.ref c, .ref n1, .ref n2] /\ CtxV CC H c v a b xs ys /\ v.Ok /\ xs.length <= 900 /\ U7 xs = xs /\ Two CN H n1 n2 x1 x2 /\ x1.Ok /\ x2.Ok /\ Pre x1 x2 L /\ Ends2 CN CC CT H c v b xs ys (A1a v x1 x2 L) Q E
theorem V9p : FnScope ["context", "one", "other"] ["context", "one", "other"] (A3 Y5) := scK
theorem J7a {n1 n2 : Addr} {x1 x2 : Nm} : ([(n1, x1), (n2, x2)].any fun p => decide (p.2.k.str = ("none" : Str))) = decide (x1.k = .none \/ x2.k = .none) := by
 have q : ∀ k : Kd, decide (k.str = ("none" : Str)) = decide (k = .none) := fun k => by cases k <;> decide +kernel
 simp [q]
theorem V3c {n1 n2 : Addr} {x1 x2 : Nm} : ([(n1, x1), (n2, x2)].any fun p => decide (p.2.k.str = ("end" : Str))) = decide (x1.k = .end_ \/ x2.k = .end_) := by
 have q : ∀ k : Kd, decide (k.str = ("end" : Str)) = decide (k = .end_) := fun k => by cases k <;> decide +kernel
 simp [q]
theorem kd_str {a b : Kd} : V.str a.str = V.str b.str ↔ a = b := ⟨fun h => by cases a <;> cases b <;> first | rfl | (exfalso; revert h; decide +kernel), fun h => by rw [h]⟩
theorem C8j {f f1 f2 f3 f4 f5 CN CC CB CB' CT CW : Addr} {cw : Wy -> Addr} {fd fd1 fd2 fd3 fd4 fd5 : FuncData} (D : Def K mg "same_power" ["context", "one", "other"] Y5 f fd) (D_need_numbers : Def K mg "need_numbers" ["things"] A4q f1 fd1) (G_need_numbers : FnOk P w K mg base (CX1 P w) 2 f1 fd1 ["things"] (D5r K CN CB'))
   (D_some_of_kind : Def K mg "some_of_kind" ["numbers", "kind"] B0y f2 fd2) (G_some_of_kind : FnOk P w K mg base (CX1 P w) 1 f2 fd2 ["numbers", "kind"] (J0e CN)) (D_nothing : Def K mg "nothing" [] Z2 f3 fd3) (G_nothing : FnOk P w K mg base (CX1 P w) 3 f3 fd3 [] (A9p CN))
   (D_void : Def K mg "void" ["context"] B7e f4 fd4) (G_void : FnOk P w K mg base (CX1 P w) 4 f4 fd4 ["context"] (D8k CN CC CT)) (D_moved : Def K mg "moved" ["context", "one", "power"] B0x f5 fd5) (G_moved : FnOk P w K mg base (CX1 P w) 5 f5 fd5 ["context", "one", "power"] (G9x CN CC CT)) (C : CtxM P w K mg base CC CB CT CW cw) (N : Num K mg CN) :
   FnOk P w K mg base (CX1 P w) 6 f fd ["context", "one", "other"] (J6k CN CC CT) := by
 refine D.F.okE V9p (fun vs H Q E h => ?_) (fun X cdv A outer s H vs Q E hX hr hx h => ?_)
 . obtain ⟨c, v, a, b, xs, ys, n1, n2, x1, x2, L, rfl, _⟩ := h
   rfl
 . subst hX
   obtain ⟨c, v, a, b, xs, ys, n1, n2, x1, x2, L, rfl, hc, ok, lx, ox, tw, o1, o2, _, k⟩ := h
   obtain ⟨fL, fdL, mL, gL, bL⟩ := C.low
   refine ⟨_, (A7 (Y1 (C8 D_need_numbers G_need_numbers hr hx (A0 (J0 (A0 (pv 1) (A0 (pv 2) A8))) A8)))
     (A7 (D9 (Y6 (C8 D_some_of_kind G_some_of_kind hr hx (A0 (J0 (A0 (pv 1) (A0 (pv 2) A8))) (A0 B0 A8)))) (A9 (B8 (G0k D_nothing G_nothing hr hx))) C6)
     (A7 (D9 (Y6 (C8 D_some_of_kind G_some_of_kind hr hx (A0 (J0 (A0 (pv 1) (A0 (pv 2) A8))) (A0 B0 A8)))) (A9 (B8 (A2a (C4 D6 (G4 (pv 1) rfl) (G4 (pv 2) rfl) (B9 _)) (pv 1) (C8 D_void G_void hr hx (A0 (pv 0) A8))))) C6)
     (A7 (D9 (PW.pt (A7k (C4 D4u (G4 (pv 2) rfl) (B9q (pv 0) C.c.cl mL gL hr bL .nil hx) (B9 _)) (A3c (C4 A3k (G4 (pv 2) rfl) (G4 (pv 0) rfl) (B9 _))))) (A9 (B8 (C8 D_void G_void hr hx (A0 (pv 0) A8)))) C6)
     (A9 (B8 (C8 D_moved G_moved hr hx (A0 (pv 0) (A0 (pv 1) (A0 (G4 (pv 2) rfl) A8)))))))))), ?_⟩
   have z2 : 2 <= sizeLine := C7 (by decide)
   unfold A1a at k
   refine ⟨_, rfl, _, rfl, z2, fun l nl => ?_⟩
   have u := Same.upd (o := .lst [.ref n1, .ref n2]) nl
   refine ⟨l, [(n1, x1), (n2, x2)], rfl, (B8v (tw.same u) A6).n, .inl ⟨A6, ?_⟩⟩
   refine ⟨_, rfl, _, rfl, z2, fun l2 nl2 => ?_⟩
   have u2 := u.trans (Same.upd (o := .lst [.ref n1, .ref n2]) nl2)
   refine ⟨l2, _, _, rfl, B8v (tw.same u2) A6, (by show 2 <= 1000; decide), fun H3 s3 => ⟨_, rfl, ?_⟩⟩
   rw [J7a]
   have sm3 := u2.trans s3
   refine G6 (fun hn => ?_) (fun hn => ?_)
   . rw [if_pos hn] at k
     exact ⟨rfl, fun n H' nn s' num => k.calm ox (sm3.trans s') hc num⟩
   rw [if_neg hn] at k
   refine ⟨_, rfl, _, rfl, z2, fun l3 nl3 => ?_⟩
   have u4 := sm3.trans (Same.upd (o := .lst [.ref n1, .ref n2]) nl3)
   refine ⟨l3, _, _, rfl, B8v (tw.same u4) A6, (by show 2 <= 1000; decide), fun H5 s5 => ⟨_, rfl, ?_⟩⟩
   rw [V3c]
   have sm5 := u4.trans s5
   have tw5 := tw.same sm5
   have hc5 := hc.same sm5
   obtain ⟨⟨d1, e1⟩, ⟨d2, e2⟩⟩ := id tw5
   refine G6 (fun he => ?_) (fun he => ?_)
   . rw [if_pos he] at k
     refine ⟨_, rfl, n1, CN, d1, _, _, rfl, e1, N.cl, N.n1, num1 _ _ _ _, _, rfl, n2, CN, d2, _, _, rfl, e2, N.cl, N.n1, num1 _ _ _ _, rfl, _, rfl, G6 (fun h => ?_) (fun h => ?_)⟩
     . rw [if_pos (kd_str.mp h)] at k
       exact ⟨_, rfl, k.calm ox sm5 hc tw5.1⟩
     . rw [if_neg fun z => h (kd_str.mpr z)] at k
       exact ⟨_, rfl, c, v, a, b, xs, ys, rfl, hc5, lx, k.same sm5⟩
   rw [if_neg he] at k
   obtain ⟨dx, ec⟩ := hc5.ins
   refine ⟨_, rfl, n2, CN, d2, _, _, rfl, e2, N.cl, N.n4, G0a _ _ _ _, _, rfl, c, dx, _, rfl, ec, C1v _ _ _ _ _ _, c, v.r, v.y, v.l, v.m, a, b, _, _, rfl, hc5, _, _, rfl, rfl, _, rfl, G6 (fun h => V5 ?_) (fun h => ?_)⟩
   . have h : x2.p < v.l - v.r + 1 := h
     rw [if_pos h] at k
     exact ⟨_, rfl, c, v, a, b, xs, ys, rfl, hc5, lx, k.same sm5⟩
   . have h : ¬ x2.p < v.l - v.r + 1 := h
     rw [if_neg h] at k
     refine ⟨_, rfl, n2, CN, d2, _, _, rfl, e2, N.cl, N.n4, G0a _ _ _ _, _, rfl, c, CC, dx, _, _, rfl, ec, C.c.cl, C.c.n_most, D4p _ _ _ _ _ _, _, _, rfl, rfl, _, rfl, G6 (fun h2 => ?_) (fun h2 => ?_)⟩
     . have h2 : x2.p > v.m := h2
       rw [if_pos h2] at k
       exact ⟨_, rfl, c, v, a, b, xs, ys, rfl, hc5, lx, k.same sm5⟩
     . have h2 : ¬ x2.p > v.m := h2
       rw [if_neg h2] at k
       exact ⟨_, rfl, _, rfl, _, rfl, n2, CN, d2, _, _, rfl, e2, N.cl, N.n4, G0a _ _ _ _, c, v, a, b, xs, ys, n1, x1, x2.p, rfl, hc5, ok, lx, ox, tw5.1, o1, by omega, by omega, k.same sm5⟩
end
abbrev G0j : Stmt := (top 65)
abbrev B8t : Stmt := (top 66)
theorem V4p {a b : Kd} : inV (.str "none") [.str a.str, .str b.str] = decide (a = .none \/ b = .none) := by cases a <;> cases b <;> decide +kernel
theorem V8t {a b : Kd} : inV (.str "end") [.str a.str, .str b.str] = decide (a = .end_ \/ b = .end_) := by cases a <;> cases b <;> decide +kernel
theorem A2n (x : Nm) (j : Nat) (hj : j < 4) : atI x.vs (j : Int) = some (x.vs.getD j .non) := G7 (j := j) (by
 rcases (by omega : j = 0 \/ j = 1 \/ j = 2 \/ j = 3) with rfl | rfl | rfl | rfl <;> rfl)
theorem Y4a {f s : Int} : whI f 1 s = f * D5 s / D5 (-s) /\ ptI f 1 s = V3 (f * D5 s % D5 (-s)) (D5 (-s)) := by
 have w : whI f 1 s = f * D5 s / D5 (-s) := by unfold whI; rw [Int.one_mul]
 refine ⟨w, ?_⟩
 unfold ptI
 rw [w, Int.one_mul]
 congr 1
 rw [Int.emod_def, Int.mul_comm (D5 (-s))]
theorem J5m {W r : Int} (h0 : 0 <= W) (hr : 1 <= r) : A2m W > r ↔ W >= D5 r := by
 have tp := A0s r
 by_cases z : W = 0
 . subst z
   have : A2m 0 = 1 := by decide +kernel
   constructor
   . intro h; omega
   . intro h; omega
 . obtain ⟨n, rfl⟩ : ∃ n : Nat, W = (n : Int) := ⟨W.toNat, by omega⟩
   obtain ⟨j, h1, h2⟩ := V2t n (by omega)
   rw [V2d h2 h1]
   obtain ⟨k, rfl⟩ : ∃ k : Nat, r = (k : Int) := ⟨r.toNat, by omega⟩
   have e : D5 (k : Int) = ((10 ^ k : Nat) : Int) := by unfold D5; rw [Int.toNat_natCast]
   rw [e]
   constructor
   . intro h
     exact Int.ofNat_le.mpr (Nat.le_trans (Nat.pow_le_pow_right (by decide) (by omega)) h1)
   . intro h
     have h3 : 10 ^ k <= n := Int.ofNat_le.mp h
     have : 10 ^ k < 10 ^ (j + 1) := Nat.lt_of_le_of_lt h3 h2
     have := (Nat.pow_lt_pow_iff_right (by decide : 1 < 10)).mp this
     omega
theorem J8k {v : Cv} {W p pt : Int} {cut : Bool} (W0 : 0 <= W) (z : Str) : z ∈ A6z "off" (!decide (pt = 0)) ++ A6z "cut" (!decide (pt = 0) || cut) ++ (if W > 0 /\ p + A2m W - 1 < v.l then (["faint"] : List Str) ++ A6z "sunk" (!decide (pt = 0)) else []) ↔ z ∈ A2f v W p pt cut := by
 unfold A2f A2w A7n A6z
 by_cases hw : W = 0
 . have h1 : ¬ (W > 0 /\ p + A2m W - 1 < v.l) := fun q => by have := q.1; omega
   rw [if_neg h1]
   by_cases hp : pt = 0 <;> cases cut <;> simp [hp, hw]
 . by_cases hl : p + A2m W - 1 < v.l
   . have h1 : W > 0 /\ p + A2m W - 1 < v.l := ⟨by omega, hl⟩
     have h2 : ¬ p + A2m W - 1 >= v.l := by omega
     rw [if_pos h1, if_neg h2]
     by_cases hp : pt = 0 <;> cases cut <;> simp [hp, hw, or_comm, or_left_comm]
   . have h1 : ¬ (W > 0 /\ p + A2m W - 1 < v.l) := fun q => hl q.2
     have h2 : p + A2m W - 1 >= v.l := by omega
     rw [if_neg h1, if_pos h2]
     by_cases hp : pt = 0 <;> cases cut <;> simp [hp, hw]
theorem V3v (v : Cv) (x : Nm) (p : Int) (h : x.f = 0) : upW v x p = 0 := by
 unfold upW
 rw [h, (A2v _).1, (A2v _).2]
 rfl
section
variable {P : Program} {w : World} {K : Frag} {mg : Str -> Option Value} {base : Heap}
def V7b : Sp := fun vs H Q _ => ∃ d u t r y l m up tr q x, ∃ wd : Int, vs = [.ref d, .ref q, .int wd] /\ OwnAt H d u t r y l m up tr /\ FrameOk r l m /\ H q = some (.tup (Nm.vs x)) /\ x.Wf /\ -300 <= x.p - wd /\ x.p - wd <= 300 /\
 ∀ p H', Same H H' -> H' p = some (.tup [.int (upW ⟨r, y, l, m⟩ x wd), .bl (!decide (ptI x.f 1 (x.p - wd) = 0))]) -> Q (.ref p) H'
theorem scLAt : FnScope ["_law_own_here", "_law_one", "_law_wide", "_law_top", "_law_bottom", "_law_whole", "_law_left"] ["_law_own_here", "_law_one", "_law_wide"] (A3 G0j) := scK
theorem V9s {f f1 f2 : Addr} {fd fd1 fd2 : FuncData} (D : Def K mg "_law_at" ["_law_own_here", "_law_one", "_law_wide"] G0j f fd) (D_l_ten : Def K mg "_law_ten" ["_law_count"] B7k f1 fd1) (G_l_ten : FnOk P w K mg base (CX1 P w) 1 f1 fd1 ["_law_count"] G0p) (D_l_goes_up : Def K mg "_law_goes_up" ["_law_way", "_law_sign", "_law_last", "_law_left", "_law_bottom"] B0q f2 fd2) (G_l_goes_up : FnOk P w K mg base (CX1 P w) 1 f2 fd2 ["_law_way", "_law_sign", "_law_last", "_law_left", "_law_bottom"] G8y) (O : Own mg) :
   FnOk P w K mg base (CX1 P w) 2 f fd ["_law_own_here", "_law_one", "_law_wide"] V7b := by
 refine D.F.okE scLAt (fun vs H Q E h => ?_) (fun X cdv A outer s H vs Q E hX hr hx h => ?_)
 . obtain ⟨d, u, t, r, y, l, m, up, tr, q, x, wd, rfl, _⟩ := h
   rfl
 . subst hX
   obtain ⟨d, u, t, r, y, l, m, up, tr, q, x, wd, rfl, ow, fr, eq, wf, s0, s1, k⟩ := h
   have HU := Nat.lt_of_le_of_lt (Nat.add_le_add_left (by decide : 1 <= 64) _) hr.units
   refine ⟨_, (A7 (B7 (C9 (i := 3) scLAt.nd rfl (Or.inl rfl) (B3 V1 (D7 D4 (pv 1) A1 (fun _ _ => rfl)) (C8 D_l_ten G_l_ten hr hx (A0 (V0 (A3p rfl) (by rfl) O.max_ boot_max (A0 A1 (A0 (B3 V4 (D7 D4 (pv 1) A1 (fun _ _ => rfl)) (pv 2)) A8))) A8)))))
     (A7 (B7 (C9 (i := 4) scLAt.nd rfl (Or.inl rfl) (C8 D_l_ten G_l_ten hr hx (A0 (V0 (A3p rfl) (by rfl) O.max_ boot_max (A0 A1 (A0 (B3 V4 (pv 2) (D7 D4 (pv 1) A1 (fun _ _ => rfl))) A8))) A8))))
     (A7 (B7 (D8t (V0 C7s (by rfl) O.divmod_ PyProof.Rows.boot_divmod (A0 (pv 3) (A0 (pv 4) A8))) (D9v rfl (A3n (U8 (i := 5) scLAt.nd rfl (Or.inl rfl)) (A3n (U8 (i := 6) scLAt.nd rfl (Or.inl rfl)) C7j)))))
     (A7 (B7 (D9 (PW.pt (A2c (C4 A3k (pv 6) A1 (B9 _)) (A0z (Y6 (C8 D_l_goes_up G_l_goes_up hr hx (A0 (U2 HU (pv 0) B0 (fun _ _ => rfl)) (A0 (D7 D4 (pv 1) A1 (fun _ _ => rfl)) (A0 (B3 D3 (pv 5) A1) (A0 (pv 6) (A0 (pv 4) A8)))))))))) (A9 (B7 (C9 (i := 5) scLAt.nd rfl (Or.inl rfl) (B3 V2 (pv 5) A1)))) C6))
     (A9 (B8 (G8 (A0 (pv 5) (A0 (G0 A3k (pv 6) A1 (B9 _)) A8))))))))), ?_⟩
   have z2 : 2 <= sizeLine := C7 (by decide)
   have ix := A2n x
   have f0 := wf.ok.f0; have f1 := wf.ok.f1
   have c1 := (mx (x.p - wd)).2 (by omega)
   have c1' := (mx (x.p - wd)).1
   have c2 := (mx (wd - x.p)).2 (by omega)
   have c2' := (mx (wd - x.p)).1
   have mul : IntMulOk x.f (D5 (C1s 0 (x.p - wd))) := by
     by_cases z : x.f = 0
     . rw [z]; exact CMul.ok (.inl ⟨by decide, by decide⟩)
     . exact D9u (J6y f0 z f1) (by omega)
   unfold upW at k
   obtain ⟨ew, ept⟩ := Y4a (f := x.f) (s := x.p - wd)
   rw [ew, ept] at k
   refine ⟨fun σ' H' => H' = H /\ σ' = [some (.ref d), some (.ref q), some (.int wd), some (.int (x.f * D5 (x.p - wd))), none, none, none], ?_, ?_⟩
   . refine ⟨_, rfl, q, _, _, _, rfl, rfl, SqT.of eq, ix 2 (by decide), _, rfl, q, _, _, _, rfl, rfl, SqT.of eq, ix 3 (by decide), _, rfl, _, _, rfl, rfl, _, _, rfl, _, tn (e := C1s 0 (x.p - wd)) c1', by omega, _, _, rfl, rfl, mul, rfl, ?_⟩
     show [some (V.ref d), some (.ref q), some (.int wd), some (.int (x.f * D5 (C1s 0 (x.p - wd)))), none, none, none] = _
     rw [D4n]
   rintro σ' H1 ⟨rfl, rfl⟩
   refine ⟨fun σ' H' => H' = H1 /\ σ' = [some (.ref d), some (.ref q), some (.int wd), some (.int (x.f * D5 (x.p - wd))), some (.int (D5 (-(x.p - wd)))), none, none], ?_, ?_⟩
   . refine ⟨_, rfl, _, rfl, q, _, _, _, rfl, rfl, SqT.of eq, ix 3 (by decide), _, _, rfl, rfl, _, _, rfl, _, tn (e := C1s 0 (wd - x.p)) c2', by omega, rfl, ?_⟩
     show [some (V.ref d), some (.ref q), some (.int wd), some (.int (x.f * D5 (x.p - wd))), some (.int (D5 (C1s 0 (wd - x.p)))), none, none] = _
     rw [D4n, show -(x.p - wd) = wd - x.p by omega]
   rintro σ' H2 ⟨rfl, rfl⟩
   have bp := A0s (-(x.p - wd))
   have bl : (D5 (-(x.p - wd))).natAbs.log2 < 9000 := by
     have := J8p J8h (s := -(x.p - wd)) (by omega)
     rwa [Int.one_mul] at this
   generalize x.f * D5 (x.p - wd) = A' at *
   generalize D5 (-(x.p - wd)) = B at *
   refine ⟨fun σ' H' => Same H2 H' /\ σ' = [some (.ref d), some (.ref q), some (.int wd), some (.int A'), some (.int B), some (.int (A' / B)), some (.int (A' % B))], ?_, ?_⟩
   . refine ⟨_, rfl, _, rfl, _, _, rfl, ⟨bp, bl⟩, fun p np => ?_⟩
     exact ⟨p, _, rfl, SqT.of A6, rfl, _, _, rfl, _, _, rfl, rfl, Same.upd np, rfl⟩
   rintro σ' H3 ⟨s3, rfl⟩
   have ow3 := ow.same s3
   have eq3 := s3 _ _ eq
   refine ⟨fun σ' H' => Same H2 H' /\ σ' = [some (.ref d), some (.ref q), some (.int wd), some (.int A'), some (.int B), some (.int (upI y x.s (A' / B) (V3 (A' % B) B))), some (.int (A' % B))], ?_, ?_⟩
   . refine ⟨_, rfl, _, _, rfl, rfl, _, rfl, G6 (fun hl => ?_) (fun hl => U4 ⟨s3, ?_⟩)⟩
     . have hl : 0 < A' % B := hl
       have hpt := D5d hl bp
       refine ⟨_, rfl, d, _, rfl, ow3.gWay, _, rfl, q, _, _, _, rfl, rfl, SqT.of eq3, ix 1 (by decide), _, rfl, _, _, rfl, rfl, (by decide : (0 : Int) < 10), _, rfl, _, rfl, y, x.s, A' / B % 10, A' % B, B, rfl, Int.emod_nonneg _ (by decide), by have := Int.emod_lt_of_pos (A' / B) (by decide : (0 : Int) < 10); omega, hl, fun H4 s4 => ⟨_, rfl, ?_⟩⟩
       have eu : upI y x.s (A' / B) (V3 (A' % B) B) = if y.goes x.s (A' / B % 10) (V3 (A' % B) B) = true then A' / B + 1 else A' / B := by
         unfold upI
         rw [if_neg hpt]
       rw [eu]
       cases y.goes x.s (A' / B % 10) (V3 (A' % B) B) with
       | true =>
         refine V5 ⟨_, ?_, fun _ _ h => h⟩
         exact ⟨_, rfl, _, _, rfl, rfl, s3.trans s4, rfl⟩
       | false => exact U4 ⟨s3.trans s4, rfl⟩
     . have hl : A' % B = 0 := by
         have : ¬ A' % B > 0 := hl
         have := Int.emod_nonneg A' (Int.ne_of_gt bp)
         omega
       have : upI y x.s (A' / B) (V3 (A' % B) B) = A' / B := by
         unfold upI
         rw [if_pos (G0n hl bp), if_neg Bool.false_ne_true]
       rw [this]
   rintro σ' H4 ⟨s4, rfl⟩
   refine ⟨_, rfl, _, rfl, _, _, rfl, rfl, z2, fun p np => k p _ (s4.trans (Same.upd np)) ?_⟩
   have : decide (A' % B > 0) = !decide (V3 (A' % B) B = 0) := by
     by_cases h : A' % B > 0
     . rw [decide_eq_true h, decide_eq_false (D5d h bp)]; rfl
     . have hl : A' % B = 0 := by
         have := Int.emod_nonneg A' (Int.ne_of_gt bp)
         omega
       rw [decide_eq_false h, decide_eq_true (G0n hl bp)]; rfl
   rw [<- this]
   exact A6
end
abbrev B0s : Stmt := (top 67)
theorem V3z {v : Cv} {x1 x2 : Nm} {L : Int} (hn : ¬ (x1.k = .none \/ x2.k = .none)) (h1 : x1.k = .end_) (h2 : x2.k = .end_) : A1a v x1 x2 L = (x1, []) := by
 unfold A1a
 rw [if_neg hn, if_pos (.inl h1), if_pos (h1.trans h2.symm)]
theorem J5z {v : Cv} {x1 x2 : Nm} {L : Int} (hn : ¬ (x1.k = .none \/ x2.k = .none)) (h : x1.k = .end_ \/ x2.k = .end_) (h2 : ¬ (x1.k = .end_ /\ x2.k = .end_)) : A1a v x1 x2 L = ((noneN, (["void"] : List Str)) : Nm × List Str) := by
 unfold A1a
 rw [if_neg hn, if_pos h, if_neg]
 intro z
 rcases h with h | h
 . exact h2 ⟨h, z ▸ h⟩
 . exact h2 ⟨z.trans h, h⟩
theorem J0j {v : Cv} {x1 x2 : Nm} {L : Int} (hn : ¬ (x1.k = .none \/ x2.k = .none)) (he : ¬ (x1.k = .end_ \/ x2.k = .end_)) (h : x2.p < v.l - v.r + 1 \/ x2.p > v.m) : A1a v x1 x2 L = ((noneN, (["void"] : List Str)) : Nm × List Str) := by
 unfold A1a
 rw [if_neg hn, if_neg he]
 by_cases h1 : x2.p < v.l - v.r + 1
 . rw [if_pos h1]
 . rw [if_neg h1, if_pos (h.resolve_left h1)]
theorem J2k {v : Cv} {x1 x2 : Nm} {L : Int} (hn : ¬ (x1.k = .none \/ x2.k = .none)) (he : ¬ (x1.k = .end_ \/ x2.k = .end_)) (h1 : ¬ x2.p < v.l - v.r + 1) (h2 : ¬ x2.p > v.m) : A1a v x1 x2 L = A2h v x1 x2.p := by
 unfold A1a
 rw [if_neg hn, if_neg he, if_neg h1, if_neg h2]
section
variable {P : Program} {w : World} {K : Frag} {mg : Str -> Option Value} {base : Heap}
def J6m : Sp := fun vs H Q _ => ∃ d u t r y l m up tr q1 q2 x1 x2, ∃ L : Int, vs = [.ref d, .ref q1, .ref q2] /\ OwnAt H d u t r y l m up tr /\ FrameOk r l m /\ H q1 = some (.tup (Nm.vs x1)) /\ H q2 = some (.tup (Nm.vs x2)) /\ x1.Wf /\ x2.Wf /\
 Pre x1 x2 L /\ ∀ q zs H', Same H H' -> V6y H' q (A1a ⟨r, y, l, m⟩ x1 x2 L).1 zs -> zs.length <= 10 -> (∀ z, z ∈ zs ↔ z ∈ (A1a ⟨r, y, l, m⟩ x1 x2 L).2) -> Q (.ref q) H'
theorem scLDue : FnScope ["_law_own_here", "_law_one", "_law_other", "_law_wide", "_law_whole", "_law_is_off", "_law_begin", "_law_signals"] ["_law_own_here", "_law_one", "_law_other"] (A3 B8t) := scK
theorem V1n {f f1 : Addr} {fd fd1 : FuncData} (D : Def K mg "_law_due" ["_law_own_here", "_law_one", "_law_other"] B8t f fd) (D_l_at : Def K mg "_law_at" ["_law_own_here", "_law_one", "_law_wide"] G0j f1 fd1) (G_l_at : FnOk P w K mg base (CX1 P w) 2 f1 fd1 ["_law_own_here", "_law_one", "_law_wide"] V7b) (O : Own mg) : FnOk P w K mg base (CX1 P w) 3 f fd ["_law_own_here", "_law_one", "_law_other"] J6m := by
 refine D.F.okE scLDue (fun vs H Q E h => ?_) (fun X cdv A outer s H vs Q E hX hr hx h => ?_)
 . obtain ⟨d, u, t, r, y, l, m, up, tr, q1, q2, x1, x2, L, rfl, _⟩ := h
   rfl
 . subst hX
   obtain ⟨d, u, t, r, y, l, m, up, tr, q1, q2, x1, x2, L, rfl, ow, fr, e1, e2, w1, w2, _, k⟩ := h
   have HU := Nat.lt_of_le_of_lt (Nat.add_le_add_left (by decide : 1 <= 64) _) hr.units
   refine ⟨_, (A7 (B7 (C9 (i := 3) scLDue.nd rfl (Or.inl rfl) (D7 D4 (pv 2) A1 (fun _ _ => rfl))))
     (A7 (B7 (D9 (C4 A1r B0 (G8 (A0 (D7 D4 (pv 1) A1 (fun _ _ => rfl)) (A0 (D7 D4 (pv 2) A1 (fun _ _ => rfl)) A8))) (by rfl)) (A9 (B8 (G8 (A0 (G8 (A0 B0 (A0 A1 (A0 A1 (A0 A1 A8))))) (A0 (J0 A8) A8))))) C6))
     (A7 (B7 (D9 (PW.pt (A2c (C4 D6 (D7 D4 (pv 1) A1 (fun _ _ => rfl)) B0 (B9 _)) (A0z (C4 D6 (D7 D4 (pv 2) A1 (fun _ _ => rfl)) B0 (B9 _))))) (A9 (B8 (G8 (A0 (pv 1) (A0 (J0 A8) A8))))) C6))
     (A7 (B7 (D9 (PW.pt (A7k (C4 A1r B0 (G8 (A0 (D7 D4 (pv 1) A1 (fun _ _ => rfl)) (A0 (D7 D4 (pv 2) A1 (fun _ _ => rfl)) A8))) (by rfl)) (A7k (C4 D4u (pv 3) (U2 HU (pv 0) B0 (fun _ _ => rfl)) (B9 _)) (A3c (C4 A3k (pv 3) (U2 HU (pv 0) B0 (fun _ _ => rfl)) (B9 _)))))) (A9 (B8 (G8 (A0 (G8 (A0 B0 (A0 A1 (A0 A1 (A0 A1 A8))))) (A0 (J0 (A0 B0 A8)) A8))))) C6))
     (A7 (B7 (D9 (C4 D6 (D7 D4 (pv 1) A1 (fun _ _ => rfl)) A1 (B9 _)) (A9 (B8 (G8 (A0 (G8 (A0 B0 (A0 (D7 D4 (pv 1) A1 (fun _ _ => rfl)) (A0 A1 (A0 (pv 3) A8))))) (A0 (J0 A8) A8))))) C6))
     (A7 (B7 (D8t (C8 D_l_at G_l_at hr hx (A0 (pv 0) (A0 (pv 1) (A0 (pv 3) A8)))) (D9v rfl (A3n (U8 (i := 4) scLDue.nd rfl (Or.inl rfl)) (A3n (U8 (i := 5) scLDue.nd rfl (Or.inl rfl)) C7j)))))
     (A7 (B7 (C9 (i := 6) scLDue.nd rfl (Or.inl rfl) (B3 V4 (B3 V2 (pv 3) (V0 A1d (by rfl) O.len_ PySem.boot_len (A0 (U5 A1c (by rfl) O.str_ boot_str (A0 (pv 4) A8)) A8))) A1)))
     (A7 (B7 (D9 (PW.pt (A7k (C4 A3k (V0 A1d (by rfl) O.len_ PySem.boot_len (A0 (U5 A1c (by rfl) O.str_ boot_str (A0 (pv 4) A8)) A8)) (U2 HU (pv 0) B0 (fun _ _ => rfl)) (B9 _)) (A3c (PW.pt (A2c (C4 A3k (pv 4) A1 (B9 _)) (A0z (C4 A3k (pv 6) (U2 HU (pv 0) B0 (fun _ _ => rfl)) (B9 _)))))))) (A9 (B8 (G8 (A0 (G8 (A0 B0 (A0 A1 (A0 A1 (A0 A1 A8))))) (A0 (J0 (A0 B0 A8)) A8))))) C6))
     (A7 (B7 (C9 (i := 7) scLDue.nd rfl (Or.inl rfl) (B3 B8n (B3 D8b (J0 (A0 B0 A8)) (U5 A9h (by rfl) O.int_ boot_int (A0 (pv 5) A8))) (B3 D8b (J0 (A0 B0 A8)) (U5 A9h (by rfl) O.int_ boot_int (A0 (D3x (pv 5) (A1w (G0 A3k (pv 3) (D7 D4 (pv 1) A1 (fun _ _ => rfl)) (B9 _)))) A8))))))
     (A7 (B7 (D9 (PW.pt (A2c (C4 A3k (pv 4) A1 (B9 _)) (A0z (C4 D4u (pv 6) (U2 HU (pv 0) B0 (fun _ _ => rfl)) (B9 _))))) (A9 (B7 (C9 (i := 7) scLDue.nd rfl (Or.inl rfl) (B3 B8n (B3 B8n (pv 7) (J0 (A0 B0 A8))) (B3 D8b (J0 (A0 B0 A8)) (U5 A9h (by rfl) O.int_ boot_int (A0 (pv 5) A8))))))) C6))
     (A9 (B8 (G8 (A0 (G8 (A0 B0 (A0 (D7 D4 (pv 1) A1 (fun _ _ => rfl)) (A0 (pv 4) (A0 (pv 3) A8))))) (A0 (pv 7) A8))))))))))))))), ?_⟩
   have z0 : 0 <= sizeLine := Nat.zero_le _
   have z1 : 1 <= sizeLine := C7 (by decide)
   have z2 : 2 <= sizeLine := C7 (by decide)
   have z4 : 4 <= sizeLine := C7 (by decide)
   have i1 := A2n x1
   have i2 := A2n x2
   have ok : (Cv.mk r y l m).Ok := ⟨fr.r1, fr.r2, fr.l1, fr.l2, fr.m1, fr.m2⟩
   have r1 := fr.r1; have r2 := fr.r2; have l1 := fr.l1; have l2 := fr.l2; have m1 := fr.m1; have m2 := fr.m2
   have kb : ∀ b : Bool, -(2 ^ 63 : Int) <= (if b = true then (1 : Int) else 0) /\ (if b = true then (1 : Int) else 0) < 2 ^ 63 /\ 1 * (if b = true then (1 : Int) else 0).toNat <= sizeLine := fun b => by
     cases b
     . exact ⟨by decide, by decide, Nat.zero_le _⟩
     . exact ⟨by decide, by decide, z1⟩
   refine ⟨fun σ' H' => H' = H /\ σ' = [some (.ref d), some (.ref q1), some (.ref q2), some (.int x2.p), none, none, none, none], ⟨_, rfl, q2, _, _, _, rfl, rfl, SqT.of e2, i2 3 (by decide), rfl, rfl⟩, ?_⟩
   rintro σ' H1 ⟨rfl, rfl⟩
   have due1 : ∀ {H' : Hp}, Same H1 H' -> A1a ⟨r, y, l, m⟩ x1 x2 L = ((noneN, (["void"] : List Str)) : Nm × List Str) -> ∀ a, H' a = none -> ∀ b, upd H' a (.tup noneN.vs) b = none -> ∀ q, upd (upd H' a (.tup noneN.vs)) b (.lst [.str "void"]) q = none -> Q (.ref q) (upd (upd (upd H' a (.tup noneN.vs)) b (.lst [.str "void"])) q (.tup [.ref a, .ref b])) := fun s e a na b nb q nq =>
     k q ["void"] _ (s.trans ((Same.upd na).trans ((Same.upd nb).trans (Same.upd nq)))) ⟨a, b, A6, by rw [e]; exact ((Same.upd nb).trans (Same.upd nq)) _ _ A6, (Same.upd nq) _ _ A6⟩ (by show 1 <= 10; decide) (fun z => by rw [e])
   have due0 : ∀ {H' : Hp} {x : Nm}, Same H1 H' -> A1a ⟨r, y, l, m⟩ x1 x2 L = (x, []) -> ∀ a, H' a = none -> ∀ b, upd H' a (.tup x.vs) b = none -> ∀ q, upd (upd H' a (.tup x.vs)) b (.lst []) q = none -> Q (.ref q) (upd (upd (upd H' a (.tup x.vs)) b (.lst [])) q (.tup [.ref a, .ref b])) := fun s e a na b nb q nq =>
     k q [] _ (s.trans ((Same.upd na).trans ((Same.upd nb).trans (Same.upd nq)))) ⟨a, b, A6, by rw [e]; exact ((Same.upd nb).trans (Same.upd nq)) _ _ A6, (Same.upd nq) _ _ A6⟩ (Nat.zero_le _) (fun z => by rw [e])
   refine ⟨fun σ' H' => Same H1 H' /\ ¬ (x1.k = .none \/ x2.k = .none) /\ σ' = [some (.ref d), some (.ref q1), some (.ref q2), some (.int x2.p), none, none, none, none], ?_, ?_⟩
   . refine ⟨_, rfl, q1, _, _, _, rfl, rfl, SqT.of e1, i1 0 (by decide), _, rfl, q2, _, _, _, rfl, rfl, SqT.of e2, i2 0 (by decide), z2, fun p np => ⟨p, _, rfl, .inr (SqT.of A6), rfl, rfl, _, rfl, ?_⟩⟩
     have up1 := Same.upd (o := .tup [.str x1.k.str, .str x2.k.str]) np
     show if inV (.str "none") [.str x1.k.str, .str x2.k.str] = true then _ else _
     rw [V4p]
     refine G6 (fun h => ?_) (fun h => ⟨up1, h, rfl⟩)
     exact ⟨z4, fun a na => ⟨z0, fun b nb => ⟨z2, fun q nq => due0 (x := noneN) up1 (by unfold A1a; rw [if_pos h]) a na b nb q nq⟩⟩⟩
   rintro σ' H2 ⟨s2, hn, rfl⟩
   have e1 := s2 _ _ e1
   have e2 := s2 _ _ e2
   refine ⟨fun σ' H' => H' = H2 /\ ¬ (x1.k = .end_ /\ x2.k = .end_) /\ σ' = [some (.ref d), some (.ref q1), some (.ref q2), some (.int x2.p), none, none, none, none], ?_, ?_⟩
   . refine ⟨_, rfl, q1, _, _, _, rfl, rfl, SqT.of e1, i1 0 (by decide), rfl, _, rfl, G6 (fun h => ?_) (fun h => U4 ⟨rfl, fun z => h (kd_str (b := .end_) |>.mpr z.1), rfl⟩)⟩
     have h1 : x1.k = .end_ := kd_str (b := .end_) |>.mp h
     refine ⟨_, rfl, q2, _, _, _, rfl, rfl, SqT.of e2, i2 0 (by decide), rfl, _, rfl, G6 (fun h' => ?_) (fun h' => ⟨rfl, fun z => h' (kd_str (b := .end_) |>.mpr z.2), rfl⟩)⟩
     have h2 : x2.k = .end_ := kd_str (b := .end_) |>.mp h'
     refine ⟨_, rfl, z0, fun b nb => ⟨z2, fun q nq => ?_⟩⟩
     have e := V3z (v := ⟨r, y, l, m⟩) (L := L) hn h1 h2
     exact k q [] _ (s2.trans ((Same.upd nb).trans (Same.upd nq))) ⟨q1, b, A6, by rw [e]; exact ((Same.upd nb).trans (Same.upd nq)) _ _ e1, (Same.upd nq) _ _ A6⟩ (Nat.zero_le _) (fun z => by rw [e])
   rintro σ' H3 ⟨rfl, h2e, rfl⟩
   have ow3 := ow.same s2
   refine ⟨fun σ' H' => Same H1 H' /\ ¬ (x1.k = .end_ \/ x2.k = .end_) /\ ¬ x2.p < l - r + 1 /\ ¬ x2.p > m /\ σ' = [some (.ref d), some (.ref q1), some (.ref q2), some (.int x2.p), none, none, none, none], ?_, ?_⟩
   . refine ⟨_, rfl, q1, _, _, _, rfl, rfl, SqT.of e1, i1 0 (by decide), _, rfl, q2, _, _, _, rfl, rfl, SqT.of e2, i2 0 (by decide), z2, fun p np => ⟨p, _, rfl, .inr (SqT.of A6), rfl, rfl, _, rfl, ?_⟩⟩
     have up1 := s2.trans (Same.upd (o := .tup [.str x1.k.str, .str x2.k.str]) np)
     have ow4 := ow.same up1
     show if inV (.str "end") [.str x1.k.str, .str x2.k.str] = true then _ else _
     rw [V8t]
     refine G6 (fun h => V5 ?_) (fun h => ?_)
     . exact ⟨z4, fun a na => ⟨z1, fun b nb => ⟨z2, fun q nq => due1 up1 (J5z hn h h2e) a na b nb q nq⟩⟩⟩
     . refine ⟨_, rfl, _, rfl, d, _, rfl, ow4.gLowest, _, _, rfl, rfl, _, rfl, G6 (fun h3 => V5 ?_) (fun h3 => ?_)⟩
       . exact ⟨z4, fun a na => ⟨z1, fun b nb => ⟨z2, fun q nq => due1 up1 (J0j (v := ⟨r, y, l, m⟩) hn h (.inl h3)) a na b nb q nq⟩⟩⟩
       . refine ⟨_, rfl, _, rfl, d, _, rfl, ow4.gMost, _, _, rfl, rfl, _, rfl, G6 (fun h4 => ?_) (fun h4 => ⟨up1, h, h3, h4, rfl⟩)⟩
         exact ⟨z4, fun a na => ⟨z1, fun b nb => ⟨z2, fun q nq => due1 up1 (J0j (v := ⟨r, y, l, m⟩) hn h (.inr h4)) a na b nb q nq⟩⟩⟩
   rintro σ' H4 ⟨s4, he, hlo, hhi, rfl⟩
   have eR := J2k (v := ⟨r, y, l, m⟩) (x1 := x1) (x2 := x2) (L := L) hn he hlo hhi
   have e1 := (fun {H' : Hp} (s' : Same H1 H') => s' q1 _ ‹H1 q1 = some (.tup x1.vs)›) s4
   have ow4 := ow.same s4
   have p10 := w1.ok.p0; have p11 := w1.ok.p1
   refine ⟨fun σ' H' => H' = H4 /\ x1.f ≠ 0 /\ σ' = [some (.ref d), some (.ref q1), some (.ref q2), some (.int x2.p), none, none, none, none], ?_, ?_⟩
   . refine ⟨_, rfl, q1, _, _, _, rfl, rfl, SqT.of e1, i1 2 (by decide), rfl, _, rfl, G6 (fun h => ?_) (fun h => ⟨rfl, fun z => h (congrArg V.int z), rfl⟩)⟩
     have hf : x1.f = 0 := V.int.inj h
     have e : A1a ⟨r, y, l, m⟩ x1 x2 L = (⟨.plain, x1.s, 0, x2.p⟩, []) := by
       rw [eR]
       unfold A2h
       have tp := A0s r
       rw [V3v _ _ _ hf, if_neg (show ¬ (0 : Int) >= D5 r by omega), if_neg (show ¬ V9 m 0 x2.p = true by unfold V9; rw [if_pos rfl]; exact Bool.false_ne_true), if_pos hf]
     exact ⟨_, rfl, q1, _, _, _, rfl, rfl, SqT.of e1, i1 1 (by decide), _, rfl, z4, fun a na => ⟨z0, fun b nb => ⟨z2, fun q nq => due0 (x := ⟨.plain, x1.s, 0, x2.p⟩) s4 e a na b nb q nq⟩⟩⟩
   rintro σ' H5 ⟨rfl, hf, rfl⟩
   have wb := J7g (s := x1.p - x2.p) w1.ok.f0 w1.ok.f1 (by omega)
   have ub0 := V8m (y := y) (s := x1.s) (pt := ptI x1.f 1 (x1.p - x2.p)) wb.1
   refine ⟨fun σ' H' => Same H1 H' /\ σ' = [some (.ref d), some (.ref q1), some (.ref q2), some (.int x2.p), some (.int (upW ⟨r, y, l, m⟩ x1 x2.p)), some (.bl (!decide (ptI x1.f 1 (x1.p - x2.p) = 0))), none, none], ?_, ?_⟩
   . refine ⟨_, rfl, _, rfl, _, rfl, d, u, t, r, y, l, m, up, tr, q1, x1, x2.p, rfl, ow4, fr, e1, w1, by omega, by omega, fun p H6 s6 ep => ?_⟩
     exact ⟨p, _, rfl, SqT.of ep, rfl, _, _, rfl, _, _, rfl, rfl, s4.trans s6, rfl⟩
   rintro σ' H6 ⟨s6, rfl⟩
   have ub : 0 <= upW ⟨r, y, l, m⟩ x1 x2.p /\ upW ⟨r, y, l, m⟩ x1 x2.p <= whI x1.f 1 (x1.p - x2.p) + 1 := ub0
   clear ub0
   unfold A2h at eR
   dsimp only at eR
   generalize upW ⟨r, y, l, m⟩ x1 x2.p = W at *
   generalize ptI x1.f 1 (x1.p - x2.p) = pt at *
   have W0 := ub.1
   have lg := G9y W0 (by omega)
   have ow6 := ow.same s6
   have e16 : H6 q1 = some (.tup x1.vs) := s6 _ _ ‹H1 q1 = some (.tup x1.vs)›
   refine ⟨fun σ' H' => H' = H6 /\ σ' = [some (.ref d), some (.ref q1), some (.ref q2), some (.int x2.p), some (.int W), some (.bl (!decide (pt = 0))), some (.int (x2.p + A2m W - 1)), none], ⟨_, rfl, _, rfl, _, rfl, lg, _, rfl, int_text_fits lg, _, _, rfl, rfl, _, _, rfl, rfl, rfl, rfl⟩, ?_⟩
   rintro σ' H7 ⟨rfl, rfl⟩
   refine ⟨fun σ' H' => H' = H7 /\ ¬ W >= D5 r /\ V9 m W x2.p = false /\ σ' = [some (.ref d), some (.ref q1), some (.ref q2), some (.int x2.p), some (.int W), some (.bl (!decide (pt = 0))), some (.int (x2.p + A2m W - 1)), none], ?_, ?_⟩
   . refine ⟨_, rfl, _, rfl, lg, _, rfl, int_text_fits lg, _, rfl, d, _, rfl, ow6.gRoom, _, _, rfl, rfl, _, rfl, G6 (fun h => V5 ?_) (fun h => ?_)⟩
     . have h : A2m W > r := h
       have hW := (J5m W0 r1).mp h
       exact ⟨z4, fun a na => ⟨z1, fun b nb => ⟨z2, fun q nq => due1 s6 (eR.trans (if_pos hW)) a na b nb q nq⟩⟩⟩
     . have h : ¬ A2m W > r := h
       have hW : ¬ W >= D5 r := fun z => h ((J5m W0 r1).mpr z)
       refine ⟨_, rfl, _, _, rfl, rfl, _, rfl, G6 (fun h2 => ?_) (fun h2 => U4 ⟨rfl, hW, ?_, rfl⟩)⟩
       . have h2 : W > 0 := h2
         have eb : V9 m W x2.p = decide (x2.p + A2m W - 1 > m) := by unfold V9; rw [if_neg (by omega)]
         refine ⟨_, rfl, _, rfl, d, _, rfl, ow6.gMost, _, _, rfl, rfl, _, rfl, G6 (fun h3 => ?_) (fun h3 => ⟨rfl, hW, by rw [eb]; exact decide_eq_false h3, rfl⟩)⟩
         have hB : V9 m W x2.p = true := by rw [eb]; exact decide_eq_true h3
         exact ⟨z4, fun a na => ⟨z1, fun b nb => ⟨z2, fun q nq => due1 s6 (eR.trans ((if_neg hW).trans (if_pos hB))) a na b nb q nq⟩⟩⟩
       . have h2 : ¬ W > 0 := h2
         unfold V9
         rw [if_pos (by omega)]
   rintro σ' H8 ⟨rfl, hW, hB, rfl⟩
   have eR := eR.trans ((if_neg hW).trans ((if_neg (by rw [hB]; exact Bool.false_ne_true)).trans (if_neg hf)))
   generalize hoff : (!decide (pt = 0)) = off at *
   generalize hcut : decide (x2.p > x1.p) = cut at *
   have mem := fun z => J8k (v := ⟨r, y, l, m⟩) (W := W) (p := x2.p) (pt := pt) (cut := cut) W0 z
   rw [hoff] at mem
   refine ⟨fun σ' H' => ∃ a, Same H1 H' /\ H' a = some (.lst ((A6z "off" off ++ A6z "cut" (off || cut)).map V.str)) /\ σ' = [some (.ref d), some (.ref q1), some (.ref q2), some (.int x2.p), some (.int W), some (.bl off), some (.int (x2.p + A2m W - 1)), some (.ref a)], ?_, ?_⟩
   . refine ⟨z1, fun a1 n1 => ⟨_, rfl, .inr ⟨_, rfl, a1, _, _, rfl, rfl, A6, (kb off).1, (kb off).2.1, (kb off).2.2, fun a2 n2 => ⟨z1, fun a3 n3 => ⟨_, rfl, _, rfl, ?_⟩⟩⟩⟩⟩
     have u1 := Same.upd (o := .lst [.str "off"]) n1
     have u2 := Same.upd (o := .lst (List.replicate (if off = true then (1 : Int) else 0).toNat [V.str "off"]).flatten) n2
     have u3 := Same.upd (o := .lst [.str "cut"]) n3
     have u13 := u1.trans (u2.trans u3)
     have e13 := u13 _ _ e16
     cases off with
     | true =>
       refine V5 (.inr ⟨_, rfl, a3, _, _, rfl, rfl, A6, (kb true).1, (kb true).2.1, (kb true).2.2, fun a4 n4 => ?_⟩)
       have u4 := Same.upd (o := .lst (List.replicate (if true = true then (1 : Int) else 0).toNat [V.str "cut"]).flatten) n4
       exact ⟨a2, a4, _, _, rfl, rfl, (u3.trans u4) _ _ A6, A6, z2, fun a5 n5 => ⟨a5, s6.trans (u13.trans (u4.trans (Same.upd n5))), A6, rfl⟩⟩
     | false =>
       refine U4 ⟨_, rfl, _, rfl, q1, _, _, _, rfl, rfl, SqT.of e13, i1 3 (by decide), _, _, rfl, rfl, .inr ⟨_, rfl, a3, _, _, rfl, rfl, A6, (kb (decide (x2.p > x1.p))).1, (kb (decide (x2.p > x1.p))).2.1, (kb (decide (x2.p > x1.p))).2.2, fun a4 n4 => ?_⟩⟩
       have u4 := Same.upd (o := .lst (List.replicate (if decide (x2.p > x1.p) = true then (1 : Int) else 0).toNat [V.str "cut"]).flatten) n4
       refine ⟨a2, a4, _, _, rfl, rfl, (u3.trans u4) _ _ A6, A6, ?_, fun a5 n5 => ⟨a5, s6.trans (u13.trans (u4.trans (Same.upd n5))), ?_, rfl⟩⟩
       . have := B8b "cut" (decide (x2.p > x1.p))
         rw [D9m "cut", List.length_map]
         exact Nat.le_trans (show 0 + (A6z "cut" (decide (x2.p > x1.p))).length <= 1 by omega) z1
       . rw [A6, D9m "cut", hcut]
         rfl
   rintro σ' H9 ⟨a, s9, ea, rfl⟩
   have ow9 := ow.same s9
   have g1 := B8b "off" off
   have g2 := B8b "cut" (off || cut)
   have g3 := B8b "sunk" off
   refine ⟨fun σ' H' => ∃ a, ∃ zs : List Str, Same H1 H' /\ H' a = some (.lst (zs.map V.str)) /\ zs.length <= 5 /\ (∀ z, z ∈ zs ↔ z ∈ A2f ⟨r, y, l, m⟩ W x2.p pt cut) /\ σ' = [some (.ref d), some (.ref q1), some (.ref q2), some (.int x2.p), some (.int W), some (.bl off), some (.int (x2.p + A2m W - 1)), some (.ref a)], ?_, ?_⟩
   . have skip : ¬ (W > 0 /\ x2.p + A2m W - 1 < l) -> ∀ z, z ∈ A6z "off" off ++ A6z "cut" (off || cut) ↔ z ∈ A2f ⟨r, y, l, m⟩ W x2.p pt cut := fun h z => by
       have q := mem z
       rw [if_neg h, List.append_nil] at q
       exact q
     refine ⟨_, rfl, _, _, rfl, rfl, _, rfl, G6 (fun h1 => ?_) (fun h1 => U4 ⟨a, _, s9, ea, by rw [List.length_append]; omega, skip (fun z => h1 z.1), rfl⟩)⟩
     refine ⟨_, rfl, _, rfl, d, _, rfl, ow9.gLeast, _, _, rfl, rfl, _, rfl, G6 (fun h2 => ?_) (fun h2 => ⟨a, _, s9, ea, by rw [List.length_append]; omega, skip (fun z => h2 z.2), rfl⟩)⟩
     refine ⟨_, ?_, fun _ _ h => h⟩
     refine ⟨_, rfl, z1, fun b1 n1 => ⟨a, b1, _, _, rfl, rfl, (Same.upd n1) _ _ ea, A6, C7 (by rw [List.length_map, List.length_append]; show _ + 1 <= _; omega), fun b2 n2 => ⟨z1, fun b3 n3 => ⟨_, rfl, .inr ⟨_, rfl, b3, _, _, rfl, rfl, A6, (kb off).1, (kb off).2.1, (kb off).2.2, fun b4 n4 => ?_⟩⟩⟩⟩⟩
     rw [D9m]
     have u1 := Same.upd (o := .lst [.str "faint"]) n1
     have u2 := Same.upd (o := .lst ((A6z "off" off ++ A6z "cut" (off || cut)).map V.str ++ [.str "faint"])) n2
     have u3 := Same.upd (o := .lst [.str "sunk"]) n3
     have u4 := Same.upd (o := .lst ((A6z "sunk" off).map V.str)) n4
     refine ⟨b2, b4, _, _, rfl, rfl, (u3.trans u4) _ _ A6, A6, C7 (by rw [List.length_append, List.length_map, List.length_map, List.length_append]; show _ + 1 + _ <= _; omega), fun b5 n5 => ⟨b5, A6z "off" off ++ A6z "cut" (off || cut) ++ ((["faint"] : List Str) ++ A6z "sunk" off), s9.trans ((u1.trans u2).trans ((u3.trans u4).trans (Same.upd n5))), ?_, ?_, fun z => ?_, rfl⟩⟩
     . rw [A6]
       simp only [List.map_append, List.append_assoc]
       rfl
     . rw [List.length_append, List.length_append, List.length_append]
       show _ + _ + (1 + _) <= _
       omega
     . have q := mem z
       rw [if_pos ⟨h1, h2⟩] at q
       exact q
   rintro σ' H10 ⟨a, zs, s10, ea10, lz, hz, rfl⟩
   refine ⟨_, rfl, q1, _, _, _, rfl, rfl, SqT.of (s10 _ _ ‹H1 q1 = some (.tup x1.vs)›), i1 1 (by decide), _, rfl, _, rfl, z4, fun t1 n1 => ⟨_, rfl, z2, fun q nq => ?_⟩⟩
   have u1 := Same.upd (o := .tup (Nm.vs ⟨.plain, x1.s, W, x2.p⟩)) n1
   have u2 := Same.upd (o := .tup [.ref t1, .ref a]) nq
   exact k q zs _ (s10.trans (u1.trans u2)) ⟨t1, a, A6, by rw [eR]; exact u2 _ _ A6, (u1.trans u2) _ _ ea10⟩ (by omega) (fun z => by rw [eR]; exact hz z)
def G9d (K : Frag) : Sp := fun vs H Q _ => ∃ sc ns d u t r y l m up tr, vs = [.ref sc, .ref d] /\ SqL K H sc ((ns : List Int).map V.int) /\ OwnAt H d u t r y l m up tr /\ FrameOk r l m /\
 ∀ p q1 q2 x1 x2 H', Same H H' -> H' p = some (.tup [.ref q1, .ref q2]) -> H' q1 = some (.tup (Nm.vs x1)) -> H' q2 = some (.tup (Nm.vs x2)) -> x1.Wf -> x2.Wf -> Q (.ref p) H'
theorem scLPair : FnScope ["_law_script", "_law_own_here", "_law_one", "_law_other", "_law_cell", "_law_wide"] ["_law_script", "_law_own_here"] (A3 B0s) := scK
theorem J5u {f f1 f2 : Addr} {fd fd1 fd2 : FuncData} (D : Def K mg "_law_pair" ["_law_script", "_law_own_here"] B0s f fd) (D_l_cell_at : Def K mg "_law_cell_at" ["_law_script", "_law_k"] B7f f1 fd1) (G_l_cell_at : FnOk P w K mg base (CX1 P w) 1 f1 fd1 ["_law_script", "_law_k"] (G0h K)) (D_l_number : Def K mg "_law_number" ["_law_cell"] A1x f2 fd2) (G_l_number : FnOk P w K mg base (CX1 P w) 3 f2 fd2 ["_law_cell"] C5n) (O : Own mg) :
   FnOk P w K mg base (CX1 P w) 4 f fd ["_law_script", "_law_own_here"] (G9d K) := by
 refine D.F.okE scLPair (fun vs H Q E h => ?_) (fun X cdv A outer s H vs Q E hX hr hx h => ?_)
 . obtain ⟨sc, ns, d, u, t, r, y, l, m, up, tr, rfl, _⟩ := h
   rfl
 . subst hX
   obtain ⟨sc, ns, d, u, t, r, y, l, m, up, tr, rfl, hS, ow, fr, k⟩ := h
   have HU := Nat.lt_of_le_of_lt (Nat.add_le_add_left (by decide : 1 <= 64) _) hr.units
   refine ⟨_, (A7 (B7 (C9 (i := 2) scLPair.nd rfl (Or.inl rfl) (C8 D_l_number G_l_number hr hx (A0 (C8 D_l_cell_at G_l_cell_at hr hx (A0 (pv 0) (A0 A1 A8))) A8))))
     (A7 (B7 (C9 (i := 3) scLPair.nd rfl (Or.inl rfl) (C8 D_l_number G_l_number hr hx (A0 (C8 D_l_cell_at G_l_cell_at hr hx (A0 (pv 0) (A0 A1 A8))) A8))))
     (A7 (B7 (C9 (i := 4) scLPair.nd rfl (Or.inl rfl) (C8 D_l_cell_at G_l_cell_at hr hx (A0 (pv 0) (A0 A1 A8)))))
     (A7 (B7 (D9 (PW.pt (A2c (C4 D6 (B3 D3 (pv 4) A1) A1 (B9 _)) (A2c (C4 D6 (D7 D4 (pv 2) A1 (fun _ _ => rfl)) B0 (B9 _)) (A0z (C4 D6 (D7 D4 (pv 3) A1 (fun _ _ => rfl)) B0 (B9 _)))))) (A7 (B7 (C9 (i := 5) scLPair.nd rfl (Or.inl rfl) (B3 V4 (B3 V2 (B3 V4 (B3 V2 (D7 D4 (pv 2) A1 (fun _ _ => rfl)) (V0 A1d (by rfl) O.len_ PySem.boot_len (A0 (U5 A1c (by rfl) O.str_ boot_str (A0 (D7 D4 (pv 2) A1 (fun _ _ => rfl)) A8)) A8))) (U2 HU (pv 1) B0 (fun _ _ => rfl))) (B3 D3 (B3 G2 (pv 4) A1) A1)) A1)))
     (A9 (B7 (C9 (i := 3) scLPair.nd rfl (Or.inl rfl) (G8 (A0 B0 (A0 (D7 D4 (pv 3) A1 (fun _ _ => rfl)) (A0 (D7 D4 (pv 3) A1 (fun _ _ => rfl)) (A0 (V0 (A3p rfl) (by rfl) O.max_ boot_max (A0 (B9b B0r A1) (A0 (V0 (J1q rfl) (by rfl) O.min_ boot_min (A0 A1 (A0 (pv 5) A8))) A8))) A8))))))))) C6))
     (A7 (B7 (D9 (PW.pt (A2c (C4 D6 (B3 D3 (pv 4) A1) A1 (B9 _)) (A2c (C4 D6 (D7 D4 (pv 2) A1 (fun _ _ => rfl)) B0 (B9 _)) (A0z (C4 D6 (D7 D4 (pv 3) A1 (fun _ _ => rfl)) B0 (B9 _)))))) (A7 (B7 (C9 (i := 2) scLPair.nd rfl (Or.inl rfl) (G8 (A0 B0 (A0 (D7 D4 (pv 2) A1 (fun _ _ => rfl)) (A0 (B3 D3 (D7 D4 (pv 2) A1 (fun _ _ => rfl)) A1) (A0 (B3 V4 (U2 HU (pv 1) B0 (fun _ _ => rfl)) (B3 D3 (B3 G2 (pv 4) A1) A1)) A8)))))))
     (A9 (B7 (C9 (i := 3) scLPair.nd rfl (Or.inl rfl) (G8 (A0 B0 (A0 (D7 D4 (pv 3) A1 (fun _ _ => rfl)) (A0 (D7 D4 (pv 3) A1 (fun _ _ => rfl)) (A0 (B3 V2 (U2 HU (pv 1) B0 (fun _ _ => rfl)) (B3 D3 (B3 G2 (pv 4) A1) A1)) A8))))))))) C6))
     (A9 (B8 (G8 (A0 (pv 2) (A0 (pv 3) A8)))))))))), ?_⟩
   have z2 : 2 <= sizeLine := C7 (by decide)
   have z4 : 4 <= sizeLine := C7 (by decide)
   have r1 := fr.r1; have r2 := fr.r2; have l1 := fr.l1; have l2 := fr.l2
   refine ⟨fun σ' H' => ∃ q1 x1, Same H H' /\ H' q1 = some (.tup (Nm.vs x1)) /\ x1.Wf /\ σ' = [some (.ref sc), some (.ref d), some (.ref q1), none, none, none], ⟨_, rfl, sc, ns, 1, rfl, hS, by decide, fun c1 => ⟨c1, rfl, fun x q H' wf s' e => ⟨q, x, s', e, wf, rfl⟩⟩⟩, ?_⟩
   rintro σ' H1 ⟨q1, x1, s1, e1, w1, rfl⟩
   refine ⟨fun σ' H' => ∃ q2 x2, Same H H' /\ H' q1 = some (.tup (Nm.vs x1)) /\ H' q2 = some (.tup (Nm.vs x2)) /\ x2.Wf /\ σ' = [some (.ref sc), some (.ref d), some (.ref q1), some (.ref q2), none, none], ⟨_, rfl, sc, ns, 2, rfl, s1.seq hS, by decide, fun c1 => ⟨c1, rfl, fun x q H' wf s' e => ⟨q, x, s1.trans s', s' _ _ e1, e, wf, rfl⟩⟩⟩, ?_⟩
   rintro σ' H2 ⟨q2, x2, s2, e1, e2, w2, rfl⟩
   refine ⟨fun σ' H' => ∃ c : Int, H' = H2 /\ σ' = [some (.ref sc), some (.ref d), some (.ref q1), some (.ref q2), some (.int c), none], ⟨_, rfl, sc, ns, 3, rfl, s2.seq hS, by decide, fun c1 => ⟨c1, rfl, rfl⟩⟩, ?_⟩
   rintro σ' H3 ⟨c, rfl, rfl⟩
   have ow3 := ow.same s2
   refine ⟨fun σ' H' => ∃ q2 x2 v5, Same H H' /\ H' q1 = some (.tup (Nm.vs x1)) /\ H' q2 = some (.tup (Nm.vs x2)) /\ x2.Wf /\ σ' = [some (.ref sc), some (.ref d), some (.ref q1), some (.ref q2), some (.int c), v5], ?_, ?_⟩
   . have skip : ∃ q2' x2' v5, Same H H3 /\ H3 q1 = some (.tup (Nm.vs x1)) /\ H3 q2' = some (.tup (Nm.vs x2')) /\ x2'.Wf /\ [some (V.ref sc), some (.ref d), some (.ref q1), some (.ref q2), some (.int c), none] = [some (.ref sc), some (.ref d), some (.ref q1), some (.ref q2'), some (.int c), v5] := ⟨q2, x2, none, s2, e1, e2, w2, rfl⟩
     refine ⟨_, rfl, _, _, rfl, rfl, (by decide : (0 : Int) < 2), rfl, _, rfl, G6 (fun _ => ?_) (fun _ => U4 skip)⟩
     refine ⟨_, rfl, q1, _, _, _, rfl, rfl, SqT.of e1, A2n x1 0 (by decide), rfl, _, rfl, G6 (fun _ => ?_) (fun _ => U4 skip)⟩
     refine ⟨_, rfl, q2, _, _, _, rfl, rfl, SqT.of e2, A2n x2 0 (by decide), rfl, _, rfl, G6 (fun _ => ?_) (fun _ => skip)⟩
     have lg : x1.f.natAbs.log2 < 1920 := G9y w1.ok.f0 (Int.le_trans w1.ok.f1 (by decide +kernel))
     refine ⟨fun σ' H' => ∃ wd : Int, H' = H3 /\ σ' = [some (.ref sc), some (.ref d), some (.ref q1), some (.ref q2), some (.int c), some (.int wd)], ?_, ?_⟩
     . exact ⟨_, rfl, q1, _, _, _, rfl, rfl, SqT.of e1, A2n x1 3 (by decide), _, rfl, q1, _, _, _, rfl, rfl, SqT.of e1, A2n x1 2 (by decide), _, rfl, lg, _, rfl, int_text_fits lg, _, _, rfl, rfl, _, rfl, d, _, rfl, ow3.gRoom, _, _, rfl, rfl, _, rfl, _, _, rfl, rfl, dv (n := 2) (by decide) (by decide +kernel), _, _, rfl, rfl, (by decide : (0 : Int) < 4), _, _, rfl, rfl, _, _, rfl, rfl, _, rfl, rfl⟩
     rintro σ' H4 ⟨wd, rfl, rfl⟩
     refine ⟨_, ?_, fun _ _ h => h⟩
     refine ⟨_, rfl, q2, _, _, _, rfl, rfl, SqT.of e2, A2n x2 1 (by decide), _, rfl, q2, _, _, _, rfl, rfl, SqT.of e2, A2n x2 2 (by decide), _, rfl, _, rfl, _, _, rfl, _, _, rfl, z4, fun t1 n1 => ?_⟩
     have hb : -200 <= (if (if wd < 200 then wd else 200) > -200 then (if wd < 200 then wd else 200) else -200) /\ (if (if wd < 200 then wd else 200) > -200 then (if wd < 200 then wd else 200) else -200) <= (200 : Int) := by
       constructor <;> (repeat' split) <;> omega
     exact ⟨t1, ⟨.plain, x2.s, x2.f, if (if wd < 200 then wd else 200) > -200 then (if wd < 200 then wd else 200) else -200⟩, some (.int wd), s2.trans (Same.upd n1), (Same.upd n1) _ _ e1, A6, A7f ⟨w2.ok.s0, w2.ok.s1⟩ ⟨w2.ok.f0, w2.ok.f1⟩ hb, rfl⟩
   clear e1 e2 w2 ow3
   rintro σ' H4 ⟨q2, x2, v5, s4, e1, e2, w2, rfl⟩
   have ow4 := ow.same s4
   refine ⟨fun σ' H' => ∃ q1 q2 x1 x2, Same H H' /\ H' q1 = some (.tup (Nm.vs x1)) /\ H' q2 = some (.tup (Nm.vs x2)) /\ x1.Wf /\ x2.Wf /\ σ' = [some (.ref sc), some (.ref d), some (.ref q1), some (.ref q2), some (.int c), v5], ?_, ?_⟩
   . have skip : ∃ q1' q2' x1' x2', Same H H4 /\ H4 q1' = some (.tup (Nm.vs x1')) /\ H4 q2' = some (.tup (Nm.vs x2')) /\ x1'.Wf /\ x2'.Wf /\ [some (V.ref sc), some (.ref d), some (.ref q1), some (.ref q2), some (.int c), v5] = [some (.ref sc), some (.ref d), some (.ref q1'), some (.ref q2'), some (.int c), v5] := ⟨q1, q2, x1, x2, s4, e1, e2, w1, w2, rfl⟩
     refine ⟨_, rfl, _, _, rfl, rfl, (by decide : (0 : Int) < 4), rfl, _, rfl, G6 (fun _ => ?_) (fun _ => U4 skip)⟩
     refine ⟨_, rfl, q1, _, _, _, rfl, rfl, SqT.of e1, A2n x1 0 (by decide), rfl, _, rfl, G6 (fun _ => ?_) (fun _ => U4 skip)⟩
     refine ⟨_, rfl, q2, _, _, _, rfl, rfl, SqT.of e2, A2n x2 0 (by decide), rfl, _, rfl, G6 (fun _ => ?_) (fun _ => skip)⟩
     have a0 := Int.emod_nonneg (c / 4) (by decide : (4 : Int) ≠ 0)
     have a1 := Int.emod_lt_of_pos (c / 4) (by decide : (0 : Int) < 4)
     have b0 := Int.emod_nonneg (c / 16) (by decide : (3 : Int) ≠ 0)
     have b1 := Int.emod_lt_of_pos (c / 16) (by decide : (0 : Int) < 3)
     have c0 := Int.emod_nonneg x1.f (by decide : (10000 : Int) ≠ 0)
     have c1 := Int.emod_lt_of_pos x1.f (by decide : (0 : Int) < 10000)
     have big : (10000 : Int) <= 10 ^ 60 - 1 := by decide +kernel
     refine ⟨fun σ' H' => ∃ q1 x1, Same H H' /\ H' q1 = some (.tup (Nm.vs x1)) /\ H' q2 = some (.tup (Nm.vs x2)) /\ x1.Wf /\ σ' = [some (.ref sc), some (.ref d), some (.ref q1), some (.ref q2), some (.int c), v5], ?_, ?_⟩
     . refine ⟨_, rfl, q1, _, _, _, rfl, rfl, SqT.of e1, A2n x1 1 (by decide), _, rfl, q1, _, _, _, rfl, rfl, SqT.of e1, A2n x1 2 (by decide), _, _, rfl, rfl, (by decide : (0 : Int) < 10000), _, rfl, d, _, rfl, ow4.gLowest, _, rfl, _, _, rfl, rfl, dv (n := 4) (by decide) (by decide +kernel), _, _, rfl, rfl, (by decide : (0 : Int) < 4), _, _, rfl, rfl, z4, fun t1 n1 => ?_⟩
       exact ⟨t1, ⟨.plain, x1.s, x1.f % 10000, l - r + 1 - c / 4 % 4⟩, s4.trans (Same.upd n1), A6, (Same.upd n1) _ _ e2, A7f ⟨w1.ok.s0, w1.ok.s1⟩ ⟨c0, by omega⟩ ⟨by omega, by omega⟩, rfl⟩
     rintro σ' H5 ⟨q1', x1', s5, e1', e2', w1', rfl⟩
     refine ⟨_, ?_, fun _ _ h => h⟩
     refine ⟨_, rfl, q2, _, _, _, rfl, rfl, SqT.of e2', A2n x2 1 (by decide), _, rfl, q2, _, _, _, rfl, rfl, SqT.of e2', A2n x2 2 (by decide), _, rfl, d, _, rfl, (ow.same s5).gLowest, _, rfl, _, _, rfl, rfl, dv (n := 16) (by decide) (by decide +kernel), _, _, rfl, rfl, (by decide : (0 : Int) < 3), _, _, rfl, rfl, z4, fun t1 n1 => ?_⟩
     exact ⟨q1', t1, x1', ⟨.plain, x2.s, x2.f, l - r + 1 + c / 16 % 3⟩, s5.trans (Same.upd n1), (Same.upd n1) _ _ e1', A6, w1', A7f ⟨w2.ok.s0, w2.ok.s1⟩ ⟨w2.ok.f0, w2.ok.f1⟩ ⟨by omega, by omega⟩, rfl⟩
   rintro σ' H5 ⟨q1', q2', x1', x2', s5, e1', e2', w1', w2', rfl⟩
   exact ⟨_, rfl, _, rfl, z2, fun p np => k p q1' q2' x1' x2' _ (s5.trans (Same.upd np)) A6 ((Same.upd np) _ _ e1') ((Same.upd np) _ _ e2') w1' w2'⟩
end
theorem B0v {x : Nm} (s0 : 0 <= x.s) (s1 : x.s <= 1) (f0 : 0 <= x.f) (f1 : x.f <= 10 ^ 60) (p0 : -10000 <= x.p) (p1 : x.p <= 10000) : A0w (A4p x.k.str x.s x.f x.p) := by
 have big : (10 : Int) ^ 60 + 10000 < 10 ^ 61 := by decide +kernel
 have bigN : ((10 ^ 61 : Nat) : Int) = 10 ^ 61 := by decide +kernel
 exact Y3m (by omega) (by omega) (by omega)
theorem A1q : A0w (A4p noneN.k.str noneN.s noneN.f noneN.p) := B0v (Int.le_refl _) (by show (0 : Int) <= 1; decide) (Int.le_refl _) (by show (0 : Int) <= 10 ^ 60; decide) (by show (-10000 : Int) <= 0; decide) (by show (0 : Int) <= 10000; decide)
theorem D4a {cs : List Addr} {c : Addr} {H H1 : Hp} (x : Exc c (U1 cs H) H1) : Exc c H (Y2 cs H H1) := fun b o e n => by
 by_cases hb : b ∈ cs
 . rw [C8n hb]; exact e
 . rw [U3 hb]
   exact x b o (by rw [V7 hb]; exact e) n
theorem CtxAt.back {CC : Addr} {H H' : Hp} {cs : List Addr} {c : Addr} {r : Int} {y : Wy} {l m : Int} {a b : Addr} {xs ys : List V} (h : CtxAt CC H' c r y l m a b xs ys) (hn : ∀ c ∈ cs, H' c = none) : CtxAt CC (Y2 cs H H') c r y l m a b xs ys := by
 obtain ⟨⟨dx, e⟩, ha, hb⟩ := h
 have out : ∀ {p : Addr} {o : HO}, H' p = some o -> p ∉ cs := fun e z => by rw [hn _ z] at e; cases e
 exact ⟨⟨dx, by rw [U3 (out e)]; exact e⟩, by rw [U3 (out ha)]; exact ha, by rw [U3 (out hb)]; exact hb⟩
theorem Ends2.hide {CN CC CT : Addr} {H : Hp} {cs : List Addr} {c : Addr} {v : Cv} {b : Addr} {xs ys : List Str} {res : Nm × List Str} {Q : VK} {E : XK} (k : Ends2 CN CC CT H c v b xs ys res Q E) :
   Ends2 CN CC CT (U1 cs H) c v b xs ys res (fun u H1 => (∀ c ∈ cs, H1 c = none) -> Q u (Y2 cs H H1)) (fun C d H1 => (∀ c ∈ cs, H1 c = none) -> E C d (Y2 cs H H1)) :=
 ⟨fun hn m a' H1 x ct nm no => k.1 hn m a' _ (D4a x) (CtxAt.back ct no) (nm.back no), fun z hz a' d H1 x ct ed no => k.2 z hz a' d _ (D4a x) (CtxAt.back ct no) (by rw [U3 fun q => by rw [no _ q] at ed; cases ed]; exact ed)⟩
theorem C5e {tr zs ws : List Str} (h : ∀ z, z ∈ zs ↔ z ∈ ws) : hit tr zs = hit tr ws := by
 unfold hit
 congr 1
 funext t
 rw [Bool.eq_iff_iff]
 simp [h]
theorem C5q {up zs ws : List Str} (h : ∀ z, z ∈ zs ↔ z ∈ ws) : U7 (up ++ zs) = U7 (up ++ ws) := by
 unfold U7
 refine List.filter_congr fun z _ => ?_
 rw [Bool.eq_iff_iff]
 simp [h]
theorem V2g {CN CC CT c : Addr} {r : Int} {y : Wy} {l m : Int} {b : Addr} {up tr zs : List Str} {res : Nm × List Str} {H' : Hp} {Qd : VK} {Ed : XK} (hz : ∀ z, z ∈ zs ↔ z ∈ res.2)
   (h1 : ∀ n a' H1, hit tr zs = none -> Exc c H' H1 -> CtxAt CC H1 c r y l m a' b ((U7 (up ++ zs)).map V.str) (tr.map V.str) -> NumIs CN H1 n res.1 -> Qd (.ref n) H1)
   (h2 : ∀ sg d' a' H1, hit tr zs = some sg -> Exc c H' H1 -> CtxAt CC H1 c r y l m a' b ((U7 (up ++ zs)).map V.str) (tr.map V.str) -> H1 d' = some (.xd [("signal", .str sg)]) -> Ed (.ref CT) (some d') H1) :
   Ends2 CN CC CT H' c ⟨r, y, l, m⟩ b up tr res Qd Ed :=
 ⟨fun hn n a' H1 x ct nm => h1 n a' H1 (by rw [C5e hz]; exact hn) x (by rw [C5q hz]; exact ct) nm, fun z hh a' d' H1 x ct ed => h2 z d' a' H1 (by rw [C5e hz]; exact hh) x (by rw [C5q hz]; exact ct) ed⟩
theorem V2b (ws : List Str) : SubS (U7 ws) := ⟨_, rfl⟩
abbrev C1t : Stmt := (top 68)
def D9e : Str := ("law" : Str) ++ ".<locals>." ++ "<lambda>"
def D8u : Pos := ⟨423, 61, 423, 136⟩
structure Pair2 (CN : Addr) (H : Hp) (q1 q2 n1 n2 : Addr) (x1 x2 : Nm) : Prop where
 q1 : H q1 = some (.tup x1.vs)
 q2 : H q2 = some (.tup x2.vs)
 n1 : NumIs CN H n1 x1
 n2 : NumIs CN H n2 x2
theorem Pair2.same {CN : Addr} {H H' : Hp} {q1 q2 n1 n2 : Addr} {x1 x2 : Nm} (h : Pair2 CN H q1 q2 n1 n2 x1 x2) (s : Same H H') : Pair2 CN H' q1 q2 n1 n2 x1 x2 := ⟨s _ _ h.q1, s _ _ h.q2, h.n1.same s, h.n2.same s⟩
theorem Pair2.keep {CN : Addr} {H H' : Hp} {q1 q2 n1 n2 : Addr} {x1 x2 : Nm} (h : Pair2 CN H q1 q2 n1 n2 x1 x2) (s : D5k H H') : Pair2 CN H' q1 q2 n1 n2 x1 x2 := ⟨s _ _ (fun _ z => by cases z) h.q1, s _ _ (fun _ z => by cases z) h.q2, h.n1.keep s, h.n2.keep s⟩
theorem Pair2.swap {CN : Addr} {H : Hp} {q1 q2 n1 n2 : Addr} {x1 x2 : Nm} (h : Pair2 CN H q1 q2 n1 n2 x1 x2) : Pair2 CN H q2 q1 n2 n1 x2 x1 := ⟨h.q2, h.q1, h.n2, h.n1⟩
theorem NumIs.exc2 {CN : Addr} {H H' : Hp} {n c d : Addr} {x : Nm} {kv : List (Key × V)} (h : NumIs CN H n x) (s : Exc2 c d H H') (nc : n ≠ c) (ed : H d = some (.dK kv)) : NumIs CN H' n x := by
 obtain ⟨dx, z⟩ := h
 exact ⟨dx, s _ _ z nc (J1 z ed (by intro z; cases z))⟩
theorem B9m {H H' : Hp} {q c d C0 d0 : Addr} {xs : List V} {F : List (Str × V)} {kv : List (Key × V)} (h : H q = some (.tup xs)) (s : Exc2 c d H H') (ec : H c = some (.ins C0 d0 F)) (ed : H d = some (.dK kv)) : H' q = some (.tup xs) := s _ _ h (J1 h ec (by intro z; cases z)) (J1 h ed (by intro z; cases z))
theorem Pair2.exc2 {CN : Addr} {H H' : Hp} {q1 q2 n1 n2 c d C0 d0 : Addr} {x1 x2 : Nm} {F : List (Str × V)} {kv : List (Key × V)} (h : Pair2 CN H q1 q2 n1 n2 x1 x2) (s : Exc2 c d H H') (c1 : n1 ≠ c) (c2 : n2 ≠ c) (ec : H c = some (.ins C0 d0 F)) (ed : H d = some (.dK kv)) : Pair2 CN H' q1 q2 n1 n2 x1 x2 := ⟨B9m h.q1 s ec ed, B9m h.q2 s ec ed, h.n1.exc2 s c1 ed, h.n2.exc2 s c2 ed⟩
theorem V9g (x1 x2 : Nm) (w1 : x1.Wf) (w2 : x2.Wf) : ∃ L, Pre x1 x2 L := ⟨0, trivial⟩
theorem D8e {v : Cv} {x : Nm} {p : Int} (ok : v.Ok) (wf : x.Wf) (p0 : v.l - v.r + 1 <= p) (p1 : p <= v.m) : A0w (A4p (A2h v x p).1.k.str (A2h v x p).1.s (A2h v x p).1.f (A2h v x p).1.p) := by
 have r1 := ok.r1; have r2 := ok.r2; have l1 := ok.l1; have l2 := ok.l2; have m1 := ok.m1; have m2 := ok.m2
 have q0 := wf.ok.p0; have q1 := wf.ok.p1
 have wb := J7g (s := x.p - p) wf.ok.f0 wf.ok.f1 (by omega)
 have ub0 := V8m (y := v.y) (s := x.s) (pt := ptI x.f 1 (x.p - p)) wb.1
 have ub : 0 <= upW v x p /\ upW v x p <= whI x.f 1 (x.p - p) + 1 := ub0
 have t24 := G9t r2
 have big : (10 : Int) ^ 24 <= 10 ^ 60 := by decide +kernel
 unfold A2h
 split
 . exact A1q
 . rename_i h
   split
   . exact A1q
   . split
     . exact B0v (x := ⟨.plain, x.s, upW v x p, p⟩) wf.ok.s0 wf.ok.s1 ub.1 (by show upW v x p <= 10 ^ 60; omega) (by show -10000 <= p; omega) (by show p <= 10000; omega)
     . exact B0v (x := ⟨.plain, x.s, upW v x p, p⟩) wf.ok.s0 wf.ok.s1 ub.1 (by show upW v x p <= 10 ^ 60; omega) (by show -10000 <= p; omega) (by show p <= 10000; omega)
theorem J8b {v : Cv} {x1 x2 : Nm} {L : Int} (ok : v.Ok) (w1 : x1.Wf) (w2 : x2.Wf) (h : Pre x1 x2 L) : A0w (A4p (A1a v x1 x2 L).1.k.str (A1a v x1 x2 L).1.s (A1a v x1 x2 L).1.f (A1a v x1 x2 L).1.p) := by
 unfold A1a
 split
 . exact A1q
 . split
   . split
     . exact Y3x w1.ok
     . exact A1q
   . split
     . exact A1q
     . split
       . exact A1q
       . exact D8e ok w1 (by omega) (by omega)
section
variable {P : Program} {w : World} {K : Frag} {mg : Str -> Option Value} {base : Heap}
def V4m (CN CC CT c p q1 q2 n1 n2 : Addr) (v : Cv) (b : Addr) (up tr : List Str) (x1 x2 : Nm) (L : Int) : Hp -> VK -> XK -> Prop := fun H Q E => (∃ a, CtxV CC H c v a b up tr) /\ H p = some (.tup [.ref q1, .ref q2, .ref n1, .ref n2]) /\ Two CN H n1 n2 x1 x2 /\ Ends2 CN CC CT H c v b up tr (A1a v x1 x2 L) Q E
def J0b (K : Frag) (P0 : Addr) : Sp := fun vs H Q _ => ∃ a ns, vs = [.ref a] /\ (ns : List Int).length <= 63 /\ SqL K H a (ns.map V.int) /\ H P0 = some (.tbl #[]) /\ ∀ H', Q (.bl true) H'
theorem scLaw : FnScope ["_law_script", "_law_own_here", "_law_context_here", "_law_one", "_law_other", "_law_first", "_law_second", "_law_pair_here", "_law_due_here"] ["_law_script"] (A3 C1t) := scK
theorem V7z {f cc P0 f1 f2 f3 f4 f6 f7 f8 f9 f10 CC CN CB CT : Addr} {fd fd1 fd2 fd3 fd4 fd6 fd7 fd8 fd9 fd10 : FuncData} (D : Def K mg "law" ["_law_script"] C1t f fd) (hcode : fd.code = .ref cc) (LB : LamB mg base cc P0)
   (D_l_cell_at : Def K mg "_law_cell_at" ["_law_script", "_law_k"] B7f f1 fd1) (G_l_cell_at : FnOk P w K mg base (CX1 P w) 1 f1 fd1 ["_law_script", "_law_k"] (G0h K)) (D_l_own : Def K mg "_law_own" ["_law_cell"] B9g f2 fd2) (G_l_own : FnOk P w K mg base (CX1 P w) 2 f2 fd2 ["_law_cell"] J7e)
   (D_l_context : Def K mg "_law_context" ["_law_own_here"] A0e f3 fd3) (G_l_context : FnOk P w K mg base (CX1 P w) 5 f3 fd3 ["_law_own_here"] (B8r CC)) (D_l_pair : Def K mg "_law_pair" ["_law_script", "_law_own_here"] B0s f4 fd4) (G_l_pair : FnOk P w K mg base (CX1 P w) 4 f4 fd4 ["_law_script", "_law_own_here"] (G9d K))
   (D_l_made : Def K mg "_law_made" ["_law_one"] B0u f6 fd6) (G_l_made : FnOk P w K mg base (CX1 P w) 4 f6 fd6 ["_law_one"] (J0d CN)) (D_l_due : Def K mg "_law_due" ["_law_own_here", "_law_one", "_law_other"] B8t f7 fd7) (G_l_due : FnOk P w K mg base (CX1 P w) 3 f7 fd7 ["_law_own_here", "_law_one", "_law_other"] J6m)
   (D_l_stands : Def K mg "_law_stands" ["_law_context_here", "_law_own_here", "_law_deed", "_law_due_here"] A2d f8 fd8) (G_l_stands : FnOkG P w K mg base (CX1 P w) 10 f8 fd8 ["_law_context_here", "_law_own_here", "_law_deed", "_law_due_here"] (B3c P w K mg base 8 CN CC CT))
   (D_same_power : Def K mg "same_power" ["context", "one", "other"] Y5 f9 fd9) (G_same_power : FnOk P w K mg base (CX1 P w) 6 f9 fd9 ["context", "one", "other"] (J6k CN CC CT)) (D_told : Def K mg "told" ["number"] B7c f10 fd10) (G_told : FnOk P w K mg base (CX1 P w) 2 f10 fd10 ["number"] (G0e K CN CB))
   (C : CtxC K mg CC) (MT : Has P w K mg base CC "traps" 1 ["self"] (B0w CC)) (O : Own mg) : FnOkG P w K mg base (CX1 P w) 11 f fd ["_law_script"] (J0b K P0) := by
 refine D.F.okEL hcode scLaw (fun vs H Q E h => ?_) (fun X A outer s H vs Q E hX HG hr hx h => ?_)
 . obtain ⟨a, ns, rfl, _⟩ := h
   rfl
 . subst hX
   obtain ⟨sc, ns, rfl, n63, hS, hP, kk⟩ := h
   obtain ⟨ff, fdf, mf, gf, bf⟩ := MT
   have HU := Nat.lt_of_le_of_lt (Nat.add_le_add_left (by decide : 1 <= 64) _) hr.units
   have CZ : CellsZ [("_law_pair_here", s.heap.objs.size + 1 + 1), ("_law_context_here", s.heap.objs.size + 1)] [7, 2] ["_law_script", "_law_own_here", "_law_context_here", "_law_one", "_law_other", "_law_first", "_law_second", "_law_pair_here", "_law_due_here"] (envOfC "law" (A3 C1t) s.heap.objs.size f (.ref cc)) := ⟨fun i x c h => by
     rcases i with _ | _ | i
     . obtain ⟨rfl, rfl⟩ := Prod.mk.inj (Option.some.inj h)
       exact ⟨rfl, rfl, fun j hj => by cases hj; rfl⟩
     . obtain ⟨rfl, rfl⟩ := Prod.mk.inj (Option.some.inj h)
       exact ⟨rfl, rfl, fun j hj => by cases hj; rfl⟩
     . cases h⟩
   refine ⟨_, (A7 (B7 (C9 (i := 1) scLaw.nd rfl (Or.inl rfl) (C8 D_l_own G_l_own hr hx (A0 (C8 D_l_cell_at G_l_cell_at hr hx (A0 (pv 0) (A0 A1 A8))) A8))))
     (A7 (B7 (C9 (i := 2) scLaw.nd rfl (Or.inr rfl) (C8 D_l_context G_l_context hr hx (A0 (pv 1) A8))))
     (A7 (B7 (D8t (C8 D_l_pair G_l_pair hr hx (A0 (pv 0) (A0 (pv 1) A8))) (D9v rfl (A3n (U8 (i := 3) scLaw.nd rfl (Or.inl rfl)) (A3n (U8 (i := 4) scLaw.nd rfl (Or.inl rfl)) C7j)))))
     (A7 (B7 (C9 (i := 5) scLaw.nd rfl (Or.inl rfl) (C8 D_l_made G_l_made hr hx (A0 (pv 3) A8))))
     (A7 (B7 (C9 (i := 6) scLaw.nd rfl (Or.inl rfl) (C8 D_l_made G_l_made hr hx (A0 (pv 4) A8))))
     (A7 (B7 (B8e PassesOwn.leaving rfl (B7y (J0 (A0 (G8 (A0 (pv 3) (A0 (pv 4) (A0 (pv 5) (A0 (pv 6) A8))))) (A0 (G8 (A0 (pv 4) (A0 (pv 3) (A0 (pv 6) (A0 (pv 5) A8))))) (A0 (G8 (A0 (pv 3) (A0 (pv 4) (A0 (pv 5) (A0 (pv 6) A8))))) A8))))) (U8 (i := 7) scLaw.nd rfl (Or.inr rfl)) (A7 (B7 (C9 (i := 8) scLaw.nd rfl (Or.inl rfl) (C8 D_l_due G_l_due hr hx (A0 (pv 1) (A0 (D7 D4 (pv 7) A1 (fun _ _ => rfl)) (A0 (D7 D4 (pv 7) A1 (fun _ _ => rfl)) A8))))))
     (A7 (B7 (D9 (A7s (Y6 (V7v D_l_stands G_l_stands HG hr hx CZ (A0 (pv 2) (A0 (pv 1) (A0 (J1h LB rfl (by rfl)) (A0 (pv 8) A8))))))) (A9 (B8 D5e)) C6))
     (A9 (B7 (D9 (PW.pt (A7k (C4 (J7d hr.units) (C8 D_told G_told hr hx (A0 (pv 5) A8)) (pv 3) (B9 _)) (A3c (C4 (J7d hr.units) (C8 D_told G_told hr hx (A0 (pv 6) A8)) (pv 4) (B9 _))))) (A9 (B8 D5e)) C6)))))))
     (A9 (B8 (G0 (C8f hr.units) (B9q (pv 2) C.cl mf gf hr bf .nil hx) (U2 HU (pv 1) B0 (fun _ _ => rfl)) (B9 _)))))))))), ?_⟩
   have z3 : 3 <= sizeLine := C7 (by decide)
   have z4 : 4 <= sizeLine := C7 (by decide)
   refine ⟨fun σ' H' => ∃ d u t r y l m up tr, Same H H' /\ FrameOk r l m /\ SubS up /\ SubS tr /\ OwnAt H' d u t r y l m up tr /\ σ' = [some (.ref sc), some (.ref d), none, none, none, none, none, none, none], ?_, ?_⟩
   . exact ⟨_, rfl, sc, ns, 0, rfl, hS, by decide, fun c0 => ⟨c0, rfl, fun d u t r y l m up tr H' s' _ _ _ fr su st ow => ⟨d, u, t, r, y, l, m, up, tr, s', fr, su, st, ow, rfl⟩⟩⟩
   rintro σ' H1 ⟨d, u, t, r, y, l, m, up, tr, s1, fr, su, st, ow1, rfl⟩
   refine ⟨fun σ' H' => ∃ c a b, Held CN CC CT P0 D8u D9e K sc ns d t c b r y l m up tr H' a u /\ σ' = [some (.ref sc), some (.ref d), some (.ref c), none, none, none, none, none, none], ?_, ?_⟩
   . exact ⟨_, rfl, d, u, t, r, y, l, m, up, tr, rfl, ow1, fr, su, st, fun c a b H' s' _ hc => ⟨c, a, b, ⟨ow1.same s', hc, V3j ((s1.trans s') _ _ hP), (s1.trans s').seq hS⟩, rfl⟩⟩
   rintro σ' H2 ⟨c, a, b, h2, rfl⟩
   refine ⟨fun σ' H' => ∃ (x1 x2 : Nm) (q1 q2 : Addr), Held CN CC CT P0 D8u D9e K sc ns d t c b r y l m up tr H' a u /\ x1.Wf /\ x2.Wf /\ H' q1 = some (.tup x1.vs) /\ H' q2 = some (.tup x2.vs) /\ σ' = [some (.ref sc), some (.ref d), some (.ref c), some (.ref q1), some (.ref q2), none, none, none, none], ?_, ?_⟩
   . exact ⟨_, rfl, _, rfl, sc, ns, d, u, t, r, y, l, m, up, tr, rfl, h2.scr, h2.own, fr, fun p q1 q2 x1 x2 H' s' ep e1 e2 w1 w2 => ⟨p, _, rfl, SqT.of ep, rfl, _, _, rfl, _, _, rfl, rfl, x1, x2, q1, q2, h2.same s', w1, w2, e1, e2, rfl⟩⟩
   rintro σ' H4 ⟨x1, x2, q1, q2, h4, w1, w2, e1, e2, rfl⟩
   refine ⟨fun σ' H' => ∃ n1, Held CN CC CT P0 D8u D9e K sc ns d t c b r y l m up tr H' a u /\ n1 ≠ c /\ NumIs CN H' n1 x1 /\ H' q1 = some (.tup x1.vs) /\ H' q2 = some (.tup x2.vs) /\ σ' = [some (.ref sc), some (.ref d), some (.ref c), some (.ref q1), some (.ref q2), some (.ref n1), none, none, none], ?_, ?_⟩
   . refine ⟨_, rfl, q1, x1, rfl, e1, w1, fun n H' nn s' num => ⟨n, h4.same s', ?_, num, s' _ _ e1, s' _ _ e2, rfl⟩⟩
     obtain ⟨dx, ec⟩ := h4.ctx.ins
     exact Ne.symm (C5 ec nn)
   rintro σ' H5 ⟨n1, h5, nc1, num1, e1, e2, rfl⟩
   refine ⟨fun σ' H' => ∃ n2, Held CN CC CT P0 D8u D9e K sc ns d t c b r y l m up tr H' a u /\ n2 ≠ c /\ Pair2 CN H' q1 q2 n1 n2 x1 x2 /\ σ' = [some (.ref sc), some (.ref d), some (.ref c), some (.ref q1), some (.ref q2), some (.ref n1), some (.ref n2), none, none], ?_, ?_⟩
   . refine ⟨_, rfl, q2, x2, rfl, e2, w2, fun n H' nn s' num => ⟨n, h5.same s', ?_, ⟨s' _ _ e1, s' _ _ e2, num1.same s', num⟩, rfl⟩⟩
     obtain ⟨dx, ec⟩ := h5.ctx.ins
     exact Ne.symm (C5 ec nn)
   rintro σ' H6 ⟨n2, h6, nc2, pr6, rfl⟩
   have ok : (Cv.mk r y l m).Ok := ⟨fr.r1, fr.r2, fr.l1, fr.l2, fr.m1, fr.m2⟩
   refine ⟨fun σ' H' => ∃ a u up v7 v8, Held CN CC CT P0 D8u D9e K sc ns d t c b r y l m up tr H' a u /\ σ' = [some (.ref sc), some (.ref d), some (.ref c), some (.ref q1), some (.ref q2), some (.ref n1), some (.ref n2), v7, v8], ?_, ?_⟩
   . refine ⟨_, rfl, _, rfl, _, rfl, _, rfl, z4, fun t1 m1 => ⟨_, rfl, _, rfl, _, rfl, _, rfl, z4, fun t2 m2 => ⟨_, rfl, _, rfl, _, rfl, _, rfl, z4, fun t3 m3 => ⟨z3, fun lp nl => ?_⟩⟩⟩⟩
     have u1 := Same.upd (o := .tup [.ref q1, .ref q2, .ref n1, .ref n2]) m1
     have u2 := Same.upd (o := .tup [.ref q2, .ref q1, .ref n2, .ref n1]) m2
     have u3 := Same.upd (o := .tup [.ref q1, .ref q2, .ref n1, .ref n2]) m3
     have u4 := Same.upd (o := .lst [.ref t1, .ref t2, .ref t3]) nl
     have g1 := (u2.trans (u3.trans u4)) _ _ (A6 (H := H6) (a := t1) (o := .tup [.ref q1, .ref q2, .ref n1, .ref n2]))
     have g2 := (u3.trans u4) _ _ (A6 (a := t2) (o := .tup [.ref q2, .ref q1, .ref n2, .ref n1]))
     have g3 := u4 _ _ (A6 (a := t3) (o := .tup [.ref q1, .ref q2, .ref n1, .ref n2]))
     have u14 := u1.trans (u2.trans (u3.trans u4))
     have h7 := h6.same u14
     have pr7 := pr6.same u14
     refine ⟨lp, rfl, ⟨_, SqL.of A6⟩, A3r (xs := [.ref t1, .ref t2, .ref t3]) (fun i σ' H' => ∃ a u up v7 v8, SubS up /\ Held CN CC CT P0 D8u D9e K sc ns d t c b r y l m up tr H' a u /\ Pair2 CN H' q1 q2 n1 n2 x1 x2 /\ H' t1 = some (.tup [.ref q1, .ref q2, .ref n1, .ref n2]) /\ H' t2 = some (.tup [.ref q2, .ref q1, .ref n2, .ref n1]) /\ H' t3 = some (.tup [.ref q1, .ref q2, .ref n1, .ref n2]) /\ H' lp = some (.lst [.ref t1, .ref t2, .ref t3]) /\ σ' = [some (.ref sc), some (.ref d), some (.ref c), some (.ref q1), some (.ref q2), some (.ref n1), some (.ref n2), v7, v8]) ⟨a, u, up, none, none, su, h7, pr7, g1, g2, g3, A6, rfl⟩ ?_ ?_ ?_⟩
     . rintro i σ' H' _ ⟨_, _, _, _, _, _, _, _, _, _, _, e, _⟩
       exact SqL.of e
     . clear h7 pr7 g1 g2 g3 u1 u2 u3 u4 u14 h6 pr6 h5 num1 e1 e2 h4
       rintro i x σ' H7 hi ⟨a, u, up, v7, v8, su, h7, pr7, g1, g2, g3, g4, rfl⟩
       obtain ⟨p, qa, qb, na, nb, xa, xb, rfl, ep, pr, wa, wb, ca, cb⟩ : ∃ p qa qb na nb xa xb, x = V.ref p /\ H7 p = some (.tup [.ref qa, .ref qb, .ref na, .ref nb]) /\ Pair2 CN H7 qa qb na nb xa xb /\ xa.Wf /\ xb.Wf /\ na ≠ c /\ nb ≠ c := by
         rcases i with _ | _ | _ | i
         . cases hi
           exact ⟨t1, q1, q2, n1, n2, x1, x2, rfl, g1, pr7, w1, w2, nc1, nc2⟩
         . cases hi
           exact ⟨t2, q2, q1, n2, n1, x2, x1, rfl, g2, pr7.swap, w2, w1, nc2, nc1⟩
         . cases hi
           exact ⟨t3, q1, q2, n1, n2, x1, x2, rfl, g3, pr7, w1, w2, nc1, nc2⟩
         . cases hi
       obtain ⟨L, hL⟩ := V9g xa xb wa wb
       refine ⟨fun σ' H' => ∃ q zs, Same H7 H' /\ V6y H' q (A1a ⟨r, y, l, m⟩ xa xb L).1 zs /\ zs.length <= 10 /\ (∀ z, z ∈ zs ↔ z ∈ (A1a ⟨r, y, l, m⟩ xa xb L).2) /\ σ' = [some (.ref sc), some (.ref d), some (.ref c), some (.ref q1), some (.ref q2), some (.ref n1), some (.ref n2), some (.ref p), some (.ref q)], ?_, ?_⟩
       . exact ⟨_, rfl, _, rfl, p, _, _, _, rfl, rfl, SqT.of ep, G7 (j := 0) rfl, _, rfl, p, _, _, _, rfl, rfl, SqT.of ep, G7 (j := 1) rfl, d, u, t, r, y, l, m, up, tr, qa, qb, xa, xb, L, rfl, h7.own, fr, pr.q1, pr.q2, wa, wb, hL, fun q zs H' s' du lz hz => ⟨q, zs, s', du, lz, hz, rfl⟩⟩
       rintro σ' H8 ⟨q, zs, s8, ⟨dt, dl, edq, edt, edl⟩, lz, hz, rfl⟩
       have h8 := h7.same s8
       have pr8 := pr.same s8
       have pp8 := pr7.same s8
       have ep8 := s8 _ _ ep
       have g1 := s8 _ _ g1
       have g2 := s8 _ _ g2
       have g3 := s8 _ _ g3
       have g4 := s8 _ _ g4
       refine ⟨fun σ' H' => ∃ a u up, SubS up /\ Held CN CC CT P0 D8u D9e K sc ns d t c b r y l m up tr H' a u /\ Pair2 CN H' q1 q2 n1 n2 x1 x2 /\ H' t1 = some (.tup [.ref q1, .ref q2, .ref n1, .ref n2]) /\ H' t2 = some (.tup [.ref q2, .ref q1, .ref n2, .ref n1]) /\ H' t3 = some (.tup [.ref q1, .ref q2, .ref n1, .ref n2]) /\ H' lp = some (.lst [.ref t1, .ref t2, .ref t3]) /\ σ' = [some (.ref sc), some (.ref d), some (.ref c), some (.ref q1), some (.ref q2), some (.ref n1), some (.ref n2), some (.ref p), some (.ref q)], ?_, ?_⟩
       . refine ⟨_, rfl, _, rfl, h8.tab, fun fl H9 sT nf la tab9 _ => ⟨_, rfl, fun hn H10 ho A10 kn => ?_⟩⟩
         have xok := J8b (v := ⟨r, y, l, m⟩) ok wa wb hL
         have lup : up.length <= 900 := Nat.le_trans su.len (by decide)
         have oup : U7 up = up := B8q su (fun z => Iff.rfl)
         have DO := V2y (P := P) (w := w) (K := K) (mg := mg) (base := base) (k := 7) (vs := [.ref p, .ref c]) (sp := V4m CN CC CT c p qa qb na nb ⟨r, y, l, m⟩ b up tr xa xb L) la (show LamS ["_law_pair_here", "_law_context_here"] _ from ⟨rfl, rfl, rfl, by decide +kernel, by decide +kernel, by decide +kernel, by decide +kernel⟩) rfl (V8a _) (fun _ _ _ => rfl) (fun X cdv A' outer' s' H' Q' E' hX hr' hx' hsp af => by
           subst hX
           obtain ⟨⟨a', hc'⟩, ep', tw', k'⟩ := hsp
           refine ⟨_, C8 D_same_power G_same_power hr' hx' (A0 (pv 1) (A0 (D7 D4 (pv 0) A1 (fun _ _ => rfl)) (A0 (D7 D4 (pv 0) A1 (fun _ _ => rfl)) A8))), ?_⟩
           have ep'' := af.hide ep' (fun _ z => by cases z)
           exact ⟨_, rfl, _, rfl, p, _, _, _, rfl, rfl, SqT.of ep'', G7 (j := 2) rfl, _, rfl, p, _, _, _, rfl, rfl, SqT.of ep'', G7 (j := 3) rfl, c, ⟨r, y, l, m⟩, a', b, up, tr, na, nb, xa, xb, L, rfl, CtxAt.hide hc' af, ok, lup, oup, ⟨tw'.1.hide af, tw'.2.hide af⟩, wa.ok, wb.ok, hL, k'.hide⟩)
         refine V4f h8 su st sT tab9 la hn ho A10 (fun j x' c' hj => ?_) edq edt edl (by omega) xok DO (fun H' kp x' hc' Qd Ed g h => ?_) (fun a' u' H11 x11 h11 _ => ?_)
         . rcases j with _ | _ | j
           . exact ⟨_, rfl, kn 0 x' c' 7 _ hj rfl rfl⟩
           . exact ⟨_, rfl, kn 1 x' c' 2 _ hj rfl rfl⟩
           . cases hj
         . have ed := h8.own.d
           have nu : ∀ {n x}, NumIs CN H8 n x -> NumIs CN H' n x := fun {n x} hn => by
             obtain ⟨dx, z⟩ := hn.keep kp
             obtain ⟨dx', z'⟩ := hn
             exact ⟨dx, x' _ _ z (J1 z' ed (by intro z; cases z))⟩
           exact ⟨⟨a, hc'⟩, x' _ _ (kp _ _ (fun _ z => by cases z) ep8) (J1 ep8 ed (by intro z; cases z)), ⟨nu pr8.n1, nu pr8.n2⟩, V2g hz g h⟩
         . obtain ⟨ps, eP, _⟩ := h8.tab
           have k9 := sT.keep eP
           obtain ⟨dx, ec⟩ := (h8.ctx.keep k9).ins
           have ed := (h8.own.keep k9).d
           have tp := fun {q : Addr} {xs : List V} (e : H8 q = some (.tup xs)) => B9m (k9 _ _ (fun _ z => by cases z) e) x11 ec ed
           have g4' := k9 _ _ (fun _ z => by cases z) g4
           exact ⟨_, rfl, U4 ⟨a', u', _, V2b _, h11, (pp8.keep k9).exc2 x11 nc1 nc2 ec ed, tp g1, tp g2, tp g3, x11 _ _ g4' (J1 g4' ec (by intro z; cases z)) (J1 g4' ed (by intro z; cases z)), rfl⟩⟩
       rintro σ' H9 ⟨a, u, up, su, h9, pr9, g1, g2, g3, g4, rfl⟩
       refine ⟨_, ?_, fun _ _ h => h⟩
       refine ⟨_, rfl, _, rfl, Or.inl ⟨n1, _, _, _, _, rfl, pr9.n1, fun z nz => ⟨_, rfl, A4p x1.k.str x1.s x1.f x1.p, A4p x1.k.str x1.s x1.f x1.p, rdD A6, rdD ((Same.upd nz) _ _ pr9.q1), shD _ _ _ (okK _), shD _ _ _ (okK _), _, rfl, ?_⟩⟩⟩
       rw [if_pos rfl, eqD]
       have uz := Same.upd (o := .tup x1.vs) nz
       refine U4 ⟨_, rfl, _, rfl, Or.inl ⟨n2, _, _, _, _, rfl, pr9.n2.same uz, fun z2 nz2 => ⟨_, rfl, A4p x2.k.str x2.s x2.f x2.p, A4p x2.k.str x2.s x2.f x2.p, rdD A6, rdD ((uz.trans (Same.upd nz2)) _ _ pr9.q2), shD _ _ _ (okK _), shD _ _ _ (okK _), _, rfl, ?_⟩⟩⟩
       rw [if_pos rfl, eqD]
       have u2 := uz.trans (Same.upd (o := .tup x2.vs) nz2)
       exact U4 ⟨a, u, up, _, _, su, h9.same u2, pr9.same u2, u2 _ _ g1, u2 _ _ g2, u2 _ _ g3, u2 _ _ g4, rfl⟩
     . rintro σ' H7 ⟨a, u, up, v7, v8, _, h7, _, _, _, _, _, rfl⟩
       exact ⟨a, u, up, v7, v8, h7, rfl⟩
   rintro σ' H7 ⟨a, u, up, v7, v8, h7, rfl⟩
   obtain ⟨dx, ec⟩ := h7.ctx.ins
   refine ⟨_, rfl, c, dx, _, rfl, ec, C7v _ _ _ _ _ _, c, r, y, l, m, a, b, _, _, rfl, h7.ctx, fun l2 n2 => ⟨_, rfl, d, _, rfl, (h7.own.same (Same.upd n2)).gTr, ?_⟩⟩
   have okT : OkL tr := ⟨Nat.le_trans st.len (by decide), fun z hz => J0g z (st.mem z hz)⟩
   refine ⟨rdS tr, rdS tr, B2v A6, B2v (h7.own.same (Same.upd n2)).t, shS okT, shS okT, ?_⟩
   rw [if_neg Bool.false_ne_true, V8d]
   exact kk _
end
end TR
namespace TR
open PySem L2 PySem.W PyProof.Rows
theorem all_mk {cc P0 : Addr} {l : OpenLaw} {w : World} {K : Frag} {h : Heap} {mg : Str -> Option Value} {fa CW W0 A3z W1 A4a W2 A3u W3 A3x W4 A3v W5 A4b W6 A3t W7 A3y CN C6u Z6 A0b Z5 A0a Z3 Z4 Z8 Z9 CC C6x U5y A2r A0t A9e A2q A3w A0u CQ C7f U3r B2t CE C1 C2 C3 CR fX aS B3t C9d C0x D0y U0e B5v G1n G2m D2p B1a D2j U8q B5x A7z C1f B5n B5h G2d A8c C8u B4s B6g D0v B6u D0g C9y G1e D0e U8b B5j B9y G3d G1p B1c C8z D1g C0q V0k V0a D3c U9y : Addr} (X : K.In h) (G : h.Ns mainGlobals mg) (hfa : mg "law" = some (.ref fa))
   {G4b G5n : Option Addr} {G7h : Array (Option Value)} {G6r G7e G7x G2z C1r G5w : Value}
   (B6n : nsIn K mainGlobals "product_of" = some (some (.ref B3t))) (B4k : K.lookup B3t = some ⟨G6r, G4b, .func (fnOf "product_of" "product_of" (B5 Y7) (B1 Y7) (A3 Y7) .none G7e G7x G2z G5n C1r G5w), G7h⟩) (B5y : codeIn K C1r "product_of" = true) (B6d : keepIn K (.ref B3t) = true)
   {V0r U5z : Option Addr} {U1c : Array (Option Value)} {U9n U8e U5f U3w D6g J9t : Value}
   (D2s : nsIn K mainGlobals "ten_to" = some (some (.ref C9d))) (D1f : K.lookup C9d = some ⟨U9n, V0r, .func (fnOf "ten_to" "ten_to" (B5 A4c) (B1 A4c) (A3 A4c) .none U8e U5f U3w U5z D6g J9t), U1c⟩) (C8w : codeIn K D6g "ten_to" = true) (C8y : keepIn K (.ref C9d) = true)
   {J3j J4k : Option Addr} {J3b : Array (Option Value)} {J3r J4b J5e J3u C7c J4j : Value}
   (C0y : nsIn K mainGlobals "part_of" = some (some (.ref C0x))) (C0s : K.lookup C0x = some ⟨J3r, J3j, .func (fnOf "part_of" "part_of" (B5 A4e) (B1 A4e) (A3 A4e) .none J4b J5e J3u J4k C7c J4j), J3b⟩) (B9w : codeIn K C7c "part_of" = true) (C0j : keepIn K (.ref C0x) = true)
   {U0n J9r : Option Addr} {U2h : Array (Option Value)} {J9v V1d V1j U6a D7v U9j : Value}
   (D1b : nsIn K mainGlobals "plain" = some (some (.ref D0y))) (D3j : K.lookup D0y = some ⟨J9v, U0n, .func (fnOf "plain" "plain" (B5 B0z) (B1 B0z) (A3 B0z) .none V1d V1j U6a J9r D7v U9j), U2h⟩) (C9n : codeIn K D7v "plain" = true) (D2y : keepIn K (.ref D0y) = true)
   {Y1z Y0k : Option Addr} {Y1t : Array (Option Value)} {Y2e Y0v Y2n Y1u U1h Y0s : Value}
   (U9g : nsIn K mainGlobals "end" = some (some (.ref U0e))) (U0j : K.lookup U0e = some ⟨Y2e, Y1z, .func (fnOf "end" "end" (B5 D9y) (B1 D9y) (A3 D9y) .none Y0v Y2n Y1u Y0k U1h Y0s), Y1t⟩) (U0p : codeIn K U1h "end" = true) (J9n : keepIn K (.ref U0e) = true)
   {G2k G6h : Option Addr} {G0r : Array (Option Value)} {G2q G8w G6c G6k C1p G1c : Value}
   (B4r : nsIn K mainGlobals "nothing" = some (some (.ref B5v))) (B6a : K.lookup B5v = some ⟨G2q, G2k, .func (fnOf "nothing" "nothing" (B5 Z2) (B1 Z2) (A3 Z2) .none G8w G6c G6k G6h C1p G1c), G0r⟩) (B3v : codeIn K C1p "nothing" = true) (B6x : keepIn K (.ref B5v) = true)
   {V6k V4s : Option Addr} {V6u : Array (Option Value)} {V4w V5e V5s V6j J0w V5h : Value}
   (G5d : nsIn K mainGlobals "told" = some (some (.ref G1n))) (G4x : K.lookup G1n = some ⟨V4w, V6k, .func (fnOf "told" "told" (B5 B7c) (B1 B7c) (A3 B7c) .none V5e V5s V6j V4s J0w V5h), V6u⟩) (G5y : codeIn K J0w "told" = true) (G2g : keepIn K (.ref G1n) = true)
   {V6b V5v : Option Addr} {V5x : Array (Option Value)} {V4z V6q V5p V5a J0q V5u : Value}
   (G2s : nsIn K mainGlobals "lead_of" = some (some (.ref G2m))) (G4m : K.lookup G2m = some ⟨V4z, V6b, .func (fnOf "lead_of" "lead_of" (B5 B7g) (B1 B7g) (A3 B7g) .none V6q V5p V5a V5v J0q V5u), V5x⟩) (G5f : codeIn K J0q "lead_of" = true) (G1z : keepIn K (.ref G2m) = true)
   {U8u U3j : Option Addr} {V1k : Array (Option Value)} {U2f U4q J9p U1u D7f U0z : Value}
   (D0c : nsIn K mainGlobals "need_number" = some (some (.ref D2p))) (C9j : K.lookup D2p = some ⟨U2f, U8u, .func (fnOf "need_number" "need_number" (B5 A7a) (B1 A7a) (A3 A7a) .none U4q J9p U1u U3j D7f U0z), V1k⟩) (D2r : codeIn K D7f "need_number" = true) (D0r : keepIn K (.ref D2p) = true)
   {D6z D6b : Option Addr} {D7r : Array (Option Value)} {D5w D5t D6h D5v B7n D6x : Value}
   (B1u : nsIn K mainGlobals "need_numbers" = some (some (.ref B1a))) (B1p : K.lookup B1a = some ⟨D5w, D6z, .func (fnOf "need_numbers" "need_numbers" (B5 A4q) (B1 A4q) (A3 A4q) .none D5t D6h D5v D6b B7n D6x), D7r⟩) (B1j : codeIn K B7n "need_numbers" = true) (B1w : keepIn K (.ref B1a) = true)
   {U4j U1e : Option Addr} {U4y : Array (Option Value)} {U6y J8w U2r J9b D6a V0y : Value}
   (D0p : nsIn K mainGlobals "some_of_kind" = some (some (.ref D2j))) (D0q : K.lookup D2j = some ⟨U6y, U4j, .func (fnOf "some_of_kind" "some_of_kind" (B5 B0y) (B1 B0y) (A3 B0y) .none J8w U2r J9b U1e D6a V0y), U4y⟩) (D1u : codeIn K D6a "some_of_kind" = true) (D2g : keepIn K (.ref D2j) = true)
   {Y1a Y2r : Option Addr} {Y3c : Array (Option Value)} {Y1h Y2v Y2t V9x U5d Y0w : Value}
   (J8x : nsIn K mainGlobals "is_between" = some (some (.ref U8q))) (U2j : K.lookup U8q = some ⟨Y1h, Y1a, .func (fnOf "is_between" "is_between" (B5 C1z) (B1 C1z) (A3 C1z) .none Y2v Y2t V9x Y2r U5d Y0w), Y3c⟩) (U5m : codeIn K U5d "is_between" = true) (V0m : keepIn K (.ref U8q) = true)
   {G8t G3z : Option Addr} {G7p : Array (Option Value)} {G5z G3u G8c G2c C0d G3h : Value}
   (B4v : nsIn K mainGlobals "need_between" = some (some (.ref B5x))) (B4n : K.lookup B5x = some ⟨G5z, G8t, .func (fnOf "need_between" "need_between" (B5 A0q) (B1 A0q) (A3 A0q) .none G3u G8c G2c G3z C0d G3h), G7p⟩) (B5r : codeIn K C0d "need_between" = true) (B4c : keepIn K (.ref B5x) = true)
   {D3s C9m : Option Addr} {D0z : Array (Option Value)} {D2k C9q D2e C9u B2p C9z : Value}
   (A8s : nsIn K mainGlobals "neighbour" = some (some (.ref A7z))) (A8f : K.lookup A7z = some ⟨D2k, D3s, .func (fnOf "neighbour" "neighbour" (B5 Y0) (B1 Y0) (A3 Y0) .none C9q D2e C9u C9m B2p C9z), D0z⟩) (A8t : codeIn K B2p "neighbour" = true) (A9d : keepIn K (.ref A7z) = true)
   {J3c J3v : Option Addr} {J3n : Array (Option Value)} {J3s J3g J4h J4p C6w J4g : Value}
   (C0z : nsIn K mainGlobals "is_beyond" = some (some (.ref C1f))) (B9x : K.lookup C1f = some ⟨J3s, J3c, .func (fnOf "is_beyond" "is_beyond" (B5 A2x) (B1 A2x) (A3 A2x) .none J3g J4h J4p J3v C6w J4g), J3n⟩) (C0a : codeIn K C6w "is_beyond" = true) (C1b : keepIn K (.ref C1f) = true)
   {G6d G3f : Option Addr} {G1t : Array (Option Value)} {G4n G7j G7z G5v C1j G1f : Value}
   (B3w : nsIn K mainGlobals "signals_of_rest" = some (some (.ref B5n))) (B4z : K.lookup B5n = some ⟨G4n, G6d, .func (fnOf "signals_of_rest" "signals_of_rest" (B5 A2e) (B1 A2e) (A3 A2e) .none G7j G7z G5v G3f C1j G1f), G1t⟩) (B4t : codeIn K C1j "signals_of_rest" = true) (B4w : keepIn K (.ref B5n) = true)
   {G2e G0z : Option Addr} {G0w : Array (Option Value)} {G5s G0y G8x G8j C1h G6u : Value}
   (B3s : nsIn K mainGlobals "signals_of_lead" = some (some (.ref B5h))) (B4m : K.lookup B5h = some ⟨G5s, G2e, .func (fnOf "signals_of_lead" "signals_of_lead" (B5 A1z) (B1 A1z) (A3 A1z) .none G0y G8x G8j G0z C1h G6u), G0w⟩) (B5w : codeIn K C1h "signals_of_lead" = true) (B5e : keepIn K (.ref B5h) = true)
   {V6f V5n : Option Addr} {V6s : Array (Option Value)} {V4y V4t V6m V6a J0t V5w : Value}
   (G5j : nsIn K mainGlobals "void" = some (some (.ref G2d))) (G8k : K.lookup G2d = some ⟨V4y, V6f, .func (fnOf "void" "void" (B5 B7e) (B1 B7e) (A3 B7e) .none V4t V6m V6a V5n J0t V5w), V6s⟩) (G1k : codeIn K J0t "void" = true) (G0t : keepIn K (.ref G2d) = true)
   {C9x D3r : Option Addr} {D1k : Array (Option Value)} {D2x D2z D3g D1h B2r D3a : Value}
   (A8x : nsIn K mainGlobals "same_power" = some (some (.ref A8c))) (A8u : K.lookup A8c = some ⟨D2x, C9x, .func (fnOf "same_power" "same_power" (B5 Y5) (B1 Y5) (A3 Y5) .none D2z D3g D1h D3r B2r D3a), D1k⟩) (A8n : codeIn K B2r "same_power" = true) (A8b : keepIn K (.ref A8c) = true)
   {V0x U2t : Option Addr} {U2c : Array (Option Value)} {U5p U8x U1n U5a D6t U3y : Value}
   (D0d : nsIn K mainGlobals "moved" = some (some (.ref C8u))) (D3p : K.lookup C8u = some ⟨U5p, V0x, .func (fnOf "moved" "moved" (B5 B0x) (B1 B0x) (A3 B0x) .none U8x U1n U5a U2t D6t U3y), U2c⟩) (D2h : codeIn K D6t "moved" = true) (C9b : keepIn K (.ref C8u) = true)
   {G7a G6s : Option Addr} {G1v : Array (Option Value)} {G7q G1d G7m G7k C0u G2h : Value}
   (B3y : nsIn K mainGlobals "parts_at" = some (some (.ref B4s))) (B3n : K.lookup B4s = some ⟨G7q, G7a, .func (fnOf "parts_at" "parts_at" (B5 A2k) (B1 A2k) (A3 A2k) .none G1d G7m G7k G6s C0u G2h), G1v⟩) (B6c : codeIn K C0u "parts_at" = true) (B6m : keepIn K (.ref B4s) = true)
   {G4s G6w : Option Addr} {G8b : Array (Option Value)} {G1g G5b G7d G2u B9s G4y : Value}
   (B6b : nsIn K mainGlobals "signals_of_move" = some (some (.ref B6g))) (B5b : K.lookup B6g = some ⟨G1g, G4s, .func (fnOf "signals_of_move" "signals_of_move" (B5 A1u) (B1 A1u) (A3 A1u) .none G5b G7d G2u G6w B9s G4y), G8b⟩) (B4x : codeIn K B9s "signals_of_move" = true) (B6r : keepIn K (.ref B6g) = true)
   {U4u U0q : Option Addr} {U1k : Array (Option Value)} {U1x U4h U7a U2p D6m U6k : Value}
   (D1v : nsIn K mainGlobals "way_of" = some (some (.ref D0v))) (D1y : K.lookup D0v = some ⟨U1x, U4u, .func (fnOf "way_of" "way_of" (B5 A7c) (B1 A7c) (A3 A7c) .none U4h U7a U2p U0q D6m U6k), U1k⟩) (D1r : codeIn K D6m "way_of" = true) (C9r : keepIn K (.ref D0v) = true)
   {G4t G1h : Option Addr} {G5p : Array (Option Value)} {G6b G4g G3r G2w C0r G6e : Value}
   (B3r : nsIn K mainGlobals "bounded" = some (some (.ref B6u))) (B5z : K.lookup B6u = some ⟨G6b, G4t, .func (fnOf "bounded" "bounded" (B5 A1y) (B1 A1y) (A3 A1y) .none G4g G3r G2w G1h C0r G6e), G5p⟩) (B6p : codeIn K C0r "bounded" = true) (B6k : keepIn K (.ref B6u) = true)
   {J8y U1z : Option Addr} {J9e : Array (Option Value)} {U8g V0s U4a U6z D5u U3x : Value}
   (D1q : nsIn K mainGlobals "need_signals" = some (some (.ref D0g))) (C8t : K.lookup D0g = some ⟨U8g, J8y, .func (fnOf "need_signals" "need_signals" (B5 A7w) (B1 A7w) (A3 A7w) .none V0s U4a U6z U1z D5u U3x), J9e⟩) (C9s : codeIn K D5u "need_signals" = true) (D3b : keepIn K (.ref D0g) = true)
   {U4x U0t : Option Addr} {U6q : Array (Option Value)} {V1f U4k V0g U2g D6v U3m : Value}
   (D0w : nsIn K mainGlobals "in_order" = some (some (.ref C9y))) (C8x : K.lookup C9y = some ⟨V1f, U4x, .func (fnOf "in_order" "in_order" (B5 A7r) (B1 A7r) (A3 A7r) .none U4k V0g U2g U0t D6v U3m), U6q⟩) (D2b : codeIn K D6v "in_order" = true) (D3q : keepIn K (.ref C9y) = true)
   {V6c V5f : Option Addr} {V5d : Array (Option Value)} {V5z V6r V6e V5q J0n V5b : Value}
   (G0x : nsIn K mainGlobals "_law_cell_at" = some (some (.ref G1e))) (G1x : K.lookup G1e = some ⟨V5z, V6c, .func (fnOf "_law_cell_at" "_law_cell_at" (B5 B7f) (B1 B7f) (A3 B7f) .none V6r V6e V5q V5f J0n V5b), V5d⟩) (G6z : codeIn K J0n "_law_cell_at" = true) (G1w : keepIn K (.ref G1e) = true)
   {U7y U3g : Option Addr} {V0h : Array (Option Value)} {U7e U2d U7m U4r D6n J9d : Value}
   (D2u : nsIn K mainGlobals "_law_mixed" = some (some (.ref D0e))) (D1a : K.lookup D0e = some ⟨U7e, U7y, .func (fnOf "_law_mixed" "_law_mixed" (B5 A4k) (B1 A4k) (A3 A4k) .none U2d U7m U4r U3g D6n J9d), V0h⟩) (D2m : codeIn K D6n "_law_mixed" = true) (D3h : keepIn K (.ref D0e) = true)
   {Y2x Y3e : Option Addr} {Y2f : Array (Option Value)} {Y0f Y2z Y1s Y0h U5w Y1c : Value}
   (U6h : nsIn K mainGlobals "_law_ten" = some (some (.ref U8b))) (U7t : K.lookup U8b = some ⟨Y0f, Y2x, .func (fnOf "_law_ten" "_law_ten" (B5 B7k) (B1 B7k) (A3 B7k) .none Y2z Y1s Y0h Y3e U5w Y1c), Y2f⟩) (J8v : codeIn K U5w "_law_ten" = true) (U4p : keepIn K (.ref U8b) = true)
   {G3c G3x : Option Addr} {G2b : Array (Option Value)} {G2j G8p G4k G7w B9r G4a : Value}
   (B5m : nsIn K mainGlobals "_law_figures" = some (some (.ref B5j))) (B3m : K.lookup B5j = some ⟨G2j, G3c, .func (fnOf "_law_figures" "_law_figures" (B5 A0f) (B1 A0f) (A3 A0f) .none G8p G4k G7w G3x B9r G4a), G2b⟩) (B4d : codeIn K B9r "_law_figures" = true) (B3k : keepIn K (.ref B5j) = true)
   {J3q J3m : Option Addr} {J4y : Array (Option Value)} {J4a J4r J3y J4f C6z J3x : Value}
   (C0m : nsIn K mainGlobals "_law_number" = some (some (.ref B9y))) (C0b : K.lookup B9y = some ⟨J4a, J3q, .func (fnOf "_law_number" "_law_number" (B5 A1x) (B1 A1x) (A3 A1x) .none J4r J3y J4f J3m C6z J3x), J4y⟩) (B9u : codeIn K C6z "_law_number" = true) (B9t : keepIn K (.ref B9y) = true)
   {V4x V5k : Option Addr} {V5c : Array (Option Value)} {V4v V4u V6n V4q J0u V4r : Value}
   (G0s : nsIn K mainGlobals "_law_made" = some (some (.ref G3d))) (G4h : K.lookup G3d = some ⟨V4v, V4x, .func (fnOf "_law_made" "_law_made" (B5 B0u) (B1 B0u) (A3 B0u) .none V4u V6n V4q V5k J0u V4r), V5c⟩) (G6y : codeIn K J0u "_law_made" = true) (G2n : keepIn K (.ref G3d) = true)
   {V6h V6t : Option Addr} {V5t : Array (Option Value)} {V5g V5m V5r V5j J0v V6d : Value}
   (G3a : nsIn K mainGlobals "_law_own" = some (some (.ref G1p))) (G6a : K.lookup G1p = some ⟨V5g, V6h, .func (fnOf "_law_own" "_law_own" (B5 B9g) (B1 B9g) (A3 B9g) .none V5m V5r V5j V6t J0v V6d), V5t⟩) (G8s : codeIn K J0v "_law_own" = true) (G8n : keepIn K (.ref G1p) = true)
   {D7c D6q : Option Addr} {D6u : Array (Option Value)} {D7d D7q D6f D7j B7q D6p : Value}
   (B2c : nsIn K mainGlobals "_law_context" = some (some (.ref B1c))) (B1r : K.lookup B1c = some ⟨D7d, D7c, .func (fnOf "_law_context" "_law_context" (B5 A0e) (B1 A0e) (A3 A0e) .none D7q D6f D7j D6q B7q D6p), D6u⟩) (B1t : codeIn K B7q "_law_context" = true) (B1m : keepIn K (.ref B1c) = true)
   {U8p J9x : Option Addr} {U6j : Array (Option Value)} {U9e U6r U0b U7c D6k J8z : Value}
   (D2q : nsIn K mainGlobals "_law_goes_up" = some (some (.ref C8z))) (D0j : K.lookup C8z = some ⟨U9e, U8p, .func (fnOf "_law_goes_up" "_law_goes_up" (B5 B0q) (B1 B0q) (A3 B0q) .none U6r U0b U7c J9x D6k J8z), U6j⟩) (D3d : codeIn K D6k "_law_goes_up" = true) (D1n : keepIn K (.ref C8z) = true)
   {U8n U5s : Option Addr} {J9z : Array (Option Value)} {U1g U1p U7v U6g D5y U3u : Value}
   (D2t : nsIn K mainGlobals "_law_tried" = some (some (.ref D1g))) (C9e : K.lookup D1g = some ⟨U1g, U8n, .func (fnOf "_law_tried" "_law_tried" (B5 A4s) (B1 A4s) (A3 A4s) .none U1p U7v U6g U5s D5y U3u), J9z⟩) (D0b : codeIn K D5y "_law_tried" = true) (D0m : keepIn K (.ref D1g) = true)
   {J3t J3f : Option Addr} {J4x : Array (Option Value)} {J4z J4e J3k J3h C7b J5d : Value}
   (C1n : nsIn K mainGlobals "_law_stands" = some (some (.ref C0q))) (C0p : K.lookup C0q = some ⟨J4z, J3t, .func (fnOf "_law_stands" "_law_stands" (B5 A2d) (B1 A2d) (A3 A2d) .none J4e J3k J3h J3f C7b J5d), J4x⟩) (C1m : codeIn K C7b "_law_stands" = true) (C0c : keepIn K (.ref C0q) = true)
   {Y0q Y0g : Option Addr} {Y0z : Array (Option Value)} {Y0x Y0m Y1g Y2g V1h Y1e : Value}
   (U2b : nsIn K mainGlobals "_law_at" = some (some (.ref V0k))) (U7b : K.lookup V0k = some ⟨Y0x, Y0q, .func (fnOf "_law_at" "_law_at" (B5 G0j) (B1 G0j) (A3 G0j) .none Y0m Y1g Y2g Y0g V1h Y1e), Y0z⟩) (U9w : codeIn K V1h "_law_at" = true) (V0w : keepIn K (.ref V0k) = true)
   {Y2k Y0j : Option Addr} {Y1v : Array (Option Value)} {Y2s Y1q Y1r Y2q U0f Y1p : Value}
   (V0t : nsIn K mainGlobals "_law_due" = some (some (.ref V0a))) (U2n : K.lookup V0a = some ⟨Y2s, Y2k, .func (fnOf "_law_due" "_law_due" (B5 B8t) (B1 B8t) (A3 B8t) .none Y1q Y1r Y2q Y0j U0f Y1p), Y1v⟩) (U5v : codeIn K U0f "_law_due" = true) (U0w : keepIn K (.ref V0a) = true)
   {V1b U9t : Option Addr} {U7j : Array (Option Value)} {U0c U3c U5k U8c D7u U4w : Value}
   (D1x : nsIn K mainGlobals "_law_pair" = some (some (.ref D3c))) (D2a : K.lookup D3c = some ⟨U0c, V1b, .func (fnOf "_law_pair" "_law_pair" (B5 B0s) (B1 B0s) (A3 B0s) .none U3c U5k U8c U9t D7u U4w), U7j⟩) (D0s : codeIn K D7u "_law_pair" = true) (D0f : keepIn K (.ref D3c) = true)
   {Y0p U8w : Option Addr} {Y0y : Array (Option Value)} {Y1j U9a U5b J9g C9g U5r : Value}
   (J0p : nsIn K mainGlobals "law" = some (some (.ref U9y))) (U4b : K.lookup U9y = some ⟨Y1j, Y0p, .func (fnOf "law" "law" (B5 C1t) (B1 C1t) (A3 C1t) .none U9a U5b J9g U8w C9g U5r), Y0y⟩) (U6c : codeIn K C9g "law" = true) (U4f : keepIn K (.ref U9y) = true)
   (A5g : nsIn K mainGlobals "isinstance" = some none)
   (J9a : nsIn K mainGlobals "int" = some none)
   (G1b : nsIn K mainGlobals "bool" = some none)
   (U5h : nsIn K mainGlobals "str" = some none)
   (G7u : nsIn K mainGlobals "list" = some none)
   (D3t : nsIn K mainGlobals "tuple" = some none)
   (G8m : nsIn K mainGlobals "dict" = some none)
   (U9b : nsIn K mainGlobals "len" = some none)
   (D3e : nsIn K mainGlobals "range" = some none)
   (U4v : nsIn K mainGlobals "min" = some none)
   (U3f : nsIn K mainGlobals "max" = some none)
   (U3d : nsIn K mainGlobals "abs" = some none)
   (U0v : nsIn K mainGlobals "any" = some none)
   (U1a : nsIn K mainGlobals "all" = some none)
   (U7r : nsIn K mainGlobals "sum" = some none)
   (G6m : nsIn K mainGlobals "repr" = some none)
   (A8y : nsIn K mainGlobals "enumerate" = some none)
   (B1e : nsIn K mainGlobals "reversed" = some none)
   (V0n : nsIn K mainGlobals "zip" = some none)
   (C0v : nsIn K mainGlobals "sorted" = some none)
   (C0e : nsIn K mainGlobals "divmod" = some none)
   (U7w : nsIn K mainGlobals "set" = some none)
   (A6u : nsIn K mainGlobals "ValueError" = some none)
   (B1q : kitOne K (.type "int") (.type "int") = some true)
   (A8d : kitOne K (.type "int") (.type "bool") = some false)
   (B1n : kitOne K (.type "int") (.type "str") = some false)
   (A8e : kitOne K (.type "int") (.type "list") = some false)
   (A6m : kitOne K (.type "int") (.type "tuple") = some false)
   (A7y : kitOne K (.type "int") (.type "dict") = some false)
   (A8j : kitOne K (.type "bool") (.type "int") = some true)
   (A4x : kitOne K (.type "bool") (.type "bool") = some true)
   (A8r : kitOne K (.type "bool") (.type "str") = some false)
   (A4v : kitOne K (.type "bool") (.type "list") = some false)
   (A3h : kitOne K (.type "bool") (.type "tuple") = some false)
   (A6k : kitOne K (.type "bool") (.type "dict") = some false)
   (B1b : kitOne K (.type "str") (.type "int") = some false)
   (A8m : kitOne K (.type "str") (.type "bool") = some false)
   (B1f : kitOne K (.type "str") (.type "str") = some true)
   (A8v : kitOne K (.type "str") (.type "list") = some false)
   (A5w : kitOne K (.type "str") (.type "tuple") = some false)
   (A8q : kitOne K (.type "str") (.type "dict") = some false)
   (A9a : kitOne K (.type "list") (.type "int") = some false)
   (A6n : kitOne K (.type "list") (.type "bool") = some false)
   (A8h : kitOne K (.type "list") (.type "str") = some false)
   (A6d : kitOne K (.type "list") (.type "list") = some true)
   (A3j : kitOne K (.type "list") (.type "tuple") = some false)
   (A6h : kitOne K (.type "list") (.type "dict") = some false)
   (A4u : kitOne K (.type "tuple") (.type "int") = some false)
   (A3f : kitOne K (.type "tuple") (.type "bool") = some false)
   (A5b : kitOne K (.type "tuple") (.type "str") = some false)
   (A3g : kitOne K (.type "tuple") (.type "list") = some false)
   (A2p : kitOne K (.type "tuple") (.type "tuple") = some true)
   (A3d : kitOne K (.type "tuple") (.type "dict") = some false)
   (A8z : kitOne K (.type "dict") (.type "int") = some false)
   (A6c : kitOne K (.type "dict") (.type "bool") = some false)
   (A9c : kitOne K (.type "dict") (.type "str") = some false)
   (A5s : kitOne K (.type "dict") (.type "list") = some false)
   (A3e : kitOne K (.type "dict") (.type "tuple") = some false)
   (A4w : kitOne K (.type "dict") (.type "dict") = some true)
   (A0y : kitOne K (.type "NoneType") (.type "int") = some false)
   (A0h : kitOne K (.type "NoneType") (.type "bool") = some false)
   (A0x : kitOne K (.type "NoneType") (.type "str") = some false)
   (A0j : kitOne K (.type "NoneType") (.type "list") = some false)
   (Z7 : kitOne K (.type "NoneType") (.type "tuple") = some false)
   (A0g : kitOne K (.type "NoneType") (.type "dict") = some false)
   (sn : specialIn K (.builtin "object.__class__") "__get__" = some (some (.builtin "getset_descriptor.__get__")))
   (tk : takesIn K (.builtin "object.__class__") = some true)
   (Y6v : nsIn K mainGlobals "Way" = some (some (.ref CW)))
   (Y2a : nsIn K mainGlobals "Down" = some (some (.ref W0)))
   (U2z : plainGet K W0 Str.empty = true)
   (J9c : hasDictIn K W0 = true)
   (U9c : plainOver K W0 = true)
   (J9y : findIn K (.ref W0) "__setattr__" = some (some (.builtin "object.__setattr__")))
   (J9h : makesIn K W0 = true)
   (U7x : keepIn K (.ref W0) = true)
   (U2w : findIn K (.ref W0) "__class__" = some (some (.builtin "object.__class__")))
   (U9q : mroIn K W0 (.type "object") = some true)
   (V0d : findIn K (.ref W0) "__init__" = some (some (.builtin "object.__init__")))
   (U8v : kitOne K (.ref W0) (.ref CW) = some true)
   (B4p : findIn K (.ref W0) "name" = some (some (.ref A3z)))
   (B3p : isFn K (.ref A3z) = true)
   {G8r G6j : Option Addr} {G3s : Array (Option Value)} {G4u G3k G2f G0q C1a G2x : Value} (B6v : K.lookup A3z = some ⟨G4u, G8r, .func (fnOf "name" "Down.name" (B5 sN0) (B1 sN0) (A3 sN0) .none G3k G2f G0q G6j C1a G2x), G3s⟩)
   (B4f : codeIn K C1a "Down.name" = true)
   (A9z : keepIn K (.ref A3z) = true)
   (Y0d : nsIn K mainGlobals "Up" = some (some (.ref W1)))
   (U5x : plainGet K W1 Str.empty = true)
   (U3z : hasDictIn K W1 = true)
   (U4t : plainOver K W1 = true)
   (U6n : findIn K (.ref W1) "__setattr__" = some (some (.builtin "object.__setattr__")))
   (J9f : makesIn K W1 = true)
   (U0r : keepIn K (.ref W1) = true)
   (U6m : findIn K (.ref W1) "__class__" = some (some (.builtin "object.__class__")))
   (U5u : mroIn K W1 (.type "object") = some true)
   (U3n : findIn K (.ref W1) "__init__" = some (some (.builtin "object.__init__")))
   (U8r : kitOne K (.ref W1) (.ref CW) = some true)
   (B6z : findIn K (.ref W1) "name" = some (some (.ref A4a)))
   (B3u : isFn K (.ref A4a) = true)
   {G1q G1s : Option Addr} {G3b : Array (Option Value)} {G3v G6n G8h G6t C0t G6p : Value} (B6q : K.lookup A4a = some ⟨G3v, G1q, .func (fnOf "name" "Up.name" (B5 sN1) (B1 sN1) (A3 sN1) .none G6n G8h G6t G1s C0t G6p), G3b⟩)
   (B4j : codeIn K C0t "Up.name" = true)
   (A9v : keepIn K (.ref A4a) = true)
   (Y1k : nsIn K mainGlobals "Floor" = some (some (.ref W2)))
   (U6f : plainGet K W2 Str.empty = true)
   (U0k : hasDictIn K W2 = true)
   (V0q : plainOver K W2 = true)
   (U4c : findIn K (.ref W2) "__setattr__" = some (some (.builtin "object.__setattr__")))
   (U7p : makesIn K W2 = true)
   (U7d : keepIn K (.ref W2) = true)
   (V0z : findIn K (.ref W2) "__class__" = some (some (.builtin "object.__class__")))
   (U8y : mroIn K W2 (.type "object") = some true)
   (U2v : findIn K (.ref W2) "__init__" = some (some (.builtin "object.__init__")))
   (U5q : kitOne K (.ref W2) (.ref CW) = some true)
   (B7a : findIn K (.ref W2) "name" = some (some (.ref A3u)))
   (B4e : isFn K (.ref A3u) = true)
   {G5q G1j : Option Addr} {G4c : Array (Option Value)} {G1u G5a G3q G4f C1e G8f : Value} (B4u : K.lookup A3u = some ⟨G1u, G5q, .func (fnOf "name" "Floor.name" (B5 sN2) (B1 sN2) (A3 sN2) .none G5a G3q G4f G1j C1e G8f), G4c⟩)
   (B6s : codeIn K C1e "Floor.name" = true)
   (B0a : keepIn K (.ref A3u) = true)
   (Y0n : nsIn K mainGlobals "Ceiling" = some (some (.ref W3)))
   (U4e : plainGet K W3 Str.empty = true)
   (U9r : hasDictIn K W3 = true)
   (U8h : plainOver K W3 = true)
   (U7s : findIn K (.ref W3) "__setattr__" = some (some (.builtin "object.__setattr__")))
   (U8a : makesIn K W3 = true)
   (U5g : keepIn K (.ref W3) = true)
   (J9u : findIn K (.ref W3) "__class__" = some (some (.builtin "object.__class__")))
   (U9d : mroIn K W3 (.type "object") = some true)
   (U2y : findIn K (.ref W3) "__init__" = some (some (.builtin "object.__init__")))
   (U6s : kitOne K (.ref W3) (.ref CW) = some true)
   (B3h : findIn K (.ref W3) "name" = some (some (.ref A3x)))
   (B6j : isFn K (.ref A3x) = true)
   {G3e G4r : Option Addr} {G5g : Array (Option Value)} {G2r G7n G6g G3w C0w G7c : Value} (B5a : K.lookup A3x = some ⟨G2r, G3e, .func (fnOf "name" "Ceiling.name" (B5 sN3) (B1 sN3) (A3 sN3) .none G7n G6g G3w G4r C0w G7c), G5g⟩)
   (B5f : codeIn K C0w "Ceiling.name" = true)
   (A9t : keepIn K (.ref A3x) = true)
   (Y2y : nsIn K mainGlobals "HalfUp" = some (some (.ref W4)))
   (U4d : plainGet K W4 Str.empty = true)
   (J9q : hasDictIn K W4 = true)
   (U4n : plainOver K W4 = true)
   (U5e : findIn K (.ref W4) "__setattr__" = some (some (.builtin "object.__setattr__")))
   (U0h : makesIn K W4 = true)
   (U2x : keepIn K (.ref W4) = true)
   (V0f : findIn K (.ref W4) "__class__" = some (some (.builtin "object.__class__")))
   (U2k : mroIn K W4 (.type "object") = some true)
   (U3q : findIn K (.ref W4) "__init__" = some (some (.builtin "object.__init__")))
   (U3b : kitOne K (.ref W4) (.ref CW) = some true)
   (B6f : findIn K (.ref W4) "name" = some (some (.ref A3v)))
   (B5q : isFn K (.ref A3v) = true)
   {G5e G8a : Option Addr} {G4z : Array (Option Value)} {G7s G5r G8u G5x C0n G7f : Value} (B4b : K.lookup A3v = some ⟨G7s, G5e, .func (fnOf "name" "HalfUp.name" (B5 sN4) (B1 sN4) (A3 sN4) .none G5r G8u G5x G8a C0n G7f), G4z⟩)
   (B5t : codeIn K C0n "HalfUp.name" = true)
   (A9s : keepIn K (.ref A3v) = true)
   (V9z : nsIn K mainGlobals "HalfDown" = some (some (.ref W5)))
   (U6d : plainGet K W5 Str.empty = true)
   (U7f : hasDictIn K W5 = true)
   (U5c : plainOver K W5 = true)
   (U9s : findIn K (.ref W5) "__setattr__" = some (some (.builtin "object.__setattr__")))
   (U4g : makesIn K W5 = true)
   (U0a : keepIn K (.ref W5) = true)
   (U3h : findIn K (.ref W5) "__class__" = some (some (.builtin "object.__class__")))
   (U2u : mroIn K W5 (.type "object") = some true)
   (U9x : findIn K (.ref W5) "__init__" = some (some (.builtin "object.__init__")))
   (U6w : kitOne K (.ref W5) (.ref CW) = some true)
   (B5g : findIn K (.ref W5) "name" = some (some (.ref A4b)))
   (B3j : isFn K (.ref A4b) = true)
   {G8g G7v : Option Addr} {G3g : Array (Option Value)} {G4v G2a G6x G1a C1k G6v : Value} (B5d : K.lookup A4b = some ⟨G4v, G8g, .func (fnOf "name" "HalfDown.name" (B5 sN5) (B1 sN5) (A3 sN5) .none G2a G6x G1a G7v C1k G6v), G3g⟩)
   (B3x : codeIn K C1k "HalfDown.name" = true)
   (A9w : keepIn K (.ref A4b) = true)
   (Y2p : nsIn K mainGlobals "HalfEven" = some (some (.ref W6)))
   (U1q : plainGet K W6 Str.empty = true)
   (U0s : hasDictIn K W6 = true)
   (U8s : plainOver K W6 = true)
   (J8u : findIn K (.ref W6) "__setattr__" = some (some (.builtin "object.__setattr__")))
   (U7q : makesIn K W6 = true)
   (U1t : keepIn K (.ref W6) = true)
   (V0c : findIn K (.ref W6) "__class__" = some (some (.builtin "object.__class__")))
   (U7z : mroIn K W6 (.type "object") = some true)
   (U2q : findIn K (.ref W6) "__init__" = some (some (.builtin "object.__init__")))
   (U6b : kitOne K (.ref W6) (.ref CW) = some true)
   (B6e : findIn K (.ref W6) "name" = some (some (.ref A3t)))
   (B4q : isFn K (.ref A3t) = true)
   {G0u G8v : Option Addr} {G2v : Array (Option Value)} {G5u G5t G7y G3n B9z G7b : Value} (B5k : K.lookup A3t = some ⟨G5u, G0u, .func (fnOf "name" "HalfEven.name" (B5 sN6) (B1 sN6) (A3 sN6) .none G5t G7y G3n G8v B9z G7b), G2v⟩)
   (B5s : codeIn K B9z "HalfEven.name" = true)
   (A9y : keepIn K (.ref A3t) = true)
   (Y3f : nsIn K mainGlobals "FiveUp" = some (some (.ref W7)))
   (U3e : plainGet K W7 Str.empty = true)
   (U8d : hasDictIn K W7 = true)
   (U6u : plainOver K W7 = true)
   (U7g : findIn K (.ref W7) "__setattr__" = some (some (.builtin "object.__setattr__")))
   (U4s : makesIn K W7 = true)
   (U0y : keepIn K (.ref W7) = true)
   (J9k : findIn K (.ref W7) "__class__" = some (some (.builtin "object.__class__")))
   (U3a : mroIn K W7 (.type "object") = some true)
   (U9h : findIn K (.ref W7) "__init__" = some (some (.builtin "object.__init__")))
   (U1b : kitOne K (.ref W7) (.ref CW) = some true)
   (B4h : findIn K (.ref W7) "name" = some (some (.ref A3y)))
   (B6w : isFn K (.ref A3y) = true)
   {G6q G0v : Option Addr} {G2p : Array (Option Value)} {G7t G7r G3t G3m C0f G3j : Value} (B4a : K.lookup A3y = some ⟨G7t, G6q, .func (fnOf "name" "FiveUp.name" (B5 sN7) (B1 sN7) (A3 sN7) .none G7r G3t G3m G0v C0f G3j), G2p⟩)
   (B4g : codeIn K C0f "FiveUp.name" = true)
   (A9u : keepIn K (.ref A3y) = true)
   (Y0b : nsIn K mainGlobals "Number" = some (some (.ref CN)))
   (U2a : plainGet K CN Str.empty = true)
   (U0d : hasDictIn K CN = true)
   (U1s : plainOver K CN = true)
   (J9w : findIn K (.ref CN) "__setattr__" = some (some (.builtin "object.__setattr__")))
   (U3k : makesIn K CN = true)
   (U0x : keepIn K (.ref CN) = true)
   (U3v : findIn K (.ref CN) "__class__" = some (some (.builtin "object.__class__")))
   (U1y : mroIn K CN (.type "object") = some true)
   (B6t : findIn K (.ref CN) "kind" = some none)
   (B5c : findIn K (.ref CN) "sign" = some none)
   (A5d : findIn K (.ref CN) "figures" = some none)
   (B1h : findIn K (.ref CN) "power" = some none)
   (U3s : findIn K (.ref CN) "__init__" = some (some (.ref C6u)))
   (V1e : isFn K (.ref C6u) = true)
   {Y2j Y0c : Option Addr} {Y2c : Array (Option Value)} {Y1n Y3g Y2h Y2w U6e Y0r : Value} (V0v : K.lookup C6u = some ⟨Y1n, Y2j, .func (fnOf "__init__" "Number.__init__" (B5 C5h) (B1 C5h) (A3 C5h) .none Y3g Y2h Y2w Y0c U6e Y0r), Y2c⟩)
   (U8f : codeIn K U6e "Number.__init__" = true)
   (U1v : keepIn K (.ref C6u) = true)
   (D1p : kitOne K (.ref CN) (.ref CN) = some true)
   (A6v : findIn K (.ref W0) "goes_up" = some (some (.ref Z6)))
   (A5m : isFn K (.ref Z6) = true)
   {C2j C2s : Option Addr} {C2n : Array (Option Value)} {C2c C3x C2g C3q B0f C3z : Value} (A4z : K.lookup Z6 = some ⟨C2c, C2j, .func (fnOf "goes_up" "Down.goes_up" (B5 sU0) (B1 sU0) (A3 sU0) .none C3x C2g C3q C2s B0f C3z), C2n⟩)
   (A5c : codeIn K B0f "Down.goes_up" = true)
   (A1n : keepIn K (.ref Z6) = true)
   (A6f : findIn K (.ref W1) "goes_up" = some (some (.ref A0b)))
   (A6s : isFn K (.ref A0b) = true)
   {C2y C4j : Option Addr} {C2t : Array (Option Value)} {C3s C4a C2m C3c B0j C3y : Value} (A5r : K.lookup A0b = some ⟨C3s, C2y, .func (fnOf "goes_up" "Up.goes_up" (B5 sU1) (B1 sU1) (A3 sU1) .none C4a C2m C3c C4j B0j C3y), C2t⟩)
   (A5f : codeIn K B0j "Up.goes_up" = true)
   (A1e : keepIn K (.ref A0b) = true)
   (A5u : findIn K (.ref W2) "goes_up" = some (some (.ref Z5)))
   (A4y : isFn K (.ref Z5) = true)
   {C3d C3k : Option Addr} {C3r : Array (Option Value)} {C3b C4r C2b C4u B0n C3m : Value} (A6t : K.lookup Z5 = some ⟨C3b, C3d, .func (fnOf "goes_up" "Floor.goes_up" (B5 sU2) (B1 sU2) (A3 sU2) .none C4r C2b C4u C3k B0n C3m), C3r⟩)
   (A5e : codeIn K B0n "Floor.goes_up" = true)
   (A1h : keepIn K (.ref Z5) = true)
   (A5n : findIn K (.ref W3) "goes_up" = some (some (.ref A0a)))
   (A5q : isFn K (.ref A0a) = true)
   {C4k C4g : Option Addr} {C4x : Array (Option Value)} {C3n C3e C5d C2d B0k C2k : Value} (A6a : K.lookup A0a = some ⟨C3n, C4k, .func (fnOf "goes_up" "Ceiling.goes_up" (B5 sU3) (B1 sU3) (A3 sU3) .none C3e C5d C2d C4g B0k C2k), C4x⟩)
   (A6q : codeIn K B0k "Ceiling.goes_up" = true)
   (A1k : keepIn K (.ref A0a) = true)
   (A6y : findIn K (.ref W4) "goes_up" = some (some (.ref Z3)))
   (A5a : isFn K (.ref Z3) = true)
   {C4t C2q : Option Addr} {C2w : Array (Option Value)} {C3p C5b C4w C5a B0m C4f : Value} (A5p : K.lookup Z3 = some ⟨C3p, C4t, .func (fnOf "goes_up" "HalfUp.goes_up" (B5 sU4) (B1 sU4) (A3 sU4) .none C5b C4w C5a C2q B0m C4f), C2w⟩)
   (A6j : codeIn K B0m "HalfUp.goes_up" = true)
   (A1m : keepIn K (.ref Z3) = true)
   (A6p : findIn K (.ref W5) "goes_up" = some (some (.ref Z4)))
   (A6b : isFn K (.ref Z4) = true)
   {C2z C4p : Option Addr} {C2u : Array (Option Value)} {C3t C4q C4s C2v B0g C4h : Value} (A6w : K.lookup Z4 = some ⟨C3t, C2z, .func (fnOf "goes_up" "HalfDown.goes_up" (B5 sU5) (B1 sU5) (A3 sU5) .none C4q C4s C2v C4p B0g C4h), C2u⟩)
   (A5v : codeIn K B0g "HalfDown.goes_up" = true)
   (A1j : keepIn K (.ref Z4) = true)
   (A5z : findIn K (.ref W6) "goes_up" = some (some (.ref Z8)))
   (A5h : isFn K (.ref Z8) = true)
   {C4b C4m : Option Addr} {C3j : Array (Option Value)} {C3v C2r C4c C3u B0e C3h : Value} (A5t : K.lookup Z8 = some ⟨C3v, C4b, .func (fnOf "goes_up" "HalfEven.goes_up" (B5 sU6) (B1 sU6) (A3 sU6) .none C2r C4c C3u C4m B0e C3h), C3j⟩)
   (A5j : codeIn K B0e "HalfEven.goes_up" = true)
   (A1g : keepIn K (.ref Z8) = true)
   (A6x : findIn K (.ref W7) "goes_up" = some (some (.ref Z9)))
   (A5y : isFn K (.ref Z9) = true)
   {C2p C2f : Option Addr} {C4d : Array (Option Value)} {C3a C4y C2x C4v B0h C3g : Value} (A6e : K.lookup Z9 = some ⟨C3a, C2p, .func (fnOf "goes_up" "FiveUp.goes_up" (B5 sU7) (B1 sU7) (A3 sU7) .none C4y C2x C4v C2f B0h C3g), C4d⟩)
   (A6g : codeIn K B0h "FiveUp.goes_up" = true)
   (A1f : keepIn K (.ref Z9) = true)
   (Y3d : nsIn K mainGlobals "Context" = some (some (.ref CC)))
   (U8t : plainGet K CC Str.empty = true)
   (U9z : hasDictIn K CC = true)
   (V0p : plainOver K CC = true)
   (U9v : findIn K (.ref CC) "__setattr__" = some (some (.builtin "object.__setattr__")))
   (U7u : makesIn K CC = true)
   (U5n : keepIn K (.ref CC) = true)
   (B5p : findIn K (.ref CC) "room" = some none)
   (B6h : findIn K (.ref CC) "rule" = some none)
   (B1x : findIn K (.ref CC) "least" = some none)
   (B3z : findIn K (.ref CC) "most" = some none)
   (B1y : findIn K (.ref CC) "risen" = some none)
   (A6r : findIn K (.ref CC) "trapped" = some none)
   (J9m : findIn K (.ref CC) "__init__" = some (some (.ref C6x)))
   (J9s : isFn K (.ref C6x) = true)
   {Y1x U2m : Option Addr} {Y0e : Array (Option Value)} {Y2u V0b U6v U1m G4q U4z : Value} (U8z : K.lookup C6x = some ⟨Y2u, Y1x, .func (fnOf "__init__" "Context.__init__" (B5 Z0) (B1 Z0) (A3 Z0) (.ref U5y) V0b U6v U1m U2m G4q U4z), Y0e⟩)
   (V0e : codeIn K G4q "Context.__init__" = true)
   (V0u : keepIn K (.ref C6x) = true)
   {Y6n Y7d Y6r : Tok} {Y6q : Nat} {Y0t : Option Addr} {Y2b : Value} {Y1d : Array (Option Value)} (U0m : K.lookup U5y = some ⟨Y2b, Y0t, .seq #[.int 9 Y6n, .str "half even" Y7d, .none, .int 60 Y6r] Y6q, Y1d⟩)
   (B1g : findIn K (.ref CC) "flags" = some (some (.ref A2r)))
   (B2b : isFn K (.ref A2r) = true)
   {D5z D7k : Option Addr} {D7a : Array (Option Value)} {D6w D5x D7m D7t B7p D7g : Value} (B1d : K.lookup A2r = some ⟨D6w, D5z, .func (fnOf "flags" "Context.flags" (B5 A1p) (B1 A1p) (A3 A1p) .none D5x D7m D7t D7k B7p D7g), D7a⟩)
   (B1s : codeIn K B7p "Context.flags" = true)
   (A5k : keepIn K (.ref A2r) = true)
   (A8w : findIn K (.ref CC) "lowest" = some (some (.ref A0t)))
   (A9f : isFn K (.ref A0t) = true)
   {D0k D3n : Option Addr} {C9c : Array (Option Value)} {D1m D1c D1d D0a B2q D2f : Value} (A7x : K.lookup A0t = some ⟨D1m, D0k, .func (fnOf "lowest" "Context.lowest" (B5 A9q) (B1 A9q) (A3 A9q) .none D1c D1d D0a D3n B2q D2f), C9c⟩)
   (A8g : codeIn K B2q "Context.lowest" = true)
   (A2y : keepIn K (.ref A0t) = true)
   (C1g : findIn K (.ref CC) "way" = some (some (.ref A9e)))
   (C0g : isFn K (.ref A9e) = true)
   {J4v J4n : Option Addr} {J4u : Array (Option Value)} {J4d J4c J4m J3d C6r J4s : Value} (B9v : K.lookup A9e = some ⟨J4d, J4v, .func (fnOf "way" "Context.way" (B5 A9j) (B1 A9j) (A3 A9j) .none J4c J4m J3d J4n C6r J4s), J4u⟩)
   (C1d : codeIn K C6r "Context.way" = true)
   (B2s : keepIn K (.ref A9e) = true)
   (B1v : findIn K (.ref CC) "traps" = some (some (.ref A2q)))
   (B2a : isFn K (.ref A2q) = true)
   {D7w D6s : Option Addr} {D7s : Array (Option Value)} {D7y D7z D6e D7n B7r D6c : Value} (B1z : K.lookup A2q = some ⟨D7y, D7w, .func (fnOf "traps" "Context.traps" (B5 A1s) (B1 A1s) (A3 A1s) .none D7z D6e D7n D6s B7r D6c), D7s⟩)
   (B2d : codeIn K B7r "Context.traps" = true)
   (A5x : keepIn K (.ref A2q) = true)
   (B4y : findIn K (.ref CC) "trap" = some (some (.ref A3w)))
   (B5u : isFn K (.ref A3w) = true)
   {G5m G3y : Option Addr} {G1y : Array (Option Value)} {G2y G5h G2t G4p C0k G4d : Value} (B6y : K.lookup A3w = some ⟨G2y, G5m, .func (fnOf "trap" "Context.trap" (B5 A3s) (B1 A3s) (A3 A3s) .none G5h G2t G4p G3y C0k G4d), G1y⟩)
   (B3q : codeIn K C0k "Context.trap" = true)
   (A9x : keepIn K (.ref A3w) = true)
   (A8k : findIn K (.ref CC) "raised" = some (some (.ref A0u)))
   (A9g : isFn K (.ref A0u) = true)
   {D2c D1w : Option Addr} {D0u : Array (Option Value)} {D3k D1s D2n D1e B2u D0t : Value} (A9b : K.lookup A0u = some ⟨D3k, D2c, .func (fnOf "raised" "Context.raised" (B5 A0d) (B1 A0d) (A3 A0d) .none D1s D2n D1e D1w B2u D0t), D0u⟩)
   (A8p : codeIn K B2u "Context.raised" = true)
   (A2z : keepIn K (.ref A0u) = true)
   (Y1w : nsIn K mainGlobals "Ratio" = some (some (.ref CQ)))
   (U1d : plainGet K CQ Str.empty = true)
   (U4m : hasDictIn K CQ = true)
   (V0j : plainOver K CQ = true)
   (V1a : findIn K (.ref CQ) "__setattr__" = some (some (.builtin "object.__setattr__")))
   (U6x : makesIn K CQ = true)
   (U3t : keepIn K (.ref CQ) = true)
   (U1r : findIn K (.ref CQ) "__class__" = some (some (.builtin "object.__class__")))
   (U7h : mroIn K CQ (.type "object") = some true)
   (C1q : findIn K (.ref CQ) "top" = some none)
   (A8a : findIn K (.ref CQ) "bottom" = some none)
   (B1k : findIn K (.ref CQ) "power" = some none)
   (U3p : findIn K (.ref CQ) "__init__" = some (some (.ref C7f)))
   (U9f : isFn K (.ref C7f) = true)
   {Y2m U5j : Option Addr} {Y0u : Array (Option Value)} {Y1b U8m U8j U6t G8e U2s : Value} (U1f : K.lookup C7f = some ⟨Y1b, Y2m, .func (fnOf "__init__" "Ratio.__init__" (B5 A4h) (B1 A4h) (A3 A4h) (.ref U3r) U8m U8j U6t U5j G8e U2s), Y0u⟩)
   (U6p : codeIn K G8e "Ratio.__init__" = true)
   (U1w : keepIn K (.ref C7f) = true)
   {V7p : Tok} {Y5y : Nat} {Y1y : Option Addr} {Y1m : Value} {Y2d : Array (Option Value)} (D6d : K.lookup U3r = some ⟨Y1m, Y1y, .seq #[.int 0 V7p] Y5y, Y2d⟩)
   (D3m : findIn K (.ref CQ) "at" = some (some (.ref B2t)))
   (D2v : isFn K (.ref B2t) = true)
   {U9u V1g : Option Addr} {U7k : Array (Option Value)} {U7n V1c U9k U5t D7h U0u : Value} (D2d : K.lookup B2t = some ⟨U7n, U9u, .func (fnOf "at" "Ratio.at" (B5 B8z) (B1 B8z) (A3 B8z) .none V1c U9k U5t V1g D7h U0u), U7k⟩)
   (C9f : codeIn K D7h "Ratio.at" = true)
   (B8c : keepIn K (.ref B2t) = true)
   (Y3b : nsIn K mainGlobals "Exact" = some (some (.ref CE)))
   (J9j : kitOne K (.ref CQ) (.ref CE) = some true)
   (Y3a : nsIn K mainGlobals "BadContext" = some (some (.ref C1)))
   (Y0a : nsIn K mainGlobals "BadNumber" = some (some (.ref C2)))
   (V5y : nsIn K mainGlobals "Trapped" = some (some (.ref C3)))
   (Y7a : nsIn K mainGlobals "ReckonError" = some (some (.ref CR)))
   (cty : typeIn K (.ref CR) = some (.type "type"))
   {dR : ClassData} (ccl : clsIn K CR = some dR)
   (cex : subIn K (.ref CR) (.type "BaseException") = some true)
   (q1 : excIn K C1 [.type "ValueError", .type "Exception", .type "BaseException", .type "object"] "ValueError.__new__" = true)
   (q2 : excIn K C2 [.type "ValueError", .type "Exception", .type "BaseException", .type "object"] "ValueError.__new__" = true)
   (sub3 : subIn K (.ref C3) (.ref CR) = some true)
   (xga3 : findIn K (.ref C3) "__getattribute__" = some (some (.builtin "BaseException.__getattribute__")))
   (xgh3 : findIn K (.ref C3) "__getattr__" = some none)
   (xca3 : findIn K (.ref C3) "__class__" = some (some (.builtin "object.__class__")))
   (xob3 : mroIn K C3 (.type "object") = some true)
   (xbe3 : subIn K (.ref C3) (.type "BaseException") = some true)
   {d3 : ClassData} (xcl3 : clsIn K C3 = some d3)
   (Y6g : kitOne K (.ref C3) (.ref C1) = some false)
   (Y6x : kitOne K (.ref C3) (.ref C2) = some false)
   (Y6w : kitOne K (.ref C3) (.ref C3) = some true)
   (hv3 : kitOne K (.ref C3) (.type "ValueError") = some true)
   {nmT qT : Str} {NT : Addr} {bsT bmT : List Value} {snT : List Str} {suT : List Value} {abT : Bool} {coT : Option Bool} {ddT : Option Addr} {kT0 kT1 kT2 kT3 kT5 : Option Value} (lT : K.lookup C3 = some (excClassObj nmT qT C3 NT bsT bmT true snT suT abT coT ddT kT0 kT1 kT2 kT3 kT5 "ValueError.__new__"))
   {ocN : Value} {odN : Option Addr} {esN : Array DictEntry} {epN : Nat} {slN : Array (Option Value)} (lN : K.lookup NT = some ⟨ocN, odN, .dict esN epN, slN⟩)
   (alN : (esN.all fun e => match e.key with | .str _ _ => true | _ => false) = true)
   (niT : nsIn K NT "__init__" = some (some (.ref fX)))
   {nmU qU : Str} {NU : Addr} {bsU : List Value} {snU : List Str} {suU : List Value} {abU : Bool} {coU : Option Bool} {ddU : Option Addr} {kU0 kU1 kU2 kU3 kU5 : Option Value} (lT1 : K.lookup C1 = some (excClassObj nmU qU C1 NU bsU bmT true snU suU abU coU ddU kU0 kU1 kU2 kU3 kU5 "ValueError.__new__"))
   (saT : findIn K (.ref C3) "__setattr__" = some (some (.builtin "object.__setattr__")))
   (nsg3 : findIn K (.ref C3) "signal" = some none)
   {Y6u Y7f : Option Addr} {Y6b : Array (Option Value)} {V7n Y6t Y6h Y6z V7q Y5x : Value} (V6g : K.lookup fX = some ⟨V7n, Y6u, .func (fnOf "__init__" "Trapped.__init__" (B5 A9n) (B1 A9n) (A3 A9n) .none Y6t Y6h Y6z Y7f V7q Y5x), Y6b⟩)
   (Y1f : codeIn K V7q "Trapped.__init__" = true)
   (V9y : keepIn K (.ref fX) = true)
   (fcT : V7n = .type "function")
   (kTR : kitOne K (.ref C3) (.ref CR) = some true)
   (tyT : typeIn K (.ref C3) = some (.type "type"))
   (subT : subIn K (.ref C3) (.ref C3) = some true)
   (a_S : nsIn K mainGlobals "SIGNALS" = some (some (.ref aS)))
   {u0 u1 u2 u3 u4 u5 u6 : Tok} {nS : Nat} {odS : Option Addr} {slS : Array (Option Value)} (lS : K.lookup aS = some ⟨.type "tuple", odS, .seq #[.str "void" u0, .str "split" u1, .str "burst" u2, .str "sunk" u3, .str "faint" u4, .str "off" u5, .str "cut" u6] nS, slS⟩)
   (hcode : C9g = .ref cc) :
   ∃ fd : FuncData, (∀ (s : Shared) (v : Value), BindsTo s fd ⟨[v], []⟩ [("_law_script", v)]) /\ ∀ base : Heap, K.In base -> base.Ns mainGlobals mg -> LamB mg base cc P0 -> FnOkG l.prog w K mg base (CX1 l.prog w) 11 fa fd ["_law_script"] (J0b K P0) := by
 have e := hfa.symm.trans (mg_of X G J0p)
 cases e
 have C6s := D8 (ps := ["whole", "count"]) (st := Y7) X G B6n B4k B5y B6d fun _ _ _ _ _ _ us hl => match us, hl with | [_, _], _ => rfl
 have C9v := D8 (ps := ["count"]) (st := A4c) X G D2s D1f C8w C8y fun _ _ _ _ _ _ us hl => match us, hl with | [_], _ => rfl
 have D7b := D8 (ps := ["size", "middle"]) (st := A4e) X G C0y C0s B9w C0j fun _ _ _ _ _ _ us hl => match us, hl with | [_, _], _ => rfl
 have D_plain := D8 (ps := ["sign", "figures", "power"]) (st := B0z) X G D1b D3j C9n D2y fun _ _ _ _ _ _ us hl => match us, hl with | [_, _, _], _ => rfl
 have D_end := D8 (ps := ["sign"]) (st := D9y) X G U9g U0j U0p J9n fun _ _ _ _ _ _ us hl => match us, hl with | [_], _ => rfl
 have D_nothing := D8 (ps := []) (st := Z2) X G B4r B6a B3v B6x fun _ _ _ _ _ _ us hl => match us, hl with | [], _ => rfl
 have D_told := D8 (ps := ["number"]) (st := B7c) X G G5d G4x G5y G2g fun _ _ _ _ _ _ us hl => match us, hl with | [_], _ => rfl
 have G1m := D8 (ps := ["number"]) (st := B7g) X G G2s G4m G5f G1z fun _ _ _ _ _ _ us hl => match us, hl with | [_], _ => rfl
 have D1j := D8 (ps := ["thing"]) (st := A7a) X G D0c C9j D2r D0r fun _ _ _ _ _ _ us hl => match us, hl with | [_], _ => rfl
 have C1c := D8 (ps := ["things"]) (st := A4q) X G B1u B1p B1j B1w fun _ _ _ _ _ _ us hl => match us, hl with | [_], _ => rfl
 have J0r := D8 (ps := ["numbers", "kind"]) (st := B0y) X G D0p D0q D1u D2g fun _ _ _ _ _ _ us hl => match us, hl with | [_, _], _ => rfl
 have U8k := D8 (ps := ["thing", "least", "most"]) (st := C1z) X G J8x U2j U5m V0m fun _ _ _ _ _ _ us hl => match us, hl with | [_, _, _], _ => rfl
 have C6t := D8 (ps := ["thing", "least", "most"]) (st := A0q) X G B4v B4n B5r B4c fun _ _ _ _ _ _ us hl => match us, hl with | [_, _, _], _ => rfl
 have D_neighbour := D8 (ps := ["context", "sign", "pair"]) (st := Y0) X G A8s A8f A8t A9d fun _ _ _ _ _ _ us hl => match us, hl with | [_, _, _], _ => rfl
 have D7e := D8 (ps := ["context", "number"]) (st := A2x) X G C0z B9x C0a C1b fun _ _ _ _ _ _ us hl => match us, hl with | [_, _], _ => rfl
 have C6v := D8 (ps := ["part", "is_cut"]) (st := A2e) X G B3w B4z B4t B4w fun _ _ _ _ _ _ us hl => match us, hl with | [_, _], _ => rfl
 have C7e := D8 (ps := ["context", "lead", "part"]) (st := A1z) X G B3s B4m B5w B5e fun _ _ _ _ _ _ us hl => match us, hl with | [_, _, _], _ => rfl
 have D_void := D8 (ps := ["context"]) (st := B7e) X G G5j G8k G1k G0t fun _ _ _ _ _ _ us hl => match us, hl with | [_], _ => rfl
 have B7s := D8 (ps := ["context", "one", "other"]) (st := Y5) X G A8x A8u A8n A8b fun _ _ _ _ _ _ us hl => match us, hl with | [_, _, _], _ => rfl
 have D_moved := D8 (ps := ["context", "one", "power"]) (st := B0x) X G D0d D3p D2h C9b fun _ _ _ _ _ _ us hl => match us, hl with | [_, _, _], _ => rfl
 have C6y := D8 (ps := ["number", "power"]) (st := A2k) X G B3y B3n B6c B6m fun _ _ _ _ _ _ us hl => match us, hl with | [_, _], _ => rfl
 have C7a := D8 (ps := ["context", "number", "part", "is_cut"]) (st := A1u) X G B6b B5b B4x B6r fun _ _ _ _ _ _ us hl => match us, hl with | [_, _, _, _], _ => rfl
 have D0x := D8 (ps := ["name"]) (st := A7c) X G D1v D1y D1r C9r fun _ _ _ _ _ _ us hl => match us, hl with | [_], _ => rfl
 have D_bounded := D8 (ps := ["thing", "least", "most"]) (st := A1y) X G B3r B5z B6p B6k fun _ _ _ _ _ _ us hl => match us, hl with | [_, _, _], _ => rfl
 have D1z := D8 (ps := ["names"]) (st := A7w) X G D1q C8t C9s D3b fun _ _ _ _ _ _ us hl => match us, hl with | [_], _ => rfl
 have D0h := D8 (ps := ["names"]) (st := A7r) X G D0w C8x D2b D3q fun _ _ _ _ _ _ us hl => match us, hl with | [_], _ => rfl
 have D2w := D8 (ps := ["_law_script", "_law_k"]) (st := B7f) X G G0x G1x G6z G1w fun _ _ _ _ _ _ us hl => match us, hl with | [_, _], _ => rfl
 have B8d := D8 (ps := ["_law_cell", "_law_k"]) (st := A4k) X G D2u D1a D2m D3h fun _ _ _ _ _ _ us hl => match us, hl with | [_, _], _ => rfl
 have U1j := D8 (ps := ["_law_count"]) (st := B7k) X G U6h U7t J8v U4p fun _ _ _ _ _ _ us hl => match us, hl with | [_], _ => rfl
 have C7d := D8 (ps := ["_law_cell", "_law_way"]) (st := A0f) X G B5m B3m B4d B3k fun _ _ _ _ _ _ us hl => match us, hl with | [_, _], _ => rfl
 have D7x := D8 (ps := ["_law_cell"]) (st := A1x) X G C0m C0b B9u B9t fun _ _ _ _ _ _ us hl => match us, hl with | [_], _ => rfl
 have U0g := D8 (ps := ["_law_one"]) (st := B0u) X G G0s G4h G6y G2n fun _ _ _ _ _ _ us hl => match us, hl with | [_], _ => rfl
 have U9p := D8 (ps := ["_law_cell"]) (st := B9g) X G G3a G6a G8s G8n fun _ _ _ _ _ _ us hl => match us, hl with | [_], _ => rfl
 have C0h := D8 (ps := ["_law_own_here"]) (st := A0e) X G B2c B1r B1t B1m fun _ _ _ _ _ _ us hl => match us, hl with | [_], _ => rfl
 have J0x := D8 (ps := ["_law_way", "_law_sign", "_law_last", "_law_left", "_law_bottom"]) (st := B0q) X G D2q D0j D3d D1n fun _ _ _ _ _ _ us hl => match us, hl with | [_, _, _, _, _], _ => rfl
 have J0s := D8 (ps := ["_law_deed"]) (st := A4s) X G D2t C9e D0b D0m fun _ _ _ _ _ _ us hl => match us, hl with | [_], _ => rfl
 have D7p := D8 (ps := ["_law_context_here", "_law_own_here", "_law_deed", "_law_due_here"]) (st := A2d) X G C1n C0p C1m C0c fun _ _ _ _ _ _ us hl => match us, hl with | [_, _, _, _], _ => rfl
 have V7m := D8 (ps := ["_law_own_here", "_law_one", "_law_wide"]) (st := G0j) X G U2b U7b U9w V0w fun _ _ _ _ _ _ us hl => match us, hl with | [_, _, _], _ => rfl
 have V7k := D8 (ps := ["_law_own_here", "_law_one", "_law_other"]) (st := B8t) X G V0t U2n U5v U0w fun _ _ _ _ _ _ us hl => match us, hl with | [_, _, _], _ => rfl
 have J0y := D8 (ps := ["_law_script", "_law_own_here"]) (st := B0s) X G D1x D2a D0s D0f fun _ _ _ _ _ _ us hl => match us, hl with | [_, _], _ => rfl
 have Y6s := D8 (ps := ["_law_script"]) (st := C1t) X G J0p U4b U6c U4f fun _ _ _ _ _ _ us hl => match us, hl with | [_], _ => rfl
 have O : Own mg := ⟨mg_none_of X G A5g, mg_none_of X G J9a, mg_none_of X G G1b, mg_none_of X G U5h, mg_none_of X G G7u, mg_none_of X G D3t, mg_none_of X G G8m, mg_none_of X G U9b, mg_none_of X G D3e, mg_none_of X G U4v, mg_none_of X G U3f, mg_none_of X G U3d, mg_none_of X G U0v, mg_none_of X G U1a, mg_none_of X G U7r, mg_none_of X G G6m, mg_none_of X G A8y, mg_none_of X G B1e, mg_none_of X G V0n, mg_none_of X G C0v, mg_none_of X G C0e, mg_none_of X G U7w, mg_none_of X G A6u⟩
 have T : Kit K := ⟨B1q, A8d, B1n, A8e, A6m, A7y, A8j, A4x, A8r, A4v, A3h, A6k, B1b, A8m, B1f, A8v, A5w, A8q, A9a, A6n, A8h, A6d, A3j, A6h, A4u, A3f, A5b, A3g, A2p, A3d, A8z, A6c, A9c, A5s, A3e, A4w, A0y, A0h, A0x, A0j, Z7, A0g⟩
 have Y7e : Cls K W0 := ⟨U2z, J9c, U9c, J9y⟩
 have Y6m : Mk0 K W0 := ⟨J9h, V0d, U7x⟩
 have F_name_W0 := U0 (st := sN0) B6v B4f A9z
 have J4q := F_name_W0.binds (ps := ["self"]) fun _ _ _ _ _ _ us hl => match us, hl with | [_], _ => rfl
 have G6f : Meth K W0 "name" A3z := ⟨B4p, B3p, A9z⟩
 have WC0 : WayC K mg "Down" W0 CW := ⟨mg_of X G Y2a, Y7e, Y6m, U2w, sn, tk, U9q, U8v⟩
 have Y6d : Cls K W1 := ⟨U5x, U3z, U4t, U6n⟩
 have Y6e : Mk0 K W1 := ⟨J9f, U3n, U0r⟩
 have F_name_W1 := U0 (st := sN1) B6q B4j A9v
 have J4t := F_name_W1.binds (ps := ["self"]) fun _ _ _ _ _ _ us hl => match us, hl with | [_], _ => rfl
 have G5k : Meth K W1 "name" A4a := ⟨B6z, B3u, A9v⟩
 have WC1 : WayC K mg "Up" W1 CW := ⟨mg_of X G Y0d, Y6d, Y6e, U6m, sn, tk, U5u, U8r⟩
 have Y7g : Cls K W2 := ⟨U6f, U0k, V0q, U4c⟩
 have Y7j : Mk0 K W2 := ⟨U7p, U2v, U7d⟩
 have F_name_W2 := U0 (st := sN2) B4u B6s B0a
 have J3e := F_name_W2.binds (ps := ["self"]) fun _ _ _ _ _ _ us hl => match us, hl with | [_], _ => rfl
 have G4w : Meth K W2 "name" A3u := ⟨B7a, B4e, B0a⟩
 have WC2 : WayC K mg "Floor" W2 CW := ⟨mg_of X G Y1k, Y7g, Y7j, V0z, sn, tk, U8y, U5q⟩
 have Y7n : Cls K W3 := ⟨U4e, U9r, U8h, U7s⟩
 have Y7b : Mk0 K W3 := ⟨U8a, U2y, U5g⟩
 have F_name_W3 := U0 (st := sN3) B5a B5f A9t
 have J5a := F_name_W3.binds (ps := ["self"]) fun _ _ _ _ _ _ us hl => match us, hl with | [_], _ => rfl
 have G8q : Meth K W3 "name" A3x := ⟨B3h, B6j, A9t⟩
 have WC3 : WayC K mg "Ceiling" W3 CW := ⟨mg_of X G Y0n, Y7n, Y7b, J9u, sn, tk, U9d, U6s⟩
 have Y6j : Cls K W4 := ⟨U4d, J9q, U4n, U5e⟩
 have Y6p : Mk0 K W4 := ⟨U0h, U3q, U2x⟩
 have F_name_W4 := U0 (st := sN4) B4b B5t A9s
 have J3p := F_name_W4.binds (ps := ["self"]) fun _ _ _ _ _ _ us hl => match us, hl with | [_], _ => rfl
 have G3p : Meth K W4 "name" A3v := ⟨B6f, B5q, A9s⟩
 have WC4 : WayC K mg "HalfUp" W4 CW := ⟨mg_of X G Y2y, Y6j, Y6p, V0f, sn, tk, U2k, U3b⟩
 have Y6k : Cls K W5 := ⟨U6d, U7f, U5c, U9s⟩
 have Y7q : Mk0 K W5 := ⟨U4g, U9x, U0a⟩
 have F_name_W5 := U0 (st := sN5) B5d B3x A9w
 have J5c := F_name_W5.binds (ps := ["self"]) fun _ _ _ _ _ _ us hl => match us, hl with | [_], _ => rfl
 have G5c : Meth K W5 "name" A4b := ⟨B5g, B3j, A9w⟩
 have WC5 : WayC K mg "HalfDown" W5 CW := ⟨mg_of X G V9z, Y6k, Y7q, U3h, sn, tk, U2u, U6w⟩
 have Y6c : Cls K W6 := ⟨U1q, U0s, U8s, J8u⟩
 have Y7h : Mk0 K W6 := ⟨U7q, U2q, U1t⟩
 have F_name_W6 := U0 (st := sN6) B5k B5s A9y
 have J4w := F_name_W6.binds (ps := ["self"]) fun _ _ _ _ _ _ us hl => match us, hl with | [_], _ => rfl
 have G1r : Meth K W6 "name" A3t := ⟨B6e, B4q, A9y⟩
 have WC6 : WayC K mg "HalfEven" W6 CW := ⟨mg_of X G Y2p, Y6c, Y7h, V0c, sn, tk, U7z, U6b⟩
 have Y7c : Cls K W7 := ⟨U3e, U8d, U6u, U7g⟩
 have Y5z : Mk0 K W7 := ⟨U4s, U9h, U0y⟩
 have F_name_W7 := U0 (st := sN7) B4a B4g A9u
 have J3z := F_name_W7.binds (ps := ["self"]) fun _ _ _ _ _ _ us hl => match us, hl with | [_], _ => rfl
 have G4e : Meth K W7 "name" A3y := ⟨B4h, B6w, A9u⟩
 have WC7 : WayC K mg "FiveUp" W7 CW := ⟨mg_of X G Y3f, Y7c, Y5z, J9k, sn, tk, U3a, U1b⟩
 let cw : Wy -> Addr := fun y => match y with | .down => W0 | .up => W1 | .floor => W2 | .ceiling => W3 | .halfUp => W4 | .halfDown => W5 | .halfEven => W6 | .fiveUp => W7
 have W : ∀ y : Wy, WayC K mg y.cls (cw y) CW := fun y => match y with | .down => WC0 | .up => WC1 | .floor => WC2 | .ceiling => WC3 | .halfUp => WC4 | .halfDown => WC5 | .halfEven => WC6 | .fiveUp => WC7
 have Y7p : Cls K CN := ⟨U2a, U0d, U1s, J9w⟩
 have FI_CN := U0 (st := C5h) V0v U8f U1v
 have Y6f := FI_CN.binds (ps := ["self", "kind", "sign", "figures", "power"]) fun _ _ _ _ _ _ us hl => match us, hl with | [_, _, _, _, _], _ => rfl
 have Y9s : Mk K CN C6u := ⟨U3k, U3s, V1e, U0x⟩
 have N : Num K mg CN := ⟨mg_of X G Y0b, Y7p, B6t, B5c, A5d, B1h, U3v, sn, tk, U1y, D1p⟩
 have F_goes_up_W0 := U0 (st := sU0) A4z A5c A1n
 have C9a := F_goes_up_W0.binds (ps := ["self", "sign", "last", "part"]) fun _ _ _ _ _ _ us hl => match us, hl with | [_, _, _, _], _ => rfl
 have C2h : Meth K W0 "goes_up" Z6 := ⟨A6v, A5m, A1n⟩
 have F_goes_up_W1 := U0 (st := sU1) A5r A5f A1e
 have D0n := F_goes_up_W1.binds (ps := ["self", "sign", "last", "part"]) fun _ _ _ _ _ _ us hl => match us, hl with | [_, _, _, _], _ => rfl
 have C3w : Meth K W1 "goes_up" A0b := ⟨A6f, A6s, A1e⟩
 have F_goes_up_W2 := U0 (st := sU2) A6t A5e A1h
 have C9w := F_goes_up_W2.binds (ps := ["self", "sign", "last", "part"]) fun _ _ _ _ _ _ us hl => match us, hl with | [_, _, _, _], _ => rfl
 have C4e : Meth K W2 "goes_up" Z5 := ⟨A5u, A4y, A1h⟩
 have F_goes_up_W3 := U0 (st := sU3) A6a A6q A1k
 have C9p := F_goes_up_W3.binds (ps := ["self", "sign", "last", "part"]) fun _ _ _ _ _ _ us hl => match us, hl with | [_, _, _, _], _ => rfl
 have C2e : Meth K W3 "goes_up" A0a := ⟨A5n, A5q, A1k⟩
 have F_goes_up_W4 := U0 (st := sU4) A5p A6j A1m
 have C9k := F_goes_up_W4.binds (ps := ["self", "sign", "last", "part"]) fun _ _ _ _ _ _ us hl => match us, hl with | [_, _, _, _], _ => rfl
 have C5c : Meth K W4 "goes_up" Z3 := ⟨A6y, A5a, A1m⟩
 have F_goes_up_W5 := U0 (st := sU5) A6w A5v A1j
 have D1t := F_goes_up_W5.binds (ps := ["self", "sign", "last", "part"]) fun _ _ _ _ _ _ us hl => match us, hl with | [_, _, _, _], _ => rfl
 have C4n : Meth K W5 "goes_up" Z4 := ⟨A6p, A6b, A1j⟩
 have F_goes_up_W6 := U0 (st := sU6) A5t A5j A1g
 have C9t := F_goes_up_W6.binds (ps := ["self", "sign", "last", "part"]) fun _ _ _ _ _ _ us hl => match us, hl with | [_, _, _, _], _ => rfl
 have C3f : Meth K W6 "goes_up" Z8 := ⟨A5z, A5h, A1g⟩
 have F_goes_up_W7 := U0 (st := sU7) A6e A6g A1f
 have C9h := F_goes_up_W7.binds (ps := ["self", "sign", "last", "part"]) fun _ _ _ _ _ _ us hl => match us, hl with | [_, _, _, _], _ => rfl
 have C4z : Meth K W7 "goes_up" Z9 := ⟨A6x, A5y, A1f⟩
 have Y7m : Cls K CC := ⟨U8t, U9z, V0p, U9v⟩
 have Y6y := G9b (st := Z0) U8z V0e V0u
 have Y9u : Mk K CC C6x := ⟨U7u, J9m, J9s, U5n⟩
 have F_flags_CC := U0 (st := A1p) B1d B1s A5k
 have G7g := F_flags_CC.binds (ps := ["self"]) fun _ _ _ _ _ _ us hl => match us, hl with | [_], _ => rfl
 have D6j : Meth K CC "flags" A2r := ⟨B1g, B2b, A5k⟩
 have F_lowest_CC := U0 (st := A9q) A7x A8g A2y
 have D6y := F_lowest_CC.binds (ps := ["self"]) fun _ _ _ _ _ _ us hl => match us, hl with | [_], _ => rfl
 have D3f : Meth K CC "lowest" A0t := ⟨A8w, A9f, A2y⟩
 have F_way_CC := U0 (st := A9j) B9v C1d B2s
 have U2e := F_way_CC.binds (ps := ["self"]) fun _ _ _ _ _ _ us hl => match us, hl with | [_], _ => rfl
 have J3w : Meth K CC "way" A9e := ⟨C1g, C0g, B2s⟩
 have F_traps_CC := U0 (st := A1s) B1z B2d A5x
 have G8d := F_traps_CC.binds (ps := ["self"]) fun _ _ _ _ _ _ us hl => match us, hl with | [_], _ => rfl
 have D8a : Meth K CC "traps" A2q := ⟨B1v, B2a, A5x⟩
 have F_trap_CC := U0 (st := A3s) B6y B3q A9x
 have J5b := F_trap_CC.binds (ps := ["self", "names"]) fun _ _ _ _ _ _ us hl => match us, hl with | [_, _], _ => rfl
 have G4j : Meth K CC "trap" A3w := ⟨B4y, B5u, A9x⟩
 have F_raised_CC := U0 (st := A0d) A9b A8p A2z
 have D6r := F_raised_CC.binds (ps := ["self", "names"]) fun _ _ _ _ _ _ us hl => match us, hl with | [_, _], _ => rfl
 have C8v : Meth K CC "raised" A0u := ⟨A8k, A9g, A2z⟩
 have Y7k : Cls K CQ := ⟨U1d, U4m, V0j, V1a⟩
 have Y6a := G9b (st := A4h) U1f U6p U1w
 have Y9r : Mk K CQ C7f := ⟨U6x, U3p, U9f, U3t⟩
 have F_at_CQ := U0 (st := B8z) D2d C9f B8c
 have V6p := F_at_CQ.binds (ps := ["self", "power"]) fun _ _ _ _ _ _ us hl => match us, hl with | [_, _], _ => rfl
 have U9m : Meth K CQ "at" B2t := ⟨D3m, D2v, B8c⟩
 have xk3 : ExcK K C3 := ⟨xga3, xgh3, xca3, sn, tk, xob3, xbe3, by rw [xcl3]; rfl⟩
 have nkT : nsOkIn K NT = true := by unfold nsOkIn; rw [lN]; exact alN
 have tlT : tailIn K G9j bmT = true := by
   have z := q1
   unfold excIn at z
   rw [lT1] at z
   simp only [excClassObj, Bool.and_eq_true] at z
   exact z.1.1.2
 have F_iT := U0 (st := A9n) V6g Y1f V9y
 have Y9t := F_iT.binds (ps := ["self", "signal"]) fun _ _ _ _ _ _ us hl => match us, hl with | [_, _], _ => rfl
 have XI3 : ExcI K C3 fX := ⟨⟨_, _, _, _, _, _, _, _, _, _, _, _, _, _, _, lT, nkT, niT, tlT⟩, ⟨_, V6g, fcT⟩, saT, xob3⟩
 have SG : SigK K mg aS := ⟨mg_of X G a_S, ⟨_, lS, rfl⟩, fun H => .inr ⟨_, _, _, lS, rfl, rfl, C7 (by show 7 <= 1000; decide), .cons ⟨_, rfl⟩ (.cons ⟨_, rfl⟩ (.cons ⟨_, rfl⟩ (.cons ⟨_, rfl⟩ (.cons ⟨_, rfl⟩ (.cons ⟨_, rfl⟩ (.cons ⟨_, rfl⟩ (.nil)))))))⟩⟩
 have C : CtxC K mg CC := ⟨mg_of X G Y3d, Y7m, B5p, B6h, B1x, B3z, B1y, A6r⟩
 have B : Err K mg "BadNumber" C2 := ⟨mg_of X G Y0a, q2⟩
 have B2 : Err K mg "BadContext" C1 := ⟨mg_of X G Y3a, q1⟩
 have RT : CaughtU K mg C3 := ⟨mg_of X G V5y, ⟨tyT, by unfold clsIn; rw [lT]; rfl, xbe3⟩, subT, xk3, ⟨_, by unfold clsIn; rw [lT], rfl⟩, nsg3⟩
 have R : RatC K mg CQ CE := ⟨mg_of X G Y1w, mg_of X G Y3b, Y7k, C1q, A8a, B1k, U1r, sn, tk, U7h, J9j⟩
 have b4 := D9t (fd := fnOf "__init__" "Context.__init__" (B5 Z0) (B1 Z0) (A3 Z0) (.ref U5y) V0b U6v U1m U2m G4q U4z) (ps := ["self", "room", "way", "least", "most"]) (ds := []) rfl U0m rfl fun us hl => by obtain ⟨a, b, c, d, e, rfl⟩ := Y8f (V1u hl); exact ⟨_, rfl, rfl⟩
 refine ⟨fnOf "law" "law" (B5 C1t) (B1 C1t) (A3 C1t) .none U9a U5b J9g U8w C9g U5r, fun s v => .of_eq rfl, fun base _ _ LB => ?_⟩
 have WN : ∀ y : Wy, Y5t l.prog w K mg base (cw y) y.name := fun y => match y with | .down => ⟨_, _, G6f, Y4g F_name_W0, J4q⟩ | .up => ⟨_, _, G5k, Y5g F_name_W1, J4t⟩ | .floor => ⟨_, _, G4w, Y5a F_name_W2, J3e⟩ | .ceiling => ⟨_, _, G8q, Y4t F_name_W3, J5a⟩ | .halfUp => ⟨_, _, G3p, Y5e F_name_W4, J3p⟩ | .halfDown => ⟨_, _, G5c, Y3u F_name_W5, J5c⟩ | .halfEven => ⟨_, _, G1r, Y5s F_name_W6, J4w⟩ | .fiveUp => ⟨_, _, G4e, Y3t F_name_W7, J3z⟩
 have U : ∀ y : Wy, Y5d l.prog w K mg base (cw y) y := fun y => match y with | .down => ⟨_, _, C2h, Y5u F_goes_up_W0, C9a⟩ | .up => ⟨_, _, C3w, Y3r F_goes_up_W1, D0n⟩ | .floor => ⟨_, _, C4e, Y4s F_goes_up_W2, C9w⟩ | .ceiling => ⟨_, _, C2e, Y5h F_goes_up_W3, C9p⟩ | .halfUp => ⟨_, _, C5c, Y3s F_goes_up_W4, C9k⟩ | .halfDown => ⟨_, _, C4n, Y4v F_goes_up_W5, D1t⟩ | .halfEven => ⟨_, _, C3f, Y3p F_goes_up_W6, C9t⟩ | .fiveUp => ⟨_, _, C4z, Y4c F_goes_up_W7, C9h⟩
 have Gb := D8y (P := l.prog) (w := w) (base := base) D_bounded U8k O T B2
 have Gw := J5r (P := l.prog) (w := w) (base := base) D0x O T B2 W
 have MC : MakeC l.prog w K mg base CC C1 C6x _ := ⟨Y9u, G0g Y6y D_bounded D0x Gb Gw C W WN⟩
 have MR : MakeR l.prog w K mg base CQ C7f (fnOf "__init__" "Ratio.__init__" (B5 A4h) (B1 A4h) (A3 A4h) (.ref U3r) U8m U8j U6t U5j G8e U2s) (.int 0 V7p) (fun us ws => match ws with | [a] => us ++ [a] | _ => []) (fun us ws => match ws with | [a] => us ++ [a] | _ => []) :=
   { m := Y9r
     g := J8j Y6a R
     b3 := D9t rfl D6d rfl fun us hl => by obtain ⟨a, b, c, d, rfl⟩ := Y9a (V1u hl); exact ⟨_, rfl, rfl⟩
     b2 := D9t rfl D6d rfl fun us hl => by obtain ⟨a, b, c, rfl⟩ := Y4h (V1u hl); exact ⟨_, rfl, rfl⟩
     r0 := ⟨_, rfl⟩
     kP := ⟨(fun s us ws XK hl => by
         rcases ws with _ | ⟨p, _ | ⟨q, t⟩⟩
         . cases hl
         . obtain ⟨a, b, c, rfl⟩ := Y4h (V1u hl)
           exact binds_K XK rfl D6d rfl rfl rfl
         . cases hl), fun r z => match z with
       | .cons a .nil => r.append (.cons a .nil)
       | .nil => .nil
       | .cons _ (.cons _ _) => .nil⟩
     eP := fun _ _ _ _ => rfl }
 have M : MakeN l.prog w K mg base CN C6u _ := ⟨Y9s, V3d FI_CN N, Y6f⟩
 have Gn := J6u (P := l.prog) (w := w) (base := base) D1z O T B2 SG
 have Go := J5y (P := l.prog) (w := w) (base := base) D0h SG
 have GX := J1p (P := l.prog) (w := w) (mg := mg) (base := base) F_iT XI3 nsg3
 have MF : Has l.prog w K mg base CC "flags" 1 ["self"] (B0p CC) := ⟨_, _, D6j, D5c F_flags_CC C O, G7g⟩
 have ML : Has l.prog w K mg base CC "lowest" 1 ["self"] (B8u CC) := ⟨_, _, D3f, J1j F_lowest_CC C, D6y⟩
 have MW : Has l.prog w K mg base CC "way" 2 ["self"] (B8p CC cw) := ⟨_, _, J3w, J2j F_way_CC D0x Gw C, U2e⟩
 have MT : Has l.prog w K mg base CC "traps" 1 ["self"] (B0w CC) := ⟨_, _, D8a, D4e F_traps_CC C O, G8d⟩
 have MP : Has l.prog w K mg base CC "trap" 2 ["self", "names"] (D9x K CC C1) := ⟨_, _, G4j, V3p F_trap_CC D1z Gn D0h Go C, J5b⟩
 have MD : Has l.prog w K mg base CC "raised" 3 ["self", "names"] (B2n K CC C1 C3) := ⟨_, _, C8v, J2r F_raised_CC D1z Gn D0h Go C (mg_of X G V5y) XI3 GX Y9t, D6r⟩
 have CM : CtxM l.prog w K mg base CC C1 C3 CW cw := ⟨C, MW, ML, MD, W, U⟩
 have Gneedn := D4k (P := l.prog) (w := w) (base := base) D1j O T B N
 have Gtold := V2c (P := l.prog) (w := w) (base := base) D_told D1j O T B N
 have Gplain := J7w (P := l.prog) (w := w) (base := base) D_plain C6t U8k O T B N M
 have Gend := V9j (P := l.prog) (w := w) (base := base) D_end C6t U8k O T B N M
 have Gnothing := D8n (P := l.prog) (w := w) (base := base) D_nothing N M
 have Glead := V2p (P := l.prog) (w := w) (base := base) G1m O N
 have Gto := J7f (P := l.prog) (w := w) (base := base) C9v C6s (C8p C6s)
 have Gten := V3s (P := l.prog) (w := w) (base := base) U1j O
 have Gpart := J2h (P := l.prog) (w := w) (base := base) D7b
 have Gat := V8u (P := l.prog) (w := w) (base := base) F_at_CQ C9v Gto D7b Gpart R O
 have Gmix := J5q (P := l.prog) (w := w) (base := base) B8d
 have Gfig := D4t (P := l.prog) (w := w) (base := base) C7d B8d Gmix U1j Gten O
 have Gnum := D9f (P := l.prog) (w := w) (base := base) D7x B8d Gmix C7d Gfig O
 have Gtr := J1b (P := l.prog) (w := w) (base := base) (k := 8) (by decide) J0s D_told Gtold RT
 have Gst := D8p (P := l.prog) (w := w) (base := base) (k := 8) D7p J0s Gtr C MF SG O
 have Gctx := D4b (P := l.prog) (w := w) (base := base) C0h MC b4 C MD MP O
 have Gown := V3q (P := l.prog) (w := w) (base := base) U9p B8d Gmix O
 have Gmade := J5n (P := l.prog) (w := w) (base := base) U0g D_plain Gplain D_end Gend D_nothing Gnothing
 have Gneedns := J1t (P := l.prog) (w := w) (base := base) C1c D1j Gneedn
 have Gsomek := J5s (P := l.prog) (w := w) (base := base) J0r O N
 have Gnei := C8c (P := l.prog) (w := w) (base := base) D_neighbour CM
 have Gbey := J0z (P := l.prog) (w := w) (base := base) D7e G1m Glead CM N
 have Gsr := D8v (P := l.prog) (w := w) (base := base) C6v
 have Gsl := D8s (P := l.prog) (w := w) (base := base) C7e CM
 have Glgo := J8s (P := l.prog) (w := w) (K := K) (base := base) J0x
 have Gpa := D8m (P := l.prog) (w := w) (base := base) C6y N MR R U9m Gat V6p
 have Gvo := V2m (P := l.prog) (w := w) (base := base) D_void D_nothing Gnothing CM
 have Gsm := D8c (P := l.prog) (w := w) (base := base) C7a C6v Gsr C7e Gsl G1m Glead CM N
 have Gmv := J8m (P := l.prog) (w := w) (base := base) D_moved C6y Gpa D_neighbour Gnei C9v Gto D7e Gbey D_void Gvo C7a Gsm CM N M
 have Gsp := C8j (P := l.prog) (w := w) (base := base) B7s C1c Gneedns J0r Gsomek D_nothing Gnothing D_void Gvo D_moved Gmv CM N
 have Glat := V9s (P := l.prog) (w := w) (base := base) V7m U1j Gten J0x Glgo O
 have Gdue := V1n (P := l.prog) (w := w) (base := base) V7k V7m Glat O
 have Gpair := J5u (P := l.prog) (w := w) (base := base) J0y D2w (G9u D2w O) D7x Gnum O
 exact V7z Y6s hcode LB D2w (G9u D2w O) U9p Gown C0h Gctx J0y Gpair U0g Gmade V7k Gdue D7p Gst B7s Gsp D_told Gtold C MT O
theorem walk {cc P0 : Addr} {l : OpenLaw} {q : Program} {loose : List Str} {XP : (Str -> Option Value) -> Heap -> Prop} {YP : World -> Heap -> Prop} {d : DefRec} {K : Params -> Frag} (hn : l.most = some 63) (hdf : d.params.defaults = [])
   (hY : ∀ (w : World) (h : Heap), YP w h -> (K w.params).In h /\ CodeHd h cc P0 /\ h.get? P0 = some (tabObj #[])) (hKP : ∀ p, (K p).lookup P0 = none)
   (F : ∀ (w : World) (mg : Str -> Option Value) (fa : Addr) (h : Heap), (K w.params).In h -> h.Ns mainGlobals mg -> mg d.name = some (.ref fa) ->
     ∃ fd : FuncData, (∀ (s : Shared) (u : Value), BindsTo s fd ⟨[u], []⟩ [("_law_script", u)]) /\ ∀ base : Heap, (K w.params).In base -> base.Ns mainGlobals mg -> LamB mg base cc P0 -> FnOkG l.prog w (K w.params) mg base (CX1 l.prog w) 11 fa fd ["_law_script"] ((J0b (K w.params) P0))) :
   WalkO q loose XP YP l.row.toRowW d [] (fun f vs => PySem.call f vs) :=
 L2.walk_ofL (n := 63) (k := 11) (x := "_law_script") (CX := fun w => CX1 l.prog w) (sp := fun w => (J0b (K w.params) P0)) hn (by decide) hdf ⟨rfl, by decide, by decide⟩ hY hKP F (fun _ _ a ns hl hP hS => ⟨a, ns, rfl, hl, hS, hP, fun _ => rfl⟩) fun _ _ _ _ _ z => by
   obtain ⟨_, _, _, _, _, _, _, _, _, _, z, _⟩ := z
   exact z
end TR
def PySem.W.Fast.tw6987499271302020610 : Unit := ()
def PySem.W.Fast.tw16601396195129404558 : Unit := ()
def PySem.W.Fast.tw17517828302035111193 : Unit := ()
def PySem.W.Fast.tw10710748342849071990 : Unit := ()
def PySem.W.Fast.tw9914836881190137257 : Unit := ()
def PySem.W.Fast.tw18188772583815090990 : Unit := ()
def PySem.W.Fast.tw7952852064678232595 : Unit := ()
def PySem.W.Fast.tw8636534515508412624 : Unit := ()
def PySem.W.Fast.tw1396265533332411745 : Unit := ()
def PySem.W.Fast.tw14186559813635152530 : Unit := ()
def PySem.W.Fast.tw309165615238994364 : Unit := ()
def PySem.W.Fast.tw8708834989489376319 : Unit := ()
def PySem.W.Fast.tw5604238081046888330 : Unit := ()
def PySem.W.Fast.tw13076041843081875527 : Unit := ()
def PySem.W.Fast.tw6332587264979842664 : Unit := ()
def PySem.W.Fast.tw5782450010632571511 : Unit := ()
def PySem.W.Fast.tw14360566607353964645 : Unit := ()
def PySem.W.Fast.tw5164970506860998045 : Unit := ()
def PySem.W.Fast.tw11903985507041104485 : Unit := ()
def PySem.W.Fast.tw11108232602547857576 : Unit := ()
def PySem.W.Fast.tw8118499570962035609 : Unit := ()
def PySem.W.Fast.tw3289730946899076058 : Unit := ()
def PySem.W.Fast.tw9787099751576447278 : Unit := ()
def PySem.W.Fast.tw12676092864774543268 : Unit := ()
def PySem.W.Fast.tw15166668517908806028 : Unit := ()
def PySem.W.Fast.tw5107134221610706708 : Unit := ()
def PySem.W.Fast.tw2554017910114483738 : Unit := ()
def PySem.W.Fast.tw2435268568528546552 : Unit := ()
def PySem.W.Fast.tw9277139429968156561 : Unit := ()
def PySem.W.Fast.tw14457463889563955647 : Unit := ()
def PySem.W.Fast.tw1184457851526516159 : Unit := ()
def PySem.W.Fast.tw10193820501352070252 : Unit := ()
def PySem.W.Fast.tw3561616650380622059 : Unit := ()
def PySem.W.Fast.tw14909363774117374383 : Unit := ()
def PySem.W.Fast.tw12614818466390591797 : Unit := ()
def PySem.W.Fast.tw4228759440554264950 : Unit := ()
def PySem.W.Fast.tw16191158846951264577 : Unit := ()
def PySem.W.Fast.tw15048721085116693740 : Unit := ()
def PySem.W.Fast.tw5670225667198078117 : Unit := ()
def PySem.W.Fast.tw13997727378559640943 : Unit := ()
def PySem.W.Fast.tw5309765465092507610 : Unit := ()
def PySem.W.Fast.tw17635667861664343543 : Unit := ()
def PySem.W.Fast.tw1949912325410466770 : Unit := ()
def PySem.W.Fast.tw17548759227591981496 : Unit := ()
def PySem.W.Fast.tw9260653885143247359 : Unit := ()
def PySem.W.Fast.tw16490185962902371997 : Unit := ()
def PySem.W.Fast.tw3274668081825745997 : Unit := ()
def PySem.W.Fast.tw16582218719775757746 : Unit := ()
def PySem.W.Fast.tw3707225269026367253 : Unit := ()
def PySem.W.Fast.tw4697547558106390494 : Unit := ()
def PySem.W.Fast.tw8267934443718885780 : Unit := ()
def PySem.W.Fast.tw16839510560172448264 : Unit := ()
def PySem.W.Fast.tw4821391253718176145 : Unit := ()
def PySem.W.Fast.tw11042247282140178337 : Unit := ()
def PySem.W.Fast.tw9202255973557686043 : Unit := ()
def PySem.W.Fast.tw14307565077031261148 : Unit := ()
def PySem.W.Fast.tw2218470607646213306 : Unit := ()
def PySem.W.Fast.tw6595734459008154893 : Unit := ()
def PySem.W.Fast.tw4822206107908350416 : Unit := ()
def PySem.W.Fast.tw15077774061641322571 : Unit := ()
def PySem.W.Fast.tw15746758007619428552 : Unit := ()
def PySem.W.Fast.tw6604106559793228815 : Unit := ()
def PySem.W.Fast.tw7104648181690345906 : Unit := ()
def PySem.W.Fast.tw7772928301201013324 : Unit := ()
def PySem.W.Fast.tw14579666239290133912 : Unit := ()
def PySem.W.Fast.tw5126770225153837469 : Unit := ()
def PySem.W.Fast.tw13612267470215264666 : Unit := ()
def PySem.W.Fast.tw10495515903722974243 : Unit := ()
open PySem PySem.W PyProof.Rows
set_option maxRecDepth 100000 in
set_option maxHeartbeats 0 in
theorem PySem.Challenge.cw_tenreckon_k27_same_powers_holds : PySem.Challenge.rw_tenreckon_k27_same_powers.Holds := by
 w_on; o_law; k_head; (case hw => w_witness2)
 k_fill
 refine TR.walk (l := PySem.Challenge.rw_tenreckon_k27_same_powers) (cc := 809) (P0 := 805) rfl rfl (fun w h Y => ⟨PySem.W.km_in_of Y, PySem.W.codeHd_of_K (PySem.W.km_in_of Y) (by kernel_rfl), PySem.W.km_tabs_of Y _ (by k_mem)⟩) (fun _ => by kernel_rfl) ?F
 case F =>
   intro w mg fa h KX G hmg
   refine' TR.all_mk (cc := 809) (P0 := 805) KX G hmg ?B6n ?B4k ?B5y ?B6d ?D2s ?D1f ?C8w ?C8y ?C0y ?C0s ?B9w ?C0j ?D1b ?D3j ?C9n ?D2y ?U9g ?U0j ?U0p ?J9n ?B4r ?B6a ?B3v ?B6x ?G5d ?G4x ?G5y ?G2g ?G2s ?G4m ?G5f ?G1z ?D0c ?C9j ?D2r ?D0r ?B1u ?B1p ?B1j ?B1w ?D0p ?D0q ?D1u ?D2g ?J8x ?U2j ?U5m ?V0m ?B4v ?B4n ?B5r ?B4c ?A8s ?A8f ?A8t ?A9d ?C0z ?B9x ?C0a ?C1b ?B3w ?B4z ?B4t ?B4w ?B3s ?B4m ?B5w ?B5e ?G5j ?G8k ?G1k ?G0t ?A8x ?A8u ?A8n ?A8b ?D0d ?D3p ?D2h ?C9b ?B3y ?B3n ?B6c ?B6m ?B6b ?B5b ?B4x ?B6r ?D1v ?D1y ?D1r ?C9r ?B3r ?B5z ?B6p ?B6k ?D1q ?C8t ?C9s ?D3b ?D0w ?C8x ?D2b ?D3q ?G0x ?G1x ?G6z ?G1w ?D2u ?D1a ?D2m ?D3h ?U6h ?U7t ?J8v ?U4p ?B5m ?B3m ?B4d ?B3k ?C0m ?C0b ?B9u ?B9t ?G0s ?G4h ?G6y ?G2n ?G3a ?G6a ?G8s ?G8n ?B2c ?B1r ?B1t ?B1m ?D2q ?D0j ?D3d ?D1n ?D2t ?C9e ?D0b ?D0m ?C1n ?C0p ?C1m ?C0c ?U2b ?U7b ?U9w ?V0w ?V0t ?U2n ?U5v ?U0w ?D1x ?D2a ?D0s ?D0f ?J0p ?U4b ?U6c ?U4f ?A5g ?J9a ?G1b ?U5h ?G7u ?D3t ?G8m ?U9b ?D3e ?U4v ?U3f ?U3d ?U0v ?U1a ?U7r ?G6m ?A8y ?B1e ?V0n ?C0v ?C0e ?U7w ?A6u ?B1q ?A8d ?B1n ?A8e ?A6m ?A7y ?A8j ?A4x ?A8r ?A4v ?A3h ?A6k ?B1b ?A8m ?B1f ?A8v ?A5w ?A8q ?A9a ?A6n ?A8h ?A6d ?A3j ?A6h ?A4u ?A3f ?A5b ?A3g ?A2p ?A3d ?A8z ?A6c ?A9c ?A5s ?A3e ?A4w ?A0y ?A0h ?A0x ?A0j ?Z7 ?A0g ?sn ?tk ?Y6v ?Y2a ?U2z ?J9c ?U9c ?J9y ?J9h ?U7x ?U2w ?U9q ?V0d ?U8v ?B4p ?B3p ?B6v ?B4f ?A9z ?Y0d ?U5x ?U3z ?U4t ?U6n ?J9f ?U0r ?U6m ?U5u ?U3n ?U8r ?B6z ?B3u ?B6q ?B4j ?A9v ?Y1k ?U6f ?U0k ?V0q ?U4c ?U7p ?U7d ?V0z ?U8y ?U2v ?U5q ?B7a ?B4e ?B4u ?B6s ?B0a ?Y0n ?U4e ?U9r ?U8h ?U7s ?U8a ?U5g ?J9u ?U9d ?U2y ?U6s ?B3h ?B6j ?B5a ?B5f ?A9t ?Y2y ?U4d ?J9q ?U4n ?U5e ?U0h ?U2x ?V0f ?U2k ?U3q ?U3b ?B6f ?B5q ?B4b ?B5t ?A9s ?V9z ?U6d ?U7f ?U5c ?U9s ?U4g ?U0a ?U3h ?U2u ?U9x ?U6w ?B5g ?B3j ?B5d ?B3x ?A9w ?Y2p ?U1q ?U0s ?U8s ?J8u ?U7q ?U1t ?V0c ?U7z ?U2q ?U6b ?B6e ?B4q ?B5k ?B5s ?A9y ?Y3f ?U3e ?U8d ?U6u ?U7g ?U4s ?U0y ?J9k ?U3a ?U9h ?U1b ?B4h ?B6w ?B4a ?B4g ?A9u ?Y0b ?U2a ?U0d ?U1s ?J9w ?U3k ?U0x ?U3v ?U1y ?B6t ?B5c ?A5d ?B1h ?U3s ?V1e ?V0v ?U8f ?U1v ?D1p ?A6v ?A5m ?A4z ?A5c ?A1n ?A6f ?A6s ?A5r ?A5f ?A1e ?A5u ?A4y ?A6t ?A5e ?A1h ?A5n ?A5q ?A6a ?A6q ?A1k ?A6y ?A5a ?A5p ?A6j ?A1m ?A6p ?A6b ?A6w ?A5v ?A1j ?A5z ?A5h ?A5t ?A5j ?A1g ?A6x ?A5y ?A6e ?A6g ?A1f ?Y3d ?U8t ?U9z ?V0p ?U9v ?U7u ?U5n ?B5p ?B6h ?B1x ?B3z ?B1y ?A6r ?J9m ?J9s ?U8z ?V0e ?V0u ?U0m ?B1g ?B2b ?B1d ?B1s ?A5k ?A8w ?A9f ?A7x ?A8g ?A2y ?C1g ?C0g ?B9v ?C1d ?B2s ?B1v ?B2a ?B1z ?B2d ?A5x ?B4y ?B5u ?B6y ?B3q ?A9x ?A8k ?A9g ?A9b ?A8p ?A2z ?Y1w ?U1d ?U4m ?V0j ?V1a ?U6x ?U3t ?U1r ?U7h ?C1q ?A8a ?B1k ?U3p ?U9f ?U1f ?U6p ?U1w ?D6d ?D3m ?D2v ?D2d ?C9f ?B8c ?Y3b ?J9j ?Y3a ?Y0a ?V5y ?Y7a ?cty ?ccl ?cex ?q1 ?q2 ?sub3 ?xga3 ?xgh3 ?xca3 ?xob3 ?xbe3 ?xcl3 ?Y6g ?Y6x ?Y6w ?hv3 ?lT ?lN ?alN ?niT ?lT1 ?saT ?nsg3 ?V6g ?Y1f ?V9y ?fcT ?kTR ?tyT ?subT ?a_S ?lS ?hcode
   case B6n|B4k|B5y|B6d|D2s|D1f|C8w|C8y|C0y|C0s|B9w|C0j|D1b|D3j|C9n|D2y|U9g|U0j|U0p|J9n|B4r|B6a|B3v|B6x|G5d|G4x|G5y|G2g|G2s|G4m|G5f|G1z|D0c|C9j|D2r|D0r|B1u|B1p|B1j|B1w|D0p|D0q|D1u|D2g|J8x|U2j|U5m|V0m|B4v|B4n|B5r|B4c|A8s|A8f|A8t|A9d|C0z|B9x|C0a|C1b => k_is
   case B3w|B4z|B4t|B4w|B3s|B4m|B5w|B5e|G5j|G8k|G1k|G0t|A8x|A8u|A8n|A8b|D0d|D3p|D2h|C9b|B3y|B3n|B6c|B6m|B6b|B5b|B4x|B6r|D1v|D1y|D1r|C9r|B3r|B5z|B6p|B6k|D1q|C8t|C9s|D3b|D0w|C8x|D2b|D3q|G0x|G1x|G6z|G1w|D2u|D1a|D2m|D3h|U6h|U7t|J8v|U4p|B5m|B3m|B4d|B3k => k_is
   case C0m|C0b|B9u|B9t|G0s|G4h|G6y|G2n|G3a|G6a|G8s|G8n|B2c|B1r|B1t|B1m|D2q|D0j|D3d|D1n|D2t|C9e|D0b|D0m|C1n|C0p|C1m|C0c|U2b|U7b|U9w|V0w|V0t|U2n|U5v|U0w|D1x|D2a|D0s|D0f|J0p|U4b|U6c|U4f|A5g|J9a|G1b|U5h|G7u|D3t|G8m|U9b|D3e|U4v|U3f|U3d|U0v|U1a|U7r|G6m => k_is
   case A8y|B1e|V0n|C0v|C0e|U7w|A6u => k_is
   case B1q|A8d|B1n|A8e|A6m|A7y|A8j|A4x|A8r|A4v|A3h|A6k|B1b|A8m|B1f|A8v|A5w|A8q|A9a|A6n|A8h|A6d|A3j|A6h|A4u|A3f|A5b|A3g|A2p|A3d|A8z|A6c|A9c|A5s|A3e|A4w|A0y|A0h|A0x|A0j|Z7|A0g => kit_is
   case sn|tk|Y6v|Y2a|U2z|J9c|U9c|J9y|J9h|U7x|U2w|U9q|V0d => k_is
   case U8v => kit_is
   case B4p|B3p|B6v|B4f|A9z|Y0d|U5x|U3z|U4t|U6n|J9f|U0r|U6m|U5u|U3n => k_is
   case U8r => kit_is
   case B6z|B3u|B6q|B4j|A9v|Y1k|U6f|U0k|V0q|U4c|U7p|U7d|V0z|U8y|U2v => k_is
   case U5q => kit_is
   case B7a|B4e|B4u|B6s|B0a|Y0n|U4e|U9r|U8h|U7s|U8a|U5g|J9u|U9d|U2y => k_is
   case U6s => kit_is
   case B3h|B6j|B5a|B5f|A9t|Y2y|U4d|J9q|U4n|U5e|U0h|U2x|V0f|U2k|U3q => k_is
   case U3b => kit_is
   case B6f|B5q|B4b|B5t|A9s|V9z|U6d|U7f|U5c|U9s|U4g|U0a|U3h|U2u|U9x => k_is
   case U6w => kit_is
   case B5g|B3j|B5d|B3x|A9w|Y2p|U1q|U0s|U8s|J8u|U7q|U1t|V0c|U7z|U2q => k_is
   case U6b => kit_is
   case B6e|B4q|B5k|B5s|A9y|Y3f|U3e|U8d|U6u|U7g|U4s|U0y|J9k|U3a|U9h => k_is
   case U1b => kit_is
   case B4h|B6w|B4a|B4g|A9u|Y0b|U2a|U0d|U1s|J9w|U3k|U0x|U3v|U1y|B6t|B5c|A5d|B1h|U3s|V1e|V0v|U8f|U1v => k_is
   case D1p => kit_is
   case A6v|A5m|A4z|A5c|A1n|A6f|A6s|A5r|A5f|A1e|A5u|A4y|A6t|A5e|A1h|A5n|A5q|A6a|A6q|A1k|A6y|A5a|A5p|A6j|A1m|A6p|A6b|A6w|A5v|A1j|A5z|A5h|A5t|A5j|A1g|A6x|A5y|A6e|A6g|A1f|Y3d|U8t|U9z|V0p|U9v|U7u|U5n|B5p|B6h|B1x|B3z|B1y|A6r|J9m|J9s|U8z|V0e|V0u|U0m|B1g => k_is
   case B2b|B1d|B1s|A5k|A8w|A9f|A7x|A8g|A2y|C1g|C0g|B9v|C1d|B2s|B1v|B2a|B1z|B2d|A5x|B4y|B5u|B6y|B3q|A9x|A8k|A9g|A9b|A8p|A2z|Y1w|U1d|U4m|V0j|V1a|U6x|U3t|U1r|U7h|C1q|A8a|B1k|U3p|U9f|U1f|U6p|U1w|D6d|D3m|D2v|D2d|C9f|B8c|Y3b => k_is
   case J9j => kit_is
   case Y3a|Y0a|V5y|Y7a|cty|ccl|cex => k_is
   case q1|q2 => k_exc
   case sub3|xga3|xgh3|xca3|xob3|xbe3|xcl3 => k_is
   case Y6g|Y6x|Y6w|hv3 => kit_is
   case lT|lN => k_is
   case alN => simp
   case niT|lT1|saT|nsg3|V6g|Y1f|V9y => k_is
   case fcT => rfl
   case kTR => kit_is
   case tyT|subT|a_S|lS => k_is
   case hcode => rfl

