import PyProof.Rows.All
import Wide.All
import OpenK.AllK
import Wide.FinOn
import Lean
import PyProof.EqAt
import PyProof.EqKinds
import PyProof.TupleCall
import PyProof.Rows.Catch
import PyProof.Rows.TupIter
import PyProof.TupleIter
import PyProof.Seq
import PyProof.ExcInit
import PyProof.ExcClass2
import KE.KIntText
import PyProof.StrOps2
import PyProof.ConsumeWalk
import PyProof.Rows.RuleM_int
import PyProof.ZipIter
import PyProof.EnumMake
import KE.KLam
import PySem.Challenge.RW_tenreckon_k28_whole_and_trimmed
set_option Elab.async false
set_option linter.all false
set_option maxRecDepth 100000
namespace L2
open PySem PySem.Spec PyProof.Rows
abbrev Key := Sum Int Str
def D3a : Key -> Value -> Bool
 | .inl k, v => Value.isInt k v
 | .inr x, v => Value.isStrOf x v
def keyH (w : World) : Key -> Int
 | .inl k => hashInt k
 | .inr x => hashStr w x
theorem V5 : ∀ {k : Key} {v : Value}, D3a k v = true -> (∃ i t, k = Sum.inl i /\ v = Value.int i t) \/ (∃ x t, k = Sum.inr x /\ v = Value.str x t)
 | .inl i, v, h => by
   obtain ⟨t, e⟩ := Value.isInt_shape (k := i) (v := v) h
   exact .inl ⟨i, t, rfl, e⟩
 | .inr x, v, h => by
   obtain ⟨t, e⟩ := Value.isStrOf_shape (x := x) (v := v) h
   exact .inr ⟨x, t, rfl, e⟩
theorem U5a (i : Int) (t : Tok) : D3a (.inl i) (.int i t) = true := by simp [D3a, Value.isInt]
theorem U4a (x : Str) (t : Tok) : D3a (.inr x) (.str x t) = true := by simp [D3a, Value.isStrOf]
theorem Z3m (a b : Int) : decide ((Sum.inl a : Key) = Sum.inl b) = (a == b) := by
 by_cases e : a = b
 . subst e; simp
 . have h : ¬ (Sum.inl a : Key) = Sum.inl b := fun q => e (Sum.inl.inj q)
   rw [decide_eq_false h]
   exact (beq_eq_false_iff_ne.mpr e).symm
theorem Z3k (a b : Str) : decide ((Sum.inr a : Key) = Sum.inr b) = decide (a = b) := by
 by_cases e : a = b
 . subst e; simp
 . have h : ¬ (Sum.inr a : Key) = Sum.inr b := fun q => e (Sum.inr.inj q)
   rw [decide_eq_false h, decide_eq_false e]
theorem Z3j (a : Int) (b : Str) : decide ((Sum.inl a : Key) = Sum.inr b) = false := decide_eq_false (fun q => nomatch q)
theorem Z2r (a : Str) (b : Int) : decide ((Sum.inr a : Key) = Sum.inl b) = false := decide_eq_false (fun q => nomatch q)
def Y1 (prog : Program) (w : World) : PySem.KeyKind prog w Key where
 is := D3a
 hash := keyH w
 inj := fun v a b ha hb => by
   rcases V5 ha with ⟨i, t, rfl, rfl⟩ | ⟨x, t, rfl, rfl⟩
   . rcases V5 hb with ⟨j, u, rfl, e⟩ | ⟨y, u, rfl, e⟩
     . injection e with e1 _; rw [e1]
     . exact nomatch e
   . rcases V5 hb with ⟨j, u, rfl, e⟩ | ⟨y, u, rfl, e⟩
     . exact nomatch e
     . injection e with e1 _; rw [e1]
 byValue := fun k v h => by
   rcases V5 h with ⟨i, t, rfl, rfl⟩ | ⟨x, t, rfl, rfl⟩ <;> rfl
 pyHash := fun hv h => by
   rcases V5 hv with ⟨i, t, rfl, rfl⟩ | ⟨x, t, rfl, rfl⟩
   . exact wpAny_pyHash_int h
   . exact wpAny_pyHash_str h
 eqBool := fun hu hv h => by
   rcases V5 hu with ⟨i, t, rfl, rfl⟩ | ⟨x, t, rfl, rfl⟩
   . rcases V5 hv with ⟨j, u, rfl, rfl⟩ | ⟨y, u, rfl, rfl⟩
     . rw [Z3m] at h; exact wpAny_eqBool_int h
     . rw [Z3j] at h; exact SeqAt.EqAt.int_str i t y u _ _ _ _ h
   . rcases V5 hv with ⟨j, u, rfl, rfl⟩ | ⟨y, u, rfl, rfl⟩
     . rw [Z2r] at h; exact SeqAt.EqAt.str_int x t j u _ _ _ _ h
     . rw [Z3k] at h; exact wpAny_eqBool_str h
 «strs» := fun k x t v h => by
   rcases V5 h with ⟨i, u, rfl, e⟩ | ⟨y, u, rfl, e⟩
   . exact nomatch e
   . injection e with e1 _
     subst e1
     cases v <;> rfl
theorem G5p (prog : Program) (w : World) (i : Int) (t : Tok) : (Y1 prog w).is (.inl i) (.int i t) = true := U5a i t
theorem G5u (prog : Program) (w : World) (x : Str) (t : Tok) : (Y1 prog w).is (.inr x) (.str x t) = true := U4a x t
inductive V where
 | non | bl (b : Bool) | int (i : Int) | str (x : Str) | byt (b : Array UInt8) | flt (b : UInt64) | ref (a : Addr) | ty (n : String)
 deriving DecidableEq
def RelV : V -> Value -> Prop
 | .non, u => u = Value.none
 | .bl b, u => u = Value.bool b
 | .int i, u => ∃ t, u = Value.int i t
 | .str x, u => ∃ t, u = Value.str x t
 | .byt b, u => ∃ t, u = Value.bytes b t
 | .flt b, u => ∃ t, u = Value.float b t
 | .ref a, u => u = Value.ref a
 | .ty n, u => u = Value.type n
abbrev Vals : List V -> List Value -> Prop := Paired RelV
theorem Vals.length {xs : List V} {us : List Value} (r : Vals xs us) : xs.length = us.length := Paired.length r
theorem Vals.get : ∀ {xs : List V} {us : List Value} {i : Nat} {x : V}, Vals xs us -> xs[i]? = some x -> ∃ u, us[i]? = some u /\ RelV x u
 | _, _, _, _, .nil, e => by simp at e
 | _, _, 0, _, .cons r _, e => by simp at e; subst e; exact ⟨_, rfl, r⟩
 | _, _, i + 1, x, .cons _ t, e => by
   obtain ⟨u, h1, h2⟩ := Vals.get (i := i) (x := x) t (by simpa using e)
   exact ⟨u, by simpa using h1, h2⟩
theorem Vals.append : ∀ {xs ys : List V} {us ws : List Value}, Vals xs us -> Vals ys ws -> Vals (xs ++ ys) (us ++ ws)
 | _, _, _, _, .nil, s => s
 | _, _, _, _, .cons r t, s => .cons r (Vals.append t s)
def RelO : Option V -> Option Value -> Prop
 | some v, some u => RelV v u
 | none, none => True
 | _, _ => False
def KV {κ : Type} : List (κ × V) -> List (κ × Value) -> Prop := Paired fun (p : κ × V) (q : κ × Value) => p.1 = q.1 /\ RelV p.2 q.2
def kV : Key -> V
 | .inl i => .int i
 | .inr x => .str x
inductive HO where
 | lst (xs : List V)
 | tup (xs : List V)
 | dK (kvs : List (Key × V)) | dT (kvs : List (List Key × V))
 | set (S : Int -> Bool) (n : Nat)
 | ins (C dx : Addr) (fs : List (Str × V))
 | own (x : Addr)
 | xd (fs : List (Str × V))
 | met (f x : Addr)
 | rng (lo hi : Int)
 | frz (o : Obj) (u : HO)
 | tbl (ps : Array Value)
 | ext (φ : Heap -> Prop)
abbrev Hp := Addr -> Option HO
def upd (H : Hp) (a : Addr) (o : HO) : Hp := fun b => if b = a then some o else H b
theorem A8 {H : Hp} {a : Addr} {o : HO} : upd H a o a = some o := by unfold upd; rw [if_pos rfl]
theorem C4 {H : Hp} {a b : Addr} {o : HO} (h : b ≠ a) : upd H a o b = H b := by unfold upd; rw [if_neg h]
theorem U3c {H : Hp} {a : Addr} {o u : HO} : upd (upd H a o) a u = upd H a u := by
 funext b; unfold upd; split <;> rfl
theorem J9 {H : Hp} {a b : Addr} {o u : HO} (h : H a = some o) (h' : H b = some u) (d : o ≠ u) : a ≠ b := by
 intro e; subst e; rw [h] at h'; exact d (Option.some.inj h')
theorem C9 {H : Hp} {a b : Addr} {o : HO} (h : H a = some o) (h' : H b = none) : a ≠ b := by
 intro e; subst e; rw [h] at h'; cases h'
section
variable (P : Program) (w : World)
def ObjOk (H : Hp) (h : Heap) (a : Addr) : HO -> Prop
 | .lst xs => xs.length <= sizeLine /\ ∃ (its : List Value) (n : Nat), Vals xs its /\ h.get? a = some { cls := .type "list", data := .seq its.toArray n }
 | .tup xs => xs.length <= sizeLine /\ ∃ its : List Value, Vals xs its /\ IsTup h a its.toArray
 | .dK kvs => kvs.length <= sizeLine /\ (a == sysModules) = false /\ ∃ vs, KV kvs vs /\ h.DictOf (Y1 P w) a vs
 | .dT kvs => kvs.length <= sizeLine /\ (a == sysModules) = false /\ ∃ xs : List (List Key × Addr × Value),
     Paired (fun (p : List Key × V) (q : List Key × Addr × Value) => p.1 = q.1 /\ H q.2.1 = some (.tup (p.1.map kV)) /\ RelV p.2 q.2.2) kvs xs /\
     ∃ o es ep, h.get? a = some o /\ o.ExactDict /\ o.data = .dict es ep /\ es.toList = xs.map (entryOfKey (tupleKind (Y1 P w))) /\ (xs.map (·.1)).Nodup
 | .set S n => h.SetOf (intKind P w) a S n
 | .ins C dx fs => H dx = some (.own a) /\ fs.length <= 1000 /\ dx ≠ a /\ h.get? a = some (PySem.W.instObj C dx) /\
     ∃ mA, h.Ns1 dx mA /\ (∀ f, RelO (fs.lookup f) (mA f)) /\ PySem.Within mA (fs.map (·.1))
 | .own _ => ∃ o, h.get? a = some o
 | .xd fs => ∃ mA, h.Ns1 a mA /\ ∀ f, RelO (fs.lookup f) (mA f)
 | .rng lo hi => ∃ t u v, h.get? a = some { cls := .type "range", data := .fields #[.int lo t, .int hi u, .int 1 v] }
 | .frz o u => h.get? a = some o /\ ObjOk H h a u
 | .tbl ps => h.get? a = some { cls := .none, data := .fields ps }
 | .met f x => h.get? a = some (PySem.W.methodObj (.ref f) (.ref x))
 | .ext φ => φ h /\ (∃ o, h.get? a = some o) /\ ∀ h1 h2 : Heap, φ h1 -> (∀ o, h1.get? a = some o -> h2.get? a = some o) -> φ h2
def HOk (H : Hp) (h : Heap) : Prop := ∀ a o, H a = some o -> ObjOk P w H h a o
end
section
variable {P : Program} {w : World} {H H' : Hp} {h h' : Heap} {a : Addr} {o : HO}
theorem ObjOk.lt (x : ObjOk P w H h a o) : a < h.objs.size := by
 cases o with
 | lst xs => obtain ⟨_, _, _, _, e⟩ := x; exact Heap.lt_size e
 | tup xs => obtain ⟨_, _, _, p⟩ := x; exact p.lt
 | dK kvs => obtain ⟨_, _, _, _, o, _, _, e, _⟩ := x; exact Heap.lt_size e
 | dT kvs => obtain ⟨_, _, _, _, o, _, _, e, _⟩ := x; exact Heap.lt_size e
 | set S n => obtain ⟨o, _, _, _, e, _⟩ := x; exact Heap.lt_size e
 | ins C dx fs => obtain ⟨_, _, _, e, _⟩ := x; exact Heap.lt_size e
 | own y => obtain ⟨_, e⟩ := x; exact Heap.lt_size e
 | xd fs => obtain ⟨_, ⟨_, _, _, e, _⟩, _⟩ := x; exact Heap.lt_size e
 | rng lo hi => obtain ⟨_, _, _, e⟩ := x; exact Heap.lt_size e
 | frz ob u => obtain ⟨e, _⟩ := x; exact Heap.lt_size e
 | tbl ps => exact Heap.lt_size (show h.get? a = some _ from x)
 | met f y => exact Heap.lt_size (show h.get? a = some _ from x)
 | ext φ => obtain ⟨_, ⟨_, e⟩, _⟩ := x; exact Heap.lt_size e
theorem Paired.mapP {α β : Type} {F G : α -> β -> Prop} : ∀ {l₁ : List α} {l₂ : List β}, Paired F l₁ l₂ -> (∀ a b, F a b -> G a b) -> Paired G l₁ l₂
 | _, _, .nil, _ => .nil
 | _, _, .cons r t, f => .cons (f _ _ r) (Paired.mapP t f)
theorem ObjOk.stay (x : ObjOk P w H h a o) (k : ∀ b u, (b = a \/ H b = some (.own a)) -> h.get? b = some u -> h'.get? b = some u)
   (ho : ∀ b, H b = some (.own a) -> H' b = some (.own a)) (ht : ∀ b xs, H b = some (.tup xs) -> H' b = some (.tup xs)) : ObjOk P w H' h' a o := by
 induction o with
 | lst xs => obtain ⟨z, its, n, r, e⟩ := x; exact ⟨z, its, n, r, k _ _ (.inl rfl) e⟩
 | tup xs => obtain ⟨z, its, r, ob, e, c⟩ := x; exact ⟨z, its, r, ob, k _ _ (.inl rfl) e, c⟩
 | dK kvs => obtain ⟨z, y, vs, r, ob, es, ep, e, c⟩ := x; exact ⟨z, y, vs, r, ob, es, ep, k _ _ (.inl rfl) e, c⟩
 | dT kvs =>
   obtain ⟨z, y, xs, r, ob, es, ep, e, c⟩ := x
   exact ⟨z, y, xs, Paired.mapP r fun p q z => ⟨z.1, ht _ _ z.2.1, z.2.2⟩, ob, es, ep, k _ _ (.inl rfl) e, c⟩
 | set S n => obtain ⟨ob, es, ep, t, e, c⟩ := x; exact ⟨ob, es, ep, t, k _ _ (.inl rfl) e, c⟩
 | ins C dx fs =>
   obtain ⟨d, z, ne, e, mA, ⟨od, es, ep, e2, c⟩, r⟩ := x
   exact ⟨ho _ d, z, ne, k _ _ (.inl rfl) e, mA, ⟨od, es, ep, k _ _ (.inr d) e2, c⟩, r⟩
 | own y => obtain ⟨ob, e⟩ := x; exact ⟨ob, k _ _ (.inl rfl) e⟩
 | xd fs => obtain ⟨mA, ⟨od, es, ep, e, c⟩, r⟩ := x; exact ⟨mA, ⟨od, es, ep, k _ _ (.inl rfl) e, c⟩, r⟩
 | rng lo hi => obtain ⟨t, u, v, e⟩ := x; exact ⟨t, u, v, k _ _ (.inl rfl) e⟩
 | frz ob u ih => obtain ⟨e, q⟩ := x; exact ⟨k _ _ (.inl rfl) e, ih q⟩
 | tbl ps =>
   have e : h.get? a = some { cls := .none, data := .fields ps } := x
   show h'.get? a = some { cls := .none, data := .fields ps }
   exact k a _ (.inl rfl) e
 | met f y =>
   have e : h.get? a = some (PySem.W.methodObj (.ref f) (.ref y)) := x
   show h'.get? a = some (PySem.W.methodObj (.ref f) (.ref y))
   exact k a _ (.inl rfl) e
 | ext φ => obtain ⟨p, ⟨o, e⟩, st⟩ := x; exact ⟨st _ _ p fun o q => k _ _ (.inl rfl) q, ⟨o, k _ _ (.inl rfl) e⟩, st⟩
theorem HOk.lt (x : HOk P w H h) (e : H a = some o) : a < h.objs.size := (x a o e).lt
theorem HOk.fresh (x : HOk P w H h) (e : h.objs.size <= a) : H a = none := by
 cases q : H a with
 | none => rfl
 | some u => exact absurd (Nat.lt_of_lt_of_le (x.lt q) e) (Nat.lt_irrefl _)
theorem HOk.kept (x : HOk P w H h) (k : ∀ b u, h.get? b = some u -> h'.get? b = some u) : HOk P w H h' := fun a o e =>
 (x a o e).stay (fun b u _ q => k b u q) (fun _ q => q) fun _ _ q => q
theorem HOk.laid (x : HOk P w H h) (k : ∀ b u, h.get? b = some u -> h'.get? b = some u) (hp : h.objs.size <= a) (new : ObjOk P w (upd H a o) h' a o) : HOk P w (upd H a o) h' := fun b u e => by
 have hn := x.fresh hp
 by_cases hb : b = a
 . subst hb; rw [A8] at e; cases e; exact new
 . rw [C4 hb] at e
   exact (x b u e).stay (fun c v _ q => k c v q) (fun c q => by rw [C4 (C9 q hn)]; exact q) fun c xs q => by rw [C4 (C9 q hn)]; exact q
end
def Rd (H : Hp) (a : Addr) (u : HO) : Prop := H a = some u \/ ∃ o, H a = some (.frz o u)
theorem Rd.ok {P : Program} {w : World} {H : Hp} {h : Heap} {a : Addr} {u : HO} (r : Rd H a u) (x : HOk P w H h) : ObjOk P w H h a u := by
 rcases r with r | ⟨o, r⟩
 . exact x a u r
 . obtain ⟨_, q⟩ := x a _ r
   exact q
def Mut : Option HO -> Prop
 | some (.lst _) => True
 | some (.dK _) => True
 | some (.dT _) => True
 | some (.set _ _) => True
 | some (.ins _ _ _) => True
 | some (.ext _) => True
 | _ => False
section
variable {P : Program} {w : World} {H : Hp} {h h' : Heap} {x e : Addr} {o' : HO}
theorem HOk.write (ok : HOk P w H h) (mu : Mut (H x)) (he : e = x \/ H e = some (.own x)) (k : ∀ b u, b ≠ e -> h.get? b = some u -> h'.get? b = some u) (heo : ∃ u, h'.get? e = some u)
   (new : ObjOk P w (upd H x o') h' x o') : HOk P w (upd H x o') h' := fun b u q => by
 have nown : ∀ c y, H c = some (.own y) -> c ≠ x := fun c y r z => by subst z; rw [r] at mu; exact mu
 have ntup : ∀ c xs, H c = some (.tup xs) -> c ≠ x := fun c xs r z => by subst z; rw [r] at mu; exact mu
 by_cases hb : b = x
 . subst hb; rw [A8] at q; cases q; exact new
 . rw [C4 hb] at q
   by_cases hbe : b = e
   . have q' : H b = some (.own x) := by
       rcases he with z | z
       . exact absurd (hbe.trans z) hb
       . rw [hbe]; exact z
     rw [q] at q'; cases q'
     obtain ⟨v, hv⟩ := heo
     exact ⟨v, by rw [hbe]; exact hv⟩
   . refine (ok b u q).stay (fun c v hc r => k c v ?_ r) (fun c r => by rw [C4 (nown c b r)]; exact r) fun c xs r => by rw [C4 (ntup c xs r)]; exact r
     rcases hc with rfl | hc
     . exact hbe
     . rintro rfl
       rcases he with z | z
       . exact nown c b hc z
       . rw [hc] at z; cases z; exact hb rfl
end
structure Un (fs ex : List Addr) (H H' : Hp) (h h' : Heap) : Prop where
 keep : ∀ b o, h.get? b = some o -> H b = none -> b ∉ fs -> b ∉ ex -> h'.get? b = some o
 slot : ∀ b o, h.get? b = some o -> H b = none -> b ∈ fs -> b ∉ ex -> ∃ sl, h'.get? b = some { o with slots := sl }
 free : ∀ b o, h.get? b = some o -> H b = none -> b ∉ ex -> H' b = none
 there : ∀ b o, h.get? b = some o -> b ∉ ex -> ∃ o', h'.get? b = some o'
 tups : ∀ b xs, H b = some (.tup xs) -> H' b = some (.tup xs)
 frzs : ∀ b o u, H b = some (.frz o u) -> H' b = some (.frz o u)
 tbls : ∀ b ps, H b = some (.tbl ps) -> ∃ more, H' b = some (.tbl (ps ++ more))
section
variable {fs fs' ex ex' : List Addr} {H H1 H2 : Hp} {h h1 h2 h' : Heap} {a x e : Addr} {o : HO}
theorem Un.any (u : Un fs ex H H1 h h1) {b : Addr} {ob : Obj} (q : h.get? b = some ob) (n : H b = none) (hx : b ∉ ex) : ∃ sl, h1.get? b = some { ob with slots := sl } := by
 by_cases hb : b ∈ fs
 . exact u.slot b ob q n hb hx
 . exact ⟨ob.slots, u.keep b ob q n hb hx⟩
theorem Un.kept (k : ∀ b u, h.get? b = some u -> h'.get? b = some u) : Un fs ex H H h h' :=
 ⟨fun b ob q _ _ _ => k b ob q, fun b ob q _ _ _ => ⟨ob.slots, k b ob q⟩, fun _ _ _ n _ => n, fun b ob q _ => ⟨ob, k b ob q⟩, fun _ _ q => q, fun _ _ _ q => q, fun _ ps q => ⟨#[], by rw [q]; simp⟩⟩
theorem Un.refl : Un fs ex H H h h := Un.kept fun _ _ q => q
theorem Un.laid (k : ∀ b u, h.get? b = some u -> h'.get? b = some u) (hp : h.objs.size <= a) (hn : H a = none) : Un fs ex H (upd H a o) h h' where
 keep := fun b u q _ _ _ => k b u q
 slot := fun b u q _ _ _ => ⟨u.slots, k b u q⟩
 free := fun b u q n _ => by rw [C4 (Nat.ne_of_lt (Nat.lt_of_lt_of_le (Heap.lt_size q) hp))]; exact n
 there := fun b u q _ => ⟨u, k b u q⟩
 tups := fun b xs q => by rw [C4 (C9 q hn)]; exact q
 frzs := fun b u xs q => by rw [C4 (C9 q hn)]; exact q
 tbls := fun b ps q => ⟨#[], by rw [C4 (C9 q hn), q]; simp⟩
theorem Un.write (mu : Mut (H x)) (he : e = x \/ H e = some (.own x)) (k : ∀ b u, b ≠ e -> h.get? b = some u -> h'.get? b = some u) (heo : ∃ u, h'.get? e = some u) : Un fs ex H (upd H x o) h h' := by
 have hx : ∀ b, H b = none -> b ≠ x := fun b n z => by subst z; rw [n] at mu; exact mu
 have hb : ∀ b, H b = none -> b ≠ e := fun b n z => by
   subst z
   rcases he with r | r
   . exact hx b n r
   . rw [n] at r; cases r
 have hm : ∀ b u, H b = some u -> ¬ Mut (some u) -> b ≠ x := fun b u q nm z => by subst z; rw [q] at mu; exact nm mu
 refine ⟨fun b u q n _ _ => k b u (hb b n) q, fun b u q n _ _ => ⟨u.slots, k b u (hb b n) q⟩, fun b u q n _ => by rw [C4 (hx b n)]; exact n, fun b u q _ => ?_,
   fun b xs q => by rw [C4 (hm b _ q fun z => z)]; exact q, fun b u xs q => by rw [C4 (hm b _ q fun z => z)]; exact q, fun b ps q => ⟨#[], by rw [C4 (hm b _ q fun z => z), q]; simp⟩⟩
 by_cases hbe : b = e
 . subst hbe; exact heo
 . exact ⟨u, k b u hbe q⟩
end
def trk (h : Heap) (H : Hp) : List Addr := (List.range h.objs.size).filter fun a => (H a).isSome
def C8u (h : Heap) (H : Hp) : Heap := PySem.W.hideAll h (trk h H)
theorem U4p (h : Heap) (H : Hp) : (C8u h H).objs.size = h.objs.size := PySem.W.hideAll_size _ _
theorem V1b {h : Heap} {H : Hp} {b : Addr} {o : Obj} (e : h.get? b = some o) (n : H b = none) : (C8u h H).get? b = some o :=
 PySem.W.hideAll_get _ e fun hm => by
   have q : (H b).isSome = true := (List.mem_filter.mp hm).2
   rw [n] at q; simp at q
theorem Y9d {h : Heap} {H : Hp} {b : Addr} {o : Obj} (e : (C8u h H).get? b = some o) : h.get? b = some o /\ H b = none := by
 have e' : h.get? b = some o := PySem.W.of_hideAll (trk h H) e
 refine ⟨e', ?_⟩
 cases q : H b with
 | none => rfl
 | some x =>
   have hm : b ∈ trk h H := List.mem_filter.mpr ⟨List.mem_range.mpr (Heap.lt_size e'), by simp [q]⟩
   have z : (C8u h H).get? b = none := PySem.W.hideAll_none (trk h H) hm
   rw [z] at e; cases e
structure Mod (K : PySem.W.Frag) (mg : Str -> Option Value) (base : Heap) : Prop where
 kin : K.In base
 glob : base.Ns mainGlobals mg
 blt : ∃ mb, base.Ns builtinsNs mb /\ ∀ x : Str, x ≠ "__name__" -> mb x = bootBuiltins x
 nolimit : base.NoLimit
structure Cx where
 prog : Program
 w : World
 K : PySem.W.Frag
 mg : Str -> Option Value
 base : Heap
 A : Around
 N : List Str
 s₀ : Shared
 H₀ : Hp
 env : Env
 outer : List Env
 stack : List Env
 ex : List Addr
 fn : Str -> Bool
 calm : Bool
 pn : List (Addr × Obj)
 xe : Value -> Shared -> Prop
def frs (l : List Env) : List Addr := l.filterMap (·.frame)
abbrev Cx.fs (X : Cx) : List Addr := frs X.outer
def Vis (sc : Scope) (x : Str) : Prop := sc.names.lookup x = some .local \/ sc.names.lookup x = some .cell \/ sc.names.lookup x = some .free
def Loc (sc : Scope) (x : Str) : Prop := sc.names.lookup x = some .local \/ sc.names.lookup x = some .cell
def Z8r (env : Env) (h : Heap) (m : Str -> Option Value) (x : Str) (u : Value) : Prop :=
 (env.kindOf x = some .local /\ m x = some u) \/ ((env.kindOf x = some .cell \/ env.kindOf x = some .free) /\ ∃ c, env.cells.lookup x = some c /\ h.IsCell c (some u))
structure Cx.Ok (X : Cx) : Prop where
 mod : Mod X.K X.mg X.base
 kind : X.env.scope.kind = .function
 glob : X.env.globals = mainGlobals
 blt : X.env.builtins = builtinsNs
 above : X.s₀.heap.objs.size <= X.env.locals
 inj : ∀ x y c, X.env.cells.lookup x = some c -> X.env.cells.lookup y = some c -> x = y
 has : ∀ x, (X.env.kindOf x = some .cell \/ X.env.kindOf x = some .free) -> ∃ c, X.env.cells.lookup x = some c
 cab : ∀ x c, X.fn x = true -> X.env.cells.lookup x = some c -> X.s₀.heap.objs.size <= c
 hd : X.calm = true -> X.A.handled = none
 frames : X.A.frames = some X.stack
 stk : X.stack = X.outer \/ (X.stack = X.env :: X.outer /\ X.env.frame = some X.env.locals)
 exf : ∀ b ∈ X.ex, b ≠ X.env.locals /\ ∀ x c, X.env.cells.lookup x = some c -> c ≠ b
 bs : ∀ b o, X.base.get? b = some o -> X.s₀.heap.get? b = some o /\ X.H₀ b = none
 bsz : X.base.objs.size <= X.s₀.heap.objs.size
 noex : ∀ b o, X.base.get? b = some o -> b ∉ X.ex
 exfs : ∀ b ∈ X.ex, b ∉ X.fs
 funs : X.s₀.heap.FunFrames X.base X.outer
 frf : ∀ b ∈ X.fs, X.H₀ b = none
structure Inv (X : Cx) (pins : List (Addr × Obj)) (σ : List (Option V)) (H : Hp) (s : Shared) : Prop where
 ok : X.Ok
 os : s.os = X.s₀.os
 bare : AllBare s.gens
 base : Un X.fs X.ex X.H₀ H X.s₀.heap s.heap
 loc : ∃ m, s.heap.Ns X.env.locals m /\ ∀ (i : Nat) (x : Str) (v : V), X.N[i]? = some x -> σ[i]? = some (some v) -> Vis X.env.scope x -> ∃ u, RelV v u /\ Z8r X.env s.heap m x u
 cell : ∀ x c, X.env.cells.lookup x = some c -> ∃ v, s.heap.IsCell c v
 free : H X.env.locals = none
 freeC : ∀ x c, X.env.cells.lookup x = some c -> H c = none
 pin : ∀ p ∈ X.pn ++ pins, s.heap.get? p.1 = some p.2 /\ H p.1 = none /\ p.1 ≠ X.env.locals /\ p.1 ∉ X.fs /\ ∀ v, p.2.data ≠ .cell v
 hok : HOk X.prog X.w H s.heap
 len : σ.length = X.N.length
section
variable {X : Cx} {pins : List (Addr × Obj)} {σ : List (Option V)} {H H' : Hp} {s : Shared} {h' : Heap}
theorem Cx.Ok.nofr (ok : X.Ok) {b : Addr} {o : Obj} (e : X.base.get? b = some o) : b ∉ X.fs := fun hb => by
 have := (ok.funs.mem hb).1
 rw [e] at this; cases this
theorem Inv.bs (I : Inv X pins σ H s) : ∀ b o, X.base.get? b = some o -> s.heap.get? b = some o /\ H b = none := fun b o e =>
 ⟨I.base.keep b o (I.ok.bs b o e).1 (I.ok.bs b o e).2 (I.ok.nofr e) (I.ok.noex b o e), I.base.free b o (I.ok.bs b o e).1 (I.ok.bs b o e).2 (I.ok.noex b o e)⟩
theorem Inv.bk (I : Inv X pins σ H s) : ∀ b o, X.base.get? b = some o -> s.heap.get? b = some o := fun b o e => (I.bs b o e).1
theorem Inv.mod (I : Inv X pins σ H s) : Mod X.K X.mg X.base := I.ok.mod
theorem Inv.kIn (I : Inv X pins σ H s) : X.K.In s.heap := I.ok.mod.kin.keeps I.bk
theorem Inv.lt (I : Inv X pins σ H s) : X.env.locals < s.heap.objs.size := let ⟨_, hn, _⟩ := I.loc; hn.lt
theorem Inv.sz (I : Inv X pins σ H s) : X.s₀.heap.objs.size <= s.heap.objs.size := Nat.le_trans I.ok.above (Nat.le_of_lt I.lt)
theorem Inv.nofs (I : Inv X pins σ H s) {a : Addr} (h : s.heap.objs.size <= a) : a ∉ X.fs := fun hb => by
 obtain ⟨_, o, ho, _⟩ := I.ok.funs.mem hb
 exact absurd (Nat.lt_of_lt_of_le (Heap.lt_size ho) (Nat.le_trans I.sz h)) (Nat.lt_irrefl _)
theorem Inv.cne (I : Inv X pins σ H s) : ∀ x c, X.env.cells.lookup x = some c -> c ≠ X.env.locals := fun x c e z => by
 obtain ⟨v, o, ho, hd⟩ := I.cell x c e
 obtain ⟨m, ⟨o', es, ep, ho', hd', _⟩, _⟩ := I.loc
 rw [z, ho'] at ho; cases ho; rw [hd'] at hd; cases hd
theorem Inv.funs (I : Inv X pins σ H s) : s.heap.FunFrames X.base X.outer := by
 have all : ∀ (l : List Env), (∀ b ∈ frs l, b ∈ X.fs) -> X.s₀.heap.FunFrames X.base l -> s.heap.FunFrames X.base l := by
   intro l
   induction l with
   | nil => intro _ _; trivial
   | cons env r ih =>
     intro hs hl
     obtain ⟨hk, ⟨L, o, hf, hn, ho, hd⟩, hr⟩ := hl
     have hL : L ∈ X.fs := hs L (by unfold frs; rw [List.filterMap_cons, hf]; exact List.mem_cons_self)
     obtain ⟨sl, e⟩ := I.base.slot L o ho (I.ok.frf L hL) hL fun z => I.ok.exfs L z hL
     exact ⟨hk, ⟨L, _, hf, hn, e, hd⟩, ih (fun b hb => hs b (by unfold frs; rw [List.filterMap_cons, hf]; exact List.mem_cons_of_mem _ hb)) hr⟩
 exact all X.outer (fun _ hb => hb) I.ok.funs
theorem Inv.stack (I : Inv X pins σ H s) : s.heap.FunFrames X.base X.stack := by
 rcases I.ok.stk with e | ⟨e, hf⟩
 . rw [e]; exact I.funs
 . rw [e]
   obtain ⟨m, hn, _⟩ := I.loc
   refine .cons (by rw [I.ok.kind]; decide) hf hn ?_ I.funs
   exact Heap.get?_none_of_le (Nat.le_trans I.ok.bsz I.ok.above)
theorem Inv.stkSub (I : Inv X pins σ H s) : ∀ b ∈ frs X.stack, b ∈ X.env.locals :: X.fs := fun b hb => by
 rcases I.ok.stk with e | ⟨e, hf⟩
 . rw [e] at hb; exact List.mem_cons_of_mem _ hb
 . rw [e] at hb
   unfold frs at hb
   rw [List.filterMap_cons, hf] at hb
   exact hb
theorem Inv.stkFree (I : Inv X pins σ H s) : ∀ b ∈ frs X.stack, H b = none := fun b hb => by
 rcases List.mem_cons.mp (I.stkSub b hb) with e | hb
 . rw [e]; exact I.free
 . obtain ⟨_, o, ho, _⟩ := I.ok.funs.mem hb
   exact I.base.free b o ho (I.ok.frf b hb) fun z => I.ok.exfs b z hb
theorem Inv.step {g' : Array GenState} {t' : Nat} {d' : Drawn} {ch : List Addr} (I : Inv X pins σ H s)
   (hch : ∀ b ∈ ch, (b ∈ X.ex \/ X.s₀.heap.objs.size <= b) /\ b ≠ X.env.locals /\ (∀ x c, X.env.cells.lookup x = some c -> c ≠ b) /\ ∀ p ∈ X.pn ++ pins, p.1 ≠ b)
   (keep : ∀ b o, b ≠ X.env.locals -> b ∉ X.fs -> b ∉ ch -> s.heap.get? b = some o -> H b = none -> h'.get? b = some o)
   (slot : ∀ b o, b ≠ X.env.locals -> b ∈ X.fs -> b ∉ ch -> s.heap.get? b = some o -> H b = none -> ∃ sl, h'.get? b = some { o with slots := sl }) (free : ∀ b o, b ∉ ch -> s.heap.get? b = some o -> H b = none -> H' b = none)
   (there : ∀ b o, b ∉ ch -> s.heap.get? b = some o -> ∃ o', h'.get? b = some o')
   (tups : ∀ b xs, H b = some (.tup xs) -> H' b = some (.tup xs)) (frzs : ∀ b o u, H b = some (.frz o u) -> H' b = some (.frz o u)) (tbls : ∀ b ps, H b = some (.tbl ps) -> ∃ more, H' b = some (.tbl (ps ++ more)))
   (ns : ∀ m, s.heap.Ns X.env.locals m -> h'.Ns X.env.locals m) (hok : HOk X.prog X.w H' h') (hg : AllBare g') :
   Inv X pins σ H' { s with heap := h', gens := g', drawn := d', toks := t' } := by
 have neL : ∀ b o, X.s₀.heap.get? b = some o -> b ≠ X.env.locals := fun b o e => Nat.ne_of_lt (Nat.lt_of_lt_of_le (Heap.lt_size e) I.ok.above)
 have neC : ∀ b o, X.s₀.heap.get? b = some o -> b ∉ X.ex -> b ∉ ch := fun b o e hx hb => by
   rcases (hch b hb).1 with z | z
   . exact hx z
   . exact absurd (Nat.lt_of_lt_of_le (Heap.lt_size e) z) (Nat.lt_irrefl _)
 have cellK : ∀ x c, X.env.cells.lookup x = some c -> ∀ v, s.heap.IsCell c v -> h'.IsCell c v := fun x c e v ⟨o, ho, hd⟩ => by
   have nch : c ∉ ch := fun z => (hch c z).2.2.1 x c e rfl
   by_cases hc : c ∈ X.fs
   . obtain ⟨sl, q⟩ := slot c o (I.cne x c e) hc nch ho (I.freeC x c e)
     exact ⟨_, q, hd⟩
   . exact ⟨o, keep c o (I.cne x c e) hc nch ho (I.freeC x c e), hd⟩
 refine ⟨I.ok, I.os, hg, ⟨fun b o e n hb hx => ?_, fun b o e n hb hx => ?_, fun b o e n hx => ?_, fun b o e hx => ?_, fun b xs e => tups b xs (I.base.tups b xs e), fun b o xs e => frzs b o xs (I.base.frzs b o xs e), fun b ps e => ?_⟩, ?_, fun x c e => ?_, ?_, fun x c e => ?_, fun p hp => ?_, hok, I.len⟩
 . exact keep b o (neL b o e) hb (neC b o e hx) (I.base.keep b o e n hb hx) (I.base.free b o e n hx)
 . obtain ⟨sl, e1⟩ := I.base.slot b o e n hb hx
   obtain ⟨sl', e2⟩ := slot b _ (neL b o e) hb (neC b o e hx) e1 (I.base.free b o e n hx)
   exact ⟨sl', e2⟩
 . obtain ⟨o', e1⟩ := I.base.there b o e hx
   exact free b o' (neC b o e hx) e1 (I.base.free b o e n hx)
 . obtain ⟨o', e1⟩ := I.base.there b o e hx
   exact there b o' (neC b o e hx) e1
 . obtain ⟨m1, e1⟩ := I.base.tbls b ps e
   obtain ⟨m2, e2⟩ := tbls b _ e1
   exact ⟨m1 ++ m2, by rw [e2, Array.append_assoc]⟩
 . obtain ⟨m, hn, hl⟩ := I.loc
   refine ⟨m, ns m hn, fun i x v e1 e2 e3 => ?_⟩
   obtain ⟨u, r, l⟩ := hl i x v e1 e2 e3
   refine ⟨u, r, ?_⟩
   rcases l with l | ⟨k, c, e, z⟩
   . exact .inl l
   . exact .inr ⟨k, c, e, cellK x c e _ z⟩
 . obtain ⟨v, z⟩ := I.cell x c e
   exact ⟨v, cellK x c e v z⟩
 . obtain ⟨m, ⟨o, _, _, ho, _⟩, _⟩ := I.loc
   exact free _ o (fun z => (hch _ z).2.1 rfl) ho I.free
 . obtain ⟨v, o, ho, hd⟩ := I.cell x c e
   exact free c o (fun z => (hch c z).2.2.1 x c e rfl) ho (I.freeC x c e)
 . obtain ⟨e, n, ne, nf, d⟩ := I.pin p hp
   have nch : p.1 ∉ ch := fun z => (hch p.1 z).2.2.2 p hp rfl
   exact ⟨keep p.1 p.2 ne nf nch e n, free p.1 p.2 nch e n, ne, nf, d⟩
theorem Inv.un {t' : Nat} (I : Inv X pins σ H s) (u : Un X.fs [] H H' s.heap h') (hok : HOk X.prog X.w H' h') : Inv X pins σ H' { s with heap := h', toks := t' } := by
 obtain ⟨m, ⟨o, es, ep, ho, r⟩, _⟩ := id I.loc
 obtain ⟨sl, hL⟩ := u.any ho I.free (by simp)
 exact I.step (g' := s.gens) (d' := s.drawn) (ch := []) (fun _ z => nomatch z) (fun b o _ hb _ e n => u.keep b o e n hb (by simp)) (fun b o _ hb _ e n => u.slot b o e n hb (by simp)) (fun b o _ e n => u.free b o e n (by simp)) (fun b o _ e => u.there b o e (by simp)) u.tups u.frzs u.tbls (fun m' hm => by
   obtain ⟨o', es', ep', ho', r'⟩ := hm
   rw [ho] at ho'; cases ho'
   exact ⟨_, es', ep', hL, r'⟩) hok I.bare
theorem Inv.call {g' : Array GenState} {t' : Nat} {d' : Drawn} {ch : List Addr} (I : Inv X pins σ H s) (u : Un (frs X.stack) ch H H' s.heap h') (hok : HOk X.prog X.w H' h') (hg : AllBare g')
   (hch : ∀ b ∈ ch, (b ∈ X.ex \/ X.s₀.heap.objs.size <= b) /\ b ≠ X.env.locals /\ (∀ x c, X.env.cells.lookup x = some c -> c ≠ b) /\ ∀ p ∈ X.pn ++ pins, p.1 ≠ b) :
   Inv X pins σ H' { s with heap := h', gens := g', drawn := d', toks := t' } := by
 obtain ⟨m, ⟨o, es, ep, ho, r⟩, _⟩ := id I.loc
 obtain ⟨sl, hL⟩ := u.any ho I.free fun z => (hch _ z).2.1 rfl
 exact I.step (ch := ch) hch (fun b o hL hb hc e n => u.keep b o e n (fun z => (List.mem_cons.mp (I.stkSub b z)).elim hL hb) hc) (fun b o _ _ hc e n => u.any e n hc) (fun b o hc e n => u.free b o e n hc) (fun b o hc e => u.there b o e hc) u.tups u.frzs u.tbls (fun m' hm => by
   obtain ⟨o', es', ep', ho', r'⟩ := hm
   rw [ho] at ho'; cases ho'
   exact ⟨_, es', ep', hL, r'⟩) hok hg
theorem Inv.turned {t' : Nat} {it : Addr} (I : Inv X pins σ H s) (k : ∀ b o, b ≠ it -> s.heap.get? b = some o -> h'.get? b = some o) (hn : H it = none) (hL : it ≠ X.env.locals)
   (h1 : it ∈ X.ex \/ X.s₀.heap.objs.size <= it) (h2 : ∀ x c, X.env.cells.lookup x = some c -> c ≠ it) (h3 : ∀ p ∈ X.pn ++ pins, p.1 ≠ it) : Inv X pins σ H { s with heap := h', toks := t' } := by
 have nit : ∀ b u, H b = some u -> b ≠ it := fun b u e z => by rw [z, hn] at e; cases e
 refine I.step (g' := s.gens) (d' := s.drawn) (ch := [it]) (fun b hb => ?_) (fun b o _ _ hc e _ => k b o (fun z => hc (by simp [z])) e) (fun b o _ _ hc e _ => ⟨o.slots, k b o (fun z => hc (by simp [z])) e⟩) (fun _ _ _ _ n => n)
   (fun b o hc e => ⟨o, k b o (fun z => hc (by simp [z])) e⟩) (fun _ _ e => e) (fun _ _ _ e => e) (fun b ps e => ⟨#[], by rw [e]; simp⟩) (fun m hm => ?_) (fun b u e => ?_) I.bare
 . have e : b = it := by simpa using hb
   subst e
   exact ⟨h1, hL, h2, h3⟩
 . obtain ⟨o, es, ep, ho, r⟩ := hm
   exact ⟨o, es, ep, k _ o (Ne.symm hL) ho, r⟩
 . refine (I.hok b u e).stay (fun c v hc q => k c v ?_ q) (fun _ q => q) fun _ _ q => q
   rcases hc with z | z
   . rw [z]; exact nit b u e
   . exact nit c _ z
theorem Inv.tok (I : Inv X pins σ H s) (t : Nat) : Inv X pins σ H { s with toks := t } := I.un (h' := s.heap) (t' := t) Un.refl I.hok
theorem Inv.kept {t' : Nat} (I : Inv X pins σ H s) (k : ∀ b u, s.heap.get? b = some u -> h'.get? b = some u) : Inv X pins σ H { s with heap := h', toks := t' } := I.un (Un.kept k) (I.hok.kept k)
theorem Inv.laid {a : Addr} {o : HO} {t' : Nat} (I : Inv X pins σ H s) (k : ∀ b u, s.heap.get? b = some u -> h'.get? b = some u) (hp : s.heap.objs.size <= a) (new : ObjOk X.prog X.w (upd H a o) h' a o) :
   Inv X pins σ (upd H a o) { s with heap := h', toks := t' } := I.un (Un.laid k hp (I.hok.fresh hp)) (I.hok.laid k hp new)
theorem Inv.write {x e : Addr} {o : HO} {t' : Nat} (I : Inv X pins σ H s) (mu : Mut (H x)) (he : e = x \/ H e = some (.own x)) (k : ∀ b u, b ≠ e -> s.heap.get? b = some u -> h'.get? b = some u) (heo : ∃ u, h'.get? e = some u)
   (new : ObjOk X.prog X.w (upd H x o) h' x o) : Inv X pins σ (upd H x o) { s with heap := h', toks := t' } := I.un (Un.write mu he k heo) (I.hok.write mu he k heo new)
theorem Inv.pins_of {pins' : List (Addr × Obj)} (I : Inv X pins σ H s) (h : ∀ p ∈ pins', s.heap.get? p.1 = some p.2 /\ H p.1 = none /\ p.1 ≠ X.env.locals /\ p.1 ∉ X.fs /\ ∀ v, p.2.data ≠ .cell v) : Inv X pins' σ H s :=
 ⟨I.ok, I.os, I.bare, I.base, I.loc, I.cell, I.free, I.freeC, fun p hp => (List.mem_append.mp hp).elim (fun z => I.pin p (List.mem_append_left _ z)) (h p), I.hok, I.len⟩
theorem C3m {N : List Str} (hN : N.Nodup) {i j : Nat} {x : Str} (a : N[i]? = some x) (b : N[j]? = some x) : i = j := by
 obtain ⟨h1, e1⟩ := List.getElem?_eq_some_iff.mp a
 obtain ⟨h2, e2⟩ := List.getElem?_eq_some_iff.mp b
 exact (List.getElem_inj hN).mp (e1.trans e2.symm)
theorem D2u {M : Model} {A : Around} {E : Value -> Shared -> Prop} {i : Nat} {x : Str} {v : V} {u : Value} {Q : Unit -> Shared -> Prop} (I : Inv X pins σ H s) (hN : X.N.Nodup) (hi : X.N[i]? = some x) (hx : Loc X.env.scope x) (r : RelV v u)
   (h : ∀ s', Inv X pins (σ.set i (some v)) H s' -> (∃ a, Heap.SameBut a s.heap s'.heap /\ (a = X.env.locals \/ X.env.cells.lookup x = some a)) -> Q () s') (hf : X.fn x = true \/ X.env.scope.names.lookup x = some .local := by first | exact .inl rfl | exact .inr rfl | assumption) : wpAny M A (storeName X.env x u) Q E s := by
 obtain ⟨m, hn, hl⟩ := id I.loc
 have hcls : (X.env.scope.kind == .class || (X.env.scope.kind == .module && X.env.locals != X.env.globals)) = false := by rw [I.ok.kind]; rfl
 have hiσ : i < σ.length := by rw [I.len]; exact (List.getElem?_eq_some_iff.mp hi).1
 have cne := I.cne
 have tracked : ∀ {a : Addr} {h' : Heap}, (∃ o, s.heap.get? a = some o /\ H a = none) -> Heap.SameBut a s.heap h' -> HOk X.prog X.w H h' := fun {a h'} ha hs b ob e => by
   obtain ⟨_, _, hfree⟩ := ha
   refine (I.hok b ob e).stay (fun c w' hc q => (hs.2 c ?_).trans q) (fun _ q => q) fun _ _ q => q
   rintro rfl
   rcases hc with rfl | hc
   . rw [hfree] at e; cases e
   . rw [hfree] at hc; cases hc
 rcases hx with hk | hk
 . refine wpAny_storeName_local hk hn (fun h' hn' hs => ?_) hcls
   obtain ⟨oL, _, _, hoL, _⟩ := id hn
   refine h _ ⟨I.ok, I.os, I.bare, ⟨fun b o e n hb hx => ?_, fun b o e n hb hx => ?_, I.base.free, fun b o e hx => ?_, I.base.tups, I.base.frzs, I.base.tbls⟩, ⟨_, hn', fun j y v' e1 e2 e3 => ?_⟩, fun y c e => ?_, I.free, I.freeC, fun p hp => ?_, tracked ⟨oL, hoL, I.free⟩ hs, by simpa using I.len⟩ ⟨_, hs, .inl rfl⟩
   . exact (hs.2 b (Nat.ne_of_lt (Nat.lt_of_lt_of_le (Heap.lt_size e) I.ok.above))).trans (I.base.keep b o e n hb hx)
   . obtain ⟨sl, e1⟩ := I.base.slot b o e n hb hx
     exact ⟨sl, (hs.2 b (Nat.ne_of_lt (Nat.lt_of_lt_of_le (Heap.lt_size e) I.ok.above))).trans e1⟩
   . obtain ⟨o', e1⟩ := I.base.there b o e hx
     exact ⟨o', (hs.2 b (Nat.ne_of_lt (Nat.lt_of_lt_of_le (Heap.lt_size e) I.ok.above))).trans e1⟩
   . by_cases hj : j = i
     . subst hj
       rw [hi] at e1; cases e1
       rw [List.getElem?_set_self hiσ] at e2
       cases e2
       exact ⟨u, r, .inl ⟨hk, by simp⟩⟩
     . rw [List.getElem?_set_ne (Ne.symm hj)] at e2
       obtain ⟨u', r', q⟩ := hl j y v' e1 e2 e3
       refine ⟨u', r', ?_⟩
       rcases q with ⟨k, e⟩ | ⟨k, c, e, z⟩
       . refine .inl ⟨k, ?_⟩
         have : y ≠ x := fun e => hj (C3m hN e1 (e ▸ hi))
         simp [this, e]
       . exact .inr ⟨k, c, e, z.sameBut hs (cne y c e)⟩
   . obtain ⟨w', z⟩ := I.cell y c e
     exact ⟨w', z.sameBut hs (cne y c e)⟩
   . obtain ⟨e, n, ne, nf, d⟩ := I.pin p hp
     exact ⟨(hs.2 p.1 ne).trans e, n, ne, nf, d⟩
 . have hfn : X.fn x = true := by
     rcases hf with z | z
     . exact z
     . rw [z] at hk; cases hk
   obtain ⟨c, hc⟩ := I.ok.has x (.inl hk)
   obtain ⟨w', z⟩ := I.cell x c hc
   refine wpAny_storeName_cell I.ok.kind hk hc z (fun h' hc' hs => ?_)
   obtain ⟨oc, hoc, hocd⟩ := id z
   refine h { s with heap := h' } ⟨I.ok, I.os, I.bare, ⟨fun b o e n hb hx => ?_, fun b o e n hb hx => ?_, I.base.free, fun b o e hx => ?_, I.base.tups, I.base.frzs, I.base.tbls⟩, ⟨m, hn.sameBut hs (Ne.symm (cne x c hc)), fun j y v' e1 e2 e3 => ?_⟩, fun y c' e => ?_, I.free, I.freeC, fun p hp => ?_, tracked ⟨oc, hoc, I.freeC x c hc⟩ hs, by simpa using I.len⟩ ⟨c, hs, .inr hc⟩
   . exact (hs.2 b (Nat.ne_of_lt (Nat.lt_of_lt_of_le (Heap.lt_size e) (I.ok.cab x c hfn hc)))).trans (I.base.keep b o e n hb hx)
   . obtain ⟨sl, e1⟩ := I.base.slot b o e n hb hx
     exact ⟨sl, (hs.2 b (Nat.ne_of_lt (Nat.lt_of_lt_of_le (Heap.lt_size e) (I.ok.cab x c hfn hc)))).trans e1⟩
   . obtain ⟨o', e1⟩ := I.base.there b o e hx
     exact ⟨o', (hs.2 b (Nat.ne_of_lt (Nat.lt_of_lt_of_le (Heap.lt_size e) (I.ok.cab x c hfn hc)))).trans e1⟩
   . by_cases hj : j = i
     . subst hj
       rw [hi] at e1; cases e1
       rw [List.getElem?_set_self hiσ] at e2
       cases e2
       exact ⟨u, r, .inr ⟨.inl hk, c, hc, hc'⟩⟩
     . rw [List.getElem?_set_ne (Ne.symm hj)] at e2
       obtain ⟨u', r', q⟩ := hl j y v' e1 e2 e3
       refine ⟨u', r', ?_⟩
       rcases q with q | ⟨k, c', e, z'⟩
       . exact .inl q
       . refine .inr ⟨k, c', e, z'.sameBut hs ?_⟩
         rintro rfl
         exact hj (C3m hN e1 (I.ok.inj _ _ _ e hc ▸ hi))
   . by_cases hcc : c' = c
     . subst hcc; exact ⟨_, hc'⟩
     . obtain ⟨w2, z2⟩ := I.cell y c' e
       exact ⟨w2, z2.sameBut hs hcc⟩
   . obtain ⟨e, n, ne, nf, d⟩ := I.pin p hp
     refine ⟨(hs.2 p.1 ?_).trans e, n, ne, nf, d⟩
     intro q
     rw [q, hoc] at e
     have q' : oc = p.2 := Option.some.inj e
     exact d w' (by rw [<- q']; exact hocd)
theorem A8y {M : Model} {A : Around} {E : Value -> Shared -> Prop} {i : Nat} {x : Str} {v : V} {u : Value} {Q : Unit -> Shared -> Prop} (I : Inv X pins σ H s) (hN : X.N.Nodup) (hi : X.N[i]? = some x) (hx : Loc X.env.scope x) (r : RelV v u)
   (h : ∀ s', Inv X pins (σ.set i (some v)) H s' -> Q () s') (hf : X.fn x = true \/ X.env.scope.names.lookup x = some .local := by first | exact .inl rfl | exact .inr rfl | assumption) : wpAny M A (storeName X.env x u) Q E s :=
 D2u I hN hi hx r (fun s' I' _ => h s' I') hf
theorem Inv.call' {s' : Shared} {ch : List Addr} (I : Inv X pins σ H s) (ho : s'.os = s.os) (u : Un (frs X.stack) ch H H' s.heap s'.heap) (hok : HOk X.prog X.w H' s'.heap) (hg : AllBare s'.gens)
   (hch : ∀ b ∈ ch, (b ∈ X.ex \/ X.s₀.heap.objs.size <= b) /\ b ≠ X.env.locals /\ (∀ x c, X.env.cells.lookup x = some c -> c ≠ b) /\ ∀ p ∈ X.pn ++ pins, p.1 ≠ b) : Inv X pins σ H' s' := by
 obtain ⟨h', g', d', t', o'⟩ := s'
 have e : o' = s.os := ho
 subst e
 exact I.call (g' := g') (t' := t') (d' := d') u hok hg hch
end
abbrev XK := Value -> Option Addr -> Hp -> Prop
abbrev St := List (Option V)
abbrev VK := V -> Hp -> Prop
abbrev TE := St -> Hp -> VK -> Prop
abbrev TT := St -> Hp -> (Bool -> Hp -> Prop) -> Prop
abbrev TA := St -> Hp -> (List V -> Hp -> Prop) -> Prop
structure Ends where
 nx : St -> Hp -> Prop
 rt : VK
 bk : St -> Hp -> Prop := fun _ _ => False
 ct : St -> Hp -> Prop := fun _ _ => False
abbrev TS := Ends -> St -> Hp -> Prop
def EP (X : Cx) (pins : List (Addr × Obj)) (σ : St) (Q : VK) (u : Value) (s' : Shared) : Prop := ∃ v H', Inv X pins σ H' s' /\ RelV v u /\ Q v H'
def TP (X : Cx) (pins : List (Addr × Obj)) (σ : St) (Q : Bool -> Hp -> Prop) (b : Bool) (s' : Shared) : Prop := ∃ H', Inv X pins σ H' s' /\ Q b H'
def AP (X : Cx) (pins : List (Addr × Obj)) (σ : St) (Q : List V -> Hp -> Prop) (us : List Value) (s' : Shared) : Prop := ∃ vs H', Inv X pins σ H' s' /\ Vals vs us /\ Q vs H'
def SP (X : Cx) (pins : List (Addr × Obj)) (D : Ends) (f : Flow) (s' : Shared) : Prop :=
 match f with
 | .next => ∃ σ' H', Inv X pins σ' H' s' /\ D.nx σ' H'
 | .brk => ∃ σ' H', Inv X pins σ' H' s' /\ D.bk σ' H'
 | .cont => ∃ σ' H', Inv X pins σ' H' s' /\ D.ct σ' H'
 | .ret u => ∃ v σ' H', Inv X pins σ' H' s' /\ RelV v u /\ D.rt v H'
def PE (X : Cx) (e : Expr) (t : TE) : Prop :=
 ∀ (pins : List (Addr × Obj)) (s : Shared) (σ : St) (H : Hp) (Q : VK), Inv X pins σ H s -> t σ H Q -> wpAny (model X.prog X.w) X.A (eval e X.env) (EP X pins σ Q) X.xe s
def PT (X : Cx) (e : Expr) (t : TT) : Prop :=
 ∀ (pins : List (Addr × Obj)) (s : Shared) (σ : St) (H : Hp) (Q : Bool -> Hp -> Prop), Inv X pins σ H s -> t σ H Q -> wpAny (model X.prog X.w) X.A (isTrue e X.env (eval e X.env)) (TP X pins σ Q) X.xe s
def PW (X : Cx) (e : Expr) (t : TT) : Prop :=
 ∀ (whole : Sem Value) (pins : List (Addr × Obj)) (s : Shared) (σ : St) (H : Hp) (Q : Bool -> Hp -> Prop), Inv X pins σ H s -> t σ H Q -> wpAny (model X.prog X.w) X.A (isTrue e X.env whole) (TP X pins σ Q) X.xe s
theorem PW.pt {X : Cx} {e : Expr} {t : TT} (h : PW X e t) : PT X e t := h _
def PA (X : Cx) (es : List Expr) (t : TA) : Prop :=
 ∀ (pos : Pos) (pins : List (Addr × Obj)) (s : Shared) (σ : St) (H : Hp) (Q : List V -> Hp -> Prop), Inv X pins σ H s -> t σ H Q -> wpAny (model X.prog X.w) X.A (spliced (backTo pos (starEach es X.env))) (AP X pins σ Q) X.xe s
def PS (X : Cx) (st : Stmt) (t : TS) : Prop :=
 ∀ (pins : List (Addr × Obj)) (s : Shared) (σ : St) (H : Hp) (D : Ends), Inv X pins σ H s -> t D σ H -> wpAny (model X.prog X.w) X.A (exec st X.env) (SP X pins D) X.xe s
def PSs (X : Cx) (st : List Stmt) (t : TS) : Prop :=
 ∀ (pins : List (Addr × Obj)) (s : Shared) (σ : St) (H : Hp) (D : Ends), Inv X pins σ H s -> t D σ H -> wpAny (model X.prog X.w) X.A (execs st X.env) (SP X pins D) X.xe s
theorem thn {α : Type} {t : Sem α} {Q Q' : α -> Shared -> Prop} {M : Model} {A : Around} {E : Value -> Shared -> Prop} {s : Shared} (h : wpAny M A t Q E s) (hQ : ∀ a s, Q a s -> Q' a s) : wpAny M A t Q' E s := wpAny_mono h hQ fun _ _ x => x
section
variable {X : Cx}
def Z3y (i : Nat) : TE := fun σ H Q => ∃ v, σ[i]? = some (some v) /\ Q v H
def tC (v : V) : TE := fun _ H Q => Q v H
theorem V0z {i : Nat} {x : Str} {pos : Pos} (hN : X.N[i]? = some x) (hv : Vis X.env.scope x) (hd : (x == ("__debug__" : Str)) = false := by decide) (hcd : (x == ("__classdict__" : Str)) = false := by decide) : PE X (.Name x pos) (Z3y i) := by
 intro pins s σ H Q I h
 obtain ⟨v, e, h⟩ := h
 obtain ⟨m, hn, hl⟩ := I.loc
 obtain ⟨u, r, l⟩ := hl i x v hN e hv
 have fin : EP X pins σ Q u s := ⟨v, H, I, r, h⟩
 rcases l with ⟨hk, hm⟩ | ⟨hk, c, hc, hcell⟩
 . exact wpAny_Name (wpAny_loadName_local I.ok.kind hk hn hm fin) hd
 . rcases hk with hk | hk
   . exact wpAny_Name (wpAny_loadName_cell I.ok.kind hk hc hcell fin) hd
   . exact wpAny_Name (wpAny_loadName_free I.ok.kind hk hc hcell fin hcd) hd
theorem A3 {i j pos} : PE X (.Constant (.int i) j pos) (tC (.int i)) := fun _ _ _ H _ I h => wpAny_Constant_int ⟨.int i, H, I.tok _, ⟨_, rfl⟩, h⟩
theorem B3j {b j pos} : PE X (.Constant (.bool b) j pos) (tC (.bl b)) := fun _ _ _ H _ I h => Constant_bool ⟨.bl b, H, I, rfl, h⟩
theorem Z2d {j pos} : PE X (.Constant .none j pos) (tC .non) := fun _ _ _ H _ I h => Constant_none ⟨.non, H, I, rfl, h⟩
theorem B0 {x j pos} : PE X (.Constant (.str x) j pos) (tC (.str x)) := fun _ _ _ H _ I h => Calls.Constant_str ⟨.str x, H, I.tok _, ⟨_, rfl⟩, h⟩
def Gl (X : Cx) (x : Str) : Prop := X.env.kindOf x = some .globalImplicit
theorem A0y {E : Value -> Shared -> Prop} {pins : List (Addr × Obj)} {s : Shared} {σ : St} {H : Hp} {x : Str} {u : Value} {pos : Pos} {Q : Value -> Shared -> Prop} (I : Inv X pins σ H s) (hg : Gl X x) (hm : X.mg x = some u) (h : Q u s)
   (hd : (x == ("__debug__" : Str)) = false := by decide) : wpAny (model X.prog X.w) X.A (eval (.Name x pos) X.env) Q E s :=
 Calls.Name_function_global I.ok.kind hg (Calls.loadGlobal_global (by rw [I.ok.glob]; exact I.mod.glob.keeps I.bk) hm h) hd
theorem D5h {E : Value -> Shared -> Prop} {pins : List (Addr × Obj)} {s : Shared} {σ : St} {H : Hp} {x : Str} {u : Value} {pos : Pos} {Q : Value -> Shared -> Prop} (I : Inv X pins σ H s) (hg : Gl X x) (hm : X.mg x = none) (hv : bootBuiltins x = some u) (h : Q u s)
   (hn : x ≠ "__name__" := by decide) (hd : (x == ("__debug__" : Str)) = false := by decide) : wpAny (model X.prog X.w) X.A (eval (.Name x pos) X.env) Q E s := by
 obtain ⟨mb, h1, h2⟩ := I.mod.blt
 exact Calls.Name_function_global I.ok.kind hg (Calls.loadGlobal_builtin (by rw [I.ok.glob]; exact I.mod.glob.keeps I.bk) hm (by rw [I.ok.blt]; exact h1.keeps I.bk) ((h2 x hn).trans hv) h) hd
theorem U3e {x : Str} {v : V} {u : Value} {pos : Pos} (hg : Gl X x) (hm : X.mg x = some u) (r : RelV v u) (hd : (x == ("__debug__" : Str)) = false := by decide) : PE X (.Name x pos) (tC v) :=
 fun _ _ _ H _ I h => A0y I hg hm ⟨v, H, I, r, h⟩ hd
theorem Y7m {x : Str} {v : V} {u : Value} {pos : Pos} (hg : Gl X x) (hm : X.mg x = none) (hv : bootBuiltins x = some u) (r : RelV v u) (hn : x ≠ "__name__" := by decide) (hd : (x == ("__debug__" : Str)) = false := by decide) : PE X (.Name x pos) (tC v) :=
 fun _ _ _ H _ I h => D5h I hg hm hv ⟨v, H, I, r, h⟩ hn hd
variable {a b : Expr} {ta tb : TE} {pos : Pos}
def tB (t : TE) : TT := fun σ H Q => t σ H fun x H1 => ∃ c, x = .bl c /\ Q c H1
theorem Z0 {e : Expr} {t : TE} (h : PE X e t) (he : ∀ whole, isTrue e X.env whole = (do let v <- whole; standAt e.pos; holding [v] (truthy v)) := by intro _; rfl) : PT X e (tB t) := by
 intro pins s σ H Q I hw
 refine isTrue_plain (thn (h pins s σ H _ I hw) fun v s1 ⟨x, H1, I1, r1, q1⟩ => ?_) (he _)
 obtain ⟨d, rfl, q⟩ := q1
 cases r1
 exact wpAny_truthy_bool ⟨H1, I1, q⟩
variable {tA tB' : TT} {rest : List Expr}
def tAnd (t u : TT) : TT := fun σ H Q => t σ H fun c H1 => if c = true then u σ H1 Q else Q false H1
def tOr (t u : TT) : TT := fun σ H Q => t σ H fun c H1 => if c = true then Q true H1 else u σ H1 Q
def tNot (t : TT) : TT := fun σ H Q => t σ H fun c H1 => Q (!c) H1
theorem A2a (ha : PT X a tA) : PW X (.BoolOp .And [a] pos) tA := by
 intro wh pins s σ H Q I h
 refine isTrue_and (thn (ha pins s σ H Q I h) fun c s1 e => ?_)
 cases c with
 | true => exact isTrue_and_nil e
 | false => exact e
theorem A5n (ha : PT X a tA) : PW X (.BoolOp .Or [a] pos) tA := by
 intro wh pins s σ H Q I h
 refine isTrue_or (thn (ha pins s σ H Q I h) fun c s1 e => ?_)
 cases c with
 | false => exact isTrue_or_nil e
 | true => exact e
theorem A4g (ha : PT X a tA) (hb : PW X (.BoolOp .And (b :: rest) pos) tB') : PW X (.BoolOp .And (a :: b :: rest) pos) (tAnd tA tB') := by
 intro wh pins s σ H Q I h
 refine isTrue_and (thn (ha pins s σ H _ I h) fun c s1 ⟨H1, I1, q1⟩ => ?_)
 cases c with
 | true => exact hb wh pins s1 σ H1 Q I1 q1
 | false => exact ⟨H1, I1, q1⟩
theorem B6a (ha : PT X a tA) (hb : PW X (.BoolOp .Or (b :: rest) pos) tB') : PW X (.BoolOp .Or (a :: b :: rest) pos) (tOr tA tB') := by
 intro wh pins s σ H Q I h
 refine isTrue_or (thn (ha pins s σ H _ I h) fun c s1 ⟨H1, I1, q1⟩ => ?_)
 cases c with
 | true => exact ⟨H1, I1, q1⟩
 | false => exact hb wh pins s1 σ H1 Q I1 q1
theorem A9r (ha : PT X a tA) : PT X (.UnaryOp .Not a pos) (tNot tA) := by
 intro pins s σ H Q I h
 exact isTrue_not (ha pins s σ H (fun c H1 => Q (!c) H1) I h)
def Z9t (ta tb : TE) : TE := fun σ H Q => ta σ H fun x H1 => ∃ c, x = .bl c /\ if c = true then tb σ H1 Q else Q (.bl false) H1
def tOrV (ta tb : TE) : TE := fun σ H Q => ta σ H fun x H1 => ∃ c, x = .bl c /\ if c = true then Q (.bl true) H1 else tb σ H1 Q
theorem A1t {op} {t : TE} (h : PE X a t) : PE X (.BoolOp op [a] pos) t := fun pins s σ H Q I hw => BoolOp_one (h pins s σ H Q I hw)
theorem A5s (ha : PE X a ta) (hb : PE X (.BoolOp .And (b :: rest) pos) tb) : PE X (.BoolOp .And (a :: b :: rest) pos) (Z9t ta tb) := by
 intro pins s σ H Q I h
 refine BoolOp_and (thn (ha pins s σ H _ I h) fun v s1 ⟨x, H1, I1, r1, q1⟩ => ?_)
 obtain ⟨c, rfl, q1⟩ := q1
 cases r1
 refine wpAny_truthy_bool ?_
 cases c with
 | true => exact hb pins s1 σ H1 Q I1 q1
 | false => exact ⟨.bl false, H1, I1, rfl, q1⟩
theorem G6a (ha : PE X a ta) (hb : PE X (.BoolOp .Or (b :: rest) pos) tb) : PE X (.BoolOp .Or (a :: b :: rest) pos) (tOrV ta tb) := by
 intro pins s σ H Q I h
 refine BoolOp_or (thn (ha pins s σ H _ I h) fun v s1 ⟨x, H1, I1, r1, q1⟩ => ?_)
 obtain ⟨c, rfl, q1⟩ := q1
 cases r1
 refine wpAny_truthy_bool ?_
 cases c with
 | false => exact hb pins s1 σ H1 Q I1 q1
 | true => exact ⟨.bl true, H1, I1, rfl, q1⟩
def tIf (t : TT) (ta tb : TE) : TE := fun σ H Q => t σ H fun c H1 => if c = true then ta σ H1 Q else tb σ H1 Q
theorem A1a {c : Expr} (hc : PT X c tA) (ha : PE X a ta) (hb : PE X b tb) : PE X (.IfExp c a b pos) (tIf tA ta tb) := by
 intro pins s σ H Q I h
 refine wpAny_IfExp (thn (hc pins s σ H _ I h) fun d s1 ⟨H1, I1, q1⟩ => ?_)
 cases d with
 | true => exact ha pins s1 σ H1 Q I1 q1
 | false => exact hb pins s1 σ H1 Q I1 q1
end
def SqL (K : PySem.W.Frag) (H : Hp) (a : Addr) (xs : List V) : Prop :=
 Rd H a (.lst xs) \/
   ∃ (o : Obj) (its : Array Value) (n : Nat), K.lookup a = some o /\ o.cls = .type "list" /\ o.dict = none /\ o.data = .seq its n /\ its.size <= sizeLine /\ Vals xs its.toList
def SqT (K : PySem.W.Frag) (H : Hp) (a : Addr) (xs : List V) : Prop :=
 Rd H a (.tup xs) \/
   ∃ (o : Obj) (its : Array Value) (n : Nat), K.lookup a = some o /\ o.cls = .type "tuple" /\ o.data = .seq its n /\ its.size <= sizeLine /\ Vals xs its.toList
def absV : Value -> Option V
 | .none => some .non
 | .bool b => some (.bl b)
 | .int i _ => some (.int i)
 | .str x _ => some (.str x)
 | .bytes b _ => some (.byt b)
 | .float b _ => some (.flt b)
 | .ref a => some (.ref a)
 | .type n => some (.ty n)
 | _ => none
theorem RelV.abs {x : V} {u : Value} (r : RelV x u) : absV u = some x := by
 cases x with
 | non => cases r; rfl
 | bl _ => cases r; rfl
 | int _ => obtain ⟨t, rfl⟩ := r; rfl
 | str _ => obtain ⟨t, rfl⟩ := r; rfl
 | byt _ => obtain ⟨t, rfl⟩ := r; rfl
 | flt _ => obtain ⟨t, rfl⟩ := r; rfl
 | ref _ => cases r; rfl
 | ty _ => cases r; rfl
theorem RelV.inj {x y : V} {u : Value} (r : RelV x u) (q : RelV y u) : x = y := Option.some.inj (r.abs.symm.trans q.abs)
theorem Vals.inj : ∀ {xs ys : List V} {us : List Value}, Vals xs us -> Vals ys us -> xs = ys
 | _, _, _, .nil, .nil => rfl
 | _, _, _, .cons r t, .cons r' t' => by rw [r.inj r', Vals.inj t t']
section
variable {X : Cx} {pins : List (Addr × Obj)} {σ : St} {H : Hp} {s : Shared} {a : Addr} {xs ys : List V}
theorem SqL.of {K : PySem.W.Frag} (h : H a = some (.lst xs)) : SqL K H a xs := .inl (.inl h)
theorem SqT.of {K : PySem.W.Frag} (h : H a = some (.tup xs)) : SqT K H a xs := .inl (.inl h)
theorem Inv.list (I : Inv X pins σ H s) (h : SqL X.K H a xs) : ∃ its : List Value, Vals xs its /\ PlainL s.heap a its.toArray /\ xs.length <= sizeLine := by
 rcases h with h | ⟨o, its, n, hk, hc, hd, hs, hz, r⟩
 . obtain ⟨z, its, n, r, e⟩ := h.ok I.hok
   exact ⟨its, r, ⟨_, n, e, rfl, rfl, rfl⟩, z⟩
 . refine ⟨its.toList, r, ⟨o, n, I.kIn a o hk, hc, hd, by simpa using hs⟩, ?_⟩
   have e := r.length
   simp only [Array.length_toList] at e
   omega
theorem Inv.tuple (I : Inv X pins σ H s) (h : SqT X.K H a xs) : ∃ its : List Value, Vals xs its /\ IsTup s.heap a its.toArray /\ xs.length <= sizeLine := by
 rcases h with h | ⟨o, its, n, hk, hc, hs, hz, r⟩
 . obtain ⟨z, its, r, p⟩ := h.ok I.hok
   exact ⟨its, r, p, z⟩
 . refine ⟨its.toList, r, ⟨o, I.kIn a o hk, hc, n, by simpa using hs⟩, ?_⟩
   have e := r.length
   simp only [Array.length_toList] at e
   omega
theorem Inv.list_inj (I : Inv X pins σ H s) (h : SqL X.K H a xs) (h' : SqL X.K H a ys) : xs = ys := by
 obtain ⟨its, r, ⟨o, n, e, _, _, d⟩, _⟩ := I.list h
 obtain ⟨its', r', ⟨o', n', e', _, _, d'⟩, _⟩ := I.list h'
 rw [e] at e'; cases e'
 rw [d] at d'
 injection d' with d1 _
 have : its = its' := by simpa using congrArg Array.toList d1
 subst this
 exact r.inj r'
theorem Inv.tuple_inj (I : Inv X pins σ H s) (h : SqT X.K H a xs) (h' : SqT X.K H a ys) : xs = ys := by
 obtain ⟨its, r, ⟨o, e, _, n, d⟩, _⟩ := I.tuple h
 obtain ⟨its', r', ⟨o', e', _, n', d'⟩, _⟩ := I.tuple h'
 rw [e] at e'; cases e'
 rw [d] at d'
 injection d' with d1 _
 have : its = its' := by simpa using congrArg Array.toList d1
 subst this
 exact r.inj r'
end
abbrev Cx.wish (X : Cx) (E : Value -> Shared -> Prop) : Cx := { X with xe := E }
abbrev Cx.nox (X : Cx) : Cx := X.wish fun _ _ => False
theorem Cx.Ok.wish {X : Cx} (ok : X.Ok) (E : Value -> Shared -> Prop) : (X.wish E).Ok :=
 ⟨ok.mod, ok.kind, ok.glob, ok.blt, ok.above, ok.inj, ok.has, ok.cab, ok.hd, ok.frames, ok.stk, ok.exf, ok.bs, ok.bsz, ok.noex, ok.exfs, ok.funs, ok.frf⟩
theorem Cx.Ok.unwish {X : Cx} {E : Value -> Shared -> Prop} (ok : (X.wish E).Ok) : X.Ok :=
 ⟨ok.mod, ok.kind, ok.glob, ok.blt, ok.above, ok.inj, ok.has, ok.cab, ok.hd, ok.frames, ok.stk, ok.exf, ok.bs, ok.bsz, ok.noex, ok.exfs, ok.funs, ok.frf⟩
section
variable {X : Cx} {pins : List (Addr × Obj)} {σ : St} {H : Hp} {s : Shared} {E : Value -> Shared -> Prop}
theorem Inv.wish (I : Inv X pins σ H s) (E : Value -> Shared -> Prop) : Inv (X.wish E) pins σ H s := ⟨I.ok.wish E, I.os, I.bare, I.base, I.loc, I.cell, I.free, I.freeC, I.pin, I.hok, I.len⟩
theorem Inv.unwish (I : Inv (X.wish E) pins σ H s) : Inv X pins σ H s := ⟨I.ok.unwish, I.os, I.bare, I.base, I.loc, I.cell, I.free, I.freeC, I.pin, I.hok, I.len⟩
theorem SP.unwish {D : Ends} {f : Flow} {s' : Shared} (h : SP (X.wish E) pins D f s') : SP X pins D f s' := by
 cases f with
 | next => obtain ⟨σ', H', I, q⟩ := h; exact ⟨σ', H', I.unwish, q⟩
 | brk => obtain ⟨σ', H', I, q⟩ := h; exact ⟨σ', H', I.unwish, q⟩
 | cont => obtain ⟨σ', H', I, q⟩ := h; exact ⟨σ', H', I.unwish, q⟩
 | ret u => obtain ⟨v, σ', H', I, r, q⟩ := h; exact ⟨v, σ', H', I.unwish, r, q⟩
theorem PSs.nox {st : List Stmt} {t : TS} (h : PSs X.nox st t) : PSs X st t := fun pins s σ H D I hw =>
 wpAny_mono (h pins s σ H D (I.wish _) hw) (fun _ _ q => q.unwish) fun _ _ z => False.elim z
end
section
variable {X : Cx} {st : Stmt} {rest : List Stmt} {t u : TS} {e : Expr} {te : TE} {pos : Pos}
def Z7x : TS := fun D σ H => D.nx σ H
def tSeq (t u : TS) : TS := fun D σ H => t { D with nx := u D } σ H
theorem C7 : PSs X [] Z7x := fun _ _ σ H _ I h => wpAny_execs_nil ⟨σ, H, I, h⟩
theorem A6 (h1 : PS X st t) (h2 : PSs X rest u) : PSs X (st :: rest) (tSeq t u) := by
 intro pins s σ H D I h
 refine wpAny_execs_cons (thn (h1 pins s σ H { D with nx := u D } I h) fun f s1 q => ?_)
 cases f with
 | next =>
   obtain ⟨σ', H', I', q⟩ := q
   exact h2 pins s1 σ' H' D I' q
 | ret v => exact q
 | brk => exact q
 | cont => exact q
theorem A9 (h1 : PS X st t) : PSs X [st] t := by
 intro pins s σ H D I h
 refine wpAny_execs_cons (thn (h1 pins s σ H D I h) fun f s1 q => ?_)
 cases f with
 | next => exact wpAny_execs_nil q
 | ret v => exact q
 | brk => exact q
 | cont => exact q
theorem Inv.quiet {pins : List (Addr × Obj)} {σ : St} {H : Hp} {s : Shared} (I : Inv X pins σ H s) : interactive X.env = false := by simp [interactive, I.ok.kind]
def Z8y (te : TE) : TS := fun D σ H => te σ H fun _ H1 => D.nx σ H1
theorem Y8 (he : PE X e te) (hs : swapsWith e none pos.line X.env = pure false := by rfl) : PS X (.Expr e pos) (Z8y te) := by
 intro pins s σ H D I h
 exact wpAny_Expr_any (thn (he pins s σ H _ I h) fun v s1 ⟨x, H1, I1, r1, q1⟩ => ⟨σ, H1, I1, q1⟩) I.quiet hs
def tRet (te : TE) : TS := fun D σ H => te σ H D.rt
theorem B7 (he : PE X e te) : PS X (.Return (some e) pos) (tRet te) := by
 intro pins s σ H D I h
 exact wpAny_Return_some (thn (he pins s σ H _ I h) fun v s1 ⟨x, H1, I1, r1, q1⟩ => ⟨x, σ, H1, I1, r1, q1⟩)
def tIfS (c : TT) (t u : TS) : TS := fun D σ H => c σ H fun b H1 => if b = true then t D σ H1 else u D σ H1
theorem G4 {c : Expr} {a b : List Stmt} {tc : TT} (hc : PT X c tc) (ha : PSs X a t) (hb : PSs X b u) : PS X (.If c a b pos) (tIfS tc t u) := by
 intro pins s σ H D I h
 refine wpAny_If (thn (hc pins s σ H _ I h) fun d s1 ⟨H1, I1, q1⟩ => ?_)
 cases d with
 | true => exact ha pins s1 σ H1 D I1 q1
 | false => exact hb pins s1 σ H1 D I1 q1
end
abbrev TG := V -> St -> Hp -> (St -> Hp -> Prop) -> Prop
abbrev TGs := List V -> St -> Hp -> (St -> Hp -> Prop) -> Prop
def PG (X : Cx) (target : Expr) (t : TG) : Prop :=
 ∀ (pins : List (Addr × Obj)) (s : Shared) (σ : St) (H : Hp) (v : V) (u : Value) (Q : St -> Hp -> Prop), Inv X pins σ H s -> RelV v u -> t v σ H Q ->
   wpAny (model X.prog X.w) X.A (assign target X.env u) (fun _ s' => ∃ σ' H', Inv X pins σ' H' s' /\ Q σ' H') X.xe s
def PGs (X : Cx) (ts : List Expr) (t : TGs) : Prop :=
 ∀ (pins : List (Addr × Obj)) (s : Shared) (σ : St) (H : Hp) (vs : List V) (us : List Value) (Q : St -> Hp -> Prop), Inv X pins σ H s -> Vals vs us -> t vs σ H Q ->
   wpAny (model X.prog X.w) X.A (assignInOrder ((assignEach ts X.env).map (·.2)) us) (fun _ s' => ∃ σ' H', Inv X pins σ' H' s' /\ Q σ' H') X.xe s
abbrev TIp := V -> V -> Hp -> VK -> Prop
def PIp (X : Cx) (op : Operator) (t : TIp) : Prop :=
 ∀ (pins : List (Addr × Obj)) (s : Shared) (σ : St) (H : Hp) (x y : V) (v u : Value) (Q : VK), Inv X pins σ H s -> RelV x v -> RelV y u -> t x y H Q ->
   wpAny (model X.prog X.w) X.A (inplaceOp op v u) (EP X pins σ Q) X.xe s
section
variable {X : Cx} {pos : Pos}
def D3k (i : Nat) : TG := fun v σ H Q => Q (σ.set i (some v)) H
theorem V6 {i : Nat} {x : Str} (hN : X.N.Nodup) (hi : X.N[i]? = some x) (hx : Loc X.env.scope x) (hf : X.fn x = true \/ X.env.scope.names.lookup x = some .local := by first | exact .inl rfl | exact .inr rfl | assumption) : PG X (.Name x pos) (D3k i) := by
 intro pins s σ H v u Q I r h
 exact wpAny_assign_Name (A8y I hN hi hx r (fun s' I' => ⟨_, H, I', h⟩) hf)
def gNil : TGs := fun vs σ H Q => vs = [] /\ Q σ H
def Z9n (t : TG) (u : TGs) : TGs := fun vs σ H Q => ∃ v r, vs = v :: r /\ t v σ H fun σ' H' => u r σ' H' Q
theorem D6d : PGs X [] gNil := by
 intro pins s σ H vs us Q I r h
 obtain ⟨e, h⟩ := h
 subst e
 cases r
 exact assignInOrder_nil ⟨σ, H, I, h⟩
theorem A4s {e : Expr} {es : List Expr} {t : TG} {u : TGs} (h1 : PG X e t) (h2 : PGs X es u)
   (hs : (assignEach (e :: es) X.env).map (·.2) = assign e X.env :: (assignEach es X.env).map (·.2) := by rfl) : PGs X (e :: es) (Z9n t u) := by
 intro pins s σ H vs us Q I r h
 obtain ⟨v, vr, e1, h⟩ := h
 subst e1
 cases r with
 | cons r rr =>
   rw [hs]
   refine assignInOrder_cons (thn (h1 pins s σ H _ _ _ I r h) fun _ s1 ⟨σ1, H1, I1, q1⟩ => ?_)
   exact h2 pins s1 σ1 H1 _ _ Q I1 rr q1
def gTup (K : PySem.W.Frag) (n : Nat) (t : TGs) : TG := fun v σ H Q => ∃ a xs, v = .ref a /\ SqT K H a xs /\ xs.length = n /\ t xs σ H Q
theorem J0y {es : List Expr} {k : Nat} {t : TGs} {n : Nat} (hc : X.calm = true) (h : PGs X es t)
   (hn : (assignEach es X.env).length = n := by rfl) (hst : (assignEach es X.env).findIdx? (·.1) = none := by rfl) : PG X (.Tuple es k pos) (gTup X.K n t) := by
 intro pins s σ H v u Q I r hw
 obtain ⟨a, xs, e1, hq, hl, hw⟩ := hw
 subst e1
 cases r
 obtain ⟨its, rv, ht, hz⟩ := I.tuple hq
 refine assign_Tuple_tuple (I.ok.hd hc) ht (by simp [hn, <- hl, rv.length]) hst fun h' hx => ?_
 have I1 : Inv X pins σ H { s with heap := h' } := I.kept (t' := s.toks) fun b o e => hx b o (Nat.ne_of_lt (Heap.lt_size e)) e
 exact h pins _ σ H xs _ Q I1 (by simpa using rv) hw
def Z4a (te : TE) (g : TG) : TS := fun D σ H => te σ H fun x H1 => g x σ H1 D.nx
theorem J1x {tg e : Expr} {te : TE} {g : TG} (he : PE X e te) (hg : PG X tg g) (hs : swapsWithSole [tg] e pos.line X.env = pure false := by rfl) (hw : swappedStores [tg] e X.env = pure none := by rfl)
   (h1 : (assignEach [tg] X.env).map (·.2) = [assign tg X.env] := by rfl) : PS X (.Assign [tg] e pos) (Z4a te g) := by
 intro pins s σ H D I h
 refine wpAny_Assign_stores (thn (he pins s σ H _ I h) fun v s1 ⟨x, H1, I1, r1, q1⟩ => ?_) hs hw
 rw [h1]
 exact thn (hg pins s1 σ H1 x v _ I1 r1 q1) fun _ s2 q => q
theorem D0 {i : Nat} {x : Str} {e : Expr} {te : TE} {pos' : Pos} (hN : X.N.Nodup) (hi : X.N[i]? = some x) (hx : Loc X.env.scope x) (he : PE X e te) (hs : swapsWith e (some (.Name x pos')) pos.line X.env = pure false := by rfl) (hf : X.fn x = true \/ X.env.scope.names.lookup x = some .local := by first | exact .inl rfl | exact .inr rfl | assumption) :
   PS X (.Assign [.Name x pos'] e pos) (Z4a te (D3k i)) := by
 intro pins s σ H D I h
 refine wpAny_Assign_Name (thn (he pins s σ H _ I h) fun v s1 ⟨y, H1, I1, r1, q1⟩ => ?_) hs
 exact A8y I1 hN hi hx r1 (fun s2 I2 => ⟨_, H1, I2, q1⟩) hf
def tAug (i : Nat) (te : TE) (ti : TIp) : TS := fun D σ H => ∃ x, σ[i]? = some (some x) /\ te σ H fun y H1 => ti x y H1 fun z H2 => D.nx (σ.set i (some z)) H2
theorem Z2k {i : Nat} {x : Str} {e : Expr} {te : TE} {op : Operator} {ti : TIp} {pos' : Pos} (hN : X.N.Nodup) (hi : X.N[i]? = some x) (hx : Loc X.env.scope x) (he : PE X e te) (ho : PIp X op ti) (hf : X.fn x = true \/ X.env.scope.names.lookup x = some .local := by first | exact .inl rfl | exact .inr rfl | assumption) :
   PS X (.AugAssign (.Name x pos') op e pos) (tAug i te ti) := by
 intro pins s σ H D I h
 obtain ⟨v, e1, h⟩ := h
 obtain ⟨m, hn, hl⟩ := I.loc
 have vis : Vis X.env.scope x := by rcases hx with k | k; exact .inl k; exact .inr (.inl k)
 obtain ⟨u, r, l⟩ := hl i x v hi e1 vis
 refine wpAny_AugAssign_Name ?_
 have go : wpAny (model X.prog X.w) X.A (eval e X.env) (fun w s₂ => wpAny (model X.prog X.w) X.A (inplaceOp op u w) (fun r s₃ => wpAny (model X.prog X.w) X.A (storeName X.env x r) (fun _ => SP X pins D .next) X.xe s₃) X.xe s₂) X.xe s := by
   refine thn (he pins s σ H _ I h) fun w s1 ⟨y, H1, I1, r1, q1⟩ => ?_
   refine thn (ho pins s1 σ H1 v y u w _ I1 r r1 q1) fun z s2 ⟨zv, H2, I2, r2, q2⟩ => ?_
   exact A8y I2 hN hi hx r2 (fun s3 I3 => ⟨_, H2, I3, q2⟩) hf
 rcases l with ⟨hk, hm⟩ | ⟨hk, c, hc, hcell⟩
 . exact wpAny_loadName_local I.ok.kind hk hn hm go
 . rcases hk with hk | hk
   . exact wpAny_loadName_cell I.ok.kind hk hc hcell go
   . rcases hx with k | k
     . have : X.env.scope.names.lookup x = some .free := hk
       rw [k] at this; cases this
     . have : X.env.scope.names.lookup x = some .free := hk
       rw [k] at this; cases this
def ipI (f : Int -> Int -> Int) : TIp := fun x y H Q => ∃ i j, x = .int i /\ y = .int j /\ Q (.int (f i j)) H
theorem Z2h : PIp X .Add (ipI fun i j => i + j) := by
 intro pins s σ H x y v u Q I r1 r2 h
 obtain ⟨i, j, e1, e2, q⟩ := h
 subst e1; subst e2
 obtain ⟨t, rfl⟩ := r1
 obtain ⟨t', rfl⟩ := r2
 exact iadd_int ⟨.int _, H, I.tok _, ⟨_, rfl⟩, q⟩
end
section
variable {X : Cx} {pos : Pos}
def V1h (c : TT) (tb : TS) : TS := fun D σ H => ∃ W : Nat -> St -> Hp -> Prop, (∃ m, W m σ H) /\ ∀ m σ H, W m σ H ->
 c σ H fun b H1 => if b = true then ∃ N : St -> Hp -> Prop, (∀ σ' H', N σ' H' -> ∃ m', m' < m /\ W m' σ' H') /\ tb { D with nx := N, ct := N, bk := D.nx } σ H1 else D.nx σ H1
theorem B6f {c : Expr} {body : List Stmt} {tc : TT} {tb : TS} (hp : PassesOwn (model X.prog X.w) X.A X.env X.xe) (hc : PT X c tc) (hb : PSs X body tb) : PS X (.While c body [] pos) (V1h tc tb) := by
 intro pins s σ H D I h
 obtain ⟨W, ⟨m0, w0⟩, turn⟩ := h
 refine wpAny_While (codeAny_whileLoop (fun n s' => ∃ σ' H', Inv X pins σ' H' s' /\ W n σ' H') ?_ m0 ⟨σ, H, I, w0⟩)
 rintro n s1 ⟨σ1, H1, I1, w1⟩
 refine wpAny_passesOwn hp (thn (hc pins s1 σ1 H1 _ I1 (turn n σ1 H1 w1)) fun b s2 ⟨H2, I2, q2⟩ => ?_)
 cases b with
 | true =>
   obtain ⟨N, hN, q2⟩ := q2
   rw [if_pos rfl]
   refine wpAny_passesOwn hp (thn (hb pins s2 σ1 H2 _ I2 q2) fun f s3 q3 => ?_)
   cases f with
   | next =>
     obtain ⟨σ3, H3, I3, n3⟩ := q3
     obtain ⟨m', hm, w3⟩ := hN σ3 H3 n3
     exact ⟨m', hm, σ3, H3, I3, w3⟩
   | cont =>
     obtain ⟨σ3, H3, I3, n3⟩ := q3
     obtain ⟨m', hm, w3⟩ := hN σ3 H3 n3
     exact ⟨m', hm, σ3, H3, I3, w3⟩
   | brk => exact q3
   | ret v => exact q3
 | false =>
   rw [if_neg Bool.false_ne_true]
   exact wpAny_execs_nil ⟨σ1, H2, I2, q2⟩
end
structure It where
 go : Nat -> Hp -> Prop
 yld : Nat -> Hp -> V -> Hp -> Prop
 stop : Nat -> Hp -> Prop
def A4u (X : Cx) (pins : List (Addr × Obj)) (H : Hp) (b : Addr) : Prop :=
 H b = none /\ b ≠ X.env.locals /\ b ∉ X.fs /\ (b ∈ X.ex \/ X.s₀.heap.objs.size <= b) /\ (∀ x c, X.env.cells.lookup x = some c -> c ≠ b) /\ ∀ p ∈ X.pn ++ pins, p.1 ≠ b
theorem Inv.fpOk {X : Cx} {pins : List (Addr × Obj)} {σ : St} {H H' : Hp} {s : Shared} {b : Addr} (I : Inv X pins σ H s) (hb : s.heap.objs.size <= b) (hn : H' b = none) : A4u X pins H' b := by
 refine ⟨hn, Nat.ne_of_gt (Nat.lt_of_lt_of_le I.lt hb), I.nofs hb, .inr (Nat.le_trans I.sz hb), fun x c e z => ?_, fun p hp z => ?_⟩
 . obtain ⟨v, q⟩ := I.cell x c e
   exact absurd (Nat.lt_of_lt_of_le q.lt (by rw [z]; exact hb)) (Nat.lt_irrefl _)
 . exact absurd (Nat.lt_of_lt_of_le (Heap.lt_size (I.pin p hp).1) (by rw [z]; exact hb)) (Nat.lt_irrefl _)
structure Turn (P : Program) (w : World) (K : PySem.W.Frag) (tg : Expr) (J : It) (fp : List Addr) (it : Addr) (tn : Nat -> Heap -> Prop) : Prop where
 mem : it ∈ fp
 obj : ∀ i h, tn i h -> ∀ b ∈ fp, ∃ o, h.get? b = some o /\ ∀ v, o.data ≠ .cell v
 keep : ∀ i h h', tn i h -> (∀ b ∈ fp, ∀ o, h.get? b = some o -> h'.get? b = some o) -> tn i h'
 item : ∀ (X : Cx), X.prog = P -> X.w = w -> X.K = K -> X.calm = true -> ∀ (i : Nat) (pins : List (Addr × Obj)) (s : Shared) (σ : St) (H : Hp) (E : Value -> Shared -> Prop), Inv X pins σ H s -> (∀ b ∈ fp, A4u X pins H b) -> tn i s.heap -> J.go i H ->
   wpAny (model P w) X.A (pyNext (.ref it)) (fun r s1 => ∃ u, r = some u /\
     wpAny (model P w) X.A (letOwnedTupleGo tg (.ref it) u) (fun _ s2 => ∃ x H', Inv X pins σ H' s2 /\ RelV x u /\ J.yld i H x H' /\ tn (i + 1) s2.heap /\ ∀ b ∈ fp, H' b = none) E s1) E s
 done : ∀ (X : Cx), X.prog = P -> X.w = w -> X.K = K -> X.calm = true -> ∀ (i : Nat) (pins : List (Addr × Obj)) (s : Shared) (σ : St) (H : Hp) (E : Value -> Shared -> Prop), Inv X pins σ H s -> (∀ b ∈ fp, A4u X pins H b) -> tn i s.heap -> J.stop i H ->
   wpAny (model P w) X.A (pyNext (.ref it)) (fun r s1 => r = none /\ Inv X pins σ H s1) E s
 self : ∀ (A : Around) (i : Nat) (s : Shared) (Q : Value -> Shared -> Prop) (E : Value -> Shared -> Prop), tn i s.heap -> Q (.ref it) s -> wpAny (model P w) A (pyIter (.ref it)) Q E s
abbrev TI := St -> Hp -> (It -> Hp -> Prop) -> Prop
def PIE (X : Cx) (pins : List (Addr × Obj)) (σ : St) (tg : Expr) (R : It -> Hp -> Prop) (itv : Value) (s2 : Shared) : Prop :=
 ∃ (it : Addr) (fp : List Addr) (tn : Nat -> Heap -> Prop) (J : It) (H' : Hp), itv = .ref it /\ Inv X pins σ H' s2 /\ Turn X.prog X.w X.K tg J fp it tn /\ tn 0 s2.heap /\ (∀ b ∈ fp, A4u X pins H' b) /\ R J H'
def PI (X : Cx) (tg iter : Expr) (wi : TI) : Prop :=
 ∀ (pins : List (Addr × Obj)) (s : Shared) (σ : St) (H : Hp) (R : It -> Hp -> Prop), Inv X pins σ H s -> wi σ H R ->
   wpAny (model X.prog X.w) X.A (eval iter X.env) (fun v s1 => wpAny (model X.prog X.w) X.A (pyIter v) (PIE X pins σ tg R) X.xe s1) X.xe s
theorem U2z {M : Model} {A : Around} {E : Value -> Shared -> Prop} {s : Shared} {tg : Expr} {it : Addr} {u : Value} {o : Obj} {n : String} {vs : Array Value} {Q : Unit -> Shared -> Prop} (ho : s.heap.get? it = some o) (hc : o.cls = .type n) (hd : o.data = .fields vs)
   (hn : ["enumerate", "zip", "dict_itemiterator", "dict_reverseitemiterator", "odict_iterator", "itertools.zip_longest", "itertools.pairwise"].contains n = false) (hQ : Q () s) : wpAny M A (letOwnedTupleGo tg (.ref it) u) Q E s := by
 unfold letOwnedTupleGo
 cases tg <;> first
   | exact wpAny_pure hQ
   | (cases u <;> first
       | exact wpAny_pure hQ
       | (refine wpAny_bind (wpAny_load ho ?_)
          rw [hc, hd]
          show wpAny M A (if (["enumerate", "zip", "dict_itemiterator", "dict_reverseitemiterator", "odict_iterator", "itertools.zip_longest", "itertools.pairwise"].contains n && vs[0]? == some (rawInt _)) = true then _ else _) Q E s
          rw [if_neg (by intro h; rw [hn, Bool.false_and] at h; cases h)]
          exact wpAny_pure hQ))
def Itl (K : PySem.W.Frag) (a : Addr) : It :=
 ⟨fun i H => ∃ xs x, SqL K H a xs /\ xs[i]? = some x, fun i H x H' => H' = H /\ ∀ xs, SqL K H a xs -> xs[i]? = some x, fun i H => ∃ xs, SqL K H a xs /\ xs.length <= i⟩
def Itt (K : PySem.W.Frag) (a : Addr) : It :=
 ⟨fun i H => ∃ xs x, SqT K H a xs /\ xs[i]? = some x, fun i H x H' => H' = H /\ ∀ xs, SqT K H a xs -> xs[i]? = some x, fun i H => ∃ xs, SqT K H a xs /\ xs.length <= i⟩
def Itr (lo : Int) (n : Nat) : It := ⟨fun i _ => i < n, fun i H x H' => H' = H /\ x = .int (lo + i), fun i _ => n <= i⟩
theorem U4e {P : Program} {w : World} {K : PySem.W.Frag} {tg : Expr} (a it : Addr) : Turn P w K tg (Itl K a) [it] it (fun i h => h.IsListIter it a i) where
 mem := by simp
 obj := fun i h st b hb => by
   have e : b = it := by simpa using hb
   subst e
   obtain ⟨o, e, c, d⟩ := st
   exact ⟨o, e, fun v z => by rw [d] at z; cases z⟩
 keep := fun i h h' st k => st.at fun o e => k it (by simp) o e
 item := by
   intro X hP hw hK hc i pins s σ H E I hf st hg
   subst hP hw hK
   obtain ⟨xs, x, hq, hx⟩ := hg
   obtain ⟨its, rv, p, hz⟩ := I.list hq
   obtain ⟨u, hu, ru⟩ := rv.get hx
   obtain ⟨f0, f1, f2, f3, f4, f5⟩ := hf it (by simp)
   refine wpAny_pyNext_list_item st p.isList (x := u) (by simpa using hu) fun h' st' sb => ?_
   have I1 : Inv X pins σ H { s with heap := h' } := I.turned (t' := s.toks) (fun b o hb e => (sb.2 b hb).trans e) f0 f1 f3 f4 f5
   obtain ⟨o, e, c, d⟩ := id st'
   exact ⟨u, rfl, U2z (s := { s with heap := h' }) e c d (by decide) ⟨x, H, I1, ru, ⟨rfl, fun ys hy => by rw [I.list_inj hy hq]; exact hx⟩, st', fun b hb => (hf b hb).1⟩⟩
 done := by
   intro X hP hw hK hc i pins s σ H E I hf st hg
   subst hP hw hK
   obtain ⟨xs, hq, hx⟩ := hg
   obtain ⟨its, rv, p, hz⟩ := I.list hq
   obtain ⟨f0, f1, f2, f3, f4, f5⟩ := hf it (by simp)
   have hl := rv.length
   exact wpAny_pyNext_list_end (I.ok.hd hc) st p.isList (by simp; omega) fun h' eb => ⟨rfl, I.turned (t' := s.toks) (fun b o hb e => eb b o hb e) f0 f1 f3 f4 f5⟩
 self := fun _ _ _ _ _ st h => wpAny_pyIter_listiter st h
theorem J0p {P : Program} {w : World} {K : PySem.W.Frag} {tg : Expr} (it : Addr) (lo : Int) (n : Nat) : Turn P w K tg (Itr lo n) [it] it (fun i h => IsRangeIter h it (lo + (i : Nat) * 1) ((n : Int) - (i : Nat)) 1) where
 mem := by simp
 obj := fun i h st b hb => by
   have e : b = it := by simpa using hb
   subst e
   exact ⟨_, st, fun v z => by
     have z' : Data.fields _ = Data.cell v := z
     cases z'⟩
 keep := fun i h h' st k => k it (by simp) _ st
 item := by
   intro X hP hw hK hc i pins s σ H E I hf st hg
   subst hP hw hK
   obtain ⟨f0, f1, f2, f3, f4, f5⟩ := hf it (by simp)
   have W := Walks.range (prog := X.prog) (w := X.w) (I.ok.hd hc) it lo 1 n
   refine W.item i s _ _ hg st fun v h' tk hv st' kk => ?_
   obtain ⟨t, rfl⟩ := hv
   have I1 : Inv X pins σ H { s with heap := h', toks := tk } := I.turned (fun b o hb e => kk b o (by simpa using hb) e) f0 f1 f3 f4 f5
   refine ⟨_, rfl, U2z (s := { s with heap := h', toks := tk }) (n := "range_iterator") st' rfl rfl (by decide) ⟨.int (lo + i), H, I1, ⟨t, ?_⟩, ⟨rfl, rfl⟩, st', fun b hb => (hf b hb).1⟩⟩
   rw [Int.mul_one]
 done := by
   intro X hP hw hK hc i pins s σ H E I hf st hg
   subst hP hw hK
   obtain ⟨f0, f1, f2, f3, f4, f5⟩ := hf it (by simp)
   exact wpAny_pyNext_range_end (I.ok.hd hc) st (by have : n <= i := hg; omega) fun h' eb => ⟨rfl, I.turned (t' := s.toks) (fun b o hb e => eb b o hb e) f0 f1 f3 f4 f5⟩
 self := fun _ _ _ _ _ st h => wpAny_pyIter_rangeiter st h
section
variable {X : Cx} {tg : Expr}
def U1y (K : PySem.W.Frag) (tl : TE) : TI := fun σ H R => tl σ H fun x H1 => ∃ a, x = .ref a /\ (∃ xs, SqL K H1 a xs) /\ R (Itl K a) H1
def Z9c (K : PySem.W.Frag) (tl : TE) : TI := fun σ H R => tl σ H fun x H1 => ∃ a, x = .ref a /\ (∃ xs, SqT K H1 a xs) /\ R (Itt K a) H1
theorem U2f {l : Expr} {tl : TE} (hl : PE X l tl) : PI X tg l (U1y X.K tl) := by
 intro pins s σ H R I h
 refine thn (hl pins s σ H _ I h) fun v s1 ⟨x, H1, I1, r1, q1⟩ => ?_
 obtain ⟨a, e, ⟨xs, hq⟩, q⟩ := q1
 subst e
 cases r1
 obtain ⟨its, rv, p, hz⟩ := I1.list hq
 refine wpAny_pyIter_list p.isList ?_
 refine ⟨s1.heap.objs.size, [s1.heap.objs.size], _, _, H1, rfl, I1.kept (t' := s1.toks) fun b o e => Heap.get?_push_of_some _ e, U4e a _, ⟨_, Heap.get?_push_size _ rfl, rfl, rfl⟩, fun b hb => ?_, q⟩
 have e : b = s1.heap.objs.size := by simpa using hb
 subst e
 exact I1.fpOk (Nat.le_refl _) (I1.hok.fresh (Nat.le_refl _))
theorem V0v {pins : List (Addr × Obj)} {σ : St} {H : Hp} {s : Shared} {R : It -> Hp -> Prop} {E : Value -> Shared -> Prop} {lo hi : Int} {t u v : Tok} {tk : Nat} (I : Inv X pins σ H s) (h1 : -(2 ^ 62) <= lo) (h2 : lo < 2 ^ 62) (h3 : -(2 ^ 62) <= hi) (h4 : hi < 2 ^ 62)
   (q : R (Itr lo (hi - lo).toNat) H) : wpAny (model X.prog X.w) X.A (pyIter (.ref s.heap.objs.size)) (PIE X pins σ tg R) E { s with heap := s.heap.push { cls := .type "range", data := .fields #[.int lo t, .int hi u, .int 1 v] }, toks := tk } := by
 refine wpAny_pyIter_range (IsRange.new ..) (small_one h1 h2 h3 h4) ?_
 have I1 : Inv X pins σ H { s with heap := s.heap.push { cls := .type "range", data := .fields #[.int lo t, .int hi u, .int 1 v] }, toks := tk } := I.kept fun b o e => Heap.get?_push_of_some _ e
 refine ⟨(s.heap.push { cls := .type "range", data := .fields #[.int lo t, .int hi u, .int 1 v] }).objs.size, [(s.heap.push { cls := .type "range", data := .fields #[.int lo t, .int hi u, .int 1 v] }).objs.size], _, _, H, rfl,
   I1.kept (t' := tk) fun b o e => Heap.get?_push_of_some _ e, J0p _ lo (hi - lo).toNat, ?_, fun b hb => ?_, q⟩
 . have e1 : lo + ((0 : Nat) : Int) * 1 = lo := by simp
   have e2 : (((hi - lo).toNat : Nat) : Int) - ((0 : Nat) : Int) = Builtin.Range.rangeSize lo hi 1 := by rw [rangeSize_one]; split <;> omega
   show IsRangeIter _ _ (lo + ((0 : Nat) : Int) * 1) ((((hi - lo).toNat : Nat) : Int) - ((0 : Nat) : Int)) 1
   rw [e1, e2]
   exact Heap.get?_push_size _ rfl
 . have e : b = (s.heap.push { cls := .type "range", data := .fields #[.int lo t, .int hi u, .int 1 v] }).objs.size := by simpa using hb
   subst e
   exact I1.fpOk (Nat.le_refl _) (I1.hok.fresh (Nat.le_refl _))
def Z8f (ta : TA) : TI := fun σ H R => ta σ H fun vs H1 => ∃ j : Int, vs = [.int j] /\ -(2 ^ 62) <= j /\ j < 2 ^ 62 /\ R (Itr 0 j.toNat) H1
theorem B2p {a : Expr} {ta : TA} {p pos : Pos} (hg : Gl X "range") (hm : X.mg "range" = none) (ha : PA X [a] ta) (hs : starEach [a] X.env = [(false, eval a X.env)] := by rfl) : PI X tg (.Call (.Name "range" p) [a] [] pos) (Z8f ta) := by
 intro pins s σ H R I h
 refine Call_ (D5h I hg hm boot_range (PyProof.Rows.callWith_type1 (thn (ha pos pins s σ H _ I h) fun us s1 ⟨vs, H1, I1, r1, q1⟩ => ?_) hs rfl))
 obtain ⟨j, e, q1, q2, q⟩ := q1
 subst e
 cases r1 with
 | cons r rr =>
   cases rr
   obtain ⟨t, rfl⟩ := r
   exact call_range_1 (V0v I1 (by omega) (by omega) q1 q2 (by simpa using q))
def tFor (wi : TI) (g : TG) (tb : TS) : TS := fun D σ H => wi σ H fun J H1 => ∃ W : Nat -> Nat -> St -> Hp -> Prop, (∃ m, W 0 m σ H1) /\ ∀ i m σ H, W i m σ H ->
 (J.stop i H /\ D.nx σ H) \/ (J.go i H /\ ∃ N : St -> Hp -> Prop, (∀ σ' H', N σ' H' -> ∃ m', m' < m /\ W (i + 1) m' σ' H') /\ ∀ x H', J.yld i H x H' -> g x σ H' fun σ2 H2 => tb { D with nx := N, ct := N, bk := D.nx } σ2 H2)
def A4j (fp : List Addr) (h : Heap) : List (Addr × Obj) := fp.filterMap fun b => (h.get? b).map fun o => (b, o)
theorem A5k {fp : List Addr} {h : Heap} {b : Addr} {o : Obj} (hb : b ∈ fp) (e : h.get? b = some o) : (b, o) ∈ A4j fp h := List.mem_filterMap.mpr ⟨b, hb, by rw [e]; rfl⟩
theorem U4u {fp : List Addr} {h : Heap} {p : Addr × Obj} (hp : p ∈ A4j fp h) : p.1 ∈ fp /\ h.get? p.1 = some p.2 := by
 obtain ⟨b, hb, e⟩ := List.mem_filterMap.mp hp
 cases q : h.get? b with
 | none => rw [q] at e; cases e
 | some o =>
   rw [q] at e
   have e' : (b, o) = p := Option.some.inj e
   subst e'
   exact ⟨hb, q⟩
theorem Inv.pinned {pins : List (Addr × Obj)} {σ : St} {H : Hp} {s : Shared} {fp : List Addr} (I : Inv X pins σ H s) (hf : ∀ b ∈ fp, A4u X pins H b) (ho : ∀ b ∈ fp, ∃ o, s.heap.get? b = some o /\ ∀ v, o.data ≠ .cell v) : Inv X (pins ++ A4j fp s.heap) σ H s :=
 I.pins_of fun p hp => (List.mem_append.mp hp).elim (fun z => I.pin p (List.mem_append_right _ z)) fun z => by
   obtain ⟨hb, e⟩ := U4u z
   obtain ⟨f0, f1, f2, _⟩ := hf p.1 hb
   obtain ⟨o, e', d⟩ := ho p.1 hb
   rw [e] at e'; cases e'
   exact ⟨e, f0, f1, f2, d⟩
theorem Inv.unpinned {pins pl : List (Addr × Obj)} {σ : St} {H : Hp} {s : Shared} (I : Inv X (pins ++ pl) σ H s) : Inv X pins σ H s := I.pins_of fun p hp => I.pin p (List.mem_append_right _ (List.mem_append_left _ hp))
theorem D4u {iter : Expr} {body : List Stmt} {wi : TI} {g : TG} {tb : TS} {pos : Pos} (hp : PassesOwn (model X.prog X.w) X.A X.env X.xe) (hc : X.calm = true) (hi : PI X tg iter wi) (hg : PG X tg g) (hb : PSs X body tb)
   (hs : ∀ x, foldedSetIterable iter X.env x = pure x := by intro _; rfl) : PS X (.For tg iter body [] pos) (tFor wi g tb) := by
 intro pins s σ H D I h
 refine wpAny_For (thn (hi pins s σ H _ I h) fun v s1 h1 => thn h1 fun itv s2 h2 => ?_) hs
 obtain ⟨it, fp, tn, J, H2, e, I2, T, st2, f2, W, ⟨m0, w0⟩, turn⟩ := h2
 subst e
 have stat : ∀ {H' : Hp}, (∀ b ∈ fp, H' b = none) -> ∀ b ∈ fp, A4u X pins H' b := fun hn b hb => ⟨hn b hb, (f2 b hb).2⟩
 refine codeAny_forLoop_any (fun n s' => ∃ i σ' H', Inv X pins σ' H' s' /\ tn i s'.heap /\ (∀ b ∈ fp, H' b = none) /\ W i n σ' H') ?_ m0 ⟨0, σ, H2, I2, st2, fun b hb => (f2 b hb).1, w0⟩
 rintro n s3 ⟨i, σ3, H3, I3, st3, fr3, w3⟩
 rcases turn i n σ3 H3 w3 with ⟨stop, qn⟩ | ⟨go, N, hN, step⟩
 . refine wpAny_passesOwn hp (thn (T.done X rfl rfl rfl hc i pins s3 σ3 H3 X.xe I3 (stat fr3) st3 stop) fun r s4 ⟨hr, I4⟩ => ?_)
   subst hr
   exact wpAny_execs_nil ⟨σ3, H3, I4, qn⟩
 . refine wpAny_passesOwn hp (thn (T.item X rfl rfl rfl hc i pins s3 σ3 H3 X.xe I3 (stat fr3) st3 go) fun r s4 ⟨u, hr, h4⟩ => ?_)
   subst hr
   refine wpAny_passesOwn hp (thn h4 fun _ s5 ⟨x, H5, I5, r5, y5, st5, fr5⟩ => ?_)
   have I5' := I5.pinned (stat fr5) (T.obj _ _ st5)
   refine wpAny_passesOwn hp (thn (hg _ s5 σ3 H5 x u _ I5' r5 (step x H5 y5)) fun _ s6 ⟨σ6, H6, I6, q6⟩ => ?_)
   refine wpAny_passesOwn hp (thn (hb _ s6 σ6 H6 _ I6 q6) fun f s7 q7 => ?_)
   have again : ∀ {σ7 : St} {H7 : Hp}, Inv X (pins ++ A4j fp s5.heap) σ7 H7 s7 -> N σ7 H7 -> ∃ m, m < n /\ ∃ i σ' H', Inv X pins σ' H' s7 /\ tn i s7.heap /\ (∀ b ∈ fp, H' b = none) /\ W i m σ' H' := fun {σ7 H7} I7 n7 => by
     obtain ⟨m', hm, w7⟩ := hN σ7 H7 n7
     refine ⟨m', hm, i + 1, σ7, H7, I7.unpinned, T.keep _ _ _ st5 fun b hb o e => (I7.pin (b, o) (List.mem_append_right _ (List.mem_append_right _ (A5k hb e)))).1, fun b hb => ?_, w7⟩
     obtain ⟨o, e, d⟩ := T.obj _ _ st5 b hb
     exact (I7.pin (b, o) (List.mem_append_right _ (List.mem_append_right _ (A5k hb e)))).2.1
   cases f with
   | next => obtain ⟨σ7, H7, I7, n7⟩ := q7; exact again I7 n7
   | cont => obtain ⟨σ7, H7, I7, n7⟩ := q7; exact again I7 n7
   | brk => obtain ⟨σ7, H7, I7, q7⟩ := q7; exact ⟨σ7, H7, I7.unpinned, q7⟩
   | ret v => obtain ⟨x7, σ7, H7, I7, r7, q7⟩ := q7; exact ⟨x7, σ7, H7, I7.unpinned, r7, q7⟩
end
theorem C3j {K : PySem.W.Frag} {a : Addr} {xs : List V} {g : TG} {tb : TS} {D : Ends} {σ : St} {H : Hp} (Pv : Nat -> St -> Hp -> Prop) (h0 : Pv 0 σ H) (hl : ∀ i σ H, i <= xs.length -> Pv i σ H -> SqL K H a xs)
   (hs : ∀ i x σ H, xs[i]? = some x -> Pv i σ H -> g x σ H fun σ2 H2 => tb { D with nx := Pv (i + 1), ct := Pv (i + 1), bk := D.nx } σ2 H2) (hd : ∀ σ H, Pv xs.length σ H -> D.nx σ H) :
   ∃ W : Nat -> Nat -> St -> Hp -> Prop, (∃ m, W 0 m σ H) /\ ∀ i m σ H, W i m σ H ->
     ((Itl K a).stop i H /\ D.nx σ H) \/ ((Itl K a).go i H /\ ∃ N : St -> Hp -> Prop, (∀ σ' H', N σ' H' -> ∃ m', m' < m /\ W (i + 1) m' σ' H') /\ ∀ x H', (Itl K a).yld i H x H' -> g x σ H' fun σ2 H2 => tb { D with nx := N, ct := N, bk := D.nx } σ2 H2) := by
 refine ⟨fun i m σ H => m = xs.length - i /\ i <= xs.length /\ Pv i σ H, ⟨xs.length, by simp, Nat.zero_le _, h0⟩, ?_⟩
 rintro i m σ H ⟨rfl, hi, p⟩
 have q := hl i σ H hi p
 by_cases hlt : i < xs.length
 . refine .inr ⟨⟨xs, xs[i], q, by simp [hlt]⟩, Pv (i + 1), fun σ' H' p' => ⟨xs.length - (i + 1), by omega, rfl, hlt, p'⟩, fun x H' y => ?_⟩
   obtain ⟨e, y⟩ := y
   subst e
   exact hs i x σ _ (y xs q) p
 . have e : i = xs.length := by omega
   subst e
   exact .inl ⟨⟨xs, q, Nat.le_refl _⟩, hd σ H p⟩
theorem B7h {lo : Int} {n : Nat} {g : TG} {tb : TS} {D : Ends} {σ : St} {H : Hp} (Pv : Nat -> St -> Hp -> Prop) (h0 : Pv 0 σ H)
   (hs : ∀ i σ H, i < n -> Pv i σ H -> g (.int (lo + i)) σ H fun σ2 H2 => tb { D with nx := Pv (i + 1), ct := Pv (i + 1), bk := D.nx } σ2 H2) (hd : ∀ σ H, Pv n σ H -> D.nx σ H) :
   ∃ W : Nat -> Nat -> St -> Hp -> Prop, (∃ m, W 0 m σ H) /\ ∀ i m σ H, W i m σ H ->
     ((Itr lo n).stop i H /\ D.nx σ H) \/ ((Itr lo n).go i H /\ ∃ N : St -> Hp -> Prop, (∀ σ' H', N σ' H' -> ∃ m', m' < m /\ W (i + 1) m' σ' H') /\ ∀ x H', (Itr lo n).yld i H x H' -> g x σ H' fun σ2 H2 => tb { D with nx := N, ct := N, bk := D.nx } σ2 H2) := by
 refine ⟨fun i m σ H => m = n - i /\ i <= n /\ Pv i σ H, ⟨n, by simp, Nat.zero_le _, h0⟩, ?_⟩
 rintro i m σ H ⟨rfl, hi, p⟩
 by_cases hlt : i < n
 . refine .inr ⟨hlt, Pv (i + 1), fun σ' H' p' => ⟨n - (i + 1), by omega, rfl, hlt, p'⟩, fun x H' y => ?_⟩
   obtain ⟨e, y⟩ := y
   subst e y
   exact hs i σ _ hlt p
 . have e : i = n := by omega
   subst e
   exact .inl ⟨Nat.le_refl _, hd σ H p⟩
theorem B6j {c : TT} {tb : TS} {D : Ends} {σ : St} {H : Hp} (Pv : St -> Hp -> Prop) (μ : St -> Hp -> Nat) (h0 : Pv σ H)
   (hs : ∀ σ H, Pv σ H -> c σ H fun b H1 => if b = true then tb { D with nx := fun σ' H' => Pv σ' H' /\ μ σ' H' < μ σ H, ct := fun σ' H' => Pv σ' H' /\ μ σ' H' < μ σ H, bk := D.nx } σ H1 else D.nx σ H1)
   (mono : ∀ σ H Q Q', (∀ b H1, Q b H1 -> Q' b H1) -> c σ H Q -> c σ H Q') : V1h c tb D σ H := by
 refine ⟨fun m σ H => m = μ σ H /\ Pv σ H, ⟨_, rfl, h0⟩, ?_⟩
 rintro m σ H ⟨rfl, p⟩
 refine mono σ H _ _ (fun b H1 q => ?_) (hs σ H p)
 cases b with
 | true => exact ⟨_, fun σ' H' ⟨p', l⟩ => ⟨_, l, rfl, p'⟩, q⟩
 | false => exact q
abbrev R2 := V -> V -> Hp -> VK -> Prop
def OpR (X : Cx) (f : Value -> Value -> Sem Value) (r : R2) : Prop :=
 ∀ (pins : List (Addr × Obj)) (s : Shared) (σ : St) (H : Hp) (x y : V) (v u : Value) (Q : VK), Inv X pins σ H s -> RelV x v -> RelV y u -> r x y H Q ->
   wpAny (model X.prog X.w) X.A (f v u) (EP X pins σ Q) X.xe s
def UnR (X : Cx) (f : Value -> Sem Value) (r : V -> Hp -> VK -> Prop) : Prop :=
 ∀ (pins : List (Addr × Obj)) (s : Shared) (σ : St) (H : Hp) (x : V) (v : Value) (Q : VK), Inv X pins σ H s -> RelV x v -> r x H Q ->
   wpAny (model X.prog X.w) X.A (f v) (EP X pins σ Q) X.xe s
def A4y (X : Cx) (f : Value) (r : List V -> Hp -> VK -> Prop) : Prop :=
 ∀ (pins : List (Addr × Obj)) (s : Shared) (σ : St) (H : Hp) (xs : List V) (us : List Value) (Q : VK), Inv X pins σ H s -> Vals xs us -> r xs H Q ->
   wpAny (model X.prog X.w) X.A (call f us) (EP X pins σ Q) X.xe s
def tOp (r : R2) (ta tb : TE) : TE := fun σ H Q => ta σ H fun x H1 => tb σ H1 fun y H2 => r x y H2 Q
def tUn (r : V -> Hp -> VK -> Prop) (ta : TE) : TE := fun σ H Q => ta σ H fun x H1 => r x H1 Q
def rI (C : Int -> Int -> Prop) (g : Int -> Int -> V) : R2 := fun x y H Q => ∃ i j, x = .int i /\ y = .int j /\ C i j /\ Q (g i j) H
def rI0 (g : Int -> Int -> V) : R2 := fun x y H Q => ∃ i j, x = .int i /\ y = .int j /\ Q (g i j) H
def rU (g : Int -> V) : V -> Hp -> VK -> Prop := fun x H Q => ∃ i, x = .int i /\ Q (g i) H
section
variable {X : Cx} {a b c : Expr} {ta tb tc : TE} {pos : Pos}
theorem Z4c (ha : PE X a ta) (hb : PE X b tb) {pins : List (Addr × Obj)} {s : Shared} {σ : St} {H : Hp} {R : V -> V -> Hp -> Prop} (I : Inv X pins σ H s)
   (h : ta σ H fun x H1 => tb σ H1 fun y H2 => R x y H2) {Q : Value -> Shared -> Prop} {f : Value -> Value -> Sem Value}
   (hf : ∀ v u s2 x y H2, Inv X pins σ H2 s2 -> RelV x v -> RelV y u -> R x y H2 -> wpAny (model X.prog X.w) X.A (f v u) Q X.xe s2) :
   wpAny (model X.prog X.w) X.A (eval a X.env) (fun v s₁ => wpAny (model X.prog X.w) X.A (eval b X.env) (fun u s₂ => wpAny (model X.prog X.w) X.A (f v u) Q X.xe s₂) X.xe s₁) X.xe s := by
 refine thn (ha pins s σ H _ I h) fun v s1 ⟨x, H1, I1, r1, q1⟩ => ?_
 refine thn (hb pins s1 σ H1 _ I1 q1) fun u s2 ⟨y, H2, I2, r2, q2⟩ => ?_
 exact hf v u s2 x y H2 I2 r1 r2 q2
theorem B3 {op : Operator} {r : R2} (ho : OpR X (binaryOp op) r) (ha : PE X a ta) (hb : PE X b tb) : PE X (.BinOp a op b pos) (tOp r ta tb) := by
 intro pins s σ H Q I h
 exact wpAny_BinOp (Z4c ha hb I h fun v u s2 x y H2 I2 rx ry q => ho pins s2 σ H2 x y v u Q I2 rx ry q)
theorem D2h {op : UnaryOp} {r : V -> Hp -> VK -> Prop} (ho : UnR X (unaryOp op) r) (ha : PE X a ta) : PE X (.UnaryOp op a pos) (tUn r ta) := by
 intro pins s σ H Q I h
 exact UnaryOp_ (thn (ha pins s σ H _ I h) fun v s1 ⟨x, H1, I1, r1, q1⟩ => ho pins s1 σ H1 x v Q I1 r1 q1)
theorem opI {f : Value -> Value -> Sem Value} {C : Int -> Int -> Prop} {g : Int -> Int -> Int}
   (rule : ∀ (i j : Int) (t u : Tok) (s : Shared) (Q : Value -> Shared -> Prop) (E : Value -> Shared -> Prop), C i j -> Q (.int (g i j) s.toks) { s with toks := s.toks + 1 } -> wpAny (model X.prog X.w) X.A (f (.int i t) (.int j u)) Q E s) :
   OpR X f (rI C fun i j => .int (g i j)) := by
 intro pins s σ H x y v u Q I rx ry h
 obtain ⟨i, j, rfl, rfl, hc, q⟩ := h
 obtain ⟨t, rfl⟩ := rx
 obtain ⟨t', rfl⟩ := ry
 exact rule i j t t' s _ _ hc ⟨.int (g i j), H, I.tok _, ⟨_, rfl⟩, q⟩
theorem Z8v {f : Value -> Value -> Sem Value} {g : Int -> Int -> Int}
   (rule : ∀ (i j : Int) (t u : Tok) (s : Shared) (Q : Value -> Shared -> Prop) (E : Value -> Shared -> Prop), Q (.int (g i j) s.toks) { s with toks := s.toks + 1 } -> wpAny (model X.prog X.w) X.A (f (.int i t) (.int j u)) Q E s) :
   OpR X f (rI0 fun i j => .int (g i j)) := by
 intro pins s σ H x y v u Q I rx ry h
 obtain ⟨i, j, rfl, rfl, q⟩ := h
 obtain ⟨t, rfl⟩ := rx
 obtain ⟨t', rfl⟩ := ry
 exact rule i j t t' s _ _ ⟨.int (g i j), H, I.tok _, ⟨_, rfl⟩, q⟩
theorem Y8x {f : Value -> Value -> Sem Value} {g : Int -> Int -> Bool}
   (rule : ∀ (i j : Int) (t u : Tok) (s : Shared) (Q : Value -> Shared -> Prop) (E : Value -> Shared -> Prop), Q (.bool (g i j)) s -> wpAny (model X.prog X.w) X.A (f (.int i t) (.int j u)) Q E s) :
   OpR X f (rI0 fun i j => .bl (g i j)) := by
 intro pins s σ H x y v u Q I rx ry h
 obtain ⟨i, j, rfl, rfl, q⟩ := h
 obtain ⟨t, rfl⟩ := rx
 obtain ⟨t', rfl⟩ := ry
 exact rule i j t t' s _ _ ⟨.bl (g i j), H, I, rfl, q⟩
def Y9j (i j : Int) : Prop := 0 <= j /\ j <= 1000000 /\ i.natAbs < 2 ^ 64
def CMul (i j : Int) : Prop := (-(2 ^ 64) < i /\ i < 2 ^ 64) \/ (-(2 ^ 64) < j /\ j < 2 ^ 64)
theorem CMul.ok {i j : Int} (h : CMul i j) : IntMulOk i j := by
 rcases h with ⟨h1, h2⟩ | ⟨h1, h2⟩
 . exact .of_left (intBits_le_64 h1 h2)
 . exact .of_right (intBits_le_64 h1 h2)
theorem U3 : OpR X (binaryOp .Add) (rI0 fun i j => .int (i + j)) := Z8v fun _ _ _ _ _ _ _ q => add_int q
theorem U1 : OpR X (binaryOp .Sub) (rI0 fun i j => .int (i - j)) := Z8v fun _ _ _ _ _ _ _ q => sub_int q
theorem D8 : OpR X (binaryOp .Mod) (rI (fun _ j => 0 < j) fun i j => .int (i % j)) := opI fun i j _ _ _ _ _ hc q => by
 have h1 : (0 : Int) < j := hc
 exact mod_int' (by omega) (by rw [Int.fmod_eq_emod_of_nonneg i (by omega)]; exact q)
theorem V0w : OpR X (binaryOp .Pow) (rI Y9j fun i j => .int (i ^ j.toNat)) := opI fun _ _ _ _ _ _ _ hc q => pow_int_small hc.1 hc.2.1 hc.2.2 q
theorem V2t : OpR X (binaryOp .LShift) (rI Y9j fun i j => .int (i * 2 ^ j.toNat)) := opI fun _ _ _ _ _ _ _ hc q => lshift_int_small hc.1 hc.2.1 hc.2.2 q
theorem unI {f : Value -> Sem Value} {g : Int -> Int}
   (rule : ∀ (i : Int) (t : Tok) (s : Shared) (Q : Value -> Shared -> Prop) (E : Value -> Shared -> Prop), Q (.int (g i) s.toks) { s with toks := s.toks + 1 } -> wpAny (model X.prog X.w) X.A (f (.int i t)) Q E s) :
   UnR X f (rU fun i => .int (g i)) := by
 intro pins s σ H x v Q I rx h
 obtain ⟨i, rfl, q⟩ := h
 obtain ⟨t, rfl⟩ := rx
 exact rule i t s _ _ ⟨.int (g i), H, I.tok _, ⟨_, rfl⟩, q⟩
theorem B7p : UnR X (unaryOp .USub) (rU fun i => .int (-i)) := unI fun _ _ _ _ _ q => neg_int q
end
def Z7q : V -> V -> Bool
 | .non, .non => true | .non, .int _ => true | .int _, .non => true | .non, .bl _ => true | .bl _, .non => true | .non, .str _ => true | .str _, .non => true
 | .int _, .int _ => true | .bl _, .bl _ => true | .str _, .str _ => true | .byt _, .byt _ => true
 | .int _, .str _ => true | .str _, .int _ => true | .bl _, .str _ => true | .str _, .bl _ => true
 | _, _ => false
def rEq : R2 := fun x y H Q => Z7q x y = true /\ Q (.bl (decide (x = y))) H
def rNe : R2 := fun x y H Q => Z7q x y = true /\ Q (.bl (!decide (x = y))) H
theorem U2q {i j : Int} : decide (V.int i = V.int j) = (i == j) := by
 rw [Bool.eq_iff_iff]
 simp
theorem V4e {i j : Bool} : decide (V.bl i = V.bl j) = (i == j) := by
 rw [Bool.eq_iff_iff]
 simp
theorem U3f {i j : Str} : decide (V.str i = V.str j) = (i == j) := by
 rw [Bool.eq_iff_iff]
 simp
theorem U2v {i j : Array UInt8} : decide (V.byt i = V.byt j) = (i.toList == j.toList) := by
 rw [Bool.eq_iff_iff]
 cases i
 cases j
 simp
section
variable {X : Cx} {a b c : Expr} {ta tb tc : TE} {pos : Pos}
theorem J1 {pins : List (Addr × Obj)} {σ : St} {H : Hp} {s : Shared} {Q : VK} {k k' : Bool} (I : Inv X pins σ H s) (q : Q (.bl k) H) (e : k = k') : EP X pins σ Q (.bool k') s := by
 subst e
 exact ⟨.bl k, H, I, rfl, q⟩
theorem D5 : OpR X (compareOp .Eq) rEq := by
 intro pins s σ H x y v u Q I rx ry h
 obtain ⟨hs, q⟩ := h
 cases x with
 | non =>
   cases rx
   cases y with
   | non => cases ry; exact PySem.EqNone.eq_none_none (J1 I q (by simp))
   | bl j => cases ry; exact PySem.EqNone.eq_none_bool (J1 I q (by simp))
   | int j => obtain ⟨t', rfl⟩ := ry; exact PySem.EqNone.eq_none_int (J1 I q (by simp))
   | str j => obtain ⟨t', rfl⟩ := ry; exact PySem.EqNone.eq_none_str (J1 I q (by simp))
   | _ => exact absurd (show false = true from hs) Bool.false_ne_true
 | bl i =>
   cases rx
   cases y with
   | non => cases ry; exact PySem.EqNone.eq_bool_none (J1 I q (by simp))
   | bl j => cases ry; exact eq_bool (J1 I q V4e)
   | str j => obtain ⟨t', rfl⟩ := ry; exact PySem.EqMixed.eq_bool_str (J1 I q (by simp))
   | _ => exact absurd (show false = true from hs) Bool.false_ne_true
 | int i =>
   obtain ⟨t, rfl⟩ := rx
   cases y with
   | non => cases ry; exact PySem.EqNone.eq_int_none (J1 I q (by simp))
   | int j => obtain ⟨t', rfl⟩ := ry; exact eq_int (J1 I q U2q)
   | str j => obtain ⟨t', rfl⟩ := ry; exact PySem.EqMixed.eq_int_str (J1 I q (by simp))
   | _ => exact absurd (show false = true from hs) Bool.false_ne_true
 | str i =>
   obtain ⟨t, rfl⟩ := rx
   cases y with
   | non => cases ry; exact PySem.EqNone.eq_str_none (J1 I q (by simp))
   | bl j => cases ry; exact PySem.EqMixed.eq_str_bool (J1 I q (by simp))
   | int j => obtain ⟨t', rfl⟩ := ry; exact PySem.EqMixed.eq_str_int (J1 I q (by simp))
   | str j => obtain ⟨t', rfl⟩ := ry; exact eq_str (J1 I q U3f)
   | _ => exact absurd (show false = true from hs) Bool.false_ne_true
 | byt i =>
   obtain ⟨t, rfl⟩ := rx
   cases y with
   | byt j => obtain ⟨t', rfl⟩ := ry; exact PySem.W.eq_bytes (J1 I q U2v)
   | _ => exact absurd (show false = true from hs) Bool.false_ne_true
 | _ => cases y <;> exact absurd (show false = true from hs) Bool.false_ne_true
theorem C2d : OpR X (compareOp .NotEq) rNe := by
 intro pins s σ H x y v u Q I rx ry h
 obtain ⟨hs, q⟩ := h
 cases x with
 | non =>
   cases rx
   cases y with
   | non => cases ry; exact PySem.EqNone.ne_none_none (J1 I q (by simp))
   | bl j => cases ry; exact PySem.EqNone.ne_none_bool (J1 I q (by simp))
   | int j => obtain ⟨t', rfl⟩ := ry; exact PySem.EqNone.ne_none_int (J1 I q (by simp))
   | str j => obtain ⟨t', rfl⟩ := ry; exact PySem.EqNone.ne_none_str (J1 I q (by simp))
   | _ => exact absurd (show false = true from hs) Bool.false_ne_true
 | bl i =>
   cases rx
   cases y with
   | non => cases ry; exact PySem.EqNone.ne_bool_none (J1 I q (by simp))
   | bl j => cases ry; exact ne_bool (J1 I q (congrArg not V4e))
   | str j => obtain ⟨t', rfl⟩ := ry; exact PySem.EqMixed.ne_bool_str (J1 I q (by simp))
   | _ => exact absurd (show false = true from hs) Bool.false_ne_true
 | int i =>
   obtain ⟨t, rfl⟩ := rx
   cases y with
   | non => cases ry; exact PySem.EqNone.ne_int_none (J1 I q (by simp))
   | int j => obtain ⟨t', rfl⟩ := ry; exact ne_int (J1 I q (congrArg not U2q))
   | str j => obtain ⟨t', rfl⟩ := ry; exact PySem.EqMixed.ne_int_str (J1 I q (by simp))
   | _ => exact absurd (show false = true from hs) Bool.false_ne_true
 | str i =>
   obtain ⟨t, rfl⟩ := rx
   cases y with
   | non => cases ry; exact PySem.EqNone.ne_str_none (J1 I q (by simp))
   | bl j => cases ry; exact PySem.EqMixed.ne_str_bool (J1 I q (by simp))
   | int j => obtain ⟨t', rfl⟩ := ry; exact PySem.EqMixed.ne_str_int (J1 I q (by simp))
   | str j => obtain ⟨t', rfl⟩ := ry; exact ne_str (J1 I q (congrArg not U3f))
   | _ => exact absurd (show false = true from hs) Bool.false_ne_true
 | byt i =>
   obtain ⟨t, rfl⟩ := rx
   cases y with
   | byt j => obtain ⟨t', rfl⟩ := ry; exact PySem.W.ne_bytes (J1 I q (congrArg not U2v))
   | _ => exact absurd (show false = true from hs) Bool.false_ne_true
 | _ => cases y <;> exact absurd (show false = true from hs) Bool.false_ne_true
theorem D3h : OpR X (compareOp .Lt) (rI0 fun i j => .bl (decide (i < j))) := Y8x fun _ _ _ _ _ _ _ q => lt_int q
theorem Z1s : OpR X (compareOp .LtE) (rI0 fun i j => .bl (decide (i <= j))) := Y8x fun _ _ _ _ _ _ _ q => le_int q
theorem B3h : OpR X (compareOp .Gt) (rI0 fun i j => .bl (decide (j < i))) := Y8x fun _ _ _ _ _ _ _ q => gt_int q
theorem G5h : OpR X (compareOp .GtE) (rI0 fun i j => .bl (decide (j <= i))) := Y8x fun _ _ _ _ _ _ _ q => ge_int q
theorem Z2s : OpR X (compareOp .Is) (fun x y H Q => y = .non /\ Q (.bl (decide (x = .non))) H) := by
 intro pins s σ H x y v u Q I rx ry h
 obtain ⟨rfl, q⟩ := h
 cases ry
 refine is_none_gen (J1 I q ?_)
 cases x <;> first
   | (cases rx; rfl)
   | (obtain ⟨t, rfl⟩ := rx; rfl)
theorem B9 (b : Expr) {op : CmpOp} (h : op ≠ .In := by decide) (h2 : op ≠ .NotIn := by decide) : behindInMarks op b = false := by
 have e1 : (op == CmpOp.In) = false := by cases op <;> first | rfl | exact absurd rfl h
 have e2 : (op == CmpOp.NotIn) = false := by cases op <;> first | rfl | exact absurd rfl h2
 cases b <;> simp [behindInMarks, e1, e2]
theorem D9 {op : CmpOp} {r : R2} (ho : OpR X (compareOp op) r) (ha : PE X a ta) (hb : PE X b tb) (hm : behindInMarks op b = false) : PE X (.Compare a [op] [b] pos) (tOp r ta tb) := by
 intro pins s σ H Q I h
 exact wpAny_Compare1 (Z4c ha hb I h fun v u s2 x y H2 I2 rx ry q => ho pins s2 σ H2 x y v u Q I2 rx ry q) hm
def Z6y (t : TE) : TT := fun σ H Q => t σ H fun x H' => ∃ k, x = .bl k /\ Q k H'
theorem C5 {op : CmpOp} {r : R2} (ho : OpR X (compareOp op) r) (ha : PE X a ta) (hb : PE X b tb) (hm : behindInMarks op b = false) : PT X (.Compare a [op] [b] pos) (Z6y (tOp r ta tb)) := by
 intro pins s σ H Q I h
 refine wpAny_isTrue_Compare1 (thn (ha pins s σ H _ I h) fun v s1 ⟨x, H1, I1, r1, q1⟩ => thn (hb pins s1 σ H1 _ I1 q1) fun u s2 ⟨y, H2, I2, r2, q2⟩ =>
   thn (ho pins s2 σ H2 x y v u _ I2 r1 r2 q2) fun c s3 ⟨z, H3, I3, r3, k, e, q3⟩ => ?_) hm
 subst e
 cases r3
 exact wpAny_truthy_bool ⟨H3, I3, q3⟩
theorem D5x : (sizeLine : Nat) < 2 ^ 63 := by rw [sizeLine_eq]; decide
theorem J1j : OpR X (binaryOp .Add) (fun x y H Q => ∃ i j, x = .str i /\ y = .str j /\ i.length + j.length <= sizeLine /\ Q (.str (i ++ j)) H) := by
 intro pins s σ H x y v u Q I rx ry h
 obtain ⟨i, j, rfl, rfl, hz, q⟩ := h
 obtain ⟨t, rfl⟩ := rx
 obtain ⟨t', rfl⟩ := ry
 exact add_str (fun t' tk => ⟨.str (i ++ j), H, I.tok _, ⟨_, rfl⟩, q⟩) hz
theorem C3h {x : V} {us : List Value} (r : Vals [x] us) : ∃ u, us = [u] /\ RelV x u := by
 cases r with
 | cons r1 r2 => cases r2; exact ⟨_, rfl, r1⟩
theorem V2g {x y : V} {us : List Value} (r : Vals [x, y] us) : ∃ u w', us = [u, w'] /\ RelV x u /\ RelV y w' := by
 cases r with
 | cons r1 r2 =>
   cases r2 with
   | cons r3 r4 => cases r4; exact ⟨_, _, rfl, r1, r3⟩
theorem V9 (hc : X.calm = true) : A4y X (.builtin "max") (fun xs H Q => ∃ i j, xs = [.int i, .int j] /\ Q (.int (if j > i then j else i)) H) := by
 intro pins s σ H xs us Q I r h
 obtain ⟨i, j, rfl, q⟩ := h
 obtain ⟨u, w', rfl, ⟨t, rfl⟩, ⟨t', rfl⟩⟩ := V2g r
 refine max_two_ints (I.ok.hd hc) fun h' tk k => ⟨_, H, I.kept k, ?_, q⟩
 by_cases hj : j > i
 . rw [if_pos hj, if_pos hj]; exact ⟨_, rfl⟩
 . rw [if_neg hj, if_neg hj]; exact ⟨_, rfl⟩
theorem U5u (hc : X.calm = true) : A4y X (.builtin "min") (fun xs H Q => ∃ i j, xs = [.int i, .int j] /\ Q (.int (if j < i then j else i)) H) := by
 intro pins s σ H xs us Q I r h
 obtain ⟨i, j, rfl, q⟩ := h
 obtain ⟨u, w', rfl, ⟨t, rfl⟩, ⟨t', rfl⟩⟩ := V2g r
 refine min_two_ints (I.ok.hd hc) fun h' tk k => ⟨_, H, I.kept k, ?_, q⟩
 by_cases hj : j < i
 . rw [if_pos hj, if_pos hj]; exact ⟨_, rfl⟩
 . rw [if_neg hj, if_neg hj]; exact ⟨_, rfl⟩
theorem D2t : A4y X (.type "int") (fun xs H Q => (∃ i, xs = [.int i] /\ Q (.int i) H) \/ ∃ k, xs = [.bl k] /\ Q (.int (if k then 1 else 0)) H) := by
 intro pins s σ H xs us Q I r h
 rcases h with ⟨i, rfl, q⟩ | ⟨k, rfl, q⟩
 . obtain ⟨u, rfl, t, rfl⟩ := C3h r
   exact call_int_int ⟨.int i, H, I, ⟨_, rfl⟩, q⟩
 . obtain ⟨u, rfl, r1⟩ := C3h r
   cases r1
   exact call_int_bool ⟨.int (if k then 1 else 0), H, I.tok _, ⟨_, rfl⟩, q⟩
theorem A2b : A4y X (.type "str") (fun xs H Q => ∃ i, xs = [.int i] /\ i.natAbs.log2 < 1920 /\ Q (.str (toString i)) H) := by
 intro pins s σ H xs us Q I r h
 obtain ⟨i, rfl, hz, q⟩ := h
 obtain ⟨u, rfl, t, rfl⟩ := C3h r
 exact PySem.P.str_of_int hz ⟨.str _, H, I.tok _, ⟨_, rfl⟩, q⟩
end
structure ObjM (h : Heap) (x dx C : Addr) (mA : Str -> Option Value) : Prop where
 obj : h.get? x = some (PySem.W.instObj C dx)
 ns : h.Ns1 dx mA
 ne : dx ≠ x
theorem B7g {h : Heap} {dx : Addr} {mA : Str -> Option Value} (n : h.Ns1 dx mA) : ∃ od, h.get? dx = some od /\ ∀ name, PySem.W.lookIn name od = some (mA name) := by
 obtain ⟨o, es, ep, ho, hd, hk, _, hm⟩ := n
 refine ⟨o, ho, fun name => ?_⟩
 have e := hm name
 unfold nsFind findBy at e
 rw [<- Array.find?_toList] at e
 unfold PySem.W.lookIn
 rw [hd]
 dsimp only
 split
 . rename_i y q
   rw [q] at e
   exact congrArg some e
 . rename_i q
   rw [q] at e
   have a : es.toList.any (·.refKey) = false := by
     rw [List.any_eq_false]
     intro y hy
     obtain ⟨z, t, hkey⟩ := hk y (Array.mem_toList_iff.mp hy)
     simp [DictEntry.refKey, hkey]
   have a' : ¬ es.toList.any (·.refKey) = true := by rw [a]; exact Bool.false_ne_true
   rw [if_neg a']
   exact congrArg some e
theorem ObjM.look {h : Heap} {x dx C : Addr} {mA : Str -> Option Value} (I : ObjM h x dx C mA) : ∃ od, PySem.W.InstAt h x (PySem.W.instObj C dx) C (some od) /\ ∀ name, PySem.W.lookIn name od = some (mA name) :=
 let ⟨od, ho, hl⟩ := B7g I.ns
 ⟨od, ⟨I.obj, rfl, rfl, ho⟩, hl⟩
section
variable {prog : Program} {w : World} {A : Around} {E : Value -> Shared -> Prop} {s : Shared} {K : PySem.W.Frag} {x dx C f : Addr} {mA : Str -> Option Value} {name : Str} {v : Value}
theorem Y8q {expr : Bool} {Q : Value -> Shared -> Prop} (X : K.In s.heap) (I : ObjM s.heap x dx C mA) (hg : PySem.W.plainGet K C name = true) (hh : PySem.W.hasDictIn K C = true)
   (ha : PySem.W.findIn K (.ref C) name = some none) (hv : mA name = some v) (hv' : PySem.W.handedIn v = true) (h : Q v { s with toks := s.toks + 1 }) :
   wpAny (model prog w) A (getAttr (.ref x) name expr) Q E s := by
 obtain ⟨od, J, hl⟩ := I.look
 exact PySem.W.get_value X J (PySem.W.plainGet_of hg).1 (PySem.W.findObj_own hh ha rfl (by rw [hl, hv])) hv' h
theorem V2q {pl : Sem Bool} {Q : Value × List Value -> Shared -> Prop} (X : K.In s.heap) (I : ObjM s.heap x dx C mA) (hg : PySem.W.plainGet K C name = true)
   (hf : PySem.W.findIn K (.ref C) name = some (some (.ref f))) (ht : PySem.W.isFn K (.ref f) = true) (hv : mA name = none) (h : Q (.ref f, [.ref x]) s) :
   wpAny (model prog w) A (getMethod (.ref x) name pl) Q E s := by
 obtain ⟨od, J, hl⟩ := I.look
 exact PySem.W.method_fn X J (PySem.W.plainGet_of hg).1 (PySem.W.plainGet_of hg).2 hf (beq_iff_eq.mp ht) (by show (PySem.W.lookIn name od).map (·.isSome) = some false; rw [hl, hv]; rfl) h
theorem Y8v {ns : List Str} {Q : Unit -> Shared -> Prop} (X : K.In s.heap) (I : ObjM s.heap x dx C mA)
   (hs : PySem.W.findIn K (.ref C) "__setattr__" = some (some (.builtin "object.__setattr__"))) (hp : PySem.W.plainOver K C = true) (ht : PySem.W.takerIn K C name = some none) (hh : PySem.W.hasDictIn K C = true)
   (hw : PySem.Within mA ns) (hsz : ns.length <= sizeLine)
   (h : ∀ h', ObjM h' x dx C (fun y => if y = name then some v else mA y) -> Heap.SameBut dx s.heap h' -> Q () { s with heap := h', toks := s.toks + 2 }) :
   wpAny (model prog w) A (setAttr (.ref x) name v) Q E s := by
 obtain ⟨od, J, hl⟩ := I.look
 refine PySem.W.set_plain X J hs (PySem.W.osa_open (s := { s with toks := s.toks + 1 }) (r := none) X J hp ht fun b => ?_)
 obtain ⟨cd, hc, hd'⟩ := PySem.W.any_some hh
 have hx : s.heap.get? x = some ⟨.ref C, some dx, .plain, #[]⟩ := I.obj
 refine wpAny_bind (wpAny_pure (wpAny_bind (wpAny_bind (wpAny_loadPart hx (wpAny_bind (PySem.W.Looks.here (s := { s with toks := s.toks + 1 }) (PySem.W.looks_clsIn X hc) ?_))))))
 rw [hd']
 refine wpAny_pure (a := some dx) (wpAny_bind (wpAny_pure (wpAny_bind ?_)))
 refine wpAny_nsSet1 (s := { s with toks := s.toks + 1 }) I.ns fun h' hn2 hs2 => ?_
 obtain ⟨oD, esD, epD, hoD, hdD, hcD⟩ := hn2.count (PySem.Within.cons name v hw)
 refine wpAny_bind (wpAny_lookBehind hoD (by rw [hdD]; exact pastItsLine_dict (Nat.le_trans hcD (by rw [List.length_cons]; omega))) ?_)
 exact wpAny_pure (h _ ⟨(hs2.2 _ (Ne.symm I.ne)).trans I.obj, hn2, I.ne⟩ hs2)
theorem G6f {R : Result -> Shared -> Prop} {vs : List Value} {kw : List (Str × Value)} (X : K.In s.heap) (hm : PySem.W.makesIn K C = true)
   (hi : PySem.W.findIn K (.ref C) "__init__" = some (some (.ref f))) (hf : PySem.W.typeIn K (.ref f) = some (.type "function"))
   (h : codeAny (model prog w) (A.under (.builtin "type.__call__" ⟨.ref C :: vs, kw⟩)) (.call (.ref f) ⟨.ref (s.heap.objs.size + 1) :: vs, kw⟩) (PySem.W.InitBack (s.heap.objs.size + 1) R)
     { s with heap := (s.heap.push PySem.W.emptyDict).push (PySem.W.instObj C s.heap.objs.size) }) :
   codeAny (model prog w) A (.call (.ref C) ⟨vs, kw⟩) R s := by
 obtain ⟨hh, g, d, t, os⟩ := s
 exact PySem.W.make_core (PySem.W.makes_of X hm) (PySem.W.looks_findIn X hi) (fun self => PySem.W.bind_fn X self hf) (.inl rfl) h
theorem U5g {R : Result -> Shared -> Prop} (X : K.In s.heap) (hm : PySem.W.makesIn K C = true)
   (hi : PySem.W.findIn K (.ref C) "__init__" = some (some (.builtin "object.__init__")))
   (hb : ∀ self, PySem.W.Looks (model prog w) s.heap (bindSpecial (.builtin "object.__init__") self) (.builtin "object.__init__", [self]))
   (h : codeAny (model prog w) (A.under (.builtin "type.__call__" ⟨[.ref C], []⟩)) (.call (.builtin "object.__init__") ⟨[.ref (s.heap.objs.size + 1)], []⟩) (PySem.W.InitBack (s.heap.objs.size + 1) R)
     { s with heap := (s.heap.push PySem.W.emptyDict).push (PySem.W.instObj C s.heap.objs.size) }) :
   codeAny (model prog w) A (.call (.ref C) ⟨[], []⟩) R s := by
 obtain ⟨hh, g, d, t, os⟩ := s
 exact PySem.W.make_core (PySem.W.makes_of X hm) (PySem.W.looks_findIn X hi) hb (.inr ⟨rfl, rfl⟩) h
end
def V0 (f : Str) (v : V) : List (Str × V) -> List (Str × V)
 | [] => [(f, v)]
 | (g, x) :: r => if g = f then (g, v) :: r else (g, x) :: V0 f v r
theorem D3 (f g : Str) (v : V) : ∀ fs : List (Str × V), (V0 f v fs).lookup g = if g = f then some v else fs.lookup g
 | [] => by
   show List.lookup g [(f, v)] = _
   by_cases h : g = f
   . have hb : (g == f) = true := beq_iff_eq.mpr h
     simp only [List.lookup, hb, if_pos h]
   . have hb : (g == f) = false := beq_eq_false_iff_ne.mpr h
     simp only [List.lookup, hb, if_neg h]
 | (k, x) :: r => by
   have ih := D3 f g v r
   rw [show V0 f v ((k, x) :: r) = (if k = f then (k, v) :: r else (k, x) :: V0 f v r) from rfl]
   by_cases hk : k = f
   . rw [if_pos hk]
     by_cases h : g = k
     . have hb : (g == k) = true := beq_iff_eq.mpr h
       simp only [List.lookup, hb, if_pos (h.trans hk)]
     . have hb : (g == k) = false := beq_eq_false_iff_ne.mpr h
       simp only [List.lookup, hb, if_neg (fun e : g = f => h (e.trans hk.symm))]
   . rw [if_neg hk]
     by_cases h : g = k
     . have hb : (g == k) = true := beq_iff_eq.mpr h
       simp only [List.lookup, hb, if_neg (fun e : g = f => hk (h.symm.trans e))]
     . have hb : (g == k) = false := beq_eq_false_iff_ne.mpr h
       simp only [List.lookup, hb]
       exact ih
theorem B7e (f : Str) (v : V) : ∀ fs : List (Str × V), f ∈ (V0 f v fs).map (·.1) /\ ∀ g, g ∈ fs.map (·.1) -> g ∈ (V0 f v fs).map (·.1)
 | [] => ⟨by simp [V0], fun g h => by simp at h⟩
 | (k, x) :: r => by
   obtain ⟨i1, i2⟩ := B7e f v r
   rw [show V0 f v ((k, x) :: r) = (if k = f then (k, v) :: r else (k, x) :: V0 f v r) from rfl]
   by_cases hk : k = f
   . rw [if_pos hk]
     subst hk
     exact ⟨by simp, fun g h => by simpa using h⟩
   . rw [if_neg hk]
     refine ⟨?_, fun g h => ?_⟩
     . rw [List.map_cons]
       exact List.mem_cons_of_mem _ i1
     . rw [List.map_cons] at h ⊢
       rcases List.mem_cons.mp h with e | e
       . exact List.mem_cons.mpr (.inl e)
       . exact List.mem_cons_of_mem _ (i2 g e)
theorem A0z (f : Str) (v : V) : ∀ fs : List (Str × V), (V0 f v fs).length <= fs.length + 1
 | [] => by simp [V0]
 | (k, x) :: r => by
   have ih := A0z f v r
   rw [show V0 f v ((k, x) :: r) = (if k = f then (k, v) :: r else (k, x) :: V0 f v r) from rfl]
   by_cases hk : k = f
   . rw [if_pos hk, List.length_cons, List.length_cons]; omega
   . rw [if_neg hk, List.length_cons, List.length_cons]; omega
theorem RelO.some_of {v : V} {o : Option Value} (r : RelO (some v) o) : ∃ u, o = some u /\ RelV v u := by
 cases o with
 | none => exact (show False from r).elim
 | some u => exact ⟨u, rfl, r⟩
theorem RelO.none_of {o : Option Value} (r : RelO none o) : o = none := by
 cases o with
 | none => rfl
 | some u => exact (show False from r).elim
theorem D2k {v : V} {u : Value} (r : RelV v u) : PySem.W.handedIn u = true := by
 cases v with
 | non => cases (show u = Value.none from r); rfl
 | bl b => cases (show u = Value.bool b from r); rfl
 | int i => obtain ⟨t, e⟩ := (show ∃ t, u = Value.int i t from r); cases e; rfl
 | str x => obtain ⟨t, e⟩ := (show ∃ t, u = Value.str x t from r); cases e; rfl
 | byt b => obtain ⟨t, e⟩ := (show ∃ t, u = Value.bytes b t from r); cases e; rfl
 | flt b => obtain ⟨t, e⟩ := (show ∃ t, u = Value.float b t from r); cases e; rfl
 | ref a => cases (show u = Value.ref a from r); rfl
 | ty n => cases (show u = Value.type n from r); rfl
section
variable {P : Program} {w : World} {H H' : Hp} {h h' : Heap} {a C dx : Addr} {fs fs' : List (Str × V)}
theorem C2w (hok : HOk P w H h) (e : H a = some (.ins C dx fs)) : ∃ mA, ObjM h a dx C mA /\ (∀ f, RelO (fs.lookup f) (mA f)) /\ PySem.Within mA (fs.map (·.1)) /\ fs.length <= 1000 /\ H dx = some (.own a) := by
 obtain ⟨d, z, ne, ob, mA, n, r, q⟩ := (show ObjOk P w H h a (.ins C dx fs) from hok a _ e)
 exact ⟨mA, ⟨ob, n, ne⟩, r, q, z, d⟩
end
structure Cls (K : PySem.W.Frag) (C : Addr) : Prop where
 pg : PySem.W.plainGet K C Str.empty = true
 hd : PySem.W.hasDictIn K C = true
 po : PySem.W.plainOver K C = true
 sa : PySem.W.findIn K (.ref C) "__setattr__" = some (some (.builtin "object.__setattr__"))
theorem Cls.get {K : PySem.W.Frag} {C : Addr} (c : Cls K C) (f : Str) : PySem.W.plainGet K C f = true := c.pg
def NoAttr (K : PySem.W.Frag) (C : Addr) (f : Str) : Prop := PySem.W.findIn K (.ref C) f = some none
theorem NoAttr.taker {K : PySem.W.Frag} {C : Addr} {f : Str} (n : NoAttr K C f) : PySem.W.takerIn K C f = some none := by
 unfold PySem.W.takerIn
 rw [show PySem.W.findIn K (.ref C) f = some none from n]
 rfl
structure Meth (K : PySem.W.Frag) (C : Addr) (m : Str) (f : Addr) : Prop where
 at_ : PySem.W.findIn K (.ref C) m = some (some (.ref f))
 fn : PySem.W.isFn K (.ref f) = true
 kp : PySem.W.keepIn K (.ref f) = true
section
variable {X : Cx} {pins : List (Addr × Obj)} {σ : St} {H : Hp} {s : Shared} {a C dx : Addr} {fs : List (Str × V)} {f : Str} {v : V} {A : Around} {E : Value -> Shared -> Prop}
theorem J0r {b : Bool} {Q : Value -> Shared -> Prop} (I : Inv X pins σ H s) (e : H a = some (.ins C dx fs)) (c : Cls X.K C) (n : NoAttr X.K C f) (l : fs.lookup f = some v)
   (h : ∀ u s', Inv X pins σ H s' -> RelV v u -> Q u s') : wpAny (model X.prog X.w) A (getAttr (.ref a) f b) Q E s := by
 obtain ⟨mA, O, r, _, _, _⟩ := C2w I.hok e
 obtain ⟨u, hu, ru⟩ := RelO.some_of (v := v) (o := mA f) (by rw [<- l]; exact r f)
 exact Y8q I.kIn O (c.get f) c.hd n hu (D2k ru) (h u _ (I.tok _) ru)
theorem C3p {m : Str} {g : Addr} {pl : Sem Bool} {Q : Value × List Value -> Shared -> Prop} (I : Inv X pins σ H s) (e : H a = some (.ins C dx fs)) (c : Cls X.K C) (k : Meth X.K C m g) (l : fs.lookup m = none)
   (h : Q (.ref g, [.ref a]) s) : wpAny (model X.prog X.w) A (getMethod (.ref a) m pl) Q E s := by
 obtain ⟨mA, O, r, _, _, _⟩ := C2w I.hok e
 have hn : mA m = none := RelO.none_of (by rw [<- l]; exact r m)
 exact V2q I.kIn O (c.get m) k.at_ k.fn hn h
theorem J0w {y : V} {u : Value} {Q : Unit -> Shared -> Prop} (I : Inv X pins σ H s) (e : H a = some (.ins C dx fs)) (c : Cls X.K C) (n : NoAttr X.K C f) (hl : fs.length < 1000) (ry : RelV y u)
   (h : ∀ s', Inv X pins σ (upd H a (.ins C dx (V0 f y fs))) s' -> Q () s') : wpAny (model X.prog X.w) A (setAttr (.ref a) f u) Q E s := by
 obtain ⟨mA, O, r, wi, _, ho⟩ := C2w I.hok e
 have hz : (fs.map (·.1)).length <= sizeLine := by rw [List.length_map, sizeLine_eq]; omega
 refine Y8v I.kIn O c.sa c.po n.taker c.hd wi hz fun h' O' sb => h _ ?_
 have hd : ∃ o, h'.get? dx = some o := let ⟨o, _, _, e', _⟩ := O'.ns; ⟨o, e'⟩
 refine I.write (x := a) (e := dx) (by rw [e]; exact True.intro) (.inr ho) (fun b q hb z => (sb.2 b hb).trans z) hd ?_
 refine ⟨by rw [C4 O.ne]; exact ho, ?_, O.ne, O'.obj, _, O'.ns, fun g => ?_, fun g hg => ?_⟩
 . have := A0z f y fs; omega
 . show RelO ((V0 f y fs).lookup g) (if g = f then some u else mA g)
   rw [D3]
   by_cases q : g = f
   . rw [if_pos q, if_pos q]; exact ry
   . rw [if_neg q, if_neg q]; exact r g
 . by_cases q : g = f
   . rw [q]; exact (B7e f y fs).1
   . refine (B7e f y fs).2 g (wi g fun z => hg ?_)
     show (if g = f then some u else mA g) = none
     rw [if_neg q]; exact z
theorem Inv.made (I : Inv X pins σ H s) : Inv X pins σ (upd (upd H s.heap.objs.size (.own (s.heap.objs.size + 1))) (s.heap.objs.size + 1) (.ins C s.heap.objs.size []))
   { s with heap := (s.heap.push PySem.W.emptyDict).push (PySem.W.instObj C s.heap.objs.size) } := by
 have e1 : (s.heap.push PySem.W.emptyDict).get? s.heap.objs.size = some PySem.W.emptyDict := Heap.get?_push_size s.heap rfl
 have e2 : ((s.heap.push PySem.W.emptyDict).push (PySem.W.instObj C s.heap.objs.size)).get? (s.heap.objs.size + 1) = some (PySem.W.instObj C s.heap.objs.size) := by
   have := Heap.get?_push_size (s.heap.push PySem.W.emptyDict) (o := PySem.W.instObj C s.heap.objs.size) rfl
   rwa [Heap.size_push] at this
 have e3 : (s.heap.push PySem.W.emptyDict).Ns s.heap.objs.size (fun _ => none) := ⟨PySem.W.emptyDict, #[], _, e1, rfl, (fun e he => absurd he (by simp)), fun _ => rfl⟩
 have I1 := I.laid (a := s.heap.objs.size) (o := .own (s.heap.objs.size + 1)) (h' := s.heap.push PySem.W.emptyDict) (t' := s.toks) (fun b u q => Heap.get?_push_of_some _ q) (Nat.le_refl _) ⟨_, e1⟩
 refine I1.laid (a := s.heap.objs.size + 1) (o := .ins C s.heap.objs.size []) (t' := s.toks) (fun b u q => Heap.get?_push_of_some _ q) (Nat.le_of_eq (Heap.size_push _ _)) ?_
 have ne : s.heap.objs.size ≠ s.heap.objs.size + 1 := Nat.ne_of_lt (Nat.lt_succ_self _)
 refine ⟨by rw [C4 ne, A8], Nat.zero_le _, ne, e2, fun _ => none, (Heap.Ns1.of_empty e3).at fun o q => Heap.get?_push_of_some _ q, fun _ => True.intro, fun y hy => absurd rfl hy⟩
theorem U2p {prog : Program} {w : World} {env : Env} {e : Expr} {f : Str} {pos : Pos} {s : Shared} {Q : Value -> Shared -> Prop} (hb : attributeBase e f env (eval e env) = eval e env)
   (h : wpAny (model prog w) A (eval e env) (fun o s₁ => wpAny (model prog w) A (getAttr o f true) Q E s₁) E s) : wpAny (model prog w) A (eval (.Attribute e f pos) env) Q E s :=
 Attribute_any_ h (by rw [arm_eval_Attribute, hb])
end
def tFld (K : PySem.W.Frag) (ta : TE) (f : Str) : TE := fun σ H Q => ta σ H fun x H1 => ∃ a C dx fs v, x = .ref a /\ H1 a = some (.ins C dx fs) /\ Cls K C /\ NoAttr K C f /\ fs.lookup f = some v /\ Q v H1
def sFld (K : PySem.W.Frag) (ta tv : TE) (f : Str) : TS := fun D σ H => tv σ H fun y H1 => ta σ H1 fun x H2 => ∃ a C dx fs, x = .ref a /\ H2 a = some (.ins C dx fs) /\ Cls K C /\ NoAttr K C f /\ fs.length < 1000 /\
 D.nx σ (upd H2 a (.ins C dx (V0 f y fs)))
section
variable {X : Cx} {o e value : Expr} {f : Str} {pos pos' tpos : Pos} {ta tv : TE}
theorem G0 (he : PE X e ta) (hb : attributeBase e f X.env (eval e X.env) = eval e X.env) : PE X (.Attribute e f pos) (tFld X.K ta f) := by
 intro pins s σ H Q I h
 refine U2p hb (thn (he pins s σ H _ I h) fun u s1 ⟨x, H1, I1, rx, a, C, dx, fs, v, ex, ea, c, n, l, q⟩ => ?_)
 subst ex
 obtain rfl : u = Value.ref a := rx
 exact J0r I1 ea c n l fun u' s2 I2 ru => ⟨v, H1, I2, ru, q⟩
theorem Z2 (ha : PE X o ta) (hv : PE X value tv) (hs : swapsWith value (some (.Attribute o f pos')) pos.line X.env = pure false) : PS X (.Assign [.Attribute o f pos'] value pos) (sFld X.K ta tv f) := by
 intro pins s σ H D I h
 refine plainObj_wpAny_Assign_Attribute (thn (hv pins s σ H _ I h) fun u s1 ⟨y, H1, I1, ry, q⟩ => thn (ha pins s1 σ H1 _ I1 q) fun ov s2 ⟨x, H2, I2, rx, a, C, dx, fs, ex, ea, c, n, l, q2⟩ => ?_) hs
 subst ex
 obtain rfl : ov = Value.ref a := rx
 exact J0w I2 ea c n l ry fun s3 I3 => ⟨σ, _, I3, q2⟩
end
section
variable {X : Cx} {pins : List (Addr × Obj)} {σ : St} {H : Hp} {s : Shared} {A : Around} {E : Value -> Shared -> Prop} {Q : Value -> Shared -> Prop} {c : Value} {b : Bool}
inductive TyOf (K : PySem.W.Frag) (H : Hp) : V -> Value -> Prop where
 | non : TyOf K H .non (.type "NoneType")
 | bl (x : Bool) : TyOf K H (.bl x) (.type "bool")
 | int (i : Int) : TyOf K H (.int i) (.type "int")
 | str (x : Str) : TyOf K H (.str x) (.type "str")
 | flt (x : UInt64) : TyOf K H (.flt x) (.type "float")
 | lst {a : Addr} {xs : List V} (e : H a = some (.lst xs)) : TyOf K H (.ref a) (.type "list")
 | frz {a : Addr} {o : Obj} {xs : List V} (e : H a = some (.frz o (.lst xs))) : TyOf K H (.ref a) (.type "list")
 | tup {a : Addr} {xs : List V} (e : H a = some (.tup xs)) : TyOf K H (.ref a) (.type "tuple")
 | dK {a : Addr} {kvs : List (Key × V)} (e : H a = some (.dK kvs)) : TyOf K H (.ref a) (.type "dict")
 | dT {a : Addr} {kvs : List (List Key × V)} (e : H a = some (.dT kvs)) : TyOf K H (.ref a) (.type "dict")
 | ins {a C dx : Addr} {fs : List (Str × V)} (e : H a = some (.ins C dx fs)) (cl : Cls K C) (ha : PySem.W.findIn K (.ref C) "__class__" = some (some (.builtin "object.__class__")))
     (hn : PySem.W.specialIn K (.builtin "object.__class__") "__get__" = some (some (.builtin "getset_descriptor.__get__"))) (htk : PySem.W.takesIn K (.builtin "object.__class__") = some true)
     (hm : PySem.W.mroIn K C (.type "object") = some true) : TyOf K H (.ref a) (.ref C)
theorem U4d {x : V} {u t : Value} (I : Inv X pins σ H s) (rx : RelV x u) (ty : TyOf X.K H x t) (e : PySem.W.kitOne X.K t c = some b) (h : ∀ tk, Q (.bool b) { s with toks := tk }) :
   wpAny (model X.prog X.w) A (call (.builtin "isinstance") [u, c]) Q E s := by
 cases ty with
 | non => cases (show u = Value.none from rx); exact PySem.W.kia_one PySem.W.kitx_none I.kIn True.intro e (fun z => nomatch z) h
 | bl y => cases (show u = Value.bool y from rx); exact PySem.W.kia_one PySem.W.kitx_bool I.kIn True.intro e (fun z => nomatch z) h
 | int i => obtain ⟨t, q⟩ := (show ∃ t, u = Value.int i t from rx); cases q; exact PySem.W.kia_one PySem.W.kitx_int I.kIn True.intro e (fun z => nomatch z) h
 | str y => obtain ⟨t, q⟩ := (show ∃ t, u = Value.str y t from rx); cases q; exact PySem.W.kia_one PySem.W.kitx_str I.kIn True.intro e (fun z => nomatch z) h
 | flt y => obtain ⟨t, q⟩ := (show ∃ t, u = Value.float y t from rx); cases q; exact PySem.W.kia_one PySem.W.kitx_float I.kIn True.intro e (fun z => nomatch z) h
 | @lst a xs ea =>
   cases (show u = Value.ref a from rx)
   obtain ⟨_, _, n, _, h1⟩ := (show ObjOk X.prog X.w H s.heap a (.lst xs) from I.hok a _ ea)
   exact PySem.W.kia_one PySem.W.kitx_list I.kIn ⟨_, h1, rfl⟩ e (fun z => nomatch z) h
 | @frz a ob xs ea =>
   cases (show u = Value.ref a from rx)
   obtain ⟨_, _, _, n, _, h1⟩ := (show ObjOk X.prog X.w H s.heap a (.frz ob (.lst xs)) from I.hok a _ ea)
   exact PySem.W.kia_one PySem.W.kitx_list I.kIn ⟨_, h1, rfl⟩ e (fun z => nomatch z) h
 | @tup a xs ea =>
   cases (show u = Value.ref a from rx)
   obtain ⟨_, _, _, p⟩ := (show ObjOk X.prog X.w H s.heap a (.tup xs) from I.hok a _ ea)
   obtain ⟨o, h1, h2, _⟩ := p
   exact PySem.W.kia_one PySem.W.kitx_tuple I.kIn ⟨o, h1, h2⟩ e (fun z => nomatch z) h
 | @dK a kvs ea =>
   cases (show u = Value.ref a from rx)
   obtain ⟨_, _, vs, _, p⟩ := (show ObjOk X.prog X.w H s.heap a (.dK kvs) from I.hok a _ ea)
   obtain ⟨o, es, ep, h1, h2, _⟩ := p
   exact PySem.W.kia_one PySem.W.kitx_dict I.kIn ⟨o, h1, h2.1⟩ e (fun z => nomatch z) h
 | @dT a kvs ea =>
   cases (show u = Value.ref a from rx)
   obtain ⟨_, _, xs, _, o, es, ep, h1, h2, _⟩ := (show ObjOk X.prog X.w H s.heap a (.dT kvs) from I.hok a _ ea)
   exact PySem.W.kia_one PySem.W.kitx_dict I.kIn ⟨o, h1, h2.1⟩ e (fun z => nomatch z) h
 | @ins a C dx fs ea cl ha hn htk hm =>
   cases (show u = Value.ref a from rx)
   obtain ⟨mA, O, _⟩ := C2w I.hok ea
   obtain ⟨od, J, _⟩ := O.look
   exact PySem.W.kia_one (PySem.W.kitx_own (cl.get _) cl.hd ha hn htk hm) I.kIn J e (fun z => nomatch z) h
end
structure Room (k : Nat) (A : Around) : Prop where
 hd : A.handled = none
 dp : A.depth + 3 * k + 5 < recursionLimit
 un : A.units + 16 * k + 200 < cLine
theorem Room.mono {j k : Nat} {A : Around} (r : Room k A) (h : j <= k) : Room j A := ⟨r.hd, by have := r.dp; omega, by have := r.un; omega⟩
theorem Room.deeper {k : Nat} {A : Around} (r : Room (k + 1) A) (env : Env) : Room k (A.deeper env) :=
 ⟨r.hd, by have := r.dp; show A.depth + 1 + 3 * k + 5 < _; omega, by have := r.un; show A.units + 3 + 16 * k + 200 < _; omega⟩
theorem J1f {A : Around} {C : Addr} {us : List Value} {kw : List (Str × Value)} : (A.under (.builtin "type.__call__" ⟨.ref C :: us, kw⟩)).depth = A.depth + 1 := by
 first | rfl | simp [Around.under, Code.weight, Code.isCreation, Code.isGuard, Code.isCaller, Code.frames, Code.isFrame, guardIds]
theorem J0k {A : Around} {C : Addr} {us : List Value} {kw : List (Str × Value)} : (A.under (.builtin "type.__call__" ⟨.ref C :: us, kw⟩)).units = A.units + 1 := by
 first | rfl | simp [Around.under, Code.cUnits, Code.frames, Code.isFrame]
theorem Room.make {k : Nat} {A : Around} (r : Room (k + 1) A) (C : Addr) (us : List Value) (kw : List (Str × Value)) : Room k (A.under (.builtin "type.__call__" ⟨.ref C :: us, kw⟩)) :=
 ⟨r.hd, by have := r.dp; rw [J1f]; omega, by have := r.un; rw [J0k]; omega⟩
theorem Room.depth {k : Nat} {A : Around} (r : Room k A) : A.depth < recursionLimit := by have := r.dp; omega
theorem Room.units {k : Nat} {A : Around} (r : Room k A) : A.units + 64 < cLine := by have := r.un; omega
def V1g : TA := fun _ H Q => Q [] H
def V4c (ta : TE) (tr : TA) : TA := fun σ H Q => ta σ H fun x H1 => tr σ H1 fun xs H2 => Q (x :: xs) H2
section
variable {X : Cx} {e : Expr} {es : List Expr} {te : TE} {t : TA} {pos : Pos}
theorem A7 : PA X [] V1g := fun _ _ _ _ H Q I h => Calls.spliced_nil ⟨[], H, I, .nil, h⟩
theorem A0 (ha : PE X e te) (hr : PA X es t) (hs : starEach (e :: es) X.env = (false, eval e X.env) :: starEach es X.env := by rfl) : PA X (e :: es) (V4c te t) := by
 intro pos pins s σ H Q I h
 rw [hs]
 show wpAny _ _ (spliced ((false, eval e X.env) :: backTo pos (starEach es X.env))) _ _ s
 refine Calls.spliced_cons (thn (ha pins s σ H _ I h) fun u s1 ⟨x, H1, I1, r1, q1⟩ => ?_)
 exact thn (hr pos pins s1 σ H1 _ I1 q1) fun us s2 ⟨xs, H2, I2, r2, q2⟩ => ⟨x :: xs, H2, I2, .cons r1 r2, q2⟩
def tTup (t : TA) : TE := fun σ H Q => t σ H fun xs H1 => xs.length <= sizeLine /\ ∀ p, H1 p = none -> Q (.ref p) (upd H1 p (.tup xs))
def tLst (t : TA) : TE := fun σ H Q => t σ H fun xs H1 => xs.length <= sizeLine /\ ∀ p, H1 p = none -> Q (.ref p) (upd H1 p (.lst xs))
theorem V1 {x1} (h : PA X es t) : PE X (.Tuple es x1 pos) (tTup t) := by
 intro pins s σ H Q I hq
 refine wpAny_Tuple_spliced (thn (h pos pins s σ H _ I hq) fun us s1 ⟨xs, H1, I1, r, z, q⟩ => ⟨by rw [<- r.length]; exact z, ?_⟩)
 have hf : H1 s1.heap.objs.size = none := I1.hok.fresh (Nat.le_refl _)
 refine ⟨.ref s1.heap.objs.size, upd H1 s1.heap.objs.size (.tup xs), I1.laid (t' := s1.toks) (fun b u e => Heap.get?_push_of_some _ e) (Nat.le_refl _) ?_, rfl, q _ hf⟩
 exact ⟨z, us, r, ⟨_, Heap.get?_push_size _ rfl, rfl, _, rfl⟩⟩
theorem U9 (h : PA X es t) : PE X (.List es pos) (tLst t) := by
 intro pins s σ H Q I hq
 refine wpAny_List_spliced (thn (h pos pins s σ H _ I hq) fun us s1 ⟨xs, H1, I1, r, z, q⟩ => ⟨by rw [<- r.length]; exact z, ?_⟩)
 have hf : H1 s1.heap.objs.size = none := I1.hok.fresh (Nat.le_refl _)
 refine ⟨.ref s1.heap.objs.size, upd H1 s1.heap.objs.size (.lst xs), I1.laid (t' := s1.toks) (fun b u e => Heap.get?_push_of_some _ e) (Nat.le_refl _) ?_, rfl, q _ hf⟩
 exact ⟨z, us, 0, r, Heap.get?_push_size _ rfl⟩
end
abbrev Sp := List V -> Hp -> VK -> XK -> Prop
abbrev CXT := List Env -> Hp -> Shared -> XK -> Value -> Shared -> Prop
structure Env0 (P : Program) (w : World) (K : PySem.W.Frag) (mg : Str -> Option Value) (base : Heap) (A : Around) (outer : List Env) (s : Shared) (H : Hp) : Prop where
 frames : A.frames = some outer
 mod : Mod K mg base
 bs : ∀ b o, base.get? b = some o -> s.heap.get? b = some o /\ H b = none
 bsz : base.objs.size <= s.heap.objs.size
 funs : s.heap.FunFrames base outer
 frf : ∀ b ∈ frs outer, H b = none
 hok : HOk P w H s.heap
 bare : AllBare s.gens
def CE (outer : List Env) (P : Program) (w : World) (H : Hp) (s : Shared) (Q : VK) (u : Value) (s' : Shared) : Prop :=
 ∃ v H', s'.os = s.os /\ AllBare s'.gens /\ Un (frs outer) [] H H' s.heap s'.heap /\ HOk P w H' s'.heap /\ RelV v u /\ Q v H'
def CR (CX : CXT) (outer : List Env) (P : Program) (w : World) (H : Hp) (s : Shared) (Q : VK) (E : XK) (r : Result) (s' : Shared) : Prop :=
 match r with
 | .ok (.ret u) => CE outer P w H s Q u s'
 | .ok _ => False
 | .error e => CX outer H s E e s'
structure FnOk (P : Program) (w : World) (K : PySem.W.Frag) (mg : Str -> Option Value) (base : Heap) (CX : CXT) (k : Nat) (f : Addr) (fd : FuncData) (ps : List Str) (sp : Sp) : Prop where
 len : ∀ vs H Q E, sp vs H Q E -> vs.length = ps.length
 run : ∀ (A : Around) (outer : List Env) (s : Shared) (H : Hp) (args : Args) (us : List Value) (vs : List V) (Q : VK) (E : XK), Room k A -> Env0 P w K mg base A outer s H -> BindsTo s fd args (ps.zip us) -> Vals vs us -> sp vs H Q E ->
   codeAny (model P w) A (.call (.ref f) args) (CR CX outer P w H s Q E) s
theorem FnOk.mono {P : Program} {w : World} {K : PySem.W.Frag} {mg : Str -> Option Value} {base : Heap} {CX : CXT} {j k : Nat} {f : Addr} {fd : FuncData} {ps : List Str} {sp : Sp} (F : FnOk P w K mg base CX j f fd ps sp) (h : j <= k) :
   FnOk P w K mg base CX k f fd ps sp := ⟨F.len, fun A outer s H args us vs Q E hr => F.run A outer s H args us vs Q E (hr.mono h)⟩
theorem Env0.make {P : Program} {w : World} {K : PySem.W.Frag} {mg : Str -> Option Value} {base : Heap} {A : Around} {outer : List Env} {s : Shared} {H : Hp} (e : Env0 P w K mg base A outer s H) (C : Addr) (us : List Value) (kw : List (Str × Value)) :
   Env0 P w K mg base (A.under (.builtin "type.__call__" ⟨.ref C :: us, kw⟩)) outer s H := ⟨by first | exact e.frames | (simpa [Around.under, Code.envs, Code.isFrame, pushEnvs] using e.frames), e.mod, e.bs, e.bsz, e.funs, e.frf, e.hok, e.bare⟩
section
variable {X : Cx} {pins : List (Addr × Obj)} {σ : St} {H : Hp} {s s' : Shared}
theorem Inv.env0 (I : Inv X pins σ H s) : Env0 X.prog X.w X.K X.mg X.base X.A X.stack s H :=
 ⟨I.ok.frames, I.ok.mod, I.bs, Nat.le_trans I.ok.bsz I.sz, I.stack, I.stkFree, I.hok, I.bare⟩
theorem Inv.after {Q : VK} {u : Value} (I : Inv X pins σ H s) (h : CE X.stack X.prog X.w H s Q u s') : EP X pins σ Q u s' := by
 obtain ⟨v, H', os, bare, un, hok, r, q⟩ := h
 obtain ⟨hh, g, d, t, os'⟩ := s'
 obtain rfl : os' = s.os := os
 exact ⟨v, H', I.call (h' := hh) (g' := g) (d' := d) (t' := t) (ch := []) un hok bare (fun b z => absurd z (by simp)), r, q⟩
end
def Z7d (C : Addr) (sp : Sp) (dvs : List V) (E : XK) (t : TA) : TE := fun σ H Q => t σ H fun vs H1 => ∀ x dx, H1 x = none -> H1 dx = none -> dx ≠ x ->
 sp (.ref x :: (vs ++ dvs)) (upd (upd H1 dx (.own x)) x (.ins C dx [])) (fun v H2 => v = .non /\ Q (.ref x) H2) E
def Binds (K : PySem.W.Frag) (fd : FuncData) (ps : List Str) (ds : List Value) : Prop :=
 ∀ (s : Shared) (us : List Value), K.In s.heap -> (us ++ ds).length = ps.length -> BindsTo s fd ⟨us, []⟩ (ps.zip (us ++ ds))
theorem Binds.all {K : PySem.W.Frag} {fd : FuncData} {ps : List Str} (h : ∀ us : List Value, us.length = ps.length -> bindArgs fd ⟨us, []⟩ = pure (ps.zip us)) : Binds K fd ps [] := fun s us _ hl => by
 rw [List.append_nil] at hl ⊢
 exact .of_eq (h us hl)
def J2a (CX : CXT) (X : Cx) (E : XK) : Prop := ∀ (pins : List (Addr × Obj)) (σ : St) (H : Hp) (s : Shared) (e : Value) (s' : Shared), Inv X pins σ H s -> CX X.stack H s E e s' -> X.xe e s'
section
variable {X : Cx} {CX : CXT} {k : Nat} {f C : Addr} {fd : FuncData} {ps : List Str} {sp : Sp} {dvs : List V} {ds : List Value} {E : XK} {x m : Str} {p pos apos : Pos} {e o : Expr} {es : List Expr} {ta : TE} {t : TA}
structure Mk (K : PySem.W.Frag) (C f : Addr) : Prop where
 makes : PySem.W.makesIn K C = true
 init : PySem.W.findIn K (.ref C) "__init__" = some (some (.ref f))
 fn : PySem.W.isFn K (.ref f) = true
 kp : PySem.W.keepIn K (.ref C) = true
theorem V2p {pins : List (Addr × Obj)} {σ : St} {H : Hp} {s : Shared} {Q : VK} {us : List Value} {vs : List V} (M : Mk X.K C f) (F : FnOk X.prog X.w X.K X.mg X.base CX k f fd ps sp) (hr : Room (k + 1) X.A) (hb : Binds X.K fd ps ds) (hd : Vals dvs ds)
   (hx : J2a CX X E) (I : Inv X pins σ H s) (r : Vals vs us)
   (h : ∀ x dx, H x = none -> H dx = none -> dx ≠ x -> sp (.ref x :: (vs ++ dvs)) (upd (upd H dx (.own x)) x (.ins C dx [])) (fun v H2 => v = .non /\ Q (.ref x) H2) E) :
   wpAny (model X.prog X.w) X.A (call (.ref C) us) (EP X pins σ Q) X.xe s := by
 have hq := h (s.heap.objs.size + 1) s.heap.objs.size (I.hok.fresh (Nat.le_succ _)) (I.hok.fresh (Nat.le_refl _)) (Nat.ne_of_lt (Nat.lt_succ_self _))
 have I2 := Inv.made (C := C) I
 have r2 : Vals (V.ref (s.heap.objs.size + 1) :: (vs ++ dvs)) (Value.ref (s.heap.objs.size + 1) :: (us ++ ds)) := .cons rfl (r.append hd)
 have hl : (Value.ref (s.heap.objs.size + 1) :: us ++ ds).length = ps.length := by
   have e := r2.length
   rw [F.len _ _ _ _ hq] at e
   exact e.symm
 refine wpAny_call (G6f (f := f) I.kIn M.makes M.init (beq_iff_eq.mp M.fn) (codeAny_mono (F.run _ X.stack _ _ ⟨Value.ref (s.heap.objs.size + 1) :: us, []⟩ (Value.ref (s.heap.objs.size + 1) :: (us ++ ds)) _ _ E (hr.make C us [])
   (I2.env0.make C us []) (hb _ (Value.ref (s.heap.objs.size + 1) :: us) I2.kIn hl) r2 hq) fun r s' hq' => ?_))
 cases r with
 | error e => exact hx pins σ _ _ e s' I2 hq'
 | ok fl =>
   cases fl with
   | ret u =>
     obtain ⟨v, H', I3, rv, ev, q3⟩ := I2.after hq'
     subst ev
     exact ⟨rv, ⟨V.ref (s.heap.objs.size + 1), H', I3, rfl, q3⟩⟩
   | next => exact False.elim hq'
   | brk => exact False.elim hq'
   | cont => exact False.elim hq'
theorem D5j (M : Mk X.K C f) (F : FnOk X.prog X.w X.K X.mg X.base CX k f fd ps sp) (hr : Room (k + 1) X.A) (hg : Gl X x) (hm : X.mg x = some (.ref C)) (hb : Binds X.K fd ps ds) (hd : Vals dvs ds) (hx : J2a CX X E)
   (ha : PA X (e :: es) t) (hdb : (x == ("__debug__" : Str)) = false := by decide) (he : starEach (e :: es) X.env = (false, eval e X.env) :: starEach es X.env := by rfl) (hpl : (backTo pos (starEach es X.env)).any (·.1) = false := by rfl) :
   PE X (.Call (.Name x p) (e :: es) [] pos) (Z7d C sp dvs E t) := by
 intro pins s σ H Q I h
 refine wpAny_Call_Name_kw (A0y I hg hm ?_ hdb)
 refine PySem.W.callWith_K (h₀ := X.base) I.ok.mod.kin M.kp (thn (ha pos pins s σ H _ I h) fun us s1 ⟨vs, H1, I1, r, q⟩ => ⟨I1.kIn, ?_⟩) he hpl
 exact V2p M F hr hb hd hx I1 r q
end
section
variable {X : Cx} {CX : CXT} {k : Nat} {f C : Addr} {fd : FuncData} {ps ks : List Str} {sp : Sp} {E : XK} {x m : Str} {p pos apos kpos : Pos} {e o : Expr} {es : List Expr} {kws : List Keyword} {te ta : TE} {t tk : TA} {nm : Option Str}
structure KBinds (K : PySem.W.Frag) (fd : FuncData) (ps ks : List Str) (g : List Value -> List Value -> List Value) (gV : List V -> List V -> List V) : Prop where
 to : ∀ (s : Shared) (us ws : List Value), K.In s.heap -> (g us ws).length = ps.length -> BindsTo s fd ⟨us, ks.zip ws⟩ (ps.zip (g us ws))
 rel : ∀ {vs : List V} {us : List Value} {zs : List V} {ws : List Value}, Vals vs us -> Vals zs ws -> Vals (gV vs zs) (g us ws)
variable {g : List Value -> List Value -> List Value} {gV : List V -> List V -> List V}
end
structure FnScope (N P : List Str) (sc : Scope) : Prop where
 kind : sc.kind = .function
 co : sc.isCoroutine = false
 gen : sc.isGenerator = false
 nd : N.Nodup
 pre : N.take P.length = P
 par : ∀ x ∈ P, sc.names.lookup x = some .local \/ sc.names.lookup x = some .cell
 nofree : ∀ y ∈ sc.names, y.2 ≠ .free
theorem D2z {kindOf : Str -> Option NameKind} {x : Str} : ∀ {binds : List (Str × Value)} {m : Str -> Option Value}, (∀ v, (x, v) ∉ binds) -> bindL kindOf binds m x = m x
 | [], _, _ => rfl
 | (n, v) :: r, m, h => by
   unfold bindL
   rw [D2z fun w hw => h w (List.mem_cons_of_mem _ hw)]
   split
   . have : x ≠ n := by rintro rfl; exact h v List.mem_cons_self
     simp [this]
   . rfl
theorem D2q {kindOf : Str -> Option NameKind} {x : Str} : ∀ {binds : List (Str × Value)} {m : Str -> Option Value}, (∀ v, (x, v) ∉ binds) -> bindC kindOf binds m x = m x
 | [], _, _ => rfl
 | (n, v) :: r, m, h => by
   unfold bindC
   rw [D2q fun w hw => h w (List.mem_cons_of_mem _ hw)]
   split
   . rfl
   . have : x ≠ n := by rintro rfl; exact h v List.mem_cons_self
     simp [this]
theorem D3r {kindOf : Str -> Option NameKind} {x : Str} {v : Value} : ∀ {P : List Str} {vs : List Value} {i : Nat} {m : Str -> Option Value}, P.Nodup -> P[i]? = some x -> vs[i]? = some v -> kindOf x = some .local ->
   bindL kindOf (P.zip vs) m x = some v
 | [], _, _, _, _, h, _, _ => by simp at h
 | _ :: _, [], _, _, _, _, h, _ => by simp at h
 | p :: P, w :: vs, 0, m, nd, h1, h2, hk => by
   simp at h1 h2; subst h1; subst h2
   show bindL kindOf ((p, w) :: P.zip vs) m p = _
   unfold bindL
   rw [D2z fun v hv => (List.nodup_cons.mp nd).1 (List.of_mem_zip hv).1, if_pos hk]
   simp
 | p :: P, w :: vs, i + 1, m, nd, h1, h2, hk => by
   show bindL kindOf ((p, w) :: P.zip vs) m x = _
   unfold bindL
   exact D3r (i := i) (List.nodup_cons.mp nd).2 (by simpa using h1) (by simpa using h2) hk
theorem D2a {kindOf : Str -> Option NameKind} {x : Str} {v : Value} : ∀ {P : List Str} {vs : List Value} {i : Nat} {m : Str -> Option Value}, P.Nodup -> P[i]? = some x -> vs[i]? = some v -> kindOf x ≠ some .local ->
   bindC kindOf (P.zip vs) m x = some v
 | [], _, _, _, _, h, _, _ => by simp at h
 | _ :: _, [], _, _, _, _, h, _ => by simp at h
 | p :: P, w :: vs, 0, m, nd, h1, h2, hk => by
   simp at h1 h2; subst h1; subst h2
   show bindC kindOf ((p, w) :: P.zip vs) m p = _
   unfold bindC
   rw [D2q fun v hv => (List.nodup_cons.mp nd).1 (List.of_mem_zip hv).1, if_neg hk]
   simp
 | p :: P, w :: vs, i + 1, m, nd, h1, h2, hk => by
   show bindC kindOf ((p, w) :: P.zip vs) m x = _
   unfold bindC
   exact D2a (i := i) (List.nodup_cons.mp nd).2 (by simpa using h1) (by simpa using h2) hk
def A2t (N : List Str) (vs : List V) : St := vs.map some ++ List.replicate (N.length - vs.length) none
def Z3 (CX : CXT) (P : Program) (w : World) (K : PySem.W.Frag) (mg : Str -> Option Value) (base : Heap) (N : List Str) (qual : Str) (scope : Scope) (f : Addr) (cd : Value) (A : Around) (outer : List Env) (s : Shared) (H : Hp) (E : XK) : Cx where
 prog := P
 w := w
 K := K
 mg := mg
 base := base
 A := A.deeper (envOfC qual scope s.heap.objs.size f cd)
 N := N
 s₀ := s
 H₀ := H
 env := envOfC qual scope s.heap.objs.size f cd
 outer := outer
 stack := envOfC qual scope s.heap.objs.size f cd :: outer
 ex := []
 calm := true
 fn := fun _ => true
 pn := []
 xe := fun e s' => wpAny (model P w) (A.deeper (envOfC qual scope s.heap.objs.size f cd)) (leaving (envOfC qual scope s.heap.objs.size f cd) e) (fun _ s'' => CX outer H s E e s'') (fun e' s'' => CX outer H s E e' s'') s'
theorem G6g {sc : Scope} {n : Nat} {x : Str} (h : sc.names.lookup x = some .cell) : ∃ c, (cellsFrom n sc.names []).lookup x = some c := by
 have q := PySem.W.cellsFrom_some sc.names n [] (.inl h)
 exact Option.isSome_iff_exists.mp q
theorem D2r {CX : CXT} {P : Program} {w : World} {K : PySem.W.Frag} {mg : Str -> Option Value} {base : Heap} {N ps : List Str} {qual : Str} {scope : Scope} {f : Addr} {cd : Value} {A : Around} {outer : List Env} {s s1 : Shared} {H : Hp} {E : XK} {us : List Value} {vs : List V}
   (S : FnScope N ps scope) (hd : A.handled = none) (e0 : Env0 P w K mg base A outer s H) (hl : vs.length = ps.length) (r : Vals vs us)
   (x : InCallC s s.heap.objs.size (bindL (envOfC qual scope s.heap.objs.size f cd).kindOf (ps.zip us) fun _ => none) (cellsFrom (s.heap.objs.size + 1) scope.names []) (bindC (envOfC qual scope s.heap.objs.size f cd).kindOf (ps.zip us) fun _ => none) s1) :
   Inv (Z3 CX P w K mg base N qual scope f cd A outer s H E) [] (A2t N vs) H s1 := by
 have hpl : ps.length <= N.length := by have := congrArg List.length S.pre; rw [List.length_take] at this; omega
 obtain ⟨h1, tk, rfl, hk⟩ := x.done
 have noA : ∀ b : Addr, b ∉ (Z3 CX P w K mg base N qual scope f cd A outer s H E).ex := fun b z => absurd (show b ∈ ([] : List Addr) from z) (by simp)
 refine ⟨⟨e0.mod, S.kind, rfl, rfl, Nat.le_refl _, fun y z c h1 h2 => ?_, fun y hy => ?_, fun y c _ h => ?_, fun _ => hd, Around.frames_deeper e0.frames, .inr ⟨rfl, rfl⟩, fun b z => absurd z (noA b), e0.bs, e0.bsz, fun b _ _ => noA b, fun b z => absurd z (noA b), e0.funs, e0.frf⟩,
   rfl, e0.bare, Un.kept hk, ⟨_, x.toInCall.ns, fun i y v h1 h2 h3 => ?_⟩, fun y c h => ⟨_, x.cell y c h⟩, e0.hok.fresh (Nat.le_refl _), fun y c h => ?_, fun p hp => absurd (show p ∈ ([] : List (Addr × Obj)) from hp) (by simp), e0.hok.kept hk, ?_⟩
 . exact name_of_addr x.apart (PySem.mem_of_lookup h1) (PySem.mem_of_lookup h2)
 . have hy : scope.names.lookup y = some .cell \/ scope.names.lookup y = some .free := hy
   rcases hy with hy | hy
   . exact G6g hy
   . exact absurd rfl (S.nofree _ (PySem.mem_of_lookup hy))
 . exact Nat.le_of_lt (x.above y c (PySem.mem_of_lookup h))
 . have hi : i < vs.length := by
     unfold A2t at h2
     by_cases hi : i < vs.length
     . exact hi
     . rw [List.getElem?_append_right (by simpa using hi)] at h2
       rw [List.getElem?_replicate] at h2
       split at h2 <;> cases h2
   have ha : vs[i]? = some v := by
     unfold A2t at h2
     rw [List.getElem?_append_left (by simpa using hi), List.getElem?_map] at h2
     cases e : vs[i]? with
     | none => rw [e] at h2; cases h2
     | some a => rw [e] at h2; cases h2; rfl
   obtain ⟨u, hu, rv⟩ := r.get ha
   have hp : ps[i]? = some y := by
     rw [<- S.pre, List.getElem?_take_of_lt (by omega)]; exact h1
   have ndP : ps.Nodup := by rw [<- S.pre]; exact S.nd.sublist (List.take_sublist _ _)
   refine ⟨u, rv, ?_⟩
   rcases S.par y (List.mem_of_getElem? hp) with k | k
   . exact .inl ⟨k, D3r ndP hp hu k⟩
   . obtain ⟨c, e⟩ := G6g (n := s.heap.objs.size + 1) k
     refine .inr ⟨.inl k, c, e, ?_⟩
     have q := x.cell y c e
     rw [D2a ndP hp hu (by show scope.names.lookup y ≠ _; rw [k]; decide)] at q
     exact q
 . exact e0.hok.fresh (Nat.le_of_lt (x.above y c (PySem.mem_of_lookup h)))
 . unfold A2t
   show _ = N.length
   rw [List.length_append, List.length_map, List.length_replicate]
   omega
theorem V2x {CX : CXT} {P : Program} {w : World} {K : PySem.W.Frag} {mg : Str -> Option Value} {base : Heap} {k : Nat} {f : Addr} {name qual : Str} {params : Arguments} {body : List Stmt} {scope : Scope} {dV kV doc pm cdv ct oc : Value} {an od : Option Addr}
   {osl : Array (Option Value)} {N ps : List Str} {sp : Sp} (lk : K.lookup f = some ⟨oc, od, .func (PySem.W.fnOf name qual params body scope dV kV doc pm an cdv ct), osl⟩) (hcd : PySem.W.codeIn K cdv qual = true) (S : FnScope N ps scope)
   (len : ∀ vs H Q E, sp vs H Q E -> vs.length = ps.length)
   (hbody : ∀ (A : Around) (outer : List Env) (s : Shared) (H : Hp) (vs : List V) (Q : VK) (E : XK), Room k (A.deeper (envOfC qual scope s.heap.objs.size f cdv)) -> sp vs H Q E ->
     ∃ t, PSs (Z3 CX P w K mg base N qual scope f cdv A outer s H E) body t /\ t { nx := fun _ H' => Q .non H', rt := Q } (A2t N vs) H) :
   FnOk P w K mg base CX (k + 1) f (PySem.W.fnOf name qual params body scope dV kV doc pm an cdv ct) ps sp := by
 refine ⟨len, fun A outer s H args us vs Q E hr e0 hb r hsp => ?_⟩
 have hl := len _ _ _ _ hsp
 have KX : K.In s.heap := e0.mod.kin.keeps fun b o e => (e0.bs b o e).1
 have lim : s.heap.NoLimit := e0.mod.nolimit.keeps fun b o e => (e0.bs b o e).1
 have hkind : ∀ y ∈ ps.zip us, scope.names.lookup y.1 = some .local \/ (scope.names.lookup y.1 = some .cell /\ ((cellsFrom (s.heap.objs.size + 1) scope.names []).lookup y.1).isSome = true) := fun ⟨n, v⟩ hy => by
   rcases S.par n (List.of_mem_zip hy).1 with q | q
   . exact .inl q
   . exact .inr ⟨q, PySem.W.cellsFrom_some _ _ _ (.inl q)⟩
 refine codeAny_call_function hr.depth (KX _ _ lk) rfl S.co S.gen rfl (PySem.W.codeRec_of KX hcd) (hb _ _ _ _ ?_)
 refine wpAny_newFunctionEnv_cells S.kind hkind fun env he s1 x => ?_
 subst he
 refine ⟨lim.keeps x.toInCall.keep, codeAny_func ?_⟩
 obtain ⟨t, ht, hq⟩ := hbody A outer s H vs Q E (hr.deeper _) hsp
 have I : Inv (Z3 CX P w K mg base N qual scope f cdv A outer s H E) [] (A2t N vs) H s1 := D2r S hr.hd e0 hl r x
 refine wpAny_mono (ht [] s1 (A2t N vs) H _ I hq) (fun fl s' hs => ?_) fun e s' hs => hs
 have fin : ∀ {σ' : St} {H' : Hp} {v : V} {u : Value}, Inv (Z3 CX P w K mg base N qual scope f cdv A outer s H E) [] σ' H' s' -> RelV v u -> Q v H' -> CE outer P w H s Q u s' :=
   fun {σ' H' v u} J rv q => ⟨v, H', J.os, J.bare, J.base, J.hok, rv, q⟩
 cases fl with
 | ret u =>
   obtain ⟨v, σ', H', J, rv, q⟩ := hs
   exact fin J rv q
 | next =>
   obtain ⟨σ', H', J, q⟩ := hs
   exact fin (v := V.non) (u := Value.none) J rfl q
 | brk =>
   obtain ⟨_, _, _, q⟩ := hs
   exact False.elim q
 | cont =>
   obtain ⟨_, _, _, q⟩ := hs
   exact False.elim q
section
variable {X : Cx} {x : Str} {p pos : Pos} {e : Expr} {es : List Expr} {t : TA} {id T : String} {r : List V -> Hp -> VK -> Prop}
def tCB (r : List V -> Hp -> VK -> Prop) (t : TA) : TE := fun σ H Q => t σ H fun vs H1 => r vs H1 Q
theorem G9 (hc : A4y X (.builtin id) r) (hg : Gl X x) (hm : X.mg x = none) (hv : bootBuiltins x = some (.builtin id)) (ha : PA X (e :: es) t) (hn : x ≠ "__name__" := by decide) (hdb : (x == ("__debug__" : Str)) = false := by decide)
   (he : starEach (e :: es) X.env = (false, eval e X.env) :: starEach es X.env := by rfl) (hpl : (backTo pos (starEach es X.env)).any (·.1) = false := by rfl) : PE X (.Call (.Name x p) (e :: es) [] pos) (tCB r t) := by
 intro pins s σ H Q I h
 refine wpAny_Call_Name_kw (D5h I hg hm hv ?_ hn hdb)
 exact PyProof.Rows.callWith_builtin1 (thn (ha pos pins s σ H _ I h) fun us s1 ⟨vs, H1, I1, r1, q1⟩ => hc pins s1 σ H1 vs us Q I1 r1 q1) he hpl
theorem V4 (hc : A4y X (.type T) r) (hg : Gl X x) (hm : X.mg x = none) (hv : bootBuiltins x = some (.type T)) (ha : PA X (e :: es) t) (hn : x ≠ "__name__" := by decide) (hdb : (x == ("__debug__" : Str)) = false := by decide)
   (he : starEach (e :: es) X.env = (false, eval e X.env) :: starEach es X.env := by rfl) (hpl : (backTo pos (starEach es X.env)).any (·.1) = false := by rfl) : PE X (.Call (.Name x p) (e :: es) [] pos) (tCB r t) := by
 intro pins s σ H Q I h
 refine wpAny_Call_Name_kw (D5h I hg hm hv ?_ hn hdb)
 exact PyProof.Rows.callWith_type1 (thn (ha pos pins s σ H _ I h) fun us s1 ⟨vs, H1, I1, r1, q1⟩ => hc pins s1 σ H1 vs us Q I1 r1 q1) he hpl
end
end L2
namespace HT
open PySem PyProof.Rows
section
open PySem.SeqAt
open PySem.AutoSeq1 (wpAny_loadPart')
open PySem.MeetsSeq PySem.MeetsSeq2 PySem.MeetsSeq3
end
section
variable {prog : Program} {w : World} {A : Around} {E : Value -> Shared -> Prop} {s : Shared}
end
end HT
namespace L2
open PySem PySem.Spec PyProof.Rows
section
variable {X : Cx} {e : Expr} {te : TE} {lo hi : Option Expr} {tl th : TO} {pos p2 : Pos}
end
def ixN (n : Nat) (i : Int) : Option Nat := if 0 <= i then (if i < n then some i.toNat else none) else if -(n : Int) <= i then some (i + n).toNat else none
def atI {α : Type} (xs : List α) (i : Int) : Option α := (ixN xs.length i).bind fun j => xs[j]?
theorem Y7q {n : Nat} {i : Int} {j : Nat} (h : ixN n i = some j) : seqIndex? i n = some j /\ j < n /\ -(n : Int) <= i /\ i < n := by
 unfold ixN at h
 by_cases h0 : 0 <= i
 . rw [if_pos h0] at h
   by_cases h1 : i < n
   . rw [if_pos h1] at h
     have e : i.toNat = j := Option.some.inj h
     exact ⟨by rw [seqIndex_of h0 h1, e], by omega, by omega, h1⟩
   . rw [if_neg h1] at h; cases h
 . rw [if_neg h0] at h
   by_cases h1 : -(n : Int) <= i
   . rw [if_pos h1] at h
     have e : (i + n).toNat = j := Option.some.inj h
     exact ⟨by rw [seqIndex_neg (by omega) h1, e], by omega, h1, by omega⟩
   . rw [if_neg h1] at h; cases h
theorem U2w {α : Type} {xs : List α} {i : Int} {v : α} (h : atI xs i = some v) : ∃ j, seqIndex? i xs.length = some j /\ xs[j]? = some v /\ j < xs.length /\ -(xs.length : Int) <= i /\ i < xs.length := by
 unfold atI at h
 cases e : ixN xs.length i with
 | none => rw [e] at h; cases h
 | some j =>
   rw [e] at h
   obtain ⟨h1, h2, h3, h4⟩ := Y7q e
   exact ⟨j, h1, h, h2, h3, h4⟩
theorem G6 {α : Type} {xs : List α} {j : Nat} {v : α} (h : xs[j]? = some v) : atI xs (j : Int) = some v := by
 have hj : j < xs.length := (List.getElem?_eq_some_iff.mp h).1
 have e : ixN xs.length (j : Int) = some j := by
   unfold ixN
   rw [if_pos (by omega), if_pos (by omega)]; simp
 unfold atI; rw [e]; exact h
def Y6v (b : Expr) : Prop := ∀ o i, subscripted b false o i = operate [o, i] (getItem o i)
def IxR (X : Cx) (r : R2) : Prop :=
 ∀ (value slice : Expr) (pins : List (Addr × Obj)) (s : Shared) (σ : St) (H : Hp) (x y : V) (v u : Value) (Q : VK), Inv X pins σ H s -> RelV x v -> RelV y u -> r x y H Q ->
   subscripted slice false v u = operate [v, u] (getItem v u) -> wpAny (model X.prog X.w) X.A (subscriptTail value slice v u) (EP X pins σ Q) X.xe s
def MtR (X : Cx) (id : String) (r : V -> List V -> Hp -> VK -> Prop) : Prop :=
 ∀ (pins : List (Addr × Obj)) (s : Shared) (σ : St) (H : Hp) (x : V) (xs : List V) (v : Value) (us : List Value) (Q : VK), Inv X pins σ H s -> RelV x v -> Vals xs us -> r x xs H Q ->
   wpAny (model X.prog X.w) X.A (call (.builtin id) (v :: us)) (EP X pins σ Q) X.xe s
section
variable {X : Cx} {a b : Expr} {ta tb : TE} {pos : Pos}
theorem U2 {r : R2} (hr : IxR X r) (ha : PE X a ta) (hb : PE X b tb) (hs : Y6v b) : PE X (.Subscript a b pos) (tOp r ta tb) := by
 intro pins s σ H Q I h
 exact Subscript_ (Z4c ha hb I h fun v u s2 x y H2 I2 rx ry q => hr a b pins s2 σ H2 x y v u Q I2 rx ry q (hs _ _))
def Z9j (K : PySem.W.Frag) : R2 := fun x y H Q => ∃ p xs i v, x = .ref p /\ y = .int i /\ SqL K H p xs /\ atI xs i = some v /\ Q v H
def Z7p (K : PySem.W.Frag) : R2 := fun x y H Q => ∃ p xs i v, x = .ref p /\ y = .int i /\ SqT K H p xs /\ atI xs i = some v /\ Q v H
theorem A1z : IxR X (Z9j X.K) := by
 intro value slice pins s σ H x y v u Q I rx ry h hs
 obtain ⟨p, xs, i, z, rfl, rfl, hq, he, q⟩ := h
 cases rx
 obtain ⟨t, rfl⟩ := ry
 obtain ⟨its, r, pl, hz⟩ := I.list hq
 obtain ⟨j, h1, h2, h3, h4, h5⟩ := U2w he
 obtain ⟨w, ew, rw'⟩ := r.get h2
 have hl := r.length
 have hn := D5x
 have fin : EP X pins σ Q w s := ⟨z, H, I, rw', q⟩
 by_cases h0 : 0 <= i
 . have hj : i.toNat = j := by
     rw [seqIndex_of h0 h5] at h1
     exact Option.some.inj h1
   exact item_listR pl.isList h0 (by omega) (by rw [hj]; simpa using ew) fin hs
 . have hj : (i + (its.toArray.size : Int)).toNat = j := by
     rw [seqIndex_neg (by omega) h4] at h1
     rw [List.size_toArray, <- hl]
     exact Option.some.inj h1
   exact subscriptTail_builtinR (x := w) pl.isList.typeIs slot_list_getitem.lookup
     (wpAny_getItem_list_neg (Q := fun r s' => r = w /\ EP X pins σ Q r s') pl.isList (by omega) (by rw [List.size_toArray] <;> omega) (by omega) (by rw [hj]; simpa using ew) ⟨rfl, fin⟩) hs
theorem U0 : IxR X (Z7p X.K) := by
 intro value slice pins s σ H x y v u Q I rx ry h hs
 obtain ⟨p, xs, i, z, rfl, rfl, hq, he, q⟩ := h
 cases rx
 obtain ⟨t, rfl⟩ := ry
 obtain ⟨its, r, pl, hz⟩ := I.tuple hq
 obtain ⟨j, h1, h2, h3, h4, h5⟩ := U2w he
 obtain ⟨w, ew, rw'⟩ := r.get h2
 have hl := r.length
 have hn := D5x
 have fin : EP X pins σ Q w s := ⟨z, H, I, rw', q⟩
 exact subscriptTail_builtinR (x := w) pl.typeIs slot_tuple_getitem.lookup
   (getItem_tuple (j := j) (Q := fun r s' => r = w /\ EP X pins σ Q r s') pl (by omega) (by omega) (by rw [List.size_toArray, <- hl]; exact h1) (by simpa using ew) ⟨rfl, fin⟩) hs
def B5w : V -> Bool
 | .non => true
 | .bl _ => true
 | .int _ => true
 | .str _ => true
 | _ => false
def eqV : V -> V -> Bool
 | .non, .non => true
 | .bl a, .bl b => a == b
 | .bl a, .int b => (if a then 1 else 0) == b
 | .int a, .bl b => a == (if b then 1 else 0)
 | .int a, .int b => a == b
 | .str a, .str b => a == b
 | _, _ => false
theorem Z2u {A : Around} {s : Shared} {y x : V} {u v : Value} (ry : RelV y u) (rx : RelV x v) (fy : B5w y = true) (fx : B5w x = true) : SeqAt.EqAt A s u v (eqV y x) := by
 cases y with
 | non =>
   cases ry
   cases x with
   | non => cases rx; exact SeqAt.EqAt.same _
   | bl b => cases rx; exact SeqAt.EqAt.none_bool b
   | int b => obtain ⟨t, rfl⟩ := rx; exact SeqAt.EqAt.none_int b t
   | str b => obtain ⟨t, rfl⟩ := rx; exact SeqAt.EqAt.none_str b t
   | _ => exact absurd (show false = true from fx) Bool.false_ne_true
 | bl a =>
   cases ry
   cases x with
   | non => cases rx; exact SeqAt.EqAt.bool_none a
   | bl b => cases rx; exact SeqAt.EqAt.bool_bool a b
   | int b => obtain ⟨t, rfl⟩ := rx; exact SeqAt.EqAt.bool_int a b t
   | str b => obtain ⟨t, rfl⟩ := rx; exact SeqAt.EqAt.bool_str a b t
   | _ => exact absurd (show false = true from fx) Bool.false_ne_true
 | int a =>
   obtain ⟨t', rfl⟩ := ry
   cases x with
   | non => cases rx; exact SeqAt.EqAt.int_none a t'
   | bl b => cases rx; exact SeqAt.EqAt.int_bool a t' b
   | int b => obtain ⟨t, rfl⟩ := rx; exact SeqAt.EqAt.int_int a t' b t
   | str b => obtain ⟨t, rfl⟩ := rx; exact SeqAt.EqAt.int_str a t' b t
   | _ => exact absurd (show false = true from fx) Bool.false_ne_true
 | str a =>
   obtain ⟨t', rfl⟩ := ry
   cases x with
   | non => cases rx; exact SeqAt.EqAt.str_none a t'
   | bl b => cases rx; exact SeqAt.EqAt.str_bool a t' b
   | int b => obtain ⟨t, rfl⟩ := rx; exact SeqAt.EqAt.str_int a t' b t
   | str b => obtain ⟨t, rfl⟩ := rx; exact SeqAt.EqAt.str_str a t' b t
   | _ => exact absurd (show false = true from fx) Bool.false_ne_true
 | _ => exact absurd (show false = true from fy) Bool.false_ne_true
def eqU (x : V) (u : Value) : Bool := match u with
 | .none => eqV .non x
 | .bool b => eqV (.bl b) x
 | .int i _ => eqV (.int i) x
 | .str z _ => eqV (.str z) x
 | _ => false
theorem V3t {x y : V} {u : Value} (r : RelV y u) (f : B5w y = true) : eqU x u = eqV y x := by
 cases y with
 | non => cases r; rfl
 | bl b => cases r; rfl
 | int i => obtain ⟨t, rfl⟩ := r; rfl
 | str z => obtain ⟨t, rfl⟩ := r; rfl
 | _ => exact absurd (show false = true from f) Bool.false_ne_true
theorem B5v {x : V} : ∀ {xs : List V} {us : List Value}, Vals xs us -> xs.all B5w = true -> us.any (eqU x) = xs.any fun y => eqV y x
 | _, _, .nil, _ => rfl
 | y :: xs, u :: us, .cons r t, f => by
   rw [List.all_cons, Bool.and_eq_true] at f
   rw [List.any_cons, List.any_cons, V3t r f.1, B5v t f.2]
theorem A9a {A : Around} {s : Shared} {x : V} {v : Value} (rx : RelV x v) (fx : B5w x = true) : ∀ {xs : List V} {us : List Value}, Vals xs us -> xs.all B5w = true -> ∀ u ∈ us, SeqAt.EqAt A s u v (eqU x u)
 | _, _, .nil, _ => fun u hu => by cases hu
 | y :: xs, u :: us, .cons r t, f => fun u' hu => by
   rw [List.all_cons, Bool.and_eq_true] at f
   rcases List.mem_cons.mp hu with rfl | hu
   . rw [V3t r f.1]; exact Z2u r rx f.1 fx
   . exact A9a rx fx t f.2 u' hu
def inV (x : V) (xs : List V) : Bool := xs.any fun y => eqV y x
def rIn (K : PySem.W.Frag) (neg : Bool) : R2 := fun x y H Q => ∃ p xs, y = .ref p /\ (SqL K H p xs \/ SqT K H p xs) /\ B5w x = true /\ xs.all B5w = true /\ Q (.bl (if neg then !inV x xs else inV x xs)) H
theorem A4x : OpR X (compareOp .In) (rIn X.K false) := by
 intro pins s σ H x y v u Q I rx ry h
 obtain ⟨p, xs, rfl, hq, fx, fs, q⟩ := h
 cases ry
 rcases hq with hq | hq
 . obtain ⟨its, r, pl, hz⟩ := I.list hq
   refine SeqAt.in_listAt (eqU x) pl.isList (fun w hw => A9a rx fx r fs w (by simpa using hw)) ⟨.bl _, H, I, rfl, ?_⟩
   rw [show its.toArray.any (eqU x) = its.any (eqU x) by simp, B5v r fs]
   exact q
 . obtain ⟨its, r, pl, hz⟩ := I.tuple hq
   refine SeqAt.in_tupleAt (eqU x) pl (fun w hw => A9a rx fx r fs w (by simpa using hw)) ⟨.bl _, H, I, rfl, ?_⟩
   rw [show its.toArray.any (eqU x) = its.any (eqU x) by simp, B5v r fs]
   exact q
theorem D6e : OpR X (compareOp .NotIn) (rIn X.K true) := by
 intro pins s σ H x y v u Q I rx ry h
 obtain ⟨p, xs, rfl, hq, fx, fs, q⟩ := h
 cases ry
 rcases hq with hq | hq
 . obtain ⟨its, r, pl, hz⟩ := I.list hq
   refine SeqAt.notIn_listAt (eqU x) pl.isList (fun w hw => A9a rx fx r fs w (by simpa using hw)) ⟨.bl _, H, I, rfl, ?_⟩
   rw [show its.toArray.any (eqU x) = its.any (eqU x) by simp, B5v r fs]
   exact q
 . obtain ⟨its, r, pl, hz⟩ := I.tuple hq
   refine SeqAt.notIn_tupleAt (eqU x) pl (fun w hw => A9a rx fx r fs w (by simpa using hw)) ⟨.bl _, H, I, rfl, ?_⟩
   rw [show its.toArray.any (eqU x) = its.any (eqU x) by simp, B5v r fs]
   exact q
theorem B5u : A4y X (.builtin "len") (fun xs H Q => ∃ p ys, xs = [.ref p] /\ (SqL X.K H p ys \/ SqT X.K H p ys) /\ Q (.int ys.length) H) := by
 intro pins s σ H xs us Q I r h
 obtain ⟨p, ys, rfl, hq, q⟩ := h
 obtain ⟨u, rfl, rx⟩ := C3h r
 cases rx
 have hn := D5x
 rcases hq with hq | hq
 . obtain ⟨its, r', pl, hz⟩ := I.list hq
   have hlen := r'.length
   exact Calls.call_len_list pl.isList (by simp only [List.size_toArray] <;> omega) ⟨.int ys.length, H, I.tok _, ⟨s.toks + 1, by rw [List.size_toArray, hlen]⟩, q⟩
 . obtain ⟨its, r', pl, hz⟩ := I.tuple hq
   have hlen := r'.length
   exact len_tuple pl (by simp only [List.size_toArray] <;> omega) ⟨.int ys.length, H, I.tok _, ⟨s.toks + 1, by rw [List.size_toArray, hlen]⟩, q⟩
theorem A1x : A4y X (.builtin "len") (fun xs H Q => ∃ z, xs = [.str z] /\ z.length <= sizeLine /\ Q (.int z.length) H) := by
 intro pins s σ H xs us Q I r h
 obtain ⟨z, rfl, hz, q⟩ := h
 obtain ⟨u, rfl, t, rfl⟩ := C3h r
 have hn := D5x
 exact len_str (by omega) ⟨.int z.length, H, I.tok _, ⟨_, rfl⟩, q⟩
theorem A6c : A4y X (.type "list") (fun xs H Q => ∃ p ys, xs = [.ref p] /\ (SqL X.K H p ys \/ SqT X.K H p ys) /\ ∀ l, H l = none -> Q (.ref l) (upd H l (.lst ys))) := by
 intro pins s σ H xs us Q I r h
 obtain ⟨p, ys, rfl, hq, q⟩ := h
 obtain ⟨u, rfl, rx⟩ := C3h r
 cases rx
 have fin : ∀ (its : List Value), Vals ys its -> ys.length <= sizeLine -> ∀ (h' : Heap) (c' : Nat), (∀ b o', s.heap.get? b = some o' -> h'.get? b = some o') ->
     h'.get? s.heap.objs.size = some { cls := .type "list", dict := none, data := .seq its.toArray c', slots := #[] } -> EP X pins σ Q (.ref s.heap.objs.size) { s with heap := h' } := fun its r' hz h' c' kp e =>
   ⟨.ref s.heap.objs.size, _, I.laid (t' := s.toks) kp (Nat.le_refl _) (show ObjOk X.prog X.w _ h' _ (.lst ys) from ⟨hz, its, c', r', e⟩), rfl, q _ (I.hok.fresh (Nat.le_refl _))⟩
 rcases hq with hq | hq
 . obtain ⟨its, r', pl, hz⟩ := I.list hq
   have hlen := r'.length
   obtain ⟨o, ho, hc, n, hd⟩ := pl.isList
   exact call_list_seq p (.inl rfl) ho hc hd (fun h' c' kp e => fin its r' hz h' c' kp e) (by simp only [List.size_toArray] <;> omega)
 . obtain ⟨its, r', pl, hz⟩ := I.tuple hq
   have hlen := r'.length
   obtain ⟨o, ho, hc, n, hd⟩ := pl
   exact call_list_seq p (.inr rfl) ho hc hd (fun h' c' kp e => fin its r' hz h' c' kp e) (by simp only [List.size_toArray] <;> omega)
def tyV (K : PySem.W.Frag) (T : String) (x : V) (H : Hp) : Prop := match x with
 | .str _ => T = "str"
 | .int _ => T = "int"
 | .ref p => (T = "list" /\ ∃ xs, SqL K H p xs) \/ (T = "tuple" /\ ∃ o, K.lookup p = some o /\ o.cls = .type "tuple" /\ o.dict = none) \/
     (T = "dict" /\ ((∃ kvs, H p = some (.dK kvs)) \/ ∃ kvs, H p = some (.dT kvs))) \/ (T = "set" /\ ∃ S n, H p = some (.set S n))
 | _ => False
theorem Z3g {pins : List (Addr × Obj)} {σ : St} {H : Hp} {s : Shared} {T : String} {x : V} {v : Value} (I : Inv X pins σ H s) (r : RelV x v) (ty : tyV X.K T x H) :
   s.TypeIs v T /\ ∀ a, v = .ref a -> ∃ ob, s.heap.get? a = some ob /\ ob.dict = none := by
 cases x with
 | str z =>
   obtain ⟨t, rfl⟩ := r
   cases (show T = "str" from ty)
   exact ⟨typeIs_str s z t, fun _ e => nomatch e⟩
 | int i =>
   obtain ⟨t, rfl⟩ := r
   cases (show T = "int" from ty)
   exact ⟨typeIs_int s i t, fun _ e => nomatch e⟩
 | ref p =>
   cases r
   rcases ty with ⟨rfl, xs, hq⟩ | ⟨rfl, o, hk, hc, hd⟩ | ⟨rfl, hk⟩ | ⟨rfl, S, n, hk⟩
   . obtain ⟨its, _, pl, _⟩ := I.list hq
     refine ⟨pl.isList.typeIs, fun a e => ?_⟩
     cases e
     obtain ⟨o, n, e, c, hd, _⟩ := pl
     exact ⟨o, e, hd⟩
   . refine ⟨⟨o, I.kIn p o hk, hc⟩, fun a e => ?_⟩
     cases e
     exact ⟨o, I.kIn _ o hk, hd⟩
   . have z : ∃ o, s.heap.get? p = some o /\ o.ExactDict := by
       rcases hk with ⟨kvs, hk⟩ | ⟨kvs, hk⟩
       . obtain ⟨_, _, _, _, o, _, _, e, ex, _⟩ := I.hok p _ hk
         exact ⟨o, e, ex⟩
       . obtain ⟨_, _, _, _, o, _, _, e, ex, _⟩ := I.hok p _ hk
         exact ⟨o, e, ex⟩
     obtain ⟨o, e, ex⟩ := z
     refine ⟨⟨o, e, ex.1⟩, fun a e2 => ?_⟩
     cases e2
     exact ⟨o, e, ex.2.1⟩
   . obtain ⟨o, _, _, _, e, ex, _⟩ := I.hok p _ hk
     refine ⟨⟨o, e, ex.1⟩, fun a e2 => ?_⟩
     cases e2
     exact ⟨o, e, ex.2.1⟩
 | _ => exact False.elim ty
def tBM0 (K : PySem.W.Frag) (T : String) (r : V -> List V -> Hp -> VK -> Prop) (to : TE) : TE := fun σ H Q => to σ H fun x H1 => tyV K T x H1 /\ r x [] H1 Q
variable {o e : Expr} {es : List Expr} {to : TE} {t : TA} {name : Str} {apos cpos : Pos} {T id : String} {r : V -> List V -> Hp -> VK -> Prop}
theorem Z3q (pa : PlainAttrs T) (slot : Slot T name id) (hty : typeOf (.builtin id) = pure (.type "method_descriptor")) (hm : MtR X id r) (ho : PE X o to)
   (hbase : attributeBase o name X.env (eval o X.env) = eval o X.env := by rfl) (hline : (apos.endLine == cpos.line) = true := by rfl) : PE X (.Call (.Attribute o name apos) [] [] cpos) (tBM0 X.K T r to) := by
 intro pins s σ H Q I h
 refine wpAny_Call_method0_late hbase hline (thn (ho pins s σ H _ I h) fun v s1 ⟨x, H1, I1, r1, ty, q1⟩ => ?_)
 obtain ⟨h1, h2⟩ := Z3g I1 r1 ty
 exact ⟨T, id, pa, slot, hty, h1, h2, Calls.callWith_builtin rfl (PySem.evalArgs_none (hm pins s1 σ H1 x [] v [] Q I1 r1 .nil q1))⟩
end
def MtM (X : Cx) (id : String) (r : V -> List V -> Hp -> VK -> Prop) : Prop :=
 ∀ (pins : List (Addr × Obj)) (s : Shared) (σ : St) (H : Hp) (x : V) (xs : List V) (v : Value) (us : List Value) (Q : VK), Inv X pins σ H s -> RelV x v -> Vals xs us -> r x xs H Q ->
   wpAny (model X.prog X.w) X.A (call (.builtin id) (v :: us)) (EP X pins σ Q) X.xe s
theorem Vals.one : ∀ {x : V} {us : List Value}, Vals [x] us -> ∃ u, us = [u] /\ RelV x u
 | _, _, .cons r .nil => ⟨_, rfl, r⟩
theorem Vals.two : ∀ {x y : V} {us : List Value}, Vals [x, y] us -> ∃ u v, us = [u, v] /\ RelV x u /\ RelV y v
 | _, _, _, .cons r (.cons q .nil) => ⟨_, _, rfl, r, q⟩
theorem Vals.reverse {xs : List V} {us : List Value} (h : Vals xs us) : Vals xs.reverse us.reverse := by
 induction h with
 | nil => exact .nil
 | cons r t ih => rw [List.reverse_cons, List.reverse_cons]; exact Vals.append ih (.cons r .nil)
theorem Vals.rep {xs : List V} {us : List Value} (h : Vals xs us) : ∀ k : Nat, Vals (List.replicate k xs).flatten (List.replicate k us).flatten
 | 0 => .nil
 | k + 1 => by
   rw [List.replicate_succ, List.replicate_succ, List.flatten_cons, List.flatten_cons]
   exact Vals.append h (Vals.rep h k)
theorem D2p (its : List Value) : ∀ (k : Nat) (acc : List Value),
   List.foldl (fun x1 x2 => x1 ++ x2) acc.toArray (List.replicate k its.toArray) = (acc ++ (List.replicate k its).flatten).toArray
 | 0, acc => by simp
 | k + 1, acc => by
   have e : acc.toArray ++ its.toArray = (acc ++ its).toArray := by simp
   have e2 : (acc ++ its) ++ (List.replicate k its).flatten = acc ++ (List.replicate (k + 1) its).flatten := by
     rw [List.replicate_succ, List.flatten_cons, List.append_assoc]
   rw [<- e2, <- D2p its k (acc ++ its), <- e, List.replicate_succ, List.foldl_cons]
section
variable {X : Cx} {pins : List (Addr × Obj)} {σ : St} {H : Hp} {s : Shared} {l b : Addr} {xs ys zs : List V}
theorem Inv.lset {its its' : List Value} {n : Nat} {f : Array Value -> Array Value} {t' : Nat} (I : Inv X pins σ H s) (hH : H l = some (.lst xs))
   (e : s.heap.get? l = some { cls := .type "list", data := .seq its.toArray n }) (hf : f its.toArray = its'.toArray) (hv : Vals ys its') (hz : ys.length <= sizeLine) :
   Inv X pins σ (upd H l (.lst ys)) { s with heap := s.heap.update l (Obj.mapSeq f), toks := t' } := by
 have q := PySem.IsL.update e f
 rw [hf] at q
 refine I.write (x := l) (e := l) (by rw [hH]; exact trivial) (.inl rfl) (fun b' u hb hu => (Heap.get?_update_other s.heap (Obj.mapSeq f) (Ne.symm hb)).trans hu) ⟨_, q⟩ ?_
 exact ⟨hz, its', _, hv, q⟩
theorem Inv.lnew {its : List Value} {t' : Nat} (I : Inv X pins σ H s) (hv : Vals ys its) (hz : ys.length <= sizeLine) :
   Inv X pins σ (upd H s.heap.objs.size (.lst ys)) { s with heap := s.heap.push { cls := .type "list", data := .seq its.toArray }, toks := t' } :=
 I.laid (fun _ _ q => Heap.get?_push_of_some _ q) (Nat.le_refl _) ⟨hz, its, 0, hv, Heap.get?_push_size _ rfl⟩
theorem Inv.fresh (I : Inv X pins σ H s) : H s.heap.objs.size = none := I.hok.fresh (Nat.le_refl _)
theorem Inv.lstM (I : Inv X pins σ H s) (hH : H l = some (.lst xs)) : xs.length <= sizeLine /\ ∃ (its : List Value) (n : Nat), Vals xs its /\ xs.length = its.length /\ s.heap.get? l = some { cls := .type "list", data := .seq its.toArray n } := by
 obtain ⟨z, its, n, r, e⟩ := I.hok l _ hH
 exact ⟨z, its, n, r, r.length, e⟩
theorem V2w {n : Nat} (h : n <= sizeLine) : Builtin.List.listTooLong n = false := by
 unfold Builtin.List.listTooLong
 exact decide_eq_false (by omega)
end
section
variable {X : Cx}
def Y7s : V -> List V -> Hp -> VK -> Prop := fun x vs H Q => ∃ l xs y, x = .ref l /\ vs = [y] /\ H l = some (.lst xs) /\ xs.length < sizeLine /\ Q .non (upd H l (.lst (xs ++ [y])))
theorem D3q : MtM X "list.append" Y7s := by
 intro pins s σ H x vs v us Q I rx rv h
 obtain ⟨l, xs, y, rfl, rfl, hH, hz, q⟩ := h
 cases rx
 obtain ⟨u, rfl, ru⟩ := rv.one
 obtain ⟨z, its, n, r, hl, e⟩ := I.lstM hH
 refine call_meets F.slot_list_append ⟨_, e, rfl⟩ F.entry_list_append (F.args_list_append_2 _ _) (PySem.list_append l its.toArray n u (by rw [List.size_toArray]; omega)) ⟨e, ?_⟩
 refine ⟨.non, _, I.lset (its' := its ++ [u]) hH e (by simp) (r.append (.cons ru .nil)) ?_, rfl, q⟩
 rw [List.length_append, List.length_singleton]
 omega
def rCat : R2 := fun x y H Q => ∃ l b xs zs, x = .ref l /\ y = .ref b /\ H l = some (.lst xs) /\ H b = some (.lst zs) /\ xs.length + zs.length <= sizeLine /\ ∀ p, H p = none -> Q (.ref p) (upd H p (.lst (xs ++ zs)))
theorem C3y : OpR X (binaryOp .Add) rCat := by
 intro pins s σ H x y v u Q I rx ry h
 obtain ⟨l, b, xs, zs, rfl, rfl, hH, hB, hz, q⟩ := h
 cases rx
 cases ry
 obtain ⟨z, its, n, r, hl, e⟩ := I.lstM hH
 obtain ⟨z2, its2, n2, r2, hl2, e2⟩ := I.lstM hB
 refine PySem.P.add_list e e2 ?_ (by rw [List.size_toArray, List.size_toArray]; omega)
 have ea : its.toArray ++ its2.toArray = (its ++ its2).toArray := by simp
 rw [ea]
 exact ⟨.ref _, _, I.lnew (t' := s.toks) (r.append r2) (by rw [List.length_append]; omega), rfl, q _ I.fresh⟩
def rRep : R2 := fun x y H Q => ∃ l k xs, x = .ref l /\ y = .int k /\ H l = some (.lst xs) /\ -(2 ^ 63) <= k /\ k < 2 ^ 63 /\ xs.length * k.toNat <= sizeLine /\
 ∀ p, H p = none -> Q (.ref p) (upd H p (.lst (List.replicate k.toNat xs).flatten))
theorem U2a {α : Type} (xs : List α) (k : Nat) : (List.replicate k xs).flatten.length = k * xs.length := by
 induction k with
 | zero => simp
 | succ k ih => rw [List.replicate_succ, List.flatten_cons, List.length_append, ih, Nat.succ_mul, Nat.add_comm]
theorem V1e : OpR X (binaryOp .Mult) rRep := by
 intro pins s σ H x y v u Q I rx ry h
 obtain ⟨l, k, xs, rfl, rfl, hH, h1, h2, hz, q⟩ := h
 cases rx
 obtain ⟨t, rfl⟩ := ry
 obtain ⟨z, its, n, r, hl, e⟩ := I.lstM hH
 have hlen : its.toArray.size * k.toNat <= sizeLine := by rw [List.size_toArray, <- hl]; exact hz
 have hcap : ¬ its.toArray.size * k.toNat > (2 ^ 63 - 1) / 8 := by
   have : (sizeLine : Nat) <= (2 ^ 63 - 1) / 8 := by decide
   omega
 have hfit : ¬ (!Builtin.List.listFitsIndex k) = true := by
   rw [fitsIndex_both h1 h2]
   exact Bool.false_ne_true
 have hlong : ¬ Builtin.List.listTooLong (its.toArray.size * k.toNat) = true := by
   rw [V2w hlen]
   exact Bool.false_ne_true
 have hnew : List.foldl (fun x1 x2 => x1 ++ x2) #[] (List.replicate (if its.toArray.isEmpty = true then 0 else k.toNat) its.toArray) = (List.replicate k.toNat its).flatten.toArray := by
   have f0 : ∀ m : Nat, List.foldl (fun x1 x2 => x1 ++ x2) #[] (List.replicate m its.toArray) = (List.replicate m its).flatten.toArray := fun m => by
     have := D2p its m []
     rw [List.nil_append] at this
     exact this
   rw [f0]
   cases its with
   | nil => simp
   | cons a r' => rw [if_neg (by simp)]
 refine wpAny_binaryOp_repeat_ref (T := "list") (U := "int") (by decide) ⟨_, e, rfl⟩ (fun s' => typeIs_int s' k t) noFill_list_mul F.fills_int_mul F.slot_int_rmul repeat_list F.slot_int_index.lookup
   (call_meets F.slot_int_rmul (typeIs_int s k t) F.entry_int_rmul (F.args_int_rmul_2 _ _) (int___rmul___int_list k t l its.toArray n)
     ⟨e, rfl, ⟨_, e, rfl⟩, call_meets F.slot_list_mul ⟨_, e, rfl⟩ F.entry_list_mul (F.args_list_mul_2 _ _) (AutoListH.list___mul___list_int_3 l its.toArray n k t hfit hcap hlong) ⟨e, ?_⟩⟩)
 rw [hnew]
 exact ⟨.ref _, _, I.lnew (t' := s.toks) (r.rep k.toNat) (by rw [U2a, Nat.mul_comm]; exact hz), rfl, q _ I.fresh⟩
end
section
variable {prog : Program} {w : World} {A : Around} {E : Value -> Shared -> Prop} {s : Shared}
end
section
variable {X : Cx}
end
end L2
namespace Att
open PySem PySem.W PySem.Calls PyProof.Rows
theorem C2s {P : Params} {h : Heap} : ∀ (ns : List Int) (vs : List Value), WellAll P h vs (ns.map WData.int) -> IntsAre vs ns := by
 intro ns
 induction ns with
 | nil =>
   intro vs w
   rw [List.map_nil] at w
   cases w
   exact .nil
 | cons n ns ih =>
   intro vs w
   rw [List.map_cons] at w
   cases w with
   | cons a b =>
     cases a
     exact .cons _ _ (ih _ b)
theorem U4x {l : OpenLaw} {n : Nat} (hn : l.most = some n) {P : Params} {h : Heap} {args : List WData} {vals : List Value}
   (hpre : l.row.toRowW.claim.pre args = true) (hwl : WellAll P h vals args) :
   ∃ a vs ns, vals = [Value.ref a] /\ args = [WData.list (ns.map WData.int)] /\ h.get? a = some { cls := .type "list", data := .seq vs.toArray } /\ IntsAre vs ns /\ ns.length <= n := by
 have hsh : WShape.hasAll [] args [.list .int] = true := (pre_splitW hpre).1
 have hc : l.pre.holds [] { args := args } = true := (pre_splitW hpre).2
 obtain ⟨d, r, rfl, h1, h2⟩ := hasAllW_cons hsh
 obtain rfl := hasAllW_nil h2
 obtain ⟨xs, rfl, h3⟩ := hasW_list h1
 obtain ⟨ns, rfl⟩ := items_int h3
 have hlen : ns.length <= n := by
   unfold OpenLaw.pre at hc
   have h4 : (WTm.not (.lt (.lit (.int (n : Int))) (.len (.arg 0)))).holds [] { args := [.list (ns.map .int)] } = true := by
     have h4 := (holds_andW hc).1
     rw [hn] at h4
     exact h4
   have h5 := condW_of h4 (w_not (w_lt w_lit (w_len_list (w_arg rfl))))
   rw [List.length_map] at h5
   refine Nat.le_of_not_lt fun q => ?_
   have q' : (n : Int) < ((ns.length : Nat) : Int) := by omega
   first
     | (rw [decide_eq_true q'] at h5; exact absurd h5 (by decide))
     | (simp at h5; omega)
 cases hwl with
 | cons w1 w2 =>
   cases w2
   cases w1 with
   | list ho hall => exact ⟨_, _, ns, rfl, rfl, ho, C2s ns _ hall, hlen⟩
theorem U5v (l : OpenLaw) (args : List WData) : l.row.toRowW.claim.post args (.bool true) args = true :=
 postW_of (r := l.row.toRowW) (X := (true == true))
   (show WShape.has [] (.bool true) .bool = true by first | rfl | decide | simp [WShape.has, WShape.arms, WShape.armsAll])
   (show (WTm.eq .res (.lit (.bool true))).value [] { args := args, res := some (.bool true), after := args } = some (.bool (true == true)) from w_eq_bool (w_res rfl) w_lit) rfl
theorem attach_call {l : OpenLaw} {n : Nat} {q : Program} {loose : List Str} {XP : (Str -> Option Value) -> Heap -> Prop} {YP : World -> Heap -> Prop} {d : DefRec}
   (hn : l.most = some n) (hdf : d.params.defaults = [])
   (call : ∀ (w : World) (s₀ s₁ : Shared) (mg mb : Str -> Option Value) (fa : Addr) (o : Obj) (pm cd doc : Value) (a : Addr) (vs : List Value) (ns : List Int),
     Ground q loose [] XP w s₀ mg mb s₁.heap -> YP w s₁.heap ->
     s₁.heap.get? fa = some o -> o.data = .func (docDef d.name d.params d.body d.scope pm cd doc) -> s₁.heap.CodeRec cd d.name -> mg d.name = some (.ref fa) ->
     s₁.heap.get? a = some { cls := .type "list", data := .seq vs.toArray } -> IntsAre vs ns -> ns.length <= n -> s₁.gens = #[] ->
     codeAny (model l.prog w) callerA (.call (.ref fa) ⟨[.ref a], []⟩) (fun r s' => r = .ok (.ret (.bool true)) /\ OldK s₁.heap s'.heap /\ s'.os = s₁.os /\ AllBare s'.gens) s₁) :
   WalkO q loose XP YP l.row.toRowW d [] (fun f vs => PySem.call f vs) := by
 intro w s₀ s₁ mg mb G Y fa o pm cd doc dV kV ho hd hcd hD hmg hg args vals as hpre hlay hrd hwl hlo
 obtain rfl : dV = .none := Dflts.none hD hdf
 obtain rfl : kV = .none := Dflts.noKw hD
 obtain ⟨a, vs, ns, rfl, rfl, hobj, hints, hlen⟩ := U4x hn hpre hwl
 refine enter_call (codeAny_mono (call w s₀ s₁ mg mb fa o pm cd doc a vs ns G Y ho (fd_plain hd) hcd hmg hobj hints hlen hg) fun r s' hq => ?_)
 obtain ⟨rfl, h2, h3, h4⟩ := hq
 exact ⟨.inl ⟨.bool true, .bool true, [], rfl, fun _ => rfl, .bool true, U5v l _, fun _ => ⟨List.Pairwise.nil, fun _ hm => (nomatch hm)⟩⟩, h2, h3, h4⟩
section
variable {prog : Program} {w : World} {A : Around} {E : Value -> Shared -> Prop} {s : Shared} {K : Frag}
end
end Att
namespace L2
open PySem PySem.Spec PyProof.Rows
theorem D2j : ∀ {vs : List Value} {ns : List Int}, IntsAre vs ns -> Vals (ns.map V.int) vs
 | _, _, .nil => .nil
 | _, _, .cons n t h => .cons ⟨t, rfl⟩ (D2j h)
def D7 (s : Stmt) (j : Nat) : Stmt := match s with
 | .ClassDef _ _ _ body _ _ _ _ _ _ _ => body.getD j (.Pass ⟨0, 0, 0, 0⟩)
 | _ => .Pass ⟨0, 0, 0, 0⟩
def B4 (s : Stmt) : Arguments := match s with
 | .FunctionDef _ a _ _ _ _ _ _ _ _ => a
 | _ => { posonlyargs := [], args := [], vararg := none, kwonlyargs := [], kw_defaults := [], kwarg := none, defaults := [] }
def B1 (s : Stmt) : List Stmt := match s with
 | .FunctionDef _ _ b _ _ _ _ _ _ _ => b
 | _ => []
def A1 (s : Stmt) : Scope := match s with
 | .FunctionDef _ _ _ _ _ _ sc _ _ _ => sc
 | _ => { kind := .function, names := [], isGenerator := false, isCoroutine := false }
abbrev CX0 : CXT := fun _ _ _ _ _ _ => False
abbrev E0 : XK := fun _ _ _ => False
theorem V3d {X : Cx} : J2a CX0 X E0 := fun _ _ _ _ _ _ _ h => h.elim
structure Fun (K : PySem.W.Frag) (x qual : Str) (st : Stmt) (f : Addr) (fd : FuncData) : Prop where
 ex : ∃ (oc : Value) (od : Option Addr) (kV doc pm : Value) (an : Option Addr) (cdv ct : Value) (osl : Array (Option Value)),
   fd = PySem.W.fnOf x qual (B4 st) (B1 st) (A1 st) .none kV doc pm an cdv ct /\ K.lookup f = some ⟨oc, od, .func fd, osl⟩ /\ PySem.W.codeIn K cdv qual = true
 kp : PySem.W.keepIn K (.ref f) = true
section
variable {P : Program} {w : World} {K : PySem.W.Frag} {mg : Str -> Option Value} {base : Heap}
theorem Fun.ok {x qual : Str} {st : Stmt} {f : Addr} {fd : FuncData} {N ps : List Str} {k : Nat} {sp : Sp} (F : Fun K x qual st f fd) (S : FnScope N ps (A1 st)) (len : ∀ vs H Q E, sp vs H Q E -> vs.length = ps.length)
   (hbody : ∀ (cdv : Value) (A : Around) (outer : List Env) (s : Shared) (H : Hp) (vs : List V) (Q : VK) (E : XK), Room k (A.deeper (envOfC qual (A1 st) s.heap.objs.size f cdv)) -> sp vs H Q E ->
     ∃ t, PSs (Z3 CX0 P w K mg base N qual (A1 st) f cdv A outer s H E).nox (B1 st) t /\ t { nx := fun _ H' => Q .non H', rt := Q } (A2t N vs) H) : FnOk P w K mg base CX0 (k + 1) f fd ps sp := by
 obtain ⟨oc, od, kV, doc, pm, an, cdv, ct, osl, rfl, lk, hcd⟩ := F.ex
 refine V2x lk hcd S len fun A outer s H vs Q E hr hsp => ?_
 obtain ⟨t, h, q⟩ := hbody cdv A outer s H vs Q E hr hsp
 exact ⟨t, h.nox, q⟩
theorem Fun.binds {x qual : Str} {st : Stmt} {f : Addr} {fd : FuncData} {ps : List Str} (F : Fun K x qual st f fd)
   (h : ∀ (kV doc pm : Value) (an : Option Addr) (cdv ct : Value) (us : List Value), us.length = ps.length -> bindArgs (PySem.W.fnOf x qual (B4 st) (B1 st) (A1 st) .none kV doc pm an cdv ct) ⟨us, []⟩ = pure (ps.zip us)) : Binds K fd ps [] := by
 obtain ⟨oc, od, kV, doc, pm, an, cdv, ct, osl, rfl, lk, hcd⟩ := F.ex
 exact .all (h kV doc pm an cdv ct)
theorem G5 {x qual : Str} {st : Stmt} {f : Addr} {oc : Value} {od an : Option Addr} {osl : Array (Option Value)} {kV doc pm cdv ct : Value} (l : K.lookup f = some ⟨oc, od, .func (PySem.W.fnOf x qual (B4 st) (B1 st) (A1 st) .none kV doc pm an cdv ct), osl⟩)
   (c : PySem.W.codeIn K cdv qual = true) (k : PySem.W.keepIn K (.ref f) = true) : Fun K x qual st f (PySem.W.fnOf x qual (B4 st) (B1 st) (A1 st) .none kV doc pm an cdv ct) := ⟨⟨oc, od, kV, doc, pm, an, cdv, ct, osl, rfl, l, c⟩, k⟩
end
theorem U8 {n : Nat} (h : n <= 1000) : n < sizeLine := Nat.lt_of_le_of_lt h (by decide)
section
variable {X : Cx}
theorem pv (i : Nat) {x : Str} {pos : Pos} (hN : X.N[i]? = some x := by rfl) (hv : Vis X.env.scope x := by first | exact Or.inl rfl | exact Or.inr (Or.inl rfl) | exact Or.inr (Or.inr rfl)) (hd : (x == ("__debug__" : Str)) = false := by decide)
   (hcd : (x == ("__classdict__" : Str)) = false := by decide) : PE X (.Name x pos) (Z3y i) := V0z hN hv hd hcd
end
theorem G7 {A B : Prop} (h : B) : if false = true then A else B := by
 rw [if_neg Bool.false_ne_true]
 exact h
theorem V8 {A B : Prop} (h : A) : if true = true then A else B := by
 rw [if_pos rfl]
 exact h
theorem B6e {c A B : Prop} [Decidable c] (hc : c) (h : B) : if (!decide c) = true then A else B := by
 rw [decide_eq_true hc]
 exact G7 h
def Same (H H' : Hp) : Prop := ∀ b o, H b = some o -> H' b = some o
theorem Same.refl (H : Hp) : Same H H := fun _ _ h => h
theorem Same.trans {H H1 H2 : Hp} (a : Same H H1) (b : Same H1 H2) : Same H H2 := fun c o h => b c o (a c o h)
theorem Same.free {H H' : Hp} (e : Same H H') {l : Addr} (h : H' l = Option.none) : H l = Option.none := by
 cases q : H l with
 | none => rfl
 | some o =>
   rw [e l o q] at h
   cases h
theorem Same.seq {K : PySem.W.Frag} {H H' : Hp} {a : Addr} {xs : List V} (e : Same H H') (h : SqL K H a xs) : SqL K H' a xs := by
 rcases h with (h | ⟨o, h⟩) | h
 . exact .inl (.inl (e _ _ h))
 . exact .inl (.inr ⟨o, e _ _ h⟩)
 . exact .inr h
end L2
set_option maxHeartbeats 4000000
namespace L2
open PySem PySem.Spec PyProof.Rows
abbrev Z5 (C : Value) (t : Addr) (dd : Option Addr) (tb : Value) : Obj :=
 { cls := C, dict := dd, data := .fields #[.ref t, tb, .none, .none, .bool false, .none] }
structure Noted (fs : List Addr) (h h' : Heap) (a : Addr) (C : Value) (t : Addr) (dd : Option Addr) (T : Addr) (fl : Value) : Prop where
 keep : ∀ b o, b ∉ fs -> b ≠ a -> h.get? b = some o -> h'.get? b = some o
 slot : ∀ b o, b ≠ a -> h.get? b = some o -> ∃ sl, h'.get? b = some { o with slots := sl }
 new : h.get? T = none
 ne : T ≠ a
 exc : h'.get? a = some (Z5 C t dd (.ref T))
 tbk : ∃ oT ts, h'.get? T = some oT /\ oT.data = .fields ts /\ ts[3]? = some fl
section
variable {M : Model} {A : Around} {E : Value -> Shared -> Prop} {s : Shared} {base : Heap} {env : Env} {outer : List Env} {L a t : Addr} {C : Value} {dd : Option Addr} {tb : Value} {Q : Unit -> Shared -> Prop}
theorem Y9b {oa : Obj} {vs : Array Value} {l : List Env} (hl : s.heap.FunFrames base l) (ha : s.heap.get? a = some oa) (hd : oa.data = .fields vs) : a ∉ l.filterMap (·.frame) := by
 intro hm
 obtain ⟨_, o, ho, hn⟩ := hl.mem hm
 rw [ha] at ho
 cases ho
 exact hn vs hd
theorem U2t {head : Value} {hn : Bool} (hfr : A.frames = some (env :: outer)) (hl : s.heap.FunFrames base (env :: outer)) (hf : env.frame = some L)
   (ha : s.heap.get? a = some (Z5 C t dd tb))
   (h : ∀ h' T, Noted ((env :: outer).filterMap (·.frame)) s.heap h' a C t dd T (rawInt L) -> Q () { s with heap := h' }) :
   wpAny M A (do
     let x <- frameOf env
     let pl <- entryPlaceOf L hn
     let b <- EntryCells.newEntry head x .none (rawInt L) .none pl
     setField (.ref a) 1 b) Q E s := by
 have na := Y9b hl ha rfl
 refine wpAny_bind (wpAny_frameOf_fun hfr hl hf fun g hg => ?_)
 refine wpAny_bind (wpAny_entryPlaceOf fun pl hpl => ?_)
 unfold EntryCells.newEntry newFields
 refine wpAny_bind (wpAny_newObj_type ?_ (hpl.sizeOk5 _ _ _ _ _))
 have a1 : g.get? a = some (Z5 C t dd tb) := (hg.2.1 a na).trans ha
 have a2 := fun (z : Obj) => Heap.get?_push_of_some (h := g) z a1
 have nT : g.objs.size ≠ a := Nat.ne_of_gt (Heap.lt_size a1)
 refine wpAny_setField (a2 _) rfl (by show 1 < 6; decide) (h _ g.objs.size ?_)
 have up : ∀ (z : Obj) (f : Obj -> Obj) b o, b ≠ a -> g.get? b = some o -> ((g.push z).update a f).get? b = some o := by
   intro z f b o hb e
   rw [Heap.get?_update_other _ _ (Ne.symm hb)]
   exact Heap.get?_push_of_some _ e
 refine ⟨fun b o hb hba e => up _ _ b o hba ((hg.2.1 b hb).trans e), fun b o hba e => ?_, ?_, nT, ?_, ?_⟩
 . obtain ⟨sl, e1⟩ := hg.2.2 b o e
   exact ⟨sl, up _ _ b _ hba e1⟩
 . refine Heap.get?_none_of_le ?_
   rw [hg.1]
   exact Nat.le_refl _
 . exact Heap.get?_update_self _ (a2 _) rfl
 . refine ⟨_, _, (Heap.get?_update_other _ _ (Ne.symm nT)).trans (Heap.get?_push_size _ rfl), rfl, ?_⟩
   first
     | (simp; done)
     | (rcases hpl with rfl | ⟨_, _, _, _, _, _, _, rfl⟩ <;> simp)
def Z3s (h : Heap) (a : Addr) (tb : Value) : Prop := tb = .none \/ ∃ T oT ts, tb = .ref T /\ T ≠ a /\ h.get? T = some oT /\ oT.data = .fields ts /\ ts[3]? = some .none
theorem Z4d (hfr : A.frames = some (env :: outer)) (hl : s.heap.FunFrames base (env :: outer)) (hf : env.frame = some L)
   (ha : s.heap.get? a = some (Z5 C t dd tb)) (ht : Z3s s.heap a tb)
   (h : ∀ h' T, (∀ b o, b ∉ (env :: outer).filterMap (·.frame) -> b ≠ a -> tb ≠ .ref b -> s.heap.get? b = some o -> h'.get? b = some o) ->
     (∀ b o, b ≠ a -> tb ≠ .ref b -> s.heap.get? b = some o -> ∃ sl, h'.get? b = some { o with slots := sl }) -> s.heap.get? T = none -> T ≠ a ->
     h'.get? a = some (Z5 C t dd (.ref T)) -> (∃ oT ts, h'.get? T = some oT /\ oT.data = .fields ts /\ ts[3]? = some (rawInt L)) -> Q () { s with heap := h' }) :
   wpAny M A (noteFrame (.ref a) env) Q E s := by
 unfold noteFrame
 simp only [hf]
 refine wpAny_bind (wpAny_field ha rfl (x := tb) rfl ?_)
 rcases ht with rfl | ⟨T, oT, ts, rfl, nT, hT, dT, h3⟩
 . rw [if_neg (by decide)]
   refine U2t hfr hl hf ha fun h' T N => ?_
   exact h h' T (fun b o hb hba _ e => N.keep b o hb hba e) (fun b o hba _ e => N.slot b o hba e) N.new N.ne N.exc N.tbk
 . rw [if_pos (show (Value.ref T != Value.none) = true by simp)]
   refine wpAny_bind (wpAny_field hT dT h3 ?_)
   rw [if_neg (show ¬ ((Value.none == rawInt L) = true) by simp [rawInt])]
   refine wpAny_bind (wpAny_setField hT dT (Array.getElem?_eq_some_iff.mp h3).1 ?_)
   have oth : ∀ (f : Obj -> Obj) b, b ≠ T -> (s.heap.update T f).get? b = s.heap.get? b := fun f b hb => Heap.get?_update_other _ _ (Ne.symm hb)
   have nrec : ∀ b o, s.heap.get? b = some o -> (∀ vs, o.data ≠ .fields vs) -> b ≠ T := by
     intro b o e hn q
     rw [q, hT] at e
     cases e
     exact hn ts dT
   refine U2t (s := { s with heap := _ }) hfr (hl.of_keeps fun b o e hn => ⟨o, (oth _ b (nrec b o e hn)).trans e, rfl⟩) hf ((oth _ a (Ne.symm nT)).trans ha) fun h' T' N => ?_
   have neb : ∀ b, Value.ref T ≠ Value.ref b -> b ≠ T := fun b q z => q (by rw [z])
   refine h h' T' (fun b o hb hba hbT e => N.keep b o hb hba ((oth _ b (neb b hbT)).trans e)) (fun b o hba hbT e => N.slot b o hba ((oth _ b (neb b hbT)).trans e)) ?_ N.ne N.exc N.tbk
   have nw := N.new
   by_cases q : T' = T
   . subst q
     have := Heap.get?_update_self (Obj.mapFields (·.setIfInBounds 3 Value.none)) hT (Obj.isFreed_of_fields (Obj.data_mapFields dT _))
     rw [nw] at this
     cases this
   . rw [oth _ T' q] at nw
     exact nw
theorem Z2p {T : Addr} {oT : Obj} {ts : Array Value} {fl : Value} (ha : s.heap.get? a = some (Z5 C t dd (.ref T))) (nT : T ≠ a) (hT : s.heap.get? T = some oT) (dT : oT.data = .fields ts) (h3 : ts[3]? = some fl)
   (h : ∀ h', (∀ b o, b ≠ T -> s.heap.get? b = some o -> h'.get? b = some o) -> Z3s h' a (.ref T) -> Q () { s with heap := h' }) : wpAny M A (setFlight (.ref a) none) Q E s := by
 have sz : 3 < ts.size := (Array.getElem?_eq_some_iff.mp h3).1
 unfold setFlight
 refine wpAny_bind (wpAny_field ha rfl (x := .ref T) rfl ?_)
 rw [if_pos (show (Value.ref T != Value.none) = true by simp)]
 refine wpAny_setField hT dT sz (h _ (fun b o hb e => (Heap.get?_update_other _ _ (Ne.symm hb)).trans e) ?_)
 have d2 := Obj.data_mapFields dT (·.setIfInBounds 3 ((none : Option Addr).elim Value.none fun f => rawInt f))
 exact .inr ⟨T, _, _, rfl, nT, Heap.get?_update_self _ hT (Obj.isFreed_of_fields d2), d2, by simp [sz]⟩
end
def Hd (A : Around) (h : Heap) : Prop := A.handled = none \/ ∃ x ox vs, A.handled = some (.ref x) /\ h.get? x = some ox /\ ox.data = .fields vs /\ vs[2]? = some .none
theorem C8s : entryFor table "proto.unchain" = some Builtin.«proto.unchain» := entryFor_of_tree (by kernel_rfl)
section
variable {prog : Program} {w : World} {A : Around} {E : Value -> Shared -> Prop} {s : Shared}
theorem G5e {α : Type} {a : Addr} {oa : Obj} {ws : Array Value} {h₀ : Heap} {Q : α -> Shared -> Prop} (hd : Hd A h₀) (k : ∀ b o, h₀.get? b = some o -> s.heap.get? b = some o) (na : h₀.get? a = none)
   (ha : s.heap.get? a = some oa) (da : oa.data = .fields ws) (h2 : 2 < ws.size)
   (h : ∀ h', (∀ b o, b ≠ a -> s.heap.get? b = some o -> h'.get? b = some o) -> (∃ o', h'.get? a = some o' /\ o'.cls = oa.cls) -> E (.ref a) { s with heap := h' }) :
   wpAny (model prog w) A (raiseNew (.ref a) : Sem α) Q E s := by
 unfold raiseNew
 refine wpAny_bind (wpAny_handled ?_)
 rcases hd with z | ⟨x, ox, vs, z, e, d, n⟩
 . rw [z]
   exact wpAny_bind (wpAny_pure (wpAny_throw (h _ (fun b o _ e => e) ⟨_, ha, rfl⟩)))
 . rw [z]
   have nx : x ≠ a := by
     intro q
     rw [q, na] at e
     cases e
   dsimp only
   rw [if_pos (show (Value.ref x != Value.ref a) = true by simpa using nx)]
   refine wpAny_bind (wpAny_holding (wpAny_runValue (codeAny_builtin C8s ?_)))
   unfold Builtin.«proto.unchain»
   dsimp only
   refine wpAny_bind (wpAny_field (k x ox e) d n ?_)
   rw [if_pos (by decide)]
   refine wpAny_pure ?_
   dsimp only
   unfold updateField
   refine wpAny_bind (wpAny_bind (wpAny_load ha ?_))
   rw [da]
   dsimp only
   rw [if_pos h2]
   refine wpAny_update ha (wpAny_throw (h _ (fun b o hb e => (Heap.get?_update_other _ _ (Ne.symm hb)).trans e) ⟨_, Heap.get?_update_self _ ha (Obj.isFreed_of_fields (Obj.data_mapFields da _)), Obj.cls_mapFields _ _⟩))
theorem U2b {α : Type} {Q : α -> Shared -> Prop} (hd : Hd A s.heap)
   (h : ∀ h' e, (∀ b o, s.heap.get? b = some o -> h'.get? b = some o) -> ({ s with heap := h' } : Shared).TypeIs (.ref e) "StopIteration" -> E (.ref e) { s with heap := h' }) :
   wpAny (model prog w) A (newExc (.type "StopIteration") [] >>= fun e => (raiseNew e : Sem α)) Q E s := by
 refine wpAny_bind ?_
 simp only [newExc, newTuple]
 refine wpAny_bind (wpAny_newObj_type ?_ (by size_fits)); refine wpAny_bind (m := firstArgMember _ _) (wpAny_of_eq (a := Value.none) (by first | rfl | (simp only [firstArgMember]; rfl)) ?_)
 refine wpAny_newObj_type ?_ (by size_fits); dsimp only
 have k1 : ∀ (z : Obj) b o, s.heap.get? b = some o -> (s.heap.push z).get? b = some o := fun z b o e => Heap.get?_push_of_some _ e
 have k2 : ∀ (z y : Obj) b o, s.heap.get? b = some o -> ((s.heap.push z).push y).get? b = some o := fun z y b o e => Heap.get?_push_of_some _ (Heap.get?_push_of_some _ e)
 have nw : ∀ (z : Obj), s.heap.get? (s.heap.push z).objs.size = none := fun z => Heap.get?_none_of_le (by rw [Heap.size_push]; exact Nat.le_succ _)
 refine G5e (s := { s with heap := _ }) (h₀ := s.heap) hd (k2 _ _) (nw _) (Heap.get?_push_size _ rfl) rfl (by show 2 < 6; decide) fun h' k ⟨o', e', c'⟩ => h h' _ (fun b o e => ?_) ⟨o', e', c'⟩
 refine k b o ?_ (k2 _ _ b o e)
 intro q; rw [q, nw] at e; cases e
theorem B7d {it l : Addr} {i : Nat} {items : Array Value} {Q : Option Value -> Shared -> Prop} (hd : ∀ h' : Heap, Heap.ExtBut it s.heap h' -> Hd A h')
   (hit : s.heap.IsListIter it l i) (hl : s.heap.IsList l items) (hx : items[i]? = none)
   (hQ : ∀ h', Heap.ExtBut it s.heap h' -> Q none { s with heap := h' }) : wpAny (model prog w) A (pyNext (.ref it)) Q E s := by
 obtain ⟨o, ho, hc, dt⟩ := id hit
 obtain ⟨ol, hol, _, nl, dl⟩ := hl
 unfold pyNext
 refine wpAny_bind (wpAny_attempt (wpAny_callSpecial?_slot (name := Str.ofString "__next__") hit.typeIs slot_listiter_next (wpAny_call_entry slot_listiter_next hit.typeIs entry_listiter_next ?_ (args_listiter_next _))))
 show wpAny _ _ (field (.ref it) 0 >>= _) _ _ _; refine wpAny_bind (wpAny_field ho dt (x := .ref l) rfl ?_)
 show wpAny _ _ (if (Value.ref l == Value.none) = true then _ else _) _ _ _; rw [if_neg (show ¬ ((Value.ref l == Value.none) = true) by simp)]
 show wpAny _ _ (field (.ref it) 1 >>= _) _ _ _; refine wpAny_bind (wpAny_field ho dt (x := .int i 0) rfl ?_)
 show wpAny _ _ (seqItems? (.ref l) >>= _) _ _ _; refine wpAny_bind (wpAny_seqItems hol dl ?_)
 simp only [Int.toNat_natCast, hx]
 refine wpAny_bind (wpAny_rule (wpAny_bind (wpAny_setField ho dt (by simp) ?_)))
 have up := fun f => (Heap.SameBut.update (a := it) (h := s.heap) (f := f)).extBut
 refine U2b (s := { s with heap := _ }) (A := A.in1) (hd _ (up _)) fun h' e k ty => ?_
 refine wpAny_bind (wpAny_isInstance (T := "StopIteration") (b := true) ty isSubtype_stop ?_)
 exact wpAny_pure (hQ h' fun b o hb z => k b o (up _ b o hb z))
theorem C2t {it t : Addr} {i : Nat} {items : Array Value} {Q : Option Value -> Shared -> Prop} (hd : ∀ h' : Heap, Heap.ExtBut it s.heap h' -> Hd A h')
   (hit : IsTupIter s.heap it t i) (hl : IsTup s.heap t items) (hx : items[i]? = none)
   (hQ : ∀ h', Heap.ExtBut it s.heap h' -> Q none { s with heap := h' }) : wpAny (model prog w) A (pyNext (.ref it)) Q E s := by
 obtain ⟨o, ho, hc, dt⟩ := id hit
 obtain ⟨ol, hol, _, nl, dl⟩ := hl
 unfold pyNext
 refine wpAny_bind (wpAny_attempt (wpAny_callSpecial?_slot (name := Str.ofString "__next__") hit.typeIs slot_tupleiter_next (wpAny_call_entry slot_tupleiter_next hit.typeIs entry_tupleiter_next ?_ (args_tupleiter_next _))))
 show wpAny _ _ (field (.ref it) 0 >>= _) _ _ _; refine wpAny_bind (wpAny_field ho dt (x := .ref t) rfl ?_)
 show wpAny _ _ (if (Value.ref t == Value.none) = true then _ else _) _ _ _; rw [if_neg (show ¬ ((Value.ref t == Value.none) = true) by simp)]
 show wpAny _ _ (field (.ref it) 1 >>= _) _ _ _; refine wpAny_bind (wpAny_field ho dt (x := .int i 0) rfl ?_)
 show wpAny _ _ (seqItems? (.ref t) >>= _) _ _ _; refine wpAny_bind (wpAny_seqItems hol dl ?_)
 simp only [Int.toNat_natCast, hx]
 refine wpAny_bind (wpAny_rule (wpAny_bind (wpAny_setField ho dt (by simp) ?_)))
 have up := fun f => (Heap.SameBut.update (a := it) (h := s.heap) (f := f)).extBut
 refine U2b (s := { s with heap := _ }) (A := A.in1) (hd _ (up _)) fun h' e k ty => ?_
 refine wpAny_bind (wpAny_isInstance (T := "StopIteration") (b := true) ty isSubtype_stop ?_)
 exact wpAny_pure (hQ h' fun b o hb z => k b o (up _ b o hb z))
end
theorem ObjOk.there {P : Program} {w : World} {H : Hp} {h : Heap} {a : Addr} {o : HO} (x : ObjOk P w H h a o) : ∃ u, h.get? a = some u := by
 cases o with
 | lst xs => obtain ⟨_, _, _, _, e⟩ := x; exact ⟨_, e⟩
 | tup xs => obtain ⟨_, _, _, _, e, _⟩ := x; exact ⟨_, e⟩
 | dK kvs => obtain ⟨_, _, _, _, o, _, _, e, _⟩ := x; exact ⟨_, e⟩
 | dT kvs => obtain ⟨_, _, _, _, o, _, _, e, _⟩ := x; exact ⟨_, e⟩
 | set S n => obtain ⟨o, _, _, _, e, _⟩ := x; exact ⟨_, e⟩
 | ins C dx fs => obtain ⟨_, _, _, e, _⟩ := x; exact ⟨_, e⟩
 | own y => obtain ⟨_, e⟩ := x; exact ⟨_, e⟩
 | xd fs => obtain ⟨_, ⟨_, _, _, e, _⟩, _⟩ := x; exact ⟨_, e⟩
 | rng lo hi => obtain ⟨_, _, _, e⟩ := x; exact ⟨_, e⟩
 | frz ob u => obtain ⟨e, _⟩ := x; exact ⟨_, e⟩
 | tbl ps => exact ⟨_, show h.get? a = some _ from x⟩
 | met f y => exact ⟨_, show h.get? a = some _ from x⟩
 | ext φ => obtain ⟨_, e, _⟩ := x; exact e
theorem HOk.new {P : Program} {w : World} {H : Hp} {h : Heap} {a : Addr} (x : HOk P w H h) (e : h.get? a = none) : H a = none := by
 cases q : H a with
 | none => rfl
 | some u =>
   obtain ⟨o, z⟩ := (x a u q).there
   rw [e] at z
   cases z
structure Nw (X : Cx) (pins : List (Addr × Obj)) (H : Hp) (b : Addr) : Prop where
 un : H b = none
 loc : b ≠ X.env.locals
 fs : b ∉ X.fs
 old : X.s₀.heap.get? b = none
 cell : ∀ x c, X.env.cells.lookup x = some c -> c ≠ b
 pin : ∀ p ∈ X.pn ++ pins, p.1 ≠ b
section
variable {X : Cx} {pins : List (Addr × Obj)} {σ : St} {H H' : Hp} {s s' : Shared} {a b t : Addr} {C : Value} {dd : Option Addr}
theorem Inv.fsFree (I : Inv X pins σ H s) : ∀ b ∈ X.fs, H b = none := fun b hb => I.stkFree b (by
 rcases I.ok.stk with z | ⟨z, zf⟩
 . rw [z]; exact hb
 . rw [z]
   unfold frs
   rw [List.filterMap_cons, zf]
   exact List.mem_cons_of_mem _ hb)
theorem Inv.nw (I : Inv X pins σ H s) (hex : X.ex = []) (e : s.heap.get? b = none) (hu : H' b = none) : Nw X pins H' b := by
 refine ⟨hu, ?_, ?_, ?_, ?_, ?_⟩
 . rintro rfl
   obtain ⟨m, ⟨o, _, _, ho, _⟩, _⟩ := I.loc
   rw [e] at ho
   cases ho
 . intro hb
   obtain ⟨_, o, ho, _⟩ := I.funs.mem hb
   rw [e] at ho
   cases ho
 . cases q : X.s₀.heap.get? b with
   | none => rfl
   | some o =>
     obtain ⟨o', z⟩ := I.base.there b o q (by rw [hex]; simp)
     rw [e] at z
     cases z
 . rintro x c h rfl
   obtain ⟨v, o, ho, _⟩ := I.cell x c h
   rw [e] at ho
   cases ho
 . rintro p hp rfl
   obtain ⟨z, _⟩ := I.pin p hp
   rw [e] at z
   cases z
theorem Inv.stepN {h' : Heap} {ch : List Addr} (I : Inv X pins σ H s) (hch : ∀ b ∈ ch, Nw X pins H b)
   (keep : ∀ b o, b ≠ X.env.locals -> b ∉ X.fs -> b ∉ ch -> s.heap.get? b = some o -> h'.get? b = some o)
   (slot : ∀ b o, b ∉ ch -> s.heap.get? b = some o -> ∃ sl, h'.get? b = some { o with slots := sl }) : Inv X pins σ H { s with heap := h' } := by
 have neL : ∀ b o, X.s₀.heap.get? b = some o -> b ≠ X.env.locals := fun b o e => Nat.ne_of_lt (Nat.lt_of_lt_of_le (Heap.lt_size e) I.ok.above)
 have neC : ∀ b o, X.s₀.heap.get? b = some o -> b ∉ ch := fun b o e hb => by
   have z := (hch b hb).old
   rw [e] at z
   cases z
 have cellK : ∀ x c, X.env.cells.lookup x = some c -> ∀ v, s.heap.IsCell c v -> h'.IsCell c v := fun x c e v ⟨o, ho, hd⟩ => by
   have nch : c ∉ ch := fun z => (hch c z).cell x c e rfl
   obtain ⟨sl, q⟩ := slot c o nch ho
   exact ⟨_, q, hd⟩
 refine ⟨I.ok, I.os, I.bare, ⟨fun b o e n hb hx => ?_, fun b o e n hb hx => ?_, I.base.free, fun b o e hx => ?_, I.base.tups, I.base.frzs, I.base.tbls⟩, ?_, fun x c e => ?_, I.free, I.freeC, fun p hp => ?_, ?_, I.len⟩
 . exact keep b o (neL b o e) hb (neC b o e) (I.base.keep b o e n hb hx)
 . obtain ⟨sl, e1⟩ := I.base.slot b o e n hb hx
   obtain ⟨sl', e2⟩ := slot b _ (neC b o e) e1
   exact ⟨sl', e2⟩
 . obtain ⟨o', e1⟩ := I.base.there b o e hx
   obtain ⟨sl', e2⟩ := slot b _ (neC b o e) e1
   exact ⟨_, e2⟩
 . obtain ⟨m, hn, hl⟩ := I.loc
   refine ⟨m, ?_, fun i x v e1 e2 e3 => ?_⟩
   . obtain ⟨o, es, ep, ho, r⟩ := hn
     obtain ⟨sl, q⟩ := slot _ o (fun z => (hch _ z).loc rfl) ho
     exact ⟨_, es, ep, q, r⟩
   . obtain ⟨u, r, l⟩ := hl i x v e1 e2 e3
     refine ⟨u, r, ?_⟩
     rcases l with l | ⟨k, c, e, z⟩
     . exact .inl l
     . exact .inr ⟨k, c, e, cellK x c e _ z⟩
 . obtain ⟨v, z⟩ := I.cell x c e
   exact ⟨v, cellK x c e v z⟩
 . obtain ⟨e, n, ne, nf, d⟩ := I.pin p hp
   exact ⟨keep p.1 p.2 ne nf (fun z => (hch p.1 z).pin p hp rfl) e, n, ne, nf, d⟩
 . intro c o e
   have tr : ∀ b, H b ≠ none -> ∀ u, s.heap.get? b = some u -> h'.get? b = some u := fun b hb u q =>
     keep b u (fun z => hb (by rw [z]; exact I.free)) (fun z => hb (I.fsFree b z)) (fun z => hb (hch b z).un) q
   refine (I.hok c o e).stay (fun b u hb q => tr b ?_ u q) (fun _ q => q) fun _ _ q => q
   rcases hb with rfl | hb
   . rw [e]; simp
   . rw [hb]; simp
def Flt (X : Cx) (pins : List (Addr × Obj)) (H : Hp) (s : Shared) (a : Addr) (C : Value) (t : Addr) (dd : Option Addr) : Prop :=
 Nw X pins H a /\ ∃ tb, s.heap.get? a = some (Z5 C t dd tb) /\ Z3s s.heap a tb /\ ∀ T, tb = .ref T -> Nw X pins H T
def FltAt (X : Cx) (pins : List (Addr × Obj)) (H : Hp) (s : Shared) (a : Addr) (C : Value) (t : Addr) (dd : Option Addr) (fl : Value) : Prop :=
 Nw X pins H a /\ ∃ T oT ts, s.heap.get? a = some (Z5 C t dd (.ref T)) /\ T ≠ a /\ Nw X pins H T /\ s.heap.get? T = some oT /\ oT.data = .fields ts /\ ts[3]? = some fl
structure Body (X : Cx) : Prop where
 ex : X.ex = []
 st : X.stack = X.env :: X.outer
 fr : X.env.frame = some X.env.locals
theorem FltAt.flt (F : FltAt X pins H s a C t dd .none) : Flt X pins H s a C t dd := by
 obtain ⟨n, T, oT, ts, e, ne, nT, eT, dT, h3⟩ := F
 exact ⟨n, _, e, .inr ⟨T, oT, ts, rfl, ne, eT, dT, h3⟩, fun T' z => by cases z; exact nT⟩
def J0x : Value -> List Addr
 | .ref z => [z]
 | _ => []
theorem G5q {M : Model} {E : Value -> Shared -> Prop} {Q : Unit -> Shared -> Prop} (B : Body X) (I : Inv X pins σ H s) (F : Flt X pins H s a C t dd)
   (k : ∀ s', Inv X pins σ H s' -> FltAt X pins H s' a C t dd (rawInt X.env.locals) -> Q () s') : wpAny M X.A (noteFrame (.ref a) X.env) Q E s := by
 obtain ⟨na, tb, e, ht, nT⟩ := F
 have hfr := I.ok.frames
 rw [B.st] at hfr
 have hl := I.stack
 rw [B.st] at hl
 refine Z4d hfr hl B.fr e ht fun h' T k1 k2 k3 k4 k5 k6 => ?_
 have ch : ∀ b, b ∉ a :: J0x tb -> b ≠ a /\ tb ≠ .ref b := by
   intro b hb
   refine ⟨fun z => hb (by rw [z]; exact List.mem_cons_self), fun z => hb ?_⟩
   rw [z]
   exact List.mem_cons_of_mem _ (List.mem_singleton.mpr rfl)
 have I' : Inv X pins σ H { s with heap := h' } := by
   refine I.stepN (ch := a :: J0x tb) (fun b hb => ?_) (fun b o h1 h2 h3 q => k1 b o ?_ (ch b h3).1 (ch b h3).2 q) (fun b o h3 q => k2 b o (ch b h3).1 (ch b h3).2 q)
   . rcases List.mem_cons.mp hb with rfl | hb
     . exact na
     . cases tb <;> simp [J0x] at hb
       subst hb
       exact nT _ rfl
   . intro z
     rw [List.filterMap_cons, B.fr] at z
     rcases List.mem_cons.mp z with z | z
     . exact h1 z
     . exact h2 z
 obtain ⟨oT, ts, q1, q2, q3⟩ := k6
 exact k _ I' ⟨na, T, oT, ts, k5, k4, I.nw B.ex k3 (I.hok.new k3), q1, q2, q3⟩
theorem C4d {M : Model} {A : Around} {E : Value -> Shared -> Prop} {Q : Unit -> Shared -> Prop} {fl : Value} (I : Inv X pins σ H s) (F : FltAt X pins H s a C t dd fl)
   (k : ∀ s', Inv X pins σ H s' -> FltAt X pins H s' a C t dd .none -> Q () s') : wpAny M A (setFlight (.ref a) none) Q E s := by
 obtain ⟨na, T, oT, ts, e, ne, nT, eT, dT, h3⟩ := F
 refine Z2p e ne eT dT h3 fun h' k1 k2 => ?_
 have I' : Inv X pins σ H { s with heap := h' } := I.stepN (ch := [T]) (fun b hb => by
   have : b = T := by simpa using hb
   subst this
   exact nT) (fun b o _ _ hb q => k1 b o (fun z => hb (by simp [z])) q) (fun b o hb q => ⟨_, k1 b o (fun z => hb (by simp [z])) q⟩)
 rcases k2 with z | ⟨T', oT', ts', z, _, q1, q2, q3⟩
 . cases z
 . cases z
   exact k _ I' ⟨na, T, oT', ts', k1 a _ (Ne.symm ne) e, ne, nT, q1, q2, q3⟩
theorem D3d {M : Model} {E : Value -> Shared -> Prop} {Q : Unit -> Shared -> Prop} (B : Body X) (I : Inv X pins σ H s) (F : Flt X pins H s a C t dd)
   (k : ∀ s', Inv X pins σ H s' -> FltAt X pins H s' a C t dd .none -> Q () s') : wpAny M X.A (leaving X.env (.ref a)) Q E s := by
 unfold leaving
 exact wpAny_bind (G5q B I F fun s1 I1 F1 => C4d I1 F1 k)
end
abbrev EK := Value -> Option Addr -> St -> Hp -> Prop
def D6 (X : Cx) (EH : EK) : Prop := ∀ (pins : List (Addr × Obj)) (σ : St) (H : Hp) (s : Shared) (a t : Addr) (C : Value) (dd : Option Addr), Inv X pins σ H s -> Flt X pins H s a C t dd -> EH C dd σ H -> X.xe (.ref a) s
def CX1 (P : Program) (w : World) : CXT := fun outer H s E e s' => ∃ (a t : Addr) (C : Value) (dd : Option Addr) (H' : Hp), e = .ref a /\ s'.os = s.os /\ AllBare s'.gens /\ Un (frs outer) [] H H' s.heap s'.heap /\ HOk P w H' s'.heap /\ E C dd H' /\
 (s.heap.get? a = none /\ H' a = none) /\ ∃ T oT ts, s'.heap.get? a = some (Z5 C t dd (.ref T)) /\ T ≠ a /\ (s.heap.get? T = none /\ H' T = none) /\ s'.heap.get? T = some oT /\ oT.data = .fields ts /\ ts[3]? = some .none
theorem A5q {P : Program} {w : World} {K : PySem.W.Frag} {mg : Str -> Option Value} {base : Heap} {N : List Str} {qual : Str} {scope : Scope} {f : Addr} {cd : Value} {A : Around} {outer : List Env} {s : Shared} {H : Hp} {E : XK} :
   D6 (Z3 (CX1 P w) P w K mg base N qual scope f cd A outer s H E) (fun C dd _ H' => E C dd H') := by
 intro pins σ H' s' a t C dd I F h
 refine D3d (X := Z3 (CX1 P w) P w K mg base N qual scope f cd A outer s H E) ⟨rfl, rfl, rfl⟩ I F fun s2 I2 F2 => ?_
 obtain ⟨na, T, oT, ts, e, ne, nT, eT, dT, h3⟩ := F2
 exact ⟨a, t, C, dd, H', rfl, I2.os, I2.bare, I2.base, I2.hok, h, ⟨na.old, na.un⟩, T, oT, ts, e, ne, ⟨nT.old, nT.un⟩, eT, dT, h3⟩
section
variable {X : Cx} {k : Nat} {f C : Addr} {fd : FuncData} {ps : List Str} {sp : Sp} {dvs : List V} {ds : List Value} {EH : EK} {x m : Str} {p pos apos : Pos} {e o : Expr} {es : List Expr} {ta : TE} {t : TA}
theorem Y6y {pins : List (Addr × Obj)} {σ : St} {H : Hp} {s : Shared} {e : Value} {s' : Shared} (hx : D6 X EH) (hex : X.ex = []) (I : Inv X pins σ H s)
   (h : CX1 X.prog X.w X.stack H s (fun C d H' => EH C d σ H') e s') : X.xe e s' := by
 obtain ⟨a, t, C, dd, H', rfl, os, bare, un, hok, hE, ⟨a1, a2⟩, T, oT, ts, z, ne, ⟨t1, t2⟩, eT, dT, h3⟩ := h
 have I' : Inv X pins σ H' s' := I.call' (ch := []) os un hok bare (fun b q => absurd q (by simp))
 exact hx pins σ H' s' a t C dd I' (FltAt.flt ⟨I.nw hex a1 a2, T, oT, ts, z, ne, I.nw hex t1 t2, eT, dT, h3⟩) hE
theorem C2u {pins : List (Addr × Obj)} {σ : St} {H : Hp} {s : Shared} {Q : VK} {us : List Value} {vs : List V} (F : FnOk X.prog X.w X.K X.mg X.base (CX1 X.prog X.w) k f fd ps sp) (hr : Room k X.A) (hb : Binds X.K fd ps ds) (hd : Vals dvs ds)
   (hx : D6 X EH) (hex : X.ex = []) (I : Inv X pins σ H s) (r : Vals vs us) (h : sp (vs ++ dvs) H Q (fun C d H' => EH C d σ H')) : wpAny (model X.prog X.w) X.A (call (.ref f) us) (EP X pins σ Q) X.xe s := by
 have r2 : Vals (vs ++ dvs) (us ++ ds) := r.append hd
 have hl : (us ++ ds).length = ps.length := by rw [<- r2.length]; exact F.len _ _ _ _ h
 refine wpAny_call (codeAny_mono (F.run X.A X.stack s H ⟨us, []⟩ (us ++ ds) (vs ++ dvs) Q _ hr I.env0 (hb s us I.kIn hl) r2 h) fun r s' hq => ?_)
 cases r with
 | error e => exact Y6y hx hex I hq
 | ok fl =>
   cases fl with
   | ret u => exact I.after hq
   | next => exact False.elim hq
   | brk => exact False.elim hq
   | cont => exact False.elim hq
def D5b (sp : Sp) (dvs : List V) (EH : EK) (t : TA) : TE := fun σ H Q => t σ H fun vs H1 => sp (vs ++ dvs) H1 Q (fun C d H' => EH C d σ H')
theorem V1y (F : FnOk X.prog X.w X.K X.mg X.base (CX1 X.prog X.w) k f fd ps sp) (hr : Room k X.A) (hg : Gl X x) (hm : X.mg x = some (.ref f)) (hk : PySem.W.keepIn X.K (.ref f) = true) (hb : Binds X.K fd ps ds) (hd : Vals dvs ds)
   (hx : D6 X EH) (ha : PA X (e :: es) t) (hex : X.ex = [] := by rfl) (hdb : (x == ("__debug__" : Str)) = false := by decide) (he : starEach (e :: es) X.env = (false, eval e X.env) :: starEach es X.env := by rfl)
   (hpl : (backTo pos (starEach es X.env)).any (·.1) = false := by rfl) : PE X (.Call (.Name x p) (e :: es) [] pos) (D5b sp dvs EH t) := by
 intro pins s σ H Q I h
 refine wpAny_Call_Name_kw (A0y I hg hm ?_ hdb)
 refine PySem.W.callWith_K (h₀ := X.base) I.ok.mod.kin hk (thn (ha pos pins s σ H _ I h) fun us s1 ⟨vs, H1, I1, r, q⟩ => ⟨I1.kIn, ?_⟩) he hpl
 exact C2u F hr hb hd hx hex I1 r q
theorem U4g (F : FnOk X.prog X.w X.K X.mg X.base (CX1 X.prog X.w) k f fd ps sp) (hr : Room k X.A) (hg : Gl X x) (hm : X.mg x = some (.ref f)) (hk : PySem.W.keepIn X.K (.ref f) = true) (hb : Binds X.K fd ps ds) (hd : Vals dvs ds)
   (hx : D6 X EH) (hex : X.ex = [] := by rfl) (hdb : (x == ("__debug__" : Str)) = false := by decide) : PE X (.Call (.Name x p) [] [] pos) (D5b sp dvs EH V1g) := by
 intro pins s σ H Q I h
 refine wpAny_Call_Name_kw (A0y I hg hm ?_ hdb)
 exact PySem.W.callWith_K0 I.kIn hk (C2u (us := []) F hr hb hd hx hex I .nil h)
end
section
variable {P : Program} {w : World} {K : PySem.W.Frag} {mg : Str -> Option Value} {base : Heap}
theorem Fun.okE {x qual : Str} {st : Stmt} {f : Addr} {fd : FuncData} {N ps : List Str} {k : Nat} {sp : Sp} (F : Fun K x qual st f fd) (S : FnScope N ps (A1 st)) (len : ∀ vs H Q E, sp vs H Q E -> vs.length = ps.length)
   (hbody : ∀ (X : Cx) (cdv : Value) (A : Around) (outer : List Env) (s : Shared) (H : Hp) (vs : List V) (Q : VK) (E : XK), X = Z3 (CX1 P w) P w K mg base N qual (A1 st) f cdv A outer s H E -> Room k X.A -> D6 X (fun C dd _ H' => E C dd H') -> sp vs H Q E ->
     ∃ t, PSs (Z3 (CX1 P w) P w K mg base N qual (A1 st) f cdv A outer s H E) (B1 st) t /\ t { nx := fun _ H' => Q .non H', rt := Q } (A2t N vs) H) : FnOk P w K mg base (CX1 P w) (k + 1) f fd ps sp := by
 obtain ⟨oc, od, kV, doc, pm, an, cdv, ct, osl, rfl, lk, hc⟩ := F.ex
 exact V2x lk hc S len fun A outer s H vs Q E hr h => hbody _ cdv A outer s H vs Q E rfl hr A5q h
theorem FnOk.up {k : Nat} {f : Addr} {fd : FuncData} {ps : List Str} {sp : Sp} (F : FnOk P w K mg base CX0 k f fd ps sp) : FnOk P w K mg base (CX1 P w) k f fd ps sp := by
 refine ⟨F.len, fun A outer s H args us vs Q E hr e0 hb r h => codeAny_mono (F.run A outer s H args us vs Q E hr e0 hb r h) fun r s' q => ?_⟩
 cases r with
 | error e => exact False.elim q
 | ok fl => cases fl <;> exact q
end
end L2
namespace L2
open PySem PySem.Spec PyProof.Rows PySem.W
theorem Y7z {K : Frag} {h : Heap} {C : Addr} {bmB : List Value} {newId : String} (X : K.In h) (q : excIn K C bmB newId = true) :
   ∃ (bm : List Value) (N : Addr) (nm qn : Str) (bs : List Value) (hd : Bool) (sn : List Str) (sub : List Value) (ab : Bool) (col : Option Bool) (dd : Option Addr) (k0 k1 k2 k3 k5 : Option Value) (mN : Str -> Option Value),
     h.get? C = some (excClassObj nm qn C N bs bm hd sn sub ab col dd k0 k1 k2 k3 k5 newId) /\ h.Ns N mN /\ mN "__init__" = none /\ OwnTail h bmB bm := by
 unfold excIn at q
 split at q
 . rename_i dd cd sl ho
   split at q
   . rename_i C' bm k0 k1 k2 k3 n k5 hm hs
     simp only [Bool.and_eq_true, beq_iff_eq, Bool.not_eq_true'] at q
     obtain ⟨⟨⟨⟨⟨r1, r2⟩, r3⟩, r4⟩, r5⟩, r6⟩ := q
     subst r1 r2
     obtain ⟨a1, a2, a3, a4, a5, a6, a7, a8, a9, a10, a11⟩ := cd
     dsimp only at hm r3 r5 r6
     subst hm r3
     have hsl : sl = #[k0, k1, k2, k3, some (.builtin n), k5] := by
       obtain ⟨l⟩ := sl
       simp only at hs
       rw [hs]
     subst hsl
     exact ⟨bm, a4, a1, a5, a2, a6, a7, a8, a9, a10, dd, k0, k1, k2, k3, k5, _, X _ _ ho, .of_isNs (isNs_of_in X r5), nsMap_none_of_in X r5 r6, tail_of_in X r4⟩
   . cases q
 . cases q
section
variable {X : Cx} {x : Str} {p cpos pos : Pos} {e : Expr} {es : List Expr} {t : TA} {C : Addr} {bmB : List Value} {B newId initId : String} {EH : EK}
def Z3n (C : Addr) (EH : EK) (t : TA) : TS := fun _ σ H => t σ H fun vs H1 => vs.length <= sizeLine /\ EH (.ref C) none σ H1
theorem A3d (hg : Gl X x) (hm : X.mg x = some (.ref C)) (q : excIn X.K C bmB newId = true) (FB : ExcBaseFacts B newId initId bmB) (hh : X.A.handled = none) (hx : D6 X EH) (ha : PA X (e :: es) t) (hex : X.ex = [] := by rfl)
   (hdb : (x == ("__debug__" : Str)) = false := by decide) (he : starEach (e :: es) X.env = (false, eval e X.env) :: starEach es X.env := by rfl) (hpl : (backTo cpos (starEach es X.env)).any (·.1) = false := by rfl) :
   PS X (.Raise (some (.Call (.Name x p) (e :: es) [] cpos)) none pos) (Z3n C EH t) := by
 intro pins s σ H D I h
 obtain ⟨bm, N, nm, qn, bs, hd, sn, sub, ab, col, dd, k0, k1, k2, k3, k5, mN, hC, hN, hni, T⟩ := Y7z I.ok.mod.kin q
 refine wpAny_Raise_call_subT (C := C) (nm := nm) (q := qn) (N := N) (bs := bs) (bm := bm) (hdct := hd) (sn := sn) (sub := sub) (ab := ab) (col := col) (dd := dd) (k0 := k0) (k1 := k1) (k2 := k2) (k3 := k3) (k5 := k5) FB (mN := mN) (T.hasType FB.hasBase) hh
   (by rw [he]; show (false || (backTo cpos (starEach es X.env)).any (·.1)) = false; rw [hpl]; rfl) hni (A0y I hg hm ⟨rfl, ?_⟩ hdb)
 have ha' := ha cpos pins s σ H _ I h
 rw [he] at ha' ⊢
 refine Calls.evalArgs_plain (wpAny_mono ha' (fun us s2 ⟨vs, H1, I1, r, z, q⟩ => ⟨rfl, by rw [<- r.length]; exact z, I1.bk _ _ hC, hN.keeps I1.bk, T.keeps I1.bk, fun h' a m => ?_⟩) fun _ _ y => y)
 have I2 : Inv X pins σ H1 { s2 with heap := h' } := I1.kept (t' := s2.toks) m.keeps
 obtain ⟨t', e1, tn, e2⟩ := m.there
 exact hx pins σ H1 _ a t' (.ref C) none I2 ⟨I1.nw hex m.new (I1.hok.new m.new), .none, e1, .inl rfl, fun T z => nomatch z⟩ q
end
section
variable {X : Cx} {pins : List (Addr × Obj)} {σ : St} {H : Hp} {s : Shared}
theorem Inv.track {a : Addr} {o : Obj} (I : Inv X pins σ H s) (n : Nw X pins H a) (e : s.heap.get? a = some o) : Inv X pins σ (upd H a (.frz o (.own a))) s := by
 have ne : ∀ b u, H b = some u -> b ≠ a := fun b u z q => by rw [q, n.un] at z; cases z
 have up : ∀ b, b ≠ a -> upd H a (.frz o (.own a)) b = H b := fun b hb => C4 hb
 refine ⟨I.ok, I.os, I.bare, ⟨I.base.keep, I.base.slot, fun b u z m hx => ?_, I.base.there, fun b xs z => ?_, fun b u v z => ?_, fun b ps z => ?_⟩, I.loc, I.cell, ?_, fun x c z => ?_, fun p hp => ?_, fun b u z => ?_, I.len⟩
 . rw [up b fun q => by rw [q, n.old] at z; cases z]
   exact I.base.free b u z m hx
 . have := I.base.tups b xs z
   rw [up b (ne b _ this)]; exact this
 . have := I.base.frzs b u v z
   rw [up b (ne b _ this)]; exact this
 . obtain ⟨more, this⟩ := I.base.tbls b ps z
   exact ⟨more, by rw [up b (ne b _ this)]; exact this⟩
 . rw [up _ (Ne.symm n.loc)]; exact I.free
 . rw [up _ (n.cell x c z)]; exact I.freeC x c z
 . obtain ⟨q1, q2, q3⟩ := I.pin p hp
   exact ⟨q1, by rw [up _ (n.pin p hp)]; exact q2, q3⟩
 . by_cases hb : b = a
   . subst hb
     rw [A8] at z
     cases z
     exact ⟨e, _, e⟩
   . rw [up b hb] at z
     exact (I.hok b u z).stay (fun _ _ _ q => q) (fun c q => by rw [up c (ne c _ q)]; exact q) (fun c xs q => by rw [up c (ne c _ q)]; exact q)
theorem U4c {M : Model} {A : Around} {E : Value -> Shared -> Prop} {i : Nat} {x : Str} {v : V} {Q : Unit -> Shared -> Prop} (I : Inv X pins σ H s) (hN : X.N.Nodup) (hi : X.N[i]? = some x) (hk : X.env.scope.names.lookup x = some .local) (hv : σ[i]? = some (some v))
   (k : ∀ s', Inv X pins (σ.set i none) H s' -> Q () s') : wpAny M A (unbindName X.env x) Q E s := by
 obtain ⟨m, hn, hl⟩ := id I.loc
 have hcls : (X.env.scope.kind == .class || (X.env.scope.kind == .module && X.env.locals != X.env.globals)) = false := by rw [I.ok.kind]; rfl
 obtain ⟨u, _, lk⟩ := hl i x v hi hv (.inl hk)
 have hm : m x = some u := by
   rcases lk with ⟨_, z⟩ | ⟨z, _⟩
   . exact z
   . have z : X.env.scope.names.lookup x = some .cell \/ X.env.scope.names.lookup x = some .free := z
     rw [hk] at z
     rcases z with z | z <;> cases z
 refine wpAny_unbindName_local hk hn hm hcls fun h' w' hn' hs => k _ ?_
 obtain ⟨oL, _, _, hoL, _⟩ := id hn
 have nl : ∀ b o, X.s₀.heap.get? b = some o -> b ≠ X.env.locals := fun b o e => Nat.ne_of_lt (Nat.lt_of_lt_of_le (Heap.lt_size e) I.ok.above)
 refine ⟨I.ok, I.os, I.bare, ⟨fun b o e n hb hx => ?_, fun b o e n hb hx => ?_, I.base.free, fun b o e hx => ?_, I.base.tups, I.base.frzs, I.base.tbls⟩, ⟨_, hn', fun j y v' e1 e2 e3 => ?_⟩, fun y c e => ?_, I.free, I.freeC, fun p hp => ?_, fun b u z => ?_, by simpa using I.len⟩
 . exact (hs.2 b (nl b o e)).trans (I.base.keep b o e n hb hx)
 . obtain ⟨sl, e1⟩ := I.base.slot b o e n hb hx
   exact ⟨sl, (hs.2 b (nl b o e)).trans e1⟩
 . obtain ⟨o', e1⟩ := I.base.there b o e hx
   exact ⟨o', (hs.2 b (nl b o e)).trans e1⟩
 . by_cases hj : j = i
   . subst hj
     have hlen : j < σ.length := (List.getElem?_eq_some_iff.mp hv).1
     rw [List.getElem?_set_self hlen] at e2
     cases e2
   . rw [List.getElem?_set_ne (Ne.symm hj)] at e2
     obtain ⟨u', r', q⟩ := hl j y v' e1 e2 e3
     refine ⟨u', r', ?_⟩
     rcases q with ⟨k1, e⟩ | ⟨k1, c, e, z⟩
     . have : y ≠ x := fun e => hj (C3m hN e1 (e ▸ hi))
       exact .inl ⟨k1, by simp [this, e]⟩
     . exact .inr ⟨k1, c, e, z.sameBut hs (I.cne y c e)⟩
 . obtain ⟨w2, z⟩ := I.cell y c e
   exact ⟨w2, z.sameBut hs (I.cne y c e)⟩
 . obtain ⟨e, n, ne, nf, d⟩ := I.pin p hp
   exact ⟨(hs.2 p.1 ne).trans e, n, ne, nf, d⟩
 . refine (I.hok b u z).stay (fun c w2 hc q => (hs.2 c ?_).trans q) (fun _ q => q) fun _ _ q => q
   rintro rfl
   rcases hc with rfl | hc
   . rw [I.free] at z; cases z
   . rw [I.free] at hc; cases hc
end
abbrev Cx.hold (X : Cx) (pins : List (Addr × Obj)) (E : Value -> Shared -> Prop) : Cx := { X with pn := X.pn ++ pins, xe := E }
abbrev Cx.hnd (X : Cx) (pins : List (Addr × Obj)) (a : Addr) : Cx := { X with A := X.A.mark (some (.ref a)), calm := false, pn := X.pn ++ pins, xe := fun _ _ => False }
section
variable {X : Cx} {pins pins' : List (Addr × Obj)} {σ : St} {H : Hp} {s : Shared} {a : Addr} {E : Value -> Shared -> Prop}
theorem Inv.hold (I : Inv X pins σ H s) : Inv (X.hold pins E) [] σ H s :=
 ⟨⟨I.ok.mod, I.ok.kind, I.ok.glob, I.ok.blt, I.ok.above, I.ok.inj, I.ok.has, I.ok.cab, I.ok.hd, I.ok.frames, I.ok.stk, I.ok.exf, I.ok.bs, I.ok.bsz, I.ok.noex, I.ok.exfs, I.ok.funs, I.ok.frf⟩,
   I.os, I.bare, I.base, I.loc, I.cell, I.free, I.freeC, fun p hp => I.pin p (by simpa using hp), I.hok, I.len⟩
theorem Inv.unhold (I : Inv (X.hold pins E) pins' σ H s) : Inv X pins σ H s :=
 ⟨⟨I.ok.mod, I.ok.kind, I.ok.glob, I.ok.blt, I.ok.above, I.ok.inj, I.ok.has, I.ok.cab, I.ok.hd, I.ok.frames, I.ok.stk, I.ok.exf, I.ok.bs, I.ok.bsz, I.ok.noex, I.ok.exfs, I.ok.funs, I.ok.frf⟩,
   I.os, I.bare, I.base, I.loc, I.cell, I.free, I.freeC, fun p hp => I.pin p (List.mem_append_left _ hp), I.hok, I.len⟩
theorem Inv.hnd (I : Inv X pins σ H s) : Inv (X.hnd pins a) [] σ H s :=
 ⟨⟨I.ok.mod, I.ok.kind, I.ok.glob, I.ok.blt, I.ok.above, I.ok.inj, I.ok.has, I.ok.cab, (fun z => nomatch z), I.ok.frames, I.ok.stk, I.ok.exf, I.ok.bs, I.ok.bsz, I.ok.noex, I.ok.exfs, I.ok.funs, I.ok.frf⟩,
   I.os, I.bare, I.base, I.loc, I.cell, I.free, I.freeC, fun p hp => I.pin p (by simpa using hp), I.hok, I.len⟩
theorem Inv.unhnd (ok : X.Ok) (I : Inv (X.hnd pins a) pins' σ H s) : Inv X pins σ H s :=
 ⟨ok, I.os, I.bare, I.base, I.loc, I.cell, I.free, I.freeC, fun p hp => I.pin p (List.mem_append_left _ hp), I.hok, I.len⟩
theorem Nw.unhold {b : Addr} (n : Nw (X.hold pins E) pins' H b) : Nw X pins H b := ⟨n.un, n.loc, n.fs, n.old, n.cell, fun p hp => n.pin p (List.mem_append_left _ hp)⟩
theorem Flt.unhold {t : Addr} {C : Value} {dd : Option Addr} (F : Flt (X.hold pins E) pins' H s a C t dd) : Flt X pins H s a C t dd := by
 obtain ⟨n, tb, e, ok, m⟩ := F
 exact ⟨n.unhold, tb, e, ok, fun T z => (m T z).unhold⟩
theorem SP.unhold {D : Ends} {f : Flow} {s' : Shared} (h : SP (X.hold pins E) pins' D f s') : SP X pins D f s' := by
 cases f with
 | next => obtain ⟨σ', H', I, q⟩ := h; exact ⟨σ', H', I.unhold, q⟩
 | brk => obtain ⟨σ', H', I, q⟩ := h; exact ⟨σ', H', I.unhold, q⟩
 | cont => obtain ⟨σ', H', I, q⟩ := h; exact ⟨σ', H', I.unhold, q⟩
 | ret u => obtain ⟨v, σ', H', I, r, q⟩ := h; exact ⟨v, σ', H', I.unhold, r, q⟩
end
structure Clause (K : Frag) (R : Addr) : Prop where
 ty : typeIn K (.ref R) = some (.type "type")
 cl : (clsIn K R).isSome = true
 ex : subIn K (.ref R) (.type "BaseException") = some true
theorem A6a {K : Frag} {M : Model} {h : Heap} {R : Addr} (X : K.In h) (c : (clsIn K R).isSome = true) : Looks M h (isType (.ref R)) true := by
 unfold clsIn at c
 split at c
 . rename_i ho
   intro A' Q' E' s' k q
   unfold isType loadHead
   exact wpAny_bind (wpAny_loadPart (k _ _ (X _ _ ho)) (wpAny_pure q))
 . cases c
theorem U6g {K : Frag} {M : Model} {A : Around} {E : Value -> Shared -> Prop} {s : Shared} {a R : Addr} {C : Value} {oa : Obj} {b : Bool} {Q : Bool -> Shared -> Prop} (X : K.In s.heap) (ha : s.heap.get? a = some oa) (hc : oa.cls = C) (c : Clause K R)
   (m : subIn K C (.ref R) = some b) (h : Q b s) : wpAny M A (excMatches (.ref a) (.ref R)) Q E s := by
 obtain ⟨hp, g, d, tk, os⟩ := s
 have L1 : Looks M hp (typeOf (.ref R)) (.type "type") := looks_typeIn X c.ty
 have L2 : Looks M hp (isSubtype (.ref R) (.type "BaseException")) true := looks_subIn X c.ex
 have L3 : Looks M hp (isSubtype C (.ref R)) b := looks_subIn X m
 have L4 : Looks M hp (typeOf (.ref a)) C := hc ▸ (Looks.ld ha).andThen .now
 have L5 : Looks M hp (isType (.ref R)) true := A6a X c.cl
 unfold excMatches
 unfold isInstance
 refine wpAny_bind (wpAny_bind (L1.at ?_))
 rw [tc_notTuple]
 refine wpAny_pure ?_
 simp only [Bool.false_eq_true, if_false]
 refine wpAny_bind (wpAny_pure ?_)
 simp only [List.forIn_cons, List.forIn_nil]
 unfold isExcClass
 refine wpAny_bind (wpAny_bind (wpAny_bind (wpAny_bind (L5.at ?_))))
 simp only [if_true]
 refine L2.at ?_
 simp only [Bool.not_true, Bool.false_eq_true, if_false]
 refine wpAny_pure (wpAny_pure ?_)
 refine wpAny_bind (L4.at ?_)
 refine wpAny_bind (wpAny_bind (wpAny_bind (L3.at ?_)))
 cases b with
 | true => simp only [if_true]; exact wpAny_pure (wpAny_pure (wpAny_pure h))
 | false => simp only [Bool.false_eq_true, if_false]; exact wpAny_pure (wpAny_pure (wpAny_pure h))
def tTry (K : Frag) (R : Addr) (i : Nat) (tb : EK -> TS) (ts : Addr -> TS) : TS := fun D σ H =>
 tb (fun C dd σ' H' => subIn K C (.ref R) = some true /\ ∀ (a t T : Addr), H' a = none ->
   ts a { nx := fun σ2 H2 => D.nx (σ2.set i none) H2, rt := D.rt, bk := fun σ2 H2 => D.bk (σ2.set i none) H2, ct := fun σ2 H2 => D.ct (σ2.set i none) H2 }
     (σ'.set i (some (.ref a))) (upd H' a (.frz (Z5 C t dd (.ref T)) (.own a)))) D σ H
section
variable {X : Cx} {x n : Str} {np hpos pos : Pos} {R : Addr} {i : Nat} {body suite : List Stmt} {b₀ : Stmt} {tb : EK -> TS} {ts : Addr -> TS}
theorem Z3a (B : Body X) (hg : Gl X x) (hm : X.mg x = some (.ref R)) (c : Clause X.K R) (hN : X.N.Nodup) (hi : X.N[i]? = some n) (hk : X.env.scope.names.lookup n = some .local)
   (hb : ∀ pins Ew EHb, D6 (X.hold pins Ew) EHb -> PSs (X.hold pins Ew) body (tb EHb)) (hs : ∀ pins a, PSs (X.hnd pins a) (b₀ :: suite) (ts a))
   (hdb : (x == ("__debug__" : Str)) = false := by decide) (hf : X.fn n = true \/ X.env.scope.names.lookup n = some .local := by first | exact .inl rfl | exact .inr rfl | assumption) :
   PS X (.Try body [.ExceptHandler (some (.Name x np)) (some n) (b₀ :: suite) hpos] [] [] pos) (tTry X.K R i tb ts) := by
 intro pins s σ H D I h
 refine wpAny_Try_except ?_
 refine wpAny_mono (hb pins _ _ ?cat [] s σ H D I.hold h) (fun f s1 hf1 => ?_) (fun e s1 he => he)
 case cat =>
   intro pins' σ' H' s' a t C dd I' F' hE
   obtain ⟨hsub, hE⟩ := hE
   show wpAny (model X.prog X.w) X.A (noteFrame (.ref a) X.env) _ X.xe s'
   have J := I'.unhold
   have F := F'.unhold
   refine G5q B J F fun s2 J2 F2 => C4d J2 F2 fun s3 J3 F3 => ?_
   obtain ⟨na, T, oT, ts', e3, ne3, nT3, eT3, dT3, h33⟩ := id F3
   refine wpAny_handleBy_cons (codeAny_handlers_test ?_) (by intro z; cases z)
   have K3 : Inv (X.hnd pins a) [] σ' H' s3 := J3.hnd
   refine A0y K3 hg hm ?_ hdb
   refine U6g J3.kIn e3 rfl c hsub ?_
   show codeAny _ _ _ _ _
   refine codeAny_handlers_suite_as ?_
   refine C4d J3 F3 fun s4 J4 F4 => ?_
   obtain ⟨na4, T4, oT4, ts4, e4, _⟩ := id F4
   have J5 := J4.track na4 e4
   refine A8y (v := .ref a) J5 hN hi (.inl hk) rfl (fun s5 J6 => ?_) hf
   refine wpAny_mono (hs pins a [] s5 _ _ _ J6.hnd (hE a t T4 na4.un)) (fun f s6 hf6 => ?_) (fun _ _ z => z.elim)
   have fin : ∀ {σ6 : St} {H6 : Hp} {Q6 : Unit -> Shared -> Prop}, Inv (X.hnd pins a) [] σ6 H6 s6 -> (∀ s7, Inv X pins (σ6.set i none) H6 s7 -> Q6 () s7) ->
       wpAny (model X.prog X.w) X.A (do bindName X.env n .none; unbindBehindTheSuite X.env n hpos) Q6 X.xe s6 := by
     intro σ6 H6 Q6 K6 k6
     have L6 := K6.unhnd J6.ok
     refine wpAny_bind (wpAny_bindName (A8y (v := .non) L6 hN hi (.inl hk) rfl (fun s7 J7 => ?_) hf))
     unfold unbindBehindTheSuite
     have hlen : i < σ6.length := by rw [L6.len]; exact (List.getElem?_eq_some_iff.mp hi).1
     refine wpAny_onRaise (U4c J7 hN hi hk (List.getElem?_set_self hlen) fun s8 J8 => k6 s8 ?_)
     rw [List.set_set] at J8
     exact J8
   cases f with
   | next => obtain ⟨σ6, H6, K6, q⟩ := hf6; exact fin K6 fun s7 J7 => ⟨_, _, J7, q⟩
   | brk => obtain ⟨σ6, H6, K6, q⟩ := hf6; exact fin K6 fun s7 J7 => ⟨_, _, J7, q⟩
   | cont => obtain ⟨σ6, H6, K6, q⟩ := hf6; exact fin K6 fun s7 J7 => ⟨_, _, J7, q⟩
   | ret u => obtain ⟨v, σ6, H6, K6, r, q⟩ := hf6; exact fin K6 fun s7 J7 => ⟨v, _, _, J7, r, q⟩
 . cases f with
   | next => exact wpAny_execs_nil (SP.unhold hf1)
   | brk => exact SP.unhold hf1
   | cont => exact SP.unhold hf1
   | ret u => exact SP.unhold hf1
end
structure ExcK (K : Frag) (C : Addr) : Prop where
 ga : findIn K (.ref C) "__getattribute__" = some (some (.builtin "BaseException.__getattribute__"))
 gh : findIn K (.ref C) "__getattr__" = some none
 ca : findIn K (.ref C) "__class__" = some (some (.builtin "object.__class__"))
 sn : specialIn K (.builtin "object.__class__") "__get__" = some (some (.builtin "getset_descriptor.__get__"))
 tk : takesIn K (.builtin "object.__class__") = some true
 ob : mroIn K C (.type "object") = some true
 be : subIn K (.ref C) (.type "BaseException") = some true
 cl : (clsIn K C).isSome = true
theorem A8t {prog : Program} {w : World} {A : Around} {E : Value -> Shared -> Prop} {s : Shared} {K : Frag} {a C : Addr} {oa : Obj} {od : Option Obj} {Q : Option Value -> Shared -> Prop} (F : ExcK K C) (X : K.In s.heap) (I : PySem.W.InstAt s.heap a oa C od)
   (h : Q (some (.ref C)) { s with toks := s.toks + 1 }) : wpAny (model prog w) A (getAttr? (.ref a) "__class__") Q E s := by
 obtain ⟨hp, g, d, t, os⟩ := s
 have L0 := I.type (M := model prog w)
 have L1 := looks_findIn (M := model prog w) X F.ga
 have L2 := looks_findIn (M := model prog w) X F.gh
 have L3 : Looks (model prog w) hp (isInstance (.ref a) (.type "BaseException")) true := L0.andThen (looks_subIn X F.be)
 have hf : findObj K C od "__class__" = some (.bind (.builtin "getset_descriptor.__get__") (.builtin "object.__class__")) := by
   obtain ⟨cd, hc⟩ := Option.isSome_iff_exists.mp F.cl
   unfold findObj
   rw [hc, Option.bind_some, F.ca, Option.bind_some]
   simp [F.sn, F.tk]
 have L4 := looks_find (M := model prog w) X I hf
 have hk : builtinKind "BaseException.__getattribute__" = some .slot := by decide +kernel
 have hsplit : splitId "BaseException.__getattribute__" = some ("BaseException", "__getattribute__") := by decide +kernel
 have hargs := PySem.F.args_bexc_ga (.ref a) (.str "__class__" t)
 have hb := PySem.F.attr_ValueError.ga.bind (.ref a)
 unfold getAttr? getAttrBy? getAttrBy
 refine wpAny_bind (wpAny_mkText (wpAny_bind (wpAny_attempt (wpAny_holding (wpAny_bind (L0.at (wpAny_bind (L1.at ?_))))))))
 dsimp only
 rw [if_neg (show ¬ ((onTheHeap (Value.ref C) && Value.builtin "BaseException.__getattribute__" == Value.builtin "object.__getattribute__") = true) by
   rw [show (Value.builtin "BaseException.__getattribute__" == Value.builtin "object.__getattribute__") = false by decide +kernel, Bool.and_false]; exact Bool.false_ne_true)]
 unfold getAttrByItsOwn
 refine wpAny_bind (m := hookBefore (.ref C)) (L2.at ?_)
 refine wpAny_bind (wpAny_attempt (wpAny_holding ?_))
 unfold callGetattribute
 rw [if_neg (by decide)]
 unfold boundAndCalled
 rw [hb]
 refine wpAny_bind (wpAny_pure ?_)
 refine wpAny_call (codeAny_call_builtin PySem.F.attr_ValueError.ga.plain PySem.F.entry_bexc_ga ?_)
 have chk : ∀ {A' : Around} {Q' : Unit -> Shared -> Prop} {E' : Value -> Shared -> Prop}, Q' () ⟨hp, g, d, t + 1, os⟩ -> wpAny (model prog w) A' (checkBuiltinCall "BaseException.__getattribute__" ⟨[.ref a, .str "__class__" t], []⟩) Q' E' ⟨hp, g, d, t + 1, os⟩ := by
   intro A' Q' E' hq
   simp only [checkBuiltinCall, hk, hsplit]
   refine wpAny_bind ?_
   refine L3.at ?_
   repeat (first | assumption | wp_step)
 refine chk ?_
 show wpAny _ _ (Builtin.«object.__getattribute__» ⟨[.ref a, .str "__class__" t], []⟩) _ _ _
 unfold Builtin.«object.__getattribute__»
 refine wpAny_bind (wpAny_pure ?_)
 refine wpAny_bind (wpAny_pure ?_)
 refine wpAny_bind (L0.at (wpAny_bind (L4.at ?_)))
 dsimp only
 show wpAny _ _ (holding [Value.builtin "object.__class__"] (call (.builtin "getset_descriptor.__get__") [.builtin "object.__class__", .ref a, .ref C]) >>= ret) _ _ _
 refine wpAny_bind (wpAny_holding (wpAny_call (class_get (s := ⟨hp, g, d, t + 1, os⟩) X I F.ob (wpAny_pure ?_))))
 exact handed_on rfl (wpAny_pure h)
def A1u (X : Cx) : Prop := X.A.handled = none \/ ∃ x o u vs, X.A.handled = some (.ref x) /\ X.H₀ x = some (.frz o u) /\ o.data = .fields vs /\ vs[2]? = some .none
section
variable {X : Cx} {pins : List (Addr × Obj)} {σ : St} {H : Hp} {s : Shared}
theorem Inv.hdB {it : Addr} (I : Inv X pins σ H s) (h : A1u X) (hn : H it = none) : ∀ h' : Heap, Heap.ExtBut it s.heap h' -> Hd X.A h' := by
 intro h' k
 rcases h with z | ⟨x, o, u, vs, z, e, d, n⟩
 . exact .inl z
 . have q := I.base.frzs x o u e
   exact .inr ⟨x, o, vs, z, k x o (fun w => by rw [w, hn] at q; cases q) (I.hok x _ q).1, d, n⟩
end
structure TurnH (P : Program) (w : World) (K : Frag) (tg : Expr) (J : It) (it : Addr) (tn : Nat -> Heap -> Prop) : Prop where
 obj : ∀ i h, tn i h -> ∃ o, h.get? it = some o /\ ∀ v, o.data ≠ .cell v
 keep : ∀ i h h', tn i h -> (∀ o, h.get? it = some o -> h'.get? it = some o) -> tn i h'
 item : ∀ (X : Cx), X.prog = P -> X.w = w -> X.K = K -> A1u X -> ∀ (i : Nat) (pins : List (Addr × Obj)) (s : Shared) (σ : St) (H : Hp) (E : Value -> Shared -> Prop), Inv X pins σ H s -> A4u X pins H it -> tn i s.heap -> J.go i H ->
   wpAny (model P w) X.A (pyNext (.ref it)) (fun r s1 => ∃ u, r = some u /\
     wpAny (model P w) X.A (letOwnedTupleGo tg (.ref it) u) (fun _ s2 => ∃ x, Inv X pins σ H s2 /\ RelV x u /\ J.yld i H x H /\ tn (i + 1) s2.heap) E s1) E s
 done : ∀ (X : Cx), X.prog = P -> X.w = w -> X.K = K -> A1u X -> ∀ (i : Nat) (pins : List (Addr × Obj)) (s : Shared) (σ : St) (H : Hp) (E : Value -> Shared -> Prop), Inv X pins σ H s -> A4u X pins H it -> tn i s.heap -> J.stop i H ->
   wpAny (model P w) X.A (pyNext (.ref it)) (fun r s1 => r = none /\ Inv X pins σ H s1) E s
 self : ∀ (A : Around) (i : Nat) (s : Shared) (Q : Value -> Shared -> Prop) (E : Value -> Shared -> Prop), tn i s.heap -> Q (.ref it) s -> wpAny (model P w) A (pyIter (.ref it)) Q E s
theorem J0m {P : Program} {w : World} {K : Frag} {tg : Expr} (a it : Addr) : TurnH P w K tg (Itl K a) it (fun i h => h.IsListIter it a i) where
 obj := fun i h ⟨o, e, c, d⟩ => ⟨o, e, fun v z => by rw [d] at z; cases z⟩
 keep := fun i h h' st k => st.at fun o e => k o e
 item := by
   intro X hP hw hK hc i pins s σ H E I hf st hg
   subst hP hw hK
   obtain ⟨xs, x, hq, hx⟩ := hg
   obtain ⟨its, rv, p, hz⟩ := I.list hq
   obtain ⟨u, hu, ru⟩ := rv.get hx
   obtain ⟨f0, f1, f2, f3, f4, f5⟩ := hf
   refine wpAny_pyNext_list_item st p.isList (x := u) (by simpa using hu) fun h' st' sb => ?_
   have I1 : Inv X pins σ H { s with heap := h' } := I.turned (t' := s.toks) (fun b o hb e => (sb.2 b hb).trans e) f0 f1 f3 f4 f5
   obtain ⟨o, e, c, d⟩ := id st'
   exact ⟨u, rfl, U2z (s := { s with heap := h' }) e c d (by decide) ⟨x, I1, ru, ⟨rfl, fun ys hy => by rw [I.list_inj hy hq]; exact hx⟩, st'⟩⟩
 done := by
   intro X hP hw hK hc i pins s σ H E I hf st hg
   subst hP hw hK
   obtain ⟨xs, hq, hx⟩ := hg
   obtain ⟨its, rv, p, hz⟩ := I.list hq
   obtain ⟨f0, f1, f2, f3, f4, f5⟩ := hf
   have hl := rv.length
   exact B7d (I.hdB hc f0) st p.isList (by simp; omega) fun h' eb => ⟨rfl, I.turned (t' := s.toks) (fun b o hb e => eb b o hb e) f0 f1 f3 f4 f5⟩
 self := fun _ _ _ _ _ st h => wpAny_pyIter_listiter st h
theorem U5d {P : Program} {w : World} {K : Frag} {tg : Expr} (a it : Addr) : TurnH P w K tg (Itt K a) it (fun i h => h.IsTupleIter it a i) where
 obj := fun i h ⟨o, e, c, d⟩ => ⟨o, e, fun v z => by rw [d] at z; cases z⟩
 keep := fun i h h' st k => st.at fun o e => k o e
 item := by
   intro X hP hw hK hc i pins s σ H E I hf st hg
   subst hP hw hK
   obtain ⟨xs, x, hq, hx⟩ := hg
   obtain ⟨its, rv, p, hz⟩ := I.tuple hq
   obtain ⟨u, hu, ru⟩ := rv.get hx
   obtain ⟨f0, f1, f2, f3, f4, f5⟩ := hf
   refine wpAny_pyNext_tuple_item st (show s.heap.IsTuple a its.toArray from p) (x := u) (by simpa using hu) fun h' st' sb => ?_
   have I1 : Inv X pins σ H { s with heap := h' } := I.turned (t' := s.toks) (fun b o hb e => (sb.2 b hb).trans e) f0 f1 f3 f4 f5
   obtain ⟨o, e, c, d⟩ := id st'
   exact ⟨u, rfl, U2z (s := { s with heap := h' }) e c d (by decide) ⟨x, I1, ru, ⟨rfl, fun ys hy => by rw [I.tuple_inj hy hq]; exact hx⟩, st'⟩⟩
 done := by
   intro X hP hw hK hc i pins s σ H E I hf st hg
   subst hP hw hK
   obtain ⟨xs, hq, hx⟩ := hg
   obtain ⟨its, rv, p, hz⟩ := I.tuple hq
   obtain ⟨f0, f1, f2, f3, f4, f5⟩ := hf
   have hl := rv.length
   exact C2t (I.hdB hc f0) st p (by simp; omega) fun h' eb => ⟨rfl, I.turned (t' := s.toks) (fun b o hb e => eb b o hb e) f0 f1 f3 f4 f5⟩
 self := fun _ _ _ _ _ st h => wpAny_pyIter_tupleiter st h
def PIH (X : Cx) (tg iter : Expr) (wi : TI) : Prop :=
 ∀ (pins : List (Addr × Obj)) (s : Shared) (σ : St) (H : Hp) (R : It -> Hp -> Prop), Inv X pins σ H s -> wi σ H R ->
   wpAny (model X.prog X.w) X.A (eval iter X.env) (fun v s1 => wpAny (model X.prog X.w) X.A (pyIter v) (fun itv s2 => ∃ (it : Addr) (tn : Nat -> Heap -> Prop) (J : It) (H' : Hp), itv = .ref it /\ Inv X pins σ H' s2 /\ TurnH X.prog X.w X.K tg J it tn /\ tn 0 s2.heap /\
     A4u X pins H' it /\ R J H') X.xe s1) X.xe s
section
variable {X : Cx} {tg : Expr}
theorem V1n {l : Expr} {tl : TE} (hl : PE X l tl) : PIH X tg l (U1y X.K tl) := by
 intro pins s σ H R I h
 refine thn (hl pins s σ H _ I h) fun v s1 ⟨x, H1, I1, r1, q1⟩ => ?_
 obtain ⟨a, e, ⟨xs, hq⟩, q⟩ := q1
 subst e
 cases r1
 obtain ⟨its, rv, p, hz⟩ := I1.list hq
 exact wpAny_pyIter_list p.isList ⟨s1.heap.objs.size, _, _, H1, rfl, I1.kept (t' := s1.toks) fun b o e => Heap.get?_push_of_some _ e, J0m a _, ⟨_, Heap.get?_push_size _ rfl, rfl, rfl⟩, I1.fpOk (Nat.le_refl _) (I1.hok.fresh (Nat.le_refl _)), q⟩
theorem D5z {l : Expr} {tl : TE} (hl : PE X l tl) : PIH X tg l (Z9c X.K tl) := by
 intro pins s σ H R I h
 refine thn (hl pins s σ H _ I h) fun v s1 ⟨x, H1, I1, r1, q1⟩ => ?_
 obtain ⟨a, e, ⟨xs, hq⟩, q⟩ := q1
 subst e
 cases r1
 obtain ⟨its, rv, p, hz⟩ := I1.tuple hq
 exact wpAny_pyIter_tuple (show s1.heap.IsTuple a its.toArray from p) ⟨s1.heap.objs.size, _, _, H1, rfl, I1.kept (t' := s1.toks) fun b o e => Heap.get?_push_of_some _ e, U5d a _, ⟨_, Heap.get?_push_size _ rfl, rfl, rfl⟩, I1.fpOk (Nat.le_refl _) (I1.hok.fresh (Nat.le_refl _)), q⟩
end
section
variable {X : Cx}
theorem V3g {pins : List (Addr × Obj)} {σ : St} {H : Hp} {s : Shared} {C : Addr} {h' : Heap} (I : Inv X pins σ H s) (f : A4u X pins H C) (sb : Heap.SameBut C s.heap h') : Inv X pins σ H { s with heap := h' } :=
 I.turned (t' := s.toks) (fun b o hb e => (sb.2 b hb).trans e) f.1 f.2.1 f.2.2.2.1 f.2.2.2.2.1 f.2.2.2.2.2
end
section
variable {X : Cx} {a b c : Expr} {ta tb tc : TE} {pos : Pos}
theorem U4 : OpR X (binaryOp .Mult) (rI IntMulOk fun i j => .int (i * j)) := opI fun _ _ _ _ _ _ _ hc q => mul_int q hc
theorem G3 : OpR X (binaryOp .FloorDiv) (rI (fun _ j => 0 < j /\ j.natAbs.log2 < 9000) fun i j => .int (i / j)) := opI fun i j _ _ _ _ _ hc q => by
 have h1 : (0 : Int) < j := hc.1
 exact floordiv_int (by omega) (by rw [Int.fdiv_eq_ediv_of_nonneg i (by omega)]; exact q) (.inl (PyProof.noPylong_of_log2 hc.2))
theorem A5r {i : Int} {k : Nat} (h : i.natAbs < 2 ^ k) (hk : 0 < k) : i.natAbs.log2 < k := by
 by_cases z : i.natAbs = 0
 . rw [z]; simpa using hk
 . exact (Nat.log2_lt z).mpr h
inductive TyE (K : Frag) (H : Hp) : V -> Value -> Prop where
 | of {x : V} {t : Value} (h : TyOf K H x t) : TyE K H x t
 | exc {a C t : Addr} {T : Value} {u : HO} (e : H a = some (.frz (Z5 (.ref C) t none T) u)) (k : ExcK K C) : TyE K H (.ref a) (.ref C)
 | excD {a C t : Addr} {T : Value} {d : Addr} {u : HO} {fs : List (Str × V)} (e : H a = some (.frz (Z5 (.ref C) t (some d) T) u)) (hd : H d = some (.xd fs)) (k : ExcK K C) : TyE K H (.ref a) (.ref C)
 | tupK {a : Addr} {o : Obj} (l : K.lookup a = some o) (c : o.cls = .type "tuple") : TyE K H (.ref a) (.type "tuple")
theorem J0n {pins : List (Addr × Obj)} {σ : St} {H : Hp} {s : Shared} {A : Around} {E : Value -> Shared -> Prop} {Q : Value -> Shared -> Prop} {c : Value} {b : Bool} {x : V} {u t : Value} (I : Inv X pins σ H s) (rx : RelV x u) (ty : TyE X.K H x t)
   (e : kitOne X.K t c = some b) (h : ∀ tk, Q (.bool b) { s with toks := tk }) : wpAny (model X.prog X.w) A (call (.builtin "isinstance") [u, c]) Q E s := by
 cases ty with
 | of h' => exact U4d I rx h' e h
 | exc ea k =>
   cases rx
   rename_i a C t0 T u0
   have o1 : s.heap.get? a = some (Z5 (.ref C) t0 none T) := (I.hok a _ ea).1
   refine kia_one (H := fun h => PySem.W.InstAt h a (Z5 (.ref C) t0 none T) C none) ?_ I.kIn ⟨o1, rfl, rfl, trivial⟩ e (fun z => nomatch z) h
   refine ⟨fun M h _ J => J.type, fun M h K _ => A6a K k.cl, fun h tp dd its n sl K htp => ?_, fun K J q => A8t k K J q⟩
   refine Bool.eq_false_iff.mpr fun q => ?_
   have e : C = tp := Value.ref.inj (beq_iff_eq.mp q)
   subst e
   have z := k.cl
   unfold clsIn at z
   split at z
   . rename_i ho
     have y := (K _ _ ho).symm.trans htp
     cases y
   . cases z
 | tupK l c =>
   cases rx
   exact PySem.W.kia_one PySem.W.kitx_tuple I.kIn ⟨_, I.kIn _ _ l, c⟩ e (fun z => nomatch z) h
 | excD ea hd k =>
   cases rx
   rename_i a C t0 T d u0 fs
   have o1 : s.heap.get? a = some (Z5 (.ref C) t0 (some d) T) := (I.hok a _ ea).1
   obtain ⟨mA, nA, _⟩ := (show ∃ mA, s.heap.Ns1 d mA /\ ∀ f, RelO (fs.lookup f) (mA f) from I.hok d _ hd)
   obtain ⟨od, o2, _⟩ := B7g nA
   refine kia_one (H := fun h => PySem.W.InstAt h a (Z5 (.ref C) t0 (some d) T) C (some od)) ?_ I.kIn ⟨o1, rfl, rfl, o2⟩ e (fun z => nomatch z) h
   refine ⟨fun M h _ J => J.type, fun M h K _ => A6a K k.cl, fun h tp dd its n sl K htp => ?_, fun K J q => A8t k K J q⟩
   refine Bool.eq_false_iff.mpr fun q => ?_
   have e : C = tp := Value.ref.inj (beq_iff_eq.mp q)
   subst e
   have z := k.cl
   unfold clsIn at z
   split at z
   . rename_i ho
     have y := (K _ _ ho).symm.trans htp
     cases y
   . cases z
def Z2w : V -> Option Value
 | .ty n => some (.type n)
 | .ref a => some (.ref a)
 | _ => none
theorem G5m : A4y X (.builtin "isinstance") (fun xs H Q => ∃ x c cv t b, xs = [x, c] /\ Z2w c = some cv /\ TyE X.K H x t /\ kitOne X.K t cv = some b /\ Q (.bl b) H) := by
 intro pins s σ H xs us Q I r h
 obtain ⟨x, c, cv, t, b, rfl, hc, ty, e, q⟩ := h
 obtain ⟨u, v, rfl, ru, rv⟩ := Vals.two r
 have : v = cv := by
   cases c <;> simp only [Z2w] at hc <;> first | (cases hc; exact rv) | cases hc
 subst this
 exact J0n I ru ty e fun tk => ⟨.bl b, H, I.tok tk, rfl, q⟩
mutual
inductive RdD (K : Frag) (H : Hp) : V -> PyData -> Prop where
 | non : RdD K H .non .none
 | bl (b : Bool) : RdD K H (.bl b) (.bool b)
 | int (i : Int) : RdD K H (.int i) (.int i)
 | str (x : Str) : RdD K H (.str x) (.str x)
 | tup {a : Addr} {xs : List V} {ds : List PyData} (h : SqT K H a xs) (r : RdDs K H xs ds) : RdD K H (.ref a) (.tuple ds)
 | lst {a : Addr} {xs : List V} {ds : List PyData} (h : SqL K H a xs) (r : RdDs K H xs ds) : RdD K H (.ref a) (.list ds)
inductive RdDs (K : Frag) (H : Hp) : List V -> List PyData -> Prop where
 | nil : RdDs K H [] []
 | cons {x : V} {xs : List V} {d : PyData} {ds : List PyData} (h : RdD K H x d) (r : RdDs K H xs ds) : RdDs K H (x :: xs) (d :: ds)
end
mutual
theorem RdD.reads {pins : List (Addr × Obj)} {σ : St} {H : Hp} {s : Shared} (I : Inv X pins σ H s) : ∀ {x : V} {d : PyData} {u : Value}, RdD X.K H x d -> RelV x u -> ∃ as, Reads s.heap u d as
 | _, _, _, .non, r => by cases r; exact ⟨_, .none⟩
 | _, _, _, .bl b, r => by cases r; exact ⟨_, .bool b⟩
 | _, _, _, .int i, r => by obtain ⟨t, rfl⟩ := r; exact ⟨_, .int i t⟩
 | _, _, _, .str x, r => by obtain ⟨t, rfl⟩ := r; exact ⟨_, .str x t⟩
 | _, _, _, .tup h q, r => by
   cases r
   obtain ⟨its, rv, ⟨o, e, c, n, d⟩, _⟩ := I.tuple h
   obtain ⟨as, z⟩ := RdDs.reads I q rv
   exact ⟨_, reads_tuple_at e c d (by simpa using z)⟩
 | _, _, _, .lst h q, r => by
   cases r
   obtain ⟨its, rv, p, _⟩ := I.list h
   obtain ⟨o, e, c, n, d⟩ := p.isList
   obtain ⟨as, z⟩ := RdDs.reads I q rv
   exact ⟨_, reads_list_at e c d (by simpa using z)⟩
theorem RdDs.reads {pins : List (Addr × Obj)} {σ : St} {H : Hp} {s : Shared} (I : Inv X pins σ H s) : ∀ {xs : List V} {ds : List PyData} {us : List Value}, RdDs X.K H xs ds -> Vals xs us -> ∃ as, ReadsAll s.heap us ds as
 | _, _, _, .nil, r => by cases r; exact ⟨_, .nil⟩
 | _, _, _, .cons h q, r => by
   cases r with
   | cons r1 r2 =>
     obtain ⟨as, z⟩ := RdD.reads I h r1
     obtain ⟨bs, y⟩ := RdDs.reads I q r2
     exact ⟨_, .cons z y⟩
end
def Z8h (K : Frag) (n : Bool) : R2 := fun x y H Q => ∃ d e, RdD K H x d /\ RdD K H y e /\ SeqAt.shaped d = true /\ SeqAt.shaped e = true /\ Q (.bl (if n then !PyData.eqv d e else PyData.eqv d e)) H
theorem D6a (hu : X.A.units + 64 < cLine) : OpR X (compareOp .Eq) (Z8h X.K false) := by
 intro pins s σ H x y v u Q I rx ry q
 obtain ⟨d, e, hx, hy, sd, se, q⟩ := q
 obtain ⟨as, z⟩ := hx.reads I rx
 obtain ⟨bs, z'⟩ := hy.reads I ry
 exact eq_dataH z z' sd se hu ⟨.bl (PyData.eqv d e), H, I, rfl, q⟩
theorem Z2e (hu : X.A.units + 64 < cLine) : OpR X (compareOp .NotEq) (Z8h X.K true) := by
 intro pins s σ H x y v u Q I rx ry q
 obtain ⟨d, e, hx, hy, sd, se, q⟩ := q
 obtain ⟨as, z⟩ := hx.reads I rx
 obtain ⟨bs, z'⟩ := hy.reads I ry
 exact ne_dataH z z' sd se hu ⟨.bl (!PyData.eqv d e), H, I, rfl, q⟩
inductive FPart (X : Cx) : Expr -> TE -> Prop where
 | lit {x : Str} {j : Nat} {pos : Pos} : FPart X (.Constant (.str x) j pos) (tC (.str x))
 | int {v : Expr} {tv : TE} {pos : Pos} (h : PE X v tv) : FPart X (.FormattedValue v (-1) none pos) (fun σ H Q => tv σ H fun y H1 => ∃ i, y = .int i /\ i.natAbs.log2 < 1920 /\ Q (.str (toString i)) H1)
theorem FPart.pe {e : Expr} {t : TE} (h : FPart X e t) : PE X e t := by
 cases h with
 | lit => exact B0
 | int h =>
   intro pins s σ H Q I q
   refine FormattedValue_plain (thn (h pins s σ H _ I q) fun u s1 ⟨y, H1, I1, r, i, e, l, q⟩ => ?_)
   subst e
   obtain ⟨t, rfl⟩ := r
   exact formatField_int_small l ⟨.str (toString i), H1, I1.tok _, ⟨_, rfl⟩, q⟩
inductive FParts (X : Cx) : List Expr -> (Str -> TE) -> Prop where
 | nil : FParts X [] (fun out _ H Q => out.length <= sizeLine /\ Q (.str out) H)
 | cons {e : Expr} {es : List Expr} {t : TE} {r : Str -> TE} (h : FPart X e t) (hr : FParts X es r) : FParts X (e :: es) (fun out σ H Q => t σ H fun x H1 => ∃ y, x = .str y /\ (out ++ y).length <= sizeLine /\ r (out ++ y) σ H1 Q)
theorem FParts.run {es : List Expr} {t : Str -> TE} (h : FParts X es t) : ∀ (out : Str) (pins : List (Addr × Obj)) (s : Shared) (σ : St) (H : Hp) (Q : VK), Inv X pins σ H s -> t out σ H Q ->
   wpAny (model X.prog X.w) X.A (joinParts out (evalEach es X.env)) (EP X pins σ Q) X.xe s := by
 induction h with
 | nil =>
   intro out pins s σ H Q I q
   exact joinParts_nil ⟨.str out, H, I.tok _, ⟨_, rfl⟩, q.2⟩ q.1
 | @cons e es t r h hr ih =>
   intro out pins s σ H Q I q
   show wpAny _ _ (joinParts out (eval e X.env :: evalEach es X.env)) _ _ _
   refine joinParts_cons (thn (h.pe pins s σ H _ I q) fun u s1 ⟨x, H1, I1, rx, y, ey, z, q⟩ => ?_)
   subst ey
   obtain ⟨t', rfl⟩ := rx
   exact ⟨z, ih _ pins s1 σ H1 Q I1 q⟩
theorem U2k {e1 e2 : Expr} {es : List Expr} {t : Str -> TE} {pos : Pos} (h : FParts X (e1 :: e2 :: es) t) : PE X (.JoinedStr (e1 :: e2 :: es) pos) (t Str.empty) := by
 intro pins s σ H Q I q
 exact JoinedStr_many (h.run _ pins s σ H Q I q)
end
section
variable {P : Program} {w : World} {K : Frag} {mg : Str -> Option Value} {base : Heap}
end
section
variable {X : Cx} {k : Nat} {f : Addr} {fd : FuncData} {ps : List Str} {sp : Sp} {x : Str} {p pos : Pos} {e : Expr} {es : List Expr} {t : TA}
end
theorem Inv.big {X : Cx} {pins : List (Addr × Obj)} {σ : St} {H : Hp} {s : Shared} (I : Inv X pins σ H s) : sysModules < s.heap.objs.size := by
 have h : mainGlobals < s.heap.objs.size := (I.mod.glob.keeps I.bk).lt
 exact Nat.lt_trans (by decide) h
theorem V2d {P : Program} {w : World} {H : Hp} (h : Heap) (hb : sysModules < h.objs.size) : ObjOk P w H (h.push { cls := .type "dict", data := .dict #[] }) h.objs.size (.dK []) :=
 ⟨Nat.zero_le _, beq_eq_false_iff_ne.mpr (Ne.symm (Nat.ne_of_lt hb)), [], .nil, Heap.DictOf.new h⟩
abbrev EKF : EK := fun _ _ _ _ => False
theorem Y3 {X : Cx} : D6 X EKF := fun _ _ _ _ _ _ _ _ _ _ h => h.elim
structure Def (K : Frag) (mg : Str -> Option Value) (x : Str) (ps : List Str) (st : Stmt) (f : Addr) (fd : FuncData) : Prop where
 F : Fun K x x st f fd
 g : mg x = some (.ref f)
 b : Binds K fd ps []
theorem D4 {K : Frag} {h : Heap} {mg : Str -> Option Value} {x : Str} {ps : List Str} {st : Stmt} {f : Addr} {oc : Value} {od an : Option Addr} {osl : Array (Option Value)} {kV doc pm cdv ct : Value} (X : K.In h) (G : h.Ns mainGlobals mg)
   (a : nsIn K mainGlobals x = some (some (.ref f))) (l : K.lookup f = some ⟨oc, od, .func (fnOf x x (B4 st) (B1 st) (A1 st) .none kV doc pm an cdv ct), osl⟩) (c : codeIn K cdv x = true) (k : keepIn K (.ref f) = true)
   (hb : ∀ (kV doc pm : Value) (an : Option Addr) (cdv ct : Value) (us : List Value), us.length = ps.length -> bindArgs (fnOf x x (B4 st) (B1 st) (A1 st) .none kV doc pm an cdv ct) ⟨us, []⟩ = pure (ps.zip us)) :
   Def K mg x ps st f (fnOf x x (B4 st) (B1 st) (A1 st) .none kV doc pm an cdv ct) :=
 ⟨G5 (st := st) l c k, mg_of X G a, (G5 (st := st) l c k).binds hb⟩
theorem Y5 {c A B : Prop} [Decidable c] (h : ¬ c) (b : B) : if decide c = true then A else B := by rw [decide_eq_false h]; exact G7 b
theorem A3t {c A B : Prop} [Decidable c] (h : c) (a : A) : if decide c = true then A else B := by rw [decide_eq_true h]; exact V8 a
theorem G8 {c A B : Prop} [Decidable c] (a : c -> A) (b : ¬ c -> B) : if decide c = true then A else B := by
 by_cases h : c
 . exact A3t h (a h)
 . exact Y5 h (b h)
def Z8z (t : TS) : TS := fun D σ H => ∃ J : St -> Hp -> Prop, t { D with nx := J } σ H /\ ∀ σ' H', J σ' H' -> D.nx σ' H'
theorem B8 {X : Cx} {st : Stmt} {t : TS} (h : PS X st t) : PS X st (Z8z t) := by
 intro pins s σ H D I q
 obtain ⟨J, q, k⟩ := q
 refine thn (h pins s σ H _ I q) fun f s' z => ?_
 cases f with
 | next => obtain ⟨σ', H', I', y⟩ := z; exact ⟨σ', H', I', k _ _ y⟩
 | brk => exact z
 | cont => exact z
 | ret u => exact z
theorem ixs {xs : List Int} {i : Int} (h0 : 0 <= i) (h1 : i < xs.length) : ∃ v, v ∈ xs /\ atI (xs.map V.int) i = some (.int v) := by
 obtain ⟨j, rfl⟩ := Int.eq_ofNat_of_zero_le h0
 have hj : j < xs.length := by omega
 exact ⟨xs[j], List.getElem_mem hj, G6 (by simp [hj])⟩
theorem ixv {xs : List V} {i : Int} (h0 : 0 <= i) (h1 : i < xs.length) : ∃ v, v ∈ xs /\ atI xs i = some v := by
 obtain ⟨j, rfl⟩ := Int.eq_ofNat_of_zero_le h0
 have hj : j < xs.length := by omega
 exact ⟨xs[j], List.getElem_mem hj, G6 (by simp [hj])⟩
theorem Same.upd {H : Hp} {p : Addr} {o : HO} (h : H p = none) : Same H (L2.upd H p o) := fun b u e => by rw [C4 (C9 e h)]; exact e
theorem C6 {n : Nat} (h : n <= 1000) : n <= sizeLine := Nat.le_of_lt (U8 h)
section
variable {X : Cx} {k j : Nat} {f : Addr} {fd : FuncData} {ps : List Str} {sp : Sp} {EH : EK} {x : Str} {st : Stmt} {p pos : Pos} {e : Expr} {es : List Expr} {t : TA}
theorem C8 (D : Def X.K X.mg x ps st f fd) (F : FnOk X.prog X.w X.K X.mg X.base (CX1 X.prog X.w) j f fd ps sp) (hr : Room k X.A) (hx : D6 X EH) (ha : PA X (e :: es) t) (hj : j <= k := by decide) (hg : Gl X x := by rfl) (hex : X.ex = [] := by rfl) (hdb : (x == ("__debug__" : Str)) = false := by decide)
   (he : starEach (e :: es) X.env = (false, eval e X.env) :: starEach es X.env := by rfl) (hpl : (backTo pos (starEach es X.env)).any (·.1) = false := by rfl) : PE X (.Call (.Name x p) (e :: es) [] pos) (D5b sp [] EH t) :=
 V1y (F.mono hj) hr hg D.g D.F.kp D.b .nil hx ha hex hdb he hpl
theorem Z2y (D : Def X.K X.mg x ps st f fd) (F : FnOk X.prog X.w X.K X.mg X.base (CX1 X.prog X.w) j f fd ps sp) (hr : Room k X.A) (hx : D6 X EH) (hj : j <= k := by decide) (hg : Gl X x := by rfl) (hex : X.ex = [] := by rfl) (hdb : (x == ("__debug__" : Str)) = false := by decide) :
   PE X (.Call (.Name x p) [] [] pos) (D5b sp [] EH V1g) :=
 U4g (F.mono hj) hr hg D.g D.F.kp D.b .nil hx hex hdb
theorem pty {n : Str} {T : String} (hm : X.mg n = none) (hv : bootBuiltins n = some (.type T)) (hg : Gl X n := by rfl) (hn : n ≠ "__name__" := by decide) (hdb : (n == ("__debug__" : Str)) = false := by decide) : PE X (.Name n pos) (tC (.ty T)) := Y7m hg hm hv rfl hn hdb
theorem V3k {n : Str} {C : Addr} (hm : X.mg n = some (.ref C)) (hg : Gl X n := by rfl) (hdb : (n == ("__debug__" : Str)) = false := by decide) : PE X (.Name n pos) (tC (.ref C)) := U3e hg hm rfl hdb
theorem U6b {a b : Expr} {ta tb : TE} (hm : X.mg "isinstance" = none) (ha : PE X a ta) (hb : PE X b tb) (hg : Gl X "isinstance" := by rfl)
   (h1 : starEach [a, b] X.env = (false, eval a X.env) :: starEach [b] X.env := by rfl) (h2 : starEach [b] X.env = (false, eval b X.env) :: starEach [] X.env := by rfl) (h3 : (backTo pos (starEach [b] X.env)).any (·.1) = false := by rfl) :
   PE X (.Call (.Name "isinstance" p) [a, b] [] pos) (tCB (fun xs H Q => ∃ x c cv t b, xs = [x, c] /\ Z2w c = some cv /\ TyE X.K H x t /\ kitOne X.K t cv = some b /\ Q (.bl b) H) (V4c ta (V4c tb V1g))) :=
 G9 G5m hg hm boot_isinstance (A0 ha (A0 hb A7 h2) h1) (he := h1) (hpl := h3)
end
section
variable {X : Cx} {k j : Nat} {f : Addr} {fd : FuncData} {ps : List Str} {sp : Sp} {x : Str} {st : Stmt} {p pos : Pos} {e : Expr} {es : List Expr} {t : TA}
end
structure Mk0 (K : Frag) (C : Addr) : Prop where
 makes : makesIn K C = true
 init : findIn K (.ref C) "__init__" = some (some (.builtin "object.__init__"))
 kp : keepIn K (.ref C) = true
section
variable {X : Cx} {k j : Nat} {f C : Addr} {fd : FuncData} {ps : List Str} {sp : Sp} {dvs : List V} {ds : List Value} {EH : EK} {x m : Str} {p pos apos : Pos} {e o : Expr} {es : List Expr} {ta : TE} {t : TA}
def Z3r (C : Addr) : TE := fun _ H Q => ∀ x dx, H x = none -> H dx = none -> dx ≠ x -> Q (.ref x) (upd (upd H dx (.own x)) x (.ins C dx []))
theorem Y7h {pins : List (Addr × Obj)} {σ : St} {H : Hp} {s : Shared} {Q : VK} (M : Mk0 X.K C) (I : Inv X pins σ H s) (h : Z3r C σ H Q) : wpAny (model X.prog X.w) X.A (call (.ref C) []) (EP X pins σ Q) X.xe s := by
 have hq := h (s.heap.objs.size + 1) s.heap.objs.size (I.hok.fresh (Nat.le_succ _)) (I.hok.fresh (Nat.le_refl _)) (Nat.ne_of_lt (Nat.lt_succ_self _))
 have I2 := Inv.made (C := C) I
 have Y := makes_of (M := model X.prog X.w) I.kIn M.makes
 refine wpAny_call (U5g I.kIn M.makes M.init (fun self => Looks.of_pure (oi_bind self)) ?_)
 have e2 : ((s.heap.push emptyDict).push (instObj C s.heap.objs.size)).get? (s.heap.objs.size + 1) = some (instObj C s.heap.objs.size) := by
   have := Heap.get?_push_size (s.heap.push emptyDict) (o := instObj C s.heap.objs.size) rfl
   rwa [Heap.size_push] at this
 have t1 : Looks (model X.prog X.w) ((s.heap.push emptyDict).push (instObj C s.heap.objs.size)) (typeOf (.ref (s.heap.objs.size + 1))) (.ref C) := (Looks.ld e2).andThen .now
 have t2 : Looks (model X.prog X.w) ((s.heap.push emptyDict).push (instObj C s.heap.objs.size)) (isInstance (.ref (s.heap.objs.size + 1)) (.type "object")) true := t1.andThen (Y.top.keeps fun b o e => Heap.get?_push_of_some _ (Heap.get?_push_of_some _ e))
 refine codeAny_call_builtin oi_plain entry_oi (@check_slot (model X.prog X.w) _ _ _ "object.__init__" "object" "__init__" (.ref (s.heap.objs.size + 1)) [] [] _ oi_kind oi_split t2 (oi_args (.ref (s.heap.objs.size + 1))) ?_)
 rw [oi_run]
 exact wpAny_pure (And.intro rfl ⟨V.ref (s.heap.objs.size + 1), _, I2, rfl, hq⟩)
theorem A9h (M : Mk0 X.K C) (hg : Gl X x) (hm : X.mg x = some (.ref C)) (hdb : (x == ("__debug__" : Str)) = false := by decide) : PE X (.Call (.Name x p) [] [] pos) (Z3r C) := by
 intro pins s σ H Q I h
 refine wpAny_Call_Name_kw (A0y I hg hm ?_ hdb)
 exact callWith_K0 I.kIn M.kp (Y7h M I h)
def V3q (C : Addr) (m : Str) (sp : Sp) (dvs : List V) (EH : EK) (ta : TE) (t : TA) : TE := fun σ H Q => ta σ H fun x H1 => ∃ a dx fs, x = .ref a /\ H1 a = some (.ins C dx fs) /\ fs.lookup m = none /\
 t σ H1 fun vs H2 => sp (x :: (vs ++ dvs)) H2 Q (fun C d H' => EH C d σ H')
theorem B6m {pl : Sem Bool} (he : PE X o ta) (c : Cls X.K C) (hm : Meth X.K C m f) (F : FnOk X.prog X.w X.K X.mg X.base (CX1 X.prog X.w) j f fd ps sp) (hr : Room k X.A) (hb : Binds X.K fd ps ds) (hd : Vals dvs ds) (hx : D6 X EH) (ha : PA X (e :: es) t)
   (hj : j <= k := by decide) (hex : X.ex = [] := by rfl)
   (hst : starEach (e :: es) X.env = (false, eval e X.env) :: starEach es X.env := by rfl) (hpl : (backTo pos (starEach es X.env)).any (·.1) = false := by rfl)
   (ht : eval (.Call (.Attribute o m apos) (e :: es) [] pos) X.env = (do
     let ov <- eval o X.env
     standAt apos.atName
     let (f, first) <- holding [ov] (getMethod ov m pl)
     callWith pos f first (backTo pos (starEach (e :: es) X.env)) (backToKw pos (keywordEach [] X.env))) := by rfl) :
   PE X (.Call (.Attribute o m apos) (e :: es) [] pos) (V3q C m sp dvs EH ta t) := by
 intro pins s σ H Q I h
 refine methodCall_KW (pl := pl) (thn (he pins s σ H _ I h) fun u s1 ⟨x, H1, I1, rx, a, dx, fs, ex, ea, l, q⟩ => ?_) ht
 subst ex
 obtain rfl : u = Value.ref a := rx
 refine C3p I1 ea c hm l ?_
 refine callWith_K (first := [.ref a]) (h₀ := X.base) I.ok.mod.kin hm.kp (thn (ha pos pins s1 σ H1 _ I1 q) fun us s2 ⟨vs, H2, I2, r, q2⟩ => ⟨I2.kIn, ?_⟩) hst hpl
 exact C2u (us := .ref a :: us) (vs := .ref a :: vs) (F.mono hj) hr hb hd hx hex I2 (.cons rfl r) q2
theorem A5p {pl : Sem Bool} (he : PE X o ta) (c : Cls X.K C) (hm : Meth X.K C m f) (F : FnOk X.prog X.w X.K X.mg X.base (CX1 X.prog X.w) j f fd ps sp) (hr : Room k X.A) (hb : Binds X.K fd ps ds) (hd : Vals dvs ds) (hx : D6 X EH)
   (hj : j <= k := by decide) (hex : X.ex = [] := by rfl)
   (ht : eval (.Call (.Attribute o m apos) [] [] pos) X.env = (do
     let ov <- eval o X.env
     standAt apos.atName
     let (f, first) <- holding [ov] (getMethod ov m pl)
     callWith pos f first (backTo pos (starEach [] X.env)) (backToKw pos (keywordEach [] X.env))) := by rfl) :
   PE X (.Call (.Attribute o m apos) [] [] pos) (V3q C m sp dvs EH ta V1g) := by
 intro pins s σ H Q I h
 refine methodCall_KW (pl := pl) (thn (he pins s σ H _ I h) fun u s1 ⟨x, H1, I1, rx, a, dx, fs, ex, ea, l, q⟩ => ?_) ht
 subst ex
 obtain rfl : u = Value.ref a := rx
 refine C3p I1 ea c hm l ?_
 exact callWith_K0 (first := [.ref a]) I1.kIn hm.kp (C2u (us := [.ref a]) (vs := [.ref a]) (F.mono hj) hr hb hd hx hex I1 (.cons rfl .nil) q)
def Z3z (C : Addr) (sp : Sp) (dvs : List V) (EH : EK) (t : TA) : TE := fun σ H Q => t σ H fun vs H1 => ∀ x dx, H1 x = none -> H1 dx = none -> dx ≠ x ->
 sp (.ref x :: (vs ++ dvs)) (upd (upd H1 dx (.own x)) x (.ins C dx [])) (fun v H2 => v = .non /\ Q (.ref x) H2) (fun C d H' => EH C d σ H')
theorem U5n {pins : List (Addr × Obj)} {σ : St} {H : Hp} {s : Shared} {Q : VK} {us : List Value} {vs : List V} (M : Mk X.K C f) (F : FnOk X.prog X.w X.K X.mg X.base (CX1 X.prog X.w) k f fd ps sp) (hr : Room (k + 1) X.A) (hb : Binds X.K fd ps ds) (hd : Vals dvs ds)
   (hx : D6 X EH) (hex : X.ex = []) (I : Inv X pins σ H s) (r : Vals vs us)
   (h : ∀ x dx, H x = none -> H dx = none -> dx ≠ x -> sp (.ref x :: (vs ++ dvs)) (upd (upd H dx (.own x)) x (.ins C dx [])) (fun v H2 => v = .non /\ Q (.ref x) H2) (fun C d H' => EH C d σ H')) :
   wpAny (model X.prog X.w) X.A (call (.ref C) us) (EP X pins σ Q) X.xe s := by
 have hq := h (s.heap.objs.size + 1) s.heap.objs.size (I.hok.fresh (Nat.le_succ _)) (I.hok.fresh (Nat.le_refl _)) (Nat.ne_of_lt (Nat.lt_succ_self _))
 have I2 := Inv.made (C := C) I
 have r2 : Vals (V.ref (s.heap.objs.size + 1) :: (vs ++ dvs)) (Value.ref (s.heap.objs.size + 1) :: (us ++ ds)) := .cons rfl (r.append hd)
 have hl : (Value.ref (s.heap.objs.size + 1) :: us ++ ds).length = ps.length := by
   have e := r2.length
   rw [F.len _ _ _ _ hq] at e
   exact e.symm
 refine wpAny_call (G6f (f := f) I.kIn M.makes M.init (beq_iff_eq.mp M.fn) (codeAny_mono (F.run _ X.stack _ _ ⟨Value.ref (s.heap.objs.size + 1) :: us, []⟩ (Value.ref (s.heap.objs.size + 1) :: (us ++ ds)) _ _ _ (hr.make C us [])
   (I2.env0.make C us []) (hb _ (Value.ref (s.heap.objs.size + 1) :: us) I2.kIn hl) r2 hq) fun r s' hq' => ?_))
 cases r with
 | error e => exact Y6y hx hex I2 hq'
 | ok fl =>
   cases fl with
   | ret u =>
     obtain ⟨v, H', I3, rv, ev, q3⟩ := I2.after hq'
     subst ev
     exact ⟨rv, ⟨V.ref (s.heap.objs.size + 1), H', I3, rfl, q3⟩⟩
   | next => exact False.elim hq'
   | brk => exact False.elim hq'
   | cont => exact False.elim hq'
theorem B5t (M : Mk X.K C f) (F : FnOk X.prog X.w X.K X.mg X.base (CX1 X.prog X.w) j f fd ps sp) (hr : Room k X.A) (hm : X.mg x = some (.ref C)) (hb : Binds X.K fd ps ds) (hd : Vals dvs ds) (hx : D6 X EH)
   (ha : PA X (e :: es) t) (hj : j + 1 <= k := by decide) (hg : Gl X x := by rfl) (hex : X.ex = [] := by rfl) (hdb : (x == ("__debug__" : Str)) = false := by decide) (he : starEach (e :: es) X.env = (false, eval e X.env) :: starEach es X.env := by rfl) (hpl : (backTo pos (starEach es X.env)).any (·.1) = false := by rfl) :
   PE X (.Call (.Name x p) (e :: es) [] pos) (Z3z C sp dvs EH t) := by
 intro pins s σ H Q I h
 refine wpAny_Call_Name_kw (A0y I hg hm ?_ hdb)
 refine callWith_K (h₀ := X.base) I.ok.mod.kin M.kp (thn (ha pos pins s σ H _ I h) fun us s1 ⟨vs, H1, I1, r, q⟩ => ⟨I1.kIn, ?_⟩) he hpl
 exact U5n M F (hr.mono hj) hb hd hx hex I1 r q
end
theorem Y7e {n : Nat} (h : n <= sizeLine) : Builtin.Str.tooLong n = false := by
 unfold Builtin.Str.tooLong
 exact decide_eq_false (by omega)
section
variable {X : Cx}
end
structure FunD (K : Frag) (x qual : Str) (st : Stmt) (dV : Value) (f : Addr) (fd : FuncData) : Prop where
 ex : ∃ (oc : Value) (od : Option Addr) (kV doc pm : Value) (an : Option Addr) (cdv ct : Value) (osl : Array (Option Value)),
   fd = fnOf x qual (B4 st) (B1 st) (A1 st) dV kV doc pm an cdv ct /\ K.lookup f = some ⟨oc, od, .func fd, osl⟩ /\ codeIn K cdv qual = true
 kp : keepIn K (.ref f) = true
section
variable {P : Program} {w : World} {K : Frag} {mg : Str -> Option Value} {base : Heap}
theorem FunD.okE {x qual : Str} {st : Stmt} {dV : Value} {f : Addr} {fd : FuncData} {N ps : List Str} {k : Nat} {sp : Sp} (F : FunD K x qual st dV f fd) (S : FnScope N ps (A1 st)) (len : ∀ vs H Q E, sp vs H Q E -> vs.length = ps.length)
   (hbody : ∀ (X : Cx) (cdv : Value) (A : Around) (outer : List Env) (s : Shared) (H : Hp) (vs : List V) (Q : VK) (E : XK), X = Z3 (CX1 P w) P w K mg base N qual (A1 st) f cdv A outer s H E -> Room k X.A -> D6 X (fun C dd _ H' => E C dd H') -> sp vs H Q E ->
     ∃ t, PSs (Z3 (CX1 P w) P w K mg base N qual (A1 st) f cdv A outer s H E) (B1 st) t /\ t { nx := fun _ H' => Q .non H', rt := Q } (A2t N vs) H) : FnOk P w K mg base (CX1 P w) (k + 1) f fd ps sp := by
 obtain ⟨oc, od, kV, doc, pm, an, cdv, ct, osl, rfl, lk, hc⟩ := F.ex
 exact V2x lk hc S len fun A outer s H vs Q E hr h => hbody _ cdv A outer s H vs Q E rfl hr A5q h
theorem U3k {x qual : Str} {st : Stmt} {dV : Value} {f : Addr} {oc : Value} {od an : Option Addr} {osl : Array (Option Value)} {kV doc pm cdv ct : Value} (l : K.lookup f = some ⟨oc, od, .func (fnOf x qual (B4 st) (B1 st) (A1 st) dV kV doc pm an cdv ct), osl⟩)
   (c : codeIn K cdv qual = true) (k : keepIn K (.ref f) = true) : FunD K x qual st dV f (fnOf x qual (B4 st) (B1 st) (A1 st) dV kV doc pm an cdv ct) := ⟨⟨oc, od, kV, doc, pm, an, cdv, ct, osl, rfl, l, c⟩, k⟩
theorem J2d {fd : FuncData} {ps : List Str} {ds : List Value} {T : Addr} {o : Obj} {items : Array Value} {n : Nat} (hd : fd.defaults = .ref T) (ho : K.lookup T = some o) (hs : o.data = .seq items n)
   (h : ∀ us : List Value, (us ++ ds).length = ps.length -> ∃ k, bindArgs fd ⟨us, []⟩ = seqItems? fd.defaults >>= k /\ k (some items) = pure (ps.zip (us ++ ds))) : Binds K fd ps ds := fun s us X hl => by
 obtain ⟨k, h1, h2⟩ := h us hl
 exact binds_K X hd ho hs h1 h2
end
section
variable {X : Cx} {k j : Nat} {f C : Addr} {fd : FuncData} {ps ks : List Str} {sp : Sp} {EH : EK} {x m : Str} {p pos apos : Pos} {e o : Expr} {es : List Expr} {kws : List Keyword} {ta : TE} {t tk : TA} {g : List Value -> List Value -> List Value} {gV : List V -> List V -> List V}
end
section
variable {X : Cx} {K : Frag} {e : Expr} {f : Str} {pos : Pos} {ta : TE}
theorem G5x (h : X.K = K) : IxR X (Z9j K) := by subst h; exact A1z
theorem Y7d (h : X.K = K) : IxR X (Z7p K) := by subst h; exact U0
theorem A2y (h : X.K = K) : OpR X (compareOp .In) (rIn K false) := by subst h; exact A4x
end
end L2
namespace TR
open PySem L2 PySem.W PyProof.Rows
structure Own (mg : Str -> Option Value) : Prop where
 isi : mg "isinstance" = none
 int_ : mg "int" = none
 bool_ : mg "bool" = none
 str_ : mg "str" = none
 list_ : mg "list" = none
 tuple_ : mg "tuple" = none
 dict_ : mg "dict" = none
 len_ : mg "len" = none
 range_ : mg "range" = none
 min_ : mg "min" = none
 max_ : mg "max" = none
 abs_ : mg "abs" = none
 any_ : mg "any" = none
 all_ : mg "all" = none
 sum_ : mg "sum" = none
 repr_ : mg "repr" = none
 enumerate_ : mg "enumerate" = none
 reversed_ : mg "reversed" = none
 zip_ : mg "zip" = none
 sorted_ : mg "sorted" = none
 divmod_ : mg "divmod" = none
 set_ : mg "set" = none
 ValueError_ : mg "ValueError" = none
structure Kit (K : Frag) : Prop where
 int_int : kitOne K (.type "int") (.type "int") = some true
 int_bool : kitOne K (.type "int") (.type "bool") = some false
 int_str : kitOne K (.type "int") (.type "str") = some false
 int_list : kitOne K (.type "int") (.type "list") = some false
 int_tuple : kitOne K (.type "int") (.type "tuple") = some false
 int_dict : kitOne K (.type "int") (.type "dict") = some false
 bool_int : kitOne K (.type "bool") (.type "int") = some true
 bool_bool : kitOne K (.type "bool") (.type "bool") = some true
 bool_str : kitOne K (.type "bool") (.type "str") = some false
 bool_list : kitOne K (.type "bool") (.type "list") = some false
 bool_tuple : kitOne K (.type "bool") (.type "tuple") = some false
 bool_dict : kitOne K (.type "bool") (.type "dict") = some false
 str_int : kitOne K (.type "str") (.type "int") = some false
 str_bool : kitOne K (.type "str") (.type "bool") = some false
 str_str : kitOne K (.type "str") (.type "str") = some true
 str_list : kitOne K (.type "str") (.type "list") = some false
 str_tuple : kitOne K (.type "str") (.type "tuple") = some false
 str_dict : kitOne K (.type "str") (.type "dict") = some false
 list_int : kitOne K (.type "list") (.type "int") = some false
 list_bool : kitOne K (.type "list") (.type "bool") = some false
 list_str : kitOne K (.type "list") (.type "str") = some false
 list_list : kitOne K (.type "list") (.type "list") = some true
 list_tuple : kitOne K (.type "list") (.type "tuple") = some false
 list_dict : kitOne K (.type "list") (.type "dict") = some false
 tuple_int : kitOne K (.type "tuple") (.type "int") = some false
 tuple_bool : kitOne K (.type "tuple") (.type "bool") = some false
 tuple_str : kitOne K (.type "tuple") (.type "str") = some false
 tuple_list : kitOne K (.type "tuple") (.type "list") = some false
 tuple_tuple : kitOne K (.type "tuple") (.type "tuple") = some true
 tuple_dict : kitOne K (.type "tuple") (.type "dict") = some false
 dict_int : kitOne K (.type "dict") (.type "int") = some false
 dict_bool : kitOne K (.type "dict") (.type "bool") = some false
 dict_str : kitOne K (.type "dict") (.type "str") = some false
 dict_list : kitOne K (.type "dict") (.type "list") = some false
 dict_tuple : kitOne K (.type "dict") (.type "tuple") = some false
 dict_dict : kitOne K (.type "dict") (.type "dict") = some true
 NoneType_int : kitOne K (.type "NoneType") (.type "int") = some false
 NoneType_bool : kitOne K (.type "NoneType") (.type "bool") = some false
 NoneType_str : kitOne K (.type "NoneType") (.type "str") = some false
 NoneType_list : kitOne K (.type "NoneType") (.type "list") = some false
 NoneType_tuple : kitOne K (.type "NoneType") (.type "tuple") = some false
 NoneType_dict : kitOne K (.type "NoneType") (.type "dict") = some false
theorem scK {N P : List Str} {sc : Scope} (a : sc.kind = .function := by rfl) (b : sc.isCoroutine = false := by rfl) (c : sc.isGenerator = false := by rfl) (d : N.Nodup := by decide +kernel) (e : N.take P.length = P := by rfl) (f : ∀ x ∈ P, sc.names.lookup x = some .local \/ sc.names.lookup x = some .cell := by decide +kernel) (g : ∀ y ∈ sc.names, y.2 ≠ .free := by decide +kernel) : FnScope N P sc := ⟨a, b, c, d, e, f, g⟩
theorem Z1k {K : Frag} {H : Hp} (i : Int) : TyE K H (.int i) (.type "int") := .of (.int i)
theorem V2y {K : Frag} {H : Hp} (z : Str) : TyE K H (.str z) (.type "str") := .of (.str z)
theorem Z1m {K : Frag} {H : Hp} {a : Addr} {xs : List V} (h : H a = some (.lst xs)) : TyE K H (.ref a) (.type "list") := .of (.lst h)
def A4t (lo hi : Int) (v : V) : Prop := ∃ i, v = .int i /\ lo <= i /\ i <= hi
def C8t (K : Frag) (H : Hp) (lo hi : Int) (v : V) : Prop := ∃ t b1 b2, TyE K H v t /\ kitOne K t (.type "int") = some b1 /\ kitOne K t (.type "bool") = some b2 /\ ((b1 && !b2) = false \/ ∃ i, v = .int i /\ (i < lo \/ hi < i))
section
variable {K : Frag} {H : Hp} {lo hi : Int}
end
def Exc (p : Addr) (H H' : Hp) : Prop := ∀ b o, H b = some o -> b ≠ p -> H' b = some o
theorem Exc.refl (p : Addr) (H : Hp) : Exc p H H := fun _ _ h _ => h
theorem Exc.trans {p : Addr} {H H1 H2 : Hp} (a : Exc p H H1) (b : Exc p H1 H2) : Exc p H H2 := fun c o h n => b c o (a c o h n) n
theorem Exc.upd {p : Addr} {H : Hp} {o : HO} : Exc p H (L2.upd H p o) := fun b u e n => by rw [C4 n]; exact e
theorem Exc.of {p : Addr} {H H' : Hp} (s : Same H H') : Exc p H H' := fun b o h _ => s b o h
def Has (P : Program) (w : World) (K : Frag) (mg : Str -> Option Value) (base : Heap) (C : Addr) (m : Str) (k : Nat) (ps : List Str) (sp : Sp) : Prop := ∃ f fd, Meth K C m f /\ FnOk P w K mg base (CX1 P w) k f fd ps sp /\ Binds K fd ps []
def A3k (z : Str) (b : Bool) : List Str := if b then [z] else []
theorem Z7a : ∀ {us : List Value}, us.length = 3 -> ∃ a b c, us = [a, b, c]
 | [a, b, c], _ => ⟨a, b, c, rfl⟩
theorem len4 : ∀ {us : List Value}, us.length = 4 -> ∃ a b c d, us = [a, b, c, d]
 | [a, b, c, d], _ => ⟨a, b, c, d, rfl⟩
theorem len5 : ∀ {us : List Value}, us.length = 5 -> ∃ a b c d e, us = [a, b, c, d, e]
 | [a, b, c, d, e], _ => ⟨a, b, c, d, e, rfl⟩
theorem Y8h {us ds : List Value} {n : Nat} (h : (us ++ ds).length = n) : us.length = n - ds.length := by rw [List.length_append] at h; omega
end TR
namespace L2
open PySem PySem.Spec PyProof.Rows
section
variable {κ : Type} [DecidableEq κ]
def C3r (kvs : List (κ × V)) (k : κ) : Option V := (kvs.find? fun kv => decide (kv.1 = k)).map (·.2)
def Z8 (kvs : List (κ × V)) (k : κ) (v : V) : List (κ × V) :=
 if (kvs.any fun kv => decide (kv.1 = k)) = true then kvs.map (fun kv => if kv.1 = k then (kv.1, v) else kv) else kvs ++ [(k, v)]
theorem C3u {p : κ × V} {r : List (κ × V)} {k : κ} (e : p.1 = k) : C3r (p :: r) k = some p.2 := by simp [C3r, List.find?_cons, e]
theorem C4j {p : κ × V} {r : List (κ × V)} {k : κ} (e : ¬ p.1 = k) : C3r (p :: r) k = C3r r k := by simp [C3r, List.find?_cons, e]
theorem G6m (k : κ) : ∀ kvs : List (κ × V), (kvs.any fun kv => decide (kv.1 = k)) = (C3r kvs k).isSome
 | [] => rfl
 | p :: r => by
   rw [List.any_cons]
   by_cases e : p.1 = k
   . simp only [C3u e, decide_eq_true e, Bool.true_or, Option.isSome_some]
   . rw [C4j e, decide_eq_false e, Bool.false_or]; exact G6m k r
theorem A8w (kvs : List (κ × V)) (k : κ) (v : V) : (Z8 kvs k v).length <= kvs.length + 1 := by
 unfold Z8
 split
 . rw [List.length_map]; omega
 . rw [List.length_append, List.length_cons, List.length_nil]; omega
theorem RelO.isSome_eq {o : Option V} {u : Option Value} (r : RelO o u) : o.isSome = u.isSome := by
 cases o with
 | none => cases u with
   | none => rfl
   | some _ => exact (show False from r).elim
 | some _ => cases u with
   | none => exact (show False from r).elim
   | some _ => rfl
theorem KV.val {kvs : List (κ × V)} {vs : List (κ × Value)} (r : KV kvs vs) (k : κ) : RelO (C3r kvs k) (valueAt vs k) := by
 unfold KV at r
 induction r with
 | nil => exact True.intro
 | @cons p q ps qs h t ih =>
   obtain ⟨h1, h2⟩ := h
   by_cases e : p.1 = k
   . have e' : q.1 = k := h1.symm.trans e
     have b : valueAt (q :: qs) k = some q.2 := by simp [valueAt, List.find?_cons, e']
     rw [C3u e, b]; exact h2
   . have e' : ¬ q.1 = k := fun z => e (h1.trans z)
     have b : valueAt (q :: qs) k = valueAt qs k := by simp [valueAt, List.find?_cons, e']
     rw [C4j e, b]; exact ih
theorem KV.any {kvs : List (κ × V)} {vs : List (κ × Value)} (r : KV kvs vs) (k : κ) : (kvs.any fun kv => decide (kv.1 = k)) = vs.any fun kv => decide (kv.1 = k) := by
 unfold KV at r
 induction r with
 | nil => rfl
 | cons h t ih => rw [List.any_cons, List.any_cons, ih, h.1]
theorem KV.repl {kvs : List (κ × V)} {vs : List (κ × Value)} (r : KV kvs vs) (k : κ) {y : V} {u : Value} (ry : RelV y u) :
   KV (kvs.map fun kv => if kv.1 = k then (kv.1, y) else kv) (vs.map fun kv => if kv.1 = k then (kv.1, u) else kv) := by
 unfold KV at r ⊢
 induction r with
 | nil => exact .nil
 | @cons p q ps qs h t ih =>
   rw [List.map_cons, List.map_cons]
   refine .cons ?_ ih
   obtain ⟨h1, h2⟩ := h
   by_cases e : p.1 = k
   . rw [if_pos e, if_pos (h1.symm.trans e)]; exact ⟨h1, ry⟩
   . rw [if_neg e, if_neg (fun z => e (h1.trans z))]; exact ⟨h1, h2⟩
theorem KV.put {kvs : List (κ × V)} {vs : List (κ × Value)} (r : KV kvs vs) (k : κ) {y : V} {u : Value} (ry : RelV y u) : KV (Z8 kvs k y) (stored vs k u) := by
 unfold Z8 stored
 rw [r.any k]
 by_cases e : (vs.any fun kv => decide (kv.1 = k)) = true
 . rw [if_pos e, if_pos e]; exact r.repl k ry
 . rw [if_neg e, if_neg e]; exact Paired.snoc r ⟨rfl, ry⟩
theorem KV.length {kvs : List (κ × V)} {vs : List (κ × Value)} (r : KV kvs vs) : kvs.length = vs.length := Paired.length r
end
theorem U3a {P : Program} {w : World} {k : Key} {u : Value} (r : RelV (kV k) u) : (Y1 P w).is k u = true := by
 cases k with
 | inl i => obtain ⟨t, e⟩ := (show ∃ t, u = Value.int i t from r); subst e; exact G5p P w i t
 | inr x => obtain ⟨t, e⟩ := (show ∃ t, u = Value.str x t from r); subst e; exact G5u P w x t
theorem D3p {P : Program} {w : World} : ∀ {ks : List Key} {us : List Value}, Vals (ks.map kV) us -> ItemsAre (Y1 P w) ks us
 | [], _, r => by rw [List.map_nil] at r; cases r; exact .nil
 | k :: ks, _, r => by
   rw [List.map_cons] at r
   cases r with
   | cons h t => exact .cons (U3a h) (D3p t)
abbrev KT (H : Hp) : List (List Key × V) -> List (List Key × Addr × Value) -> Prop := Paired fun p q => p.1 = q.1 /\ H q.2.1 = some (.tup (p.1.map kV)) /\ RelV p.2 q.2.2
theorem KT.val {H : Hp} {kvs : List (List Key × V)} {xs : List (List Key × Addr × Value)} (r : KT H kvs xs) (k : List Key) : RelO (C3r kvs k) ((atKey xs k).map (·.2)) := by
 induction r with
 | nil => exact True.intro
 | @cons p q ps qs h t ih =>
   obtain ⟨h1, _, h2⟩ := h
   by_cases e : p.1 = k
   . have e' : q.1 = k := h1.symm.trans e
     have b : atKey (q :: qs) k = some q.2 := by simp [atKey, List.find?_cons, e']
     rw [C3u e, b]; exact h2
   . have e' : ¬ q.1 = k := fun z => e (h1.trans z)
     have b : atKey (q :: qs) k = atKey qs k := by simp [atKey, List.find?_cons, e']
     rw [C4j e, b]; exact ih
theorem KT.repl {H : Hp} {kvs : List (List Key × V)} {xs : List (List Key × Addr × Value)} (r : KT H kvs xs) (k : List Key) {y : V} {u : Value} (ry : RelV y u) :
   KT H (kvs.map fun kv => if kv.1 = k then (kv.1, y) else kv) (xs.map (putAt k u)) := by
 induction r with
 | nil => exact .nil
 | @cons p q ps qs h t ih =>
   rw [List.map_cons, List.map_cons]
   refine .cons ?_ ih
   obtain ⟨h1, h2, h3⟩ := h
   unfold putAt
   by_cases e : p.1 = k
   . rw [if_pos e, if_pos (h1.symm.trans e)]; exact ⟨h1, h2, ry⟩
   . rw [if_neg e, if_neg (fun z => e (h1.trans z))]; exact ⟨h1, h2, h3⟩
theorem KT.put {H : Hp} {kvs : List (List Key × V)} {xs : List (List Key × Addr × Value)} (r : KT H kvs xs) (k : List Key) {b : Addr} {y : V} {u : Value} (hb : H b = some (.tup (k.map kV))) (ry : RelV y u) :
   KT H (Z8 kvs k y) (storedH xs k b u) := by
 have e : (kvs.any fun kv => decide (kv.1 = k)) = (atKey xs k).isSome := by
   rw [G6m, (r.val k).isSome_eq, Option.isSome_map]
 unfold Z8 storedH
 rw [e]
 by_cases q : (atKey xs k).isSome = true
 . rw [if_pos q, if_pos q]; exact r.repl k ry
 . rw [if_neg q, if_neg q]; exact Paired.snoc r ⟨rfl, hb, ry⟩
theorem KT.keeps {H H' : Hp} {kvs : List (List Key × V)} {xs : List (List Key × Addr × Value)} (r : KT H kvs xs) (ht : ∀ b ys, H b = some (.tup ys) -> H' b = some (.tup ys)) : KT H' kvs xs :=
 Paired.mapP r fun _ _ z => ⟨z.1, ht _ _ z.2.1, z.2.2⟩
section
variable {P : Program} {w : World} {H : Hp} {h : Heap} {a : Addr}
theorem Z1t {u : HO} (ok : HOk P w H h) (e : Rd H a u) : ObjOk P w H h a u := e.ok ok
theorem V3x {kvs : List (Key × V)} (ok : HOk P w H h) (e : Rd H a (.dK kvs)) : kvs.length <= sizeLine /\ (a == sysModules) = false /\ ∃ vs, KV kvs vs /\ h.DictOf (Y1 P w) a vs :=
 show ObjOk P w H h a (.dK kvs) from Z1t ok e
theorem Z1p {kvs : List (Key × V)} (ok : HOk P w H h) (e : H a = some (.dK kvs)) : kvs.length <= sizeLine /\ (a == sysModules) = false /\ ∃ vs, KV kvs vs /\ h.DictOf (Y1 P w) a vs := V3x ok (.inl e)
theorem J2g {ks : List Key} (ok : HOk P w H h) (e : H a = some (.tup (ks.map kV))) : (tupleKind (Y1 P w)).is h ks a := by
 obtain ⟨_, its, r, o, h1, h2, n, h3⟩ := (show ObjOk P w H h a (.tup (ks.map kV)) from ok a _ e)
 exact ⟨o, its.toArray, n, h1, h2, h3, by simpa using D3p r⟩
theorem V1u {kvs : List (List Key × V)} (ok : HOk P w H h) (e : Rd H a (.dT kvs)) : kvs.length <= sizeLine /\ (a == sysModules) = false /\
   ∃ xs, KT H kvs xs /\ h.DictOfH (tupleKind (Y1 P w)) a xs := by
 obtain ⟨z, y, xs, r, o, es, ep, h1, h2, h3, h4, h5⟩ := (show ObjOk P w H h a (.dT kvs) from Z1t ok e)
 refine ⟨z, y, xs, r, o, es, ep, h1, h2, h3, h4, fun x hx => ?_, h5⟩
 have all : ∀ {l : List (List Key × V)} {m : List (List Key × Addr × Value)}, KT H l m -> ∀ x ∈ m, (tupleKind (Y1 P w)).is h x.1 x.2.1 := by
   intro l m q
   induction q with
   | nil => intro x hx; exact nomatch hx
   | @cons p q ps qs hq t ih =>
     intro x hx
     rcases List.mem_cons.mp hx with e | hx
     . subst e
       exact J2g ok (by rw [<- hq.1]; exact hq.2.1)
     . exact ih x hx
 exact all r x hx
theorem Z9d {kvs : List (List Key × V)} (ok : HOk P w H h) (e : H a = some (.dT kvs)) : kvs.length <= sizeLine /\ (a == sysModules) = false /\
   ∃ xs, KT H kvs xs /\ h.DictOfH (tupleKind (Y1 P w)) a xs := V1u ok (.inl e)
end
def DGet (H : Hp) (a : Addr) (y : V) (r : Option V) : Prop :=
 (∃ kvs k, Rd H a (.dK kvs) /\ y = kV k /\ r = C3r kvs k) \/ ∃ kvs k b, Rd H a (.dT kvs) /\ y = .ref b /\ H b = some (.tup (k.map kV)) /\ r = C3r kvs k
def DPut (H : Hp) (a : Addr) (y v : V) (H' : Hp) : Prop :=
 (∃ kvs k, H a = some (.dK kvs) /\ y = kV k /\ kvs.length < sizeLine /\ H' = upd H a (.dK (Z8 kvs k v))) \/
 ∃ kvs k b, H a = some (.dT kvs) /\ y = .ref b /\ H b = some (.tup (k.map kV)) /\ kvs.length < sizeLine /\ H' = upd H a (.dT (Z8 kvs k v))
theorem DGet.k {H : Hp} {a : Addr} {kvs : List (Key × V)} {k : Key} (e : H a = some (.dK kvs)) : DGet H a (kV k) (C3r kvs k) := .inl ⟨kvs, k, .inl e, rfl, rfl⟩
theorem DPut.k {H : Hp} {a : Addr} {kvs : List (Key × V)} {k : Key} {v : V} (e : H a = some (.dK kvs)) (hl : kvs.length < sizeLine) : DPut H a (kV k) v (upd H a (.dK (Z8 kvs k v))) := .inl ⟨kvs, k, e, rfl, hl, rfl⟩
section
variable {X : Cx} {pins : List (Addr × Obj)} {σ : St} {H : Hp} {s : Shared} {a : Addr} {y v : V} {u r : Value} {o : Option V} {A : Around} {E : Value -> Shared -> Prop}
theorem U4m {Q : Value -> Shared -> Prop} (hu : A.units + 1 < cLine) (I : Inv X pins σ H s) (g : DGet H a y (some v)) (ry : RelV y u) (h : ∀ w' s', Inv X pins σ H s' -> RelV v w' -> Q w' s') :
   wpAny (model X.prog X.w) A (getItem (.ref a) u) Q E s := by
 rcases g with ⟨kvs, k, e, ey, l⟩ | ⟨kvs, k, b, e, ey, eb, l⟩
 . subst ey
   obtain ⟨z, hd, vs, rel, dd⟩ := V3x I.hok e
   obtain ⟨w', hw, rw'⟩ := RelO.some_of (v := v) (o := valueAt vs k) (by rw [l]; exact rel.val k)
   exact wpAny_getItem_of (U3a ry) dd.mapOf hw (h w' _ (I.tok _) rw')
 . subst ey
   cases (show u = Value.ref b from ry)
   obtain ⟨z, hd, xs, rel, dd⟩ := V1u I.hok e
   obtain ⟨w', hw, rw'⟩ := RelO.some_of (v := v) (o := (atKey xs k).map (·.2)) (by rw [l]; exact rel.val k)
   obtain ⟨p, hp, hp2⟩ := Option.map_eq_some_iff.mp hw
   refine wpAny_getItem_heap (tupleKind_room_in1 hu) (J2g I.hok eb) dd hp ?_
   rw [hp2]
   exact h w' _ (I.tok _) rw'
theorem D4z {h' : Heap} {t' : Nat} {ob : HO} (I : Inv X pins σ H s) (mu : Mut (H a)) (hs : Heap.SameBut a s.heap h') (he : ∃ q, h'.get? a = some q) (new : ObjOk X.prog X.w (upd H a ob) h' a ob) :
   Inv X pins σ (upd H a ob) { s with heap := h', toks := t' } :=
 I.write (x := a) (e := a) mu (.inl rfl) (fun b q hb z => (hs.2 b hb).trans z) he new
theorem V2c {P : Program} {w : World} {H' : Hp} {h' : Heap} {kvs : List (Key × V)} {vs : List (Key × Value)} (z : kvs.length <= sizeLine) (hd : (a == sysModules) = false) (rel : KV kvs vs) (dd : h'.DictOf (Y1 P w) a vs) :
   ObjOk P w H' h' a (.dK kvs) := ⟨z, hd, vs, rel, dd⟩
theorem U5m {H' : Hp} {Q : Unit -> Shared -> Prop} (hu : A.units + 1 < cLine) (I : Inv X pins σ H s) (g : DPut H a y v H') (ry : RelV y u) (rv : RelV v r) (h : ∀ s', Inv X pins σ H' s' -> Q () s') :
   wpAny (model X.prog X.w) A (setItem (.ref a) u r) Q E s := by
 rcases g with ⟨kvs, k, e, ey, l, eH⟩ | ⟨kvs, k, b, e, ey, eb, l, eH⟩
 . subst ey eH
   obtain ⟨z, hd, vs, rel, dd⟩ := Z1p I.hok e
   have hz : vs.length <= sizeLine := by rw [<- rel.length]; exact z
   have hl : (Z8 kvs k v).length <= sizeLine := by have := A8w kvs k v; omega
   refine wpAny_setItem_pairs (hsz := hz) (U3a ry) dd fun h' dd' hs => h _ ?_
   have he : ∃ q, h'.get? a = some q := let ⟨q, _, _, hq, _⟩ := dd'; ⟨q, hq⟩
   exact D4z I (by rw [e]; exact True.intro) hs he (V2c hl hd (rel.put k rv) dd')
 . subst ey eH
   cases (show u = Value.ref b from ry)
   obtain ⟨z, hd, xs, rel, dd⟩ := Z9d I.hok e
   have hz : xs.length <= sizeLine := by rw [<- Paired.length rel]; exact z
   have hl : (Z8 kvs k v).length <= sizeLine := by have := A8w kvs k v; omega
   refine wpAny_setItem_heap (hsz := hz) (tupleKind_room_in1 hu) (J2g I.hok eb) dd fun h' dd' hs => h _ ?_
   obtain ⟨q, es, ep, hq, h2, h3, h4, _, h5⟩ := dd'
   refine D4z I (by rw [e]; exact True.intro) hs ⟨q, hq⟩ ⟨hl, hd, _, (rel.put k eb rv).keeps fun c ys ec => ?_, q, es, ep, hq, h2, h3, h4, h5⟩
   rw [C4 (J9 ec e (fun z => nomatch z))]
   exact ec
end
section
variable {X : Cx} {pins : List (Addr × Obj)} {σ : St} {H : Hp} {s : Shared} {a : Addr} {kvs : List (Key × V)} {k : Key} {u : Value} {A : Around} {E : Value -> Shared -> Prop}
end
def Z8s (i : Expr) : Prop := ∀ ov iv, subscripted i false ov iv = operate [ov, iv] (getItem ov iv)
theorem Y8m {prog : Program} {w : World} {A : Around} {E : Value -> Shared -> Prop} {s : Shared} {env : Env} {value slice : Expr} {pos : Pos} {T id : String} {Q : Value -> Shared -> Prop}
   (hl : typeLookup (.type T) "__getitem__" = pure (some (.builtin id))) (hs : Z8s slice)
   (h : wpAny (model prog w) A (eval value env) (fun o s₁ => wpAny (model prog w) A (eval slice env) (fun i s₂ => s₂.TypeIs o T /\ wpAny (model prog w) A (getItem o i) Q E s₂) E s₁) E s) :
   wpAny (model prog w) A (eval (.Subscript value slice pos) env) Q E s := by
 refine Subscript_ (wpAny_mono h (fun o s₁ h₁ => wpAny_mono h₁ (fun i s₂ h₂ => ?_) fun _ _ x => x) fun _ _ x => x)
 obtain ⟨hT, h₂⟩ := h₂
 unfold subscriptTail
 refine wpAny_bind ?_
 rw [getitemInPython_of_ne hT.not_modules]
 refine wpAny_bind (wpAny_specialOf hT hl ?_)
 have fin : wpAny (model prog w) A (subscripted slice false o i) (fun r s₃ => wpAny (model prog w) A (letTemporaryGo value o r >>= fun _ => pure r) Q E s₃) E s₂ := by
   rw [hs o i]
   exact wpAny_operating (wpAny_mono h₂ (fun r s₃ h₃ => wpAny_bind (wpAny_letTemporaryGo (wpAny_pure h₃))) fun _ _ x => x)
 first
   | exact wpAny_pure (wpAny_bind fin)
   | exact wpAny_bind (wpAny_pure (wpAny_bind fin))
   | exact wpAny_bind fin
theorem G4m {X : Cx} {pins : List (Addr × Obj)} {σ : St} {H : Hp} {s : Shared} {a : Addr} {y : V} {o : Option V} (I : Inv X pins σ H s) (g : DGet H a y o) : s.TypeIs (.ref a) "dict" := by
 rcases g with ⟨kvs, k, e, _, _⟩ | ⟨kvs, k, b, e, _, _, _⟩
 . obtain ⟨_, _, vs, _, dd⟩ := V3x I.hok e
   exact dd.typeIs
 . obtain ⟨_, _, xs, _, dd⟩ := V1u I.hok e
   exact dd.typeIs
def Z7w (td ty : TE) : TE := fun σ H Q => td σ H fun x H1 => ty σ H1 fun y H2 => ∃ a v, x = .ref a /\ DGet H2 a y (some v) /\ Q v H2
def Z8q (td ty tv : TE) : TS := fun D σ H => tv σ H fun v H1 => td σ H1 fun x H2 => ty σ H2 fun y H3 => ∃ a H4, x = .ref a /\ DPut H3 a y v H4 /\ D.nx σ H4
section
variable {X : Cx} {o i e value : Expr} {pos pos' tpos : Pos} {td ty tv : TE}
theorem J0 (hu : X.A.units + 1 < cLine) (ho : PE X o td) (hi : PE X i ty) (hs : Z8s i) : PE X (.Subscript o i pos) (Z7w td ty) := by
 intro pins s σ H Q I h
 refine Y8m PySem.F.slot_dict_getitem.lookup hs (thn (ho pins s σ H _ I h) fun u s1 ⟨x, H1, I1, rx, q1⟩ => thn (hi pins s1 σ H1 _ I1 q1) fun iv s2 ⟨y, H2, I2, ry, a, v, ex, g, q2⟩ => ?_)
 subst ex
 obtain rfl : u = Value.ref a := rx
 exact ⟨G4m I2 g, U4m hu I2 g ry fun w' s3 I3 rw' => ⟨v, H2, I3, rw', q2⟩⟩
theorem A5u (hu : X.A.units + 1 < cLine) (ho : PE X o td) (hi : PE X i ty) (hv : PE X value tv) (hs : swapsWith value (some (.Subscript o i pos')) pos.line X.env = pure false) :
   PS X (.Assign [.Subscript o i pos'] value pos) (Z8q td ty tv) := by
 intro pins s σ H D I h
 refine wpAny_Assign_Subscript (thn (hv pins s σ H _ I h) fun r s1 ⟨v, H1, I1, rv, q1⟩ => thn (ho pins s1 σ H1 _ I1 q1) fun u s2 ⟨x, H2, I2, rx, q2⟩ => thn (hi pins s2 σ H2 _ I2 q2) fun iv s3 ⟨y, H3, I3, ry, a, H4, ex, g, q3⟩ => ?_) hs
 subst ex
 obtain rfl : u = Value.ref a := rx
 exact U5m hu I3 g ry rv fun s4 I4 => ⟨σ, H4, I4, q3⟩
end
section
variable {X : Cx} {pos : Pos}
end
def J1h : List (TE × TE) -> St -> Hp -> (List (V × V) -> Hp -> Prop) -> Prop
 | [], _, H, Q => Q [] H
 | (tk, tv) :: r, σ, H, Q => tk σ H fun x H1 => tv σ H1 fun y H2 => J1h r σ H2 fun ps H3 => Q ((x, y) :: ps) H3
abbrev VV : List (V × V) -> List (Value × Value) -> Prop := Paired fun p q => RelV p.1 q.1 /\ RelV p.2 q.2
def PPs (X : Cx) (pos : Pos) (keys : List (Option Expr)) (values : List Expr) (trs : List (TE × TE)) : Prop :=
 ∀ (pins : List (Addr × Obj)) (s : Shared) (σ : St) (H : Hp) (Q : List (V × V) -> Hp -> Prop), Inv X pins σ H s -> J1h trs σ H Q ->
   wpAny (model X.prog X.w) X.A (evalPairs (pairTrees keys values X.env pos)) (fun vs s' => ∃ ps H', Inv X pins σ H' s' /\ VV ps vs /\ Q ps H') X.xe s
theorem Y7v {X : Cx} {pos : Pos} : PPs X pos [] [] [] := fun pins s σ H Q I h => pairTrees_nil_walk ⟨[], H, I, .nil, h⟩
theorem G4p {X : Cx} {pos : Pos} {k v : Expr} {ks : List (Option Expr)} {vs : List Expr} {tk tv : TE} {trs : List (TE × TE)} (hk : PE X k tk) (hv : PE X v tv) (hr : PPs X pos ks vs trs) :
   PPs X pos (some k :: ks) (v :: vs) ((tk, tv) :: trs) := fun pins s σ H Q I h =>
 pairTrees_cons_walk (thn (hk pins s σ H _ I h) fun u s1 ⟨x, H1, I1, rx, q1⟩ => thn (hv pins s1 σ H1 _ I1 q1) fun w2 s2 ⟨y, H2, I2, ry, q2⟩ =>
   thn (hr pins s2 σ H2 _ I2 q2) fun ws s3 ⟨ps, H3, I3, rel, q3⟩ => ⟨(x, y) :: ps, H3, I3, .cons ⟨rx, ry⟩ rel, q3⟩)
def A8s (kvs more : List (Key × V)) : List (Key × V) := more.foldl (fun acc kv => Z8 acc kv.1 kv.2) kvs
theorem KV.merge : ∀ {more : List (Key × V)} {rs : List (Key × Value)} {kvs : List (Key × V)} {vs : List (Key × Value)}, KV more rs -> KV kvs vs -> KV (A8s kvs more) (merged vs rs) := by
 intro more rs kvs vs r
 unfold KV at r
 induction r generalizing kvs vs with
 | nil => intro q; exact q
 | @cons p q ps qs h t ih =>
   intro r0
   have e : KV (Z8 kvs p.1 p.2) (stored vs q.1 q.2) := by
     have := r0.put p.1 h.2
     rw [<- h.1]; exact this
   exact ih e
theorem B3k : ∀ (more kvs : List (Key × V)), (A8s kvs more).length <= kvs.length + more.length
 | [], kvs => by show kvs.length <= kvs.length + 0; omega
 | p :: r, kvs => by
   have h1 := B3k r (Z8 kvs p.1 p.2)
   have h2 := A8w kvs p.1 p.2
   show (A8s (Z8 kvs p.1 p.2) r).length <= _
   rw [List.length_cons]; omega
theorem C3b {P : Program} {w : World} : ∀ {kvs : List (Key × V)} {ws : List (Value × Value)}, VV (kvs.map fun kv => (kV kv.1, kv.2)) ws -> ∃ rs, Carries (Y1 P w) ws rs /\ KV kvs rs
 | [], _, r => by rw [List.map_nil] at r; cases r; exact ⟨[], True.intro, .nil⟩
 | p :: kvs, _, r => by
   rw [List.map_cons] at r
   cases r with
   | @cons a b as bs h t =>
     obtain ⟨rs, c, q⟩ := C3b (P := P) (w := w) t
     obtain ⟨b1, b2⟩ := b
     exact ⟨(p.1, b2) :: rs, ⟨U3a h.1, rfl, c⟩, .cons ⟨rfl, h.2⟩ q⟩
def Z7t (trs : List (TE × TE)) : TE := fun σ H Q => ∀ p, H p = none -> J1h trs σ (upd H p (.dK [])) fun ps H2 => H2 p = some (.dK []) /\ ∃ kvs : List (Key × V), ps = kvs.map (fun kv => (kV kv.1, kv.2)) /\ kvs.length <= 15 /\ Q (.ref p) (upd H2 p (.dK (A8s [] kvs)))
theorem Y8p {X : Cx} {pos : Pos} {keys : List (Option Expr)} {values : List Expr} {trs : List (TE × TE)} (h : PPs X pos keys values trs) (hall : keys.all (·.isSome) = true) (hl : keys.length = values.length) (h0 : keys ≠ [])
   (h15 : keys.length <= 15) : PE X (.Dict keys values pos) (Z7t trs) := by
 intro pins s σ H Q I q
 have hn := I.hok.fresh (Nat.le_refl s.heap.objs.size)
 have I1 := I.laid (a := s.heap.objs.size) (o := .dK []) (h' := s.heap.push { cls := .type "dict", data := .dict #[] }) (t' := s.toks) (fun _ _ q => Heap.get?_push_of_some _ q) (Nat.le_refl _) (V2d s.heap I.big)
 refine wpAny_Dict_walk (knd := Y1 X.prog X.w) hall hl h0 h15 (thn (h pins _ σ _ _ I1 (q _ hn)) fun ws s2 ⟨ps, H2, I2, rel, e, kvs, ep, lk, q2⟩ => ?_)
 subst ep
 obtain ⟨rs, c, rk⟩ := C3b (P := X.prog) (w := X.w) rel
 obtain ⟨z, hd, vs0, r0, dd⟩ := Z1p I2.hok e
 cases r0
 refine ⟨rs, c, dd, fun h' dd' hs => ⟨.ref s.heap.objs.size, _, ?_, rfl, q2⟩⟩
 have hz : (A8s [] kvs).length <= sizeLine := by
   have h1 := B3k kvs []
   rw [List.length_nil] at h1
   rw [sizeLine_eq]; omega
 have he : ∃ q, h'.get? s.heap.objs.size = some q := let ⟨q, _, _, hq, _⟩ := dd'; ⟨q, hq⟩
 exact D4z I2 (by rw [e]; exact True.intro) hs he (V2c hz hd (rk.merge .nil) dd')
end L2
namespace L2
open PySem PySem.Spec PyProof.Rows PySem.W
def A3m (F : List Str) (env : Env) : List (Str × Addr) := F.map fun x => (x, (env.cells.lookup x).getD 0)
def A8r (js : List Nat) (σ : St) : St := js.map fun j => (σ[j]?).getD none
abbrev Cx.compF (X : Cx) (scope : Scope) (N F : List Str) (C : Addr) (s₀ : Shared) (H₀ : Hp) (ex : List Addr) (pins : List (Addr × Obj)) : Cx :=
 { X with N := N ++ F, s₀ := s₀, H₀ := H₀, env := compEnvC scope (A3m F X.env) C X.env, outer := X.stack, ex := ex, fn := fun _ => false, pn := pins, xe := fun _ _ => False }
structure CompScopeF (N F : List Str) (js : List Nat) (sc : Scope) (XN : List Str) (env : Env) : Prop where
 kind : sc.kind = .function
 cell : ∀ y ∈ sc.names, y.2 ≠ .cell
 loc : ∀ y ∈ sc.names, y.2 = .local -> sc.names.lookup y.1 = some .local
 nd : (N ++ F).Nodup
 clos : closureFor sc env = pure (A3m F env)
 fr : ∀ y ∈ (relabel sc env).names, y.2 = .cell \/ y.2 = .free -> y.1 ∈ F
 at_ : ∀ (k : Nat) (x : Str), F[k]? = some x -> (∃ j : Nat, js[k]? = some j /\ XN[j]? = some x) /\ (∃ c, env.cells.lookup x = some c) /\ env.kindOf x = some .cell /\ (relabel sc env).names.lookup x = some .cell
 jl : js.length = F.length
def A9k (n : Nat) (js : List Nat) (wi : TI) (g : TG) (tc : TT) (te : TE) : TE := fun σ H Q => wi σ H fun J H1 => ∀ D, H1 D = none ->
 ∃ (m : Nat) (W : Nat -> List V -> Hp -> Prop), W 0 [] (upd H1 D (.lst [])) /\ ∀ i ys H2, W i ys H2 -> i <= m /\ H2 D = some (.lst ys) /\ ((J.stop i H2 /\ Q (.ref D) H2) \/ (i < m /\ J.go i H2 /\ ∀ x H3, J.yld i H2 x H3 ->
   g x (List.replicate n none ++ A8r js σ) H3 fun σ4 H4 => tc σ4 H4 fun b H5 => if b = true then te σ4 H5 fun y H6 => H6 D = some (.lst ys) /\ ys.length < sizeLine /\ W (i + 1) (ys ++ [y]) (upd H6 D (.lst (ys ++ [y]))) else W (i + 1) ys H5))
theorem Z2b {F : List Str} {env : Env} {x : Str} {c : Addr} (h : (A3m F env).lookup x = some c) : x ∈ F /\ c = (env.cells.lookup x).getD 0 := by
 have := PySem.mem_of_lookup h
 obtain ⟨y, hy, e⟩ := List.mem_map.mp this
 cases e
 exact ⟨hy, rfl⟩
theorem V3y {env : Env} {x : Str} : ∀ {F : List Str}, x ∈ F -> (A3m F env).lookup x = some ((env.cells.lookup x).getD 0)
 | y :: F, h => by
   show List.lookup x ((y, (env.cells.lookup y).getD 0) :: A3m F env) = _
   by_cases e : x = y
   . subst e; simp [List.lookup]
   . have hb : (x == y) = false := beq_eq_false_iff_ne.mpr e
     rw [List.lookup_cons, hb]
     exact V3y (by rcases List.mem_cons.mp h with z | z; exact absurd z e; exact z)
section
variable {X : Cx} {N F : List Str} {js : List Nat} {scope : Scope}
theorem CompScopeF.sub (S : CompScopeF N F js scope X.N X.env) : ∀ x c, (A3m F X.env).lookup x = some c -> X.env.cells.lookup x = some c := fun x c z => by
 obtain ⟨hx, rfl⟩ := Z2b z
 obtain ⟨k, hk⟩ := List.mem_iff_getElem?.mp hx
 obtain ⟨_, ⟨c, hc⟩, _⟩ := S.at_ k x hk
 rw [hc]; rfl
theorem CompScopeF.has (S : CompScopeF N F js scope X.N X.env) {x : Str} (hx : x ∈ F) : ∃ c, (A3m F X.env).lookup x = some c /\ X.env.cells.lookup x = some c :=
 ⟨_, V3y hx, S.sub _ _ (V3y hx)⟩
theorem B2r {pins : List (Addr × Obj)} {σ : St} {H : Hp} {s : Shared} (S : CompScopeF N F js scope X.N X.env) (I : Inv X pins σ H s) {h' : Heap} {m : Str -> Option Value} {C : Addr} (hc : ∀ x c v, X.env.cells.lookup x = some c -> s.heap.IsCell c v -> h'.IsCell c v) :
   ∀ (i : Nat) (x : Str) (v : V), (N ++ F)[i]? = some x -> (List.replicate N.length none ++ A8r js σ)[i]? = some (some v) -> ∃ u, RelV v u /\ Z8r (compEnvC scope (A3m F X.env) C X.env) h' m x u := by
 intro i x v e1 e2
 by_cases hi : i < N.length
 . rw [List.getElem?_append_left (by simpa using hi), List.getElem?_replicate] at e2
   split at e2 <;> cases e2
 . rw [List.getElem?_append_right (by omega)] at e1
   rw [List.getElem?_append_right (by simp; omega)] at e2
   rw [List.length_replicate] at e2
   obtain ⟨⟨j, hj, hx⟩, ⟨c, hcc⟩, kx, kr⟩ := S.at_ _ x e1
   unfold A8r at e2
   rw [List.getElem?_map, hj] at e2
   have e2 : (σ[j]?).getD none = some v := Option.some.inj e2
   have e3 : σ[j]? = some (some v) := by
     cases q : σ[j]? with
     | none => rw [q] at e2; cases e2
     | some o => rw [q] at e2; exact congrArg some e2
   obtain ⟨m0, _, hl⟩ := I.loc
   obtain ⟨u, r, l⟩ := hl j x v hx e3 (.inr (.inl kx))
   refine ⟨u, r, .inr ⟨.inl kr, c, ?_, ?_⟩⟩
   . obtain ⟨c', h1, h2⟩ := S.has (List.mem_of_getElem? e1)
     rw [hcc] at h2
     cases h2
     exact h1
   . rcases l with ⟨k, _⟩ | ⟨_, c', h1, h2⟩
     . rw [kx] at k; cases k
     . rw [hcc] at h1
       cases h1
       exact hc x c _ hcc h2
theorem D6f (S : CompScopeF N F js scope X.N X.env) (σ : St) : (List.replicate N.length none ++ A8r js σ : St).length = (N ++ F).length := by
 unfold A8r
 rw [List.length_append, List.length_replicate, List.length_map, S.jl, List.length_append]
theorem U3y {pins : List (Addr × Obj)} {σ : St} {H : Hp} {s : Shared} {it : Addr} {h' : Heap} (S : CompScopeF N F js scope X.N X.env) (I : Inv X pins σ H s) (hf : A4u X pins H it) (hit : ∃ o, s.heap.get? it = some o) (hnb : X.base.get? it = none)
   (hns : h'.Ns s.heap.objs.size (fun _ => none)) (hsb : ∀ b o, s.heap.get? b = some o -> h'.get? b = some o) {tk : Nat} :
   Inv (X.compF scope N F s.heap.objs.size s H [it] (X.pn ++ pins)) [] (List.replicate N.length none ++ A8r js σ) H { s with heap := h', toks := tk } := by
 obtain ⟨f0, f1, f2, f3, f4, f5⟩ := hf
 obtain ⟨oi, ei⟩ := hit
 have lt : it < s.heap.objs.size := Heap.lt_size ei
 have ck : ∀ c v, s.heap.IsCell c v -> h'.IsCell c v := fun c v ⟨o, e, d⟩ => ⟨o, hsb _ _ e, d⟩
 have inF : ∀ x, ((compEnvC scope (A3m F X.env) s.heap.objs.size X.env).kindOf x = some .cell \/ (compEnvC scope (A3m F X.env) s.heap.objs.size X.env).kindOf x = some .free) -> x ∈ F := by
   intro x z
   have z : (relabel scope X.env).names.lookup x = some .cell \/ (relabel scope X.env).names.lookup x = some .free := z
   rcases z with z | z
   . exact S.fr _ (PySem.mem_of_lookup z) (.inl rfl)
   . exact S.fr _ (PySem.mem_of_lookup z) (.inr rfl)
 refine ⟨⟨I.ok.mod, S.kind, I.ok.glob, I.ok.blt, Nat.le_refl _, fun x y c z z' => I.ok.inj x y c (S.sub x c z) (S.sub y c z'), fun x z => ?_, fun x c z _ => (nomatch z), I.ok.hd, I.ok.frames, .inl rfl, fun b hb => ?_, I.bs, Nat.le_trans I.ok.bsz I.sz, fun b o e hb => ?_, fun b hb hfs => ?_, I.stack, I.stkFree⟩,
   rfl, I.bare, Un.kept hsb, ⟨_, hns, fun i x v e1 e2 e3 => B2r S I (fun x c v _ z => ck c v z) i x v e1 e2⟩, fun x c z => ?_, I.hok.fresh (Nat.le_refl _), fun x c z => I.freeC x c (S.sub x c z), fun p hp => ?_, I.hok.kept hsb, D6f S σ⟩
 . obtain ⟨c, h1, _⟩ := S.has (inF x z)
   exact ⟨c, h1⟩
 . have e : b = it := by simpa using hb
   subst e
   exact ⟨Nat.ne_of_lt lt, fun x c z => f4 x c (S.sub x c z)⟩
 . have e' : b = it := by simpa using hb
   subst e'
   rw [hnb] at e
   cases e
 . have e' : b = it := by simpa using hb
   subst e'
   rcases List.mem_cons.mp (I.stkSub b hfs) with z | z
   . exact f1 z
   . exact f2 z
 . obtain ⟨v, z'⟩ := I.cell x c (S.sub x c z)
   exact ⟨v, ck c v z'⟩
 . have hp' : p ∈ X.pn ++ pins := by simpa using hp
   obtain ⟨q1, q2, q3, q4, q5⟩ := I.pin p hp'
   refine ⟨hsb _ _ q1, q2, Nat.ne_of_lt (Heap.lt_size q1), fun z => ?_, q5⟩
   rcases List.mem_cons.mp (I.stkSub p.1 z) with z | z
   . exact q3 z
   . exact q4 z
theorem U5e {pins pl : List (Addr × Obj)} {σ σ' : St} {H H' : Hp} {s s' : Shared} {it : Addr} (S : CompScopeF N F js scope X.N X.env) (I : Inv X pins σ H s) (hf : A4u X pins H it) (J : Inv (X.compF scope N F s.heap.objs.size s H [it] (X.pn ++ pins)) pl σ' H' s') :
   Inv (X.compF scope N F s.heap.objs.size s H [it] (X.pn ++ pins)) [] (List.replicate N.length none ++ A8r js σ) H' s' := by
 obtain ⟨m, hn, _⟩ := J.loc
 refine ⟨J.ok, J.os, J.bare, J.base, ⟨m, hn, fun i x v e1 e2 e3 => B2r S I (fun x c v z q => ?_) i x v e1 e2⟩, J.cell, J.free, J.freeC, fun p hp => J.pin p (by
   have hp : p ∈ (X.pn ++ pins) ++ [] := hp
   rw [List.append_nil] at hp
   exact List.mem_append_left _ hp), J.hok, D6f S σ⟩
 obtain ⟨o, e, d⟩ := q
 have ne : c ∉ [it] := fun w => hf.2.2.2.2.1 x c z (by simpa using w)
 obtain ⟨sl, q⟩ := J.base.any e (I.freeC x c z) ne
 exact ⟨_, q, d⟩
theorem C4c {elt target iter c : Expr} {scope : Scope} {pos : Pos} {N F : List Str} {js : List Nat} {wi : TI} {g : TG} {tc : TT} {te : TE} (S : CompScopeF N F js scope X.N X.env) (hd : A1u X) (hi : PIH X target iter wi) (hex : X.ex = [])
   (hg : ∀ C s₀ H₀ ex pn, A1u (X.compF scope N F C s₀ H₀ ex pn) -> PG (X.compF scope N F C s₀ H₀ ex pn) target g)
   (hc : ∀ C s₀ H₀ ex pn, A1u (X.compF scope N F C s₀ H₀ ex pn) -> PT (X.compF scope N F C s₀ H₀ ex pn) c tc)
   (he : ∀ C s₀ H₀ ex pn, A1u (X.compF scope N F C s₀ H₀ ex pn) -> PE (X.compF scope N F C s₀ H₀ ex pn) elt te)
   {pins : List (Addr × Obj)} {s : Shared} {σ : St} {H : Hp} {Q : VK} {RR : Value -> Env -> Result -> Shared -> Prop} (I : Inv X pins σ H s) (h : (A9k N.length js wi g tc te) σ H Q)
   (hRR : ∀ (D C : Addr) (s6 : Shared) (H5 : Hp) (mm : Str -> Option Value), Inv X pins σ H5 s6 -> s6.heap.Ns C mm -> A4u X pins H5 C -> Q (.ref D) H5 -> RR (.ref D) (compEnvC scope (A3m F X.env) C X.env) (.ok .next) s6) :
   wpAny (model X.prog X.w) X.A (eval iter X.env) (fun v s1 => wpAny (model X.prog X.w) X.A (pyIter v) (fun itv s2 => wpAny (model X.prog X.w) X.A (newList []) (fun acc s3 => wpAny (model X.prog X.w) X.A (newFunctionEnv scope X.env.globals (A3m F X.env) [] X.env.qual none .none (some X.env)) (fun cenv s4 =>
     codeAny (model X.prog X.w) X.A (.compStart (.ListComp elt [⟨target, iter, [c], 0⟩] scope pos) 0 itv acc { cenv with scope := relabel scope X.env }) (RR acc { cenv with scope := relabel scope X.env }) s4) X.xe s3) X.xe s2) X.xe s1) X.xe s := by
 refine thn (hi pins s σ H _ I h) fun v s1 h1 => thn h1 fun itv s2 h2 => ?_
 obtain ⟨it, tn, J, H2, rfl, I2, T, st2, f2, R⟩ := h2
 obtain ⟨oi, ei, di⟩ := T.obj _ _ st2
 have hf2 := I2.hok.fresh (Nat.le_refl _)
 refine wpAny_newObj_type ?_
 have I3 : Inv X pins σ (upd H2 s2.heap.objs.size (.lst [])) { s2 with heap := s2.heap.push { cls := .type "list", dict := none, data := .seq ([] : List Value).toArray } } := Inv.lnew (t' := s2.toks) I2 .nil (Nat.zero_le _)
 refine wpAny_newFunctionEnv S.cell (by intro y hy; simp at hy) (fun h4 hns hsb => ?_) S.kind
 dsimp only at hns hsb ⊢
 generalize hG : s2.heap.push { cls := .type "list", dict := none, data := .seq ([] : List Value).toArray } = G at I3 hns hsb ⊢
 generalize hD : s2.heap.objs.size = D at I3 hf2
 have nD : it ≠ D := by rw [<- hD]; exact Nat.ne_of_lt (Heap.lt_size ei)
 have eiG : G.get? it = some oi := by rw [<- hG]; exact Heap.get?_push_of_some _ ei
 have kp : ∀ b o, G.get? b = some o -> h4.get? b = some o := fun b o e => hsb.extBut b o (Nat.ne_of_lt (Heap.lt_size e)) (Heap.get?_push_of_some _ e)
 have f3 : A4u X pins (upd H2 D (.lst [])) it := ⟨by rw [C4 nD]; exact f2.1, f2.2⟩
 have nb : X.base.get? it = none := by
   cases q : X.base.get? it with
   | none => rfl
   | some o =>
     have := (I.ok.bs it o q).1
     rcases f2.2.2.2.1 with z | z
     . rw [hex] at z; simp at z
     . exact absurd (Nat.lt_of_lt_of_le (Heap.lt_size this) z) (Nat.lt_irrefl _)
 have hns' : h4.Ns G.objs.size (fun _ => none) := by
   obtain ⟨o, es, ep, q1, q2, q3, q4⟩ := hns
   exact ⟨o, es, ep, q1, q2, q3, fun x => by rw [q4]; rfl⟩
 have I4 := U3y (tk := s2.toks + ([] : List (Str × Value)).length) S I3 f3 ⟨oi, eiG⟩ nb hns' kp
 have hdc : A1u (X.compF scope N F G.objs.size { s2 with heap := G } (upd H2 D (.lst [])) [it] (X.pn ++ pins)) := by
   rcases hd with z | ⟨x, o, u, vs, z, e, d, n⟩
   . exact .inl z
   . refine .inr ⟨x, o, u, vs, z, ?_, d, n⟩
     have q := I2.base.frzs x o u e
     show upd H2 D (.lst []) x = _
     rw [C4 fun w => by rw [w, hf2] at q; cases q]
     exact q
 obtain ⟨m, W, w0, turn⟩ := R D hf2
 have gg := hg _ _ _ _ _ hdc
 have cc := hc _ _ _ _ _ hdc
 have ee := he _ _ _ _ _ hdc
 have fpc : ∀ {H' : Hp} {σ' : St} {s' : Shared} {pl : List (Addr × Obj)}, Inv (X.compF scope N F G.objs.size { s2 with heap := G } (upd H2 D (.lst [])) [it] (X.pn ++ pins)) pl σ' H' s' -> H' it = none -> (∀ p ∈ pl, p.1 ≠ it) -> A4u (X.compF scope N F G.objs.size { s2 with heap := G } (upd H2 D (.lst [])) [it] (X.pn ++ pins)) pl H' it := by
   intro H' σ' s' pl J' hn hp
   refine ⟨hn, Nat.ne_of_lt (Heap.lt_size eiG), ?_, .inl (List.mem_singleton.mpr rfl), (fun x c z => f2.2.2.2.2.1 x c (S.sub x c z)), fun p hpp => ?_⟩
   . intro z
     rcases List.mem_cons.mp (I.stkSub it z) with z | z
     . exact f2.2.1 z
     . exact f2.2.2.1 z
   . rcases List.mem_append.mp hpp with z | z
     . exact f2.2.2.2.2.2 p z
     . exact hp p z
 have loop : codeAny (model X.prog X.w) X.A (.compLoop (.ListComp elt [⟨target, iter, [c], 0⟩] scope pos) 0 (.ref it) (.ref D) (compEnvC scope (A3m F X.env) G.objs.size X.env))
     (RR (.ref D) (compEnvC scope (A3m F X.env) G.objs.size X.env))
     { s2 with heap := h4, toks := s2.toks + ([] : List (Str × Value)).length } := by
   refine kct_loop (fun k s' => ∃ i ys H', k = m + 1 - i /\ Inv (X.compF scope N F G.objs.size { s2 with heap := G } (upd H2 D (.lst [])) [it] (X.pn ++ pins)) [] (List.replicate N.length none ++ A8r js σ) H' s' /\ tn i s'.heap /\ H' it = none /\ W i ys H') ?_ (m + 1)
     ⟨0, [], _, rfl, I4, T.keep _ _ _ st2 fun o e => kp it o (by rw [<- hG]; exact Heap.get?_push_of_some _ e), f3.1, w0⟩
   rintro k s5 ⟨i, ys, H5, rfl, I5, st5, n5, w5⟩
   obtain ⟨hi5, hD5, w5⟩ := turn i ys H5 w5
   rcases w5 with ⟨stop, q⟩ | ⟨lt5, go, step⟩
   . refine wpAny_mono (T.done (X.compF scope N F G.objs.size { s2 with heap := G } (upd H2 D (.lst [])) [it] (X.pn ++ pins)) rfl rfl rfl hdc i [] s5 _ H5 (fun _ _ => False) I5 (fpc I5 n5 (by simp)) st5 stop) (fun r s6 z => ?_) (fun _ _ z => z.elim)
     obtain ⟨rfl, I6⟩ := z
     obtain ⟨mm, hn6, _⟩ := I6.loc
     have B6 := I6.base
     have J6 : Inv X pins σ H5 s6 := by
       refine I3.call' (ch := [it]) I6.os ⟨B6.keep, B6.slot, B6.free, B6.there, B6.tups, B6.frzs, B6.tbls⟩ I6.hok I6.bare (fun b hb => ?_)
       have e : b = it := by simpa using hb
       subst e
       exact ⟨f2.2.2.2.1, f2.2.1, f2.2.2.2.2.1, f2.2.2.2.2.2⟩
     have szG : X.s₀.heap.objs.size <= G.objs.size := I3.sz
     refine hRR D G.objs.size s6 H5 mm J6 hn6 ⟨I6.free, ?_, ?_, .inr szG, ?_, ?_⟩ q
     . exact Nat.ne_of_gt I3.lt
     . intro z
       obtain ⟨_, o, ho, _⟩ := I3.funs.mem z
       exact Nat.lt_irrefl _ (Heap.lt_size ho)
     . rintro x c z rfl
       obtain ⟨v', o, ho, _⟩ := I3.cell x _ z
       exact Nat.lt_irrefl _ (Heap.lt_size ho)
     . rintro p hp z
       have zz := (I3.pin p hp).1
       rw [z] at zz
       exact Nat.lt_irrefl _ (Heap.lt_size zz)
   . refine wpAny_mono (T.item (X.compF scope N F G.objs.size { s2 with heap := G } (upd H2 D (.lst [])) [it] (X.pn ++ pins)) rfl rfl rfl hdc i [] s5 _ H5 (fun _ _ => False) I5 (fpc I5 n5 (by simp)) st5 go) (fun r s6 z => ?_) (fun _ _ z => z.elim)
     obtain ⟨u, rfl, z⟩ := z
     refine wpAny_mono z (fun _ s7 z => ?_) (fun _ _ z => z.elim)
     obtain ⟨x, I7, rx, yl, st7⟩ := z
     obtain ⟨o7, e7, d7⟩ := T.obj _ _ st7
     obtain ⟨p0, p1, p2, _⟩ := fpc I7 n5 (by simp)
     have I7' : Inv (X.compF scope N F G.objs.size { s2 with heap := G } (upd H2 D (.lst [])) [it] (X.pn ++ pins)) [(it, o7)] (List.replicate N.length none ++ A8r js σ) H5 s7 := I7.pins_of fun p hp => by
       have e : p = (it, o7) := by simpa using hp
       subst e
       exact ⟨e7, p0, p1, p2, d7⟩
     have back : ∀ {i' : Nat} {ys' : List V} {H' : Hp} {σ' : St} {s' : Shared}, i' = i + 1 -> Inv (X.compF scope N F G.objs.size { s2 with heap := G } (upd H2 D (.lst [])) [it] (X.pn ++ pins)) [(it, o7)] σ' H' s' -> W i' ys' H' ->
         ∃ k', k' < m + 1 - i /\ ∃ i ys H', k' = m + 1 - i /\ Inv (X.compF scope N F G.objs.size { s2 with heap := G } (upd H2 D (.lst [])) [it] (X.pn ++ pins)) [] (List.replicate N.length none ++ A8r js σ) H' s' /\ tn i s'.heap /\ H' it = none /\ W i ys H' := by
       rintro i' ys' H' σ' s' rfl J' w'
       obtain ⟨q1, q2, _⟩ := J'.pin (it, o7) (List.mem_append_right _ (List.mem_singleton.mpr rfl))
       refine ⟨m + 1 - (i + 1), by omega, i + 1, ys', H', rfl, U5e S I3 f3 J', T.keep _ _ _ st7 fun o z => ?_, q2, w'⟩
       rw [e7] at z
       cases z
       exact q1
     refine wpAny_mono (gg [(it, o7)] s7 _ H5 x u _ I7' rx (step x H5 yl)) (fun _ s8 z => ?_) (fun _ _ z => z.elim)
     obtain ⟨σ8, H8, I8, q8⟩ := z
     refine wpAny_mono (cc [(it, o7)] s8 σ8 H8 _ I8 q8) (fun b s9 z => ?_) (fun _ _ z => z.elim)
     obtain ⟨H9, I9, q9⟩ := z
     cases b with
     | false =>
       simp only [Bool.false_eq_true, if_false] at q9 ⊢
       exact back rfl I9 q9
     | true =>
       simp only [if_true] at q9 ⊢
       refine wpAny_mono (ee [(it, o7)] s9 σ8 H9 _ I9 q9) (fun y s10 z => ?_) (fun _ _ z => z.elim)
       obtain ⟨yv, H10, I10, ry, hD10, hz10, w10⟩ := z
       refine wpAny_mono (D3q (X := X.compF scope N F G.objs.size { s2 with heap := G } (upd H2 D (.lst [])) [it] (X.pn ++ pins)) [(it, o7)] s10 σ8 H10 (.ref D) [yv] (.ref D) [y] (fun _ H11 => W (i + 1) (ys ++ [yv]) H11) I10 rfl (.cons ry .nil) ⟨D, ys, yv, rfl, rfl, hD10, hz10, w10⟩) (fun _ s11 z => ?_) (fun _ _ z => z.elim)
       obtain ⟨_, H11, I11, _, w11⟩ := z
       exact back rfl I11 w11
 exact codeAny_compStart_list loop (T.self _ 0 _ _ _ (T.keep _ _ _ st2 fun o e => kp it o (by rw [<- hG]; exact Heap.get?_push_of_some _ e)) loop)
theorem C4p {elt target iter : Expr} {c : Expr} {tc : TT} {pos : Pos} {wi : TI} {g : TG} {te : TE} (S : CompScopeF N F js scope X.N X.env) (hd : A1u X) (hi : PIH X target iter wi) (hex : X.ex = [])
   (hg : ∀ C s₀ H₀ ex pn, A1u (X.compF scope N F C s₀ H₀ ex pn) -> PG (X.compF scope N F C s₀ H₀ ex pn) target g)
   (hc : ∀ C s₀ H₀ ex pn, A1u (X.compF scope N F C s₀ H₀ ex pn) -> PT (X.compF scope N F C s₀ H₀ ex pn) c tc)
   (he : ∀ C s₀ H₀ ex pn, A1u (X.compF scope N F C s₀ H₀ ex pn) -> PE (X.compF scope N F C s₀ H₀ ex pn) elt te)
   (hs : ∀ x, foldedSetIterable iter X.env x = pure x := by intro _; rfl) : PE X (.ListComp elt [⟨target, iter, [c], 0⟩] scope pos) (A9k N.length js wi g tc te) := by
 intro pins s σ H Q I h
 rw [eval_ListComp]
 refine wpAny_comprehension_free (use := none) rfl hs S.clos S.kind S.loc (C4c S hd hi hex hg hc he I h (RR := fun acc ce r s' => compPost (model X.prog X.w) X.A X.xe none (EP X pins σ Q) acc ce.locals r s') ?_)
 intro D C s6 H5 mm I6 n6 f6 q
 exact ⟨mm, n6, fun h' sb => ⟨.ref D, H5, V3g I6 f6 sb, rfl, q⟩⟩
theorem V0x {i : Nat} {y : Str} {py spos : Pos} {elt target iter : Expr} {c : Expr} {tc : TT} {pos : Pos} {wi : TI} {g : TG} {te : TE} (S : CompScopeF N F js scope X.N X.env) (hd : A1u X) (hi : PIH X target iter wi) (hex : X.ex = [])
   (hg : ∀ C s₀ H₀ ex pn, A1u (X.compF scope N F C s₀ H₀ ex pn) -> PG (X.compF scope N F C s₀ H₀ ex pn) target g)
   (hc : ∀ C s₀ H₀ ex pn, A1u (X.compF scope N F C s₀ H₀ ex pn) -> PT (X.compF scope N F C s₀ H₀ ex pn) c tc)
   (he : ∀ C s₀ H₀ ex pn, A1u (X.compF scope N F C s₀ H₀ ex pn) -> PE (X.compF scope N F C s₀ H₀ ex pn) elt te) (hN : X.N.Nodup) (hi' : X.N[i]? = some y) (hy : Loc X.env.scope y)
   (hf : X.fn y = true \/ X.env.scope.names.lookup y = some .local := by first | exact .inl rfl | exact .inr rfl | assumption)
   (hsw : swapsWith (.ListComp elt [⟨target, iter, [c], 0⟩] scope pos) (some (.Name y py)) spos.line X.env = pure true := by rfl)
   (hs : ∀ x, foldedSetIterable iter X.env x = pure x := by intro _; rfl) : PS X (.Assign [.Name y py] (.ListComp elt [⟨target, iter, [c], 0⟩] scope pos) spos) (Z4a (A9k N.length js wi g tc te) (D3k i)) := by
 intro pins s σ H D I h
 rw [exec_Assign_Name_used _ _ _ _ hsw]
 refine wpAny_bind (wpAny_standAt (wpAny_bind ?_))
 show wpAny _ X.A (do let _ <- comprehension (.ListComp elt [⟨target, iter, [c], 0⟩] scope pos) scope X.env _ (newList []) false (eval iter X.env) (some (assign (.Name y py) X.env))) _ _ s
 refine wpAny_bind (wpAny_mono (wpAny_comprehension_free (Q := fun _ s' => SP X pins D .next s') rfl hs S.clos S.kind S.loc (C4c S hd hi hex hg hc he I h (RR := fun acc ce r s' => compPost (model X.prog X.w) X.A X.xe (some (assign (.Name y py) X.env)) (fun _ s' => SP X pins D .next s') acc ce.locals r s') ?_))
   (fun _ s' hq => wpAny_pure (wpAny_pure hq)) fun _ _ e => e)
 intro D' C s6 H5 mm I6 n6 f6 q
 refine wpAny_assign_Name (D2u (v := .ref D') I6 hN hi' hy rfl (fun s7 I7 st => ?_) hf)
 obtain ⟨a, sb, ha⟩ := st
 have na : C ≠ a := by
   rcases ha with rfl | ha
   . exact f6.2.1
   . exact (f6.2.2.2.2.1 y a ha).symm
 exact ⟨mm, n6.sameBut sb na, fun h' sb' => ⟨_, _, V3g I7 f6 sb', q⟩⟩
end
structure CompS (N F : List Str) (sc : Scope) : Prop where
 kind : sc.kind = .function
 cell : ∀ y ∈ sc.names, y.2 ≠ .cell
 loc : ∀ y ∈ sc.names, y.2 = .local -> sc.names.lookup y.1 = some .local
 fr : ∀ y ∈ sc.names, y.2 = .free -> y.1 ∈ F
 nd : (N ++ F).Nodup
theorem C4b {sc : Scope} {env : Env} {F : List Str} (cell : ∀ y ∈ sc.names, y.2 ≠ .cell) (fr : ∀ y ∈ sc.names, y.2 = .free -> y.1 ∈ F) : ∀ y ∈ (relabel sc env).names, y.2 = .cell \/ y.2 = .free -> y.1 ∈ F := by
 intro y hy h
 obtain ⟨⟨n, k⟩, hm, e⟩ := List.mem_map.mp hy
 dsimp only at e
 split at e
 . rename_i hc
   subst e
   simp only [Bool.and_eq_true] at hc
   exact fr (n, k) hm (by simpa using hc.1.1)
 . subst e
   rcases h with h | h
   . exact absurd h (cell (n, k) hm)
   . exact fr (n, k) hm h
theorem CompScopeF.of1 {N : List Str} {x : Str} {j : Nat} {sc : Scope} {XN : List Str} {env : Env} (S : CompS N [x] sc) (clos : closureFor sc env = pure (A3m [x] env)) (hj : XN[j]? = some x) (hc : ∃ c, env.cells.lookup x = some c) (hk : env.kindOf x = some .cell)
   (hr : (relabel sc env).names.lookup x = some .cell) : CompScopeF N [x] [j] sc XN env :=
 ⟨S.kind, S.cell, S.loc, S.nd, clos, C4b S.cell S.fr, fun k y h => match k, h with
   | 0, h => by cases h; exact ⟨⟨j, rfl, hj⟩, hc, hk, hr⟩
   | k + 1, h => by simp at h, rfl⟩
theorem CompScopeF.of2 {N : List Str} {x y : Str} {j k : Nat} {sc : Scope} {XN : List Str} {env : Env} (S : CompS N [x, y] sc) (clos : closureFor sc env = pure (A3m [x, y] env)) (hj : XN[j]? = some x) (hc : ∃ c, env.cells.lookup x = some c) (hk : env.kindOf x = some .cell)
   (hr : (relabel sc env).names.lookup x = some .cell) (hj' : XN[k]? = some y) (hc' : ∃ c, env.cells.lookup y = some c) (hk' : env.kindOf y = some .cell) (hr' : (relabel sc env).names.lookup y = some .cell) : CompScopeF N [x, y] [j, k] sc XN env :=
 ⟨S.kind, S.cell, S.loc, S.nd, clos, C4b S.cell S.fr, fun i z h => match i, h with
   | 0, h => by cases h; exact ⟨⟨j, rfl, hj⟩, hc, hk, hr⟩
   | 1, h => by cases h; exact ⟨⟨k, rfl, hj'⟩, hc', hk', hr'⟩
   | i + 2, h => by simp at h, rfl⟩
theorem A0a (z : Str) : ∀ zs : List Str, inV (.str z) (zs.map V.str) = zs.contains z
 | [] => rfl
 | y :: zs => by
   show (eqV (.str y) (.str z) || inV (.str z) (zs.map V.str)) = _
   rw [A0a z zs, List.contains_cons]
   show ((y == z) || _) = _
   rw [BEq.comm]
theorem Y4 : ∀ zs : List Str, (zs.map V.str).all B5w = true
 | [] => rfl
 | _ :: zs => Y4 zs
theorem C3c {K : Frag} {H : Hp} {σ σf : L2.St} {a : Addr} {zs : List Str} {f : Str -> Bool} {tc : TT} {te : TE} {Q : VK} (hl : ∀ H, SqT K H a (zs.map V.str)) (hz : zs.length <= 100)
   (ht : ∀ (z : Str) (H' : Hp) (Qb : Bool -> Hp -> Prop), Same H H' -> Qb (f z) H' -> tc (some (.str z) :: σf) H' Qb) (he : ∀ (z : Str) (H' : Hp) (Qv : VK), Qv (.str z) H' -> te (some (.str z) :: σf) H' Qv)
   (k : ∀ D H', Same H H' -> H D = none -> H' D = some (.lst ((zs.filter f).map V.str)) -> Q (.ref D) H') {js : List Nat} (hj : A8r js σ = σf) : A9k 1 js (Z9c K (tC (.ref a))) (D3k 0) tc te σ H Q := by
 refine ⟨a, rfl, ⟨_, hl H⟩, fun D hD => ⟨zs.length, fun i ys H2 => i <= zs.length /\ ys = ((zs.take i).filter f).map V.str /\ H2 = upd H D (.lst ys), ⟨Nat.zero_le _, rfl, rfl⟩, ?_⟩⟩
 rintro i ys H2 ⟨hi, rfl, rfl⟩
 refine ⟨hi, A8, ?_⟩
 have sm : Same H (upd H D (.lst (((zs.take i).filter f).map V.str))) := Same.upd hD
 have lz : (((zs.take i).filter f).map V.str).length <= 100 := by
   rw [List.length_map]
   exact Nat.le_trans (List.length_filter_le _ _) (by rw [List.length_take]; omega)
 by_cases hlt : i < zs.length
 . refine .inr ⟨hlt, ⟨_, V.str zs[i], hl _, by simp [hlt]⟩, fun x H3 y => ?_⟩
   obtain ⟨rfl, y⟩ := y
   have ex : x = V.str zs[i] := by
     have := y _ (hl _)
     simp [hlt] at this
     exact this.symm
   subst ex
   rw [hj]
   show tc (some (.str zs[i]) :: σf) _ _
   refine ht _ _ _ sm ?_
   have et : (zs.take (i + 1)).filter f = (zs.take i).filter f ++ (if f zs[i] then [zs[i]] else []) := by
     rw [List.take_succ_eq_append_getElem hlt, List.filter_append]
     congr 1
     cases hb : f zs[i] <;> simp [hb]
   cases hb : f zs[i] with
   | false =>
     refine G7 ⟨hlt, ?_, rfl⟩
     rw [et, hb]; simp
   | true =>
     refine V8 (he _ _ _ ⟨A8, Nat.lt_of_le_of_lt lz (U8 (by decide)), hlt, ?_, ?_⟩)
     . rw [et, hb]; simp
     . rw [U3c]
 . have e : i = zs.length := by omega
   subst e
   refine .inl ⟨⟨_, hl _, by simp⟩, k D _ sm hD ?_⟩
   rw [List.take_length]
   exact A8
end L2
namespace L2
open PySem
section
variable {prog : Program} {w : World} {A : Around} {E : Value -> Shared -> Prop} {h : Heap} {g : Array GenState} {d : Drawn} {t : Nat} {os : OsState}
variable {nm q : Str} {C N : Addr} {bs bm bmB : List Value} {hdct : Bool} {sn : List Str} {sub : List Value} {ab : Bool} {col : Option Bool} {dd : Option Addr} {k0 k1 k2 k3 k5 : Option Value} {B newId initId : String}
theorem B3e (F : ExcBaseFacts B newId initId bmB) (T : OwnTail h bmB bm) {mN : Str -> Option Value} {rest : List Value} {fI : Addr} {oI : Obj} {Q : Fin -> Shared -> Prop}
   (hC : h.get? C = some (excClassObj nm q C N bs bm hdct sn sub ab col dd k0 k1 k2 k3 k5 newId)) (hn : h.Ns N mN) (hi : mN "__init__" = some (.ref fI))
   (hfI : h.get? fI = some oI) (hfc : oI.cls = .type "function")
   (hq : ∀ h' e, Heap.MadeExcOf h h' e (.ref C) rest ->
     wpAny (model prog w) A (call (.ref fI) (.ref e :: rest)) (fun r s' => r = .none /\ Q (.done (.ret (.ref e))) s') E ⟨h', g, d, t, os⟩) (hrest : rest.length <= sizeLine) :
   wpAny (model prog w) A (Builtin.«type.__call__» ⟨.ref C :: rest, []⟩) Q E ⟨h, g, d, t, os⟩ := by
 repeat (first | with_reducible refine wpAny_loadPart_at hC ?_ | with_reducible refine wpAny_madeBy_exc hC ?_ | wp_step)
 refine codeAny_call_builtin_code (Code.quiet_builtin _ F.quiet) (wpAny_check_new_subT F T hC ?_)
 refine codeAny_exc_new_subT F T hC ?_ hrest
 show wpAny _ _ _ _ _ _
 have hC₁ := Heap.get?_push_of_some { cls := .ref C, data := .fields #[.ref h.objs.size, .none, .none, .none, .bool false, .none] }
   (Heap.get?_push_of_some { cls := .type "tuple", data := .seq rest.toArray } hC)
 have hfI₁ := Heap.get?_push_of_some { cls := .ref C, data := .fields #[.ref h.objs.size, .none, .none, .none, .bool false, .none] }
   (Heap.get?_push_of_some { cls := .type "tuple", data := .seq rest.toArray } hfI)
 have hn₁ : ((h.push { cls := .type "tuple", data := .seq rest.toArray }).push { cls := .ref C, data := .fields #[.ref h.objs.size, .none, .none, .none, .bool false, .none] }).Ns N mN :=
   let ⟨o, es, ep, e, r⟩ := hn; ⟨o, es, ep, Heap.get?_push_of_some _ (Heap.get?_push_of_some _ e), r⟩
 have hget : ((h.push { cls := .type "tuple", data := .seq rest.toArray }).push
     { cls := .ref C, data := .fields #[.ref h.objs.size, .none, .none, .none, .bool false, .none] }).get? (h.objs.size + 1) = some
     { cls := .ref C, data := .fields #[.ref h.objs.size, .none, .none, .none, .bool false, .none] } := by heap_get
 have hcC : (Value.ref C :: bm).contains (.ref C) = true := by simp
 have T₁ := T.keeps (h' := (h.push { cls := .type "tuple", data := .seq rest.toArray }).push { cls := .ref C, data := .fields #[.ref h.objs.size, .none, .none, .none, .bool false, .none] })
   fun b o e => Heap.get?_push_of_some _ (Heap.get?_push_of_some _ e)
 unfold isInstance
 repeat (first | with_reducible refine wpAny_loadPart_at hget ?_ | (with_reducible refine wpAny_isSubtype_exc hC₁ ?_; rw [hcC]) | wp_step)
 show wpAny _ _ (typeLookup (.ref C) _) _ _ _
 refine wpAny_typeLookup_tail hC₁ hn₁ T₁ F.mroIs F.init.lookup ?_
 rw [hi]
 refine wpAny_holding (wpAny_bind ?_)
 unfold bindSpecial
 refine wpAny_bind (wpAny_typeOf (T := "function") ⟨_, hfI₁, hfc⟩ ?_)
 rw [if_pos (by decide)]
 refine wpAny_pure (wpAny_bind (wpAny_mono (hq _ (h.objs.size + 1) ⟨fun b o hb => Heap.get?_push_of_some _ (Heap.get?_push_of_some _ hb), Heap.get?_none_of_le (Nat.le_succ _), h.objs.size, hget, Heap.get?_none_of_le (Nat.le_refl _), ?_⟩) (fun r s' hr => ?_) fun _ _ x => x))
 . exact Heap.get?_push_of_some _ (Heap.get?_push_at rfl rfl)
 . obtain ⟨rfl, hQ⟩ := hr
   wp_walk
   exact hQ
theorem C4n (F : ExcBaseFacts B newId initId bmB) (T : OwnTail h bmB bm) {mN : Str -> Option Value} {rest : List Value} {fI : Addr} {oI : Obj} {Q : Value -> Shared -> Prop}
   (hC : h.get? C = some (excClassObj nm q C N bs bm hdct sn sub ab col dd k0 k1 k2 k3 k5 newId)) (hn : h.Ns N mN) (hi : mN "__init__" = some (.ref fI))
   (hfI : h.get? fI = some oI) (hfc : oI.cls = .type "function")
   (hq : ∀ h' e, Heap.MadeExcOf h h' e (.ref C) rest ->
     wpAny (model prog w) (A.under (.builtin "type.__call__" ⟨.ref C :: rest, []⟩)) (call (.ref fI) (.ref e :: rest)) (fun r s' => r = .none /\ Q (.ref e) s') E ⟨h', g, d, t, os⟩) (hrest : rest.length <= sizeLine) :
   wpAny (model prog w) A (call (.ref C) rest) Q E ⟨h, g, d, t, os⟩ := by
 have f1 := tc_lookup
 have f2 := tc_bind (.ref C)
 have hT : (⟨h, g, d, t, os⟩ : Shared).TypeIs (.ref C) "type" := ⟨_, hC, rfl⟩
 refine wpAny_call (codeAny_of_tree ?_)
 show wpAny _ _ (callAny (.ref C) _) _ _ _
 repeat (any_goals (first | assumption | with_reducible refine wpAny_loadPart_at hC ?_ | wp_step))
 refine ⟨rfl, ?_⟩
 refine codeAny_call_builtin_at (Code.quiet_builtin _ (by decide +kernel)) entry_typeCall (wpAny_check_type_call_sub hC (B3e (hrest := hrest) F T hC hn hi hfI hfc fun h' e hm => ?_))
 exact hq h' e hm
end
section
variable {M : Model} {prog : Program} {w : World} {A : Around} {E : Value -> Shared -> Prop} {s : Shared} {env : Env}
variable {nm q : Str} {C N : Addr} {bs bm bmB : List Value} {hdct : Bool} {sn : List Str} {sub : List Value} {ab : Bool} {col : Option Bool} {dd : Option Addr} {k0 k1 k2 k3 k5 : Option Value} {B newId initId : String}
theorem A8z {x : Sem Value} {Q : Flow -> Shared -> Prop} (hbase : bm.contains (.type "BaseException") = true) (hh : A.handled = none)
   (h : wpAny M A x (fun v s₁ => ∃ e t de, v = .ref e /\ s₁.heap.get? C = some (excClassObj nm q C N bs bm hdct sn sub ab col dd k0 k1 k2 k3 k5 newId) /\
     s₁.heap.get? e = some { cls := .ref C, dict := de, data := .fields #[.ref t, .none, .none, .none, .bool false, .none] } /\ E (.ref e) s₁) E s) :
   wpAny M A (raiseStmt env (some x) none) Q E s := by
 have hcB : (Value.ref C :: bm).contains (.type "BaseException") = true := by rw [List.contains_cons, hbase, Bool.or_true]
 unfold raiseStmt
 refine wpAny_bind (wpAny_mono h (fun v s₁ h₁ => ?_) fun _ _ x => x)
 obtain ⟨e, t, de, rfl, hC, he, hE⟩ := h₁
 obtain ⟨hp, g, d, tk, os⟩ := s₁
 repeat (first | with_reducible refine wpAny_loadPart_at he ?_ | with_reducible refine wpAny_loadPart_at hC ?_ | (with_reducible refine wpAny_isSubtype_exc hC ?_; rw [hcB]) | wp_step)
 exact wpAny_raiseNew_none hh hE
theorem B7r (F : ExcBaseFacts B newId initId bmB) {mN : Str -> Option Value} {x : Str} {np cpos pos : Pos} {args : List Expr} {Q : Flow -> Shared -> Prop} {fI : Addr} {oI : Obj}
   (hbase : bm.contains (.type "BaseException") = true) (hh : A.handled = none) (hplain : (backTo cpos (starEach args env)).any (·.1) = false) (hi : mN "__init__" = some (.ref fI)) (hfc : oI.cls = .type "function")
   (h : wpAny (model prog w) A (eval (.Name x np) env) (fun f s₁ => f = .ref C /\ wpAny (model prog w) A (evalArgs (.ref C) true (backTo cpos (starEach args env)) [])
     (fun a s₂ => a.kw = [] /\ a.pos.length <= sizeLine /\ s₂.heap.get? C = some (excClassObj nm q C N bs bm hdct sn sub ab col dd k0 k1 k2 k3 k5 newId) /\ s₂.heap.Ns N mN /\ OwnTail s₂.heap bmB bm /\ s₂.heap.get? fI = some oI /\
       ∀ h' e, Heap.MadeExcOf s₂.heap h' e (.ref C) a.pos -> wpAny (model prog w) (A.under (.builtin "type.__call__" ⟨.ref C :: a.pos, []⟩)) (call (.ref fI) (.ref e :: a.pos))
         (fun r s₃ => r = .none /\ s₃.heap.get? C = some (excClassObj nm q C N bs bm hdct sn sub ab col dd k0 k1 k2 k3 k5 newId) /\ (∃ t de, s₃.heap.get? e = some { cls := .ref C, dict := de, data := .fields #[.ref t, .none, .none, .none, .bool false, .none] }) /\ E (.ref e) s₃) E { s₂ with heap := h' }) E s₁) E s) :
   wpAny (model prog w) A (exec (.Raise (some (.Call (.Name x np) args [] cpos)) none pos) env) Q E s := by
 rw [arm_exec_Raise]
 first
   | refine wpAny_bind (wpAny_standAt (A8z (C := C) (nm := nm) (q := q) (N := N) (bs := bs) (bm := bm) (hdct := hdct) (sn := sn) (sub := sub) (ab := ab) (col := col) (dd := dd) (k0 := k0) (k1 := k1) (k2 := k2) (k3 := k3) (k5 := k5) (newId := newId) hbase hh (wpAny_bind (wpAny_mono (wpAny_Call_ofName (wpAny_mono h (fun f s₁ h₁ => ?_) fun _ _ x => x)) (fun v s₃ h₃ => wpAny_bind (wpAny_standAt (wpAny_pure h₃))) fun _ _ x => x))))
   | (simp only [evalOpt, Option.map]; refine wpAny_bind (wpAny_standAt (A8z (C := C) (nm := nm) (q := q) (N := N) (bs := bs) (bm := bm) (hdct := hdct) (sn := sn) (sub := sub) (ab := ab) (col := col) (dd := dd) (k0 := k0) (k1 := k1) (k2 := k2) (k3 := k3) (k5 := k5) (newId := newId) hbase hh (wpAny_bind (wpAny_mono (wpAny_Call_ofName (wpAny_mono h (fun f s₁ h₁ => ?_) fun _ _ x => x)) (fun v s₃ h₃ => wpAny_bind (wpAny_standAt (wpAny_pure h₃))) fun _ _ x => x)))))
 obtain ⟨rfl, h₁⟩ := h₁
 unfold callWith
 refine wpAny_bind (wpAny_holding (wpAny_mono h₁ (fun a s₂ h₂ => wpAny_bind (wpAny_standAt ?_)) fun _ _ x => x))
 obtain ⟨apos, akw⟩ := a
 obtain ⟨hkw, hlen, hC, hn, T, hf, h₂⟩ := h₂
 obtain rfl : akw = [] := hkw
 obtain ⟨hp, g, d, tk, os⟩ := s₂
 simp only [hplain]
 refine wpAny_bind (wpAny_keeperOf_exc hC ?_)
 refine wpAny_bind (C4n F T hC hn hi hf hfc (fun h' e hm => wpAny_mono (h₂ h' e hm) (fun r s₃ z => ⟨z.1, wpAny_bind (wpAny_holding (wpAny_point (wpAny_pure ?_)))⟩) fun _ _ x => x) hlen)
 obtain ⟨_, hC3, ⟨t, de, he⟩, hE⟩ := z
 exact ⟨e, t, de, rfl, hC3, he, hE⟩
end
end L2
namespace L2
open PySem PySem.Spec PyProof.Rows PySem.W
abbrev U2m : List Value := [.type "ValueError", .type "Exception", .type "BaseException", .type "object"]
structure ExcI (K : Frag) (C fI : Addr) : Prop where
 cls : ∃ nm q N bs bm sn sub ab col dd k0 k1 k2 k3 k5, K.lookup C = some (excClassObj nm q C N bs bm true sn sub ab col dd k0 k1 k2 k3 k5 "ValueError.__new__") /\ nsOkIn K N = true /\ nsIn K N "__init__" = some (some (.ref fI)) /\ tailIn K U2m bm = true
 fn : ∃ o, K.lookup fI = some o /\ o.cls = .type "function"
 sa : findIn K (.ref C) "__setattr__" = some (some (.builtin "object.__setattr__"))
 ob : mroIn K C (.type "object") = some true
theorem J0z {K : Frag} {h : Heap} {N : Addr} {mg : Str -> Option Value} {n : Str} {v : Value} (X : K.In h) (G : h.Ns N mg) (e : nsIn K N n = some (some v)) : mg n = some v := by
 obtain ⟨o, es, ep, ho, hd, _, hf⟩ := G
 unfold nsIn at e
 split at e
 . rename_i c d es' n' sl q
   have := X _ _ q
   rw [ho] at this
   cases this
   cases hd
   split at e
   . rename_i en he
     cases e
     rw [<- hf]
     unfold nsFind findBy
     rw [<- Array.find?_toList, he]
     rfl
   . split at e <;> cases e
 . cases e
theorem C2c {h : Heap} (self : Value) : ∀ {l : List Value}, OwnTail h U2m l -> refuseLoop self "__setattr__" l = pure ()
 | _, .base => PySem.F.store_ValueError.passes self
 | _, .own _ _ _ t => by rw [refuseLoop_ref]; exact C2c self t
section
variable {prog : Program} {w : World} {A : Around} {s : Shared} {K : Frag} {C e fI : Addr} {t : Addr} {R : Result -> Shared -> Prop} {name : Str} {tk : Tok} {v : Value}
theorem Y7x (X : K.In s.heap) (F : ExcI K C fI) (he : s.heap.get? e = some (Z5 (.ref C) t none .none)) (ht : findIn K (.ref C) name = some none)
   (h : ∀ h' tk' d, (∀ b ob, b ≠ e -> s.heap.get? b = some ob -> h'.get? b = some ob) -> h'.get? e = some (Z5 (.ref C) t (some d) .none) -> h'.Ns1 d (fun y => if y = name then some v else none) -> s.heap.get? d = none -> d ≠ e ->
     R (.ok (.ret .none)) { s with heap := h', toks := tk' }) :
   codeAny (model prog w) A (.call (.builtin "object.__setattr__") ⟨[.ref e, .str name tk, v], []⟩) R s := by
 have SF := PySem.F.store_object
 obtain ⟨nm, q, N, bs, bm, sn, sub, ab, col, dd, k0, k1, k2, k3, k5, lC, nO, nI, tl⟩ := F.cls
 have hC := X _ _ lC
 have I : PySem.W.InstAt s.heap e (Z5 (.ref C) t none .none) C none := ⟨he, rfl, rfl, trivial⟩
 have hc : clsIn K C = some { name := nm, bases := bs, mro := .ref C :: bm, ns := N, qualname := q, hasDict := true, slotNames := sn, subclasses := sub, abstract := ab, collection := col, hasDel := false } := by
   unfold clsIn
   rw [lC]
 have sub' : Looks (model prog w) s.heap (isInstance (.ref e) (.type "object")) true := I.type.andThen (looks_mroIn X F.ob)
 refine codeAny_call_builtin SF.slot.plain SF.entry (@check_slot (model prog w) _ _ s "object.__setattr__" "object" "__setattr__" (.ref e) [.str name tk, v] [] _ SF.kind SF.split sub' (SF.args (.ref e) (.str name tk) v) ?_)
 have hm : Looks (model prog w) s.heap (mroOf (.ref C)) (.ref C :: bm) := (looks_clsIn X hc).andThen .now
 have L3 : Looks (model prog w) s.heap (Builtin.ObjectAttr.storeTaker? none) none := .now
 rw [osa_eq, refuse_eq]
 refine wpAny_bind (wpAny_bind (I.type.here (wpAny_bind (hm.here ?_))))
 rw [refuseLoop_ref, C2c _ (tail_of_in X tl)]
 refine wpAny_pure (wpAny_bind (I.type.here (wpAny_bind ((looks_findIn X ht).here (wpAny_bind (L3.here ?_))))))
 dsimp only
 refine wpAny_bind (wpAny_pure (wpAny_bind (wpAny_bind (wpAny_loadPart he (wpAny_bind (PySem.W.Looks.here (PySem.W.looks_clsIn X hc) ?_))))))
 have hx₁ : (s.heap.push { cls := .type "dict", data := .dict #[] }).get? e = some (Z5 (.ref C) t none .none) := Heap.get?_push_of_some _ he
 have hxs : e ≠ s.heap.objs.size := Nat.ne_of_lt (Heap.lt_size he)
 show wpAny (model prog w) A.in1 (do
     let d <- alloc { cls := Value.type "dict", data := Data.dict #[] }
     update e fun o => { cls := o.cls, dict := some d, data := o.data, slots := o.slots }
     pure (some d)) _ _ _
 refine wpAny_bind (wpAny_alloc' ?_)
 refine wpAny_bind (wpAny_update' hx₁ ?_)
 refine wpAny_pure ?_
 have hgd : ((s.heap.push { cls := .type "dict", data := .dict #[] }).update e fun o => { cls := o.cls, dict := some s.heap.objs.size, data := o.data, slots := o.slots }).get? s.heap.objs.size
     = some { cls := .type "dict", data := .dict #[] } :=
   (Heap.get?_update_ne _ _ _ _ hxs.symm).trans (Heap.get?_push_at rfl rfl)
 have hnd : ((s.heap.push { cls := .type "dict", data := .dict #[] }).update e fun o => { cls := o.cls, dict := some s.heap.objs.size, data := o.data, slots := o.slots }).Ns s.heap.objs.size (fun _ => none) :=
   ⟨_, #[], _, hgd, rfl, fun e he => absurd he (by simp), fun _ => rfl⟩
 show wpAny _ _ (Builtin.ObjectAttr.storeInDict s.heap.objs.size (.str name tk) name v) _ _ _
 unfold Builtin.ObjectAttr.storeInDict Builtin.ObjectAttr.newKeyGuard
 refine wpAny_bind (wpAny_pure (wpAny_bind (wpAny_nsSet1 (Heap.Ns1.of_empty hnd) fun h' hn' hs => ?_)))
 obtain ⟨oD, esD, epD, hoD, hdD, hcD⟩ := hn'.count (Within.cons name v Within.nil)
 refine wpAny_bind (wpAny_lookBehind hoD (by rw [hdD]; exact pastItsLine_dict (Nat.le_trans hcD (by rw [List.length_cons, List.length_nil, sizeLine_eq]; omega))) ?_)
 have hx' : h'.get? e = some (Z5 (.ref C) t (some s.heap.objs.size) .none) := (hs.2 e hxs).trans (Heap.get?_update_self _ hx₁ rfl)
 refine wpAny_pure (h h' _ s.heap.objs.size (fun b ob hbx hb => ?_) hx' hn' (Heap.get?_none_of_le (Nat.le_refl _)) hxs.symm)
 exact (hs.2 b (Nat.ne_of_lt (Heap.lt_size hb))).trans ((Heap.get?_update_ne _ _ _ _ hbx).trans (Heap.get?_push_of_some _ hb))
end
def A3s (e C t : Addr) (d : Option Addr) : Heap -> Prop := fun h => h.get? e = some (Z5 (.ref C) t d .none)
theorem V2r {P : Program} {w : World} {H : Hp} {h : Heap} {e C t : Addr} {d : Option Addr} (q : h.get? e = some (Z5 (.ref C) t d .none)) : ObjOk P w H h e (.ext (A3s e C t d)) :=
 ⟨q, ⟨_, q⟩, fun _ _ z k => k _ z⟩
section
variable {X : Cx} {pins : List (Addr × Obj)} {σ : St} {H : Hp} {s : Shared}
theorem Inv.trackO {a : Addr} {ho : HO} (I : Inv X pins σ H s) (n : Nw X pins H a) (ok : ObjOk X.prog X.w (upd H a ho) s.heap a ho) : Inv X pins σ (upd H a ho) s := by
 have ne : ∀ b u, H b = some u -> b ≠ a := fun b u z q => by rw [q, n.un] at z; cases z
 have up : ∀ b, b ≠ a -> upd H a ho b = H b := fun b hb => C4 hb
 refine ⟨I.ok, I.os, I.bare, ⟨I.base.keep, I.base.slot, fun b u z m hx => ?_, I.base.there, fun b xs z => ?_, fun b u v z => ?_, fun b ps z => ?_⟩, I.loc, I.cell, ?_, fun x c z => ?_, fun p hp => ?_, fun b u z => ?_, I.len⟩
 . rw [up b fun q => by rw [q, n.old] at z; cases z]
   exact I.base.free b u z m hx
 . have := I.base.tups b xs z
   rw [up b (ne b _ this)]; exact this
 . have := I.base.frzs b u v z
   rw [up b (ne b _ this)]; exact this
 . obtain ⟨more, this⟩ := I.base.tbls b ps z
   exact ⟨more, by rw [up b (ne b _ this)]; exact this⟩
 . rw [up _ (Ne.symm n.loc)]; exact I.free
 . rw [up _ (n.cell x c z)]; exact I.freeC x c z
 . obtain ⟨q1, q2, q3⟩ := I.pin p hp
   exact ⟨q1, by rw [up _ (n.pin p hp)]; exact q2, q3⟩
 . by_cases hb : b = a
   . subst hb
     rw [A8] at z
     cases z
     exact ok
   . rw [up b hb] at z
     exact (I.hok b u z).stay (fun _ _ _ q => q) (fun c q => by rw [up c (ne c _ q)]; exact q) (fun c xs q => by rw [up c (ne c _ q)]; exact q)
def rem (H : Hp) (a : Addr) : Hp := fun b => if b = a then none else H b
theorem C3n {a : Addr} : rem H a a = none := by unfold rem; rw [if_pos rfl]
theorem A5y {a b : Addr} (h : b ≠ a) : rem H a b = H b := by unfold rem; rw [if_neg h]
theorem Inv.forget {a : Addr} {φ : Heap -> Prop} (I : Inv X pins σ H s) (e : H a = some (.ext φ)) : Inv X pins σ (rem H a) s := by
 have ne : ∀ b u, H b = some u -> (∀ φ, u ≠ .ext φ) -> b ≠ a := fun b u z q w => by rw [w, e] at z; cases z; exact q _ rfl
 have non : ∀ b, H b = none -> rem H a b = none := fun b z => by
   by_cases q : b = a
   . rw [q]; exact C3n
   . rw [A5y q]; exact z
 refine ⟨I.ok, I.os, I.bare, ⟨I.base.keep, I.base.slot, fun b u z m hx => non b (I.base.free b u z m hx), I.base.there, fun b xs z => ?_, fun b u v z => ?_, fun b ps z => ?_⟩, I.loc, I.cell, non _ I.free, fun x c z => non _ (I.freeC x c z), fun p hp => ?_, fun b u z => ?_, I.len⟩
 . have := I.base.tups b xs z
   rw [A5y (ne b _ this (fun _ q => nomatch q))]; exact this
 . have := I.base.frzs b u v z
   rw [A5y (ne b _ this (fun _ q => nomatch q))]; exact this
 . obtain ⟨more, this⟩ := I.base.tbls b ps z
   exact ⟨more, by rw [A5y (ne b _ this (fun _ q => nomatch q))]; exact this⟩
 . obtain ⟨q1, q2, q3⟩ := I.pin p hp
   exact ⟨q1, non _ q2, q3⟩
 . have hb : b ≠ a := fun q => by rw [q, C3n] at z; cases z
   rw [A5y hb] at z
   exact (I.hok b u z).stay (fun _ _ _ q => q) (fun c q => by rw [A5y (ne c _ q (fun _ w => nomatch w))]; exact q) (fun c xs q => by rw [A5y (ne c _ q (fun _ w => nomatch w))]; exact q)
end
def Z9h (C : Addr) (ta tv : TE) (f : Str) : TS := fun D σ H => tv σ H fun y H1 => ta σ H1 fun x H2 => ∃ e t, x = .ref e /\ H2 e = some (.ext (A3s e C t none)) /\
 ∀ d, H2 d = none -> d ≠ e -> D.nx σ (upd (upd H2 e (.ext (A3s e C t (some d)))) d (.xd [(f, y)]))
section
variable {X : Cx} {o value : Expr} {f : Str} {pos pos' : Pos} {ta tv : TE} {C fI : Addr}
theorem Y7a (F : ExcI X.K C fI) (hf : findIn X.K (.ref C) f = some none) (ha : PE X o ta) (hv : PE X value tv) (hs : swapsWith value (some (.Attribute o f pos')) pos.line X.env = pure false) (hex : X.ex = [] := by rfl) :
   PS X (.Assign [.Attribute o f pos'] value pos) (Z9h C ta tv f) := by
 intro pins s σ H D I h
 refine plainObj_wpAny_Assign_Attribute (thn (hv pins s σ H _ I h) fun u s1 ⟨y, H1, I1, ry, q⟩ => thn (ha pins s1 σ H1 _ I1 q) fun ov s2 ⟨x, H2, I2, rx, e, t, ex, ea, q2⟩ => ?_) hs
 subst ex
 obtain rfl : ov = Value.ref e := rx
 have he : s2.heap.get? e = some (Z5 (.ref C) t none .none) := (I2.hok e _ ea).1
 refine set_plain I2.kIn (⟨he, rfl, rfl, trivial⟩ : PySem.W.InstAt s2.heap e (Z5 (.ref C) t none .none) C none) F.sa (Y7x (s := { s2 with toks := s2.toks + 1 }) I2.kIn F he hf fun h' tk' d k1 k2 k3 k4 k5 => ?_)
 have nd : H2 d = none := I2.hok.new k4
 have I3 : Inv X pins σ (upd H2 e (.ext (A3s e C t (some d)))) { s2 with heap := h', toks := tk' } :=
   I2.write (x := e) (e := e) (by rw [ea]; exact trivial) (.inl rfl) (fun b u hb z => k1 b u hb z) ⟨_, k2⟩ (V2r k2)
 have nw : Nw X pins (upd H2 e (.ext (A3s e C t (some d)))) d := I2.nw hex k4 (by rw [C4 k5]; exact nd)
 refine ⟨σ, _, I3.trackO (ho := .xd [(f, y)]) nw ⟨_, k3, fun g => ?_⟩, q2 d nd k5⟩
 show RelO (List.lookup g [(f, y)]) (if g = f then some u else none)
 by_cases z : g = f
 . rw [if_pos z, z]
   have : List.lookup f [(f, y)] = some y := by simp [List.lookup]
   rw [this]; exact ry
 . rw [if_neg z]
   have : List.lookup g [(f, y)] = none := by
     have hb : (g == f) = false := beq_eq_false_iff_ne.mpr z
     simp [List.lookup, hb]
   rw [this]; exact trivial
end
def D4y (C : Addr) (f : Str) : Sp := fun vs H Q _ => ∃ e t v, vs = [.ref e, v] /\ H e = some (.ext (A3s e C t none)) /\ ∀ d, H d = none -> d ≠ e -> Q .non (upd (upd H e (.ext (A3s e C t (some d)))) d (.xd [(f, v)]))
def Y6z (C : Addr) (f : Str) (EH : EK) (t : TA) : TS := fun _ σ H => t σ H fun vs H1 => ∃ v, vs = [v] /\ ∀ d H2, Same H1 H2 -> H1 d = none -> H2 d = some (.xd [(f, v)]) -> EH (.ref C) (some d) σ H2
section
variable {X : Cx} {x f : Str} {p cpos pos : Pos} {e : Expr} {t : TA} {C fI : Addr} {fdI : FuncData} {ps : List Str} {EH : EK} {j k : Nat}
theorem U3z (hm : X.mg x = some (.ref C)) (F : ExcI X.K C fI) (G : FnOk X.prog X.w X.K X.mg X.base CX0 j fI fdI ps (D4y C f)) (bI : Binds X.K fdI ps []) (hr : Room k X.A) (hx : D6 X EH) (ha : PA X [e] t) (hj : j + 1 <= k := by decide) (hg : Gl X x := by rfl) (hex : X.ex = [] := by rfl)
   (hdb : (x == ("__debug__" : Str)) = false := by decide) (he : starEach [e] X.env = (false, eval e X.env) :: starEach [] X.env := by rfl) (hpl : (backTo cpos (starEach [] X.env)).any (·.1) = false := by rfl) :
   PS X (.Raise (some (.Call (.Name x p) [e] [] cpos)) none pos) (Y6z C f EH t) := by
 intro pins s σ H D I h
 obtain ⟨nm, q, N, bs, bm, sn, sub, ab, col, dd, k0, k1, k2, k3, k5, lC, nO, nI, tl⟩ := F.cls
 obtain ⟨oI, lI, cI⟩ := F.fn
 have T0 : OwnTail X.base U2m bm := tail_of_in I.ok.mod.kin tl
 have hN0 : X.base.Ns N (X.base.nsMap N) := .of_isNs (isNs_of_in I.ok.mod.kin nO)
 have hi0 : X.base.nsMap N "__init__" = some (.ref fI) := J0z I.ok.mod.kin hN0 nI
 refine B7r (C := C) (nm := nm) (q := q) (N := N) (bs := bs) (bm := bm) (hdct := true) (sn := sn) (sub := sub) (ab := ab) (col := col) (dd := dd) (k0 := k0) (k1 := k1) (k2 := k2) (k3 := k3) (k5 := k5) (oI := oI) PySem.F.excBase_ValueError (mN := X.base.nsMap N) (T0.hasType PySem.F.excBase_ValueError.hasBase) hr.hd
   (by rw [he]; show (false || (backTo cpos (starEach [] X.env)).any (·.1)) = false; rw [hpl]; rfl) hi0 cI (A0y I hg hm ⟨rfl, ?_⟩ hdb)
 have ha' := ha cpos pins s σ H _ I h
 rw [he] at ha' ⊢
 refine Calls.evalArgs_plain (wpAny_mono ha' (fun us s2 ⟨vs, H1, I1, r, v, ev, z⟩ => ?_) fun _ _ y => y)
 subst ev
 obtain ⟨u, rfl, ru⟩ := r.one
 refine ⟨rfl, C6 (by show 1 <= 1000; decide), I1.kIn _ _ lC, hN0.keeps I1.bk, T0.keeps I1.bk, I1.kIn _ _ lI, fun h' a m => ?_⟩
 obtain ⟨t', e1, tn, e2⟩ := m.there
 have I2 : Inv X pins σ H1 { s2 with heap := h' } := I1.kept (t' := s2.toks) m.keeps
 have na : H1 a = none := I1.hok.new m.new
 have I3 := I2.trackO (ho := .ext (A3s a C t' none)) (I1.nw hex m.new na) (V2r e1)
 have sp0 : D4y C f [.ref a, v] (upd H1 a (.ext (A3s a C t' none))) (fun v0 H' => v0 = .non /\ ∃ d, H1 d = none /\ d ≠ a /\ H' = upd (upd (upd H1 a (.ext (A3s a C t' none))) a (.ext (A3s a C t' (some d)))) d (.xd [(f, v)])) E0 :=
   ⟨a, t', v, rfl, A8, fun d nd nda => ⟨rfl, d, by rw [C4 nda] at nd; exact nd, nda, rfl⟩⟩
 have rr : Vals [.ref a, v] [.ref a, u] := .cons rfl (.cons ru .nil)
 have hl : ([Value.ref a, u] ++ []).length = ps.length := by
   have := G.len _ _ _ _ sp0
   rw [<- this]; rfl
 refine wpAny_call (codeAny_mono (G.run _ X.stack _ _ ⟨[.ref a, u], []⟩ ([.ref a, u] ++ []) [.ref a, v] _ E0 ((hr.mono hj).make C [u] []) (I3.env0.make C [u] []) (bI _ [.ref a, u] I3.kIn hl) rr sp0) fun r s' hq => ?_)
 cases r with
 | error e => exact hq.elim
 | ok fl =>
   cases fl with
   | ret u0 =>
     obtain ⟨v0, H', I4, rv, ev, d, nd, nda, eH⟩ := I3.after hq
     subst ev eH
     have ea : (upd (upd (upd H1 a (.ext (A3s a C t' none))) a (.ext (A3s a C t' (some d)))) d (.xd [(f, v)])) a = some (.ext (A3s a C t' (some d))) := by
       rw [C4 (Ne.symm nda), A8]
     have g1 : s'.heap.get? a = some (Z5 (.ref C) t' (some d) .none) := (I4.hok a _ ea).1
     refine ⟨rv, I4.kIn _ _ lC, ⟨t', some d, g1⟩, ?_⟩
     refine hx pins σ _ s' a t' (.ref C) (some d) (I4.forget ea) ⟨I1.nw hex m.new C3n, .none, g1, .inl rfl, fun T z => nomatch z⟩ (z d _ (fun b ob q => ?_) nd ?_)
     . have nb : b ≠ a := C9 q na
       have nbd : b ≠ d := C9 q nd
       rw [A5y nb, C4 nbd, C4 nb, C4 nb]
       exact q
     . rw [A5y nda, A8]
   | next => exact hq.elim
   | brk => exact hq.elim
   | cont => exact hq.elim
end
theorem V0q {prog : Program} {w : World} {A : Around} {E : Value -> Shared -> Prop} {s : Shared} {K : Frag} {a C : Addr} {oa : Obj} {od : Option Obj} {name : Str} {v : Value} {b : Bool} {Q : Value -> Shared -> Prop} (F : ExcK K C) (X : K.In s.heap) (I : PySem.W.InstAt s.heap a oa C od)
   (hf : findObj K C od name = some (.value v)) (hh : handedIn v = true) (h : Q v { s with toks := s.toks + 1 }) : wpAny (model prog w) A (getAttr (.ref a) name b) Q E s := by
 obtain ⟨hp, g, d, t, os⟩ := s
 have L0 := I.type (M := model prog w)
 have L1 := looks_findIn (M := model prog w) X F.ga
 have L2 := looks_findIn (M := model prog w) X F.gh
 have L3 : Looks (model prog w) hp (isInstance (.ref a) (.type "BaseException")) true := L0.andThen (looks_subIn X F.be)
 have L4 := looks_find (M := model prog w) X I hf
 have hk : builtinKind "BaseException.__getattribute__" = some .slot := by decide +kernel
 have hsplit : splitId "BaseException.__getattribute__" = some ("BaseException", "__getattribute__") := by decide +kernel
 have hargs := PySem.F.args_bexc_ga (.ref a) (.str name t)
 have hb := PySem.F.attr_ValueError.ga.bind (.ref a)
 unfold getAttr getAttrBy
 refine wpAny_bind (wpAny_mkText (wpAny_holding (wpAny_bind (L0.at (wpAny_bind (L1.at ?_))))))
 dsimp only
 rw [if_neg (show ¬ ((onTheHeap (Value.ref C) && Value.builtin "BaseException.__getattribute__" == Value.builtin "object.__getattribute__") = true) by
   rw [show (Value.builtin "BaseException.__getattribute__" == Value.builtin "object.__getattribute__") = false by decide +kernel, Bool.and_false]; exact Bool.false_ne_true)]
 unfold getAttrByItsOwn
 refine wpAny_bind (m := hookBefore (.ref C)) (L2.at ?_)
 refine wpAny_bind (wpAny_attempt (wpAny_holding ?_))
 unfold callGetattribute
 rw [if_neg (show ¬ ((b && onTheHeap (Value.builtin "BaseException.__getattribute__")) = true) by
   rw [show onTheHeap (Value.builtin "BaseException.__getattribute__") = false from rfl, Bool.and_false]; exact Bool.false_ne_true)]
 unfold boundAndCalled
 rw [hb]
 refine wpAny_bind (wpAny_pure ?_)
 refine wpAny_call (codeAny_call_builtin PySem.F.attr_ValueError.ga.plain PySem.F.entry_bexc_ga ?_)
 have chk : ∀ {A' : Around} {Q' : Unit -> Shared -> Prop} {E' : Value -> Shared -> Prop}, Q' () ⟨hp, g, d, t + 1, os⟩ -> wpAny (model prog w) A' (checkBuiltinCall "BaseException.__getattribute__" ⟨[.ref a, .str name t], []⟩) Q' E' ⟨hp, g, d, t + 1, os⟩ := by
   intro A' Q' E' hq
   simp only [checkBuiltinCall, hk, hsplit]
   refine wpAny_bind ?_
   refine L3.at ?_
   repeat (first | assumption | wp_step)
 refine chk ?_
 show wpAny _ _ (Builtin.«object.__getattribute__» ⟨[.ref a, .str name t], []⟩) _ _ _
 unfold Builtin.«object.__getattribute__»
 refine wpAny_bind (wpAny_pure ?_)
 refine wpAny_bind (wpAny_pure ?_)
 refine wpAny_bind (L0.at (wpAny_bind (L4.at ?_)))
 dsimp only
 refine wpAny_pure ?_
 exact handed_on hh h
def Z1u (K : Frag) (ta : TE) (f : Str) : TE := fun σ H Q => ta σ H fun x H1 => ∃ a C t T d u fs v, x = .ref a /\ H1 a = some (.frz (Z5 (.ref C) t (some d) T) u) /\ H1 d = some (.xd fs) /\ ExcK K C /\ (∃ cd, clsIn K C = some cd /\ cd.hasDict = true) /\ findIn K (.ref C) f = some none /\ fs.lookup f = some v /\ Q v H1
section
variable {X : Cx} {e : Expr} {f : Str} {pos : Pos} {ta : TE}
theorem Y7y (he : PE X e ta) (hb : attributeBase e f X.env (eval e X.env) = eval e X.env) : PE X (.Attribute e f pos) (Z1u X.K ta f) := by
 intro pins s σ H Q I h
 refine U2p hb (thn (he pins s σ H _ I h) fun u s1 ⟨x, H1, I1, rx, a, C, t, T, d, u0, fs, v, ex, ea, hd, k, ⟨cd, hc, hD⟩, hn, l, q⟩ => ?_)
 subst ex
 obtain rfl : u = Value.ref a := rx
 have o1 : s1.heap.get? a = some (Z5 (.ref C) t (some d) T) := (I1.hok a _ ea).1
 obtain ⟨mA, nA, rA⟩ := (show ∃ mA, s1.heap.Ns1 d mA /\ ∀ f, RelO (fs.lookup f) (mA f) from I1.hok d _ hd)
 obtain ⟨od, o2, lk⟩ := B7g nA
 obtain ⟨uv, hu, ru⟩ := RelO.some_of (v := v) (o := mA f) (by rw [<- l]; exact rA f)
 have J : PySem.W.InstAt s1.heap a (Z5 (.ref C) t (some d) T) C (some od) := ⟨o1, rfl, rfl, o2⟩
 have hf : findObj X.K C (some od) f = some (.value uv) := by
   unfold findObj
   rw [hc, Option.bind_some, hn, Option.bind_some]
   show ((PySem.W.ownOf cd (some od) f).bind _) = _
   unfold PySem.W.ownOf
   rw [hD, if_pos rfl]
   show ((lookIn f od).bind _) = _
   rw [lk f, hu]
   rfl
 exact V0q k I1.kIn J hf (D2k ru) ⟨v, H1, I1.tok _, ru, q⟩
end
def A9b (z : Str) (n : Int) : Str := if n < 1 then Str.empty else if (n == 1 || z.length == 0) = true then z else ⟨(List.replicate n.toNat z.cps).foldl (· ++ ·) #[]⟩
def Z3p : R2 := fun x y H Q => ∃ z n, x = .str z /\ y = .int n /\ -(2 ^ 63) <= n /\ n < 2 ^ 63 /\ z.length * n.toNat <= sizeLine /\ Q (.str (A9b z n)) H
theorem D2w (z : Array Nat) : ∀ (k : Nat) (acc : Array Nat), ((List.replicate k z).foldl (· ++ ·) acc).toList = acc.toList ++ (List.replicate k z.toList).flatten
 | 0, acc => by simp
 | k + 1, acc => by
   rw [List.replicate_succ, List.foldl_cons, D2w z k, Array.toList_append, List.replicate_succ, List.flatten_cons, List.append_assoc]
theorem A0x (z : Str) : z.cps.toList.length = z.length := Array.length_toList
theorem C2g (z : Str) (n : Int) : (A9b z n).cps.toList = (List.replicate n.toNat z.cps.toList).flatten := by
 unfold A9b
 split
 . have : n.toNat = 0 := by omega
   rw [this]; rfl
 . split
   . rename_i h1 h2
     rcases Bool.or_eq_true _ _ |>.mp h2 with h | h
     . have : n = 1 := by simpa using h
       subst this
       simp
     . have e : z.length = 0 := by simpa using h
       have e2 : z.cps.toList = [] := List.eq_nil_of_length_eq_zero (by rw [A0x]; exact e)
       rw [e2]
       have : ∀ k : Nat, (List.replicate k ([] : List Nat)).flatten = [] := fun k => by simp
       rw [this]
   . show ((List.replicate n.toNat z.cps).foldl (· ++ ·) #[]).toList = _
     rw [D2w]
     rfl
theorem C3t (z : Str) (n : Int) : (A9b z n).length = n.toNat * z.length := by
 rw [<- A0x, C2g, U2a, A0x]
section
variable {X : Cx}
theorem J2h : OpR X (binaryOp .Mult) Z3p := by
 intro pins s σ H x y v u Q I rx ry h
 obtain ⟨z, n, rfl, rfl, h1, h2, hz, q⟩ := h
 obtain ⟨t, rfl⟩ := rx
 obtain ⟨t', rfl⟩ := ry
 have lo : ¬ n < -(2 ^ 63 : Int) := by omega
 have hi : ¬ n >= (2 ^ 63 : Int) := by omega
 have hl := C3t z n
 have hs : (A9b z n).length <= sizeLine := by rw [hl, Nat.mul_comm]; exact hz
 refine PySem.P.mul_str (by rw [decide_eq_false lo, decide_eq_false hi]; rfl) (fun n1 n2 => ?_) (fun n1 n2 => Y7e hz) ?_
 . intro g
   have p : 0 < n := by omega
   have e : ((z.length * n.toNat : Nat) : Int) = (z.length : Int) * n := by rw [Int.natCast_mul, Int.toNat_of_nonneg (by omega)]
   have c : ((z.length * n.toNat : Nat) : Int) <= (sizeLine : Nat) := Int.ofNat_le.mpr hz
   have k : (sizeLine : Nat) <= 2 ^ 63 - 1 := by decide
   have k' : ((sizeLine : Nat) : Int) <= (2 ^ 63 - 1 : Int) := by
     have := Int.ofNat_le.mpr k
     exact this
   have : (z.length : Int) <= (2 ^ 63 - 1) / n := (Int.le_ediv_iff_mul_le p).mpr (by omega)
   omega
 . unfold A9b at q hs
   split
   . rw [if_pos (by assumption)] at q
     exact ⟨by decide, .str _, H, I.tok _, ⟨_, rfl⟩, q⟩
   . rw [if_neg (by assumption)] at q hs
     split
     . rw [if_pos (by assumption)] at q
       exact ⟨.str _, H, I, ⟨_, rfl⟩, q⟩
     . rw [if_neg (by assumption)] at q hs
       exact ⟨hs, .str _, H, I.tok _, ⟨_, rfl⟩, q⟩
theorem C8q : A4y X (.type "int") (fun xs H Q => ∃ z n, xs = [.str z] /\ PySem.intText? z = some n /\ z.length <= 640 /\ Q (.int n) H) := by
 intro pins s σ H xs us Q I r h
 obtain ⟨z, n, rfl, h1, h2, q⟩ := h
 obtain ⟨u, rfl, t, rfl⟩ := C3h r
 exact KIN.call_text h1 h2 ⟨.int n, H, I.tok _, ⟨_, rfl⟩, q⟩
end
def U5w (n : Nat) : Str := ("1" : Str) ++ A9b ("0" : Str) (n : Int)
theorem U6a (n : Nat) : (List.replicate n [48]).flatten = List.replicate n 48 := by
 induction n with
 | zero => rfl
 | succ n ih => rw [List.replicate_succ, List.flatten_cons, ih, List.replicate_succ]; rfl
theorem B2k (n : Nat) : (U5w n).cps.toList = 49 :: List.replicate n 48 := by
 unfold U5w
 show (("1" : Str).cps ++ (A9b ("0" : Str) (n : Int)).cps).toList = _
 rw [Array.toList_append, C2g]
 have a : ("1" : Str).cps.toList = [49] := by decide +kernel
 have b : ("0" : Str).cps.toList = [48] := by decide +kernel
 rw [a, b]
 show [49] ++ (List.replicate n [48]).flatten = _
 rw [U6a]
 rfl
theorem G5k (n : Nat) : (U5w n).length = n + 1 := by
 rw [<- A0x, B2k]
 simp
theorem J2j (n : Nat) : ∀ a : Nat, (List.replicate n 48).foldl (fun acc c => acc * 10 + (c - 48)) a = a * 10 ^ n := by
 induction n with
 | zero => intro a; simp
 | succ n ih =>
   intro a
   rw [List.replicate_succ, List.foldl_cons, ih, Nat.pow_succ]
   show (a * 10 + 0) * 10 ^ n = _
   rw [Nat.add_zero, Nat.mul_assoc, Nat.mul_comm 10]
theorem V2k (n : Nat) (h : n <= 600) : PySem.intText? (U5w n) = some ((10 ^ n : Nat) : Int) := by
 have e : PySem.NumText.digitsVal (U5w n).cps.toList = 10 ^ n := by
   rw [B2k]
   unfold PySem.NumText.digitsVal
   rw [List.foldl_cons, J2j]
   show (0 * 10 + 1) * 10 ^ n = _
   omega
 rw [<- e]
 refine PySem.intText_digits ?_ ?_ ?_
 . rw [B2k]
   intro c hc
   rcases List.mem_cons.mp hc with rfl | hc
   . exact ⟨by decide, by decide⟩
   . obtain ⟨_, rfl⟩ := List.mem_replicate.mp hc
     exact ⟨by decide, by decide⟩
 . rw [B2k]; exact fun z => nomatch z
 . rw [G5k]; omega
section
variable {X : Cx}
def Z7c : V -> List V -> Hp -> VK -> Prop := fun x vs H Q => ∃ i, x = .int i /\ vs = [] /\ Q (.int ((Builtin.Int.intBits i : Nat) : Int)) H
theorem C8p : MtR X "int.bit_length" Z7c := by
 intro pins s σ H x xs v us Q I rx rs h
 obtain ⟨i, rfl, rfl, q⟩ := h
 obtain ⟨t, rfl⟩ := rx
 cases rs
 exact call_int_bit_length ⟨.int _, H, I.tok _, ⟨_, rfl⟩, q⟩
end
section
variable {X : Cx} {a b : Expr} {rest : List Expr} {pos : Pos} {ta tb : TE}
end
section
variable {X : Cx} {j k : Nat} {f C : Addr} {fd : FuncData} {ps : List Str} {sp : Sp} {dvs : List V} {ds : List Value} {x m : Str} {p pos apos : Pos} {e o : Expr} {es : List Expr} {ta : TE} {t : TA} {st : Stmt}
end
section
variable {X : Cx} {N F : List Str} {js : List Nat} {scope : Scope}
theorem U4h {pins : List (Addr × Obj)} {σ : St} {H : Hp} {s : Shared} {fp : List Addr} {h' : Heap} (S : CompScopeF N F js scope X.N X.env) (I : Inv X pins σ H s) (hf : ∀ b ∈ fp, A4u X pins H b) (hit : ∀ b ∈ fp, ∃ o, s.heap.get? b = some o) (hnb : ∀ b ∈ fp, X.base.get? b = none)
   (hns : h'.Ns s.heap.objs.size (fun _ => none)) (hsb : ∀ b o, s.heap.get? b = some o -> h'.get? b = some o) {tk : Nat} :
   Inv (X.compF scope N F s.heap.objs.size s H fp (X.pn ++ pins)) [] (List.replicate N.length none ++ A8r js σ) H { s with heap := h', toks := tk } := by
 have ck : ∀ c v, s.heap.IsCell c v -> h'.IsCell c v := fun c v ⟨o, e, d⟩ => ⟨o, hsb _ _ e, d⟩
 have inF : ∀ x, ((compEnvC scope (A3m F X.env) s.heap.objs.size X.env).kindOf x = some .cell \/ (compEnvC scope (A3m F X.env) s.heap.objs.size X.env).kindOf x = some .free) -> x ∈ F := by
   intro x z
   have z : (relabel scope X.env).names.lookup x = some .cell \/ (relabel scope X.env).names.lookup x = some .free := z
   rcases z with z | z
   . exact S.fr _ (PySem.mem_of_lookup z) (.inl rfl)
   . exact S.fr _ (PySem.mem_of_lookup z) (.inr rfl)
 refine ⟨⟨I.ok.mod, S.kind, I.ok.glob, I.ok.blt, Nat.le_refl _, fun x y c z z' => I.ok.inj x y c (S.sub x c z) (S.sub y c z'), fun x z => ?_, fun x c z _ => (nomatch z), I.ok.hd, I.ok.frames, .inl rfl, fun b hb => ?_, I.bs, Nat.le_trans I.ok.bsz I.sz, fun b o e hb => ?_, fun b hb hfs => ?_, I.stack, I.stkFree⟩,
   rfl, I.bare, Un.kept hsb, ⟨_, hns, fun i x v e1 e2 e3 => B2r S I (fun x c v _ z => ck c v z) i x v e1 e2⟩, fun x c z => ?_, I.hok.fresh (Nat.le_refl _), fun x c z => I.freeC x c (S.sub x c z), fun p hp => ?_, I.hok.kept hsb, D6f S σ⟩
 . obtain ⟨c, h1, _⟩ := S.has (inF x z)
   exact ⟨c, h1⟩
 . obtain ⟨oi, ei⟩ := hit b hb
   exact ⟨Nat.ne_of_lt (Heap.lt_size ei), fun x c z => (hf b hb).2.2.2.2.1 x c (S.sub x c z)⟩
 . rw [hnb b hb] at e
   cases e
 . rcases List.mem_cons.mp (I.stkSub b hfs) with z | z
   . exact (hf b hb).2.1 z
   . exact (hf b hb).2.2.1 z
 . obtain ⟨v, z'⟩ := I.cell x c (S.sub x c z)
   exact ⟨v, ck c v z'⟩
 . have hp' : p ∈ X.pn ++ pins := by simpa using hp
   obtain ⟨q1, q2, q3, q4, q5⟩ := I.pin p hp'
   refine ⟨hsb _ _ q1, q2, Nat.ne_of_lt (Heap.lt_size q1), fun z => ?_, q5⟩
   rcases List.mem_cons.mp (I.stkSub p.1 z) with z | z
   . exact q3 z
   . exact q4 z
theorem J1q {pins pl : List (Addr × Obj)} {σ σ' : St} {H H' : Hp} {s s' : Shared} {fp : List Addr} (S : CompScopeF N F js scope X.N X.env) (I : Inv X pins σ H s) (hf : ∀ b ∈ fp, A4u X pins H b) (J : Inv (X.compF scope N F s.heap.objs.size s H fp (X.pn ++ pins)) pl σ' H' s') :
   Inv (X.compF scope N F s.heap.objs.size s H fp (X.pn ++ pins)) [] (List.replicate N.length none ++ A8r js σ) H' s' := by
 obtain ⟨m, hn, _⟩ := J.loc
 refine ⟨J.ok, J.os, J.bare, J.base, ⟨m, hn, fun i x v e1 e2 e3 => B2r S I (fun x c v z q => ?_) i x v e1 e2⟩, J.cell, J.free, J.freeC, fun p hp => J.pin p (by
   have hp : p ∈ (X.pn ++ pins) ++ [] := hp
   rw [List.append_nil] at hp
   exact List.mem_append_left _ hp), J.hok, D6f S σ⟩
 obtain ⟨o, e, d⟩ := q
 have ne : c ∉ fp := fun w => (hf c w).2.2.2.2.1 x c z rfl
 obtain ⟨sl, q⟩ := J.base.any e (I.freeC x c z) ne
 exact ⟨_, q, d⟩
theorem J2f {elt target iter c : Expr} {scope : Scope} {pos : Pos} {N F : List Str} {js : List Nat} {wi : TI} {g : TG} {tc : TT} {te : TE} (S : CompScopeF N F js scope X.N X.env) (hd : A1u X) (hc0 : X.calm = true) (hi : PI X target iter wi) (hex : X.ex = [])
   (hg : ∀ C s₀ H₀ ex pn, A1u (X.compF scope N F C s₀ H₀ ex pn) -> PG (X.compF scope N F C s₀ H₀ ex pn) target g)
   (hc : ∀ C s₀ H₀ ex pn, A1u (X.compF scope N F C s₀ H₀ ex pn) -> PT (X.compF scope N F C s₀ H₀ ex pn) c tc)
   (he : ∀ C s₀ H₀ ex pn, A1u (X.compF scope N F C s₀ H₀ ex pn) -> PE (X.compF scope N F C s₀ H₀ ex pn) elt te)
   {pins : List (Addr × Obj)} {s : Shared} {σ : St} {H : Hp} {Q : VK} {RR : Value -> Env -> Result -> Shared -> Prop} (I : Inv X pins σ H s) (h : (A9k N.length js wi g tc te) σ H Q)
   (hRR : ∀ (D C : Addr) (s6 : Shared) (H5 : Hp) (mm : Str -> Option Value), Inv X pins σ H5 s6 -> s6.heap.Ns C mm -> A4u X pins H5 C -> Q (.ref D) H5 -> RR (.ref D) (compEnvC scope (A3m F X.env) C X.env) (.ok .next) s6) :
   wpAny (model X.prog X.w) X.A (eval iter X.env) (fun v s1 => wpAny (model X.prog X.w) X.A (pyIter v) (fun itv s2 => wpAny (model X.prog X.w) X.A (newList []) (fun acc s3 => wpAny (model X.prog X.w) X.A (newFunctionEnv scope X.env.globals (A3m F X.env) [] X.env.qual none .none (some X.env)) (fun cenv s4 =>
     codeAny (model X.prog X.w) X.A (.compStart (.ListComp elt [⟨target, iter, [c], 0⟩] scope pos) 0 itv acc { cenv with scope := relabel scope X.env }) (RR acc { cenv with scope := relabel scope X.env }) s4) X.xe s3) X.xe s2) X.xe s1) X.xe s := by
 refine thn (hi pins s σ H _ I h) fun v s1 h1 => thn h1 fun itv s2 h2 => ?_
 obtain ⟨it, fp, tn, J, H2, rfl, I2, T, st2, f2, R⟩ := h2
 have ob2 := T.obj _ _ st2
 have hf2 := I2.hok.fresh (Nat.le_refl _)
 refine wpAny_newObj_type ?_
 have I3 : Inv X pins σ (upd H2 s2.heap.objs.size (.lst [])) { s2 with heap := s2.heap.push { cls := .type "list", dict := none, data := .seq ([] : List Value).toArray } } := Inv.lnew (t' := s2.toks) I2 .nil (Nat.zero_le _)
 refine wpAny_newFunctionEnv S.cell (by intro y hy; simp at hy) (fun h4 hns hsb => ?_) S.kind
 dsimp only at hns hsb ⊢
 generalize hG : s2.heap.push { cls := .type "list", dict := none, data := .seq ([] : List Value).toArray } = G at I3 hns hsb ⊢
 generalize hD : s2.heap.objs.size = D at I3 hf2
 have nD : ∀ b ∈ fp, b ≠ D := fun b hb => by
   obtain ⟨o, eo, _⟩ := ob2 b hb
   rw [<- hD]; exact Nat.ne_of_lt (Heap.lt_size eo)
 have eiG : ∀ b ∈ fp, ∃ o, G.get? b = some o := fun b hb => by
   obtain ⟨o, eo, _⟩ := ob2 b hb
   exact ⟨o, by rw [<- hG]; exact Heap.get?_push_of_some _ eo⟩
 have kp : ∀ b o, G.get? b = some o -> h4.get? b = some o := fun b o e => hsb.extBut b o (Nat.ne_of_lt (Heap.lt_size e)) (Heap.get?_push_of_some _ e)
 have f3 : ∀ b ∈ fp, A4u X pins (upd H2 D (.lst [])) b := fun b hb => ⟨by rw [C4 (nD b hb)]; exact (f2 b hb).1, (f2 b hb).2⟩
 have nb : ∀ b ∈ fp, X.base.get? b = none := fun b hb => by
   cases q : X.base.get? b with
   | none => rfl
   | some o =>
     have := (I.ok.bs b o q).1
     rcases (f2 b hb).2.2.2.1 with z | z
     . rw [hex] at z; simp at z
     . exact absurd (Nat.lt_of_lt_of_le (Heap.lt_size this) z) (Nat.lt_irrefl _)
 have hns' : h4.Ns G.objs.size (fun _ => none) := by
   obtain ⟨o, es, ep, q1, q2, q3, q4⟩ := hns
   exact ⟨o, es, ep, q1, q2, q3, fun x => by rw [q4]; rfl⟩
 have I4 := U4h (tk := s2.toks + ([] : List (Str × Value)).length) S I3 f3 eiG nb hns' kp
 have hdc : A1u (X.compF scope N F G.objs.size { s2 with heap := G } (upd H2 D (.lst [])) fp (X.pn ++ pins)) := by
   rcases hd with z | ⟨x, o, u, vs, z, e, d, n⟩
   . exact .inl z
   . refine .inr ⟨x, o, u, vs, z, ?_, d, n⟩
     have q := I2.base.frzs x o u e
     show upd H2 D (.lst []) x = _
     rw [C4 fun w => by rw [w, hf2] at q; cases q]
     exact q
 obtain ⟨m, W, w0, turn⟩ := R D hf2
 have gg := hg _ _ _ _ _ hdc
 have cc := hc _ _ _ _ _ hdc
 have ee := he _ _ _ _ _ hdc
 have fpc : ∀ {H' : Hp} {σ' : St} {s' : Shared} {pl : List (Addr × Obj)}, Inv (X.compF scope N F G.objs.size { s2 with heap := G } (upd H2 D (.lst [])) fp (X.pn ++ pins)) pl σ' H' s' -> (∀ b ∈ fp, H' b = none) -> (∀ b ∈ fp, ∀ p ∈ pl, p.1 ≠ b) -> ∀ b ∈ fp, A4u (X.compF scope N F G.objs.size { s2 with heap := G } (upd H2 D (.lst [])) fp (X.pn ++ pins)) pl H' b := by
   intro H' σ' s' pl J' hn hp b hb
   obtain ⟨oi, ei⟩ := eiG b hb
   refine ⟨hn b hb, Nat.ne_of_lt (Heap.lt_size ei), ?_, .inl hb, (fun x c z => (f2 b hb).2.2.2.2.1 x c (S.sub x c z)), fun p hpp => ?_⟩
   . intro z
     rcases List.mem_cons.mp (I.stkSub b z) with z | z
     . exact (f2 b hb).2.1 z
     . exact (f2 b hb).2.2.1 z
   . rcases List.mem_append.mp hpp with z | z
     . exact (f2 b hb).2.2.2.2.2 p z
     . exact hp b hb p z
 have loop : codeAny (model X.prog X.w) X.A (.compLoop (.ListComp elt [⟨target, iter, [c], 0⟩] scope pos) 0 (.ref it) (.ref D) (compEnvC scope (A3m F X.env) G.objs.size X.env))
     (RR (.ref D) (compEnvC scope (A3m F X.env) G.objs.size X.env))
     { s2 with heap := h4, toks := s2.toks + ([] : List (Str × Value)).length } := by
   refine kct_loop (fun k s' => ∃ i ys H', k = m + 1 - i /\ Inv (X.compF scope N F G.objs.size { s2 with heap := G } (upd H2 D (.lst [])) fp (X.pn ++ pins)) [] (List.replicate N.length none ++ A8r js σ) H' s' /\ tn i s'.heap /\ (∀ b ∈ fp, H' b = none) /\ W i ys H') ?_ (m + 1)
     ⟨0, [], _, rfl, I4, T.keep _ _ _ st2 fun b hb o e => kp b o (by rw [<- hG]; exact Heap.get?_push_of_some _ e), fun b hb => (f3 b hb).1, w0⟩
   rintro k s5 ⟨i, ys, H5, rfl, I5, st5, n5, w5⟩
   obtain ⟨hi5, hD5, w5⟩ := turn i ys H5 w5
   rcases w5 with ⟨stop, q⟩ | ⟨lt5, go, step⟩
   . refine wpAny_mono (T.done (X.compF scope N F G.objs.size { s2 with heap := G } (upd H2 D (.lst [])) fp (X.pn ++ pins)) rfl rfl rfl hc0 i [] s5 _ H5 (fun _ _ => False) I5 (fpc I5 n5 (by simp)) st5 stop) (fun r s6 z => ?_) (fun _ _ z => z.elim)
     obtain ⟨rfl, I6⟩ := z
     obtain ⟨mm, hn6, _⟩ := I6.loc
     have B6 := I6.base
     have J6 : Inv X pins σ H5 s6 := by
       refine I3.call' (ch := fp) I6.os ⟨B6.keep, B6.slot, B6.free, B6.there, B6.tups, B6.frzs, B6.tbls⟩ I6.hok I6.bare (fun b hb => ⟨(f2 b hb).2.2.2.1, (f2 b hb).2.1, (f2 b hb).2.2.2.2.1, (f2 b hb).2.2.2.2.2⟩)
     have szG : X.s₀.heap.objs.size <= G.objs.size := I3.sz
     refine hRR D G.objs.size s6 H5 mm J6 hn6 ⟨I6.free, ?_, ?_, .inr szG, ?_, ?_⟩ q
     . exact Nat.ne_of_gt I3.lt
     . intro z
       obtain ⟨_, o, ho, _⟩ := I3.funs.mem z
       exact Nat.lt_irrefl _ (Heap.lt_size ho)
     . rintro x c z rfl
       obtain ⟨v', o, ho, _⟩ := I3.cell x _ z
       exact Nat.lt_irrefl _ (Heap.lt_size ho)
     . rintro p hp z
       have zz := (I3.pin p hp).1
       rw [z] at zz
       exact Nat.lt_irrefl _ (Heap.lt_size zz)
   . refine wpAny_mono (T.item (X.compF scope N F G.objs.size { s2 with heap := G } (upd H2 D (.lst [])) fp (X.pn ++ pins)) rfl rfl rfl hc0 i [] s5 _ H5 (fun _ _ => False) I5 (fpc I5 n5 (by simp)) st5 go) (fun r s6 z => ?_) (fun _ _ z => z.elim)
     obtain ⟨u, rfl, z⟩ := z
     refine wpAny_mono z (fun _ s7 z => ?_) (fun _ _ z => z.elim)
     obtain ⟨x, H7, I7, rx, yl, st7, fr7⟩ := z
     have ob7 := T.obj _ _ st7
     have I7' : Inv (X.compF scope N F G.objs.size { s2 with heap := G } (upd H2 D (.lst [])) fp (X.pn ++ pins)) (A4j fp s7.heap) (List.replicate N.length none ++ A8r js σ) H7 s7 := I7.pinned (fpc I7 fr7 (by simp)) ob7
     have back : ∀ {i' : Nat} {ys' : List V} {H' : Hp} {σ' : St} {s' : Shared}, i' = i + 1 -> Inv (X.compF scope N F G.objs.size { s2 with heap := G } (upd H2 D (.lst [])) fp (X.pn ++ pins)) (A4j fp s7.heap) σ' H' s' -> W i' ys' H' ->
         ∃ k', k' < m + 1 - i /\ ∃ i ys H', k' = m + 1 - i /\ Inv (X.compF scope N F G.objs.size { s2 with heap := G } (upd H2 D (.lst [])) fp (X.pn ++ pins)) [] (List.replicate N.length none ++ A8r js σ) H' s' /\ tn i s'.heap /\ (∀ b ∈ fp, H' b = none) /\ W i ys H' := by
       rintro i' ys' H' σ' s' rfl J' w'
       refine ⟨m + 1 - (i + 1), by omega, i + 1, ys', H', rfl, J1q S I3 f3 J', T.keep _ _ _ st7 fun b hb o z => (J'.pin (b, o) (List.mem_append_right _ (A5k hb z))).1, fun b hb => ?_, w'⟩
       obtain ⟨o, eo, _⟩ := ob7 b hb
       exact (J'.pin (b, o) (List.mem_append_right _ (A5k hb eo))).2.1
     refine wpAny_mono (gg (A4j fp s7.heap) s7 _ H7 x u _ I7' rx (step x H7 yl)) (fun _ s8 z => ?_) (fun _ _ z => z.elim)
     obtain ⟨σ8, H8, I8, q8⟩ := z
     refine wpAny_mono (cc (A4j fp s7.heap) s8 σ8 H8 _ I8 q8) (fun b s9 z => ?_) (fun _ _ z => z.elim)
     obtain ⟨H9, I9, q9⟩ := z
     cases b with
     | false =>
       simp only [Bool.false_eq_true, if_false] at q9 ⊢
       exact back rfl I9 q9
     | true =>
       simp only [if_true] at q9 ⊢
       refine wpAny_mono (ee (A4j fp s7.heap) s9 σ8 H9 _ I9 q9) (fun y s10 z => ?_) (fun _ _ z => z.elim)
       obtain ⟨yv, H10, I10, ry, hD10, hz10, w10⟩ := z
       refine wpAny_mono (D3q (X := X.compF scope N F G.objs.size { s2 with heap := G } (upd H2 D (.lst [])) fp (X.pn ++ pins)) (A4j fp s7.heap) s10 σ8 H10 (.ref D) [yv] (.ref D) [y] (fun _ H11 => W (i + 1) (ys ++ [yv]) H11) I10 rfl (.cons ry .nil) ⟨D, ys, yv, rfl, rfl, hD10, hz10, w10⟩) (fun _ s11 z => ?_) (fun _ _ z => z.elim)
       obtain ⟨_, H11, I11, _, w11⟩ := z
       exact back rfl I11 w11
 exact codeAny_compStart_list loop (T.self _ 0 _ _ _ (T.keep _ _ _ st2 fun b hb o e => kp b o (by rw [<- hG]; exact Heap.get?_push_of_some _ e)) loop)
theorem G5a {elt target iter : Expr} {c : Expr} {tc : TT} {pos : Pos} {wi : TI} {g : TG} {te : TE} (S : CompScopeF N F js scope X.N X.env) (hd : A1u X) (hc0 : X.calm = true) (hi : PI X target iter wi) (hex : X.ex = [])
   (hg : ∀ C s₀ H₀ ex pn, A1u (X.compF scope N F C s₀ H₀ ex pn) -> PG (X.compF scope N F C s₀ H₀ ex pn) target g)
   (hc : ∀ C s₀ H₀ ex pn, A1u (X.compF scope N F C s₀ H₀ ex pn) -> PT (X.compF scope N F C s₀ H₀ ex pn) c tc)
   (he : ∀ C s₀ H₀ ex pn, A1u (X.compF scope N F C s₀ H₀ ex pn) -> PE (X.compF scope N F C s₀ H₀ ex pn) elt te)
   (hs : ∀ x, foldedSetIterable iter X.env x = pure x := by intro _; rfl) : PE X (.ListComp elt [⟨target, iter, [c], 0⟩] scope pos) (A9k N.length js wi g tc te) := by
 intro pins s σ H Q I h
 rw [eval_ListComp]
 refine wpAny_comprehension_free (use := none) rfl hs S.clos S.kind S.loc (J2f S hd hc0 hi hex hg hc he I h (RR := fun acc ce r s' => compPost (model X.prog X.w) X.A X.xe none (EP X pins σ Q) acc ce.locals r s') ?_)
 intro D C s6 H5 mm I6 n6 f6 q
 exact ⟨mm, n6, fun h' sb => ⟨.ref D, H5, V3g I6 f6 sb, rfl, q⟩⟩
end
section
variable {X : Cx} {pins : List (Addr × Obj)} {σ : St} {H : Hp} {s : Shared} {h' : Heap}
end
section
variable {X : Cx} {es : List Expr} {k : Nat} {tp : Pos}
def tRev (K : Frag) (te ts : TE) : TE := fun σ H Q => te σ H fun x H1 => ts σ H1 fun z H2 => z = .int (-1) /\ ∃ a xs, x = .ref a /\ SqL K H2 a xs /\ ∀ p, H2 p = none -> Q (.ref p) (upd H2 p (.lst xs.reverse))
theorem B3f {α β : Type} {f : α -> Option β} {g : α -> β} : ∀ l : List α, (∀ k ∈ l, f k = some (g k)) -> l.filterMap f = l.map g
 | [], _ => rfl
 | a :: l, h => by
   rw [List.filterMap_cons, h a (List.mem_cons_self ..)]
   show g a :: l.filterMap f = g a :: l.map g
   rw [B3f l fun k hk => h k (List.mem_cons_of_mem _ hk)]
theorem V1d (its : List Value) : slicePick its.toArray none none (some (-1)) = its.reverse.toArray := by
 unfold slicePick
 congr 1
 show (sliceRange ((its.toArray.size : Int) - 1) (-1) (-1)).filterMap (its.toArray[·]?) = its.reverse
 have e : sliceRange ((its.toArray.size : Int) - 1) (-1) (-1) = (List.range its.length).map fun k => its.length - 1 - k := by
   unfold sliceRange
   have c : (if (-1 : Int) > 0 then (if ((its.toArray.size : Int) - 1) < -1 then (-1 - ((its.toArray.size : Int) - 1) + -1 - 1) / -1 else 0) else (if ((its.toArray.size : Int) - 1) > -1 then (((its.toArray.size : Int) - 1) - -1 - -1 - 1) / (- -1) else 0)).toNat = its.length := by
     rw [if_neg (by decide), List.size_toArray]
     split
     . rw [show (- -1 : Int) = 1 by decide, Int.ediv_one]; omega
     . omega
   show (List.range (if (-1 : Int) > 0 then (if ((its.toArray.size : Int) - 1) < -1 then (-1 - ((its.toArray.size : Int) - 1) + -1 - 1) / -1 else 0) else (if ((its.toArray.size : Int) - 1) > -1 then (((its.toArray.size : Int) - 1) - -1 - -1 - 1) / (- -1) else 0)).toNat).map (fun k : Nat => (((its.toArray.size : Int) - 1) + (-1) * (k : Int)).toNat) = _
   rw [c]
   refine List.map_congr_left fun k hk => ?_
   have := List.mem_range.mp hk
   rw [List.size_toArray]
   omega
 rw [e]
 apply List.ext_getElem?
 intro i
 have fm : ((List.range its.length).map fun k => its.length - 1 - k).filterMap (its.toArray[·]?) = ((List.range its.length).map fun k => its.length - 1 - k).filterMap (its[·]?) := by simp
 rw [fm, List.filterMap_map]
 have g : (List.range its.length).filterMap ((its[·]?) ∘ fun k => its.length - 1 - k) = its.reverse := by
   have h1 : ∀ k ∈ List.range its.length, ((its[·]?) ∘ fun k => its.length - 1 - k) k = some (its.reverse[k]?.getD .none) := fun k hk => by
     have hk := List.mem_range.mp hk
     show its[its.length - 1 - k]? = _
     rw [List.getElem?_reverse hk, List.getElem?_eq_getElem (by omega)]
     rfl
   rw [B3f _ h1]
   apply List.ext_getElem?
   intro j
   rw [List.getElem?_map]
   by_cases hj : j < its.length
   . rw [List.getElem?_range hj]
     show some (its.reverse[j]?.getD .none) = its.reverse[j]?
     rw [List.getElem?_eq_getElem (by simpa using hj)]
     rfl
   . rw [List.getElem?_eq_none (by simpa using hj), List.getElem?_eq_none (by simpa using hj)]
     rfl
 rw [g]
theorem Z3c {e st : Expr} {te ts : TE} {p2 pos : Pos} (he : PE X e te) (hst : PE X st ts) : PE X (.Subscript e (.Slice none none (some st) p2) pos) (tRev X.K te ts) := by
 intro pins s σ H Q I h
 refine Subscript_ (thn (he pins s σ H _ I h) fun v s1 ⟨x, H1, I1, r1, q1⟩ => ?_)
 refine wpAny_Slice ?_
 rw [evalPart_none]
 refine wpAny_pure (wpAny_pure ?_)
 rw [evalPart_some]
 refine thn (hst pins s1 σ H1 _ I1 q1) fun vs s3 ⟨z, H3, I3, rz, q3⟩ => ?_
 obtain ⟨rfl, a, xs, rfl, hx, q⟩ := q3
 obtain ⟨t, rfl⟩ := rz
 cases r1
 have I4 : Inv X pins σ H3 { s3 with heap := s3.heap.push { cls := .type "slice", data := .fields #[.none, .none, .int (-1) t] } } := I3.kept (t' := s3.toks) fun b ob q => Heap.get?_push_of_some _ q
 obtain ⟨its, r, ht, hz⟩ := I4.list hx
 have hlen := r.length
 have hg : wpAny (model X.prog X.w) X.A (getItem (.ref a) (.ref s3.heap.objs.size)) (EP X pins σ Q) X.xe { s3 with heap := s3.heap.push { cls := .type "slice", data := .fields #[.none, .none, .int (-1) t] } } := by
   refine wpAny_getItem_list_slice ht.isList (Heap.IsSliceOf.new ..) .none .none (.int (-1) t) (by decide) ?_ (by rw [List.size_toArray] <;> omega)
   rw [V1d]
   refine ⟨.ref _, _, I4.laid (t' := s3.toks) (o := .lst xs.reverse) (fun b ob q => Heap.get?_push_of_some _ q) (Nat.le_refl _) ?_, rfl, q _ (I4.hok.fresh (Nat.le_refl _))⟩
   exact ⟨by rw [List.length_reverse]; exact hz, _, 0, r.reverse, Heap.get?_push_size _ rfl⟩
 show wpAny (model X.prog X.w) X.A (subscriptTail e (.Slice none none (some st) p2) (.ref a) (.ref s3.heap.objs.size)) (EP X pins σ Q) X.xe { s3 with heap := s3.heap.push { cls := .type "slice", data := .fields #[.none, .none, .int (-1) t] } }
 exact tail_any (ops := [.ref a, .ref s3.heap.objs.size]) ht.isList.typeIs slot_list_getitem.lookup hg (by with_unfolding_all rfl)
end
def Z7e (D : Addr) (H H' : Hp) : Prop := ∀ b o, H b = some o -> b ≠ D -> H' b = some o
theorem G5g {J : It} {g : TG} {tc : TT} {te : TE} {σ0 : St} {H1 : Hp} {QD : Addr -> Hp -> Prop} {n : Nat} (f : Nat -> Bool) (R : Nat -> V -> Hp -> Prop) (hn : n <= 1000)
   (mono : ∀ i y H' H'' D l, R i y H' -> H' D = some (.lst l) -> Z7e D H' H'' -> R i y H'')
   (step : ∀ (i : Nat) (H2 : Hp) (Qy : VK) (Qn : Hp -> Prop), i < n -> Same H1 H2 -> (f i = true -> ∀ y H6, Same H2 H6 -> R i y H6 -> Qy y H6) -> (f i = false -> ∀ H6, Same H2 H6 -> Qn H6) -> J.go i H2 /\ ∀ x H3, J.yld i H2 x H3 -> g x σ0 H3 fun σ4 H4 => tc σ4 H4 fun b H5 => if b = true then te σ4 H5 Qy else Qn H5)
   (stop : ∀ H2, Same H1 H2 -> J.stop n H2)
   (k : ∀ D H' ys, Same H1 H' -> H1 D = none -> H' D = some (.lst ys) -> ys.length = ((List.range n).filter f).length -> (∀ (j i : Nat) (y : V), ((List.range n).filter f)[j]? = some i -> ys[j]? = some y -> R i y H') -> QD D H') : ∀ D, H1 D = none ->
   ∃ (m : Nat) (W : Nat -> List V -> Hp -> Prop), W 0 [] (upd H1 D (.lst [])) /\ ∀ i ys H2, W i ys H2 -> i <= m /\ H2 D = some (.lst ys) /\ ((J.stop i H2 /\ QD D H2) \/ (i < m /\ J.go i H2 /\ ∀ x H3, J.yld i H2 x H3 ->
     g x σ0 H3 fun σ4 H4 => tc σ4 H4 fun b H5 => if b = true then te σ4 H5 fun y H6 => H6 D = some (.lst ys) /\ ys.length < sizeLine /\ W (i + 1) (ys ++ [y]) (upd H6 D (.lst (ys ++ [y]))) else W (i + 1) ys H5)) := by
 intro D hD
 refine ⟨n, fun i ys H2 => i <= n /\ ys.length = ((List.range i).filter f).length /\ H2 D = some (.lst ys) /\ Same H1 H2 /\ ∀ (j i' : Nat) (y : V), ((List.range i).filter f)[j]? = some i' -> ys[j]? = some y -> R i' y H2, ⟨Nat.zero_le _, rfl, A8, Same.upd hD, fun j i' y h => by simp at h⟩, ?_⟩
 rintro i ys H2 ⟨hi, hl, hd, sm, hR⟩
 refine ⟨hi, hd, ?_⟩
 by_cases hlt : i < n
 . have fl : ((List.range i).filter f).length <= i := Nat.le_trans (List.length_filter_le _ _) (by simp)
   refine .inr ⟨hlt, step i H2 _ _ hlt sm (fun hf y H6 s6 r6 => ?_) (fun hf H6 s6 => ?_)⟩
   . have d6 : H6 D = some (.lst ys) := s6 _ _ hd
     have ex : Z7e D H6 (upd H6 D (.lst (ys ++ [y]))) := fun b o e hb => by rw [C4 hb]; exact e
     have ef : (List.range (i + 1)).filter f = (List.range i).filter f ++ [i] := by rw [List.range_succ, List.filter_append, List.filter_cons, hf]; rfl
     refine ⟨d6, Nat.lt_of_le_of_lt (by omega : ys.length <= 1000) (U8 (Nat.le_refl _)), hlt, by rw [ef, List.length_append, List.length_append, hl]; rfl, A8, fun b o e => ?_, fun j i' z hi' hj => ?_⟩
     . rw [C4 (C9 e hD)]
       exact s6 _ _ (sm _ _ e)
     . rw [ef] at hi'
       by_cases hj' : j < ys.length
       . rw [List.getElem?_append_left hj'] at hj
         rw [List.getElem?_append_left (by omega)] at hi'
         exact mono i' z H6 _ D ys (mono i' z H2 H6 D ys (hR j i' z hi' hj) hd fun b o e _ => s6 _ _ e) d6 ex
       . rw [List.getElem?_append_right (by omega)] at hj
         rw [List.getElem?_append_right (by omega)] at hi'
         have e0 : j - ys.length = 0 := by
           apply Classical.byContradiction
           intro q
           rw [List.getElem?_eq_none (by simp; omega)] at hj
           cases hj
         rw [e0] at hj
         rw [<- hl, e0] at hi'
         cases hj
         cases hi'
         exact mono _ _ H6 _ D ys r6 d6 ex
   . have ef : (List.range (i + 1)).filter f = (List.range i).filter f := by rw [List.range_succ, List.filter_append, List.filter_cons, hf]; simp
     refine ⟨hlt, by rw [ef]; exact hl, s6 _ _ hd, sm.trans s6, fun j i' z hi' hj => ?_⟩
     rw [ef] at hi'
     exact mono i' z H2 H6 D ys (hR j i' z hi' hj) hd fun b o e _ => s6 _ _ e
 . have e : i = n := by omega
   subst e
   exact .inl ⟨stop H2 sm, k D H2 ys sm hD hd hl hR⟩
open AutoSeq1 (wpAny_loadPart')
section
variable {prog : Program} {w : World} {A : Around} {E : Value -> Shared -> Prop} {s : Shared}
end
section
variable {X : Cx} {es : List Expr} {k : Nat} {tp : Pos}
end
end L2
namespace L2
open PySem PySem.Spec PyProof.Rows PySem.W
section
variable {X : Cx}
theorem B5x : A4y X (.builtin "divmod") (fun xs H Q => ∃ i j : Int, xs = [.int i, .int j] /\ (0 < j /\ j.natAbs.log2 < 9000) /\ ∀ p, H p = none -> Q (.ref p) (upd H p (.tup [.int (i / j), .int (i % j)]))) := by
 intro pins s σ H xs us Q I r h
 obtain ⟨i, j, rfl, ⟨h1, h2⟩, q⟩ := h
 obtain ⟨u, w', rfl, ⟨t, rfl⟩, ⟨t', rfl⟩⟩ := V2g r
 refine divmod_int (by omega) ?_ (.inl (PyProof.noPylong_of_log2 h2))
 rw [Int.fdiv_eq_ediv_of_nonneg i (by omega), Int.fmod_eq_emod_of_nonneg i (by omega)]
 refine ⟨.ref s.heap.objs.size, upd H s.heap.objs.size (.tup [.int (i / j), .int (i % j)]), I.laid (fun b o e => Heap.get?_push_of_some _ e) (Nat.le_refl _) ⟨C6 (by show 2 <= 1000; decide), [.int (i / j) s.toks, .int (i % j) (s.toks + 1)], .cons ⟨_, rfl⟩ (.cons ⟨_, rfl⟩ .nil), ⟨_, Heap.get?_push_size s.heap rfl, rfl, 0, rfl⟩⟩, rfl, q _ (I.hok.fresh (Nat.le_refl _))⟩
end
end L2
namespace L2
open PySem PySem.W PyProof.Rows
section
variable {X : Cx} {o e : Expr} {ta : TE} {m : Str} {apos pos : Pos} {j k : Nat} {ps : List Str} {ι : Type} {cw f : ι -> Addr} {fd : ι -> FuncData} {sp : ι -> Sp} {EH : EK}
end
section
variable {X : Cx} {a b e o : Expr} {es : List Expr} {ta tb te to : TE} {t : TA} {pos : Pos} {st : Stmt} {rest : List Stmt} {ts u : TS}
end
end L2
namespace L2
open PySem PySem.Spec PyProof.Rows PySem.W
section
variable {X : Cx} {x f : Str} {p cpos pos : Pos} {e : Expr} {t : TA} {C fI : Addr} {fdI : FuncData} {ps : List Str} {j k : Nat}
end
theorem V3r {K : Frag} {H : Hp} {σ σf : L2.St} {a : Addr} {zs : List Str} {f : Str -> Bool} {tc : TT} {te : TE} {Q : VK} (hl : SqL K H a (zs.map V.str)) (hz : zs.length <= 100)
   (ht : ∀ (z : Str) (H' : Hp) (Qb : Bool -> Hp -> Prop), Same H H' -> Qb (f z) H' -> tc (some (.str z) :: σf) H' Qb) (he : ∀ (z : Str) (H' : Hp) (Qv : VK), Qv (.str z) H' -> te (some (.str z) :: σf) H' Qv)
   (k : ∀ D H', Same H H' -> H D = none -> H' D = some (.lst ((zs.filter f).map V.str)) -> Q (.ref D) H') {js : List Nat} (hj : A8r js σ = σf) : A9k 1 js (U1y K (tC (.ref a))) (D3k 0) tc te σ H Q := by
 refine ⟨a, rfl, ⟨_, hl⟩, fun D hD => ⟨zs.length, fun i ys H2 => i <= zs.length /\ ys = ((zs.take i).filter f).map V.str /\ H2 = upd H D (.lst ys), ⟨Nat.zero_le _, rfl, rfl⟩, ?_⟩⟩
 rintro i ys H2 ⟨hi, rfl, rfl⟩
 refine ⟨hi, A8, ?_⟩
 have sm : Same H (upd H D (.lst (((zs.take i).filter f).map V.str))) := Same.upd hD
 have lz : (((zs.take i).filter f).map V.str).length <= 100 := by
   rw [List.length_map]
   exact Nat.le_trans (List.length_filter_le _ _) (by rw [List.length_take]; omega)
 by_cases hlt : i < zs.length
 . refine .inr ⟨hlt, ⟨_, V.str zs[i], sm.seq hl, by simp [hlt]⟩, fun x H3 y => ?_⟩
   obtain ⟨rfl, y⟩ := y
   have ex : x = V.str zs[i] := by
     have := y _ (sm.seq hl)
     simp [hlt] at this
     exact this.symm
   subst ex
   rw [hj]
   show tc (some (.str zs[i]) :: σf) _ _
   refine ht _ _ _ sm ?_
   have et : (zs.take (i + 1)).filter f = (zs.take i).filter f ++ (if f zs[i] then [zs[i]] else []) := by
     rw [List.take_succ_eq_append_getElem hlt, List.filter_append]
     congr 1
     cases hb : f zs[i] <;> simp [hb]
   cases hb : f zs[i] with
   | false =>
     refine G7 ⟨hlt, ?_, rfl⟩
     rw [et, hb]; simp
   | true =>
     refine V8 (he _ _ _ ⟨A8, Nat.lt_of_le_of_lt lz (U8 (by decide)), hlt, ?_, ?_⟩)
     . rw [et, hb]; simp
     . rw [U3c]
 . have e : i = zs.length := by omega
   subst e
   refine .inl ⟨⟨_, sm.seq hl, by simp⟩, k D _ sm hD ?_⟩
   rw [List.take_length]
   exact A8
section
variable {X : Cx} {x y : Str} {e : Expr} {t : TE} {p q : Pos} {pos pos2 : Pos}
end
end L2
namespace L2
open PySem PySem.Spec PyProof.Rows
structure FnOkG (P : Program) (w : World) (K : PySem.W.Frag) (mg : Str -> Option Value) (base : Heap) (CX : CXT) (k : Nat) (f : Addr) (fd : FuncData) (ps : List Str) (sp : Sp) : Prop where
 len : ∀ vs H Q E, sp vs H Q E -> vs.length = ps.length
 run : ∀ (A : Around) (outer : List Env) (s : Shared) (H : Hp) (args : Args) (us : List Value) (vs : List V) (Q : VK) (E : XK), A.guards = some [] -> Room k A -> Env0 P w K mg base A outer s H -> BindsTo s fd args (ps.zip us) -> Vals vs us -> sp vs H Q E -> codeAny (model P w) A (Code.call (Value.ref f) args) (CR CX outer P w H s Q E) s
theorem V2u {CX : CXT} {P : Program} {w : World} {K : PySem.W.Frag} {mg : Str -> Option Value} {base : Heap} {k : Nat} {f : Addr} {name qual : Str} {params : Arguments} {body : List Stmt} {scope : Scope} {dV kV doc pm cdv ct oc : Value} {an od : Option Addr}
   {osl : Array (Option Value)} {N ps : List Str} {sp : Sp} (lk : K.lookup f = some ⟨oc, od, .func (PySem.W.fnOf name qual params body scope dV kV doc pm an cdv ct), osl⟩) (hcd : PySem.W.codeIn K cdv qual = true) (S : FnScope N ps scope)
   (len : ∀ vs H Q E, sp vs H Q E -> vs.length = ps.length)
   (hbody : ∀ (A : Around) (outer : List Env) (s : Shared) (H : Hp) (vs : List V) (Q : VK) (E : XK), A.guards = some [] -> Room k (A.deeper (envOfC qual scope s.heap.objs.size f cdv)) -> sp vs H Q E ->
     ∃ t, PSs (Z3 CX P w K mg base N qual scope f cdv A outer s H E) body t /\ t { nx := fun _ H' => Q .non H', rt := Q } (A2t N vs) H) :
   FnOkG P w K mg base CX (k + 1) f (PySem.W.fnOf name qual params body scope dV kV doc pm an cdv ct) ps sp := by
 refine ⟨len, fun A outer s H args us vs Q E hgd hr e0 hb r hsp => ?_⟩
 have hl := len _ _ _ _ hsp
 have KX : K.In s.heap := e0.mod.kin.keeps fun b o e => (e0.bs b o e).1
 have lim : s.heap.NoLimit := e0.mod.nolimit.keeps fun b o e => (e0.bs b o e).1
 have hkind : ∀ y ∈ ps.zip us, scope.names.lookup y.1 = some .local \/ (scope.names.lookup y.1 = some .cell /\ ((cellsFrom (s.heap.objs.size + 1) scope.names []).lookup y.1).isSome = true) := fun ⟨n, v⟩ hy => by
   rcases S.par n (List.of_mem_zip hy).1 with q | q
   . exact .inl q
   . exact .inr ⟨q, PySem.W.cellsFrom_some _ _ _ (.inl q)⟩
 refine codeAny_call_function hr.depth (KX _ _ lk) rfl S.co S.gen rfl (PySem.W.codeRec_of KX hcd) (hb _ _ _ _ ?_)
 refine wpAny_newFunctionEnv_cells S.kind hkind fun env he s1 x => ?_
 subst he
 refine ⟨lim.keeps x.toInCall.keep, codeAny_func ?_⟩
 obtain ⟨t, ht, hq⟩ := hbody A outer s H vs Q E hgd (hr.deeper _) hsp
 have I : Inv (Z3 CX P w K mg base N qual scope f cdv A outer s H E) [] (A2t N vs) H s1 := D2r S hr.hd e0 hl r x
 refine wpAny_mono (ht [] s1 (A2t N vs) H _ I hq) (fun fl s' hs => ?_) fun e s' hs => hs
 have fin : ∀ {σ' : St} {H' : Hp} {v : V} {u : Value}, Inv (Z3 CX P w K mg base N qual scope f cdv A outer s H E) [] σ' H' s' -> RelV v u -> Q v H' -> CE outer P w H s Q u s' :=
   fun {σ' H' v u} J rv q => ⟨v, H', J.os, J.bare, J.base, J.hok, rv, q⟩
 cases fl with
 | ret u =>
   obtain ⟨v, σ', H', J, rv, q⟩ := hs
   exact fin J rv q
 | next =>
   obtain ⟨σ', H', J, q⟩ := hs
   exact fin (v := V.non) (u := Value.none) J rfl q
 | brk =>
   obtain ⟨_, _, _, q⟩ := hs
   exact False.elim q
 | cont =>
   obtain ⟨_, _, _, q⟩ := hs
   exact False.elim q
open PySem.W in
theorem Fun.okEG {P : Program} {w : World} {K : Frag} {mg : Str -> Option Value} {base : Heap} {x qual : Str} {st : Stmt} {f : Addr} {fd : FuncData} {N ps : List Str} {k : Nat} {sp : Sp} (F : Fun K x qual st f fd) (S : FnScope N ps (A1 st)) (len : ∀ vs H Q E, sp vs H Q E -> vs.length = ps.length)
   (hbody : ∀ (X : Cx) (cdv : Value) (A : Around) (outer : List Env) (s : Shared) (H : Hp) (vs : List V) (Q : VK) (E : XK), X = Z3 (CX1 P w) P w K mg base N qual (A1 st) f cdv A outer s H E -> X.A.guards = some [] -> Room k X.A -> D6 X (fun C dd _ H' => E C dd H') -> sp vs H Q E ->
     ∃ t, PSs (Z3 (CX1 P w) P w K mg base N qual (A1 st) f cdv A outer s H E) (B1 st) t /\ t { nx := fun _ H' => Q .non H', rt := Q } (A2t N vs) H) : FnOkG P w K mg base (CX1 P w) (k + 1) f fd ps sp := by
 obtain ⟨oc, od, kV, doc, pm, an, cdv, ct, osl, rfl, lk, hc⟩ := F.ex
 exact V2u lk hc S len fun A outer s H vs Q E hg hr h => hbody _ cdv A outer s H vs Q E rfl hg hr A5q h
end L2
namespace L2
open PySem PySem.Spec PyProof.Rows PySem.W
mutual
inductive RdR (H : Hp) : V -> PyData -> Prop where
 | non : RdR H .non .none
 | bl (b : Bool) : RdR H (.bl b) (.bool b)
 | int (i : Int) : RdR H (.int i) (.int i)
 | str (x : Str) : RdR H (.str x) (.str x)
 | tup {a : Addr} {xs : List V} {ds : List PyData} (h : H a = some (.tup xs)) (r : RdRs H xs ds) : RdR H (.ref a) (.tuple ds)
 | lst {a : Addr} {xs : List V} {ds : List PyData} (h : H a = some (.lst xs)) (n : a ≠ sysModules) (r : RdRs H xs ds) : RdR H (.ref a) (.list ds)
 | dct0 {a : Addr} (h : H a = some (.dK [])) : RdR H (.ref a) (.dict [])
 | dct1 {a : Addr} {z : Str} {b : Bool} (h : H a = some (.dK [(.inr z, .bl b)])) : RdR H (.ref a) (.dict [(.str z, .bool b)])
inductive RdRs (H : Hp) : List V -> List PyData -> Prop where
 | nil : RdRs H [] []
 | cons {x : V} {xs : List V} {d : PyData} {ds : List PyData} (h : RdR H x d) (r : RdRs H xs ds) : RdRs H (x :: xs) (d :: ds)
end
mutual
theorem RdR.same {H H' : Hp} (s : ∀ b o, H b = some o -> H' b = some o) : ∀ {x : V} {d : PyData}, RdR H x d -> RdR H' x d
 | _, _, .non => .non
 | _, _, .bl b => .bl b
 | _, _, .int i => .int i
 | _, _, .str x => .str x
 | _, _, .tup h r => .tup (s _ _ h) (RdRs.same s r)
 | _, _, .lst h n r => .lst (s _ _ h) n (RdRs.same s r)
 | _, _, .dct0 h => .dct0 (s _ _ h)
 | _, _, .dct1 h => .dct1 (s _ _ h)
theorem RdRs.same {H H' : Hp} (s : ∀ b o, H b = some o -> H' b = some o) : ∀ {x : List V} {d : List PyData}, RdRs H x d -> RdRs H' x d
 | _, _, .nil => .nil
 | _, _, .cons h r => .cons (RdR.same s h) (RdRs.same s r)
end
section
variable {X : Cx}
mutual
theorem RdR.reads {pins : List (Addr × Obj)} {σ : St} {H : Hp} {s : Shared} (I : Inv X pins σ H s) : ∀ {x : V} {d : PyData} {u : Value}, RdR H x d -> RelV x u -> ∃ as, Reads s.heap u d as /\ sysModules ∉ as
 | _, _, _, .non, r => by cases r; exact ⟨_, .none, by simp⟩
 | _, _, _, .bl b, r => by cases r; exact ⟨_, .bool b, by simp⟩
 | _, _, _, .int i, r => by obtain ⟨t, rfl⟩ := r; exact ⟨_, .int i t, by simp⟩
 | _, _, _, .str x, r => by obtain ⟨t, rfl⟩ := r; exact ⟨_, .str x t, by simp⟩
 | _, _, _, .tup h q, r => by
   cases r
   obtain ⟨_, its, rv, o, e, c, n, d⟩ := I.hok _ _ h
   obtain ⟨as, z, y⟩ := RdRs.reads I q rv
   exact ⟨_, .tuple e c d (by simpa using z), y⟩
 | _, _, _, .lst (a := a) h nn q, r => by
   cases r
   obtain ⟨_, its, n, rv, e⟩ := I.hok _ _ h
   obtain ⟨as, z, y⟩ := RdRs.reads I q rv
   refine ⟨_, .list e rfl rfl (by simpa using z), fun hm => ?_⟩
   rcases List.mem_cons.mp hm with hm | hm
   . exact nn hm.symm
   . exact y hm
 | _, _, _, .dct0 (a := a) h, r => by
   cases r
   obtain ⟨_, nS, vs, kv, o, es, ep, e, c, d, _, ps, _⟩ := I.hok _ _ h
   cases kv
   cases hp : es.toList with
   | cons _ _ => rw [hp] at ps; cases ps
   | nil =>
     refine ⟨_, .dict (kvs := []) e c.1 d (by rw [hp]; exact .nil) (by rw [hp]; exact .nil), fun hm => ?_⟩
     exact beq_eq_false_iff_ne.mp nS (by simpa using hm : sysModules = a).symm
 | _, _, _, .dct1 (a := a) (z := z) (b := b) h, r => by
   cases r
   obtain ⟨_, nS, vs, kv, o, es, ep, e, c, d, _, ps, _⟩ := I.hok _ _ h
   cases kv with
   | cons k1 k2 =>
     cases k2
     obtain ⟨k1a, k1b⟩ := k1
     cases ps' : es.toList with
     | nil => rw [ps'] at ps; cases ps
     | cons en rest =>
       rw [ps'] at ps
       cases ps with
       | cons p1 p2 p3 =>
         cases p3
         have hk : ∃ t, en.key = .str z t := by
           rw [<- k1a] at p1
           have p1 : Value.isStrOf z en.key = true := p1
           cases hk : en.key <;> rw [hk] at p1 <;> simp [Value.isStrOf] at p1
           subst p1
           exact ⟨_, rfl⟩
         obtain ⟨t, hk⟩ := hk
         have hv : en.val = .bool b := p2.trans k1b
         refine ⟨_, .dict (kvs := [(.str z, .bool b)]) e c.1 d (by rw [ps']; show ReadsAll s.heap [en.key] [.str z] _; rw [hk]; exact .cons (.str z t) .nil) (by rw [ps']; show ReadsAll s.heap [en.val] [.bool b] _; rw [hv]; exact .cons (.bool b) .nil), fun hm => ?_⟩
         exact beq_eq_false_iff_ne.mp nS (by simpa using hm : sysModules = a).symm
theorem RdRs.reads {pins : List (Addr × Obj)} {σ : St} {H : Hp} {s : Shared} (I : Inv X pins σ H s) : ∀ {xs : List V} {ds : List PyData} {us : List Value}, RdRs H xs ds -> Vals xs us -> ∃ as, ReadsAll s.heap us ds as /\ sysModules ∉ as
 | _, _, _, .nil, r => by cases r; exact ⟨_, .nil, by simp⟩
 | _, _, _, .cons h q, r => by
   cases r with
   | cons r1 r2 =>
     obtain ⟨as, z, n1⟩ := RdR.reads I h r1
     obtain ⟨bs, y, n2⟩ := RdRs.reads I q r2
     exact ⟨_, .cons z y, by simp [n1, n2]⟩
end
def Z9 (d : PyData) : Prop := d.showable = true /\ d.depth <= 10 /\ d.shown.length <= sizeLine
end
section
variable {X : Cx} {j k : Nat} {f C : Addr} {fd : FuncData} {ps : List Str} {sp : Sp} {dvs : List V} {ds : List Value} {x m : Str} {p pos apos : Pos} {e o : Expr} {es : List Expr} {ta : TE} {t : TA} {st : Stmt}
end
structure LamB (mg : Str -> Option Value) (base : Heap) (c P : Addr) : Prop where
 code : CodeHd base c P
 bm : ∃ bm ob, mg "__builtins__" = some (.ref bm) /\ bm ≠ builtinsNs /\ bm ≠ mainGlobals /\ base.get? bm = some ob /\ ob.cls = .type "module" /\ ob.dict = some builtinsNs /\ ob.data = .plain
def Z1h (oc : Obj) (qual : Str) : Prop := ∃ vs t, oc.data = .fields vs /\ vs[1]? = some (.str qual t)
def TabOk (P : Addr) (pos : Pos) (qual : Str) (H : Hp) : Prop := ∃ ps, H P = some (.tbl ps) /\ TriplesOk ps.toList /\ (codeAmong pos ps.toList = none \/ ∃ c' oc, codeAmong pos ps.toList = some (.ref c') /\ H c' = some (.frz oc (.own c')) /\ Z1h oc qual)
def LamAt (H : Hp) (f : Addr) (qual : Str) (params : Arguments) (body : Expr) (scope : Scope) (clos : List (Str × Addr)) : Prop :=
 ∃ pm c' ctv oc, H f = some (.frz (kla_obj "<lambda>" qual params body scope clos pm c' ctv) (.own f)) /\ H c' = some (.frz oc (.own c')) /\ Z1h oc qual
def SameT (P : Addr) (H H' : Hp) : Prop := ∀ b o, b ≠ P -> H b = some o -> H' b = some o
def tLam (P : Addr) (pos : Pos) (qual : Str) (params : Arguments) (body : Expr) (scope : Scope) (clos : List (Str × Addr)) : TE := fun _ H Q => TabOk P pos qual H /\ ∀ f H', SameT P H H' -> H f = none -> LamAt H' f qual params body scope clos -> TabOk P pos qual H' -> (∀ pos' q', (pos'.line ≠ pos.line \/ pos'.col ≠ pos.col) -> TabOk P pos' q' H -> TabOk P pos' q' H') -> Q (.ref f) H'
theorem B6h {a b c : Value} {n m : Int} {t u : Tok} : ∀ l : List Value, TriplesOk l -> TriplesOk (l ++ [.int n t, .int m u, c]) := by
 intro l h
 fun_induction TriplesOk l with
 | case1 => exact True.intro
 | case2 _ _ _ _ _ rest ih => exact ih h
 | case3 => exact h.elim
theorem J1v {pos pos' : Pos} {c : Value} (hp : pos'.line ≠ pos.line \/ pos'.col ≠ pos.col) : ∀ l : List Value, TriplesOk l -> codeAmong pos' (l ++ [rawInt pos.line, rawInt pos.col, c]) = codeAmong pos' l := by
 intro l h
 fun_induction TriplesOk l with
 | case1 =>
   have : ¬ (((pos.line : Int) == (pos'.line : Int) && (pos.col : Int) == (pos'.col : Int)) = true) := by
     intro z
     simp only [Bool.and_eq_true, beq_iff_eq] at z
     omega
   show (if ((pos.line : Int) == (pos'.line : Int) && (pos.col : Int) == (pos'.col : Int)) = true then some c else codeAmong pos' []) = none
   rw [if_neg this]
   rfl
 | case2 a t b u x rest ih =>
   show (if _ then _ else codeAmong pos' (rest ++ _)) = (if _ then _ else codeAmong pos' rest)
   rw [ih h]
 | case3 => exact h.elim
theorem D2s {X : Cx} {c P : Addr} {params : Arguments} {body : Expr} {scope : Scope} {pos : Pos} {clos : List (Str × Addr)} (L : LamB X.mg X.base c P) (hc : X.env.code = .ref c) (hcl : closureFor scope X.env = pure clos) (hex : X.ex = [] := by rfl) (hdef : defaultsOf params X.env = ([], []) := by rfl) :
   PE X (.Lambda params body scope pos) (tLam P pos (X.env.qual ++ "<lambda>") params body scope clos) := by
 intro pins s σ H Q I ⟨⟨ps, hP, ht, hcase⟩, k⟩
 obtain ⟨bm, ob, b1, b2, b3, b4, b5, b6, b7⟩ := L.bm
 have hg : s.heap.Ns mainGlobals X.mg := I.ok.mod.glob.keeps I.bk
 have hPo : s.heap.get? P = some (tabObj ps) := I.hok P _ hP
 have nP : ∀ b o, X.base.get? b = some o -> b ≠ P := fun b o e z => by
   have := (I.bs b o e).2
   rw [z, hP] at this
   cases this
 have hgP : mainGlobals ≠ P := by
   obtain ⟨o, _, _, e, _⟩ := I.ok.mod.glob
   exact nP _ _ e
 refine kla_eval hdef ?_
 rcases hcase with hnf | ⟨c', oc, hf, hc', ho⟩
 . refine kla_makeFunction hcl I.ok.glob hg hc (L.code.keeps I.bk) hPo ht hnf hgP ⟨bm, ob, b1, b2, b3, nP _ _ b4, I.bk _ _ b4, b5, b6, b7⟩ fun c' ctv h' tk hx hge hlt hrec htb => ?_
   obtain ⟨c2, oc, vs, t, e2, hoc, hd, hv⟩ := hrec
   cases e2
   generalize hfo : kla_obj "<lambda>" (X.env.qual ++ "<lambda>") params body scope clos ((X.mg "__name__").getD .none) c' ctv = fo
   have kx : ∀ b o, b ≠ P -> s.heap.get? b = some o -> (h'.push fo).get? b = some o := fun b o hb e => Heap.get?_push_of_some _ (hx b o hb e)
   have fP : ∀ b, H b = none -> b ≠ P := fun b n z => by rw [z, hP] at n; cases n
   have I1 : Inv X pins σ (upd H P (.tbl (ps ++ #[rawInt pos.line, rawInt pos.col, .ref c']))) { s with heap := h'.push fo, toks := tk } := by
     refine I.un ⟨fun b o e n _ _ => kx b o (fP b n) e, fun b o e n _ _ => ⟨o.slots, kx b o (fP b n) e⟩, fun b o e n _ => by rw [C4 (fP b n)]; exact n, fun b o e _ => ?_, fun b xs e => ?_, fun b o u e => ?_, fun b qs e => ?_⟩ fun b u e => ?_
     . by_cases hb : b = P
       . exact ⟨_, by rw [hb]; exact Heap.get?_push_of_some _ htb⟩
       . exact ⟨o, kx b o hb e⟩
     . rw [C4 (by rintro rfl; rw [hP] at e; cases e)]; exact e
     . rw [C4 (by rintro rfl; rw [hP] at e; cases e)]; exact e
     . by_cases hb : b = P
       . subst hb
         rw [hP] at e
         cases e
         exact ⟨_, A8⟩
       . exact ⟨#[], by rw [C4 hb, e]; simp⟩
     . by_cases hb : b = P
       . subst hb
         rw [A8] at e
         cases e
         exact Heap.get?_push_of_some _ htb
       . rw [C4 hb] at e
         refine (I.hok b u e).stay (fun d v hd q => kx d v ?_ q) (fun d q => ?_) fun d xs q => ?_
         . rcases hd with rfl | hd
           . exact hb
           . rintro rfl
             rw [hP] at hd
             cases hd
         . rw [C4 (by rintro rfl; rw [hP] at q; cases q)]; exact q
         . rw [C4 (by rintro rfl; rw [hP] at q; cases q)]; exact q
   have nc : s.heap.get? c' = none := Heap.get?_none_of_le hge
   have nf : s.heap.get? h'.objs.size = none := Heap.get?_none_of_le (Nat.le_trans hge (Nat.le_of_lt hlt))
   have uc : H c' = none := I.hok.new nc
   have uf : H h'.objs.size = none := I.hok.new nf
   have cP : c' ≠ P := fP c' uc
   have fP' : h'.objs.size ≠ P := fP _ uf
   have cf : c' ≠ h'.objs.size := Nat.ne_of_lt hlt
   have I2 := I1.track (a := c') (o := oc) (I.nw hex nc (by rw [C4 cP]; exact uc)) (Heap.get?_push_of_some _ hoc)
   have I3 := I2.track (a := h'.objs.size) (o := fo) (I.nw hex nf (by rw [C4 cf.symm, C4 fP']; exact uf)) (Heap.get?_push_size _ (by rw [<- hfo]; rfl))
   refine ⟨.ref h'.objs.size, _, I3, rfl, k _ _ (fun b o hb e => ?_) uf ⟨_, c', ctv, oc, by rw [A8, hfo], by rw [C4 cf, A8], vs, t, hd, hv⟩ ⟨ps ++ #[rawInt pos.line, rawInt pos.col, .ref c'], by rw [C4 fP'.symm, C4 cP.symm, A8], ?_, .inr ⟨c', oc, ?_, by rw [C4 cf, A8], vs, t, hd, hv⟩⟩ fun pos' q' hp ⟨ps2, z1, z2, z3⟩ => ⟨ps ++ #[rawInt pos.line, rawInt pos.col, .ref c'], by rw [C4 fP'.symm, C4 cP.symm, A8], ?_, ?_⟩⟩
   . rw [C4 (by rintro rfl; rw [uf] at e; cases e), C4 (by rintro rfl; rw [uc] at e; cases e), C4 hb]; exact e
   . rw [Array.toList_append]
     exact B6h (a := .none) (b := .none) _ ht
   . rw [Array.toList_append]
     exact codeAmong_snoc _ ht hnf
   . rw [Array.toList_append]
     exact B6h (a := .none) (b := .none) _ ht
   . rw [hP] at z1
     cases z1
     rw [Array.toList_append]
     have e : codeAmong pos' (ps.toList ++ [rawInt pos.line, rawInt pos.col, Value.ref c']) = codeAmong pos' ps.toList := J1v hp _ ht
     rcases z3 with z3 | ⟨c2, oc2, z4, z5, z6⟩
     . exact .inl (e.trans z3)
     . exact .inr ⟨c2, oc2, e.trans z4, by rw [C4 (by rintro rfl; rw [uf] at z5; cases z5), C4 (by rintro rfl; rw [uc] at z5; cases z5), C4 (by rintro rfl; rw [hP] at z5; cases z5)]; exact z5, z6⟩
 . refine kla_makeFunctionHit hcl I.ok.glob hg hc (L.code.keeps I.bk) hPo ht hf ⟨bm, ob, b1, b2, b3, nP _ _ b4, I.bk _ _ b4, b5, b6, b7⟩ fun ctv h' tk hk hsz => ?_
   generalize hfo : kla_obj "<lambda>" (X.env.qual ++ "<lambda>") params body scope clos ((X.mg "__name__").getD .none) c' ctv = fo
   have nf : s.heap.get? h'.objs.size = none := Heap.get?_none_of_le hsz
   have uf : H h'.objs.size = none := I.hok.new nf
   have I1 : Inv X pins σ H { s with heap := h'.push fo, toks := tk } := I.kept fun b o e => Heap.get?_push_of_some _ (hk b o e)
   have I3 := I1.track (a := h'.objs.size) (o := fo) (I.nw hex nf uf) (Heap.get?_push_size _ (by rw [<- hfo]; rfl))
   have ne : ∀ b o, H b = some o -> b ≠ h'.objs.size := fun b o e z => by rw [z, uf] at e; cases e
   show ∃ v H', Inv X pins σ H' { s with heap := h'.push (kla_obj "<lambda>" (X.env.qual ++ "<lambda>") params body scope clos ((X.mg "__name__").getD .none) c' ctv), toks := tk } /\ RelV v (.ref h'.objs.size) /\ Q v H'
   rw [hfo]
   refine ⟨.ref h'.objs.size, upd H h'.objs.size (.frz fo (.own h'.objs.size)), I3, rfl, k _ _ (fun b o hb e => by rw [C4 (ne b o e)]; exact e) uf ⟨_, c', ctv, oc, by rw [A8, hfo], by rw [C4 (ne _ _ hc')]; exact hc', ho⟩ ⟨ps, by rw [C4 (ne _ _ hP)]; exact hP, ht, .inr ⟨c', oc, hf, by rw [C4 (ne _ _ hc')]; exact hc', ho⟩⟩ fun pos' q' hp ⟨ps2, z1, z2, z3⟩ => ⟨ps2, by rw [C4 (ne _ _ z1)]; exact z1, z2, z3.imp id fun ⟨c2, oc2, z4, z5, z6⟩ => ⟨c2, oc2, z4, by rw [C4 (ne _ _ z5)]; exact z5, z6⟩⟩⟩
def U7 (cs : List Addr) (H : Hp) : Hp := fun b => if b ∈ cs then none else H b
def Y6 (cs : List Addr) (H H' : Hp) : Hp := fun b => if b ∈ cs then H b else H' b
section
variable {cs : List Addr} {H H' H2 : Hp} {b : Addr} {P : Program} {w : World} {h h' : Heap} {fs : List Addr}
theorem B6k (hb : b ∈ cs) : U7 cs H b = none := by unfold U7; rw [if_pos hb]
theorem V7 (hb : b ∉ cs) : U7 cs H b = H b := by unfold U7; rw [if_neg hb]
theorem B2t (n : H b = none) : U7 cs H b = none := by
 unfold U7
 split
 . rfl
 . exact n
theorem C2x (hb : b ∈ cs) : Y6 cs H H' b = H b := by unfold Y6; rw [if_pos hb]
theorem U5 (hb : b ∉ cs) : Y6 cs H H' b = H' b := by unfold Y6; rw [if_neg hb]
def AllFrz (cs : List Addr) (H : Hp) : Prop := ∀ c ∈ cs, ∃ o, H c = some (.frz o (.own c))
theorem AllFrz.out {u : HO} (A : AllFrz cs H) (e : H b = some u) (hu : ∀ o, u ≠ .frz o (.own b)) : b ∉ cs := fun hb => by
 obtain ⟨o, z⟩ := A b hb
 rw [e] at z
 exact hu o (Option.some.inj z)
theorem AllFrz.hide {u : HO} (A : AllFrz cs H) (e : H b = some u) (hu : ∀ o, u ≠ .frz o (.own b)) : U7 cs H b = some u := by rw [V7 (A.out e hu)]; exact e
theorem HOk.hide (x : HOk P w H h) (A : AllFrz cs H) : HOk P w (U7 cs H) h := fun a o e => by
 by_cases ha : a ∈ cs
 . rw [B6k ha] at e; cases e
 . rw [V7 ha] at e
   exact (x a o e).stay (fun _ _ _ q => q) (fun d q => A.hide q fun o z => nomatch z) fun d xs q => A.hide q fun o z => nomatch z
theorem U6c (s : Same (U7 cs H) H') : Same H (Y6 cs H H') := fun a o e => by
 by_cases ha : a ∈ cs
 . rw [C2x ha]; exact e
 . rw [U5 ha]; exact s a o (by rw [V7 ha]; exact e)
theorem Y6w (u : Un fs [] (U7 cs H) H' h h') (A : AllFrz cs H) : Un fs [] H (Y6 cs H H') h h' where
 keep := fun b o e n hb hx => u.keep b o e (by unfold U7; split <;> first | rfl | exact n) hb hx
 slot := fun b o e n hb hx => u.slot b o e (by unfold U7; split <;> first | rfl | exact n) hb hx
 free := fun b o e n hx => by
   have hb : b ∉ cs := fun z => by
     obtain ⟨o, q⟩ := A b z
     rw [n] at q; cases q
   rw [U5 hb]
   exact u.free b o e (by rw [V7 hb]; exact n) hx
 there := u.there
 tups := fun b xs e => by
   have hb := A.out e fun o z => nomatch z
   rw [U5 hb]
   exact u.tups b xs (by rw [V7 hb]; exact e)
 frzs := fun b o v e => by
   by_cases hb : b ∈ cs
   . rw [C2x hb]; exact e
   . rw [U5 hb]; exact u.frzs b o v (by rw [V7 hb]; exact e)
 tbls := fun b ps e => by
   have hb := A.out e fun o z => nomatch z
   rw [U5 hb]
   exact u.tbls b ps (by rw [V7 hb]; exact e)
theorem U2u (u : Un fs [] (U7 cs H) H' h h') (A : AllFrz cs H) (x : HOk P w H h) : ∀ c ∈ cs, H' c = none := fun c hc => by
 obtain ⟨o, e⟩ := A c hc
 obtain ⟨e1, _⟩ := x c _ e
 exact u.free c o e1 (B6k hc) (by simp)
theorem V3s (u : Un fs [] (U7 cs H) H' h h') (A : AllFrz cs H) (x : HOk P w H h) (x' : HOk P w H' h') (hf : ∀ b ∈ fs, H b = none) : HOk P w (Y6 cs H H') h' := fun a o e => by
 have nn := U2u u A x
 by_cases ha : a ∈ cs
 . rw [C2x ha] at e
   obtain ⟨o', e'⟩ := A a ha
   rw [e] at e'
   cases e'
   obtain ⟨e1, _⟩ := x a _ e
   have e2 := u.keep a o' e1 (B6k ha) (fun z => by rw [hf a z] at e; cases e) (by simp)
   exact ⟨e2, o', e2⟩
 . rw [U5 ha] at e
   refine (x' a o e).stay (fun _ _ _ q => q) (fun d q => ?_) fun d xs q => ?_
   . rw [U5 fun z => by rw [nn d z] at q; cases q]; exact q
   . rw [U5 fun z => by rw [nn d z] at q; cases q]; exact q
theorem Y8s (u : Un fs [] H2 H' h h') (A : AllFrz cs H2) (ho : ∀ b, b ∉ cs -> H2 b = H b) (hn : ∀ b ∈ cs, H b = none) (x : HOk P w H2 h) (x' : HOk P w H' h') : Un fs [] H (U7 cs H') h h' := by
 have kp : ∀ b o, b ∈ cs -> h.get? b = some o -> h'.get? b = some o := fun b o hb e => by
   obtain ⟨o1, z⟩ := A b hb
   obtain ⟨e1, _⟩ := x b _ z
   rw [e] at e1
   cases e1
   exact (x' b _ (u.frzs b _ _ z)).1
 have out : ∀ b v, H b = some v -> b ∉ cs := fun b v e z => by rw [hn b z] at e; cases e
 refine ⟨fun b o e n hb hx => ?_, fun b o e n hb hx => ?_, fun b o e n hx => ?_, u.there, fun b xs e => ?_, fun b o v e => ?_, fun b ps e => ?_⟩
 . by_cases hc : b ∈ cs
   . exact kp b o hc e
   . exact u.keep b o e (by rw [ho b hc]; exact n) hb hx
 . by_cases hc : b ∈ cs
   . exact ⟨o.slots, kp b o hc e⟩
   . exact u.slot b o e (by rw [ho b hc]; exact n) hb hx
 . by_cases hc : b ∈ cs
   . exact B6k hc
   . rw [V7 hc]; exact u.free b o e (by rw [ho b hc]; exact n) hx
 . rw [V7 (out b _ e)]; exact u.tups b xs (by rw [ho b (out b _ e)]; exact e)
 . rw [V7 (out b _ e)]; exact u.frzs b o v (by rw [ho b (out b _ e)]; exact e)
 . rw [V7 (out b _ e)]; exact u.tbls b ps (by rw [ho b (out b _ e)]; exact e)
end
def Knows (H : Hp) (c : Addr) (v : V) : Prop := ∃ o u, H c = some (.frz o (.own c)) /\ o.data = .cell (some u) /\ RelV v u
def C4m (CX : CXT) (P : Program) (w : World) (K : Frag) (mg : Str -> Option Value) (base : Heap) (N : List Str) (qual : Str) (scope : Scope) (f : Addr) (cd : Value) (cl : List (Str × Addr)) (A : Around) (outer : List Env) (s : Shared) (H : Hp) (E : XK) : Cx where
 prog := P
 w := w
 K := K
 mg := mg
 base := base
 A := A.deeper (envX qual scope s.heap.objs.size f cd cl)
 N := N
 s₀ := s
 H₀ := H
 env := envX qual scope s.heap.objs.size f cd cl
 outer := outer
 stack := envX qual scope s.heap.objs.size f cd cl :: outer
 ex := []
 calm := true
 fn := fun _ => false
 pn := []
 xe := fun e s' => wpAny (model P w) (A.deeper (envX qual scope s.heap.objs.size f cd cl)) (leaving (envX qual scope s.heap.objs.size f cd cl) e) (fun _ s'' => CX outer H s E e s'') (fun e' s'' => CX outer H s E e' s'') s'
structure LamS (F : List Str) (sc : Scope) : Prop where
 kind : sc.kind = .function
 co : sc.isCoroutine = false
 gen : sc.isGenerator = false
 nocell : ∀ y ∈ sc.names, y.2 ≠ .cell
 fr : ∀ y ∈ sc.names, y.2 = .free -> y.1 ∈ F
 at_ : ∀ x ∈ F, sc.names.lookup x = some .free
 nd : F.Nodup
structure DeedOk (P : Program) (w : World) (K : Frag) (mg : Str -> Option Value) (base : Heap) (k : Nat) (f : Addr) (J : Hp -> Prop) (sp : Hp -> VK -> XK -> Prop) : Prop where
 fn : ∀ H h, J H -> HOk P w H h -> FnAt f h
 run : ∀ (A : Around) (outer : List Env) (s : Shared) (H : Hp) (Q : VK) (E : XK), Room k A -> Env0 P w K mg base A outer s H -> J H -> sp H Q E -> codeAny (model P w) A (.call (.ref f) ⟨[], []⟩) (CR (CX1 P w) outer P w H s Q E) s
def Z3w (f : Addr) (qual : Str) (params : Arguments) (body : Expr) (scope : Scope) (cl : List (Str × Addr)) (vs : List V) (H : Hp) : Prop :=
 LamAt H f qual params body scope cl /\ ∀ (i : Nat) (x : Str) (c : Addr), cl[i]? = some (x, c) -> ∃ v, vs[i]? = some v /\ Knows H c v
theorem B7f : ∀ {cl : List (Str × Addr)} {i : Nat} {x : Str} {c : Addr}, (cl.map (·.1)).Nodup -> cl[i]? = some (x, c) -> cl.lookup x = some c
 | [], i, x, c, _, h => by cases i <;> cases h
 | (y, d) :: r, 0, x, c, _, h => by cases h; simp [List.lookup]
 | (y, d) :: r, i + 1, x, c, nd, h => by
   have nd' : y ∉ r.map (·.1) /\ (r.map (·.1)).Nodup := List.nodup_cons.mp nd
   have hm : x ∈ r.map (·.1) := List.mem_map.mpr ⟨(x, c), List.mem_of_getElem? (by simpa using h), rfl⟩
   have ne : (x == y) = false := beq_eq_false_iff_ne.mpr fun z => nd'.1 (z ▸ hm)
   rw [List.lookup_cons, ne]
   exact B7f nd'.2 (by simpa using h)
theorem V3h : ∀ {cl : List (Str × Addr)} {x y : Str} {c : Addr}, (cl.map (·.2)).Nodup -> (x, c) ∈ cl -> (y, c) ∈ cl -> x = y
 | p :: r, x, y, c, nd, h1, h2 => by
   have nd' : p.2 ∉ r.map (·.2) /\ (r.map (·.2)).Nodup := List.nodup_cons.mp nd
   rcases List.mem_cons.mp h1 with e1 | h1 <;> rcases List.mem_cons.mp h2 with e2 | h2
   . rw [<- e1] at e2; cases e2; rfl
   . exact absurd (List.mem_map.mpr ⟨(y, c), h2, by rw [<- e1]⟩) nd'.1
   . exact absurd (List.mem_map.mpr ⟨(x, c), h1, by rw [<- e2]⟩) nd'.1
   . exact V3h nd'.2 h1 h2
theorem G5t {P : Program} {w : World} {K : Frag} {mg : Str -> Option Value} {base : Heap} {N : List Str} {qual : Str} {scope : Scope} {f : Addr} {cd : Value} {cl : List (Str × Addr)} {A : Around} {outer : List Env} {s : Shared} {H : Hp} {E : XK} :
   D6 (C4m (CX1 P w) P w K mg base N qual scope f cd cl A outer s H E) (fun C dd _ H' => E C dd H') := by
 intro pins σ H' s' a t C dd I F h
 refine D3d (X := C4m (CX1 P w) P w K mg base N qual scope f cd cl A outer s H E) ⟨rfl, rfl, rfl⟩ I F fun s2 I2 F2 => ?_
 obtain ⟨na, T, oT, ts, e, ne, nT, eT, dT, h3⟩ := F2
 exact ⟨a, t, C, dd, H', rfl, I2.os, I2.bare, I2.base, I2.hok, h, ⟨na.old, na.un⟩, T, oT, ts, e, ne, ⟨nT.old, nT.un⟩, eT, dT, h3⟩
theorem Y7k {P : Program} {w : World} {K : Frag} {mg : Str -> Option Value} {base : Heap} {k : Nat} {f : Addr} {qual : Str} {params : Arguments} {body : Expr} {scope : Scope} {cl : List (Str × Addr)} {vs : List V} {sp : Hp -> VK -> XK -> Prop}
   (S : LamS (cl.map (·.1)) scope) (hF : cl.length = vs.length) (hnd : (cl.map (·.2)).Nodup)
   (hb0 : ∀ (pm : Value) (c' : Addr) (ctv : Value), bindArgs (kla_fn "<lambda>" qual params body scope cl pm (.ref c') ctv) ⟨[], []⟩ = pure [])
   (hbody : ∀ (X : Cx) (cdv : Value) (A : Around) (outer : List Env) (s : Shared) (H : Hp) (Q : VK) (E : XK), X = C4m (CX1 P w) P w K mg base (cl.map (·.1)) qual scope f cdv cl A outer s (U7 (cl.map (·.2)) H) (fun C d H' => (∀ c ∈ cl.map (·.2), H' c = none) -> E C d (Y6 (cl.map (·.2)) H H')) -> Room k X.A ->
     D6 X (fun C dd _ H' => (∀ c ∈ cl.map (·.2), H' c = none) -> E C dd (Y6 (cl.map (·.2)) H H')) -> sp H Q E -> AllFrz (cl.map (·.2)) H ->
     ∃ t, PE (C4m (CX1 P w) P w K mg base (cl.map (·.1)) qual scope f cdv cl A outer s (U7 (cl.map (·.2)) H) (fun C d H' => (∀ c ∈ cl.map (·.2), H' c = none) -> E C d (Y6 (cl.map (·.2)) H H'))) body t /\ t (vs.map some) (U7 (cl.map (·.2)) H) (fun v H' => (∀ c ∈ cl.map (·.2), H' c = none) -> Q v (Y6 (cl.map (·.2)) H H'))) :
   DeedOk P w K mg base (k + 1) f (Z3w f qual params body scope cl vs) sp := by
 refine ⟨fun H h ⟨⟨pm, c', ctv, oc, e, _⟩, _⟩ hok => ?_, fun A outer s H Q E hr e0 ⟨⟨pm, c', ctv, oc, e, ec, vs', t', hd, hv⟩, hk⟩ hsp => ?_⟩
 . obtain ⟨e1, _⟩ := hok f _ e
   exact ⟨_, _, _, _, e1⟩
 obtain ⟨e1, _⟩ := e0.hok f _ e
 obtain ⟨e2, _⟩ := e0.hok c' _ ec
 have lim : s.heap.NoLimit := e0.mod.nolimit.keeps fun b o e => (e0.bs b o e).1
 have af : AllFrz (cl.map (·.2)) H := by
   intro c hc
   obtain ⟨⟨x, c2⟩, hm, rfl⟩ := List.mem_map.mp hc
   obtain ⟨i, hi⟩ := List.mem_iff_getElem?.mp hm
   obtain ⟨v, _, o, u, h3, _⟩ := hk i x c2 hi
   exact ⟨o, h3⟩
 refine kla_callFunE hr.depth e1 rfl S.co S.gen rfl ⟨c', oc, vs', t', rfl, e2, hd, hv⟩ ?_
 rw [hb0]
 refine wpAny_pure (wpAny_newFunctionEnv S.nocell (fun x hx => absurd hx (by simp)) (fun h1 hns hsb => ?_) S.kind)
 have hk1 : ∀ b o, s.heap.get? b = some o -> h1.get? b = some o := fun b o e => (hsb.2 b (Nat.ne_of_lt (Heap.lt_size e))).trans (Heap.get?_push_of_some _ e)
 refine ⟨lim.keeps hk1, ?_⟩
 obtain ⟨t, ht, hq⟩ := hbody _ (.ref c') A outer s H Q E rfl (hr.deeper _) G5t hsp af
 have hokH : HOk P w (U7 (cl.map (·.2)) H) s.heap := e0.hok.hide af
 have look : ∀ x c, cl.lookup x = some c -> (x, c) ∈ cl := fun x c z => PySem.mem_of_lookup z
 have cell : ∀ x c, cl.lookup x = some c -> ∃ v, s.heap.IsCell c v := fun x c z => by
   obtain ⟨i, hi⟩ := List.mem_iff_getElem?.mp (look x c z)
   obtain ⟨v, _, o, u, h3, h4, _⟩ := hk i x c hi
   exact ⟨_, o, (e0.hok c _ h3).1, h4⟩
 have incs : ∀ x c, cl.lookup x = some c -> c ∈ cl.map (·.2) := fun x c z => List.mem_map.mpr ⟨(x, c), look x c z, rfl⟩
 generalize hX : C4m (CX1 P w) P w K mg base (cl.map (·.1)) qual scope f (.ref c') cl A outer s (U7 (cl.map (·.2)) H) (fun C d H' => (∀ c ∈ cl.map (·.2), H' c = none) -> E C d (Y6 (cl.map (·.2)) H H')) = X at ht
 have I : Inv X [] (vs.map some) (U7 (cl.map (·.2)) H) { s with heap := h1, toks := s.toks + 0 } := by
   subst hX
   refine ⟨⟨e0.mod, S.kind, rfl, rfl, Nat.le_refl _, fun x y c z1 z2 => V3h hnd (look x c z1) (look y c z2), fun x z => ?_, (fun _ _ z => by cases z), fun _ => hr.hd, Around.frames_deeper e0.frames, .inr ⟨rfl, rfl⟩, (fun b z => absurd (show b ∈ ([] : List Addr) from z) (by simp)), fun b o z => ⟨(e0.bs b o z).1, ?_⟩, e0.bsz, (fun b o _ z => absurd (show b ∈ ([] : List Addr) from z) (by simp)), (fun b z => absurd (show b ∈ ([] : List Addr) from z) (by simp)), e0.funs, fun b hb => ?_⟩,
     rfl, e0.bare, Un.kept hk1, ⟨_, hns, fun i x v z1 z2 z3 => ?_⟩, fun x c z => ?_, hokH.fresh (Nat.le_refl _), fun x c z => B6k (incs x c z), (fun p hp => absurd (show p ∈ ([] : List (Addr × Obj)) from hp) (by simp)), hokH.kept hk1, ?_⟩
   . have z : scope.names.lookup x = some .cell \/ scope.names.lookup x = some .free := z
     rcases z with z | z
     . exact absurd rfl (S.nocell _ (PySem.mem_of_lookup z))
     . have hx := S.fr _ (PySem.mem_of_lookup z) rfl
       obtain ⟨⟨y, c⟩, hm, rfl⟩ := List.mem_map.mp hx
       obtain ⟨i, hi⟩ := List.mem_iff_getElem?.mp hm
       exact ⟨c, B7f S.nd hi⟩
   . exact B2t (e0.bs b o z).2
   . exact B2t (e0.frf b hb)
   . have z1 : (cl.map (·.1))[i]? = some x := z1
     rw [List.getElem?_map] at z1 z2
     cases q : cl[i]? with
     | none => rw [q] at z1; cases z1
     | some p =>
       rw [q] at z1
       cases z1
       obtain ⟨v2, h2, o, u, h3, h4, h5⟩ := hk i p.1 p.2 q
       rw [h2] at z2
       cases z2
       refine ⟨u, h5, .inr ⟨.inr (S.at_ _ (List.mem_map.mpr ⟨p, List.mem_of_getElem? q, rfl⟩)), p.2, B7f S.nd q, o, hk1 _ _ (e0.hok _ _ h3).1, h4⟩⟩
   . obtain ⟨v, o, h3, h4⟩ := cell x c z
     exact ⟨v, o, hk1 _ _ h3, h4⟩
   . show (vs.map some).length = (cl.map (·.1)).length
     rw [List.length_map, List.length_map, hF]
 have res : ∀ {H' : Hp} {s' : Shared}, Un (frs outer) [] (U7 (cl.map (·.2)) H) H' s.heap s'.heap -> HOk P w H' s'.heap -> Un (frs outer) [] H (Y6 (cl.map (·.2)) H H') s.heap s'.heap /\ HOk P w (Y6 (cl.map (·.2)) H H') s'.heap /\ ∀ c ∈ cl.map (·.2), H' c = none :=
   fun u x => ⟨Y6w u af, V3s u af e0.hok x e0.frf, U2u u af e0.hok⟩
 refine kla_codeExpr ?_
 have hA : X.A = A.deeper (envX qual scope s.heap.objs.size f (.ref c') cl) := by rw [<- hX]; rfl
 have := ht [] _ _ _ _ I hq
 subst hX
 refine wpAny_mono this (fun u s' ⟨v, H', I', r, q⟩ => ?_) fun e s' z => wpAny_mono z (fun _ s2 z2 => ?_) fun e' s2 z2 => ?_
 . obtain ⟨r1, r2, r3⟩ := res I'.base I'.hok
   exact ⟨v, _, I'.os, I'.bare, r1, r2, r, q r3⟩
 . obtain ⟨a, t, C, dd, H', rfl, os, bare, un, hok, hE, ⟨a1, a2⟩, T, oT, ts, z, ne, ⟨t1, t2⟩, rest⟩ := z2
   obtain ⟨r1, r2, r3⟩ := res un hok
   have nc : ∀ b, s.heap.get? b = none -> b ∉ cl.map (·.2) := fun b z hb => by
     obtain ⟨o, q⟩ := af b hb
     rw [(e0.hok b _ q).1] at z
     cases z
   exact ⟨a, t, C, dd, _, rfl, os, bare, r1, r2, hE r3, ⟨a1, by rw [U5 (nc a a1)]; exact a2⟩, T, oT, ts, z, ne, ⟨t1, by rw [U5 (nc T t1)]; exact t2⟩, rest⟩
 . obtain ⟨a, t, C, dd, H', rfl, os, bare, un, hok, hE, ⟨a1, a2⟩, T, oT, ts, z, ne, ⟨t1, t2⟩, rest⟩ := z2
   obtain ⟨r1, r2, r3⟩ := res un hok
   have nc : ∀ b, s.heap.get? b = none -> b ∉ cl.map (·.2) := fun b z hb => by
     obtain ⟨o, q⟩ := af b hb
     rw [(e0.hok b _ q).1] at z
     cases z
   exact ⟨a, t, C, dd, _, rfl, os, bare, r1, r2, hE r3, ⟨a1, by rw [U5 (nc a a1)]; exact a2⟩, T, oT, ts, z, ne, ⟨t1, by rw [U5 (nc T t1)]; exact t2⟩, rest⟩
section
variable {X : Cx} {j k : Nat} {f : Addr} {fd : FuncData} {ps : List Str} {sp : Sp} {ds : List Value} {EH : EK} {x : Str} {p pos : Pos} {e : Expr} {es : List Expr} {t : TA} {st : Stmt}
def Z1r (P : Program) (w : World) (K : Frag) (mg : Str -> Option Value) (base : Heap) (k i : Nat) (EH : EK) : TE := fun σ H Q => ∃ f J spd, σ[i]? = some (some (.ref f)) /\ DeedOk P w K mg base k f J spd /\ J H /\ spd H Q (fun C d H' => EH C d σ H')
theorem Y7c {i : Nat} (hN : X.N[i]? = some x) (hv : Vis X.env.scope x) (hr : Room k X.A) (hx : D6 X EH) (hex : X.ex = [] := by rfl) (hd : (x == ("__debug__" : Str)) = false := by decide) (hcd : (x == ("__classdict__" : Str)) = false := by decide) :
   PE X (.Call (.Name x p) [] [] pos) (Z1r X.prog X.w X.K X.mg X.base k i EH) := by
 intro pins s σ H Q I ⟨f, J, spd, e, D, hJ, h⟩
 refine wpAny_Call_Name_kw (thn (V0z (pos := p) hN hv hd hcd pins s σ H (fun v H' => v = .ref f /\ H' = H) I ⟨.ref f, e, rfl, rfl⟩) fun u s1 ⟨v, H1, I1, r, ev, eH⟩ => ?_)
 subst ev eH
 obtain rfl : u = Value.ref f := r
 refine callWith_F0 (D.fn _ _ hJ I1.hok) (wpAny_call (codeAny_mono (D.run X.A X.stack s1 H1 Q _ hr I1.env0 hJ h) fun r s' hq => ?_))
 cases r with
 | error e => exact Y6y hx hex I1 hq
 | ok fl =>
   cases fl with
   | ret u => exact I1.after hq
   | next => exact False.elim hq
   | brk => exact False.elim hq
   | cont => exact False.elim hq
def Z2c (sp : Sp) (cl : List (Str × Addr)) (js : List Nat) (EH : EK) (t : TA) : TE := fun σ H Q => t σ H fun vs H1 => (∀ c ∈ cl.map (·.2), H1 c = none) -> ∀ H2, (∀ b, b ∉ cl.map (·.2) -> H2 b = H1 b) -> AllFrz (cl.map (·.2)) H2 ->
 (∀ (i : Nat) (x : Str) (c : Addr) (j : Nat) (v : V), cl[i]? = some (x, c) -> js[i]? = some j -> σ[j]? = some (some v) -> Knows H2 c v) ->
 sp vs H2 (fun v H' => (∀ c ∈ cl.map (·.2), H' c = H2 c) -> Q v (U7 (cl.map (·.2)) H')) (fun C d H' => (∀ c ∈ cl.map (·.2), H' c = H2 c) -> EH C d σ (U7 (cl.map (·.2)) H'))
structure CellsZ (cl : List (Str × Addr)) (js : List Nat) (XN : List Str) (env : Env) : Prop where
 at_ : ∀ (i : Nat) (x : Str) (c : Addr), cl[i]? = some (x, c) -> env.cells.lookup x = some c /\ env.kindOf x = some .cell /\ ∀ j, js[i]? = some j -> XN[j]? = some x
theorem V2h {cl : List (Str × Addr)} {js : List Nat} (D : Def X.K X.mg x ps st f fd) (F : FnOkG X.prog X.w X.K X.mg X.base (CX1 X.prog X.w) j f fd ps sp) (hgd : X.A.guards = some []) (hr : Room k X.A) (hx : D6 X EH) (Z : CellsZ cl js X.N X.env) (ha : PA X (e :: es) t) (hj : j <= k := by decide) (hfn : ∀ y, X.fn y = true := by intro _; rfl) (hg : Gl X x := by rfl) (hex : X.ex = [] := by rfl)
   (hdb : (x == ("__debug__" : Str)) = false := by decide) (he : starEach (e :: es) X.env = (false, eval e X.env) :: starEach es X.env := by rfl) (hpl : (backTo pos (starEach es X.env)).any (·.1) = false := by rfl) : PE X (.Call (.Name x p) (e :: es) [] pos) (Z2c sp cl js EH t) := by
 intro pins s0 σ H0 Q I0 h0
 refine wpAny_Call_Name_kw (A0y I0 hg D.g ?_ hdb)
 refine PySem.W.callWith_K (h₀ := X.base) I0.ok.mod.kin D.F.kp (thn (ha pos pins s0 σ H0 _ I0 h0) fun us s ⟨vs, H, I, r, q⟩ => ⟨I.kIn, ?_⟩) he hpl
 have inn : ∀ c ∈ cl.map (·.2), ∃ x, X.env.cells.lookup x = some c := fun c hc => by
   obtain ⟨⟨y, c2⟩, hm, rfl⟩ := List.mem_map.mp hc
   obtain ⟨i, hi⟩ := List.mem_iff_getElem?.mp hm
   exact ⟨y, (Z.at_ i y c2 hi).1⟩
 have hn : ∀ c ∈ cl.map (·.2), H c = none := fun c hc => by
   obtain ⟨y, hy⟩ := inn c hc
   exact I.freeC y c hy
 have hc : ∀ c ∈ cl.map (·.2), ∃ o v, s.heap.get? c = some o /\ o.data = .cell v := fun c hc => by
   obtain ⟨y, hy⟩ := inn c hc
   obtain ⟨v, o, h1, h2⟩ := I.cell y c hy
   exact ⟨o, v, h1, h2⟩
 let H2 : Hp := fun b => if b ∈ cl.map (·.2) then (s.heap.get? b).map fun o => .frz o (.own b) else H b
 have h2i : ∀ c o, c ∈ cl.map (·.2) -> s.heap.get? c = some o -> H2 c = some (.frz o (.own c)) := fun c o hc e => by
   show (if c ∈ cl.map (·.2) then _ else _) = _
   rw [if_pos hc, e]
   rfl
 have h2o : ∀ b, b ∉ cl.map (·.2) -> H2 b = H b := fun b hb => if_neg hb
 have A2 : AllFrz (cl.map (·.2)) H2 := fun c hcc => by
   obtain ⟨o, v, h1, _⟩ := hc c hcc
   exact ⟨o, h2i c o hcc h1⟩
 have out : ∀ b u, H b = some u -> b ∉ cl.map (·.2) := fun b u e z => by rw [hn b z] at e; cases e
 have hok2 : HOk X.prog X.w H2 s.heap := fun b u e => by
   by_cases hb : b ∈ cl.map (·.2)
   . obtain ⟨o, v, h1, _⟩ := hc b hb
     rw [h2i b o hb h1] at e
     cases e
     exact ⟨h1, o, h1⟩
   . rw [h2o b hb] at e
     exact (I.hok b u e).stay (fun _ _ _ q => q) (fun d q => by rw [h2o d (out d _ q)]; exact q) fun d xs q => by rw [h2o d (out d _ q)]; exact q
 have ncell : ∀ b o, b ∈ cl.map (·.2) -> s.heap.get? b = some o -> ∃ v, o.data = .cell v := fun b o hb e => by
   obtain ⟨o', v, h1, h2⟩ := hc b hb
   rw [e] at h1
   cases h1
   exact ⟨v, h2⟩
 have e2 : Env0 X.prog X.w X.K X.mg X.base X.A X.stack s H2 := by
   have e0 := I.env0
   refine ⟨e0.frames, e0.mod, fun b o z => ⟨(e0.bs b o z).1, ?_⟩, e0.bsz, e0.funs, fun b hb => ?_, hok2, e0.bare⟩
   . rw [h2o b fun z2 => ?_]
     . exact (e0.bs b o z).2
     . obtain ⟨y, hy⟩ := inn b z2
       have := Nat.le_trans I.ok.bsz (I.ok.cab y b (hfn y) hy)
       exact absurd (Nat.lt_of_lt_of_le (Heap.lt_size z) this) (Nat.lt_irrefl _)
   . rw [h2o b fun z2 => ?_]
     . exact e0.frf b hb
     . obtain ⟨y, hy⟩ := inn b z2
       rcases List.mem_cons.mp (I.stkSub b hb) with z3 | z3
       . exact I.cne y b hy z3
       . obtain ⟨_, o, ho, _⟩ := I.ok.funs.mem z3
         exact absurd (Nat.lt_of_lt_of_le (Heap.lt_size ho) (I.ok.cab y b (hfn y) hy)) (Nat.lt_irrefl _)
 have q2 := q hn H2 h2o A2 fun i y c j v h1 h2 h3 => by
   obtain ⟨z1, z2, z3⟩ := Z.at_ i y c h1
   obtain ⟨m, _, hl⟩ := I.loc
   obtain ⟨u, r, l⟩ := hl j y v (z3 j h2) h3 (.inr (.inl z2))
   rcases l with ⟨k, _⟩ | ⟨_, c', h4, o, h5, h6⟩
   . rw [z2] at k; cases k
   . rw [z1] at h4
     cases h4
     exact ⟨o, u, h2i c o (List.mem_map.mpr ⟨(y, c), List.mem_of_getElem? h1, rfl⟩) h5, h6, r⟩
 have hl : us.length = ps.length := by rw [<- r.length]; exact F.len _ _ _ _ q2
 refine wpAny_call (codeAny_mono (F.run X.A X.stack s H2 ⟨us, []⟩ us vs _ _ hgd (hr.mono hj) e2 (by have := D.b s us I.kIn (by simpa using hl); simpa using this) r q2) fun r s' hq => ?_)
 have fin : ∀ {H' : Hp}, Un (frs X.stack) [] H2 H' s.heap s'.heap -> HOk X.prog X.w H' s'.heap -> Un (frs X.stack) [] H (U7 (cl.map (·.2)) H') s.heap s'.heap /\ HOk X.prog X.w (U7 (cl.map (·.2)) H') s'.heap /\ ∀ c ∈ cl.map (·.2), H' c = H2 c := fun {H'} un hok => by
   have same : ∀ c ∈ cl.map (·.2), H' c = H2 c := fun c hcc => by
     obtain ⟨o, z⟩ := A2 c hcc
     rw [z]
     exact un.frzs c o _ z
   exact ⟨Y8s un A2 h2o hn hok2 hok, hok.hide fun c hcc => by rw [same c hcc]; exact A2 c hcc, same⟩
 cases r with
 | error e =>
   obtain ⟨a, t, C, dd, H', rfl, os, bare, un, hok, hE, ⟨a1, a2⟩, T, oT, ts, z, ne, ⟨t1, t2⟩, rest⟩ := hq
   obtain ⟨r1, r2, r3⟩ := fin un hok
   exact Y6y hx hex I ⟨a, t, C, dd, _, rfl, os, bare, r1, r2, hE r3, ⟨a1, B2t a2⟩, T, oT, ts, z, ne, ⟨t1, B2t t2⟩, rest⟩
 | ok fl =>
   cases fl with
   | ret u =>
     obtain ⟨v, H', os, bare, un, hok, rv, q3⟩ := hq
     obtain ⟨r1, r2, r3⟩ := fin un hok
     exact I.after ⟨v, _, os, bare, r1, r2, rv, q3 r3⟩
   | next => exact False.elim hq
   | brk => exact False.elim hq
   | cont => exact False.elim hq
end
theorem U4w {c P0 : Addr} {P : Program} {w : World} {K : PySem.W.Frag} {mg mb : Str -> Option Value} {CX : CXT} {k : Nat} {fa a : Addr} {fd : FuncData} {x : Str} {sp : Sp} {s₁ : Shared} {vs : List Value} {ns : List Int}
   (hC : CodeHd s₁.heap c P0) (hT : s₁.heap.get? P0 = some (tabObj #[])) (hKP : K.lookup P0 = none) (hbm : ∃ bm ob, mg "__builtins__" = some (.ref bm) /\ bm ≠ builtinsNs /\ s₁.heap.get? bm = some ob /\ ob.cls = .type "module" /\ ob.dict = some builtinsNs /\ ob.data = .plain)
   (KX : K.In s₁.heap) (hns : s₁.heap.Ns mainGlobals mg) (hb : s₁.heap.Ns builtinsNs mb) (hbb : ∀ x : Str, x ≠ "__name__" -> mb x = bootBuiltins x) (hlim : s₁.heap.NoLimit) (hg : s₁.gens = #[])
   (ha : s₁.heap.get? a = some { cls := .type "list", data := .seq vs.toArray }) (hi : IntsAre vs ns) (hl : ns.length <= sizeLine) (hr : Room k callerA)
   (F : ∀ base : Heap, K.In base -> base.Ns mainGlobals mg -> LamB mg base c P0 -> FnOkG P w K mg base CX k fa fd [x] sp) (hbind : ∀ (s : Shared) (u : Value), BindsTo s fd ⟨[u], []⟩ [(x, u)])
   (hsp : ∀ H : Hp, H P0 = some (.tbl #[]) -> SqL K H a (ns.map V.int) -> sp [.ref a] H (fun v _ => v = .bl true) fun _ _ _ => False)
   (hCX : ∀ H e s', CX [] H s₁ (fun _ _ _ => False) e s' -> False) :
   codeAny (model P w) callerA (.call (.ref fa) ⟨[.ref a], []⟩) (fun r s' => r = .ok (.ret (.bool true)) /\ OldK s₁.heap s'.heap /\ s'.os = s₁.os /\ AllBare s'.gens) s₁ := by
 have rv := D2j hi
 have lenV := hi.length
 have core : ∀ H : Hp, H P0 = some (.tbl #[]) -> (∀ b, H b = none \/ b = P0 \/ ∃ o xs, H b = some (.frz o (.lst xs))) -> SqL K H a (ns.map V.int) -> HOk P w H s₁.heap -> (∀ b, H b ≠ none -> b = P0 \/ b = a) -> (H a ≠ none -> K.lookup a = none) ->
     codeAny (model P w) callerA (.call (.ref fa) ⟨[.ref a], []⟩) (fun r s' => r = .ok (.ret (.bool true)) /\ OldK s₁.heap s'.heap /\ s'.os = s₁.os /\ AllBare s'.gens) s₁ := by
   intro H hPt hO hS hok hA hK
   have base_of : ∀ {b : Addr} {o : Obj}, s₁.heap.get? b = some o -> H b = none -> (C8u s₁.heap H).get? b = some o := fun e n => V1b e n
   have noA : ∀ {b : Addr} {o : Obj} {es : Array DictEntry} {ep : Nat}, s₁.heap.get? b = some o -> o.data = .dict es ep -> H b = none := fun {b o es ep} e d => by
     cases q : H b with
     | none => rfl
     | some u =>
       rcases hA b (by rw [q]; simp) with e' | e'
       . subst e'
         rw [hT] at e; cases e
         have d' : Data.fields #[] = Data.dict es ep := d
         cases d'
       . subst e'
         rw [ha] at e; cases e
         have d' : Data.seq vs.toArray _ = Data.dict es ep := d
         cases d'
   have nsK : ∀ {b : Addr} {m : Str -> Option Value}, s₁.heap.Ns b m -> (C8u s₁.heap H).Ns b m := fun {b m} ⟨o, es, ep, e, d, r⟩ => ⟨o, es, ep, base_of e (noA e d), d, r⟩
   have hKb : K.In (C8u s₁.heap H) := fun b o e => base_of (KX b o e) (by
     cases q : H b with
     | none => rfl
     | some u =>
       rcases hA b (by rw [q]; simp) with e' | e'
       . subst e'
         rw [hKP] at e; cases e
       . subst e'
         rw [hK (by rw [q]; simp)] at e; cases e)
   have noC : ∀ {b : Addr} {o : Obj}, s₁.heap.get? b = some o -> o ≠ tabObj #[] -> (∀ n, o ≠ { cls := .type "list", data := .seq vs.toArray n }) -> H b = none := fun {b o} e n1 n2 => by
     cases q : H b with
     | none => rfl
     | some u =>
       rcases hA b (by rw [q]; simp) with e' | e'
       . subst e'
         rw [hT] at e; cases e
         exact absurd rfl n1
       . subst e'
         rw [ha] at e; cases e
         exact absurd rfl (n2 _)
   have hLB : LamB mg (C8u s₁.heap H) c P0 := by
     refine ⟨?_, ?_⟩
     . obtain ⟨o, vs1, file, tf, flags, tg, inF, text, tt, e1, r1, r2⟩ := hC
       exact ⟨o, vs1, file, tf, flags, tg, inF, text, tt, base_of e1 (noC e1 (fun z => by rw [z] at r1; cases r1) fun n z => by rw [z] at r1; exact absurd (Value.type.inj r1) (by decide)), r1, r2⟩
     . obtain ⟨bm, ob, b1, b2, b3, b4, b5, b6⟩ := hbm
       refine ⟨bm, ob, b1, b2, ?_, base_of b3 (noC b3 (fun z => by rw [z] at b4; cases b4) fun n z => by rw [z] at b4; exact absurd (Value.type.inj b4) (by decide)), b4, b5, b6⟩
       rintro rfl
       obtain ⟨o, es, ep, e, d, _⟩ := hns
       rw [b3] at e; cases e
       rw [b6] at d; cases d
   have hM : Mod K mg (C8u s₁.heap H) := ⟨hKb, nsK hns, ⟨mb, nsK hb, hbb⟩, let ⟨mc, h1, h2⟩ := hlim; ⟨mc, nsK h1, h2⟩⟩
   have e0 : Env0 P w K mg (C8u s₁.heap H) callerA [] s₁ H := ⟨rfl, hM, fun b o e => Y9d e, Nat.le_of_eq (U4p _ _), trivial, fun b hb => absurd (show b ∈ ([] : List Addr) from hb) (by simp), hok, .of_eq hg⟩
   refine codeAny_mono ((F _ hKb (nsK hns) hLB).run callerA [] s₁ H ⟨[.ref a], []⟩ [.ref a] [.ref a] _ _ rfl hr e0 (hbind s₁ (.ref a)) (.cons rfl .nil) (hsp H hPt hS)) fun r s' h => ?_
   cases r with
   | error e => exact (hCX H e s' h).elim
   | ok fl =>
     cases fl with
     | next => exact False.elim h
     | brk => exact False.elim h
     | cont => exact False.elim h
     | ret u =>
       obtain ⟨v, H', os, bare, un, hok', r', q⟩ := h
       have q' : v = .bl true := q
       subst q'
       obtain rfl : u = Value.bool true := r'
       obtain ⟨more, hm⟩ := un.tbls P0 _ hPt
       have hP' : s'.heap.get? P0 = some (tabObj (#[] ++ more)) := hok' P0 _ hm
       have kp : ∀ b o, b ≠ P0 -> s₁.heap.get? b = some o -> s'.heap.get? b = some o := fun b o nb e => ?_
       refine ⟨rfl, ⟨fun b o e => ?_, fun b o e => ?_⟩, os, bare⟩
       . by_cases hb : b = P0
         . subst hb
           rw [hT] at e
           cases e
           exact .inr (.inl ⟨(hC.tab hT).isCodeTable, rfl, #[], more, rfl, hP'⟩)
         . exact .inl (kp b o hb e)
       . by_cases hb : b = P0
         . exact ⟨_, by rw [hb]; exact hP'⟩
         . exact ⟨o, kp b o hb e⟩
       cases q : H b with
       | none => exact un.keep b o e q (by intro z; exact absurd (show b ∈ ([] : List Addr) from z) (by simp)) (by simp)
       | some u =>
         rcases hO b with z | z | ⟨ob, xs, z⟩
         . rw [q] at z; cases z
         . exact absurd z nb
         . have z2 := un.frzs b ob _ z
           obtain ⟨e1, _⟩ := hok b _ z
           obtain ⟨e2, _⟩ := hok' b _ z2
           rw [e] at e1; cases e1
           exact e2
 have nPa : P0 ≠ a := fun z => by rw [z, ha] at hT; cases hT
 cases hk : K.lookup a with
 | some o =>
   have e := KX a o hk
   rw [ha] at e
   cases e
   refine core (fun b => if b = P0 then some (.tbl #[]) else none) (if_pos rfl) (fun b => ?_) (.inr ⟨_, vs.toArray, _, hk, rfl, rfl, rfl, by rw [List.size_toArray, lenV]; exact hl, by simpa using rv⟩) (fun b u z => ?_) (fun b z => ?_) fun z => absurd (if_neg nPa.symm) z
   . by_cases hb : b = P0
     . exact .inr (.inl hb)
     . exact .inl (if_neg hb)
   . by_cases hb : b = P0
     . have z' := (if_pos hb).symm.trans z
       cases z'
       subst hb
       exact hT
     . have z' := (if_neg hb).symm.trans z
       cases z'
   . by_cases hb : b = P0
     . exact .inl hb
     . exact absurd (if_neg hb) z
 | none =>
   refine core (fun b => if b = P0 then some (.tbl #[]) else if b = a then some (.frz { cls := .type "list", data := .seq vs.toArray } (.lst (ns.map V.int))) else none) (if_pos rfl) (fun b => ?_) (.inl (.inr ⟨{ cls := .type "list", data := .seq vs.toArray }, (if_neg nPa.symm).trans (if_pos rfl)⟩)) (fun b u z => ?_) (fun b z => ?_) fun _ => hk
   . by_cases hp : b = P0
     . exact .inr (.inl hp)
     . by_cases hb : b = a
       . exact .inr (.inr ⟨_, _, (if_neg hp).trans (if_pos hb)⟩)
       . exact .inl ((if_neg hp).trans (if_neg hb))
   . by_cases hp : b = P0
     . have z' := (if_pos hp).symm.trans z
       cases z'
       subst hp
       exact hT
     . by_cases hb : b = a
       . have z' := ((if_neg hp).trans (if_pos hb)).symm.trans z
         cases z'
         subst hb
         exact ⟨ha, by rw [List.length_map]; exact hl, vs, _, rv, ha⟩
       . have z' := ((if_neg hp).trans (if_neg hb)).symm.trans z
         cases z'
   . by_cases hp : b = P0
     . exact .inl hp
     . by_cases hb : b = a
       . exact .inr hb
       . exact absurd ((if_neg hp).trans (if_neg hb)) z
theorem walk_ofL {c P0 : Addr} {l : PySem.W.OpenLaw} {n k : Nat} {q : Program} {loose : List Str} {XP : (Str -> Option Value) -> Heap -> Prop} {YP : World -> Heap -> Prop} {d : DefRec} {K : Params -> PySem.W.Frag} {CX : World -> CXT} {sp : World -> Sp} {x : Str}
   (hn : l.most = some n) (hn2 : n <= sizeLine) (hdf : d.params.defaults = []) (hr : Room k callerA)
   (hY : ∀ (w : World) (h : Heap), YP w h -> (K w.params).In h /\ CodeHd h c P0 /\ h.get? P0 = some (tabObj #[])) (hKP : ∀ p, (K p).lookup P0 = none)
   (F : ∀ (w : World) (mg : Str -> Option Value) (fa : Addr) (h : Heap), (K w.params).In h -> h.Ns mainGlobals mg -> mg d.name = some (.ref fa) ->
     ∃ fd : FuncData, (∀ (s : Shared) (u : Value), BindsTo s fd ⟨[u], []⟩ [(x, u)]) /\
       ∀ base : Heap, (K w.params).In base -> base.Ns mainGlobals mg -> LamB mg base c P0 -> FnOkG l.prog w (K w.params) mg base (CX w) k fa fd [x] (sp w))
   (hsp : ∀ (w : World) (H : Hp) (a : Addr) (ns : List Int), ns.length <= n -> H P0 = some (.tbl #[]) -> SqL (K w.params) H a (ns.map V.int) -> sp w [.ref a] H (fun v _ => v = .bl true) fun _ _ _ => False)
   (hCX : ∀ (w : World) (H : Hp) (s : Shared) (e : Value) (s' : Shared), CX w [] H s (fun _ _ _ => False) e s' -> False) :
   PySem.W.WalkO q loose XP YP l.row.toRowW d [] (fun f vs => PySem.call f vs) := by
 refine Att.attach_call hn hdf fun w s₀ s₁ mg mb fa o pm cd doc a vs ns G Y ho hd hcd hmg hobj hints hlen hg => ?_
 obtain ⟨KX, hC, hT⟩ := hY w _ Y
 obtain ⟨fd, hb, hF⟩ := F w mg fa _ KX G.T.g hmg
 exact U4w hC hT (hKP _) G.T.bmain KX G.T.g G.T.b G.T.builtins G.T.nolimit hg hobj hints (Nat.le_trans hlen hn2) hr hF hb (fun H hO hS => hsp w H a ns hlen hO hS) fun H e s' => hCX w H s₁ e s'
section
variable {X : Cx}
theorem D2d (hg : X.A.guards = some []) (hu : X.A.units + 64 < cLine) : A4y X (.type "str") (fun xs H Q => ∃ a d, xs = [.ref a] /\ RdR H (.ref a) d /\ Z9 d /\ Q (.str d.shown) H) := by
 intro pins s σ H xs us Q I r h
 obtain ⟨a, d, rfl, hv, ⟨sh, dp, ln⟩, q⟩ := h
 obtain ⟨u, rfl, ru⟩ := Vals.one r
 obtain ⟨as, z, ny⟩ := hv.reads I ru
 cases ru
 exact str_of_reads z sh (fun _ => ny) hg (by omega) (fun b o e => e) (fun h' u tk k => ⟨.str d.shown, H, I.kept k, ⟨u, rfl⟩, q⟩) ln
end
def J1w (H H' : Hp) : Prop := ∀ b o, (∀ ps, o ≠ .tbl ps) -> H b = some o -> H' b = some o
theorem SameT.keep {P : Addr} {ps : Array Value} {H H' : Hp} (s : SameT P H H') (h : H P = some (.tbl ps)) : J1w H H' := fun b o n e => s b o (fun z => by rw [z, h] at e; exact n ps (Option.some.inj e).symm) e
theorem TabOk.same {P : Addr} {pos : Pos} {q : Str} {H H' : Hp} (h : TabOk P pos q H) (s : ∀ b o, H b = some o -> H' b = some o) : TabOk P pos q H' := by
 obtain ⟨ps, e, t, c⟩ := h
 exact ⟨ps, s _ _ e, t, c.imp id fun ⟨c', oc, a, b, d⟩ => ⟨c', oc, a, s _ _ b, d⟩⟩
theorem TabOk.at {P : Addr} {pos : Pos} {q : Str} {H H' : Hp} (h : TabOk P pos q H) (s : ∀ b o, H b = some o -> (b = P \/ ∃ oc, o = .frz oc (.own b)) -> H' b = some o) : TabOk P pos q H' := by
 obtain ⟨ps, e, t, c⟩ := h
 exact ⟨ps, s _ _ e (.inl rfl), t, c.imp id fun ⟨c', oc, a, b, d⟩ => ⟨c', oc, a, s _ _ b (.inr ⟨oc, rfl⟩), d⟩⟩
theorem U3d {P : Addr} {pos : Pos} {q : Str} {H : Hp} (h : H P = some (.tbl #[])) : TabOk P pos q H := ⟨#[], h, trivial, .inl rfl⟩
theorem SqL.kept {K : Frag} {H H' : Hp} {a : Addr} {xs : List V} (h : SqL K H a xs) (s : ∀ o, H a = some o -> (o = .lst xs \/ ∃ oc, o = .frz oc (.lst xs)) -> H' a = some o) : SqL K H' a xs := by
 rcases h with (h | ⟨o, h⟩) | h
 . exact .inl (.inl (s _ h (.inl rfl)))
 . exact .inl (.inr ⟨o, s _ h (.inr ⟨o, rfl⟩)⟩)
 . exact .inr h
theorem Fun.okEL {P : Program} {w : World} {K : Frag} {mg : Str -> Option Value} {base : Heap} {x qual : Str} {st : Stmt} {f c : Addr} {fd : FuncData} {N ps : List Str} {k : Nat} {sp : Sp} (F : Fun K x qual st f fd) (hc0 : fd.code = .ref c) (S : FnScope N ps (A1 st)) (len : ∀ vs H Q E, sp vs H Q E -> vs.length = ps.length)
   (hbody : ∀ (X : Cx) (A : Around) (outer : List Env) (s : Shared) (H : Hp) (vs : List V) (Q : VK) (E : XK), X = Z3 (CX1 P w) P w K mg base N qual (A1 st) f (.ref c) A outer s H E -> X.A.guards = some [] -> Room k X.A -> D6 X (fun C dd _ H' => E C dd H') -> sp vs H Q E ->
     ∃ t, PSs (Z3 (CX1 P w) P w K mg base N qual (A1 st) f (.ref c) A outer s H E) (B1 st) t /\ t { nx := fun _ H' => Q .non H', rt := Q } (A2t N vs) H) : FnOkG P w K mg base (CX1 P w) (k + 1) f fd ps sp := by
 obtain ⟨oc, od, kV, doc, pm, an, cdv, ct, osl, rfl, lk, hc⟩ := F.ex
 obtain rfl : cdv = .ref c := hc0
 exact V2u lk hc S len fun A outer s H vs Q E hg hr h => hbody _ A outer s H vs Q E rfl hg hr A5q h
theorem U1x {P : Program} {w : World} {K : Frag} {mg : Str -> Option Value} {base : Heap} {k : Nat} {f : Addr} {qual : Str} {params : Arguments} {body : Expr} {scope : Scope} {cl : List (Str × Addr)} {vs : List V} {sp : Hp -> VK -> XK -> Prop} {H0 : Hp} (la : LamAt H0 f qual params body scope cl)
   (S : LamS (cl.map (·.1)) scope) (hF : cl.length = vs.length) (hnd : (cl.map (·.2)).Nodup)
   (hb0 : ∀ (pm : Value) (c' : Addr) (ctv : Value), bindArgs (kla_fn "<lambda>" qual params body scope cl pm (.ref c') ctv) ⟨[], []⟩ = pure [])
   (hbody : ∀ (X : Cx) (cdv : Value) (A : Around) (outer : List Env) (s : Shared) (H : Hp) (Q : VK) (E : XK), X = C4m (CX1 P w) P w K mg base (cl.map (·.1)) qual scope f cdv cl A outer s (U7 (cl.map (·.2)) H) (fun C d H' => (∀ c ∈ cl.map (·.2), H' c = none) -> E C d (Y6 (cl.map (·.2)) H H')) -> Room k X.A ->
     D6 X (fun C dd _ H' => (∀ c ∈ cl.map (·.2), H' c = none) -> E C dd (Y6 (cl.map (·.2)) H H')) -> sp H Q E -> AllFrz (cl.map (·.2)) H ->
     ∃ t, PE (C4m (CX1 P w) P w K mg base (cl.map (·.1)) qual scope f cdv cl A outer s (U7 (cl.map (·.2)) H) (fun C d H' => (∀ c ∈ cl.map (·.2), H' c = none) -> E C d (Y6 (cl.map (·.2)) H H'))) body t /\ t (vs.map some) (U7 (cl.map (·.2)) H) (fun v H' => (∀ c ∈ cl.map (·.2), H' c = none) -> Q v (Y6 (cl.map (·.2)) H H'))) :
   DeedOk P w K mg base (k + 1) f (Z3w f qual params body scope cl vs) sp := Y7k S hF hnd hb0 hbody
theorem LamAt.kept {H H' : Hp} {f : Addr} {qual : Str} {params : Arguments} {body : Expr} {scope : Scope} {cl : List (Str × Addr)} (h : LamAt H f qual params body scope cl) (s : ∀ b o, H b = some (.frz o (.own b)) -> H' b = some (.frz o (.own b))) : LamAt H' f qual params body scope cl := by
 obtain ⟨pm, c', ctv, oc, e1, e2, r⟩ := h
 exact ⟨pm, c', ctv, oc, s _ _ e1, s _ _ e2, r⟩
theorem Knows.kept {H H' : Hp} {c : Addr} {v : V} (h : Knows H c v) (s : ∀ b o, H b = some (.frz o (.own b)) -> H' b = some (.frz o (.own b))) : Knows H' c v := by
 obtain ⟨o, u, e, r⟩ := h
 exact ⟨o, u, s _ _ e, r⟩
end L2
namespace TR
open PySem L2 PySem.W PyProof.Rows
seal PE PS PSs PA PT PW PG PGs PI
def top (i : Nat) : Stmt := PySem.Challenge.pw_tenreckon_k28_whole_and_trimmed.main.body.getD i (.Pass ⟨0, 0, 0, 0⟩)
abbrev C8r : Stmt := (top 22)
section
variable {P : Program} {w : World} {K : Frag} {mg : Str -> Option Value} {base : Heap}
def Z7g (K : Frag) : Sp := fun vs H Q _ => ∃ v lo hi, vs = [v, .int lo, .int hi] /\ ((A4t lo hi v /\ Q (.bl true) H) \/ (C8t K H lo hi v /\ Q (.bl false) H))
theorem Z8d : FnScope ["thing", "least", "most"] ["thing", "least", "most"] (A1 C8r) := scK
theorem V2e {f : Addr} {fd : FuncData} (D : Def K mg "is_between" ["thing", "least", "most"] C8r f fd) (O : Own mg) (T : Kit K) : FnOk P w K mg base (CX1 P w) 1 f fd ["thing", "least", "most"] (Z7g K) := by
 refine FnOk.up (D.F.ok Z8d (fun vs H Q E h => ?_) (fun cdv A outer s H vs Q E hr h => ?_))
 . obtain ⟨v, lo, hi, rfl, _⟩ := h
   rfl
 . obtain ⟨v, lo, hi, rfl, h⟩ := h
   refine ⟨_, (A6 (G4 (PW.pt (B6a (A9r (Z0 (U6b O.isi (pv 0) (pty O.int_ boot_int)))) (A5n (Z0 (U6b O.isi (pv 0) (pty O.bool_ boot_bool)))))) (A9 (B7 B3j)) C7)
     (A9 (B7 (A5s (D9 G5h (pv 0) (pv 1) (B9 _)) (A1t (D9 Z1s (pv 0) (pv 2) (B9 _))))))), ?_⟩
   rcases h with ⟨⟨i, rfl, h1, h2⟩, k⟩ | ⟨⟨t, b1, b2, ty, k1, k2, bad⟩, k⟩
   . refine ⟨_, rfl, _, _, _, _, true, rfl, rfl, Z1k i, T.int_int, _, rfl, G7 ?_⟩
     refine ⟨_, rfl, _, _, _, _, false, rfl, rfl, Z1k i, T.int_bool, _, rfl, G7 ?_⟩
     refine ⟨_, rfl, _, rfl, _, _, rfl, rfl, _, rfl, A3t h1 ?_⟩
     refine ⟨_, rfl, _, rfl, _, _, rfl, rfl, ?_⟩
     show Q (.bl (decide (i <= hi))) H
     rw [decide_eq_true h2]
     exact k
   . refine ⟨_, rfl, _, _, _, _, b1, rfl, rfl, ty, k1, _, rfl, ?_⟩
     cases b1 with
     | false => exact V8 (V8 k)
     | true =>
       refine G7 ⟨_, rfl, _, _, _, _, b2, rfl, rfl, ty, k2, _, rfl, ?_⟩
       cases b2 with
       | true => exact V8 k
       | false =>
         obtain ⟨i, rfl, out⟩ := bad.resolve_left (by decide)
         refine G7 ⟨_, rfl, _, rfl, _, _, rfl, rfl, _, rfl, G8 (fun h1 => ?_) (fun h1 => ?_)⟩
         . refine ⟨_, rfl, _, rfl, _, _, rfl, rfl, ?_⟩
           show Q (.bl (decide (i <= hi))) H
           rw [decide_eq_false (by omega : ¬ i <= hi)]
           exact k
         . exact k
end
structure Err (K : Frag) (mg : Str -> Option Value) (x : Str) (CB : Addr) : Prop where
 g : mg x = some (.ref CB)
 q : excIn K CB [.type "ValueError", .type "Exception", .type "BaseException", .type "object"] "ValueError.__new__" = true
def B6g (lo hi : Int) : Prop := lo.natAbs.log2 < 1920 /\ hi.natAbs.log2 < 1920 /\ (Str.ofString (toString lo)).length <= 100 /\ (Str.ofString (toString hi)).length <= 100
abbrev A3c : Stmt := (top 55)
section
variable {P : Program} {w : World} {K : Frag} {mg : Str -> Option Value} {base : Heap}
def D3m (K : Frag) (CB : Addr) : Sp := fun vs H Q E => ∃ v lo hi, vs = [v, .int lo, .int hi] /\ B6g lo hi /\ ((A4t lo hi v /\ Q v H) \/ (C8t K H lo hi v /\ E (.ref CB) none H))
theorem U4y : FnScope ["thing", "least", "most"] ["thing", "least", "most"] (A1 A3c) := scK
theorem J1m {f f1 CB : Addr} {fd fd1 : FuncData} (D : Def K mg "bounded" ["thing", "least", "most"] A3c f fd) (D1 : Def K mg "is_between" ["thing", "least", "most"] C8r f1 fd1) (O : Own mg) (T : Kit K) (B : Err K mg "BadContext" CB) :
   FnOk P w K mg base (CX1 P w) 2 f fd ["thing", "least", "most"] (D3m K CB) := by
 have G1 := V2e (P := P) (w := w) (base := base) D1 O T
 refine D.F.okE U4y (fun vs H Q E h => ?_) (fun X cdv A outer s H vs Q E hX hr hx h => ?_)
 . obtain ⟨v, lo, hi, rfl, _⟩ := h
   rfl
 . subst hX
   obtain ⟨v, lo, hi, rfl, ⟨l1, l2, l3, l4⟩, h⟩ := h
   refine ⟨_, (A6 (G4 (A9r (Z0 (C8 D1 G1 hr hx (A0 (pv 0) (A0 (pv 1) (A0 (pv 2) A7))))))
     (A9 (A3d (by rfl) B.g B.q PySem.F.excBase_ValueError hr.hd hx (A0 (U2k (.cons .lit (.cons (.int (pv 1)) (.cons .lit (.cons (.int (pv 2)) .nil))))) A7))) C7)
     (A9 (B7 (pv 0)))), ?_⟩
   rcases h with ⟨g, k⟩ | ⟨bad, k⟩
   . exact ⟨_, rfl, _, rfl, _, rfl, _, _, _, rfl, .inl ⟨g, _, rfl, G7 ⟨_, rfl, k⟩⟩⟩
   . have a0 : Str.empty.length = 0 := rfl
     have a1 : (Str.ofString "not a whole number from ").length = 24 := by decide +kernel
     have a2 : (Str.ofString " to ").length = 4 := by decide +kernel
     have sz : ∀ {n : Nat}, n <= 1000 -> n <= sizeLine := fun h => Nat.le_of_lt (U8 h)
     refine ⟨_, rfl, _, rfl, _, rfl, _, _, _, rfl, .inr ⟨bad, _, rfl, V8 ?_⟩⟩
     exact ⟨_, rfl, sz (by rw [strLen_append]; omega), _, rfl, _, rfl, l1, _, rfl, sz (by rw [strLen_append, strLen_append]; omega), _, rfl, sz (by rw [strLen_append, strLen_append, strLen_append]; omega), _, rfl, _, rfl, l2, _, rfl, sz (by rw [strLen_append, strLen_append, strLen_append, strLen_append]; omega), sz (by rw [strLen_append, strLen_append, strLen_append, strLen_append]; omega), sz (by show 1 <= 1000; decide), k⟩
end
abbrev A1e : Stmt := (top 23)
section
variable {P : Program} {w : World} {K : Frag} {mg : Str -> Option Value} {base : Heap}
def U6d (K : Frag) (CB : Addr) : Sp := fun vs H Q E => ∃ v lo hi, vs = [v, .int lo, .int hi] /\ B6g lo hi /\
 ((A4t lo hi v /\ Q .non H) \/ (C8t K H lo hi v /\ E (.ref CB) none H))
theorem U5t : FnScope ["thing", "least", "most"] ["thing", "least", "most"] (A1 A1e) := scK
theorem C4t {f f1 CB : Addr} {fd fd1 : FuncData} (D : Def K mg "need_between" ["thing", "least", "most"] A1e f fd) (D1 : Def K mg "is_between" ["thing", "least", "most"] C8r f1 fd1) (O : Own mg) (T : Kit K) (B : Err K mg "BadNumber" CB) :
   FnOk P w K mg base (CX1 P w) 2 f fd ["thing", "least", "most"] (U6d K CB) := by
 have G1 := V2e (P := P) (w := w) (base := base) D1 O T
 refine D.F.okE U5t (fun vs H Q E h => ?_) (fun X cdv A outer s H vs Q E hX hr hx h => ?_)
 . obtain ⟨v, lo, hi, rfl, _⟩ := h
   rfl
 . subst hX
   obtain ⟨v, lo, hi, rfl, ⟨l1, l2, l3, l4⟩, h⟩ := h
   refine ⟨_, (A9 (G4 (A9r (Z0 (C8 D1 G1 hr hx (A0 (pv 0) (A0 (pv 1) (A0 (pv 2) A7))))))
     (A9 (A3d (by rfl) B.g B.q PySem.F.excBase_ValueError hr.hd hx (A0 (U2k (.cons .lit (.cons (.int (pv 1)) (.cons .lit (.cons (.int (pv 2)) .nil))))) A7))) C7)), ?_⟩
   rcases h with ⟨g, k⟩ | ⟨bad, k⟩
   . exact ⟨_, rfl, _, rfl, _, rfl, _, _, _, rfl, .inl ⟨g, _, rfl, G7 k⟩⟩
   . have a0 : Str.empty.length = 0 := rfl
     have a1 : (Str.ofString "not a whole number from ").length = 24 := by decide +kernel
     have a2 : (Str.ofString " to ").length = 4 := by decide +kernel
     have sz : ∀ {n : Nat}, n <= 1000 -> n <= sizeLine := fun h => Nat.le_of_lt (U8 h)
     refine ⟨_, rfl, _, rfl, _, rfl, _, _, _, rfl, .inr ⟨bad, _, rfl, V8 ?_⟩⟩
     exact ⟨_, rfl, sz (by rw [strLen_append]; omega), _, rfl, _, rfl, l1, _, rfl, sz (by rw [strLen_append, strLen_append]; omega), _, rfl, sz (by rw [strLen_append, strLen_append, strLen_append]; omega), _, rfl, _, rfl, l2, _, rfl, sz (by rw [strLen_append, strLen_append, strLen_append, strLen_append]; omega), sz (by rw [strLen_append, strLen_append, strLen_append, strLen_append]; omega), sz (by show 1 <= 1000; decide), k⟩
end
abbrev D3n : Stmt := (D7 (top 15) 0)
abbrev C2j : Stmt := (top 19)
abbrev A5t : Stmt := (top 21)
structure Num (K : Frag) (mg : Str -> Option Value) (CN : Addr) : Prop where
 g : mg "Number" = some (.ref CN)
 cl : Cls K CN
 n1 : NoAttr K CN "kind"
 n2 : NoAttr K CN "sign"
 n3 : NoAttr K CN "figures"
 n4 : NoAttr K CN "power"
 ca : findIn K (.ref CN) "__class__" = some (some (.builtin "object.__class__"))
 sn : specialIn K (.builtin "object.__class__") "__get__" = some (some (.builtin "getset_descriptor.__get__"))
 tk : takesIn K (.builtin "object.__class__") = some true
 ob : mroIn K CN (.type "object") = some true
 self : kitOne K (.ref CN) (.ref CN) = some true
def C8v (k s f p : V) : List (Str × V) := V0 "power" p (V0 "figures" f (V0 "sign" s (V0 "kind" k [])))
theorem e12 : ¬ (("kind" : Str) = "sign") := by decide +kernel
theorem e13 : ¬ (("kind" : Str) = "figures") := by decide +kernel
theorem e14 : ¬ (("kind" : Str) = "power") := by decide +kernel
theorem e23 : ¬ (("sign" : Str) = "figures") := by decide +kernel
theorem e24 : ¬ (("sign" : Str) = "power") := by decide +kernel
theorem e34 : ¬ (("figures" : Str) = "power") := by decide +kernel
theorem Z2a (k s f p : V) : (C8v k s f p).lookup ("kind" : Str) = some k := by unfold C8v; rw [D3, if_neg e14, D3, if_neg e13, D3, if_neg e12, D3, if_pos rfl]
theorem V1c (k s f p : V) : (C8v k s f p).lookup ("sign" : Str) = some s := by unfold C8v; rw [D3, if_neg e24, D3, if_neg e23, D3, if_pos rfl]
theorem J1t (k s f p : V) : (C8v k s f p).lookup ("figures" : Str) = some f := by unfold C8v; rw [D3, if_neg e34, D3, if_pos rfl]
theorem U5p (k s f p : V) : (C8v k s f p).lookup ("power" : Str) = some p := by unfold C8v; rw [D3, if_pos rfl]
def NumAt (CN : Addr) (H : Hp) (n : Addr) (k s f p : V) : Prop := ∃ dx, H n = some (.ins CN dx (C8v k s f p))
theorem NumAt.same {CN : Addr} {H H' : Hp} {n : Addr} {k s f p : V} (h : NumAt CN H n k s f p) (e : Same H H') : NumAt CN H' n k s f p := by
 obtain ⟨dx, z⟩ := h
 exact ⟨dx, e _ _ z⟩
theorem Num.ty {K : Frag} {mg : Str -> Option Value} {CN : Addr} (N : Num K mg CN) {H : Hp} {n : Addr} {k s f p : V} (h : NumAt CN H n k s f p) : TyE K H (.ref n) (.ref CN) := by
 obtain ⟨dx, z⟩ := h
 exact .of (.ins z N.cl N.ca N.sn N.tk N.ob)
section
variable {P : Program} {w : World} {K : Frag} {mg : Str -> Option Value} {base : Heap}
def D5p (CN : Addr) : Sp := fun vs H Q _ => ∃ (p dx : Addr) (k s f pw : V), vs = [.ref p, k, s, f, pw] /\ H p = some (.ins CN dx []) /\ ∀ H', H' p = some (.ins CN dx (C8v k s f pw)) -> (∀ b o, H b = some o -> b ≠ p -> H' b = some o) -> Q .non H'
theorem Z2j : FnScope ["self", "kind", "sign", "figures", "power"] ["self", "kind", "sign", "figures", "power"] (A1 D3n) := scK
theorem Y9a {f CN : Addr} {fd : FuncData} (F : Fun K "__init__" "Number.__init__" D3n f fd) (N : Num K mg CN) : FnOk P w K mg base CX0 1 f fd ["self", "kind", "sign", "figures", "power"] (D5p CN) := by
 refine F.ok Z2j (fun vs H Q E h => ?_) (fun cdv A outer s H vs Q E hr h => ?_)
 . obtain ⟨p, dx, a, b, c, d, rfl, _⟩ := h
   rfl
 . obtain ⟨p, dx, a, b, c, d, rfl, hp, k⟩ := h
   refine ⟨_, A6 (Z2 (pv 0) (pv 1) rfl) (A6 (Z2 (pv 0) (pv 2) rfl) (A6 (Z2 (pv 0) (pv 3) rfl) (A9 (Z2 (pv 0) (pv 4) rfl)))), ?_⟩
   have l : ∀ (fs : List (Str × V)) (f : Str) (v : V) (n : Nat), fs.length <= n -> (V0 f v fs).length <= n + 1 := fun fs f v n h => Nat.le_trans (A0z f v fs) (Nat.succ_le_succ h)
   refine ⟨_, rfl, _, rfl, p, CN, dx, [], rfl, hp, N.cl, N.n1, (by show 0 < 1000; decide), ?_⟩
   refine ⟨_, rfl, _, rfl, p, CN, dx, _, rfl, A8, N.cl, N.n2, Nat.lt_of_le_of_lt (l _ _ _ 0 (Nat.le_refl _)) (by decide), ?_⟩
   refine ⟨_, rfl, _, rfl, p, CN, dx, _, rfl, A8, N.cl, N.n3, Nat.lt_of_le_of_lt (l _ _ _ 1 (l _ _ _ 0 (Nat.le_refl _))) (by decide), ?_⟩
   refine ⟨_, rfl, _, rfl, p, CN, dx, _, rfl, A8, N.cl, N.n4, Nat.lt_of_le_of_lt (l _ _ _ 2 (l _ _ _ 1 (l _ _ _ 0 (Nat.le_refl _)))) (by decide), ?_⟩
   refine k _ A8 fun b o e hb => ?_
   rw [C4 hb, C4 hb, C4 hb, C4 hb]
   exact e
structure MakeN (P : Program) (w : World) (K : Frag) (mg : Str -> Option Value) (base : Heap) (CN fI : Addr) (fdI : FuncData) : Prop where
 m : Mk K CN fI
 g : FnOk P w K mg base CX0 1 fI fdI ["self", "kind", "sign", "figures", "power"] (D5p CN)
 b : Binds K fdI ["self", "kind", "sign", "figures", "power"] []
theorem made {CN : Addr} {H : Hp} {Q : VK} {k s f p : V} (h : ∀ n H', H n = none -> Same H H' -> NumAt CN H' n k s f p -> Q (.ref n) H') :
   ∀ x dx, H x = none -> H dx = none -> dx ≠ x -> D5p CN (.ref x :: ([k, s, f, p] ++ [])) (upd (upd H dx (.own x)) x (.ins CN dx [])) (fun v H2 => v = .non /\ Q (.ref x) H2) E0 := by
 intro x dx nx nd ne
 refine ⟨x, dx, k, s, f, p, rfl, A8, fun H' e kp => ⟨rfl, h x H' nx (fun b o z => ?_) ⟨dx, e⟩⟩⟩
 refine kp b o ?_ (C9 z nx)
 rw [C4 (C9 z nx), C4 (C9 z nd)]
 exact z
def V3e (K : Frag) (CN : Addr) (H : Hp) (v : V) : Prop := ∃ t, TyE K H v t /\ kitOne K t (.ref CN) = some false
def D6g (K : Frag) (CN CB : Addr) : Sp := fun vs H Q E => ∃ v, vs = [v] /\ ((∃ n k s f p, v = .ref n /\ NumAt CN H n k s f p /\ Q v H) \/ (V3e K CN H v /\ E (.ref CB) none H))
theorem Y8c : FnScope ["thing"] ["thing"] (A1 A5t) := scK
theorem G4n {f CN CB : Addr} {fd : FuncData} (D : Def K mg "need_number" ["thing"] A5t f fd) (O : Own mg) (T : Kit K) (B : Err K mg "BadNumber" CB) (N : Num K mg CN) : FnOk P w K mg base (CX1 P w) 1 f fd ["thing"] (D6g K CN CB) := by
 refine D.F.okE Y8c (fun vs H Q E h => ?_) (fun X cdv A outer s H vs Q E hX hr hx h => ?_)
 . obtain ⟨v, rfl, _⟩ := h
   rfl
 . subst hX
   obtain ⟨v, rfl, h⟩ := h
   refine ⟨_, (A6 (G4 (A9r (Z0 (U6b O.isi (pv 0) (V3k N.g)))) (A9 (A3d (by rfl) B.g B.q PySem.F.excBase_ValueError hr.hd hx (A0 B0 A7))) C7)
     (A9 (B7 (pv 0)))), ?_⟩
   rcases h with ⟨n, a, b, c, d, rfl, hn, k⟩ | ⟨⟨t, ty, k1⟩, k⟩
   . exact ⟨_, rfl, _, _, _, _, true, rfl, rfl, N.ty hn, N.self, _, rfl, G7 ⟨_, rfl, k⟩⟩
   . exact ⟨_, rfl, _, _, _, t, false, rfl, rfl, ty, k1, _, rfl, V8 ⟨Nat.le_of_lt (U8 (by show 1 <= 1000; decide)), k⟩⟩
def J0j (K : Frag) (CN CB : Addr) : Sp := fun vs H Q E => ∃ v, vs = [v] /\ ((∃ n k s f p, v = .ref n /\ NumAt CN H n k s f p /\ ∀ t, H t = none -> Q (.ref t) (upd H t (.tup [k, s, f, p]))) \/ (V3e K CN H v /\ E (.ref CB) none H))
theorem Z2n : FnScope ["number"] ["number"] (A1 C2j) := scK
theorem Y8k {f f1 CN CB : Addr} {fd fd1 : FuncData} (D : Def K mg "told" ["number"] C2j f fd) (D_need_number : Def K mg "need_number" ["thing"] A5t f1 fd1) (O : Own mg) (T : Kit K) (B : Err K mg "BadNumber" CB) (N : Num K mg CN) :
   FnOk P w K mg base (CX1 P w) 2 f fd ["number"] (J0j K CN CB) := by
 have G_need_number := G4n (P := P) (w := w) (base := base) D_need_number O T B N
 refine D.F.okE Z2n (fun vs H Q E h => ?_) (fun X cdv A outer s H vs Q E hX hr hx h => ?_)
 . obtain ⟨v, rfl, _⟩ := h
   rfl
 . subst hX
   obtain ⟨v, rfl, h⟩ := h
   refine ⟨_, (A6 (Y8 (C8 D_need_number G_need_number hr hx (A0 (pv 0) A7)))
     (A9 (B7 (V1 (A0 (G0 (pv 0) rfl) (A0 (G0 (pv 0) rfl) (A0 (G0 (pv 0) rfl) (A0 (G0 (pv 0) rfl) A7)))))))), ?_⟩
   rcases h with ⟨n, a, b, c, d, rfl, hn, k⟩ | ⟨bad, k⟩
   . refine ⟨_, rfl, _, rfl, .inl ⟨n, a, b, c, d, rfl, hn, ?_⟩⟩
     obtain ⟨dx, e⟩ := hn
     exact ⟨_, rfl, n, CN, dx, _, _, rfl, e, N.cl, N.n1, Z2a _ _ _ _, _, rfl, n, CN, dx, _, _, rfl, e, N.cl, N.n2, V1c _ _ _ _, _, rfl, n, CN, dx, _, _, rfl, e, N.cl, N.n3, J1t _ _ _ _, _, rfl, n, CN, dx, _, _, rfl, e, N.cl, N.n4, U5p _ _ _ _,
       Nat.le_of_lt (U8 (by show 4 <= 1000; decide)), k⟩
   . exact ⟨_, rfl, _, rfl, .inr ⟨bad, k⟩⟩
end
abbrev B4b : Stmt := (top 16)
abbrev G6h : Stmt := (top 17)
abbrev A3e : Stmt := (top 18)
section
variable {P : Program} {w : World} {K : Frag} {mg : Str -> Option Value} {base : Heap}
def U2h (K : Frag) (CN CB : Addr) : Sp := fun vs H Q E => ∃ x y z, vs = [x, y, z] /\
 ((A4t 0 1 x /\ A4t 0 (10 ^ 60 - 1) y /\ A4t (-200) 200 z /\ ∀ n H', H n = none -> Same H H' -> NumAt CN H' n (.str "plain") x y z -> Q (.ref n) H') \/
  ((C8t K H 0 1 x \/ (A4t 0 1 x /\ (C8t K H 0 (10 ^ 60 - 1) y \/ (A4t 0 (10 ^ 60 - 1) y /\ C8t K H (-200) 200 z)))) /\ E (.ref CB) none H))
theorem Y8y : FnScope ["sign", "figures", "power"] ["sign", "figures", "power"] (A1 B4b) := scK
theorem b01 : B6g 0 1 := by unfold B6g; decide +kernel
theorem b60 : B6g 0 (10 ^ 60 - 1) := by unfold B6g; decide +kernel
theorem Z8c : B6g (-200) 200 := by unfold B6g; decide +kernel
theorem V1v {f f1 f2 fI CN CB : Addr} {fd fd1 fd2 fdI : FuncData} (D : Def K mg "plain" ["sign", "figures", "power"] B4b f fd) (D_need_between : Def K mg "need_between" ["thing", "least", "most"] A1e f1 fd1) (D2 : Def K mg "is_between" ["thing", "least", "most"] C8r f2 fd2)
   (O : Own mg) (T : Kit K) (B : Err K mg "BadNumber" CB) (N : Num K mg CN) (M : MakeN P w K mg base CN fI fdI) : FnOk P w K mg base (CX1 P w) 3 f fd ["sign", "figures", "power"] (U2h K CN CB) := by
 have G_need_between := C4t (P := P) (w := w) (base := base) D_need_between D2 O T B
 refine D.F.okE Y8y (fun vs H Q E h => ?_) (fun X cdv A outer s H vs Q E hX hr hx h => ?_)
 . obtain ⟨x, y, z, rfl, _⟩ := h
   rfl
 . subst hX
   obtain ⟨x, y, z, rfl, h⟩ := h
   refine ⟨_, (A6 (Y8 (C8 D_need_between G_need_between hr hx (A0 (pv 0) (A0 A3 (A0 A3 A7)))))
     (A6 (Y8 (C8 D_need_between G_need_between hr hx (A0 (pv 1) (A0 A3 (A0 (B3 U1 (B3 V0w A3 A3) A3) A7)))))
     (A6 (Y8 (C8 D_need_between G_need_between hr hx (A0 (pv 2) (A0 (D2h B7p A3) (A0 A3 A7)))))
     (A9 (B7 (D5j M.m M.g hr rfl N.g M.b .nil V3d (A0 B0 (A0 (pv 0) (A0 (pv 1) (A0 (pv 2) A7)))))))))), ?_⟩
   have pw : Y9j 10 60 := ⟨by decide, by decide, by decide⟩
   rcases h with ⟨⟨i1, rfl, l1, u1⟩, ⟨i2, rfl, l2, u2⟩, ⟨i3, rfl, l3, u3⟩, k⟩ | ⟨bad, k⟩
   . refine ⟨_, rfl, _, _, _, rfl, b01, .inl ⟨⟨i1, rfl, l1, u1⟩, ?_⟩⟩
     refine ⟨_, rfl, _, _, rfl, rfl, pw, _, _, rfl, rfl, _, _, _, rfl, b60, .inl ⟨⟨i2, rfl, l2, u2⟩, ?_⟩⟩
     refine ⟨_, rfl, _, rfl, _, _, _, rfl, Z8c, .inl ⟨⟨i3, rfl, l3, u3⟩, ?_⟩⟩
     exact ⟨_, rfl, _, rfl, _, rfl, made k⟩
   . rcases bad with bad | ⟨⟨i1, rfl, l1, u1⟩, bad | ⟨⟨i2, rfl, l2, u2⟩, bad⟩⟩
     . exact ⟨_, rfl, _, _, _, rfl, b01, .inr ⟨bad, k⟩⟩
     . refine ⟨_, rfl, _, _, _, rfl, b01, .inl ⟨⟨i1, rfl, l1, u1⟩, ?_⟩⟩
       exact ⟨_, rfl, _, _, rfl, rfl, pw, _, _, rfl, rfl, _, _, _, rfl, b60, .inr ⟨bad, k⟩⟩
     . refine ⟨_, rfl, _, _, _, rfl, b01, .inl ⟨⟨i1, rfl, l1, u1⟩, ?_⟩⟩
       refine ⟨_, rfl, _, _, rfl, rfl, pw, _, _, rfl, rfl, _, _, _, rfl, b60, .inl ⟨⟨i2, rfl, l2, u2⟩, ?_⟩⟩
       exact ⟨_, rfl, _, rfl, _, _, _, rfl, Z8c, .inr ⟨bad, k⟩⟩
def V3v (K : Frag) (CN CB : Addr) : Sp := fun vs H Q E => ∃ x, vs = [x] /\ ((A4t 0 1 x /\ ∀ n H', H n = none -> Same H H' -> NumAt CN H' n (.str "end") x (.int 0) (.int 0) -> Q (.ref n) H') \/ (C8t K H 0 1 x /\ E (.ref CB) none H))
theorem Z7r : FnScope ["sign"] ["sign"] (A1 G6h) := scK
theorem Z3v {f f1 f2 fI CN CB : Addr} {fd fd1 fd2 fdI : FuncData} (D : Def K mg "end" ["sign"] G6h f fd) (D_need_between : Def K mg "need_between" ["thing", "least", "most"] A1e f1 fd1) (D2 : Def K mg "is_between" ["thing", "least", "most"] C8r f2 fd2)
   (O : Own mg) (T : Kit K) (B : Err K mg "BadNumber" CB) (N : Num K mg CN) (M : MakeN P w K mg base CN fI fdI) : FnOk P w K mg base (CX1 P w) 3 f fd ["sign"] (V3v K CN CB) := by
 have G_need_between := C4t (P := P) (w := w) (base := base) D_need_between D2 O T B
 refine D.F.okE Z7r (fun vs H Q E h => ?_) (fun X cdv A outer s H vs Q E hX hr hx h => ?_)
 . obtain ⟨x, rfl, _⟩ := h
   rfl
 . subst hX
   obtain ⟨x, rfl, h⟩ := h
   refine ⟨_, (A6 (Y8 (C8 D_need_between G_need_between hr hx (A0 (pv 0) (A0 A3 (A0 A3 A7)))))
     (A9 (B7 (D5j M.m M.g hr rfl N.g M.b .nil V3d (A0 B0 (A0 (pv 0) (A0 A3 (A0 A3 A7)))))))), ?_⟩
   rcases h with ⟨⟨i1, rfl, l1, u1⟩, k⟩ | ⟨bad, k⟩
   . refine ⟨_, rfl, _, _, _, rfl, b01, .inl ⟨⟨i1, rfl, l1, u1⟩, ?_⟩⟩
     exact ⟨_, rfl, made k⟩
   . exact ⟨_, rfl, _, _, _, rfl, b01, .inr ⟨bad, k⟩⟩
def D3g (CN : Addr) : Sp := fun vs H Q _ => vs = [] /\ ∀ n H', H n = none -> Same H H' -> NumAt CN H' n (.str "none") (.int 0) (.int 0) (.int 0) -> Q (.ref n) H'
theorem U5c : FnScope [] [] (A1 A3e) := scK
theorem J0s {f fI CN : Addr} {fd fdI : FuncData} (D : Def K mg "nothing" [] A3e f fd) (N : Num K mg CN) (M : MakeN P w K mg base CN fI fdI) : FnOk P w K mg base (CX1 P w) 3 f fd [] (D3g CN) := by
 refine D.F.okE U5c (fun vs H Q E h => ?_) (fun X cdv A outer s H vs Q E hX hr hx h => ?_)
 . obtain ⟨rfl, _⟩ := h
   rfl
 . subst hX
   obtain ⟨rfl, k⟩ := h
   refine ⟨_, (A9 (B7 (D5j M.m M.g hr rfl N.g M.b .nil V3d (A0 B0 (A0 A3 (A0 A3 (A0 A3 A7))))))), ?_⟩
   exact made k
end
abbrev C4g : Stmt := (top 20)
section
variable {P : Program} {w : World} {K : Frag} {mg : Str -> Option Value} {base : Heap}
def V2b (CN : Addr) : Sp := fun vs H Q _ => ∃ n k s f p, vs = [.ref n] /\ NumAt CN H n k s (.int f) (.int p) /\ f.natAbs < 2 ^ 300 /\ Q (.int (p + ((Str.ofString (toString f)).length : Nat) - 1)) H
theorem Z3f : FnScope ["number"] ["number"] (A1 C4g) := scK
theorem Y9g {f CN : Addr} {fd : FuncData} (D : Def K mg "lead_of" ["number"] C4g f fd) (O : Own mg) (N : Num K mg CN) : FnOk P w K mg base (CX1 P w) 1 f fd ["number"] (V2b CN) := by
 refine D.F.okE Z3f (fun vs H Q E h => ?_) (fun X cdv A outer s H vs Q E hX hr hx h => ?_)
 . obtain ⟨n, a, b, c, d, rfl, _⟩ := h
   rfl
 . subst hX
   obtain ⟨n, a, b, fg, pw, rfl, ⟨dx, e⟩, hf, k⟩ := h
   refine ⟨_, (A9 (B7 (B3 U1 (B3 U3 (G0 (pv 0) rfl) (G9 A1x (by rfl) O.len_ PySem.boot_len (A0 (V4 A2b (by rfl) O.str_ boot_str (A0 (G0 (pv 0) rfl) A7)) A7))) A3))), ?_⟩
   have lg : fg.natAbs.log2 < 1920 := Nat.lt_trans (A5r hf (by decide)) (by decide)
   exact ⟨_, rfl, n, CN, dx, _, _, rfl, e, N.cl, N.n4, U5p _ _ _ _, _, rfl, n, CN, dx, _, _, rfl, e, N.cl, N.n3, J1t _ _ _ _, _, rfl, lg, _, rfl, int_text_fits lg, _, _, rfl, rfl, _, _, rfl, rfl, k⟩
end
abbrev Z4 : Stmt := (top 2)
abbrev A3b : Stmt := (top 3)
theorem D5d {x k : Nat} (h : x < 2 ^ k) (hk : k <= 1048576) : Builtin.Int.intBits (x : Int) <= 2 ^ 20 := by
 unfold Builtin.Int.intBits
 split
 . exact Nat.zero_le _
 . have z : (x : Int).natAbs ≠ 0 := by
     intro z
     rename_i hz
     exact hz (by simpa using z)
   have : (x : Int).natAbs.log2 < k := (Nat.log2_lt z).mpr h
   have e : (2 : Nat) ^ 20 = 1048576 := by decide
   omega
theorem C4a {b s j n : Nat} (hb : b < 2 ^ s) (hj : j <= n) (hn : n * s < 1048576) : Builtin.Int.intBits ((b ^ j : Nat) : Int) <= 2 ^ 20 := by
 refine D5d (k := n * s + 1) ?_ hn
 have a : b ^ j <= (2 ^ s) ^ j := Nat.pow_le_pow_left (Nat.le_of_lt hb) j
 have c : (2 ^ s) ^ j <= 2 ^ (n * s) := by
   rw [<- Nat.pow_mul, Nat.mul_comm n s]
   exact Nat.pow_le_pow_right (by decide) (Nat.mul_le_mul_left s hj)
 have d : 2 ^ (n * s) < 2 ^ (n * s + 1) := Nat.pow_lt_pow_right (by decide) (by omega)
 exact Nat.lt_of_le_of_lt a (Nat.lt_of_le_of_lt c d)
theorem B7j {b s i j n : Nat} (hb : b < 2 ^ s) (hi : i <= n) (hj : j <= n) (hn : n * s < 1048576) : IntMulOk ((b ^ i : Nat) : Int) ((b ^ j : Nat) : Int) := IntMulOk.of_bits (C4a hb hi hn) (C4a hb hj hn)
section
variable {P : Program} {w : World} {K : Frag} {mg : Str -> Option Value} {base : Heap}
def C2e : Sp := fun vs H Q _ => ∃ b n s : Nat, vs = [.int (b : Int), .int (n : Int)] /\ b < 2 ^ s /\ n * s < 1048576 /\ Q (.int ((b ^ n : Nat) : Int)) H
theorem scProductOf : FnScope ["whole", "count", "product"] ["whole", "count"] (A1 Z4) := scK
theorem D6j {f : Addr} {fd : FuncData} (D : Def K mg "product_of" ["whole", "count"] Z4 f fd) : FnOk P w K mg base (CX1 P w) 1 f fd ["whole", "count"] C2e := by
 refine FnOk.up (D.F.ok scProductOf (fun vs H Q E h => ?_) (fun cdv A outer s H vs Q E hr h => ?_))
 . obtain ⟨b, n, z, rfl, _⟩ := h
   rfl
 . obtain ⟨b, n, z, rfl, hb, hn, k⟩ := h
   refine ⟨_, (A6 (D0 (i := 2) scProductOf.nd rfl (Or.inl rfl) A3)
     (A6 (B6f PassesOwn.never (C5 B3h (pv 1) A3 (B9 _)) (A6 (G4 (C5 D5 (B3 D8 (pv 1) A3) A3 (B9 _)) (A9 (D0 (i := 2) scProductOf.nd rfl (Or.inl rfl) (B3 U4 (pv 2) (pv 0)))) C7)
     (A6 (D0 (i := 0) scProductOf.nd rfl (Or.inl rfl) (B3 U4 (pv 0) (pv 0)))
     (A9 (D0 (i := 1) scProductOf.nd rfl (Or.inl rfl) (B3 G3 (pv 1) A3))))))
     (A9 (B7 (pv 2))))), ?_⟩
   have d2 : (0 : Int) < 2 /\ (2 : Int).natAbs.log2 < 9000 := ⟨by decide, by decide +kernel⟩
   refine B6j (fun σ H2 => H2 = H /\ ∃ i m c : Nat, m + i * c = n /\ σ = [some (.int ((b ^ i : Nat) : Int)), some (.int (c : Int)), some (.int ((b ^ m : Nat) : Int))]) (fun σ _ => match σ with | [_, some (.int c), _] => c.toNat | _ => 0) ?_ ?_ ?_
   . exact ⟨rfl, 1, 0, n, by omega, by rw [Nat.pow_one]; rfl⟩
   . rintro σ H2 ⟨rfl, i, m, c, hc, rfl⟩
     refine ⟨_, rfl, _, _, rfl, rfl, _, rfl, G8 (fun h0 => ?_) (fun h0 => ?_)⟩
     . have c1 : 1 <= c := by
         have : (0 : Int) < c := h0
         omega
       have hi : i <= n := Nat.le_trans (Nat.le_mul_of_pos_right i c1) (by omega)
       have hm : m <= n := by omega
       have sq : ((b ^ i : Nat) : Int) * ((b ^ i : Nat) : Int) = ((b ^ (2 * i) : Nat) : Int) := by rw [Nat.two_mul, Nat.pow_add]; rfl
       have lt : ((c : Int) / 2).toNat < (c : Int).toNat := by omega
       refine ⟨_, rfl, _, _, rfl, rfl, d2.1, rfl, _, rfl, G8 (fun ho => ?_) (fun he => ?_)⟩
       . have ho : (c : Int) % 2 = 1 := by injection ho
         have mu : ((b ^ m : Nat) : Int) * ((b ^ i : Nat) : Int) = ((b ^ (m + i) : Nat) : Int) := by rw [Nat.pow_add]; rfl
         refine ⟨_, rfl, _, rfl, _, _, rfl, rfl, B7j hb hm hi hn, _, rfl, _, rfl, _, _, rfl, rfl, B7j hb hi hi hn, _, rfl, _, _, rfl, rfl, d2, ⟨rfl, 2 * i, m + i, c / 2, ?_, ?_⟩, lt⟩
         . have e : i * c = i * (2 * (c / 2) + 1) := congrArg (i * ·) (by omega)
           rw [Nat.mul_add, Nat.mul_one, <- Nat.mul_assoc, Nat.mul_comm i 2] at e
           omega
         . show [some (V.int (((b ^ i : Nat) : Int) * ((b ^ i : Nat) : Int))), some (V.int ((c : Int) / 2)), some (V.int (((b ^ m : Nat) : Int) * ((b ^ i : Nat) : Int)))] = _
           rw [sq, mu]
           rfl
       . have he : ¬ (c : Int) % 2 = 1 := fun z => he (congrArg V.int z)
         refine ⟨_, rfl, _, rfl, _, _, rfl, rfl, B7j hb hi hi hn, _, rfl, _, _, rfl, rfl, d2, ⟨rfl, 2 * i, m, c / 2, ?_, ?_⟩, lt⟩
         . have e : i * c = i * (2 * (c / 2)) := congrArg (i * ·) (by omega)
           rw [<- Nat.mul_assoc, Nat.mul_comm i 2] at e
           omega
         . show [some (V.int (((b ^ i : Nat) : Int) * ((b ^ i : Nat) : Int))), some (V.int ((c : Int) / 2)), some (V.int ((b ^ m : Nat) : Int))] = _
           rw [sq]
           rfl
     . have c0 : c = 0 := by
         have : ¬ (0 : Int) < c := h0
         omega
       subst c0
       have hm : m = n := by omega
       subst hm
       exact ⟨_, rfl, k⟩
   . rintro σ H2 Q1 Q2 hQ ⟨v, e, i, j, e1, e2, b, e3, q⟩
     exact ⟨v, e, i, j, e1, e2, b, e3, hQ _ _ q⟩
def B6c : Sp := fun vs H Q _ => ∃ n : Nat, vs = [.int (n : Int)] /\ n <= 4000 /\ Q (.int ((10 ^ n : Nat) : Int)) H
theorem Y8w : FnScope ["count"] ["count"] (A1 A3b) := scK
theorem V4a {f f1 : Addr} {fd fd1 : FuncData} (D : Def K mg "ten_to" ["count"] A3b f fd) (D_product_of : Def K mg "product_of" ["whole", "count"] Z4 f1 fd1) (G_product_of : FnOk P w K mg base (CX1 P w) 1 f1 fd1 ["whole", "count"] C2e) : FnOk P w K mg base (CX1 P w) 2 f fd ["count"] B6c := by
 refine FnOk.up (D.F.ok Y8w (fun vs H Q E h => ?_) (fun cdv A outer s H vs Q E hr h => ?_))
 . obtain ⟨n, rfl, _⟩ := h
   rfl
 . obtain ⟨n, rfl, hn, k⟩ := h
   have hx : D6 (Z3 CX0 P w K mg base ["count"] "ten_to" (A1 A3b) f cdv A outer s H E).nox EKF := Y3
   refine ⟨_, (A9 (B7 (C8 D_product_of G_product_of hr hx (A0 A3 (A0 (pv 0) A7))))), ?_⟩
   exact ⟨_, rfl, 10, n, 4, rfl, by decide, by omega, k⟩
end
inductive Kd where
 | plain | end_ | none
def Kd.str : Kd -> Str
 | .plain => "plain"
 | .end_ => "end"
 | .none => "none"
theorem Kd.str_inj {a b : Kd} (h : a.str = b.str) : a = b := by
 cases a <;> cases b <;> first | rfl | exact absurd h (by decide +kernel)
structure Nm where
 k : Kd
 s : Int
 f : Int
 p : Int
def Nm.vs (x : Nm) : List V := [.str x.k.str, .int x.s, .int x.f, .int x.p]
structure Nm.Ok (x : Nm) : Prop where
 s0 : 0 <= x.s
 s1 : x.s <= 1
 f0 : 0 <= x.f
 f1 : x.f <= 10 ^ 60 - 1
 p0 : -200 <= x.p
 p1 : x.p <= 200
def NumIs (CN : Addr) (H : Hp) (n : Addr) (x : Nm) : Prop := NumAt CN H n (.str x.k.str) (.int x.s) (.int x.f) (.int x.p)
theorem NumIs.same {CN : Addr} {H H' : Hp} {n : Addr} {x : Nm} (h : NumIs CN H n x) (e : Same H H') : NumIs CN H' n x := NumAt.same h e
def B5 (n : Int) : Int := ((10 ^ n.toNat : Nat) : Int)
theorem U6 (n : Int) : 0 < B5 n := Int.natCast_pos.mpr (Nat.pow_pos (by decide))
theorem neS {a b : Kd} (h : ¬ V.str a.str = V.str b.str) : a ≠ b := fun q => h (by rw [q])
theorem eqS {a b : Kd} (h : V.str a.str = V.str b.str) : a = b := Kd.str_inj (by injection h)
theorem U5r {d : Int} (h : d <= 4000) : Builtin.Int.intBits (B5 d) <= 2 ^ 20 := C4a (b := 10) (s := 4) (n := 4000) (by decide) (by omega) (by decide)
def G2 (left low : Int) : Int := (if decide (0 < left) = true then 1 else 0) + (if decide (low <= 2 * left) = true then 1 else 0) + (if decide (low < 2 * left) = true then 1 else 0)
theorem Z6z (s : Int) : (if (0 : Int) > s then 0 else s) = ((s.toNat : Nat) : Int) := by
 by_cases h : (0 : Int) > s
 . rw [if_pos h]; omega
 . rw [if_neg h]; omega
def Y7 (t b s : Int) : Prop := b * B5 (-s) <= t * B5 s /\ t * B5 s < 10 * (b * B5 (-s))
theorem C4q {s r : Int} (h : s <= r) : B5 r * B5 (-s) = B5 s * B5 (-r) * B5 (r - s) := by
 unfold B5
 rw [<- Int.natCast_mul, <- Int.natCast_mul, <- Int.natCast_mul, <- Nat.pow_add, <- Nat.pow_add, <- Nat.pow_add]
 congr 2
 omega
theorem Y8b {d : Int} (h : 1 <= d) : 10 <= B5 d := by
 unfold B5
 have : 10 ^ 1 <= 10 ^ d.toNat := Nat.pow_le_pow_right (by decide) (by omega)
 omega
theorem B2m {a b : Int} (h : a <= b) : B5 a <= B5 b := by
 unfold B5
 exact Int.ofNat_le.mpr (Nat.pow_le_pow_right (by decide) (by omega))
theorem U2x {t b s r : Int} (hb : 0 < b) (h1 : Y7 t b s) (h2 : Y7 t b r) : r <= s := by
 apply Classical.byContradiction
 intro h
 have hs : s <= r := by omega
 have c := C4q hs
 have g := Y8b (d := r - s) (by omega)
 have p1 := U6 (-s)
 have p2 := U6 (-r)
 have l1 : 0 < b * B5 (-s) := Int.mul_pos hb p1
 have l2 : 0 < b * B5 (-r) := Int.mul_pos hb p2
 have e : t * B5 r * (b * B5 (-s)) = t * B5 s * (b * B5 (-r)) * B5 (r - s) := by
   calc t * B5 r * (b * B5 (-s)) = t * b * (B5 r * B5 (-s)) := by ac_rfl
     _ = t * b * (B5 s * B5 (-r) * B5 (r - s)) := by rw [c]
     _ = t * B5 s * (b * B5 (-r)) * B5 (r - s) := by ac_rfl
 have a1 : t * B5 r * (b * B5 (-s)) < 10 * (b * B5 (-r)) * (b * B5 (-s)) := Int.mul_lt_mul_of_pos_right h2.2 l1
 have hp : 0 < t * B5 s := Int.lt_of_lt_of_le l1 h1.1
 have a2 : t * B5 s * (b * B5 (-r)) * 10 <= t * B5 s * (b * B5 (-r)) * B5 (r - s) := Int.mul_le_mul_of_nonneg_left g (Int.le_of_lt (Int.mul_pos hp l2))
 have a3 : b * B5 (-s) * (b * B5 (-r)) <= t * B5 s * (b * B5 (-r)) := Int.mul_le_mul_of_nonneg_right h1.1 (Int.le_of_lt l2)
 have e2 : 10 * (b * B5 (-r)) * (b * B5 (-s)) = b * B5 (-s) * (b * B5 (-r)) * 10 := by ac_rfl
 have a4 : b * B5 (-s) * (b * B5 (-r)) * 10 <= t * B5 s * (b * B5 (-r)) * 10 := Int.mul_le_mul_of_nonneg_right a3 (by decide)
 rw [e] at a1
 rw [e2] at a1
 exact absurd (Int.lt_of_lt_of_le a1 (Int.le_trans a4 a2)) (Int.lt_irrefl _)
theorem D6h {t b s r : Int} (hb : 0 < b) (h1 : Y7 t b s) (h2 : Y7 t b r) : s = r := Int.le_antisymm (U2x hb h2 h1) (U2x hb h1 h2)
def Sz (t : Int) : Prop := 1 <= t /\ t < B5 1000
theorem U3g (n : Nat) : 10 ^ n <= 2 ^ (4 * n) := by
 rw [Nat.pow_mul]
 exact Nat.pow_le_pow_left (by decide) n
theorem G6j (n : Nat) : 10 ^ (3 * n) <= 2 ^ (10 * n) := by
 rw [Nat.pow_mul, Nat.pow_mul]
 exact Nat.pow_le_pow_left (by decide) n
theorem Sz.nat {t : Int} (h : Sz t) : ∃ n : Nat, t = (n : Int) /\ 1 <= n /\ n < 10 ^ 1000 := by
 obtain ⟨n, rfl⟩ := Int.eq_ofNat_of_zero_le (show 0 <= t by have := h.1; omega)
 exact ⟨n, rfl, Int.ofNat_le.mp h.1, Int.ofNat_lt.mp h.2⟩
theorem D4x {t s : Int} (ht : Sz t) (h : s <= 1500) : ∃ n : Nat, t * B5 s = (n : Int) /\ n < 10 ^ 2502 := by
 obtain ⟨n, rfl, _, hn⟩ := ht.nat
 refine ⟨n * 10 ^ s.toNat, rfl, ?_⟩
 have a : 10 ^ s.toNat <= 10 ^ 1502 := Nat.pow_le_pow_right (by decide) (by omega)
 calc n * 10 ^ s.toNat <= n * 10 ^ 1502 := Nat.mul_le_mul_left n a
   _ < 10 ^ 1000 * 10 ^ 1502 := Nat.mul_lt_mul_of_pos_right hn (Nat.pow_pos (by decide))
   _ = 10 ^ 2502 := by rw [<- Nat.pow_add]
theorem G4y {n : Nat} (h : n < 10 ^ 2502) : Builtin.Int.intBits (n : Int) <= 2 ^ 20 := D5d (k := 4 * 2502) (Nat.lt_of_lt_of_le h (U3g 2502)) (by decide)
theorem Y7b {t : Int} (h : Sz t) : Builtin.Int.intBits t <= 2 ^ 20 := by
 obtain ⟨n, rfl, _, hn⟩ := h.nat
 exact D5d (k := 4 * 1000) (Nat.lt_of_lt_of_le hn (U3g 1000)) (by decide)
theorem A9c {t s : Int} (ht : Sz t) (h : s <= 1500) : IntMulOk t (B5 s) := IntMulOk.of_bits (Y7b ht) (U5r (by omega))
theorem J1u {b s : Int} (hb : Sz b) (h : s <= 1500) : (b * B5 s).natAbs.log2 < 9000 := by
 obtain ⟨n, e, hn⟩ := D4x hb h
 rw [e]
 have : n < 2 ^ 8340 := Nat.lt_of_lt_of_le hn (G6j 834)
 exact Nat.lt_trans (A5r (i := (n : Int)) (k := 8340) (by rw [Int.natAbs_natCast]; exact this) (by decide)) (by decide)
def whI (t b s : Int) : Int := t * B5 s / (b * B5 (-s))
def ptI (t b s : Int) : Int := G2 (t * B5 s - whI t b s * (b * B5 (-s))) (b * B5 (-s))
theorem U2j {t b s : Int} (hb : 0 < b) : 0 <= t * B5 s - whI t b s * (b * B5 (-s)) /\ t * B5 s - whI t b s * (b * B5 (-s)) < b * B5 (-s) := by
 have l := Int.mul_pos hb (U6 (-s))
 have e := Int.emod_add_mul_ediv (t * B5 s) (b * B5 (-s))
 have a := Int.emod_nonneg (t * B5 s) (Int.ne_of_gt l)
 have c := Int.emod_lt_of_pos (t * B5 s) l
 have e2 : whI t b s * (b * B5 (-s)) = b * B5 (-s) * (t * B5 s / (b * B5 (-s))) := Int.mul_comm _ _
 omega
theorem Z8t {t b s : Int} (ht : Sz t) (hb : Sz b) (h1 : -1500 <= s) (h2 : s <= 1500) : IntMulOk (whI t b s) (b * B5 (-s)) := by
 obtain ⟨n, e, hn⟩ := D4x hb (s := -s) (by omega)
 obtain ⟨k, e', hk⟩ := D4x ht h2
 unfold whI
 rw [e, e']
 exact IntMulOk.of_bits (G4y (Nat.lt_of_le_of_lt (Nat.div_le_self k n) hk)) (G4y hn)
abbrev A5v : Stmt := (D7 (top 6) 0)
structure RatC (K : Frag) (mg : Str -> Option Value) (CR CE : Addr) : Prop where
 g : mg "Ratio" = some (.ref CR)
 ge : mg "Exact" = some (.ref CE)
 cl : Cls K CR
 n_top : NoAttr K CR "top"
 n_bottom : NoAttr K CR "bottom"
 n_power : NoAttr K CR "power"
 ca : findIn K (.ref CR) "__class__" = some (some (.builtin "object.__class__"))
 sn : specialIn K (.builtin "object.__class__") "__get__" = some (some (.builtin "getset_descriptor.__get__"))
 tk : takesIn K (.builtin "object.__class__") = some true
 ob : mroIn K CR (.type "object") = some true
 up : kitOne K (.ref CR) (.ref CE) = some true
def D4w (t b n : V) : List (Str × V) := V0 "power" n (V0 "bottom" b (V0 "top" t []))
theorem C3k (t b n : V) (x : Str) : (D4w t b n).lookup x = if x = "power" then some n else if x = "bottom" then some b else if x = "top" then some t else none := by
 unfold D4w
 rw [D3, D3, D3]
 rfl
theorem U3j (t b n : V) : (D4w t b n).lookup ("top" : Str) = some t := by rw [C3k, if_neg (by decide +kernel), if_neg (by decide +kernel), if_pos rfl]
theorem C3d (t b n : V) : (D4w t b n).lookup ("bottom" : Str) = some b := by rw [C3k, if_neg (by decide +kernel), if_pos rfl]
theorem D2e (t b n : V) : (D4w t b n).lookup ("power" : Str) = some n := by rw [C3k, if_pos rfl]
theorem B6b (t b n : V) : (D4w t b n).lookup ("first" : Str) = none := by rw [C3k, if_neg (by decide +kernel), if_neg (by decide +kernel), if_neg (by decide +kernel)]
theorem B7n (t b n : V) : (D4w t b n).lookup ("at" : Str) = none := by rw [C3k, if_neg (by decide +kernel), if_neg (by decide +kernel), if_neg (by decide +kernel)]
def RatAt (CR : Addr) (H : Hp) (x : Addr) (t b n : Int) : Prop := ∃ dx, H x = some (.ins CR dx (D4w (.int t) (.int b) (.int n)))
theorem RatAt.same {CR : Addr} {H H' : Hp} {x : Addr} {t b n : Int} (h : RatAt CR H x t b n) (s : Same H H') : RatAt CR H' x t b n := by
 obtain ⟨dx, e⟩ := h
 exact ⟨dx, s _ _ e⟩
section
variable {P : Program} {w : World} {K : Frag} {mg : Str -> Option Value} {base : Heap}
def D4t (CR : Addr) : Sp := fun vs H Q _ => ∃ (p dx : Addr) (t b n : V), vs = [.ref p, t, b, n] /\ H p = some (.ins CR dx []) /\ ∀ H', H' p = some (.ins CR dx (D4w t b n)) -> Exc p H H' -> Q .non H'
theorem Y7w : FnScope ["self", "top", "bottom", "power"] ["self", "top", "bottom", "power"] (A1 A5v) := scK
theorem V3a {f CR CE : Addr} {fd : FuncData} {dV : Value} (F : FunD K "__init__" "Ratio.__init__" A5v dV f fd) (R : RatC K mg CR CE) : FnOk P w K mg base (CX1 P w) 1 f fd ["self", "top", "bottom", "power"] (D4t CR) := by
 refine F.okE Y7w (fun vs H Q E h => ?_) (fun X cdv A outer s H vs Q E hX hr hx h => ?_)
 . obtain ⟨p, dx, a, b, c, rfl, _⟩ := h
   rfl
 . subst hX
   obtain ⟨p, dx, a, b, c, rfl, hp, k⟩ := h
   refine ⟨_, (A6 (Z2 (pv 0) (pv 1) rfl)
     (A6 (Z2 (pv 0) (pv 2) rfl)
     (A9 (Z2 (pv 0) (pv 3) rfl)))), ?_⟩
   have l : ∀ (fs : List (Str × V)) (f : Str) (v : V) (n : Nat), fs.length <= n -> (V0 f v fs).length <= n + 1 := fun fs f v n h => Nat.le_trans (A0z f v fs) (Nat.succ_le_succ h)
   refine ⟨_, rfl, _, rfl, p, CR, dx, [], rfl, hp, R.cl, R.n_top, (by show 0 < 1000; decide), ?_⟩
   refine ⟨_, rfl, _, rfl, p, CR, dx, _, rfl, A8, R.cl, R.n_bottom, Nat.lt_of_le_of_lt (l _ _ _ 0 (Nat.le_refl _)) (by decide), ?_⟩
   refine ⟨_, rfl, _, rfl, p, CR, dx, _, rfl, A8, R.cl, R.n_power, Nat.lt_of_le_of_lt (l _ _ _ 1 (l _ _ _ 0 (Nat.le_refl _))) (by decide), ?_⟩
   refine k _ A8 fun b o e hb => ?_
   rw [C4 hb, C4 hb, C4 hb]
   exact e
def G4s (CR : Addr) : Sp := fun vs H Q _ => ∃ x t b n, vs = [.ref x] /\ RatAt CR H x t b n /\ Sz t /\ Sz b /\ ∀ f H', Same H H' -> Y7 t b (n - f) -> Q (.int f) H'
def V3j (CR : Addr) : Sp := fun vs H Q _ => ∃ x t b n p, vs = [.ref x, .int p] /\ RatAt CR H x t b n /\ Sz t /\ Sz b /\ -1500 <= n - p /\ n - p <= 1500 /\
 ∀ q H', Same H H' -> H q = none -> H' q = some (.tup [.int (whI t b (n - p)), .int (ptI t b (n - p))]) -> Q (.ref q) H'
structure MakeR (P : Program) (w : World) (K : Frag) (mg : Str -> Option Value) (base : Heap) (CR fI : Addr) (fdI : FuncData) (d0 : Value) (gP : List Value -> List Value -> List Value) (vP : List V -> List V -> List V) : Prop where
 m : Mk K CR fI
 g : FnOk P w K mg base (CX1 P w) 1 fI fdI ["self", "top", "bottom", "power"] (D4t CR)
 b3 : Binds K fdI ["self", "top", "bottom", "power"] []
 b2 : Binds K fdI ["self", "top", "bottom", "power"] [d0]
 r0 : RelV (.int 0) d0
 kP : KBinds K fdI ["self", "top", "bottom", "power"] ["power"] gP vP
 eP : ∀ x a b c, vP [x, a, b] [c] = [x, a, b, c]
structure RatM (P : Program) (w : World) (K : Frag) (mg : Str -> Option Value) (base : Heap) (CR f1 f2 : Addr) (fd1 fd2 : FuncData) : Prop where
 m1 : Meth K CR "first" f1
 g1 : FnOk P w K mg base (CX1 P w) 4 f1 fd1 ["self"] (G4s CR)
 b1 : Binds K fd1 ["self"] []
 m2 : Meth K CR "at" f2
 g2 : FnOk P w K mg base (CX1 P w) 3 f2 fd2 ["self", "power"] (V3j CR)
 b2 : Binds K fd2 ["self", "power"] []
theorem Z1g {CR x dx : Addr} {H : Hp} {Q : VK} {E : XK} {t b n : Int} (n1 : H x = none) (n2 : H dx = none) (ne : dx ≠ x) (k : ∀ H', Same H H' -> RatAt CR H' x t b n -> Q .non H') :
   D4t CR [.ref x, .int t, .int b, .int n] (upd (upd H dx (.own x)) x (.ins CR dx [])) Q E :=
 ⟨x, dx, _, _, _, rfl, A8, fun H' e s => k H' (fun c o z => s c o (by rw [C4 (C9 z n1), C4 (C9 z n2)]; exact z) (C9 z n1)) ⟨dx, e⟩⟩
end
abbrev A5x : Stmt := (top 7)
section
variable {P : Program} {w : World} {K : Frag} {mg : Str -> Option Value} {base : Heap}
def G4q : Sp := fun vs H Q _ => ∃ l m : Int, vs = [.int (2 * l), .int m] /\ 0 <= l /\ 0 < m /\ Q (.int (G2 l m)) H
theorem V1a : FnScope ["size", "middle"] ["size", "middle"] (A1 A5x) := scK
theorem Y8u {m : Int} (hm : 0 < m) : G2 0 m = 0 := by
 unfold G2
 rw [decide_eq_false (by omega : ¬ (0 : Int) < 0), decide_eq_false (by omega : ¬ m <= 2 * 0), decide_eq_false (by omega : ¬ m < 2 * 0)]
 rfl
theorem Y8e {l m : Int} (hl : 0 < l) (h : 2 * l < m) : G2 l m = 1 := by
 unfold G2
 rw [decide_eq_true hl, decide_eq_false (by omega : ¬ m <= 2 * l), decide_eq_false (by omega : ¬ m < 2 * l)]
 rfl
theorem Y9k {l m : Int} (hl : 0 < l) (h : 2 * l = m) : G2 l m = 2 := by
 unfold G2
 rw [decide_eq_true hl, decide_eq_true (by omega : m <= 2 * l), decide_eq_false (by omega : ¬ m < 2 * l)]
 rfl
theorem Y8d {l m : Int} (hl : 0 < l) (h : m < 2 * l) : G2 l m = 3 := by
 unfold G2
 rw [decide_eq_true hl, decide_eq_true (by omega : m <= 2 * l), decide_eq_true h]
 rfl
theorem U5x {f : Addr} {fd : FuncData} (D : Def K mg "part_of" ["size", "middle"] A5x f fd) : FnOk P w K mg base (CX1 P w) 1 f fd ["size", "middle"] G4q := by
 refine FnOk.up (D.F.ok V1a (fun vs H Q E h => ?_) (fun cdv A outer s H vs Q E hr h => ?_))
 . obtain ⟨l, m, rfl, _⟩ := h
   rfl
 . obtain ⟨l, m, rfl, hl, hm, k⟩ := h
   refine ⟨_, (A6 (G4 (C5 D5 (pv 0) A3 (B9 _)) (A9 (B7 A3)) C7)
     (A6 (G4 (C5 D3h (pv 0) (pv 1) (B9 _)) (A9 (B7 A3)) C7)
     (A9 (B7 (A1a (C5 D5 (pv 0) (pv 1) (B9 _)) A3 A3))))), ?_⟩
   refine ⟨_, rfl, rfl, _, rfl, G8 (fun h0 => ?_) (fun h0 => ?_)⟩
   . have e : l = 0 := by
       have : 2 * l = 0 := by injection h0
       omega
     subst e
     rw [Y8u hm] at k
     exact k
   . have hl' : 0 < l := by
       apply Classical.byContradiction
       intro z
       exact h0 (by rw [show l = 0 by omega]; rfl)
     refine ⟨_, rfl, _, rfl, _, _, rfl, rfl, _, rfl, G8 (fun h1 => ?_) (fun h1 => ?_)⟩
     . rw [Y8e hl' h1] at k
       exact k
     . refine ⟨_, rfl, _, rfl, rfl, _, rfl, G8 (fun h2 => ?_) (fun h2 => ?_)⟩
       . rw [Y9k hl' (by injection h2)] at k
         exact k
       . rw [Y8d hl' (by
           have : 2 * l ≠ m := fun z => h2 (by rw [z])
           omega)] at k
         exact k
end
abbrev A9j : Stmt := (top 8)
theorem J1e (k : Nat) : 10 ^ (k * 301029995 / 10 ^ 9) <= 2 ^ k := by
 have hm : k * 301029995 / 10 ^ 9 * 28738 <= k * 8651 := by
   have : k * 301029995 / 10 ^ 9 * 10 ^ 9 <= k * 301029995 := Nat.div_mul_le_self _ _
   omega
 generalize k * 301029995 / 10 ^ 9 = m at hm
 have c : (10 : Nat) ^ 8651 <= 2 ^ 28738 := by decide +kernel
 have a : (10 ^ m) ^ 8651 <= (2 ^ k) ^ 8651 := by
   calc (10 ^ m) ^ 8651 = (10 ^ 8651) ^ m := by rw [<- Nat.pow_mul, <- Nat.pow_mul, Nat.mul_comm]
     _ <= (2 ^ 28738) ^ m := Nat.pow_le_pow_left c m
     _ = 2 ^ (m * 28738) := by rw [<- Nat.pow_mul, Nat.mul_comm]
     _ <= 2 ^ (k * 8651) := Nat.pow_le_pow_right (by decide) hm
     _ = (2 ^ k) ^ 8651 := by rw [<- Nat.pow_mul]
 exact (Nat.pow_le_pow_iff_left (by decide)).mp a
section
variable {P : Program} {w : World} {K : Frag} {mg : Str -> Option Value} {base : Heap}
def U1u : Sp := fun vs H Q _ => ∃ n : Nat, vs = [.int (n : Int)] /\ 1 <= n /\ n < 10 ^ 3000 /\ ∀ L : Nat, 10 ^ L <= n -> n < 10 ^ (L + 1) -> Q (.int (L : Int)) H
theorem scWLead : FnScope ["whole", "lead", "beyond"] ["whole"] (A1 A9j) := scK
theorem V2f {f f1 : Addr} {fd fd1 : FuncData} (D : Def K mg "whole_lead" ["whole"] A9j f fd) (D_ten_to : Def K mg "ten_to" ["count"] A3b f1 fd1) (G_ten_to : FnOk P w K mg base (CX1 P w) 2 f1 fd1 ["count"] B6c) : FnOk P w K mg base (CX1 P w) 3 f fd ["whole"] U1u := by
 refine FnOk.up (D.F.ok scWLead (fun vs H Q E h => ?_) (fun cdv A outer s H vs Q E hr h => ?_))
 . obtain ⟨n, rfl, _⟩ := h
   rfl
 . obtain ⟨n, rfl, n1, n2, k⟩ := h
   have hx : D6 (Z3 CX0 P w K mg base ["whole", "lead", "beyond"] "whole_lead" (A1 A9j) f cdv A outer s H E).nox EKF := Y3
   refine ⟨_, (A6 (B8 (D0 (i := 1) scWLead.nd rfl (Or.inl rfl) (B3 G3 (B3 U4 (B3 U1 (Z3q PySem.F.plainAttrs_int PySem.F.slot_int_bit_length PySem.F.type_int_bit_length C8p (pv 0)) A3) A3) (B3 V0w A3 A3))))
     (A6 (B8 (D0 (i := 2) scWLead.nd rfl (Or.inl rfl) (C8 D_ten_to G_ten_to hr hx (A0 (B3 U3 (pv 1) A3) A7))))
     (A6 (B8 (B6f PassesOwn.never (C5 Z1s (pv 2) (pv 0) (B9 _)) (A6 (Z2k (i := 1) scWLead.nd rfl (Or.inl rfl) A3 Z2h)
     (A9 (D0 (i := 2) scWLead.nd rfl (Or.inl rfl) (B3 U4 (pv 2) A3))))))
     (A9 (B7 (pv 1)))))), ?_⟩
   have mC : ∀ z n : Int, -(2 ^ 64) < n -> n < 2 ^ 64 -> IntMulOk z n := fun z n a b => CMul.ok (.inr ⟨a, b⟩)
   have pw : Y9j 10 9 := ⟨by decide, by decide, by decide⟩
   have l3 : ∀ {L : Nat}, 10 ^ L <= n -> L < 3000 := fun hL => (Nat.pow_lt_pow_iff_right (by decide : 1 < 10)).mp (Nat.lt_of_le_of_lt hL n2)
   refine ⟨fun σ H' => H' = H /\ ∃ L : Nat, 10 ^ L <= n /\ σ = [some (.int (n : Int)), some (.int (L : Int)), none], ?_, ?_⟩
   . refine ⟨_, rfl, rfl, _, rfl, rfl, _, _, rfl, rfl, _, _, rfl, rfl, mC _ _ (by decide) (by decide), _, _, rfl, rfl, pw, _, _, rfl, rfl, ⟨by decide, by decide +kernel⟩, rfl, n.log2 * 301029995 / 10 ^ 9, ?_, ?_⟩
     . exact Nat.le_trans (J1e _) (Nat.log2_self_le (by omega))
     . have e : (Builtin.Int.intBits (n : Int) : Nat) = n.log2 + 1 := by
         unfold Builtin.Int.intBits
         rw [if_neg (by simp; omega)]
         rfl
       show [some (V.int (n : Int)), some (V.int ((((Builtin.Int.intBits (n : Int) : Nat) : Int) - 1) * 301029995 / (10 ^ Int.toNat 9 : Int))), none] = _
       rw [e, show ((n.log2 + 1 : Nat) : Int) - 1 = (n.log2 : Int) by omega]
       rfl
   rintro σ H' ⟨rfl, L0, hL0, rfl⟩
   refine ⟨fun σ H2 => H2 = H' /\ ∃ L : Nat, 10 ^ L <= n /\ σ = [some (.int (n : Int)), some (.int (L : Int)), some (.int ((10 ^ (L + 1) : Nat) : Int))], ?_, ?_⟩
   . have := l3 hL0
     exact ⟨_, rfl, _, _, rfl, rfl, L0 + 1, rfl, by omega, rfl, L0, hL0, rfl⟩
   rintro σ H2 ⟨rfl, L1, hL1, rfl⟩
   refine ⟨fun σ H3 => H3 = H2 /\ ∃ L : Nat, 10 ^ L <= n /\ n < 10 ^ (L + 1) /\ σ = [some (.int (n : Int)), some (.int (L : Int)), some (.int ((10 ^ (L + 1) : Nat) : Int))], ?_, ?_⟩
   . refine B6j (fun σ H3 => H3 = H2 /\ ∃ L : Nat, 10 ^ L <= n /\ σ = [some (.int (n : Int)), some (.int (L : Int)), some (.int ((10 ^ (L + 1) : Nat) : Int))]) (fun σ _ => match σ with | [_, some (.int c), _] => n - c.toNat | _ => 0) ?_ ?_ ?_
     . exact ⟨rfl, L1, hL1, rfl⟩
     . rintro σ H3 ⟨rfl, L, hL, rfl⟩
       refine ⟨_, rfl, _, rfl, _, _, rfl, rfl, _, rfl, G8 (fun hle => ?_) (fun hgt => ?_)⟩
       . have hle : 10 ^ (L + 1) <= n := Int.ofNat_le.mp hle
         refine ⟨_, rfl, _, _, rfl, rfl, _, rfl, _, _, rfl, rfl, mC _ _ (by decide) (by decide), ⟨rfl, L + 1, hle, ?_⟩, ?_⟩
         . show [some (V.int (n : Int)), some (V.int ((L : Int) + 1)), some (V.int (((10 ^ (L + 1) : Nat) : Int) * 10))] = _
           rw [show ((10 ^ (L + 1) : Nat) : Int) * 10 = ((10 ^ (L + 1 + 1) : Nat) : Int) by rw [Nat.pow_succ 10 (L + 1)]; rfl]
           rfl
         have lt : L + 1 < 10 ^ (L + 1) := Nat.lt_pow_self (by decide)
         show n - ((L : Int) + 1).toNat < n - (L : Int).toNat
         omega
       . have hgt : ¬ 10 ^ (L + 1) <= n := fun z => hgt (Int.ofNat_le.mpr z)
         exact ⟨rfl, L, hL, by omega, rfl⟩
     . rintro σ H2 Q1 Q2 hQ ⟨v, e, v2, e4, i2, j2, e5, e6, b, e7, q⟩
       exact ⟨v, e, v2, e4, i2, j2, e5, e6, b, e7, hQ _ _ q⟩
   rintro σ H3 ⟨rfl, L, h1, h2, rfl⟩
   exact ⟨_, rfl, k L h1 h2⟩
end
abbrev C4u : Stmt := (D7 (top 6) 2)
abbrev A2q : Stmt := (D7 (top 6) 1)
section
variable {P : Program} {w : World} {K : Frag} {mg : Str -> Option Value} {base : Heap}
theorem scRAt : FnScope ["self", "power", "shift", "top", "bottom", "whole"] ["self", "power"] (A1 C4u) := scK
theorem Z1z {f f1 f2 CR CE : Addr} {fd fd1 fd2 : FuncData} (F : Fun K "at" "Ratio.at" C4u f fd) (D_ten_to : Def K mg "ten_to" ["count"] A3b f1 fd1) (G_ten_to : FnOk P w K mg base (CX1 P w) 2 f1 fd1 ["count"] B6c)
   (D_part_of : Def K mg "part_of" ["size", "middle"] A5x f2 fd2) (G_part_of : FnOk P w K mg base (CX1 P w) 1 f2 fd2 ["size", "middle"] G4q) (R : RatC K mg CR CE) (O : Own mg) : FnOk P w K mg base (CX1 P w) 3 f fd ["self", "power"] (V3j CR) := by
 refine FnOk.up (F.ok scRAt (fun vs H Q E h => ?_) (fun cdv A outer s H vs Q E hr h => ?_))
 . obtain ⟨x, t, b, n, p, rfl, _⟩ := h
   rfl
 . obtain ⟨x, t, b, n, p, rfl, ⟨dx, e⟩, ht, hb, h1, h2, k⟩ := h
   have hx : D6 (Z3 CX0 P w K mg base ["self", "power", "shift", "top", "bottom", "whole"] "Ratio.at" (A1 C4u) f cdv A outer s H E).nox EKF := Y3
   refine ⟨_, (A6 (D0 (i := 2) scRAt.nd rfl (Or.inl rfl) (B3 U1 (G0 (pv 0) rfl) (pv 1)))
     (A6 (D0 (i := 3) scRAt.nd rfl (Or.inl rfl) (B3 U4 (G0 (pv 0) rfl) (C8 D_ten_to G_ten_to hr hx (A0 (G9 (V9 rfl) (by rfl) O.max_ boot_max (A0 (pv 2) (A0 A3 A7))) A7))))
     (A6 (D0 (i := 4) scRAt.nd rfl (Or.inl rfl) (B3 U4 (G0 (pv 0) rfl) (C8 D_ten_to G_ten_to hr hx (A0 (G9 (V9 rfl) (by rfl) O.max_ boot_max (A0 (D2h B7p (pv 2)) (A0 A3 A7))) A7))))
     (A6 (D0 (i := 5) scRAt.nd rfl (Or.inl rfl) (B3 G3 (pv 3) (pv 4)))
     (A9 (B7 (V1 (A0 (pv 5) (A0 (C8 D_part_of G_part_of hr hx (A0 (B3 U4 A3 (B3 U1 (pv 3) (B3 U4 (pv 5) (pv 4)))) (A0 (pv 4) A7))) A7))))))))), ?_⟩
   have z2 : 2 <= sizeLine := C6 (by decide)
   have mC' : ∀ z n : Int, -(2 ^ 64) < n -> n < 2 ^ 64 -> IntMulOk n z := fun z n a b => CMul.ok (.inl ⟨a, b⟩)
   have hb0 : 0 < b := by have := hb.1; omega
   refine ⟨_, rfl, x, CR, dx, _, _, rfl, e, R.cl, R.n_power, D2e _ _ _, _, rfl, _, _, rfl, rfl, ?_⟩
   refine ⟨_, rfl, x, CR, dx, _, _, rfl, e, R.cl, R.n_top, U3j _ _ _, _, rfl, _, _, rfl, (n - p).toNat, congrArg (fun z => [V.int z]) (Z6z (n - p)), by omega, _, _, rfl, rfl, A9c ht h2, ?_⟩
   refine ⟨_, rfl, x, CR, dx, _, _, rfl, e, R.cl, R.n_bottom, C3d _ _ _, _, rfl, _, rfl, _, _, rfl, (-(n - p)).toNat, congrArg (fun z => [V.int z]) (Z6z (-(n - p))), by omega, _, _, rfl, rfl, A9c hb (by omega), ?_⟩
   have lp : 0 < b * B5 (-(n - p)) := Int.mul_pos hb0 (U6 _)
   have ll : (b * B5 (-(n - p))).natAbs.log2 < 9000 := J1u hb (by omega)
   refine ⟨_, rfl, _, rfl, _, _, rfl, rfl, ⟨lp, ll⟩, ?_⟩
   have lf := U2j (t := t) (s := n - p) hb0
   refine ⟨_, rfl, _, rfl, _, rfl, _, rfl, _, _, rfl, rfl, Z8t ht hb h1 h2, _, _, rfl, rfl, _, _, rfl, rfl, mC' _ _ (by decide) (by decide), _, rfl, _, _, rfl, lf.1, lp, z2, fun q nq => k q _ (Same.upd nq) nq A8⟩
end
theorem Z3h {t b L M u v : Nat} (h : L + u = M + v) (t2 : t < 10 ^ (L + 1)) (b1 : 10 ^ M <= b) : t * 10 ^ u < 10 * (b * 10 ^ v) := by
 have p : 0 < 10 ^ u := Nat.pow_pos (by decide)
 calc t * 10 ^ u < 10 ^ (L + 1) * 10 ^ u := Nat.mul_lt_mul_of_pos_right t2 p
   _ = 10 * (10 ^ M * 10 ^ v) := by rw [<- Nat.pow_add, <- Nat.pow_add, <- h, show L + 1 + u = (L + u) + 1 by omega, Nat.pow_succ, Nat.mul_comm]
   _ <= 10 * (b * 10 ^ v) := Nat.mul_le_mul_left 10 (Nat.mul_le_mul_right _ b1)
theorem Z2m {t b L M u v : Nat} (h : L + u = M + 1 + v) (t1 : 10 ^ L <= t) (b2 : b < 10 ^ (M + 1)) : b * 10 ^ v <= t * 10 ^ u := by
 calc b * 10 ^ v <= 10 ^ (M + 1) * 10 ^ v := Nat.mul_le_mul_right _ (Nat.le_of_lt b2)
   _ = 10 ^ L * 10 ^ u := by rw [<- Nat.pow_add, <- Nat.pow_add, h]
   _ <= t * 10 ^ u := Nat.mul_le_mul_right _ t1
theorem B7b {t b L M : Nat} (t1 : 10 ^ L <= t) (t2 : t < 10 ^ (L + 1)) (b1 : 10 ^ M <= b) (b2 : b < 10 ^ (M + 1)) (h : (b : Int) * B5 (-((M : Int) - L)) <= (t : Int) * B5 ((M : Int) - L)) : Y7 t b ((M : Int) - L) := by
 refine ⟨h, ?_⟩
 unfold B5
 have := Z3h (t := t) (b := b) (L := L) (M := M) (u := ((M : Int) - L).toNat) (v := (-((M : Int) - L)).toNat) (by omega) t2 b1
 exact Int.ofNat_lt.mpr this
theorem B3z {t b L M : Nat} (t1 : 10 ^ L <= t) (t2 : t < 10 ^ (L + 1)) (b1 : 10 ^ M <= b) (b2 : b < 10 ^ (M + 1)) (h : (t : Int) * B5 ((M : Int) - L) < (b : Int) * B5 (-((M : Int) - L))) : Y7 t b ((M : Int) - L + 1) := by
 refine ⟨?_, ?_⟩
 . unfold B5
   have := Z2m (t := t) (b := b) (L := L) (M := M) (u := ((M : Int) - L + 1).toNat) (v := (-((M : Int) - L + 1)).toNat) (by omega) t1 b2
   exact Int.ofNat_le.mpr this
 . have hb : 0 < (b : Int) := by
     have : 0 < 10 ^ M := Nat.pow_pos (by decide)
     omega
   generalize (M : Int) - L = s at h
   have c := C4q (s := s) (r := s + 1) (by omega)
   have e1 : B5 (s + 1 - s) = 10 := by rw [show s + 1 - s = 1 by omega]; rfl
   rw [e1] at c
   have l := Int.mul_pos hb (U6 (-s))
   have l' := Int.mul_pos hb (U6 (-(s + 1)))
   have e : (t : Int) * B5 (s + 1) * ((b : Int) * B5 (-s)) = (t : Int) * B5 s * ((b : Int) * B5 (-(s + 1))) * 10 := by
     calc (t : Int) * B5 (s + 1) * ((b : Int) * B5 (-s)) = t * b * (B5 (s + 1) * B5 (-s)) := by ac_rfl
       _ = t * b * (B5 s * B5 (-(s + 1)) * 10) := by rw [c]
       _ = (t : Int) * B5 s * ((b : Int) * B5 (-(s + 1))) * 10 := by ac_rfl
   have a : (t : Int) * B5 s * ((b : Int) * B5 (-(s + 1))) < (b : Int) * B5 (-s) * ((b : Int) * B5 (-(s + 1))) := Int.mul_lt_mul_of_pos_right h l'
   have a2 : (t : Int) * B5 (s + 1) * ((b : Int) * B5 (-s)) < 10 * ((b : Int) * B5 (-(s + 1))) * ((b : Int) * B5 (-s)) := by
     rw [e, show 10 * ((b : Int) * B5 (-(s + 1))) * ((b : Int) * B5 (-s)) = (b : Int) * B5 (-s) * ((b : Int) * B5 (-(s + 1))) * 10 by ac_rfl]
     exact Int.mul_lt_mul_of_pos_right a (by decide)
   exact Int.lt_of_mul_lt_mul_right a2 (Int.le_of_lt l)
section
variable {P : Program} {w : World} {K : Frag} {mg : Str -> Option Value} {base : Heap}
theorem scRFirst : FnScope ["self", "guess"] ["self"] (A1 A2q) := scK
theorem U4n {f f1 f2 CR CE : Addr} {fd fd1 fd2 : FuncData} (F : Fun K "first" "Ratio.first" A2q f fd) (D_whole_lead : Def K mg "whole_lead" ["whole"] A9j f1 fd1) (G_whole_lead : FnOk P w K mg base (CX1 P w) 3 f1 fd1 ["whole"] U1u)
   (MA : Meth K CR "at" f2) (GA : FnOk P w K mg base (CX1 P w) 3 f2 fd2 ["self", "power"] (V3j CR)) (BA : Binds K fd2 ["self", "power"] []) (R : RatC K mg CR CE) : FnOk P w K mg base (CX1 P w) 4 f fd ["self"] (G4s CR) := by
 refine FnOk.up (F.ok scRFirst (fun vs H Q E h => ?_) (fun cdv A outer s H vs Q E hr h => ?_))
 . obtain ⟨x, t, b, n, rfl, _⟩ := h
   rfl
 . obtain ⟨x, t, b, n, rfl, ra, ht, hb, k⟩ := h
   have hx : D6 (Z3 CX0 P w K mg base ["self", "guess"] "Ratio.first" (A1 A2q) f cdv A outer s H E).nox EKF := Y3
   refine ⟨_, (A6 (D0 (i := 1) scRFirst.nd rfl (Or.inl rfl) (B3 U3 (B3 U1 (C8 D_whole_lead G_whole_lead hr hx (A0 (G0 (pv 0) rfl) A7)) (C8 D_whole_lead G_whole_lead hr hx (A0 (G0 (pv 0) rfl) A7))) (G0 (pv 0) rfl)))
     (A9 (B7 (A1a (C5 B3h (U2 U0 (B6m (pv 0) R.cl MA GA hr BA .nil hx (A0 (pv 1) A7)) A3 (fun _ _ => rfl)) A3 (B9 _)) (pv 1) (B3 U1 (pv 1) A3))))), ?_⟩
   obtain ⟨tn, rfl, ta, tb⟩ := ht.nat
   obtain ⟨bn, rfl, ba, bb⟩ := hb.nat
   obtain ⟨dx, e⟩ := id ra
   have p30 : (10 : Nat) ^ 1000 < 10 ^ 3000 := Nat.pow_lt_pow_right (by decide) (by decide)
   have p30' : ∀ {L m : Nat}, 10 ^ L <= m -> m < 10 ^ 1000 -> L < 1000 := fun h1 h2 => (Nat.pow_lt_pow_iff_right (by decide : 1 < 10)).mp (Nat.lt_of_le_of_lt h1 h2)
   refine ⟨_, rfl, x, CR, dx, _, _, rfl, e, R.cl, R.n_top, U3j _ _ _, tn, rfl, ta, Nat.lt_trans tb p30, fun L L1 L2 => ?_⟩
   refine ⟨_, rfl, x, CR, dx, _, _, rfl, e, R.cl, R.n_bottom, C3d _ _ _, bn, rfl, ba, Nat.lt_trans bb p30, fun M' M1 M2 => ?_⟩
   have l30 := p30' L1 tb
   have m30 := p30' M1 bb
   refine ⟨_, _, rfl, rfl, _, rfl, x, CR, dx, _, _, rfl, e, R.cl, R.n_power, D2e _ _ _, _, _, rfl, rfl, ?_⟩
   have es : n - ((L : Int) - M' + n) = (M' : Int) - L := by omega
   refine ⟨_, rfl, x, dx, _, rfl, e, B7n _ _ _, _, rfl, x, tn, bn, n, _, rfl, ra, ht, hb, by omega, by omega, fun q H1 s1 nq hq => ?_⟩
   rw [es] at hq
   refine ⟨q, _, 0, _, rfl, rfl, SqT.of hq, G6 (j := 0) rfl, _, _, rfl, rfl, _, rfl, ?_⟩
   have lp : 0 < (bn : Int) * B5 (-((M' : Int) - L)) := Int.mul_pos (by omega) (U6 _)
   refine G8 (fun hg => ?_) (fun hg => ?_)
   . have hle : (bn : Int) * B5 (-((M' : Int) - L)) <= (tn : Int) * B5 ((M' : Int) - L) := by
       have := (Int.le_ediv_iff_mul_le lp).mp (show (1 : Int) <= (tn : Int) * B5 ((M' : Int) - L) / ((bn : Int) * B5 (-((M' : Int) - L))) from hg)
       omega
     refine ⟨_, rfl, k _ H1 s1 ?_⟩
     rw [es]
     exact B7b L1 L2 M1 M2 hle
   . have hlt : (tn : Int) * B5 ((M' : Int) - L) < (bn : Int) * B5 (-((M' : Int) - L)) := by
       apply Classical.byContradiction
       intro z
       exact hg ((Int.le_ediv_iff_mul_le lp).mpr (by omega))
     refine ⟨_, rfl, _, _, rfl, rfl, k _ H1 s1 ?_⟩
     rw [show n - ((L : Int) - M' + n - 1) = (M' : Int) - L + 1 by omega]
     exact B3z L1 L2 M1 M2 hlt
end
inductive Wy where
 | down
 | up
 | floor
 | ceiling
 | halfUp
 | halfDown
 | halfEven
 | fiveUp
def Wy.name : Wy -> Str
 | .down => "down"
 | .up => "up"
 | .floor => "floor"
 | .ceiling => "ceiling"
 | .halfUp => "half up"
 | .halfDown => "half down"
 | .halfEven => "half even"
 | .fiveUp => "five up"
def Wy.cls : Wy -> Str
 | .down => "Down"
 | .up => "Up"
 | .floor => "Floor"
 | .ceiling => "Ceiling"
 | .halfUp => "HalfUp"
 | .halfDown => "HalfDown"
 | .halfEven => "HalfEven"
 | .fiveUp => "FiveUp"
theorem Wy.inj {a b : Wy} (h : a.name = b.name) : a = b := by
 cases a <;> cases b <;> first | rfl | exact absurd h (by decide +kernel)
structure WayC (K : Frag) (mg : Str -> Option Value) (x : Str) (C CW : Addr) : Prop where
 g : mg x = some (.ref C)
 cl : Cls K C
 mk0 : Mk0 K C
 ca : findIn K (.ref C) "__class__" = some (some (.builtin "object.__class__"))
 sn : specialIn K (.builtin "object.__class__") "__get__" = some (some (.builtin "getset_descriptor.__get__"))
 tk : takesIn K (.builtin "object.__class__") = some true
 ob : mroIn K C (.type "object") = some true
 up : kitOne K (.ref C) (.ref CW) = some true
section
variable {P : Program} {w : World} {K : Frag} {mg : Str -> Option Value} {base : Heap}
def A5m (s : Str) : Sp := fun vs H Q _ => ∃ p, vs = [.ref p] /\ Q (.str s) H
def Z8g (P : Program) (w : World) (K : Frag) (mg : Str -> Option Value) (base : Heap) (C : Addr) (s : Str) : Prop := Has P w K mg base C "name" 1 ["self"] (A5m s)
abbrev sN0 : Stmt := (D7 (top 43) 0)
theorem scN0 : FnScope ["self"] ["self"] (A1 sN0) := scK
theorem Z8x {f : Addr} {fd : FuncData} (F : Fun K "name" "Down.name" sN0 f fd) : FnOk P w K mg base (CX1 P w) 1 f fd ["self"] (A5m "down") := by
 refine FnOk.up (F.ok scN0 (fun vs H Q E h => ?_) (fun cdv A outer s H vs Q E hr h => ?_))
 . obtain ⟨p, rfl, _⟩ := h
   rfl
 . obtain ⟨p, rfl, k⟩ := h
   exact ⟨_, A9 (B7 B0), k⟩
abbrev sN1 : Stmt := (D7 (top 44) 0)
theorem scN1 : FnScope ["self"] ["self"] (A1 sN1) := scK
theorem Z7y {f : Addr} {fd : FuncData} (F : Fun K "name" "Up.name" sN1 f fd) : FnOk P w K mg base (CX1 P w) 1 f fd ["self"] (A5m "up") := by
 refine FnOk.up (F.ok scN1 (fun vs H Q E h => ?_) (fun cdv A outer s H vs Q E hr h => ?_))
 . obtain ⟨p, rfl, _⟩ := h
   rfl
 . obtain ⟨p, rfl, k⟩ := h
   exact ⟨_, A9 (B7 B0), k⟩
abbrev sN2 : Stmt := (D7 (top 45) 0)
theorem scN2 : FnScope ["self"] ["self"] (A1 sN2) := scK
theorem Z7v {f : Addr} {fd : FuncData} (F : Fun K "name" "Floor.name" sN2 f fd) : FnOk P w K mg base (CX1 P w) 1 f fd ["self"] (A5m "floor") := by
 refine FnOk.up (F.ok scN2 (fun vs H Q E h => ?_) (fun cdv A outer s H vs Q E hr h => ?_))
 . obtain ⟨p, rfl, _⟩ := h
   rfl
 . obtain ⟨p, rfl, k⟩ := h
   exact ⟨_, A9 (B7 B0), k⟩
abbrev sN3 : Stmt := (D7 (top 46) 0)
theorem scN3 : FnScope ["self"] ["self"] (A1 sN3) := scK
theorem Z8w {f : Addr} {fd : FuncData} (F : Fun K "name" "Ceiling.name" sN3 f fd) : FnOk P w K mg base (CX1 P w) 1 f fd ["self"] (A5m "ceiling") := by
 refine FnOk.up (F.ok scN3 (fun vs H Q E h => ?_) (fun cdv A outer s H vs Q E hr h => ?_))
 . obtain ⟨p, rfl, _⟩ := h
   rfl
 . obtain ⟨p, rfl, k⟩ := h
   exact ⟨_, A9 (B7 B0), k⟩
abbrev sN4 : Stmt := (D7 (top 47) 0)
theorem scN4 : FnScope ["self"] ["self"] (A1 sN4) := scK
theorem Z8b {f : Addr} {fd : FuncData} (F : Fun K "name" "HalfUp.name" sN4 f fd) : FnOk P w K mg base (CX1 P w) 1 f fd ["self"] (A5m "half up") := by
 refine FnOk.up (F.ok scN4 (fun vs H Q E h => ?_) (fun cdv A outer s H vs Q E hr h => ?_))
 . obtain ⟨p, rfl, _⟩ := h
   rfl
 . obtain ⟨p, rfl, k⟩ := h
   exact ⟨_, A9 (B7 B0), k⟩
abbrev sN5 : Stmt := (D7 (top 48) 0)
theorem scN5 : FnScope ["self"] ["self"] (A1 sN5) := scK
theorem Z9s {f : Addr} {fd : FuncData} (F : Fun K "name" "HalfDown.name" sN5 f fd) : FnOk P w K mg base (CX1 P w) 1 f fd ["self"] (A5m "half down") := by
 refine FnOk.up (F.ok scN5 (fun vs H Q E h => ?_) (fun cdv A outer s H vs Q E hr h => ?_))
 . obtain ⟨p, rfl, _⟩ := h
   rfl
 . obtain ⟨p, rfl, k⟩ := h
   exact ⟨_, A9 (B7 B0), k⟩
abbrev sN6 : Stmt := (D7 (top 49) 0)
theorem scN6 : FnScope ["self"] ["self"] (A1 sN6) := scK
theorem Z7m {f : Addr} {fd : FuncData} (F : Fun K "name" "HalfEven.name" sN6 f fd) : FnOk P w K mg base (CX1 P w) 1 f fd ["self"] (A5m "half even") := by
 refine FnOk.up (F.ok scN6 (fun vs H Q E h => ?_) (fun cdv A outer s H vs Q E hr h => ?_))
 . obtain ⟨p, rfl, _⟩ := h
   rfl
 . obtain ⟨p, rfl, k⟩ := h
   exact ⟨_, A9 (B7 B0), k⟩
abbrev sN7 : Stmt := (D7 (top 50) 0)
theorem scN7 : FnScope ["self"] ["self"] (A1 sN7) := scK
theorem Z8k {f : Addr} {fd : FuncData} (F : Fun K "name" "FiveUp.name" sN7 f fd) : FnOk P w K mg base (CX1 P w) 1 f fd ["self"] (A5m "five up") := by
 refine FnOk.up (F.ok scN7 (fun vs H Q E h => ?_) (fun cdv A outer s H vs Q E hr h => ?_))
 . obtain ⟨p, rfl, _⟩ := h
   rfl
 . obtain ⟨p, rfl, k⟩ := h
   exact ⟨_, A9 (B7 B0), k⟩
def Z1n (K : Frag) (H : Hp) (v : V) : Prop := ∃ t b, TyE K H v t /\ kitOne K t (.type "str") = some b /\ (b = false \/ ∃ z, v = .str z /\ ∀ y : Wy, z ≠ y.name)
theorem A9s {C : Addr} {σ : L2.St} {H : Hp} {Q : VK} (k : ∀ p dx H', H p = none -> Same H H' -> H' p = some (.ins C dx []) -> Q (.ref p) H') : Z3r C σ H Q := fun x dx n1 n2 ne =>
 k x dx _ n1 ((Same.upd n2).trans (Same.upd (by rw [C4 (Ne.symm ne)]; exact n1))) A8
abbrev A9d : Stmt := (top 51)
def D5r (K : Frag) (CB : Addr) (cw : Wy -> Addr) : Sp := fun vs H Q E => ∃ v, vs = [v] /\ ((∃ y : Wy, v = .str y.name /\ ∀ p dx H', H p = none -> Same H H' -> H' p = some (.ins (cw y) dx []) -> Q (.ref p) H') \/ (Z1n K H v /\ E (.ref CB) none H))
theorem Y7f : FnScope ["name"] ["name"] (A1 A9d) := scK
theorem V1w {f CB CW : Addr} {cw : Wy -> Addr} {fd : FuncData} (D : Def K mg "way_of" ["name"] A9d f fd) (O : Own mg) (T : Kit K) (B : Err K mg "BadContext" CB) (W : ∀ y : Wy, WayC K mg y.cls (cw y) CW) :
   FnOk P w K mg base (CX1 P w) 1 f fd ["name"] (D5r K CB cw) := by
 refine D.F.okE Y7f (fun vs H Q E h => ?_) (fun X cdv A outer s H vs Q E hX hr hx h => ?_)
 . obtain ⟨v, rfl, _⟩ := h
   rfl
 . subst hX
   obtain ⟨v, rfl, h⟩ := h
   refine ⟨_, (A6 (G4 (A9r (Z0 (U6b O.isi (pv 0) (pty O.str_ boot_str)))) (A9 (A3d (by rfl) B.g B.q PySem.F.excBase_ValueError hr.hd hx (A0 B0 A7))) C7)
     (A6 (G4 (C5 D5 (pv 0) B0 (B9 _)) (A9 (B7 (A9h (W .down).mk0 rfl (W .down).g))) C7)
     (A6 (G4 (C5 D5 (pv 0) B0 (B9 _)) (A9 (B7 (A9h (W .up).mk0 rfl (W .up).g))) C7)
     (A6 (G4 (C5 D5 (pv 0) B0 (B9 _)) (A9 (B7 (A9h (W .floor).mk0 rfl (W .floor).g))) C7)
     (A6 (G4 (C5 D5 (pv 0) B0 (B9 _)) (A9 (B7 (A9h (W .ceiling).mk0 rfl (W .ceiling).g))) C7)
     (A6 (G4 (C5 D5 (pv 0) B0 (B9 _)) (A9 (B7 (A9h (W .halfUp).mk0 rfl (W .halfUp).g))) C7)
     (A6 (G4 (C5 D5 (pv 0) B0 (B9 _)) (A9 (B7 (A9h (W .halfDown).mk0 rfl (W .halfDown).g))) C7)
     (A6 (G4 (C5 D5 (pv 0) B0 (B9 _)) (A9 (B7 (A9h (W .halfEven).mk0 rfl (W .halfEven).g))) C7)
     (A6 (G4 (C5 D5 (pv 0) B0 (B9 _)) (A9 (B7 (A9h (W .fiveUp).mk0 rfl (W .fiveUp).g))) C7)
     (A9 (A3d (by rfl) B.g B.q PySem.F.excBase_ValueError hr.hd hx (A0 B0 A7)))))))))))), ?_⟩
   have z1 : 1 <= sizeLine := C6 (by decide)
   rcases h with ⟨y, rfl, k⟩ | ⟨⟨t, b, ty, kk, bad⟩, k⟩
   . refine ⟨_, rfl, _, _, _, _, true, rfl, rfl, V2y _, T.str_str, _, rfl, G7 ?_⟩
     refine ⟨_, rfl, rfl, _, rfl, G8 (fun e => ?_) (fun n0 => ?_)⟩
     . have q : y = .down := Wy.inj (V.str.inj (e : V.str y.name = V.str (Wy.name .down)))
       subst q
       exact A9s k
     refine ⟨_, rfl, rfl, _, rfl, G8 (fun e => ?_) (fun n1 => ?_)⟩
     . have q : y = .up := Wy.inj (V.str.inj (e : V.str y.name = V.str (Wy.name .up)))
       subst q
       exact A9s k
     refine ⟨_, rfl, rfl, _, rfl, G8 (fun e => ?_) (fun n2 => ?_)⟩
     . have q : y = .floor := Wy.inj (V.str.inj (e : V.str y.name = V.str (Wy.name .floor)))
       subst q
       exact A9s k
     refine ⟨_, rfl, rfl, _, rfl, G8 (fun e => ?_) (fun n3 => ?_)⟩
     . have q : y = .ceiling := Wy.inj (V.str.inj (e : V.str y.name = V.str (Wy.name .ceiling)))
       subst q
       exact A9s k
     refine ⟨_, rfl, rfl, _, rfl, G8 (fun e => ?_) (fun n4 => ?_)⟩
     . have q : y = .halfUp := Wy.inj (V.str.inj (e : V.str y.name = V.str (Wy.name .halfUp)))
       subst q
       exact A9s k
     refine ⟨_, rfl, rfl, _, rfl, G8 (fun e => ?_) (fun n5 => ?_)⟩
     . have q : y = .halfDown := Wy.inj (V.str.inj (e : V.str y.name = V.str (Wy.name .halfDown)))
       subst q
       exact A9s k
     refine ⟨_, rfl, rfl, _, rfl, G8 (fun e => ?_) (fun n6 => ?_)⟩
     . have q : y = .halfEven := Wy.inj (V.str.inj (e : V.str y.name = V.str (Wy.name .halfEven)))
       subst q
       exact A9s k
     refine ⟨_, rfl, rfl, _, rfl, G8 (fun e => ?_) (fun n7 => ?_)⟩
     . have q : y = .fiveUp := Wy.inj (V.str.inj (e : V.str y.name = V.str (Wy.name .fiveUp)))
       subst q
       exact A9s k
     cases y with
     | down => exact absurd rfl n0
     | up => exact absurd rfl n1
     | floor => exact absurd rfl n2
     | ceiling => exact absurd rfl n3
     | halfUp => exact absurd rfl n4
     | halfDown => exact absurd rfl n5
     | halfEven => exact absurd rfl n6
     | fiveUp => exact absurd rfl n7
   . refine ⟨_, rfl, _, _, _, _, b, rfl, rfl, ty, kk, _, rfl, ?_⟩
     cases b with
     | false => exact V8 ⟨z1, k⟩
     | true =>
       obtain ⟨z, rfl, nz⟩ := bad.resolve_left (by decide)
       refine G7 ?_
       refine ⟨_, rfl, rfl, _, rfl, G8 (fun e => absurd (V.str.inj e) (nz .down)) (fun n0 => ?_)⟩
       refine ⟨_, rfl, rfl, _, rfl, G8 (fun e => absurd (V.str.inj e) (nz .up)) (fun n1 => ?_)⟩
       refine ⟨_, rfl, rfl, _, rfl, G8 (fun e => absurd (V.str.inj e) (nz .floor)) (fun n2 => ?_)⟩
       refine ⟨_, rfl, rfl, _, rfl, G8 (fun e => absurd (V.str.inj e) (nz .ceiling)) (fun n3 => ?_)⟩
       refine ⟨_, rfl, rfl, _, rfl, G8 (fun e => absurd (V.str.inj e) (nz .halfUp)) (fun n4 => ?_)⟩
       refine ⟨_, rfl, rfl, _, rfl, G8 (fun e => absurd (V.str.inj e) (nz .halfDown)) (fun n5 => ?_)⟩
       refine ⟨_, rfl, rfl, _, rfl, G8 (fun e => absurd (V.str.inj e) (nz .halfEven)) (fun n6 => ?_)⟩
       refine ⟨_, rfl, rfl, _, rfl, G8 (fun e => absurd (V.str.inj e) (nz .fiveUp)) (fun n7 => ?_)⟩
       exact ⟨z1, k⟩
end
def sigS : List Str := ["void", "split", "burst", "sunk", "faint", "off", "cut"]
def A4v : List V := sigS.map V.str
structure SigK (K : Frag) (mg : Str -> Option Value) (aS : Addr) : Prop where
 g : mg "SIGNALS" = some (.ref aS)
 ty : ∃ o, K.lookup aS = some o /\ o.cls = .type "tuple"
 sq : ∀ H, SqT K H aS A4v
abbrev A8v : Stmt := (top 56)
section
variable {P : Program} {w : World} {K : Frag} {mg : Str -> Option Value} {base : Heap}
def BadS (K : Frag) (H : Hp) (x : V) : Prop := ∃ t b, TyE K H x t /\ kitOne K t (.type "str") = some b /\ (b = false \/ ∃ z, x = .str z /\ z ∉ sigS)
def J1k (K : Frag) (H : Hp) (v : V) : Prop := (∃ t, TyE K H v t /\ kitOne K t (.type "list") = some false) \/ (∃ (p : Addr) (zs : List Str) (x : V) (r : List V), v = .ref p /\ H p = some (.lst (zs.map V.str ++ x :: r)) /\ (∀ z ∈ zs, z ∈ sigS) /\ BadS K H x)
def D6b (K : Frag) (CB : Addr) : Sp := fun vs H Q E => ∃ v, vs = [v] /\ ((∃ (p : Addr) (zs : List Str), v = .ref p /\ H p = some (.lst (zs.map V.str)) /\ (∀ z ∈ zs, z ∈ sigS) /\ Q .non H) \/ (J1k K H v /\ E (.ref CB) none H))
theorem scNeedS : FnScope ["names", "name"] ["names"] (A1 A8v) := scK
theorem V3m {f CB aS : Addr} {fd : FuncData} (D : Def K mg "need_signals" ["names"] A8v f fd) (O : Own mg) (T : Kit K) (B : Err K mg "BadContext" CB) (SG : SigK K mg aS) : FnOk P w K mg base (CX1 P w) 1 f fd ["names"] (D6b K CB) := by
 refine D.F.okE scNeedS (fun vs H Q E h => ?_) (fun X cdv A outer s H vs Q E hX hr hx h => ?_)
 . obtain ⟨v, rfl, _⟩ := h
   rfl
 . subst hX
   obtain ⟨v, rfl, h⟩ := h
   refine ⟨_, (A6 (G4 (A9r (Z0 (U6b O.isi (pv 0) (pty O.list_ boot_list)))) (A9 (A3d (by rfl) B.g B.q PySem.F.excBase_ValueError hr.hd hx (A0 B0 A7))) C7)
     (A9 (D4u PassesOwn.leaving rfl (U2f (pv 0)) (V6 (i := 1) scNeedS.nd rfl (Or.inl rfl)) (A9 (G4 (PW.pt (B6a (A9r (Z0 (U6b O.isi (pv 1) (pty O.str_ boot_str)))) (A5n (C5 D6e (pv 1) (V3k SG.g) (by rfl))))) (A9 (A3d (by rfl) B.g B.q PySem.F.excBase_ValueError hr.hd hx (A0 B0 A7))) C7))))), ?_⟩
   have z1 : 1 <= sizeLine := C6 (by decide)
   rcases h with ⟨p, zs, rfl, hp, hz, k⟩ | ⟨(⟨t, ty, kk⟩ | ⟨p, zs, x, r, rfl, hp, hz, t, b, ty, kk, bad⟩), k⟩
   . refine ⟨_, rfl, _, _, _, _, true, rfl, rfl, Z1m hp, T.list_list, _, rfl, G7 ?_⟩
     refine ⟨_, rfl, p, rfl, ⟨_, SqL.of hp⟩, C3j (xs := zs.map V.str) (fun i σ H' => H' = H /\ ∃ v, σ = [some (.ref p), v]) ⟨rfl, none, rfl⟩ ?_ ?_ ?_⟩
     . rintro i σ H' _ ⟨rfl, _⟩
       exact SqL.of hp
     . rintro i x σ H' hi ⟨rfl, v, rfl⟩
       obtain ⟨z, hzm, rfl⟩ := List.mem_map.mp (List.mem_of_getElem? hi)
       refine ⟨_, rfl, _, _, _, _, true, rfl, rfl, V2y _, T.str_str, _, rfl, G7 ?_⟩
       refine ⟨_, rfl, aS, A4v, rfl, .inr (SG.sq _), rfl, Y4 _, _, rfl, ?_⟩
       have e : inV (.str z) A4v = true := by
         show inV (.str z) (sigS.map V.str) = true
         rw [A0a]
         simpa using hz z hzm
       rw [e]
       exact G7 ⟨rfl, _, rfl⟩
     . rintro σ H' ⟨rfl, v, rfl⟩
       exact k
   . exact ⟨_, rfl, _, _, _, _, false, rfl, rfl, ty, kk, _, rfl, V8 ⟨z1, k⟩⟩
   . refine ⟨_, rfl, _, _, _, _, true, rfl, rfl, Z1m hp, T.list_list, _, rfl, G7 ?_⟩
     refine ⟨_, rfl, p, rfl, ⟨_, SqL.of hp⟩, C3j (xs := zs.map V.str ++ x :: r) (fun i σ H' => H' = H /\ i <= zs.length /\ ∃ v, σ = [some (.ref p), v]) ⟨rfl, Nat.zero_le _, none, rfl⟩ ?_ ?_ ?_⟩
     . rintro i σ H' _ ⟨rfl, _⟩
       exact SqL.of hp
     . rintro i y σ H' hi ⟨rfl, hl, v, rfl⟩
       by_cases hlt : i < zs.length
       . rw [List.getElem?_append_left (by simpa using hlt)] at hi
         obtain ⟨z, hzm, rfl⟩ := List.mem_map.mp (List.mem_of_getElem? hi)
         refine ⟨_, rfl, _, _, _, _, true, rfl, rfl, V2y _, T.str_str, _, rfl, G7 ?_⟩
         refine ⟨_, rfl, aS, A4v, rfl, .inr (SG.sq _), rfl, Y4 _, _, rfl, ?_⟩
         have e : inV (.str z) A4v = true := by
           show inV (.str z) (sigS.map V.str) = true
           rw [A0a]
           simpa using hz z hzm
         rw [e]
         exact G7 ⟨rfl, by omega, _, rfl⟩
       . have e : i = zs.length := by omega
         subst e
         rw [List.getElem?_append_right (by simp)] at hi
         simp at hi
         subst hi
         refine ⟨_, rfl, _, _, _, _, b, rfl, rfl, ty, kk, _, rfl, ?_⟩
         cases b with
         | false => exact V8 (V8 ⟨z1, k⟩)
         | true =>
           obtain ⟨z, rfl, nz⟩ := bad.resolve_left (by decide)
           refine G7 ⟨_, rfl, aS, A4v, rfl, .inr (SG.sq _), rfl, Y4 _, _, rfl, ?_⟩
           have e : inV (.str z) A4v = false := by
             show inV (.str z) (sigS.map V.str) = false
             rw [A0a]
             simpa using nz
           rw [e]
           exact V8 ⟨z1, k⟩
     . rintro σ H' ⟨rfl, hl, _⟩
       exfalso
       rw [List.length_append, List.length_map, List.length_cons] at hl
       omega
end
abbrev A9t : Stmt := (top 57)
section
variable {P : Program} {w : World} {K : Frag} {mg : Str -> Option Value} {base : Heap}
def V3 (zs : List Str) : List Str := sigS.filter fun z => zs.contains z
def D5w (K : Frag) : Sp := fun vs H Q _ => ∃ (p : Addr) (zs : List Str), vs = [.ref p] /\ SqL K H p (zs.map V.str) /\ ∀ l H', Same H H' -> H l = none -> H' l = some (.lst ((V3 zs).map V.str)) -> Q (.ref l) H'
theorem Y7g : FnScope ["names"] ["names"] (A1 A9t) := scK
theorem V1p {f aS : Addr} {fd : FuncData} (D : Def K mg "in_order" ["names"] A9t f fd) (SG : SigK K mg aS) : FnOk P w K mg base (CX1 P w) 1 f fd ["names"] (D5w K) := by
 refine FnOk.up (D.F.ok Y7g (fun vs H Q E h => ?_) (fun cdv A outer s H vs Q E hr h => ?_))
 . obtain ⟨p, zs, rfl, _⟩ := h
   rfl
 . obtain ⟨p, zs, rfl, hp, k⟩ := h
   refine ⟨_, (A9 (B7 (C4p (N := ["name"]) (F := ["names"]) (js := [0]) (CompScopeF.of1 ⟨rfl, by decide +kernel, by decide +kernel, by decide +kernel, by decide +kernel⟩ (by rfl) (by rfl) ⟨_, by rfl⟩ (by rfl) (by rfl)) (.inl hr.hd) (D5z (V3k SG.g)) rfl (fun C s₀ H₀ ex pn h => V6 (i := 0) (by decide +kernel : (["name", "names"] : List Str).Nodup) rfl (Or.inl rfl)) (fun C s₀ H₀ ex pn h => (C5 (A2y (K := K) rfl) (pv 0) (pv 1) (by rfl))) (fun C s₀ H₀ ex pn h => (pv 0))))), ?_⟩
   refine C3c (zs := sigS) (f := fun z => zs.contains z) (σf := [some (.ref p)]) SG.sq (by decide) (fun z H' Qb sm q => ?_) (fun z H' Qv q => ⟨_, rfl, q⟩) (fun D H' sm nd e => k D H' sm nd e) rfl
   refine ⟨_, rfl, _, rfl, p, _, rfl, .inl (sm.seq hp), rfl, Y4 _, _, rfl, ?_⟩
   show Qb (inV (.str z) (zs.map V.str)) H'
   rw [A0a]
   exact q
end
structure CtxC (K : Frag) (mg : Str -> Option Value) (CC : Addr) : Prop where
 g : mg "Context" = some (.ref CC)
 cl : Cls K CC
 n_room : NoAttr K CC "room"
 n_rule : NoAttr K CC "rule"
 n_least : NoAttr K CC "least"
 n_most : NoAttr K CC "most"
 n_risen : NoAttr K CC "risen"
 n_trapped : NoAttr K CC "trapped"
def A1d (r s l m a b : V) : List (Str × V) := V0 "trapped" b (V0 "risen" a (V0 "most" m (V0 "least" l (V0 "rule" s (V0 "room" r [])))))
theorem A1s (r s l m a b : V) (n : Str) : (A1d r s l m a b).lookup n = if n = "trapped" then some b else if n = "risen" then some a else if n = "most" then some m else if n = "least" then some l else if n = "rule" then some s else if n = "room" then some r else none := by
 unfold A1d
 rw [D3, D3, D3, D3, D3, D3]
 rfl
theorem A9n (r s l m a b : V) : (A1d r s l m a b).lookup ("room" : Str) = some r := by rw [A1s, if_neg (by decide +kernel), if_neg (by decide +kernel), if_neg (by decide +kernel), if_neg (by decide +kernel), if_neg (by decide +kernel), if_pos rfl]
theorem V4b (r s l m a b : V) : (A1d r s l m a b).lookup ("rule" : Str) = some s := by rw [A1s, if_neg (by decide +kernel), if_neg (by decide +kernel), if_neg (by decide +kernel), if_neg (by decide +kernel), if_pos rfl]
theorem D3f (r s l m a b : V) : (A1d r s l m a b).lookup ("least" : Str) = some l := by rw [A1s, if_neg (by decide +kernel), if_neg (by decide +kernel), if_neg (by decide +kernel), if_pos rfl]
theorem C3w (r s l m a b : V) : (A1d r s l m a b).lookup ("most" : Str) = some m := by rw [A1s, if_neg (by decide +kernel), if_neg (by decide +kernel), if_pos rfl]
theorem D2x (r s l m a b : V) : (A1d r s l m a b).lookup ("risen" : Str) = some a := by rw [A1s, if_neg (by decide +kernel), if_pos rfl]
theorem C2h (r s l m a b : V) : (A1d r s l m a b).lookup ("trapped" : Str) = some b := by rw [A1s, if_pos rfl]
theorem C4w (r s l m a b : V) : (A1d r s l m a b).lookup ("way" : Str) = none := by rw [A1s, if_neg (by decide +kernel), if_neg (by decide +kernel), if_neg (by decide +kernel), if_neg (by decide +kernel), if_neg (by decide +kernel), if_neg (by decide +kernel)]
theorem B3g (r s l m a b : V) : (A1d r s l m a b).lookup ("lowest" : Str) = none := by rw [A1s, if_neg (by decide +kernel), if_neg (by decide +kernel), if_neg (by decide +kernel), if_neg (by decide +kernel), if_neg (by decide +kernel), if_neg (by decide +kernel)]
theorem D5c (r s l m a b : V) : (A1d r s l m a b).lookup ("flags" : Str) = none := by rw [A1s, if_neg (by decide +kernel), if_neg (by decide +kernel), if_neg (by decide +kernel), if_neg (by decide +kernel), if_neg (by decide +kernel), if_neg (by decide +kernel)]
theorem G5z (r s l m a b : V) : (A1d r s l m a b).lookup ("trap" : Str) = none := by rw [A1s, if_neg (by decide +kernel), if_neg (by decide +kernel), if_neg (by decide +kernel), if_neg (by decide +kernel), if_neg (by decide +kernel), if_neg (by decide +kernel)]
theorem D5u (r s l m a b : V) : (A1d r s l m a b).lookup ("traps" : Str) = none := by rw [A1s, if_neg (by decide +kernel), if_neg (by decide +kernel), if_neg (by decide +kernel), if_neg (by decide +kernel), if_neg (by decide +kernel), if_neg (by decide +kernel)]
theorem A4h (r s l m a b : V) : (A1d r s l m a b).lookup ("raised" : Str) = none := by rw [A1s, if_neg (by decide +kernel), if_neg (by decide +kernel), if_neg (by decide +kernel), if_neg (by decide +kernel), if_neg (by decide +kernel), if_neg (by decide +kernel)]
structure CtxAt (CC : Addr) (H : Hp) (c : Addr) (r : Int) (y : Wy) (l m : Int) (a b : Addr) (xs ys : List V) : Prop where
 ins : ∃ dx, H c = some (.ins CC dx (A1d (.int r) (.str y.name) (.int l) (.int m) (.ref a) (.ref b)))
 ha : H a = some (.lst xs)
 hb : H b = some (.lst ys)
theorem CtxAt.same {CC : Addr} {H H' : Hp} {c : Addr} {r : Int} {y : Wy} {l m : Int} {a b : Addr} {xs ys : List V} (h : CtxAt CC H c r y l m a b xs ys) (e : Same H H') : CtxAt CC H' c r y l m a b xs ys := by
 obtain ⟨⟨dx, z⟩, z1, z2⟩ := h
 exact ⟨⟨dx, e _ _ z⟩, e _ _ z1, e _ _ z2⟩
section
variable {P : Program} {w : World} {K : Frag} {mg : Str -> Option Value} {base : Heap}
abbrev A0b : Stmt := (D7 (top 54) 0)
abbrev B2n : Stmt := (D7 (top 54) 1)
abbrev B2s : Stmt := (D7 (top 54) 2)
abbrev A2n : Stmt := (D7 (top 54) 3)
abbrev A2p : Stmt := (D7 (top 54) 6)
def J0t (l : Int) (v : V) : Prop := (v = .non /\ l = -60) \/ (v = .int l /\ -60 <= l /\ l <= 0)
def Z4b (K : Frag) (S : Hp -> Prop) (v1 v2 v3 v4 : V) : Prop := (∀ H', S H' -> C8t K H' 1 24 v1) \/ (A4t 1 24 v1 /\ ((∀ H', S H' -> Z1n K H' v2) \/ ((∃ y : Wy, v2 = .str y.name) /\ ((v3 ≠ .non /\ ∀ H', S H' -> C8t K H' (-60) 0 v3) \/ ((∃ l, J0t l v3) /\ ∀ H', S H' -> C8t K H' 0 60 v4)))))
theorem Exc.none {p a : Addr} {H H' : Hp} {o : HO} (x : Exc p H H') (hp : H' p = some o) (n : H' a = none) : H a = none := by
 cases q : H a with
 | none => rfl
 | some u =>
   have := x a u q (fun e => by rw [e, hp] at n; cases n)
   rw [n] at this
   cases this
def B7c (K : Frag) (CC CB : Addr) : Sp := fun vs H Q E => ∃ p dx v1 v2 v3 v4, vs = [.ref p, v1, v2, v3, v4] /\ H p = some (.ins CC dx []) /\
 ((∃ r y l m, v1 = .int r /\ 1 <= r /\ r <= 24 /\ v2 = .str (Wy.name y) /\ J0t l v3 /\ v4 = .int m /\ 0 <= m /\ m <= 60 /\ ∀ a b H', Exc p H H' -> H a = none -> H b = none -> CtxAt CC H' p r y l m a b [] [] -> Q .non H') \/
  (Z4b K (Exc p H) v1 v2 v3 v4 /\ ∀ H', Exc p H H' -> E (.ref CB) none H'))
theorem U4f : FnScope ["self", "room", "way", "least", "most"] ["self", "room", "way", "least", "most"] (A1 A0b) := scK
theorem V3u : B6g 1 24 := by unfold B6g; decide +kernel
theorem J1p : B6g (-60) 0 := by unfold B6g; decide +kernel
theorem V1t : B6g 0 60 := by unfold B6g; decide +kernel
theorem J1s {f fB fW CC CB CW : Addr} {dV : Value} {cw : Wy -> Addr} {fd fdB fdW : FuncData} (F : FunD K "__init__" "Context.__init__" A0b dV f fd) (D_bounded : Def K mg "bounded" ["thing", "least", "most"] A3c fB fdB) (D_way_of : Def K mg "way_of" ["name"] A9d fW fdW)
   (G_bounded : FnOk P w K mg base (CX1 P w) 2 fB fdB ["thing", "least", "most"] (D3m K CB)) (G_way_of : FnOk P w K mg base (CX1 P w) 1 fW fdW ["name"] (D5r K CB cw)) (C : CtxC K mg CC)
   (W : ∀ y : Wy, WayC K mg y.cls (cw y) CW) (N : ∀ y : Wy, Z8g P w K mg base (cw y) y.name) : FnOk P w K mg base (CX1 P w) 3 f fd ["self", "room", "way", "least", "most"] (B7c K CC CB) := by
 refine F.okE U4f (fun vs H Q E h => ?_) (fun X cdv A outer s H vs Q E hX hr hx h => ?_)
 . obtain ⟨p, dx, v1, v2, v3, v4, rfl, _⟩ := h
   rfl
 . subst hX
   obtain ⟨p, dx, v1, v2, v3, v4, rfl, hp, h⟩ := h
   obtain ⟨y, hy⟩ : ∃ y : Wy, ∀ z : Wy, v2 = .str z.name -> z = y := by
     by_cases q : ∃ z : Wy, v2 = .str z.name
     . obtain ⟨z, rfl⟩ := q
       exact ⟨z, fun u e => Wy.inj (V.str.inj e.symm)⟩
     . exact ⟨.down, fun z e => absurd ⟨z, e⟩ q⟩
   obtain ⟨fN, fdN, mN, gN, bN⟩ := N y
   refine ⟨_, (A6 (Z2 (pv 0) (C8 D_bounded G_bounded hr hx (A0 (pv 1) (A0 A3 (A0 A3 A7)))) rfl)
     (A6 (Z2 (pv 0) (A5p (C8 D_way_of G_way_of hr hx (A0 (pv 2) A7)) (W y).cl mN gN hr bN .nil hx) rfl)
     (A6 (B8 (Z2 (pv 0) (A1a (C5 Z2s (pv 3) Z2d (B9 _)) (D2h B7p A3) (C8 D_bounded G_bounded hr hx (A0 (pv 3) (A0 (D2h B7p A3) (A0 A3 A7))))) rfl))
     (A6 (Z2 (pv 0) (C8 D_bounded G_bounded hr hx (A0 (pv 4) (A0 A3 (A0 A3 A7)))) rfl)
     (A6 (Z2 (pv 0) (U9 A7) rfl)
     (A9 (Z2 (pv 0) (U9 A7) rfl))))))), ?_⟩
   have lz : ∀ (fs : List (Str × V)) (f : Str) (v : V) (n : Nat), fs.length <= n -> (V0 f v fs).length <= n + 1 := fun fs f v n h => Nat.le_trans (A0z f v fs) (Nat.succ_le_succ h)
   have q0 : (([] : List (Str × V))).length <= 0 := Nat.le_refl _
   have z0 : 0 <= sizeLine := Nat.zero_le _
   rcases h with ⟨r, y', l, m, rfl, r1, r2, rfl, hl, rfl, m1, m2, k⟩ | ⟨bad, k⟩
   . obtain rfl := hy _ rfl
     refine ⟨_, rfl, _, _, _, rfl, V3u, .inl ⟨⟨r, rfl, r1, r2⟩, ?_⟩⟩
     refine ⟨_, rfl, p, CC, dx, [], rfl, hp, C.cl, C.n_room, by show 0 < 1000; decide, ?_⟩
     refine ⟨_, rfl, _, rfl, .inl ⟨_, rfl, fun q dq H2 nq s2 eq => ⟨q, dq, [], rfl, eq, rfl, _, rfl, ?_⟩⟩⟩
     have hp2 := s2 _ _ (A8 (H := H) (a := p) (o := .ins CC dx (V0 "room" (.int r) [])))
     have x2 : Exc p H H2 := (Exc.upd (H := H) (o := .ins CC dx (V0 "room" (.int r) []))).trans (.of s2)
     refine ⟨_, rfl, p, CC, dx, _, rfl, hp2, C.cl, C.n_rule, Nat.lt_of_le_of_lt (lz _ _ _ 0 q0) (by decide), ?_⟩
     refine ⟨fun σ' H' => σ' = [some (.ref p), some (.int r), some (.str y'.name), some v3, some (.int m)] /\ Exc p H H' /\ H' p = some (.ins CC dx (V0 "least" (.int l) (V0 "rule" (.str y'.name) (V0 "room" (.int r) [])))), ?_, ?_⟩
     . refine ⟨_, rfl, rfl, _, rfl, ?_⟩
       rcases hl with ⟨rfl, rfl⟩ | ⟨rfl, l1, l2⟩
       . refine A3t rfl ⟨_, rfl, ?_⟩
         exact ⟨_, rfl, p, CC, dx, _, rfl, A8, C.cl, C.n_least, Nat.lt_of_le_of_lt (lz _ _ _ 1 (lz _ _ _ 0 q0)) (by decide), rfl, (x2.trans Exc.upd).trans Exc.upd, A8⟩
       . refine Y5 (by intro z; cases z) ⟨_, rfl, _, rfl, _, _, _, rfl, J1p, .inl ⟨⟨l, rfl, l1, l2⟩, ?_⟩⟩
         exact ⟨_, rfl, p, CC, dx, _, rfl, A8, C.cl, C.n_least, Nat.lt_of_le_of_lt (lz _ _ _ 1 (lz _ _ _ 0 q0)) (by decide), rfl, (x2.trans Exc.upd).trans Exc.upd, A8⟩
     rintro σ' H4 ⟨rfl, x4, hp4⟩
     refine ⟨_, rfl, _, _, _, rfl, V1t, .inl ⟨⟨m, rfl, m1, m2⟩, ?_⟩⟩
     refine ⟨_, rfl, p, CC, dx, _, rfl, hp4, C.cl, C.n_most, Nat.lt_of_le_of_lt (lz _ _ _ 2 (lz _ _ _ 1 (lz _ _ _ 0 q0))) (by decide), ?_⟩
     refine ⟨z0, fun a na => ?_⟩
     refine ⟨_, rfl, p, CC, dx, _, rfl, Same.upd na _ _ A8, C.cl, C.n_risen, Nat.lt_of_le_of_lt (lz _ _ _ 3 (lz _ _ _ 2 (lz _ _ _ 1 (lz _ _ _ 0 q0)))) (by decide), ?_⟩
     refine ⟨z0, fun b nb => ?_⟩
     refine ⟨_, rfl, p, CC, dx, _, rfl, Same.upd nb _ _ A8, C.cl, C.n_trapped, Nat.lt_of_le_of_lt (lz _ _ _ 4 (lz _ _ _ 3 (lz _ _ _ 2 (lz _ _ _ 1 (lz _ _ _ 0 q0))))) (by decide), ?_⟩
     have x5 := x4.trans (Exc.upd (H := H4) (o := .ins CC dx (V0 "most" (.int m) (V0 "least" (.int l) (V0 "rule" (.str y'.name) (V0 "room" (.int r) []))))))
     have nap : a ≠ p := fun e => by rw [e, A8] at na; cases na
     have nbp : b ≠ p := fun e => by rw [e, A8] at nb; cases nb
     have x6 := (x5.trans (.of (Same.upd (o := .lst []) na))).trans (Exc.upd (o := .ins CC dx (V0 "risen" (.ref a) (V0 "most" (.int m) (V0 "least" (.int l) (V0 "rule" (.str y'.name) (V0 "room" (.int r) [])))))))
     have x7 := (x6.trans (.of (Same.upd (o := .lst []) nb))).trans (Exc.upd (o := .ins CC dx (A1d (.int r) (.str y'.name) (.int l) (.int m) (.ref a) (.ref b))))
     refine k a b _ x7 (x5.none A8 na) (x6.none A8 nb) ⟨⟨dx, A8⟩, ?_, ?_⟩
     . rw [C4 nap]
       refine Same.upd nb _ _ ?_
       rw [C4 nap]
       exact A8
     . rw [C4 nbp]
       exact A8
   . rcases bad with b1 | ⟨⟨r, rfl, r1, r2⟩, bad⟩
     . exact ⟨_, rfl, _, _, _, rfl, V3u, .inr ⟨b1 _ (Exc.refl p H), k _ (Exc.refl p H)⟩⟩
     refine ⟨_, rfl, _, _, _, rfl, V3u, .inl ⟨⟨r, rfl, r1, r2⟩, ?_⟩⟩
     refine ⟨_, rfl, p, CC, dx, [], rfl, hp, C.cl, C.n_room, by show 0 < 1000; decide, ?_⟩
     have x1 : Exc p H (upd H p (.ins CC dx (V0 "room" (.int r) []))) := Exc.upd
     rcases bad with b2 | ⟨⟨y', rfl⟩, bad⟩
     . exact ⟨_, rfl, _, rfl, .inr ⟨b2 _ x1, k _ x1⟩⟩
     obtain rfl := hy _ rfl
     refine ⟨_, rfl, _, rfl, .inl ⟨_, rfl, fun q dq H2 nq s2 eq => ⟨q, dq, [], rfl, eq, rfl, _, rfl, ?_⟩⟩⟩
     have hp2 := s2 _ _ (A8 (H := H) (a := p) (o := .ins CC dx (V0 "room" (.int r) [])))
     have x2 : Exc p H H2 := x1.trans (.of s2)
     refine ⟨_, rfl, p, CC, dx, _, rfl, hp2, C.cl, C.n_rule, Nat.lt_of_le_of_lt (lz _ _ _ 0 q0) (by decide), ?_⟩
     rcases bad with ⟨n3, b3⟩ | ⟨⟨l, hl⟩, b4⟩
     . refine ⟨fun _ _ => False, ?_, fun _ _ z => z.elim⟩
       refine ⟨_, rfl, rfl, _, rfl, Y5 n3 ?_⟩
       exact ⟨_, rfl, _, rfl, _, _, _, rfl, J1p, .inr ⟨b3 _ (x2.trans Exc.upd), k _ (x2.trans Exc.upd)⟩⟩
     refine ⟨fun σ' H' => σ' = [some (.ref p), some (.int r), some (.str y'.name), some v3, some v4] /\ Exc p H H', ?_, ?_⟩
     . refine ⟨_, rfl, rfl, _, rfl, ?_⟩
       rcases hl with ⟨rfl, rfl⟩ | ⟨rfl, l1, l2⟩
       . refine A3t rfl ⟨_, rfl, ?_⟩
         exact ⟨_, rfl, p, CC, dx, _, rfl, A8, C.cl, C.n_least, Nat.lt_of_le_of_lt (lz _ _ _ 1 (lz _ _ _ 0 q0)) (by decide), rfl, (x2.trans Exc.upd).trans Exc.upd⟩
       . refine Y5 (by intro z; cases z) ⟨_, rfl, _, rfl, _, _, _, rfl, J1p, .inl ⟨⟨l, rfl, l1, l2⟩, ?_⟩⟩
         exact ⟨_, rfl, p, CC, dx, _, rfl, A8, C.cl, C.n_least, Nat.lt_of_le_of_lt (lz _ _ _ 1 (lz _ _ _ 0 q0)) (by decide), rfl, (x2.trans Exc.upd).trans Exc.upd⟩
     rintro σ' H4 ⟨rfl, x4⟩
     exact ⟨_, rfl, _, _, _, rfl, V1t, .inr ⟨b4 _ x4, k _ x4⟩⟩
end
section
variable {P : Program} {w : World} {K : Frag} {mg : Str -> Option Value} {base : Heap}
def C3q (CC : Addr) (cw : Wy -> Addr) : Sp := fun vs H Q _ => ∃ c r y l m a b xs ys, vs = [.ref c] /\ CtxAt CC H c r y l m a b xs ys /\ ∀ p dx H', H p = none -> Same H H' -> H' p = some (.ins (cw y) dx []) -> Q (.ref p) H'
theorem V2z : FnScope ["self"] ["self"] (A1 B2n) := scK
theorem U6e {f fW CC CB : Addr} {cw : Wy -> Addr} {fd fdW : FuncData} (F : Fun K "way" "Context.way" B2n f fd) (D_way_of : Def K mg "way_of" ["name"] A9d fW fdW) (G_way_of : FnOk P w K mg base (CX1 P w) 1 fW fdW ["name"] (D5r K CB cw)) (C : CtxC K mg CC) :
   FnOk P w K mg base (CX1 P w) 2 f fd ["self"] (C3q CC cw) := by
 refine F.okE V2z (fun vs H Q E h => ?_) (fun X cdv A outer s H vs Q E hX hr hx h => ?_)
 . obtain ⟨c, r, y, l, m, a, b, xs, ys, rfl, _⟩ := h
   rfl
 . subst hX
   obtain ⟨c, r, y, l, m, a, b, xs, ys, rfl, ⟨⟨dx, e⟩, _, _⟩, k⟩ := h
   refine ⟨_, (A9 (B7 (C8 D_way_of G_way_of hr hx (A0 (G0 (pv 0) rfl) A7)))), ?_⟩
   exact ⟨_, rfl, c, CC, dx, _, _, rfl, e, C.cl, C.n_rule, V4b _ _ _ _ _ _, _, rfl, .inl ⟨y, rfl, k⟩⟩
def C4k (CC : Addr) : Sp := fun vs H Q _ => ∃ c r y l m a b xs ys, vs = [.ref c] /\ CtxAt CC H c r y l m a b xs ys /\ Q (.int (l - r + 1)) H
theorem V1f : FnScope ["self"] ["self"] (A1 B2s) := scK
theorem U4t {f CC : Addr} {fd : FuncData} (F : Fun K "lowest" "Context.lowest" B2s f fd) (C : CtxC K mg CC) : FnOk P w K mg base (CX1 P w) 1 f fd ["self"] (C4k CC) := by
 refine FnOk.up (F.ok V1f (fun vs H Q E h => ?_) (fun cdv A outer s H vs Q E hr h => ?_))
 . obtain ⟨c, r, y, l, m, a, b, xs, ys, rfl, _⟩ := h
   rfl
 . obtain ⟨c, r, y, l, m, a, b, xs, ys, rfl, ⟨⟨dx, e⟩, _, _⟩, k⟩ := h
   refine ⟨_, (A9 (B7 (B3 U3 (B3 U1 (G0 (pv 0) rfl) (G0 (pv 0) rfl)) A3))), ?_⟩
   exact ⟨_, rfl, c, CC, dx, _, _, rfl, e, C.cl, C.n_least, D3f _ _ _ _ _ _, _, rfl, c, CC, dx, _, _, rfl, e, C.cl, C.n_room, A9n _ _ _ _ _ _, _, _, rfl, rfl, _, _, rfl, rfl, k⟩
def B4c (CC : Addr) : Sp := fun vs H Q _ => ∃ c r y l m a b xs ys, vs = [.ref c] /\ CtxAt CC H c r y l m a b xs ys /\ ∀ p, H p = none -> Q (.ref p) (upd H p (.lst xs))
theorem J0u : FnScope ["self"] ["self"] (A1 A2n) := scK
theorem G4z {f CC : Addr} {fd : FuncData} (F : Fun K "flags" "Context.flags" A2n f fd) (C : CtxC K mg CC) (O : Own mg) : FnOk P w K mg base (CX1 P w) 1 f fd ["self"] (B4c CC) := by
 refine FnOk.up (F.ok J0u (fun vs H Q E h => ?_) (fun cdv A outer s H vs Q E hr h => ?_))
 . obtain ⟨c, r, y, l, m, a, b, xs, ys, rfl, _⟩ := h
   rfl
 . obtain ⟨c, r, y, l, m, a, b, xs, ys, rfl, ⟨⟨dx, e⟩, ha, _⟩, k⟩ := h
   refine ⟨_, (A9 (B7 (V4 A6c (by rfl) O.list_ boot_list (A0 (G0 (pv 0) rfl) A7)))), ?_⟩
   exact ⟨_, rfl, c, CC, dx, _, _, rfl, e, C.cl, C.n_risen, D2x _ _ _ _ _ _, a, xs, rfl, .inl (SqL.of ha), k⟩
structure MakeC (P : Program) (w : World) (K : Frag) (mg : Str -> Option Value) (base : Heap) (CC CB fI : Addr) (fdI : FuncData) : Prop where
 m : Mk K CC fI
 g : FnOk P w K mg base (CX1 P w) 3 fI fdI ["self", "room", "way", "least", "most"] (B7c K CC CB)
theorem Y7n {C x dx : Addr} {H H' : Hp} (n1 : H x = none) (n2 : H dx = none) (ne : dx ≠ x) (e : Exc x (upd (upd H dx (.own x)) x (.ins C dx [])) H') : Same H H' := fun b o h =>
 e b o (by rw [C4 (C9 h n1), C4 (C9 h n2)]; exact h) (C9 h n1)
theorem Z9q {CC CB x dx : Addr} {H : Hp} {Q : VK} {E : XK} {v1 v2 v3 v4 : V} {r : Int} {y : Wy} {l m : Int} (n1 : H x = none) (n2 : H dx = none) (ne : dx ≠ x) (h1 : v1 = .int r) (r1 : 1 <= r) (r2 : r <= 24) (h2 : v2 = .str y.name) (h3 : J0t l v3) (h4 : v4 = .int m) (m1 : 0 <= m) (m2 : m <= 60)
   (k : ∀ a b H', Same H H' -> CtxAt CC H' x r y l m a b [] [] -> Q .non H') : B7c K CC CB [.ref x, v1, v2, v3, v4] (upd (upd H dx (.own x)) x (.ins CC dx [])) Q E :=
 ⟨x, dx, v1, v2, v3, v4, rfl, A8, .inl ⟨r, y, l, m, h1, r1, r2, h2, h3, h4, m1, m2, fun a b H' e _ _ c => k a b H' (Y7n n1 n2 ne e) c⟩⟩
end
abbrev A4w : Stmt := (D7 (top 54) 5)
abbrev A0r : Stmt := (D7 (top 54) 7)
theorem G5s (r s l m a b : V) : (A1d r s l m a b).length = 6 := rfl
theorem D5v (r s l m a b v : V) : V0 "trapped" v (A1d r s l m a b) = A1d r s l m a v := rfl
theorem J1d (r s l m a b v : V) : V0 "risen" v (A1d r s l m a b) = A1d r s l m v b := rfl
section
variable {P : Program} {w : World} {K : Frag} {mg : Str -> Option Value} {base : Heap}
def J2c (K : Frag) (CC CB : Addr) : Sp := fun vs H Q E => ∃ c r y l m a b xs ys v, vs = [.ref c, v] /\ CtxAt CC H c r y l m a b xs ys /\
 ((∃ (p : Addr) (zs : List Str), v = .ref p /\ H p = some (.lst (zs.map V.str)) /\ (∀ z ∈ zs, z ∈ sigS) /\ ∀ b' H', Exc c H H' -> H b' = none -> CtxAt CC H' c r y l m a b' xs ((V3 zs).map V.str) -> Q .non H') \/ (J1k K H v /\ E (.ref CB) none H))
theorem Z3x : FnScope ["self", "names"] ["self", "names"] (A1 A4w) := scK
theorem Y7p {f f1 f2 CC CB : Addr} {fd fd1 fd2 : FuncData} (F : Fun K "trap" "Context.trap" A4w f fd) (D_need_signals : Def K mg "need_signals" ["names"] A8v f1 fd1) (G_need_signals : FnOk P w K mg base (CX1 P w) 1 f1 fd1 ["names"] (D6b K CB))
   (D_in_order : Def K mg "in_order" ["names"] A9t f2 fd2) (G_in_order : FnOk P w K mg base (CX1 P w) 1 f2 fd2 ["names"] (D5w K)) (C : CtxC K mg CC) : FnOk P w K mg base (CX1 P w) 2 f fd ["self", "names"] (J2c K CC CB) := by
 refine F.okE Z3x (fun vs H Q E h => ?_) (fun X cdv A outer s H vs Q E hX hr hx h => ?_)
 . obtain ⟨c, r, y, l, m, a, b, xs, ys, v, rfl, _⟩ := h
   rfl
 . subst hX
   obtain ⟨c, r, y, l, m, a, b, xs, ys, v, rfl, ⟨⟨dx, e⟩, ha, hb⟩, h⟩ := h
   refine ⟨_, (A6 (Y8 (C8 D_need_signals G_need_signals hr hx (A0 (pv 1) A7)))
     (A9 (Z2 (pv 0) (C8 D_in_order G_in_order hr hx (A0 (pv 1) A7)) rfl))), ?_⟩
   rcases h with ⟨p, zs, rfl, hp, hz, k⟩ | ⟨bad, k⟩
   . refine ⟨_, rfl, _, rfl, .inl ⟨p, zs, rfl, hp, hz, ?_⟩⟩
     refine ⟨_, rfl, p, zs, rfl, SqL.of hp, fun b' H1 s1 n1 e1 => ?_⟩
     refine ⟨_, rfl, c, CC, dx, _, rfl, s1 _ _ e, C.cl, C.n_trapped, by rw [G5s]; decide, ?_⟩
     rw [D5v]
     have nac : a ≠ c := J9 ha e (by intro z; cases z)
     have nbc : b' ≠ c := J9 e1 (s1 _ _ e) (by intro z; cases z)
     exact k b' _ ((Exc.of s1).trans Exc.upd) n1 ⟨⟨dx, A8⟩, by rw [C4 nac]; exact s1 _ _ ha, by rw [C4 nbc]; exact e1⟩
   . exact ⟨_, rfl, _, rfl, .inr ⟨bad, k⟩⟩
def hit (ys zs : List Str) : Option Str := ys.find? fun t => zs.contains t
def B5z (K : Frag) (CC CB CT : Addr) : Sp := fun vs H Q E => ∃ c r y l m a b, ∃ (xs ys : List Str) (v : V), vs = [.ref c, v] /\ CtxAt CC H c r y l m a b (xs.map V.str) (ys.map V.str) /\ xs.length + 100 <= 1000 /\
 ((∃ (p : Addr) (zs : List Str), v = .ref p /\ H p = some (.lst (zs.map V.str)) /\ zs.length <= 100 /\ (∀ z ∈ zs, z ∈ sigS) /\
     (hit ys zs = none -> ∀ a' H', Exc c H H' -> H a' = none -> CtxAt CC H' c r y l m a' b ((V3 (xs ++ zs)).map V.str) (ys.map V.str) -> Q .non H') /\
     (∀ t, hit ys zs = some t -> ∀ a' d H', Exc c H H' -> H a' = none -> CtxAt CC H' c r y l m a' b ((V3 (xs ++ zs)).map V.str) (ys.map V.str) -> H d = none -> H' d = some (.xd [("signal", .str t)]) -> E (.ref CT) (some d) H')) \/
  (J1k K H v /\ E (.ref CB) none H))
theorem scRaised : FnScope ["self", "names", "name"] ["self", "names"] (A1 A0r) := scK
theorem U5q {f f1 f2 fX CC CB CT : Addr} {fd fd1 fd2 fdX : FuncData} (F : Fun K "raised" "Context.raised" A0r f fd) (D_need_signals : Def K mg "need_signals" ["names"] A8v f1 fd1) (G_need_signals : FnOk P w K mg base (CX1 P w) 1 f1 fd1 ["names"] (D6b K CB))
   (D_in_order : Def K mg "in_order" ["names"] A9t f2 fd2) (G_in_order : FnOk P w K mg base (CX1 P w) 1 f2 fd2 ["names"] (D5w K)) (C : CtxC K mg CC)
   (gT : mg "Trapped" = some (.ref CT)) (XI : ExcI K CT fX) (GX : FnOk P w K mg base CX0 1 fX fdX ["self", "signal"] (D4y CT "signal")) (BX : Binds K fdX ["self", "signal"] []) : FnOk P w K mg base (CX1 P w) 3 f fd ["self", "names"] (B5z K CC CB CT) := by
 refine F.okE scRaised (fun vs H Q E h => ?_) (fun X cdv A outer s H vs Q E hX hr hx h => ?_)
 . obtain ⟨c, r, y, l, m, a, b, xs, ys, v, rfl, _⟩ := h
   rfl
 . subst hX
   obtain ⟨c, r, y, l, m, a, b, xs, ys, v, rfl, ⟨⟨dx, e⟩, ha, hb⟩, lx, h⟩ := h
   refine ⟨_, (A6 (Y8 (C8 D_need_signals G_need_signals hr hx (A0 (pv 1) A7)))
     (A6 (Z2 (pv 0) (C8 D_in_order G_in_order hr hx (A0 (B3 C3y (G0 (pv 0) rfl) (pv 1)) A7)) rfl)
     (A9 (D4u PassesOwn.leaving rfl (U2f (G0 (pv 0) rfl)) (V6 (i := 2) scRaised.nd rfl (Or.inl rfl)) (A9 (G4 (C5 A4x (pv 2) (pv 1) (by rfl)) (A9 (U3z gT XI GX BX hr hx (A0 (pv 2) A7))) C7)))))), ?_⟩
   rcases h with ⟨p, zs, rfl, hp, lz, hz, k1, k2⟩ | ⟨bad, k⟩
   . refine ⟨_, rfl, _, rfl, .inl ⟨p, zs, rfl, hp, hz, ?_⟩⟩
     refine ⟨_, rfl, c, CC, dx, _, _, rfl, e, C.cl, C.n_risen, D2x _ _ _ _ _ _, _, rfl, a, p, _, _, rfl, rfl, ha, hp, C6 (by rw [List.length_map, List.length_map]; omega), fun q nq => ?_⟩
     have u1 := Same.upd (o := .lst (xs.map V.str ++ zs.map V.str)) nq
     refine ⟨q, xs ++ zs, rfl, SqL.of (by rw [A8, List.map_append]), fun a' H1 s1 n1 e1 => ?_⟩
     have s2 := u1.trans s1
     refine ⟨_, rfl, c, CC, dx, _, rfl, s2 _ _ e, C.cl, C.n_risen, by rw [G5s]; decide, ?_⟩
     rw [J1d]
     have nbc : b ≠ c := J9 hb e (by intro z; cases z)
     have npc : p ≠ c := J9 hp e (by intro z; cases z)
     have nac : a' ≠ c := J9 e1 (s2 _ _ e) (by intro z; cases z)
     have x2 : Exc c H (upd H1 c (.ins CC dx (A1d (.int r) (.str y.name) (.int l) (.int m) (.ref a') (.ref b)))) := (Exc.of s2).trans Exc.upd
     have hb2 : (upd H1 c (.ins CC dx (A1d (.int r) (.str y.name) (.int l) (.int m) (.ref a') (.ref b)))) b = some (.lst (ys.map V.str)) := by rw [C4 nbc]; exact s2 _ _ hb
     have hp2 : (upd H1 c (.ins CC dx (A1d (.int r) (.str y.name) (.int l) (.int m) (.ref a') (.ref b)))) p = some (.lst (zs.map V.str)) := by rw [C4 npc]; exact s2 _ _ hp
     have ct : CtxAt CC (upd H1 c (.ins CC dx (A1d (.int r) (.str y.name) (.int l) (.int m) (.ref a') (.ref b)))) c r y l m a' b ((V3 (xs ++ zs)).map V.str) (ys.map V.str) := ⟨⟨dx, A8⟩, by rw [C4 nac]; exact e1, hb2⟩
     refine ⟨_, rfl, c, CC, dx, _, _, rfl, A8, C.cl, C.n_trapped, C2h _ _ _ _ _ _, b, rfl, ⟨_, SqL.of hb2⟩, ?_⟩
     generalize upd H1 c (.ins CC dx (A1d (.int r) (.str y.name) (.int l) (.int m) (.ref a') (.ref b))) = H3 at x2 hb2 hp2 ct ⊢
     refine C3j (xs := ys.map V.str) (fun i σ H' => H' = H3 /\ (∀ t ∈ ys.take i, zs.contains t = false) /\ ∃ v, σ = [some (.ref c), some (.ref p), v]) ⟨rfl, by simp, none, rfl⟩ ?_ ?_ ?_
     . rintro i σ H' _ ⟨rfl, _⟩
       exact SqL.of hb2
     . rintro i x σ H' hi ⟨rfl, ht, v, rfl⟩
       rw [List.getElem?_map] at hi
       obtain ⟨t, hti, rfl⟩ := Option.map_eq_some_iff.mp hi
       refine ⟨_, rfl, _, rfl, p, _, rfl, .inl (SqL.of hp2), rfl, Y4 _, _, rfl, ?_⟩
       have hlt : i < ys.length := (List.getElem?_eq_some_iff.mp hti).1
       have et : ys.take (i + 1) = ys.take i ++ [t] := by
         rw [List.take_succ_eq_append_getElem hlt, (List.getElem?_eq_some_iff.mp hti).2]
       cases hc : zs.contains t with
       | false =>
         rw [show (if false = true then !inV (V.str t) (zs.map V.str) else inV (V.str t) (zs.map V.str)) = false by rw [if_neg Bool.false_ne_true, A0a, hc]]
         refine G7 ⟨rfl, fun t' h' => ?_, _, rfl⟩
         rw [et] at h'
         rcases List.mem_append.mp h' with h' | h'
         . exact ht t' h'
         . rw [List.mem_singleton.mp h']; exact hc
       | true =>
         rw [show (if false = true then !inV (V.str t) (zs.map V.str) else inV (V.str t) (zs.map V.str)) = true by rw [if_neg Bool.false_ne_true, A0a, hc]]
         obtain ⟨dx', hc3⟩ := ct.ins
         refine V8 ⟨_, rfl, _, rfl, fun d H4 s4 nd e4 => ?_⟩
         refine k2 t ?_ a' d H4 (x2.trans (.of s4)) ((u1.free n1)) (ct.same s4) (x2.none hc3 nd) e4
         unfold hit
         rw [List.find?_eq_some_iff_append]
         refine ⟨hc, ys.take i, ys.drop (i + 1), ?_, fun t' h' => by rw [ht t' h']; rfl⟩
         have := List.take_append_drop (i + 1) ys
         rw [et] at this
         rw [List.append_assoc] at this
         exact this.symm
     . rintro σ H' ⟨rfl, ht, v, rfl⟩
       refine k1 ?_ a' _ x2 (u1.free n1) ct
       unfold hit
       rw [List.find?_eq_none]
       rw [List.length_map, List.take_length] at ht
       intro t hm
       rw [ht t hm]
       exact Bool.false_ne_true
   . exact ⟨_, rfl, _, rfl, .inr ⟨bad, k⟩⟩
end
section
variable {P : Program} {w : World} {K : Frag} {mg : Str -> Option Value} {base : Heap}
def B3w (CC : Addr) : Sp := fun vs H Q _ => ∃ c r y l m a b xs ys, vs = [.ref c] /\ CtxAt CC H c r y l m a b xs ys /\ ∀ p, H p = none -> Q (.ref p) (upd H p (.lst ys))
theorem J1n : FnScope ["self"] ["self"] (A1 A2p) := scK
theorem G6p {f CC : Addr} {fd : FuncData} (F : Fun K "traps" "Context.traps" A2p f fd) (C : CtxC K mg CC) (O : Own mg) : FnOk P w K mg base (CX1 P w) 1 f fd ["self"] (B3w CC) := by
 refine FnOk.up (F.ok J1n (fun vs H Q E h => ?_) (fun cdv A outer s H vs Q E hr h => ?_))
 . obtain ⟨c, r, y, l, m, a, b, xs, ys, rfl, _⟩ := h
   rfl
 . obtain ⟨c, r, y, l, m, a, b, xs, ys, rfl, ⟨⟨dx, e⟩, _, hb⟩, k⟩ := h
   refine ⟨_, (A9 (B7 (V4 A6c (by rfl) O.list_ boot_list (A0 (G0 (pv 0) rfl) A7)))), ?_⟩
   exact ⟨_, rfl, c, CC, dx, _, _, rfl, e, C.cl, C.n_trapped, C2h _ _ _ _ _ _, b, ys, rfl, .inl (SqL.of hb), k⟩
end
abbrev B2q : Stmt := (D7 (top 13) 0)
section
variable {P : Program} {w : World} {K : Frag} {mg : Str -> Option Value} {base : Heap}
theorem V2m : FnScope ["self", "signal"] ["self", "signal"] (A1 B2q) := scK
theorem U5z {f CT fI : Addr} {fd : FuncData} (F : Fun K "__init__" "Trapped.__init__" B2q f fd) (XI : ExcI K CT fI) (hn : findIn K (.ref CT) "signal" = some none) : FnOk P w K mg base CX0 1 f fd ["self", "signal"] (D4y CT "signal") := by
 refine F.ok V2m (fun vs H Q E h => ?_) (fun cdv A outer s H vs Q E hr h => ?_)
 . obtain ⟨e, t, v, rfl, _⟩ := h
   rfl
 . obtain ⟨e, t, v, rfl, he, k⟩ := h
   refine ⟨_, (A9 (Y7a XI hn (pv 0) (pv 1) rfl)), ?_⟩
   exact ⟨_, rfl, _, rfl, e, t, rfl, he, fun d nd ne => k d nd ne⟩
end
def Wy.goes (y : Wy) (s last part : Int) : Bool := match y with
 | .down => false
 | .up => true
 | .floor => decide (V.int s = V.int 1)
 | .ceiling => decide (V.int s = V.int 0)
 | .halfUp => decide (part >= 2)
 | .halfDown => decide (V.int part = V.int 3)
 | .halfEven => if decide (V.int part = V.int 3) = true then true else if decide (V.int part = V.int 2) = true then decide (V.int (last % 2) = V.int 1) else false
 | .fiveUp => inV (.int last) [.int 0, .int 5]
def Wy.toEnd (y : Wy) (s : Int) : Bool := match y with
 | .down => false
 | .up => true
 | .floor => decide (V.int s = V.int 1)
 | .ceiling => decide (V.int s = V.int 0)
 | .halfUp => true
 | .halfDown => true
 | .halfEven => true
 | .fiveUp => false
section
variable {P : Program} {w : World} {K : Frag} {mg : Str -> Option Value} {base : Heap}
def A5j (y : Wy) : Sp := fun vs H Q _ => ∃ p s l t, vs = [.ref p, .int s, .int l, .int t] /\ ∀ H', Same H H' -> Q (.bl (y.goes s l t)) H'
def A2c (y : Wy) : Sp := fun vs H Q _ => ∃ p s, vs = [.ref p, .int s] /\ ∀ H', Same H H' -> Q (.bl (y.toEnd s)) H'
def Z7n (P : Program) (w : World) (K : Frag) (mg : Str -> Option Value) (base : Heap) (C : Addr) (y : Wy) : Prop := Has P w K mg base C "goes_up" 1 ["self", "sign", "last", "part"] (A5j y)
def Z7z (P : Program) (w : World) (K : Frag) (mg : Str -> Option Value) (base : Heap) (C : Addr) (y : Wy) : Prop := Has P w K mg base C "to_end" 1 ["self", "sign"] (A2c y)
abbrev sU0 : Stmt := (D7 (top 43) 1)
theorem scU0 : FnScope ["self", "sign", "last", "part"] ["self", "sign", "last", "part"] (A1 sU0) := scK
theorem Z7k {f : Addr} {fd : FuncData} (F : Fun K "goes_up" "Down.goes_up" sU0 f fd) : FnOk P w K mg base (CX1 P w) 1 f fd ["self", "sign", "last", "part"] (A5j .down) := by
 refine FnOk.up (F.ok scU0 (fun vs H Q E h => ?_) (fun cdv A outer s H vs Q E hr h => ?_))
 . obtain ⟨p, z, l, t, rfl, _⟩ := h
   rfl
 . obtain ⟨p, z, l, t, rfl, k⟩ := h
   refine ⟨_, (A9 (B7 B3j)), ?_⟩
   exact k H (Same.refl H)
abbrev sT0 : Stmt := (D7 (top 43) 2)
theorem scT0 : FnScope ["self", "sign"] ["self", "sign"] (A1 sT0) := scK
theorem Z9k {f : Addr} {fd : FuncData} (F : Fun K "to_end" "Down.to_end" sT0 f fd) : FnOk P w K mg base (CX1 P w) 1 f fd ["self", "sign"] (A2c .down) := by
 refine FnOk.up (F.ok scT0 (fun vs H Q E h => ?_) (fun cdv A outer s H vs Q E hr h => ?_))
 . obtain ⟨p, z, rfl, _⟩ := h
   rfl
 . obtain ⟨p, z, rfl, k⟩ := h
   refine ⟨_, (A9 (B7 B3j)), ?_⟩
   exact k H (Same.refl H)
abbrev sU1 : Stmt := (D7 (top 44) 1)
theorem scU1 : FnScope ["self", "sign", "last", "part"] ["self", "sign", "last", "part"] (A1 sU1) := scK
theorem Z8p {f : Addr} {fd : FuncData} (F : Fun K "goes_up" "Up.goes_up" sU1 f fd) : FnOk P w K mg base (CX1 P w) 1 f fd ["self", "sign", "last", "part"] (A5j .up) := by
 refine FnOk.up (F.ok scU1 (fun vs H Q E h => ?_) (fun cdv A outer s H vs Q E hr h => ?_))
 . obtain ⟨p, z, l, t, rfl, _⟩ := h
   rfl
 . obtain ⟨p, z, l, t, rfl, k⟩ := h
   refine ⟨_, (A9 (B7 B3j)), ?_⟩
   exact k H (Same.refl H)
abbrev sT1 : Stmt := (D7 (top 44) 2)
theorem scT1 : FnScope ["self", "sign"] ["self", "sign"] (A1 sT1) := scK
theorem Z9p {f : Addr} {fd : FuncData} (F : Fun K "to_end" "Up.to_end" sT1 f fd) : FnOk P w K mg base (CX1 P w) 1 f fd ["self", "sign"] (A2c .up) := by
 refine FnOk.up (F.ok scT1 (fun vs H Q E h => ?_) (fun cdv A outer s H vs Q E hr h => ?_))
 . obtain ⟨p, z, rfl, _⟩ := h
   rfl
 . obtain ⟨p, z, rfl, k⟩ := h
   refine ⟨_, (A9 (B7 B3j)), ?_⟩
   exact k H (Same.refl H)
abbrev sU2 : Stmt := (D7 (top 45) 1)
theorem scU2 : FnScope ["self", "sign", "last", "part"] ["self", "sign", "last", "part"] (A1 sU2) := scK
theorem Z9b {f : Addr} {fd : FuncData} (F : Fun K "goes_up" "Floor.goes_up" sU2 f fd) : FnOk P w K mg base (CX1 P w) 1 f fd ["self", "sign", "last", "part"] (A5j .floor) := by
 refine FnOk.up (F.ok scU2 (fun vs H Q E h => ?_) (fun cdv A outer s H vs Q E hr h => ?_))
 . obtain ⟨p, z, l, t, rfl, _⟩ := h
   rfl
 . obtain ⟨p, z, l, t, rfl, k⟩ := h
   refine ⟨_, (A9 (B7 (D9 D5 (pv 1) A3 (B9 _)))), ?_⟩
   exact ⟨_, rfl, rfl, k H (Same.refl H)⟩
abbrev sT2 : Stmt := (D7 (top 45) 2)
theorem scT2 : FnScope ["self", "sign"] ["self", "sign"] (A1 sT2) := scK
theorem Z9e {f : Addr} {fd : FuncData} (F : Fun K "to_end" "Floor.to_end" sT2 f fd) : FnOk P w K mg base (CX1 P w) 1 f fd ["self", "sign"] (A2c .floor) := by
 refine FnOk.up (F.ok scT2 (fun vs H Q E h => ?_) (fun cdv A outer s H vs Q E hr h => ?_))
 . obtain ⟨p, z, rfl, _⟩ := h
   rfl
 . obtain ⟨p, z, rfl, k⟩ := h
   refine ⟨_, (A9 (B7 (D9 D5 (pv 1) A3 (B9 _)))), ?_⟩
   exact ⟨_, rfl, rfl, k H (Same.refl H)⟩
abbrev sU3 : Stmt := (D7 (top 46) 1)
theorem scU3 : FnScope ["self", "sign", "last", "part"] ["self", "sign", "last", "part"] (A1 sU3) := scK
theorem Z8u {f : Addr} {fd : FuncData} (F : Fun K "goes_up" "Ceiling.goes_up" sU3 f fd) : FnOk P w K mg base (CX1 P w) 1 f fd ["self", "sign", "last", "part"] (A5j .ceiling) := by
 refine FnOk.up (F.ok scU3 (fun vs H Q E h => ?_) (fun cdv A outer s H vs Q E hr h => ?_))
 . obtain ⟨p, z, l, t, rfl, _⟩ := h
   rfl
 . obtain ⟨p, z, l, t, rfl, k⟩ := h
   refine ⟨_, (A9 (B7 (D9 D5 (pv 1) A3 (B9 _)))), ?_⟩
   exact ⟨_, rfl, rfl, k H (Same.refl H)⟩
abbrev sT3 : Stmt := (D7 (top 46) 2)
theorem scT3 : FnScope ["self", "sign"] ["self", "sign"] (A1 sT3) := scK
theorem Z7u {f : Addr} {fd : FuncData} (F : Fun K "to_end" "Ceiling.to_end" sT3 f fd) : FnOk P w K mg base (CX1 P w) 1 f fd ["self", "sign"] (A2c .ceiling) := by
 refine FnOk.up (F.ok scT3 (fun vs H Q E h => ?_) (fun cdv A outer s H vs Q E hr h => ?_))
 . obtain ⟨p, z, rfl, _⟩ := h
   rfl
 . obtain ⟨p, z, rfl, k⟩ := h
   refine ⟨_, (A9 (B7 (D9 D5 (pv 1) A3 (B9 _)))), ?_⟩
   exact ⟨_, rfl, rfl, k H (Same.refl H)⟩
abbrev sU4 : Stmt := (D7 (top 47) 1)
theorem scU4 : FnScope ["self", "sign", "last", "part"] ["self", "sign", "last", "part"] (A1 sU4) := scK
theorem Z8e {f : Addr} {fd : FuncData} (F : Fun K "goes_up" "HalfUp.goes_up" sU4 f fd) : FnOk P w K mg base (CX1 P w) 1 f fd ["self", "sign", "last", "part"] (A5j .halfUp) := by
 refine FnOk.up (F.ok scU4 (fun vs H Q E h => ?_) (fun cdv A outer s H vs Q E hr h => ?_))
 . obtain ⟨p, z, l, t, rfl, _⟩ := h
   rfl
 . obtain ⟨p, z, l, t, rfl, k⟩ := h
   refine ⟨_, (A9 (B7 (D9 G5h (pv 3) A3 (B9 _)))), ?_⟩
   exact ⟨_, rfl, _, _, rfl, rfl, k H (Same.refl H)⟩
abbrev sT4 : Stmt := (D7 (top 47) 2)
theorem scT4 : FnScope ["self", "sign"] ["self", "sign"] (A1 sT4) := scK
theorem Z8n {f : Addr} {fd : FuncData} (F : Fun K "to_end" "HalfUp.to_end" sT4 f fd) : FnOk P w K mg base (CX1 P w) 1 f fd ["self", "sign"] (A2c .halfUp) := by
 refine FnOk.up (F.ok scT4 (fun vs H Q E h => ?_) (fun cdv A outer s H vs Q E hr h => ?_))
 . obtain ⟨p, z, rfl, _⟩ := h
   rfl
 . obtain ⟨p, z, rfl, k⟩ := h
   refine ⟨_, (A9 (B7 B3j)), ?_⟩
   exact k H (Same.refl H)
abbrev sU5 : Stmt := (D7 (top 48) 1)
theorem scU5 : FnScope ["self", "sign", "last", "part"] ["self", "sign", "last", "part"] (A1 sU5) := scK
theorem Z8a {f : Addr} {fd : FuncData} (F : Fun K "goes_up" "HalfDown.goes_up" sU5 f fd) : FnOk P w K mg base (CX1 P w) 1 f fd ["self", "sign", "last", "part"] (A5j .halfDown) := by
 refine FnOk.up (F.ok scU5 (fun vs H Q E h => ?_) (fun cdv A outer s H vs Q E hr h => ?_))
 . obtain ⟨p, z, l, t, rfl, _⟩ := h
   rfl
 . obtain ⟨p, z, l, t, rfl, k⟩ := h
   refine ⟨_, (A9 (B7 (D9 D5 (pv 3) A3 (B9 _)))), ?_⟩
   exact ⟨_, rfl, rfl, k H (Same.refl H)⟩
abbrev sT5 : Stmt := (D7 (top 48) 2)
theorem scT5 : FnScope ["self", "sign"] ["self", "sign"] (A1 sT5) := scK
theorem Z8j {f : Addr} {fd : FuncData} (F : Fun K "to_end" "HalfDown.to_end" sT5 f fd) : FnOk P w K mg base (CX1 P w) 1 f fd ["self", "sign"] (A2c .halfDown) := by
 refine FnOk.up (F.ok scT5 (fun vs H Q E h => ?_) (fun cdv A outer s H vs Q E hr h => ?_))
 . obtain ⟨p, z, rfl, _⟩ := h
   rfl
 . obtain ⟨p, z, rfl, k⟩ := h
   refine ⟨_, (A9 (B7 B3j)), ?_⟩
   exact k H (Same.refl H)
abbrev sU6 : Stmt := (D7 (top 49) 1)
theorem scU6 : FnScope ["self", "sign", "last", "part"] ["self", "sign", "last", "part"] (A1 sU6) := scK
theorem Z9r {f : Addr} {fd : FuncData} (F : Fun K "goes_up" "HalfEven.goes_up" sU6 f fd) : FnOk P w K mg base (CX1 P w) 1 f fd ["self", "sign", "last", "part"] (A5j .halfEven) := by
 refine FnOk.up (F.ok scU6 (fun vs H Q E h => ?_) (fun cdv A outer s H vs Q E hr h => ?_))
 . obtain ⟨p, z, l, t, rfl, _⟩ := h
   rfl
 . obtain ⟨p, z, l, t, rfl, k⟩ := h
   refine ⟨_, (A9 (B7 (G6a (D9 D5 (pv 3) A3 (B9 _)) (A1t (A5s (D9 D5 (pv 3) A3 (B9 _)) (A1t (D9 D5 (B3 D8 (pv 2) A3) A3 (B9 _)))))))), ?_⟩
   have k := k H (Same.refl H)
   unfold Wy.goes at k
   refine ⟨_, rfl, rfl, _, rfl, ?_⟩
   cases e : decide (V.int t = V.int 3) with
   | true => rw [e] at k; exact V8 k
   | false =>
     rw [e] at k
     refine G7 ⟨_, rfl, rfl, _, rfl, ?_⟩
     cases e2 : decide (V.int t = V.int 2) with
     | true => rw [e2] at k; exact V8 ⟨_, rfl, _, _, rfl, rfl, (by decide : (0 : Int) < 2), rfl, k⟩
     | false => rw [e2] at k; exact G7 k
abbrev sT6 : Stmt := (D7 (top 49) 2)
theorem scT6 : FnScope ["self", "sign"] ["self", "sign"] (A1 sT6) := scK
theorem Z8m {f : Addr} {fd : FuncData} (F : Fun K "to_end" "HalfEven.to_end" sT6 f fd) : FnOk P w K mg base (CX1 P w) 1 f fd ["self", "sign"] (A2c .halfEven) := by
 refine FnOk.up (F.ok scT6 (fun vs H Q E h => ?_) (fun cdv A outer s H vs Q E hr h => ?_))
 . obtain ⟨p, z, rfl, _⟩ := h
   rfl
 . obtain ⟨p, z, rfl, k⟩ := h
   refine ⟨_, (A9 (B7 B3j)), ?_⟩
   exact k H (Same.refl H)
abbrev sU7 : Stmt := (D7 (top 50) 1)
theorem scU7 : FnScope ["self", "sign", "last", "part"] ["self", "sign", "last", "part"] (A1 sU7) := scK
theorem Z7h {f : Addr} {fd : FuncData} (F : Fun K "goes_up" "FiveUp.goes_up" sU7 f fd) : FnOk P w K mg base (CX1 P w) 1 f fd ["self", "sign", "last", "part"] (A5j .fiveUp) := by
 refine FnOk.up (F.ok scU7 (fun vs H Q E h => ?_) (fun cdv A outer s H vs Q E hr h => ?_))
 . obtain ⟨p, z, l, t, rfl, _⟩ := h
   rfl
 . obtain ⟨p, z, l, t, rfl, k⟩ := h
   refine ⟨_, (A9 (B7 (D9 A4x (pv 2) (V1 (A0 A3 (A0 A3 A7))) (by rfl)))), ?_⟩
   exact ⟨_, rfl, C6 (by decide), fun q nq => ⟨q, _, rfl, .inr (SqT.of A8), rfl, rfl, k _ (Same.upd nq)⟩⟩
abbrev sT7 : Stmt := (D7 (top 50) 2)
theorem scT7 : FnScope ["self", "sign"] ["self", "sign"] (A1 sT7) := scK
theorem Z7s {f : Addr} {fd : FuncData} (F : Fun K "to_end" "FiveUp.to_end" sT7 f fd) : FnOk P w K mg base (CX1 P w) 1 f fd ["self", "sign"] (A2c .fiveUp) := by
 refine FnOk.up (F.ok scT7 (fun vs H Q E h => ?_) (fun cdv A outer s H vs Q E hr h => ?_))
 . obtain ⟨p, z, rfl, _⟩ := h
   rfl
 . obtain ⟨p, z, rfl, k⟩ := h
   refine ⟨_, (A9 (B7 B3j)), ?_⟩
   exact k H (Same.refl H)
end
abbrev A3r : Stmt := (top 26)
abbrev A1c : Stmt := (top 27)
abbrev Y0 : Stmt := (top 28)
abbrev A3p : Stmt := (top 29)
abbrev A3n : Stmt := (top 30)
abbrev A9g : Stmt := (top 31)
abbrev A9p : Stmt := (top 32)
abbrev A2s : Stmt := (top 33)
abbrev A2u : Stmt := (top 34)
abbrev A3q : Stmt := (top 35)
structure Cv where
 r : Int
 y : Wy
 l : Int
 m : Int
structure Cv.Ok (c : Cv) : Prop where
 r1 : 1 <= c.r
 r2 : c.r <= 24
 l1 : -60 <= c.l
 l2 : c.l <= 0
 m1 : 0 <= c.m
 m2 : c.m <= 60
def A9m (ideal : Int) : Nat -> Int -> Int -> Int × Int
 | 0, f, p => (f, p)
 | n + 1, f, p => if f % 10 = 0 then A9m ideal n (f / 10) (p + 1) else (f, p)
def Z1 (ideal f p : Int) : Int × Int := A9m ideal (ideal - p).toNat f p
theorem C3g {ideal f p : Int} (h : p < ideal) (z : f % 10 = 0) : Z1 ideal f p = Z1 ideal (f / 10) (p + 1) := by
 unfold Z1
 obtain ⟨n, hn⟩ : ∃ n, (ideal - p).toNat = n + 1 := ⟨(ideal - p).toNat - 1, by omega⟩
 rw [hn, show (ideal - (p + 1)).toNat = n by omega]
 show (if f % 10 = 0 then A9m ideal n (f / 10) (p + 1) else (f, p)) = _
 rw [if_pos z]
theorem C3s {ideal f p : Int} (h : ¬ (p < ideal /\ f % 10 = 0)) : Z1 ideal f p = (f, p) := by
 unfold Z1
 by_cases q : p < ideal
 . obtain ⟨n, hn⟩ : ∃ n, (ideal - p).toNat = n + 1 := ⟨(ideal - p).toNat - 1, by omega⟩
   rw [hn]
   show (if f % 10 = 0 then A9m ideal n (f / 10) (p + 1) else (f, p)) = _
   rw [if_neg fun z => h ⟨q, z⟩]
 . rw [show (ideal - p).toNat = 0 by omega]
   rfl
def C3x (f : Int) : Int := ((Str.ofString (toString f)).length : Nat)
def upI (y : Wy) (s wh pt : Int) : Int := if (if pt = 0 then false else y.goes s (wh % 10) pt) = true then wh + 1 else wh
def A9q (r f q : Int) : Int × Int := if f = B5 r then (f / 10, q + 1) else (f, q)
def V2 (c : Cv) (s wh pt q ideal : Int) : Int × Int := if pt = 0 then Z1 ideal wh q else A9q c.r (upI c.y s wh pt) q
def A1y (m f p : Int) : Bool := if f = 0 then false else decide (p + C3x f - 1 > m)
def B4a (c : Cv) (s : Int) : Nm := if c.y.toEnd s = true then ⟨.end_, s, 0, 0⟩ else ⟨.plain, s, B5 c.r - 1, c.m - c.r + 1⟩
def Z7 (pt : Int) (cut : Bool) : List Str := if pt = 0 then (if cut = true then ["cut"] else []) else ["off", "cut"]
def Z6 (l L pt : Int) : List Str := if L >= l then [] else if pt = 0 then ["faint"] else ["sunk", "faint"]
def A3u (c : Cv) (s wh pt L q ideal : Int) : Nm × List Str :=
 if A1y c.m (V2 c s wh pt q ideal).1 (V2 c s wh pt q ideal).2 = true then (B4a c s, ["burst", "off", "cut"])
 else (⟨.plain, s, (V2 c s wh pt q ideal).1, (V2 c s wh pt q ideal).2⟩, Z7 pt (decide ((V2 c s wh pt q ideal).2 > ideal)) ++ Z6 c.l L pt)
def Y2 (a b : Int) : Int := if b > a then b else a
def J1b (a b : Int) : Int := if b < a then b else a
def CtxV (CC : Addr) (H : Hp) (c : Addr) (v : Cv) (a b : Addr) (xs ys : List Str) : Prop := CtxAt CC H c v.r v.y v.l v.m a b (xs.map V.str) (ys.map V.str)
theorem CtxV.same {CC : Addr} {H H' : Hp} {c : Addr} {v : Cv} {a b : Addr} {xs ys : List Str} (h : CtxV CC H c v a b xs ys) (e : Same H H') : CtxV CC H' c v a b xs ys := CtxAt.same h e
theorem C4v {CN : Addr} {H : Hp} {Q : VK} {E : XK} {k s f p : V} (h : ∀ n H', H n = none -> Same H H' -> NumAt CN H' n k s f p -> Q (.ref n) H') :
   ∀ x dx, H x = none -> H dx = none -> dx ≠ x -> D5p CN (.ref x :: ([k, s, f, p] ++ [])) (upd (upd H dx (.own x)) x (.ins CN dx [])) (fun v H2 => v = .non /\ Q (.ref x) H2) E := by
 intro x dx nx nd ne
 refine ⟨x, dx, k, s, f, p, rfl, A8, fun H' e kp => ⟨rfl, h x H' nx (fun b o z => ?_) ⟨dx, e⟩⟩⟩
 refine kp b o ?_ (C9 z nx)
 rw [C4 (C9 z nx), C4 (C9 z nd)]
 exact z
section
variable {P : Program} {w : World} {K : Frag} {mg : Str -> Option Value} {base : Heap}
structure CtxM (P : Program) (w : World) (K : Frag) (mg : Str -> Option Value) (base : Heap) (CC CB CT CW : Addr) (cw : Wy -> Addr) : Prop where
 c : CtxC K mg CC
 way : Has P w K mg base CC "way" 2 ["self"] (C3q CC cw)
 low : Has P w K mg base CC "lowest" 1 ["self"] (C4k CC)
 raised : Has P w K mg base CC "raised" 3 ["self", "names"] (B5z K CC CB CT)
 wc : ∀ y : Wy, WayC K mg y.cls (cw y) CW
 u : ∀ y : Wy, Z7n P w K mg base (cw y) y
 e : ∀ y : Wy, Z7z P w K mg base (cw y) y
def D2b (CN : Addr) : Sp := fun vs H Q _ => ∃ i s f p : Int, vs = [.int i, .int s, .int f, .int p] /\ ∀ n H', H n = none -> Same H H' -> NumIs CN H' n ⟨.plain, s, (Z1 i f p).1, (Z1 i f p).2⟩ -> Q (.ref n) H'
theorem scNearest : FnScope ["ideal", "sign", "figures", "power"] ["ideal", "sign", "figures", "power"] (A1 A1c) := scK
theorem J0h {f fI CN : Addr} {fd fdI : FuncData} (D : Def K mg "nearest_to" ["ideal", "sign", "figures", "power"] A1c f fd) (N : Num K mg CN) (M : MakeN P w K mg base CN fI fdI) : FnOk P w K mg base (CX1 P w) 3 f fd ["ideal", "sign", "figures", "power"] (D2b CN) := by
 refine FnOk.up (D.F.ok scNearest (fun vs H Q E h => ?_) (fun cdv A outer s H vs Q E hr h => ?_))
 . obtain ⟨i, s, f, p, rfl, _⟩ := h
   rfl
 . obtain ⟨i, sg, fg, pw, rfl, k⟩ := h
   have hx : D6 (Z3 CX0 P w K mg base ["ideal", "sign", "figures", "power"] "nearest_to" (A1 A1c) f cdv A outer s H E).nox EKF := Y3
   refine ⟨_, (A6 (B6f PassesOwn.never (PW.pt (A4g (C5 D3h (pv 3) (pv 0) (B9 _)) (A2a (C5 D5 (B3 D8 (pv 2) A3) A3 (B9 _))))) (A6 (D0 (i := 2) scNearest.nd rfl (Or.inl rfl) (B3 G3 (pv 2) A3))
     (A9 (D0 (i := 3) scNearest.nd rfl (Or.inl rfl) (B3 U3 (pv 3) A3)))))
     (A9 (B7 (B5t M.m (FnOk.up M.g) hr N.g M.b .nil hx (A0 B0 (A0 (pv 1) (A0 (pv 2) (A0 (pv 3) A7)))))))), ?_⟩
   have d10 : (0 : Int) < 10 /\ (10 : Int).natAbs.log2 < 9000 := ⟨by decide, by decide +kernel⟩
   refine B6j (fun σ H2 => H2 = H /\ ∃ f p : Int, Z1 i f p = Z1 i fg pw /\ σ = [some (.int i), some (.int sg), some (.int f), some (.int p)]) (fun σ _ => match σ with | [_, _, _, some (.int p)] => (i - p).toNat | _ => 0) ?_ ?_ ?_
   . exact ⟨rfl, fg, pw, rfl, rfl⟩
   . rintro σ H2 ⟨rfl, f, p, e, rfl⟩
     have stop : ¬ (p < i /\ f % 10 = 0) -> ∀ n H', H2 n = none -> Same H2 H' -> NumAt CN H' n (.str "plain") (.int sg) (.int f) (.int p) -> Q (.ref n) H' := fun h n H' nn sm num => by
       refine k n H' nn sm ?_
       rw [<- e, C3s h]
       exact num
     refine ⟨_, rfl, _, rfl, _, _, rfl, rfl, _, rfl, G8 (fun h1 => ?_) (fun h1 => G7 ⟨_, rfl, _, rfl, _, rfl, C4v (stop fun q => h1 q.1)⟩)⟩
     refine ⟨_, rfl, _, _, rfl, rfl, d10.1, rfl, _, rfl, G8 (fun h2 => ?_) (fun h2 => ⟨_, rfl, _, rfl, _, rfl, C4v (stop fun q => h2 (congrArg V.int q.2))⟩)⟩
     have h1 : p < i := h1
     have h2 : f % 10 = 0 := by injection h2
     refine ⟨_, rfl, _, _, rfl, rfl, d10, _, rfl, _, _, rfl, rfl, ⟨rfl, f / 10, p + 1, (C3g h1 h2).symm.trans e, rfl⟩, ?_⟩
     show (i - (p + 1)).toNat < (i - p).toNat
     omega
   . rintro σ H2 Q1 Q2 hQ ⟨v, e, v2, e2, a, b, e3, e4, c, e5, q⟩
     refine ⟨v, e, v2, e2, a, b, e3, e4, c, e5, ?_⟩
     cases c with
     | false => exact G7 (hQ _ _ (by simpa using q))
     | true =>
       have q : _ := q
       rw [if_pos rfl] at q ⊢
       obtain ⟨v3, e6, a2, b2, e7, e8, e9, e10, e11, e12, q⟩ := q
       exact ⟨v3, e6, a2, b2, e7, e8, e9, e10, e11, e12, hQ _ _ q⟩
def A8x (CC : Addr) : Sp := fun vs H Q _ => ∃ c v a b xs ys p, ∃ s wh pt : Int, vs = [.ref c, .int s, .ref p] /\ CtxV CC H c v a b xs ys /\ H p = some (.tup [.int wh, .int pt]) /\ ∀ H', Same H H' -> Q (.int (upI v.y s wh pt)) H'
theorem G5f : FnScope ["context", "sign", "pair"] ["context", "sign", "pair"] (A1 Y0) := scK
theorem D5s {f CC CB CT CW : Addr} {cw : Wy -> Addr} {fd : FuncData} (D : Def K mg "neighbour" ["context", "sign", "pair"] Y0 f fd) (C : CtxM P w K mg base CC CB CT CW cw) : FnOk P w K mg base (CX1 P w) 3 f fd ["context", "sign", "pair"] (A8x CC) := by
 refine FnOk.up (D.F.ok G5f (fun vs H Q E h => ?_) (fun cdv A outer s H vs Q E hr h => ?_))
 . obtain ⟨c, v, a, b, xs, ys, p, sg, wh, pt, rfl, _⟩ := h
   rfl
 . obtain ⟨c, v, a, b, xs, ys, p, sg, wh, pt, rfl, hc, hp, k⟩ := h
   have hx : D6 (Z3 CX0 P w K mg base ["context", "sign", "pair"] "neighbour" (A1 Y0) f cdv A outer s H E).nox EKF := Y3
   obtain ⟨fW, fdW, mW, gW, bW⟩ := C.way
   obtain ⟨fU, fdU, mU, gU, bU⟩ := C.u v.y
   refine ⟨_, (A6 (G4 (PW.pt (A4g (C5 C2d (U2 U0 (pv 2) A3 (fun _ _ => rfl)) A3 (B9 _)) (A2a (Z0 (B6m (A5p (pv 0) C.c.cl mW gW hr bW .nil hx) (C.wc v.y).cl mU gU hr bU .nil hx (A0 (pv 1) (A0 (B3 D8 (U2 U0 (pv 2) A3 (fun _ _ => rfl)) A3) (A0 (U2 U0 (pv 2) A3 (fun _ _ => rfl)) A7)))))))) (A9 (B7 (B3 U3 (U2 U0 (pv 2) A3 (fun _ _ => rfl)) A3))) C7)
     (A9 (B7 (U2 U0 (pv 2) A3 (fun _ _ => rfl))))), ?_⟩
   obtain ⟨⟨dx, e⟩, _, _⟩ := id hc
   unfold upI at k
   refine ⟨_, rfl, p, _, _, _, rfl, rfl, SqT.of hp, G6 (j := 1) rfl, rfl, _, rfl, ?_⟩
   by_cases h0 : pt = 0
   . subst h0
     rw [if_pos rfl, if_neg Bool.false_ne_true] at k
     exact B6e rfl (G7 ⟨_, rfl, p, _, _, _, rfl, rfl, SqT.of hp, G6 (j := 0) rfl, k H (Same.refl H)⟩)
   . rw [if_neg h0] at k
     rw [decide_eq_false (fun q => h0 (by injection q) : ¬ V.int pt = V.int 0)]
     refine V8 ⟨_, rfl, c, dx, _, rfl, e, C4w _ _ _ _ _ _, c, v.r, v.y, v.l, v.m, a, b, _, _, rfl, hc, fun q dq H1 nq s1 eq => ?_⟩
     refine ⟨q, dq, _, rfl, eq, rfl, _, rfl, _, rfl, p, _, _, _, rfl, rfl, SqT.of (s1 _ _ hp), G6 (j := 0) rfl, _, _, rfl, rfl, (by decide : (0 : Int) < 10), _, rfl, p, _, _, _, rfl, rfl, SqT.of (s1 _ _ hp), G6 (j := 1) rfl, q, sg, wh % 10, pt, rfl, fun H2 s2 => ⟨_, rfl, ?_⟩⟩
     have s3 := s1.trans s2
     cases g : v.y.goes sg (wh % 10) pt with
     | true =>
       rw [g, if_pos rfl] at k
       exact V8 ⟨_, rfl, p, _, _, _, rfl, rfl, SqT.of (s3 _ _ hp), G6 (j := 0) rfl, _, _, rfl, rfl, k H2 s3⟩
     | false =>
       rw [g, if_neg Bool.false_ne_true] at k
       exact G7 ⟨_, rfl, p, _, _, _, rfl, rfl, SqT.of (s3 _ _ hp), G6 (j := 0) rfl, k H2 s3⟩
def G5j (CN CC : Addr) : Sp := fun vs H Q _ => ∃ c v a b xs ys, ∃ s f q : Int, vs = [.ref c, .int s, .int f, .int q] /\ CtxV CC H c v a b xs ys /\ v.Ok /\ ∀ n H', H n = none -> Same H H' -> NumIs CN H' n ⟨.plain, s, (A9q v.r f q).1, (A9q v.r f q).2⟩ -> Q (.ref n) H'
theorem V1z : FnScope ["context", "sign", "figures", "power"] ["context", "sign", "figures", "power"] (A1 A3p) := scK
theorem U4q {f f1 fI CN CC CB CT CW : Addr} {cw : Wy -> Addr} {fd fd1 fdI : FuncData} (D : Def K mg "within_room" ["context", "sign", "figures", "power"] A3p f fd) (D_ten_to : Def K mg "ten_to" ["count"] A3b f1 fd1) (G_ten_to : FnOk P w K mg base (CX1 P w) 2 f1 fd1 ["count"] B6c) (C : CtxM P w K mg base CC CB CT CW cw) (N : Num K mg CN) (M : MakeN P w K mg base CN fI fdI) :
   FnOk P w K mg base (CX1 P w) 3 f fd ["context", "sign", "figures", "power"] (G5j CN CC) := by
 refine FnOk.up (D.F.ok V1z (fun vs H Q E h => ?_) (fun cdv A outer s H vs Q E hr h => ?_))
 . obtain ⟨c, v, a, b, xs, ys, sg, f, q, rfl, _⟩ := h
   rfl
 . obtain ⟨c, v, a, b, xs, ys, sg, fg, q, rfl, hc, ok, k⟩ := h
   have hx : D6 (Z3 CX0 P w K mg base ["context", "sign", "figures", "power"] "within_room" (A1 A3p) f cdv A outer s H E).nox EKF := Y3
   refine ⟨_, (A6 (G4 (C5 D5 (pv 2) (C8 D_ten_to G_ten_to hr hx (A0 (G0 (pv 0) rfl) A7)) (B9 _)) (A9 (B7 (B5t M.m (FnOk.up M.g) hr N.g M.b .nil hx (A0 B0 (A0 (pv 1) (A0 (B3 G3 (pv 2) A3) (A0 (B3 U3 (pv 3) A3) A7))))))) C7)
     (A9 (B7 (B5t M.m (FnOk.up M.g) hr N.g M.b .nil hx (A0 B0 (A0 (pv 1) (A0 (pv 2) (A0 (pv 3) A7)))))))), ?_⟩
   have d10 : (0 : Int) < 10 /\ (10 : Int).natAbs.log2 < 9000 := ⟨by decide, by decide +kernel⟩
   obtain ⟨⟨dx, e⟩, _, _⟩ := id hc
   have r1 := ok.r1; have r2 := ok.r2
   refine ⟨_, rfl, _, rfl, c, CC, dx, _, _, rfl, e, C.c.cl, C.c.n_room, A9n _ _ _ _ _ _, v.r.toNat, (by rw [Int.toNat_of_nonneg (by omega)]; rfl), by omega, rfl, _, rfl, ?_⟩
   unfold A9q at k
   refine G8 (fun h => ?_) (fun h => ?_)
   . have h : fg = B5 v.r := by injection h
     rw [if_pos h] at k
     exact ⟨_, rfl, _, rfl, _, _, rfl, rfl, d10, _, rfl, _, _, rfl, rfl, C4v k⟩
   . have h : ¬ fg = B5 v.r := fun z => h (congrArg V.int z)
     rw [if_neg h] at k
     exact ⟨_, rfl, _, rfl, _, rfl, C4v k⟩
def G5n (CN CC : Addr) : Sp := fun vs H Q _ => ∃ c v a b xs ys n x, vs = [.ref c, .ref n] /\ CtxV CC H c v a b xs ys /\ NumIs CN H n x /\ x.f.natAbs < 2 ^ 300 /\ Q (.bl (A1y v.m x.f x.p)) H
theorem V0r : FnScope ["context", "number"] ["context", "number"] (A1 A3n) := scK
theorem U4k {f f1 CN CC CB CT CW : Addr} {cw : Wy -> Addr} {fd fd1 : FuncData} (D : Def K mg "is_beyond" ["context", "number"] A3n f fd) (D_lead_of : Def K mg "lead_of" ["number"] C4g f1 fd1) (G_lead_of : FnOk P w K mg base (CX1 P w) 1 f1 fd1 ["number"] (V2b CN)) (C : CtxM P w K mg base CC CB CT CW cw) (N : Num K mg CN) :
   FnOk P w K mg base (CX1 P w) 2 f fd ["context", "number"] (G5n CN CC) := by
 refine FnOk.up (D.F.ok V0r (fun vs H Q E h => ?_) (fun cdv A outer s H vs Q E hr h => ?_))
 . obtain ⟨c, v, a, b, xs, ys, n, x, rfl, _⟩ := h
   rfl
 . obtain ⟨c, v, a, b, xs, ys, n, x, rfl, hc, hn, hf, k⟩ := h
   have hx : D6 (Z3 CX0 P w K mg base ["context", "number"] "is_beyond" (A1 A3n) f cdv A outer s H E).nox EKF := Y3
   refine ⟨_, (A9 (B7 (A5s (D9 C2d (G0 (pv 1) rfl) A3 (B9 _)) (A1t (D9 B3h (C8 D_lead_of G_lead_of hr hx (A0 (pv 1) A7)) (G0 (pv 0) rfl) (B9 _)))))), ?_⟩
   obtain ⟨⟨dx, e⟩, _, _⟩ := id hc
   obtain ⟨dn, en⟩ := id hn
   unfold A1y at k
   refine ⟨_, rfl, n, CN, dn, _, _, rfl, en, N.cl, N.n3, J1t _ _ _ _, rfl, _, rfl, ?_⟩
   by_cases h0 : x.f = 0
   . rw [if_pos h0] at k
     rw [decide_eq_true (congrArg V.int h0)]
     exact G7 k
   . rw [if_neg h0] at k
     rw [decide_eq_false (fun q => h0 (by injection q) : ¬ V.int x.f = V.int 0)]
     exact V8 ⟨_, rfl, n, _, _, _, _, rfl, hn, hf, _, rfl, c, CC, dx, _, _, rfl, e, C.c.cl, C.c.n_most, C3w _ _ _ _ _ _, _, _, rfl, rfl, k⟩
def U2c (CN CC : Addr) : Sp := fun vs H Q _ => ∃ c v a b xs ys, ∃ s : Int, vs = [.ref c, .int s] /\ CtxV CC H c v a b xs ys /\ v.Ok /\ ∀ n H', H n = none -> Same H H' -> NumIs CN H' n ⟨.plain, s, B5 v.r - 1, v.m - v.r + 1⟩ -> Q (.ref n) H'
theorem Y7u : FnScope ["context", "sign"] ["context", "sign"] (A1 A9p) := scK
theorem V1j {f f1 fI CN CC CB CT CW : Addr} {cw : Wy -> Addr} {fd fd1 fdI : FuncData} (D : Def K mg "nines" ["context", "sign"] A9p f fd) (D_ten_to : Def K mg "ten_to" ["count"] A3b f1 fd1) (G_ten_to : FnOk P w K mg base (CX1 P w) 2 f1 fd1 ["count"] B6c) (C : CtxM P w K mg base CC CB CT CW cw) (N : Num K mg CN) (M : MakeN P w K mg base CN fI fdI) :
   FnOk P w K mg base (CX1 P w) 3 f fd ["context", "sign"] (U2c CN CC) := by
 refine FnOk.up (D.F.ok Y7u (fun vs H Q E h => ?_) (fun cdv A outer s H vs Q E hr h => ?_))
 . obtain ⟨c, v, a, b, xs, ys, sg, rfl, _⟩ := h
   rfl
 . obtain ⟨c, v, a, b, xs, ys, sg, rfl, hc, ok, k⟩ := h
   have hx : D6 (Z3 CX0 P w K mg base ["context", "sign"] "nines" (A1 A9p) f cdv A outer s H E).nox EKF := Y3
   refine ⟨_, (A9 (B7 (B5t M.m (FnOk.up M.g) hr N.g M.b .nil hx (A0 B0 (A0 (pv 1) (A0 (B3 U1 (C8 D_ten_to G_ten_to hr hx (A0 (G0 (pv 0) rfl) A7)) A3) (A0 (B3 U3 (B3 U1 (G0 (pv 0) rfl) (G0 (pv 0) rfl)) A3) A7))))))), ?_⟩
   obtain ⟨⟨dx, e⟩, _, _⟩ := id hc
   have r1 := ok.r1; have r2 := ok.r2
   exact ⟨_, rfl, _, rfl, c, CC, dx, _, _, rfl, e, C.c.cl, C.c.n_room, A9n _ _ _ _ _ _, v.r.toNat, (by rw [Int.toNat_of_nonneg (by omega)]; rfl), by omega, _, _, rfl, rfl, _, rfl, c, CC, dx, _, _, rfl, e, C.c.cl, C.c.n_most, C3w _ _ _ _ _ _, _, rfl, c, CC, dx, _, _, rfl, e, C.c.cl, C.c.n_room, A9n _ _ _ _ _ _, _, _, rfl, rfl, _, _, rfl, rfl, C4v k⟩
def U1z (CN CC : Addr) : Sp := fun vs H Q _ => ∃ c v a b xs ys, ∃ s : Int, vs = [.ref c, .int s] /\ CtxV CC H c v a b xs ys /\ v.Ok /\ 0 <= s /\ s <= 1 /\ ∀ n H', Same H H' -> NumIs CN H' n (B4a v s) -> Q (.ref n) H'
theorem Y8j : FnScope ["context", "sign"] ["context", "sign"] (A1 A9g) := scK
theorem V2a {f f1 f2 CN CN' CC CB CT CW : Addr} {cw : Wy -> Addr} {fd fd1 fd2 : FuncData} (D : Def K mg "burst" ["context", "sign"] A9g f fd) (D_nines : Def K mg "nines" ["context", "sign"] A9p f1 fd1) (G_nines : FnOk P w K mg base (CX1 P w) 3 f1 fd1 ["context", "sign"] (U2c CN CC)) (D_end : Def K mg "end" ["sign"] G6h f2 fd2) (G_end : FnOk P w K mg base (CX1 P w) 3 f2 fd2 ["sign"] (V3v K CN CN')) (C : CtxM P w K mg base CC CB CT CW cw) :
   FnOk P w K mg base (CX1 P w) 4 f fd ["context", "sign"] (U1z CN CC) := by
 refine FnOk.up (D.F.ok Y8j (fun vs H Q E h => ?_) (fun cdv A outer s H vs Q E hr h => ?_))
 . obtain ⟨c, v, a, b, xs, ys, sg, rfl, _⟩ := h
   rfl
 . obtain ⟨c, v, a, b, xs, ys, sg, rfl, hc, ok, s0, s1, k⟩ := h
   have hx : D6 (Z3 CX0 P w K mg base ["context", "sign"] "burst" (A1 A9g) f cdv A outer s H E).nox EKF := Y3
   obtain ⟨fW, fdW, mW, gW, bW⟩ := C.way
   obtain ⟨fU, fdU, mU, gU, bU⟩ := C.e v.y
   refine ⟨_, (A9 (B7 (A1a (Z0 (B6m (A5p (pv 0) C.c.cl mW gW hr bW .nil hx) (C.wc v.y).cl mU gU hr bU .nil hx (A0 (pv 1) A7))) (C8 D_end G_end hr hx (A0 (pv 1) A7)) (C8 D_nines G_nines hr hx (A0 (pv 0) (A0 (pv 1) A7)))))), ?_⟩
   obtain ⟨⟨dx, e⟩, _, _⟩ := id hc
   unfold B4a at k
   refine ⟨_, rfl, c, dx, _, rfl, e, C4w _ _ _ _ _ _, c, v.r, v.y, v.l, v.m, a, b, _, _, rfl, hc, fun q dq H1 nq t1 eq => ?_⟩
   refine ⟨q, dq, _, rfl, eq, rfl, _, rfl, q, sg, rfl, fun H2 t2 => ⟨_, rfl, ?_⟩⟩
   have t3 := t1.trans t2
   cases g : v.y.toEnd sg with
   | true =>
     rw [g, if_pos rfl] at k
     exact V8 ⟨_, rfl, _, rfl, .inl ⟨⟨sg, rfl, s0, s1⟩, fun n H' _ sm num => k n H' (t3.trans sm) num⟩⟩
   | false =>
     rw [g, if_neg Bool.false_ne_true] at k
     exact G7 ⟨_, rfl, _, rfl, c, v, a, b, xs, ys, sg, rfl, hc.same t3, ok, fun n H' _ sm num => k n H' (t3.trans sm) num⟩
def D2y : Sp := fun vs H Q _ => ∃ (pt : Int) (cut : Bool), vs = [.int pt, .bl cut] /\ ∀ l, H l = none -> Q (.ref l) (upd H l (.lst ((Z7 pt cut).map V.str)))
theorem U4v : FnScope ["part", "is_cut"] ["part", "is_cut"] (A1 A2s) := scK
theorem J1g {f : Addr} {fd : FuncData} (D : Def K mg "signals_of_rest" ["part", "is_cut"] A2s f fd) : FnOk P w K mg base (CX1 P w) 1 f fd ["part", "is_cut"] D2y := by
 refine FnOk.up (D.F.ok U4v (fun vs H Q E h => ?_) (fun cdv A outer s H vs Q E hr h => ?_))
 . obtain ⟨pt, cut, rfl, _⟩ := h
   rfl
 . obtain ⟨pt, cut, rfl, k⟩ := h
   refine ⟨_, (A6 (G4 (C5 C2d (pv 0) A3 (B9 _)) (A9 (B7 (U9 (A0 B0 (A0 B0 A7))))) C7)
     (A9 (B7 (A1a (Z0 (pv 1)) (U9 (A0 B0 A7)) (U9 A7))))), ?_⟩
   unfold Z7 at k
   refine ⟨_, rfl, rfl, _, rfl, ?_⟩
   by_cases h0 : pt = 0
   . subst h0
     rw [if_pos rfl] at k
     refine B6e rfl ⟨_, rfl, _, rfl, ?_⟩
     cases cut with
     | true => exact V8 ⟨C6 (by decide), k⟩
     | false => exact G7 ⟨C6 (by decide), k⟩
   . rw [if_neg h0] at k
     rw [decide_eq_false (fun q => h0 (by injection q) : ¬ V.int pt = V.int 0)]
     exact V8 ⟨C6 (by decide), k⟩
def D2v (CC : Addr) : Sp := fun vs H Q _ => ∃ c v a b xs ys, ∃ L pt : Int, vs = [.ref c, .int L, .int pt] /\ CtxV CC H c v a b xs ys /\ ∀ l, H l = none -> Q (.ref l) (upd H l (.lst ((Z6 v.l L pt).map V.str)))
theorem U4s : FnScope ["context", "lead", "part"] ["context", "lead", "part"] (A1 A2u) := scK
theorem J1y {f CC CB CT CW : Addr} {cw : Wy -> Addr} {fd : FuncData} (D : Def K mg "signals_of_lead" ["context", "lead", "part"] A2u f fd) (C : CtxM P w K mg base CC CB CT CW cw) : FnOk P w K mg base (CX1 P w) 1 f fd ["context", "lead", "part"] (D2v CC) := by
 refine FnOk.up (D.F.ok U4s (fun vs H Q E h => ?_) (fun cdv A outer s H vs Q E hr h => ?_))
 . obtain ⟨c, v, a, b, xs, ys, L, pt, rfl, _⟩ := h
   rfl
 . obtain ⟨c, v, a, b, xs, ys, L, pt, rfl, hc, k⟩ := h
   refine ⟨_, (A6 (G4 (C5 G5h (pv 1) (G0 (pv 0) rfl) (B9 _)) (A9 (B7 (U9 A7))) C7)
     (A9 (B7 (A1a (C5 D5 (pv 2) A3 (B9 _)) (U9 (A0 B0 A7)) (U9 (A0 B0 (A0 B0 A7))))))), ?_⟩
   obtain ⟨⟨dx, e⟩, _, _⟩ := id hc
   unfold Z6 at k
   refine ⟨_, rfl, _, rfl, c, CC, dx, _, _, rfl, e, C.c.cl, C.c.n_least, D3f _ _ _ _ _ _, _, _, rfl, rfl, _, rfl, G8 (fun h => ?_) (fun h => ?_)⟩
   . rw [if_pos h] at k
     exact ⟨C6 (by decide), k⟩
   . rw [if_neg h] at k
     refine ⟨_, rfl, rfl, _, rfl, G8 (fun h => ?_) (fun h => ?_)⟩
     . rw [if_pos (by injection h)] at k
       exact ⟨C6 (by decide), k⟩
     . rw [if_neg fun q => h (congrArg V.int q)] at k
       exact ⟨C6 (by decide), k⟩
def G6c (CN CC : Addr) : Sp := fun vs H Q _ => ∃ c v a b xs ys, ∃ s i : Int, vs = [.ref c, .int s, .int i] /\ CtxV CC H c v a b xs ys /\ ∀ n H', H n = none -> Same H H' -> NumIs CN H' n ⟨.plain, s, 0, J1b (Y2 i (v.l - v.r + 1)) v.m⟩ -> Q (.ref n) H'
theorem V3z : FnScope ["context", "sign", "ideal"] ["context", "sign", "ideal"] (A1 A3q) := scK
theorem U4r {f fI CN CC CB CT CW : Addr} {cw : Wy -> Addr} {fd fdI : FuncData} (D : Def K mg "nought" ["context", "sign", "ideal"] A3q f fd) (C : CtxM P w K mg base CC CB CT CW cw) (N : Num K mg CN) (M : MakeN P w K mg base CN fI fdI) (O : Own mg) : FnOk P w K mg base (CX1 P w) 3 f fd ["context", "sign", "ideal"] (G6c CN CC) := by
 refine FnOk.up (D.F.ok V3z (fun vs H Q E h => ?_) (fun cdv A outer s H vs Q E hr h => ?_))
 . obtain ⟨c, v, a, b, xs, ys, sg, i, rfl, _⟩ := h
   rfl
 . obtain ⟨c, v, a, b, xs, ys, sg, i, rfl, hc, k⟩ := h
   have hx : D6 (Z3 CX0 P w K mg base ["context", "sign", "ideal"] "nought" (A1 A3q) f cdv A outer s H E).nox EKF := Y3
   obtain ⟨fL, fdL, mL, gL, bL⟩ := C.low
   refine ⟨_, (A9 (B7 (B5t M.m (FnOk.up M.g) hr N.g M.b .nil hx (A0 B0 (A0 (pv 1) (A0 A3 (A0 (G9 (U5u rfl) (by rfl) O.min_ boot_min (A0 (G9 (V9 rfl) (by rfl) O.max_ boot_max (A0 (pv 2) (A0 (A5p (pv 0) C.c.cl mL gL hr bL .nil hx) A7))) (A0 (G0 (pv 0) rfl) A7))) A7))))))), ?_⟩
   obtain ⟨⟨dx, e⟩, _, _⟩ := id hc
   exact ⟨_, rfl, _, rfl, _, rfl, c, dx, _, rfl, e, B3g _ _ _ _ _ _, c, v.r, v.y, v.l, v.m, a, b, _, _, rfl, hc, _, _, rfl, _, rfl, c, CC, dx, _, _, rfl, e, C.c.cl, C.c.n_most, C3w _ _ _ _ _ _, _, _, rfl, C4v k⟩
end
abbrev A3f : Stmt := (top 25)
theorem B5y (i : Int) : ∀ (n : Nat) (f p : Int), 0 <= f -> 0 <= (A9m i n f p).1 /\ (A9m i n f p).1 <= f
 | 0, f, p, h => ⟨h, Int.le_refl _⟩
 | n + 1, f, p, h => by
   show 0 <= (if f % 10 = 0 then A9m i n (f / 10) (p + 1) else (f, p)).1 /\ (if f % 10 = 0 then A9m i n (f / 10) (p + 1) else (f, p)).1 <= f
   by_cases z : f % 10 = 0
   . rw [if_pos z]
     have := B5y i n (f / 10) (p + 1) (by omega)
     omega
   . rw [if_neg z]
     exact ⟨h, Int.le_refl _⟩
theorem V1m {t b u1 v1 u2 v2 d : Nat} (h : t * 10 ^ u1 < 10 * (b * 10 ^ v1)) (e : u2 + v1 <= u1 + v2 + d) : t * 10 ^ u2 < 10 ^ (d + 1) * (b * 10 ^ v2) := by
 have p : 0 < 10 ^ v1 := Nat.pow_pos (by decide)
 apply Nat.lt_of_mul_lt_mul_right (a := 10 ^ v1)
 calc t * 10 ^ u2 * 10 ^ v1 = t * 10 ^ (u2 + v1) := by rw [Nat.mul_assoc, <- Nat.pow_add]
   _ <= t * 10 ^ (u1 + v2 + d) := Nat.mul_le_mul_left t (Nat.pow_le_pow_right (by decide) e)
   _ = t * 10 ^ u1 * (10 ^ v2 * 10 ^ d) := by rw [Nat.mul_assoc, <- Nat.pow_add, <- Nat.pow_add, Nat.add_assoc]
   _ < 10 * (b * 10 ^ v1) * (10 ^ v2 * 10 ^ d) := Nat.mul_lt_mul_of_pos_right h (Nat.mul_pos (Nat.pow_pos (by decide)) (Nat.pow_pos (by decide)))
   _ = 10 ^ (d + 1) * (b * 10 ^ v2) * 10 ^ v1 := by rw [Nat.pow_succ]; ac_rfl
theorem D5g {t b s1 s2 r : Int} (ht : Sz t) (hb : Sz b) (h : Y7 t b s1) (hr : 1 <= r) (e : s2 <= s1 + (r - 1)) : 0 <= whI t b s2 /\ whI t b s2 < B5 r := by
 obtain ⟨tn, rfl, _, _⟩ := ht.nat
 obtain ⟨bn, rfl, b1, _⟩ := hb.nat
 have lp : 0 < (bn : Int) * B5 (-s2) := Int.mul_pos (by omega) (U6 _)
 refine ⟨Int.ediv_nonneg (Int.mul_nonneg (by omega) (Int.le_of_lt (U6 _))) (Int.le_of_lt lp), ?_⟩
 refine Int.ediv_lt_of_lt_mul lp ?_
 have a : tn * 10 ^ s1.toNat < 10 * (bn * 10 ^ (-s1).toNat) := Int.ofNat_lt.mp h.2
 have c := V1m (u2 := s2.toNat) (v2 := (-s2).toNat) (d := (r - 1).toNat) a (by omega)
 rw [show (r - 1).toNat + 1 = r.toNat by omega] at c
 exact Int.ofNat_lt.mpr c
theorem D6c {r : Int} (h : r <= 24) : B5 r <= 10 ^ 24 := by
 unfold B5
 have : 10 ^ r.toNat <= 10 ^ 24 := Nat.pow_le_pow_right (by decide) (by omega)
 exact Int.ofNat_le.mpr this
theorem C3v {c : Cv} {s wh pt q i : Int} (ok : c.Ok) (h0 : 0 <= wh) (h1 : wh < B5 c.r) : (V2 c s wh pt q i).1.natAbs < 2 ^ 300 := by
 have t := D6c ok.r2
 have big : ((10 ^ 24 : Nat) : Int) = 10 ^ 24 := by decide +kernel
 have lt : ∀ z : Int, 0 <= z -> z <= 10 ^ 24 -> z.natAbs < 2 ^ 300 := fun z a b => Nat.lt_of_le_of_lt (show z.natAbs <= 10 ^ 24 by omega) (by decide +kernel)
 unfold V2
 split
 . have := B5y i (i - q).toNat wh q h0
   exact lt _ this.1 (by unfold Z1; omega)
 . have hu : 0 <= upI c.y s wh pt /\ upI c.y s wh pt <= B5 c.r := by
     have e : upI c.y s wh pt = wh + 1 \/ upI c.y s wh pt = wh := by
       unfold upI
       generalize (if pt = 0 then false else c.y.goes s (wh % 10) pt) = g
       cases g with
       | true => exact .inl rfl
       | false => exact .inr rfl
     omega
   generalize upI c.y s wh pt = u at hu
   unfold A9q
   split
   . exact lt (u / 10) (by omega) (by omega)
   . exact lt u (by omega) (by omega)
section
variable {P : Program} {w : World} {K : Frag} {mg : Str -> Option Value} {base : Heap}
def G4t (CC CR : Addr) : Sp := fun vs H Q _ => ∃ c v a b xs ys x, ∃ t bo n L : Int, vs = [.ref c, .ref x] /\ CtxV CC H c v a b xs ys /\ RatAt CR H x t bo n /\ Sz t /\ Sz bo /\ Y7 t bo (n - L) /\ ∀ H', Same H H' -> Q (.int (Y2 (L - v.r + 1) (v.l - v.r + 1))) H'
theorem V4f : FnScope ["context", "exact"] ["context", "exact"] (A1 A3r) := scK
theorem U5j {f CC CB CT CW CR CE g1 g2 : Addr} {cw : Wy -> Addr} {fd gd1 gd2 : FuncData} (D : Def K mg "finest_power" ["context", "exact"] A3r f fd) (C : CtxM P w K mg base CC CB CT CW cw) (RM : RatM P w K mg base CR g1 g2 gd1 gd2) (R : RatC K mg CR CE) (O : Own mg) : FnOk P w K mg base (CX1 P w) 5 f fd ["context", "exact"] (G4t CC CR) := by
 refine FnOk.up (D.F.ok V4f (fun vs H Q E h => ?_) (fun cdv A outer s H vs Q E hr h => ?_))
 . obtain ⟨c, v, a, b, xs, ys, x, t, bo, n, L, rfl, _⟩ := h
   rfl
 . obtain ⟨c, v, a, b, xs, ys, x, t, bo, n, L, rfl, hc, ra, ht, hb, hL, k⟩ := h
   have hx : D6 (Z3 CX0 P w K mg base ["context", "exact"] "finest_power" (A1 A3r) f cdv A outer s H E).nox EKF := Y3
   obtain ⟨fL, fdL, mL, gL, bL⟩ := C.low
   refine ⟨_, (A9 (B7 (G9 (V9 rfl) (by rfl) O.max_ boot_max (A0 (B3 U3 (B3 U1 (A5p (pv 1) R.cl RM.m1 RM.g1 hr RM.b1 .nil hx) (G0 (pv 0) rfl)) A3) (A0 (A5p (pv 0) C.c.cl mL gL hr bL .nil hx) A7))))), ?_⟩
   obtain ⟨dr, er⟩ := id ra
   refine ⟨_, rfl, x, dr, _, rfl, er, B6b _ _ _, x, t, bo, n, rfl, ra, ht, hb, fun f H1 s1 ld => ?_⟩
   have ef : f = L := by
     have := D6h (show 0 < bo by have := hb.1; omega) ld hL
     omega
   subst ef
   have hc1 := hc.same s1
   obtain ⟨⟨dx, e⟩, _, _⟩ := id hc1
   exact ⟨_, rfl, c, CC, dx, _, _, rfl, e, C.c.cl, C.c.n_room, A9n _ _ _ _ _ _, _, _, rfl, rfl, _, _, rfl, rfl, _, rfl, c, dx, _, rfl, e, B3g _ _ _ _ _ _, c, v.r, v.y, v.l, v.m, a, b, _, _, rfl, hc1, _, _, rfl, k H1 s1⟩
def Cv.fin (v : Cv) (L : Int) : Int := Y2 (L - v.r + 1) (v.l - v.r + 1)
def Y9 (v : Cv) (s t bo n L i : Int) : Nm × List Str := A3u v s (whI t bo (n - v.fin L)) (ptI t bo (n - v.fin L)) L (v.fin L) i
def Ends2 (CN CC CT : Addr) (H : Hp) (c : Addr) (v : Cv) (b : Addr) (xs ys : List Str) (res : Nm × List Str) (Q : VK) (E : XK) : Prop :=
 (hit ys res.2 = none -> ∀ m a' H', Exc c H H' -> CtxV CC H' c v a' b (V3 (xs ++ res.2)) ys -> NumIs CN H' m res.1 -> Q (.ref m) H') /\
 (∀ z, hit ys res.2 = some z -> ∀ a' d H', Exc c H H' -> CtxV CC H' c v a' b (V3 (xs ++ res.2)) ys -> H' d = some (.xd [("signal", .str z)]) -> E (.ref CT) (some d) H')
def D3s (CN CC CT CR : Addr) : Sp := fun vs H Q E => ∃ c v a b xs ys x, ∃ t bo n L s i : Int, vs = [.ref c, .int s, .ref x, .int i] /\ CtxV CC H c v a b xs ys /\ v.Ok /\ xs.length <= 900 /\ RatAt CR H x t bo n /\ Sz t /\ Sz bo /\ Y7 t bo (n - L) /\ -1500 <= n - v.fin L /\ n - v.fin L <= 1500 /\ 0 <= s /\ s <= 1 /\
 Ends2 CN CC CT H c v b xs ys (Y9 v s t bo n L i) Q E
theorem scSettled : FnScope ["context", "sign", "exact", "ideal", "finest", "pair", "number", "names"] ["context", "sign", "exact", "ideal"] (A1 A3f) := scK
theorem U4z : ∀ z ∈ (["burst", "off", "cut"] : List Str), z ∈ sigS := by decide +kernel
theorem V3b {pt : Int} {cut : Bool} {l L : Int} : ∀ z ∈ Z7 pt cut ++ Z6 l L pt, z ∈ sigS := by
 have r : ∀ z ∈ Z7 pt cut, z ∈ sigS := by
   unfold Z7
   split
   . split
     . decide +kernel
     . decide +kernel
   . decide +kernel
 have d : ∀ z ∈ Z6 l L pt, z ∈ sigS := by
   unfold Z6
   split
   . decide +kernel
   . split
     . decide +kernel
     . decide +kernel
 intro z hz
 rcases List.mem_append.mp hz with h | h
 . exact r z h
 . exact d z h
theorem V4d {pt : Int} {cut : Bool} {l L : Int} : (Z7 pt cut ++ Z6 l L pt).length <= 4 := by
 have r : (Z7 pt cut).length <= 2 := by
   unfold Z7
   split
   . split <;> decide
   . decide
 have d : (Z6 l L pt).length <= 2 := by
   unfold Z6
   split
   . decide
   . split <;> decide
 rw [List.length_append]
 omega
theorem J1a {f f1 f2 f3 f4 f5 f6 f7 f8 CN CC CB CT CW CR CE g1 g2 : Addr} {cw : Wy -> Addr} {fd fd1 fd2 fd3 fd4 fd5 fd6 fd7 fd8 gd1 gd2 : FuncData} (D : Def K mg "settled" ["context", "sign", "exact", "ideal"] A3f f fd)
   (D_finest_power : Def K mg "finest_power" ["context", "exact"] A3r f1 fd1) (G_finest_power : FnOk P w K mg base (CX1 P w) 5 f1 fd1 ["context", "exact"] (G4t CC CR)) (D_nearest_to : Def K mg "nearest_to" ["ideal", "sign", "figures", "power"] A1c f2 fd2) (G_nearest_to : FnOk P w K mg base (CX1 P w) 3 f2 fd2 ["ideal", "sign", "figures", "power"] (D2b CN))
   (D_neighbour : Def K mg "neighbour" ["context", "sign", "pair"] Y0 f3 fd3) (G_neighbour : FnOk P w K mg base (CX1 P w) 3 f3 fd3 ["context", "sign", "pair"] (A8x CC)) (D_within_room : Def K mg "within_room" ["context", "sign", "figures", "power"] A3p f4 fd4) (G_within_room : FnOk P w K mg base (CX1 P w) 3 f4 fd4 ["context", "sign", "figures", "power"] (G5j CN CC))
   (D_is_beyond : Def K mg "is_beyond" ["context", "number"] A3n f5 fd5) (G_is_beyond : FnOk P w K mg base (CX1 P w) 2 f5 fd5 ["context", "number"] (G5n CN CC)) (D_burst : Def K mg "burst" ["context", "sign"] A9g f6 fd6) (G_burst : FnOk P w K mg base (CX1 P w) 4 f6 fd6 ["context", "sign"] (U1z CN CC))
   (D_signals_of_rest : Def K mg "signals_of_rest" ["part", "is_cut"] A2s f7 fd7) (G_signals_of_rest : FnOk P w K mg base (CX1 P w) 1 f7 fd7 ["part", "is_cut"] D2y) (D_signals_of_lead : Def K mg "signals_of_lead" ["context", "lead", "part"] A2u f8 fd8) (G_signals_of_lead : FnOk P w K mg base (CX1 P w) 1 f8 fd8 ["context", "lead", "part"] (D2v CC))
   (C : CtxM P w K mg base CC CB CT CW cw) (RM : RatM P w K mg base CR g1 g2 gd1 gd2) (R : RatC K mg CR CE) (N : Num K mg CN) : FnOk P w K mg base (CX1 P w) 6 f fd ["context", "sign", "exact", "ideal"] (D3s CN CC CT CR) := by
 refine D.F.okE scSettled (fun vs H Q E h => ?_) (fun X cdv A outer s H vs Q E hX hr hx h => ?_)
 . obtain ⟨c, v, a, b, xs, ys, x, t, bo, n, L, sg, i, rfl, _⟩ := h
   rfl
 . subst hX
   obtain ⟨c, v, a, b, xs, ys, x, t, bo, n, L, sg, i, rfl, hc, ok, lx, ra, ht, hb, hL, q0, q1, s0, s1, k⟩ := h
   obtain ⟨fR, fdR, mR, gR, bR⟩ := C.raised
   refine ⟨_, (A6 (B8 (D0 (i := 4) scSettled.nd rfl (Or.inl rfl) (C8 D_finest_power G_finest_power hr hx (A0 (pv 0) (A0 (pv 2) A7)))))
     (A6 (B8 (D0 (i := 5) scSettled.nd rfl (Or.inl rfl) (B6m (pv 2) R.cl RM.m2 RM.g2 hr RM.b2 .nil hx (A0 (pv 4) A7))))
     (A6 (B8 (G4 (C5 D5 (U2 U0 (pv 5) A3 (fun _ _ => rfl)) A3 (B9 _)) (A9 (D0 (i := 6) scSettled.nd rfl (Or.inl rfl) (C8 D_nearest_to G_nearest_to hr hx (A0 (pv 3) (A0 (pv 1) (A0 (U2 U0 (pv 5) A3 (fun _ _ => rfl)) (A0 (pv 4) A7))))))) (A9 (D0 (i := 6) scSettled.nd rfl (Or.inl rfl) (C8 D_within_room G_within_room hr hx (A0 (pv 0) (A0 (pv 1) (A0 (C8 D_neighbour G_neighbour hr hx (A0 (pv 0) (A0 (pv 1) (A0 (pv 5) A7)))) (A0 (pv 4) A7)))))))))
     (A6 (B8 (G4 (Z0 (C8 D_is_beyond G_is_beyond hr hx (A0 (pv 0) (A0 (pv 6) A7)))) (A6 (Y8 (B6m (pv 0) C.c.cl mR gR hr bR .nil hx (A0 (U9 (A0 B0 (A0 B0 (A0 B0 A7)))) A7)))
     (A9 (B7 (C8 D_burst G_burst hr hx (A0 (pv 0) (A0 (pv 1) A7)))))) C7))
     (A6 (B8 (D0 (i := 7) scSettled.nd rfl (Or.inl rfl) (C8 D_signals_of_rest G_signals_of_rest hr hx (A0 (U2 U0 (pv 5) A3 (fun _ _ => rfl)) (A0 (D9 B3h (G0 (pv 6) rfl) (pv 3) (B9 _)) A7)))))
     (A6 (B8 (Y8 (B6m (pv 0) C.c.cl mR gR hr bR .nil hx (A0 (B3 C3y (pv 7) (C8 D_signals_of_lead G_signals_of_lead hr hx (A0 (pv 0) (A0 (A5p (pv 2) R.cl RM.m1 RM.g1 hr RM.b1 .nil hx) (A0 (U2 U0 (pv 5) A3 (fun _ _ => rfl)) A7))))) A7))))
     (A9 (B7 (pv 6))))))))), ?_⟩
   have b0 : 0 < bo := by have := hb.1; omega
   have wr := D5g (s2 := n - v.fin L) ht hb hL ok.r1 (by
     unfold Cv.fin Y2
     split <;> omega)
   unfold Y9 A3u at k
   refine ⟨fun σ' H' => Same H H' /\ σ' = [some (.ref c), some (.int sg), some (.ref x), some (.int i), some (.int (v.fin L)), none, none, none], ?_, ?_⟩
   . exact ⟨_, rfl, _, rfl, c, v, a, b, xs, ys, x, t, bo, n, L, rfl, hc, ra, ht, hb, hL, fun H' s' => ⟨s', rfl⟩⟩
   rintro σ' H1 ⟨t1, rfl⟩
   have hc1 := hc.same t1
   have ra1 := ra.same t1
   generalize v.fin L = q at *
   generalize hwh : whI t bo (n - q) = wh at *
   generalize hpt : ptI t bo (n - q) = pt at *
   refine ⟨fun σ' H' => ∃ p, Same H1 H' /\ H' p = some (.tup [.int wh, .int pt]) /\ σ' = [some (.ref c), some (.int sg), some (.ref x), some (.int i), some (.int q), some (.ref p), none, none], ?_, ?_⟩
   . obtain ⟨dr, er⟩ := id ra1
     refine ⟨_, rfl, x, dr, _, rfl, er, B7n _ _ _, _, rfl, x, t, bo, n, q, rfl, ra1, ht, hb, q0, q1, fun p H' s' np ep => ⟨p, s', ?_, rfl⟩⟩
     rw [hwh, hpt] at ep
     exact ep
   rintro σ' H2 ⟨p, t2, hp, rfl⟩
   have hc2 := hc1.same t2
   have sm := C3v (s := sg) (pt := pt) (q := q) (i := i) ok wr.1 wr.2
   refine ⟨fun σ' H' => ∃ m, Same H2 H' /\ H2 m = none /\ NumIs CN H' m ⟨.plain, sg, (V2 v sg wh pt q i).1, (V2 v sg wh pt q i).2⟩ /\ σ' = [some (.ref c), some (.int sg), some (.ref x), some (.int i), some (.int q), some (.ref p), some (.ref m), none], ?_, ?_⟩
   . refine ⟨_, rfl, p, _, _, _, rfl, rfl, SqT.of hp, G6 (j := 1) rfl, rfl, _, rfl, G8 (fun h => ?_) (fun h => ?_)⟩
     . have h : pt = 0 := by injection h
       refine ⟨_, rfl, _, rfl, _, rfl, p, _, _, _, rfl, rfl, SqT.of hp, G6 (j := 0) rfl, _, rfl, i, sg, wh, q, rfl, fun m H' nm s' num => ⟨m, s', nm, ?_, rfl⟩⟩
       unfold V2
       rw [if_pos h]
       exact num
     . have h : ¬ pt = 0 := fun z => h (congrArg V.int z)
       refine ⟨_, rfl, _, rfl, _, rfl, _, rfl, _, rfl, c, v, a, b, xs, ys, p, sg, wh, pt, rfl, hc2, hp, fun H3 s3 => ?_⟩
       refine ⟨_, rfl, c, v, a, b, xs, ys, sg, _, q, rfl, hc2.same s3, ok, fun m H' nm s' num => ⟨m, s3.trans s', s3.free nm, ?_, rfl⟩⟩
       unfold V2
       rw [if_neg h]
       exact num
   rintro σ' H3 ⟨m, t3, nm, num, rfl⟩
   have hc3 := hc2.same t3
   have tA := (t1.trans t2).trans t3
   have nmc : m ≠ c := fun z => by
     obtain ⟨⟨dx, e⟩, _, _⟩ := hc2
     rw [z, e] at nm
     cases nm
   obtain ⟨⟨dx, e3⟩, _, _⟩ := id hc3
   generalize hf : (V2 v sg wh pt q i).1 = fg at *
   generalize hg : (V2 v sg wh pt q i).2 = pw at *
   refine ⟨fun σ' H' => H' = H3 /\ A1y v.m fg pw = false /\ σ' = [some (.ref c), some (.int sg), some (.ref x), some (.int i), some (.int q), some (.ref p), some (.ref m), none], ?_, ?_⟩
   . refine ⟨_, rfl, _, rfl, c, v, a, b, xs, ys, m, _, rfl, hc3, num, sm, _, rfl, ?_⟩
     cases e : A1y v.m fg pw with
     | false => exact G7 ⟨rfl, rfl, rfl⟩
     | true =>
       rw [e, if_pos rfl] at k
       refine V8 ⟨_, rfl, c, dx, _, rfl, e3, A4h _ _ _ _ _ _, C6 (by decide), fun l nl => ?_⟩
       have u := Same.upd (o := .lst [.str "burst", .str "off", .str "cut"]) nl
       refine ⟨c, v.r, v.y, v.l, v.m, a, b, xs, ys, .ref l, rfl, hc3.same u, by omega, .inl ⟨l, ["burst", "off", "cut"], rfl, A8, by decide, U4z, fun hn a' H4 x4 na ct => ?_, fun z hz a' d H4 x4 na ct nd ed => ?_⟩⟩
       . refine ⟨_, rfl, _, rfl, c, v, a', b, _, ys, sg, rfl, ct, ok, s0, s1, fun m' H5 s5 num5 => k.1 hn m' a' H5 (((Exc.of (tA.trans u)).trans x4).trans (.of s5)) (CtxV.same ct s5) num5⟩
       . exact k.2 z hz a' d H4 ((Exc.of (tA.trans u)).trans x4) ct ed
   rintro σ' H4 ⟨rfl, e, rfl⟩
   rw [e, if_neg Bool.false_ne_true] at k
   refine ⟨fun σ' H' => ∃ l, Same H4 H' /\ H' l = some (.lst ((Z7 pt (decide (pw > i))).map V.str)) /\ σ' = [some (.ref c), some (.int sg), some (.ref x), some (.int i), some (.int q), some (.ref p), some (.ref m), some (.ref l)], ?_, ?_⟩
   . obtain ⟨dn, en⟩ := id num
     exact ⟨_, rfl, p, _, _, _, rfl, rfl, SqT.of (t3 _ _ hp), G6 (j := 1) rfl, _, rfl, m, CN, dn, _, _, rfl, en, N.cl, N.n4, U5p _ _ _ _, _, rfl, _, _, rfl, rfl, pt, _, rfl, fun l nl => ⟨l, Same.upd nl, A8, rfl⟩⟩
   rintro σ' H5 ⟨l, t5, hl, rfl⟩
   refine ⟨fun σ' H' => hit ys (Z7 pt (decide (pw > i)) ++ Z6 v.l L pt) = none /\ ∃ a', Exc c H H' /\ CtxV CC H' c v a' b (V3 (xs ++ (Z7 pt (decide (pw > i)) ++ Z6 v.l L pt))) ys /\ NumIs CN H' m ⟨.plain, sg, fg, pw⟩ /\ σ' = [some (.ref c), some (.int sg), some (.ref x), some (.int i), some (.int q), some (.ref p), some (.ref m), some (.ref l)], ?_, ?_⟩
   . have ra5 := ((ra1.same t2).same t3).same t5
     obtain ⟨dr, er⟩ := id ra5
     have hc5 := hc3.same t5
     refine ⟨_, rfl, c, dx, _, rfl, t5 _ _ e3, A4h _ _ _ _ _ _, _, rfl, _, rfl, _, rfl, x, dr, _, rfl, er, B6b _ _ _, x, t, bo, n, rfl, ra5, ht, hb, fun f H6 t6 ld => ?_⟩
     have ef : f = L := by
       have := D6h b0 ld hL
       omega
     subst ef
     refine ⟨_, rfl, p, _, _, _, rfl, rfl, SqT.of ((t5.trans t6) _ _ (t3 _ _ hp)), G6 (j := 1) rfl, c, v, a, b, xs, ys, f, pt, rfl, hc5.same t6, fun l2 nl2 => ?_⟩
     have u2 := Same.upd (o := .lst ((Z6 v.l f pt).map V.str)) nl2
     have rl := V4d (pt := pt) (cut := decide (pw > i)) (l := v.l) (L := f)
     rw [List.length_append] at rl
     refine ⟨l, l2, _, _, rfl, rfl, (t6.trans u2) _ _ hl, A8, C6 (by rw [List.length_map, List.length_map]; omega), fun l3 nl3 => ?_⟩
     have u3 := Same.upd (o := .lst ((Z7 pt (decide (pw > i))).map V.str ++ (Z6 v.l f pt).map V.str)) nl3
     have tB := (t6.trans u2).trans u3
     have num7 := (num.same t5).same tB
     obtain ⟨dn7, en7⟩ := id num7
     have keep : ∀ {H' : Hp}, Exc c _ H' -> NumIs CN H' m ⟨.plain, sg, fg, pw⟩ := fun x7 => ⟨dn7, x7 _ _ en7 nmc⟩
     refine ⟨c, v.r, v.y, v.l, v.m, a, b, xs, ys, .ref l3, rfl, (hc5.same tB), by omega, .inl ⟨l3, Z7 pt (decide (pw > i)) ++ Z6 v.l f pt, rfl, by rw [A8, List.map_append], by rw [List.length_append]; omega, V3b, fun hn a' H8 x8 na ct => ?_, fun z hz a' d H8 x8 na ct nd ed => ?_⟩⟩
     . exact ⟨hn, a', (Exc.of (tA.trans (t5.trans tB))).trans x8, ct, keep x8, rfl⟩
     . exact k.2 z hz a' d H8 ((Exc.of (tA.trans (t5.trans tB))).trans x8) ct ed
   rintro σ' H6 ⟨hn, a', x6, ct, num6, rfl⟩
   exact ⟨_, rfl, k.1 hn m a' H6 x6 ct num6⟩
end
section
variable {P : Program} {w : World} {K : Frag} {mg : Str -> Option Value} {base : Heap}
theorem V0t {v : Cv} {L n : Int} (ok : v.Ok) (h1 : -1000 <= n - L) (h2 : n - L <= 1000) (n1 : -400 <= n) (n2 : n <= 400) : -1500 <= n - v.fin L /\ n - v.fin L <= 1500 := by
 have := ok.r1; have := ok.r2; have := ok.l1; have := ok.l2
 unfold Cv.fin Y2
 split <;> omega
theorem C4e {t b s : Int} (ht : Sz t) (hb : Sz b) (h : Y7 t b s) : -1000 <= s /\ s <= 1000 := by
 have e := U6 1000
 refine ⟨?_, ?_⟩
 . apply Classical.byContradiction
   intro hs
   have z : B5 s = 1 := by unfold B5; rw [show s.toNat = 0 by omega]; rfl
   have g : B5 1000 <= B5 (-s) := B2m (by omega)
   have a := h.1
   rw [z, Int.mul_one] at a
   have : 1 * B5 (-s) <= b * B5 (-s) := Int.mul_le_mul_of_nonneg_right hb.1 (Int.le_of_lt (U6 _))
   have := ht.2
   omega
 . apply Classical.byContradiction
   intro hs
   have z : B5 (-s) = 1 := by unfold B5; rw [show (-s).toNat = 0 by omega]; rfl
   have g : B5 1001 <= B5 s := B2m (by omega)
   have e1 : B5 1001 = 10 * B5 1000 := by
     unfold B5
     rw [show (1001 : Int).toNat = (1000 : Int).toNat + 1 by decide, Nat.pow_succ, Nat.mul_comm]
     rfl
   have a := h.2
   rw [z, Int.mul_one] at a
   have : 1 * B5 s <= t * B5 s := Int.mul_le_mul_of_nonneg_right ht.1 (Int.le_of_lt (U6 _))
   have := hb.2
   omega
theorem B7q : Sz 1 := ⟨by decide, by
 have : B5 1 <= B5 1000 := B2m (by decide)
 have e : B5 1 = 10 := rfl
 omega⟩
theorem D5t {f : Int} (h0 : 0 <= f) (h : f ≠ 0) (h1 : f <= 10 ^ 60 - 1) : Sz f := by
 refine ⟨by omega, ?_⟩
 have : B5 60 <= B5 1000 := B2m (by decide)
 have e : B5 60 = 10 ^ 60 := by decide +kernel
 omega
end
abbrev C3f : Stmt := (top 59)
section
variable {P : Program} {w : World} {K : Frag} {mg : Str -> Option Value} {base : Heap}
def V2j (K : Frag) : Sp := fun vs H Q _ => ∃ a ns k, vs = [.ref a, .int k] /\ SqL K H a ((ns : List Int).map V.int) /\ 0 <= k /\ ∀ i, Q (.int i) H
theorem Z2f : FnScope ["_law_script", "_law_k"] ["_law_script", "_law_k"] (A1 C3f) := scK
theorem Y8r {f : Addr} {fd : FuncData} (D : Def K mg "_law_cell_at" ["_law_script", "_law_k"] C3f f fd) (O : Own mg) : FnOk P w K mg base (CX1 P w) 1 f fd ["_law_script", "_law_k"] (V2j K) := by
 refine FnOk.up (D.F.ok Z2f (fun vs H Q E h => ?_) (fun cdv A outer s H vs Q E hr h => ?_))
 . obtain ⟨a, ns, k, rfl, _⟩ := h
   rfl
 . obtain ⟨a, ns, i, rfl, hs, h0, k⟩ := h
   refine ⟨_, (A6 (G4 (C5 D3h (pv 1) (G9 B5u (by rfl) O.len_ PySem.boot_len (A0 (pv 0) A7)) (B9 _)) (A9 (B7 (U2 A1z (pv 0) (pv 1) (fun _ _ => rfl)))) C7)
     (A9 (B7 A3))), ?_⟩
   refine ⟨_, rfl, _, rfl, a, _, rfl, .inl hs, _, _, rfl, rfl, _, rfl, ?_⟩
   refine G8 (fun hlt => ?_) (fun _ => k 0)
   rw [List.length_map] at hlt
   obtain ⟨j, rfl⟩ := Int.eq_ofNat_of_zero_le h0
   have hj : j < ns.length := by omega
   exact ⟨_, rfl, _, rfl, a, _, _, _, rfl, rfl, hs, G6 (v := V.int ns[j]) (by simp [hj]), k _⟩
end
abbrev A6d : Stmt := (top 60)
section
variable {P : Program} {w : World} {K : Frag} {mg : Str -> Option Value} {base : Heap}
def C2v : Sp := fun vs H Q _ => ∃ c k, vs = [.int c, .int k] /\ 0 <= k /\ k <= 100 /\ ∀ m, 0 <= m -> m < 2147483629 -> Q (.int m) H
theorem Y9h : FnScope ["_law_cell", "_law_k"] ["_law_cell", "_law_k"] (A1 A6d) := scK
theorem V1x {f : Addr} {fd : FuncData} (D : Def K mg "_law_mixed" ["_law_cell", "_law_k"] A6d f fd) : FnOk P w K mg base (CX1 P w) 1 f fd ["_law_cell", "_law_k"] C2v := by
 refine FnOk.up (D.F.ok Y9h (fun vs H Q E h => ?_) (fun cdv A outer s H vs Q E hr h => ?_))
 . obtain ⟨c, k, rfl, _⟩ := h
   rfl
 . obtain ⟨c, i, rfl, h0, h1, k⟩ := h
   refine ⟨_, (A9 (B7 (B3 D8 (B3 U4 (B3 D8 (B3 U3 (B3 U3 (B3 U4 (pv 0) (B3 U3 A3 (B3 U4 (B3 U4 A3 (pv 1)) (pv 1)))) (B3 U4 A3 (pv 1))) A3) A3) A3) A3))), ?_⟩
   have q0 : (0 : Int) <= 2 * i * i := Int.mul_nonneg (by omega) h0
   have q1 : 2 * i * i <= 200 * 100 := Int.mul_le_mul (by omega) h1 h0 (by decide)
   have m1 : IntMulOk 2 i := CMul.ok (.inl ⟨by decide, by decide⟩)
   have m2 : IntMulOk (2 * i) i := CMul.ok (.inr ⟨by omega, by omega⟩)
   have m3 : IntMulOk c (48271 + 2 * i * i) := CMul.ok (.inr ⟨by omega, by omega⟩)
   have m4 : IntMulOk 69621 i := CMul.ok (.inl ⟨by decide, by decide⟩)
   have m5 : ∀ z : Int, IntMulOk z 69621 := fun z => CMul.ok (.inr ⟨by decide, by decide⟩)
   refine ⟨_, rfl, _, rfl, _, _, rfl, rfl, m1, _, rfl, _, _, rfl, rfl, m2, _, _, rfl, rfl, _, _, rfl, rfl, m3, _, rfl, _, _, rfl, rfl, m4, _, _, rfl, rfl, _, _, rfl, rfl, _, _, rfl, rfl, (by show (0 : Int) < 2147483647; decide), _, _, rfl, rfl, m5 _, _, _, rfl, rfl, (by show (0 : Int) < 2147483629; decide), ?_⟩
   exact k _ (Int.emod_nonneg _ (by decide)) (Int.emod_lt_of_pos _ (by decide))
end
abbrev A8q : Stmt := (top 61)
section
variable {P : Program} {w : World} {K : Frag} {mg : Str -> Option Value} {base : Heap}
def B3y : Sp := fun vs H Q _ => ∃ n : Nat, vs = [.int (n : Int)] /\ n <= 600 /\ Q (.int ((10 ^ n : Nat) : Int)) H
theorem Z3d : FnScope ["_law_count"] ["_law_count"] (A1 A8q) := scK
theorem Y9c {f : Addr} {fd : FuncData} (D : Def K mg "_law_ten" ["_law_count"] A8q f fd) (O : Own mg) : FnOk P w K mg base (CX1 P w) 1 f fd ["_law_count"] B3y := by
 refine FnOk.up (D.F.ok Z3d (fun vs H Q E h => ?_) (fun cdv A outer s H vs Q E hr h => ?_))
 . obtain ⟨n, rfl, _⟩ := h
   rfl
 . obtain ⟨n, rfl, hn, k⟩ := h
   refine ⟨_, (A9 (B7 (V4 C8q (by rfl) O.int_ boot_int (A0 (B3 J1j B0 (B3 J2h B0 (pv 0))) A7)))), ?_⟩
   have l1 : ("1" : Str).length = 1 := by decide +kernel
   have l0 : ("0" : Str).length = 1 := by decide +kernel
   refine ⟨_, rfl, _, _, rfl, rfl, by omega, by omega, C6 (by rw [l0]; omega), _, _, rfl, rfl, C6 (by rw [C3t, l0, l1]; omega), ?_⟩
   exact ⟨U5w n, _, rfl, V2k n hn, by rw [G5k]; omega, k⟩
end
abbrev A3a : Stmt := (top 63)
abbrev B3v : Stmt := (top 64)
structure Nm.Wf (x : Nm) : Prop where
 ok : x.Ok
 e : x.k = .end_ -> x.f = 0 /\ x.p = 0
 n : x.k = .none -> x.s = 0 /\ x.f = 0 /\ x.p = 0
theorem G4w {s f p : Int} (h1 : 0 <= s /\ s <= 1) (h2 : 0 <= f /\ f <= 10 ^ 60 - 1) (h3 : -200 <= p /\ p <= 200) : (Nm.mk .plain s f p).Wf := ⟨⟨h1.1, h1.2, h2.1, h2.2, h3.1, h3.2⟩, fun q => (by cases q), fun q => (by cases q)⟩
theorem Z2v {s : Int} (h1 : 0 <= s /\ s <= 1) : (Nm.mk .end_ s 0 0).Wf := ⟨⟨h1.1, h1.2, by show (0 : Int) <= 0; decide, by show (0 : Int) <= 10 ^ 60 - 1; decide, by show (-200 : Int) <= 0; decide, by show (0 : Int) <= 200; decide⟩, fun _ => ⟨rfl, rfl⟩, fun q => (by cases q)⟩
theorem Y8a : (Nm.mk .none 0 0 0).Wf := ⟨⟨by show (0 : Int) <= 0; decide, by show (0 : Int) <= 1; decide, by show (0 : Int) <= 0; decide, by show (0 : Int) <= 10 ^ 60 - 1; decide, by show (-200 : Int) <= 0; decide, by show (0 : Int) <= 200; decide⟩, fun q => (by cases q), fun _ => ⟨rfl, rfl, rfl⟩⟩
theorem U1w {L : Int} {n : Nat} (hn : n <= 60) : 0 <= L % ((10 ^ n : Nat) : Int) /\ L % ((10 ^ n : Nat) : Int) <= 10 ^ 60 - 1 := by
 have p : 0 < ((10 ^ n : Nat) : Int) := Int.natCast_pos.mpr (Nat.pow_pos (by decide))
 have a := Int.emod_nonneg L (Int.ne_of_gt p)
 have b := Int.emod_lt_of_pos L p
 have c : (10 : Nat) ^ n <= 10 ^ 60 := Nat.pow_le_pow_right (by decide) hn
 have e : ((10 ^ 60 : Nat) : Int) = 10 ^ 60 := by decide +kernel
 omega
abbrev A0p : Stmt := (top 62)
theorem dv {n : Int} (h : 0 < n) (h2 : n.natAbs.log2 < 9000) : (0 : Int) < n /\ n.natAbs.log2 < 9000 := ⟨h, h2⟩
section
variable {P : Program} {w : World} {K : Frag} {mg : Str -> Option Value} {base : Heap}
def C3e : Sp := fun vs H Q _ => ∃ c wy : Int, vs = [.int c, .int wy] /\ 0 <= wy /\ wy < 8 /\ ∀ f H', 0 <= f -> f <= 10 ^ 60 - 1 -> Same H H' -> Q (.int f) H'
theorem scLFigures : FnScope ["_law_cell", "_law_way", "_law_more", "_law_found", "_law_k"] ["_law_cell", "_law_way"] (A1 A0p) := scK
theorem V1k {a : Int} {n : Nat} (h0 : 0 <= a) (h1 : a <= 99) (hn : n <= 13) : 0 <= a * ((10 ^ n : Nat) : Int) /\ a * ((10 ^ n : Nat) : Int) <= 10 ^ 60 - 1 := by
 have c : (10 : Nat) ^ n <= 10 ^ 13 := Nat.pow_le_pow_right (by decide) hn
 have x : a * ((10 ^ n : Nat) : Int) <= 99 * ((10 ^ 13 : Nat) : Int) := Int.mul_le_mul h1 (Int.ofNat_le.mpr c) (Int.natCast_nonneg _) (by decide)
 exact ⟨Int.mul_nonneg h0 (Int.natCast_nonneg _), Int.le_trans x (by decide +kernel)⟩
theorem J0v {n : Nat} {a : Int} (hn : n <= 24) (h1 : 0 <= a) (h2 : a <= 2) : 0 <= ((10 ^ n : Nat) : Int) - 1 + a /\ ((10 ^ n : Nat) : Int) - 1 + a <= 10 ^ 60 - 1 := by
 have c : (10 : Nat) ^ n <= 10 ^ 24 := Nat.pow_le_pow_right (by decide) hn
 have d : 0 < (10 : Nat) ^ n := Nat.pow_pos (by decide)
 have e : ((10 ^ 24 : Nat) : Int) + 2 <= 10 ^ 60 - 1 := by decide +kernel
 omega
theorem G5w {f f1 f2 : Addr} {fd fd1 fd2 : FuncData} (D : Def K mg "_law_figures" ["_law_cell", "_law_way"] A0p f fd) (D_l_mixed : Def K mg "_law_mixed" ["_law_cell", "_law_k"] A6d f1 fd1) (G_l_mixed : FnOk P w K mg base (CX1 P w) 1 f1 fd1 ["_law_cell", "_law_k"] C2v)
   (D_l_ten : Def K mg "_law_ten" ["_law_count"] A8q f2 fd2) (G_l_ten : FnOk P w K mg base (CX1 P w) 1 f2 fd2 ["_law_count"] B3y) (O : Own mg) : FnOk P w K mg base (CX1 P w) 2 f fd ["_law_cell", "_law_way"] C3e := by
 refine D.F.okE scLFigures (fun vs H Q E h => ?_) (fun X cdv A outer s H vs Q E hX hr hx h => ?_)
 . obtain ⟨c, wy, rfl, _⟩ := h
   rfl
 . subst hX
   obtain ⟨c, wy, rfl, w0, w8, k⟩ := h
   refine ⟨_, (A6 (B8 (D0 (i := 2) scLFigures.nd rfl (Or.inl rfl) (C8 D_l_mixed G_l_mixed hr hx (A0 (pv 0) (A0 A3 A7)))))
     (A6 (B8 (G4 (PW.pt (B6a (C5 D5 (pv 1) A3 (B9 _)) (A5n (C5 D5 (pv 1) A3 (B9 _))))) (A6 (B8 (D0 (i := 3) scLFigures.nd rfl (Or.inl rfl) A3))
     (A6 (B8 (D4u PassesOwn.leaving rfl (B2p rfl O.range_ (A0 A3 A7)) (V6 (i := 4) scLFigures.nd rfl (Or.inl rfl)) (A9 (B8 (D0 (i := 3) scLFigures.nd rfl (Or.inl rfl) (B3 U3 (B3 U4 (pv 3) A3) (B3 D8 (C8 D_l_mixed G_l_mixed hr hx (A0 (pv 0) (A0 (B3 U3 A3 (pv 4)) A7))) A3)))))))
     (A9 (B7 (B3 D8 (pv 3) (C8 D_l_ten G_l_ten hr hx (A0 (B3 U3 A3 (B3 D8 (pv 2) (U2 A1z (U9 (A0 A3 (A0 A3 A7))) (B3 U1 (pv 1) A3) (fun _ _ => rfl)))) A7))))))) C7))
     (A6 (B8 (G4 (PW.pt (B6a (C5 D5 (pv 1) A3 (B9 _)) (A5n (C5 D5 (pv 1) A3 (B9 _))))) (A9 (B7 (B3 U4 (B3 U3 (B3 D8 (pv 2) A3) A3) (C8 D_l_ten G_l_ten hr hx (A0 (B3 D8 (B3 G3 (pv 2) A3) A3) A7))))) C7))
     (A6 (B8 (G4 (C5 D5 (pv 1) A3 (B9 _)) (A9 (B7 (B3 U3 (B3 U1 (C8 D_l_ten G_l_ten hr hx (A0 (B3 U3 A3 (B3 D8 (pv 2) A3)) A7)) A3) (B3 D8 (B3 G3 (pv 2) A3) A3)))) C7))
     (A9 (B7 (B3 D8 (pv 2) (U2 A1z (U9 (A0 A3 (A0 A3 (A0 A3 A7)))) (B3 D8 (B3 G3 (pv 2) A3) A3) (fun _ _ => rfl))))))))), ?_⟩
   have z2 : 2 <= sizeLine := C6 (by decide)
   have z3 : 3 <= sizeLine := C6 (by decide)
   have mC : ∀ z n : Int, -(2 ^ 64) < n -> n < 2 ^ 64 -> IntMulOk z n := fun z n a b => CMul.ok (.inr ⟨a, b⟩)
   have mC' : ∀ z n : Int, -(2 ^ 64) < n -> n < 2 ^ 64 -> IntMulOk n z := fun z n a b => CMul.ok (.inl ⟨a, b⟩)
   have pT : ∀ n : Nat, 0 < ((10 ^ n : Nat) : Int) := fun n => Int.natCast_pos.mpr (Nat.pow_pos (by decide))
   refine ⟨fun σ' H' => ∃ m : Int, H' = H /\ 0 <= m /\ σ' = [some (.int c), some (.int wy), some (.int m), none, none], ?_, ?_⟩
   . exact ⟨_, rfl, c, 1, rfl, by decide, by decide, fun m m0 _ => ⟨m, rfl, m0, rfl⟩⟩
   rintro σ' H1 ⟨m, rfl, m0, rfl⟩
   refine ⟨fun σ' H' => H' = H1 /\ σ' = [some (.int c), some (.int wy), some (.int m), none, none], ?_, ?_⟩
   . refine ⟨_, rfl, rfl, _, rfl, G8 (fun h => ?_) (fun h => ⟨_, rfl, rfl, _, rfl, G8 (fun h' => ?_) (fun _ => ⟨rfl, rfl⟩)⟩)⟩
     . have h : wy = 2 := by injection h
       subst h
       refine V8 ?_
       refine ⟨fun σ' H' => H' = H1 /\ σ' = [some (.int c), some (.int 2), some (.int m), some (.int 0), none], ⟨rfl, rfl⟩, ?_⟩
       rintro σ' H2 ⟨rfl, rfl⟩
       refine ⟨fun σ' H' => H' = H2 /\ ∃ (L : Int) (v : Option V), σ' = [some (.int c), some (.int 2), some (.int m), some (.int L), v], ⟨7, rfl, by decide, by decide, B7h (n := 7) (fun i σ' H' => H' = H2 /\ ∃ (L : Int) (v : Option V), σ' = [some (.int c), some (.int 2), some (.int m), some (.int L), v]) ⟨rfl, 0, none, rfl⟩ ?_ (fun σ' H' h => h)⟩, ?_⟩
       . rintro i σ' H3 hi ⟨rfl, L, v, rfl⟩
         refine ⟨_, ?_, fun _ _ h => h⟩
         exact ⟨_, rfl, _, _, rfl, rfl, mC _ _ (by decide) (by decide), _, rfl, _, rfl, _, _, rfl, rfl, c, _, rfl, (by show (0 : Int) <= 10 + (0 + (i : Int)); omega), (by show 10 + (0 + (i : Int)) <= 100; omega), fun m' _ _ => ⟨_, _, rfl, rfl, (by decide : (0 : Int) < 1000000000), _, _, rfl, rfl, rfl, _, _, rfl⟩⟩
       . rintro σ' H3 ⟨rfl, L, v, rfl⟩
         refine ⟨_, rfl, _, rfl, z2, fun l nl => ?_⟩
         have a0 := Int.emod_nonneg m (by decide : (24 : Int) ≠ 0)
         have a1 := Int.emod_lt_of_pos m (by decide : (0 : Int) < 24)
         have fm := U1w (L := L) (n := (1 + m % 24).toNat) (by omega)
         exact ⟨_, rfl, _, _, rfl, rfl, l, _, _, _, rfl, rfl, SqL.of A8, G6 (j := 0) rfl, _, _, rfl, rfl, (by decide : (0 : Int) < 24), _, _, rfl, rfl, (1 + m % 24).toNat, (by rw [Int.toNat_of_nonneg (by omega)]; rfl), by omega, _, _, rfl, rfl, pT _, k _ _ fm.1 fm.2 (Same.upd nl)⟩
     . have h' : wy = 3 := by injection h'
       subst h'
       refine ⟨fun σ' H' => H' = H1 /\ σ' = [some (.int c), some (.int 3), some (.int m), some (.int 0), none], ⟨rfl, rfl⟩, ?_⟩
       rintro σ' H2 ⟨rfl, rfl⟩
       refine ⟨fun σ' H' => H' = H2 /\ ∃ (L : Int) (v : Option V), σ' = [some (.int c), some (.int 3), some (.int m), some (.int L), v], ⟨7, rfl, by decide, by decide, B7h (n := 7) (fun i σ' H' => H' = H2 /\ ∃ (L : Int) (v : Option V), σ' = [some (.int c), some (.int 3), some (.int m), some (.int L), v]) ⟨rfl, 0, none, rfl⟩ ?_ (fun σ' H' h => h)⟩, ?_⟩
       . rintro i σ' H3 hi ⟨rfl, L, v, rfl⟩
         refine ⟨_, ?_, fun _ _ h => h⟩
         exact ⟨_, rfl, _, _, rfl, rfl, mC _ _ (by decide) (by decide), _, rfl, _, rfl, _, _, rfl, rfl, c, _, rfl, (by show (0 : Int) <= 10 + (0 + (i : Int)); omega), (by show 10 + (0 + (i : Int)) <= 100; omega), fun m' _ _ => ⟨_, _, rfl, rfl, (by decide : (0 : Int) < 1000000000), _, _, rfl, rfl, rfl, _, _, rfl⟩⟩
       . rintro σ' H3 ⟨rfl, L, v, rfl⟩
         refine ⟨_, rfl, _, rfl, z2, fun l nl => ?_⟩
         have a0 := Int.emod_nonneg m (by decide : (60 : Int) ≠ 0)
         have a1 := Int.emod_lt_of_pos m (by decide : (0 : Int) < 60)
         have fm := U1w (L := L) (n := (1 + m % 60).toNat) (by omega)
         exact ⟨_, rfl, _, _, rfl, rfl, l, _, _, _, rfl, rfl, SqL.of A8, G6 (j := 1) rfl, _, _, rfl, rfl, (by decide : (0 : Int) < 60), _, _, rfl, rfl, (1 + m % 60).toNat, (by rw [Int.toNat_of_nonneg (by omega)]; rfl), by omega, _, _, rfl, rfl, pT _, k _ _ fm.1 fm.2 (Same.upd nl)⟩
   rintro σ' H2 ⟨rfl, rfl⟩
   have a0 := Int.emod_nonneg m (by decide : (99 : Int) ≠ 0)
   have a1 := Int.emod_lt_of_pos m (by decide : (0 : Int) < 99)
   have b0 := Int.emod_nonneg (m / 99) (by decide : (13 : Int) ≠ 0)
   have b1 := Int.emod_lt_of_pos (m / 99) (by decide : (0 : Int) < 13)
   have fs := V1k (a := m % 99 + 1) (n := (m / 99 % 13).toNat) (by omega) (by omega) (by omega)
   refine ⟨fun σ' H' => H' = H2 /\ σ' = [some (.int c), some (.int wy), some (.int m), none, none], ?_, ?_⟩
   . refine ⟨_, rfl, rfl, _, rfl, G8 (fun h => ?_) (fun h => ⟨_, rfl, rfl, _, rfl, G8 (fun h' => ?_) (fun _ => ⟨rfl, rfl⟩)⟩)⟩
     . exact V8 ⟨_, rfl, _, _, rfl, rfl, (by decide : (0 : Int) < 99), _, _, rfl, rfl, _, rfl, _, _, rfl, rfl, dv (n := 99) (by decide) (by decide +kernel), _, _, rfl, rfl, (by decide : (0 : Int) < 13), (m / 99 % 13).toNat, (by rw [Int.toNat_of_nonneg b0]; rfl), by omega, _, _, rfl, rfl, mC' _ _ (by omega) (by omega), k _ _ fs.1 fs.2 (Same.refl _)⟩
     . exact ⟨_, rfl, _, _, rfl, rfl, (by decide : (0 : Int) < 99), _, _, rfl, rfl, _, rfl, _, _, rfl, rfl, dv (n := 99) (by decide) (by decide +kernel), _, _, rfl, rfl, (by decide : (0 : Int) < 13), (m / 99 % 13).toNat, (by rw [Int.toNat_of_nonneg b0]; rfl), by omega, _, _, rfl, rfl, mC' _ _ (by omega) (by omega), k _ _ fs.1 fs.2 (Same.refl _)⟩
   rintro σ' H3 ⟨rfl, rfl⟩
   have c0 := Int.emod_nonneg m (by decide : (24 : Int) ≠ 0)
   have c1 := Int.emod_lt_of_pos m (by decide : (0 : Int) < 24)
   have d0 := Int.emod_nonneg (m / 24) (by decide : (3 : Int) ≠ 0)
   have d1 := Int.emod_lt_of_pos (m / 24) (by decide : (0 : Int) < 3)
   have fr := J0v (n := (1 + m % 24).toNat) (a := m / 24 % 3) (by omega) d0 (by omega)
   refine ⟨fun σ' H' => H' = H3 /\ σ' = [some (.int c), some (.int wy), some (.int m), none, none], ?_, ?_⟩
   . refine ⟨_, rfl, rfl, _, rfl, G8 (fun h => ?_) (fun h => ⟨rfl, rfl⟩)⟩
     exact ⟨_, rfl, _, _, rfl, rfl, (by decide : (0 : Int) < 24), _, _, rfl, rfl, (1 + m % 24).toNat, (by rw [Int.toNat_of_nonneg (by omega)]; rfl), by omega, _, _, rfl, rfl, _, rfl, _, _, rfl, rfl, dv (n := 24) (by decide) (by decide +kernel), _, _, rfl, rfl, (by decide : (0 : Int) < 3), _, _, rfl, rfl, k _ _ fr.1 fr.2 (Same.refl _)⟩
   rintro σ' H4 ⟨rfl, rfl⟩
   refine ⟨_, rfl, z3, fun l nl => ?_⟩
   obtain ⟨v, hv, ix⟩ := ixs (xs := [10, 100, 1000]) (i := m / 1000 % 3) (Int.emod_nonneg _ (by decide)) (by show m / 1000 % 3 < 3; exact Int.emod_lt_of_pos _ (by decide))
   have bv : 0 < v /\ v <= 1000 := by
     simp only [List.mem_cons, List.not_mem_nil, or_false] at hv
     omega
   have e0 := Int.emod_nonneg m (Int.ne_of_gt bv.1)
   have e1 := Int.emod_lt_of_pos m bv.1
   have big : (1000 : Int) <= 10 ^ 60 - 1 := by decide +kernel
   exact ⟨_, rfl, _, _, rfl, rfl, dv (n := 1000) (by decide) (by decide +kernel), _, _, rfl, rfl, (by decide : (0 : Int) < 3), l, _, _, _, rfl, rfl, SqL.of A8, ix, _, _, rfl, rfl, bv.1, k _ _ e0 (by omega) (Same.upd nl)⟩
end
section
variable {P : Program} {w : World} {K : Frag} {mg : Str -> Option Value} {base : Heap}
def D3e : Sp := fun vs H Q _ => ∃ c, vs = [.int c] /\ ∀ (x : Nm) t H', x.Wf -> Same H H' -> H' t = some (.tup x.vs) -> Q (.ref t) H'
theorem scLNumber : FnScope ["_law_cell", "_law_kind", "_law_sign", "_law_more", "_law_wide"] ["_law_cell"] (A1 A3a) := scK
theorem J1z {f f1 f2 : Addr} {fd fd1 fd2 : FuncData} (D : Def K mg "_law_number" ["_law_cell"] A3a f fd) (D_l_mixed : Def K mg "_law_mixed" ["_law_cell", "_law_k"] A6d f1 fd1) (G_l_mixed : FnOk P w K mg base (CX1 P w) 1 f1 fd1 ["_law_cell", "_law_k"] C2v)
   (D_l_figures : Def K mg "_law_figures" ["_law_cell", "_law_way"] A0p f2 fd2) (G_l_figures : FnOk P w K mg base (CX1 P w) 2 f2 fd2 ["_law_cell", "_law_way"] C3e) (O : Own mg) : FnOk P w K mg base (CX1 P w) 3 f fd ["_law_cell"] D3e := by
 refine D.F.okE scLNumber (fun vs H Q E h => ?_) (fun X cdv A outer s H vs Q E hX hr hx h => ?_)
 . obtain ⟨c, rfl, _⟩ := h
   rfl
 . subst hX
   obtain ⟨c, rfl, k⟩ := h
   refine ⟨_, (A6 (B8 (D0 (i := 1) scLNumber.nd rfl (Or.inl rfl) (B3 D8 (pv 0) A3)))
     (A6 (B8 (D0 (i := 2) scLNumber.nd rfl (Or.inl rfl) (B3 D8 (B3 G3 (pv 0) A3) A3)))
     (A6 (B8 (D0 (i := 3) scLNumber.nd rfl (Or.inl rfl) (C8 D_l_mixed G_l_mixed hr hx (A0 (pv 0) (A0 A3 A7)))))
     (A6 (B8 (G4 (C5 D5 (pv 1) A3 (B9 _)) (A9 (B7 (V1 (A0 B0 (A0 (pv 2) (A0 A3 (A0 (B3 U1 (B3 D8 (pv 3) A3) A3) A7))))))) C7))
     (A6 (B8 (G4 (C5 D5 (pv 1) A3 (B9 _)) (A9 (B7 (U2 A1z (U9 (A0 (V1 (A0 B0 (A0 (pv 2) (A0 A3 (A0 A3 A7))))) (A0 (V1 (A0 B0 (A0 A3 (A0 A3 (A0 A3 A7))))) A7))) (V4 D2t (by rfl) O.int_ boot_int (A0 (D9 D5 (B3 D8 (pv 3) A3) A3 (B9 _)) A7)) (fun _ _ => rfl)))) C7))
     (A6 (B8 (D0 (i := 4) scLNumber.nd rfl (Or.inl rfl) (B3 U1 (B3 D8 (pv 3) A3) A3)))
     (A6 (B8 (G4 (C5 D5 (B3 D8 (B3 G3 (pv 3) A3) A3) A3 (B9 _)) (A9 (B8 (D0 (i := 4) scLNumber.nd rfl (Or.inl rfl) (B3 U1 (B3 D8 (B3 G3 (pv 3) A3) A3) A3)))) C7))
     (A6 (B8 (G4 (C5 D5 (B3 D8 (B3 G3 (pv 3) A3) A3) A3 (B9 _)) (A9 (B8 (D0 (i := 4) scLNumber.nd rfl (Or.inl rfl) (B3 U1 (B3 D8 (B3 G3 (pv 3) A3) A3) A3)))) C7))
     (A9 (B7 (V1 (A0 B0 (A0 (pv 2) (A0 (C8 D_l_figures G_l_figures hr hx (A0 (pv 0) (A0 (B3 D8 (B3 G3 (pv 0) A3) A3) A7))) (A0 (pv 4) A7))))))))))))))), ?_⟩
   have z2 : 2 <= sizeLine := C6 (by decide)
   have z4 : 4 <= sizeLine := C6 (by decide)
   refine ⟨fun σ' H' => ∃ kd : Int, H' = H /\ σ' = [some (.int c), some (.int kd), none, none, none], ⟨_, rfl, _, _, rfl, rfl, (by decide : (0 : Int) < 8), _, rfl, rfl⟩, ?_⟩
   rintro σ' H1 ⟨kd, rfl, rfl⟩
   refine ⟨fun σ' H' => ∃ sg : Int, H' = H1 /\ 0 <= sg /\ sg <= 1 /\ σ' = [some (.int c), some (.int kd), some (.int sg), none, none], ⟨_, rfl, _, _, rfl, rfl, dv (n := 8) (by decide) (by decide +kernel), _, _, rfl, rfl, (by decide : (0 : Int) < 2), c / 8 % 2, rfl, by omega, by omega, rfl⟩, ?_⟩
   rintro σ' H2 ⟨sg, rfl, s0, s1, rfl⟩
   refine ⟨fun σ' H' => ∃ m : Int, H' = H2 /\ 0 <= m /\ σ' = [some (.int c), some (.int kd), some (.int sg), some (.int m), none], ⟨_, rfl, c, 2, rfl, by decide, by decide, fun m m0 _ => ⟨m, rfl, m0, rfl⟩⟩, ?_⟩
   rintro σ' H3 ⟨m, rfl, m0, rfl⟩
   refine ⟨fun σ' H' => H' = H3 /\ σ' = [some (.int c), some (.int kd), some (.int sg), some (.int m), none], ?_, ?_⟩
   . refine ⟨_, rfl, rfl, _, rfl, G8 (fun h => ?_) (fun h => ⟨rfl, rfl⟩)⟩
     refine ⟨_, rfl, _, rfl, _, _, rfl, rfl, (by decide : (0 : Int) < 41), _, _, rfl, rfl, z4, fun t nt => ?_⟩
     exact k ⟨.plain, sg, 0, m % 41 - 20⟩ t _ (G4w ⟨s0, s1⟩ ⟨by decide, by decide +kernel⟩ ⟨by omega, by omega⟩) (Same.upd nt) A8
   rintro σ' H4 ⟨rfl, rfl⟩
   refine ⟨fun σ' H' => H' = H4 /\ σ' = [some (.int c), some (.int kd), some (.int sg), some (.int m), none], ?_, ?_⟩
   . refine ⟨_, rfl, rfl, _, rfl, G8 (fun h => ?_) (fun h => ⟨rfl, rfl⟩)⟩
     refine ⟨_, rfl, z4, fun t1 n1 => ⟨z4, fun t2 n2 => ⟨z2, fun l nl => ?_⟩⟩⟩
     have u1 := Same.upd (o := .tup [.str "end", .int sg, .int 0, .int 0]) n1
     have u2 := Same.upd (o := .tup [.str "none", .int 0, .int 0, .int 0]) n2
     have u3 := Same.upd (o := .lst [.ref t1, .ref t2]) nl
     refine ⟨_, rfl, _, _, rfl, rfl, (by decide : (0 : Int) < 4), rfl, .inr ⟨_, rfl, ?_⟩⟩
     by_cases hm : V.int (m % 4) = V.int 0
     . rw [decide_eq_true hm]
       exact ⟨l, _, _, _, rfl, rfl, SqL.of A8, G6 (j := 1) rfl, k ⟨.none, 0, 0, 0⟩ t2 _ Y8a ((u1.trans u2).trans u3) (u3 _ _ A8)⟩
     . rw [decide_eq_false hm]
       exact ⟨l, _, _, _, rfl, rfl, SqL.of A8, G6 (j := 0) rfl, k ⟨.end_, sg, 0, 0⟩ t1 _ (Z2v ⟨s0, s1⟩) ((u1.trans u2).trans u3) ((u2.trans u3) _ _ A8)⟩
   rintro σ' H5 ⟨rfl, rfl⟩
   refine ⟨fun σ' H' => H' = H5 /\ ∃ pw : Int, -200 <= pw /\ pw <= 200 /\ σ' = [some (.int c), some (.int kd), some (.int sg), some (.int m), some (.int pw)], ⟨_, rfl, _, _, rfl, rfl, (by decide : (0 : Int) < 13), _, _, rfl, rfl, rfl, m % 13 - 6, by omega, by omega, rfl⟩, ?_⟩
   rintro σ' H6 ⟨rfl, pw, p0, p1, rfl⟩
   refine ⟨fun σ' H' => H' = H6 /\ ∃ pw : Int, -200 <= pw /\ pw <= 200 /\ σ' = [some (.int c), some (.int kd), some (.int sg), some (.int m), some (.int pw)], ?_, ?_⟩
   . refine ⟨_, rfl, _, _, rfl, rfl, dv (n := 13) (by decide) (by decide +kernel), _, _, rfl, rfl, (by decide : (0 : Int) < 4), rfl, _, rfl, G8 (fun _ => ?_) (fun _ => ⟨rfl, pw, p0, p1, rfl⟩)⟩
     refine ⟨_, ?_, fun _ _ h => h⟩
     exact ⟨_, rfl, _, _, rfl, rfl, dv (n := 52) (by decide) (by decide +kernel), _, _, rfl, rfl, (by decide : (0 : Int) < 141), _, _, rfl, rfl, rfl, m / 52 % 141 - 70, by omega, by omega, rfl⟩
   rintro σ' H7 ⟨rfl, pw, p0, p1, rfl⟩
   refine ⟨fun σ' H' => H' = H7 /\ ∃ pw : Int, -200 <= pw /\ pw <= 200 /\ σ' = [some (.int c), some (.int kd), some (.int sg), some (.int m), some (.int pw)], ?_, ?_⟩
   . refine ⟨_, rfl, _, _, rfl, rfl, dv (n := 13) (by decide) (by decide +kernel), _, _, rfl, rfl, (by decide : (0 : Int) < 16), rfl, _, rfl, G8 (fun _ => ?_) (fun _ => ⟨rfl, pw, p0, p1, rfl⟩)⟩
     refine ⟨_, ?_, fun _ _ h => h⟩
     exact ⟨_, rfl, _, _, rfl, rfl, dv (n := 208) (by decide) (by decide +kernel), _, _, rfl, rfl, (by decide : (0 : Int) < 401), _, _, rfl, rfl, rfl, m / 208 % 401 - 200, by omega, by omega, rfl⟩
   rintro σ' H8 ⟨rfl, pw, p0, p1, rfl⟩
   refine ⟨_, rfl, _, rfl, _, rfl, _, _, rfl, rfl, dv (n := 16) (by decide) (by decide +kernel), _, _, rfl, rfl, (by decide : (0 : Int) < 8), c, _, rfl, Int.emod_nonneg _ (by decide), Int.emod_lt_of_pos _ (by decide), fun fg H9 g0 g1 s9 => ?_⟩
   refine ⟨_, rfl, z4, fun t nt => ?_⟩
   exact k ⟨.plain, sg, fg, pw⟩ t _ (G4w ⟨s0, s1⟩ ⟨g0, g1⟩ ⟨p0, p1⟩) (s9.trans (Same.upd nt)) A8
def U2r (CN : Addr) : Sp := fun vs H Q _ => ∃ t x, vs = [.ref t] /\ H t = some (.tup (Nm.vs x)) /\ x.Wf /\ ∀ n H', H n = none -> Same H H' -> NumIs CN H' n x -> Q (.ref n) H'
theorem Y8n : FnScope ["_law_one"] ["_law_one"] (A1 B3v) := scK
theorem V2n {f f1 f2 f3 CN CB : Addr} {fd fd1 fd2 fd3 : FuncData} (D : Def K mg "_law_made" ["_law_one"] B3v f fd) (D_plain : Def K mg "plain" ["sign", "figures", "power"] B4b f1 fd1) (G_plain : FnOk P w K mg base (CX1 P w) 3 f1 fd1 ["sign", "figures", "power"] (U2h K CN CB))
   (D_end : Def K mg "end" ["sign"] G6h f2 fd2) (G_end : FnOk P w K mg base (CX1 P w) 3 f2 fd2 ["sign"] (V3v K CN CB)) (D_nothing : Def K mg "nothing" [] A3e f3 fd3) (G_nothing : FnOk P w K mg base (CX1 P w) 3 f3 fd3 [] (D3g CN)) : FnOk P w K mg base (CX1 P w) 4 f fd ["_law_one"] (U2r CN) := by
 refine D.F.okE Y8n (fun vs H Q E h => ?_) (fun X cdv A outer s H vs Q E hX hr hx h => ?_)
 . obtain ⟨t, x, rfl, _⟩ := h
   rfl
 . subst hX
   obtain ⟨t, x, rfl, ht, wf, k⟩ := h
   refine ⟨_, (A6 (G4 (C5 D5 (U2 U0 (pv 0) A3 (fun _ _ => rfl)) B0 (B9 _)) (A9 (B7 (C8 D_plain G_plain hr hx (A0 (U2 U0 (pv 0) A3 (fun _ _ => rfl)) (A0 (U2 U0 (pv 0) A3 (fun _ _ => rfl)) (A0 (U2 U0 (pv 0) A3 (fun _ _ => rfl)) A7)))))) C7)
     (A6 (G4 (C5 D5 (U2 U0 (pv 0) A3 (fun _ _ => rfl)) B0 (B9 _)) (A9 (B7 (C8 D_end G_end hr hx (A0 (U2 U0 (pv 0) A3 (fun _ _ => rfl)) A7)))) C7)
     (A9 (B7 (Z2y D_nothing G_nothing hr hx))))), ?_⟩
   have ok := wf.ok
   have g1 : A4t 0 1 (.int x.s) := ⟨_, rfl, ok.s0, ok.s1⟩
   have g2 : A4t 0 (10 ^ 60 - 1) (.int x.f) := ⟨_, rfl, ok.f0, ok.f1⟩
   have g3 : A4t (-200) 200 (.int x.p) := ⟨_, rfl, ok.p0, ok.p1⟩
   have ix : ∀ j : Nat, j < 4 -> atI x.vs (j : Int) = some (x.vs.getD j .non) := fun j hj => G6 (j := j) (by
     rcases (by omega : j = 0 \/ j = 1 \/ j = 2 \/ j = 3) with rfl | rfl | rfl | rfl <;> rfl)
   refine ⟨_, rfl, t, _, _, _, rfl, rfl, SqT.of ht, ix 0 (by decide), rfl, _, rfl, G8 (fun h => ?_) (fun h => ?_)⟩
   . have hk : x.k = .plain := eqS (b := .plain) h
     refine ⟨_, rfl, t, _, _, _, rfl, rfl, SqT.of ht, ix 1 (by decide), _, rfl, t, _, _, _, rfl, rfl, SqT.of ht, ix 2 (by decide), _, rfl, t, _, _, _, rfl, rfl, SqT.of ht, ix 3 (by decide), _, _, _, rfl, .inl ⟨g1, g2, g3, fun n H' nn sm num => k n H' nn sm ?_⟩⟩
     unfold NumIs
     rw [hk]
     exact num
   . have hk : x.k ≠ .plain := neS (b := .plain) h
     refine ⟨_, rfl, t, _, _, _, rfl, rfl, SqT.of ht, ix 0 (by decide), rfl, _, rfl, G8 (fun h => ?_) (fun h => ?_)⟩
     . have hk : x.k = .end_ := eqS (b := .end_) h
       obtain ⟨ef, ep⟩ := wf.e hk
       refine ⟨_, rfl, t, _, _, _, rfl, rfl, SqT.of ht, ix 1 (by decide), _, rfl, .inl ⟨g1, fun n H' nn sm num => k n H' nn sm ?_⟩⟩
       unfold NumIs
       rw [hk, ef, ep]
       exact num
     . have hk2 : x.k ≠ .end_ := neS (b := .end_) h
       have hk3 : x.k = .none := by
         cases hk' : x.k with
         | plain => exact absurd hk' hk
         | end_ => exact absurd hk' hk2
         | none => rfl
       obtain ⟨es, ef, ep⟩ := wf.n hk3
       refine ⟨rfl, fun n H' nn sm num => k n H' nn sm ?_⟩
       unfold NumIs
       rw [hk3, es, ef, ep]
       exact num
end
def rdS (zs : List Str) : PyData := .list (zs.map PyData.str)
def OkL (zs : List Str) : Prop := zs.length <= 100 /\ ∀ z ∈ zs, PyData.strOk z = true
theorem Z9g : ∀ {zs : List Str}, (∀ z ∈ zs, PyData.strOk z = true) -> PyData.canLayAll0 (zs.map PyData.str) = true /\ PyData.depthAll (zs.map PyData.str) <= 1
 | [], _ => by simp [PyData.canLayAll0, PyData.depthAll]
 | z :: zs, h => by
   obtain ⟨a, b⟩ := Z9g (zs := zs) fun z' h' => h z' (List.mem_cons_of_mem _ h')
   have c := h z List.mem_cons_self
   constructor
   . simp [PyData.canLayAll0, PyData.canLay0, c, a]
   . simp only [List.map_cons, PyData.depthAll, PyData.depth]
     omega
theorem shS {zs : List Str} (h : OkL zs) : SeqAt.shaped (rdS zs) = true := by
 obtain ⟨a, b⟩ := Z9g h.2
 unfold SeqAt.shaped rdS
 simp only [PyData.canLay0, PyData.depth, a, Bool.and_true, Bool.and_eq_true, decide_eq_true_eq, List.length_map]
 exact ⟨trivial, decide_eq_true (by omega)⟩
theorem Z2g : ∀ zs : List Str, PyData.eqv (rdS zs) (rdS zs) = true := by
 have h : ∀ zs : List Str, PyData.eqvAll (zs.map PyData.str) (zs.map PyData.str) = true := fun zs => by
   induction zs with
   | nil => simp [PyData.eqvAll]
   | cons z zs ih => simp [PyData.eqvAll, PyData.eqv, ih]
 intro zs
 simp [rdS, PyData.eqv, h]
theorem Z7j {K : Frag} {H : Hp} : ∀ zs : List Str, RdDs K H (zs.map V.str) (zs.map PyData.str)
 | [] => .nil
 | z :: zs => .cons (.str z) (Z7j zs)
theorem B7m {K : Frag} {H : Hp} {p : Addr} {zs : List Str} (h : H p = some (.lst (zs.map V.str))) : RdD K H (.ref p) (rdS zs) := .lst (SqL.of h) (Z7j zs)
theorem U3b : ∀ z ∈ sigS, PyData.strOk z = true := by decide +kernel
def SubS (zs : List Str) : Prop := ∃ p : Str -> Bool, zs = sigS.filter p
theorem SubS.ok {zs : List Str} (h : SubS zs) : OkL zs := by
 obtain ⟨p, rfl⟩ := h
 exact ⟨Nat.le_trans (List.length_filter_le _ _) (by decide), fun z hz => U3b z (List.mem_filter.mp hz).1⟩
theorem SubS.len {zs : List Str} (h : SubS zs) : zs.length <= 7 := by
 obtain ⟨p, rfl⟩ := h
 exact List.length_filter_le _ _
theorem SubS.mem {zs : List Str} (h : SubS zs) : ∀ z ∈ zs, z ∈ sigS := by
 obtain ⟨p, rfl⟩ := h
 exact fun z hz => (List.mem_filter.mp hz).1
theorem C4f {zs ws : List Str} (h : SubS zs) (e : ∀ z, z ∈ ws ↔ z ∈ zs) : V3 ws = zs := by
 obtain ⟨p, rfl⟩ := h
 unfold V3
 refine List.filter_congr fun z hz => ?_
 rw [Bool.eq_iff_iff, List.contains_iff_mem, e, List.mem_filter]
 simp [hz]
theorem V3n (zs : List Str) : SubS (V3 zs) := ⟨_, rfl⟩
theorem D5k : ∀ i < 7, A4v[i]? = some (.str (sigS.getD i "")) := by decide +kernel
theorem Y7j : sigS = (List.range 7).map (fun i => sigS.getD i "") := by decide +kernel
theorem G4u (f : Nat -> Bool) : SubS (((List.range 7).filter f).map fun i => sigS.getD i "") := by
 refine ⟨fun z => f (sigS.idxOf z), ?_⟩
 conv => rhs; rw [Y7j]
 rw [List.filter_map]
 congr 1
theorem U2g {f : Nat -> Bool} {ys : List V} (hl : ys.length = ((List.range 7).filter f).length) (h : ∀ (j i : Nat) (y : V), ((List.range 7).filter f)[j]? = some i -> ys[j]? = some y -> A4v[i]? = some y) :
   ys = ((((List.range 7).filter f).map fun i => sigS.getD i "")).map V.str := by
 apply List.ext_getElem
 . simp [hl]
 . intro j h1 h2
   have hj : j < ((List.range 7).filter f).length := by rw [<- hl]; exact h1
   have z := h j _ ys[j] (List.getElem?_eq_getElem hj) (List.getElem?_eq_getElem h1)
   have hm : ((List.range 7).filter f)[j] < 7 := by
     have := (List.mem_filter.mp (List.getElem_mem hj)).1
     simpa using this
   rw [D5k _ hm] at z
   simp only [List.getElem_map]
   exact (Option.some.inj z).symm
abbrev C4s : Stmt := (top 65)
def U5s (r : Int) (y : Wy) (l m : Int) (u t : Addr) : List (Key × V) := [(.inr "room", .int r), (.inr "way", .str y.name), (.inr "least", .int l), (.inr "most", .int m), (.inr "lowest", .int (l - r + 1)), (.inr "up", .ref u), (.inr "trapped", .ref t)]
structure OwnAt (H : Hp) (d u t : Addr) (r : Int) (y : Wy) (l m : Int) (up tr : List Str) : Prop where
 d : H d = some (.dK (U5s r y l m u t))
 u : H u = some (.lst (up.map V.str))
 t : H t = some (.lst (tr.map V.str))
theorem OwnAt.same {H H' : Hp} {d u t : Addr} {r l m : Int} {y : Wy} {up tr : List Str} (h : OwnAt H d u t r y l m up tr) (s : Same H H') : OwnAt H' d u t r y l m up tr := ⟨s _ _ h.d, s _ _ h.u, s _ _ h.t⟩
structure FrameOk (r l m : Int) : Prop where
 r1 : 1 <= r
 r2 : r <= 24
 l1 : -60 <= l
 l2 : l <= 0
 m1 : 0 <= m
 m2 : m <= 60
def ownWy : List Wy := [.halfEven, .down, .up, .floor, .ceiling, .halfUp, .halfDown, .fiveUp]
def V1s : List V := ownWy.map fun y => V.str y.name
def k5 (r : Int) (y : Wy) (l m : Int) : List (Key × V) := [(.inr "room", .int r), (.inr "way", .str y.name), (.inr "least", .int l), (.inr "most", .int m), (.inr "lowest", .int (l - r + 1))]
theorem kne : (¬ (("way" : Str) = "room")) /\ (¬ (("room" : Str) = "way")) /\ (¬ (("room" : Str) = "least")) /\ (¬ (("way" : Str) = "least")) /\ (¬ (("room" : Str) = "most")) /\ (¬ (("way" : Str) = "most")) /\ (¬ (("least" : Str) = "most")) /\
   (¬ (("room" : Str) = "lowest")) /\ (¬ (("way" : Str) = "lowest")) /\ (¬ (("least" : Str) = "lowest")) /\ (¬ (("most" : Str) = "lowest")) /\ (¬ (("room" : Str) = "up")) /\ (¬ (("way" : Str) = "up")) /\ (¬ (("least" : Str) = "up")) /\ (¬ (("most" : Str) = "up")) /\ (¬ (("lowest" : Str) = "up")) /\
   (¬ (("room" : Str) = "trapped")) /\ (¬ (("way" : Str) = "trapped")) /\ (¬ (("least" : Str) = "trapped")) /\ (¬ (("most" : Str) = "trapped")) /\ (¬ (("lowest" : Str) = "trapped")) /\ (¬ (("up" : Str) = "trapped")) /\ (¬ (("trapped" : Str) = "up")) := by decide +kernel
theorem put1 (a b : V) : A8s [] [((.inr "room" : Key), a), (.inr "way", b)] = [(.inr "room", a), (.inr "way", b)] := by
 obtain ⟨h1, h2, _⟩ := kne
 simp [A8s, Z8, h1, h2]
theorem put2 (a b v : V) : Z8 [((.inr "room" : Key), a), (.inr "way", b)] (.inr "room") v = [(.inr "room", v), (.inr "way", b)] := by
 obtain ⟨h1, h2, _⟩ := kne
 simp [Z8, h1, h2]
theorem put3 (a b v : V) : Z8 [((.inr "room" : Key), a), (.inr "way", b)] (.inr "least") v = [(.inr "room", a), (.inr "way", b), (.inr "least", v)] := by
 obtain ⟨_, _, h1, h2, _⟩ := kne
 simp [Z8, h1, h2]
theorem put4 (a b c v : V) : Z8 [((.inr "room" : Key), a), (.inr "way", b), (.inr "least", c)] (.inr "most") v = [(.inr "room", a), (.inr "way", b), (.inr "least", c), (.inr "most", v)] := by
 obtain ⟨_, _, _, _, h1, h2, h3, _⟩ := kne
 simp [Z8, h1, h2, h3]
theorem put5 (a b c d v : V) : Z8 [((.inr "room" : Key), a), (.inr "way", b), (.inr "least", c), (.inr "most", d)] (.inr "lowest") v = [(.inr "room", a), (.inr "way", b), (.inr "least", c), (.inr "most", d), (.inr "lowest", v)] := by
 obtain ⟨_, _, _, _, _, _, _, h1, h2, h3, h4, _⟩ := kne
 simp [Z8, h1, h2, h3, h4]
theorem put6 (r : Int) (y : Wy) (l m : Int) (v : V) : Z8 (k5 r y l m) (.inr "up") v = k5 r y l m ++ [(.inr "up", v)] := by
 obtain ⟨_, _, _, _, _, _, _, _, _, _, _, h1, h2, h3, h4, h5, _⟩ := kne
 simp [Z8, k5, h1, h2, h3, h4, h5]
theorem put7 (r : Int) (y : Wy) (l m : Int) (u t : Addr) : Z8 (k5 r y l m ++ [(.inr "up", .ref u)]) (.inr "trapped") (.ref t) = U5s r y l m u t := by
 obtain ⟨_, _, _, _, _, _, _, _, _, _, _, _, _, _, _, _, h1, h2, h3, h4, h5, h6, _⟩ := kne
 simp [Z8, k5, U5s, h1, h2, h3, h4, h5, h6]
theorem put8 (r : Int) (y : Wy) (l m : Int) (u u' t : Addr) : Z8 (U5s r y l m u t) (.inr "up") (.ref u') = U5s r y l m u' t := by
 obtain ⟨_, _, _, _, _, _, _, _, _, _, _, h1, h2, h3, h4, h5, _, _, _, _, _, _, h6⟩ := kne
 simp [Z8, U5s, h1, h2, h3, h4, h5, h6]
theorem at3 (a b c n : Int) : ∃ v, (v = a \/ v = b \/ v = c) /\ atI ([.int a, .int b, .int c] : List V) (n % 3) = some (.int v) := by
 rcases (by omega : n % 3 = 0 \/ n % 3 = 1 \/ n % 3 = 2) with h | h | h
 . exact ⟨a, .inl rfl, by rw [h]; exact G6 (j := 0) rfl⟩
 . exact ⟨b, .inr (.inl rfl), by rw [h]; exact G6 (j := 1) rfl⟩
 . exact ⟨c, .inr (.inr rfl), by rw [h]; exact G6 (j := 2) rfl⟩
theorem sh3 : ∀ i : Nat, i < 7 -> (0 : Int) < 3 * 2 ^ ((0 : Int) + (i : Int)).toNat /\ ((3 : Int) * 2 ^ ((0 : Int) + (i : Int)).toNat).natAbs.log2 < 9000 := by decide +kernel
theorem Z2z : ∀ i : Nat, i < 7 -> (0 : Int) < 1200 * 2 ^ ((0 : Int) + (i : Int)).toNat /\ ((1200 : Int) * 2 ^ ((0 : Int) + (i : Int)).toNat).natAbs.log2 < 9000 := by decide +kernel
theorem U2s {i : Nat} (h : i < 7) : atI A4v ((0 : Int) + (i : Int)) = some (.str (sigS.getD i "")) := by
 rw [Int.zero_add]
 exact G6 (j := i) (D5k i h)
section
variable {P : Program} {w : World} {K : Frag} {mg : Str -> Option Value} {base : Heap}
def V0u : Sp := fun vs H Q _ => ∃ c : Int, vs = [.int c] /\ ∀ d u t r y l m up tr H', Same H H' -> H d = none -> H u = none -> H t = none -> FrameOk r l m -> SubS up -> SubS tr -> OwnAt H' d u t r y l m up tr -> Q (.ref d) H'
theorem scLOwn : FnScope ["_law_cell", "_law_ways", "_law_signals", "_law_more", "_law_own_here"] ["_law_cell"] (A1 C4s) := scK
theorem Y9f {f f1 : Addr} {fd fd1 : FuncData} (D : Def K mg "_law_own" ["_law_cell"] C4s f fd) (D_l_mixed : Def K mg "_law_mixed" ["_law_cell", "_law_k"] A6d f1 fd1) (G_l_mixed : FnOk P w K mg base (CX1 P w) 1 f1 fd1 ["_law_cell", "_law_k"] C2v) (O : Own mg) :
   FnOk P w K mg base (CX1 P w) 2 f fd ["_law_cell"] V0u := by
 refine D.F.okE scLOwn (fun vs H Q E h => ?_) (fun X cdv A outer s H vs Q E hX hr hx h => ?_)
 . obtain ⟨c, rfl, _⟩ := h
   rfl
 . subst hX
   obtain ⟨c, rfl, k⟩ := h
   have HU := hr.units
   refine ⟨_, (A6 (B8 (D0 (i := 1) scLOwn.nd rfl (Or.inl rfl) (U9 (A0 B0 (A0 B0 (A0 B0 (A0 B0 (A0 B0 (A0 B0 (A0 B0 (A0 B0 A7)))))))))))
     (A6 (B8 (D0 (i := 2) scLOwn.nd rfl (Or.inr rfl) (U9 (A0 B0 (A0 B0 (A0 B0 (A0 B0 (A0 B0 (A0 B0 (A0 B0 A7))))))))))
     (A6 (B8 (D0 (i := 3) scLOwn.nd rfl (Or.inr rfl) (C8 D_l_mixed G_l_mixed hr hx (A0 (pv 0) (A0 A3 A7)))))
     (A6 (B8 (D0 (i := 4) scLOwn.nd rfl (Or.inl rfl) (Y8p (G4p B0 (B3 U3 A3 (B3 D8 (pv 3) A3)) (G4p B0 (U2 A1z (pv 1) (B3 D8 (B3 G3 (pv 3) A3) A3) (fun _ _ => rfl)) Y7v)) rfl rfl (by simp) (by decide))))
     (A6 (B8 (G4 (C5 D5 (B3 D8 (B3 G3 (pv 3) A3) A3) A3 (B9 _)) (A9 (B8 (A5u (Nat.lt_of_le_of_lt (Nat.add_le_add_left (by decide) _) HU) (pv 4) B0 (B3 U3 A3 (B3 D8 (B3 G3 (pv 3) A3) A3)) (by rfl)))) C7))
     (A6 (B8 (D0 (i := 3) scLOwn.nd rfl (Or.inr rfl) (C8 D_l_mixed G_l_mixed hr hx (A0 (pv 0) (A0 A3 A7)))))
     (A6 (B8 (A5u (Nat.lt_of_le_of_lt (Nat.add_le_add_left (by decide) _) HU) (pv 4) B0 (U2 A1z (U9 (A0 (D2h B7p A3) (A0 (B3 U1 A3 (B3 D8 (B3 G3 (pv 3) A3) A3)) (A0 (B3 U1 A3 (B3 D8 (B3 G3 (pv 3) A3) A3)) A7)))) (B3 D8 (pv 3) A3) (fun _ _ => rfl)) (by rfl)))
     (A6 (B8 (A5u (Nat.lt_of_le_of_lt (Nat.add_le_add_left (by decide) _) HU) (pv 4) B0 (U2 A1z (U9 (A0 A3 (A0 (B3 D8 (B3 G3 (pv 3) A3) A3) (A0 (B3 D8 (B3 G3 (pv 3) A3) A3) A7)))) (B3 D8 (B3 G3 (pv 3) A3) A3) (fun _ _ => rfl)) (by rfl)))
     (A6 (B8 (A5u (Nat.lt_of_le_of_lt (Nat.add_le_add_left (by decide) _) HU) (pv 4) B0 (B3 U3 (B3 U1 (J0 (Nat.lt_of_le_of_lt (Nat.add_le_add_left (by decide) _) HU) (pv 4) B0 (fun _ _ => rfl)) (J0 (Nat.lt_of_le_of_lt (Nat.add_le_add_left (by decide) _) HU) (pv 4) B0 (fun _ _ => rfl))) A3) (by rfl)))
     (A6 (B8 (D0 (i := 3) scLOwn.nd rfl (Or.inr rfl) (C8 D_l_mixed G_l_mixed hr hx (A0 (pv 0) (A0 A3 A7)))))
     (A6 (B8 (A5u (Nat.lt_of_le_of_lt (Nat.add_le_add_left (by decide) _) HU) (pv 4) B0 (G5a (N := ["_law_k"]) (F := ["_law_signals", "_law_more"]) (js := [2, 3]) (CompScopeF.of2 ⟨rfl, by decide +kernel, by decide +kernel, by decide +kernel, by decide +kernel⟩ (by rfl) (by rfl) ⟨_, by rfl⟩ (by rfl) (by rfl) (by rfl) ⟨_, by rfl⟩ (by rfl) (by rfl)) (.inl hr.hd) rfl (B2p rfl O.range_ (A0 A3 A7)) rfl (fun C s₀ H₀ ex pn h => V6 (i := 0) (by decide +kernel : (["_law_k", "_law_signals", "_law_more"] : List Str).Nodup) rfl (Or.inl rfl)) (fun C s₀ H₀ ex pn h => (PW.pt (A4g (C5 D5 (B3 D8 (pv 2) A3) A3 (B9 _)) (A2a (C5 D5 (B3 D8 (B3 G3 (pv 2) (B3 V2t A3 (pv 0))) A3) A3 (B9 _)))))) (fun C s₀ H₀ ex pn h => (U2 (G5x (K := K) rfl) (pv 1) (pv 0) (fun _ _ => rfl)))) (by rfl)))
     (A6 (B8 (A5u (Nat.lt_of_le_of_lt (Nat.add_le_add_left (by decide) _) HU) (pv 4) B0 (G5a (N := ["_law_k"]) (F := ["_law_signals", "_law_more"]) (js := [2, 3]) (CompScopeF.of2 ⟨rfl, by decide +kernel, by decide +kernel, by decide +kernel, by decide +kernel⟩ (by rfl) (by rfl) ⟨_, by rfl⟩ (by rfl) (by rfl) (by rfl) ⟨_, by rfl⟩ (by rfl) (by rfl)) (.inl hr.hd) rfl (B2p rfl O.range_ (A0 A3 A7)) rfl (fun C s₀ H₀ ex pn h => V6 (i := 0) (by decide +kernel : (["_law_k", "_law_signals", "_law_more"] : List Str).Nodup) rfl (Or.inl rfl)) (fun C s₀ H₀ ex pn h => (PW.pt (A4g (C5 D5 (B3 D8 (B3 G3 (pv 2) A3) A3) A3 (B9 _)) (A2a (C5 D5 (B3 D8 (B3 G3 (pv 2) (B3 V2t A3 (pv 0))) A3) A3 (B9 _)))))) (fun C s₀ H₀ ex pn h => (U2 (G5x (K := K) rfl) (pv 1) (pv 0) (fun _ _ => rfl)))) (by rfl)))
     (A9 (B7 (pv 4))))))))))))))), ?_⟩
   have z8 : 8 <= sizeLine := C6 (by decide)
   have z7 : 7 <= sizeLine := C6 (by decide)
   have z3 : 3 <= sizeLine := C6 (by decide)
   refine ⟨fun σ' H' => ∃ a1, Same H H' /\ H' a1 = some (.lst V1s) /\ σ' = [some (.int c), some (.ref a1), none, none, none], ⟨z8, fun a n => ⟨a, Same.upd n, A8, rfl⟩⟩, ?_⟩
   rintro σ' H1 ⟨a1, s1, e1, rfl⟩
   refine ⟨fun σ' H' => ∃ a2, Same H H' /\ H' a1 = some (.lst V1s) /\ H' a2 = some (.lst A4v) /\ σ' = [some (.int c), some (.ref a1), some (.ref a2), none, none], ⟨z7, fun a n => ⟨a, s1.trans (Same.upd n), (Same.upd n) _ _ e1, A8, rfl⟩⟩, ?_⟩
   rintro σ' H2 ⟨a2, s2, e1, e2, rfl⟩
   refine ⟨fun σ' H' => ∃ m : Int, H' = H2 /\ 0 <= m /\ σ' = [some (.int c), some (.ref a1), some (.ref a2), some (.int m), none], ⟨_, rfl, c, 30, rfl, by decide, by decide, fun m m0 _ => ⟨m, rfl, m0, rfl⟩⟩, ?_⟩
   rintro σ' H3 ⟨m, rfl, m0, rfl⟩
   refine ⟨fun σ' H' => ∃ d r y, Same H H' /\ H d = none /\ 1 <= r /\ r <= 24 /\ H' a2 = some (.lst A4v) /\ H' d = some (.dK [(.inr "room", .int r), (.inr "way", .str (Wy.name y))]) /\ σ' = [some (.int c), some (.ref a1), some (.ref a2), some (.int m), some (.ref d)], ?_, ?_⟩
   . intro d nd
     have ud := Same.upd (o := .dK []) nd
     have z8' : (0 : Int) < 8 := by decide
     obtain ⟨v, hv, ix⟩ := ixv (xs := V1s) (i := m / 6 % 8) (Int.emod_nonneg _ (by decide)) (by show m / 6 % 8 < 8; exact Int.emod_lt_of_pos _ z8')
     obtain ⟨y, _, rfl⟩ := List.mem_map.mp hv
     refine ⟨_, rfl, _, _, rfl, rfl, (by decide : (0 : Int) < 6), _, _, rfl, rfl, _, rfl, _, rfl, _, _, rfl, rfl, dv (n := 6) (by decide) (by decide +kernel), _, _, rfl, rfl, z8', a1, _, _, _, rfl, rfl, SqL.of (ud _ _ e1), ix, A8, [(.inr "room", .int (1 + m % 6)), (.inr "way", .str y.name)], rfl, by show 2 <= 15; decide, ?_⟩
     have xd : Exc d (upd H3 d (.dK [])) (upd (upd H3 d (.dK [])) d (.dK (A8s [] [(.inr "room", .int (1 + m % 6)), (.inr "way", .str y.name)]))) := Exc.upd
     have n2 : a2 ≠ d := C9 e2 nd
     refine ⟨d, 1 + m % 6, y, fun b o hb => ?_, s2.free nd, by omega, by omega, xd _ _ (ud _ _ e2) n2, by rw [put1]; exact A8, rfl⟩
     have q := s2 _ _ hb
     exact xd _ _ (ud _ _ q) (C9 q nd)
   rintro σ' H4 ⟨d, r, y, s4, nd, r1, r2, e2, ed, rfl⟩
   have nad : ∀ b o, H b = some o -> b ≠ d := fun b o hb => C9 hb nd
   have n2d : ∀ {G : Hp} {kvs : List (Key × V)}, G a2 = some (.lst A4v) -> G d = some (.dK kvs) -> a2 ≠ d := fun h1 h2 => J9 h1 h2 (by intro z; cases z)
   have keepS : ∀ {G : Hp} {u : HO}, Same H G -> Same H (upd G d u) := fun sm b o hb => by rw [C4 (nad b o hb)]; exact sm _ _ hb
   refine ⟨fun σ' H' => ∃ r, Same H H' /\ 1 <= r /\ r <= 24 /\ H' a2 = some (.lst A4v) /\ H' d = some (.dK [(.inr "room", .int r), (.inr "way", .str (Wy.name y))]) /\ σ' = [some (.int c), some (.ref a1), some (.ref a2), some (.int m), some (.ref d)], ?_, ?_⟩
   . refine ⟨_, rfl, _, _, rfl, rfl, dv (n := 48) (by decide) (by decide +kernel), _, _, rfl, rfl, (by decide : (0 : Int) < 4), rfl, _, rfl, G8 (fun _ => ?_) (fun _ => ⟨r, s4, r1, r2, e2, ed, rfl⟩)⟩
     refine ⟨_, ?_, fun _ _ h => h⟩
     refine ⟨_, rfl, _, _, rfl, rfl, dv (n := 192) (by decide) (by decide +kernel), _, _, rfl, rfl, (by decide : (0 : Int) < 24), _, _, rfl, rfl, _, rfl, d, _, rfl, DPut.k (k := .inr "room") ed (U8 (by show 2 <= 1000; decide)), ?_⟩
     exact ⟨1 + m / 192 % 24, keepS s4, by omega, by omega, by rw [C4 (n2d e2 ed)]; exact e2, by rw [put2]; exact A8, rfl⟩
   rintro σ' H5 ⟨r, s5, r1, r2, e2, ed, rfl⟩
   refine ⟨fun σ' H' => ∃ m : Int, H' = H5 /\ 0 <= m /\ σ' = [some (.int c), some (.ref a1), some (.ref a2), some (.int m), some (.ref d)], ⟨_, rfl, c, 31, rfl, by decide, by decide, fun m m0 _ => ⟨m, rfl, m0, rfl⟩⟩, ?_⟩
   rintro σ' H6 ⟨m2, rfl, q0, rfl⟩
   refine ⟨fun σ' H' => ∃ l : Int, Same H H' /\ -60 <= l /\ l <= 0 /\ H' a2 = some (.lst A4v) /\ H' d = some (.dK [(.inr "room", .int r), (.inr "way", .str (Wy.name y)), (.inr "least", .int l)]) /\ σ' = [some (.int c), some (.ref a1), some (.ref a2), some (.int m2), some (.ref d)], ?_, ?_⟩
   . obtain ⟨l, hl, ix⟩ := at3 (-60) (0 - m2 / 9 % 8) (0 - m2 / 9 % 61) m2
     refine ⟨_, rfl, _, rfl, _, _, rfl, rfl, dv (n := 9) (by decide) (by decide +kernel), _, _, rfl, rfl, (by decide : (0 : Int) < 8), _, _, rfl, rfl, _, rfl, _, _, rfl, rfl, dv (n := 9) (by decide) (by decide +kernel), _, _, rfl, rfl, (by decide : (0 : Int) < 61), _, _, rfl, rfl, z3, fun p np => ?_⟩
     have up := Same.upd (o := .lst [.int (-60), .int (0 - m2 / 9 % 8), .int (0 - m2 / 9 % 61)]) np
     have ed' := up _ _ ed
     have e2' := up _ _ e2
     refine ⟨_, rfl, _, _, rfl, rfl, (by decide : (0 : Int) < 3), p, _, _, _, rfl, rfl, SqL.of A8, ix, _, rfl, d, _, rfl, DPut.k (k := .inr "least") ed' (U8 (by show 2 <= 1000; decide)), ?_⟩
     exact ⟨l, keepS (s5.trans up), by omega, by omega, by rw [C4 (n2d e2' ed')]; exact e2', by rw [put3]; exact A8, rfl⟩
   rintro σ' H7 ⟨l, s7, l1, l2, e2, ed, rfl⟩
   refine ⟨fun σ' H' => ∃ mo : Int, Same H H' /\ 0 <= mo /\ mo <= 60 /\ H' a2 = some (.lst A4v) /\ H' d = some (.dK [(.inr "room", .int r), (.inr "way", .str (Wy.name y)), (.inr "least", .int l), (.inr "most", .int mo)]) /\ σ' = [some (.int c), some (.ref a1), some (.ref a2), some (.int m2), some (.ref d)], ?_, ?_⟩
   . obtain ⟨mo, hl, ix⟩ := at3 60 (m2 / 600 % 8) (m2 / 600 % 61) (m2 / 3)
     refine ⟨_, rfl, _, _, rfl, rfl, dv (n := 600) (by decide) (by decide +kernel), _, _, rfl, rfl, (by decide : (0 : Int) < 8), _, rfl, _, _, rfl, rfl, dv (n := 600) (by decide) (by decide +kernel), _, _, rfl, rfl, (by decide : (0 : Int) < 61), z3, fun p np => ?_⟩
     have up := Same.upd (o := .lst [.int 60, .int (m2 / 600 % 8), .int (m2 / 600 % 61)]) np
     have ed' := up _ _ ed
     have e2' := up _ _ e2
     refine ⟨_, rfl, _, _, rfl, rfl, dv (n := 3) (by decide) (by decide +kernel), _, _, rfl, rfl, (by decide : (0 : Int) < 3), p, _, _, _, rfl, rfl, SqL.of A8, ix, _, rfl, d, _, rfl, DPut.k (k := .inr "most") ed' (U8 (by show 3 <= 1000; decide)), ?_⟩
     exact ⟨mo, keepS (s7.trans up), by omega, by omega, by rw [C4 (n2d e2' ed')]; exact e2', by rw [put4]; exact A8, rfl⟩
   rintro σ' H8 ⟨mo, s8, m1, m2', e2, ed, rfl⟩
   refine ⟨fun σ' H' => Same H H' /\ H' a2 = some (.lst A4v) /\ H' d = some (.dK (k5 r y l mo)) /\ σ' = [some (.int c), some (.ref a1), some (.ref a2), some (.int m2), some (.ref d)], ?_, ?_⟩
   . have g1 : DGet H8 d (.str "least") (some (.int l)) := DGet.k (k := .inr "least") ed
     have g2 : DGet H8 d (.str "room") (some (.int r)) := DGet.k (k := .inr "room") ed
     refine ⟨_, rfl, d, _, rfl, g1, _, rfl, d, _, rfl, g2, _, _, rfl, rfl, _, _, rfl, rfl, _, rfl, d, _, rfl, DPut.k (k := .inr "lowest") ed (U8 (by show 4 <= 1000; decide)), ?_⟩
     exact ⟨keepS s8, by rw [C4 (n2d e2 ed)]; exact e2, by rw [put5]; exact A8, rfl⟩
   rintro σ' H9 ⟨s9, e2, ed, rfl⟩
   refine ⟨fun σ' H' => ∃ m : Int, H' = H9 /\ 0 <= m /\ σ' = [some (.int c), some (.ref a1), some (.ref a2), some (.int m), some (.ref d)], ⟨_, rfl, c, 32, rfl, by decide, by decide, fun m m0 _ => ⟨m, rfl, m0, rfl⟩⟩, ?_⟩
   rintro σ' H10 ⟨m3, rfl, q3, rfl⟩
   refine ⟨fun σ' H' => ∃ u up, Same H H' /\ H u = none /\ SubS up /\ H' a2 = some (.lst A4v) /\ H' u = some (.lst (up.map V.str)) /\ H' d = some (.dK (k5 r y l mo ++ [(.inr "up", .ref u)])) /\ σ' = [some (.int c), some (.ref a1), some (.ref a2), some (.int m3), some (.ref d)], ?_, ?_⟩
   . refine ⟨7, rfl, by decide, by decide, G5g (J := Itr 0 7) (n := 7) (fun i => decide (m3 % 3 = 1) && decide (m3 / (3 * 2 ^ ((0 : Int) + (i : Int)).toNat) % 2 = 1)) (fun i y _ => A4v[i]? = some y) (by decide) (fun _ _ _ _ _ _ h _ _ => h) (fun i H2 Qy Qn hi sm hy hn => ⟨hi, fun x H3 yl => ?_⟩) (fun H2 sm => Nat.le_refl _) (fun D' H' ys sm nD eD hlen hR => ?_)⟩
     . obtain ⟨rfl, rfl⟩ := yl
       refine ⟨_, rfl, _, _, rfl, rfl, (by decide : (0 : Int) < 3), rfl, _, rfl, G8 (fun h1 => ?_) (fun h1 => ?_)⟩
       . have h1 : m3 % 3 = 1 := V.int.inj h1
         refine ⟨_, rfl, _, rfl, _, _, rfl, rfl, ⟨by show 0 <= (0 : Int) + i; omega, by show (0 : Int) + i <= 1000000; omega, by decide⟩, _, _, rfl, rfl, sh3 i hi, _, _, rfl, rfl, (by decide : (0 : Int) < 2), rfl, _, rfl, G8 (fun h2 => ?_) (fun h2 => ?_)⟩
         . have h2 : m3 / (3 * 2 ^ ((0 : Int) + (i : Int)).toNat) % 2 = 1 := V.int.inj h2
           exact ⟨_, rfl, _, rfl, a2, _, _, _, rfl, rfl, SqL.of (sm _ _ e2), U2s hi, hy (by rw [decide_eq_true h1, decide_eq_true h2]; rfl) _ _ (Same.refl _) (D5k i hi)⟩
         . have h2 : ¬ m3 / (3 * 2 ^ ((0 : Int) + (i : Int)).toNat) % 2 = 1 := fun e => h2 (congrArg V.int e)
           exact hn (by rw [decide_eq_false h2, Bool.and_false]) _ (Same.refl _)
       . have h1 : ¬ m3 % 3 = 1 := fun e => h1 (congrArg V.int e)
         exact G7 (hn (by rw [decide_eq_false h1]; rfl) _ (Same.refl _))
     . obtain ⟨zs, hz, rfl⟩ : ∃ zs, SubS zs /\ ys = zs.map V.str := ⟨_, G4u _, U2g hlen hR⟩
       have ed' := sm _ _ ed
       have e2' := sm _ _ e2
       have nDd : D' ≠ d := Ne.symm (C9 ed nD)
       refine ⟨_, rfl, d, _, rfl, DPut.k (k := .inr "up") ed' (U8 (by show 5 <= 1000; decide)), ?_⟩
       refine ⟨D', zs, keepS (s9.trans sm), s9.free nD, hz, by rw [C4 (n2d e2' ed')]; exact e2', ?_, by rw [put6]; exact A8, rfl⟩
       rw [C4 nDd, eD]
   rintro σ' H11 ⟨u, up, s11, nu, su, e2, eu, ed, rfl⟩
   refine ⟨fun σ' H' => ∃ t tr, Same H H' /\ H t = none /\ SubS tr /\ OwnAt H' d u t r y l mo up tr /\ σ' = [some (.int c), some (.ref a1), some (.ref a2), some (.int m3), some (.ref d)], ?_, ?_⟩
   . refine ⟨7, rfl, by decide, by decide, G5g (J := Itr 0 7) (n := 7) (fun i => decide (m3 / 400 % 3 = 1) && decide (m3 / (1200 * 2 ^ ((0 : Int) + (i : Int)).toNat) % 2 = 1)) (fun i y _ => A4v[i]? = some y) (by decide) (fun _ _ _ _ _ _ h _ _ => h) (fun i H2 Qy Qn hi sm hy hn => ⟨hi, fun x H3 yl => ?_⟩) (fun H2 sm => Nat.le_refl _) (fun D' H' ys sm nD eD hlen hR => ?_)⟩
     . obtain ⟨rfl, rfl⟩ := yl
       refine ⟨_, rfl, _, _, rfl, rfl, dv (n := 400) (by decide) (by decide +kernel), _, _, rfl, rfl, (by decide : (0 : Int) < 3), rfl, _, rfl, G8 (fun h1 => ?_) (fun h1 => ?_)⟩
       . have h1 : m3 / 400 % 3 = 1 := V.int.inj h1
         refine ⟨_, rfl, _, rfl, _, _, rfl, rfl, ⟨by show 0 <= (0 : Int) + i; omega, by show (0 : Int) + i <= 1000000; omega, by decide⟩, _, _, rfl, rfl, Z2z i hi, _, _, rfl, rfl, (by decide : (0 : Int) < 2), rfl, _, rfl, G8 (fun h2 => ?_) (fun h2 => ?_)⟩
         . have h2 : m3 / (1200 * 2 ^ ((0 : Int) + (i : Int)).toNat) % 2 = 1 := V.int.inj h2
           exact ⟨_, rfl, _, rfl, a2, _, _, _, rfl, rfl, SqL.of (sm _ _ e2), U2s hi, hy (by rw [decide_eq_true h1, decide_eq_true h2]; rfl) _ _ (Same.refl _) (D5k i hi)⟩
         . have h2 : ¬ m3 / (1200 * 2 ^ ((0 : Int) + (i : Int)).toNat) % 2 = 1 := fun e => h2 (congrArg V.int e)
           exact hn (by rw [decide_eq_false h2, Bool.and_false]) _ (Same.refl _)
       . have h1 : ¬ m3 / 400 % 3 = 1 := fun e => h1 (congrArg V.int e)
         exact G7 (hn (by rw [decide_eq_false h1]; rfl) _ (Same.refl _))
     . obtain ⟨zs, hz, rfl⟩ : ∃ zs, SubS zs /\ ys = zs.map V.str := ⟨_, G4u _, U2g hlen hR⟩
       have ed' := sm _ _ ed
       have eu' := sm _ _ eu
       have nDd : D' ≠ d := Ne.symm (C9 ed nD)
       have nud : u ≠ d := J9 eu ed (by intro z; cases z)
       refine ⟨_, rfl, d, _, rfl, DPut.k (k := .inr "trapped") ed' (U8 (by show 6 <= 1000; decide)), ?_⟩
       refine ⟨D', zs, keepS (s11.trans sm), s11.free nD, hz, ⟨by rw [put7]; exact A8, by rw [C4 nud]; exact eu', ?_⟩, rfl⟩
       rw [C4 nDd, eD]
   rintro σ' H12 ⟨t, tr, s12, nt, st, own, rfl⟩
   exact ⟨_, rfl, k d u t r y l mo up tr H12 s12 nd nu nt ⟨r1, r2, l1, l2, m1, m2'⟩ su st own⟩
end
abbrev A0s : Stmt := (top 66)
section
variable {P : Program} {w : World} {K : Frag} {mg : Str -> Option Value} {base : Heap}
theorem OwnAt.exc {H H' : Hp} {d u t p : Addr} {r l m : Int} {y : Wy} {up tr : List Str} (h : OwnAt H d u t r y l m up tr) (x : Exc p H H') (h1 : d ≠ p) (h2 : u ≠ p) (h3 : t ≠ p) : OwnAt H' d u t r y l m up tr := ⟨x _ _ h.d h1, x _ _ h.u h2, x _ _ h.t h3⟩
theorem OwnAt.gRoom {H : Hp} {d u t : Addr} {r l m : Int} {y : Wy} {up tr : List Str} (h : OwnAt H d u t r y l m up tr) : DGet H d (.str "room") (some (.int r)) := DGet.k (k := .inr "room") h.d
theorem OwnAt.gWay {H : Hp} {d u t : Addr} {r l m : Int} {y : Wy} {up tr : List Str} (h : OwnAt H d u t r y l m up tr) : DGet H d (.str "way") (some (.str y.name)) := DGet.k (k := .inr "way") h.d
theorem OwnAt.gLeast {H : Hp} {d u t : Addr} {r l m : Int} {y : Wy} {up tr : List Str} (h : OwnAt H d u t r y l m up tr) : DGet H d (.str "least") (some (.int l)) := DGet.k (k := .inr "least") h.d
theorem OwnAt.gMost {H : Hp} {d u t : Addr} {r l m : Int} {y : Wy} {up tr : List Str} (h : OwnAt H d u t r y l m up tr) : DGet H d (.str "most") (some (.int m)) := DGet.k (k := .inr "most") h.d
theorem OwnAt.gLowest {H : Hp} {d u t : Addr} {r l m : Int} {y : Wy} {up tr : List Str} (h : OwnAt H d u t r y l m up tr) : DGet H d (.str "lowest") (some (.int (l - r + 1))) := DGet.k (k := .inr "lowest") h.d
theorem OwnAt.gUp {H : Hp} {d u t : Addr} {r l m : Int} {y : Wy} {up tr : List Str} (h : OwnAt H d u t r y l m up tr) : DGet H d (.str "up") (some (.ref u)) := DGet.k (k := .inr "up") h.d
theorem OwnAt.gTr {H : Hp} {d u t : Addr} {r l m : Int} {y : Wy} {up tr : List Str} (h : OwnAt H d u t r y l m up tr) : DGet H d (.str "trapped") (some (.ref t)) := DGet.k (k := .inr "trapped") h.d
def C4x (CC : Addr) : Sp := fun vs H Q _ => ∃ d u t r y l m up tr, vs = [.ref d] /\ OwnAt H d u t r y l m up tr /\ FrameOk r l m /\ SubS up /\ SubS tr /\ ∀ c a b H', Same H H' -> H c = none -> CtxAt CC H' c r y l m a b (up.map V.str) (tr.map V.str) -> Q (.ref c) H'
theorem scLContext : FnScope ["_law_own_here", "_law_context_here"] ["_law_own_here"] (A1 A0s) := scK
theorem G6e {f CC CB CT fI : Addr} {fd fdI : FuncData} (D : Def K mg "_law_context" ["_law_own_here"] A0s f fd) (M : MakeC P w K mg base CC CB fI fdI) (b4 : Binds K fdI ["self", "room", "way", "least", "most"] []) (C : CtxC K mg CC) (MD : Has P w K mg base CC "raised" 3 ["self", "names"] (B5z K CC CB CT)) (MT : Has P w K mg base CC "trap" 2 ["self", "names"] (J2c K CC CB)) (O : Own mg) :
   FnOk P w K mg base (CX1 P w) 5 f fd ["_law_own_here"] (C4x CC) := by
 refine D.F.okE scLContext (fun vs H Q E h => ?_) (fun X cdv A outer s H vs Q E hX hr hx h => ?_)
 . obtain ⟨d, u, t, r, y, l, m, up, tr, rfl, _⟩ := h
   rfl
 . subst hX
   obtain ⟨d, u, t, r, y, l, m, up, tr, rfl, ow, fr, su, st, k⟩ := h
   obtain ⟨fr', fdr, mr, gr, br⟩ := MD
   obtain ⟨ft, fdt, mt, gt, bt⟩ := MT
   have HU := hr.units
   refine ⟨_, (A6 (B8 (D0 (i := 1) scLContext.nd rfl (Or.inl rfl) (B5t M.m M.g hr C.g b4 .nil hx (A0 (J0 (Nat.lt_of_le_of_lt (Nat.add_le_add_left (by decide) _) HU) (pv 0) B0 (fun _ _ => rfl)) (A0 (J0 (Nat.lt_of_le_of_lt (Nat.add_le_add_left (by decide) _) HU) (pv 0) B0 (fun _ _ => rfl)) (A0 (J0 (Nat.lt_of_le_of_lt (Nat.add_le_add_left (by decide) _) HU) (pv 0) B0 (fun _ _ => rfl)) (A0 (J0 (Nat.lt_of_le_of_lt (Nat.add_le_add_left (by decide) _) HU) (pv 0) B0 (fun _ _ => rfl)) A7)))))))
     (A6 (B8 (Y8 (B6m (pv 1) C.cl mr gr hr br .nil hx (A0 (V4 A6c (by rfl) O.list_ boot_list (A0 (J0 (Nat.lt_of_le_of_lt (Nat.add_le_add_left (by decide) _) HU) (pv 0) B0 (fun _ _ => rfl)) A7)) A7))))
     (A6 (B8 (Y8 (B6m (pv 1) C.cl mt gt hr bt .nil hx (A0 (Z3c (J0 (Nat.lt_of_le_of_lt (Nat.add_le_add_left (by decide) _) HU) (pv 0) B0 (fun _ _ => rfl)) (D2h B7p A3)) A7))))
     (A9 (B7 (pv 1)))))), ?_⟩
   refine ⟨fun σ' H' => ∃ c a b, Same H H' /\ H c = none /\ CtxAt CC H' c r y l m a b [] [] /\ σ' = [some (.ref d), some (.ref c)], ?_, ?_⟩
   . refine ⟨_, rfl, d, _, rfl, ow.gRoom, _, rfl, d, _, rfl, ow.gWay, _, rfl, d, _, rfl, ow.gLeast, _, rfl, d, _, rfl, ow.gMost, fun x dx n1 n2 ne => ?_⟩
     exact Z9q n1 n2 ne rfl fr.r1 fr.r2 rfl (.inr ⟨rfl, fr.l1, fr.l2⟩) rfl fr.m1 fr.m2 fun a b H4 s4 hc => ⟨rfl, x, a, b, s4, n1, hc, rfl⟩
   rintro σ' H1 ⟨c, a, b, s1, nc, hc, rfl⟩
   refine ⟨fun σ' H' => ∃ a, Same H H' /\ CtxAt CC H' c r y l m a b (up.map V.str) [] /\ σ' = [some (.ref d), some (.ref c)], ?_, ?_⟩
   . obtain ⟨dx, e⟩ := hc.ins
     have ow1 := ow.same s1
     refine ⟨_, rfl, c, dx, _, rfl, e, A4h _ _ _ _ _ _, _, rfl, d, _, rfl, ow1.gUp, u, _, rfl, .inl (SqL.of ow1.u), fun p np => ?_⟩
     have uq := Same.upd (o := .lst (up.map V.str)) np
     refine ⟨c, r, y, l, m, a, b, [], [], _, rfl, hc.same uq, by show 0 + 100 <= 1000; decide, .inl ⟨p, up, rfl, A8, Nat.le_trans su.len (by decide), su.mem, fun _ a' H2 x2 na c2 => ⟨a', fun q o hq => ?_, ?_, rfl⟩, fun t ht => by cases ht⟩⟩
     . exact x2 _ _ (uq _ _ (s1 _ _ hq)) (C9 hq nc)
     . have := C4f (ws := [] ++ up) su (fun z => by simp)
       rw [this] at c2
       exact c2
   rintro σ' H2 ⟨a, s2, hc2, rfl⟩
   refine ⟨fun σ' H' => ∃ b, Same H H' /\ CtxAt CC H' c r y l m a b (up.map V.str) (tr.map V.str) /\ σ' = [some (.ref d), some (.ref c)], ?_, ?_⟩
   . obtain ⟨dx, e⟩ := hc2.ins
     have ow1 := ow.same s2
     refine ⟨_, rfl, c, dx, _, rfl, e, G5z _ _ _ _ _ _, _, rfl, d, _, rfl, ow1.gTr, _, rfl, rfl, t, _, rfl, SqL.of ow1.t, fun p np => ?_⟩
     have uq := Same.upd (o := .lst (tr.map V.str).reverse) np
     refine ⟨c, r, y, l, m, a, b, _, _, _, rfl, hc2.same uq, .inl ⟨p, tr.reverse, rfl, by rw [List.map_reverse]; exact A8, fun z hz => st.mem z (List.mem_reverse.mp hz), fun b' H3 x3 nb c3 => ⟨b', fun q o hq => ?_, ?_, rfl⟩⟩⟩
     . exact x3 _ _ (uq _ _ (s2 _ _ hq)) (C9 hq nc)
     . rw [C4f (ws := tr.reverse) st (fun z => List.mem_reverse)] at c3
       exact c3
   rintro σ' H3 ⟨b, s3, hc3, rfl⟩
   exact ⟨_, rfl, k c a b H3 s3 nc hc3⟩
end
abbrev A6b : Stmt := (top 73)
structure CaughtU (K : Frag) (mg : Str -> Option Value) (CT : Addr) : Prop where
 gT : mg "Trapped" = some (.ref CT)
 c : Clause K CT
 sub : subIn K (.ref CT) (.ref CT) = some true
 k : ExcK K CT
 dict : ∃ cd, clsIn K CT = some cd /\ cd.hasDict = true
 nosig : findIn K (.ref CT) "signal" = some none
section
variable {P : Program} {w : World} {K : Frag} {mg : Str -> Option Value} {base : Heap}
theorem V0s {X : Cx} {e : Expr} {f : Str} {pos : Pos} {ta : TE} (hK : X.K = K) (he : PE X e ta) (hb : attributeBase e f X.env (eval e X.env) = eval e X.env) : PE X (.Attribute e f pos) (Z1u K ta f) := by
 subst hK
 exact Y7y he hb
theorem V1q {X : Cx} {k : Nat} {EH : EK} {x : Str} {p pos : Pos} {i : Nat} (hx : D6 X EH) (hr : Room k X.A) (hN : X.N[i]? = some x) (hv : Vis X.env.scope x) (e1 : X.prog = P) (e2 : X.w = w) (e3 : X.K = K) (e4 : X.mg = mg) (e5 : X.base = base) (hex : X.ex = [] := by rfl) (hd : (x == ("__debug__" : Str)) = false := by decide) (hcd : (x == ("__classdict__" : Str)) = false := by decide) :
   PE X (.Call (.Name x p) [] [] pos) (Z1r P w K mg base k i EH) := by
 subst e1 e2 e3 e4 e5
 exact Y7c hN hv hr hx hex hd hcd
def Z7b (CN : Addr) (Q : VK) : VK := fun v H1 => ∃ n x, v = .ref n /\ NumIs CN H1 n x /\ ∀ t, H1 t = none -> Q (.ref t) (upd H1 t (.tup (Nm.vs x)))
def Z7f (CT : Addr) (Q : VK) : XK := fun C dd H1 => ∃ d sg, C = .ref CT /\ dd = some d /\ H1 d = some (.xd [("signal", .str sg)]) /\ ∀ t H2, Same H1 H2 -> H1 t = none -> H2 t = some (.tup [.str "trapped", .str sg]) -> Q (.ref t) H2
def G6n (P : Program) (w : World) (K : Frag) (mg : Str -> Option Value) (base : Heap) (k : Nat) (CN CT : Addr) : Sp := fun vs H Q _ => ∃ f J spd, vs = [.ref f] /\ DeedOk P w K mg base k f J spd /\ J H /\
 ∀ (Qd : VK) (Ed : XK), (∀ v H1, Z7b CN Q v H1 -> Qd v H1) -> (∀ C dd H1, Z7f CT Q C dd H1 -> Ed C dd H1) -> spd H Qd Ed
theorem scLTried : FnScope ["_law_deed", "error"] ["_law_deed"] (A1 A6b) := scK
theorem U4b {k : Nat} {f f1 CN CB CT : Addr} {fd fd1 : FuncData} (hk : 2 <= k) (D : Def K mg "_law_tried" ["_law_deed"] A6b f fd) (D_told : Def K mg "told" ["number"] C2j f1 fd1) (G_told : FnOk P w K mg base (CX1 P w) 2 f1 fd1 ["number"] (J0j K CN CB)) (R : CaughtU K mg CT) :
   FnOk P w K mg base (CX1 P w) (k + 1) f fd ["_law_deed"] (G6n P w K mg base k CN CT) := by
 refine D.F.okE scLTried (fun vs H Q E h => ?_) (fun X cdv A outer s H vs Q E hX hr hx h => ?_)
 . obtain ⟨f, J, spd, rfl, _⟩ := h
   rfl
 . subst hX
   obtain ⟨g, J, spd, rfl, DO, hJ, h⟩ := h
   have z2 : 2 <= sizeLine := C6 (by decide)
   refine ⟨_, (A9 (Z3a ⟨rfl, rfl, rfl⟩ (by rfl) R.gT R.c scLTried.nd (i := 1) rfl rfl (fun pins Ew EHb hc => (A9 (B7 (C8 (hj := hk) D_told G_told hr hc (A0 (V1q (P := P) (w := w) (K := K) (mg := mg) (base := base) (i := 0) hc hr rfl (.inl rfl) rfl rfl rfl rfl rfl) A7))))) (fun pins a => (A9 (B7 (V1 (A0 B0 (A0 (V0s (K := K) rfl (pv 1) rfl) A7)))))))), ?_⟩
   refine ⟨g, J, _, rfl, DO, hJ, h _ _ (fun v H1 ⟨n, x, ev, num, k⟩ => ?_) (fun C dd H1 ⟨d, sg, eC, ed, e, k⟩ => ?_)⟩
   . subst ev
     exact ⟨_, rfl, .inl ⟨n, _, _, _, _, rfl, num, k⟩⟩
   . subst eC ed
     refine ⟨R.sub, fun a t T na => ?_⟩
     have u := Same.upd (o := .frz (Z5 (.ref CT) t (some d) (.ref T)) (.own a)) na
     have u2 : ∀ p, upd H1 a (.frz (Z5 (.ref CT) t (some d) (.ref T)) (.own a)) p = none -> H1 p = none := fun p np => u.free np
     refine ⟨_, rfl, a, CT, _, _, d, _, _, _, rfl, A8, u _ _ e, R.k, R.dict, R.nosig, rfl, z2, fun p np => ?_⟩
     exact k p _ (u.trans (Same.upd np)) (u2 p np) A8
end
def A6g (k : Str) (s f p : Int) : PyData := .tuple [.str k, .int s, .int f, .int p]
theorem shD {k : Str} (s f p : Int) (h : PyData.strOk k = true) : SeqAt.shaped (A6g k s f p) = true := by
 unfold SeqAt.shaped A6g
 simp [PyData.canLay0, PyData.canLayAll0, PyData.depth, PyData.depthAll, h]
theorem eqD (k : Str) (s f p : Int) : PyData.eqv (A6g k s f p) (A6g k s f p) = true := by
 simp [A6g, PyData.eqv, PyData.eqvAll]
theorem rdD {K : Frag} {H : Hp} {d : Addr} {k : Str} {s f p : Int} (h : H d = some (.tup [.str k, .int s, .int f, .int p])) : RdD K H (.ref d) (A6g k s f p) := .tup (SqT.of h) (.cons (.str _) (.cons (.int _) (.cons (.int _) (.cons (.int _) .nil))))
theorem okK (k : Kd) : PyData.strOk k.str = true := by cases k <;> decide +kernel
def B7k (d : PyData) : Prop := d.showable = true /\ d.depth <= 2 /\ d.shown.length <= 100
theorem D3j : ∀ ds : List PyData, PyData.shownAll ds = ds.map PyData.shown
 | [] => by simp [PyData.shownAll]
 | d :: ds => by simp [PyData.shownAll, D3j ds]
theorem A8u : ∀ {ds : List PyData}, (∀ d ∈ ds, B7k d) -> PyData.showableAll ds = true /\ PyData.depthAll ds <= 3
 | [], _ => by simp [PyData.showableAll, PyData.depthAll]
 | d :: ds, h => by
   obtain ⟨a, b⟩ := A8u (ds := ds) fun d' h' => h d' (List.mem_cons_of_mem _ h')
   obtain ⟨c, e, _⟩ := h d List.mem_cons_self
   constructor
   . simp [PyData.showableAll, a, c]
   . simp only [PyData.depthAll]
     omega
theorem Z2q {ds : List PyData} (h : ∀ d ∈ ds, B7k d) : ((ds.map PyData.shown).map (fun x => x.length)).sum <= 100 * ds.length := by
 induction ds with
 | nil => simp
 | cons d ds ih =>
   have := ih fun d' h' => h d' (List.mem_cons_of_mem _ h')
   have := (h d List.mem_cons_self).2.2
   simp only [List.map_cons, List.sum_cons, List.length_cons]
   omega
theorem V3p {ds : List PyData} (h : ∀ d ∈ ds, B7k d) (hl : ds.length <= 5) : Z9 (.tuple ds) := by
 obtain ⟨a, b⟩ := A8u h
 refine ⟨by simpa [PyData.showable] using a, by simp only [PyData.depth]; omega, ?_⟩
 have h1 := tupleText_len_le (ds.map PyData.shown)
 have h2 := Z2q h
 rw [PyData.shown, D3j]
 refine C6 ?_
 rw [List.length_map] at h1
 omega
theorem D3c {i : Int} (h : i.natAbs < 10 ^ 61) : B7k (.int i) := by
 refine ⟨?_, by simp [PyData.depth], ?_⟩
 . simp only [PyData.showable, decide_eq_true_eq]
   have h0 : i.natAbs < 2 ^ 300 := Nat.lt_of_lt_of_le h (by decide +kernel)
   have h1 := Nat.log2_lt (n := i.natAbs) (k := 300)
   by_cases z : i.natAbs = 0
   . rw [z]; decide +kernel
   . exact Nat.lt_trans ((h1 z).mpr h0) (by decide)
 . have := int_text_length_le10 (a := i) (k := 61) (by decide) h
   simp only [PyData.shown]
   rw [PySem.ofString_length]
   omega
theorem Z1j (k : Kd) : B7k (.str k.str) := by
 cases k <;> exact ⟨by simp [PyData.showable], by simp [PyData.depth], by decide +kernel⟩
theorem Z9m {z : Str} (h : z ∈ sigS) : B7k (.str z) := by
 have : ∀ z ∈ sigS, (PyData.shown (.str z)).length <= 100 := by decide +kernel
 exact ⟨by simp [PyData.showable], by simp [PyData.depth], this z h⟩
theorem Z1q {x : Nm} (ok : x.Ok) : Z9 (A6g x.k.str x.s x.f x.p) := V3p (fun d hd => by
 have h60 : (10 : Int) ^ 60 < 10 ^ 61 := by decide +kernel
 have q1 := ok.s0; have q2 := ok.s1; have q3 := ok.f0; have q4 := ok.f1; have q5 := ok.p0; have q6 := ok.p1
 simp only [List.mem_cons, List.not_mem_nil, or_false] at hd
 rcases hd with rfl | rfl | rfl | rfl
 . exact Z1j _
 . exact D3c (Nat.lt_of_le_of_lt (by omega : x.s.natAbs <= 1) (by decide +kernel))
 . exact D3c (Nat.lt_of_lt_of_le (by omega : x.f.natAbs < 10 ^ 60) (by decide +kernel))
 . exact D3c (Nat.lt_of_le_of_lt (by omega : x.p.natAbs <= 200) (by decide +kernel))) (by show 4 <= 5; decide)
theorem Z9a {x : Nm} (h1 : x.s.natAbs < 10 ^ 61) (h2 : x.f.natAbs < 10 ^ 61) (h3 : x.p.natAbs < 10 ^ 61) : Z9 (A6g x.k.str x.s x.f x.p) := V3p (fun d hd => by
 simp only [List.mem_cons, List.not_mem_nil, or_false] at hd
 rcases hd with rfl | rfl | rfl | rfl
 . exact Z1j _
 . exact D3c h1
 . exact D3c h2
 . exact D3c h3) (by show 4 <= 5; decide)
theorem Z3b {z : Str} (h : z ∈ sigS) : Z9 (.tuple [.str "trapped", .str z]) := V3p (fun d hd => by
 simp only [List.mem_cons, List.not_mem_nil, or_false] at hd
 rcases hd with rfl | rfl
 . exact ⟨by simp [PyData.showable], by simp [PyData.depth], by decide +kernel⟩
 . exact Z9m h) (by show 2 <= 5; decide)
abbrev A2z : Stmt := (top 74)
def Exc2 (c d : Addr) (H H' : Hp) : Prop := ∀ b o, H b = some o -> b ≠ c -> b ≠ d -> H' b = some o
theorem Exc2.trans {c d : Addr} {H H1 H2 : Hp} (a : Exc2 c d H H1) (b : Exc2 c d H1 H2) : Exc2 c d H H2 := fun x o h n m => b x o (a x o h n m) n m
theorem Exc2.l {c d : Addr} {H H' : Hp} (a : Exc c H H') : Exc2 c d H H' := fun x o h n _ => a x o h n
theorem Exc2.r {c d : Addr} {H H' : Hp} (a : Exc d H H') : Exc2 c d H H' := fun x o h _ n => a x o h n
theorem Exc2.s {c d : Addr} {H H' : Hp} (a : Same H H') : Exc2 c d H H' := fun x o h _ _ => a x o h
theorem CtxAt.exc {CC c a b p : Addr} {H H' : Hp} {r l m : Int} {y : Wy} {xs ys : List V} (h : CtxAt CC H c r y l m a b xs ys) (x : Exc p H H') (h1 : c ≠ p) (h2 : a ≠ p) (h3 : b ≠ p) : CtxAt CC H' c r y l m a b xs ys := by
 obtain ⟨⟨dx, e⟩, ha, hb⟩ := h
 exact ⟨⟨dx, x _ _ e h1⟩, x _ _ ha h2, x _ _ hb h3⟩
theorem Z2t (up zs : List Str) : (sigS.filter fun z => up.contains z || (V3 zs).contains z) = V3 (up ++ zs) := by
 unfold V3
 refine List.filter_congr fun z hz => ?_
 rw [Bool.eq_iff_iff]
 simp [List.mem_filter, hz]
theorem J2m {tr zs : List Str} (h : SubS tr) : ((V3 zs).filter fun z => tr.contains z).head? = hit tr zs := by
 obtain ⟨p, rfl⟩ := h
 unfold hit V3
 rw [<- List.head?_filter, List.filter_filter, List.filter_filter]
 congr 1
 refine List.filter_congr fun z hz => ?_
 rw [Bool.eq_iff_iff]
 simp [List.mem_filter, hz]
 exact And.comm
theorem Y8g (z : Str) (zs : List Str) : PyData.eqv (rdS (z :: zs)) (rdS []) = false := by
 simp [rdS, PyData.eqv, PyData.eqvAll]
theorem U5b {K : Frag} {H : Hp} {σ σf : L2.St} {a : Addr} {zs : List Str} {f : Str -> Bool} {tc : TT} {te : TE} {Q : VK} {i : Nat} (hi : σ[i]? = some (some (.ref a))) (hl : SqL K H a (zs.map V.str)) (hz : zs.length <= 100)
   (ht : ∀ (z : Str) (H' : Hp) (Qb : Bool -> Hp -> Prop), Same H H' -> Qb (f z) H' -> tc (some (.str z) :: σf) H' Qb) (he : ∀ (z : Str) (H' : Hp) (Qv : VK), Qv (.str z) H' -> te (some (.str z) :: σf) H' Qv)
   (k : ∀ D H', Same H H' -> H D = none -> H' D = some (.lst ((zs.filter f).map V.str)) -> Q (.ref D) H') {js : List Nat} (hj : A8r js σ = σf) : A9k 1 js (U1y K (Z3y i)) (D3k 0) tc te σ H Q :=
 ⟨.ref a, hi, V3r (tc := tc) (te := te) (Q := Q) (js := js) (σ := σ) hl hz ht he k hj⟩
section
variable {P : Program} {w : World} {K : Frag} {mg : Str -> Option Value} {base : Heap}
def V1r (CN CC CT c : Addr) (r : Int) (y : Wy) (l m : Int) (b : Addr) (up tr zs : List Str) (x : Nm) (spd : Hp -> VK -> XK -> Prop) (H' : Hp) : Prop := ∀ (Qd : VK) (Ed : XK),
 (∀ n a' H1, hit tr zs = none -> Exc c H' H1 -> CtxAt CC H1 c r y l m a' b ((V3 (up ++ zs)).map V.str) (tr.map V.str) -> NumIs CN H1 n x -> Qd (.ref n) H1) ->
 (∀ sg d' a' H1, hit tr zs = some sg -> Exc c H' H1 -> CtxAt CC H1 c r y l m a' b ((V3 (up ++ zs)).map V.str) (tr.map V.str) -> H1 d' = some (.xd [("signal", .str sg)]) -> Ed (.ref CT) (some d') H1) -> spd H' Qd Ed
def B7s (P : Program) (w : World) (K : Frag) (mg : Str -> Option Value) (base : Heap) (k : Nat) (CN CC CT : Addr) : Sp := fun vs H Q _ => ∃ c d g q dt dl a b u t r y l m, ∃ (up tr zs : List Str) (x : Nm) (J : Hp -> Prop) (spd : Hp -> VK -> XK -> Prop), vs = [.ref c, .ref d, .ref g, .ref q] /\
 CtxAt CC H c r y l m a b (up.map V.str) (tr.map V.str) /\ OwnAt H d u t r y l m up tr /\ SubS up /\ SubS tr /\ H q = some (.tup [.ref dt, .ref dl]) /\ H dt = some (.tup (Nm.vs x)) /\ H dl = some (.lst (zs.map V.str)) /\ zs.length <= 100 /\ Z9 (A6g x.k.str x.s x.f x.p) /\ DeedOk P w K mg base k g J spd /\
 (∀ H', Exc d H H' -> J H') /\ (∀ H', Exc d H H' -> CtxAt CC H' c r y l m a b (up.map V.str) (tr.map V.str) -> V1r CN CC CT c r y l m b up tr zs x spd H') /\
 ∀ a' u' H', Exc2 c d H H' -> CtxAt CC H' c r y l m a' b ((V3 (up ++ zs)).map V.str) (tr.map V.str) -> OwnAt H' d u' t r y l m (V3 (up ++ zs)) tr -> Q (.bl true) H'
theorem scLStands : FnScope ["_law_context_here", "_law_own_here", "_law_deed", "_law_due", "_law_signals", "_law_caught", "_law_wanted", "_law_found"] ["_law_context_here", "_law_own_here", "_law_deed", "_law_due"] (A1 A2z) := scK
theorem J2b {k : Nat} {f f1 CN CC CT aS : Addr} {fd fd1 : FuncData} (D : Def K mg "_law_stands" ["_law_context_here", "_law_own_here", "_law_deed", "_law_due"] A2z f fd) (D_l_tried : Def K mg "_law_tried" ["_law_deed"] A6b f1 fd1) (G_l_tried : FnOk P w K mg base (CX1 P w) (k + 1) f1 fd1 ["_law_deed"] (G6n P w K mg base k CN CT))
   (C : CtxC K mg CC) (MF : Has P w K mg base CC "flags" 1 ["self"] (B4c CC)) (SG : SigK K mg aS) (O : Own mg) : FnOkG P w K mg base (CX1 P w) (k + 2) f fd ["_law_context_here", "_law_own_here", "_law_deed", "_law_due"] (B7s P w K mg base k CN CC CT) := by
 refine D.F.okEG scLStands (fun vs H Q E h => ?_) (fun X cdv A outer s H vs Q E hX HG hr hx h => ?_)
 . obtain ⟨c, d, g, q, dt, dl, a, b, u, t, r, y, l, m, up, tr, zs, x, J, spd, rfl, _⟩ := h
   rfl
 . subst hX
   obtain ⟨c, d, g, q, dt, dl, a, b, u, t, r, y, l, m, up, tr, zs, x, J, spd, rfl, hc, ow, su, st, eq, et, el, lz, ok, DO, hJ, hD, k⟩ := h
   obtain ⟨ff, fdf, mf, gf, bf⟩ := MF
   have HU := Nat.lt_of_le_of_lt (Nat.add_le_add_left (by decide : 1 <= 64) _) hr.units
   refine ⟨_, (A6 (B8 (D0 (i := 4) scLStands.nd rfl (Or.inr rfl) (C4p (N := ["_law_name"]) (F := ["_law_due"]) (js := [3]) (CompScopeF.of1 ⟨rfl, by decide +kernel, by decide +kernel, by decide +kernel, by decide +kernel⟩ (by rfl) (by rfl) ⟨_, by rfl⟩ (by rfl) (by rfl)) (.inl hr.hd) (D5z (V3k SG.g)) rfl (fun C s₀ H₀ ex pn h => V6 (i := 0) (by decide +kernel : (["_law_name", "_law_due"] : List Str).Nodup) rfl (Or.inl rfl)) (fun C s₀ H₀ ex pn h => (C5 (A2y (K := K) rfl) (pv 0) (U2 (Y7d (K := K) rfl) (pv 1) A3 (fun _ _ => rfl)) (by rfl))) (fun C s₀ H₀ ex pn h => (pv 0)))))
     (A6 (B8 (A5u HU (pv 1) B0 (C4p (N := ["_law_name"]) (F := ["_law_signals", "_law_own_here"]) (js := [4, 1]) (CompScopeF.of2 ⟨rfl, by decide +kernel, by decide +kernel, by decide +kernel, by decide +kernel⟩ (by rfl) (by rfl) ⟨_, by rfl⟩ (by rfl) (by rfl) (by rfl) ⟨_, by rfl⟩ (by rfl) (by rfl)) (.inl hr.hd) (D5z (V3k SG.g)) rfl (fun C s₀ H₀ ex pn h => V6 (i := 0) (by decide +kernel : (["_law_name", "_law_signals", "_law_own_here"] : List Str).Nodup) rfl (Or.inl rfl)) (fun C s₀ H₀ ex pn h => (PW.pt (B6a (C5 (A2y (K := K) rfl) (pv 0) (J0 HU (pv 2) B0 (fun _ _ => rfl)) (by rfl)) (A5n (C5 (A2y (K := K) rfl) (pv 0) (pv 1) (by rfl)))))) (fun C s₀ H₀ ex pn h => (pv 0))) (by rfl)))
     (A6 (B8 (V0x (i := 5) (N := ["_law_name"]) (F := ["_law_own_here"]) (js := [1]) (CompScopeF.of1 ⟨rfl, by decide +kernel, by decide +kernel, by decide +kernel, by decide +kernel⟩ (by rfl) (by rfl) ⟨_, by rfl⟩ (by rfl) (by rfl)) (.inl hr.hd) (V1n (pv 4)) rfl (fun C s₀ H₀ ex pn h => V6 (i := 0) (by decide +kernel : (["_law_name", "_law_own_here"] : List Str).Nodup) rfl (Or.inl rfl)) (fun C s₀ H₀ ex pn h => (C5 (A2y (K := K) rfl) (pv 0) (J0 HU (pv 1) B0 (fun _ _ => rfl)) (by rfl))) (fun C s₀ H₀ ex pn h => (pv 0)) scLStands.nd rfl (Or.inl rfl)))
     (A6 (B8 (D0 (i := 6) scLStands.nd rfl (Or.inl rfl) (A1a (C5 (D6a hr.units) (pv 5) (U9 A7) (B9 _)) (U2 U0 (pv 3) A3 (fun _ _ => rfl)) (V1 (A0 B0 (A0 (U2 A1z (pv 5) A3 (fun _ _ => rfl)) A7))))))
     (A6 (B8 (D0 (i := 7) scLStands.nd rfl (Or.inl rfl) (C8 (hj := Nat.le_refl _) D_l_tried G_l_tried hr hx (A0 (pv 2) A7))))
     (A9 (B7 (A5s (D9 (D6a hr.units) (pv 7) (pv 6) (B9 _)) (A5s (D9 D5 (V4 (D2d HG hr.units) (by rfl) O.str_ boot_str (A0 (pv 7) A7)) (V4 (D2d HG hr.units) (by rfl) O.str_ boot_str (A0 (pv 6) A7)) (B9 _)) (A1t (D9 (D6a hr.units) (A5p (hj := Nat.succ_le_succ (Nat.zero_le _)) (pv 0) C.cl mf gf hr bf .nil hx) (J0 HU (pv 1) B0 (fun _ _ => rfl)) (B9 _)))))))))))), ?_⟩
   have z0 : 0 <= sizeLine := C6 (by decide)
   have z2 : 2 <= sizeLine := C6 (by decide)
   obtain ⟨dx, ec⟩ := hc.ins
   have ncd : c ≠ d := J9 ec ow.d (by intro z; cases z)
   have nad : a ≠ d := J9 hc.ha ow.d (by intro z; cases z)
   have nbd : b ≠ d := J9 hc.hb ow.d (by intro z; cases z)
   have nud : u ≠ d := J9 ow.u ow.d (by intro z; cases z)
   have ntd : t ≠ d := J9 ow.t ow.d (by intro z; cases z)
   have nqd : q ≠ d := J9 eq ow.d (by intro z; cases z)
   have nTd : dt ≠ d := J9 et ow.d (by intro z; cases z)
   have nqc : q ≠ c := J9 eq ec (by intro z; cases z)
   have nTc : dt ≠ c := J9 et ec (by intro z; cases z)
   have ix0 : atI [V.ref dt, .ref dl] 0 = some (.ref dt) := G6 (j := 0) rfl
   have ix1 : atI [V.ref dt, .ref dl] 1 = some (.ref dl) := G6 (j := 1) rfl
   refine ⟨fun σ' H' => ∃ s1, Same H H' /\ H s1 = none /\ H' s1 = some (.lst ((V3 zs).map V.str)) /\ σ' = [some (.ref c), some (.ref d), some (.ref g), some (.ref q), some (.ref s1), none, none, none], ?_, ?_⟩
   . refine C3c (zs := sigS) (f := fun z => zs.contains z) (σf := [some (.ref q)]) SG.sq (by decide) (fun z H' Qb sm qq => ?_) (fun z H' Qv qq => ⟨_, rfl, qq⟩) (fun D H' sm nd e => ⟨D, sm, nd, e, rfl⟩) rfl
     refine ⟨_, rfl, _, rfl, q, _, _, _, rfl, rfl, SqT.of (sm _ _ eq), ix1, dl, _, rfl, .inl (SqL.of (sm _ _ el)), rfl, Y4 _, _, rfl, ?_⟩
     show Qb (inV (.str z) (zs.map V.str)) H'
     rw [A0a]
     exact qq
   rintro σ' H1 ⟨s1, sm1, n1, e1, rfl⟩
   have ow1 := ow.same sm1
   refine ⟨fun σ' H' => ∃ u', Exc d H H' /\ H' s1 = some (.lst ((V3 zs).map V.str)) /\ s1 ≠ d /\ u' ≠ d /\ H u' = none /\ OwnAt H' d u' t r y l m (V3 (up ++ zs)) tr /\ σ' = [some (.ref c), some (.ref d), some (.ref g), some (.ref q), some (.ref s1), none, none, none], ?_, ?_⟩
   . refine C3c (zs := sigS) (f := fun z => up.contains z || (V3 zs).contains z) (σf := [some (.ref s1), some (.ref d)]) SG.sq (by decide) (fun z H' Qb sm qq => ?_) (fun z H' Qv qq => ⟨_, rfl, qq⟩) (fun D H' sm nd e => ?_) rfl
     . have o2 := ow1.same sm
       refine ⟨_, rfl, _, rfl, d, _, rfl, o2.gUp, u, _, rfl, .inl (SqL.of o2.u), rfl, Y4 _, _, rfl, ?_⟩
       rw [A0a]
       cases hz : up.contains z with
       | true => rw [hz] at qq; exact V8 qq
       | false =>
         rw [hz] at qq
         refine G7 ⟨_, rfl, _, rfl, s1, _, rfl, .inl (SqL.of (sm _ _ e1)), rfl, Y4 _, _, rfl, ?_⟩
         rw [A0a]
         exact qq
     . have o2 := ow1.same sm
       rw [Z2t] at e
       refine ⟨_, rfl, d, _, rfl, DPut.k (k := .inr "up") o2.d (U8 (by show 7 <= 1000; decide)), ?_⟩
       have nDd : D ≠ d := Ne.symm (C9 ow1.d nd)
       have ns1d : s1 ≠ d := J9 e1 ow1.d (by intro z; cases z)
       rw [put8]
       refine ⟨D, fun p o hp np => ?_, by rw [C4 ns1d]; exact sm _ _ e1, ns1d, nDd, sm1.free nd, ⟨A8, by rw [C4 nDd]; exact e, by rw [C4 ntd]; exact o2.t⟩, rfl⟩
       rw [C4 np]
       exact sm _ _ (sm1 _ _ hp)
   rintro σ' H2 ⟨u', x2, e1, n1d, nu'd, nu', ow2, rfl⟩
   refine ⟨fun σ' H' => ∃ s2, Same H2 H' /\ H' s2 = some (.lst (((V3 zs).filter fun z => tr.contains z).map V.str)) /\ σ' = [some (.ref c), some (.ref d), some (.ref g), some (.ref q), some (.ref s1), some (.ref s2), none, none], ?_, ?_⟩
   . refine U5b (zs := V3 zs) (f := fun z => tr.contains z) (σf := [some (.ref d)]) rfl (SqL.of e1) (Nat.le_trans (List.length_filter_le _ _) (by decide)) (fun z H' Qb sm qq => ?_) (fun z H' Qv qq => ⟨_, rfl, qq⟩) (fun D H' sm nd e => ⟨D, sm, e, rfl⟩) rfl
     have o2 := ow2.same sm
     refine ⟨_, rfl, _, rfl, d, _, rfl, o2.gTr, t, _, rfl, .inl (SqL.of o2.t), rfl, Y4 _, _, rfl, ?_⟩
     rw [A0a]
     exact qq
   rintro σ' H3 ⟨s2, sm3, e2, rfl⟩
   have x3 : Exc d H H3 := x2.trans (.of sm3)
   have hh := J2m (zs := zs) st
   have hm : ∀ z ∈ (V3 zs).filter fun z => tr.contains z, z ∈ sigS := fun z hz => (List.mem_filter.mp (List.mem_filter.mp hz).1).1
   have okC : OkL ((V3 zs).filter fun z => tr.contains z) := ⟨Nat.le_trans (List.length_filter_le _ _) (Nat.le_trans (List.length_filter_le _ _) (by decide)), fun z hz => U3b z (hm z hz)⟩
   refine ⟨fun σ' H' => ∃ wd, Same H3 H' /\ ((hit tr zs = none /\ wd = dt) \/ ∃ sg, hit tr zs = some sg /\ sg ∈ sigS /\ H' wd = some (.tup [.str "trapped", .str sg])) /\ σ' = [some (.ref c), some (.ref d), some (.ref g), some (.ref q), some (.ref s1), some (.ref s2), some (.ref wd), none], ?_, ?_⟩
   . generalize (V3 zs).filter (fun z => tr.contains z) = cs at e2 hh hm okC
     refine ⟨_, rfl, z0, fun p np => ?_⟩
     have up := Same.upd (o := .lst []) np
     refine ⟨rdS cs, rdS [], B7m (up _ _ e2), B7m A8, shS okC, shS ⟨by decide, by simp⟩, PyData.eqv (rdS cs) (rdS []), rfl, ?_⟩
     cases cs with
     | nil =>
       rw [Z2g]
       refine V8 ⟨_, rfl, q, _, _, _, rfl, rfl, SqT.of (up _ _ (sm3 _ _ (x2 _ _ eq nqd))), ix0, ?_⟩
       exact ⟨dt, up, .inl ⟨hh.symm, rfl⟩, rfl⟩
     | cons z cs =>
       rw [Y8g]
       refine G7 ⟨_, rfl, s2, _, _, _, rfl, rfl, SqL.of (up _ _ e2), G6 (j := 0) rfl, z2, fun v nv => ?_⟩
       exact ⟨v, up.trans (Same.upd nv), .inr ⟨z, hh.symm, hm z List.mem_cons_self, A8⟩, rfl⟩
   rintro σ' H4 ⟨wd, sm4, hw, rfl⟩
   have x4 : Exc d H H4 := x3.trans (.of sm4)
   have c4 := hc.exc x4 ncd nad nbd
   have ow4 := (ow2.same sm3).same sm4
   have et4 := x4 _ _ et nTd
   obtain ⟨dx4, ec4⟩ := c4.ins
   have ndc : d ≠ c := Ne.symm ncd
   have nuc : u' ≠ c := J9 ow4.u ec4 (by intro z; cases z)
   have ntc : t ≠ c := J9 ow4.t ec4 (by intro z; cases z)
   refine ⟨fun σ' H' => ∃ fo a' dd, Exc2 c d H H' /\ CtxAt CC H' c r y l m a' b ((V3 (up ++ zs)).map V.str) (tr.map V.str) /\ OwnAt H' d u' t r y l m (V3 (up ++ zs)) tr /\ RdD K H' (.ref fo) dd /\ RdD K H' (.ref wd) dd /\ RdR H' (.ref fo) dd /\ RdR H' (.ref wd) dd /\ SeqAt.shaped dd = true /\ PyData.eqv dd dd = true /\ Z9 dd /\
     σ' = [some (.ref c), some (.ref d), some (.ref g), some (.ref q), some (.ref s1), some (.ref s2), some (.ref wd), some (.ref fo)], ?_, ?_⟩
   . refine ⟨_, rfl, g, J, spd, rfl, DO, hJ H4 x4, fun Qd Ed hQ hE => hD H4 x4 c4 Qd Ed (fun n a' H5 hn x5 c5 num => hQ _ _ ⟨n, x, rfl, num, fun p np => ?_⟩) (fun sg d' a' H5 hs x5 c5 ed => hE _ _ _ ⟨d', sg, rfl, rfl, ed, fun p H6 sm6 np e6 => ?_⟩)⟩
     . have hwd : wd = dt := by
         rcases hw with ⟨_, h⟩ | ⟨sg, h, _⟩
         . exact h
         . rw [hn] at h; cases h
       subst hwd
       have u6 := Same.upd (o := .tup (Nm.vs x)) np
       have et6 := u6 _ _ (x5 _ _ et4 nTc)
       refine ⟨p, a', A6g x.k.str x.s x.f x.p, (Exc2.r x4).trans ((Exc2.l x5).trans (.s u6)), c5.same u6, (ow4.exc x5 ndc nuc ntc).same u6, rdD A8, rdD et6, .tup A8 (.cons (.str _) (.cons (.int _) (.cons (.int _) (.cons (.int _) .nil)))), .tup et6 (.cons (.str _) (.cons (.int _) (.cons (.int _) (.cons (.int _) .nil)))), shD _ _ _ (okK _), eqD _ _ _ _, ok, rfl⟩
     . obtain ⟨sg', h1, h2, h3⟩ : ∃ sg, hit tr zs = some sg /\ sg ∈ sigS /\ H4 wd = some (.tup [.str "trapped", .str sg]) := by
         rcases hw with ⟨h, _⟩ | h
         . rw [hs] at h; cases h
         . exact h
       rw [hs] at h1
       cases h1
       have nwc : wd ≠ c := J9 h3 ec4 (by intro z; cases z)
       have e7 := sm6 _ _ (x5 _ _ h3 nwc)
       have shT : SeqAt.shaped (.tuple [.str "trapped", .str sg]) = true := by
         unfold SeqAt.shaped
         simp [PyData.canLay0, PyData.canLayAll0, PyData.depth, PyData.depthAll, U3b sg h2, (by decide +kernel : PyData.strOk "trapped" = true)]
       refine ⟨p, a', .tuple [.str "trapped", .str sg], (Exc2.r x4).trans ((Exc2.l x5).trans (.s sm6)), c5.same sm6, (ow4.exc x5 ndc nuc ntc).same sm6, .tup (SqT.of e6) (.cons (.str _) (.cons (.str _) .nil)), .tup (SqT.of e7) (.cons (.str _) (.cons (.str _) .nil)), .tup e6 (.cons (.str _) (.cons (.str _) .nil)), .tup e7 (.cons (.str _) (.cons (.str _) .nil)), shT, ?_, Z3b h2, rfl⟩
       simp [PyData.eqv, PyData.eqvAll]
   rintro σ' H5 ⟨fo, a', dd, x5, c5, ow5, r1, r2, q1, q2, sh, ee, so, rfl⟩
   refine ⟨_, rfl, _, rfl, dd, dd, r1, r2, sh, sh, true, (by show V.bl (PyData.eqv dd dd) = _; rw [ee]), V8 ?_⟩
   refine ⟨_, rfl, fo, dd, rfl, q1, so, _, rfl, wd, dd, rfl, q2, so, rfl, _, rfl, A3t rfl ?_⟩
   obtain ⟨dx5, ec5⟩ := c5.ins
   refine ⟨_, rfl, c, dx5, _, rfl, ec5, D5c _ _ _ _ _ _, c, r, y, l, m, a', b, _, _, rfl, c5, fun p np => ?_⟩
   have u6 := Same.upd (o := .lst ((V3 (up ++ zs)).map V.str)) np
   have ow6 := ow5.same u6
   have okU : OkL (V3 (up ++ zs)) := (V3n _).ok
   refine ⟨_, rfl, d, _, rfl, ow6.gUp, rdS (V3 (up ++ zs)), rdS (V3 (up ++ zs)), B7m A8, B7m ow6.u, shS okU, shS okU, ?_⟩
   show Q (.bl (PyData.eqv (rdS (V3 (up ++ zs))) (rdS (V3 (up ++ zs))))) _
   rw [Z2g]
   exact k a' u' _ (x5.trans (.s u6)) (c5.same u6) ow6
end
theorem Z3u (n : Nat) : ([n + 1 + 1 + 1, n + 1 + 1, n + 1] : List Nat).Nodup := by
 refine List.nodup_cons.mpr ⟨fun h => ?_, List.nodup_cons.mpr ⟨fun h => ?_, List.nodup_cons.mpr ⟨fun h => ?_, List.nodup_nil⟩⟩⟩
 . simp only [List.mem_cons, List.not_mem_nil, or_false] at h
   omega
 . simp only [List.mem_cons, List.not_mem_nil, or_false] at h
   omega
 . simp only [List.not_mem_nil] at h
theorem V3f (n : Nat) : ([n + 1 + 1, n + 1] : List Nat).Nodup := (List.nodup_cons.mp (Z3u n)).2
structure Held (CN CC CT P0 : Addr) (pos : Pos) (qual : Str) (K : Frag) (sc : Addr) (ns : List Int) (d t c b : Addr) (r : Int) (y : Wy) (l m : Int) (up tr : List Str) (H : Hp) (a u : Addr) : Prop where
 own : OwnAt H d u t r y l m up tr
 ctx : CtxAt CC H c r y l m a b (up.map V.str) (tr.map V.str)
 tab : TabOk P0 pos qual H
 scr : SqL K H sc (ns.map V.int)
theorem OwnAt.keep {H H' : Hp} {d u t : Addr} {r l m : Int} {y : Wy} {up tr : List Str} (h : OwnAt H d u t r y l m up tr) (s : J1w H H') : OwnAt H' d u t r y l m up tr := ⟨s _ _ (fun _ z => by cases z) h.d, s _ _ (fun _ z => by cases z) h.u, s _ _ (fun _ z => by cases z) h.t⟩
theorem CtxAt.keep {CC : Addr} {H H' : Hp} {c : Addr} {r : Int} {y : Wy} {l m : Int} {a b : Addr} {xs ys : List V} (h : CtxAt CC H c r y l m a b xs ys) (s : J1w H H') : CtxAt CC H' c r y l m a b xs ys := by
 obtain ⟨⟨dx, e⟩, ha, hb⟩ := h
 exact ⟨⟨dx, s _ _ (fun _ z => by cases z) e⟩, s _ _ (fun _ z => by cases z) ha, s _ _ (fun _ z => by cases z) hb⟩
theorem NumIs.keep {CN : Addr} {H H' : Hp} {n : Addr} {x : Nm} (h : NumIs CN H n x) (s : J1w H H') : NumIs CN H' n x := by
 obtain ⟨dx, e⟩ := h
 exact ⟨dx, s _ _ (fun _ z => by cases z) e⟩
theorem CtxAt.hide {CC : Addr} {H : Hp} {cs : List Addr} {c : Addr} {r : Int} {y : Wy} {l m : Int} {a b : Addr} {xs ys : List V} (h : CtxAt CC H c r y l m a b xs ys) (A : AllFrz cs H) : CtxAt CC (U7 cs H) c r y l m a b xs ys := by
 obtain ⟨⟨dx, e⟩, ha, hb⟩ := h
 exact ⟨⟨dx, A.hide e (fun _ z => by cases z)⟩, A.hide ha (fun _ z => by cases z), A.hide hb (fun _ z => by cases z)⟩
theorem OwnAt.hide {H : Hp} {cs : List Addr} {d u t : Addr} {r l m : Int} {y : Wy} {up tr : List Str} (h : OwnAt H d u t r y l m up tr) (A : AllFrz cs H) : OwnAt (U7 cs H) d u t r y l m up tr := ⟨A.hide h.d (fun _ z => by cases z), A.hide h.u (fun _ z => by cases z), A.hide h.t (fun _ z => by cases z)⟩
theorem NumIs.hide {CN : Addr} {H : Hp} {cs : List Addr} {n : Addr} {x : Nm} (h : NumIs CN H n x) (A : AllFrz cs H) : NumIs CN (U7 cs H) n x := by
 obtain ⟨dx, e⟩ := h
 exact ⟨dx, A.hide e (fun _ z => by cases z)⟩
theorem NumIs.back {CN : Addr} {H H' : Hp} {cs : List Addr} {n : Addr} {x : Nm} (h : NumIs CN H' n x) (hn : ∀ c ∈ cs, H' c = none) : NumIs CN (Y6 cs H H') n x := by
 obtain ⟨dx, e⟩ := h
 exact ⟨dx, by rw [U5 fun z => by rw [hn n z] at e; cases e]; exact e⟩
section
variable {P : Program} {w : World} {K : Frag} {mg : Str -> Option Value} {base : Heap}
variable {CN CC CT P0 : Addr} {pos : Pos} {qual : Str} {sc : Addr} {ns : List Int} {d t c b : Addr} {r : Int} {y : Wy} {l m : Int} {up tr : List Str} {H : Hp} {a u : Addr}
theorem Held.same {H' : Hp} (h : Held CN CC CT P0 pos qual K sc ns d t c b r y l m up tr H a u) (s : Same H H') : Held CN CC CT P0 pos qual K sc ns d t c b r y l m up tr H' a u := ⟨h.own.same s, h.ctx.same s, h.tab.same s, s.seq h.scr⟩
end
theorem G5y (n q : Int) : ∃ d : Nat, B5 n * B5 (0 - q) = B5 (n - q) * ((10 ^ d : Nat) : Int) /\ B5 (-n) * B5 (-(0 - q)) = B5 (-(n - q)) * ((10 ^ d : Nat) : Int) := by
 refine ⟨n.toNat + (0 - q).toNat - (n - q).toNat, ?_, ?_⟩
 . unfold B5
   rw [<- Int.natCast_mul, <- Int.natCast_mul, <- Nat.pow_add, <- Nat.pow_add]
   congr 2
   omega
 . unfold B5
   rw [<- Int.natCast_mul, <- Int.natCast_mul, <- Nat.pow_add, <- Nat.pow_add]
   congr 2
   omega
theorem J2k {l m k : Int} (hk : 0 < k) : G2 (l * k) (m * k) = G2 l m := by
 unfold G2
 have a : (0 < l * k) ↔ 0 < l := by
   constructor
   . intro h
     apply Classical.byContradiction
     intro z
     have : l * k <= 0 := Int.mul_nonpos_of_nonpos_of_nonneg (by omega) (Int.le_of_lt hk)
     omega
   . intro h; exact Int.mul_pos h hk
 have e : 2 * (l * k) = 2 * l * k := by rw [Int.mul_assoc]
 have b : (m * k <= 2 * (l * k)) ↔ m <= 2 * l := by
   rw [e]
   exact ⟨fun h => Int.le_of_mul_le_mul_right h hk, fun h => Int.mul_le_mul_of_nonneg_right h (Int.le_of_lt hk)⟩
 have c : (m * k < 2 * (l * k)) ↔ m < 2 * l := by
   rw [e]
   exact ⟨fun h => Int.lt_of_mul_lt_mul_right h (Int.le_of_lt hk), fun h => Int.mul_lt_mul_of_pos_right h hk⟩
 simp only [a, b, c]
theorem V2v {t b n q : Int} (hb : 0 < b) : whI (t * B5 n) (b * B5 (-n)) (0 - q) = whI t b (n - q) /\ ptI (t * B5 n) (b * B5 (-n)) (0 - q) = ptI t b (n - q) := by
 obtain ⟨d, e1, e2⟩ := G5y n q
 have hk : 0 < ((10 ^ d : Nat) : Int) := Int.natCast_pos.mpr (Nat.pow_pos (by decide))
 have a : t * B5 n * B5 (0 - q) = t * B5 (n - q) * ((10 ^ d : Nat) : Int) := by rw [Int.mul_assoc, e1, Int.mul_assoc]
 have c : b * B5 (-n) * B5 (-(0 - q)) = b * B5 (-(n - q)) * ((10 ^ d : Nat) : Int) := by rw [Int.mul_assoc, e2, Int.mul_assoc]
 have w : whI (t * B5 n) (b * B5 (-n)) (0 - q) = whI t b (n - q) := by
   unfold whI
   rw [a, c]
   exact Int.mul_ediv_mul_of_pos_left _ _ hk
 refine ⟨w, ?_⟩
 unfold ptI
 rw [w, a, c, show whI t b (n - q) * (b * B5 (-(n - q)) * ((10 ^ d : Nat) : Int)) = whI t b (n - q) * (b * B5 (-(n - q))) * ((10 ^ d : Nat) : Int) by ac_rfl, <- Int.sub_mul]
 exact J2k hk
theorem lead_scale {t b n L : Int} : Y7 (t * B5 n) (b * B5 (-n)) (0 - L) ↔ Y7 t b (n - L) := by
 obtain ⟨d, e1, e2⟩ := G5y n L
 have hk : 0 < ((10 ^ d : Nat) : Int) := Int.natCast_pos.mpr (Nat.pow_pos (by decide))
 have a : t * B5 n * B5 (0 - L) = t * B5 (n - L) * ((10 ^ d : Nat) : Int) := by rw [Int.mul_assoc, e1, Int.mul_assoc]
 have c : b * B5 (-n) * B5 (-(0 - L)) = b * B5 (-(n - L)) * ((10 ^ d : Nat) : Int) := by rw [Int.mul_assoc, e2, Int.mul_assoc]
 unfold Y7
 rw [a, c, show 10 * (b * B5 (-(n - L)) * ((10 ^ d : Nat) : Int)) = 10 * (b * B5 (-(n - L))) * ((10 ^ d : Nat) : Int) by ac_rfl]
 constructor
 . intro h
   exact ⟨Int.le_of_mul_le_mul_right h.1 hk, Int.lt_of_mul_lt_mul_right h.2 (Int.le_of_lt hk)⟩
 . intro h
   exact ⟨Int.mul_le_mul_of_nonneg_right h.1 (Int.le_of_lt hk), Int.mul_lt_mul_of_pos_right h.2 hk⟩
theorem D5f (v : Cv) (s t b n L i : Int) (hb : 0 < b) : Y9 v s (t * B5 n) (b * B5 (-n)) 0 L i = Y9 v s t b n L i := by
 unfold Y9
 have := V2v (t := t) (b := b) (n := n) (q := v.fin L) hb
 rw [this.1, this.2]
theorem D4v (n : Nat) (h : 1 <= n) : ∃ L : Nat, 10 ^ L <= n /\ n < 10 ^ (L + 1) := by
 induction n using Nat.strongRecOn with
 | ind n ih =>
   by_cases h10 : n < 10
   . exact ⟨0, by simpa using h, by simpa using h10⟩
   . obtain ⟨L, a, b⟩ := ih (n / 10) (by omega) (by omega)
     refine ⟨L + 1, ?_, ?_⟩
     . rw [Nat.pow_succ]; omega
     . rw [Nat.pow_succ]; omega
theorem U1v {n j : Nat} (h1 : n < 10 ^ (j + 1)) (h2 : 10 ^ j <= n) : C3x (n : Int) = (j : Int) + 1 := by
 unfold C3x
 have e : (Str.ofString (toString (n : Int))).length = (Nat.toDigits 10 n).length := by
   have := congrArg List.length (KIN.signs_num n)
   rw [List.length_map] at this
   rw [<- this]; rfl
 rw [e]
 have a : (Nat.toDigits 10 n).length <= j + 1 := digits10_le (by omega) h1
 have b : j + 1 <= (Nat.toDigits 10 n).length := digits10_ge h2
 omega
theorem C4r {c A B : Prop} [Decidable c] (h : ¬ c) (a : A) : if (!decide c) = true then A else B := by rw [decide_eq_false h]; exact V8 a
abbrev A9f : Stmt := (top 67)
def Wy.code : Wy -> Nat
 | .down => 0
 | .up => 1
 | .floor => 2
 | .ceiling => 3
 | .halfUp => 4
 | .halfDown => 5
 | .halfEven => 6
 | .fiveUp => 7
theorem nW {y z : Wy} (h : y.code ≠ z.code) : ¬ V.str y.name = V.str z.name := fun q => h (by rw [Wy.inj (V.str.inj q)])
theorem D5e {a b : Int} (h : 0 < a) (h2 : b < 2 * a) : G2 a b = 3 := by
 unfold G2
 rw [decide_eq_true h, decide_eq_true (show b <= 2 * a by omega), decide_eq_true h2]
 rfl
theorem D5q {a b : Int} (h : 0 < a) (h2 : 2 * a = b) : G2 a b = 2 := by
 unfold G2
 rw [decide_eq_true h, decide_eq_true (show b <= 2 * a by omega), decide_eq_false (show ¬ b < 2 * a by omega)]
 rfl
theorem D5m {a b : Int} (h : 0 < a) (h2 : 2 * a < b) : G2 a b = 1 := by
 unfold G2
 rw [decide_eq_true h, decide_eq_false (show ¬ b <= 2 * a by omega), decide_eq_false (show ¬ b < 2 * a by omega)]
 rfl
theorem D4s {a b : Int} (h : a = 0) (hb : 0 < b) : G2 a b = 0 := by
 subst h
 unfold G2
 rw [decide_eq_false (show ¬ (0 : Int) < 0 by omega), decide_eq_false (show ¬ b <= 2 * 0 by omega), decide_eq_false (show ¬ b < 2 * 0 by omega)]
 rfl
theorem Y7r {l : Int} (h0 : 0 <= l) (h1 : l <= 9) : inV (.int l) [.int 0, .int 5] = decide (V.int (l % 5) = V.int 0) := by
 rcases (by omega : l = 0 \/ l = 1 \/ l = 2 \/ l = 3 \/ l = 4 \/ l = 5 \/ l = 6 \/ l = 7 \/ l = 8 \/ l = 9) with rfl | rfl | rfl | rfl | rfl | rfl | rfl | rfl | rfl | rfl <;> decide +kernel
section
variable {P : Program} {w : World} {K : Frag} {mg : Str -> Option Value} {base : Heap}
def D5a : Sp := fun vs H Q _ => ∃ (y : Wy) (s l lf lo : Int), vs = [.str y.name, .int s, .int l, .int lf, .int lo] /\ 0 <= l /\ l <= 9 /\ 0 < lf /\ ∀ H', Same H H' -> Q (.bl (y.goes s l (G2 lf lo))) H'
theorem Y8f : FnScope ["_law_way", "_law_sign", "_law_last", "_law_left", "_law_bottom"] ["_law_way", "_law_sign", "_law_last", "_law_left", "_law_bottom"] (A1 A9f) := scK
theorem V3c {f : Addr} {fd : FuncData} (D : Def K mg "_law_goes_up" ["_law_way", "_law_sign", "_law_last", "_law_left", "_law_bottom"] A9f f fd) : FnOk P w K mg base (CX1 P w) 1 f fd ["_law_way", "_law_sign", "_law_last", "_law_left", "_law_bottom"] D5a := by
 refine FnOk.up (D.F.ok Y8f (fun vs H Q E h => ?_) (fun cdv A outer s H vs Q E hr h => ?_))
 . obtain ⟨y, z, l, a, b, rfl, _⟩ := h
   rfl
 . obtain ⟨y, z, l, a, b, rfl, l0, l9, a0, k⟩ := h
   refine ⟨_, (A6 (G4 (C5 A4x (pv 0) (V1 (A0 B0 (A0 B0 (A0 B0 A7)))) (by rfl)) (A6 (G4 (C5 C2d (B3 U4 A3 (pv 3)) (pv 4) (B9 _)) (A9 (B7 (D9 B3h (B3 U4 A3 (pv 3)) (pv 4) (B9 _)))) C7)
     (A9 (B7 (G6a (D9 D5 (pv 0) B0 (B9 _)) (A1t (A5s (D9 D5 (pv 0) B0 (B9 _)) (A1t (D9 D5 (B3 D8 (pv 2) A3) A3 (B9 _))))))))) C7)
     (A6 (G4 (C5 D5 (pv 0) B0 (B9 _)) (A9 (B7 (D9 D5 (B3 D8 (pv 2) A3) A3 (B9 _)))) C7)
     (A9 (B7 (G6a (D9 D5 (pv 0) B0 (B9 _)) (G6a (A5s (D9 D5 (pv 0) B0 (B9 _)) (A1t (D9 D5 (pv 1) A3 (B9 _)))) (A1t (A5s (D9 D5 (pv 0) B0 (B9 _)) (A1t (D9 D5 (pv 1) A3 (B9 _))))))))))), ?_⟩
   have z3 : 3 <= sizeLine := C6 (by decide)
   have mC : ∀ z n : Int, -(2 ^ 64) < n -> n < 2 ^ 64 -> IntMulOk n z := fun z n a b => CMul.ok (.inl ⟨a, b⟩)
   refine ⟨_, rfl, z3, fun p np => ⟨p, _, rfl, .inr (SqT.of A8), rfl, rfl, _, rfl, ?_⟩⟩
   have u := Same.upd (o := .tup [.str "half up", .str "half down", .str "half even"]) np
   have k := k _ u
   generalize upd H p (.tup [.str "half up", .str "half down", .str "half even"]) = H1 at u k
   have no : ∀ y : Wy, y.code < 4 \/ y.code = 7 -> inV (.str y.name) [.str "half up", .str "half down", .str "half even"] = false := fun y => by cases y <;> decide +kernel
   have yes : ∀ y : Wy, 4 <= y.code -> y.code <= 6 -> inV (.str y.name) [.str "half up", .str "half down", .str "half even"] = true := fun y => by cases y <;> decide +kernel
   show if (inV (.str y.name) [.str "half up", .str "half down", .str "half even"]) = true then _ else _
   cases y with
   | down =>
     rw [no .down (by decide)]
     exact G7 ⟨_, rfl, rfl, _, rfl, Y5 (nW (y := .down) (z := .fiveUp) (by decide)) ⟨_, rfl, rfl, _, rfl, Y5 (nW (y := .down) (z := .up) (by decide)) ⟨_, rfl, rfl, _, rfl, Y5 (nW (y := .down) (z := .floor) (by decide)) ⟨_, rfl, G7 ⟨_, rfl, rfl, _, rfl, Y5 (nW (y := .down) (z := .ceiling) (by decide)) k⟩⟩⟩⟩⟩
   | up =>
     rw [no .up (by decide)]
     exact G7 ⟨_, rfl, rfl, _, rfl, Y5 (nW (y := .up) (z := .fiveUp) (by decide)) ⟨_, rfl, rfl, _, rfl, A3t rfl k⟩⟩
   | floor =>
     rw [no .floor (by decide)]
     have kT : V.int z = V.int 1 -> Q (.bl true) H1 := fun e => by
       have k : Q (.bl (decide (V.int z = V.int 1))) H1 := k
       rw [decide_eq_true e] at k
       exact k
     have kF : ¬ V.int z = V.int 1 -> Q (.bl false) H1 := fun e => by
       have k : Q (.bl (decide (V.int z = V.int 1))) H1 := k
       rw [decide_eq_false e] at k
       exact k
     exact G7 ⟨_, rfl, rfl, _, rfl, Y5 (nW (y := .floor) (z := .fiveUp) (by decide)) ⟨_, rfl, rfl, _, rfl, Y5 (nW (y := .floor) (z := .up) (by decide)) ⟨_, rfl, rfl, _, rfl, A3t rfl ⟨_, rfl, rfl, _, rfl, G8 (fun e => kT e) fun e => ⟨_, rfl, rfl, _, rfl, Y5 (nW (y := .floor) (z := .ceiling) (by decide)) (kF e)⟩⟩⟩⟩⟩
   | ceiling =>
     rw [no .ceiling (by decide)]
     exact G7 ⟨_, rfl, rfl, _, rfl, Y5 (nW (y := .ceiling) (z := .fiveUp) (by decide)) ⟨_, rfl, rfl, _, rfl, Y5 (nW (y := .ceiling) (z := .up) (by decide)) ⟨_, rfl, rfl, _, rfl, Y5 (nW (y := .ceiling) (z := .floor) (by decide)) ⟨_, rfl, G7 ⟨_, rfl, rfl, _, rfl, A3t rfl ⟨_, rfl, rfl, k⟩⟩⟩⟩⟩⟩
   | fiveUp =>
     rw [no .fiveUp (by decide)]
     have k : Q (.bl (inV (.int l) [.int 0, .int 5])) H1 := k
     rw [Y7r l0 l9] at k
     exact G7 ⟨_, rfl, rfl, _, rfl, A3t rfl ⟨_, rfl, _, _, rfl, rfl, (by decide : (0 : Int) < 5), rfl, k⟩⟩
   | halfUp =>
     rw [yes .halfUp (by decide) (by decide)]
     refine V8 ⟨_, rfl, _, _, rfl, rfl, mC _ _ (by decide) (by decide), _, rfl, rfl, _, rfl, ?_⟩
     by_cases e : 2 * a = b
     . rw [D5q a0 e] at k
       exact B6e (congrArg V.int e) ⟨_, rfl, rfl, _, rfl, A3t rfl k⟩
     . refine C4r (fun z => e (V.int.inj z)) ⟨_, rfl, _, _, rfl, rfl, mC _ _ (by decide) (by decide), _, rfl, _, _, rfl, rfl, ?_⟩
       show Q (.bl (decide (2 * a > b))) H1
       by_cases h : b < 2 * a
       . rw [D5e a0 h] at k
         rw [decide_eq_true h]
         exact k
       . rw [D5m a0 (by omega)] at k
         rw [decide_eq_false h]
         exact k
   | halfDown =>
     rw [yes .halfDown (by decide) (by decide)]
     refine V8 ⟨_, rfl, _, _, rfl, rfl, mC _ _ (by decide) (by decide), _, rfl, rfl, _, rfl, ?_⟩
     by_cases e : 2 * a = b
     . rw [D5q a0 e] at k
       exact B6e (congrArg V.int e) ⟨_, rfl, rfl, _, rfl, Y5 (nW (y := .halfDown) (z := .halfUp) (by decide)) ⟨_, rfl, rfl, _, rfl, Y5 (nW (y := .halfDown) (z := .halfEven) (by decide)) k⟩⟩
     . refine C4r (fun z => e (V.int.inj z)) ⟨_, rfl, _, _, rfl, rfl, mC _ _ (by decide) (by decide), _, rfl, _, _, rfl, rfl, ?_⟩
       show Q (.bl (decide (2 * a > b))) H1
       by_cases h : b < 2 * a
       . rw [D5e a0 h] at k
         rw [decide_eq_true h]
         exact k
       . rw [D5m a0 (by omega)] at k
         rw [decide_eq_false h]
         exact k
   | halfEven =>
     rw [yes .halfEven (by decide) (by decide)]
     refine V8 ⟨_, rfl, _, _, rfl, rfl, mC _ _ (by decide) (by decide), _, rfl, rfl, _, rfl, ?_⟩
     by_cases e : 2 * a = b
     . rw [D5q a0 e] at k
       exact B6e (congrArg V.int e) ⟨_, rfl, rfl, _, rfl, Y5 (nW (y := .halfEven) (z := .halfUp) (by decide)) ⟨_, rfl, rfl, _, rfl, A3t rfl ⟨_, rfl, _, _, rfl, rfl, (by decide : (0 : Int) < 2), rfl, k⟩⟩⟩
     . refine C4r (fun z => e (V.int.inj z)) ⟨_, rfl, _, _, rfl, rfl, mC _ _ (by decide) (by decide), _, rfl, _, _, rfl, rfl, ?_⟩
       show Q (.bl (decide (2 * a > b))) H1
       by_cases h : b < 2 * a
       . rw [D5e a0 h] at k
         rw [decide_eq_true h]
         exact k
       . rw [D5m a0 (by omega)] at k
         rw [decide_eq_false h]
         exact k
end
abbrev B3x : Stmt := (top 68)
abbrev A6f : Stmt := (top 72)
abbrev A5z : Stmt := (top 70)
theorem A1b (e : Int) : B5 (Y2 0 e) = B5 e := by
 unfold Y2 B5
 split
 . rfl
 . rw [show e.toNat = 0 by omega]; rfl
theorem tn {e : Int} (h0 : 0 <= e) : [V.int e] ++ [] = [V.int (e.toNat : Int)] := by rw [Int.toNat_of_nonneg h0]; rfl
theorem mx (e : Int) : 0 <= Y2 0 e /\ (e <= 600 -> Y2 0 e <= 600) := by
 unfold Y2
 constructor
 . split <;> omega
 . intro h; split <;> omega
def SzL (t : Int) : Prop := 1 <= t /\ t < B5 500
theorem SzL.nat {t : Int} (h : SzL t) : ∃ n : Nat, t = (n : Int) /\ 1 <= n /\ n < 10 ^ 500 := by
 obtain ⟨n, rfl⟩ := Int.eq_ofNat_of_zero_le (show 0 <= t by have := h.1; omega)
 exact ⟨n, rfl, Int.ofNat_le.mp h.1, Int.ofNat_lt.mp h.2⟩
theorem SzL.sz {t : Int} (h : SzL t) : Sz t := ⟨h.1, Int.lt_of_lt_of_le h.2 (B2m (by decide))⟩
theorem SzL.log {t : Int} (h : SzL t) : t.natAbs.log2 < 1920 := by
 obtain ⟨n, rfl, _, hn⟩ := h.nat
 have : n < 2 ^ 1670 := Nat.lt_of_lt_of_le (Nat.lt_of_lt_of_le hn (Nat.pow_le_pow_right (by decide) (by decide : 500 <= 3 * 167))) (G6j 167)
 exact Nat.lt_trans (A5r (i := (n : Int)) (k := 1670) (by rw [Int.natAbs_natCast]; exact this) (by decide)) (by decide)
section
variable {P : Program} {w : World} {K : Frag} {mg : Str -> Option Value} {base : Heap}
def U1t : Sp := fun vs H Q _ => ∃ t b : Int, vs = [.int t, .int b] /\ SzL t /\ SzL b /\ ∀ L H', Y7 t b (0 - L) -> -501 <= L -> L <= 501 -> Same H H' -> Q (.int L) H'
theorem scLLead : FnScope ["_law_top", "_law_bottom", "_law_found"] ["_law_top", "_law_bottom"] (A1 B3x) := scK
theorem V3w {f f1 : Addr} {fd fd1 : FuncData} (D : Def K mg "_law_lead" ["_law_top", "_law_bottom"] B3x f fd) (D_l_ten : Def K mg "_law_ten" ["_law_count"] A8q f1 fd1) (G_l_ten : FnOk P w K mg base (CX1 P w) 1 f1 fd1 ["_law_count"] B3y) (O : Own mg) : FnOk P w K mg base (CX1 P w) 2 f fd ["_law_top", "_law_bottom"] U1t := by
 refine D.F.okE scLLead (fun vs H Q E h => ?_) (fun X cdv A outer s H vs Q E hX hr hx h => ?_)
 . obtain ⟨t, b, rfl, _⟩ := h
   rfl
 . subst hX
   obtain ⟨t, b, rfl, ht, hb, k⟩ := h
   refine ⟨_, (A6 (B8 (D0 (i := 2) scLLead.nd rfl (Or.inl rfl) (B3 U1 (G9 A1x (by rfl) O.len_ PySem.boot_len (A0 (V4 A2b (by rfl) O.str_ boot_str (A0 (pv 0) A7)) A7)) (G9 A1x (by rfl) O.len_ PySem.boot_len (A0 (V4 A2b (by rfl) O.str_ boot_str (A0 (pv 1) A7)) A7)))))
     (A6 (B8 (G4 (C5 D3h (B3 U4 (pv 0) (C8 D_l_ten G_l_ten hr hx (A0 (G9 (V9 rfl) (by rfl) O.max_ boot_max (A0 A3 (A0 (B3 U1 A3 (pv 2)) A7))) A7))) (B3 U4 (pv 1) (C8 D_l_ten G_l_ten hr hx (A0 (G9 (V9 rfl) (by rfl) O.max_ boot_max (A0 A3 (A0 (pv 2) A7))) A7))) (B9 _)) (A9 (B8 (D0 (i := 2) scLLead.nd rfl (Or.inl rfl) (B3 U1 (pv 2) A3)))) C7))
     (A9 (B7 (pv 2))))), ?_⟩
   obtain ⟨tn', et, t1, t2⟩ := ht.nat
   obtain ⟨bn, eb, b1, b2⟩ := hb.nat
   obtain ⟨L, l1, l2⟩ := D4v tn' t1
   obtain ⟨M, m1, m2⟩ := D4v bn b1
   have ft : C3x t = (L : Int) + 1 := by rw [et]; exact U1v l2 l1
   have fb : C3x b = (M : Int) + 1 := by rw [eb]; exact U1v m2 m1
   have lL : L < 500 := (Nat.pow_lt_pow_iff_right (by decide : 1 < 10)).mp (Nat.lt_of_le_of_lt l1 t2)
   have lM : M < 500 := (Nat.pow_lt_pow_iff_right (by decide : 1 < 10)).mp (Nat.lt_of_le_of_lt m1 b2)
   refine ⟨fun σ' H' => H' = H /\ σ' = [some (.int t), some (.int b), some (.int (C3x t - C3x b))], ?_, ?_⟩
   . exact ⟨_, rfl, _, rfl, ht.log, _, rfl, int_text_fits ht.log, _, rfl, _, rfl, hb.log, _, rfl, int_text_fits hb.log, _, _, rfl, rfl, rfl, rfl⟩
   rintro σ' H1 ⟨rfl, rfl⟩
   refine ⟨fun σ' H' => ∃ L, H' = H1 /\ Y7 t b (0 - L) /\ -501 <= L /\ L <= 501 /\ σ' = [some (.int t), some (.int b), some (.int L)], ?_, ?_⟩
   . generalize hg : C3x t - C3x b = g
     have g0 : g = (L : Int) - M := by omega
     have c1 := (mx (0 - g)).2 (by omega)
     have c2 := (mx g).2 (by omega)
     have c1' := (mx (0 - g)).1
     have c2' := (mx g).1
     refine ⟨_, rfl, _, rfl, _, _, rfl, rfl, _, _, rfl, _, tn (e := Y2 0 (0 - g)) c1', by omega, _, _, rfl, rfl, A9c ht.sz (s := Y2 0 (0 - g)) (by omega), _, rfl, _, rfl, _, _, rfl, _, tn (e := Y2 0 g) c2', by omega, _, _, rfl, rfl, A9c hb.sz (s := Y2 0 g) (by omega), _, _, rfl, rfl, _, rfl, ?_⟩
     show if decide (t * B5 (Y2 0 (0 - g)) < b * B5 (Y2 0 g)) = true then _ else _
     rw [A1b, A1b]
     subst et eb
     refine G8 (fun h => ?_) (fun h => ?_)
     . refine ⟨_, ?_, fun _ _ h => h⟩
       refine ⟨_, rfl, _, _, rfl, rfl, g - 1, rfl, ?_, by omega, by omega, rfl⟩
       have := B3z l1 l2 m1 m2 (by rw [show (M : Int) - L = 0 - g by omega, show -(0 - g) = g by omega]; exact h)
       rw [show (0 : Int) - (g - 1) = (M : Int) - L + 1 by omega]
       exact this
     . refine ⟨g, rfl, ?_, by omega, by omega, rfl⟩
       have := B7b l1 l2 m1 m2 (by rw [show (M : Int) - L = 0 - g by omega, show -(0 - g) = g by omega]; omega)
       rw [show (0 : Int) - g = (M : Int) - L by omega]
       exact this
   rintro σ' H2 ⟨L', rfl, ld, a, b', rfl⟩
   exact ⟨_, rfl, k L' H2 ld a b' (Same.refl _)⟩
def G4j : Sp := fun vs H Q _ => ∃ t b p : Int, vs = [.int t, .int b, .int p] /\ -600 <= p /\ p <= 600 /\ IntMulOk t (B5 p) /\ IntMulOk b (B5 (-p)) /\ ∀ q H', Same H H' -> H' q = some (.tup [.int (t * B5 p), .int (b * B5 (-p))]) -> Q (.ref q) H'
theorem V0y : FnScope ["_law_top", "_law_bottom", "_law_wide"] ["_law_top", "_law_bottom", "_law_wide"] (A1 A6f) := scK
theorem U5k {f f1 : Addr} {fd fd1 : FuncData} (D : Def K mg "_law_ratio" ["_law_top", "_law_bottom", "_law_wide"] A6f f fd) (D_l_ten : Def K mg "_law_ten" ["_law_count"] A8q f1 fd1) (G_l_ten : FnOk P w K mg base (CX1 P w) 1 f1 fd1 ["_law_count"] B3y) (O : Own mg) : FnOk P w K mg base (CX1 P w) 2 f fd ["_law_top", "_law_bottom", "_law_wide"] G4j := by
 refine D.F.okE V0y (fun vs H Q E h => ?_) (fun X cdv A outer s H vs Q E hX hr hx h => ?_)
 . obtain ⟨t, b, p, rfl, _⟩ := h
   rfl
 . subst hX
   obtain ⟨t, b, p, rfl, p0, p1, h1, h2, k⟩ := h
   refine ⟨_, (A9 (B7 (V1 (A0 (B3 U4 (pv 0) (C8 D_l_ten G_l_ten hr hx (A0 (G9 (V9 rfl) (by rfl) O.max_ boot_max (A0 A3 (A0 (pv 2) A7))) A7))) (A0 (B3 U4 (pv 1) (C8 D_l_ten G_l_ten hr hx (A0 (G9 (V9 rfl) (by rfl) O.max_ boot_max (A0 A3 (A0 (B3 U1 A3 (pv 2)) A7))) A7))) A7))))), ?_⟩
   have z2 : 2 <= sizeLine := C6 (by decide)
   have c1 := (mx p).2 (by omega)
   have c2 := (mx (0 - p)).2 (by omega)
   refine ⟨_, rfl, _, rfl, _, _, rfl, _, tn (e := Y2 0 p) (mx _).1, by omega, _, _, rfl, rfl, (by show IntMulOk t (B5 (Y2 0 p)); rw [A1b]; exact h1), _, rfl, _, rfl, _, _, rfl, rfl, _, _, rfl, _, tn (e := Y2 0 (0 - p)) (mx _).1, by omega, _, _, rfl, rfl, (by show IntMulOk b (B5 (Y2 0 (0 - p))); rw [A1b, Int.zero_sub]; exact h2), z2, fun q nq => ?_⟩
   refine k q _ (Same.upd nq) ?_
   rw [A8]
   show some (HO.tup [.int (t * B5 (Y2 0 p)), .int (b * B5 (Y2 0 (0 - p)))]) = _
   rw [A1b, A1b, Int.zero_sub]
def G4v : Sp := fun vs H Q _ => ∃ d u t r y l m up tr, ∃ s : Int, vs = [.ref d, .int s] /\ OwnAt H d u t r y l m up tr /\ FrameOk r l m /\ 0 <= s /\ s <= 1 /\ ∀ q H', Same H H' -> H' q = some (.tup (B4a ⟨r, y, l, m⟩ s).vs) -> Q (.ref q) H'
theorem scLBurst : FnScope ["_law_own_here", "_law_sign", "_law_kept"] ["_law_own_here", "_law_sign"] (A1 A5z) := scK
theorem U4j {f f1 : Addr} {fd fd1 : FuncData} (D : Def K mg "_law_burst" ["_law_own_here", "_law_sign"] A5z f fd) (D_l_ten : Def K mg "_law_ten" ["_law_count"] A8q f1 fd1) (G_l_ten : FnOk P w K mg base (CX1 P w) 1 f1 fd1 ["_law_count"] B3y) : FnOk P w K mg base (CX1 P w) 2 f fd ["_law_own_here", "_law_sign"] G4v := by
 refine D.F.okE scLBurst (fun vs H Q E h => ?_) (fun X cdv A outer s H vs Q E hX hr hx h => ?_)
 . obtain ⟨d, u, t, r, y, l, m, up, tr, sg, rfl, _⟩ := h
   rfl
 . subst hX
   obtain ⟨d, u, t, r, y, l, m, up, tr, sg, rfl, ow, fr, s0, s1, k⟩ := h
   have HU := Nat.lt_of_le_of_lt (Nat.add_le_add_left (by decide : 1 <= 64) _) hr.units
   refine ⟨_, (A6 (B8 (D0 (i := 2) scLBurst.nd rfl (Or.inl rfl) (G6a (D9 A4x (J0 HU (pv 0) B0 (fun _ _ => rfl)) (V1 (A0 B0 (A0 B0 A7))) (by rfl)) (A1t (A5s (D9 D5 (J0 HU (pv 0) B0 (fun _ _ => rfl)) B0 (B9 _)) (A1t (D9 D5 (pv 1) A3 (B9 _))))))))
     (A6 (B8 (G4 (PW.pt (B6a (Z0 (pv 2)) (A5n (PW.pt (A4g (C5 D5 (J0 HU (pv 0) B0 (fun _ _ => rfl)) B0 (B9 _)) (A2a (C5 D5 (pv 1) A3 (B9 _)))))))) (A9 (B7 (V1 (A0 B0 (A0 (pv 1) (A0 (B3 U1 (C8 D_l_ten G_l_ten hr hx (A0 (J0 HU (pv 0) B0 (fun _ _ => rfl)) A7)) A3) (A0 (B3 U3 (B3 U1 (J0 HU (pv 0) B0 (fun _ _ => rfl)) (J0 HU (pv 0) B0 (fun _ _ => rfl))) A3) A7))))))) C7))
     (A9 (B7 (V1 (A0 B0 (A0 (pv 1) (A0 A3 (A0 A3 A7))))))))), ?_⟩
   have z2 : 2 <= sizeLine := C6 (by decide)
   have z4 : 4 <= sizeLine := C6 (by decide)
   have r1 := fr.r1; have r2 := fr.r2
   refine ⟨fun σ' H' => Same H H' /\ σ' = [some (.ref d), some (.int sg), some (.bl (y.code == 0 || y.code == 7 || (y.code == 2 && decide (sg = 0))))], ?_, ?_⟩
   . refine ⟨_, rfl, d, _, rfl, ow.gWay, z2, fun p np => ⟨p, _, rfl, .inr (SqT.of A8), rfl, rfl, _, rfl, ?_⟩⟩
     have up1 := Same.upd (o := .tup [.str "down", .str "five up"]) np
     have ow1 := ow.same up1
     generalize upd H p (.tup [.str "down", .str "five up"]) = H1 at up1 ow1
     show if (inV (.str y.name) [.str "down", .str "five up"]) = true then _ else _
     by_cases hy : y.code = 0 \/ y.code = 7
     . rw [show inV (.str y.name) [.str "down", .str "five up"] = true by cases y <;> first | (decide +kernel) | (exfalso; revert hy; decide)]
       refine V8 ⟨up1, ?_⟩
       rw [show (y.code == 0 || y.code == 7 || (y.code == 2 && decide (sg = 0))) = true by rcases hy with h | h <;> rw [h] <;> rfl]
       rfl
     . rw [show inV (.str y.name) [.str "down", .str "five up"] = false by cases y <;> first | (decide +kernel) | (exfalso; revert hy; decide)]
       refine G7 ⟨_, rfl, d, _, rfl, ow1.gWay, rfl, _, rfl, G8 (fun hf => ?_) (fun hf => ⟨up1, ?_⟩)⟩
       . have e : y = .floor := Wy.inj (V.str.inj hf)
         subst e
         refine ⟨_, rfl, rfl, up1, ?_⟩
         rcases (by omega : sg = 0 \/ sg = 1) with rfl | rfl <;> rfl
       . rw [show (y.code == 0 || y.code == 7 || (y.code == 2 && decide (sg = 0))) = false by cases y <;> first | rfl | exact absurd rfl hf | (exfalso; revert hy; decide)]
         rfl
   rintro σ' H1 ⟨s1', rfl⟩
   have ow1 := ow.same s1'
   refine ⟨fun σ' H' => H' = H1 /\ y.toEnd sg = true /\ σ' = [some (.ref d), some (.int sg), some (.bl (y.code == 0 || y.code == 7 || (y.code == 2 && decide (sg = 0))))], ?_, ?_⟩
   . have nines : y.toEnd sg = false -> ∀ q, H1 q = none -> Q (.ref q) (upd H1 q (.tup (Nm.vs ⟨.plain, sg, B5 r - 1, m - r + 1⟩))) := fun e q nq => by
       refine k q _ (s1'.trans (Same.upd nq)) ?_
       unfold B4a
       rw [e, if_neg Bool.false_ne_true]
       exact A8
     cases y with
     | down =>
       have nines := nines rfl
       exact ⟨_, rfl, _, rfl, V8 ⟨_, rfl, _, rfl, d, _, rfl, ow1.gRoom, _, tn (e := r) (by omega), by omega, _, _, rfl, rfl, _, rfl, d, _, rfl, ow1.gMost, _, rfl, d, _, rfl, ow1.gRoom, _, _, rfl, rfl, _, _, rfl, rfl, z4, fun q nq => nines q nq⟩⟩
     | fiveUp =>
       have nines := nines rfl
       exact ⟨_, rfl, _, rfl, V8 ⟨_, rfl, _, rfl, d, _, rfl, ow1.gRoom, _, tn (e := r) (by omega), by omega, _, _, rfl, rfl, _, rfl, d, _, rfl, ow1.gMost, _, rfl, d, _, rfl, ow1.gRoom, _, _, rfl, rfl, _, _, rfl, rfl, z4, fun q nq => nines q nq⟩⟩
     | up => exact ⟨_, rfl, _, rfl, G7 ⟨_, rfl, d, _, rfl, ow1.gWay, rfl, _, rfl, Y5 (nW (y := .up) (z := .ceiling) (by decide)) (G7 ⟨rfl, rfl, rfl⟩)⟩⟩
     | halfUp => exact ⟨_, rfl, _, rfl, G7 ⟨_, rfl, d, _, rfl, ow1.gWay, rfl, _, rfl, Y5 (nW (y := .halfUp) (z := .ceiling) (by decide)) (G7 ⟨rfl, rfl, rfl⟩)⟩⟩
     | halfDown => exact ⟨_, rfl, _, rfl, G7 ⟨_, rfl, d, _, rfl, ow1.gWay, rfl, _, rfl, Y5 (nW (y := .halfDown) (z := .ceiling) (by decide)) (G7 ⟨rfl, rfl, rfl⟩)⟩⟩
     | halfEven => exact ⟨_, rfl, _, rfl, G7 ⟨_, rfl, d, _, rfl, ow1.gWay, rfl, _, rfl, Y5 (nW (y := .halfEven) (z := .ceiling) (by decide)) (G7 ⟨rfl, rfl, rfl⟩)⟩⟩
     | floor =>
       rcases (by omega : sg = 0 \/ sg = 1) with rfl | rfl
       . have nines := nines (show decide (V.int 0 = V.int 1) = false by decide +kernel)
         exact ⟨_, rfl, _, rfl, V8 ⟨_, rfl, _, rfl, d, _, rfl, ow1.gRoom, _, tn (e := r) (by omega), by omega, _, _, rfl, rfl, _, rfl, d, _, rfl, ow1.gMost, _, rfl, d, _, rfl, ow1.gRoom, _, _, rfl, rfl, _, _, rfl, rfl, z4, fun q nq => nines q nq⟩⟩
       . exact ⟨_, rfl, _, rfl, G7 ⟨_, rfl, d, _, rfl, ow1.gWay, rfl, _, rfl, Y5 (nW (y := .floor) (z := .ceiling) (by decide)) (G7 ⟨rfl, (show decide (V.int 1 = V.int 1) = true by decide +kernel), rfl⟩)⟩⟩
     | ceiling =>
       rcases (by omega : sg = 1 \/ sg = 0) with rfl | rfl
       . have nines := nines (show decide (V.int 1 = V.int 0) = false by decide +kernel)
         exact ⟨_, rfl, _, rfl, G7 ⟨_, rfl, d, _, rfl, ow1.gWay, rfl, _, rfl, A3t rfl ⟨_, rfl, rfl, _, rfl, A3t rfl ⟨_, rfl, _, rfl, d, _, rfl, ow1.gRoom, _, tn (e := r) (by omega), by omega, _, _, rfl, rfl, _, rfl, d, _, rfl, ow1.gMost, _, rfl, d, _, rfl, ow1.gRoom, _, _, rfl, rfl, _, _, rfl, rfl, z4, fun q nq => nines q nq⟩⟩⟩⟩
       . exact ⟨_, rfl, _, rfl, G7 ⟨_, rfl, d, _, rfl, ow1.gWay, rfl, _, rfl, A3t rfl ⟨_, rfl, rfl, _, rfl, Y5 (by decide) ⟨rfl, (show decide (V.int 0 = V.int 0) = true by decide +kernel), rfl⟩⟩⟩⟩
   rintro σ' H2 ⟨rfl, e, rfl⟩
   refine ⟨_, rfl, z4, fun q nq => k q _ (s1'.trans (Same.upd nq)) ?_⟩
   unfold B4a
   rw [e, if_pos rfl]
   exact A8
end
abbrev A0q : Stmt := (top 71)
def U2d (H : Hp) (q : Addr) (x : Nm) (zs : List Str) : Prop := ∃ t l, H q = some (.tup [.ref t, .ref l]) /\ H t = some (.tup x.vs) /\ H l = some (.lst (zs.map V.str))
theorem Z3e (x : Str) (b : Bool) : (List.replicate (if b = true then (1 : Int) else 0).toNat [V.str x]).flatten = (A3k x b).map V.str := by cases b <;> rfl
theorem Y8z (x y : Str) (b : Bool) : (List.replicate (((A3k y b).map V.str).length : Int).toNat [V.str x]).flatten = (A3k x b).map V.str := by cases b <;> rfl
theorem B2j (x : Str) (b : Bool) : (A3k x b).length <= 1 := by cases b <;> simp [A3k]
theorem V2s {l L pt : Int} {cut : Bool} (h : ¬ pt = 0) (z : Str) : z ∈ A3k "faint" (decide (L < l)) ++ (["off", "cut"] : List Str) ++ A3k "sunk" (decide (L < l)) ↔ z ∈ Z7 pt cut ++ Z6 l L pt := by
 unfold Z7 Z6 A3k
 rw [if_neg h]
 by_cases q : L < l
 . rw [if_neg (by omega : ¬ L >= l), decide_eq_true q, if_neg h]
   simp only [if_true, List.mem_append, List.mem_cons, List.not_mem_nil, or_false]
   constructor
   . rintro ((a | a | a) | a)
     . exact .inr (.inr a)
     . exact .inl (.inl a)
     . exact .inl (.inr a)
     . exact .inr (.inl a)
   . rintro ((a | a) | a | a)
     . exact .inl (.inr (.inl a))
     . exact .inl (.inr (.inr a))
     . exact .inr a
     . exact .inl (.inl a)
 . rw [if_pos (by omega : L >= l), decide_eq_false q]
   simp
theorem U2n {l L : Int} {cut : Bool} (z : Str) : z ∈ A3k "faint" (decide (L < l)) ++ A3k "cut" cut ↔ z ∈ Z7 0 cut ++ Z6 l L 0 := by
 unfold Z7 Z6 A3k
 by_cases q : L < l
 . rw [if_neg (by omega : ¬ L >= l), decide_eq_true q]
   cases cut <;> simp [or_comm]
 . rw [if_pos (by omega : L >= l), decide_eq_false q]
   cases cut <;> simp
theorem G4x {a b : Int} (h : 0 < a) (hb : 0 < b) : ¬ G2 a b = 0 := by
 rcases (by omega : 2 * a < b \/ 2 * a = b \/ b < 2 * a) with h2 | h2 | h2
 . rw [D5m h h2]; decide
 . rw [D5q h h2]; decide
 . rw [D5e h h2]; decide
section
variable {P : Program} {w : World} {K : Frag} {mg : Str -> Option Value} {base : Heap}
def C4h : Sp := fun vs H Q _ => ∃ d u tt r y l m up tr rq, ∃ s t b i : Int, vs = [.ref d, .int s, .ref rq, .int i] /\ OwnAt H d u tt r y l m up tr /\ FrameOk r l m /\ 0 <= s /\ s <= 1 /\ H rq = some (.tup [.int t, .int b]) /\ SzL t /\ SzL b /\
 ∀ L q zs H', Y7 t b (0 - L) -> Same H H' -> U2d H' q (Y9 ⟨r, y, l, m⟩ s t b 0 L i).1 zs -> zs.length <= 10 -> (∀ z, z ∈ zs ↔ z ∈ (Y9 ⟨r, y, l, m⟩ s t b 0 L i).2) -> Q (.ref q) H'
theorem scLSettled : FnScope ["_law_own_here", "_law_sign", "_law_ratio_here", "_law_ideal", "_law_top", "_law_bottom", "_law_begin", "_law_fine", "_law_whole_here", "_law_left", "_law_signals"] ["_law_own_here", "_law_sign", "_law_ratio_here", "_law_ideal"] (A1 A0q) := scK
theorem G5c {f f1 f2 f3 f4 : Addr} {fd fd1 fd2 fd3 fd4 : FuncData} (D : Def K mg "_law_settled" ["_law_own_here", "_law_sign", "_law_ratio_here", "_law_ideal"] A0q f fd) (D_l_lead : Def K mg "_law_lead" ["_law_top", "_law_bottom"] B3x f1 fd1) (G_l_lead : FnOk P w K mg base (CX1 P w) 2 f1 fd1 ["_law_top", "_law_bottom"] U1t)
   (D_l_ten : Def K mg "_law_ten" ["_law_count"] A8q f2 fd2) (G_l_ten : FnOk P w K mg base (CX1 P w) 1 f2 fd2 ["_law_count"] B3y) (D_l_goes_up : Def K mg "_law_goes_up" ["_law_way", "_law_sign", "_law_last", "_law_left", "_law_bottom"] A9f f3 fd3) (G_l_goes_up : FnOk P w K mg base (CX1 P w) 1 f3 fd3 ["_law_way", "_law_sign", "_law_last", "_law_left", "_law_bottom"] D5a)
   (D_l_burst : Def K mg "_law_burst" ["_law_own_here", "_law_sign"] A5z f4 fd4) (G_l_burst : FnOk P w K mg base (CX1 P w) 2 f4 fd4 ["_law_own_here", "_law_sign"] G4v) (O : Own mg) : FnOk P w K mg base (CX1 P w) 3 f fd ["_law_own_here", "_law_sign", "_law_ratio_here", "_law_ideal"] C4h := by
 refine D.F.okE scLSettled (fun vs H Q E h => ?_) (fun X cdv A outer s H vs Q E hX hr hx h => ?_)
 . obtain ⟨d, u, tt, r, y, l, m, up, tr, rq, sg, t, b, i, rfl, _⟩ := h
   rfl
 . subst hX
   obtain ⟨d, u, tt, r, y, l, m, up, tr, rq, sg, t, b, i, rfl, ow, fr, s0, s1, erq, ht, hb, k⟩ := h
   have HU := Nat.lt_of_le_of_lt (Nat.add_le_add_left (by decide : 1 <= 64) _) hr.units
   refine ⟨_, (A6 (B8 (J1x (pv 2) (J0y rfl (A4s (V6 (i := 4) scLSettled.nd rfl (Or.inl rfl)) (A4s (V6 (i := 5) scLSettled.nd rfl (Or.inl rfl)) D6d)))))
     (A6 (B8 (D0 (i := 6) scLSettled.nd rfl (Or.inl rfl) (C8 D_l_lead G_l_lead hr hx (A0 (pv 4) (A0 (pv 5) A7)))))
     (A6 (B8 (D0 (i := 7) scLSettled.nd rfl (Or.inl rfl) (G9 (V9 rfl) (by rfl) O.max_ boot_max (A0 (B3 U3 (B3 U1 (pv 6) (J0 HU (pv 0) B0 (fun _ _ => rfl))) A3) (A0 (J0 HU (pv 0) B0 (fun _ _ => rfl)) A7)))))
     (A6 (B8 (D0 (i := 5) scLSettled.nd rfl (Or.inl rfl) (B3 U4 (pv 5) (C8 D_l_ten G_l_ten hr hx (A0 (G9 (V9 rfl) (by rfl) O.max_ boot_max (A0 A3 (A0 (pv 7) A7))) A7)))))
     (A6 (B8 (J1x (G9 B5x (by rfl) O.divmod_ PyProof.Rows.boot_divmod (A0 (B3 U4 (pv 4) (C8 D_l_ten G_l_ten hr hx (A0 (G9 (V9 rfl) (by rfl) O.max_ boot_max (A0 A3 (A0 (B3 U1 A3 (pv 7)) A7))) A7))) (A0 (pv 5) A7))) (J0y rfl (A4s (V6 (i := 8) scLSettled.nd rfl (Or.inl rfl)) (A4s (V6 (i := 9) scLSettled.nd rfl (Or.inl rfl)) D6d)))))
     (A6 (B8 (D0 (i := 10) scLSettled.nd rfl (Or.inl rfl) (B3 V1e (U9 (A0 B0 A7)) (V4 D2t (by rfl) O.int_ boot_int (A0 (D9 D3h (pv 6) (J0 HU (pv 0) B0 (fun _ _ => rfl)) (B9 _)) A7)))))
     (A6 (B8 (G4 (C5 B3h (pv 9) A3 (B9 _)) (A6 (B8 (D0 (i := 10) scLSettled.nd rfl (Or.inl rfl) (B3 C3y (B3 C3y (pv 10) (U9 (A0 B0 (A0 B0 A7)))) (B3 V1e (U9 (A0 B0 A7)) (G9 B5u (by rfl) O.len_ PySem.boot_len (A0 (pv 10) A7))))))
     (A6 (B8 (G4 (Z0 (C8 D_l_goes_up G_l_goes_up hr hx (A0 (J0 HU (pv 0) B0 (fun _ _ => rfl)) (A0 (pv 1) (A0 (B3 D8 (pv 8) A3) (A0 (pv 9) (A0 (pv 5) A7))))))) (A9 (B8 (D0 (i := 8) scLSettled.nd rfl (Or.inl rfl) (B3 U3 (pv 8) A3)))) C7))
     (A9 (B8 (G4 (C5 D5 (pv 8) (C8 D_l_ten G_l_ten hr hx (A0 (J0 HU (pv 0) B0 (fun _ _ => rfl)) A7)) (B9 _)) (A6 (B8 (D0 (i := 8) scLSettled.nd rfl (Or.inl rfl) (B3 G3 (pv 8) A3)))
     (A9 (B8 (D0 (i := 7) scLSettled.nd rfl (Or.inl rfl) (B3 U3 (pv 7) A3))))) C7))))) C7))
     (A6 (B8 (B6f PassesOwn.leaving (PW.pt (A4g (C5 D5 (pv 9) A3 (B9 _)) (A4g (C5 D3h (pv 7) (pv 3) (B9 _)) (A2a (C5 D5 (B3 D8 (pv 8) A3) A3 (B9 _)))))) (A6 (B8 (D0 (i := 8) scLSettled.nd rfl (Or.inl rfl) (B3 G3 (pv 8) A3)))
     (A9 (B8 (D0 (i := 7) scLSettled.nd rfl (Or.inl rfl) (B3 U3 (pv 7) A3)))))))
     (A6 (B8 (G4 (PW.pt (A4g (C5 D5 (pv 9) A3 (B9 _)) (A2a (C5 B3h (pv 7) (pv 3) (B9 _))))) (A9 (B8 (D0 (i := 10) scLSettled.nd rfl (Or.inl rfl) (B3 C3y (pv 10) (U9 (A0 B0 A7)))))) C7))
     (A6 (B8 (G4 (PW.pt (A4g (C5 B3h (pv 8) A3 (B9 _)) (A2a (C5 B3h (B3 U1 (B3 U3 (pv 7) (G9 A1x (by rfl) O.len_ PySem.boot_len (A0 (V4 A2b (by rfl) O.str_ boot_str (A0 (pv 8) A7)) A7))) A3) (J0 HU (pv 0) B0 (fun _ _ => rfl)) (B9 _))))) (A9 (B7 (V1 (A0 (C8 D_l_burst G_l_burst hr hx (A0 (pv 0) (A0 (pv 1) A7))) (A0 (U9 (A0 B0 (A0 B0 (A0 B0 A7)))) A7))))) C7))
     (A9 (B7 (V1 (A0 (V1 (A0 B0 (A0 (pv 1) (A0 (pv 8) (A0 (pv 7) A7))))) (A0 (pv 10) A7))))))))))))))), ?_⟩
   have z1 : 1 <= sizeLine := C6 (by decide)
   have z2 : 2 <= sizeLine := C6 (by decide)
   have z3 : 3 <= sizeLine := C6 (by decide)
   have z4 : 4 <= sizeLine := C6 (by decide)
   have d10 : (0 : Int) < 10 /\ (10 : Int).natAbs.log2 < 9000 := ⟨by decide, by decide +kernel⟩
   have kb : ∀ b : Bool, -(2 ^ 63 : Int) <= (if b = true then (1 : Int) else 0) /\ (if b = true then (1 : Int) else 0) < 2 ^ 63 /\ 1 * (if b = true then (1 : Int) else 0).toNat <= sizeLine := fun b => by
     cases b
     . exact ⟨by decide, by decide, Nat.zero_le _⟩
     . exact ⟨by decide, by decide, z1⟩
   have ok : (Cv.mk r y l m).Ok := ⟨fr.r1, fr.r2, fr.l1, fr.l2, fr.m1, fr.m2⟩
   have r1 := fr.r1; have r2 := fr.r2; have l1 := fr.l1; have l2 := fr.l2
   refine ⟨fun σ' H' => H' = H /\ σ' = [some (.ref d), some (.int sg), some (.ref rq), some (.int i), some (.int t), some (.int b), none, none, none, none, none], ?_, ?_⟩
   . exact ⟨_, rfl, rq, _, rfl, SqT.of erq, rfl, _, _, rfl, _, _, rfl, rfl, rfl, rfl⟩
   rintro σ' H1 ⟨rfl, rfl⟩
   refine ⟨fun σ' H' => ∃ L, Same H1 H' /\ Y7 t b (0 - L) /\ -501 <= L /\ L <= 501 /\ σ' = [some (.ref d), some (.int sg), some (.ref rq), some (.int i), some (.int t), some (.int b), some (.int L), none, none, none, none], ?_, ?_⟩
   . exact ⟨_, rfl, _, rfl, t, b, rfl, ht, hb, fun L H' ld a c s' => ⟨L, s', ld, a, c, rfl⟩⟩
   rintro σ' H2 ⟨L, t2, ld, La, Lb, rfl⟩
   have ow2 := ow.same t2
   have fb : -600 <= Cv.fin ⟨r, y, l, m⟩ L /\ Cv.fin ⟨r, y, l, m⟩ L <= 600 := by
     unfold Cv.fin Y2
     dsimp only
     split <;> omega
   have wr := D5g (s1 := 0 - L) (s2 := 0 - Cv.fin ⟨r, y, l, m⟩ L) (r := r) ht.sz hb.sz ld r1 (by
     unfold Cv.fin Y2
     dsimp only
     split <;> omega)
   have k := k L
   unfold Y9 at k
   refine ⟨fun σ' H' => H' = H2 /\ σ' = [some (.ref d), some (.int sg), some (.ref rq), some (.int i), some (.int t), some (.int b), some (.int L), some (.int (Cv.fin ⟨r, y, l, m⟩ L)), none, none, none], ?_, ?_⟩
   . exact ⟨_, rfl, _, rfl, d, _, rfl, ow2.gRoom, _, _, rfl, rfl, _, _, rfl, rfl, _, rfl, d, _, rfl, ow2.gLowest, _, _, rfl, rfl, rfl⟩
   rintro σ' H3 ⟨rfl, rfl⟩
   generalize Cv.fin ⟨r, y, l, m⟩ L = q at *
   have c1 := (mx q).2 (by omega)
   have c1' := (mx q).1
   have c2 := (mx (0 - q)).2 (by omega)
   have c2' := (mx (0 - q)).1
   refine ⟨fun σ' H' => H' = H3 /\ σ' = [some (.ref d), some (.int sg), some (.ref rq), some (.int i), some (.int t), some (.int (b * B5 (-(0 - q)))), some (.int L), some (.int q), none, none, none], ?_, ?_⟩
   . refine ⟨_, rfl, _, rfl, _, _, rfl, _, tn (e := Y2 0 q) c1', by omega, _, _, rfl, rfl, A9c hb.sz (s := Y2 0 q) (by omega), rfl, ?_⟩
     show [some (V.ref d), some (.int sg), some (.ref rq), some (.int i), some (.int t), some (.int (b * B5 (Y2 0 q))), some (.int L), some (.int q), none, none, none] = _
     rw [A1b, show -(0 - q) = q by omega]
   rintro σ' H4 ⟨rfl, rfl⟩
   have lp : 0 < b * B5 (-(0 - q)) := Int.mul_pos (by have := hb.1; omega) (U6 _)
   have ll := J1u hb.sz (s := -(0 - q)) (by omega)
   have hm : t * B5 (0 - q) % (b * B5 (-(0 - q))) = t * B5 (0 - q) - whI t b (0 - q) * (b * B5 (-(0 - q))) := by
     unfold whI
     rw [Int.emod_def, Int.mul_comm (b * B5 (-(0 - q)))]
   have lf0 := (U2j (t := t) (s := 0 - q) (show 0 < b by have := hb.1; omega)).1
   refine ⟨fun σ' H' => Same H1 H' /\ σ' = [some (.ref d), some (.int sg), some (.ref rq), some (.int i), some (.int t), some (.int (b * B5 (-(0 - q)))), some (.int L), some (.int q), some (.int (whI t b (0 - q))), some (.int (t * B5 (0 - q) - whI t b (0 - q) * (b * B5 (-(0 - q))))), none], ?_, ?_⟩
   . refine ⟨_, rfl, _, rfl, _, _, rfl, rfl, _, _, rfl, _, tn (e := Y2 0 (0 - q)) c2', by omega, _, _, rfl, rfl, A9c ht.sz (s := Y2 0 (0 - q)) (by omega), _, rfl, _, _, rfl, ⟨lp, ll⟩, fun p np => ?_⟩
     have e1 : t * ((10 ^ (Y2 0 (0 - q)).toNat : Nat) : Int) = t * B5 (0 - q) := congrArg (t * ·) (A1b _)
     rw [e1] at *
     rw [hm]
     exact ⟨p, _, rfl, SqT.of A8, rfl, _, _, rfl, _, _, rfl, rfl, t2.trans (Same.upd np), rfl⟩
   rintro σ' H5 ⟨t5, rfl⟩
   unfold ptI at k
   generalize t * B5 (0 - q) - whI t b (0 - q) * (b * B5 (-(0 - q))) = lf at *
   generalize b * B5 (-(0 - q)) = lo at *
   generalize whI t b (0 - q) = wh at *
   have ow5 := ow.same t5
   generalize hft : decide (L < l) = ft
   refine ⟨fun σ' H' => ∃ a, Same H1 H' /\ H' a = some (.lst ((A3k "faint" ft).map V.str)) /\ σ' = [some (.ref d), some (.int sg), some (.ref rq), some (.int i), some (.int t), some (.int lo), some (.int L), some (.int q), some (.int wh), some (.int lf), some (.ref a)], ?_, ?_⟩
   . refine ⟨z1, fun a1 n1 => ⟨_, rfl, _, rfl, d, _, rfl, (ow5.same (Same.upd n1)).gLeast, _, _, rfl, rfl, .inr ⟨_, rfl, a1, _, _, rfl, rfl, A8, (kb (decide (L < l))).1, (kb (decide (L < l))).2.1, (kb (decide (L < l))).2.2, fun a2 n2 => ?_⟩⟩⟩
     rw [Z3e]
     exact ⟨a2, t5.trans ((Same.upd n1).trans (Same.upd n2)), by rw [A8, hft], rfl⟩
   rintro σ' H6 ⟨a, t6, ea, rfl⟩
   have ow6 := ow.same t6
   refine ⟨fun σ' H' => ∃ a f p, ∃ zs : List Str, Same H1 H' /\ H' a = some (.lst (zs.map V.str)) /\ zs.length <= 4 /\ (lf = 0 -> f = wh /\ p = q /\ zs = A3k "faint" ft) /\ (0 < lf -> (f, p) = V2 ⟨r, y, l, m⟩ sg wh (G2 lf lo) q i /\ ∀ z, z ∈ zs ↔ z ∈ Z7 (G2 lf lo) (decide (p > i)) ++ Z6 l L (G2 lf lo)) /\ σ' = [some (.ref d), some (.int sg), some (.ref rq), some (.int i), some (.int t), some (.int lo), some (.int L), some (.int p), some (.int f), some (.int lf), some (.ref a)], ?_, ?_⟩
   . refine ⟨_, rfl, _, _, rfl, rfl, _, rfl, G8 (fun hp => ?_) (fun hp => ?_)⟩
     . have hp : 0 < lf := hp
       have hpt := G4x hp lp
       refine ⟨fun σ' H' => ∃ a, Same H1 H' /\ H' a = some (.lst ((A3k "faint" ft ++ (["off", "cut"] : List Str) ++ A3k "sunk" ft).map V.str)) /\ σ' = [some (.ref d), some (.int sg), some (.ref rq), some (.int i), some (.int t), some (.int lo), some (.int L), some (.int q), some (.int wh), some (.int lf), some (.ref a)], ?_, ?_⟩
       . have q2 := B2j "faint" ft
         refine ⟨_, rfl, z2, fun a3 n3 => ?_⟩
         have u3 := Same.upd (o := .lst [.str "off", .str "cut"]) n3
         refine ⟨a, a3, _, _, rfl, rfl, u3 _ _ ea, A8, C6 (by rw [List.length_map]; show _ + 2 <= _; omega), fun a4 n4 => ⟨z1, fun a5 n5 => ?_⟩⟩
         have u4 := Same.upd (o := .lst ((A3k "faint" ft).map V.str ++ [.str "off", .str "cut"])) n4
         have u5 := Same.upd (o := .lst [.str "sunk"]) n5
         have ea5 := ((u3.trans u4).trans u5) _ _ ea
         refine ⟨_, rfl, a, _, rfl, .inl (SqL.of ea5), a5, _, _, rfl, rfl, A8, ?_, ?_, ?_, fun a6 n6 => ?_⟩
         . rw [List.length_map]; omega
         . rw [List.length_map]; omega
         . rw [List.length_map]; show 1 * _ <= _; exact Nat.le_trans (by omega) z1
         . rw [Y8z]
           have u6 := Same.upd (o := .lst ((A3k "sunk" ft).map V.str)) n6
           have q3 := B2j "sunk" ft
           refine ⟨a4, a6, _, _, rfl, rfl, (u5.trans u6) _ _ A8, A8, C6 (by rw [List.length_append, List.length_map, List.length_map]; show _ + 2 + _ <= _; omega), fun a7 n7 => ?_⟩
           refine ⟨a7, t6.trans ((u3.trans u4).trans ((u5.trans u6).trans (Same.upd n7))), ?_, rfl⟩
           rw [A8, List.map_append, List.map_append]
           rfl
       rintro σ' H7 ⟨a, t7, ea, rfl⟩
       have ow7 := ow.same t7
       refine ⟨fun σ' H' => Same H1 H' /\ H' a = some (.lst ((A3k "faint" ft ++ (["off", "cut"] : List Str) ++ A3k "sunk" ft).map V.str)) /\ σ' = [some (.ref d), some (.int sg), some (.ref rq), some (.int i), some (.int t), some (.int lo), some (.int L), some (.int q), some (.int (upI y sg wh (G2 lf lo))), some (.int lf), some (.ref a)], ?_, ?_⟩
       . refine ⟨_, rfl, d, _, rfl, ow7.gWay, _, rfl, _, rfl, _, _, rfl, rfl, d10.1, _, rfl, _, rfl, y, sg, wh % 10, lf, lo, rfl, Int.emod_nonneg _ (by decide), by have := Int.emod_lt_of_pos wh (by decide : (0 : Int) < 10); omega, hp, fun H8 s8 => ⟨_, rfl, ?_⟩⟩
         have eu : upI y sg wh (G2 lf lo) = if y.goes sg (wh % 10) (G2 lf lo) = true then wh + 1 else wh := by
           unfold upI
           rw [if_neg hpt]
         rw [eu]
         cases y.goes sg (wh % 10) (G2 lf lo) with
         | true =>
           refine V8 ⟨_, ?_, fun _ _ h => h⟩
           exact ⟨_, rfl, _, _, rfl, rfl, t7.trans s8, s8 _ _ ea, rfl⟩
         | false => exact G7 ⟨t7.trans s8, s8 _ _ ea, rfl⟩
       rintro σ' H8 ⟨t8, ea8, rfl⟩
       have ow8 := ow.same t8
       have en : V2 ⟨r, y, l, m⟩ sg wh (G2 lf lo) q i = A9q r (upI y sg wh (G2 lf lo)) q := by unfold V2; rw [if_neg hpt]
       rw [en]
       generalize upI y sg wh (G2 lf lo) = v
       refine ⟨fun σ' H' => H' = H8 /\ σ' = [some (.ref d), some (.int sg), some (.ref rq), some (.int i), some (.int t), some (.int lo), some (.int L), some (.int (A9q r v q).2), some (.int (A9q r v q).1), some (.int lf), some (.ref a)], ?_, ?_⟩
       . unfold A9q
         refine ⟨_, rfl, _, rfl, d, _, rfl, ow8.gRoom, _, tn (e := r) (by omega), by omega, rfl, _, rfl, G8 (fun e => ?_) (fun e => ?_)⟩
         . have e : v = B5 r := V.int.inj e
           rw [if_pos e]
           refine ⟨fun σ' H' => H' = H8 /\ σ' = [some (.ref d), some (.int sg), some (.ref rq), some (.int i), some (.int t), some (.int lo), some (.int L), some (.int q), some (.int (v / 10)), some (.int lf), some (.ref a)], ⟨_, rfl, _, _, rfl, rfl, d10, rfl, rfl⟩, ?_⟩
           rintro σ' H9 ⟨rfl, rfl⟩
           refine ⟨_, ?_, fun _ _ h => h⟩
           exact ⟨_, rfl, _, _, rfl, rfl, rfl, rfl⟩
         . have e : ¬ v = B5 r := fun z => e (congrArg V.int z)
           rw [if_neg e]
           exact ⟨rfl, rfl⟩
       rintro σ' H9 ⟨rfl, rfl⟩
       have q2 := B2j "faint" ft
       have q3 := B2j "sunk" ft
       exact ⟨a, _, _, _, t8, ea8, by rw [List.length_append, List.length_append]; show _ + 2 + _ <= _; omega, fun z => absurd z (by omega), fun _ => ⟨rfl, fun z => by rw [<- hft]; exact V2s hpt z⟩, rfl⟩
     . have hp : lf = 0 := by
         have : ¬ lf > 0 := hp
         omega
       exact ⟨a, wh, q, _, t6, ea, Nat.le_trans (B2j _ _) (by decide), fun _ => ⟨rfl, rfl, rfl⟩, fun z => absurd z (by omega), rfl⟩
   rintro σ' H7 ⟨a, f, p, zs, t7, ea7, lz, h0, h1, rfl⟩
   refine ⟨fun σ' H' => H' = H7 /\ σ' = [some (.ref d), some (.int sg), some (.ref rq), some (.int i), some (.int t), some (.int lo), some (.int L), some (.int (V2 ⟨r, y, l, m⟩ sg wh (G2 lf lo) q i).2), some (.int (V2 ⟨r, y, l, m⟩ sg wh (G2 lf lo) q i).1), some (.int lf), some (.ref a)], ?_, ?_⟩
   . refine B6j (fun σ H3 => H3 = H7 /\ ∃ f p : Int, (lf = 0 -> Z1 i f p = Z1 i wh q) /\ (0 < lf -> (f, p) = V2 ⟨r, y, l, m⟩ sg wh (G2 lf lo) q i) /\ σ = [some (.ref d), some (.int sg), some (.ref rq), some (.int i), some (.int t), some (.int lo), some (.int L), some (.int p), some (.int f), some (.int lf), some (.ref a)]) (fun σ _ => match σ with | _ :: _ :: _ :: _ :: _ :: _ :: _ :: some (.int p) :: _ => (i - p).toNat | _ => 0) ?_ ?_ ?_
     . exact ⟨rfl, f, p, fun z => by obtain ⟨e1, e2, _⟩ := h0 z; rw [e1, e2], fun z => (h1 z).1, rfl⟩
     . rintro σ H3 ⟨rfl, f, p, e, e', rfl⟩
       refine ⟨_, rfl, rfl, _, rfl, G8 (fun hl => ?_) (fun hl => G7 ⟨rfl, by rw [<- e' (by have : ¬ lf = 0 := fun z => hl (congrArg V.int z); omega)]⟩)⟩
       have hl : lf = 0 := V.int.inj hl
       have en : V2 ⟨r, y, l, m⟩ sg wh (G2 lf lo) q i = Z1 i wh q := by unfold V2; rw [if_pos (D4s hl lp)]
       rw [en]
       have e := e hl
       have stop : ¬ (p < i /\ f % 10 = 0) -> (f, p) = Z1 i wh q := fun h => by rw [<- e, C3s h]
       refine ⟨_, rfl, _, rfl, _, _, rfl, rfl, _, rfl, G8 (fun h1 => ?_) (fun h1 => G7 ⟨rfl, by rw [<- stop fun q => h1 q.1]⟩)⟩
       refine ⟨_, rfl, _, _, rfl, rfl, d10.1, rfl, _, rfl, G8 (fun h2 => ?_) (fun h2 => ⟨rfl, by rw [<- stop fun q => h2 (congrArg V.int q.2)]⟩)⟩
       have h1 : p < i := h1
       have h2 : f % 10 = 0 := by injection h2
       refine ⟨fun σ' H' => H' = H3 /\ σ' = [some (.ref d), some (.int sg), some (.ref rq), some (.int i), some (.int t), some (.int lo), some (.int L), some (.int p), some (.int (f / 10)), some (.int lf), some (.ref a)], ⟨_, rfl, _, _, rfl, rfl, d10, rfl, rfl⟩, ?_⟩
       rintro σ' H4 ⟨rfl, rfl⟩
       refine ⟨fun σ' H' => H' = H4 /\ σ' = [some (.ref d), some (.int sg), some (.ref rq), some (.int i), some (.int t), some (.int lo), some (.int L), some (.int (p + 1)), some (.int (f / 10)), some (.int lf), some (.ref a)], ⟨_, rfl, _, _, rfl, rfl, rfl, rfl⟩, ?_⟩
       rintro σ' H5 ⟨rfl, rfl⟩
       refine ⟨⟨rfl, f / 10, p + 1, fun _ => (C3g h1 h2).symm.trans e, fun z => absurd z (by omega), rfl⟩, ?_⟩
       show (i - (p + 1)).toNat < (i - p).toNat
       omega
     . rintro σ H3 Q1 Q2 hQ ⟨v1, e1, e1', c, ec, q⟩
       refine ⟨v1, e1, e1', c, ec, ?_⟩
       cases c with
       | false => exact G7 (hQ _ _ (by simpa using q))
       | true =>
         rw [if_pos rfl] at q ⊢
         obtain ⟨v1, e, v2, e2, a, b, e3, e4, c, e5, q⟩ := q
         refine ⟨v1, e, v2, e2, a, b, e3, e4, c, e5, ?_⟩
         cases c with
         | false => exact G7 (hQ _ _ (by simpa using q))
         | true =>
           rw [if_pos rfl] at q ⊢
           obtain ⟨v3, e6, a2, b2, e7, e8, e9, e10, e11, e12, q⟩ := q
           exact ⟨v3, e6, a2, b2, e7, e8, e9, e10, e11, e12, hQ _ _ q⟩
   rintro σ' H8 ⟨rfl, rfl⟩
   have sm := C3v (c := ⟨r, y, l, m⟩) (s := sg) (pt := G2 lf lo) (q := q) (i := i) ok wr.1 wr.2
   have nn : 0 <= (V2 ⟨r, y, l, m⟩ sg wh (G2 lf lo) q i).1 := by
     unfold V2
     split
     . exact (B5y i (i - q).toNat wh q wr.1).1
     . have hu : 0 <= upI y sg wh (G2 lf lo) := by
         unfold upI
         generalize (if G2 lf lo = 0 then false else y.goes sg (wh % 10) (G2 lf lo)) = g
         cases g with
         | true => show 0 <= wh + 1; omega
         | false => exact wr.1
       generalize upI y sg wh (G2 lf lo) = u at hu
       unfold A9q
       split
       . show 0 <= u / 10; omega
       . exact hu
   have k0 : ∀ q' zs H', Same H1 H' -> U2d H' q' _ zs -> zs.length <= 10 -> _ -> Q (.ref q') H' := fun q' zs H' => k q' zs H' ld
   unfold A3u at k0
   have hn : 0 < lf -> (f, p) = ((V2 ⟨r, y, l, m⟩ sg wh (G2 lf lo) q i).1, (V2 ⟨r, y, l, m⟩ sg wh (G2 lf lo) q i).2) := fun z => (h1 z).1
   generalize (V2 ⟨r, y, l, m⟩ sg wh (G2 lf lo) q i).1 = f' at *
   generalize (V2 ⟨r, y, l, m⟩ sg wh (G2 lf lo) q i).2 = p' at *
   have lg : f'.natAbs.log2 < 1920 := Nat.lt_trans (A5r sm (by decide)) (by decide)
   refine ⟨fun σ' H' => ∃ a, ∃ zs : List Str, Same H1 H' /\ H' a = some (.lst (zs.map V.str)) /\ zs.length <= 5 /\ (∀ z, z ∈ zs ↔ z ∈ Z7 (G2 lf lo) (decide (p' > i)) ++ Z6 l L (G2 lf lo)) /\ σ' = [some (.ref d), some (.int sg), some (.ref rq), some (.int i), some (.int t), some (.int lo), some (.int L), some (.int p'), some (.int f'), some (.int lf), some (.ref a)], ?_, ?_⟩
   . refine ⟨_, rfl, rfl, _, rfl, G8 (fun hl => ?_) (fun hl => G7 ?_)⟩
     . have hl : lf = 0 := V.int.inj hl
       obtain ⟨_, _, ez⟩ := h0 hl
       subst ez
       rw [D4s hl lp]
       have q2 := B2j "faint" ft
       refine ⟨_, rfl, _, rfl, _, _, rfl, rfl, _, rfl, G8 (fun hc => ?_) (fun hc => ⟨a, _, t7, ea7, by omega, fun z => ?_, rfl⟩)⟩
       . refine ⟨_, ?_, fun _ _ h => h⟩
         refine ⟨_, rfl, z1, fun a1 n1 => ⟨a, a1, _, _, rfl, rfl, (Same.upd n1) _ _ ea7, A8, C6 (by rw [List.length_map]; show _ + 1 <= _; omega), fun a2 n2 => ⟨a2, A3k "faint" ft ++ A3k "cut" true, t7.trans ((Same.upd n1).trans (Same.upd n2)), by rw [A8, List.map_append]; rfl, by rw [List.length_append]; show _ + 1 <= _; omega, fun z => ?_, rfl⟩⟩⟩
         rw [decide_eq_true hc, <- hft]
         exact U2n z
       . rw [decide_eq_false hc, <- hft]
         have := U2n (l := l) (L := L) (cut := false) z
         rw [<- this]
         simp [A3k]
     . have hl : 0 < lf := by
         have : ¬ lf = 0 := fun z => hl (congrArg V.int z)
         omega
       have e2 := hn hl
       have ep : p = p' := (Prod.mk.inj e2).2
       exact ⟨a, zs, t7, ea7, by omega, by rw [<- ep]; exact (h1 hl).2, rfl⟩
   clear h0 h1 hn
   rintro σ' H9 ⟨a, zs, t9, ea9, lz9, hz, rfl⟩
   have ow9 := ow.same t9
   refine ⟨fun σ' H' => H' = H9 /\ A1y m f' p' = false /\ σ' = [some (.ref d), some (.int sg), some (.ref rq), some (.int i), some (.int t), some (.int lo), some (.int L), some (.int p'), some (.int f'), some (.int lf), some (.ref a)], ?_, ?_⟩
   . refine ⟨_, rfl, _, _, rfl, rfl, _, rfl, G8 (fun h => ?_) (fun h => G7 ⟨rfl, ?_, rfl⟩)⟩
     . have h : f' > 0 := h
       have eb : A1y m f' p' = decide (p' + C3x f' - 1 > m) := by unfold A1y; rw [if_neg (by omega)]
       rw [eb] at k0
       refine ⟨_, rfl, _, rfl, _, rfl, lg, _, rfl, int_text_fits lg, _, _, rfl, rfl, _, _, rfl, rfl, _, rfl, d, _, rfl, ow9.gMost, _, _, rfl, rfl, _, rfl, G8 (fun h2 => ?_) (fun h2 => ⟨rfl, by rw [eb]; exact decide_eq_false h2, rfl⟩)⟩
       rw [decide_eq_true (show p' + C3x f' - 1 > m from h2), if_pos rfl] at k0
       refine ⟨_, rfl, _, rfl, d, u, tt, r, y, l, m, up, tr, sg, rfl, ow9, fr, s0, s1, fun q' H' s' eq' => ⟨z3, fun a1 n1 => ⟨z2, fun a2 n2 => ?_⟩⟩⟩
       have u1 := Same.upd (o := .lst [.str "burst", .str "off", .str "cut"]) n1
       have u2 := Same.upd (o := .tup [.ref q', .ref a1]) n2
       exact k0 a2 ["burst", "off", "cut"] _ (t9.trans (s'.trans (u1.trans u2))) ⟨q', a1, A8, (u1.trans u2) _ _ eq', u2 _ _ A8⟩ (by show 3 <= 10; decide) fun z => Iff.rfl
     . have h : ¬ f' > 0 := h
       unfold A1y
       rw [if_pos (by omega)]
   rintro σ' H10 ⟨rfl, e, rfl⟩
   rw [e, if_neg Bool.false_ne_true] at k0
   refine ⟨_, rfl, _, rfl, _, rfl, z4, fun t1 n1 => ⟨_, rfl, z2, fun q' nq => ?_⟩⟩
   have u1 := Same.upd (o := .tup (Nm.vs ⟨.plain, sg, f', p'⟩)) n1
   have u2 := Same.upd (o := .tup [.ref t1, .ref a]) nq
   exact k0 q' zs _ (t9.trans (u1.trans u2)) ⟨t1, a, A8, u2 _ _ A8, (u1.trans u2) _ _ ea9⟩ (by omega) hz
end
def A5w (v : Cv) (s i : Int) : Nm := ⟨.plain, s, 0, J1b (Y2 i (v.l - v.r + 1)) v.m⟩
theorem Ends2.same {CN CC CT : Addr} {H H1 : Hp} {c : Addr} {v : Cv} {b : Addr} {xs ys : List Str} {res : Nm × List Str} {Q : VK} {E : XK} (k : Ends2 CN CC CT H c v b xs ys res Q E) (s : Same H H1) : Ends2 CN CC CT H1 c v b xs ys res Q E :=
 ⟨fun hn m a' H' x => k.1 hn m a' H' ((Exc.of s).trans x), fun z hz a' d H' x => k.2 z hz a' d H' ((Exc.of s).trans x)⟩
theorem U2y (tr : List Str) : hit tr [] = none := by
 unfold hit
 rw [List.find?_eq_none]
 simp
theorem Ends2.calm {CN CC CT : Addr} {H H1 : Hp} {c n a : Addr} {v : Cv} {b : Addr} {xs ys : List Str} {x : Nm} {Q : VK} {E : XK} (k : Ends2 CN CC CT H c v b xs ys (x, []) Q E) (ox : V3 xs = xs) (s : Same H H1) (hc : CtxV CC H c v a b xs ys) (hn : NumIs CN H1 n x) : Q (.ref n) H1 :=
 k.1 (U2y _) n a H1 (Exc.of s) (by show CtxV CC H1 c v a b (V3 (xs ++ [])) ys; rw [List.append_nil, ox]; exact hc.same s) hn
deriving instance DecidableEq for Kd
abbrev A2r : Stmt := (top 38)
abbrev A2w : Stmt := (top 39)
abbrev A2x : Stmt := (top 40)
theorem C2f (s : Int) : whI 0 1 s = 0 /\ ptI 0 1 s = 0 := by
 have h : whI 0 1 s = 0 := by unfold whI; rw [Int.zero_mul, Int.zero_ediv]
 refine ⟨h, ?_⟩
 unfold ptI
 rw [h, Int.zero_mul, Int.zero_mul]
 exact D4s rfl (by rw [Int.one_mul]; exact U6 _)
def A4f (v : Cv) (x : Nm) : Nm := if x.k = .plain /\ x.p < 0 then ⟨.plain, x.s, upI v.y x.s (whI x.f 1 x.p) (ptI x.f 1 x.p), 0⟩ else x
def A9e (v : Cv) (x : Nm) (L : Int) : Nm × List Str := if x.k = .plain then (if x.f = 0 then (A5w v x.s 0, []) else Y9 v x.s x.f 1 x.p L 1000) else (x, [])
section
variable {P : Program} {w : World} {K : Frag} {mg : Str -> Option Value} {base : Heap}
def D2f (CN : Addr) : Sp := fun vs H Q _ => ∃ n x, ∃ q : Int, vs = [.ref n, .int q] /\ NumIs CN H n x /\ x.Ok /\ -1500 <= x.p - q /\ x.p - q <= 1500 /\ ∀ t H', Same H H' -> H' t = some (.tup [.int (whI x.f 1 (x.p - q)), .int (ptI x.f 1 (x.p - q))]) -> Q (.ref t) H'
theorem U5y : FnScope ["number", "power"] ["number", "power"] (A1 A2r) := scK
theorem J1c {f fR CN CR CE g1 g2 : Addr} {fd fdR gd1 gd2 : FuncData} {d0 : Value} {gP : List Value -> List Value -> List Value} {vP : List V -> List V -> List V} (D : Def K mg "parts_at" ["number", "power"] A2r f fd) (N : Num K mg CN) (MR : MakeR P w K mg base CR fR fdR d0 gP vP) (R : RatC K mg CR CE) (RM : RatM P w K mg base CR g1 g2 gd1 gd2) :
   FnOk P w K mg base (CX1 P w) 4 f fd ["number", "power"] (D2f CN) := by
 refine D.F.okE U5y (fun vs H Q E h => ?_) (fun X cdv A outer s H vs Q E hX hr hx h => ?_)
 . obtain ⟨n, x, q, rfl, _⟩ := h
   rfl
 . subst hX
   obtain ⟨n, x, q, rfl, num, ok, q0, q1, k⟩ := h
   refine ⟨_, (A9 (B7 (A1a (C5 D5 (G0 (pv 0) rfl) A3 (B9 _)) (V1 (A0 A3 (A0 A3 A7))) (B6m (B5t MR.m MR.g hr R.g MR.b3 .nil hx (A0 (G0 (pv 0) rfl) (A0 A3 (A0 (G0 (pv 0) rfl) A7)))) R.cl RM.m2 RM.g2 hr RM.b2 .nil hx (A0 (pv 1) A7))))), ?_⟩
   have z2 : 2 <= sizeLine := C6 (by decide)
   obtain ⟨dn, en⟩ := id num
   refine ⟨_, rfl, n, CN, dn, _, _, rfl, en, N.cl, N.n3, J1t _ _ _ _, rfl, _, rfl, G8 (fun h => ?_) (fun h => ?_)⟩
   . have h : x.f = 0 := V.int.inj h
     rw [h, (C2f _).1, (C2f _).2] at k
     exact ⟨z2, fun t nt => k t _ (Same.upd nt) A8⟩
   . have h : ¬ x.f = 0 := fun z => h (congrArg V.int z)
     have z1 : Sz x.f := D5t ok.f0 h ok.f1
     refine ⟨_, rfl, n, CN, dn, _, _, rfl, en, N.cl, N.n3, J1t _ _ _ _, _, rfl, n, CN, dn, _, _, rfl, en, N.cl, N.n4, U5p _ _ _ _, fun r dr m1 m2 me => Z1g m1 m2 me fun H1 s1 ra => ⟨rfl, ?_⟩⟩
     obtain ⟨dr', er⟩ := id ra
     exact ⟨r, dr', _, rfl, er, B7n _ _ _, _, rfl, r, x.f, 1, x.p, q, rfl, ra, z1, B7q, q0, q1, fun t H2 s2 nt et => k t H2 (s1.trans s2) et⟩
def D2c (CN CC : Addr) : Sp := fun vs H Q _ => ∃ c v a b xs ys n x, vs = [.ref c, .ref n] /\ CtxV CC H c v a b xs ys /\ NumIs CN H n x /\ x.Ok /\ ∀ n' H', Same H H' -> NumIs CN H' n' (A4f v x) -> Q (.ref n') H'
theorem U3x : FnScope ["context", "one"] ["context", "one"] (A1 A2w) := scK
theorem J1r {f f1 f2 f3 fI CN CC CB' : Addr} {fd fd1 fd2 fd3 fdI : FuncData} (D : Def K mg "to_whole" ["context", "one"] A2w f fd) (D_need_number : Def K mg "need_number" ["thing"] A5t f1 fd1) (G_need_number : FnOk P w K mg base (CX1 P w) 1 f1 fd1 ["thing"] (D6g K CN CB'))
   (D_neighbour : Def K mg "neighbour" ["context", "sign", "pair"] Y0 f2 fd2) (G_neighbour : FnOk P w K mg base (CX1 P w) 3 f2 fd2 ["context", "sign", "pair"] (A8x CC)) (D_parts_at : Def K mg "parts_at" ["number", "power"] A2r f3 fd3) (G_parts_at : FnOk P w K mg base (CX1 P w) 4 f3 fd3 ["number", "power"] (D2f CN)) (N : Num K mg CN) (M : MakeN P w K mg base CN fI fdI) :
   FnOk P w K mg base (CX1 P w) 5 f fd ["context", "one"] (D2c CN CC) := by
 refine D.F.okE U3x (fun vs H Q E h => ?_) (fun X cdv A outer s H vs Q E hX hr hx h => ?_)
 . obtain ⟨c, v, a, b, xs, ys, n, x, rfl, _⟩ := h
   rfl
 . subst hX
   obtain ⟨c, v, a, b, xs, ys, n, x, rfl, hc, num, ok, k⟩ := h
   refine ⟨_, (A6 (Y8 (C8 D_need_number G_need_number hr hx (A0 (pv 1) A7)))
     (A6 (G4 (PW.pt (B6a (C5 C2d (G0 (pv 1) rfl) B0 (B9 _)) (A5n (C5 G5h (G0 (pv 1) rfl) A3 (B9 _))))) (A9 (B7 (pv 1))) C7)
     (A9 (B7 (B5t M.m (FnOk.up M.g) hr N.g M.b .nil hx (A0 B0 (A0 (G0 (pv 1) rfl) (A0 (C8 D_neighbour G_neighbour hr hx (A0 (pv 0) (A0 (G0 (pv 1) rfl) (A0 (C8 D_parts_at G_parts_at hr hx (A0 (pv 1) (A0 A3 A7))) A7)))) (A0 A3 A7))))))))), ?_⟩
   obtain ⟨dn, en⟩ := id num
   unfold A4f at k
   have same : ¬ (x.k = .plain /\ x.p < 0) -> Q (.ref n) H := fun h => by
     rw [if_neg h] at k
     exact k n H (Same.refl _) num
   refine ⟨_, rfl, _, rfl, Or.inl ⟨n, _, _, _, _, rfl, num, ?_⟩⟩
   refine ⟨_, rfl, n, CN, dn, _, _, rfl, en, N.cl, N.n1, Z2a _ _ _ _, rfl, _, rfl, ?_⟩
   by_cases hk : x.k = .plain
   . refine B6e (by rw [hk]; rfl) ⟨_, rfl, n, CN, dn, _, _, rfl, en, N.cl, N.n4, U5p _ _ _ _, _, _, rfl, rfl, _, rfl, G8 (fun hp => ?_) (fun hp => ?_)⟩
     . have hp : x.p >= 0 := hp
       exact ⟨_, rfl, same fun z => by have := z.2; omega⟩
     . have hp : ¬ x.p >= 0 := hp
       rw [if_pos ⟨hk, by omega⟩] at k
       have p0 := ok.p0
       refine ⟨_, rfl, n, CN, dn, _, _, rfl, en, N.cl, N.n2, V1c _ _ _ _, _, rfl, _, rfl, n, CN, dn, _, _, rfl, en, N.cl, N.n2, V1c _ _ _ _, _, rfl, n, x, 0, rfl, num, ok, by omega, by omega, fun t H1 s1 et => ?_⟩
       rw [Int.sub_zero] at et
       refine ⟨c, v, a, b, xs, ys, t, x.s, _, _, rfl, hc.same s1, et, fun H2 s2 => ?_⟩
       exact C4v fun n' H3 nn s3 num' => k n' H3 (s1.trans (s2.trans s3)) num'
   . exact C4r (fun z => hk (eqS (b := .plain) z)) (V8 ⟨_, rfl, same fun z => hk z.1⟩)
def D1z (CN CC CT : Addr) : Sp := fun vs H Q E => ∃ c v a b xs ys n x, ∃ L : Int, vs = [.ref c, .ref n] /\ CtxV CC H c v a b xs ys /\ v.Ok /\ xs.length <= 900 /\ V3 xs = xs /\ NumIs CN H n x /\ x.Ok /\ (x.k = .plain -> x.f ≠ 0 -> Y7 x.f 1 (x.p - L)) /\ Ends2 CN CC CT H c v b xs ys (A9e v x L) Q E
theorem U6f : FnScope ["context", "one"] ["context", "one"] (A1 A2x) := scK
theorem J2n {f f1 f2 f3 fR CN CC CB' CT CR CE : Addr} {fd fd1 fd2 fd3 fdR : FuncData} {d0 : Value} {gP : List Value -> List Value -> List Value} {vP : List V -> List V -> List V} {tq : Tok} (D : Def K mg "trimmed" ["context", "one"] A2x f fd) (D_need_number : Def K mg "need_number" ["thing"] A5t f1 fd1) (G_need_number : FnOk P w K mg base (CX1 P w) 1 f1 fd1 ["thing"] (D6g K CN CB'))
   (D_nought : Def K mg "nought" ["context", "sign", "ideal"] A3q f2 fd2) (G_nought : FnOk P w K mg base (CX1 P w) 3 f2 fd2 ["context", "sign", "ideal"] (G6c CN CC)) (D_settled : Def K mg "settled" ["context", "sign", "exact", "ideal"] A3f f3 fd3) (G_settled : FnOk P w K mg base (CX1 P w) 6 f3 fd3 ["context", "sign", "exact", "ideal"] (D3s CN CC CT CR))
   (N : Num K mg CN) (MR : MakeR P w K mg base CR fR fdR d0 gP vP) (R : RatC K mg CR CE) (BQ : mg "BEYOND_ALL_POWERS" = some (.int 1000 tq)) : FnOk P w K mg base (CX1 P w) 7 f fd ["context", "one"] (D1z CN CC CT) := by
 refine D.F.okE U6f (fun vs H Q E h => ?_) (fun X cdv A outer s H vs Q E hX hr hx h => ?_)
 . obtain ⟨c, v, a, b, xs, ys, n, x, L, rfl, _⟩ := h
   rfl
 . subst hX
   obtain ⟨c, v, a, b, xs, ys, n, x, L, rfl, hc, ok, lx, ox, num, xo, hL, k⟩ := h
   refine ⟨_, (A6 (Y8 (C8 D_need_number G_need_number hr hx (A0 (pv 1) A7)))
     (A6 (G4 (C5 C2d (G0 (pv 1) rfl) B0 (B9 _)) (A9 (B7 (pv 1))) C7)
     (A6 (G4 (C5 D5 (G0 (pv 1) rfl) A3 (B9 _)) (A9 (B7 (C8 D_nought G_nought hr hx (A0 (pv 0) (A0 (G0 (pv 1) rfl) (A0 A3 A7)))))) C7)
     (A9 (B7 (C8 D_settled G_settled hr hx (A0 (pv 0) (A0 (G0 (pv 1) rfl) (A0 (B5t MR.m MR.g hr R.g MR.b3 .nil hx (A0 (G0 (pv 1) rfl) (A0 A3 (A0 (G0 (pv 1) rfl) A7)))) (A0 (U3e (v := .int 1000) (by rfl) BQ ⟨_, rfl⟩) A7)))))))))), ?_⟩
   obtain ⟨dn, en⟩ := id num
   unfold A9e at k
   refine ⟨_, rfl, _, rfl, Or.inl ⟨n, _, _, _, _, rfl, num, ?_⟩⟩
   refine ⟨_, rfl, n, CN, dn, _, _, rfl, en, N.cl, N.n1, Z2a _ _ _ _, rfl, _, rfl, ?_⟩
   by_cases hk : x.k = .plain
   . rw [if_pos hk] at k
     refine B6e (by rw [hk]; rfl) ⟨_, rfl, n, CN, dn, _, _, rfl, en, N.cl, N.n3, J1t _ _ _ _, rfl, _, rfl, G8 (fun hf => ?_) (fun hf => ?_)⟩
     . have hf : x.f = 0 := V.int.inj hf
       rw [if_pos hf] at k
       exact ⟨_, rfl, _, rfl, n, CN, dn, _, _, rfl, en, N.cl, N.n2, V1c _ _ _ _, c, v, a, b, xs, ys, x.s, 0, rfl, hc, fun n' H' nn s' num' => k.calm ox s' hc num'⟩
     . have hf : ¬ x.f = 0 := fun z => hf (congrArg V.int z)
       rw [if_neg hf] at k
       have z1 : Sz x.f := D5t xo.f0 hf xo.f1
       have hl := hL hk hf
       have ls := C4e z1 B7q hl
       have p0 := xo.p0; have p1 := xo.p1
       have fn := V0t (v := v) ok ls.1 ls.2 (by omega) (by omega)
       refine ⟨_, rfl, _, rfl, n, CN, dn, _, _, rfl, en, N.cl, N.n2, V1c _ _ _ _, _, rfl, n, CN, dn, _, _, rfl, en, N.cl, N.n3, J1t _ _ _ _, _, rfl, n, CN, dn, _, _, rfl, en, N.cl, N.n4, U5p _ _ _ _, fun r dr m1 m2 me => Z1g m1 m2 me fun H1 s1 ra => ⟨rfl, ?_⟩⟩
       exact ⟨c, v, a, b, xs, ys, r, x.f, 1, x.p, L, x.s, 1000, rfl, hc.same s1, ok, lx, ra, z1, B7q, hl, fn.1, fn.2, xo.s0, xo.s1, k.same s1⟩
   . rw [if_neg hk] at k
     exact C4r (fun z => hk (eqS (b := .plain) z)) ⟨_, rfl, k.calm ox (Same.refl _) hc num⟩
end
theorem U2e (i : Int) : ∀ (n : Nat) (f p : Int), p <= (A9m i n f p).2 /\ (A9m i n f p).2 <= p + n
 | 0, f, p => ⟨Int.le_refl _, by show p <= p + 0; omega⟩
 | n + 1, f, p => by
   unfold A9m
   split
   . have := U2e i n (f / 10) (p + 1)
     constructor <;> omega
   . constructor
     . exact Int.le_refl _
     . show p <= p + ((n + 1 : Nat) : Int)
       omega
theorem Z2x {v : Cv} {s wh pt q i : Int} (ok : v.Ok) (w0 : 0 <= wh) (w1 : wh < B5 v.r) (q0 : -3000 <= q) (q1 : q <= 3000) (i0 : -3000 <= i) (i1 : i <= 3000) :
   0 <= (V2 v s wh pt q i).1 /\ (V2 v s wh pt q i).1 <= 10 ^ 24 /\ -10000 <= (V2 v s wh pt q i).2 /\ (V2 v s wh pt q i).2 <= 10000 := by
 have t24 := D6c ok.r2
 unfold V2
 split
 . have a := B5y i (i - q).toNat wh q w0
   have b := U2e i (i - q).toNat wh q
   unfold Z1
   refine ⟨a.1, by omega, by omega, by omega⟩
 . have hu : 0 <= upI v.y s wh pt /\ upI v.y s wh pt <= wh + 1 := by
     unfold upI
     generalize (if pt = 0 then false else v.y.goes s (wh % 10) pt) = g
     cases g with
     | true => exact ⟨by show 0 <= wh + 1; omega, Int.le_refl _⟩
     | false => exact ⟨w0, by show wh <= wh + 1; omega⟩
   generalize upI v.y s wh pt = u at hu
   unfold A9q
   split
   . exact ⟨by show 0 <= u / 10; omega, by show u / 10 <= 10 ^ 24; omega, by show -10000 <= q + 1; omega, by show q + 1 <= 10000; omega⟩
   . exact ⟨hu.1, by show u <= 10 ^ 24; omega, by show -10000 <= q; omega, by show q <= 10000; omega⟩
theorem A2v {x : Nm} (s0 : 0 <= x.s) (s1 : x.s <= 1) (f0 : 0 <= x.f) (f1 : x.f <= 10 ^ 60) (p0 : -10000 <= x.p) (p1 : x.p <= 10000) : Z9 (A6g x.k.str x.s x.f x.p) := by
 have big : (10 : Int) ^ 60 + 10000 < 10 ^ 61 := by decide +kernel
 have bigN : ((10 ^ 61 : Nat) : Int) = 10 ^ 61 := by decide +kernel
 exact Z9a (by omega) (by omega) (by omega)
theorem D5y {v : Cv} {s wh pt L q i : Int} (ok : v.Ok) (s0 : 0 <= s) (s1 : s <= 1) (w0 : 0 <= wh) (w1 : wh < B5 v.r) (q0 : -3000 <= q) (q1 : q <= 3000) (i0 : -3000 <= i) (i1 : i <= 3000) :
   Z9 (A6g (A3u v s wh pt L q i).1.k.str (A3u v s wh pt L q i).1.s (A3u v s wh pt L q i).1.f (A3u v s wh pt L q i).1.p) := by
 obtain ⟨a, b, c, d⟩ := Z2x (s := s) (pt := pt) ok w0 w1 q0 q1 i0 i1
 have t24 := D6c ok.r2
 have tp := U6 v.r
 have r1 := ok.r1; have r2 := ok.r2; have m1 := ok.m1; have m2 := ok.m2
 have big : (10 : Int) ^ 24 <= 10 ^ 60 := by decide +kernel
 unfold A3u
 split
 . unfold B4a
   dsimp only
   split
   . exact A2v s0 s1 (Int.le_refl _) (by show (0 : Int) <= 10 ^ 60; decide) (by show (-10000 : Int) <= 0; decide) (by show (0 : Int) <= 10000; decide)
   . exact A2v s0 s1 (by show 0 <= B5 v.r - 1; omega) (by show B5 v.r - 1 <= 10 ^ 60; omega) (by show -10000 <= v.m - v.r + 1; omega) (by show v.m - v.r + 1 <= 10000; omega)
 . exact A2v s0 s1 a (Int.le_trans b big) c d
theorem G5d {v : Cv} {s t b n L i : Int} (ok : v.Ok) (s0 : 0 <= s) (s1 : s <= 1) (ht : Sz t) (hb : Sz b) (h : Y7 t b (n - L)) (n0 : -1000 <= n) (n1 : n <= 1000) (i0 : -3000 <= i) (i1 : i <= 3000) :
   Z9 (A6g (Y9 v s t b n L i).1.k.str (Y9 v s t b n L i).1.s (Y9 v s t b n L i).1.f (Y9 v s t b n L i).1.p) := by
 have ls := C4e ht hb h
 have r1 := ok.r1; have r2 := ok.r2; have l1 := ok.l1; have l2 := ok.l2
 have fb : -3000 <= v.fin L /\ v.fin L <= 3000 := by
   unfold Cv.fin Y2
   split <;> omega
 have wr := D5g (s2 := n - v.fin L) ht hb h ok.r1 (by
   unfold Cv.fin Y2
   split <;> omega)
 exact D5y ok s0 s1 wr.1 wr.2 fb.1 fb.2 i0 i1
theorem G5b {v : Cv} {s i : Int} (ok : v.Ok) (s0 : 0 <= s) (s1 : s <= 1) : Z9 (A6g (A5w v s i).k.str (A5w v s i).s (A5w v s i).f (A5w v s i).p) := by
 have r1 := ok.r1; have r2 := ok.r2; have l1 := ok.l1; have l2 := ok.l2; have m1 := ok.m1; have m2 := ok.m2
 have : -10000 <= J1b (Y2 i (v.l - v.r + 1)) v.m /\ J1b (Y2 i (v.l - v.r + 1)) v.m <= 10000 := by
   unfold J1b Y2
   constructor <;> (repeat' split) <;> omega
 exact A2v s0 s1 (Int.le_refl _) (by show (0 : Int) <= 10 ^ 60; decide) this.1 this.2
theorem G5r {cs : List Addr} {c : Addr} {H H1 : Hp} (x : Exc c (U7 cs H) H1) : Exc c H (Y6 cs H H1) := fun b o e n => by
 by_cases hb : b ∈ cs
 . rw [C2x hb]; exact e
 . rw [U5 hb]
   exact x b o (by rw [V7 hb]; exact e) n
theorem CtxAt.back {CC : Addr} {H H' : Hp} {cs : List Addr} {c : Addr} {r : Int} {y : Wy} {l m : Int} {a b : Addr} {xs ys : List V} (h : CtxAt CC H' c r y l m a b xs ys) (hn : ∀ c ∈ cs, H' c = none) : CtxAt CC (Y6 cs H H') c r y l m a b xs ys := by
 obtain ⟨⟨dx, e⟩, ha, hb⟩ := h
 have out : ∀ {p : Addr} {o : HO}, H' p = some o -> p ∉ cs := fun e z => by rw [hn _ z] at e; cases e
 exact ⟨⟨dx, by rw [U5 (out e)]; exact e⟩, by rw [U5 (out ha)]; exact ha, by rw [U5 (out hb)]; exact hb⟩
theorem Ends2.hide {CN CC CT : Addr} {H : Hp} {cs : List Addr} {c : Addr} {v : Cv} {b : Addr} {xs ys : List Str} {res : Nm × List Str} {Q : VK} {E : XK} (k : Ends2 CN CC CT H c v b xs ys res Q E) :
   Ends2 CN CC CT (U7 cs H) c v b xs ys res (fun u H1 => (∀ c ∈ cs, H1 c = none) -> Q u (Y6 cs H H1)) (fun C d H1 => (∀ c ∈ cs, H1 c = none) -> E C d (Y6 cs H H1)) :=
 ⟨fun hn m a' H1 x ct nm no => k.1 hn m a' _ (G5r x) (CtxAt.back ct no) (nm.back no), fun z hz a' d H1 x ct ed no => k.2 z hz a' d _ (G5r x) (CtxAt.back ct no) (by rw [U5 fun q => by rw [no _ q] at ed; cases ed]; exact ed)⟩
theorem D3b {tr zs ws : List Str} (h : ∀ z, z ∈ zs ↔ z ∈ ws) : hit tr zs = hit tr ws := by
 unfold hit
 congr 1
 funext t
 rw [Bool.eq_iff_iff]
 simp [h]
theorem D2g {up zs ws : List Str} (h : ∀ z, z ∈ zs ↔ z ∈ ws) : V3 (up ++ zs) = V3 (up ++ ws) := by
 unfold V3
 refine List.filter_congr fun z _ => ?_
 rw [Bool.eq_iff_iff]
 simp [h]
theorem Y6x {CN CC CT c : Addr} {r : Int} {y : Wy} {l m : Int} {b : Addr} {up tr zs : List Str} {res : Nm × List Str} {H' : Hp} {Qd : VK} {Ed : XK} (hz : ∀ z, z ∈ zs ↔ z ∈ res.2)
   (h1 : ∀ n a' H1, hit tr zs = none -> Exc c H' H1 -> CtxAt CC H1 c r y l m a' b ((V3 (up ++ zs)).map V.str) (tr.map V.str) -> NumIs CN H1 n res.1 -> Qd (.ref n) H1)
   (h2 : ∀ sg d' a' H1, hit tr zs = some sg -> Exc c H' H1 -> CtxAt CC H1 c r y l m a' b ((V3 (up ++ zs)).map V.str) (tr.map V.str) -> H1 d' = some (.xd [("signal", .str sg)]) -> Ed (.ref CT) (some d') H1) :
   Ends2 CN CC CT H' c ⟨r, y, l, m⟩ b up tr res Qd Ed :=
 ⟨fun hn n a' H1 x ct nm => h1 n a' H1 (by rw [D3b hz]; exact hn) x (by rw [D2g hz]; exact ct) nm, fun z hh a' d' H1 x ct ed => h2 z d' a' H1 (by rw [D3b hz]; exact hh) x (by rw [D2g hz]; exact ct) ed⟩
theorem Y9e (ws : List Str) : SubS (V3 ws) := ⟨_, rfl⟩
section
variable {P : Program} {w : World} {K : Frag} {mg : Str -> Option Value} {base : Heap}
variable {CN CC CT P0 : Addr} {pos : Pos} {qual : Str} {sc : Addr} {ns : List Int} {d t c b : Addr} {r : Int} {y : Wy} {l m : Int} {up tr : List Str} {H : Hp} {a u : Addr}
theorem G5v {k : Nat} {params : Arguments} {body : Expr} {scope : Scope} {cl : List (Str × Addr)} {vs : List V} {spd : Hp -> VK -> XK -> Prop} {H3 H4 : Hp} {f q dt dl : Addr} {zs : List Str} {x : Nm} {Q : VK} {E : XK}
   (h : Held CN CC CT P0 pos qual K sc ns d t c b r y l m up tr H a u) (su : SubS up) (st : SubS tr) (sT : SameT P0 H H3) (tab : TabOk P0 pos qual H3) (la : LamAt H3 f qual params body scope cl)
   (hn : ∀ c ∈ cl.map (·.2), H3 c = none) (ho : ∀ b, b ∉ cl.map (·.2) -> H4 b = H3 b) (A4 : AllFrz (cl.map (·.2)) H4) (kn : ∀ (i : Nat) (x : Str) (c : Addr), cl[i]? = some (x, c) -> ∃ v, vs[i]? = some v /\ Knows H4 c v)
   (eq : H3 q = some (.tup [.ref dt, .ref dl])) (et : H3 dt = some (.tup x.vs)) (el : H3 dl = some (.lst (zs.map V.str))) (lz : zs.length <= 100) (ok : Z9 (A6g x.k.str x.s x.f x.p))
   (DO : DeedOk P w K mg base k f (Z3w f qual params body scope cl vs) spd)
   (hD : ∀ H', J1w H H4 -> Exc d H4 H' -> CtxAt CC H' c r y l m a b (up.map V.str) (tr.map V.str) -> V1r CN CC CT c r y l m b up tr zs x spd H')
   (fin : ∀ a' u' H5, Exc2 c d H3 (U7 (cl.map (·.2)) H5) -> Held CN CC CT P0 pos qual K sc ns d t c b r y l m (V3 (up ++ zs)) tr (U7 (cl.map (·.2)) H5) a' u' -> Q (.bl true) H5) :
   B7s P w K mg base k CN CC CT [.ref c, .ref d, .ref f, .ref q] H4 Q E := by
 obtain ⟨ps, eP, _⟩ := h.tab
 have k3 : J1w H H3 := sT.keep eP
 have k34 : ∀ b o, H3 b = some o -> H4 b = some o := fun b o e => by
   rw [ho b fun z => by rw [hn b z] at e; cases e]
   exact e
 have k4 : J1w H H4 := fun b o n e => k34 b o (k3 b o n e)
 obtain ⟨dx, ec⟩ := (h.ctx.keep k4).ins
 have ed := (h.own.keep k4).d
 refine ⟨c, d, f, q, dt, dl, a, b, u, t, r, y, l, m, up, tr, zs, x, _, spd, rfl, h.ctx.keep k4, h.own.keep k4, su, st, k34 _ _ eq, k34 _ _ et, k34 _ _ el, lz, ok, DO, fun H' x' => ?_, fun H' x' => hD H' k4 x', fun a' u' H5 x5 c5 o5 => ?_⟩
 . have nd : ∀ b o, H4 b = some (.frz o (.own b)) -> H' b = some (.frz o (.own b)) := fun b o e => x' _ _ e (J9 e ed (by intro z; cases z))
   refine ⟨(la.kept fun b o e => k34 b _ e).kept nd, fun i x c' hi => ?_⟩
   obtain ⟨v, hv, hk⟩ := kn i x c' hi
   exact ⟨v, hv, hk.kept nd⟩
 . have A5 : AllFrz (cl.map (·.2)) H5 := fun c' hc' => by
     obtain ⟨o, e⟩ := A4 c' hc'
     exact ⟨o, x5 _ _ e (J9 e ec (by intro z; cases z)) (J9 e ed (by intro z; cases z))⟩
   have x36 : Exc2 c d H3 (U7 (cl.map (·.2)) H5) := fun b o e n1 n2 => by
     rw [V7 fun z => by rw [hn b z] at e; cases e]
     exact x5 b o (k34 b o e) n1 n2
   have e3c := (h.ctx.keep k3).ins
   have e3d := (h.own.keep k3).d
   obtain ⟨dx3, e3c⟩ := e3c
   refine fin a' u' _ x36 ⟨o5.hide A5, c5.hide A5, tab.at fun b o e hb => ?_, (h.scr.kept fun o e _ => k3 _ _ ?_ e).kept fun o e hb => ?_⟩
   . rcases hb with rfl | ⟨oc, rfl⟩
     . obtain ⟨ps3, z, _⟩ := tab
       rw [z] at e
       cases e
       exact x36 _ _ z (J9 z e3c (by intro z; cases z)) (J9 z e3d (by intro z; cases z))
     . exact x36 _ _ e (J9 e e3c (by intro z; cases z)) (J9 e e3d (by intro z; cases z))
   . rename_i hb
     rcases hb with rfl | ⟨oc, rfl⟩ <;> exact fun _ z => by cases z
   . rcases hb with rfl | ⟨oc, rfl⟩
     . exact x36 _ _ e (J9 e e3c (by intro z; cases z)) (J9 e e3d (by intro z; cases z))
     . exact x36 _ _ e (J9 e e3c (by intro z; cases z)) (J9 e e3d (by intro z; cases z))
theorem TabOk.exc2 {P0 : Addr} {pos : Pos} {q : Str} {H3 H6 : Hp} {C0 d0 : Addr} {F : List (Str × V)} {kv : List (Key × V)} (h : TabOk P0 pos q H3) (x : Exc2 c d H3 H6) (ec : H3 c = some (.ins C0 d0 F)) (ed : H3 d = some (.dK kv)) : TabOk P0 pos q H6 := by
 obtain ⟨ps, eP, rest⟩ := id h
 refine h.at fun b o e hb => ?_
 rcases hb with rfl | ⟨oc, rfl⟩
 . rw [eP] at e
   cases e
   exact x _ _ eP (J9 eP ec (by intro z; cases z)) (J9 eP ed (by intro z; cases z))
 . exact x _ _ e (J9 e ec (by intro z; cases z)) (J9 e ed (by intro z; cases z))
end
abbrev A6e : Stmt := (top 75)
abbrev A0n : Stmt := (top 76)
theorem D5n {a b : Kd} : V.str a.str = V.str b.str ↔ a = b := ⟨fun h => by cases a <;> cases b <;> first | rfl | (exfalso; revert h; decide +kernel), fun h => by rw [h]⟩
theorem Z1v (x : Nm) (j : Nat) (hj : j < 4) : atI x.vs (j : Int) = some (x.vs.getD j .non) := G6 (j := j) (by
 rcases (by omega : j = 0 \/ j = 1 \/ j = 2 \/ j = 3) with rfl | rfl | rfl | rfl <;> rfl)
theorem D2m {f p : Int} (hp : p < 0) : whI f 1 p = f / B5 (0 - p) /\ ptI f 1 p = G2 (f % B5 (0 - p)) (B5 (0 - p)) := by
 have e : B5 p = 1 := by
   unfold B5
   rw [show p.toNat = 0 by omega]
   rfl
 have w : whI f 1 p = f / B5 (0 - p) := by
   unfold whI
   rw [e, Int.mul_one, Int.one_mul, Int.zero_sub]
 refine ⟨w, ?_⟩
 unfold ptI
 rw [w, e, Int.mul_one, Int.one_mul, Int.zero_sub]
 congr 1
 have := Int.emod_def f (B5 (-p))
 rw [this, Int.mul_comm]
section
variable {P : Program} {w : World} {K : Frag} {mg : Str -> Option Value} {base : Heap}
def G6k : Sp := fun vs H Q _ => ∃ d u t r y l m up tr q x, vs = [.ref d, .ref q] /\ OwnAt H d u t r y l m up tr /\ FrameOk r l m /\ H q = some (.tup (Nm.vs x)) /\ x.Wf /\ ∀ p H', Same H H' -> U2d H' p (A4f ⟨r, y, l, m⟩ x) [] -> Q (.ref p) H'
theorem scLWhole : FnScope ["_law_own_here", "_law_one", "_law_bottom", "_law_whole_here", "_law_left"] ["_law_own_here", "_law_one"] (A1 A6e) := scK
theorem U5f {f f1 f2 : Addr} {fd fd1 fd2 : FuncData} (D : Def K mg "_law_whole" ["_law_own_here", "_law_one"] A6e f fd) (D_l_ten : Def K mg "_law_ten" ["_law_count"] A8q f1 fd1) (G_l_ten : FnOk P w K mg base (CX1 P w) 1 f1 fd1 ["_law_count"] B3y) (D_l_goes_up : Def K mg "_law_goes_up" ["_law_way", "_law_sign", "_law_last", "_law_left", "_law_bottom"] A9f f2 fd2) (G_l_goes_up : FnOk P w K mg base (CX1 P w) 1 f2 fd2 ["_law_way", "_law_sign", "_law_last", "_law_left", "_law_bottom"] D5a) (O : Own mg) :
   FnOk P w K mg base (CX1 P w) 2 f fd ["_law_own_here", "_law_one"] G6k := by
 refine D.F.okE scLWhole (fun vs H Q E h => ?_) (fun X cdv A outer s H vs Q E hX hr hx h => ?_)
 . obtain ⟨d, u, t, r, y, l, m, up, tr, q, x, rfl, _⟩ := h
   rfl
 . subst hX
   obtain ⟨d, u, t, r, y, l, m, up, tr, q, x, rfl, ow, fr, eq, wf, k⟩ := h
   have HU := Nat.lt_of_le_of_lt (Nat.add_le_add_left (by decide : 1 <= 64) _) hr.units
   refine ⟨_, (A6 (B8 (G4 (PW.pt (B6a (C5 C2d (U2 U0 (pv 1) A3 (fun _ _ => rfl)) B0 (B9 _)) (A5n (C5 G5h (U2 U0 (pv 1) A3 (fun _ _ => rfl)) A3 (B9 _))))) (A9 (B7 (V1 (A0 (pv 1) (A0 (U9 A7) A7))))) C7))
     (A6 (B8 (D0 (i := 2) scLWhole.nd rfl (Or.inl rfl) (C8 D_l_ten G_l_ten hr hx (A0 (B3 U1 A3 (U2 U0 (pv 1) A3 (fun _ _ => rfl))) A7))))
     (A6 (B8 (J1x (G9 B5x (by rfl) O.divmod_ PyProof.Rows.boot_divmod (A0 (U2 U0 (pv 1) A3 (fun _ _ => rfl)) (A0 (pv 2) A7))) (J0y rfl (A4s (V6 (i := 3) scLWhole.nd rfl (Or.inl rfl)) (A4s (V6 (i := 4) scLWhole.nd rfl (Or.inl rfl)) D6d)))))
     (A6 (B8 (G4 (PW.pt (A4g (C5 B3h (pv 4) A3 (B9 _)) (A2a (Z0 (C8 D_l_goes_up G_l_goes_up hr hx (A0 (J0 HU (pv 0) B0 (fun _ _ => rfl)) (A0 (U2 U0 (pv 1) A3 (fun _ _ => rfl)) (A0 (B3 D8 (pv 3) A3) (A0 (pv 4) (A0 (pv 2) A7)))))))))) (A9 (B8 (D0 (i := 3) scLWhole.nd rfl (Or.inl rfl) (B3 U3 (pv 3) A3)))) C7))
     (A9 (B7 (V1 (A0 (V1 (A0 B0 (A0 (U2 U0 (pv 1) A3 (fun _ _ => rfl)) (A0 (pv 3) (A0 A3 A7))))) (A0 (U9 A7) A7))))))))), ?_⟩
   have z0 : 0 <= sizeLine := Nat.zero_le _
   have z2 : 2 <= sizeLine := C6 (by decide)
   have z4 : 4 <= sizeLine := C6 (by decide)
   have ix := Z1v x
   have p0 := wf.ok.p0
   unfold A4f at k
   have same : ¬ (x.k = .plain /\ x.p < 0) -> ∀ p, H p = none -> ∀ p2, upd H p (.lst []) p2 = none -> Q (.ref p2) (upd (upd H p (.lst [])) p2 (.tup [.ref q, .ref p])) := fun h p np p2 np2 => by
     rw [if_neg h] at k
     exact k p2 _ ((Same.upd np).trans (Same.upd np2)) ⟨q, p, A8, ((Same.upd np).trans (Same.upd np2)) _ _ eq, (Same.upd np2) _ _ A8⟩
   refine ⟨fun σ' H' => H' = H /\ x.k = .plain /\ x.p < 0 /\ σ' = [some (.ref d), some (.ref q), none, none, none], ?_, ?_⟩
   . refine ⟨_, rfl, q, _, _, _, rfl, rfl, SqT.of eq, ix 0 (by decide), rfl, _, rfl, ?_⟩
     by_cases hk : x.k = .plain
     . refine B6e (D5n (b := .plain) |>.mpr hk) ⟨_, rfl, q, _, _, _, rfl, rfl, SqT.of eq, ix 3 (by decide), _, _, rfl, rfl, _, rfl, G8 (fun hp => ?_) (fun hp => ?_)⟩
       . have hp : x.p >= 0 := hp
         exact ⟨_, rfl, z0, fun p np => ⟨z2, fun p2 np2 => same (fun z => by have := z.2; omega) p np p2 np2⟩⟩
       . have hp : ¬ x.p >= 0 := hp
         exact ⟨rfl, hk, by omega, rfl⟩
     . exact C4r (fun z => hk (D5n (b := .plain) |>.mp z)) (V8 ⟨_, rfl, z0, fun p np => ⟨z2, fun p2 np2 => same (fun z => hk z.1) p np p2 np2⟩⟩)
   rintro σ' H1 ⟨rfl, hk, hp, rfl⟩
   rw [if_pos ⟨hk, hp⟩] at k
   obtain ⟨ew, ept⟩ := D2m (f := x.f) hp
   rw [ew, ept] at k
   refine ⟨fun σ' H' => H' = H1 /\ σ' = [some (.ref d), some (.ref q), some (.int (B5 (0 - x.p))), none, none], ⟨_, rfl, q, _, _, _, rfl, rfl, SqT.of eq, ix 3 (by decide), _, _, rfl, rfl, _, tn (e := 0 - x.p) (by omega), by omega, rfl, rfl⟩, ?_⟩
   rintro σ' H2 ⟨rfl, rfl⟩
   have bp := U6 (0 - x.p)
   have bl : (B5 (0 - x.p)).natAbs.log2 < 9000 := by
     have := J1u B7q (s := 0 - x.p) (by omega)
     rwa [Int.one_mul] at this
   generalize B5 (0 - x.p) = B at *
   refine ⟨fun σ' H' => Same H2 H' /\ σ' = [some (.ref d), some (.ref q), some (.int B), some (.int (x.f / B)), some (.int (x.f % B))], ?_, ?_⟩
   . refine ⟨_, rfl, q, _, _, _, rfl, rfl, SqT.of eq, ix 2 (by decide), _, rfl, _, _, rfl, ⟨bp, bl⟩, fun p np => ?_⟩
     exact ⟨p, _, rfl, SqT.of A8, rfl, _, _, rfl, _, _, rfl, rfl, Same.upd np, rfl⟩
   rintro σ' H3 ⟨s3, rfl⟩
   have ow3 := ow.same s3
   have eq3 := s3 _ _ eq
   refine ⟨fun σ' H' => Same H2 H' /\ σ' = [some (.ref d), some (.ref q), some (.int B), some (.int (upI y x.s (x.f / B) (G2 (x.f % B) B))), some (.int (x.f % B))], ?_, ?_⟩
   . refine ⟨_, rfl, _, _, rfl, rfl, _, rfl, G8 (fun hl => ?_) (fun hl => G7 ⟨s3, ?_⟩)⟩
     . have hl : 0 < x.f % B := hl
       have hpt := G4x hl bp
       refine ⟨_, rfl, d, _, rfl, ow3.gWay, _, rfl, q, _, _, _, rfl, rfl, SqT.of eq3, ix 1 (by decide), _, rfl, _, _, rfl, rfl, (by decide : (0 : Int) < 10), _, rfl, _, rfl, y, x.s, x.f / B % 10, x.f % B, B, rfl, Int.emod_nonneg _ (by decide), by have := Int.emod_lt_of_pos (x.f / B) (by decide : (0 : Int) < 10); omega, hl, fun H4 s4 => ⟨_, rfl, ?_⟩⟩
       have eu : upI y x.s (x.f / B) (G2 (x.f % B) B) = if y.goes x.s (x.f / B % 10) (G2 (x.f % B) B) = true then x.f / B + 1 else x.f / B := by
         unfold upI
         rw [if_neg hpt]
       rw [eu]
       cases y.goes x.s (x.f / B % 10) (G2 (x.f % B) B) with
       | true =>
         refine V8 ⟨_, ?_, fun _ _ h => h⟩
         exact ⟨_, rfl, _, _, rfl, rfl, s3.trans s4, rfl⟩
       | false => exact G7 ⟨s3.trans s4, rfl⟩
     . have hl : x.f % B = 0 := by
         have : ¬ x.f % B > 0 := hl
         have := Int.emod_nonneg x.f (Int.ne_of_gt bp)
         omega
       have : upI y x.s (x.f / B) (G2 (x.f % B) B) = x.f / B := by
         unfold upI
         rw [if_pos (D4s hl bp), if_neg Bool.false_ne_true]
       rw [this]
   rintro σ' H4 ⟨s4, rfl⟩
   refine ⟨_, rfl, q, _, _, _, rfl, rfl, SqT.of (s4 _ _ eq), ix 1 (by decide), _, rfl, z4, fun a na => ⟨z0, fun b nb => ⟨z2, fun p np => ?_⟩⟩⟩
   have u1 := Same.upd (o := .tup (Nm.vs ⟨.plain, x.s, upI y x.s (x.f / B) (G2 (x.f % B) B), 0⟩)) na
   have u2 := Same.upd (o := .lst []) nb
   have u3 := Same.upd (o := .tup [.ref a, .ref b]) np
   exact k p _ (s4.trans (u1.trans (u2.trans u3))) ⟨a, b, A8, (u2.trans u3) _ _ A8, u3 _ _ A8⟩
def C3z : Sp := fun vs H Q _ => ∃ d u t r y l m up tr q x, ∃ L : Int, vs = [.ref d, .ref q] /\ OwnAt H d u t r y l m up tr /\ FrameOk r l m /\ H q = some (.tup (Nm.vs x)) /\ x.Wf /\ (x.k = .plain -> x.f ≠ 0 -> Y7 x.f 1 (x.p - L)) /\
 ∀ p zs H', Same H H' -> U2d H' p (A9e ⟨r, y, l, m⟩ x L).1 zs -> zs.length <= 10 -> (∀ z, z ∈ zs ↔ z ∈ (A9e ⟨r, y, l, m⟩ x L).2) -> Q (.ref p) H'
theorem J2e : FnScope ["_law_own_here", "_law_one"] ["_law_own_here", "_law_one"] (A1 A0n) := scK
theorem G6d {f p : Int} (h0 : 0 <= f) (h : f ≠ 0) (h1 : f <= 10 ^ 60 - 1) (p1 : p <= 400) : SzL (f * B5 p) := by
 have tp := U6 p
 refine ⟨Int.mul_pos (by omega) tp, ?_⟩
 have e : B5 p <= B5 400 := B2m (by omega)
 have a : f * B5 p <= (10 ^ 60 - 1) * B5 400 := Int.mul_le_mul h1 e (Int.le_of_lt tp) (by decide +kernel)
 exact Int.lt_of_le_of_lt a (by decide +kernel)
theorem G4k {f f1 f2 : Addr} {fd fd1 fd2 : FuncData} (D : Def K mg "_law_trimmed" ["_law_own_here", "_law_one"] A0n f fd) (D_l_settled : Def K mg "_law_settled" ["_law_own_here", "_law_sign", "_law_ratio_here", "_law_ideal"] A0q f1 fd1) (G_l_settled : FnOk P w K mg base (CX1 P w) 3 f1 fd1 ["_law_own_here", "_law_sign", "_law_ratio_here", "_law_ideal"] C4h)
   (D_l_ratio : Def K mg "_law_ratio" ["_law_top", "_law_bottom", "_law_wide"] A6f f2 fd2) (G_l_ratio : FnOk P w K mg base (CX1 P w) 2 f2 fd2 ["_law_top", "_law_bottom", "_law_wide"] G4j) : FnOk P w K mg base (CX1 P w) 4 f fd ["_law_own_here", "_law_one"] C3z := by
 refine D.F.okE J2e (fun vs H Q E h => ?_) (fun X cdv A outer s H vs Q E hX hr hx h => ?_)
 . obtain ⟨d, u, t, r, y, l, m, up, tr, q, x, L, rfl, _⟩ := h
   rfl
 . subst hX
   obtain ⟨d, u, t, r, y, l, m, up, tr, q, x, L, rfl, ow, fr, eq, wf, hL, k⟩ := h
   refine ⟨_, (A6 (B8 (G4 (C5 C2d (U2 U0 (pv 1) A3 (fun _ _ => rfl)) B0 (B9 _)) (A9 (B7 (V1 (A0 (pv 1) (A0 (U9 A7) A7))))) C7))
     (A6 (B8 (G4 (C5 D5 (U2 U0 (pv 1) A3 (fun _ _ => rfl)) A3 (B9 _)) (A9 (B7 (V1 (A0 (V1 (A0 B0 (A0 (U2 U0 (pv 1) A3 (fun _ _ => rfl)) (A0 A3 (A0 A3 A7))))) (A0 (U9 A7) A7))))) C7))
     (A9 (B7 (C8 D_l_settled G_l_settled hr hx (A0 (pv 0) (A0 (U2 U0 (pv 1) A3 (fun _ _ => rfl)) (A0 (C8 D_l_ratio G_l_ratio hr hx (A0 (U2 U0 (pv 1) A3 (fun _ _ => rfl)) (A0 A3 (A0 (U2 U0 (pv 1) A3 (fun _ _ => rfl)) A7)))) (A0 A3 A7))))))))), ?_⟩
   have z0 : 0 <= sizeLine := Nat.zero_le _
   have z2 : 2 <= sizeLine := C6 (by decide)
   have z4 : 4 <= sizeLine := C6 (by decide)
   have ix := Z1v x
   unfold A9e at k
   refine ⟨fun σ' H' => H' = H /\ x.k = .plain /\ σ' = [some (.ref d), some (.ref q)], ?_, ?_⟩
   . refine ⟨_, rfl, q, _, _, _, rfl, rfl, SqT.of eq, ix 0 (by decide), rfl, _, rfl, ?_⟩
     by_cases hk : x.k = .plain
     . exact B6e (D5n (b := .plain) |>.mpr hk) ⟨rfl, hk, rfl⟩
     . rw [if_neg hk] at k
       exact C4r (fun z => hk (D5n (b := .plain) |>.mp z)) ⟨_, rfl, z0, fun p np => ⟨z2, fun p2 np2 => k p2 [] _ ((Same.upd np).trans (Same.upd np2)) ⟨q, p, A8, ((Same.upd np).trans (Same.upd np2)) _ _ eq, (Same.upd np2) _ _ A8⟩ (Nat.zero_le _) fun z => Iff.rfl⟩⟩
   rintro σ' H1 ⟨rfl, hk, rfl⟩
   rw [if_pos hk] at k
   refine ⟨fun σ' H' => H' = H1 /\ x.f ≠ 0 /\ σ' = [some (.ref d), some (.ref q)], ?_, ?_⟩
   . refine ⟨_, rfl, q, _, _, _, rfl, rfl, SqT.of eq, ix 2 (by decide), rfl, _, rfl, G8 (fun h => ?_) (fun h => ⟨rfl, fun z => h (congrArg V.int z), rfl⟩)⟩
     have hf : x.f = 0 := V.int.inj h
     rw [if_pos hf] at k
     have e0 : J1b (Y2 0 (l - r + 1)) m = 0 := by
       have := fr.r1; have := fr.l2; have := fr.m1
       unfold J1b Y2
       repeat' split
       all_goals omega
     refine ⟨_, rfl, q, _, _, _, rfl, rfl, SqT.of eq, ix 1 (by decide), z4, fun a na => ⟨z0, fun b nb => ⟨z2, fun p np => ?_⟩⟩⟩
     have u1 := Same.upd (o := .tup (Nm.vs ⟨.plain, x.s, 0, 0⟩)) na
     have u2 := Same.upd (o := .lst []) nb
     have u3 := Same.upd (o := .tup [.ref a, .ref b]) np
     refine k p [] _ (u1.trans (u2.trans u3)) ⟨a, b, A8, ?_, u3 _ _ A8⟩ (Nat.zero_le _) fun z => Iff.rfl
     have : (A5w ⟨r, y, l, m⟩ x.s 0) = ⟨.plain, x.s, 0, 0⟩ := by
       unfold A5w
       rw [e0]
     rw [this]
     exact (u2.trans u3) _ _ A8
   rintro σ' H2 ⟨rfl, hf, rfl⟩
   rw [if_neg hf] at k
   have f10 := wf.ok.f0; have f11 := wf.ok.f1; have p10 := wf.ok.p0; have p11 := wf.ok.p1
   refine ⟨_, rfl, _, rfl, q, _, _, _, rfl, rfl, SqT.of eq, ix 1 (by decide), _, rfl, q, _, _, _, rfl, rfl, SqT.of eq, ix 2 (by decide), _, rfl, q, _, _, _, rfl, rfl, SqT.of eq, ix 3 (by decide), x.f, 1, x.p, rfl, by omega, by omega, A9c (D5t f10 hf f11) (by omega), A9c B7q (by omega), fun rq H6 s6 erq => ?_⟩
   refine ⟨d, u, t, r, y, l, m, up, tr, rq, x.s, x.f * B5 x.p, 1 * B5 (-x.p), 1000, rfl, ow.same s6, fr, wf.ok.s0, wf.ok.s1, erq, G6d f10 hf f11 (by omega), G6d (f := 1) (by decide) (by decide) (by decide) (by omega), fun L' p zs H7 ld s7 du lz hz => ?_⟩
   obtain rfl : L' = L := by
     have a := D6h (by decide : (0 : Int) < 1) (lead_scale.mp ld) (hL hk hf)
     omega
   rw [D5f _ _ _ _ _ _ _ (by decide : (0 : Int) < 1)] at du hz
   exact k p zs H7 (s6.trans s7) du lz hz
end
abbrev C8n : Stmt := (top 77)
def B6d : Str := ("law" : Str) ++ ".<locals>." ++ "<lambda>"
def G6b : Pos := ⟨457, 70, 457, 117⟩
def D2n : Pos := ⟨459, 70, 459, 116⟩
theorem NumIs.exc2 {CN : Addr} {H H' : Hp} {n c d : Addr} {x : Nm} {kv : List (Key × V)} (h : NumIs CN H n x) (s : Exc2 c d H H') (nc : n ≠ c) (ed : H d = some (.dK kv)) : NumIs CN H' n x := by
 obtain ⟨dx, z⟩ := h
 exact ⟨dx, s _ _ z nc (J9 z ed (by intro z; cases z))⟩
theorem G4r {H H' : Hp} {q c d C0 d0 : Addr} {xs : List V} {F : List (Str × V)} {kv : List (Key × V)} (h : H q = some (.tup xs)) (s : Exc2 c d H H') (ec : H c = some (.ins C0 d0 F)) (ed : H d = some (.dK kv)) : H' q = some (.tup xs) := s _ _ h (J9 h ec (by intro z; cases z)) (J9 h ed (by intro z; cases z))
theorem Z9f (x : Nm) (wf : x.Wf) : ∃ L, x.k = .plain -> x.f ≠ 0 -> Y7 x.f 1 (x.p - L) := by
 by_cases h : x.f = 0
 . exact ⟨0, fun _ z => absurd h z⟩
 . have a0 := wf.ok.f0
   obtain ⟨n, hn⟩ : ∃ n : Nat, x.f = (n : Int) := ⟨x.f.toNat, by omega⟩
   obtain ⟨A, a1, a2⟩ := D4v n (by omega)
   rw [hn]
   by_cases z : (n : Int) * B5 (((0 : Nat) : Int) - A) < ((1 : Nat) : Int) * B5 (-(((0 : Nat) : Int) - A))
   . refine ⟨x.p - (((0 : Nat) : Int) - A + 1), fun _ _ => ?_⟩
     rw [show x.p - (x.p - (((0 : Nat) : Int) - A + 1)) = ((0 : Nat) : Int) - A + 1 by omega]
     exact B3z (b := 1) (M := 0) a1 a2 (by decide) (by decide) z
   . refine ⟨x.p - (((0 : Nat) : Int) - A), fun _ _ => ?_⟩
     rw [show x.p - (x.p - (((0 : Nat) : Int) - A)) = ((0 : Nat) : Int) - A by omega]
     exact B7b (b := 1) (M := 0) a1 a2 (by decide) (by decide) (by omega)
theorem J0q {v : Cv} {x : Nm} (wf : x.Wf) : Z9 (A6g (A4f v x).k.str (A4f v x).s (A4f v x).f (A4f v x).p) := by
 unfold A4f
 split
 . rename_i h
   have f0 := wf.ok.f0; have f1 := wf.ok.f1
   have bp := U6 (0 - x.p)
   obtain ⟨ew, _⟩ := D2m (f := x.f) h.2
   have w0 : 0 <= whI x.f 1 x.p := by rw [ew]; exact Int.ediv_nonneg f0 (by omega)
   have w1 : whI x.f 1 x.p <= x.f := by rw [ew]; exact Int.ediv_le_self _ f0
   have hu : 0 <= upI v.y x.s (whI x.f 1 x.p) (ptI x.f 1 x.p) /\ upI v.y x.s (whI x.f 1 x.p) (ptI x.f 1 x.p) <= whI x.f 1 x.p + 1 := by
     unfold upI
     generalize (if ptI x.f 1 x.p = 0 then false else v.y.goes x.s (whI x.f 1 x.p % 10) (ptI x.f 1 x.p)) = g
     cases g with
     | true => exact ⟨by show 0 <= whI x.f 1 x.p + 1; omega, Int.le_refl _⟩
     | false => exact ⟨w0, by show whI x.f 1 x.p <= whI x.f 1 x.p + 1; omega⟩
   exact A2v wf.ok.s0 wf.ok.s1 hu.1 (by show upI v.y x.s (whI x.f 1 x.p) (ptI x.f 1 x.p) <= 10 ^ 60; omega) (by show (-10000 : Int) <= 0; decide) (by show (0 : Int) <= 10000; decide)
 . exact Z1q wf.ok
theorem U5h {v : Cv} {x : Nm} {L : Int} (ok : v.Ok) (wf : x.Wf) (h : x.k = .plain -> x.f ≠ 0 -> Y7 x.f 1 (x.p - L)) : Z9 (A6g (A9e v x L).1.k.str (A9e v x L).1.s (A9e v x L).1.f (A9e v x L).1.p) := by
 have p0 := wf.ok.p0; have p1 := wf.ok.p1
 unfold A9e
 split
 . rename_i hk
   split
   . exact G5b ok wf.ok.s0 wf.ok.s1
   . rename_i hf
     exact G5d ok wf.ok.s0 wf.ok.s1 (D5t wf.ok.f0 hf wf.ok.f1) B7q (h hk hf) (by omega) (by omega) (by decide) (by decide)
 . exact Z1q wf.ok
section
variable {P : Program} {w : World} {K : Frag} {mg : Str -> Option Value} {base : Heap}
def Y8t (CN CC c n : Addr) (v : Cv) (b : Addr) (up tr : List Str) (x : Nm) : Hp -> VK -> XK -> Prop := fun H Q _ => (∃ a, CtxV CC H c v a b up tr) /\ NumIs CN H n x /\ ∀ n' H1, Same H H1 -> NumIs CN H1 n' (A4f v x) -> Q (.ref n') H1
def Y7t (CN CC CT c n : Addr) (v : Cv) (b : Addr) (up tr : List Str) (x : Nm) (L : Int) : Hp -> VK -> XK -> Prop := fun H Q E => (∃ a, CtxV CC H c v a b up tr) /\ NumIs CN H n x /\ Ends2 CN CC CT H c v b up tr (A9e v x L) Q E
def U3h (K : Frag) (P0 : Addr) : Sp := fun vs H Q _ => ∃ a ns, vs = [.ref a] /\ (ns : List Int).length <= 63 /\ SqL K H a (ns.map V.int) /\ H P0 = some (.tbl #[]) /\ ∀ H', Q (.bl true) H'
theorem scLaw : FnScope ["_law_script", "_law_own_here", "_law_context_here", "_law_one", "_law_first", "_law_turn", "_law_good"] ["_law_script"] (A1 C8n) := scK
theorem Z3t {f cc P0 f1 f2 f3 f4 f6 f7 f8 f9 f10 f11 f12 CC CN CB CT : Addr} {fd fd1 fd2 fd3 fd4 fd6 fd7 fd8 fd9 fd10 fd11 fd12 : FuncData} (D : Def K mg "law" ["_law_script"] C8n f fd) (hcode : fd.code = .ref cc) (LB : LamB mg base cc P0)
   (D_l_cell_at : Def K mg "_law_cell_at" ["_law_script", "_law_k"] C3f f1 fd1) (G_l_cell_at : FnOk P w K mg base (CX1 P w) 1 f1 fd1 ["_law_script", "_law_k"] (V2j K)) (D_l_own : Def K mg "_law_own" ["_law_cell"] C4s f2 fd2) (G_l_own : FnOk P w K mg base (CX1 P w) 2 f2 fd2 ["_law_cell"] V0u)
   (D_l_context : Def K mg "_law_context" ["_law_own_here"] A0s f3 fd3) (G_l_context : FnOk P w K mg base (CX1 P w) 5 f3 fd3 ["_law_own_here"] (C4x CC)) (D_l_number : Def K mg "_law_number" ["_law_cell"] A3a f4 fd4) (G_l_number : FnOk P w K mg base (CX1 P w) 3 f4 fd4 ["_law_cell"] D3e)
   (D_l_made : Def K mg "_law_made" ["_law_one"] B3v f6 fd6) (G_l_made : FnOk P w K mg base (CX1 P w) 4 f6 fd6 ["_law_one"] (U2r CN)) (D_l_whole : Def K mg "_law_whole" ["_law_own_here", "_law_one"] A6e f7 fd7) (G_l_whole : FnOk P w K mg base (CX1 P w) 2 f7 fd7 ["_law_own_here", "_law_one"] G6k)
   (D_l_trimmed : Def K mg "_law_trimmed" ["_law_own_here", "_law_one"] A0n f11 fd11) (G_l_trimmed : FnOk P w K mg base (CX1 P w) 4 f11 fd11 ["_law_own_here", "_law_one"] C3z)
   (D_l_stands : Def K mg "_law_stands" ["_law_context_here", "_law_own_here", "_law_deed", "_law_due"] A2z f8 fd8) (G_l_stands : FnOkG P w K mg base (CX1 P w) 10 f8 fd8 ["_law_context_here", "_law_own_here", "_law_deed", "_law_due"] (B7s P w K mg base 8 CN CC CT))
   (D_to_whole : Def K mg "to_whole" ["context", "one"] A2w f9 fd9) (G_to_whole : FnOk P w K mg base (CX1 P w) 5 f9 fd9 ["context", "one"] (D2c CN CC)) (D_trimmed : Def K mg "trimmed" ["context", "one"] A2x f12 fd12) (G_trimmed : FnOk P w K mg base (CX1 P w) 7 f12 fd12 ["context", "one"] (D1z CN CC CT))
   (D_told : Def K mg "told" ["number"] C2j f10 fd10) (G_told : FnOk P w K mg base (CX1 P w) 2 f10 fd10 ["number"] (J0j K CN CB))
   (C : CtxC K mg CC) (MT : Has P w K mg base CC "traps" 1 ["self"] (B3w CC)) (O : Own mg) : FnOkG P w K mg base (CX1 P w) 11 f fd ["_law_script"] (U3h K P0) := by
 refine D.F.okEL hcode scLaw (fun vs H Q E h => ?_) (fun X A outer s H vs Q E hX HG hr hx h => ?_)
 . obtain ⟨a, ns, rfl, _⟩ := h
   rfl
 . subst hX
   obtain ⟨sc, ns, rfl, n63, hS, hP, kk⟩ := h
   obtain ⟨ff, fdf, mf, gf, bf⟩ := MT
   have HU := Nat.lt_of_le_of_lt (Nat.add_le_add_left (by decide : 1 <= 64) _) hr.units
   have CZ : CellsZ [("_law_first", s.heap.objs.size + 1 + 1), ("_law_context_here", s.heap.objs.size + 1)] [4, 2] ["_law_script", "_law_own_here", "_law_context_here", "_law_one", "_law_first", "_law_turn", "_law_good"] (envOfC "law" (A1 C8n) s.heap.objs.size f (.ref cc)) := ⟨fun i x c h => by
     rcases i with _ | _ | i
     . obtain ⟨rfl, rfl⟩ := Prod.mk.inj (Option.some.inj h)
       exact ⟨rfl, rfl, fun j hj => by cases hj; rfl⟩
     . obtain ⟨rfl, rfl⟩ := Prod.mk.inj (Option.some.inj h)
       exact ⟨rfl, rfl, fun j hj => by cases hj; rfl⟩
     . cases h⟩
   refine ⟨_, (A6 (B8 (D0 (i := 1) scLaw.nd rfl (Or.inl rfl) (C8 D_l_own G_l_own hr hx (A0 (C8 D_l_cell_at G_l_cell_at hr hx (A0 (pv 0) (A0 A3 A7))) A7))))
     (A6 (B8 (D0 (i := 2) scLaw.nd rfl (Or.inr rfl) (C8 D_l_context G_l_context hr hx (A0 (pv 1) A7))))
     (A6 (B8 (D0 (i := 3) scLaw.nd rfl (Or.inl rfl) (C8 D_l_number G_l_number hr hx (A0 (C8 D_l_cell_at G_l_cell_at hr hx (A0 (pv 0) (A0 A3 A7))) A7))))
     (A6 (B8 (D0 (i := 4) scLaw.nd rfl (Or.inr rfl) (C8 D_l_made G_l_made hr hx (A0 (pv 3) A7))))
     (A6 (B8 (D4u PassesOwn.leaving rfl (B2p rfl O.range_ (A0 A3 A7)) (V6 (i := 5) scLaw.nd rfl (Or.inl rfl)) (A6 (B8 (G4 (C5 D5 (B3 D8 (B3 U3 (pv 5) (C8 D_l_cell_at G_l_cell_at hr hx (A0 (pv 0) (A0 A3 A7)))) A3) A3 (B9 _)) (A9 (B8 (D0 (i := 6) scLaw.nd rfl (Or.inl rfl) (V2h D_l_stands G_l_stands HG hr hx CZ (A0 (pv 2) (A0 (pv 1) (A0 (D2s LB rfl (by rfl)) (A0 (C8 D_l_whole G_l_whole hr hx (A0 (pv 1) (A0 (pv 3) A7))) A7)))))))) (A9 (B8 (D0 (i := 6) scLaw.nd rfl (Or.inl rfl) (V2h D_l_stands G_l_stands HG hr hx CZ (A0 (pv 2) (A0 (pv 1) (A0 (D2s LB rfl (by rfl)) (A0 (C8 D_l_trimmed G_l_trimmed hr hx (A0 (pv 1) (A0 (pv 3) A7))) A7))))))))))
     (A9 (B8 (G4 (PW.pt (B6a (A9r (Z0 (pv 6))) (A5n (C5 (Z2e hr.units) (C8 D_told G_told hr hx (A0 (pv 4) A7)) (pv 3) (B9 _))))) (A9 (B7 B3j)) C7))))))
     (A9 (B7 (D9 (D6a hr.units) (A5p (pv 2) C.cl mf gf hr bf .nil hx) (J0 HU (pv 1) B0 (fun _ _ => rfl)) (B9 _))))))))), ?_⟩
   refine ⟨fun σ' H' => ∃ d u t r y l m up tr, Same H H' /\ FrameOk r l m /\ SubS up /\ SubS tr /\ OwnAt H' d u t r y l m up tr /\ σ' = [some (.ref sc), some (.ref d), none, none, none, none, none], ?_, ?_⟩
   . exact ⟨_, rfl, sc, ns, 0, rfl, hS, by decide, fun c0 => ⟨c0, rfl, fun d u t r y l m up tr H' s' _ _ _ fr su st ow => ⟨d, u, t, r, y, l, m, up, tr, s', fr, su, st, ow, rfl⟩⟩⟩
   rintro σ' H1 ⟨d, u, t, r, y, l, m, up, tr, s1, fr, su, st, ow1, rfl⟩
   refine ⟨fun σ' H' => ∃ c a b, Held CN CC CT P0 G6b B6d K sc ns d t c b r y l m up tr H' a u /\ TabOk P0 D2n B6d H' /\ σ' = [some (.ref sc), some (.ref d), some (.ref c), none, none, none, none], ?_, ?_⟩
   . exact ⟨_, rfl, d, u, t, r, y, l, m, up, tr, rfl, ow1, fr, su, st, fun c a b H' s' _ hc => ⟨c, a, b, ⟨ow1.same s', hc, U3d ((s1.trans s') _ _ hP), (s1.trans s').seq hS⟩, U3d ((s1.trans s') _ _ hP), rfl⟩⟩
   rintro σ' H2 ⟨c, a, b, h2, tb2, rfl⟩
   refine ⟨fun σ' H' => ∃ (x : Nm) (q : Addr), Held CN CC CT P0 G6b B6d K sc ns d t c b r y l m up tr H' a u /\ TabOk P0 D2n B6d H' /\ x.Wf /\ H' q = some (.tup x.vs) /\ σ' = [some (.ref sc), some (.ref d), some (.ref c), some (.ref q), none, none, none], ?_, ?_⟩
   . exact ⟨_, rfl, sc, ns, 1, rfl, h2.scr, by decide, fun c1 => ⟨c1, rfl, fun x q H' wf s' e => ⟨x, q, h2.same s', tb2.same s', wf, e, rfl⟩⟩⟩
   rintro σ' H4 ⟨x, q, h4, tb4, wf, eq, rfl⟩
   refine ⟨fun σ' H' => ∃ n, Held CN CC CT P0 G6b B6d K sc ns d t c b r y l m up tr H' a u /\ TabOk P0 D2n B6d H' /\ n ≠ c /\ NumIs CN H' n x /\ H' q = some (.tup x.vs) /\ σ' = [some (.ref sc), some (.ref d), some (.ref c), some (.ref q), some (.ref n), none, none], ?_, ?_⟩
   . refine ⟨_, rfl, q, x, rfl, eq, wf, fun n H' nn s' num => ⟨n, h4.same s', tb4.same s', ?_, num, s' _ _ eq, rfl⟩⟩
     obtain ⟨dx, ec⟩ := h4.ctx.ins
     exact Ne.symm (C9 ec nn)
   rintro σ' H5 ⟨n, h5, tb5, nc, num5, eq5, rfl⟩
   have ok : (Cv.mk r y l m).Ok := ⟨fr.r1, fr.r2, fr.l1, fr.l2, fr.m1, fr.m2⟩
   obtain ⟨L, hL⟩ := Z9f x wf
   refine ⟨fun σ' H' => ∃ a u up v5 v6, Held CN CC CT P0 G6b B6d K sc ns d t c b r y l m up tr H' a u /\ σ' = [some (.ref sc), some (.ref d), some (.ref c), some (.ref q), some (.ref n), v5, v6], ⟨4, rfl, by decide, by decide, B7h (n := 4) (fun i σ' H' => ∃ a u up v5 v6, SubS up /\ Held CN CC CT P0 G6b B6d K sc ns d t c b r y l m up tr H' a u /\ TabOk P0 D2n B6d H' /\ NumIs CN H' n x /\ H' q = some (.tup x.vs) /\ σ' = [some (.ref sc), some (.ref d), some (.ref c), some (.ref q), some (.ref n), v5, v6]) ⟨a, u, up, none, none, su, h5, tb5, num5, eq5, rfl⟩ ?_ ?_⟩, ?_⟩
   . clear h5 num5 eq5 h4 eq tb5 tb4 tb2 h2
     rintro i σ' H8 hi ⟨a, u, up, v5, v6, su, h8, tb8, num8, eq8, rfl⟩
     have lup : up.length <= 900 := Nat.le_trans su.len (by decide)
     have oup : V3 up = up := C4f su (fun z => Iff.rfl)
     refine ⟨fun σ' H' => ∃ a u up, SubS up /\ Held CN CC CT P0 G6b B6d K sc ns d t c b r y l m up tr H' a u /\ TabOk P0 D2n B6d H' /\ NumIs CN H' n x /\ H' q = some (.tup x.vs) /\ σ' = [some (.ref sc), some (.ref d), some (.ref c), some (.ref q), some (.ref n), some (.int (0 + (i : Int))), some (.bl true)], ?_, ?_⟩
     . refine ⟨_, rfl, _, rfl, sc, ns, 2, rfl, h8.scr, by decide, fun c3 => ⟨_, _, rfl, rfl, _, _, rfl, rfl, (by decide : (0 : Int) < 2), rfl, _, rfl, G8 (fun _ => ?_) (fun _ => ?_)⟩⟩
       . -- to_whole
         refine ⟨_, ?_, fun _ _ h => h⟩
         refine ⟨_, rfl, _, rfl, h8.tab, fun fl H9 sT nf la tab9 oth => ?_⟩
         have tb9 := oth D2n B6d (by decide) tb8
         obtain ⟨ps, eP, _⟩ := h8.tab
         have k9 := sT.keep eP
         have eq9 := k9 _ _ (fun _ z => by cases z) eq8
         refine ⟨_, rfl, _, rfl, d, u, t, r, y, l, m, up, tr, q, x, rfl, h8.own.keep k9, fr, eq9, wf, fun p H9' s9 du => ?_⟩
         intro hn H10 ho A10 kn
         obtain ⟨dt, dl, edq, edt, edl⟩ := du
         have DO := U1x (P := P) (w := w) (K := K) (mg := mg) (base := base) (k := 7) (vs := [.ref n, .ref c]) (sp := Y8t CN CC c n ⟨r, y, l, m⟩ b up tr x) la (show LamS ["_law_first", "_law_context_here"] _ from ⟨rfl, rfl, rfl, by decide +kernel, by decide +kernel, by decide +kernel, by decide +kernel⟩) rfl (V3f _) (fun _ _ _ => rfl) (fun X cdv A' outer' s' H' Q' E' hX hr' hx' hsp af => by
           subst hX
           obtain ⟨⟨a', hc'⟩, hn', k'⟩ := hsp
           refine ⟨_, C8 D_to_whole G_to_whole hr' hx' (A0 (pv 1) (A0 (pv 0) A7)), ?_⟩
           exact ⟨_, rfl, _, rfl, c, ⟨r, y, l, m⟩, a', b, up, tr, n, x, rfl, CtxAt.hide hc' af, hn'.hide af, wf.ok, fun n' H1 s1 nm1 hno => k' n' _ (U6c s1) (nm1.back hno)⟩)
         refine G5v (zs := []) h8 su st (fun b' o nb e => s9 _ _ (sT b' o nb e)) (tab9.same s9) (la.kept fun b' o e => s9 _ _ e) hn ho A10 (fun j x' c' hj => ?_) edq edt edl (by decide) (J0q wf) DO (fun H' kp x' hc' Qd Ed g1 g2 => ?_) (fun a' u' H11 x11 h11 _ => ?_)
         . rcases j with _ | _ | j
           . exact ⟨_, rfl, kn 0 x' c' 4 _ hj rfl rfl⟩
           . exact ⟨_, rfl, kn 1 x' c' 2 _ hj rfl rfl⟩
           . cases hj
         . obtain ⟨dx, z⟩ := num8.keep kp
           obtain ⟨dx', z'⟩ := num8
           exact ⟨⟨a, hc'⟩, ⟨dx, x' _ _ z (J9 z' h8.own.d (by intro z; cases z))⟩, fun n' H1 s1 nm1 => g1 n' a H1 (U2y _) (.of s1) (by rw [List.append_nil, oup]; exact hc'.same s1) nm1⟩
         . rw [List.append_nil, oup] at h11
           obtain ⟨dx, ec⟩ := ((h8.ctx.keep k9).same s9).ins
           have ed := ((h8.own.keep k9).same s9).d
           exact ⟨a', u', up, su, h11, TR.TabOk.exc2 (tb9.same s9) x11 ec ed, ((num8.keep k9).same s9).exc2 x11 nc ed, G4r (s9 _ _ eq9) x11 ec ed, rfl⟩
       . -- trimmed
         refine ⟨_, ?_, fun _ _ h => h⟩
         refine ⟨_, rfl, _, rfl, tb8, fun fl H9 sT nf la tb9 oth => ?_⟩
         have tab9 := oth G6b B6d (by decide) h8.tab
         obtain ⟨ps, eP, _⟩ := h8.tab
         have k9 := sT.keep eP
         have eq9 := k9 _ _ (fun _ z => by cases z) eq8
         refine ⟨_, rfl, _, rfl, d, u, t, r, y, l, m, up, tr, q, x, L, rfl, h8.own.keep k9, fr, eq9, wf, hL, fun p zs H9' s9 du lz hz => ?_⟩
         intro hn H10 ho A10 kn
         obtain ⟨dt, dl, edq, edt, edl⟩ := du
         have DO := U1x (P := P) (w := w) (K := K) (mg := mg) (base := base) (k := 7) (vs := [.ref n, .ref c]) (sp := Y7t CN CC CT c n ⟨r, y, l, m⟩ b up tr x L) la (show LamS ["_law_first", "_law_context_here"] _ from ⟨rfl, rfl, rfl, by decide +kernel, by decide +kernel, by decide +kernel, by decide +kernel⟩) rfl (V3f _) (fun _ _ _ => rfl) (fun X cdv A' outer' s' H' Q' E' hX hr' hx' hsp af => by
           subst hX
           obtain ⟨⟨a', hc'⟩, hn', k'⟩ := hsp
           refine ⟨_, C8 D_trimmed G_trimmed hr' hx' (A0 (pv 1) (A0 (pv 0) A7)), ?_⟩
           exact ⟨_, rfl, _, rfl, c, ⟨r, y, l, m⟩, a', b, up, tr, n, x, L, rfl, CtxAt.hide hc' af, ok, lup, oup, hn'.hide af, wf.ok, hL, k'.hide⟩)
         refine G5v (qual := B6d) (pos := G6b) h8 su st (fun b' o nb e => s9 _ _ (sT b' o nb e)) (tab9.same s9) (la.kept fun b' o e => s9 _ _ e) hn ho A10 (fun j x' c' hj => ?_) edq edt edl (by omega) (U5h (v := ⟨r, y, l, m⟩) ok wf hL) DO (fun H' kp x' hc' Qd Ed g1 g2 => ?_) (fun a' u' H11 x11 h11 _ => ?_)
         . rcases j with _ | _ | j
           . exact ⟨_, rfl, kn 0 x' c' 4 _ hj rfl rfl⟩
           . exact ⟨_, rfl, kn 1 x' c' 2 _ hj rfl rfl⟩
           . cases hj
         . obtain ⟨dx, z⟩ := num8.keep kp
           obtain ⟨dx', z'⟩ := num8
           exact ⟨⟨a, hc'⟩, ⟨dx, x' _ _ z (J9 z' h8.own.d (by intro z; cases z))⟩, Y6x hz g1 g2⟩
         . obtain ⟨dx, ec⟩ := ((h8.ctx.keep k9).same s9).ins
           have ed := ((h8.own.keep k9).same s9).d
           exact ⟨a', u', _, Y9e _, h11, TR.TabOk.exc2 (tb9.same s9) x11 ec ed, ((num8.keep k9).same s9).exc2 x11 nc ed, G4r (s9 _ _ eq9) x11 ec ed, rfl⟩
     rintro σ' H9 ⟨a, u, up, su, h9, tb9, num9, eq9, rfl⟩
     refine ⟨_, ?_, fun _ _ h => h⟩
     refine ⟨_, rfl, _, rfl, G7 ?_⟩
     refine ⟨_, rfl, _, rfl, Or.inl ⟨n, _, _, _, _, rfl, num9, fun z nz => ⟨_, rfl, A6g x.k.str x.s x.f x.p, A6g x.k.str x.s x.f x.p, rdD A8, rdD ((Same.upd nz) _ _ eq9), shD _ _ _ (okK _), shD _ _ _ (okK _), _, rfl, ?_⟩⟩⟩
     rw [if_pos rfl, eqD]
     exact G7 ⟨a, u, up, _, _, su, h9.same (Same.upd nz), tb9.same (Same.upd nz), num9.same (Same.upd nz), (Same.upd nz) _ _ eq9, rfl⟩
   . rintro σ' H6 ⟨a, u, up, v5, v6, _, h6, _, _, _, rfl⟩
     exact ⟨a, u, up, v5, v6, h6, rfl⟩
   rintro σ' H6 ⟨a, u, up, v5, v6, h6, rfl⟩
   obtain ⟨dx, ec⟩ := h6.ctx.ins
   refine ⟨_, rfl, c, dx, _, rfl, ec, D5u _ _ _ _ _ _, c, r, y, l, m, a, b, _, _, rfl, h6.ctx, fun l2 n2 => ⟨_, rfl, d, _, rfl, (h6.own.same (Same.upd n2)).gTr, ?_⟩⟩
   have okT : OkL tr := ⟨Nat.le_trans st.len (by decide), fun z hz => U3b z (st.mem z hz)⟩
   refine ⟨rdS tr, rdS tr, B7m A8, B7m (h6.own.same (Same.upd n2)).t, shS okT, shS okT, ?_⟩
   rw [if_neg Bool.false_ne_true, Z2g]
   exact kk _
end
end TR
namespace TR
open PySem L2 PySem.W PyProof.Rows
theorem all_mk {cc P0 : Addr} {l : OpenLaw} {w : World} {K : Frag} {h : Heap} {mg : Str -> Option Value} {fa CW W0 A5c W1 A5d W2 A5e W3 A4z W4 A5f W5 A5b W6 A5a W7 A5h CN D4h A0j A1p A0k A1q A0f A1f A0h A1r A0e A1n A0c A1h A0m A1k A0g A1g CC D3v Y4v A3h A1j B1a A3g A5g A1m CQ D4f Y2k A0v B3a CE C1 C2 C3 CR fX aS C1k G3y C6v G2r D7d Y4b B8f J3q J8h G1u Y0t B9y C1w C6w B8a B1y C5a C7g D6t G0r B7u C0f C5x B9d C0n B9v D6x C0z G0h D8p J3k G1g V6h C0e C5j J8p J7z B5p D7b G0s C7c B5d C5f G1q C7h C5b B4g Y1t : Addr} (X : K.In h) (G : h.Ns mainGlobals mg) (hfa : mg "law" = some (.ref fa))
   {J5t J9h : Option Addr} {J5p : Array (Option Value)} {J7g J4g J9w J5s C7u J4c : Value}
   (B8r : nsIn K mainGlobals "product_of" = some (some (.ref C1k))) (C1z : K.lookup C1k = some ⟨J7g, J5t, .func (fnOf "product_of" "product_of" (B4 Z4) (B1 Z4) (A1 Z4) .none J4g J9w J5s J9h C7u J4c), J5p⟩) (B7z : codeIn K C7u "product_of" = true) (B9e : keepIn K (.ref C1k) = true)
   {Y0p Y0c : Option Addr} {V9c : Array (Option Value)} {V6t V8h Y0f Y4h G9v V5r : Value}
   (G0m : nsIn K mainGlobals "ten_to" = some (some (.ref G3y))) (G2y : K.lookup G3y = some ⟨V6t, Y0p, .func (fnOf "ten_to" "ten_to" (B4 A3b) (B1 A3b) (A1 A3b) .none V8h Y0f Y4h Y0c G9v V5r), V9c⟩) (D7w : codeIn K G9v "ten_to" = true) (D6p : keepIn K (.ref G3y) = true)
   {U8h V0b : Option Addr} {V0g : Array (Option Value)} {U9a U7j U9w U6n D4r U8z : Value}
   (C8a : nsIn K mainGlobals "part_of" = some (some (.ref C6v))) (C7v : K.lookup C6v = some ⟨U9a, U8h, .func (fnOf "part_of" "part_of" (B4 A5x) (B1 A5x) (A1 A5x) .none U7j U9w U6n V0b D4r U8z), V0g⟩) (C6q : codeIn K D4r "part_of" = true) (C5q : keepIn K (.ref C6v) = true)
   {Y3e V9f : Option Addr} {V9j : Array (Option Value)} {V7r Y0z Y1z V4p G8j Y5b : Value}
   (D8y : nsIn K mainGlobals "whole_lead" = some (some (.ref G2r))) (D9t : K.lookup G2r = some ⟨V7r, Y3e, .func (fnOf "whole_lead" "whole_lead" (B4 A9j) (B1 A9j) (A1 A9j) .none Y0z Y1z V4p V9f G8j Y5b), V9j⟩) (D9g : codeIn K G8j "whole_lead" = true) (D9b : keepIn K (.ref G2r) = true)
   {V4v Y6p : Option Addr} {V7y : Array (Option Value)} {Y2n Y5w Y3r V5s G9j Y5m : Value}
   (D9j : nsIn K mainGlobals "plain" = some (some (.ref D7d))) (G2b : K.lookup D7d = some ⟨Y2n, V4v, .func (fnOf "plain" "plain" (B4 B4b) (B1 B4b) (A1 B4b) .none Y5w Y3r V5s Y6p G9j Y5m), V7y⟩) (D8n : codeIn K G9j "plain" = true) (D8u : keepIn K (.ref D7d) = true)
   {Z4r Z4e : Option Addr} {Z5n : Array (Option Value)} {Z4m Z5m Z5v Z6s Y3w Z6x : Value}
   (Y0v : nsIn K mainGlobals "end" = some (some (.ref Y4b))) (Y4a : K.lookup Y4b = some ⟨Z4m, Z4r, .func (fnOf "end" "end" (B4 G6h) (B1 G6h) (A1 G6h) .none Z5m Z5v Z6s Z4e Y3w Z6x), Z5n⟩) (Y6h : codeIn K Y3w "end" = true) (Y2y : keepIn K (.ref Y4b) = true)
   {J7r J2v : Option Addr} {J7y : Array (Option Value)} {J8k J7t U0v U0j C7m U0a : Value}
   (C1t : nsIn K mainGlobals "nothing" = some (some (.ref B8f))) (C0v : K.lookup B8f = some ⟨J8k, J7r, .func (fnOf "nothing" "nothing" (B4 A3e) (B1 A3e) (A1 A3e) .none J7t U0v U0j J2v C7m U0a), J7y⟩) (C2b : codeIn K C7m "nothing" = true) (C1m : keepIn K (.ref B8f) = true)
   {Z1a Y9z : Option Addr} {Z0b : Array (Option Value)} {Z0c Z1c Z0m Y9w U3r Y9v : Value}
   (J5n : nsIn K mainGlobals "told" = some (some (.ref J3q))) (J7x : K.lookup J3q = some ⟨Z0c, Z1a, .func (fnOf "told" "told" (B4 C2j) (B1 C2j) (A1 C2j) .none Z1c Z0m Y9w Y9z U3r Y9v), Z0b⟩) (J2q : codeIn K U3r "told" = true) (J7f : keepIn K (.ref J3q) = true)
   {Z0g Z1b : Option Addr} {Y9m : Array (Option Value)} {Z0u Y9n Z0d Z0p U3n Z1e : Value}
   (U1c : nsIn K mainGlobals "lead_of" = some (some (.ref J8h))) (U0x : K.lookup J8h = some ⟨Z0u, Z0g, .func (fnOf "lead_of" "lead_of" (B4 C4g) (B1 C4g) (A1 C4g) .none Y9n Z0d Z0p Z1b U3n Z1e), Y9m⟩) (J6z : codeIn K U3n "lead_of" = true) (J5c : keepIn K (.ref J8h) = true)
   {V5y V8y : Option Addr} {Y0k : Array (Option Value)} {V7m Y5y Y6a Y0s G8h V4s : Value}
   (D8s : nsIn K mainGlobals "need_number" = some (some (.ref G1u))) (G1p : K.lookup G1u = some ⟨V7m, V5y, .func (fnOf "need_number" "need_number" (B4 A5t) (B1 A5t) (A1 A5t) .none Y5y Y6a Y0s V8y G8h V4s), Y0k⟩) (G4b : codeIn K G8h "need_number" = true) (G1z : keepIn K (.ref G1u) = true)
   {Z5e Z4y : Option Addr} {Z5d : Array (Option Value)} {Z4f Z6m Z5j Z4u Y5r Z6t : Value}
   (V6n : nsIn K mainGlobals "is_between" = some (some (.ref Y0t))) (V4g : K.lookup Y0t = some ⟨Z4f, Z5e, .func (fnOf "is_between" "is_between" (B4 C8r) (B1 C8r) (A1 C8r) .none Z6m Z5j Z4u Z4y Y5r Z6t), Z5d⟩) (Y5k : codeIn K Y5r "is_between" = true) (Y6s : keepIn K (.ref Y0t) = true)
   {J9a J7q : Option Addr} {U1q : Array (Option Value)} {U0g J5v J5a U0f C7n U1n : Value}
   (B7w : nsIn K mainGlobals "need_between" = some (some (.ref B9y))) (C0a : K.lookup B9y = some ⟨U0g, J9a, .func (fnOf "need_between" "need_between" (B4 A1e) (B1 A1e) (A1 A1e) .none J5v J5a U0f J7q C7n U1n), U1q⟩) (C0b : codeIn K C7n "need_between" = true) (B8c : keepIn K (.ref B9y) = true)
   {J9n J8z : Option Addr} {J4b : Array (Option Value)} {U1k J8s J3b J9e C5z J6j : Value}
   (B9a : nsIn K mainGlobals "settled" = some (some (.ref C1w))) (C0g : K.lookup C1w = some ⟨U1k, J9n, .func (fnOf "settled" "settled" (B4 A3f) (B1 A3f) (A1 A3f) .none J8s J3b J9e J8z C5z J6j), J4b⟩) (C1f : codeIn K C5z "settled" = true) (B8b : keepIn K (.ref C1w) = true)
   {U6m U7x : Option Addr} {U9s : Array (Option Value)} {U8q U6u U6s U7w D4k U9z : Value}
   (C5y : nsIn K mainGlobals "finest_power" = some (some (.ref C6w))) (C6c : K.lookup C6w = some ⟨U8q, U6m, .func (fnOf "finest_power" "finest_power" (B4 A3r) (B1 A3r) (A1 A3r) .none U6u U6s U7w U7x D4k U9z), U9s⟩) (C7e : codeIn K D4k "finest_power" = true) (C5m : keepIn K (.ref C6w) = true)
   {J8x J6y : Option Addr} {J8a : Array (Option Value)} {J9p J4s J8g J6s C4z U1g : Value}
   (B8e : nsIn K mainGlobals "nearest_to" = some (some (.ref B8a))) (C0j : K.lookup B8a = some ⟨J9p, J8x, .func (fnOf "nearest_to" "nearest_to" (B4 A1c) (B1 A1c) (A1 A1c) .none J4s J8g J6s J6y C4z U1g), J8a⟩) (B9j : codeIn K C4z "nearest_to" = true) (C0u : keepIn K (.ref B8a) = true)
   {G3r D7q : Option Addr} {G3k : Array (Option Value)} {D8m D7e G1y D7n B6w D9w : Value}
   (B2b : nsIn K mainGlobals "neighbour" = some (some (.ref B1y))) (B1r : K.lookup B1y = some ⟨D8m, G3r, .func (fnOf "neighbour" "neighbour" (B4 Y0) (B1 Y0) (A1 Y0) .none D7e G1y D7n D7q B6w D9w), G3k⟩) (B1e : codeIn K B6w "neighbour" = true) (B0g : keepIn K (.ref B1y) = true)
   {V0f U6p : Option Addr} {U7r : Array (Option Value)} {V0a U8v U6v U8b D3w U8a : Value}
   (C6u : nsIn K mainGlobals "within_room" = some (some (.ref C5a))) (C5e : K.lookup C5a = some ⟨V0a, V0f, .func (fnOf "within_room" "within_room" (B4 A3p) (B1 A3p) (A1 A3p) .none U8v U6v U8b U6p D3w U8a), U7r⟩) (C6g : codeIn K D3w "within_room" = true) (C5t : keepIn K (.ref C5a) = true)
   {U7a U7e : Option Addr} {U9r : Array (Option Value)} {U8t U9n U8d U7q D4b U6w : Value}
   (C8m : nsIn K mainGlobals "is_beyond" = some (some (.ref C7g))) (C5w : K.lookup C7g = some ⟨U8t, U7a, .func (fnOf "is_beyond" "is_beyond" (B4 A3n) (B1 A3n) (A1 A3n) .none U9n U8d U7q U7e D4b U6w), U9r⟩) (C7f : codeIn K D4b "is_beyond" = true) (C7y : keepIn K (.ref C7g) = true)
   {V7v V5w : Option Addr} {Y3y : Array (Option Value)} {Y2a V9m Y2u V7h G9n V5d : Value}
   (G0w : nsIn K mainGlobals "burst" = some (some (.ref D6t))) (G2q : K.lookup D6t = some ⟨Y2a, V7v, .func (fnOf "burst" "burst" (B4 A9g) (B1 A9g) (A1 A9g) .none V9m Y2u V7h V5w G9n V5d), Y3y⟩) (G2e : codeIn K G9n "burst" = true) (D9q : keepIn K (.ref D6t) = true)
   {Y5d Y4d : Option Addr} {V8t : Array (Option Value)} {Y6g Y0n V4w V4z G8v V8b : Value}
   (G4f : nsIn K mainGlobals "nines" = some (some (.ref G0r))) (G3x : K.lookup G0r = some ⟨Y6g, Y5d, .func (fnOf "nines" "nines" (B4 A9p) (B1 A9p) (A1 A9p) .none Y0n V4w V4z Y4d G8v V8b), V8t⟩) (D7m : codeIn K G8v "nines" = true) (D7v : keepIn K (.ref G0r) = true)
   {J5j J9k : Option Addr} {J8y : Array (Option Value)} {J3r J3y U1j J8q C6x J7w : Value}
   (B8h : nsIn K mainGlobals "signals_of_rest" = some (some (.ref B7u))) (C1a : K.lookup B7u = some ⟨J3r, J5j, .func (fnOf "signals_of_rest" "signals_of_rest" (B4 A2s) (B1 A2s) (A1 A2s) .none J3y U1j J8q J9k C6x J7w), J8y⟩) (B7t : codeIn K C6x "signals_of_rest" = true) (B9c : keepIn K (.ref B7u) = true)
   {J7h J6h : Option Addr} {J8f : Array (Option Value)} {J6w J4p J7d U0s C8e J6t : Value}
   (C0w : nsIn K mainGlobals "signals_of_lead" = some (some (.ref C0f))) (C0x : K.lookup C0f = some ⟨J6w, J7h, .func (fnOf "signals_of_lead" "signals_of_lead" (B4 A2u) (B1 A2u) (A1 A2u) .none J4p J7d U0s J6h C8e J6t), J8f⟩) (B7x : codeIn K C8e "signals_of_lead" = true) (B8k : keepIn K (.ref C0f) = true)
   {U8g U6q : Option Addr} {U8e : Array (Option Value)} {U6y U7d U7b U7v D3u U8f : Value}
   (C8d : nsIn K mainGlobals "nought" = some (some (.ref C5x))) (C6e : K.lookup C5x = some ⟨U6y, U8g, .func (fnOf "nought" "nought" (B4 A3q) (B1 A3q) (A1 A3q) .none U7d U7b U7v U6q D3u U8f), U8e⟩) (C7w : codeIn K D3u "nought" = true) (C7j : keepIn K (.ref C5x) = true)
   {U1f J4k : Option Addr} {J8j : Array (Option Value)} {J8w J2s J9r J6q C6k J3h : Value}
   (C1e : nsIn K mainGlobals "parts_at" = some (some (.ref B9d))) (B9h : K.lookup B9d = some ⟨J8w, U1f, .func (fnOf "parts_at" "parts_at" (B4 A2r) (B1 A2r) (A1 A2r) .none J2s J9r J6q J4k C6k J3h), J8j⟩) (C0h : codeIn K C6k "parts_at" = true) (C1u : keepIn K (.ref B9d) = true)
   {J9z J6g : Option Addr} {J5z : Array (Option Value)} {J2u J5b J3d J8n C5c J9g : Value}
   (B8j : nsIn K mainGlobals "to_whole" = some (some (.ref C0n))) (B8u : K.lookup C0n = some ⟨J2u, J9z, .func (fnOf "to_whole" "to_whole" (B4 A2w) (B1 A2w) (A1 A2w) .none J5b J3d J8n J6g C5c J9g), J5z⟩) (C1x : codeIn K C5c "to_whole" = true) (B9s : keepIn K (.ref C0n) = true)
   {J8b J5q : Option Addr} {J6e : Array (Option Value)} {U1m J6n J4d J5f C7k J4e : Value}
   (B8n : nsIn K mainGlobals "trimmed" = some (some (.ref B9v))) (C2a : K.lookup B9v = some ⟨U1m, J8b, .func (fnOf "trimmed" "trimmed" (B4 A2x) (B1 A2x) (A1 A2x) .none J6n J4d J5f J5q C7k J4e), J6e⟩) (B8m : codeIn K C7k "trimmed" = true) (B9r : keepIn K (.ref B9v) = true)
   {Y3n V5k : Option Addr} {Y4t : Array (Option Value)} {Y3b V4n Y4r Y4n G7d Y4w : Value}
   (G2j : nsIn K mainGlobals "way_of" = some (some (.ref D6x))) (G2w : K.lookup D6x = some ⟨Y3b, Y3n, .func (fnOf "way_of" "way_of" (B4 A9d) (B1 A9d) (A1 A9d) .none V4n Y4r Y4n V5k G7d Y4w), Y4t⟩) (D9a : codeIn K G7d "way_of" = true) (D7c : keepIn K (.ref D6x) = true)
   {J4q J9q : Option Addr} {J4a : Array (Option Value)} {U1b J4z J9t J9x C6m J7a : Value}
   (B8v : nsIn K mainGlobals "bounded" = some (some (.ref C0z))) (B7v : K.lookup C0z = some ⟨U1b, J4q, .func (fnOf "bounded" "bounded" (B4 A3c) (B1 A3c) (A1 A3c) .none J4z J9t J9x J9q C6m J7a), J4a⟩) (B9q : codeIn K C6m "bounded" = true) (C0s : keepIn K (.ref C0z) = true)
   {V6y Y1q : Option Addr} {V8m : Array (Option Value)} {Y3f Y1y Y3d Y6n G9e Y1w : Value}
   (D7k : nsIn K mainGlobals "need_signals" = some (some (.ref G0h))) (D6z : K.lookup G0h = some ⟨Y3f, V6y, .func (fnOf "need_signals" "need_signals" (B4 A8v) (B1 A8v) (A1 A8v) .none Y1y Y3d Y6n Y1q G9e Y1w), V8m⟩) (G3u : codeIn K G9e "need_signals" = true) (D7z : keepIn K (.ref G0h) = true)
   {V9b Y5t : Option Addr} {Y1e : Array (Option Value)} {Y3q V5j Y5u Y0q G9s V4x : Value}
   (G4a : nsIn K mainGlobals "in_order" = some (some (.ref D8p))) (G0u : K.lookup D8p = some ⟨Y3q, V9b, .func (fnOf "in_order" "in_order" (B4 A9t) (B1 A9t) (A1 A9t) .none V5j Y5u Y0q Y5t G9s V4x), Y1e⟩) (G1r : codeIn K G9s "in_order" = true) (G1x : keepIn K (.ref D8p) = true)
   {Z0x Y9s : Option Addr} {Y9r : Array (Option Value)} {Y9x Z1f Z0v Z0n U3t Y9y : Value}
   (J9f : nsIn K mainGlobals "_law_cell_at" = some (some (.ref J3k))) (J9m : K.lookup J3k = some ⟨Y9x, Z0x, .func (fnOf "_law_cell_at" "_law_cell_at" (B4 C3f) (B1 C3f) (A1 C3f) .none Z1f Z0v Z0n Y9s U3t Y9y), Y9r⟩) (U0r : codeIn K U3t "_law_cell_at" = true) (J6x : keepIn K (.ref J3k) = true)
   {V9z Y6f : Option Addr} {V6x : Array (Option Value)} {Y5v V9y Y1s V4j G9z V8u : Value}
   (G1c : nsIn K mainGlobals "_law_mixed" = some (some (.ref G1g))) (G3h : K.lookup G1g = some ⟨Y5v, V9z, .func (fnOf "_law_mixed" "_law_mixed" (B4 A6d) (B1 A6d) (A1 A6d) .none V9y Y1s V4j Y6f G9z V8u), V6x⟩) (G0k : codeIn K G9z "_law_mixed" = true) (D9k : keepIn K (.ref G1g) = true)
   {Z5s Z5p : Option Addr} {Z4n : Array (Option Value)} {Z4k Z6w Z5z Z6d V4q Z5r : Value}
   (V5h : nsIn K mainGlobals "_law_ten" = some (some (.ref V6h))) (V9p : K.lookup V6h = some ⟨Z4k, Z5s, .func (fnOf "_law_ten" "_law_ten" (B4 A8q) (B1 A8q) (A1 A8q) .none Z6w Z5z Z6d Z5p V4q Z5r), Z4n⟩) (Y3s : codeIn K V4q "_law_ten" = true) (Y2d : keepIn K (.ref V6h) = true)
   {J9v U1s : Option Addr} {U1a : Array (Option Value)} {J9j J8r J3n J3j C6h J6k : Value}
   (B7y : nsIn K mainGlobals "_law_figures" = some (some (.ref C0e))) (B9n : K.lookup C0e = some ⟨J9j, J9v, .func (fnOf "_law_figures" "_law_figures" (B4 A0p) (B1 A0p) (A1 A0p) .none J8r J3n J3j U1s C6h J6k), U1a⟩) (B9b : codeIn K C6h "_law_figures" = true) (B9p : keepIn K (.ref C0e) = true)
   {U9d U9k : Option Addr} {U8c : Array (Option Value)} {U7k U9f U9e U9x D3t U9c : Value}
   (C7a : nsIn K mainGlobals "_law_number" = some (some (.ref C5j))) (C5r : K.lookup C5j = some ⟨U7k, U9d, .func (fnOf "_law_number" "_law_number" (B4 A3a) (B1 A3a) (A1 A3a) .none U9f U9e U9x U9k D3t U9c), U8c⟩) (C8f : codeIn K D3t "_law_number" = true) (C8b : keepIn K (.ref C5j) = true)
   {Z0t Y9u : Option Addr} {Y9t : Array (Option Value)} {Z0q Z0e Z0a Z1d U3w Z0z : Value}
   (U0b : nsIn K mainGlobals "_law_made" = some (some (.ref J8p))) (J2x : K.lookup J8p = some ⟨Z0q, Z0t, .func (fnOf "_law_made" "_law_made" (B4 B3v) (B1 B3v) (A1 B3v) .none Z0e Z0a Z1d Y9u U3w Z0z), Y9t⟩) (J2z : codeIn K U3w "_law_made" = true) (U1p : keepIn K (.ref J8p) = true)
   {Y9q Z0f : Option Addr} {Z0k : Array (Option Value)} {Z0s Y9p Z0j Z0r U3p Z0w : Value}
   (J7e : nsIn K mainGlobals "_law_own" = some (some (.ref J7z))) (U0z : K.lookup J7z = some ⟨Z0s, Y9q, .func (fnOf "_law_own" "_law_own" (B4 C4s) (B1 C4s) (A1 C4s) .none Y9p Z0j Z0r Z0f U3p Z0w), Z0k⟩) (J3x : codeIn K U3p "_law_own" = true) (J9y : keepIn K (.ref J7z) = true)
   {G8k G9d : Option Addr} {G7w : Array (Option Value)} {G8n G7q J0d G8e C2k G7x : Value}
   (B4t : nsIn K mainGlobals "_law_context" = some (some (.ref B5p))) (B4q : K.lookup B5p = some ⟨G8n, G8k, .func (fnOf "_law_context" "_law_context" (B4 A0s) (B1 A0s) (A1 A0s) .none G7q J0d G8e G9d C2k G7x), G7w⟩) (B5e : codeIn K C2k "_law_context" = true) (B4y : keepIn K (.ref B5p) = true)
   {Y5q Y3c : Option Addr} {V7u : Array (Option Value)} {Y6b Y1b V8d Y5s G6s V6d : Value}
   (G1m : nsIn K mainGlobals "_law_goes_up" = some (some (.ref D7b))) (G0g : K.lookup D7b = some ⟨Y6b, Y5q, .func (fnOf "_law_goes_up" "_law_goes_up" (B4 A9f) (B1 A9f) (A1 A9f) .none Y1b V8d Y5s Y3c G6s V6d), V7u⟩) (G4e : codeIn K G6s "_law_goes_up" = true) (D8k : keepIn K (.ref D7b) = true)
   {V6a V8c : Option Addr} {Y3a : Array (Option Value)} {V5b Y4y V4r V6p G6z Y5z : Value}
   (G0v : nsIn K mainGlobals "_law_lead" = some (some (.ref G0s))) (G4h : K.lookup G0s = some ⟨V5b, V6a, .func (fnOf "_law_lead" "_law_lead" (B4 B3x) (B1 B3x) (A1 B3x) .none Y4y V4r V6p V8c G6z Y5z), Y3a⟩) (D7t : codeIn K G6z "_law_lead" = true) (G3w : keepIn K (.ref G0s) = true)
   {V0e V0p : Option Addr} {U9h : Array (Option Value)} {U9t V0h V0d U7f D4j U7y : Value}
   (C7d : nsIn K mainGlobals "_law_burst" = some (some (.ref C7c))) (C6f : K.lookup C7c = some ⟨U9t, V0e, .func (fnOf "_law_burst" "_law_burst" (B4 A5z) (B1 A5z) (A1 A5z) .none V0h V0d U7f V0p D4j U7y), U9h⟩) (C5k : codeIn K D4j "_law_burst" = true) (C5v : keepIn K (.ref C7c) = true)
   {G9f G9u : Option Addr} {G7c : Array (Option Value)} {G6x G8t G7a G8w C2q G7g : Value}
   (B4e : nsIn K mainGlobals "_law_settled" = some (some (.ref B5d))) (B4k : K.lookup B5d = some ⟨G6x, G9f, .func (fnOf "_law_settled" "_law_settled" (B4 A0q) (B1 A0q) (A1 A0q) .none G8t G7a G8w G9u C2q G7g), G7c⟩) (B5s : codeIn K C2q "_law_settled" = true) (B4x : keepIn K (.ref B5d) = true)
   {U9y U9u : Option Addr} {U6j : Array (Option Value)} {V0n U7m U9q U9p D4q U6z : Value}
   (C5s : nsIn K mainGlobals "_law_ratio" = some (some (.ref C5f))) (C8g : K.lookup C5f = some ⟨V0n, U9y, .func (fnOf "_law_ratio" "_law_ratio" (B4 A6f) (B1 A6f) (A1 A6f) .none U7m U9q U9p U9u D4q U6z), U6j⟩) (C7p : codeIn K D4q "_law_ratio" = true) (C6t : keepIn K (.ref C5f) = true)
   {Y2m V5u : Option Addr} {V8p : Array (Option Value)} {Y2h Y1p V7k Y5a G8c Y6e : Value}
   (D7u : nsIn K mainGlobals "_law_tried" = some (some (.ref G1q))) (D9s : K.lookup G1q = some ⟨Y2h, Y2m, .func (fnOf "_law_tried" "_law_tried" (B4 A6b) (B1 A6b) (A1 A6b) .none Y1p V7k Y5a V5u G8c Y6e), V8p⟩) (G2c : codeIn K G8c "_law_tried" = true) (G2s : keepIn K (.ref G1q) = true)
   {U7c U8p : Option Addr} {U8u : Array (Option Value)} {U8r U9g U6x U8n D4g U7z : Value}
   (C8c : nsIn K mainGlobals "_law_stands" = some (some (.ref C7h))) (C7b : K.lookup C7h = some ⟨U8r, U7c, .func (fnOf "_law_stands" "_law_stands" (B4 A2z) (B1 A2z) (A1 A2z) .none U9g U6x U8n U8p D4g U7z), U8u⟩) (C6p : codeIn K D4g "_law_stands" = true) (C8h : keepIn K (.ref C7h) = true)
   {U7h U8m : Option Addr} {U8y : Array (Option Value)} {U8s U7s U6t U8k D4d U6k : Value}
   (C5h : nsIn K mainGlobals "_law_whole" = some (some (.ref C5b))) (C6d : K.lookup C5b = some ⟨U8s, U7h, .func (fnOf "_law_whole" "_law_whole" (B4 A6e) (B1 A6e) (A1 A6e) .none U7s U6t U8k U8m D4d U6k), U8y⟩) (C6j : codeIn K D4d "_law_whole" = true) (C7r : keepIn K (.ref C5b) = true)
   {J0b G9w : Option Addr} {G7r : Array (Option Value)} {G9c J0c G8g G7f C2m G8a : Value}
   (B5r : nsIn K mainGlobals "_law_trimmed" = some (some (.ref B4g))) (B4n : K.lookup B4g = some ⟨G9c, J0b, .func (fnOf "_law_trimmed" "_law_trimmed" (B4 A0n) (B1 A0n) (A1 A0n) .none J0c G8g G7f G9w C2m G8a), G7r⟩) (B5a : codeIn K C2m "_law_trimmed" = true) (B5m : keepIn K (.ref B4g) = true)
   {Z6n V9e : Option Addr} {Z6p : Array (Option Value)} {Z6v V9g V7e Y2e D6y V8s : Value}
   (U3s : nsIn K mainGlobals "law" = some (some (.ref Y1t))) (Y1c : K.lookup Y1t = some ⟨Z6v, Z6n, .func (fnOf "law" "law" (B4 C8n) (B1 C8n) (A1 C8n) .none V9g V7e Y2e V9e D6y V8s), Z6p⟩) (Y2w : codeIn K D6y "law" = true) (V6e : keepIn K (.ref Y1t) = true)
   (A6h : nsIn K mainGlobals "isinstance" = some none)
   (V6w : nsIn K mainGlobals "int" = some none)
   (J4h : nsIn K mainGlobals "bool" = some none)
   (Y0r : nsIn K mainGlobals "str" = some none)
   (U0h : nsIn K mainGlobals "list" = some none)
   (D8v : nsIn K mainGlobals "tuple" = some none)
   (U0k : nsIn K mainGlobals "dict" = some none)
   (V4m : nsIn K mainGlobals "len" = some none)
   (D9f : nsIn K mainGlobals "range" = some none)
   (Y2g : nsIn K mainGlobals "min" = some none)
   (V8r : nsIn K mainGlobals "max" = some none)
   (Y5p : nsIn K mainGlobals "abs" = some none)
   (V6c : nsIn K mainGlobals "any" = some none)
   (Y5e : nsIn K mainGlobals "all" = some none)
   (Y1f : nsIn K mainGlobals "sum" = some none)
   (J4x : nsIn K mainGlobals "repr" = some none)
   (B0s : nsIn K mainGlobals "enumerate" = some none)
   (B4u : nsIn K mainGlobals "reversed" = some none)
   (Y1a : nsIn K mainGlobals "zip" = some none)
   (C6r : nsIn K mainGlobals "sorted" = some none)
   (C6a : nsIn K mainGlobals "divmod" = some none)
   (V4t : nsIn K mainGlobals "set" = some none)
   (A7x : nsIn K mainGlobals "ValueError" = some none)
   (B4j : kitOne K (.type "int") (.type "int") = some true)
   (B1v : kitOne K (.type "int") (.type "bool") = some false)
   (B4d : kitOne K (.type "int") (.type "str") = some false)
   (B0y : kitOne K (.type "int") (.type "list") = some false)
   (A7f : kitOne K (.type "int") (.type "tuple") = some false)
   (B2h : kitOne K (.type "int") (.type "dict") = some false)
   (B0x : kitOne K (.type "bool") (.type "int") = some true)
   (A6n : kitOne K (.type "bool") (.type "bool") = some true)
   (A9v : kitOne K (.type "bool") (.type "str") = some false)
   (A8b : kitOne K (.type "bool") (.type "list") = some false)
   (A4n : kitOne K (.type "bool") (.type "tuple") = some false)
   (A7y : kitOne K (.type "bool") (.type "dict") = some false)
   (B4h : kitOne K (.type "str") (.type "int") = some false)
   (B0z : kitOne K (.type "str") (.type "bool") = some false)
   (B5h : kitOne K (.type "str") (.type "str") = some true)
   (B0b : kitOne K (.type "str") (.type "list") = some false)
   (A8j : kitOne K (.type "str") (.type "tuple") = some false)
   (B0f : kitOne K (.type "str") (.type "dict") = some false)
   (B1k : kitOne K (.type "list") (.type "int") = some false)
   (A7r : kitOne K (.type "list") (.type "bool") = some false)
   (B0v : kitOne K (.type "list") (.type "str") = some false)
   (A8g : kitOne K (.type "list") (.type "list") = some true)
   (A4p : kitOne K (.type "list") (.type "tuple") = some false)
   (A6z : kitOne K (.type "list") (.type "dict") = some false)
   (A7z : kitOne K (.type "tuple") (.type "int") = some false)
   (A4r : kitOne K (.type "tuple") (.type "bool") = some false)
   (A6q : kitOne K (.type "tuple") (.type "str") = some false)
   (A4q : kitOne K (.type "tuple") (.type "list") = some false)
   (A3j : kitOne K (.type "tuple") (.type "tuple") = some true)
   (A4m : kitOne K (.type "tuple") (.type "dict") = some false)
   (B2d : kitOne K (.type "dict") (.type "int") = some false)
   (A7t : kitOne K (.type "dict") (.type "bool") = some false)
   (B0n : kitOne K (.type "dict") (.type "str") = some false)
   (A6k : kitOne K (.type "dict") (.type "list") = some false)
   (A4k : kitOne K (.type "dict") (.type "tuple") = some false)
   (A8m : kitOne K (.type "dict") (.type "dict") = some true)
   (A1v : kitOne K (.type "NoneType") (.type "int") = some false)
   (A0u : kitOne K (.type "NoneType") (.type "bool") = some false)
   (A1w : kitOne K (.type "NoneType") (.type "str") = some false)
   (A0t : kitOne K (.type "NoneType") (.type "list") = some false)
   (A0d : kitOne K (.type "NoneType") (.type "tuple") = some false)
   (A0w : kitOne K (.type "NoneType") (.type "dict") = some false)
   (sn : specialIn K (.builtin "object.__class__") "__get__" = some (some (.builtin "getset_descriptor.__get__")))
   (tk : takesIn K (.builtin "object.__class__") = some true)
   (a_CW : nsIn K mainGlobals "Way" = some (some (.ref CW)))
   (Z5x : nsIn K mainGlobals "Down" = some (some (.ref W0)))
   (V6m : plainGet K W0 Str.empty = true)
   (V7d : hasDictIn K W0 = true)
   (V4u : plainOver K W0 = true)
   (V8g : findIn K (.ref W0) "__setattr__" = some (some (.builtin "object.__setattr__")))
   (V8x : makesIn K W0 = true)
   (V9u : keepIn K (.ref W0) = true)
   (Y6d : findIn K (.ref W0) "__class__" = some (some (.builtin "object.__class__")))
   (V6f : mroIn K W0 (.type "object") = some true)
   (V9a : findIn K (.ref W0) "__init__" = some (some (.builtin "object.__init__")))
   (Y5c : kitOne K (.ref W0) (.ref CW) = some true)
   (C1b : findIn K (.ref W0) "name" = some (some (.ref A5c)))
   (B9w : isFn K (.ref A5c) = true)
   {J8m J3f : Option Addr} {J2y : Array (Option Value)} {J5u J7b J3e J7p C7z U0m : Value} (C0m : K.lookup A5c = some ⟨J5u, J8m, .func (fnOf "name" "Down.name" (B4 sN0) (B1 sN0) (A1 sN0) .none J7b J3e J7p J3f C7z U0m), J2y⟩)
   (B9k : codeIn K C7z "Down.name" = true)
   (B2v : keepIn K (.ref A5c) = true)
   (Z5c : nsIn K mainGlobals "Up" = some (some (.ref W1)))
   (V9h : plainGet K W1 Str.empty = true)
   (Y4z : hasDictIn K W1 = true)
   (V7j : plainOver K W1 = true)
   (Y6t : findIn K (.ref W1) "__setattr__" = some (some (.builtin "object.__setattr__")))
   (V6g : makesIn K W1 = true)
   (Y3v : keepIn K (.ref W1) = true)
   (Y0j : findIn K (.ref W1) "__class__" = some (some (.builtin "object.__class__")))
   (Y1u : mroIn K W1 (.type "object") = some true)
   (V6z : findIn K (.ref W1) "__init__" = some (some (.builtin "object.__init__")))
   (V5a : kitOne K (.ref W1) (.ref CW) = some true)
   (B8y : findIn K (.ref W1) "name" = some (some (.ref A5d)))
   (C1g : isFn K (.ref A5d) = true)
   {J9u J7s : Option Addr} {J4y : Array (Option Value)} {J6p J3t J7u U0d C6z J5r : Value} (C1s : K.lookup A5d = some ⟨J6p, J9u, .func (fnOf "name" "Up.name" (B4 sN1) (B1 sN1) (A1 sN1) .none J3t J7u U0d J7s C6z J5r), J4y⟩)
   (B8p : codeIn K C6z "Up.name" = true)
   (B3c : keepIn K (.ref A5d) = true)
   (Z5w : nsIn K mainGlobals "Floor" = some (some (.ref W2)))
   (V5f : plainGet K W2 Str.empty = true)
   (V4h : hasDictIn K W2 = true)
   (Y1j : plainOver K W2 = true)
   (V6r : findIn K (.ref W2) "__setattr__" = some (some (.builtin "object.__setattr__")))
   (V6s : makesIn K W2 = true)
   (Y3t : keepIn K (.ref W2) = true)
   (Y3m : findIn K (.ref W2) "__class__" = some (some (.builtin "object.__class__")))
   (Y5n : mroIn K W2 (.type "object") = some true)
   (V9d : findIn K (.ref W2) "__init__" = some (some (.builtin "object.__init__")))
   (V7w : kitOne K (.ref W2) (.ref CW) = some true)
   (C0r : findIn K (.ref W2) "name" = some (some (.ref A5e)))
   (B8z : isFn K (.ref A5e) = true)
   {J3g U1e : Option Addr} {J2r : Array (Option Value)} {J6c J7m J4j J9c C5d J7k : Value} (C1q : K.lookup A5e = some ⟨J6c, J3g, .func (fnOf "name" "Floor.name" (B4 sN2) (B1 sN2) (A1 sN2) .none J7m J4j J9c U1e C5d J7k), J2r⟩)
   (B8x : codeIn K C5d "Floor.name" = true)
   (B3b : keepIn K (.ref A5e) = true)
   (Z4g : nsIn K mainGlobals "Ceiling" = some (some (.ref W3)))
   (V9r : plainGet K W3 Str.empty = true)
   (V7x : hasDictIn K W3 = true)
   (Y2c : plainOver K W3 = true)
   (V5t : findIn K (.ref W3) "__setattr__" = some (some (.builtin "object.__setattr__")))
   (Y3p : makesIn K W3 = true)
   (Y6u : keepIn K (.ref W3) = true)
   (Y4m : findIn K (.ref W3) "__class__" = some (some (.builtin "object.__class__")))
   (V9v : mroIn K W3 (.type "object") = some true)
   (Y4c : findIn K (.ref W3) "__init__" = some (some (.builtin "object.__init__")))
   (Y3g : kitOne K (.ref W3) (.ref CW) = some true)
   (B8d : findIn K (.ref W3) "name" = some (some (.ref A4z)))
   (C1p : isFn K (.ref A4z) = true)
   {J4r J3m : Option Addr} {J7v : Array (Option Value)} {J8c J5y J2w J7c C7q U0c : Value} (C0k : K.lookup A4z = some ⟨J8c, J4r, .func (fnOf "name" "Ceiling.name" (B4 sN3) (B1 sN3) (A1 sN3) .none J5y J2w J7c J3m C7q U0c), J7v⟩)
   (C1n : codeIn K C7q "Ceiling.name" = true)
   (B2w : keepIn K (.ref A4z) = true)
   (Z4z : nsIn K mainGlobals "HalfUp" = some (some (.ref W4)))
   (V8j : plainGet K W4 Str.empty = true)
   (V9t : hasDictIn K W4 = true)
   (Y1n : plainOver K W4 = true)
   (Y6m : findIn K (.ref W4) "__setattr__" = some (some (.builtin "object.__setattr__")))
   (Y1d : makesIn K W4 = true)
   (Y2r : keepIn K (.ref W4) = true)
   (Y2v : findIn K (.ref W4) "__class__" = some (some (.builtin "object.__class__")))
   (V5p : mroIn K W4 (.type "object") = some true)
   (Y2p : findIn K (.ref W4) "__init__" = some (some (.builtin "object.__init__")))
   (V9x : kitOne K (.ref W4) (.ref CW) = some true)
   (B8w : findIn K (.ref W4) "name" = some (some (.ref A5f)))
   (B8t : isFn K (.ref A5f) = true)
   {J6u J6a : Option Addr} {J8e : Array (Option Value)} {J7n J7j J5h J8t C5u U0t : Value} (B9f : K.lookup A5f = some ⟨J7n, J6u, .func (fnOf "name" "HalfUp.name" (B4 sN4) (B1 sN4) (A1 sN4) .none J7j J5h J8t J6a C5u U0t), J8e⟩)
   (B9x : codeIn K C5u "HalfUp.name" = true)
   (B2u : keepIn K (.ref A5f) = true)
   (Z4j : nsIn K mainGlobals "HalfDown" = some (some (.ref W5)))
   (Y3x : plainGet K W5 Str.empty = true)
   (Y0m : hasDictIn K W5 = true)
   (Y6c : plainOver K W5 = true)
   (V9q : findIn K (.ref W5) "__setattr__" = some (some (.builtin "object.__setattr__")))
   (V8k : makesIn K W5 = true)
   (Y1g : keepIn K (.ref W5) = true)
   (Y2q : findIn K (.ref W5) "__class__" = some (some (.builtin "object.__class__")))
   (Y4x : mroIn K W5 (.type "object") = some true)
   (Y0u : findIn K (.ref W5) "__init__" = some (some (.builtin "object.__init__")))
   (Y1m : kitOne K (.ref W5) (.ref CW) = some true)
   (C1h : findIn K (.ref W5) "name" = some (some (.ref A5b)))
   (C1c : isFn K (.ref A5b) = true)
   {J5e J4f : Option Addr} {J6f : Array (Option Value)} {J3p J4n U0w J6v C7s J5g : Value} (C1y : K.lookup A5b = some ⟨J3p, J5e, .func (fnOf "name" "HalfDown.name" (B4 sN5) (B1 sN5) (A1 sN5) .none J4n U0w J6v J4f C7s J5g), J6f⟩)
   (B9z : codeIn K C7s "HalfDown.name" = true)
   (B2z : keepIn K (.ref A5b) = true)
   (Z4h : nsIn K mainGlobals "HalfEven" = some (some (.ref W6)))
   (V6q : plainGet K W6 Str.empty = true)
   (Y3u : hasDictIn K W6 = true)
   (Y6r : plainOver K W6 = true)
   (V5v : findIn K (.ref W6) "__setattr__" = some (some (.builtin "object.__setattr__")))
   (V7p : makesIn K W6 = true)
   (V8a : keepIn K (.ref W6) = true)
   (Y4q : findIn K (.ref W6) "__class__" = some (some (.builtin "object.__class__")))
   (Y6q : mroIn K W6 (.type "object") = some true)
   (Y2x : findIn K (.ref W6) "__init__" = some (some (.builtin "object.__init__")))
   (V5x : kitOne K (.ref W6) (.ref CW) = some true)
   (C0q : findIn K (.ref W6) "name" = some (some (.ref A5a)))
   (B8s : isFn K (.ref A5a) = true)
   {J4w U1h : Option Addr} {U1d : Array (Option Value)} {U0p J3c J4t U0e C4y J6m : Value} (C0t : K.lookup A5a = some ⟨U0p, J4w, .func (fnOf "name" "HalfEven.name" (B4 sN6) (B1 sN6) (A1 sN6) .none J3c J4t U0e U1h C4y J6m), U1d⟩)
   (C0p : codeIn K C4y "HalfEven.name" = true)
   (B2y : keepIn K (.ref A5a) = true)
   (Z6a : nsIn K mainGlobals "FiveUp" = some (some (.ref W7)))
   (Y4g : plainGet K W7 Str.empty = true)
   (V6b : hasDictIn K W7 = true)
   (Y5g : plainOver K W7 = true)
   (V7q : findIn K (.ref W7) "__setattr__" = some (some (.builtin "object.__setattr__")))
   (V7c : makesIn K W7 = true)
   (Y4k : keepIn K (.ref W7) = true)
   (V4y : findIn K (.ref W7) "__class__" = some (some (.builtin "object.__class__")))
   (V9s : mroIn K W7 (.type "object") = some true)
   (V5z : findIn K (.ref W7) "__init__" = some (some (.builtin "object.__init__")))
   (Y0g : kitOne K (.ref W7) (.ref CW) = some true)
   (B9g : findIn K (.ref W7) "name" = some (some (.ref A5h)))
   (B9m : isFn K (.ref A5h) = true)
   {J3z U0u : Option Addr} {J9b : Array (Option Value)} {J3u J9s J2p U0y C6s U1r : Value} (C1v : K.lookup A5h = some ⟨J3u, J3z, .func (fnOf "name" "FiveUp.name" (B4 sN7) (B1 sN7) (A1 sN7) .none J9s J2p U0y U0u C6s U1r), J9b⟩)
   (C1j : codeIn K C6s "FiveUp.name" = true)
   (B3d : keepIn K (.ref A5h) = true)
   (Z6f : nsIn K mainGlobals "Number" = some (some (.ref CN)))
   (Y3z : plainGet K CN Str.empty = true)
   (Y1h : hasDictIn K CN = true)
   (V7a : plainOver K CN = true)
   (Y6j : findIn K (.ref CN) "__setattr__" = some (some (.builtin "object.__setattr__")))
   (Y5x : makesIn K CN = true)
   (V8v : keepIn K (.ref CN) = true)
   (Y1k : findIn K (.ref CN) "__class__" = some (some (.builtin "object.__class__")))
   (V7t : mroIn K CN (.type "object") = some true)
   (C1d : findIn K (.ref CN) "kind" = some none)
   (B8q : findIn K (.ref CN) "sign" = some none)
   (A8f : findIn K (.ref CN) "figures" = some none)
   (B5q : findIn K (.ref CN) "power" = some none)
   (V6k : findIn K (.ref CN) "__init__" = some (some (.ref D4h)))
   (Y5h : isFn K (.ref D4h) = true)
   {Z6h Z6c : Option Addr} {Z5h : Array (Option Value)} {Z5u Z5a Z6k Z5y V5g Z6b : Value} (Y0b : K.lookup D4h = some ⟨Z5u, Z6h, .func (fnOf "__init__" "Number.__init__" (B4 D3n) (B1 D3n) (A1 D3n) .none Z5a Z6k Z5y Z6c V5g Z6b), Z5h⟩)
   (Y3j : codeIn K V5g "Number.__init__" = true)
   (V8f : keepIn K (.ref D4h) = true)
   (G1n : kitOne K (.ref CN) (.ref CN) = some true)
   (A6t : findIn K (.ref W0) "goes_up" = some (some (.ref A0j)))
   (A6j : isFn K (.ref A0j) = true)
   {D1k D0s : Option Addr} {C9q : Array (Option Value)} {C9t D1c C9r C9m B3u D0r : Value} (A6x : K.lookup A0j = some ⟨C9t, D1k, .func (fnOf "goes_up" "Down.goes_up" (B4 sU0) (B1 sU0) (A1 sU0) .none D1c C9r C9m D0s B3u D0r), C9q⟩)
   (A7a : codeIn K B3u "Down.goes_up" = true)
   (A2h : keepIn K (.ref A0j) = true)
   (B1s : findIn K (.ref W0) "to_end" = some (some (.ref A1p)))
   (B1d : isFn K (.ref A1p) = true)
   {D8e G3v : Option Addr} {D9z : Array (Option Value)} {D9v D9p D9y D7p B6q G4c : Value} (B0d : K.lookup A1p = some ⟨D9v, D8e, .func (fnOf "to_end" "Down.to_end" (B4 sT0) (B1 sT0) (A1 sT0) .none D9p D9y D7p G3v B6q G4c), D9z⟩)
   (B1u : codeIn K B6q "Down.to_end" = true)
   (A4b : keepIn K (.ref A1p) = true)
   (A8k : findIn K (.ref W1) "goes_up" = some (some (.ref A0k)))
   (A8c : isFn K (.ref A0k) = true)
   {D0m D1u : Option Addr} {C9k : Array (Option Value)} {D1b C8w C8x C9e B3t C9b : Value} (A6r : K.lookup A0k = some ⟨D1b, D0m, .func (fnOf "goes_up" "Up.goes_up" (B4 sU1) (B1 sU1) (A1 sU1) .none C8w C8x C9e D1u B3t C9b), C9k⟩)
   (A7w : codeIn K B3t "Up.goes_up" = true)
   (A2k : keepIn K (.ref A0k) = true)
   (B1z : findIn K (.ref W1) "to_end" = some (some (.ref A1q)))
   (B1m : isFn K (.ref A1q) = true)
   {G2v G3a : Option Addr} {D8r : Array (Option Value)} {D9x D7a D8d G0f B7a G3c : Value} (B0u : K.lookup A1q = some ⟨D9x, G2v, .func (fnOf "to_end" "Up.to_end" (B4 sT1) (B1 sT1) (A1 sT1) .none D7a D8d G0f G3a B7a G3c), D8r⟩)
   (B0m : codeIn K B7a "Up.to_end" = true)
   (A4e : keepIn K (.ref A1q) = true)
   (A7e : findIn K (.ref W2) "goes_up" = some (some (.ref A0f)))
   (A7p : isFn K (.ref A0f) = true)
   {C9y D0k : Option Addr} {D0h : Array (Option Value)} {D0y D1m D1y D0c B3n D0w : Value} (A6m : K.lookup A0f = some ⟨D0y, C9y, .func (fnOf "goes_up" "Floor.goes_up" (B4 sU2) (B1 sU2) (A1 sU2) .none D1m D1y D0c D0k B3n D0w), D0h⟩)
   (A8h : codeIn K B3n "Floor.goes_up" = true)
   (A2j : keepIn K (.ref A0f) = true)
   (B2f : findIn K (.ref W2) "to_end" = some (some (.ref A1f)))
   (B1q : isFn K (.ref A1f) = true)
   {G0y G3q : Option Addr} {D9r : Array (Option Value)} {G1h G2t G1a D6k B6s G2x : Value} (B0e : K.lookup A1f = some ⟨G1h, G0y, .func (fnOf "to_end" "Floor.to_end" (B4 sT2) (B1 sT2) (A1 sT2) .none G2t G1a D6k G3q B6s G2x), D9r⟩)
   (B0p : codeIn K B6s "Floor.to_end" = true)
   (A3z : keepIn K (.ref A1f) = true)
   (A7n : findIn K (.ref W3) "goes_up" = some (some (.ref A0h)))
   (A7s : isFn K (.ref A0h) = true)
   {D0a C9x : Option Addr} {D1a : Array (Option Value)} {D1p C9v D0j D1v B3p D1h : Value} (A6u : K.lookup A0h = some ⟨D1p, D0a, .func (fnOf "goes_up" "Ceiling.goes_up" (B4 sU3) (B1 sU3) (A1 sU3) .none C9v D0j D1v C9x B3p D1h), D1a⟩)
   (A7k : codeIn K B3p "Ceiling.goes_up" = true)
   (A2m : keepIn K (.ref A0h) = true)
   (B2e : findIn K (.ref W3) "to_end" = some (some (.ref A1r)))
   (B1x : isFn K (.ref A1r) = true)
   {D7j G2a : Option Addr} {G2z : Array (Option Value)} {D6s D6r G0c G0z B6r D9d : Value} (B1j : K.lookup A1r = some ⟨D6s, D7j, .func (fnOf "to_end" "Ceiling.to_end" (B4 sT3) (B1 sT3) (A1 sT3) .none D6r G0c G0z G2a B6r D9d), G2z⟩)
   (B2g : codeIn K B6r "Ceiling.to_end" = true)
   (A4c : keepIn K (.ref A1r) = true)
   (A6p : findIn K (.ref W4) "goes_up" = some (some (.ref A0e)))
   (A7d : isFn K (.ref A0e) = true)
   {D0b D1x : Option Addr} {D0v : Array (Option Value)} {D1r C9f D1f D1s B3m D1t : Value} (A6s : K.lookup A0e = some ⟨D1r, D0b, .func (fnOf "goes_up" "HalfUp.goes_up" (B4 sU4) (B1 sU4) (A1 sU4) .none C9f D1f D1s D1x B3m D1t), D0v⟩)
   (A7q : codeIn K B3m "HalfUp.goes_up" = true)
   (A2f : keepIn K (.ref A0e) = true)
   (B1t : findIn K (.ref W4) "to_end" = some (some (.ref A1n)))
   (B0j : isFn K (.ref A1n) = true)
   {D7s G0p : Option Addr} {D7g : Array (Option Value)} {D8b G3m D8j D9c B6y D8z : Value} (B1w : K.lookup A1n = some ⟨D8b, D7s, .func (fnOf "to_end" "HalfUp.to_end" (B4 sT4) (B1 sT4) (A1 sT4) .none G3m D8j D9c G0p B6y D8z), D7g⟩)
   (B0h : codeIn K B6y "HalfUp.to_end" = true)
   (A3v : keepIn K (.ref A1n) = true)
   (A6y : findIn K (.ref W5) "goes_up" = some (some (.ref A0c)))
   (A8n : isFn K (.ref A0c) = true)
   {C9z C8z : Option Addr} {D1j : Array (Option Value)} {D1g C9s D1q D0p B3s D1w : Value} (A7m : K.lookup A0c = some ⟨D1g, C9z, .func (fnOf "goes_up" "HalfDown.goes_up" (B4 sU5) (B1 sU5) (A1 sU5) .none C9s D1q D0p C8z B3s D1w), D1j⟩)
   (A7b : codeIn K B3s "HalfDown.goes_up" = true)
   (A2d : keepIn K (.ref A0c) = true)
   (A9u : findIn K (.ref W5) "to_end" = some (some (.ref A1h)))
   (B1g : isFn K (.ref A1h) = true)
   {G0e D9h : Option Addr} {G1w : Array (Option Value)} {G3b G2m G1f D8g B6v G1k : Value} (A9w : K.lookup A1h = some ⟨G3b, G0e, .func (fnOf "to_end" "HalfDown.to_end" (B4 sT5) (B1 sT5) (A1 sT5) .none G2m G1f D8g D9h B6v G1k), G1w⟩)
   (A9z : codeIn K B6v "HalfDown.to_end" = true)
   (A4a : keepIn K (.ref A1h) = true)
   (A8p : findIn K (.ref W6) "goes_up" = some (some (.ref A0m)))
   (A8e : isFn K (.ref A0m) = true)
   {D0q C9u : Option Addr} {C9n : Array (Option Value)} {C8y C9p D0z D1e B3q D0g : Value} (A7v : K.lookup A0m = some ⟨C8y, D0q, .func (fnOf "goes_up" "HalfEven.goes_up" (B4 sU6) (B1 sU6) (A1 sU6) .none C9p D0z D1e C9u B3q D0g), C9n⟩)
   (A7g : codeIn K B3q "HalfEven.goes_up" = true)
   (A2g : keepIn K (.ref A0m) = true)
   (B1h : findIn K (.ref W6) "to_end" = some (some (.ref A1k)))
   (B1f : isFn K (.ref A1k) = true)
   {D8f G3d : Option Addr} {G1s : Array (Option Value)} {G0j G2f D6m G0a B6n D6q : Value} (A9x : K.lookup A1k = some ⟨G0j, D8f, .func (fnOf "to_end" "HalfEven.to_end" (B4 sT6) (B1 sT6) (A1 sT6) .none G2f D6m G0a G3d B6n D6q), G1s⟩)
   (B0t : codeIn K B6n "HalfEven.to_end" = true)
   (A4d : keepIn K (.ref A1k) = true)
   (A7h : findIn K (.ref W7) "goes_up" = some (some (.ref A0g)))
   (A7j : isFn K (.ref A0g) = true)
   {D0n D0f : Option Addr} {C9h : Array (Option Value)} {D0u C9c C9j C9w B3r D0d : Value} (A7c : K.lookup A0g = some ⟨D0u, D0n, .func (fnOf "goes_up" "FiveUp.goes_up" (B4 sU7) (B1 sU7) (A1 sU7) .none C9c C9j C9w D0f B3r D0d), C9h⟩)
   (A8a : codeIn K B3r "FiveUp.goes_up" = true)
   (A2e : keepIn K (.ref A0g) = true)
   (B0r : findIn K (.ref W7) "to_end" = some (some (.ref A1g)))
   (B0k : isFn K (.ref A1g) = true)
   {G1v G0t : Option Addr} {G3f : Array (Option Value)} {G0n G3j G3z D8q B6x D9m : Value} (B2a : K.lookup A1g = some ⟨G0n, G1v, .func (fnOf "to_end" "FiveUp.to_end" (B4 sT7) (B1 sT7) (A1 sT7) .none G3j G3z D8q G0t B6x D9m), G3f⟩)
   (B1n : codeIn K B6x "FiveUp.to_end" = true)
   (A3y : keepIn K (.ref A1g) = true)
   (Z5t : nsIn K mainGlobals "Context" = some (some (.ref CC)))
   (Y2f : plainGet K CC Str.empty = true)
   (Y6k : hasDictIn K CC = true)
   (Y2z : plainOver K CC = true)
   (Y0h : findIn K (.ref CC) "__setattr__" = some (some (.builtin "object.__setattr__")))
   (Y1v : makesIn K CC = true)
   (Y0e : keepIn K (.ref CC) = true)
   (B9t : findIn K (.ref CC) "room" = some none)
   (C0y : findIn K (.ref CC) "rule" = some none)
   (B5k : findIn K (.ref CC) "least" = some none)
   (B9u : findIn K (.ref CC) "most" = some none)
   (B4s : findIn K (.ref CC) "risen" = some none)
   (A7u : findIn K (.ref CC) "trapped" = some none)
   (V9k : findIn K (.ref CC) "__init__" = some (some (.ref D3v)))
   (V9w : isFn K (.ref D3v) = true)
   {Z4w V5q : Option Addr} {Z4x : Array (Option Value)} {Z4p V8e Y5f Y0y J4u V4k : Value} (Y2b : K.lookup D3v = some ⟨Z4p, Z4w, .func (fnOf "__init__" "Context.__init__" (B4 A0b) (B1 A0b) (A1 A0b) (.ref Y4v) V8e Y5f Y0y V5q J4u V4k), Z4x⟩)
   (V7b : codeIn K J4u "Context.__init__" = true)
   (V7f : keepIn K (.ref D3v) = true)
   {A0aj A0ax Z9w : Tok} {A0ad : Nat} {Z5f : Option Addr} {Z4q : Value} {Z6u : Array (Option Value)} (V8w : K.lookup Y4v = some ⟨Z4q, Z5f, .seq #[.int 9 A0aj, .str "half even" A0ax, .none, .int 60 Z9w] A0ad, Z6u⟩)
   (B5f : findIn K (.ref CC) "flags" = some (some (.ref A3h)))
   (B4p : isFn K (.ref A3h) = true)
   {G9y G7k : Option Addr} {G7p : Array (Option Value)} {J0f G7s G7j G8b C2r G9g : Value} (B5c : K.lookup A3h = some ⟨J0f, G9y, .func (fnOf "flags" "Context.flags" (B4 A2n) (B1 A2n) (A1 A2n) .none G7s G7j G8b G7k C2r G9g), G7p⟩)
   (B4z : codeIn K C2r "Context.flags" = true)
   (A6v : keepIn K (.ref A3h) = true)
   (B1p : findIn K (.ref CC) "lowest" = some (some (.ref A1j)))
   (B0c : isFn K (.ref A1j) = true)
   {G2p G1b : Option Addr} {D6w : Array (Option Value)} {G3p G2g G1e G3n B6t G0q : Value} (B1c : K.lookup A1j = some ⟨G3p, G2p, .func (fnOf "lowest" "Context.lowest" (B4 B2s) (B1 B2s) (A1 B2s) .none G2g G1e G3n G1b B6t G0q), D6w⟩)
   (B0w : codeIn K B6t "Context.lowest" = true)
   (A3x : keepIn K (.ref A1j) = true)
   (C5g : findIn K (.ref CC) "way" = some (some (.ref B1a)))
   (C5p : isFn K (.ref B1a) = true)
   {V0j U6h : Option Addr} {U8j : Array (Option Value)} {U8x U7t V0m U9m D3y U8w : Value} (C8k : K.lookup B1a = some ⟨U8x, V0j, .func (fnOf "way" "Context.way" (B4 B2n) (B1 B2n) (A1 B2n) .none U7t V0m U9m U6h D3y U8w), U8j⟩)
   (C7t : codeIn K D3y "Context.way" = true)
   (B6u : keepIn K (.ref B1a) = true)
   (B4v : findIn K (.ref CC) "traps" = some (some (.ref A3g)))
   (B5n : isFn K (.ref A3g) = true)
   {G6y G6v : Option Addr} {G7z : Array (Option Value)} {G8x G8z G9b J0e C2n G9a : Value} (B4f : K.lookup A3g = some ⟨G8x, G6y, .func (fnOf "traps" "Context.traps" (B4 A2p) (B1 A2p) (A1 A2p) .none G8z G9b J0e G6v C2n G9a), G7z⟩)
   (B5g : codeIn K C2n "Context.traps" = true)
   (A8d : keepIn K (.ref A3g) = true)
   (C1r : findIn K (.ref CC) "trap" = some (some (.ref A5g)))
   (C0d : isFn K (.ref A5g) = true)
   {J8u U0q : Option Addr} {J5w : Array (Option Value)} {J8d J6r J5x J4v C6n J3w : Value} (C0c : K.lookup A5g = some ⟨J8d, J8u, .func (fnOf "trap" "Context.trap" (B4 A4w) (B1 A4w) (A1 A4w) .none J6r J5x J4v U0q C6n J3w), J5w⟩)
   (B8g : codeIn K C6n "Context.trap" = true)
   (B2x : keepIn K (.ref A5g) = true)
   (B2c : findIn K (.ref CC) "raised" = some (some (.ref A1m)))
   (B1b : isFn K (.ref A1m) = true)
   {G0b D8t : Option Addr} {G0d : Array (Option Value)} {D7y G3t G2k D8c B6p D8h : Value} (B0q : K.lookup A1m = some ⟨D7y, G0b, .func (fnOf "raised" "Context.raised" (B4 A0r) (B1 A0r) (A1 A0r) .none G3t G2k D8c D8t B6p D8h), G0d⟩)
   (B0a : codeIn K B6p "Context.raised" = true)
   (A3w : keepIn K (.ref A1m) = true)
   (Z4s : nsIn K mainGlobals "Ratio" = some (some (.ref CQ)))
   (Y5j : plainGet K CQ Str.empty = true)
   (V8z : hasDictIn K CQ = true)
   (V8q : plainOver K CQ = true)
   (V5n : findIn K (.ref CQ) "__setattr__" = some (some (.builtin "object.__setattr__")))
   (V5e : makesIn K CQ = true)
   (Y1x : keepIn K (.ref CQ) = true)
   (Y4p : findIn K (.ref CQ) "__class__" = some (some (.builtin "object.__class__")))
   (Y2s : mroIn K CQ (.type "object") = some true)
   (C7x : findIn K (.ref CQ) "top" = some none)
   (A9y : findIn K (.ref CQ) "bottom" = some none)
   (B5b : findIn K (.ref CQ) "power" = some none)
   (Y4s : findIn K (.ref CQ) "__init__" = some (some (.ref D4f)))
   (Y4e : isFn K (.ref D4f) = true)
   {Z5b V7n : Option Addr} {Z6e : Array (Option Value)} {Z4v V6j V9n Y4u U0n V5m : Value} (Y1r : K.lookup D4f = some ⟨Z4v, Z5b, .func (fnOf "__init__" "Ratio.__init__" (B4 A5v) (B1 A5v) (A1 A5v) (.ref Y2k) V6j V9n Y4u V7n U0n V5m), Z6e⟩)
   (Y4j : codeIn K U0n "Ratio.__init__" = true)
   (V7z : keepIn K (.ref D4f) = true)
   {Z1x : Tok} {A0bc : Nat} {Z6j : Option Addr} {Z6q : Value} {Z4t : Array (Option Value)} (G7h : K.lookup Y2k = some ⟨Z6q, Z6j, .seq #[.int 0 Z1x] A0bc, Z4t⟩)
   (B4m : findIn K (.ref CQ) "first" = some (some (.ref A0v)))
   (B4r : isFn K (.ref A0v) = true)
   {G9k G8d : Option Addr} {G7n : Array (Option Value)} {G7t G8y G8m G6w C2p G8p : Value} (B5j : K.lookup A0v = some ⟨G7t, G9k, .func (fnOf "first" "Ratio.first" (B4 A2q) (B1 A2q) (A1 A2q) .none G8y G8m G6w G8d C2p G8p), G7n⟩)
   (B4w : codeIn K C2p "Ratio.first" = true)
   (A6w : keepIn K (.ref A0v) = true)
   (D9e : findIn K (.ref CQ) "at" = some (some (.ref B3a)))
   (D6v : isFn K (.ref B3a) = true)
   {Y0a Y2j : Option Addr} {Y3h : Array (Option Value)} {V7g Y0x Y2t V6v G6u V6u : Value} (G2n : K.lookup B3a = some ⟨V7g, Y0a, .func (fnOf "at" "Ratio.at" (B4 C4u) (B1 C4u) (A1 C4u) .none Y0x Y2t V6v Y2j G6u V6u), Y3h⟩)
   (G1d : codeIn K G6u "Ratio.at" = true)
   (C3a : keepIn K (.ref B3a) = true)
   (Z5q : nsIn K mainGlobals "Exact" = some (some (.ref CE)))
   (Y0w : kitOne K (.ref CQ) (.ref CE) = some true)
   (Z5k : nsIn K mainGlobals "BadContext" = some (some (.ref C1)))
   (Z5g : nsIn K mainGlobals "BadNumber" = some (some (.ref C2)))
   (Z0y : nsIn K mainGlobals "Trapped" = some (some (.ref C3)))
   (a_CR : nsIn K mainGlobals "ReckonError" = some (some (.ref CR)))
   (cty : typeIn K (.ref CR) = some (.type "type"))
   {dR : ClassData} (ccl : clsIn K CR = some dR)
   (cex : subIn K (.ref CR) (.type "BaseException") = some true)
   (q1 : excIn K C1 [.type "ValueError", .type "Exception", .type "BaseException", .type "object"] "ValueError.__new__" = true)
   (q2 : excIn K C2 [.type "ValueError", .type "Exception", .type "BaseException", .type "object"] "ValueError.__new__" = true)
   (sub3 : subIn K (.ref C3) (.ref CR) = some true)
   (xga3 : findIn K (.ref C3) "__getattribute__" = some (some (.builtin "BaseException.__getattribute__")))
   (xgh3 : findIn K (.ref C3) "__getattr__" = some none)
   (xca3 : findIn K (.ref C3) "__class__" = some (some (.builtin "object.__class__")))
   (xob3 : mroIn K C3 (.type "object") = some true)
   (xbe3 : subIn K (.ref C3) (.type "BaseException") = some true)
   {d3 : ClassData} (xcl3 : clsIn K C3 = some d3)
   (h3_1 : kitOne K (.ref C3) (.ref C1) = some false)
   (Z9y : kitOne K (.ref C3) (.ref C2) = some false)
   (Z9u : kitOne K (.ref C3) (.ref C3) = some true)
   (hv3 : kitOne K (.ref C3) (.type "ValueError") = some true)
   {nmT qT : Str} {NT : Addr} {bsT bmT : List Value} {snT : List Str} {suT : List Value} {abT : Bool} {coT : Option Bool} {ddT : Option Addr} {kT0 kT1 kT2 kT3 kT5 : Option Value} (lT : K.lookup C3 = some (excClassObj nmT qT C3 NT bsT bmT true snT suT abT coT ddT kT0 kT1 kT2 kT3 kT5 "ValueError.__new__"))
   {ocN : Value} {odN : Option Addr} {esN : Array DictEntry} {epN : Nat} {slN : Array (Option Value)} (lN : K.lookup NT = some ⟨ocN, odN, .dict esN epN, slN⟩)
   (alN : (esN.all fun e => match e.key with | .str _ _ => true | _ => false) = true)
   (niT : nsIn K NT "__init__" = some (some (.ref fX)))
   {nmU qU : Str} {NU : Addr} {bsU : List Value} {snU : List Str} {suU : List Value} {abU : Bool} {coU : Option Bool} {ddU : Option Addr} {kU0 kU1 kU2 kU3 kU5 : Option Value} (lT1 : K.lookup C1 = some (excClassObj nmU qU C1 NU bsU bmT true snU suU abU coU ddU kU0 kU1 kU2 kU3 kU5 "ValueError.__new__"))
   (saT : findIn K (.ref C3) "__setattr__" = some (some (.builtin "object.__setattr__")))
   (nsg3 : findIn K (.ref C3) "signal" = some none)
   {A0bk A0au : Option Addr} {A0ay : Array (Option Value)} {Z1w A0ag Z9x A0bj Z1y A0bb : Value} (Z0h : K.lookup fX = some ⟨Z1w, A0bk, .func (fnOf "__init__" "Trapped.__init__" (B4 B2q) (B1 B2q) (A1 B2q) .none A0ag Z9x A0bj A0au Z1y A0bb), A0ay⟩)
   (Z6g : codeIn K Z1y "Trapped.__init__" = true)
   (Z6r : keepIn K (.ref fX) = true)
   (fcT : Z1w = .type "function")
   (kTR : kitOne K (.ref C3) (.ref CR) = some true)
   (tyT : typeIn K (.ref C3) = some (.type "type"))
   (subT : subIn K (.ref C3) (.ref C3) = some true)
   (a_S : nsIn K mainGlobals "SIGNALS" = some (some (.ref aS)))
   {u0 u1 u2 u3 u4 u5 u6 : Tok} {nS : Nat} {odS : Option Addr} {slS : Array (Option Value)} (lS : K.lookup aS = some ⟨.type "tuple", odS, .seq #[.str "void" u0, .str "split" u1, .str "burst" u2, .str "sunk" u3, .str "faint" u4, .str "off" u5, .str "cut" u6] nS, slS⟩)
   (hcode : D6y = .ref cc)
   {tq : Tok} (bq : nsIn K mainGlobals "BEYOND_ALL_POWERS" = some (some (.int 1000 tq))) :
   ∃ fd : FuncData, (∀ (s : Shared) (v : Value), BindsTo s fd ⟨[v], []⟩ [("_law_script", v)]) /\ ∀ base : Heap, K.In base -> base.Ns mainGlobals mg -> LamB mg base cc P0 -> FnOkG l.prog w K mg base (CX1 l.prog w) 11 fa fd ["_law_script"] (U3h K P0) := by
 have e := hfa.symm.trans (mg_of X G U3s)
 cases e
 have D3x := D4 (ps := ["whole", "count"]) (st := Z4) X G B8r C1z B7z B9e fun _ _ _ _ _ _ us hl => match us, hl with | [_, _], _ => rfl
 have B6z := D4 (ps := ["count"]) (st := A3b) X G G0m G2y D7w D6p fun _ _ _ _ _ _ us hl => match us, hl with | [_], _ => rfl
 have G7e := D4 (ps := ["size", "middle"]) (st := A5x) X G C8a C7v C6q C5q fun _ _ _ _ _ _ us hl => match us, hl with | [_, _], _ => rfl
 have U3v := D4 (ps := ["whole"]) (st := A9j) X G D8y D9t D9g D9b fun _ _ _ _ _ _ us hl => match us, hl with | [_], _ => rfl
 have D_plain := D4 (ps := ["sign", "figures", "power"]) (st := B4b) X G D9j G2b D8n D8u fun _ _ _ _ _ _ us hl => match us, hl with | [_, _, _], _ => rfl
 have D_end := D4 (ps := ["sign"]) (st := G6h) X G Y0v Y4a Y6h Y2y fun _ _ _ _ _ _ us hl => match us, hl with | [_], _ => rfl
 have D_nothing := D4 (ps := []) (st := A3e) X G C1t C0v C2b C1m fun _ _ _ _ _ _ us hl => match us, hl with | [], _ => rfl
 have D_told := D4 (ps := ["number"]) (st := C2j) X G J5n J7x J2q J7f fun _ _ _ _ _ _ us hl => match us, hl with | [_], _ => rfl
 have V5c := D4 (ps := ["number"]) (st := C4g) X G U1c U0x J6z J5c fun _ _ _ _ _ _ us hl => match us, hl with | [_], _ => rfl
 have C2y := D4 (ps := ["thing"]) (st := A5t) X G D8s G1p G4b G1z fun _ _ _ _ _ _ us hl => match us, hl with | [_], _ => rfl
 have Y4f := D4 (ps := ["thing", "least", "most"]) (st := C8r) X G V6n V4g Y5k Y6s fun _ _ _ _ _ _ us hl => match us, hl with | [_, _, _], _ => rfl
 have D4c := D4 (ps := ["thing", "least", "most"]) (st := A1e) X G B7w C0a C0b B8c fun _ _ _ _ _ _ us hl => match us, hl with | [_, _, _], _ => rfl
 have D_settled := D4 (ps := ["context", "sign", "exact", "ideal"]) (st := A3f) X G B9a C0g C1f B8b fun _ _ _ _ _ _ us hl => match us, hl with | [_, _, _, _], _ => rfl
 have G8s := D4 (ps := ["context", "exact"]) (st := A3r) X G C5y C6c C7e C5m fun _ _ _ _ _ _ us hl => match us, hl with | [_, _], _ => rfl
 have D4a := D4 (ps := ["ideal", "sign", "figures", "power"]) (st := A1c) X G B8e C0j B9j C0u fun _ _ _ _ _ _ us hl => match us, hl with | [_, _, _, _], _ => rfl
 have D_neighbour := D4 (ps := ["context", "sign", "pair"]) (st := Y0) X G B2b B1r B1e B0g fun _ _ _ _ _ _ us hl => match us, hl with | [_, _, _], _ => rfl
 have G9t := D4 (ps := ["context", "sign", "figures", "power"]) (st := A3p) X G C6u C5e C6g C5t fun _ _ _ _ _ _ us hl => match us, hl with | [_, _, _, _], _ => rfl
 have G8u := D4 (ps := ["context", "number"]) (st := A3n) X G C8m C5w C7f C7y fun _ _ _ _ _ _ us hl => match us, hl with | [_, _], _ => rfl
 have D_burst := D4 (ps := ["context", "sign"]) (st := A9g) X G G0w G2q G2e D9q fun _ _ _ _ _ _ us hl => match us, hl with | [_, _], _ => rfl
 have D_nines := D4 (ps := ["context", "sign"]) (st := A9p) X G G4f G3x D7m D7v fun _ _ _ _ _ _ us hl => match us, hl with | [_, _], _ => rfl
 have D4m := D4 (ps := ["part", "is_cut"]) (st := A2s) X G B8h C1a B7t B9c fun _ _ _ _ _ _ us hl => match us, hl with | [_, _], _ => rfl
 have D4n := D4 (ps := ["context", "lead", "part"]) (st := A2u) X G C0w C0x B7x B8k fun _ _ _ _ _ _ us hl => match us, hl with | [_, _, _], _ => rfl
 have D_nought := D4 (ps := ["context", "sign", "ideal"]) (st := A3q) X G C8d C6e C7w C7j fun _ _ _ _ _ _ us hl => match us, hl with | [_, _, _], _ => rfl
 have D3z := D4 (ps := ["number", "power"]) (st := A2r) X G C1e B9h C0h C1u fun _ _ _ _ _ _ us hl => match us, hl with | [_, _], _ => rfl
 have D4e := D4 (ps := ["context", "one"]) (st := A2w) X G B8j B8u C1x B9s fun _ _ _ _ _ _ us hl => match us, hl with | [_, _], _ => rfl
 have D_trimmed := D4 (ps := ["context", "one"]) (st := A2x) X G B8n C2a B8m B9r fun _ _ _ _ _ _ us hl => match us, hl with | [_, _], _ => rfl
 have D7r := D4 (ps := ["name"]) (st := A9d) X G G2j G2w D9a D7c fun _ _ _ _ _ _ us hl => match us, hl with | [_], _ => rfl
 have D_bounded := D4 (ps := ["thing", "least", "most"]) (st := A3c) X G B8v B7v B9q C0s fun _ _ _ _ _ _ us hl => match us, hl with | [_, _, _], _ => rfl
 have G3g := D4 (ps := ["names"]) (st := A8v) X G D7k D6z G3u D7z fun _ _ _ _ _ _ us hl => match us, hl with | [_], _ => rfl
 have D9n := D4 (ps := ["names"]) (st := A9t) X G G4a G0u G1r G1x fun _ _ _ _ _ _ us hl => match us, hl with | [_], _ => rfl
 have V7s := D4 (ps := ["_law_script", "_law_k"]) (st := C3f) X G J9f J9m U0r J6x fun _ _ _ _ _ _ us hl => match us, hl with | [_, _], _ => rfl
 have C2z := D4 (ps := ["_law_cell", "_law_k"]) (st := A6d) X G G1c G3h G0k D9k fun _ _ _ _ _ _ us hl => match us, hl with | [_, _], _ => rfl
 have C8j := D4 (ps := ["_law_count"]) (st := A8q) X G V5h V9p Y3s Y2d fun _ _ _ _ _ _ us hl => match us, hl with | [_], _ => rfl
 have D4p := D4 (ps := ["_law_cell", "_law_way"]) (st := A0p) X G B7y B9n B9b B9p fun _ _ _ _ _ _ us hl => match us, hl with | [_, _], _ => rfl
 have J0a := D4 (ps := ["_law_cell"]) (st := A3a) X G C7a C5r C8f C8b fun _ _ _ _ _ _ us hl => match us, hl with | [_], _ => rfl
 have Y3k := D4 (ps := ["_law_one"]) (st := B3v) X G U0b J2x J2z U1p fun _ _ _ _ _ _ us hl => match us, hl with | [_], _ => rfl
 have Y0d := D4 (ps := ["_law_cell"]) (st := C4s) X G J7e U0z J3x J9y fun _ _ _ _ _ _ us hl => match us, hl with | [_], _ => rfl
 have C5n := D4 (ps := ["_law_own_here"]) (st := A0s) X G B4t B4q B5e B4y fun _ _ _ _ _ _ us hl => match us, hl with | [_], _ => rfl
 have D8x := D4 (ps := ["_law_way", "_law_sign", "_law_last", "_law_left", "_law_bottom"]) (st := A9f) X G G1m G0g G4e D8k fun _ _ _ _ _ _ us hl => match us, hl with | [_, _, _, _, _], _ => rfl
 have U3u := D4 (ps := ["_law_top", "_law_bottom"]) (st := B3x) X G G0v G4h D7t G3w fun _ _ _ _ _ _ us hl => match us, hl with | [_, _], _ => rfl
 have G9p := D4 (ps := ["_law_own_here", "_law_sign"]) (st := A5z) X G C7d C6f C5k C5v fun _ _ _ _ _ _ us hl => match us, hl with | [_, _], _ => rfl
 have C6y := D4 (ps := ["_law_own_here", "_law_sign", "_law_ratio_here", "_law_ideal"]) (st := A0q) X G B4e B4k B5s B4x fun _ _ _ _ _ _ us hl => match us, hl with | [_, _, _, _], _ => rfl
 have G9h := D4 (ps := ["_law_top", "_law_bottom", "_law_wide"]) (st := A6f) X G C5s C8g C7p C6t fun _ _ _ _ _ _ us hl => match us, hl with | [_, _, _], _ => rfl
 have U3q := D4 (ps := ["_law_deed"]) (st := A6b) X G D7u D9s G2c G2s fun _ _ _ _ _ _ us hl => match us, hl with | [_], _ => rfl
 have G8q := D4 (ps := ["_law_context_here", "_law_own_here", "_law_deed", "_law_due"]) (st := A2z) X G C8c C7b C6p C8h fun _ _ _ _ _ _ us hl => match us, hl with | [_, _, _, _], _ => rfl
 have G6r := D4 (ps := ["_law_own_here", "_law_one"]) (st := A6e) X G C5h C6d C6j C7r fun _ _ _ _ _ _ us hl => match us, hl with | [_, _], _ => rfl
 have C6b := D4 (ps := ["_law_own_here", "_law_one"]) (st := A0n) X G B5r B4n B5a B5m fun _ _ _ _ _ _ us hl => match us, hl with | [_, _], _ => rfl
 have A0af := D4 (ps := ["_law_script"]) (st := C8n) X G U3s Y1c Y2w V6e fun _ _ _ _ _ _ us hl => match us, hl with | [_], _ => rfl
 have O : Own mg := ⟨mg_none_of X G A6h, mg_none_of X G V6w, mg_none_of X G J4h, mg_none_of X G Y0r, mg_none_of X G U0h, mg_none_of X G D8v, mg_none_of X G U0k, mg_none_of X G V4m, mg_none_of X G D9f, mg_none_of X G Y2g, mg_none_of X G V8r, mg_none_of X G Y5p, mg_none_of X G V6c, mg_none_of X G Y5e, mg_none_of X G Y1f, mg_none_of X G J4x, mg_none_of X G B0s, mg_none_of X G B4u, mg_none_of X G Y1a, mg_none_of X G C6r, mg_none_of X G C6a, mg_none_of X G V4t, mg_none_of X G A7x⟩
 have T : Kit K := ⟨B4j, B1v, B4d, B0y, A7f, B2h, B0x, A6n, A9v, A8b, A4n, A7y, B4h, B0z, B5h, B0b, A8j, B0f, B1k, A7r, B0v, A8g, A4p, A6z, A7z, A4r, A6q, A4q, A3j, A4m, B2d, A7t, B0n, A6k, A4k, A8m, A1v, A0u, A1w, A0t, A0d, A0w⟩
 have A0as : Cls K W0 := ⟨V6m, V7d, V4u, V8g⟩
 have A0ap : Mk0 K W0 := ⟨V8x, V9a, V9u⟩
 have F_name_W0 := G5 (st := sN0) C0m B9k B2v
 have U6r := F_name_W0.binds (ps := ["self"]) fun _ _ _ _ _ _ us hl => match us, hl with | [_], _ => rfl
 have J3a : Meth K W0 "name" A5c := ⟨C1b, B9w, B2v⟩
 have WC0 : WayC K mg "Down" W0 CW := ⟨mg_of X G Z5x, A0as, A0ap, Y6d, sn, tk, V6f, Y5c⟩
 have A0ar : Cls K W1 := ⟨V9h, Y4z, V7j, Y6t⟩
 have A0av : Mk0 K W1 := ⟨V6g, V6z, Y3v⟩
 have F_name_W1 := G5 (st := sN1) C1s B8p B3c
 have U7p := F_name_W1.binds (ps := ["self"]) fun _ _ _ _ _ _ us hl => match us, hl with | [_], _ => rfl
 have J3v : Meth K W1 "name" A5d := ⟨B8y, C1g, B3c⟩
 have WC1 : WayC K mg "Up" W1 CW := ⟨mg_of X G Z5c, A0ar, A0av, Y0j, sn, tk, Y1u, V5a⟩
 have A0ba : Cls K W2 := ⟨V5f, V4h, Y1j, V6r⟩
 have A0aa : Mk0 K W2 := ⟨V6s, V9d, Y3t⟩
 have F_name_W2 := G5 (st := sN2) C1q B8x B3b
 have U7g := F_name_W2.binds (ps := ["self"]) fun _ _ _ _ _ _ us hl => match us, hl with | [_], _ => rfl
 have J6b : Meth K W2 "name" A5e := ⟨C0r, B8z, B3b⟩
 have WC2 : WayC K mg "Floor" W2 CW := ⟨mg_of X G Z5w, A0ba, A0aa, Y3m, sn, tk, Y5n, V7w⟩
 have A0az : Cls K W3 := ⟨V9r, V7x, Y2c, V5t⟩
 have A0an : Mk0 K W3 := ⟨Y3p, Y4c, Y6u⟩
 have F_name_W3 := G5 (st := sN3) C0k C1n B2w
 have U9j := F_name_W3.binds (ps := ["self"]) fun _ _ _ _ _ _ us hl => match us, hl with | [_], _ => rfl
 have J2t : Meth K W3 "name" A4z := ⟨B8d, C1p, B2w⟩
 have WC3 : WayC K mg "Ceiling" W3 CW := ⟨mg_of X G Z4g, A0az, A0an, Y4m, sn, tk, V9v, Y3g⟩
 have A0aw : Cls K W4 := ⟨V8j, V9t, Y1n, Y6m⟩
 have A0ak : Mk0 K W4 := ⟨Y1d, Y2p, Y2r⟩
 have F_name_W4 := G5 (st := sN4) B9f B9x B2u
 have U9v := F_name_W4.binds (ps := ["self"]) fun _ _ _ _ _ _ us hl => match us, hl with | [_], _ => rfl
 have J5m : Meth K W4 "name" A5f := ⟨B8w, B8t, B2u⟩
 have WC4 : WayC K mg "HalfUp" W4 CW := ⟨mg_of X G Z4z, A0aw, A0ak, Y2v, sn, tk, V5p, V9x⟩
 have A0bm : Cls K W5 := ⟨Y3x, Y0m, Y6c, V9q⟩
 have A0at : Mk0 K W5 := ⟨V8k, Y0u, Y1g⟩
 have F_name_W5 := G5 (st := sN5) C1y B9z B2z
 have V0c := F_name_W5.binds (ps := ["self"]) fun _ _ _ _ _ _ us hl => match us, hl with | [_], _ => rfl
 have J6d : Meth K W5 "name" A5b := ⟨C1h, C1c, B2z⟩
 have WC5 : WayC K mg "HalfDown" W5 CW := ⟨mg_of X G Z4j, A0bm, A0at, Y2q, sn, tk, Y4x, Y1m⟩
 have A0ac : Cls K W6 := ⟨V6q, Y3u, Y6r, V5v⟩
 have A0bf : Mk0 K W6 := ⟨V7p, Y2x, V8a⟩
 have F_name_W6 := G5 (st := sN6) C0t C0p B2y
 have V0k := F_name_W6.binds (ps := ["self"]) fun _ _ _ _ _ _ us hl => match us, hl with | [_], _ => rfl
 have J4m : Meth K W6 "name" A5a := ⟨C0q, B8s, B2y⟩
 have WC6 : WayC K mg "HalfEven" W6 CW := ⟨mg_of X G Z4h, A0ac, A0bf, Y4q, sn, tk, Y6q, V5x⟩
 have A0ab : Cls K W7 := ⟨Y4g, V6b, Y5g, V7q⟩
 have Z9v : Mk0 K W7 := ⟨V7c, V5z, Y4k⟩
 have F_name_W7 := G5 (st := sN7) C1v C1j B3d
 have U7n := F_name_W7.binds (ps := ["self"]) fun _ _ _ _ _ _ us hl => match us, hl with | [_], _ => rfl
 have J3s : Meth K W7 "name" A5h := ⟨B9g, B9m, B3d⟩
 have WC7 : WayC K mg "FiveUp" W7 CW := ⟨mg_of X G Z6a, A0ab, Z9v, V4y, sn, tk, V9s, Y0g⟩
 let cw : Wy -> Addr := fun y => match y with | .down => W0 | .up => W1 | .floor => W2 | .ceiling => W3 | .halfUp => W4 | .halfDown => W5 | .halfEven => W6 | .fiveUp => W7
 have W : ∀ y : Wy, WayC K mg y.cls (cw y) CW := fun y => match y with | .down => WC0 | .up => WC1 | .floor => WC2 | .ceiling => WC3 | .halfUp => WC4 | .halfDown => WC5 | .halfEven => WC6 | .fiveUp => WC7
 have A0bh : Cls K CN := ⟨Y3z, Y1h, V7a, Y6j⟩
 have FI_CN := G5 (st := D3n) Y0b Y3j V8f
 have A0be := FI_CN.binds (ps := ["self", "kind", "sign", "figures", "power"]) fun _ _ _ _ _ _ us hl => match us, hl with | [_, _, _, _, _], _ => rfl
 have M_CN : Mk K CN D4h := ⟨Y5x, V6k, Y5h, V8v⟩
 have N : Num K mg CN := ⟨mg_of X G Z6f, A0bh, C1d, B8q, A8f, B5q, Y1k, sn, tk, V7t, G1n⟩
 have F_goes_up_W0 := G5 (st := sU0) A6x A7a A2h
 have G0x := F_goes_up_W0.binds (ps := ["self", "sign", "last", "part"]) fun _ _ _ _ _ _ us hl => match us, hl with | [_, _, _, _], _ => rfl
 have C9g : Meth K W0 "goes_up" A0j := ⟨A6t, A6j, A2h⟩
 have F_to_end_W0 := G5 (st := sT0) B0d B1u A4b
 have G7m := F_to_end_W0.binds (ps := ["self", "sign"]) fun _ _ _ _ _ _ us hl => match us, hl with | [_, _], _ => rfl
 have D8a : Meth K W0 "to_end" A1p := ⟨B1s, B1d, A4b⟩
 have F_goes_up_W1 := G5 (st := sU1) A6r A7w A2k
 have G4d := F_goes_up_W1.binds (ps := ["self", "sign", "last", "part"]) fun _ _ _ _ _ _ us hl => match us, hl with | [_, _, _, _], _ => rfl
 have D0e : Meth K W1 "goes_up" A0k := ⟨A8k, A8c, A2k⟩
 have F_to_end_W1 := G5 (st := sT1) B0u B0m A4e
 have J0g := F_to_end_W1.binds (ps := ["self", "sign"]) fun _ _ _ _ _ _ us hl => match us, hl with | [_, _], _ => rfl
 have D8w : Meth K W1 "to_end" A1q := ⟨B1z, B1m, A4e⟩
 have F_goes_up_W2 := G5 (st := sU2) A6m A8h A2j
 have G3e := F_goes_up_W2.binds (ps := ["self", "sign", "last", "part"]) fun _ _ _ _ _ _ us hl => match us, hl with | [_, _, _, _], _ => rfl
 have D1d : Meth K W2 "goes_up" A0f := ⟨A7e, A7p, A2j⟩
 have F_to_end_W2 := G5 (st := sT2) B0e B0p A3z
 have G9r := F_to_end_W2.binds (ps := ["self", "sign"]) fun _ _ _ _ _ _ us hl => match us, hl with | [_, _], _ => rfl
 have G4g : Meth K W2 "to_end" A1f := ⟨B2f, B1q, A3z⟩
 have F_goes_up_W3 := G5 (st := sU3) A6u A7k A2m
 have G1j := F_goes_up_W3.binds (ps := ["self", "sign", "last", "part"]) fun _ _ _ _ _ _ us hl => match us, hl with | [_, _, _, _], _ => rfl
 have C9d : Meth K W3 "goes_up" A0h := ⟨A7n, A7s, A2m⟩
 have F_to_end_W3 := G5 (st := sT3) B1j B2g A4c
 have G8r := F_to_end_W3.binds (ps := ["self", "sign"]) fun _ _ _ _ _ _ us hl => match us, hl with | [_, _], _ => rfl
 have D6u : Meth K W3 "to_end" A1r := ⟨B2e, B1x, A4c⟩
 have F_goes_up_W4 := G5 (st := sU4) A6s A7q A2f
 have D7h := F_goes_up_W4.binds (ps := ["self", "sign", "last", "part"]) fun _ _ _ _ _ _ us hl => match us, hl with | [_, _, _, _], _ => rfl
 have D0t : Meth K W4 "goes_up" A0e := ⟨A6p, A7d, A2f⟩
 have F_to_end_W4 := G5 (st := sT4) B1w B0h A3v
 have G7b := F_to_end_W4.binds (ps := ["self", "sign"]) fun _ _ _ _ _ _ us hl => match us, hl with | [_, _], _ => rfl
 have D7x : Meth K W4 "to_end" A1n := ⟨B1t, B0j, A3v⟩
 have F_goes_up_W5 := G5 (st := sU5) A7m A7b A2d
 have G2d := F_goes_up_W5.binds (ps := ["self", "sign", "last", "part"]) fun _ _ _ _ _ _ us hl => match us, hl with | [_, _, _, _], _ => rfl
 have C9a : Meth K W5 "goes_up" A0c := ⟨A6y, A8n, A2d⟩
 have F_to_end_W5 := G5 (st := sT5) A9w A9z A4a
 have G7u := F_to_end_W5.binds (ps := ["self", "sign"]) fun _ _ _ _ _ _ us hl => match us, hl with | [_, _], _ => rfl
 have D7f : Meth K W5 "to_end" A1h := ⟨A9u, B1g, A4a⟩
 have F_goes_up_W6 := G5 (st := sU6) A7v A7g A2g
 have G2h := F_goes_up_W6.binds (ps := ["self", "sign", "last", "part"]) fun _ _ _ _ _ _ us hl => match us, hl with | [_, _, _, _], _ => rfl
 have D1n : Meth K W6 "goes_up" A0m := ⟨A8p, A8e, A2g⟩
 have F_to_end_W6 := G5 (st := sT6) A9x B0t A4d
 have G6q := F_to_end_W6.binds (ps := ["self", "sign"]) fun _ _ _ _ _ _ us hl => match us, hl with | [_, _], _ => rfl
 have G1t : Meth K W6 "to_end" A1k := ⟨B1h, B1f, A4d⟩
 have F_goes_up_W7 := G5 (st := sU7) A7c A8a A2e
 have G3s := F_goes_up_W7.binds (ps := ["self", "sign", "last", "part"]) fun _ _ _ _ _ _ us hl => match us, hl with | [_, _, _, _], _ => rfl
 have D0x : Meth K W7 "goes_up" A0g := ⟨A7h, A7j, A2e⟩
 have F_to_end_W7 := G5 (st := sT7) B2a B1n A3y
 have G8f := F_to_end_W7.binds (ps := ["self", "sign"]) fun _ _ _ _ _ _ us hl => match us, hl with | [_, _], _ => rfl
 have D9u : Meth K W7 "to_end" A1g := ⟨B0r, B0k, A3y⟩
 have A0ae : Cls K CC := ⟨Y2f, Y6k, Y2z, Y0h⟩
 have A0bd := U3k (st := A0b) Y2b V7b V7f
 have M_CC : Mk K CC D3v := ⟨Y1v, V9k, V9w, Y0e⟩
 have F_flags_CC := G5 (st := A2n) B5c B4z A6v
 have J5k := F_flags_CC.binds (ps := ["self"]) fun _ _ _ _ _ _ us hl => match us, hl with | [_], _ => rfl
 have G9q : Meth K CC "flags" A3h := ⟨B5f, B4p, A6v⟩
 have F_lowest_CC := G5 (st := B2s) B1c B0w A3x
 have G9x := F_lowest_CC.binds (ps := ["self"]) fun _ _ _ _ _ _ us hl => match us, hl with | [_], _ => rfl
 have D6n : Meth K CC "lowest" A1j := ⟨B1p, B0c, A3x⟩
 have F_way_CC := G5 (st := B2n) C8k C7t B6u
 have V8n := F_way_CC.binds (ps := ["self"]) fun _ _ _ _ _ _ us hl => match us, hl with | [_], _ => rfl
 have U9b : Meth K CC "way" B1a := ⟨C5g, C5p, B6u⟩
 have F_traps_CC := G5 (st := A2p) B4f B5g A8d
 have J5d := F_traps_CC.binds (ps := ["self"]) fun _ _ _ _ _ _ us hl => match us, hl with | [_], _ => rfl
 have G7y : Meth K CC "traps" A3g := ⟨B4v, B5n, A8d⟩
 have F_trap_CC := G5 (st := A4w) C0c B8g B2x
 have U7u := F_trap_CC.binds (ps := ["self", "names"]) fun _ _ _ _ _ _ us hl => match us, hl with | [_, _], _ => rfl
 have J9d : Meth K CC "trap" A5g := ⟨C1r, C0d, B2x⟩
 have F_raised_CC := G5 (st := A0r) B0q B0a A3w
 have G9m := F_raised_CC.binds (ps := ["self", "names"]) fun _ _ _ _ _ _ us hl => match us, hl with | [_, _], _ => rfl
 have G2u : Meth K CC "raised" A1m := ⟨B2c, B1b, A3w⟩
 have Z9z : Cls K CQ := ⟨Y5j, V8z, V8q, V5n⟩
 have A0aq := U3k (st := A5v) Y1r Y4j V7z
 have M_CQ : Mk K CQ D4f := ⟨V5e, Y4s, Y4e, Y1x⟩
 have F_first_CQ := G5 (st := A2q) B5j B4w A6w
 have J8v := F_first_CQ.binds (ps := ["self"]) fun _ _ _ _ _ _ us hl => match us, hl with | [_], _ => rfl
 have G7v : Meth K CQ "first" A0v := ⟨B4m, B4r, A6w⟩
 have F_at_CQ := G5 (st := C4u) G2n G1d C3a
 have U3m := F_at_CQ.binds (ps := ["self", "power"]) fun _ _ _ _ _ _ us hl => match us, hl with | [_, _], _ => rfl
 have G6t : Meth K CQ "at" B3a := ⟨D9e, D6v, C3a⟩
 have xk3 : ExcK K C3 := ⟨xga3, xgh3, xca3, sn, tk, xob3, xbe3, by rw [xcl3]; rfl⟩
 have nkT : nsOkIn K NT = true := by unfold nsOkIn; rw [lN]; exact alN
 have tlT : tailIn K U2m bmT = true := by
   have z := q1
   unfold excIn at z
   rw [lT1] at z
   simp only [excClassObj, Bool.and_eq_true] at z
   exact z.1.1.2
 have F_iT := G5 (st := B2q) Z0h Z6g Z6r
 have b_iT := F_iT.binds (ps := ["self", "signal"]) fun _ _ _ _ _ _ us hl => match us, hl with | [_, _], _ => rfl
 have XI3 : ExcI K C3 fX := ⟨⟨_, _, _, _, _, _, _, _, _, _, _, _, _, _, _, lT, nkT, niT, tlT⟩, ⟨_, Z0h, fcT⟩, saT, xob3⟩
 have SG : SigK K mg aS := ⟨mg_of X G a_S, ⟨_, lS, rfl⟩, fun H => .inr ⟨_, _, _, lS, rfl, rfl, C6 (by show 7 <= 1000; decide), .cons ⟨_, rfl⟩ (.cons ⟨_, rfl⟩ (.cons ⟨_, rfl⟩ (.cons ⟨_, rfl⟩ (.cons ⟨_, rfl⟩ (.cons ⟨_, rfl⟩ (.cons ⟨_, rfl⟩ (.nil)))))))⟩⟩
 have C : CtxC K mg CC := ⟨mg_of X G Z5t, A0ae, B9t, C0y, B5k, B9u, B4s, A7u⟩
 have B : Err K mg "BadNumber" C2 := ⟨mg_of X G Z5g, q2⟩
 have B2 : Err K mg "BadContext" C1 := ⟨mg_of X G Z5k, q1⟩
 have RT : CaughtU K mg C3 := ⟨mg_of X G Z0y, ⟨tyT, by unfold clsIn; rw [lT]; rfl, xbe3⟩, subT, xk3, ⟨_, by unfold clsIn; rw [lT], rfl⟩, nsg3⟩
 have R : RatC K mg CQ CE := ⟨mg_of X G Z4s, mg_of X G Z5q, Z9z, C7x, A9y, B5b, Y4p, sn, tk, Y2s, Y0w⟩
 have b4 := J2d (fd := fnOf "__init__" "Context.__init__" (B4 A0b) (B1 A0b) (A1 A0b) (.ref Y4v) V8e Y5f Y0y V5q J4u V4k) (ps := ["self", "room", "way", "least", "most"]) (ds := []) rfl V8w rfl fun us hl => by obtain ⟨a, b, c, d, e, rfl⟩ := len5 (Y8h hl); exact ⟨_, rfl, rfl⟩
 refine ⟨fnOf "law" "law" (B4 C8n) (B1 C8n) (A1 C8n) .none V9g V7e Y2e V9e D6y V8s, fun s v => .of_eq rfl, fun base _ _ LB => ?_⟩
 have WN : ∀ y : Wy, Z8g l.prog w K mg base (cw y) y.name := fun y => match y with | .down => ⟨_, _, J3a, Z8x F_name_W0, U6r⟩ | .up => ⟨_, _, J3v, Z7y F_name_W1, U7p⟩ | .floor => ⟨_, _, J6b, Z7v F_name_W2, U7g⟩ | .ceiling => ⟨_, _, J2t, Z8w F_name_W3, U9j⟩ | .halfUp => ⟨_, _, J5m, Z8b F_name_W4, U9v⟩ | .halfDown => ⟨_, _, J6d, Z9s F_name_W5, V0c⟩ | .halfEven => ⟨_, _, J4m, Z7m F_name_W6, V0k⟩ | .fiveUp => ⟨_, _, J3s, Z8k F_name_W7, U7n⟩
 have U : ∀ y : Wy, Z7n l.prog w K mg base (cw y) y := fun y => match y with | .down => ⟨_, _, C9g, Z7k F_goes_up_W0, G0x⟩ | .up => ⟨_, _, D0e, Z8p F_goes_up_W1, G4d⟩ | .floor => ⟨_, _, D1d, Z9b F_goes_up_W2, G3e⟩ | .ceiling => ⟨_, _, C9d, Z8u F_goes_up_W3, G1j⟩ | .halfUp => ⟨_, _, D0t, Z8e F_goes_up_W4, D7h⟩ | .halfDown => ⟨_, _, C9a, Z8a F_goes_up_W5, G2d⟩ | .halfEven => ⟨_, _, D1n, Z9r F_goes_up_W6, G2h⟩ | .fiveUp => ⟨_, _, D0x, Z7h F_goes_up_W7, G3s⟩
 have E2 : ∀ y : Wy, Z7z l.prog w K mg base (cw y) y := fun y => match y with | .down => ⟨_, _, D8a, Z9k F_to_end_W0, G7m⟩ | .up => ⟨_, _, D8w, Z9p F_to_end_W1, J0g⟩ | .floor => ⟨_, _, G4g, Z9e F_to_end_W2, G9r⟩ | .ceiling => ⟨_, _, D6u, Z7u F_to_end_W3, G8r⟩ | .halfUp => ⟨_, _, D7x, Z8n F_to_end_W4, G7b⟩ | .halfDown => ⟨_, _, D7f, Z8j F_to_end_W5, G7u⟩ | .halfEven => ⟨_, _, G1t, Z8m F_to_end_W6, G6q⟩ | .fiveUp => ⟨_, _, D9u, Z7s F_to_end_W7, G8f⟩
 have Gb := J1m (P := l.prog) (w := w) (base := base) D_bounded Y4f O T B2
 have Gw := V1w (P := l.prog) (w := w) (base := base) D7r O T B2 W
 have MC : MakeC l.prog w K mg base CC C1 D3v _ := ⟨M_CC, J1s A0bd D_bounded D7r Gb Gw C W WN⟩
 have MR : MakeR l.prog w K mg base CQ D4f (fnOf "__init__" "Ratio.__init__" (B4 A5v) (B1 A5v) (A1 A5v) (.ref Y2k) V6j V9n Y4u V7n U0n V5m) (.int 0 Z1x) (fun us ws => match ws with | [a] => us ++ [a] | _ => []) (fun us ws => match ws with | [a] => us ++ [a] | _ => []) :=
   { m := M_CQ
     g := V3a A0aq R
     b3 := J2d rfl G7h rfl fun us hl => by obtain ⟨a, b, c, d, rfl⟩ := len4 (Y8h hl); exact ⟨_, rfl, rfl⟩
     b2 := J2d rfl G7h rfl fun us hl => by obtain ⟨a, b, c, rfl⟩ := Z7a (Y8h hl); exact ⟨_, rfl, rfl⟩
     r0 := ⟨_, rfl⟩
     kP := ⟨(fun s us ws XK hl => by
         rcases ws with _ | ⟨p, _ | ⟨q, t⟩⟩
         . cases hl
         . obtain ⟨a, b, c, rfl⟩ := Z7a (Y8h hl)
           exact binds_K XK rfl G7h rfl rfl rfl
         . cases hl), fun r z => match z with
       | .cons a .nil => r.append (.cons a .nil)
       | .nil => .nil
       | .cons _ (.cons _ _) => .nil⟩
     eP := fun _ _ _ _ => rfl }
 have M : MakeN l.prog w K mg base CN D4h _ := ⟨M_CN, Y9a FI_CN N, A0be⟩
 have Gn := V3m (P := l.prog) (w := w) (base := base) G3g O T B2 SG
 have Go := V1p (P := l.prog) (w := w) (base := base) D9n SG
 have GX := U5z (P := l.prog) (w := w) (mg := mg) (base := base) F_iT XI3 nsg3
 have MF : Has l.prog w K mg base CC "flags" 1 ["self"] (B4c CC) := ⟨_, _, G9q, G4z F_flags_CC C O, J5k⟩
 have ML : Has l.prog w K mg base CC "lowest" 1 ["self"] (C4k CC) := ⟨_, _, D6n, U4t F_lowest_CC C, G9x⟩
 have MW : Has l.prog w K mg base CC "way" 2 ["self"] (C3q CC cw) := ⟨_, _, U9b, U6e F_way_CC D7r Gw C, V8n⟩
 have MT : Has l.prog w K mg base CC "traps" 1 ["self"] (B3w CC) := ⟨_, _, G7y, G6p F_traps_CC C O, J5d⟩
 have MP : Has l.prog w K mg base CC "trap" 2 ["self", "names"] (J2c K CC C1) := ⟨_, _, J9d, Y7p F_trap_CC G3g Gn D9n Go C, U7u⟩
 have MD : Has l.prog w K mg base CC "raised" 3 ["self", "names"] (B5z K CC C1 C3) := ⟨_, _, G2u, U5q F_raised_CC G3g Gn D9n Go C (mg_of X G Z0y) XI3 GX b_iT, G9m⟩
 have CM : CtxM l.prog w K mg base CC C1 C3 CW cw := ⟨C, MW, ML, MD, W, U, E2⟩
 have Gneedn := G4n (P := l.prog) (w := w) (base := base) C2y O T B N
 have Gtold := Y8k (P := l.prog) (w := w) (base := base) D_told C2y O T B N
 have Gplain := V1v (P := l.prog) (w := w) (base := base) D_plain D4c Y4f O T B N M
 have Gend := Z3v (P := l.prog) (w := w) (base := base) D_end D4c Y4f O T B N M
 have Gnothing := J0s (P := l.prog) (w := w) (base := base) D_nothing N M
 have Glead := Y9g (P := l.prog) (w := w) (base := base) V5c O N
 have Gto := V4a (P := l.prog) (w := w) (base := base) B6z D3x (D6j D3x)
 have Gten := Y9c (P := l.prog) (w := w) (base := base) C8j O
 have Gpart := U5x (P := l.prog) (w := w) (base := base) G7e
 have Gwl := V2f (P := l.prog) (w := w) (base := base) U3v B6z Gto
 have Gat := Z1z (P := l.prog) (w := w) (base := base) F_at_CQ B6z Gto G7e Gpart R O
 have RM : RatM l.prog w K mg base CQ A0v B3a _ _ := ⟨G7v, U4n F_first_CQ U3v Gwl G6t Gat U3m R, J8v, G6t, Gat, U3m⟩
 have Gmix := V1x (P := l.prog) (w := w) (base := base) C2z
 have Gfig := G5w (P := l.prog) (w := w) (base := base) D4p C2z Gmix C8j Gten O
 have Gnum := J1z (P := l.prog) (w := w) (base := base) J0a C2z Gmix D4p Gfig O
 have Gtr := U4b (P := l.prog) (w := w) (base := base) (k := 8) (by decide) U3q D_told Gtold RT
 have Gst := J2b (P := l.prog) (w := w) (base := base) (k := 8) G8q U3q Gtr C MF SG O
 have Gctx := G6e (P := l.prog) (w := w) (base := base) C5n MC b4 C MD MP O
 have Gown := Y9f (P := l.prog) (w := w) (base := base) Y0d C2z Gmix O
 have Gmade := V2n (P := l.prog) (w := w) (base := base) Y3k D_plain Gplain D_end Gend D_nothing Gnothing
 have Gnea := J0h (P := l.prog) (w := w) (base := base) D4a N M
 have Gnei := D5s (P := l.prog) (w := w) (base := base) D_neighbour CM
 have Gwit := U4q (P := l.prog) (w := w) (base := base) G9t B6z Gto CM N M
 have Gbey := U4k (P := l.prog) (w := w) (base := base) G8u V5c Glead CM N
 have Gnin := V1j (P := l.prog) (w := w) (base := base) D_nines B6z Gto CM N M
 have Gbur := V2a (P := l.prog) (w := w) (base := base) D_burst D_nines Gnin D_end Gend CM
 have Gsr := J1g (P := l.prog) (w := w) (base := base) D4m
 have Gsl := J1y (P := l.prog) (w := w) (base := base) D4n CM
 have Gnou := U4r (P := l.prog) (w := w) (base := base) D_nought CM N M O
 have Gfin := U5j (P := l.prog) (w := w) (base := base) G8s CM RM R O
 have Gset := J1a (P := l.prog) (w := w) (base := base) D_settled G8s Gfin D4a Gnea D_neighbour Gnei G9t Gwit G8u Gbey D_burst Gbur D4m Gsr D4n Gsl CM RM R N
 have Glgo := V3c (P := l.prog) (w := w) (K := K) (base := base) D8x
 have Glle := V3w (P := l.prog) (w := w) (base := base) U3u C8j Gten O
 have Glbu := U4j (P := l.prog) (w := w) (base := base) G9p C8j Gten
 have Glra := U5k (P := l.prog) (w := w) (base := base) G9h C8j Gten O
 have Glse := G5c (P := l.prog) (w := w) (base := base) C6y U3u Glle C8j Gten D8x Glgo G9p Glbu O
 have Gpa := J1c (P := l.prog) (w := w) (base := base) D3z N MR R RM
 have Gtw := J1r (P := l.prog) (w := w) (base := base) D4e C2y Gneedn D_neighbour Gnei D3z Gpa N M
 have Gtm := J2n (P := l.prog) (w := w) (base := base) D_trimmed C2y Gneedn D_nought Gnou D_settled Gset N MR R (mg_of X G bq)
 have Glw := U5f (P := l.prog) (w := w) (base := base) G6r C8j Gten D8x Glgo O
 have Glt := G4k (P := l.prog) (w := w) (base := base) C6b C6y Glse G9h Glra
 exact Z3t A0af hcode LB V7s (Y8r V7s O) Y0d Gown C5n Gctx J0a Gnum Y3k Gmade G6r Glw C6b Glt G8q Gst D4e Gtw D_trimmed Gtm D_told Gtold C MT O
theorem walk {cc P0 : Addr} {l : OpenLaw} {q : Program} {loose : List Str} {XP : (Str -> Option Value) -> Heap -> Prop} {YP : World -> Heap -> Prop} {d : DefRec} {K : Params -> Frag} (hn : l.most = some 63) (hdf : d.params.defaults = [])
   (hY : ∀ (w : World) (h : Heap), YP w h -> (K w.params).In h /\ CodeHd h cc P0 /\ h.get? P0 = some (tabObj #[])) (hKP : ∀ p, (K p).lookup P0 = none)
   (F : ∀ (w : World) (mg : Str -> Option Value) (fa : Addr) (h : Heap), (K w.params).In h -> h.Ns mainGlobals mg -> mg d.name = some (.ref fa) ->
     ∃ fd : FuncData, (∀ (s : Shared) (u : Value), BindsTo s fd ⟨[u], []⟩ [("_law_script", u)]) /\ ∀ base : Heap, (K w.params).In base -> base.Ns mainGlobals mg -> LamB mg base cc P0 -> FnOkG l.prog w (K w.params) mg base (CX1 l.prog w) 11 fa fd ["_law_script"] ((U3h (K w.params) P0))) :
   WalkO q loose XP YP l.row.toRowW d [] (fun f vs => PySem.call f vs) :=
 L2.walk_ofL (n := 63) (k := 11) (x := "_law_script") (CX := fun w => CX1 l.prog w) (sp := fun w => (U3h (K w.params) P0)) hn (by decide) hdf ⟨rfl, by decide, by decide⟩ hY hKP F (fun _ _ a ns hl hP hS => ⟨a, ns, rfl, hl, hS, hP, fun _ => rfl⟩) fun _ _ _ _ _ z => by
   obtain ⟨_, _, _, _, _, _, _, _, _, _, z, _⟩ := z
   exact z
end TR
def PySem.W.Fast.tw10874886938945873713 : Unit := ()
def PySem.W.Fast.tw11413286554671958468 : Unit := ()
def PySem.W.Fast.tw2789242641483324640 : Unit := ()
def PySem.W.Fast.tw521020496380559001 : Unit := ()
def PySem.W.Fast.tw17839561036305596407 : Unit := ()
def PySem.W.Fast.tw17876275430616688268 : Unit := ()
def PySem.W.Fast.tw10215944295985029024 : Unit := ()
def PySem.W.Fast.tw7857463673334217178 : Unit := ()
def PySem.W.Fast.tw6792717736014125879 : Unit := ()
def PySem.W.Fast.tw926266944481714750 : Unit := ()
def PySem.W.Fast.tw1393279398877620950 : Unit := ()
def PySem.W.Fast.tw6995676209913798764 : Unit := ()
def PySem.W.Fast.tw16952161454622098704 : Unit := ()
def PySem.W.Fast.tw18089257757148762920 : Unit := ()
def PySem.W.Fast.tw5765196601031711076 : Unit := ()
def PySem.W.Fast.tw2883320506576450090 : Unit := ()
def PySem.W.Fast.tw263507846100366345 : Unit := ()
def PySem.W.Fast.tw5985960045790845587 : Unit := ()
def PySem.W.Fast.tw5408396152539600622 : Unit := ()
def PySem.W.Fast.tw14196573448696240444 : Unit := ()
def PySem.W.Fast.tw16672877028179289152 : Unit := ()
def PySem.W.Fast.tw15439145716051308963 : Unit := ()
def PySem.W.Fast.tw3460843481960275127 : Unit := ()
def PySem.W.Fast.tw6229733087144564415 : Unit := ()
def PySem.W.Fast.tw14911983069832823275 : Unit := ()
def PySem.W.Fast.tw2824279712527599005 : Unit := ()
def PySem.W.Fast.tw5339472057466773127 : Unit := ()
def PySem.W.Fast.tw6530760972297708567 : Unit := ()
def PySem.W.Fast.tw15858766837142992936 : Unit := ()
def PySem.W.Fast.tw17439949186001935416 : Unit := ()
def PySem.W.Fast.tw390487324461941326 : Unit := ()
def PySem.W.Fast.tw12465527665688803376 : Unit := ()
def PySem.W.Fast.tw14369180630141500920 : Unit := ()
def PySem.W.Fast.tw8799235767906822121 : Unit := ()
def PySem.W.Fast.tw7229930681933872702 : Unit := ()
def PySem.W.Fast.tw910655373451992334 : Unit := ()
def PySem.W.Fast.tw12753178457709325261 : Unit := ()
def PySem.W.Fast.tw10734661279601331620 : Unit := ()
def PySem.W.Fast.tw93683750190174314 : Unit := ()
def PySem.W.Fast.tw12543016109539886896 : Unit := ()
def PySem.W.Fast.tw13133387236318896184 : Unit := ()
def PySem.W.Fast.tw7593516228575152586 : Unit := ()
def PySem.W.Fast.tw2904805221757954256 : Unit := ()
def PySem.W.Fast.tw8642973617627609522 : Unit := ()
def PySem.W.Fast.tw13445754238666013451 : Unit := ()
def PySem.W.Fast.tw16653134670883217227 : Unit := ()
def PySem.W.Fast.tw12635206158466163056 : Unit := ()
def PySem.W.Fast.tw8447295792800406080 : Unit := ()
def PySem.W.Fast.tw1773002421801485109 : Unit := ()
def PySem.W.Fast.tw263476925616468526 : Unit := ()
def PySem.W.Fast.tw5614763372654352883 : Unit := ()
def PySem.W.Fast.tw17023099539913696769 : Unit := ()
def PySem.W.Fast.tw7835176679569289479 : Unit := ()
def PySem.W.Fast.tw3404324921370730865 : Unit := ()
def PySem.W.Fast.tw392670568397106456 : Unit := ()
def PySem.W.Fast.tw3523017160016123411 : Unit := ()
def PySem.W.Fast.tw18268461679854200003 : Unit := ()
def PySem.W.Fast.tw5219038728254435424 : Unit := ()
def PySem.W.Fast.tw4897329171954111972 : Unit := ()
def PySem.W.Fast.tw14641939978845598421 : Unit := ()
def PySem.W.Fast.tw17949985869339273309 : Unit := ()
def PySem.W.Fast.tw18137093068976879811 : Unit := ()
def PySem.W.Fast.tw13067638108052684947 : Unit := ()
def PySem.W.Fast.tw17088160486936091636 : Unit := ()
def PySem.W.Fast.tw8477264155192451764 : Unit := ()
def PySem.W.Fast.tw6735762271750656745 : Unit := ()
open PySem PySem.W PyProof.Rows
set_option maxRecDepth 100000 in
set_option maxHeartbeats 0 in
theorem PySem.Challenge.cw_tenreckon_k28_whole_and_trimmed_holds : PySem.Challenge.rw_tenreckon_k28_whole_and_trimmed.Holds := by
 w_on; o_law; k_head; (case hw => w_witness2)
 k_fill
 refine TR.walk (l := PySem.Challenge.rw_tenreckon_k28_whole_and_trimmed) (cc := 867) (P0 := 863) rfl rfl (fun w h Y => ⟨PySem.W.km_in_of Y, PySem.W.codeHd_of_K (PySem.W.km_in_of Y) (by kernel_rfl), PySem.W.km_tabs_of Y _ (by k_mem)⟩) (fun _ => by kernel_rfl) ?F
 case F =>
   intro w mg fa h KX G hmg
   refine' TR.all_mk (cc := 867) (P0 := 863) KX G hmg ?B8r ?C1z ?B7z ?B9e ?G0m ?G2y ?D7w ?D6p ?C8a ?C7v ?C6q ?C5q ?D8y ?D9t ?D9g ?D9b ?D9j ?G2b ?D8n ?D8u ?Y0v ?Y4a ?Y6h ?Y2y ?C1t ?C0v ?C2b ?C1m ?J5n ?J7x ?J2q ?J7f ?U1c ?U0x ?J6z ?J5c ?D8s ?G1p ?G4b ?G1z ?V6n ?V4g ?Y5k ?Y6s ?B7w ?C0a ?C0b ?B8c ?B9a ?C0g ?C1f ?B8b ?C5y ?C6c ?C7e ?C5m ?B8e ?C0j ?B9j ?C0u ?B2b ?B1r ?B1e ?B0g ?C6u ?C5e ?C6g ?C5t ?C8m ?C5w ?C7f ?C7y ?G0w ?G2q ?G2e ?D9q ?G4f ?G3x ?D7m ?D7v ?B8h ?C1a ?B7t ?B9c ?C0w ?C0x ?B7x ?B8k ?C8d ?C6e ?C7w ?C7j ?C1e ?B9h ?C0h ?C1u ?B8j ?B8u ?C1x ?B9s ?B8n ?C2a ?B8m ?B9r ?G2j ?G2w ?D9a ?D7c ?B8v ?B7v ?B9q ?C0s ?D7k ?D6z ?G3u ?D7z ?G4a ?G0u ?G1r ?G1x ?J9f ?J9m ?U0r ?J6x ?G1c ?G3h ?G0k ?D9k ?V5h ?V9p ?Y3s ?Y2d ?B7y ?B9n ?B9b ?B9p ?C7a ?C5r ?C8f ?C8b ?U0b ?J2x ?J2z ?U1p ?J7e ?U0z ?J3x ?J9y ?B4t ?B4q ?B5e ?B4y ?G1m ?G0g ?G4e ?D8k ?G0v ?G4h ?D7t ?G3w ?C7d ?C6f ?C5k ?C5v ?B4e ?B4k ?B5s ?B4x ?C5s ?C8g ?C7p ?C6t ?D7u ?D9s ?G2c ?G2s ?C8c ?C7b ?C6p ?C8h ?C5h ?C6d ?C6j ?C7r ?B5r ?B4n ?B5a ?B5m ?U3s ?Y1c ?Y2w ?V6e ?A6h ?V6w ?J4h ?Y0r ?U0h ?D8v ?U0k ?V4m ?D9f ?Y2g ?V8r ?Y5p ?V6c ?Y5e ?Y1f ?J4x ?B0s ?B4u ?Y1a ?C6r ?C6a ?V4t ?A7x ?B4j ?B1v ?B4d ?B0y ?A7f ?B2h ?B0x ?A6n ?A9v ?A8b ?A4n ?A7y ?B4h ?B0z ?B5h ?B0b ?A8j ?B0f ?B1k ?A7r ?B0v ?A8g ?A4p ?A6z ?A7z ?A4r ?A6q ?A4q ?A3j ?A4m ?B2d ?A7t ?B0n ?A6k ?A4k ?A8m ?A1v ?A0u ?A1w ?A0t ?A0d ?A0w ?sn ?tk ?a_CW ?Z5x ?V6m ?V7d ?V4u ?V8g ?V8x ?V9u ?Y6d ?V6f ?V9a ?Y5c ?C1b ?B9w ?C0m ?B9k ?B2v ?Z5c ?V9h ?Y4z ?V7j ?Y6t ?V6g ?Y3v ?Y0j ?Y1u ?V6z ?V5a ?B8y ?C1g ?C1s ?B8p ?B3c ?Z5w ?V5f ?V4h ?Y1j ?V6r ?V6s ?Y3t ?Y3m ?Y5n ?V9d ?V7w ?C0r ?B8z ?C1q ?B8x ?B3b ?Z4g ?V9r ?V7x ?Y2c ?V5t ?Y3p ?Y6u ?Y4m ?V9v ?Y4c ?Y3g ?B8d ?C1p ?C0k ?C1n ?B2w ?Z4z ?V8j ?V9t ?Y1n ?Y6m ?Y1d ?Y2r ?Y2v ?V5p ?Y2p ?V9x ?B8w ?B8t ?B9f ?B9x ?B2u ?Z4j ?Y3x ?Y0m ?Y6c ?V9q ?V8k ?Y1g ?Y2q ?Y4x ?Y0u ?Y1m ?C1h ?C1c ?C1y ?B9z ?B2z ?Z4h ?V6q ?Y3u ?Y6r ?V5v ?V7p ?V8a ?Y4q ?Y6q ?Y2x ?V5x ?C0q ?B8s ?C0t ?C0p ?B2y ?Z6a ?Y4g ?V6b ?Y5g ?V7q ?V7c ?Y4k ?V4y ?V9s ?V5z ?Y0g ?B9g ?B9m ?C1v ?C1j ?B3d ?Z6f ?Y3z ?Y1h ?V7a ?Y6j ?Y5x ?V8v ?Y1k ?V7t ?C1d ?B8q ?A8f ?B5q ?V6k ?Y5h ?Y0b ?Y3j ?V8f ?G1n ?A6t ?A6j ?A6x ?A7a ?A2h ?B1s ?B1d ?B0d ?B1u ?A4b ?A8k ?A8c ?A6r ?A7w ?A2k ?B1z ?B1m ?B0u ?B0m ?A4e ?A7e ?A7p ?A6m ?A8h ?A2j ?B2f ?B1q ?B0e ?B0p ?A3z ?A7n ?A7s ?A6u ?A7k ?A2m ?B2e ?B1x ?B1j ?B2g ?A4c ?A6p ?A7d ?A6s ?A7q ?A2f ?B1t ?B0j ?B1w ?B0h ?A3v ?A6y ?A8n ?A7m ?A7b ?A2d ?A9u ?B1g ?A9w ?A9z ?A4a ?A8p ?A8e ?A7v ?A7g ?A2g ?B1h ?B1f ?A9x ?B0t ?A4d ?A7h ?A7j ?A7c ?A8a ?A2e ?B0r ?B0k ?B2a ?B1n ?A3y ?Z5t ?Y2f ?Y6k ?Y2z ?Y0h ?Y1v ?Y0e ?B9t ?C0y ?B5k ?B9u ?B4s ?A7u ?V9k ?V9w ?Y2b ?V7b ?V7f ?V8w ?B5f ?B4p ?B5c ?B4z ?A6v ?B1p ?B0c ?B1c ?B0w ?A3x ?C5g ?C5p ?C8k ?C7t ?B6u ?B4v ?B5n ?B4f ?B5g ?A8d ?C1r ?C0d ?C0c ?B8g ?B2x ?B2c ?B1b ?B0q ?B0a ?A3w ?Z4s ?Y5j ?V8z ?V8q ?V5n ?V5e ?Y1x ?Y4p ?Y2s ?C7x ?A9y ?B5b ?Y4s ?Y4e ?Y1r ?Y4j ?V7z ?G7h ?B4m ?B4r ?B5j ?B4w ?A6w ?D9e ?D6v ?G2n ?G1d ?C3a ?Z5q ?Y0w ?Z5k ?Z5g ?Z0y ?a_CR ?cty ?ccl ?cex ?q1 ?q2 ?sub3 ?xga3 ?xgh3 ?xca3 ?xob3 ?xbe3 ?xcl3 ?h3_1 ?Z9y ?Z9u ?hv3 ?lT ?lN ?alN ?niT ?lT1 ?saT ?nsg3 ?Z0h ?Z6g ?Z6r ?fcT ?kTR ?tyT ?subT ?a_S ?lS ?hcode ?bq
   case B8r|C1z|B7z|B9e|G0m|G2y|D7w|D6p|C8a|C7v|C6q|C5q|D8y|D9t|D9g|D9b|D9j|G2b|D8n|D8u|Y0v|Y4a|Y6h|Y2y|C1t|C0v|C2b|C1m|J5n|J7x|J2q|J7f|U1c|U0x|J6z|J5c|D8s|G1p|G4b|G1z|V6n|V4g|Y5k|Y6s|B7w|C0a|C0b|B8c|B9a|C0g|C1f|B8b|C5y|C6c|C7e|C5m|B8e|C0j|B9j|C0u => k_is
   case B2b|B1r|B1e|B0g|C6u|C5e|C6g|C5t|C8m|C5w|C7f|C7y|G0w|G2q|G2e|D9q|G4f|G3x|D7m|D7v|B8h|C1a|B7t|B9c|C0w|C0x|B7x|B8k|C8d|C6e|C7w|C7j|C1e|B9h|C0h|C1u|B8j|B8u|C1x|B9s|B8n|C2a|B8m|B9r|G2j|G2w|D9a|D7c|B8v|B7v|B9q|C0s|D7k|D6z|G3u|D7z|G4a|G0u|G1r|G1x => k_is
   case J9f|J9m|U0r|J6x|G1c|G3h|G0k|D9k|V5h|V9p|Y3s|Y2d|B7y|B9n|B9b|B9p|C7a|C5r|C8f|C8b|U0b|J2x|J2z|U1p|J7e|U0z|J3x|J9y|B4t|B4q|B5e|B4y|G1m|G0g|G4e|D8k|G0v|G4h|D7t|G3w|C7d|C6f|C5k|C5v|B4e|B4k|B5s|B4x|C5s|C8g|C7p|C6t|D7u|D9s|G2c|G2s|C8c|C7b|C6p|C8h => k_is
   case C5h|C6d|C6j|C7r|B5r|B4n|B5a|B5m|U3s|Y1c|Y2w|V6e|A6h|V6w|J4h|Y0r|U0h|D8v|U0k|V4m|D9f|Y2g|V8r|Y5p|V6c|Y5e|Y1f|J4x|B0s|B4u|Y1a|C6r|C6a|V4t|A7x => k_is
   case B4j|B1v|B4d|B0y|A7f|B2h|B0x|A6n|A9v|A8b|A4n|A7y|B4h|B0z|B5h|B0b|A8j|B0f|B1k|A7r|B0v|A8g|A4p|A6z|A7z|A4r|A6q|A4q|A3j|A4m|B2d|A7t|B0n|A6k|A4k|A8m|A1v|A0u|A1w|A0t|A0d|A0w => kit_is
   case sn|tk|a_CW|Z5x|V6m|V7d|V4u|V8g|V8x|V9u|Y6d|V6f|V9a => k_is
   case Y5c => kit_is
   case C1b|B9w|C0m|B9k|B2v|Z5c|V9h|Y4z|V7j|Y6t|V6g|Y3v|Y0j|Y1u|V6z => k_is
   case V5a => kit_is
   case B8y|C1g|C1s|B8p|B3c|Z5w|V5f|V4h|Y1j|V6r|V6s|Y3t|Y3m|Y5n|V9d => k_is
   case V7w => kit_is
   case C0r|B8z|C1q|B8x|B3b|Z4g|V9r|V7x|Y2c|V5t|Y3p|Y6u|Y4m|V9v|Y4c => k_is
   case Y3g => kit_is
   case B8d|C1p|C0k|C1n|B2w|Z4z|V8j|V9t|Y1n|Y6m|Y1d|Y2r|Y2v|V5p|Y2p => k_is
   case V9x => kit_is
   case B8w|B8t|B9f|B9x|B2u|Z4j|Y3x|Y0m|Y6c|V9q|V8k|Y1g|Y2q|Y4x|Y0u => k_is
   case Y1m => kit_is
   case C1h|C1c|C1y|B9z|B2z|Z4h|V6q|Y3u|Y6r|V5v|V7p|V8a|Y4q|Y6q|Y2x => k_is
   case V5x => kit_is
   case C0q|B8s|C0t|C0p|B2y|Z6a|Y4g|V6b|Y5g|V7q|V7c|Y4k|V4y|V9s|V5z => k_is
   case Y0g => kit_is
   case B9g|B9m|C1v|C1j|B3d|Z6f|Y3z|Y1h|V7a|Y6j|Y5x|V8v|Y1k|V7t|C1d|B8q|A8f|B5q|V6k|Y5h|Y0b|Y3j|V8f => k_is
   case G1n => kit_is
   case A6t|A6j|A6x|A7a|A2h|B1s|B1d|B0d|B1u|A4b|A8k|A8c|A6r|A7w|A2k|B1z|B1m|B0u|B0m|A4e|A7e|A7p|A6m|A8h|A2j|B2f|B1q|B0e|B0p|A3z|A7n|A7s|A6u|A7k|A2m|B2e|B1x|B1j|B2g|A4c|A6p|A7d|A6s|A7q|A2f|B1t|B0j|B1w|B0h|A3v|A6y|A8n|A7m|A7b|A2d|A9u|B1g|A9w|A9z|A4a => k_is
   case A8p|A8e|A7v|A7g|A2g|B1h|B1f|A9x|B0t|A4d|A7h|A7j|A7c|A8a|A2e|B0r|B0k|B2a|B1n|A3y|Z5t|Y2f|Y6k|Y2z|Y0h|Y1v|Y0e|B9t|C0y|B5k|B9u|B4s|A7u|V9k|V9w|Y2b|V7b|V7f|V8w|B5f|B4p|B5c|B4z|A6v|B1p|B0c|B1c|B0w|A3x|C5g|C5p|C8k|C7t|B6u|B4v|B5n|B4f|B5g|A8d|C1r => k_is
   case C0d|C0c|B8g|B2x|B2c|B1b|B0q|B0a|A3w|Z4s|Y5j|V8z|V8q|V5n|V5e|Y1x|Y4p|Y2s|C7x|A9y|B5b|Y4s|Y4e|Y1r|Y4j|V7z|G7h|B4m|B4r|B5j|B4w|A6w|D9e|D6v|G2n|G1d|C3a|Z5q => k_is
   case Y0w => kit_is
   case Z5k|Z5g|Z0y|a_CR|cty|ccl|cex => k_is
   case q1|q2 => k_exc
   case sub3|xga3|xgh3|xca3|xob3|xbe3|xcl3 => k_is
   case h3_1|Z9y|Z9u|hv3 => kit_is
   case lT|lN => k_is
   case alN => simp
   case niT|lT1|saT|nsg3|Z0h|Z6g|Z6r => k_is
   case fcT => rfl
   case kTR => kit_is
   case tyT|subT|a_S|lS => k_is
   case hcode => rfl
   case bq => k_is

