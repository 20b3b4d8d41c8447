import PyProof.Rows.All
import Wide.All
import OpenK.AllK
import Wide.FinOn
import Lean
import PyProof.EqAt
import PyProof.EqKinds
import PyProof.TupleCall
import PyProof.Rows.Catch
import PyProof.Rows.TupIter
import PyProof.TupleIter
import PyProof.Seq
import PyProof.ExcInit
import PyProof.ExcClass2
import KE.KIntText
import PyProof.StrOps2
import PyProof.ConsumeWalk
import PyProof.Rows.RuleM_int
import PyProof.ZipIter
import PyProof.EnumMake
import KE.KLam
import PyProof.StrWalks
import PyProof.Rows.TupAssign
import PyProof.Rows.Range3
import PyProof.DictWalks
import PyProof.DictUpdate
import PyProof.P3In
import PySem.Challenge.RW_tenreckon_k24_whole_roots_by_squares
set_option Elab.async false
set_option linter.all false
set_option maxRecDepth 100000
namespace L2
open PySem PySem.Spec PyProof.Rows
abbrev Key := Sum Int Str
def C1j : Key -> Value -> Bool
 | .inl k, v => Value.isInt k v
 | .inr x, v => Value.isStrOf x v
def keyH (w : World) : Key -> Int
 | .inl k => hashInt k
 | .inr x => hashStr w x
theorem J4 : ∀ {k : Key} {v : Value}, C1j k v = true -> (∃ i t, k = Sum.inl i /\ v = Value.int i t) \/ (∃ x t, k = Sum.inr x /\ v = Value.str x t)
 | .inl i, v, h => by
   obtain ⟨t, e⟩ := Value.isInt_shape (k := i) (v := v) h
   exact .inl ⟨i, t, rfl, e⟩
 | .inr x, v, h => by
   obtain ⟨t, e⟩ := Value.isStrOf_shape (x := x) (v := v) h
   exact .inr ⟨x, t, rfl, e⟩
theorem U1u (i : Int) (t : Tok) : C1j (.inl i) (.int i t) = true := by simp [C1j, Value.isInt]
theorem U1z (x : Str) (t : Tok) : C1j (.inr x) (.str x t) = true := by simp [C1j, Value.isStrOf]
theorem Z3m (a b : Int) : decide ((Sum.inl a : Key) = Sum.inl b) = (a == b) := by
 by_cases e : a = b
 . subst e; simp
 . have h : ¬ (Sum.inl a : Key) = Sum.inl b := fun q => e (Sum.inl.inj q)
   rw [decide_eq_false h]
   exact (beq_eq_false_iff_ne.mpr e).symm
theorem Z2t (a b : Str) : decide ((Sum.inr a : Key) = Sum.inr b) = decide (a = b) := by
 by_cases e : a = b
 . subst e; simp
 . have h : ¬ (Sum.inr a : Key) = Sum.inr b := fun q => e (Sum.inr.inj q)
   rw [decide_eq_false h, decide_eq_false e]
theorem Z2x (a : Int) (b : Str) : decide ((Sum.inl a : Key) = Sum.inr b) = false := decide_eq_false (fun q => nomatch q)
theorem Z2d (a : Str) (b : Int) : decide ((Sum.inr a : Key) = Sum.inl b) = false := decide_eq_false (fun q => nomatch q)
def J8 (prog : Program) (w : World) : PySem.KeyKind prog w Key where
 is := C1j
 hash := keyH w
 inj := fun v a b ha hb => by
   rcases J4 ha with ⟨i, t, rfl, rfl⟩ | ⟨x, t, rfl, rfl⟩
   . rcases J4 hb with ⟨j, u, rfl, e⟩ | ⟨y, u, rfl, e⟩
     . injection e with e1 _; rw [e1]
     . exact nomatch e
   . rcases J4 hb with ⟨j, u, rfl, e⟩ | ⟨y, u, rfl, e⟩
     . exact nomatch e
     . injection e with e1 _; rw [e1]
 byValue := fun k v h => by
   rcases J4 h with ⟨i, t, rfl, rfl⟩ | ⟨x, t, rfl, rfl⟩ <;> rfl
 pyHash := fun hv h => by
   rcases J4 hv with ⟨i, t, rfl, rfl⟩ | ⟨x, t, rfl, rfl⟩
   . exact wpAny_pyHash_int h
   . exact wpAny_pyHash_str h
 eqBool := fun hu hv h => by
   rcases J4 hu with ⟨i, t, rfl, rfl⟩ | ⟨x, t, rfl, rfl⟩
   . rcases J4 hv with ⟨j, u, rfl, rfl⟩ | ⟨y, u, rfl, rfl⟩
     . rw [Z3m] at h; exact wpAny_eqBool_int h
     . rw [Z2x] at h; exact SeqAt.EqAt.int_str i t y u _ _ _ _ h
   . rcases J4 hv with ⟨j, u, rfl, rfl⟩ | ⟨y, u, rfl, rfl⟩
     . rw [Z2d] at h; exact SeqAt.EqAt.str_int x t j u _ _ _ _ h
     . rw [Z2t] at h; exact wpAny_eqBool_str h
 «strs» := fun k x t v h => by
   rcases J4 h with ⟨i, u, rfl, e⟩ | ⟨y, u, rfl, e⟩
   . exact nomatch e
   . injection e with e1 _
     subst e1
     cases v <;> rfl
theorem G3w (prog : Program) (w : World) (i : Int) (t : Tok) : (J8 prog w).is (.inl i) (.int i t) = true := U1u i t
theorem G3d (prog : Program) (w : World) (x : Str) (t : Tok) : (J8 prog w).is (.inr x) (.str x t) = true := U1z x t
inductive V where
 | non | bl (b : Bool) | int (i : Int) | str (x : Str) | byt (b : Array UInt8) | flt (b : UInt64) | ref (a : Addr) | ty (n : String)
 deriving DecidableEq
def RelV : V -> Value -> Prop
 | .non, u => u = Value.none
 | .bl b, u => u = Value.bool b
 | .int i, u => ∃ t, u = Value.int i t
 | .str x, u => ∃ t, u = Value.str x t
 | .byt b, u => ∃ t, u = Value.bytes b t
 | .flt b, u => ∃ t, u = Value.float b t
 | .ref a, u => u = Value.ref a
 | .ty n, u => u = Value.type n
abbrev Vals : List V -> List Value -> Prop := Paired RelV
theorem Vals.length {xs : List V} {us : List Value} (r : Vals xs us) : xs.length = us.length := Paired.length r
theorem Vals.get : ∀ {xs : List V} {us : List Value} {i : Nat} {x : V}, Vals xs us -> xs[i]? = some x -> ∃ u, us[i]? = some u /\ RelV x u
 | _, _, _, _, .nil, e => by simp at e
 | _, _, 0, _, .cons r _, e => by simp at e; subst e; exact ⟨_, rfl, r⟩
 | _, _, i + 1, x, .cons _ t, e => by
   obtain ⟨u, h1, h2⟩ := Vals.get (i := i) (x := x) t (by simpa using e)
   exact ⟨u, by simpa using h1, h2⟩
theorem Vals.append : ∀ {xs ys : List V} {us ws : List Value}, Vals xs us -> Vals ys ws -> Vals (xs ++ ys) (us ++ ws)
 | _, _, _, _, .nil, s => s
 | _, _, _, _, .cons r t, s => .cons r (Vals.append t s)
def RelO : Option V -> Option Value -> Prop
 | some v, some u => RelV v u
 | none, none => True
 | _, _ => False
def KV {κ : Type} : List (κ × V) -> List (κ × Value) -> Prop := Paired fun (p : κ × V) (q : κ × Value) => p.1 = q.1 /\ RelV p.2 q.2
def kV : Key -> V
 | .inl i => .int i
 | .inr x => .str x
inductive HO where
 | lst (xs : List V)
 | tup (xs : List V)
 | dK (kvs : List (Key × V)) | dT (kvs : List (List Key × V))
 | set (S : Int -> Bool) (n : Nat)
 | ins (C dx : Addr) (fs : List (Str × V))
 | own (x : Addr)
 | xd (fs : List (Str × V))
 | met (f x : Addr)
 | rng (lo hi : Int)
 | frz (o : Obj) (u : HO)
 | tbl (ps : Array Value)
 | ext (φ : Heap -> Prop)
abbrev Hp := Addr -> Option HO
def upd (H : Hp) (a : Addr) (o : HO) : Hp := fun b => if b = a then some o else H b
theorem A7 {H : Hp} {a : Addr} {o : HO} : upd H a o a = some o := by unfold upd; rw [if_pos rfl]
theorem C0 {H : Hp} {a b : Addr} {o : HO} (h : b ≠ a) : upd H a o b = H b := by unfold upd; rw [if_neg h]
theorem Y5x {H : Hp} {a : Addr} {o u : HO} : upd (upd H a o) a u = upd H a u := by
 funext b; unfold upd; split <;> rfl
theorem B4h {H : Hp} {a b : Addr} {o u : HO} (h : H a = some o) (h' : H b = some u) (d : o ≠ u) : a ≠ b := by
 intro e; subst e; rw [h] at h'; exact d (Option.some.inj h')
theorem B7 {H : Hp} {a b : Addr} {o : HO} (h : H a = some o) (h' : H b = none) : a ≠ b := by
 intro e; subst e; rw [h] at h'; cases h'
section
variable (P : Program) (w : World)
def ObjOk (H : Hp) (h : Heap) (a : Addr) : HO -> Prop
 | .lst xs => xs.length <= sizeLine /\ ∃ (its : List Value) (n : Nat), Vals xs its /\ h.get? a = some { cls := .type "list", data := .seq its.toArray n }
 | .tup xs => xs.length <= sizeLine /\ ∃ its : List Value, Vals xs its /\ IsTup h a its.toArray
 | .dK kvs => kvs.length <= sizeLine /\ (a == sysModules) = false /\ ∃ vs, KV kvs vs /\ h.DictOf (J8 P w) a vs
 | .dT kvs => kvs.length <= sizeLine /\ (a == sysModules) = false /\ ∃ xs : List (List Key × Addr × Value),
     Paired (fun (p : List Key × V) (q : List Key × Addr × Value) => p.1 = q.1 /\ H q.2.1 = some (.tup (p.1.map kV)) /\ RelV p.2 q.2.2) kvs xs /\
     ∃ o es ep, h.get? a = some o /\ o.ExactDict /\ o.data = .dict es ep /\ es.toList = xs.map (entryOfKey (tupleKind (J8 P w))) /\ (xs.map (·.1)).Nodup
 | .set S n => h.SetOf (intKind P w) a S n
 | .ins C dx fs => H dx = some (.own a) /\ fs.length <= 1000 /\ dx ≠ a /\ h.get? a = some (PySem.W.instObj C dx) /\
     ∃ mA, h.Ns1 dx mA /\ (∀ f, RelO (fs.lookup f) (mA f)) /\ PySem.Within mA (fs.map (·.1))
 | .own _ => ∃ o, h.get? a = some o
 | .xd fs => ∃ mA, h.Ns1 a mA /\ ∀ f, RelO (fs.lookup f) (mA f)
 | .rng lo hi => ∃ t u v, h.get? a = some { cls := .type "range", data := .fields #[.int lo t, .int hi u, .int 1 v] }
 | .frz o u => h.get? a = some o /\ ObjOk H h a u
 | .tbl ps => h.get? a = some { cls := .none, data := .fields ps }
 | .met f x => h.get? a = some (PySem.W.methodObj (.ref f) (.ref x))
 | .ext φ => φ h /\ (∃ o, h.get? a = some o) /\ ∀ h1 h2 : Heap, φ h1 -> (∀ o, h1.get? a = some o -> h2.get? a = some o) -> φ h2
def HOk (H : Hp) (h : Heap) : Prop := ∀ a o, H a = some o -> ObjOk P w H h a o
end
section
variable {P : Program} {w : World} {H H' : Hp} {h h' : Heap} {a : Addr} {o : HO}
theorem ObjOk.lt (x : ObjOk P w H h a o) : a < h.objs.size := by
 cases o with
 | lst xs => obtain ⟨_, _, _, _, e⟩ := x; exact Heap.lt_size e
 | tup xs => obtain ⟨_, _, _, p⟩ := x; exact p.lt
 | dK kvs => obtain ⟨_, _, _, _, o, _, _, e, _⟩ := x; exact Heap.lt_size e
 | dT kvs => obtain ⟨_, _, _, _, o, _, _, e, _⟩ := x; exact Heap.lt_size e
 | set S n => obtain ⟨o, _, _, _, e, _⟩ := x; exact Heap.lt_size e
 | ins C dx fs => obtain ⟨_, _, _, e, _⟩ := x; exact Heap.lt_size e
 | own y => obtain ⟨_, e⟩ := x; exact Heap.lt_size e
 | xd fs => obtain ⟨_, ⟨_, _, _, e, _⟩, _⟩ := x; exact Heap.lt_size e
 | rng lo hi => obtain ⟨_, _, _, e⟩ := x; exact Heap.lt_size e
 | frz ob u => obtain ⟨e, _⟩ := x; exact Heap.lt_size e
 | tbl ps => exact Heap.lt_size (show h.get? a = some _ from x)
 | met f y => exact Heap.lt_size (show h.get? a = some _ from x)
 | ext φ => obtain ⟨_, ⟨_, e⟩, _⟩ := x; exact Heap.lt_size e
theorem Paired.mapP {α β : Type} {F G : α -> β -> Prop} : ∀ {l₁ : List α} {l₂ : List β}, Paired F l₁ l₂ -> (∀ a b, F a b -> G a b) -> Paired G l₁ l₂
 | _, _, .nil, _ => .nil
 | _, _, .cons r t, f => .cons (f _ _ r) (Paired.mapP t f)
theorem ObjOk.stay (x : ObjOk P w H h a o) (k : ∀ b u, (b = a \/ H b = some (.own a)) -> h.get? b = some u -> h'.get? b = some u)
   (ho : ∀ b, H b = some (.own a) -> H' b = some (.own a)) (ht : ∀ b xs, H b = some (.tup xs) -> H' b = some (.tup xs)) : ObjOk P w H' h' a o := by
 induction o with
 | lst xs => obtain ⟨z, its, n, r, e⟩ := x; exact ⟨z, its, n, r, k _ _ (.inl rfl) e⟩
 | tup xs => obtain ⟨z, its, r, ob, e, c⟩ := x; exact ⟨z, its, r, ob, k _ _ (.inl rfl) e, c⟩
 | dK kvs => obtain ⟨z, y, vs, r, ob, es, ep, e, c⟩ := x; exact ⟨z, y, vs, r, ob, es, ep, k _ _ (.inl rfl) e, c⟩
 | dT kvs =>
   obtain ⟨z, y, xs, r, ob, es, ep, e, c⟩ := x
   exact ⟨z, y, xs, Paired.mapP r fun p q z => ⟨z.1, ht _ _ z.2.1, z.2.2⟩, ob, es, ep, k _ _ (.inl rfl) e, c⟩
 | set S n => obtain ⟨ob, es, ep, t, e, c⟩ := x; exact ⟨ob, es, ep, t, k _ _ (.inl rfl) e, c⟩
 | ins C dx fs =>
   obtain ⟨d, z, ne, e, mA, ⟨od, es, ep, e2, c⟩, r⟩ := x
   exact ⟨ho _ d, z, ne, k _ _ (.inl rfl) e, mA, ⟨od, es, ep, k _ _ (.inr d) e2, c⟩, r⟩
 | own y => obtain ⟨ob, e⟩ := x; exact ⟨ob, k _ _ (.inl rfl) e⟩
 | xd fs => obtain ⟨mA, ⟨od, es, ep, e, c⟩, r⟩ := x; exact ⟨mA, ⟨od, es, ep, k _ _ (.inl rfl) e, c⟩, r⟩
 | rng lo hi => obtain ⟨t, u, v, e⟩ := x; exact ⟨t, u, v, k _ _ (.inl rfl) e⟩
 | frz ob u ih => obtain ⟨e, q⟩ := x; exact ⟨k _ _ (.inl rfl) e, ih q⟩
 | tbl ps =>
   have e : h.get? a = some { cls := .none, data := .fields ps } := x
   show h'.get? a = some { cls := .none, data := .fields ps }
   exact k a _ (.inl rfl) e
 | met f y =>
   have e : h.get? a = some (PySem.W.methodObj (.ref f) (.ref y)) := x
   show h'.get? a = some (PySem.W.methodObj (.ref f) (.ref y))
   exact k a _ (.inl rfl) e
 | ext φ => obtain ⟨p, ⟨o, e⟩, st⟩ := x; exact ⟨st _ _ p fun o q => k _ _ (.inl rfl) q, ⟨o, k _ _ (.inl rfl) e⟩, st⟩
theorem HOk.lt (x : HOk P w H h) (e : H a = some o) : a < h.objs.size := (x a o e).lt
theorem HOk.fresh (x : HOk P w H h) (e : h.objs.size <= a) : H a = none := by
 cases q : H a with
 | none => rfl
 | some u => exact absurd (Nat.lt_of_lt_of_le (x.lt q) e) (Nat.lt_irrefl _)
theorem HOk.kept (x : HOk P w H h) (k : ∀ b u, h.get? b = some u -> h'.get? b = some u) : HOk P w H h' := fun a o e =>
 (x a o e).stay (fun b u _ q => k b u q) (fun _ q => q) fun _ _ q => q
theorem HOk.laid (x : HOk P w H h) (k : ∀ b u, h.get? b = some u -> h'.get? b = some u) (hp : h.objs.size <= a) (new : ObjOk P w (upd H a o) h' a o) : HOk P w (upd H a o) h' := fun b u e => by
 have hn := x.fresh hp
 by_cases hb : b = a
 . subst hb; rw [A7] at e; cases e; exact new
 . rw [C0 hb] at e
   exact (x b u e).stay (fun c v _ q => k c v q) (fun c q => by rw [C0 (B7 q hn)]; exact q) fun c xs q => by rw [C0 (B7 q hn)]; exact q
end
def Rd (H : Hp) (a : Addr) (u : HO) : Prop := H a = some u \/ ∃ o, H a = some (.frz o u)
theorem Rd.ok {P : Program} {w : World} {H : Hp} {h : Heap} {a : Addr} {u : HO} (r : Rd H a u) (x : HOk P w H h) : ObjOk P w H h a u := by
 rcases r with r | ⟨o, r⟩
 . exact x a u r
 . obtain ⟨_, q⟩ := x a _ r
   exact q
def Mut : Option HO -> Prop
 | some (.lst _) => True
 | some (.dK _) => True
 | some (.dT _) => True
 | some (.set _ _) => True
 | some (.ins _ _ _) => True
 | some (.ext _) => True
 | _ => False
section
variable {P : Program} {w : World} {H : Hp} {h h' : Heap} {x e : Addr} {o' : HO}
theorem HOk.write (ok : HOk P w H h) (mu : Mut (H x)) (he : e = x \/ H e = some (.own x)) (k : ∀ b u, b ≠ e -> h.get? b = some u -> h'.get? b = some u) (heo : ∃ u, h'.get? e = some u)
   (new : ObjOk P w (upd H x o') h' x o') : HOk P w (upd H x o') h' := fun b u q => by
 have nown : ∀ c y, H c = some (.own y) -> c ≠ x := fun c y r z => by subst z; rw [r] at mu; exact mu
 have ntup : ∀ c xs, H c = some (.tup xs) -> c ≠ x := fun c xs r z => by subst z; rw [r] at mu; exact mu
 by_cases hb : b = x
 . subst hb; rw [A7] at q; cases q; exact new
 . rw [C0 hb] at q
   by_cases hbe : b = e
   . have q' : H b = some (.own x) := by
       rcases he with z | z
       . exact absurd (hbe.trans z) hb
       . rw [hbe]; exact z
     rw [q] at q'; cases q'
     obtain ⟨v, hv⟩ := heo
     exact ⟨v, by rw [hbe]; exact hv⟩
   . refine (ok b u q).stay (fun c v hc r => k c v ?_ r) (fun c r => by rw [C0 (nown c b r)]; exact r) fun c xs r => by rw [C0 (ntup c xs r)]; exact r
     rcases hc with rfl | hc
     . exact hbe
     . rintro rfl
       rcases he with z | z
       . exact nown c b hc z
       . rw [hc] at z; cases z; exact hb rfl
end
structure Un (fs ex : List Addr) (H H' : Hp) (h h' : Heap) : Prop where
 keep : ∀ b o, h.get? b = some o -> H b = none -> b ∉ fs -> b ∉ ex -> h'.get? b = some o
 slot : ∀ b o, h.get? b = some o -> H b = none -> b ∈ fs -> b ∉ ex -> ∃ sl, h'.get? b = some { o with slots := sl }
 free : ∀ b o, h.get? b = some o -> H b = none -> b ∉ ex -> H' b = none
 there : ∀ b o, h.get? b = some o -> b ∉ ex -> ∃ o', h'.get? b = some o'
 tups : ∀ b xs, H b = some (.tup xs) -> H' b = some (.tup xs)
 frzs : ∀ b o u, H b = some (.frz o u) -> H' b = some (.frz o u)
 tbls : ∀ b ps, H b = some (.tbl ps) -> ∃ more, H' b = some (.tbl (ps ++ more))
section
variable {fs fs' ex ex' : List Addr} {H H1 H2 : Hp} {h h1 h2 h' : Heap} {a x e : Addr} {o : HO}
theorem Un.any (u : Un fs ex H H1 h h1) {b : Addr} {ob : Obj} (q : h.get? b = some ob) (n : H b = none) (hx : b ∉ ex) : ∃ sl, h1.get? b = some { ob with slots := sl } := by
 by_cases hb : b ∈ fs
 . exact u.slot b ob q n hb hx
 . exact ⟨ob.slots, u.keep b ob q n hb hx⟩
theorem Un.kept (k : ∀ b u, h.get? b = some u -> h'.get? b = some u) : Un fs ex H H h h' :=
 ⟨fun b ob q _ _ _ => k b ob q, fun b ob q _ _ _ => ⟨ob.slots, k b ob q⟩, fun _ _ _ n _ => n, fun b ob q _ => ⟨ob, k b ob q⟩, fun _ _ q => q, fun _ _ _ q => q, fun _ ps q => ⟨#[], by rw [q]; simp⟩⟩
theorem Un.refl : Un fs ex H H h h := Un.kept fun _ _ q => q
theorem Un.laid (k : ∀ b u, h.get? b = some u -> h'.get? b = some u) (hp : h.objs.size <= a) (hn : H a = none) : Un fs ex H (upd H a o) h h' where
 keep := fun b u q _ _ _ => k b u q
 slot := fun b u q _ _ _ => ⟨u.slots, k b u q⟩
 free := fun b u q n _ => by rw [C0 (Nat.ne_of_lt (Nat.lt_of_lt_of_le (Heap.lt_size q) hp))]; exact n
 there := fun b u q _ => ⟨u, k b u q⟩
 tups := fun b xs q => by rw [C0 (B7 q hn)]; exact q
 frzs := fun b u xs q => by rw [C0 (B7 q hn)]; exact q
 tbls := fun b ps q => ⟨#[], by rw [C0 (B7 q hn), q]; simp⟩
theorem Un.write (mu : Mut (H x)) (he : e = x \/ H e = some (.own x)) (k : ∀ b u, b ≠ e -> h.get? b = some u -> h'.get? b = some u) (heo : ∃ u, h'.get? e = some u) : Un fs ex H (upd H x o) h h' := by
 have hx : ∀ b, H b = none -> b ≠ x := fun b n z => by subst z; rw [n] at mu; exact mu
 have hb : ∀ b, H b = none -> b ≠ e := fun b n z => by
   subst z
   rcases he with r | r
   . exact hx b n r
   . rw [n] at r; cases r
 have hm : ∀ b u, H b = some u -> ¬ Mut (some u) -> b ≠ x := fun b u q nm z => by subst z; rw [q] at mu; exact nm mu
 refine ⟨fun b u q n _ _ => k b u (hb b n) q, fun b u q n _ _ => ⟨u.slots, k b u (hb b n) q⟩, fun b u q n _ => by rw [C0 (hx b n)]; exact n, fun b u q _ => ?_,
   fun b xs q => by rw [C0 (hm b _ q fun z => z)]; exact q, fun b u xs q => by rw [C0 (hm b _ q fun z => z)]; exact q, fun b ps q => ⟨#[], by rw [C0 (hm b _ q fun z => z), q]; simp⟩⟩
 by_cases hbe : b = e
 . subst hbe; exact heo
 . exact ⟨u, k b u hbe q⟩
end
def trk (h : Heap) (H : Hp) : List Addr := (List.range h.objs.size).filter fun a => (H a).isSome
def D3t (h : Heap) (H : Hp) : Heap := PySem.W.hideAll h (trk h H)
theorem U1v (h : Heap) (H : Hp) : (D3t h H).objs.size = h.objs.size := PySem.W.hideAll_size _ _
theorem U7m {h : Heap} {H : Hp} {b : Addr} {o : Obj} (e : h.get? b = some o) (n : H b = none) : (D3t h H).get? b = some o :=
 PySem.W.hideAll_get _ e fun hm => by
   have q : (H b).isSome = true := (List.mem_filter.mp hm).2
   rw [n] at q; simp at q
theorem Y4x {h : Heap} {H : Hp} {b : Addr} {o : Obj} (e : (D3t h H).get? b = some o) : h.get? b = some o /\ H b = none := by
 have e' : h.get? b = some o := PySem.W.of_hideAll (trk h H) e
 refine ⟨e', ?_⟩
 cases q : H b with
 | none => rfl
 | some x =>
   have hm : b ∈ trk h H := List.mem_filter.mpr ⟨List.mem_range.mpr (Heap.lt_size e'), by simp [q]⟩
   have z : (D3t h H).get? b = none := PySem.W.hideAll_none (trk h H) hm
   rw [z] at e; cases e
structure Mod (K : PySem.W.Frag) (mg : Str -> Option Value) (base : Heap) : Prop where
 kin : K.In base
 glob : base.Ns mainGlobals mg
 blt : ∃ mb, base.Ns builtinsNs mb /\ ∀ x : Str, x ≠ "__name__" -> mb x = bootBuiltins x
 nolimit : base.NoLimit
structure Cx where
 prog : Program
 w : World
 K : PySem.W.Frag
 mg : Str -> Option Value
 base : Heap
 A : Around
 N : List Str
 s₀ : Shared
 H₀ : Hp
 env : Env
 outer : List Env
 stack : List Env
 ex : List Addr
 fn : Str -> Bool
 calm : Bool
 pn : List (Addr × Obj)
 xe : Value -> Shared -> Prop
def frs (l : List Env) : List Addr := l.filterMap (·.frame)
abbrev Cx.fs (X : Cx) : List Addr := frs X.outer
def Vis (sc : Scope) (x : Str) : Prop := sc.names.lookup x = some .local \/ sc.names.lookup x = some .cell \/ sc.names.lookup x = some .free
def Loc (sc : Scope) (x : Str) : Prop := sc.names.lookup x = some .local \/ sc.names.lookup x = some .cell
def Z7g (env : Env) (h : Heap) (m : Str -> Option Value) (x : Str) (u : Value) : Prop :=
 (env.kindOf x = some .local /\ m x = some u) \/ ((env.kindOf x = some .cell \/ env.kindOf x = some .free) /\ ∃ c, env.cells.lookup x = some c /\ h.IsCell c (some u))
structure Cx.Ok (X : Cx) : Prop where
 mod : Mod X.K X.mg X.base
 kind : X.env.scope.kind = .function
 glob : X.env.globals = mainGlobals
 blt : X.env.builtins = builtinsNs
 above : X.s₀.heap.objs.size <= X.env.locals
 inj : ∀ x y c, X.env.cells.lookup x = some c -> X.env.cells.lookup y = some c -> x = y
 has : ∀ x, (X.env.kindOf x = some .cell \/ X.env.kindOf x = some .free) -> ∃ c, X.env.cells.lookup x = some c
 cab : ∀ x c, X.fn x = true -> X.env.cells.lookup x = some c -> X.s₀.heap.objs.size <= c
 hd : X.calm = true -> X.A.handled = none
 frames : X.A.frames = some X.stack
 stk : X.stack = X.outer \/ (X.stack = X.env :: X.outer /\ X.env.frame = some X.env.locals)
 exf : ∀ b ∈ X.ex, b ≠ X.env.locals /\ ∀ x c, X.env.cells.lookup x = some c -> c ≠ b
 bs : ∀ b o, X.base.get? b = some o -> X.s₀.heap.get? b = some o /\ X.H₀ b = none
 bsz : X.base.objs.size <= X.s₀.heap.objs.size
 noex : ∀ b o, X.base.get? b = some o -> b ∉ X.ex
 exfs : ∀ b ∈ X.ex, b ∉ X.fs
 funs : X.s₀.heap.FunFrames X.base X.outer
 frf : ∀ b ∈ X.fs, X.H₀ b = none
structure Inv (X : Cx) (pins : List (Addr × Obj)) (σ : List (Option V)) (H : Hp) (s : Shared) : Prop where
 ok : X.Ok
 os : s.os = X.s₀.os
 bare : AllBare s.gens
 base : Un X.fs X.ex X.H₀ H X.s₀.heap s.heap
 loc : ∃ m, s.heap.Ns X.env.locals m /\ ∀ (i : Nat) (x : Str) (v : V), X.N[i]? = some x -> σ[i]? = some (some v) -> Vis X.env.scope x -> ∃ u, RelV v u /\ Z7g X.env s.heap m x u
 cell : ∀ x c, X.env.cells.lookup x = some c -> ∃ v, s.heap.IsCell c v
 free : H X.env.locals = none
 freeC : ∀ x c, X.env.cells.lookup x = some c -> H c = none
 pin : ∀ p ∈ X.pn ++ pins, s.heap.get? p.1 = some p.2 /\ H p.1 = none /\ p.1 ≠ X.env.locals /\ p.1 ∉ X.fs /\ ∀ v, p.2.data ≠ .cell v
 hok : HOk X.prog X.w H s.heap
 len : σ.length = X.N.length
section
variable {X : Cx} {pins : List (Addr × Obj)} {σ : List (Option V)} {H H' : Hp} {s : Shared} {h' : Heap}
theorem Cx.Ok.nofr (ok : X.Ok) {b : Addr} {o : Obj} (e : X.base.get? b = some o) : b ∉ X.fs := fun hb => by
 have := (ok.funs.mem hb).1
 rw [e] at this; cases this
theorem Inv.bs (I : Inv X pins σ H s) : ∀ b o, X.base.get? b = some o -> s.heap.get? b = some o /\ H b = none := fun b o e =>
 ⟨I.base.keep b o (I.ok.bs b o e).1 (I.ok.bs b o e).2 (I.ok.nofr e) (I.ok.noex b o e), I.base.free b o (I.ok.bs b o e).1 (I.ok.bs b o e).2 (I.ok.noex b o e)⟩
theorem Inv.bk (I : Inv X pins σ H s) : ∀ b o, X.base.get? b = some o -> s.heap.get? b = some o := fun b o e => (I.bs b o e).1
theorem Inv.mod (I : Inv X pins σ H s) : Mod X.K X.mg X.base := I.ok.mod
theorem Inv.kIn (I : Inv X pins σ H s) : X.K.In s.heap := I.ok.mod.kin.keeps I.bk
theorem Inv.lt (I : Inv X pins σ H s) : X.env.locals < s.heap.objs.size := let ⟨_, hn, _⟩ := I.loc; hn.lt
theorem Inv.sz (I : Inv X pins σ H s) : X.s₀.heap.objs.size <= s.heap.objs.size := Nat.le_trans I.ok.above (Nat.le_of_lt I.lt)
theorem Inv.nofs (I : Inv X pins σ H s) {a : Addr} (h : s.heap.objs.size <= a) : a ∉ X.fs := fun hb => by
 obtain ⟨_, o, ho, _⟩ := I.ok.funs.mem hb
 exact absurd (Nat.lt_of_lt_of_le (Heap.lt_size ho) (Nat.le_trans I.sz h)) (Nat.lt_irrefl _)
theorem Inv.cne (I : Inv X pins σ H s) : ∀ x c, X.env.cells.lookup x = some c -> c ≠ X.env.locals := fun x c e z => by
 obtain ⟨v, o, ho, hd⟩ := I.cell x c e
 obtain ⟨m, ⟨o', es, ep, ho', hd', _⟩, _⟩ := I.loc
 rw [z, ho'] at ho; cases ho; rw [hd'] at hd; cases hd
theorem Inv.funs (I : Inv X pins σ H s) : s.heap.FunFrames X.base X.outer := by
 have all : ∀ (l : List Env), (∀ b ∈ frs l, b ∈ X.fs) -> X.s₀.heap.FunFrames X.base l -> s.heap.FunFrames X.base l := by
   intro l
   induction l with
   | nil => intro _ _; trivial
   | cons env r ih =>
     intro hs hl
     obtain ⟨hk, ⟨L, o, hf, hn, ho, hd⟩, hr⟩ := hl
     have hL : L ∈ X.fs := hs L (by unfold frs; rw [List.filterMap_cons, hf]; exact List.mem_cons_self)
     obtain ⟨sl, e⟩ := I.base.slot L o ho (I.ok.frf L hL) hL fun z => I.ok.exfs L z hL
     exact ⟨hk, ⟨L, _, hf, hn, e, hd⟩, ih (fun b hb => hs b (by unfold frs; rw [List.filterMap_cons, hf]; exact List.mem_cons_of_mem _ hb)) hr⟩
 exact all X.outer (fun _ hb => hb) I.ok.funs
theorem Inv.stack (I : Inv X pins σ H s) : s.heap.FunFrames X.base X.stack := by
 rcases I.ok.stk with e | ⟨e, hf⟩
 . rw [e]; exact I.funs
 . rw [e]
   obtain ⟨m, hn, _⟩ := I.loc
   refine .cons (by rw [I.ok.kind]; decide) hf hn ?_ I.funs
   exact Heap.get?_none_of_le (Nat.le_trans I.ok.bsz I.ok.above)
theorem Inv.stkSub (I : Inv X pins σ H s) : ∀ b ∈ frs X.stack, b ∈ X.env.locals :: X.fs := fun b hb => by
 rcases I.ok.stk with e | ⟨e, hf⟩
 . rw [e] at hb; exact List.mem_cons_of_mem _ hb
 . rw [e] at hb
   unfold frs at hb
   rw [List.filterMap_cons, hf] at hb
   exact hb
theorem Inv.stkFree (I : Inv X pins σ H s) : ∀ b ∈ frs X.stack, H b = none := fun b hb => by
 rcases List.mem_cons.mp (I.stkSub b hb) with e | hb
 . rw [e]; exact I.free
 . obtain ⟨_, o, ho, _⟩ := I.ok.funs.mem hb
   exact I.base.free b o ho (I.ok.frf b hb) fun z => I.ok.exfs b z hb
theorem Inv.step {g' : Array GenState} {t' : Nat} {d' : Drawn} {ch : List Addr} (I : Inv X pins σ H s)
   (hch : ∀ b ∈ ch, (b ∈ X.ex \/ X.s₀.heap.objs.size <= b) /\ b ≠ X.env.locals /\ (∀ x c, X.env.cells.lookup x = some c -> c ≠ b) /\ ∀ p ∈ X.pn ++ pins, p.1 ≠ b)
   (keep : ∀ b o, b ≠ X.env.locals -> b ∉ X.fs -> b ∉ ch -> s.heap.get? b = some o -> H b = none -> h'.get? b = some o)
   (slot : ∀ b o, b ≠ X.env.locals -> b ∈ X.fs -> b ∉ ch -> s.heap.get? b = some o -> H b = none -> ∃ sl, h'.get? b = some { o with slots := sl }) (free : ∀ b o, b ∉ ch -> s.heap.get? b = some o -> H b = none -> H' b = none)
   (there : ∀ b o, b ∉ ch -> s.heap.get? b = some o -> ∃ o', h'.get? b = some o')
   (tups : ∀ b xs, H b = some (.tup xs) -> H' b = some (.tup xs)) (frzs : ∀ b o u, H b = some (.frz o u) -> H' b = some (.frz o u)) (tbls : ∀ b ps, H b = some (.tbl ps) -> ∃ more, H' b = some (.tbl (ps ++ more)))
   (ns : ∀ m, s.heap.Ns X.env.locals m -> h'.Ns X.env.locals m) (hok : HOk X.prog X.w H' h') (hg : AllBare g') :
   Inv X pins σ H' { s with heap := h', gens := g', drawn := d', toks := t' } := by
 have neL : ∀ b o, X.s₀.heap.get? b = some o -> b ≠ X.env.locals := fun b o e => Nat.ne_of_lt (Nat.lt_of_lt_of_le (Heap.lt_size e) I.ok.above)
 have neC : ∀ b o, X.s₀.heap.get? b = some o -> b ∉ X.ex -> b ∉ ch := fun b o e hx hb => by
   rcases (hch b hb).1 with z | z
   . exact hx z
   . exact absurd (Nat.lt_of_lt_of_le (Heap.lt_size e) z) (Nat.lt_irrefl _)
 have cellK : ∀ x c, X.env.cells.lookup x = some c -> ∀ v, s.heap.IsCell c v -> h'.IsCell c v := fun x c e v ⟨o, ho, hd⟩ => by
   have nch : c ∉ ch := fun z => (hch c z).2.2.1 x c e rfl
   by_cases hc : c ∈ X.fs
   . obtain ⟨sl, q⟩ := slot c o (I.cne x c e) hc nch ho (I.freeC x c e)
     exact ⟨_, q, hd⟩
   . exact ⟨o, keep c o (I.cne x c e) hc nch ho (I.freeC x c e), hd⟩
 refine ⟨I.ok, I.os, hg, ⟨fun b o e n hb hx => ?_, fun b o e n hb hx => ?_, fun b o e n hx => ?_, fun b o e hx => ?_, fun b xs e => tups b xs (I.base.tups b xs e), fun b o xs e => frzs b o xs (I.base.frzs b o xs e), fun b ps e => ?_⟩, ?_, fun x c e => ?_, ?_, fun x c e => ?_, fun p hp => ?_, hok, I.len⟩
 . exact keep b o (neL b o e) hb (neC b o e hx) (I.base.keep b o e n hb hx) (I.base.free b o e n hx)
 . obtain ⟨sl, e1⟩ := I.base.slot b o e n hb hx
   obtain ⟨sl', e2⟩ := slot b _ (neL b o e) hb (neC b o e hx) e1 (I.base.free b o e n hx)
   exact ⟨sl', e2⟩
 . obtain ⟨o', e1⟩ := I.base.there b o e hx
   exact free b o' (neC b o e hx) e1 (I.base.free b o e n hx)
 . obtain ⟨o', e1⟩ := I.base.there b o e hx
   exact there b o' (neC b o e hx) e1
 . obtain ⟨m1, e1⟩ := I.base.tbls b ps e
   obtain ⟨m2, e2⟩ := tbls b _ e1
   exact ⟨m1 ++ m2, by rw [e2, Array.append_assoc]⟩
 . obtain ⟨m, hn, hl⟩ := I.loc
   refine ⟨m, ns m hn, fun i x v e1 e2 e3 => ?_⟩
   obtain ⟨u, r, l⟩ := hl i x v e1 e2 e3
   refine ⟨u, r, ?_⟩
   rcases l with l | ⟨k, c, e, z⟩
   . exact .inl l
   . exact .inr ⟨k, c, e, cellK x c e _ z⟩
 . obtain ⟨v, z⟩ := I.cell x c e
   exact ⟨v, cellK x c e v z⟩
 . obtain ⟨m, ⟨o, _, _, ho, _⟩, _⟩ := I.loc
   exact free _ o (fun z => (hch _ z).2.1 rfl) ho I.free
 . obtain ⟨v, o, ho, hd⟩ := I.cell x c e
   exact free c o (fun z => (hch c z).2.2.1 x c e rfl) ho (I.freeC x c e)
 . obtain ⟨e, n, ne, nf, d⟩ := I.pin p hp
   have nch : p.1 ∉ ch := fun z => (hch p.1 z).2.2.2 p hp rfl
   exact ⟨keep p.1 p.2 ne nf nch e n, free p.1 p.2 nch e n, ne, nf, d⟩
theorem Inv.un {t' : Nat} (I : Inv X pins σ H s) (u : Un X.fs [] H H' s.heap h') (hok : HOk X.prog X.w H' h') : Inv X pins σ H' { s with heap := h', toks := t' } := by
 obtain ⟨m, ⟨o, es, ep, ho, r⟩, _⟩ := id I.loc
 obtain ⟨sl, hL⟩ := u.any ho I.free (by simp)
 exact I.step (g' := s.gens) (d' := s.drawn) (ch := []) (fun _ z => nomatch z) (fun b o _ hb _ e n => u.keep b o e n hb (by simp)) (fun b o _ hb _ e n => u.slot b o e n hb (by simp)) (fun b o _ e n => u.free b o e n (by simp)) (fun b o _ e => u.there b o e (by simp)) u.tups u.frzs u.tbls (fun m' hm => by
   obtain ⟨o', es', ep', ho', r'⟩ := hm
   rw [ho] at ho'; cases ho'
   exact ⟨_, es', ep', hL, r'⟩) hok I.bare
theorem Inv.call {g' : Array GenState} {t' : Nat} {d' : Drawn} {ch : List Addr} (I : Inv X pins σ H s) (u : Un (frs X.stack) ch H H' s.heap h') (hok : HOk X.prog X.w H' h') (hg : AllBare g')
   (hch : ∀ b ∈ ch, (b ∈ X.ex \/ X.s₀.heap.objs.size <= b) /\ b ≠ X.env.locals /\ (∀ x c, X.env.cells.lookup x = some c -> c ≠ b) /\ ∀ p ∈ X.pn ++ pins, p.1 ≠ b) :
   Inv X pins σ H' { s with heap := h', gens := g', drawn := d', toks := t' } := by
 obtain ⟨m, ⟨o, es, ep, ho, r⟩, _⟩ := id I.loc
 obtain ⟨sl, hL⟩ := u.any ho I.free fun z => (hch _ z).2.1 rfl
 exact I.step (ch := ch) hch (fun b o hL hb hc e n => u.keep b o e n (fun z => (List.mem_cons.mp (I.stkSub b z)).elim hL hb) hc) (fun b o _ _ hc e n => u.any e n hc) (fun b o hc e n => u.free b o e n hc) (fun b o hc e => u.there b o e hc) u.tups u.frzs u.tbls (fun m' hm => by
   obtain ⟨o', es', ep', ho', r'⟩ := hm
   rw [ho] at ho'; cases ho'
   exact ⟨_, es', ep', hL, r'⟩) hok hg
theorem Inv.turned {t' : Nat} {it : Addr} (I : Inv X pins σ H s) (k : ∀ b o, b ≠ it -> s.heap.get? b = some o -> h'.get? b = some o) (hn : H it = none) (hL : it ≠ X.env.locals)
   (h1 : it ∈ X.ex \/ X.s₀.heap.objs.size <= it) (h2 : ∀ x c, X.env.cells.lookup x = some c -> c ≠ it) (h3 : ∀ p ∈ X.pn ++ pins, p.1 ≠ it) : Inv X pins σ H { s with heap := h', toks := t' } := by
 have nit : ∀ b u, H b = some u -> b ≠ it := fun b u e z => by rw [z, hn] at e; cases e
 refine I.step (g' := s.gens) (d' := s.drawn) (ch := [it]) (fun b hb => ?_) (fun b o _ _ hc e _ => k b o (fun z => hc (by simp [z])) e) (fun b o _ _ hc e _ => ⟨o.slots, k b o (fun z => hc (by simp [z])) e⟩) (fun _ _ _ _ n => n)
   (fun b o hc e => ⟨o, k b o (fun z => hc (by simp [z])) e⟩) (fun _ _ e => e) (fun _ _ _ e => e) (fun b ps e => ⟨#[], by rw [e]; simp⟩) (fun m hm => ?_) (fun b u e => ?_) I.bare
 . have e : b = it := by simpa using hb
   subst e
   exact ⟨h1, hL, h2, h3⟩
 . obtain ⟨o, es, ep, ho, r⟩ := hm
   exact ⟨o, es, ep, k _ o (Ne.symm hL) ho, r⟩
 . refine (I.hok b u e).stay (fun c v hc q => k c v ?_ q) (fun _ q => q) fun _ _ q => q
   rcases hc with z | z
   . rw [z]; exact nit b u e
   . exact nit c _ z
theorem Inv.tok (I : Inv X pins σ H s) (t : Nat) : Inv X pins σ H { s with toks := t } := I.un (h' := s.heap) (t' := t) Un.refl I.hok
theorem Inv.kept {t' : Nat} (I : Inv X pins σ H s) (k : ∀ b u, s.heap.get? b = some u -> h'.get? b = some u) : Inv X pins σ H { s with heap := h', toks := t' } := I.un (Un.kept k) (I.hok.kept k)
theorem Inv.laid {a : Addr} {o : HO} {t' : Nat} (I : Inv X pins σ H s) (k : ∀ b u, s.heap.get? b = some u -> h'.get? b = some u) (hp : s.heap.objs.size <= a) (new : ObjOk X.prog X.w (upd H a o) h' a o) :
   Inv X pins σ (upd H a o) { s with heap := h', toks := t' } := I.un (Un.laid k hp (I.hok.fresh hp)) (I.hok.laid k hp new)
theorem Inv.write {x e : Addr} {o : HO} {t' : Nat} (I : Inv X pins σ H s) (mu : Mut (H x)) (he : e = x \/ H e = some (.own x)) (k : ∀ b u, b ≠ e -> s.heap.get? b = some u -> h'.get? b = some u) (heo : ∃ u, h'.get? e = some u)
   (new : ObjOk X.prog X.w (upd H x o) h' x o) : Inv X pins σ (upd H x o) { s with heap := h', toks := t' } := I.un (Un.write mu he k heo) (I.hok.write mu he k heo new)
theorem Inv.pins_of {pins' : List (Addr × Obj)} (I : Inv X pins σ H s) (h : ∀ p ∈ pins', s.heap.get? p.1 = some p.2 /\ H p.1 = none /\ p.1 ≠ X.env.locals /\ p.1 ∉ X.fs /\ ∀ v, p.2.data ≠ .cell v) : Inv X pins' σ H s :=
 ⟨I.ok, I.os, I.bare, I.base, I.loc, I.cell, I.free, I.freeC, fun p hp => (List.mem_append.mp hp).elim (fun z => I.pin p (List.mem_append_left _ z)) (h p), I.hok, I.len⟩
theorem G3m {N : List Str} (hN : N.Nodup) {i j : Nat} {x : Str} (a : N[i]? = some x) (b : N[j]? = some x) : i = j := by
 obtain ⟨h1, e1⟩ := List.getElem?_eq_some_iff.mp a
 obtain ⟨h2, e2⟩ := List.getElem?_eq_some_iff.mp b
 exact (List.getElem_inj hN).mp (e1.trans e2.symm)
theorem D1a {M : Model} {A : Around} {E : Value -> Shared -> Prop} {i : Nat} {x : Str} {v : V} {u : Value} {Q : Unit -> Shared -> Prop} (I : Inv X pins σ H s) (hN : X.N.Nodup) (hi : X.N[i]? = some x) (hx : Loc X.env.scope x) (r : RelV v u)
   (h : ∀ s', Inv X pins (σ.set i (some v)) H s' -> (∃ a, Heap.SameBut a s.heap s'.heap /\ (a = X.env.locals \/ X.env.cells.lookup x = some a)) -> Q () s') (hf : X.fn x = true \/ X.env.scope.names.lookup x = some .local := by first | exact .inl rfl | exact .inr rfl | assumption) : wpAny M A (storeName X.env x u) Q E s := by
 obtain ⟨m, hn, hl⟩ := id I.loc
 have hcls : (X.env.scope.kind == .class || (X.env.scope.kind == .module && X.env.locals != X.env.globals)) = false := by rw [I.ok.kind]; rfl
 have hiσ : i < σ.length := by rw [I.len]; exact (List.getElem?_eq_some_iff.mp hi).1
 have cne := I.cne
 have tracked : ∀ {a : Addr} {h' : Heap}, (∃ o, s.heap.get? a = some o /\ H a = none) -> Heap.SameBut a s.heap h' -> HOk X.prog X.w H h' := fun {a h'} ha hs b ob e => by
   obtain ⟨_, _, hfree⟩ := ha
   refine (I.hok b ob e).stay (fun c w' hc q => (hs.2 c ?_).trans q) (fun _ q => q) fun _ _ q => q
   rintro rfl
   rcases hc with rfl | hc
   . rw [hfree] at e; cases e
   . rw [hfree] at hc; cases hc
 rcases hx with hk | hk
 . refine wpAny_storeName_local hk hn (fun h' hn' hs => ?_) hcls
   obtain ⟨oL, _, _, hoL, _⟩ := id hn
   refine h _ ⟨I.ok, I.os, I.bare, ⟨fun b o e n hb hx => ?_, fun b o e n hb hx => ?_, I.base.free, fun b o e hx => ?_, I.base.tups, I.base.frzs, I.base.tbls⟩, ⟨_, hn', fun j y v' e1 e2 e3 => ?_⟩, fun y c e => ?_, I.free, I.freeC, fun p hp => ?_, tracked ⟨oL, hoL, I.free⟩ hs, by simpa using I.len⟩ ⟨_, hs, .inl rfl⟩
   . exact (hs.2 b (Nat.ne_of_lt (Nat.lt_of_lt_of_le (Heap.lt_size e) I.ok.above))).trans (I.base.keep b o e n hb hx)
   . obtain ⟨sl, e1⟩ := I.base.slot b o e n hb hx
     exact ⟨sl, (hs.2 b (Nat.ne_of_lt (Nat.lt_of_lt_of_le (Heap.lt_size e) I.ok.above))).trans e1⟩
   . obtain ⟨o', e1⟩ := I.base.there b o e hx
     exact ⟨o', (hs.2 b (Nat.ne_of_lt (Nat.lt_of_lt_of_le (Heap.lt_size e) I.ok.above))).trans e1⟩
   . by_cases hj : j = i
     . subst hj
       rw [hi] at e1; cases e1
       rw [List.getElem?_set_self hiσ] at e2
       cases e2
       exact ⟨u, r, .inl ⟨hk, by simp⟩⟩
     . rw [List.getElem?_set_ne (Ne.symm hj)] at e2
       obtain ⟨u', r', q⟩ := hl j y v' e1 e2 e3
       refine ⟨u', r', ?_⟩
       rcases q with ⟨k, e⟩ | ⟨k, c, e, z⟩
       . refine .inl ⟨k, ?_⟩
         have : y ≠ x := fun e => hj (G3m hN e1 (e ▸ hi))
         simp [this, e]
       . exact .inr ⟨k, c, e, z.sameBut hs (cne y c e)⟩
   . obtain ⟨w', z⟩ := I.cell y c e
     exact ⟨w', z.sameBut hs (cne y c e)⟩
   . obtain ⟨e, n, ne, nf, d⟩ := I.pin p hp
     exact ⟨(hs.2 p.1 ne).trans e, n, ne, nf, d⟩
 . have hfn : X.fn x = true := by
     rcases hf with z | z
     . exact z
     . rw [z] at hk; cases hk
   obtain ⟨c, hc⟩ := I.ok.has x (.inl hk)
   obtain ⟨w', z⟩ := I.cell x c hc
   refine wpAny_storeName_cell I.ok.kind hk hc z (fun h' hc' hs => ?_)
   obtain ⟨oc, hoc, hocd⟩ := id z
   refine h { s with heap := h' } ⟨I.ok, I.os, I.bare, ⟨fun b o e n hb hx => ?_, fun b o e n hb hx => ?_, I.base.free, fun b o e hx => ?_, I.base.tups, I.base.frzs, I.base.tbls⟩, ⟨m, hn.sameBut hs (Ne.symm (cne x c hc)), fun j y v' e1 e2 e3 => ?_⟩, fun y c' e => ?_, I.free, I.freeC, fun p hp => ?_, tracked ⟨oc, hoc, I.freeC x c hc⟩ hs, by simpa using I.len⟩ ⟨c, hs, .inr hc⟩
   . exact (hs.2 b (Nat.ne_of_lt (Nat.lt_of_lt_of_le (Heap.lt_size e) (I.ok.cab x c hfn hc)))).trans (I.base.keep b o e n hb hx)
   . obtain ⟨sl, e1⟩ := I.base.slot b o e n hb hx
     exact ⟨sl, (hs.2 b (Nat.ne_of_lt (Nat.lt_of_lt_of_le (Heap.lt_size e) (I.ok.cab x c hfn hc)))).trans e1⟩
   . obtain ⟨o', e1⟩ := I.base.there b o e hx
     exact ⟨o', (hs.2 b (Nat.ne_of_lt (Nat.lt_of_lt_of_le (Heap.lt_size e) (I.ok.cab x c hfn hc)))).trans e1⟩
   . by_cases hj : j = i
     . subst hj
       rw [hi] at e1; cases e1
       rw [List.getElem?_set_self hiσ] at e2
       cases e2
       exact ⟨u, r, .inr ⟨.inl hk, c, hc, hc'⟩⟩
     . rw [List.getElem?_set_ne (Ne.symm hj)] at e2
       obtain ⟨u', r', q⟩ := hl j y v' e1 e2 e3
       refine ⟨u', r', ?_⟩
       rcases q with q | ⟨k, c', e, z'⟩
       . exact .inl q
       . refine .inr ⟨k, c', e, z'.sameBut hs ?_⟩
         rintro rfl
         exact hj (G3m hN e1 (I.ok.inj _ _ _ e hc ▸ hi))
   . by_cases hcc : c' = c
     . subst hcc; exact ⟨_, hc'⟩
     . obtain ⟨w2, z2⟩ := I.cell y c' e
       exact ⟨w2, z2.sameBut hs hcc⟩
   . obtain ⟨e, n, ne, nf, d⟩ := I.pin p hp
     refine ⟨(hs.2 p.1 ?_).trans e, n, ne, nf, d⟩
     intro q
     rw [q, hoc] at e
     have q' : oc = p.2 := Option.some.inj e
     exact d w' (by rw [<- q']; exact hocd)
theorem C1q {M : Model} {A : Around} {E : Value -> Shared -> Prop} {i : Nat} {x : Str} {v : V} {u : Value} {Q : Unit -> Shared -> Prop} (I : Inv X pins σ H s) (hN : X.N.Nodup) (hi : X.N[i]? = some x) (hx : Loc X.env.scope x) (r : RelV v u)
   (h : ∀ s', Inv X pins (σ.set i (some v)) H s' -> Q () s') (hf : X.fn x = true \/ X.env.scope.names.lookup x = some .local := by first | exact .inl rfl | exact .inr rfl | assumption) : wpAny M A (storeName X.env x u) Q E s :=
 D1a I hN hi hx r (fun s' I' _ => h s' I') hf
theorem Inv.call' {s' : Shared} {ch : List Addr} (I : Inv X pins σ H s) (ho : s'.os = s.os) (u : Un (frs X.stack) ch H H' s.heap s'.heap) (hok : HOk X.prog X.w H' s'.heap) (hg : AllBare s'.gens)
   (hch : ∀ b ∈ ch, (b ∈ X.ex \/ X.s₀.heap.objs.size <= b) /\ b ≠ X.env.locals /\ (∀ x c, X.env.cells.lookup x = some c -> c ≠ b) /\ ∀ p ∈ X.pn ++ pins, p.1 ≠ b) : Inv X pins σ H' s' := by
 obtain ⟨h', g', d', t', o'⟩ := s'
 have e : o' = s.os := ho
 subst e
 exact I.call (g' := g') (t' := t') (d' := d') u hok hg hch
end
abbrev XK := Value -> Option Addr -> Hp -> Prop
abbrev St := List (Option V)
abbrev VK := V -> Hp -> Prop
abbrev TE := St -> Hp -> VK -> Prop
abbrev TT := St -> Hp -> (Bool -> Hp -> Prop) -> Prop
abbrev TA := St -> Hp -> (List V -> Hp -> Prop) -> Prop
structure Ends where
 nx : St -> Hp -> Prop
 rt : VK
 bk : St -> Hp -> Prop := fun _ _ => False
 ct : St -> Hp -> Prop := fun _ _ => False
abbrev TS := Ends -> St -> Hp -> Prop
def EP (X : Cx) (pins : List (Addr × Obj)) (σ : St) (Q : VK) (u : Value) (s' : Shared) : Prop := ∃ v H', Inv X pins σ H' s' /\ RelV v u /\ Q v H'
def TP (X : Cx) (pins : List (Addr × Obj)) (σ : St) (Q : Bool -> Hp -> Prop) (b : Bool) (s' : Shared) : Prop := ∃ H', Inv X pins σ H' s' /\ Q b H'
def AP (X : Cx) (pins : List (Addr × Obj)) (σ : St) (Q : List V -> Hp -> Prop) (us : List Value) (s' : Shared) : Prop := ∃ vs H', Inv X pins σ H' s' /\ Vals vs us /\ Q vs H'
def SP (X : Cx) (pins : List (Addr × Obj)) (D : Ends) (f : Flow) (s' : Shared) : Prop :=
 match f with
 | .next => ∃ σ' H', Inv X pins σ' H' s' /\ D.nx σ' H'
 | .brk => ∃ σ' H', Inv X pins σ' H' s' /\ D.bk σ' H'
 | .cont => ∃ σ' H', Inv X pins σ' H' s' /\ D.ct σ' H'
 | .ret u => ∃ v σ' H', Inv X pins σ' H' s' /\ RelV v u /\ D.rt v H'
def PE (X : Cx) (e : Expr) (t : TE) : Prop :=
 ∀ (pins : List (Addr × Obj)) (s : Shared) (σ : St) (H : Hp) (Q : VK), Inv X pins σ H s -> t σ H Q -> wpAny (model X.prog X.w) X.A (eval e X.env) (EP X pins σ Q) X.xe s
def PT (X : Cx) (e : Expr) (t : TT) : Prop :=
 ∀ (pins : List (Addr × Obj)) (s : Shared) (σ : St) (H : Hp) (Q : Bool -> Hp -> Prop), Inv X pins σ H s -> t σ H Q -> wpAny (model X.prog X.w) X.A (isTrue e X.env (eval e X.env)) (TP X pins σ Q) X.xe s
def PW (X : Cx) (e : Expr) (t : TT) : Prop :=
 ∀ (whole : Sem Value) (pins : List (Addr × Obj)) (s : Shared) (σ : St) (H : Hp) (Q : Bool -> Hp -> Prop), Inv X pins σ H s -> t σ H Q -> wpAny (model X.prog X.w) X.A (isTrue e X.env whole) (TP X pins σ Q) X.xe s
theorem PW.pt {X : Cx} {e : Expr} {t : TT} (h : PW X e t) : PT X e t := h _
def PA (X : Cx) (es : List Expr) (t : TA) : Prop :=
 ∀ (pos : Pos) (pins : List (Addr × Obj)) (s : Shared) (σ : St) (H : Hp) (Q : List V -> Hp -> Prop), Inv X pins σ H s -> t σ H Q -> wpAny (model X.prog X.w) X.A (spliced (backTo pos (starEach es X.env))) (AP X pins σ Q) X.xe s
def PS (X : Cx) (st : Stmt) (t : TS) : Prop :=
 ∀ (pins : List (Addr × Obj)) (s : Shared) (σ : St) (H : Hp) (D : Ends), Inv X pins σ H s -> t D σ H -> wpAny (model X.prog X.w) X.A (exec st X.env) (SP X pins D) X.xe s
def PSs (X : Cx) (st : List Stmt) (t : TS) : Prop :=
 ∀ (pins : List (Addr × Obj)) (s : Shared) (σ : St) (H : Hp) (D : Ends), Inv X pins σ H s -> t D σ H -> wpAny (model X.prog X.w) X.A (execs st X.env) (SP X pins D) X.xe s
theorem thn {α : Type} {t : Sem α} {Q Q' : α -> Shared -> Prop} {M : Model} {A : Around} {E : Value -> Shared -> Prop} {s : Shared} (h : wpAny M A t Q E s) (hQ : ∀ a s, Q a s -> Q' a s) : wpAny M A t Q' E s := wpAny_mono h hQ fun _ _ x => x
section
variable {X : Cx}
def Z7w (i : Nat) : TE := fun σ H Q => ∃ v, σ[i]? = some (some v) /\ Q v H
def tC (v : V) : TE := fun _ H Q => Q v H
theorem Z1z {i : Nat} {x : Str} {pos : Pos} (hN : X.N[i]? = some x) (hv : Vis X.env.scope x) (hd : (x == ("__debug__" : Str)) = false := by decide) (hcd : (x == ("__classdict__" : Str)) = false := by decide) : PE X (.Name x pos) (Z7w i) := by
 intro pins s σ H Q I h
 obtain ⟨v, e, h⟩ := h
 obtain ⟨m, hn, hl⟩ := I.loc
 obtain ⟨u, r, l⟩ := hl i x v hN e hv
 have fin : EP X pins σ Q u s := ⟨v, H, I, r, h⟩
 rcases l with ⟨hk, hm⟩ | ⟨hk, c, hc, hcell⟩
 . exact wpAny_Name (wpAny_loadName_local I.ok.kind hk hn hm fin) hd
 . rcases hk with hk | hk
   . exact wpAny_Name (wpAny_loadName_cell I.ok.kind hk hc hcell fin) hd
   . exact wpAny_Name (wpAny_loadName_free I.ok.kind hk hc hcell fin hcd) hd
theorem A3 {i j pos} : PE X (.Constant (.int i) j pos) (tC (.int i)) := fun _ _ _ H _ I h => wpAny_Constant_int ⟨.int i, H, I.tok _, ⟨_, rfl⟩, h⟩
theorem A2b {b j pos} : PE X (.Constant (.bool b) j pos) (tC (.bl b)) := fun _ _ _ H _ I h => Constant_bool ⟨.bl b, H, I, rfl, h⟩
theorem Z1w {j pos} : PE X (.Constant .none j pos) (tC .non) := fun _ _ _ H _ I h => Constant_none ⟨.non, H, I, rfl, h⟩
theorem B5 {x j pos} : PE X (.Constant (.str x) j pos) (tC (.str x)) := fun _ _ _ H _ I h => Calls.Constant_str ⟨.str x, H, I.tok _, ⟨_, rfl⟩, h⟩
def Gl (X : Cx) (x : Str) : Prop := X.env.kindOf x = some .globalImplicit
theorem A2x {E : Value -> Shared -> Prop} {pins : List (Addr × Obj)} {s : Shared} {σ : St} {H : Hp} {x : Str} {u : Value} {pos : Pos} {Q : Value -> Shared -> Prop} (I : Inv X pins σ H s) (hg : Gl X x) (hm : X.mg x = some u) (h : Q u s)
   (hd : (x == ("__debug__" : Str)) = false := by decide) : wpAny (model X.prog X.w) X.A (eval (.Name x pos) X.env) Q E s :=
 Calls.Name_function_global I.ok.kind hg (Calls.loadGlobal_global (by rw [I.ok.glob]; exact I.mod.glob.keeps I.bk) hm h) hd
theorem G8f {E : Value -> Shared -> Prop} {pins : List (Addr × Obj)} {s : Shared} {σ : St} {H : Hp} {x : Str} {u : Value} {pos : Pos} {Q : Value -> Shared -> Prop} (I : Inv X pins σ H s) (hg : Gl X x) (hm : X.mg x = none) (hv : bootBuiltins x = some u) (h : Q u s)
   (hn : x ≠ "__name__" := by decide) (hd : (x == ("__debug__" : Str)) = false := by decide) : wpAny (model X.prog X.w) X.A (eval (.Name x pos) X.env) Q E s := by
 obtain ⟨mb, h1, h2⟩ := I.mod.blt
 exact Calls.Name_function_global I.ok.kind hg (Calls.loadGlobal_builtin (by rw [I.ok.glob]; exact I.mod.glob.keeps I.bk) hm (by rw [I.ok.blt]; exact h1.keeps I.bk) ((h2 x hn).trans hv) h) hd
theorem Y7c {x : Str} {v : V} {u : Value} {pos : Pos} (hg : Gl X x) (hm : X.mg x = some u) (r : RelV v u) (hd : (x == ("__debug__" : Str)) = false := by decide) : PE X (.Name x pos) (tC v) :=
 fun _ _ _ H _ I h => A2x I hg hm ⟨v, H, I, r, h⟩ hd
theorem Y6u {x : Str} {v : V} {u : Value} {pos : Pos} (hg : Gl X x) (hm : X.mg x = none) (hv : bootBuiltins x = some u) (r : RelV v u) (hn : x ≠ "__name__" := by decide) (hd : (x == ("__debug__" : Str)) = false := by decide) : PE X (.Name x pos) (tC v) :=
 fun _ _ _ H _ I h => G8f I hg hm hv ⟨v, H, I, r, h⟩ hn hd
variable {a b : Expr} {ta tb : TE} {pos : Pos}
def tB (t : TE) : TT := fun σ H Q => t σ H fun x H1 => ∃ c, x = .bl c /\ Q c H1
theorem U8 {e : Expr} {t : TE} (h : PE X e t) (he : ∀ whole, isTrue e X.env whole = (do let v <- whole; standAt e.pos; holding [v] (truthy v)) := by intro _; rfl) : PT X e (tB t) := by
 intro pins s σ H Q I hw
 refine isTrue_plain (thn (h pins s σ H _ I hw) fun v s1 ⟨x, H1, I1, r1, q1⟩ => ?_) (he _)
 obtain ⟨d, rfl, q⟩ := q1
 cases r1
 exact wpAny_truthy_bool ⟨H1, I1, q⟩
variable {tA tB' : TT} {rest : List Expr}
def tAnd (t u : TT) : TT := fun σ H Q => t σ H fun c H1 => if c = true then u σ H1 Q else Q false H1
def tOr (t u : TT) : TT := fun σ H Q => t σ H fun c H1 => if c = true then Q true H1 else u σ H1 Q
def tNot (t : TT) : TT := fun σ H Q => t σ H fun c H1 => Q (!c) H1
theorem D2j (ha : PT X a tA) : PW X (.BoolOp .And [a] pos) tA := by
 intro wh pins s σ H Q I h
 refine isTrue_and (thn (ha pins s σ H Q I h) fun c s1 e => ?_)
 cases c with
 | true => exact isTrue_and_nil e
 | false => exact e
theorem C1y (ha : PT X a tA) : PW X (.BoolOp .Or [a] pos) tA := by
 intro wh pins s σ H Q I h
 refine isTrue_or (thn (ha pins s σ H Q I h) fun c s1 e => ?_)
 cases c with
 | false => exact isTrue_or_nil e
 | true => exact e
theorem G8u (ha : PT X a tA) (hb : PW X (.BoolOp .And (b :: rest) pos) tB') : PW X (.BoolOp .And (a :: b :: rest) pos) (tAnd tA tB') := by
 intro wh pins s σ H Q I h
 refine isTrue_and (thn (ha pins s σ H _ I h) fun c s1 ⟨H1, I1, q1⟩ => ?_)
 cases c with
 | true => exact hb wh pins s1 σ H1 Q I1 q1
 | false => exact ⟨H1, I1, q1⟩
theorem C2s (ha : PT X a tA) (hb : PW X (.BoolOp .Or (b :: rest) pos) tB') : PW X (.BoolOp .Or (a :: b :: rest) pos) (tOr tA tB') := by
 intro wh pins s σ H Q I h
 refine isTrue_or (thn (ha pins s σ H _ I h) fun c s1 ⟨H1, I1, q1⟩ => ?_)
 cases c with
 | true => exact ⟨H1, I1, q1⟩
 | false => exact hb wh pins s1 σ H1 Q I1 q1
theorem A2e (ha : PT X a tA) : PT X (.UnaryOp .Not a pos) (tNot tA) := by
 intro pins s σ H Q I h
 exact isTrue_not (ha pins s σ H (fun c H1 => Q (!c) H1) I h)
def Z6p (ta tb : TE) : TE := fun σ H Q => ta σ H fun x H1 => ∃ c, x = .bl c /\ if c = true then tb σ H1 Q else Q (.bl false) H1
def tOrV (ta tb : TE) : TE := fun σ H Q => ta σ H fun x H1 => ∃ c, x = .bl c /\ if c = true then Q (.bl true) H1 else tb σ H1 Q
theorem A5b {op} {t : TE} (h : PE X a t) : PE X (.BoolOp op [a] pos) t := fun pins s σ H Q I hw => BoolOp_one (h pins s σ H Q I hw)
theorem A8p (ha : PE X a ta) (hb : PE X (.BoolOp .And (b :: rest) pos) tb) : PE X (.BoolOp .And (a :: b :: rest) pos) (Z6p ta tb) := by
 intro pins s σ H Q I h
 refine BoolOp_and (thn (ha pins s σ H _ I h) fun v s1 ⟨x, H1, I1, r1, q1⟩ => ?_)
 obtain ⟨c, rfl, q1⟩ := q1
 cases r1
 refine wpAny_truthy_bool ?_
 cases c with
 | true => exact hb pins s1 σ H1 Q I1 q1
 | false => exact ⟨.bl false, H1, I1, rfl, q1⟩
theorem Z0p (ha : PE X a ta) (hb : PE X (.BoolOp .Or (b :: rest) pos) tb) : PE X (.BoolOp .Or (a :: b :: rest) pos) (tOrV ta tb) := by
 intro pins s σ H Q I h
 refine BoolOp_or (thn (ha pins s σ H _ I h) fun v s1 ⟨x, H1, I1, r1, q1⟩ => ?_)
 obtain ⟨c, rfl, q1⟩ := q1
 cases r1
 refine wpAny_truthy_bool ?_
 cases c with
 | false => exact hb pins s1 σ H1 Q I1 q1
 | true => exact ⟨.bl true, H1, I1, rfl, q1⟩
def tIf (t : TT) (ta tb : TE) : TE := fun σ H Q => t σ H fun c H1 => if c = true then ta σ H1 Q else tb σ H1 Q
theorem A1y {c : Expr} (hc : PT X c tA) (ha : PE X a ta) (hb : PE X b tb) : PE X (.IfExp c a b pos) (tIf tA ta tb) := by
 intro pins s σ H Q I h
 refine wpAny_IfExp (thn (hc pins s σ H _ I h) fun d s1 ⟨H1, I1, q1⟩ => ?_)
 cases d with
 | true => exact ha pins s1 σ H1 Q I1 q1
 | false => exact hb pins s1 σ H1 Q I1 q1
end
def SqL (K : PySem.W.Frag) (H : Hp) (a : Addr) (xs : List V) : Prop :=
 Rd H a (.lst xs) \/
   ∃ (o : Obj) (its : Array Value) (n : Nat), K.lookup a = some o /\ o.cls = .type "list" /\ o.dict = none /\ o.data = .seq its n /\ its.size <= sizeLine /\ Vals xs its.toList
def SqT (K : PySem.W.Frag) (H : Hp) (a : Addr) (xs : List V) : Prop :=
 Rd H a (.tup xs) \/
   ∃ (o : Obj) (its : Array Value) (n : Nat), K.lookup a = some o /\ o.cls = .type "tuple" /\ o.data = .seq its n /\ its.size <= sizeLine /\ Vals xs its.toList
def absV : Value -> Option V
 | .none => some .non
 | .bool b => some (.bl b)
 | .int i _ => some (.int i)
 | .str x _ => some (.str x)
 | .bytes b _ => some (.byt b)
 | .float b _ => some (.flt b)
 | .ref a => some (.ref a)
 | .type n => some (.ty n)
 | _ => none
theorem RelV.abs {x : V} {u : Value} (r : RelV x u) : absV u = some x := by
 cases x with
 | non => cases r; rfl
 | bl _ => cases r; rfl
 | int _ => obtain ⟨t, rfl⟩ := r; rfl
 | str _ => obtain ⟨t, rfl⟩ := r; rfl
 | byt _ => obtain ⟨t, rfl⟩ := r; rfl
 | flt _ => obtain ⟨t, rfl⟩ := r; rfl
 | ref _ => cases r; rfl
 | ty _ => cases r; rfl
theorem RelV.inj {x y : V} {u : Value} (r : RelV x u) (q : RelV y u) : x = y := Option.some.inj (r.abs.symm.trans q.abs)
theorem Vals.inj : ∀ {xs ys : List V} {us : List Value}, Vals xs us -> Vals ys us -> xs = ys
 | _, _, _, .nil, .nil => rfl
 | _, _, _, .cons r t, .cons r' t' => by rw [r.inj r', Vals.inj t t']
section
variable {X : Cx} {pins : List (Addr × Obj)} {σ : St} {H : Hp} {s : Shared} {a : Addr} {xs ys : List V}
theorem SqL.of {K : PySem.W.Frag} (h : H a = some (.lst xs)) : SqL K H a xs := .inl (.inl h)
theorem SqT.of {K : PySem.W.Frag} (h : H a = some (.tup xs)) : SqT K H a xs := .inl (.inl h)
theorem Inv.list (I : Inv X pins σ H s) (h : SqL X.K H a xs) : ∃ its : List Value, Vals xs its /\ PlainL s.heap a its.toArray /\ xs.length <= sizeLine := by
 rcases h with h | ⟨o, its, n, hk, hc, hd, hs, hz, r⟩
 . obtain ⟨z, its, n, r, e⟩ := h.ok I.hok
   exact ⟨its, r, ⟨_, n, e, rfl, rfl, rfl⟩, z⟩
 . refine ⟨its.toList, r, ⟨o, n, I.kIn a o hk, hc, hd, by simpa using hs⟩, ?_⟩
   have e := r.length
   simp only [Array.length_toList] at e
   omega
theorem Inv.tuple (I : Inv X pins σ H s) (h : SqT X.K H a xs) : ∃ its : List Value, Vals xs its /\ IsTup s.heap a its.toArray /\ xs.length <= sizeLine := by
 rcases h with h | ⟨o, its, n, hk, hc, hs, hz, r⟩
 . obtain ⟨z, its, r, p⟩ := h.ok I.hok
   exact ⟨its, r, p, z⟩
 . refine ⟨its.toList, r, ⟨o, I.kIn a o hk, hc, n, by simpa using hs⟩, ?_⟩
   have e := r.length
   simp only [Array.length_toList] at e
   omega
theorem Inv.list_inj (I : Inv X pins σ H s) (h : SqL X.K H a xs) (h' : SqL X.K H a ys) : xs = ys := by
 obtain ⟨its, r, ⟨o, n, e, _, _, d⟩, _⟩ := I.list h
 obtain ⟨its', r', ⟨o', n', e', _, _, d'⟩, _⟩ := I.list h'
 rw [e] at e'; cases e'
 rw [d] at d'
 injection d' with d1 _
 have : its = its' := by simpa using congrArg Array.toList d1
 subst this
 exact r.inj r'
theorem Inv.tuple_inj (I : Inv X pins σ H s) (h : SqT X.K H a xs) (h' : SqT X.K H a ys) : xs = ys := by
 obtain ⟨its, r, ⟨o, e, _, n, d⟩, _⟩ := I.tuple h
 obtain ⟨its', r', ⟨o', e', _, n', d'⟩, _⟩ := I.tuple h'
 rw [e] at e'; cases e'
 rw [d] at d'
 injection d' with d1 _
 have : its = its' := by simpa using congrArg Array.toList d1
 subst this
 exact r.inj r'
end
abbrev Cx.wish (X : Cx) (E : Value -> Shared -> Prop) : Cx := { X with xe := E }
abbrev Cx.nox (X : Cx) : Cx := X.wish fun _ _ => False
theorem Cx.Ok.wish {X : Cx} (ok : X.Ok) (E : Value -> Shared -> Prop) : (X.wish E).Ok :=
 ⟨ok.mod, ok.kind, ok.glob, ok.blt, ok.above, ok.inj, ok.has, ok.cab, ok.hd, ok.frames, ok.stk, ok.exf, ok.bs, ok.bsz, ok.noex, ok.exfs, ok.funs, ok.frf⟩
theorem Cx.Ok.unwish {X : Cx} {E : Value -> Shared -> Prop} (ok : (X.wish E).Ok) : X.Ok :=
 ⟨ok.mod, ok.kind, ok.glob, ok.blt, ok.above, ok.inj, ok.has, ok.cab, ok.hd, ok.frames, ok.stk, ok.exf, ok.bs, ok.bsz, ok.noex, ok.exfs, ok.funs, ok.frf⟩
section
variable {X : Cx} {pins : List (Addr × Obj)} {σ : St} {H : Hp} {s : Shared} {E : Value -> Shared -> Prop}
theorem Inv.wish (I : Inv X pins σ H s) (E : Value -> Shared -> Prop) : Inv (X.wish E) pins σ H s := ⟨I.ok.wish E, I.os, I.bare, I.base, I.loc, I.cell, I.free, I.freeC, I.pin, I.hok, I.len⟩
theorem Inv.unwish (I : Inv (X.wish E) pins σ H s) : Inv X pins σ H s := ⟨I.ok.unwish, I.os, I.bare, I.base, I.loc, I.cell, I.free, I.freeC, I.pin, I.hok, I.len⟩
theorem SP.unwish {D : Ends} {f : Flow} {s' : Shared} (h : SP (X.wish E) pins D f s') : SP X pins D f s' := by
 cases f with
 | next => obtain ⟨σ', H', I, q⟩ := h; exact ⟨σ', H', I.unwish, q⟩
 | brk => obtain ⟨σ', H', I, q⟩ := h; exact ⟨σ', H', I.unwish, q⟩
 | cont => obtain ⟨σ', H', I, q⟩ := h; exact ⟨σ', H', I.unwish, q⟩
 | ret u => obtain ⟨v, σ', H', I, r, q⟩ := h; exact ⟨v, σ', H', I.unwish, r, q⟩
theorem PSs.nox {st : List Stmt} {t : TS} (h : PSs X.nox st t) : PSs X st t := fun pins s σ H D I hw =>
 wpAny_mono (h pins s σ H D (I.wish _) hw) (fun _ _ q => q.unwish) fun _ _ z => False.elim z
end
section
variable {X : Cx} {st : Stmt} {rest : List Stmt} {t u : TS} {e : Expr} {te : TE} {pos : Pos}
def Z6k : TS := fun D σ H => D.nx σ H
def tSeq (t u : TS) : TS := fun D σ H => t { D with nx := u D } σ H
theorem C8 : PSs X [] Z6k := fun _ _ σ H _ I h => wpAny_execs_nil ⟨σ, H, I, h⟩
theorem A4 (h1 : PS X st t) (h2 : PSs X rest u) : PSs X (st :: rest) (tSeq t u) := by
 intro pins s σ H D I h
 refine wpAny_execs_cons (thn (h1 pins s σ H { D with nx := u D } I h) fun f s1 q => ?_)
 cases f with
 | next =>
   obtain ⟨σ', H', I', q⟩ := q
   exact h2 pins s1 σ' H' D I' q
 | ret v => exact q
 | brk => exact q
 | cont => exact q
theorem A6 (h1 : PS X st t) : PSs X [st] t := by
 intro pins s σ H D I h
 refine wpAny_execs_cons (thn (h1 pins s σ H D I h) fun f s1 q => ?_)
 cases f with
 | next => exact wpAny_execs_nil q
 | ret v => exact q
 | brk => exact q
 | cont => exact q
theorem Inv.quiet {pins : List (Addr × Obj)} {σ : St} {H : Hp} {s : Shared} (I : Inv X pins σ H s) : interactive X.env = false := by simp [interactive, I.ok.kind]
def Z8n (te : TE) : TS := fun D σ H => te σ H fun _ H1 => D.nx σ H1
theorem U6 (he : PE X e te) (hs : swapsWith e none pos.line X.env = pure false := by rfl) : PS X (.Expr e pos) (Z8n te) := by
 intro pins s σ H D I h
 exact wpAny_Expr_any (thn (he pins s σ H _ I h) fun v s1 ⟨x, H1, I1, r1, q1⟩ => ⟨σ, H1, I1, q1⟩) I.quiet hs
def tRet (te : TE) : TS := fun D σ H => te σ H D.rt
theorem B0 (he : PE X e te) : PS X (.Return (some e) pos) (tRet te) := by
 intro pins s σ H D I h
 exact wpAny_Return_some (thn (he pins s σ H _ I h) fun v s1 ⟨x, H1, I1, r1, q1⟩ => ⟨x, σ, H1, I1, r1, q1⟩)
def tIfS (c : TT) (t u : TS) : TS := fun D σ H => c σ H fun b H1 => if b = true then t D σ H1 else u D σ H1
theorem G2 {c : Expr} {a b : List Stmt} {tc : TT} (hc : PT X c tc) (ha : PSs X a t) (hb : PSs X b u) : PS X (.If c a b pos) (tIfS tc t u) := by
 intro pins s σ H D I h
 refine wpAny_If (thn (hc pins s σ H _ I h) fun d s1 ⟨H1, I1, q1⟩ => ?_)
 cases d with
 | true => exact ha pins s1 σ H1 D I1 q1
 | false => exact hb pins s1 σ H1 D I1 q1
end
abbrev TG := V -> St -> Hp -> (St -> Hp -> Prop) -> Prop
abbrev TGs := List V -> St -> Hp -> (St -> Hp -> Prop) -> Prop
def PG (X : Cx) (target : Expr) (t : TG) : Prop :=
 ∀ (pins : List (Addr × Obj)) (s : Shared) (σ : St) (H : Hp) (v : V) (u : Value) (Q : St -> Hp -> Prop), Inv X pins σ H s -> RelV v u -> t v σ H Q ->
   wpAny (model X.prog X.w) X.A (assign target X.env u) (fun _ s' => ∃ σ' H', Inv X pins σ' H' s' /\ Q σ' H') X.xe s
def PGs (X : Cx) (ts : List Expr) (t : TGs) : Prop :=
 ∀ (pins : List (Addr × Obj)) (s : Shared) (σ : St) (H : Hp) (vs : List V) (us : List Value) (Q : St -> Hp -> Prop), Inv X pins σ H s -> Vals vs us -> t vs σ H Q ->
   wpAny (model X.prog X.w) X.A (assignInOrder ((assignEach ts X.env).map (·.2)) us) (fun _ s' => ∃ σ' H', Inv X pins σ' H' s' /\ Q σ' H') X.xe s
abbrev TIp := V -> V -> Hp -> VK -> Prop
def PIp (X : Cx) (op : Operator) (t : TIp) : Prop :=
 ∀ (pins : List (Addr × Obj)) (s : Shared) (σ : St) (H : Hp) (x y : V) (v u : Value) (Q : VK), Inv X pins σ H s -> RelV x v -> RelV y u -> t x y H Q ->
   wpAny (model X.prog X.w) X.A (inplaceOp op v u) (EP X pins σ Q) X.xe s
section
variable {X : Cx} {pos : Pos}
def J9k (i : Nat) : TG := fun v σ H Q => Q (σ.set i (some v)) H
theorem U5 {i : Nat} {x : Str} (hN : X.N.Nodup) (hi : X.N[i]? = some x) (hx : Loc X.env.scope x) (hf : X.fn x = true \/ X.env.scope.names.lookup x = some .local := by first | exact .inl rfl | exact .inr rfl | assumption) : PG X (.Name x pos) (J9k i) := by
 intro pins s σ H v u Q I r h
 exact wpAny_assign_Name (C1q I hN hi hx r (fun s' I' => ⟨_, H, I', h⟩) hf)
def gNil : TGs := fun vs σ H Q => vs = [] /\ Q σ H
def Z9a (t : TG) (u : TGs) : TGs := fun vs σ H Q => ∃ v r, vs = v :: r /\ t v σ H fun σ' H' => u r σ' H' Q
theorem D3s : PGs X [] gNil := by
 intro pins s σ H vs us Q I r h
 obtain ⟨e, h⟩ := h
 subst e
 cases r
 exact assignInOrder_nil ⟨σ, H, I, h⟩
theorem A4b {e : Expr} {es : List Expr} {t : TG} {u : TGs} (h1 : PG X e t) (h2 : PGs X es u)
   (hs : (assignEach (e :: es) X.env).map (·.2) = assign e X.env :: (assignEach es X.env).map (·.2) := by rfl) : PGs X (e :: es) (Z9a t u) := by
 intro pins s σ H vs us Q I r h
 obtain ⟨v, vr, e1, h⟩ := h
 subst e1
 cases r with
 | cons r rr =>
   rw [hs]
   refine assignInOrder_cons (thn (h1 pins s σ H _ _ _ I r h) fun _ s1 ⟨σ1, H1, I1, q1⟩ => ?_)
   exact h2 pins s1 σ1 H1 _ _ Q I1 rr q1
def gTup (K : PySem.W.Frag) (n : Nat) (t : TGs) : TG := fun v σ H Q => ∃ a xs, v = .ref a /\ SqT K H a xs /\ xs.length = n /\ t xs σ H Q
theorem G8b {es : List Expr} {k : Nat} {t : TGs} {n : Nat} (hc : X.calm = true) (h : PGs X es t)
   (hn : (assignEach es X.env).length = n := by rfl) (hst : (assignEach es X.env).findIdx? (·.1) = none := by rfl) : PG X (.Tuple es k pos) (gTup X.K n t) := by
 intro pins s σ H v u Q I r hw
 obtain ⟨a, xs, e1, hq, hl, hw⟩ := hw
 subst e1
 cases r
 obtain ⟨its, rv, ht, hz⟩ := I.tuple hq
 refine assign_Tuple_tuple (I.ok.hd hc) ht (by simp [hn, <- hl, rv.length]) hst fun h' hx => ?_
 have I1 : Inv X pins σ H { s with heap := h' } := I.kept (t' := s.toks) fun b o e => hx b o (Nat.ne_of_lt (Heap.lt_size e)) e
 exact h pins _ σ H xs _ Q I1 (by simpa using rv) hw
def Z3p (te : TE) (g : TG) : TS := fun D σ H => te σ H fun x H1 => g x σ H1 D.nx
theorem U8h {tg e : Expr} {te : TE} {g : TG} (he : PE X e te) (hg : PG X tg g) (hs : swapsWithSole [tg] e pos.line X.env = pure false := by rfl) (hw : swappedStores [tg] e X.env = pure none := by rfl)
   (h1 : (assignEach [tg] X.env).map (·.2) = [assign tg X.env] := by rfl) : PS X (.Assign [tg] e pos) (Z3p te g) := by
 intro pins s σ H D I h
 refine wpAny_Assign_stores (thn (he pins s σ H _ I h) fun v s1 ⟨x, H1, I1, r1, q1⟩ => ?_) hs hw
 rw [h1]
 exact thn (hg pins s1 σ H1 x v _ I1 r1 q1) fun _ s2 q => q
theorem D0 {i : Nat} {x : Str} {e : Expr} {te : TE} {pos' : Pos} (hN : X.N.Nodup) (hi : X.N[i]? = some x) (hx : Loc X.env.scope x) (he : PE X e te) (hs : swapsWith e (some (.Name x pos')) pos.line X.env = pure false := by rfl) (hf : X.fn x = true \/ X.env.scope.names.lookup x = some .local := by first | exact .inl rfl | exact .inr rfl | assumption) :
   PS X (.Assign [.Name x pos'] e pos) (Z3p te (J9k i)) := by
 intro pins s σ H D I h
 refine wpAny_Assign_Name (thn (he pins s σ H _ I h) fun v s1 ⟨y, H1, I1, r1, q1⟩ => ?_) hs
 exact C1q I1 hN hi hx r1 (fun s2 I2 => ⟨_, H1, I2, q1⟩) hf
def tAug (i : Nat) (te : TE) (ti : TIp) : TS := fun D σ H => ∃ x, σ[i]? = some (some x) /\ te σ H fun y H1 => ti x y H1 fun z H2 => D.nx (σ.set i (some z)) H2
theorem Z1n {i : Nat} {x : Str} {e : Expr} {te : TE} {op : Operator} {ti : TIp} {pos' : Pos} (hN : X.N.Nodup) (hi : X.N[i]? = some x) (hx : Loc X.env.scope x) (he : PE X e te) (ho : PIp X op ti) (hf : X.fn x = true \/ X.env.scope.names.lookup x = some .local := by first | exact .inl rfl | exact .inr rfl | assumption) :
   PS X (.AugAssign (.Name x pos') op e pos) (tAug i te ti) := by
 intro pins s σ H D I h
 obtain ⟨v, e1, h⟩ := h
 obtain ⟨m, hn, hl⟩ := I.loc
 have vis : Vis X.env.scope x := by rcases hx with k | k; exact .inl k; exact .inr (.inl k)
 obtain ⟨u, r, l⟩ := hl i x v hi e1 vis
 refine wpAny_AugAssign_Name ?_
 have go : wpAny (model X.prog X.w) X.A (eval e X.env) (fun w s₂ => wpAny (model X.prog X.w) X.A (inplaceOp op u w) (fun r s₃ => wpAny (model X.prog X.w) X.A (storeName X.env x r) (fun _ => SP X pins D .next) X.xe s₃) X.xe s₂) X.xe s := by
   refine thn (he pins s σ H _ I h) fun w s1 ⟨y, H1, I1, r1, q1⟩ => ?_
   refine thn (ho pins s1 σ H1 v y u w _ I1 r r1 q1) fun z s2 ⟨zv, H2, I2, r2, q2⟩ => ?_
   exact C1q I2 hN hi hx r2 (fun s3 I3 => ⟨_, H2, I3, q2⟩) hf
 rcases l with ⟨hk, hm⟩ | ⟨hk, c, hc, hcell⟩
 . exact wpAny_loadName_local I.ok.kind hk hn hm go
 . rcases hk with hk | hk
   . exact wpAny_loadName_cell I.ok.kind hk hc hcell go
   . rcases hx with k | k
     . have : X.env.scope.names.lookup x = some .free := hk
       rw [k] at this; cases this
     . have : X.env.scope.names.lookup x = some .free := hk
       rw [k] at this; cases this
def ipI (f : Int -> Int -> Int) : TIp := fun x y H Q => ∃ i j, x = .int i /\ y = .int j /\ Q (.int (f i j)) H
theorem Z3f : PIp X .Add (ipI fun i j => i + j) := by
 intro pins s σ H x y v u Q I r1 r2 h
 obtain ⟨i, j, e1, e2, q⟩ := h
 subst e1; subst e2
 obtain ⟨t, rfl⟩ := r1
 obtain ⟨t', rfl⟩ := r2
 exact iadd_int ⟨.int _, H, I.tok _, ⟨_, rfl⟩, q⟩
end
section
variable {X : Cx} {pos : Pos}
def V0f (c : TT) (tb : TS) : TS := fun D σ H => ∃ W : Nat -> St -> Hp -> Prop, (∃ m, W m σ H) /\ ∀ m σ H, W m σ H ->
 c σ H fun b H1 => if b = true then ∃ N : St -> Hp -> Prop, (∀ σ' H', N σ' H' -> ∃ m', m' < m /\ W m' σ' H') /\ tb { D with nx := N, ct := N, bk := D.nx } σ H1 else D.nx σ H1
theorem B4j {c : Expr} {body : List Stmt} {tc : TT} {tb : TS} (hp : PassesOwn (model X.prog X.w) X.A X.env X.xe) (hc : PT X c tc) (hb : PSs X body tb) : PS X (.While c body [] pos) (V0f tc tb) := by
 intro pins s σ H D I h
 obtain ⟨W, ⟨m0, w0⟩, turn⟩ := h
 refine wpAny_While (codeAny_whileLoop (fun n s' => ∃ σ' H', Inv X pins σ' H' s' /\ W n σ' H') ?_ m0 ⟨σ, H, I, w0⟩)
 rintro n s1 ⟨σ1, H1, I1, w1⟩
 refine wpAny_passesOwn hp (thn (hc pins s1 σ1 H1 _ I1 (turn n σ1 H1 w1)) fun b s2 ⟨H2, I2, q2⟩ => ?_)
 cases b with
 | true =>
   obtain ⟨N, hN, q2⟩ := q2
   rw [if_pos rfl]
   refine wpAny_passesOwn hp (thn (hb pins s2 σ1 H2 _ I2 q2) fun f s3 q3 => ?_)
   cases f with
   | next =>
     obtain ⟨σ3, H3, I3, n3⟩ := q3
     obtain ⟨m', hm, w3⟩ := hN σ3 H3 n3
     exact ⟨m', hm, σ3, H3, I3, w3⟩
   | cont =>
     obtain ⟨σ3, H3, I3, n3⟩ := q3
     obtain ⟨m', hm, w3⟩ := hN σ3 H3 n3
     exact ⟨m', hm, σ3, H3, I3, w3⟩
   | brk => exact q3
   | ret v => exact q3
 | false =>
   rw [if_neg Bool.false_ne_true]
   exact wpAny_execs_nil ⟨σ1, H2, I2, q2⟩
end
structure It where
 go : Nat -> Hp -> Prop
 yld : Nat -> Hp -> V -> Hp -> Prop
 stop : Nat -> Hp -> Prop
def A1w (X : Cx) (pins : List (Addr × Obj)) (H : Hp) (b : Addr) : Prop :=
 H b = none /\ b ≠ X.env.locals /\ b ∉ X.fs /\ (b ∈ X.ex \/ X.s₀.heap.objs.size <= b) /\ (∀ x c, X.env.cells.lookup x = some c -> c ≠ b) /\ ∀ p ∈ X.pn ++ pins, p.1 ≠ b
theorem Inv.fpOk {X : Cx} {pins : List (Addr × Obj)} {σ : St} {H H' : Hp} {s : Shared} {b : Addr} (I : Inv X pins σ H s) (hb : s.heap.objs.size <= b) (hn : H' b = none) : A1w X pins H' b := by
 refine ⟨hn, Nat.ne_of_gt (Nat.lt_of_lt_of_le I.lt hb), I.nofs hb, .inr (Nat.le_trans I.sz hb), fun x c e z => ?_, fun p hp z => ?_⟩
 . obtain ⟨v, q⟩ := I.cell x c e
   exact absurd (Nat.lt_of_lt_of_le q.lt (by rw [z]; exact hb)) (Nat.lt_irrefl _)
 . exact absurd (Nat.lt_of_lt_of_le (Heap.lt_size (I.pin p hp).1) (by rw [z]; exact hb)) (Nat.lt_irrefl _)
structure Turn (P : Program) (w : World) (K : PySem.W.Frag) (tg : Expr) (J : It) (fp : List Addr) (it : Addr) (tn : Nat -> Heap -> Prop) : Prop where
 mem : it ∈ fp
 obj : ∀ i h, tn i h -> ∀ b ∈ fp, ∃ o, h.get? b = some o /\ ∀ v, o.data ≠ .cell v
 keep : ∀ i h h', tn i h -> (∀ b ∈ fp, ∀ o, h.get? b = some o -> h'.get? b = some o) -> tn i h'
 item : ∀ (X : Cx), X.prog = P -> X.w = w -> X.K = K -> X.calm = true -> ∀ (i : Nat) (pins : List (Addr × Obj)) (s : Shared) (σ : St) (H : Hp) (E : Value -> Shared -> Prop), Inv X pins σ H s -> (∀ b ∈ fp, A1w X pins H b) -> tn i s.heap -> J.go i H ->
   wpAny (model P w) X.A (pyNext (.ref it)) (fun r s1 => ∃ u, r = some u /\
     wpAny (model P w) X.A (letOwnedTupleGo tg (.ref it) u) (fun _ s2 => ∃ x H', Inv X pins σ H' s2 /\ RelV x u /\ J.yld i H x H' /\ tn (i + 1) s2.heap /\ ∀ b ∈ fp, H' b = none) E s1) E s
 done : ∀ (X : Cx), X.prog = P -> X.w = w -> X.K = K -> X.calm = true -> ∀ (i : Nat) (pins : List (Addr × Obj)) (s : Shared) (σ : St) (H : Hp) (E : Value -> Shared -> Prop), Inv X pins σ H s -> (∀ b ∈ fp, A1w X pins H b) -> tn i s.heap -> J.stop i H ->
   wpAny (model P w) X.A (pyNext (.ref it)) (fun r s1 => r = none /\ Inv X pins σ H s1) E s
 self : ∀ (A : Around) (i : Nat) (s : Shared) (Q : Value -> Shared -> Prop) (E : Value -> Shared -> Prop), tn i s.heap -> Q (.ref it) s -> wpAny (model P w) A (pyIter (.ref it)) Q E s
abbrev TI := St -> Hp -> (It -> Hp -> Prop) -> Prop
def PIE (X : Cx) (pins : List (Addr × Obj)) (σ : St) (tg : Expr) (R : It -> Hp -> Prop) (itv : Value) (s2 : Shared) : Prop :=
 ∃ (it : Addr) (fp : List Addr) (tn : Nat -> Heap -> Prop) (J : It) (H' : Hp), itv = .ref it /\ Inv X pins σ H' s2 /\ Turn X.prog X.w X.K tg J fp it tn /\ tn 0 s2.heap /\ (∀ b ∈ fp, A1w X pins H' b) /\ R J H'
def PI (X : Cx) (tg iter : Expr) (wi : TI) : Prop :=
 ∀ (pins : List (Addr × Obj)) (s : Shared) (σ : St) (H : Hp) (R : It -> Hp -> Prop), Inv X pins σ H s -> wi σ H R ->
   wpAny (model X.prog X.w) X.A (eval iter X.env) (fun v s1 => wpAny (model X.prog X.w) X.A (pyIter v) (PIE X pins σ tg R) X.xe s1) X.xe s
theorem G3g {M : Model} {A : Around} {E : Value -> Shared -> Prop} {s : Shared} {tg : Expr} {it : Addr} {u : Value} {o : Obj} {n : String} {vs : Array Value} {Q : Unit -> Shared -> Prop} (ho : s.heap.get? it = some o) (hc : o.cls = .type n) (hd : o.data = .fields vs)
   (hn : ["enumerate", "zip", "dict_itemiterator", "dict_reverseitemiterator", "odict_iterator", "itertools.zip_longest", "itertools.pairwise"].contains n = false) (hQ : Q () s) : wpAny M A (letOwnedTupleGo tg (.ref it) u) Q E s := by
 unfold letOwnedTupleGo
 cases tg <;> first
   | exact wpAny_pure hQ
   | (cases u <;> first
       | exact wpAny_pure hQ
       | (refine wpAny_bind (wpAny_load ho ?_)
          rw [hc, hd]
          show wpAny M A (if (["enumerate", "zip", "dict_itemiterator", "dict_reverseitemiterator", "odict_iterator", "itertools.zip_longest", "itertools.pairwise"].contains n && vs[0]? == some (rawInt _)) = true then _ else _) Q E s
          rw [if_neg (by intro h; rw [hn, Bool.false_and] at h; cases h)]
          exact wpAny_pure hQ))
def Itl (K : PySem.W.Frag) (a : Addr) : It :=
 ⟨fun i H => ∃ xs x, SqL K H a xs /\ xs[i]? = some x, fun i H x H' => H' = H /\ ∀ xs, SqL K H a xs -> xs[i]? = some x, fun i H => ∃ xs, SqL K H a xs /\ xs.length <= i⟩
def Itt (K : PySem.W.Frag) (a : Addr) : It :=
 ⟨fun i H => ∃ xs x, SqT K H a xs /\ xs[i]? = some x, fun i H x H' => H' = H /\ ∀ xs, SqT K H a xs -> xs[i]? = some x, fun i H => ∃ xs, SqT K H a xs /\ xs.length <= i⟩
theorem U2q {P : Program} {w : World} {K : PySem.W.Frag} {tg : Expr} (a it : Addr) : Turn P w K tg (Itl K a) [it] it (fun i h => h.IsListIter it a i) where
 mem := by simp
 obj := fun i h st b hb => by
   have e : b = it := by simpa using hb
   subst e
   obtain ⟨o, e, c, d⟩ := st
   exact ⟨o, e, fun v z => by rw [d] at z; cases z⟩
 keep := fun i h h' st k => st.at fun o e => k it (by simp) o e
 item := by
   intro X hP hw hK hc i pins s σ H E I hf st hg
   subst hP hw hK
   obtain ⟨xs, x, hq, hx⟩ := hg
   obtain ⟨its, rv, p, hz⟩ := I.list hq
   obtain ⟨u, hu, ru⟩ := rv.get hx
   obtain ⟨f0, f1, f2, f3, f4, f5⟩ := hf it (by simp)
   refine wpAny_pyNext_list_item st p.isList (x := u) (by simpa using hu) fun h' st' sb => ?_
   have I1 : Inv X pins σ H { s with heap := h' } := I.turned (t' := s.toks) (fun b o hb e => (sb.2 b hb).trans e) f0 f1 f3 f4 f5
   obtain ⟨o, e, c, d⟩ := id st'
   exact ⟨u, rfl, G3g (s := { s with heap := h' }) e c d (by decide) ⟨x, H, I1, ru, ⟨rfl, fun ys hy => by rw [I.list_inj hy hq]; exact hx⟩, st', fun b hb => (hf b hb).1⟩⟩
 done := by
   intro X hP hw hK hc i pins s σ H E I hf st hg
   subst hP hw hK
   obtain ⟨xs, hq, hx⟩ := hg
   obtain ⟨its, rv, p, hz⟩ := I.list hq
   obtain ⟨f0, f1, f2, f3, f4, f5⟩ := hf it (by simp)
   have hl := rv.length
   exact wpAny_pyNext_list_end (I.ok.hd hc) st p.isList (by simp; omega) fun h' eb => ⟨rfl, I.turned (t' := s.toks) (fun b o hb e => eb b o hb e) f0 f1 f3 f4 f5⟩
 self := fun _ _ _ _ _ st h => wpAny_pyIter_listiter st h
section
variable {X : Cx} {tg : Expr}
def Z0e (K : PySem.W.Frag) (tl : TE) : TI := fun σ H R => tl σ H fun x H1 => ∃ a, x = .ref a /\ (∃ xs, SqL K H1 a xs) /\ R (Itl K a) H1
def Z9e (K : PySem.W.Frag) (tl : TE) : TI := fun σ H R => tl σ H fun x H1 => ∃ a, x = .ref a /\ (∃ xs, SqT K H1 a xs) /\ R (Itt K a) H1
theorem C0y {l : Expr} {tl : TE} (hl : PE X l tl) : PI X tg l (Z0e X.K tl) := by
 intro pins s σ H R I h
 refine thn (hl pins s σ H _ I h) fun v s1 ⟨x, H1, I1, r1, q1⟩ => ?_
 obtain ⟨a, e, ⟨xs, hq⟩, q⟩ := q1
 subst e
 cases r1
 obtain ⟨its, rv, p, hz⟩ := I1.list hq
 refine wpAny_pyIter_list p.isList ?_
 refine ⟨s1.heap.objs.size, [s1.heap.objs.size], _, _, H1, rfl, I1.kept (t' := s1.toks) fun b o e => Heap.get?_push_of_some _ e, U2q a _, ⟨_, Heap.get?_push_size _ rfl, rfl, rfl⟩, fun b hb => ?_, q⟩
 have e : b = s1.heap.objs.size := by simpa using hb
 subst e
 exact I1.fpOk (Nat.le_refl _) (I1.hok.fresh (Nat.le_refl _))
def tFor (wi : TI) (g : TG) (tb : TS) : TS := fun D σ H => wi σ H fun J H1 => ∃ W : Nat -> Nat -> St -> Hp -> Prop, (∃ m, W 0 m σ H1) /\ ∀ i m σ H, W i m σ H ->
 (J.stop i H /\ D.nx σ H) \/ (J.go i H /\ ∃ N : St -> Hp -> Prop, (∀ σ' H', N σ' H' -> ∃ m', m' < m /\ W (i + 1) m' σ' H') /\ ∀ x H', J.yld i H x H' -> g x σ H' fun σ2 H2 => tb { D with nx := N, ct := N, bk := D.nx } σ2 H2)
def A3m (fp : List Addr) (h : Heap) : List (Addr × Obj) := fp.filterMap fun b => (h.get? b).map fun o => (b, o)
theorem A5h {fp : List Addr} {h : Heap} {b : Addr} {o : Obj} (hb : b ∈ fp) (e : h.get? b = some o) : (b, o) ∈ A3m fp h := List.mem_filterMap.mpr ⟨b, hb, by rw [e]; rfl⟩
theorem U2v {fp : List Addr} {h : Heap} {p : Addr × Obj} (hp : p ∈ A3m fp h) : p.1 ∈ fp /\ h.get? p.1 = some p.2 := by
 obtain ⟨b, hb, e⟩ := List.mem_filterMap.mp hp
 cases q : h.get? b with
 | none => rw [q] at e; cases e
 | some o =>
   rw [q] at e
   have e' : (b, o) = p := Option.some.inj e
   subst e'
   exact ⟨hb, q⟩
theorem Inv.pinned {pins : List (Addr × Obj)} {σ : St} {H : Hp} {s : Shared} {fp : List Addr} (I : Inv X pins σ H s) (hf : ∀ b ∈ fp, A1w X pins H b) (ho : ∀ b ∈ fp, ∃ o, s.heap.get? b = some o /\ ∀ v, o.data ≠ .cell v) : Inv X (pins ++ A3m fp s.heap) σ H s :=
 I.pins_of fun p hp => (List.mem_append.mp hp).elim (fun z => I.pin p (List.mem_append_right _ z)) fun z => by
   obtain ⟨hb, e⟩ := U2v z
   obtain ⟨f0, f1, f2, _⟩ := hf p.1 hb
   obtain ⟨o, e', d⟩ := ho p.1 hb
   rw [e] at e'; cases e'
   exact ⟨e, f0, f1, f2, d⟩
theorem Inv.unpinned {pins pl : List (Addr × Obj)} {σ : St} {H : Hp} {s : Shared} (I : Inv X (pins ++ pl) σ H s) : Inv X pins σ H s := I.pins_of fun p hp => I.pin p (List.mem_append_right _ (List.mem_append_left _ hp))
theorem C2j {iter : Expr} {body : List Stmt} {wi : TI} {g : TG} {tb : TS} {pos : Pos} (hp : PassesOwn (model X.prog X.w) X.A X.env X.xe) (hc : X.calm = true) (hi : PI X tg iter wi) (hg : PG X tg g) (hb : PSs X body tb)
   (hs : ∀ x, foldedSetIterable iter X.env x = pure x := by intro _; rfl) : PS X (.For tg iter body [] pos) (tFor wi g tb) := by
 intro pins s σ H D I h
 refine wpAny_For (thn (hi pins s σ H _ I h) fun v s1 h1 => thn h1 fun itv s2 h2 => ?_) hs
 obtain ⟨it, fp, tn, J, H2, e, I2, T, st2, f2, W, ⟨m0, w0⟩, turn⟩ := h2
 subst e
 have stat : ∀ {H' : Hp}, (∀ b ∈ fp, H' b = none) -> ∀ b ∈ fp, A1w X pins H' b := fun hn b hb => ⟨hn b hb, (f2 b hb).2⟩
 refine codeAny_forLoop_any (fun n s' => ∃ i σ' H', Inv X pins σ' H' s' /\ tn i s'.heap /\ (∀ b ∈ fp, H' b = none) /\ W i n σ' H') ?_ m0 ⟨0, σ, H2, I2, st2, fun b hb => (f2 b hb).1, w0⟩
 rintro n s3 ⟨i, σ3, H3, I3, st3, fr3, w3⟩
 rcases turn i n σ3 H3 w3 with ⟨stop, qn⟩ | ⟨go, N, hN, step⟩
 . refine wpAny_passesOwn hp (thn (T.done X rfl rfl rfl hc i pins s3 σ3 H3 X.xe I3 (stat fr3) st3 stop) fun r s4 ⟨hr, I4⟩ => ?_)
   subst hr
   exact wpAny_execs_nil ⟨σ3, H3, I4, qn⟩
 . refine wpAny_passesOwn hp (thn (T.item X rfl rfl rfl hc i pins s3 σ3 H3 X.xe I3 (stat fr3) st3 go) fun r s4 ⟨u, hr, h4⟩ => ?_)
   subst hr
   refine wpAny_passesOwn hp (thn h4 fun _ s5 ⟨x, H5, I5, r5, y5, st5, fr5⟩ => ?_)
   have I5' := I5.pinned (stat fr5) (T.obj _ _ st5)
   refine wpAny_passesOwn hp (thn (hg _ s5 σ3 H5 x u _ I5' r5 (step x H5 y5)) fun _ s6 ⟨σ6, H6, I6, q6⟩ => ?_)
   refine wpAny_passesOwn hp (thn (hb _ s6 σ6 H6 _ I6 q6) fun f s7 q7 => ?_)
   have again : ∀ {σ7 : St} {H7 : Hp}, Inv X (pins ++ A3m fp s5.heap) σ7 H7 s7 -> N σ7 H7 -> ∃ m, m < n /\ ∃ i σ' H', Inv X pins σ' H' s7 /\ tn i s7.heap /\ (∀ b ∈ fp, H' b = none) /\ W i m σ' H' := fun {σ7 H7} I7 n7 => by
     obtain ⟨m', hm, w7⟩ := hN σ7 H7 n7
     refine ⟨m', hm, i + 1, σ7, H7, I7.unpinned, T.keep _ _ _ st5 fun b hb o e => (I7.pin (b, o) (List.mem_append_right _ (List.mem_append_right _ (A5h hb e)))).1, fun b hb => ?_, w7⟩
     obtain ⟨o, e, d⟩ := T.obj _ _ st5 b hb
     exact (I7.pin (b, o) (List.mem_append_right _ (List.mem_append_right _ (A5h hb e)))).2.1
   cases f with
   | next => obtain ⟨σ7, H7, I7, n7⟩ := q7; exact again I7 n7
   | cont => obtain ⟨σ7, H7, I7, n7⟩ := q7; exact again I7 n7
   | brk => obtain ⟨σ7, H7, I7, q7⟩ := q7; exact ⟨σ7, H7, I7.unpinned, q7⟩
   | ret v => obtain ⟨x7, σ7, H7, I7, r7, q7⟩ := q7; exact ⟨x7, σ7, H7, I7.unpinned, r7, q7⟩
end
theorem A8a {K : PySem.W.Frag} {a : Addr} {xs : List V} {g : TG} {tb : TS} {D : Ends} {σ : St} {H : Hp} (Pv : Nat -> St -> Hp -> Prop) (h0 : Pv 0 σ H) (hl : ∀ i σ H, i <= xs.length -> Pv i σ H -> SqL K H a xs)
   (hs : ∀ i x σ H, xs[i]? = some x -> Pv i σ H -> g x σ H fun σ2 H2 => tb { D with nx := Pv (i + 1), ct := Pv (i + 1), bk := D.nx } σ2 H2) (hd : ∀ σ H, Pv xs.length σ H -> D.nx σ H) :
   ∃ W : Nat -> Nat -> St -> Hp -> Prop, (∃ m, W 0 m σ H) /\ ∀ i m σ H, W i m σ H ->
     ((Itl K a).stop i H /\ D.nx σ H) \/ ((Itl K a).go i H /\ ∃ N : St -> Hp -> Prop, (∀ σ' H', N σ' H' -> ∃ m', m' < m /\ W (i + 1) m' σ' H') /\ ∀ x H', (Itl K a).yld i H x H' -> g x σ H' fun σ2 H2 => tb { D with nx := N, ct := N, bk := D.nx } σ2 H2) := by
 refine ⟨fun i m σ H => m = xs.length - i /\ i <= xs.length /\ Pv i σ H, ⟨xs.length, by simp, Nat.zero_le _, h0⟩, ?_⟩
 rintro i m σ H ⟨rfl, hi, p⟩
 have q := hl i σ H hi p
 by_cases hlt : i < xs.length
 . refine .inr ⟨⟨xs, xs[i], q, by simp [hlt]⟩, Pv (i + 1), fun σ' H' p' => ⟨xs.length - (i + 1), by omega, rfl, hlt, p'⟩, fun x H' y => ?_⟩
   obtain ⟨e, y⟩ := y
   subst e
   exact hs i x σ _ (y xs q) p
 . have e : i = xs.length := by omega
   subst e
   exact .inl ⟨⟨xs, q, Nat.le_refl _⟩, hd σ H p⟩
theorem B5a {c : TT} {tb : TS} {D : Ends} {σ : St} {H : Hp} (Pv : St -> Hp -> Prop) (μ : St -> Hp -> Nat) (h0 : Pv σ H)
   (hs : ∀ σ H, Pv σ H -> c σ H fun b H1 => if b = true then tb { D with nx := fun σ' H' => Pv σ' H' /\ μ σ' H' < μ σ H, ct := fun σ' H' => Pv σ' H' /\ μ σ' H' < μ σ H, bk := D.nx } σ H1 else D.nx σ H1)
   (mono : ∀ σ H Q Q', (∀ b H1, Q b H1 -> Q' b H1) -> c σ H Q -> c σ H Q') : V0f c tb D σ H := by
 refine ⟨fun m σ H => m = μ σ H /\ Pv σ H, ⟨_, rfl, h0⟩, ?_⟩
 rintro m σ H ⟨rfl, p⟩
 refine mono σ H _ _ (fun b H1 q => ?_) (hs σ H p)
 cases b with
 | true => exact ⟨_, fun σ' H' ⟨p', l⟩ => ⟨_, l, rfl, p'⟩, q⟩
 | false => exact q
abbrev R2 := V -> V -> Hp -> VK -> Prop
def OpR (X : Cx) (f : Value -> Value -> Sem Value) (r : R2) : Prop :=
 ∀ (pins : List (Addr × Obj)) (s : Shared) (σ : St) (H : Hp) (x y : V) (v u : Value) (Q : VK), Inv X pins σ H s -> RelV x v -> RelV y u -> r x y H Q ->
   wpAny (model X.prog X.w) X.A (f v u) (EP X pins σ Q) X.xe s
def UnR (X : Cx) (f : Value -> Sem Value) (r : V -> Hp -> VK -> Prop) : Prop :=
 ∀ (pins : List (Addr × Obj)) (s : Shared) (σ : St) (H : Hp) (x : V) (v : Value) (Q : VK), Inv X pins σ H s -> RelV x v -> r x H Q ->
   wpAny (model X.prog X.w) X.A (f v) (EP X pins σ Q) X.xe s
def A7t (X : Cx) (f : Value) (r : List V -> Hp -> VK -> Prop) : Prop :=
 ∀ (pins : List (Addr × Obj)) (s : Shared) (σ : St) (H : Hp) (xs : List V) (us : List Value) (Q : VK), Inv X pins σ H s -> Vals xs us -> r xs H Q ->
   wpAny (model X.prog X.w) X.A (call f us) (EP X pins σ Q) X.xe s
def tOp (r : R2) (ta tb : TE) : TE := fun σ H Q => ta σ H fun x H1 => tb σ H1 fun y H2 => r x y H2 Q
def tUn (r : V -> Hp -> VK -> Prop) (ta : TE) : TE := fun σ H Q => ta σ H fun x H1 => r x H1 Q
def rI (C : Int -> Int -> Prop) (g : Int -> Int -> V) : R2 := fun x y H Q => ∃ i j, x = .int i /\ y = .int j /\ C i j /\ Q (g i j) H
def rI0 (g : Int -> Int -> V) : R2 := fun x y H Q => ∃ i j, x = .int i /\ y = .int j /\ Q (g i j) H
def rU (g : Int -> V) : V -> Hp -> VK -> Prop := fun x H Q => ∃ i, x = .int i /\ Q (g i) H
section
variable {X : Cx} {a b c : Expr} {ta tb tc : TE} {pos : Pos}
theorem Z1g (ha : PE X a ta) (hb : PE X b tb) {pins : List (Addr × Obj)} {s : Shared} {σ : St} {H : Hp} {R : V -> V -> Hp -> Prop} (I : Inv X pins σ H s)
   (h : ta σ H fun x H1 => tb σ H1 fun y H2 => R x y H2) {Q : Value -> Shared -> Prop} {f : Value -> Value -> Sem Value}
   (hf : ∀ v u s2 x y H2, Inv X pins σ H2 s2 -> RelV x v -> RelV y u -> R x y H2 -> wpAny (model X.prog X.w) X.A (f v u) Q X.xe s2) :
   wpAny (model X.prog X.w) X.A (eval a X.env) (fun v s₁ => wpAny (model X.prog X.w) X.A (eval b X.env) (fun u s₂ => wpAny (model X.prog X.w) X.A (f v u) Q X.xe s₂) X.xe s₁) X.xe s := by
 refine thn (ha pins s σ H _ I h) fun v s1 ⟨x, H1, I1, r1, q1⟩ => ?_
 refine thn (hb pins s1 σ H1 _ I1 q1) fun u s2 ⟨y, H2, I2, r2, q2⟩ => ?_
 exact hf v u s2 x y H2 I2 r1 r2 q2
theorem B3 {op : Operator} {r : R2} (ho : OpR X (binaryOp op) r) (ha : PE X a ta) (hb : PE X b tb) : PE X (.BinOp a op b pos) (tOp r ta tb) := by
 intro pins s σ H Q I h
 exact wpAny_BinOp (Z1g ha hb I h fun v u s2 x y H2 I2 rx ry q => ho pins s2 σ H2 x y v u Q I2 rx ry q)
theorem D1e {op : UnaryOp} {r : V -> Hp -> VK -> Prop} (ho : UnR X (unaryOp op) r) (ha : PE X a ta) : PE X (.UnaryOp op a pos) (tUn r ta) := by
 intro pins s σ H Q I h
 exact UnaryOp_ (thn (ha pins s σ H _ I h) fun v s1 ⟨x, H1, I1, r1, q1⟩ => ho pins s1 σ H1 x v Q I1 r1 q1)
theorem opI {f : Value -> Value -> Sem Value} {C : Int -> Int -> Prop} {g : Int -> Int -> Int}
   (rule : ∀ (i j : Int) (t u : Tok) (s : Shared) (Q : Value -> Shared -> Prop) (E : Value -> Shared -> Prop), C i j -> Q (.int (g i j) s.toks) { s with toks := s.toks + 1 } -> wpAny (model X.prog X.w) X.A (f (.int i t) (.int j u)) Q E s) :
   OpR X f (rI C fun i j => .int (g i j)) := by
 intro pins s σ H x y v u Q I rx ry h
 obtain ⟨i, j, rfl, rfl, hc, q⟩ := h
 obtain ⟨t, rfl⟩ := rx
 obtain ⟨t', rfl⟩ := ry
 exact rule i j t t' s _ _ hc ⟨.int (g i j), H, I.tok _, ⟨_, rfl⟩, q⟩
theorem Z6u {f : Value -> Value -> Sem Value} {g : Int -> Int -> Int}
   (rule : ∀ (i j : Int) (t u : Tok) (s : Shared) (Q : Value -> Shared -> Prop) (E : Value -> Shared -> Prop), Q (.int (g i j) s.toks) { s with toks := s.toks + 1 } -> wpAny (model X.prog X.w) X.A (f (.int i t) (.int j u)) Q E s) :
   OpR X f (rI0 fun i j => .int (g i j)) := by
 intro pins s σ H x y v u Q I rx ry h
 obtain ⟨i, j, rfl, rfl, q⟩ := h
 obtain ⟨t, rfl⟩ := rx
 obtain ⟨t', rfl⟩ := ry
 exact rule i j t t' s _ _ ⟨.int (g i j), H, I.tok _, ⟨_, rfl⟩, q⟩
theorem Y7f {f : Value -> Value -> Sem Value} {g : Int -> Int -> Bool}
   (rule : ∀ (i j : Int) (t u : Tok) (s : Shared) (Q : Value -> Shared -> Prop) (E : Value -> Shared -> Prop), Q (.bool (g i j)) s -> wpAny (model X.prog X.w) X.A (f (.int i t) (.int j u)) Q E s) :
   OpR X f (rI0 fun i j => .bl (g i j)) := by
 intro pins s σ H x y v u Q I rx ry h
 obtain ⟨i, j, rfl, rfl, q⟩ := h
 obtain ⟨t, rfl⟩ := rx
 obtain ⟨t', rfl⟩ := ry
 exact rule i j t t' s _ _ ⟨.bl (g i j), H, I, rfl, q⟩
def Z3b (i j : Int) : Prop := 0 <= j /\ j <= 1000000 /\ i.natAbs < 2 ^ 64
def CMul (i j : Int) : Prop := (-(2 ^ 64) < i /\ i < 2 ^ 64) \/ (-(2 ^ 64) < j /\ j < 2 ^ 64)
theorem CMul.ok {i j : Int} (h : CMul i j) : IntMulOk i j := by
 rcases h with ⟨h1, h2⟩ | ⟨h1, h2⟩
 . exact .of_left (intBits_le_64 h1 h2)
 . exact .of_right (intBits_le_64 h1 h2)
theorem J3 : OpR X (binaryOp .Add) (rI0 fun i j => .int (i + j)) := Z6u fun _ _ _ _ _ _ _ q => add_int q
theorem U1 : OpR X (binaryOp .Sub) (rI0 fun i j => .int (i - j)) := Z6u fun _ _ _ _ _ _ _ q => sub_int q
theorem V6 : OpR X (binaryOp .Mod) (rI (fun _ j => 0 < j) fun i j => .int (i % j)) := opI fun i j _ _ _ _ _ hc q => by
 have h1 : (0 : Int) < j := hc
 exact mod_int' (by omega) (by rw [Int.fmod_eq_emod_of_nonneg i (by omega)]; exact q)
theorem V0b : OpR X (binaryOp .Pow) (rI Z3b fun i j => .int (i ^ j.toNat)) := opI fun _ _ _ _ _ _ _ hc q => pow_int_small hc.1 hc.2.1 hc.2.2 q
theorem unI {f : Value -> Sem Value} {g : Int -> Int}
   (rule : ∀ (i : Int) (t : Tok) (s : Shared) (Q : Value -> Shared -> Prop) (E : Value -> Shared -> Prop), Q (.int (g i) s.toks) { s with toks := s.toks + 1 } -> wpAny (model X.prog X.w) X.A (f (.int i t)) Q E s) :
   UnR X f (rU fun i => .int (g i)) := by
 intro pins s σ H x v Q I rx h
 obtain ⟨i, rfl, q⟩ := h
 obtain ⟨t, rfl⟩ := rx
 exact rule i t s _ _ ⟨.int (g i), H, I.tok _, ⟨_, rfl⟩, q⟩
theorem B5w : UnR X (unaryOp .USub) (rU fun i => .int (-i)) := unI fun _ _ _ _ _ q => neg_int q
end
def Z6y : V -> V -> Bool
 | .non, .non => true | .non, .int _ => true | .int _, .non => true | .non, .bl _ => true | .bl _, .non => true | .non, .str _ => true | .str _, .non => true
 | .int _, .int _ => true | .bl _, .bl _ => true | .str _, .str _ => true | .byt _, .byt _ => true
 | .int _, .str _ => true | .str _, .int _ => true | .bl _, .str _ => true | .str _, .bl _ => true
 | _, _ => false
def rEq : R2 := fun x y H Q => Z6y x y = true /\ Q (.bl (decide (x = y))) H
def rNe : R2 := fun x y H Q => Z6y x y = true /\ Q (.bl (!decide (x = y))) H
theorem J8u {i j : Int} : decide (V.int i = V.int j) = (i == j) := by
 rw [Bool.eq_iff_iff]
 simp
theorem V0d {i j : Bool} : decide (V.bl i = V.bl j) = (i == j) := by
 rw [Bool.eq_iff_iff]
 simp
theorem dec_str {i j : Str} : decide (V.str i = V.str j) = (i == j) := by
 rw [Bool.eq_iff_iff]
 simp
theorem J9e {i j : Array UInt8} : decide (V.byt i = V.byt j) = (i.toList == j.toList) := by
 rw [Bool.eq_iff_iff]
 cases i
 cases j
 simp
section
variable {X : Cx} {a b c : Expr} {ta tb tc : TE} {pos : Pos}
theorem G4 {pins : List (Addr × Obj)} {σ : St} {H : Hp} {s : Shared} {Q : VK} {k k' : Bool} (I : Inv X pins σ H s) (q : Q (.bl k) H) (e : k = k') : EP X pins σ Q (.bool k') s := by
 subst e
 exact ⟨.bl k, H, I, rfl, q⟩
theorem G8 : OpR X (compareOp .Eq) rEq := by
 intro pins s σ H x y v u Q I rx ry h
 obtain ⟨hs, q⟩ := h
 cases x with
 | non =>
   cases rx
   cases y with
   | non => cases ry; exact PySem.EqNone.eq_none_none (G4 I q (by simp))
   | bl j => cases ry; exact PySem.EqNone.eq_none_bool (G4 I q (by simp))
   | int j => obtain ⟨t', rfl⟩ := ry; exact PySem.EqNone.eq_none_int (G4 I q (by simp))
   | str j => obtain ⟨t', rfl⟩ := ry; exact PySem.EqNone.eq_none_str (G4 I q (by simp))
   | _ => exact absurd (show false = true from hs) Bool.false_ne_true
 | bl i =>
   cases rx
   cases y with
   | non => cases ry; exact PySem.EqNone.eq_bool_none (G4 I q (by simp))
   | bl j => cases ry; exact eq_bool (G4 I q V0d)
   | str j => obtain ⟨t', rfl⟩ := ry; exact PySem.EqMixed.eq_bool_str (G4 I q (by simp))
   | _ => exact absurd (show false = true from hs) Bool.false_ne_true
 | int i =>
   obtain ⟨t, rfl⟩ := rx
   cases y with
   | non => cases ry; exact PySem.EqNone.eq_int_none (G4 I q (by simp))
   | int j => obtain ⟨t', rfl⟩ := ry; exact eq_int (G4 I q J8u)
   | str j => obtain ⟨t', rfl⟩ := ry; exact PySem.EqMixed.eq_int_str (G4 I q (by simp))
   | _ => exact absurd (show false = true from hs) Bool.false_ne_true
 | str i =>
   obtain ⟨t, rfl⟩ := rx
   cases y with
   | non => cases ry; exact PySem.EqNone.eq_str_none (G4 I q (by simp))
   | bl j => cases ry; exact PySem.EqMixed.eq_str_bool (G4 I q (by simp))
   | int j => obtain ⟨t', rfl⟩ := ry; exact PySem.EqMixed.eq_str_int (G4 I q (by simp))
   | str j => obtain ⟨t', rfl⟩ := ry; exact eq_str (G4 I q dec_str)
   | _ => exact absurd (show false = true from hs) Bool.false_ne_true
 | byt i =>
   obtain ⟨t, rfl⟩ := rx
   cases y with
   | byt j => obtain ⟨t', rfl⟩ := ry; exact PySem.W.eq_bytes (G4 I q J9e)
   | _ => exact absurd (show false = true from hs) Bool.false_ne_true
 | _ => cases y <;> exact absurd (show false = true from hs) Bool.false_ne_true
theorem B4g : OpR X (compareOp .NotEq) rNe := by
 intro pins s σ H x y v u Q I rx ry h
 obtain ⟨hs, q⟩ := h
 cases x with
 | non =>
   cases rx
   cases y with
   | non => cases ry; exact PySem.EqNone.ne_none_none (G4 I q (by simp))
   | bl j => cases ry; exact PySem.EqNone.ne_none_bool (G4 I q (by simp))
   | int j => obtain ⟨t', rfl⟩ := ry; exact PySem.EqNone.ne_none_int (G4 I q (by simp))
   | str j => obtain ⟨t', rfl⟩ := ry; exact PySem.EqNone.ne_none_str (G4 I q (by simp))
   | _ => exact absurd (show false = true from hs) Bool.false_ne_true
 | bl i =>
   cases rx
   cases y with
   | non => cases ry; exact PySem.EqNone.ne_bool_none (G4 I q (by simp))
   | bl j => cases ry; exact ne_bool (G4 I q (congrArg not V0d))
   | str j => obtain ⟨t', rfl⟩ := ry; exact PySem.EqMixed.ne_bool_str (G4 I q (by simp))
   | _ => exact absurd (show false = true from hs) Bool.false_ne_true
 | int i =>
   obtain ⟨t, rfl⟩ := rx
   cases y with
   | non => cases ry; exact PySem.EqNone.ne_int_none (G4 I q (by simp))
   | int j => obtain ⟨t', rfl⟩ := ry; exact ne_int (G4 I q (congrArg not J8u))
   | str j => obtain ⟨t', rfl⟩ := ry; exact PySem.EqMixed.ne_int_str (G4 I q (by simp))
   | _ => exact absurd (show false = true from hs) Bool.false_ne_true
 | str i =>
   obtain ⟨t, rfl⟩ := rx
   cases y with
   | non => cases ry; exact PySem.EqNone.ne_str_none (G4 I q (by simp))
   | bl j => cases ry; exact PySem.EqMixed.ne_str_bool (G4 I q (by simp))
   | int j => obtain ⟨t', rfl⟩ := ry; exact PySem.EqMixed.ne_str_int (G4 I q (by simp))
   | str j => obtain ⟨t', rfl⟩ := ry; exact ne_str (G4 I q (congrArg not dec_str))
   | _ => exact absurd (show false = true from hs) Bool.false_ne_true
 | byt i =>
   obtain ⟨t, rfl⟩ := rx
   cases y with
   | byt j => obtain ⟨t', rfl⟩ := ry; exact PySem.W.ne_bytes (G4 I q (congrArg not J9e))
   | _ => exact absurd (show false = true from hs) Bool.false_ne_true
 | _ => cases y <;> exact absurd (show false = true from hs) Bool.false_ne_true
theorem B4t : OpR X (compareOp .Lt) (rI0 fun i j => .bl (decide (i < j))) := Y7f fun _ _ _ _ _ _ _ q => lt_int q
theorem Z0q : OpR X (compareOp .LtE) (rI0 fun i j => .bl (decide (i <= j))) := Y7f fun _ _ _ _ _ _ _ q => le_int q
theorem J9n : OpR X (compareOp .Gt) (rI0 fun i j => .bl (decide (j < i))) := Y7f fun _ _ _ _ _ _ _ q => gt_int q
theorem U8e : OpR X (compareOp .GtE) (rI0 fun i j => .bl (decide (j <= i))) := Y7f fun _ _ _ _ _ _ _ q => ge_int q
theorem Z1j : OpR X (compareOp .Is) (fun x y H Q => y = .non /\ Q (.bl (decide (x = .non))) H) := by
 intro pins s σ H x y v u Q I rx ry h
 obtain ⟨rfl, q⟩ := h
 cases ry
 refine is_none_gen (G4 I q ?_)
 cases x <;> first
   | (cases rx; rfl)
   | (obtain ⟨t, rfl⟩ := rx; rfl)
theorem B8 (b : Expr) {op : CmpOp} (h : op ≠ .In := by decide) (h2 : op ≠ .NotIn := by decide) : behindInMarks op b = false := by
 have e1 : (op == CmpOp.In) = false := by cases op <;> first | rfl | exact absurd rfl h
 have e2 : (op == CmpOp.NotIn) = false := by cases op <;> first | rfl | exact absurd rfl h2
 cases b <;> simp [behindInMarks, e1, e2]
theorem G3 {op : CmpOp} {r : R2} (ho : OpR X (compareOp op) r) (ha : PE X a ta) (hb : PE X b tb) (hm : behindInMarks op b = false) : PE X (.Compare a [op] [b] pos) (tOp r ta tb) := by
 intro pins s σ H Q I h
 exact wpAny_Compare1 (Z1g ha hb I h fun v u s2 x y H2 I2 rx ry q => ho pins s2 σ H2 x y v u Q I2 rx ry q) hm
def Z0u (t : TE) : TT := fun σ H Q => t σ H fun x H' => ∃ k, x = .bl k /\ Q k H'
theorem C5 {op : CmpOp} {r : R2} (ho : OpR X (compareOp op) r) (ha : PE X a ta) (hb : PE X b tb) (hm : behindInMarks op b = false) : PT X (.Compare a [op] [b] pos) (Z0u (tOp r ta tb)) := by
 intro pins s σ H Q I h
 refine wpAny_isTrue_Compare1 (thn (ha pins s σ H _ I h) fun v s1 ⟨x, H1, I1, r1, q1⟩ => thn (hb pins s1 σ H1 _ I1 q1) fun u s2 ⟨y, H2, I2, r2, q2⟩ =>
   thn (ho pins s2 σ H2 x y v u _ I2 r1 r2 q2) fun c s3 ⟨z, H3, I3, r3, k, e, q3⟩ => ?_) hm
 subst e
 cases r3
 exact wpAny_truthy_bool ⟨H3, I3, q3⟩
def Z1x (r r' : R2) (ta tb tc : TE) : TE := fun σ H Q => ta σ H fun x H1 => tb σ H1 fun y H2 => r x y H2 fun z H3 => ∃ k, z = .bl k /\
 (if k = true then tc σ H3 fun w' H4 => r' y w' H4 Q else Q (.bl false) H3)
theorem G3e {op op' : CmpOp} {r r' : R2} (ho : OpR X (compareOp op) r) (ho' : OpR X (compareOp op') r') (ha : PE X a ta) (hb : PE X b tb) (hc : PE X c tc)
   (hm : lastMarks [op, op'] [b, c] = false := by with_unfolding_all rfl) : PT X (.Compare a [op, op'] [b, c] pos) (Z0u (Z1x r r' ta tb tc)) := by
 intro pins s σ H Q I h
 refine isTrue_chain (thn (ha pins s σ H _ I h) fun v s1 ⟨x, H1, I1, r1, q1⟩ => test_link (thn (hb pins s1 σ H1 _ I1 q1) fun u s2 ⟨y, H2, I2, r2, q2⟩ =>
   thn (ho pins s2 σ H2 x y v u _ I2 r1 r2 q2) fun d s3 ⟨z, H3, I3, r3, k, e, q3⟩ => ?_)) hm
 subst e
 cases r3
 refine wpAny_truthy_bool ?_
 cases k with
 | false =>
   obtain ⟨k', e', q'⟩ := q3
   cases e'
   exact ite_ff ⟨H3, I3, q'⟩
 | true =>
   refine ite_tt (test_last (thn (hc pins s3 σ H3 _ I3 q3) fun w' s4 ⟨z', H4, I4, r4, q4⟩ => thn (ho' pins s4 σ H4 y z' u w' _ I4 r2 r4 q4) fun d' s5 ⟨z2, H5, I5, r5, k2, e2, q5⟩ => ?_))
   subst e2
   cases r5
   exact wpAny_truthy_bool ⟨H5, I5, q5⟩
theorem D3d : (sizeLine : Nat) < 2 ^ 63 := by rw [sizeLine_eq]; decide
theorem G8g : OpR X (binaryOp .Add) (fun x y H Q => ∃ i j, x = .str i /\ y = .str j /\ i.length + j.length <= sizeLine /\ Q (.str (i ++ j)) H) := by
 intro pins s σ H x y v u Q I rx ry h
 obtain ⟨i, j, rfl, rfl, hz, q⟩ := h
 obtain ⟨t, rfl⟩ := rx
 obtain ⟨t', rfl⟩ := ry
 exact add_str (fun t' tk => ⟨.str (i ++ j), H, I.tok _, ⟨_, rfl⟩, q⟩) hz
theorem C1t {x : V} {us : List Value} (r : Vals [x] us) : ∃ u, us = [u] /\ RelV x u := by
 cases r with
 | cons r1 r2 => cases r2; exact ⟨_, rfl, r1⟩
theorem Z0s {x y : V} {us : List Value} (r : Vals [x, y] us) : ∃ u w', us = [u, w'] /\ RelV x u /\ RelV y w' := by
 cases r with
 | cons r1 r2 =>
   cases r2 with
   | cons r3 r4 => cases r4; exact ⟨_, _, rfl, r1, r3⟩
theorem V9 (hc : X.calm = true) : A7t X (.builtin "max") (fun xs H Q => ∃ i j, xs = [.int i, .int j] /\ Q (.int (if j > i then j else i)) H) := by
 intro pins s σ H xs us Q I r h
 obtain ⟨i, j, rfl, q⟩ := h
 obtain ⟨u, w', rfl, ⟨t, rfl⟩, ⟨t', rfl⟩⟩ := Z0s r
 refine max_two_ints (I.ok.hd hc) fun h' tk k => ⟨_, H, I.kept k, ?_, q⟩
 by_cases hj : j > i
 . rw [if_pos hj, if_pos hj]; exact ⟨_, rfl⟩
 . rw [if_neg hj, if_neg hj]; exact ⟨_, rfl⟩
theorem B6b (hc : X.calm = true) : A7t X (.builtin "min") (fun xs H Q => ∃ i j, xs = [.int i, .int j] /\ Q (.int (if j < i then j else i)) H) := by
 intro pins s σ H xs us Q I r h
 obtain ⟨i, j, rfl, q⟩ := h
 obtain ⟨u, w', rfl, ⟨t, rfl⟩, ⟨t', rfl⟩⟩ := Z0s r
 refine min_two_ints (I.ok.hd hc) fun h' tk k => ⟨_, H, I.kept k, ?_, q⟩
 by_cases hj : j < i
 . rw [if_pos hj, if_pos hj]; exact ⟨_, rfl⟩
 . rw [if_neg hj, if_neg hj]; exact ⟨_, rfl⟩
theorem D0r : A7t X (.type "int") (fun xs H Q => (∃ i, xs = [.int i] /\ Q (.int i) H) \/ ∃ k, xs = [.bl k] /\ Q (.int (if k then 1 else 0)) H) := by
 intro pins s σ H xs us Q I r h
 rcases h with ⟨i, rfl, q⟩ | ⟨k, rfl, q⟩
 . obtain ⟨u, rfl, t, rfl⟩ := C1t r
   exact call_int_int ⟨.int i, H, I, ⟨_, rfl⟩, q⟩
 . obtain ⟨u, rfl, r1⟩ := C1t r
   cases r1
   exact call_int_bool ⟨.int (if k then 1 else 0), H, I.tok _, ⟨_, rfl⟩, q⟩
theorem D3n : A7t X (.type "str") (fun xs H Q => ∃ i, xs = [.int i] /\ i.natAbs.log2 < 1920 /\ Q (.str (toString i)) H) := by
 intro pins s σ H xs us Q I r h
 obtain ⟨i, rfl, hz, q⟩ := h
 obtain ⟨u, rfl, t, rfl⟩ := C1t r
 exact PySem.P.str_of_int hz ⟨.str _, H, I.tok _, ⟨_, rfl⟩, q⟩
end
structure ObjM (h : Heap) (x dx C : Addr) (mA : Str -> Option Value) : Prop where
 obj : h.get? x = some (PySem.W.instObj C dx)
 ns : h.Ns1 dx mA
 ne : dx ≠ x
theorem D0t {h : Heap} {dx : Addr} {mA : Str -> Option Value} (n : h.Ns1 dx mA) : ∃ od, h.get? dx = some od /\ ∀ name, PySem.W.lookIn name od = some (mA name) := by
 obtain ⟨o, es, ep, ho, hd, hk, _, hm⟩ := n
 refine ⟨o, ho, fun name => ?_⟩
 have e := hm name
 unfold nsFind findBy at e
 rw [<- Array.find?_toList] at e
 unfold PySem.W.lookIn
 rw [hd]
 dsimp only
 split
 . rename_i y q
   rw [q] at e
   exact congrArg some e
 . rename_i q
   rw [q] at e
   have a : es.toList.any (·.refKey) = false := by
     rw [List.any_eq_false]
     intro y hy
     obtain ⟨z, t, hkey⟩ := hk y (Array.mem_toList_iff.mp hy)
     simp [DictEntry.refKey, hkey]
   have a' : ¬ es.toList.any (·.refKey) = true := by rw [a]; exact Bool.false_ne_true
   rw [if_neg a']
   exact congrArg some e
theorem ObjM.look {h : Heap} {x dx C : Addr} {mA : Str -> Option Value} (I : ObjM h x dx C mA) : ∃ od, PySem.W.InstAt h x (PySem.W.instObj C dx) C (some od) /\ ∀ name, PySem.W.lookIn name od = some (mA name) :=
 let ⟨od, ho, hl⟩ := D0t I.ns
 ⟨od, ⟨I.obj, rfl, rfl, ho⟩, hl⟩
section
variable {prog : Program} {w : World} {A : Around} {E : Value -> Shared -> Prop} {s : Shared} {K : PySem.W.Frag} {x dx C f : Addr} {mA : Str -> Option Value} {name : Str} {v : Value}
theorem Y6a {expr : Bool} {Q : Value -> Shared -> Prop} (X : K.In s.heap) (I : ObjM s.heap x dx C mA) (hg : PySem.W.plainGet K C name = true) (hh : PySem.W.hasDictIn K C = true)
   (ha : PySem.W.findIn K (.ref C) name = some none) (hv : mA name = some v) (hv' : PySem.W.handedIn v = true) (h : Q v { s with toks := s.toks + 1 }) :
   wpAny (model prog w) A (getAttr (.ref x) name expr) Q E s := by
 obtain ⟨od, J, hl⟩ := I.look
 exact PySem.W.get_value X J (PySem.W.plainGet_of hg).1 (PySem.W.findObj_own hh ha rfl (by rw [hl, hv])) hv' h
theorem V0v {pl : Sem Bool} {Q : Value × List Value -> Shared -> Prop} (X : K.In s.heap) (I : ObjM s.heap x dx C mA) (hg : PySem.W.plainGet K C name = true)
   (hf : PySem.W.findIn K (.ref C) name = some (some (.ref f))) (ht : PySem.W.isFn K (.ref f) = true) (hv : mA name = none) (h : Q (.ref f, [.ref x]) s) :
   wpAny (model prog w) A (getMethod (.ref x) name pl) Q E s := by
 obtain ⟨od, J, hl⟩ := I.look
 exact PySem.W.method_fn X J (PySem.W.plainGet_of hg).1 (PySem.W.plainGet_of hg).2 hf (beq_iff_eq.mp ht) (by show (PySem.W.lookIn name od).map (·.isSome) = some false; rw [hl, hv]; rfl) h
theorem Y4y {ns : List Str} {Q : Unit -> Shared -> Prop} (X : K.In s.heap) (I : ObjM s.heap x dx C mA)
   (hs : PySem.W.findIn K (.ref C) "__setattr__" = some (some (.builtin "object.__setattr__"))) (hp : PySem.W.plainOver K C = true) (ht : PySem.W.takerIn K C name = some none) (hh : PySem.W.hasDictIn K C = true)
   (hw : PySem.Within mA ns) (hsz : ns.length <= sizeLine)
   (h : ∀ h', ObjM h' x dx C (fun y => if y = name then some v else mA y) -> Heap.SameBut dx s.heap h' -> Q () { s with heap := h', toks := s.toks + 2 }) :
   wpAny (model prog w) A (setAttr (.ref x) name v) Q E s := by
 obtain ⟨od, J, hl⟩ := I.look
 refine PySem.W.set_plain X J hs (PySem.W.osa_open (s := { s with toks := s.toks + 1 }) (r := none) X J hp ht fun b => ?_)
 obtain ⟨cd, hc, hd'⟩ := PySem.W.any_some hh
 have hx : s.heap.get? x = some ⟨.ref C, some dx, .plain, #[]⟩ := I.obj
 refine wpAny_bind (wpAny_pure (wpAny_bind (wpAny_bind (wpAny_loadPart hx (wpAny_bind (PySem.W.Looks.here (s := { s with toks := s.toks + 1 }) (PySem.W.looks_clsIn X hc) ?_))))))
 rw [hd']
 refine wpAny_pure (a := some dx) (wpAny_bind (wpAny_pure (wpAny_bind ?_)))
 refine wpAny_nsSet1 (s := { s with toks := s.toks + 1 }) I.ns fun h' hn2 hs2 => ?_
 obtain ⟨oD, esD, epD, hoD, hdD, hcD⟩ := hn2.count (PySem.Within.cons name v hw)
 refine wpAny_bind (wpAny_lookBehind hoD (by rw [hdD]; exact pastItsLine_dict (Nat.le_trans hcD (by rw [List.length_cons]; omega))) ?_)
 exact wpAny_pure (h _ ⟨(hs2.2 _ (Ne.symm I.ne)).trans I.obj, hn2, I.ne⟩ hs2)
theorem G2j {R : Result -> Shared -> Prop} {vs : List Value} {kw : List (Str × Value)} (X : K.In s.heap) (hm : PySem.W.makesIn K C = true)
   (hi : PySem.W.findIn K (.ref C) "__init__" = some (some (.ref f))) (hf : PySem.W.typeIn K (.ref f) = some (.type "function"))
   (h : codeAny (model prog w) (A.under (.builtin "type.__call__" ⟨.ref C :: vs, kw⟩)) (.call (.ref f) ⟨.ref (s.heap.objs.size + 1) :: vs, kw⟩) (PySem.W.InitBack (s.heap.objs.size + 1) R)
     { s with heap := (s.heap.push PySem.W.emptyDict).push (PySem.W.instObj C s.heap.objs.size) }) :
   codeAny (model prog w) A (.call (.ref C) ⟨vs, kw⟩) R s := by
 obtain ⟨hh, g, d, t, os⟩ := s
 exact PySem.W.make_core (PySem.W.makes_of X hm) (PySem.W.looks_findIn X hi) (fun self => PySem.W.bind_fn X self hf) (.inl rfl) h
theorem U2w {R : Result -> Shared -> Prop} (X : K.In s.heap) (hm : PySem.W.makesIn K C = true)
   (hi : PySem.W.findIn K (.ref C) "__init__" = some (some (.builtin "object.__init__")))
   (hb : ∀ self, PySem.W.Looks (model prog w) s.heap (bindSpecial (.builtin "object.__init__") self) (.builtin "object.__init__", [self]))
   (h : codeAny (model prog w) (A.under (.builtin "type.__call__" ⟨[.ref C], []⟩)) (.call (.builtin "object.__init__") ⟨[.ref (s.heap.objs.size + 1)], []⟩) (PySem.W.InitBack (s.heap.objs.size + 1) R)
     { s with heap := (s.heap.push PySem.W.emptyDict).push (PySem.W.instObj C s.heap.objs.size) }) :
   codeAny (model prog w) A (.call (.ref C) ⟨[], []⟩) R s := by
 obtain ⟨hh, g, d, t, os⟩ := s
 exact PySem.W.make_core (PySem.W.makes_of X hm) (PySem.W.looks_findIn X hi) hb (.inr ⟨rfl, rfl⟩) h
end
def J0 (f : Str) (v : V) : List (Str × V) -> List (Str × V)
 | [] => [(f, v)]
 | (g, x) :: r => if g = f then (g, v) :: r else (g, x) :: J0 f v r
theorem C9 (f g : Str) (v : V) : ∀ fs : List (Str × V), (J0 f v fs).lookup g = if g = f then some v else fs.lookup g
 | [] => by
   show List.lookup g [(f, v)] = _
   by_cases h : g = f
   . have hb : (g == f) = true := beq_iff_eq.mpr h
     simp only [List.lookup, hb, if_pos h]
   . have hb : (g == f) = false := beq_eq_false_iff_ne.mpr h
     simp only [List.lookup, hb, if_neg h]
 | (k, x) :: r => by
   have ih := C9 f g v r
   rw [show J0 f v ((k, x) :: r) = (if k = f then (k, v) :: r else (k, x) :: J0 f v r) from rfl]
   by_cases hk : k = f
   . rw [if_pos hk]
     by_cases h : g = k
     . have hb : (g == k) = true := beq_iff_eq.mpr h
       simp only [List.lookup, hb, if_pos (h.trans hk)]
     . have hb : (g == k) = false := beq_eq_false_iff_ne.mpr h
       simp only [List.lookup, hb, if_neg (fun e : g = f => h (e.trans hk.symm))]
   . rw [if_neg hk]
     by_cases h : g = k
     . have hb : (g == k) = true := beq_iff_eq.mpr h
       simp only [List.lookup, hb, if_neg (fun e : g = f => hk (h.symm.trans e))]
     . have hb : (g == k) = false := beq_eq_false_iff_ne.mpr h
       simp only [List.lookup, hb]
       exact ih
theorem B5y (f : Str) (v : V) : ∀ fs : List (Str × V), f ∈ (J0 f v fs).map (·.1) /\ ∀ g, g ∈ fs.map (·.1) -> g ∈ (J0 f v fs).map (·.1)
 | [] => ⟨by simp [J0], fun g h => by simp at h⟩
 | (k, x) :: r => by
   obtain ⟨i1, i2⟩ := B5y f v r
   rw [show J0 f v ((k, x) :: r) = (if k = f then (k, v) :: r else (k, x) :: J0 f v r) from rfl]
   by_cases hk : k = f
   . rw [if_pos hk]
     subst hk
     exact ⟨by simp, fun g h => by simpa using h⟩
   . rw [if_neg hk]
     refine ⟨?_, fun g h => ?_⟩
     . rw [List.map_cons]
       exact List.mem_cons_of_mem _ i1
     . rw [List.map_cons] at h ⊢
       rcases List.mem_cons.mp h with e | e
       . exact List.mem_cons.mpr (.inl e)
       . exact List.mem_cons_of_mem _ (i2 g e)
theorem V8 (f : Str) (v : V) : ∀ fs : List (Str × V), (J0 f v fs).length <= fs.length + 1
 | [] => by simp [J0]
 | (k, x) :: r => by
   have ih := V8 f v r
   rw [show J0 f v ((k, x) :: r) = (if k = f then (k, v) :: r else (k, x) :: J0 f v r) from rfl]
   by_cases hk : k = f
   . rw [if_pos hk, List.length_cons, List.length_cons]; omega
   . rw [if_neg hk, List.length_cons, List.length_cons]; omega
theorem RelO.some_of {v : V} {o : Option Value} (r : RelO (some v) o) : ∃ u, o = some u /\ RelV v u := by
 cases o with
 | none => exact (show False from r).elim
 | some u => exact ⟨u, rfl, r⟩
theorem RelO.none_of {o : Option Value} (r : RelO none o) : o = none := by
 cases o with
 | none => rfl
 | some u => exact (show False from r).elim
theorem U1f {v : V} {u : Value} (r : RelV v u) : PySem.W.handedIn u = true := by
 cases v with
 | non => cases (show u = Value.none from r); rfl
 | bl b => cases (show u = Value.bool b from r); rfl
 | int i => obtain ⟨t, e⟩ := (show ∃ t, u = Value.int i t from r); cases e; rfl
 | str x => obtain ⟨t, e⟩ := (show ∃ t, u = Value.str x t from r); cases e; rfl
 | byt b => obtain ⟨t, e⟩ := (show ∃ t, u = Value.bytes b t from r); cases e; rfl
 | flt b => obtain ⟨t, e⟩ := (show ∃ t, u = Value.float b t from r); cases e; rfl
 | ref a => cases (show u = Value.ref a from r); rfl
 | ty n => cases (show u = Value.type n from r); rfl
section
variable {P : Program} {w : World} {H H' : Hp} {h h' : Heap} {a C dx : Addr} {fs fs' : List (Str × V)}
theorem C0w (hok : HOk P w H h) (e : H a = some (.ins C dx fs)) : ∃ mA, ObjM h a dx C mA /\ (∀ f, RelO (fs.lookup f) (mA f)) /\ PySem.Within mA (fs.map (·.1)) /\ fs.length <= 1000 /\ H dx = some (.own a) := by
 obtain ⟨d, z, ne, ob, mA, n, r, q⟩ := (show ObjOk P w H h a (.ins C dx fs) from hok a _ e)
 exact ⟨mA, ⟨ob, n, ne⟩, r, q, z, d⟩
end
structure Cls (K : PySem.W.Frag) (C : Addr) : Prop where
 pg : PySem.W.plainGet K C Str.empty = true
 hd : PySem.W.hasDictIn K C = true
 po : PySem.W.plainOver K C = true
 sa : PySem.W.findIn K (.ref C) "__setattr__" = some (some (.builtin "object.__setattr__"))
theorem Cls.get {K : PySem.W.Frag} {C : Addr} (c : Cls K C) (f : Str) : PySem.W.plainGet K C f = true := c.pg
def NoAttr (K : PySem.W.Frag) (C : Addr) (f : Str) : Prop := PySem.W.findIn K (.ref C) f = some none
theorem NoAttr.taker {K : PySem.W.Frag} {C : Addr} {f : Str} (n : NoAttr K C f) : PySem.W.takerIn K C f = some none := by
 unfold PySem.W.takerIn
 rw [show PySem.W.findIn K (.ref C) f = some none from n]
 rfl
structure Meth (K : PySem.W.Frag) (C : Addr) (m : Str) (f : Addr) : Prop where
 at_ : PySem.W.findIn K (.ref C) m = some (some (.ref f))
 fn : PySem.W.isFn K (.ref f) = true
 kp : PySem.W.keepIn K (.ref f) = true
section
variable {X : Cx} {pins : List (Addr × Obj)} {σ : St} {H : Hp} {s : Shared} {a C dx : Addr} {fs : List (Str × V)} {f : Str} {v : V} {A : Around} {E : Value -> Shared -> Prop}
theorem G7p {b : Bool} {Q : Value -> Shared -> Prop} (I : Inv X pins σ H s) (e : H a = some (.ins C dx fs)) (c : Cls X.K C) (n : NoAttr X.K C f) (l : fs.lookup f = some v)
   (h : ∀ u s', Inv X pins σ H s' -> RelV v u -> Q u s') : wpAny (model X.prog X.w) A (getAttr (.ref a) f b) Q E s := by
 obtain ⟨mA, O, r, _, _, _⟩ := C0w I.hok e
 obtain ⟨u, hu, ru⟩ := RelO.some_of (v := v) (o := mA f) (by rw [<- l]; exact r f)
 exact Y6a I.kIn O (c.get f) c.hd n hu (U1f ru) (h u _ (I.tok _) ru)
theorem C2v {m : Str} {g : Addr} {pl : Sem Bool} {Q : Value × List Value -> Shared -> Prop} (I : Inv X pins σ H s) (e : H a = some (.ins C dx fs)) (c : Cls X.K C) (k : Meth X.K C m g) (l : fs.lookup m = none)
   (h : Q (.ref g, [.ref a]) s) : wpAny (model X.prog X.w) A (getMethod (.ref a) m pl) Q E s := by
 obtain ⟨mA, O, r, _, _, _⟩ := C0w I.hok e
 have hn : mA m = none := RelO.none_of (by rw [<- l]; exact r m)
 exact V0v I.kIn O (c.get m) k.at_ k.fn hn h
theorem G9n {y : V} {u : Value} {Q : Unit -> Shared -> Prop} (I : Inv X pins σ H s) (e : H a = some (.ins C dx fs)) (c : Cls X.K C) (n : NoAttr X.K C f) (hl : fs.length < 1000) (ry : RelV y u)
   (h : ∀ s', Inv X pins σ (upd H a (.ins C dx (J0 f y fs))) s' -> Q () s') : wpAny (model X.prog X.w) A (setAttr (.ref a) f u) Q E s := by
 obtain ⟨mA, O, r, wi, _, ho⟩ := C0w I.hok e
 have hz : (fs.map (·.1)).length <= sizeLine := by rw [List.length_map, sizeLine_eq]; omega
 refine Y4y I.kIn O c.sa c.po n.taker c.hd wi hz fun h' O' sb => h _ ?_
 have hd : ∃ o, h'.get? dx = some o := let ⟨o, _, _, e', _⟩ := O'.ns; ⟨o, e'⟩
 refine I.write (x := a) (e := dx) (by rw [e]; exact True.intro) (.inr ho) (fun b q hb z => (sb.2 b hb).trans z) hd ?_
 refine ⟨by rw [C0 O.ne]; exact ho, ?_, O.ne, O'.obj, _, O'.ns, fun g => ?_, fun g hg => ?_⟩
 . have := V8 f y fs; omega
 . show RelO ((J0 f y fs).lookup g) (if g = f then some u else mA g)
   rw [C9]
   by_cases q : g = f
   . rw [if_pos q, if_pos q]; exact ry
   . rw [if_neg q, if_neg q]; exact r g
 . by_cases q : g = f
   . rw [q]; exact (B5y f y fs).1
   . refine (B5y f y fs).2 g (wi g fun z => hg ?_)
     show (if g = f then some u else mA g) = none
     rw [if_neg q]; exact z
theorem Inv.made (I : Inv X pins σ H s) : Inv X pins σ (upd (upd H s.heap.objs.size (.own (s.heap.objs.size + 1))) (s.heap.objs.size + 1) (.ins C s.heap.objs.size []))
   { s with heap := (s.heap.push PySem.W.emptyDict).push (PySem.W.instObj C s.heap.objs.size) } := by
 have e1 : (s.heap.push PySem.W.emptyDict).get? s.heap.objs.size = some PySem.W.emptyDict := Heap.get?_push_size s.heap rfl
 have e2 : ((s.heap.push PySem.W.emptyDict).push (PySem.W.instObj C s.heap.objs.size)).get? (s.heap.objs.size + 1) = some (PySem.W.instObj C s.heap.objs.size) := by
   have := Heap.get?_push_size (s.heap.push PySem.W.emptyDict) (o := PySem.W.instObj C s.heap.objs.size) rfl
   rwa [Heap.size_push] at this
 have e3 : (s.heap.push PySem.W.emptyDict).Ns s.heap.objs.size (fun _ => none) := ⟨PySem.W.emptyDict, #[], _, e1, rfl, (fun e he => absurd he (by simp)), fun _ => rfl⟩
 have I1 := I.laid (a := s.heap.objs.size) (o := .own (s.heap.objs.size + 1)) (h' := s.heap.push PySem.W.emptyDict) (t' := s.toks) (fun b u q => Heap.get?_push_of_some _ q) (Nat.le_refl _) ⟨_, e1⟩
 refine I1.laid (a := s.heap.objs.size + 1) (o := .ins C s.heap.objs.size []) (t' := s.toks) (fun b u q => Heap.get?_push_of_some _ q) (Nat.le_of_eq (Heap.size_push _ _)) ?_
 have ne : s.heap.objs.size ≠ s.heap.objs.size + 1 := Nat.ne_of_lt (Nat.lt_succ_self _)
 refine ⟨by rw [C0 ne, A7], Nat.zero_le _, ne, e2, fun _ => none, (Heap.Ns1.of_empty e3).at fun o q => Heap.get?_push_of_some _ q, fun _ => True.intro, fun y hy => absurd rfl hy⟩
theorem Y5n {prog : Program} {w : World} {env : Env} {e : Expr} {f : Str} {pos : Pos} {s : Shared} {Q : Value -> Shared -> Prop} (hb : attributeBase e f env (eval e env) = eval e env)
   (h : wpAny (model prog w) A (eval e env) (fun o s₁ => wpAny (model prog w) A (getAttr o f true) Q E s₁) E s) : wpAny (model prog w) A (eval (.Attribute e f pos) env) Q E s :=
 Attribute_any_ h (by rw [arm_eval_Attribute, hb])
end
def Z6w (K : PySem.W.Frag) (ta : TE) (f : Str) : TE := fun σ H Q => ta σ H fun x H1 => ∃ a C dx fs v, x = .ref a /\ H1 a = some (.ins C dx fs) /\ Cls K C /\ NoAttr K C f /\ fs.lookup f = some v /\ Q v H1
def sFld (K : PySem.W.Frag) (ta tv : TE) (f : Str) : TS := fun D σ H => tv σ H fun y H1 => ta σ H1 fun x H2 => ∃ a C dx fs, x = .ref a /\ H2 a = some (.ins C dx fs) /\ Cls K C /\ NoAttr K C f /\ fs.length < 1000 /\
 D.nx σ (upd H2 a (.ins C dx (J0 f y fs)))
section
variable {X : Cx} {o e value : Expr} {f : Str} {pos pos' tpos : Pos} {ta tv : TE}
theorem C7 (he : PE X e ta) (hb : attributeBase e f X.env (eval e X.env) = eval e X.env) : PE X (.Attribute e f pos) (Z6w X.K ta f) := by
 intro pins s σ H Q I h
 refine Y5n hb (thn (he pins s σ H _ I h) fun u s1 ⟨x, H1, I1, rx, a, C, dx, fs, v, ex, ea, c, n, l, q⟩ => ?_)
 subst ex
 obtain rfl : u = Value.ref a := rx
 exact G7p I1 ea c n l fun u' s2 I2 ru => ⟨v, H1, I2, ru, q⟩
theorem V1 (ha : PE X o ta) (hv : PE X value tv) (hs : swapsWith value (some (.Attribute o f pos')) pos.line X.env = pure false) : PS X (.Assign [.Attribute o f pos'] value pos) (sFld X.K ta tv f) := by
 intro pins s σ H D I h
 refine plainObj_wpAny_Assign_Attribute (thn (hv pins s σ H _ I h) fun u s1 ⟨y, H1, I1, ry, q⟩ => thn (ha pins s1 σ H1 _ I1 q) fun ov s2 ⟨x, H2, I2, rx, a, C, dx, fs, ex, ea, c, n, l, q2⟩ => ?_) hs
 subst ex
 obtain rfl : ov = Value.ref a := rx
 exact G9n I2 ea c n l ry fun s3 I3 => ⟨σ, _, I3, q2⟩
end
section
variable {X : Cx} {pins : List (Addr × Obj)} {σ : St} {H : Hp} {s : Shared} {A : Around} {E : Value -> Shared -> Prop} {Q : Value -> Shared -> Prop} {c : Value} {b : Bool}
inductive TyOf (K : PySem.W.Frag) (H : Hp) : V -> Value -> Prop where
 | non : TyOf K H .non (.type "NoneType")
 | bl (x : Bool) : TyOf K H (.bl x) (.type "bool")
 | int (i : Int) : TyOf K H (.int i) (.type "int")
 | str (x : Str) : TyOf K H (.str x) (.type "str")
 | flt (x : UInt64) : TyOf K H (.flt x) (.type "float")
 | lst {a : Addr} {xs : List V} (e : H a = some (.lst xs)) : TyOf K H (.ref a) (.type "list")
 | frz {a : Addr} {o : Obj} {xs : List V} (e : H a = some (.frz o (.lst xs))) : TyOf K H (.ref a) (.type "list")
 | tup {a : Addr} {xs : List V} (e : H a = some (.tup xs)) : TyOf K H (.ref a) (.type "tuple")
 | dK {a : Addr} {kvs : List (Key × V)} (e : H a = some (.dK kvs)) : TyOf K H (.ref a) (.type "dict")
 | dT {a : Addr} {kvs : List (List Key × V)} (e : H a = some (.dT kvs)) : TyOf K H (.ref a) (.type "dict")
 | ins {a C dx : Addr} {fs : List (Str × V)} (e : H a = some (.ins C dx fs)) (cl : Cls K C) (ha : PySem.W.findIn K (.ref C) "__class__" = some (some (.builtin "object.__class__")))
     (hn : PySem.W.specialIn K (.builtin "object.__class__") "__get__" = some (some (.builtin "getset_descriptor.__get__"))) (htk : PySem.W.takesIn K (.builtin "object.__class__") = some true)
     (hm : PySem.W.mroIn K C (.type "object") = some true) : TyOf K H (.ref a) (.ref C)
theorem U1e {x : V} {u t : Value} (I : Inv X pins σ H s) (rx : RelV x u) (ty : TyOf X.K H x t) (e : PySem.W.kitOne X.K t c = some b) (h : ∀ tk, Q (.bool b) { s with toks := tk }) :
   wpAny (model X.prog X.w) A (call (.builtin "isinstance") [u, c]) Q E s := by
 cases ty with
 | non => cases (show u = Value.none from rx); exact PySem.W.kia_one PySem.W.kitx_none I.kIn True.intro e (fun z => nomatch z) h
 | bl y => cases (show u = Value.bool y from rx); exact PySem.W.kia_one PySem.W.kitx_bool I.kIn True.intro e (fun z => nomatch z) h
 | int i => obtain ⟨t, q⟩ := (show ∃ t, u = Value.int i t from rx); cases q; exact PySem.W.kia_one PySem.W.kitx_int I.kIn True.intro e (fun z => nomatch z) h
 | str y => obtain ⟨t, q⟩ := (show ∃ t, u = Value.str y t from rx); cases q; exact PySem.W.kia_one PySem.W.kitx_str I.kIn True.intro e (fun z => nomatch z) h
 | flt y => obtain ⟨t, q⟩ := (show ∃ t, u = Value.float y t from rx); cases q; exact PySem.W.kia_one PySem.W.kitx_float I.kIn True.intro e (fun z => nomatch z) h
 | @lst a xs ea =>
   cases (show u = Value.ref a from rx)
   obtain ⟨_, _, n, _, h1⟩ := (show ObjOk X.prog X.w H s.heap a (.lst xs) from I.hok a _ ea)
   exact PySem.W.kia_one PySem.W.kitx_list I.kIn ⟨_, h1, rfl⟩ e (fun z => nomatch z) h
 | @frz a ob xs ea =>
   cases (show u = Value.ref a from rx)
   obtain ⟨_, _, _, n, _, h1⟩ := (show ObjOk X.prog X.w H s.heap a (.frz ob (.lst xs)) from I.hok a _ ea)
   exact PySem.W.kia_one PySem.W.kitx_list I.kIn ⟨_, h1, rfl⟩ e (fun z => nomatch z) h
 | @tup a xs ea =>
   cases (show u = Value.ref a from rx)
   obtain ⟨_, _, _, p⟩ := (show ObjOk X.prog X.w H s.heap a (.tup xs) from I.hok a _ ea)
   obtain ⟨o, h1, h2, _⟩ := p
   exact PySem.W.kia_one PySem.W.kitx_tuple I.kIn ⟨o, h1, h2⟩ e (fun z => nomatch z) h
 | @dK a kvs ea =>
   cases (show u = Value.ref a from rx)
   obtain ⟨_, _, vs, _, p⟩ := (show ObjOk X.prog X.w H s.heap a (.dK kvs) from I.hok a _ ea)
   obtain ⟨o, es, ep, h1, h2, _⟩ := p
   exact PySem.W.kia_one PySem.W.kitx_dict I.kIn ⟨o, h1, h2.1⟩ e (fun z => nomatch z) h
 | @dT a kvs ea =>
   cases (show u = Value.ref a from rx)
   obtain ⟨_, _, xs, _, o, es, ep, h1, h2, _⟩ := (show ObjOk X.prog X.w H s.heap a (.dT kvs) from I.hok a _ ea)
   exact PySem.W.kia_one PySem.W.kitx_dict I.kIn ⟨o, h1, h2.1⟩ e (fun z => nomatch z) h
 | @ins a C dx fs ea cl ha hn htk hm =>
   cases (show u = Value.ref a from rx)
   obtain ⟨mA, O, _⟩ := C0w I.hok ea
   obtain ⟨od, J, _⟩ := O.look
   exact PySem.W.kia_one (PySem.W.kitx_own (cl.get _) cl.hd ha hn htk hm) I.kIn J e (fun z => nomatch z) h
end
structure Room (k : Nat) (A : Around) : Prop where
 hd : A.handled = none
 dp : A.depth + 3 * k + 5 < recursionLimit
 un : A.units + 16 * k + 200 < cLine
theorem Room.mono {j k : Nat} {A : Around} (r : Room k A) (h : j <= k) : Room j A := ⟨r.hd, by have := r.dp; omega, by have := r.un; omega⟩
theorem Room.deeper {k : Nat} {A : Around} (r : Room (k + 1) A) (env : Env) : Room k (A.deeper env) :=
 ⟨r.hd, by have := r.dp; show A.depth + 1 + 3 * k + 5 < _; omega, by have := r.un; show A.units + 3 + 16 * k + 200 < _; omega⟩
theorem G8n {A : Around} {C : Addr} {us : List Value} {kw : List (Str × Value)} : (A.under (.builtin "type.__call__" ⟨.ref C :: us, kw⟩)).depth = A.depth + 1 := by
 first | rfl | simp [Around.under, Code.weight, Code.isCreation, Code.isGuard, Code.isCaller, Code.frames, Code.isFrame, guardIds]
theorem G9b {A : Around} {C : Addr} {us : List Value} {kw : List (Str × Value)} : (A.under (.builtin "type.__call__" ⟨.ref C :: us, kw⟩)).units = A.units + 1 := by
 first | rfl | simp [Around.under, Code.cUnits, Code.frames, Code.isFrame]
theorem Room.make {k : Nat} {A : Around} (r : Room (k + 1) A) (C : Addr) (us : List Value) (kw : List (Str × Value)) : Room k (A.under (.builtin "type.__call__" ⟨.ref C :: us, kw⟩)) :=
 ⟨r.hd, by have := r.dp; rw [G8n]; omega, by have := r.un; rw [G9b]; omega⟩
theorem Room.depth {k : Nat} {A : Around} (r : Room k A) : A.depth < recursionLimit := by have := r.dp; omega
theorem Room.units {k : Nat} {A : Around} (r : Room k A) : A.units + 64 < cLine := by have := r.un; omega
def V1b : TA := fun _ H Q => Q [] H
def U9e (ta : TE) (tr : TA) : TA := fun σ H Q => ta σ H fun x H1 => tr σ H1 fun xs H2 => Q (x :: xs) H2
section
variable {X : Cx} {e : Expr} {es : List Expr} {te : TE} {t : TA} {pos : Pos}
theorem A5 : PA X [] V1b := fun _ _ _ _ H Q I h => Calls.spliced_nil ⟨[], H, I, .nil, h⟩
theorem A0 (ha : PE X e te) (hr : PA X es t) (hs : starEach (e :: es) X.env = (false, eval e X.env) :: starEach es X.env := by rfl) : PA X (e :: es) (U9e te t) := by
 intro pos pins s σ H Q I h
 rw [hs]
 show wpAny _ _ (spliced ((false, eval e X.env) :: backTo pos (starEach es X.env))) _ _ s
 refine Calls.spliced_cons (thn (ha pins s σ H _ I h) fun u s1 ⟨x, H1, I1, r1, q1⟩ => ?_)
 exact thn (hr pos pins s1 σ H1 _ I1 q1) fun us s2 ⟨xs, H2, I2, r2, q2⟩ => ⟨x :: xs, H2, I2, .cons r1 r2, q2⟩
def tTup (t : TA) : TE := fun σ H Q => t σ H fun xs H1 => xs.length <= sizeLine /\ ∀ p, H1 p = none -> Q (.ref p) (upd H1 p (.tup xs))
def tLst (t : TA) : TE := fun σ H Q => t σ H fun xs H1 => xs.length <= sizeLine /\ ∀ p, H1 p = none -> Q (.ref p) (upd H1 p (.lst xs))
theorem A3j {x1} (h : PA X es t) : PE X (.Tuple es x1 pos) (tTup t) := by
 intro pins s σ H Q I hq
 refine wpAny_Tuple_spliced (thn (h pos pins s σ H _ I hq) fun us s1 ⟨xs, H1, I1, r, z, q⟩ => ⟨by rw [<- r.length]; exact z, ?_⟩)
 have hf : H1 s1.heap.objs.size = none := I1.hok.fresh (Nat.le_refl _)
 refine ⟨.ref s1.heap.objs.size, upd H1 s1.heap.objs.size (.tup xs), I1.laid (t' := s1.toks) (fun b u e => Heap.get?_push_of_some _ e) (Nat.le_refl _) ?_, rfl, q _ hf⟩
 exact ⟨z, us, r, ⟨_, Heap.get?_push_size _ rfl, rfl, _, rfl⟩⟩
theorem J2 (h : PA X es t) : PE X (.List es pos) (tLst t) := by
 intro pins s σ H Q I hq
 refine wpAny_List_spliced (thn (h pos pins s σ H _ I hq) fun us s1 ⟨xs, H1, I1, r, z, q⟩ => ⟨by rw [<- r.length]; exact z, ?_⟩)
 have hf : H1 s1.heap.objs.size = none := I1.hok.fresh (Nat.le_refl _)
 refine ⟨.ref s1.heap.objs.size, upd H1 s1.heap.objs.size (.lst xs), I1.laid (t' := s1.toks) (fun b u e => Heap.get?_push_of_some _ e) (Nat.le_refl _) ?_, rfl, q _ hf⟩
 exact ⟨z, us, 0, r, Heap.get?_push_size _ rfl⟩
end
abbrev Sp := List V -> Hp -> VK -> XK -> Prop
abbrev CXT := List Env -> Hp -> Shared -> XK -> Value -> Shared -> Prop
structure Env0 (P : Program) (w : World) (K : PySem.W.Frag) (mg : Str -> Option Value) (base : Heap) (A : Around) (outer : List Env) (s : Shared) (H : Hp) : Prop where
 frames : A.frames = some outer
 mod : Mod K mg base
 bs : ∀ b o, base.get? b = some o -> s.heap.get? b = some o /\ H b = none
 bsz : base.objs.size <= s.heap.objs.size
 funs : s.heap.FunFrames base outer
 frf : ∀ b ∈ frs outer, H b = none
 hok : HOk P w H s.heap
 bare : AllBare s.gens
def CE (outer : List Env) (P : Program) (w : World) (H : Hp) (s : Shared) (Q : VK) (u : Value) (s' : Shared) : Prop :=
 ∃ v H', s'.os = s.os /\ AllBare s'.gens /\ Un (frs outer) [] H H' s.heap s'.heap /\ HOk P w H' s'.heap /\ RelV v u /\ Q v H'
def CR (CX : CXT) (outer : List Env) (P : Program) (w : World) (H : Hp) (s : Shared) (Q : VK) (E : XK) (r : Result) (s' : Shared) : Prop :=
 match r with
 | .ok (.ret u) => CE outer P w H s Q u s'
 | .ok _ => False
 | .error e => CX outer H s E e s'
structure FnOk (P : Program) (w : World) (K : PySem.W.Frag) (mg : Str -> Option Value) (base : Heap) (CX : CXT) (k : Nat) (f : Addr) (fd : FuncData) (ps : List Str) (sp : Sp) : Prop where
 len : ∀ vs H Q E, sp vs H Q E -> vs.length = ps.length
 run : ∀ (A : Around) (outer : List Env) (s : Shared) (H : Hp) (args : Args) (us : List Value) (vs : List V) (Q : VK) (E : XK), Room k A -> Env0 P w K mg base A outer s H -> BindsTo s fd args (ps.zip us) -> Vals vs us -> sp vs H Q E ->
   codeAny (model P w) A (.call (.ref f) args) (CR CX outer P w H s Q E) s
theorem FnOk.mono {P : Program} {w : World} {K : PySem.W.Frag} {mg : Str -> Option Value} {base : Heap} {CX : CXT} {j k : Nat} {f : Addr} {fd : FuncData} {ps : List Str} {sp : Sp} (F : FnOk P w K mg base CX j f fd ps sp) (h : j <= k) :
   FnOk P w K mg base CX k f fd ps sp := ⟨F.len, fun A outer s H args us vs Q E hr => F.run A outer s H args us vs Q E (hr.mono h)⟩
theorem Env0.make {P : Program} {w : World} {K : PySem.W.Frag} {mg : Str -> Option Value} {base : Heap} {A : Around} {outer : List Env} {s : Shared} {H : Hp} (e : Env0 P w K mg base A outer s H) (C : Addr) (us : List Value) (kw : List (Str × Value)) :
   Env0 P w K mg base (A.under (.builtin "type.__call__" ⟨.ref C :: us, kw⟩)) outer s H := ⟨by first | exact e.frames | (simpa [Around.under, Code.envs, Code.isFrame, pushEnvs] using e.frames), e.mod, e.bs, e.bsz, e.funs, e.frf, e.hok, e.bare⟩
section
variable {X : Cx} {pins : List (Addr × Obj)} {σ : St} {H : Hp} {s s' : Shared}
theorem Inv.env0 (I : Inv X pins σ H s) : Env0 X.prog X.w X.K X.mg X.base X.A X.stack s H :=
 ⟨I.ok.frames, I.ok.mod, I.bs, Nat.le_trans I.ok.bsz I.sz, I.stack, I.stkFree, I.hok, I.bare⟩
theorem Inv.after {Q : VK} {u : Value} (I : Inv X pins σ H s) (h : CE X.stack X.prog X.w H s Q u s') : EP X pins σ Q u s' := by
 obtain ⟨v, H', os, bare, un, hok, r, q⟩ := h
 obtain ⟨hh, g, d, t, os'⟩ := s'
 obtain rfl : os' = s.os := os
 exact ⟨v, H', I.call (h' := hh) (g' := g) (d' := d) (t' := t) (ch := []) un hok bare (fun b z => absurd z (by simp)), r, q⟩
end
def Z7v (C : Addr) (sp : Sp) (dvs : List V) (E : XK) (t : TA) : TE := fun σ H Q => t σ H fun vs H1 => ∀ x dx, H1 x = none -> H1 dx = none -> dx ≠ x ->
 sp (.ref x :: (vs ++ dvs)) (upd (upd H1 dx (.own x)) x (.ins C dx [])) (fun v H2 => v = .non /\ Q (.ref x) H2) E
def Binds (K : PySem.W.Frag) (fd : FuncData) (ps : List Str) (ds : List Value) : Prop :=
 ∀ (s : Shared) (us : List Value), K.In s.heap -> (us ++ ds).length = ps.length -> BindsTo s fd ⟨us, []⟩ (ps.zip (us ++ ds))
theorem Binds.all {K : PySem.W.Frag} {fd : FuncData} {ps : List Str} (h : ∀ us : List Value, us.length = ps.length -> bindArgs fd ⟨us, []⟩ = pure (ps.zip us)) : Binds K fd ps [] := fun s us _ hl => by
 rw [List.append_nil] at hl ⊢
 exact .of_eq (h us hl)
def G7m (CX : CXT) (X : Cx) (E : XK) : Prop := ∀ (pins : List (Addr × Obj)) (σ : St) (H : Hp) (s : Shared) (e : Value) (s' : Shared), Inv X pins σ H s -> CX X.stack H s E e s' -> X.xe e s'
section
variable {X : Cx} {CX : CXT} {k : Nat} {f C : Addr} {fd : FuncData} {ps : List Str} {sp : Sp} {dvs : List V} {ds : List Value} {E : XK} {x m : Str} {p pos apos : Pos} {e o : Expr} {es : List Expr} {ta : TE} {t : TA}
structure Mk (K : PySem.W.Frag) (C f : Addr) : Prop where
 makes : PySem.W.makesIn K C = true
 init : PySem.W.findIn K (.ref C) "__init__" = some (some (.ref f))
 fn : PySem.W.isFn K (.ref f) = true
 kp : PySem.W.keepIn K (.ref C) = true
theorem U8d {pins : List (Addr × Obj)} {σ : St} {H : Hp} {s : Shared} {Q : VK} {us : List Value} {vs : List V} (M : Mk X.K C f) (F : FnOk X.prog X.w X.K X.mg X.base CX k f fd ps sp) (hr : Room (k + 1) X.A) (hb : Binds X.K fd ps ds) (hd : Vals dvs ds)
   (hx : G7m CX X E) (I : Inv X pins σ H s) (r : Vals vs us)
   (h : ∀ x dx, H x = none -> H dx = none -> dx ≠ x -> sp (.ref x :: (vs ++ dvs)) (upd (upd H dx (.own x)) x (.ins C dx [])) (fun v H2 => v = .non /\ Q (.ref x) H2) E) :
   wpAny (model X.prog X.w) X.A (call (.ref C) us) (EP X pins σ Q) X.xe s := by
 have hq := h (s.heap.objs.size + 1) s.heap.objs.size (I.hok.fresh (Nat.le_succ _)) (I.hok.fresh (Nat.le_refl _)) (Nat.ne_of_lt (Nat.lt_succ_self _))
 have I2 := Inv.made (C := C) I
 have r2 : Vals (V.ref (s.heap.objs.size + 1) :: (vs ++ dvs)) (Value.ref (s.heap.objs.size + 1) :: (us ++ ds)) := .cons rfl (r.append hd)
 have hl : (Value.ref (s.heap.objs.size + 1) :: us ++ ds).length = ps.length := by
   have e := r2.length
   rw [F.len _ _ _ _ hq] at e
   exact e.symm
 refine wpAny_call (G2j (f := f) I.kIn M.makes M.init (beq_iff_eq.mp M.fn) (codeAny_mono (F.run _ X.stack _ _ ⟨Value.ref (s.heap.objs.size + 1) :: us, []⟩ (Value.ref (s.heap.objs.size + 1) :: (us ++ ds)) _ _ E (hr.make C us [])
   (I2.env0.make C us []) (hb _ (Value.ref (s.heap.objs.size + 1) :: us) I2.kIn hl) r2 hq) fun r s' hq' => ?_))
 cases r with
 | error e => exact hx pins σ _ _ e s' I2 hq'
 | ok fl =>
   cases fl with
   | ret u =>
     obtain ⟨v, H', I3, rv, ev, q3⟩ := I2.after hq'
     subst ev
     exact ⟨rv, ⟨V.ref (s.heap.objs.size + 1), H', I3, rfl, q3⟩⟩
   | next => exact False.elim hq'
   | brk => exact False.elim hq'
   | cont => exact False.elim hq'
theorem D3u (M : Mk X.K C f) (F : FnOk X.prog X.w X.K X.mg X.base CX k f fd ps sp) (hr : Room (k + 1) X.A) (hg : Gl X x) (hm : X.mg x = some (.ref C)) (hb : Binds X.K fd ps ds) (hd : Vals dvs ds) (hx : G7m CX X E)
   (ha : PA X (e :: es) t) (hdb : (x == ("__debug__" : Str)) = false := by decide) (he : starEach (e :: es) X.env = (false, eval e X.env) :: starEach es X.env := by rfl) (hpl : (backTo pos (starEach es X.env)).any (·.1) = false := by rfl) :
   PE X (.Call (.Name x p) (e :: es) [] pos) (Z7v C sp dvs E t) := by
 intro pins s σ H Q I h
 refine wpAny_Call_Name_kw (A2x I hg hm ?_ hdb)
 refine PySem.W.callWith_K (h₀ := X.base) I.ok.mod.kin M.kp (thn (ha pos pins s σ H _ I h) fun us s1 ⟨vs, H1, I1, r, q⟩ => ⟨I1.kIn, ?_⟩) he hpl
 exact U8d M F hr hb hd hx I1 r q
end
section
variable {X : Cx} {CX : CXT} {k : Nat} {f C : Addr} {fd : FuncData} {ps ks : List Str} {sp : Sp} {E : XK} {x m : Str} {p pos apos kpos : Pos} {e o : Expr} {es : List Expr} {kws : List Keyword} {te ta : TE} {t tk : TA} {nm : Option Str}
structure KBinds (K : PySem.W.Frag) (fd : FuncData) (ps ks : List Str) (g : List Value -> List Value -> List Value) (gV : List V -> List V -> List V) : Prop where
 to : ∀ (s : Shared) (us ws : List Value), K.In s.heap -> (g us ws).length = ps.length -> BindsTo s fd ⟨us, ks.zip ws⟩ (ps.zip (g us ws))
 rel : ∀ {vs : List V} {us : List Value} {zs : List V} {ws : List Value}, Vals vs us -> Vals zs ws -> Vals (gV vs zs) (g us ws)
variable {g : List Value -> List Value -> List Value} {gV : List V -> List V -> List V}
end
structure FnScope (N P : List Str) (sc : Scope) : Prop where
 kind : sc.kind = .function
 co : sc.isCoroutine = false
 gen : sc.isGenerator = false
 nd : N.Nodup
 pre : N.take P.length = P
 par : ∀ x ∈ P, sc.names.lookup x = some .local \/ sc.names.lookup x = some .cell
 nofree : ∀ y ∈ sc.names, y.2 ≠ .free
theorem D0w {kindOf : Str -> Option NameKind} {x : Str} : ∀ {binds : List (Str × Value)} {m : Str -> Option Value}, (∀ v, (x, v) ∉ binds) -> bindL kindOf binds m x = m x
 | [], _, _ => rfl
 | (n, v) :: r, m, h => by
   unfold bindL
   rw [D0w fun w hw => h w (List.mem_cons_of_mem _ hw)]
   split
   . have : x ≠ n := by rintro rfl; exact h v List.mem_cons_self
     simp [this]
   . rfl
theorem D1j {kindOf : Str -> Option NameKind} {x : Str} : ∀ {binds : List (Str × Value)} {m : Str -> Option Value}, (∀ v, (x, v) ∉ binds) -> bindC kindOf binds m x = m x
 | [], _, _ => rfl
 | (n, v) :: r, m, h => by
   unfold bindC
   rw [D1j fun w hw => h w (List.mem_cons_of_mem _ hw)]
   split
   . rfl
   . have : x ≠ n := by rintro rfl; exact h v List.mem_cons_self
     simp [this]
theorem D1d {kindOf : Str -> Option NameKind} {x : Str} {v : Value} : ∀ {P : List Str} {vs : List Value} {i : Nat} {m : Str -> Option Value}, P.Nodup -> P[i]? = some x -> vs[i]? = some v -> kindOf x = some .local ->
   bindL kindOf (P.zip vs) m x = some v
 | [], _, _, _, _, h, _, _ => by simp at h
 | _ :: _, [], _, _, _, _, h, _ => by simp at h
 | p :: P, w :: vs, 0, m, nd, h1, h2, hk => by
   simp at h1 h2; subst h1; subst h2
   show bindL kindOf ((p, w) :: P.zip vs) m p = _
   unfold bindL
   rw [D0w fun v hv => (List.nodup_cons.mp nd).1 (List.of_mem_zip hv).1, if_pos hk]
   simp
 | p :: P, w :: vs, i + 1, m, nd, h1, h2, hk => by
   show bindL kindOf ((p, w) :: P.zip vs) m x = _
   unfold bindL
   exact D1d (i := i) (List.nodup_cons.mp nd).2 (by simpa using h1) (by simpa using h2) hk
theorem D0z {kindOf : Str -> Option NameKind} {x : Str} {v : Value} : ∀ {P : List Str} {vs : List Value} {i : Nat} {m : Str -> Option Value}, P.Nodup -> P[i]? = some x -> vs[i]? = some v -> kindOf x ≠ some .local ->
   bindC kindOf (P.zip vs) m x = some v
 | [], _, _, _, _, h, _, _ => by simp at h
 | _ :: _, [], _, _, _, _, h, _ => by simp at h
 | p :: P, w :: vs, 0, m, nd, h1, h2, hk => by
   simp at h1 h2; subst h1; subst h2
   show bindC kindOf ((p, w) :: P.zip vs) m p = _
   unfold bindC
   rw [D1j fun v hv => (List.nodup_cons.mp nd).1 (List.of_mem_zip hv).1, if_neg hk]
   simp
 | p :: P, w :: vs, i + 1, m, nd, h1, h2, hk => by
   show bindC kindOf ((p, w) :: P.zip vs) m x = _
   unfold bindC
   exact D0z (i := i) (List.nodup_cons.mp nd).2 (by simpa using h1) (by simpa using h2) hk
def B2g (N : List Str) (vs : List V) : St := vs.map some ++ List.replicate (N.length - vs.length) none
def Z9 (CX : CXT) (P : Program) (w : World) (K : PySem.W.Frag) (mg : Str -> Option Value) (base : Heap) (N : List Str) (qual : Str) (scope : Scope) (f : Addr) (cd : Value) (A : Around) (outer : List Env) (s : Shared) (H : Hp) (E : XK) : Cx where
 prog := P
 w := w
 K := K
 mg := mg
 base := base
 A := A.deeper (envOfC qual scope s.heap.objs.size f cd)
 N := N
 s₀ := s
 H₀ := H
 env := envOfC qual scope s.heap.objs.size f cd
 outer := outer
 stack := envOfC qual scope s.heap.objs.size f cd :: outer
 ex := []
 calm := true
 fn := fun _ => true
 pn := []
 xe := fun e s' => wpAny (model P w) (A.deeper (envOfC qual scope s.heap.objs.size f cd)) (leaving (envOfC qual scope s.heap.objs.size f cd) e) (fun _ s'' => CX outer H s E e s'') (fun e' s'' => CX outer H s E e' s'') s'
theorem G3k {sc : Scope} {n : Nat} {x : Str} (h : sc.names.lookup x = some .cell) : ∃ c, (cellsFrom n sc.names []).lookup x = some c := by
 have q := PySem.W.cellsFrom_some sc.names n [] (.inl h)
 exact Option.isSome_iff_exists.mp q
theorem U1h {CX : CXT} {P : Program} {w : World} {K : PySem.W.Frag} {mg : Str -> Option Value} {base : Heap} {N ps : List Str} {qual : Str} {scope : Scope} {f : Addr} {cd : Value} {A : Around} {outer : List Env} {s s1 : Shared} {H : Hp} {E : XK} {us : List Value} {vs : List V}
   (S : FnScope N ps scope) (hd : A.handled = none) (e0 : Env0 P w K mg base A outer s H) (hl : vs.length = ps.length) (r : Vals vs us)
   (x : InCallC s s.heap.objs.size (bindL (envOfC qual scope s.heap.objs.size f cd).kindOf (ps.zip us) fun _ => none) (cellsFrom (s.heap.objs.size + 1) scope.names []) (bindC (envOfC qual scope s.heap.objs.size f cd).kindOf (ps.zip us) fun _ => none) s1) :
   Inv (Z9 CX P w K mg base N qual scope f cd A outer s H E) [] (B2g N vs) H s1 := by
 have hpl : ps.length <= N.length := by have := congrArg List.length S.pre; rw [List.length_take] at this; omega
 obtain ⟨h1, tk, rfl, hk⟩ := x.done
 have noA : ∀ b : Addr, b ∉ (Z9 CX P w K mg base N qual scope f cd A outer s H E).ex := fun b z => absurd (show b ∈ ([] : List Addr) from z) (by simp)
 refine ⟨⟨e0.mod, S.kind, rfl, rfl, Nat.le_refl _, fun y z c h1 h2 => ?_, fun y hy => ?_, fun y c _ h => ?_, fun _ => hd, Around.frames_deeper e0.frames, .inr ⟨rfl, rfl⟩, fun b z => absurd z (noA b), e0.bs, e0.bsz, fun b _ _ => noA b, fun b z => absurd z (noA b), e0.funs, e0.frf⟩,
   rfl, e0.bare, Un.kept hk, ⟨_, x.toInCall.ns, fun i y v h1 h2 h3 => ?_⟩, fun y c h => ⟨_, x.cell y c h⟩, e0.hok.fresh (Nat.le_refl _), fun y c h => ?_, fun p hp => absurd (show p ∈ ([] : List (Addr × Obj)) from hp) (by simp), e0.hok.kept hk, ?_⟩
 . exact name_of_addr x.apart (PySem.mem_of_lookup h1) (PySem.mem_of_lookup h2)
 . have hy : scope.names.lookup y = some .cell \/ scope.names.lookup y = some .free := hy
   rcases hy with hy | hy
   . exact G3k hy
   . exact absurd rfl (S.nofree _ (PySem.mem_of_lookup hy))
 . exact Nat.le_of_lt (x.above y c (PySem.mem_of_lookup h))
 . have hi : i < vs.length := by
     unfold B2g at h2
     by_cases hi : i < vs.length
     . exact hi
     . rw [List.getElem?_append_right (by simpa using hi)] at h2
       rw [List.getElem?_replicate] at h2
       split at h2 <;> cases h2
   have ha : vs[i]? = some v := by
     unfold B2g at h2
     rw [List.getElem?_append_left (by simpa using hi), List.getElem?_map] at h2
     cases e : vs[i]? with
     | none => rw [e] at h2; cases h2
     | some a => rw [e] at h2; cases h2; rfl
   obtain ⟨u, hu, rv⟩ := r.get ha
   have hp : ps[i]? = some y := by
     rw [<- S.pre, List.getElem?_take_of_lt (by omega)]; exact h1
   have ndP : ps.Nodup := by rw [<- S.pre]; exact S.nd.sublist (List.take_sublist _ _)
   refine ⟨u, rv, ?_⟩
   rcases S.par y (List.mem_of_getElem? hp) with k | k
   . exact .inl ⟨k, D1d ndP hp hu k⟩
   . obtain ⟨c, e⟩ := G3k (n := s.heap.objs.size + 1) k
     refine .inr ⟨.inl k, c, e, ?_⟩
     have q := x.cell y c e
     rw [D0z ndP hp hu (by show scope.names.lookup y ≠ _; rw [k]; decide)] at q
     exact q
 . exact e0.hok.fresh (Nat.le_of_lt (x.above y c (PySem.mem_of_lookup h)))
 . unfold B2g
   show _ = N.length
   rw [List.length_append, List.length_map, List.length_replicate]
   omega
theorem U8k {CX : CXT} {P : Program} {w : World} {K : PySem.W.Frag} {mg : Str -> Option Value} {base : Heap} {k : Nat} {f : Addr} {name qual : Str} {params : Arguments} {body : List Stmt} {scope : Scope} {dV kV doc pm cdv ct oc : Value} {an od : Option Addr}
   {osl : Array (Option Value)} {N ps : List Str} {sp : Sp} (lk : K.lookup f = some ⟨oc, od, .func (PySem.W.fnOf name qual params body scope dV kV doc pm an cdv ct), osl⟩) (hcd : PySem.W.codeIn K cdv qual = true) (S : FnScope N ps scope)
   (len : ∀ vs H Q E, sp vs H Q E -> vs.length = ps.length)
   (hbody : ∀ (A : Around) (outer : List Env) (s : Shared) (H : Hp) (vs : List V) (Q : VK) (E : XK), Room k (A.deeper (envOfC qual scope s.heap.objs.size f cdv)) -> sp vs H Q E ->
     ∃ t, PSs (Z9 CX P w K mg base N qual scope f cdv A outer s H E) body t /\ t { nx := fun _ H' => Q .non H', rt := Q } (B2g N vs) H) :
   FnOk P w K mg base CX (k + 1) f (PySem.W.fnOf name qual params body scope dV kV doc pm an cdv ct) ps sp := by
 refine ⟨len, fun A outer s H args us vs Q E hr e0 hb r hsp => ?_⟩
 have hl := len _ _ _ _ hsp
 have KX : K.In s.heap := e0.mod.kin.keeps fun b o e => (e0.bs b o e).1
 have lim : s.heap.NoLimit := e0.mod.nolimit.keeps fun b o e => (e0.bs b o e).1
 have hkind : ∀ y ∈ ps.zip us, scope.names.lookup y.1 = some .local \/ (scope.names.lookup y.1 = some .cell /\ ((cellsFrom (s.heap.objs.size + 1) scope.names []).lookup y.1).isSome = true) := fun ⟨n, v⟩ hy => by
   rcases S.par n (List.of_mem_zip hy).1 with q | q
   . exact .inl q
   . exact .inr ⟨q, PySem.W.cellsFrom_some _ _ _ (.inl q)⟩
 refine codeAny_call_function hr.depth (KX _ _ lk) rfl S.co S.gen rfl (PySem.W.codeRec_of KX hcd) (hb _ _ _ _ ?_)
 refine wpAny_newFunctionEnv_cells S.kind hkind fun env he s1 x => ?_
 subst he
 refine ⟨lim.keeps x.toInCall.keep, codeAny_func ?_⟩
 obtain ⟨t, ht, hq⟩ := hbody A outer s H vs Q E (hr.deeper _) hsp
 have I : Inv (Z9 CX P w K mg base N qual scope f cdv A outer s H E) [] (B2g N vs) H s1 := U1h S hr.hd e0 hl r x
 refine wpAny_mono (ht [] s1 (B2g N vs) H _ I hq) (fun fl s' hs => ?_) fun e s' hs => hs
 have fin : ∀ {σ' : St} {H' : Hp} {v : V} {u : Value}, Inv (Z9 CX P w K mg base N qual scope f cdv A outer s H E) [] σ' H' s' -> RelV v u -> Q v H' -> CE outer P w H s Q u s' :=
   fun {σ' H' v u} J rv q => ⟨v, H', J.os, J.bare, J.base, J.hok, rv, q⟩
 cases fl with
 | ret u =>
   obtain ⟨v, σ', H', J, rv, q⟩ := hs
   exact fin J rv q
 | next =>
   obtain ⟨σ', H', J, q⟩ := hs
   exact fin (v := V.non) (u := Value.none) J rfl q
 | brk =>
   obtain ⟨_, _, _, q⟩ := hs
   exact False.elim q
 | cont =>
   obtain ⟨_, _, _, q⟩ := hs
   exact False.elim q
section
variable {X : Cx} {x : Str} {p pos : Pos} {e : Expr} {es : List Expr} {t : TA} {id T : String} {r : List V -> Hp -> VK -> Prop}
def tCB (r : List V -> Hp -> VK -> Prop) (t : TA) : TE := fun σ H Q => t σ H fun vs H1 => r vs H1 Q
theorem J7 (hc : A7t X (.builtin id) r) (hg : Gl X x) (hm : X.mg x = none) (hv : bootBuiltins x = some (.builtin id)) (ha : PA X (e :: es) t) (hn : x ≠ "__name__" := by decide) (hdb : (x == ("__debug__" : Str)) = false := by decide)
   (he : starEach (e :: es) X.env = (false, eval e X.env) :: starEach es X.env := by rfl) (hpl : (backTo pos (starEach es X.env)).any (·.1) = false := by rfl) : PE X (.Call (.Name x p) (e :: es) [] pos) (tCB r t) := by
 intro pins s σ H Q I h
 refine wpAny_Call_Name_kw (G8f I hg hm hv ?_ hn hdb)
 exact PyProof.Rows.callWith_builtin1 (thn (ha pos pins s σ H _ I h) fun us s1 ⟨vs, H1, I1, r1, q1⟩ => hc pins s1 σ H1 vs us Q I1 r1 q1) he hpl
theorem A3y (hc : A7t X (.type T) r) (hg : Gl X x) (hm : X.mg x = none) (hv : bootBuiltins x = some (.type T)) (ha : PA X (e :: es) t) (hn : x ≠ "__name__" := by decide) (hdb : (x == ("__debug__" : Str)) = false := by decide)
   (he : starEach (e :: es) X.env = (false, eval e X.env) :: starEach es X.env := by rfl) (hpl : (backTo pos (starEach es X.env)).any (·.1) = false := by rfl) : PE X (.Call (.Name x p) (e :: es) [] pos) (tCB r t) := by
 intro pins s σ H Q I h
 refine wpAny_Call_Name_kw (G8f I hg hm hv ?_ hn hdb)
 exact PyProof.Rows.callWith_type1 (thn (ha pos pins s σ H _ I h) fun us s1 ⟨vs, H1, I1, r1, q1⟩ => hc pins s1 σ H1 vs us Q I1 r1 q1) he hpl
end
end L2
namespace HT
open PySem PyProof.Rows
section
open PySem.SeqAt
open PySem.AutoSeq1 (wpAny_loadPart')
open PySem.MeetsSeq PySem.MeetsSeq2 PySem.MeetsSeq3
end
section
variable {prog : Program} {w : World} {A : Around} {E : Value -> Shared -> Prop} {s : Shared}
end
end HT
namespace L2
open PySem PySem.Spec PyProof.Rows
section
variable {X : Cx} {e : Expr} {te : TE} {lo hi : Option Expr} {tl th : TO} {pos p2 : Pos}
end
def ixN (n : Nat) (i : Int) : Option Nat := if 0 <= i then (if i < n then some i.toNat else none) else if -(n : Int) <= i then some (i + n).toNat else none
def atI {α : Type} (xs : List α) (i : Int) : Option α := (ixN xs.length i).bind fun j => xs[j]?
theorem Y5c {n : Nat} {i : Int} {j : Nat} (h : ixN n i = some j) : seqIndex? i n = some j /\ j < n /\ -(n : Int) <= i /\ i < n := by
 unfold ixN at h
 by_cases h0 : 0 <= i
 . rw [if_pos h0] at h
   by_cases h1 : i < n
   . rw [if_pos h1] at h
     have e : i.toNat = j := Option.some.inj h
     exact ⟨by rw [seqIndex_of h0 h1, e], by omega, by omega, h1⟩
   . rw [if_neg h1] at h; cases h
 . rw [if_neg h0] at h
   by_cases h1 : -(n : Int) <= i
   . rw [if_pos h1] at h
     have e : (i + n).toNat = j := Option.some.inj h
     exact ⟨by rw [seqIndex_neg (by omega) h1, e], by omega, h1, by omega⟩
   . rw [if_neg h1] at h; cases h
theorem J8e {α : Type} {xs : List α} {i : Int} {v : α} (h : atI xs i = some v) : ∃ j, seqIndex? i xs.length = some j /\ xs[j]? = some v /\ j < xs.length /\ -(xs.length : Int) <= i /\ i < xs.length := by
 unfold atI at h
 cases e : ixN xs.length i with
 | none => rw [e] at h; cases h
 | some j =>
   rw [e] at h
   obtain ⟨h1, h2, h3, h4⟩ := Y5c e
   exact ⟨j, h1, h, h2, h3, h4⟩
theorem D4 {α : Type} {xs : List α} {j : Nat} {v : α} (h : xs[j]? = some v) : atI xs (j : Int) = some v := by
 have hj : j < xs.length := (List.getElem?_eq_some_iff.mp h).1
 have e : ixN xs.length (j : Int) = some j := by
   unfold ixN
   rw [if_pos (by omega), if_pos (by omega)]; simp
 unfold atI; rw [e]; exact h
def Y4p (b : Expr) : Prop := ∀ o i, subscripted b false o i = operate [o, i] (getItem o i)
def IxR (X : Cx) (r : R2) : Prop :=
 ∀ (value slice : Expr) (pins : List (Addr × Obj)) (s : Shared) (σ : St) (H : Hp) (x y : V) (v u : Value) (Q : VK), Inv X pins σ H s -> RelV x v -> RelV y u -> r x y H Q ->
   subscripted slice false v u = operate [v, u] (getItem v u) -> wpAny (model X.prog X.w) X.A (subscriptTail value slice v u) (EP X pins σ Q) X.xe s
def MtR (X : Cx) (id : String) (r : V -> List V -> Hp -> VK -> Prop) : Prop :=
 ∀ (pins : List (Addr × Obj)) (s : Shared) (σ : St) (H : Hp) (x : V) (xs : List V) (v : Value) (us : List Value) (Q : VK), Inv X pins σ H s -> RelV x v -> Vals xs us -> r x xs H Q ->
   wpAny (model X.prog X.w) X.A (call (.builtin id) (v :: us)) (EP X pins σ Q) X.xe s
section
variable {X : Cx} {a b : Expr} {ta tb : TE} {pos : Pos}
theorem G7 {r : R2} (hr : IxR X r) (ha : PE X a ta) (hb : PE X b tb) (hs : Y4p b) : PE X (.Subscript a b pos) (tOp r ta tb) := by
 intro pins s σ H Q I h
 exact Subscript_ (Z1g ha hb I h fun v u s2 x y H2 I2 rx ry q => hr a b pins s2 σ H2 x y v u Q I2 rx ry q (hs _ _))
def rIxL (K : PySem.W.Frag) : R2 := fun x y H Q => ∃ p xs i v, x = .ref p /\ y = .int i /\ SqL K H p xs /\ atI xs i = some v /\ Q v H
def rIxT (K : PySem.W.Frag) : R2 := fun x y H Q => ∃ p xs i v, x = .ref p /\ y = .int i /\ SqT K H p xs /\ atI xs i = some v /\ Q v H
theorem C0v : IxR X (rIxL X.K) := by
 intro value slice pins s σ H x y v u Q I rx ry h hs
 obtain ⟨p, xs, i, z, rfl, rfl, hq, he, q⟩ := h
 cases rx
 obtain ⟨t, rfl⟩ := ry
 obtain ⟨its, r, pl, hz⟩ := I.list hq
 obtain ⟨j, h1, h2, h3, h4, h5⟩ := J8e he
 obtain ⟨w, ew, rw'⟩ := r.get h2
 have hl := r.length
 have hn := D3d
 have fin : EP X pins σ Q w s := ⟨z, H, I, rw', q⟩
 by_cases h0 : 0 <= i
 . have hj : i.toNat = j := by
     rw [seqIndex_of h0 h5] at h1
     exact Option.some.inj h1
   exact item_listR pl.isList h0 (by omega) (by rw [hj]; simpa using ew) fin hs
 . have hj : (i + (its.toArray.size : Int)).toNat = j := by
     rw [seqIndex_neg (by omega) h4] at h1
     rw [List.size_toArray, <- hl]
     exact Option.some.inj h1
   exact subscriptTail_builtinR (x := w) pl.isList.typeIs slot_list_getitem.lookup
     (wpAny_getItem_list_neg (Q := fun r s' => r = w /\ EP X pins σ Q r s') pl.isList (by omega) (by rw [List.size_toArray] <;> omega) (by omega) (by rw [hj]; simpa using ew) ⟨rfl, fin⟩) hs
theorem G0 : IxR X (rIxT X.K) := by
 intro value slice pins s σ H x y v u Q I rx ry h hs
 obtain ⟨p, xs, i, z, rfl, rfl, hq, he, q⟩ := h
 cases rx
 obtain ⟨t, rfl⟩ := ry
 obtain ⟨its, r, pl, hz⟩ := I.tuple hq
 obtain ⟨j, h1, h2, h3, h4, h5⟩ := J8e he
 obtain ⟨w, ew, rw'⟩ := r.get h2
 have hl := r.length
 have hn := D3d
 have fin : EP X pins σ Q w s := ⟨z, H, I, rw', q⟩
 exact subscriptTail_builtinR (x := w) pl.typeIs slot_tuple_getitem.lookup
   (getItem_tuple (j := j) (Q := fun r s' => r = w /\ EP X pins σ Q r s') pl (by omega) (by omega) (by rw [List.size_toArray, <- hl]; exact h1) (by simpa using ew) ⟨rfl, fin⟩) hs
def B5b : V -> Bool
 | .non => true
 | .bl _ => true
 | .int _ => true
 | .str _ => true
 | _ => false
def eqV : V -> V -> Bool
 | .non, .non => true
 | .bl a, .bl b => a == b
 | .bl a, .int b => (if a then 1 else 0) == b
 | .int a, .bl b => a == (if b then 1 else 0)
 | .int a, .int b => a == b
 | .str a, .str b => a == b
 | _, _ => false
theorem Z2e {A : Around} {s : Shared} {y x : V} {u v : Value} (ry : RelV y u) (rx : RelV x v) (fy : B5b y = true) (fx : B5b x = true) : SeqAt.EqAt A s u v (eqV y x) := by
 cases y with
 | non =>
   cases ry
   cases x with
   | non => cases rx; exact SeqAt.EqAt.same _
   | bl b => cases rx; exact SeqAt.EqAt.none_bool b
   | int b => obtain ⟨t, rfl⟩ := rx; exact SeqAt.EqAt.none_int b t
   | str b => obtain ⟨t, rfl⟩ := rx; exact SeqAt.EqAt.none_str b t
   | _ => exact absurd (show false = true from fx) Bool.false_ne_true
 | bl a =>
   cases ry
   cases x with
   | non => cases rx; exact SeqAt.EqAt.bool_none a
   | bl b => cases rx; exact SeqAt.EqAt.bool_bool a b
   | int b => obtain ⟨t, rfl⟩ := rx; exact SeqAt.EqAt.bool_int a b t
   | str b => obtain ⟨t, rfl⟩ := rx; exact SeqAt.EqAt.bool_str a b t
   | _ => exact absurd (show false = true from fx) Bool.false_ne_true
 | int a =>
   obtain ⟨t', rfl⟩ := ry
   cases x with
   | non => cases rx; exact SeqAt.EqAt.int_none a t'
   | bl b => cases rx; exact SeqAt.EqAt.int_bool a t' b
   | int b => obtain ⟨t, rfl⟩ := rx; exact SeqAt.EqAt.int_int a t' b t
   | str b => obtain ⟨t, rfl⟩ := rx; exact SeqAt.EqAt.int_str a t' b t
   | _ => exact absurd (show false = true from fx) Bool.false_ne_true
 | str a =>
   obtain ⟨t', rfl⟩ := ry
   cases x with
   | non => cases rx; exact SeqAt.EqAt.str_none a t'
   | bl b => cases rx; exact SeqAt.EqAt.str_bool a t' b
   | int b => obtain ⟨t, rfl⟩ := rx; exact SeqAt.EqAt.str_int a t' b t
   | str b => obtain ⟨t, rfl⟩ := rx; exact SeqAt.EqAt.str_str a t' b t
   | _ => exact absurd (show false = true from fx) Bool.false_ne_true
 | _ => exact absurd (show false = true from fy) Bool.false_ne_true
def eqU (x : V) (u : Value) : Bool := match u with
 | .none => eqV .non x
 | .bool b => eqV (.bl b) x
 | .int i _ => eqV (.int i) x
 | .str z _ => eqV (.str z) x
 | _ => false
theorem V1h {x y : V} {u : Value} (r : RelV y u) (f : B5b y = true) : eqU x u = eqV y x := by
 cases y with
 | non => cases r; rfl
 | bl b => cases r; rfl
 | int i => obtain ⟨t, rfl⟩ := r; rfl
 | str z => obtain ⟨t, rfl⟩ := r; rfl
 | _ => exact absurd (show false = true from f) Bool.false_ne_true
theorem B4w {x : V} : ∀ {xs : List V} {us : List Value}, Vals xs us -> xs.all B5b = true -> us.any (eqU x) = xs.any fun y => eqV y x
 | _, _, .nil, _ => rfl
 | y :: xs, u :: us, .cons r t, f => by
   rw [List.all_cons, Bool.and_eq_true] at f
   rw [List.any_cons, List.any_cons, V1h r f.1, B4w t f.2]
theorem A8d {A : Around} {s : Shared} {x : V} {v : Value} (rx : RelV x v) (fx : B5b x = true) : ∀ {xs : List V} {us : List Value}, Vals xs us -> xs.all B5b = true -> ∀ u ∈ us, SeqAt.EqAt A s u v (eqU x u)
 | _, _, .nil, _ => fun u hu => by cases hu
 | y :: xs, u :: us, .cons r t, f => fun u' hu => by
   rw [List.all_cons, Bool.and_eq_true] at f
   rcases List.mem_cons.mp hu with rfl | hu
   . rw [V1h r f.1]; exact Z2e r rx f.1 fx
   . exact A8d rx fx t f.2 u' hu
def inV (x : V) (xs : List V) : Bool := xs.any fun y => eqV y x
def rIn (K : PySem.W.Frag) (neg : Bool) : R2 := fun x y H Q => ∃ p xs, y = .ref p /\ (SqL K H p xs \/ SqT K H p xs) /\ B5b x = true /\ xs.all B5b = true /\ Q (.bl (if neg then !inV x xs else inV x xs)) H
theorem B6f : OpR X (compareOp .In) (rIn X.K false) := by
 intro pins s σ H x y v u Q I rx ry h
 obtain ⟨p, xs, rfl, hq, fx, fs, q⟩ := h
 cases ry
 rcases hq with hq | hq
 . obtain ⟨its, r, pl, hz⟩ := I.list hq
   refine SeqAt.in_listAt (eqU x) pl.isList (fun w hw => A8d rx fx r fs w (by simpa using hw)) ⟨.bl _, H, I, rfl, ?_⟩
   rw [show its.toArray.any (eqU x) = its.any (eqU x) by simp, B4w r fs]
   exact q
 . obtain ⟨its, r, pl, hz⟩ := I.tuple hq
   refine SeqAt.in_tupleAt (eqU x) pl (fun w hw => A8d rx fx r fs w (by simpa using hw)) ⟨.bl _, H, I, rfl, ?_⟩
   rw [show its.toArray.any (eqU x) = its.any (eqU x) by simp, B4w r fs]
   exact q
theorem D3k : OpR X (compareOp .NotIn) (rIn X.K true) := by
 intro pins s σ H x y v u Q I rx ry h
 obtain ⟨p, xs, rfl, hq, fx, fs, q⟩ := h
 cases ry
 rcases hq with hq | hq
 . obtain ⟨its, r, pl, hz⟩ := I.list hq
   refine SeqAt.notIn_listAt (eqU x) pl.isList (fun w hw => A8d rx fx r fs w (by simpa using hw)) ⟨.bl _, H, I, rfl, ?_⟩
   rw [show its.toArray.any (eqU x) = its.any (eqU x) by simp, B4w r fs]
   exact q
 . obtain ⟨its, r, pl, hz⟩ := I.tuple hq
   refine SeqAt.notIn_tupleAt (eqU x) pl (fun w hw => A8d rx fx r fs w (by simpa using hw)) ⟨.bl _, H, I, rfl, ?_⟩
   rw [show its.toArray.any (eqU x) = its.any (eqU x) by simp, B4w r fs]
   exact q
theorem D2q : A7t X (.builtin "len") (fun xs H Q => ∃ p ys, xs = [.ref p] /\ (SqL X.K H p ys \/ SqT X.K H p ys) /\ Q (.int ys.length) H) := by
 intro pins s σ H xs us Q I r h
 obtain ⟨p, ys, rfl, hq, q⟩ := h
 obtain ⟨u, rfl, rx⟩ := C1t r
 cases rx
 have hn := D3d
 rcases hq with hq | hq
 . obtain ⟨its, r', pl, hz⟩ := I.list hq
   have hlen := r'.length
   exact Calls.call_len_list pl.isList (by simp only [List.size_toArray] <;> omega) ⟨.int ys.length, H, I.tok _, ⟨s.toks + 1, by rw [List.size_toArray, hlen]⟩, q⟩
 . obtain ⟨its, r', pl, hz⟩ := I.tuple hq
   have hlen := r'.length
   exact len_tuple pl (by simp only [List.size_toArray] <;> omega) ⟨.int ys.length, H, I.tok _, ⟨s.toks + 1, by rw [List.size_toArray, hlen]⟩, q⟩
theorem D2v : A7t X (.builtin "len") (fun xs H Q => ∃ z, xs = [.str z] /\ z.length <= sizeLine /\ Q (.int z.length) H) := by
 intro pins s σ H xs us Q I r h
 obtain ⟨z, rfl, hz, q⟩ := h
 obtain ⟨u, rfl, t, rfl⟩ := C1t r
 have hn := D3d
 exact len_str (by omega) ⟨.int z.length, H, I.tok _, ⟨_, rfl⟩, q⟩
theorem D3b : A7t X (.type "list") (fun xs H Q => ∃ p ys, xs = [.ref p] /\ (SqL X.K H p ys \/ SqT X.K H p ys) /\ ∀ l, H l = none -> Q (.ref l) (upd H l (.lst ys))) := by
 intro pins s σ H xs us Q I r h
 obtain ⟨p, ys, rfl, hq, q⟩ := h
 obtain ⟨u, rfl, rx⟩ := C1t r
 cases rx
 have fin : ∀ (its : List Value), Vals ys its -> ys.length <= sizeLine -> ∀ (h' : Heap) (c' : Nat), (∀ b o', s.heap.get? b = some o' -> h'.get? b = some o') ->
     h'.get? s.heap.objs.size = some { cls := .type "list", dict := none, data := .seq its.toArray c', slots := #[] } -> EP X pins σ Q (.ref s.heap.objs.size) { s with heap := h' } := fun its r' hz h' c' kp e =>
   ⟨.ref s.heap.objs.size, _, I.laid (t' := s.toks) kp (Nat.le_refl _) (show ObjOk X.prog X.w _ h' _ (.lst ys) from ⟨hz, its, c', r', e⟩), rfl, q _ (I.hok.fresh (Nat.le_refl _))⟩
 rcases hq with hq | hq
 . obtain ⟨its, r', pl, hz⟩ := I.list hq
   have hlen := r'.length
   obtain ⟨o, ho, hc, n, hd⟩ := pl.isList
   exact call_list_seq p (.inl rfl) ho hc hd (fun h' c' kp e => fin its r' hz h' c' kp e) (by simp only [List.size_toArray] <;> omega)
 . obtain ⟨its, r', pl, hz⟩ := I.tuple hq
   have hlen := r'.length
   obtain ⟨o, ho, hc, n, hd⟩ := pl
   exact call_list_seq p (.inr rfl) ho hc hd (fun h' c' kp e => fin its r' hz h' c' kp e) (by simp only [List.size_toArray] <;> omega)
def tyV (K : PySem.W.Frag) (T : String) (x : V) (H : Hp) : Prop := match x with
 | .str _ => T = "str"
 | .int _ => T = "int"
 | .ref p => (T = "list" /\ ∃ xs, SqL K H p xs) \/ (T = "tuple" /\ ∃ o, K.lookup p = some o /\ o.cls = .type "tuple" /\ o.dict = none) \/
     (T = "dict" /\ ((∃ kvs, H p = some (.dK kvs)) \/ ∃ kvs, H p = some (.dT kvs))) \/ (T = "set" /\ ∃ S n, H p = some (.set S n))
 | _ => False
theorem U8a {pins : List (Addr × Obj)} {σ : St} {H : Hp} {s : Shared} {T : String} {x : V} {v : Value} (I : Inv X pins σ H s) (r : RelV x v) (ty : tyV X.K T x H) :
   s.TypeIs v T /\ ∀ a, v = .ref a -> ∃ ob, s.heap.get? a = some ob /\ ob.dict = none := by
 cases x with
 | str z =>
   obtain ⟨t, rfl⟩ := r
   cases (show T = "str" from ty)
   exact ⟨typeIs_str s z t, fun _ e => nomatch e⟩
 | int i =>
   obtain ⟨t, rfl⟩ := r
   cases (show T = "int" from ty)
   exact ⟨typeIs_int s i t, fun _ e => nomatch e⟩
 | ref p =>
   cases r
   rcases ty with ⟨rfl, xs, hq⟩ | ⟨rfl, o, hk, hc, hd⟩ | ⟨rfl, hk⟩ | ⟨rfl, S, n, hk⟩
   . obtain ⟨its, _, pl, _⟩ := I.list hq
     refine ⟨pl.isList.typeIs, fun a e => ?_⟩
     cases e
     obtain ⟨o, n, e, c, hd, _⟩ := pl
     exact ⟨o, e, hd⟩
   . refine ⟨⟨o, I.kIn p o hk, hc⟩, fun a e => ?_⟩
     cases e
     exact ⟨o, I.kIn _ o hk, hd⟩
   . have z : ∃ o, s.heap.get? p = some o /\ o.ExactDict := by
       rcases hk with ⟨kvs, hk⟩ | ⟨kvs, hk⟩
       . obtain ⟨_, _, _, _, o, _, _, e, ex, _⟩ := I.hok p _ hk
         exact ⟨o, e, ex⟩
       . obtain ⟨_, _, _, _, o, _, _, e, ex, _⟩ := I.hok p _ hk
         exact ⟨o, e, ex⟩
     obtain ⟨o, e, ex⟩ := z
     refine ⟨⟨o, e, ex.1⟩, fun a e2 => ?_⟩
     cases e2
     exact ⟨o, e, ex.2.1⟩
   . obtain ⟨o, _, _, _, e, ex, _⟩ := I.hok p _ hk
     refine ⟨⟨o, e, ex.1⟩, fun a e2 => ?_⟩
     cases e2
     exact ⟨o, e, ex.2.1⟩
 | _ => exact False.elim ty
def tBM0 (K : PySem.W.Frag) (T : String) (r : V -> List V -> Hp -> VK -> Prop) (to : TE) : TE := fun σ H Q => to σ H fun x H1 => tyV K T x H1 /\ r x [] H1 Q
def tBM (K : PySem.W.Frag) (T : String) (r : V -> List V -> Hp -> VK -> Prop) (to : TE) (t : TA) : TE := fun σ H Q => to σ H fun x H1 => tyV K T x H1 /\ t σ H1 fun xs H2 => r x xs H2 Q
variable {o e : Expr} {es : List Expr} {to : TE} {t : TA} {name : Str} {apos cpos : Pos} {T id : String} {r : V -> List V -> Hp -> VK -> Prop}
theorem Z3a (pa : PlainAttrs T) (slot : Slot T name id) (hty : typeOf (.builtin id) = pure (.type "method_descriptor")) (hm : MtR X id r) (ho : PE X o to)
   (hbase : attributeBase o name X.env (eval o X.env) = eval o X.env := by rfl) (hline : (apos.endLine == cpos.line) = true := by rfl) : PE X (.Call (.Attribute o name apos) [] [] cpos) (tBM0 X.K T r to) := by
 intro pins s σ H Q I h
 refine wpAny_Call_method0_late hbase hline (thn (ho pins s σ H _ I h) fun v s1 ⟨x, H1, I1, r1, ty, q1⟩ => ?_)
 obtain ⟨h1, h2⟩ := U8a I1 r1 ty
 exact ⟨T, id, pa, slot, hty, h1, h2, Calls.callWith_builtin rfl (PySem.evalArgs_none (hm pins s1 σ H1 x [] v [] Q I1 r1 .nil q1))⟩
theorem Z8h (pa : PlainAttrs T) (slot : Slot T name id) (hty : typeOf (.builtin id) = pure (.type "method_descriptor")) (hm : MtR X id r) (ho : PE X o to) (ha : PA X (e :: es) t)
   (hbase : attributeBase o name X.env (eval o X.env) = eval o X.env := by rfl)
   (hfew : ((backTo cpos (starEach (e :: es) X.env)).all (fun x => !x.1) && (backToKw cpos (keywordEach [] X.env)).all (fun x => x.1.isSome)
     && decide ((e :: es).length + ([] : List Keyword).length + (if ([] : List Keyword).isEmpty then 0 else 1) < 30)) = true := by rfl)
   (hline : (apos.endLine == cpos.line) = true := by rfl) (hs : starEach (e :: es) X.env = (false, eval e X.env) :: starEach es X.env := by rfl) (hplain : (backTo cpos (starEach es X.env)).any (·.1) = false := by rfl) :
   PE X (.Call (.Attribute o name apos) (e :: es) [] cpos) (tBM X.K T r to t) := by
 intro pins s σ H Q I h
 refine wpAny_Call_method_late hbase hfew hline rfl (thn (ho pins s σ H _ I h) fun v s1 ⟨x, H1, I1, r1, ty, q1⟩ => ?_)
 obtain ⟨h1, h2⟩ := U8a I1 r1 ty
 refine ⟨T, id, pa, slot, hty, h1, h2, ?_⟩
 have hA := ha cpos pins s1 σ H1 _ I1 q1
 rw [hs] at hA ⊢
 refine Calls.callWith_builtin (by show (false || (backTo cpos (starEach es X.env)).any (·.1)) = false; rw [hplain] <;> rfl) (Calls.evalArgs_plain ?_)
 exact thn hA fun us s2 ⟨vs, H2, I2, r2, q2⟩ => hm pins s2 σ H2 x vs v us Q I2 r1 r2 q2
end
def MtM (X : Cx) (id : String) (r : V -> List V -> Hp -> VK -> Prop) : Prop :=
 ∀ (pins : List (Addr × Obj)) (s : Shared) (σ : St) (H : Hp) (x : V) (xs : List V) (v : Value) (us : List Value) (Q : VK), Inv X pins σ H s -> RelV x v -> Vals xs us -> r x xs H Q ->
   wpAny (model X.prog X.w) X.A (call (.builtin id) (v :: us)) (EP X pins σ Q) X.xe s
theorem Vals.one : ∀ {x : V} {us : List Value}, Vals [x] us -> ∃ u, us = [u] /\ RelV x u
 | _, _, .cons r .nil => ⟨_, rfl, r⟩
theorem Vals.two : ∀ {x y : V} {us : List Value}, Vals [x, y] us -> ∃ u v, us = [u, v] /\ RelV x u /\ RelV y v
 | _, _, _, .cons r (.cons q .nil) => ⟨_, _, rfl, r, q⟩
section
variable {X : Cx} {pins : List (Addr × Obj)} {σ : St} {H : Hp} {s : Shared} {l b : Addr} {xs ys zs : List V}
theorem Inv.lset {its its' : List Value} {n : Nat} {f : Array Value -> Array Value} {t' : Nat} (I : Inv X pins σ H s) (hH : H l = some (.lst xs))
   (e : s.heap.get? l = some { cls := .type "list", data := .seq its.toArray n }) (hf : f its.toArray = its'.toArray) (hv : Vals ys its') (hz : ys.length <= sizeLine) :
   Inv X pins σ (upd H l (.lst ys)) { s with heap := s.heap.update l (Obj.mapSeq f), toks := t' } := by
 have q := PySem.IsL.update e f
 rw [hf] at q
 refine I.write (x := l) (e := l) (by rw [hH]; exact trivial) (.inl rfl) (fun b' u hb hu => (Heap.get?_update_other s.heap (Obj.mapSeq f) (Ne.symm hb)).trans hu) ⟨_, q⟩ ?_
 exact ⟨hz, its', _, hv, q⟩
theorem Inv.lnew {its : List Value} {t' : Nat} (I : Inv X pins σ H s) (hv : Vals ys its) (hz : ys.length <= sizeLine) :
   Inv X pins σ (upd H s.heap.objs.size (.lst ys)) { s with heap := s.heap.push { cls := .type "list", data := .seq its.toArray }, toks := t' } :=
 I.laid (fun _ _ q => Heap.get?_push_of_some _ q) (Nat.le_refl _) ⟨hz, its, 0, hv, Heap.get?_push_size _ rfl⟩
theorem Inv.fresh (I : Inv X pins σ H s) : H s.heap.objs.size = none := I.hok.fresh (Nat.le_refl _)
theorem Inv.lstM (I : Inv X pins σ H s) (hH : H l = some (.lst xs)) : xs.length <= sizeLine /\ ∃ (its : List Value) (n : Nat), Vals xs its /\ xs.length = its.length /\ s.heap.get? l = some { cls := .type "list", data := .seq its.toArray n } := by
 obtain ⟨z, its, n, r, e⟩ := I.hok l _ hH
 exact ⟨z, its, n, r, r.length, e⟩
end
section
variable {X : Cx}
def Y7q : V -> List V -> Hp -> VK -> Prop := fun x vs H Q => ∃ l xs y, x = .ref l /\ vs = [y] /\ H l = some (.lst xs) /\ xs.length < sizeLine /\ Q .non (upd H l (.lst (xs ++ [y])))
theorem B6h : MtM X "list.append" Y7q := by
 intro pins s σ H x vs v us Q I rx rv h
 obtain ⟨l, xs, y, rfl, rfl, hH, hz, q⟩ := h
 cases rx
 obtain ⟨u, rfl, ru⟩ := rv.one
 obtain ⟨z, its, n, r, hl, e⟩ := I.lstM hH
 refine call_meets F.slot_list_append ⟨_, e, rfl⟩ F.entry_list_append (F.args_list_append_2 _ _) (PySem.list_append l its.toArray n u (by rw [List.size_toArray]; omega)) ⟨e, ?_⟩
 refine ⟨.non, _, I.lset (its' := its ++ [u]) hH e (by simp) (r.append (.cons ru .nil)) ?_, rfl, q⟩
 rw [List.length_append, List.length_singleton]
 omega
def rCat : R2 := fun x y H Q => ∃ l b xs zs, x = .ref l /\ y = .ref b /\ H l = some (.lst xs) /\ H b = some (.lst zs) /\ xs.length + zs.length <= sizeLine /\ ∀ p, H p = none -> Q (.ref p) (upd H p (.lst (xs ++ zs)))
theorem U8u : OpR X (binaryOp .Add) rCat := by
 intro pins s σ H x y v u Q I rx ry h
 obtain ⟨l, b, xs, zs, rfl, rfl, hH, hB, hz, q⟩ := h
 cases rx
 cases ry
 obtain ⟨z, its, n, r, hl, e⟩ := I.lstM hH
 obtain ⟨z2, its2, n2, r2, hl2, e2⟩ := I.lstM hB
 refine PySem.P.add_list e e2 ?_ (by rw [List.size_toArray, List.size_toArray]; omega)
 have ea : its.toArray ++ its2.toArray = (its ++ its2).toArray := by simp
 rw [ea]
 exact ⟨.ref _, _, I.lnew (t' := s.toks) (r.append r2) (by rw [List.length_append]; omega), rfl, q _ I.fresh⟩
theorem Y5z {α : Type} (xs : List α) (k : Nat) : (List.replicate k xs).flatten.length = k * xs.length := by
 induction k with
 | zero => simp
 | succ k ih => rw [List.replicate_succ, List.flatten_cons, List.length_append, ih, Nat.succ_mul, Nat.add_comm]
end
section
variable {prog : Program} {w : World} {A : Around} {E : Value -> Shared -> Prop} {s : Shared}
end
section
variable {X : Cx}
end
end L2
namespace Att
open PySem PySem.W PySem.Calls PyProof.Rows
theorem C0r {P : Params} {h : Heap} : ∀ (ns : List Int) (vs : List Value), WellAll P h vs (ns.map WData.int) -> IntsAre vs ns := by
 intro ns
 induction ns with
 | nil =>
   intro vs w
   rw [List.map_nil] at w
   cases w
   exact .nil
 | cons n ns ih =>
   intro vs w
   rw [List.map_cons] at w
   cases w with
   | cons a b =>
     cases a
     exact .cons _ _ (ih _ b)
theorem U2m {l : OpenLaw} {n : Nat} (hn : l.most = some n) {P : Params} {h : Heap} {args : List WData} {vals : List Value}
   (hpre : l.row.toRowW.claim.pre args = true) (hwl : WellAll P h vals args) :
   ∃ a vs ns, vals = [Value.ref a] /\ args = [WData.list (ns.map WData.int)] /\ h.get? a = some { cls := .type "list", data := .seq vs.toArray } /\ IntsAre vs ns /\ ns.length <= n := by
 have hsh : WShape.hasAll [] args [.list .int] = true := (pre_splitW hpre).1
 have hc : l.pre.holds [] { args := args } = true := (pre_splitW hpre).2
 obtain ⟨d, r, rfl, h1, h2⟩ := hasAllW_cons hsh
 obtain rfl := hasAllW_nil h2
 obtain ⟨xs, rfl, h3⟩ := hasW_list h1
 obtain ⟨ns, rfl⟩ := items_int h3
 have hlen : ns.length <= n := by
   unfold OpenLaw.pre at hc
   have h4 : (WTm.not (.lt (.lit (.int (n : Int))) (.len (.arg 0)))).holds [] { args := [.list (ns.map .int)] } = true := by
     have h4 := (holds_andW hc).1
     rw [hn] at h4
     exact h4
   have h5 := condW_of h4 (w_not (w_lt w_lit (w_len_list (w_arg rfl))))
   rw [List.length_map] at h5
   refine Nat.le_of_not_lt fun q => ?_
   have q' : (n : Int) < ((ns.length : Nat) : Int) := by omega
   first
     | (rw [decide_eq_true q'] at h5; exact absurd h5 (by decide))
     | (simp at h5; omega)
 cases hwl with
 | cons w1 w2 =>
   cases w2
   cases w1 with
   | list ho hall => exact ⟨_, _, ns, rfl, rfl, ho, C0r ns _ hall, hlen⟩
theorem U1b (l : OpenLaw) (args : List WData) : l.row.toRowW.claim.post args (.bool true) args = true :=
 postW_of (r := l.row.toRowW) (X := (true == true))
   (show WShape.has [] (.bool true) .bool = true by first | rfl | decide | simp [WShape.has, WShape.arms, WShape.armsAll])
   (show (WTm.eq .res (.lit (.bool true))).value [] { args := args, res := some (.bool true), after := args } = some (.bool (true == true)) from w_eq_bool (w_res rfl) w_lit) rfl
theorem attach_call {l : OpenLaw} {n : Nat} {q : Program} {loose : List Str} {XP : (Str -> Option Value) -> Heap -> Prop} {YP : World -> Heap -> Prop} {d : DefRec}
   (hn : l.most = some n) (hdf : d.params.defaults = [])
   (call : ∀ (w : World) (s₀ s₁ : Shared) (mg mb : Str -> Option Value) (fa : Addr) (o : Obj) (pm cd doc : Value) (a : Addr) (vs : List Value) (ns : List Int),
     Ground q loose [] XP w s₀ mg mb s₁.heap -> YP w s₁.heap ->
     s₁.heap.get? fa = some o -> o.data = .func (docDef d.name d.params d.body d.scope pm cd doc) -> s₁.heap.CodeRec cd d.name -> mg d.name = some (.ref fa) ->
     s₁.heap.get? a = some { cls := .type "list", data := .seq vs.toArray } -> IntsAre vs ns -> ns.length <= n -> s₁.gens = #[] ->
     codeAny (model l.prog w) callerA (.call (.ref fa) ⟨[.ref a], []⟩) (fun r s' => r = .ok (.ret (.bool true)) /\ OldK s₁.heap s'.heap /\ s'.os = s₁.os /\ AllBare s'.gens) s₁) :
   WalkO q loose XP YP l.row.toRowW d [] (fun f vs => PySem.call f vs) := by
 intro w s₀ s₁ mg mb G Y fa o pm cd doc dV kV ho hd hcd hD hmg hg args vals as hpre hlay hrd hwl hlo
 obtain rfl : dV = .none := Dflts.none hD hdf
 obtain rfl : kV = .none := Dflts.noKw hD
 obtain ⟨a, vs, ns, rfl, rfl, hobj, hints, hlen⟩ := U2m hn hpre hwl
 refine enter_call (codeAny_mono (call w s₀ s₁ mg mb fa o pm cd doc a vs ns G Y ho (fd_plain hd) hcd hmg hobj hints hlen hg) fun r s' hq => ?_)
 obtain ⟨rfl, h2, h3, h4⟩ := hq
 exact ⟨.inl ⟨.bool true, .bool true, [], rfl, fun _ => rfl, .bool true, U1b l _, fun _ => ⟨List.Pairwise.nil, fun _ hm => (nomatch hm)⟩⟩, h2, h3, h4⟩
section
variable {prog : Program} {w : World} {A : Around} {E : Value -> Shared -> Prop} {s : Shared} {K : Frag}
end
end Att
namespace L2
open PySem PySem.Spec PyProof.Rows
theorem D1h : ∀ {vs : List Value} {ns : List Int}, IntsAre vs ns -> Vals (ns.map V.int) vs
 | _, _, .nil => .nil
 | _, _, .cons n t h => .cons ⟨t, rfl⟩ (D1h h)
def Z2q (H : Hp) : Prop := ∀ b, H b = none \/ ∃ o xs, H b = some (.frz o (.lst xs))
theorem U9r {P : Program} {w : World} {K : PySem.W.Frag} {mg mb : Str -> Option Value} {CX : CXT} {k : Nat} {fa a : Addr} {fd : FuncData} {x : Str} {sp : Sp} {s₁ : Shared} {vs : List Value} {ns : List Int}
   (KX : K.In s₁.heap) (hns : s₁.heap.Ns mainGlobals mg) (hb : s₁.heap.Ns builtinsNs mb) (hbb : ∀ x : Str, x ≠ "__name__" -> mb x = bootBuiltins x) (hlim : s₁.heap.NoLimit) (hg : s₁.gens = #[])
   (ha : s₁.heap.get? a = some { cls := .type "list", data := .seq vs.toArray }) (hi : IntsAre vs ns) (hl : ns.length <= sizeLine) (hr : Room k callerA)
   (F : ∀ base : Heap, K.In base -> base.Ns mainGlobals mg -> FnOk P w K mg base CX k fa fd [x] sp) (hbind : ∀ (s : Shared) (u : Value), BindsTo s fd ⟨[u], []⟩ [(x, u)])
   (hsp : ∀ H : Hp, Z2q H -> SqL K H a (ns.map V.int) -> sp [.ref a] H (fun v _ => v = .bl true) fun _ _ _ => False)
   (hCX : ∀ H e s', CX [] H s₁ (fun _ _ _ => False) e s' -> False) :
   codeAny (model P w) callerA (.call (.ref fa) ⟨[.ref a], []⟩) (fun r s' => r = .ok (.ret (.bool true)) /\ OldK s₁.heap s'.heap /\ s'.os = s₁.os /\ AllBare s'.gens) s₁ := by
 have rv := D1h hi
 have lenV := hi.length
 have core : ∀ H : Hp, Z2q H -> SqL K H a (ns.map V.int) -> HOk P w H s₁.heap -> (∀ b, H b ≠ none -> b = a) -> (H a ≠ none -> K.lookup a = none) ->
     codeAny (model P w) callerA (.call (.ref fa) ⟨[.ref a], []⟩) (fun r s' => r = .ok (.ret (.bool true)) /\ OldK s₁.heap s'.heap /\ s'.os = s₁.os /\ AllBare s'.gens) s₁ := by
   intro H hO hS hok hA hK
   have base_of : ∀ {b : Addr} {o : Obj}, s₁.heap.get? b = some o -> H b = none -> (D3t s₁.heap H).get? b = some o := fun e n => U7m e n
   have noA : ∀ {b : Addr} {o : Obj} {es : Array DictEntry} {ep : Nat}, s₁.heap.get? b = some o -> o.data = .dict es ep -> H b = none := fun {b o es ep} e d => by
     cases q : H b with
     | none => rfl
     | some u =>
       have e' : b = a := hA b (by rw [q]; simp)
       subst e'
       rw [ha] at e; cases e
       have d' : Data.seq vs.toArray _ = Data.dict es ep := d
       cases d'
   have nsK : ∀ {b : Addr} {m : Str -> Option Value}, s₁.heap.Ns b m -> (D3t s₁.heap H).Ns b m := fun {b m} ⟨o, es, ep, e, d, r⟩ => ⟨o, es, ep, base_of e (noA e d), d, r⟩
   have hKb : K.In (D3t s₁.heap H) := fun b o e => base_of (KX b o e) (by
     cases q : H b with
     | none => rfl
     | some u =>
       have e' : b = a := hA b (by rw [q]; simp)
       subst e'
       rw [hK (by rw [q]; simp)] at e; cases e)
   have hM : Mod K mg (D3t s₁.heap H) := ⟨hKb, nsK hns, ⟨mb, nsK hb, hbb⟩, let ⟨mc, h1, h2⟩ := hlim; ⟨mc, nsK h1, h2⟩⟩
   have e0 : Env0 P w K mg (D3t s₁.heap H) callerA [] s₁ H := ⟨rfl, hM, fun b o e => Y4x e, Nat.le_of_eq (U1v _ _), trivial, fun b hb => absurd (show b ∈ ([] : List Addr) from hb) (by simp), hok, .of_eq hg⟩
   refine codeAny_mono ((F _ hKb (nsK hns)).run callerA [] s₁ H ⟨[.ref a], []⟩ [.ref a] [.ref a] _ _ hr e0 (hbind s₁ (.ref a)) (.cons rfl .nil) (hsp H hO hS)) fun r s' h => ?_
   cases r with
   | error e => exact (hCX H e s' h).elim
   | ok fl =>
     cases fl with
     | next => exact False.elim h
     | brk => exact False.elim h
     | cont => exact False.elim h
     | ret u =>
       obtain ⟨v, H', os, bare, un, hok', r', q⟩ := h
       have q' : v = .bl true := q
       subst q'
       obtain rfl : u = Value.bool true := r'
       refine ⟨rfl, OldK.of_keep fun b o e => ?_, os, bare⟩
       cases q : H b with
       | none => exact un.keep b o e q (by intro z; exact absurd (show b ∈ ([] : List Addr) from z) (by simp)) (by simp)
       | some u =>
         rcases hO b with z | ⟨ob, xs, z⟩
         . rw [q] at z; cases z
         . have z2 := un.frzs b ob _ z
           obtain ⟨e1, _⟩ := hok b _ z
           obtain ⟨e2, _⟩ := hok' b _ z2
           rw [e] at e1; cases e1
           exact e2
 cases hk : K.lookup a with
 | some o =>
   have e := KX a o hk
   rw [ha] at e
   cases e
   refine core (fun _ => none) (fun _ => .inl rfl) (.inr ⟨_, vs.toArray, _, hk, rfl, rfl, rfl, by rw [List.size_toArray, lenV]; exact hl, by simpa using rv⟩) (fun b u z => by have z' : (none : Option HO) = some u := z; cases z') (fun b z => absurd rfl z) fun z => absurd rfl z
 | none =>
   refine core (fun b => if b = a then some (.frz { cls := .type "list", data := .seq vs.toArray } (.lst (ns.map V.int))) else none) (fun b => ?_) (.inl (.inr ⟨{ cls := .type "list", data := .seq vs.toArray }, if_pos rfl⟩)) (fun b u z => ?_) (fun b z => ?_) fun _ => hk
   . by_cases hb : b = a
     . exact .inr ⟨_, _, if_pos hb⟩
     . exact .inl (if_neg hb)
   . by_cases hb : b = a
     . have z' := (if_pos hb).symm.trans z
       cases z'
       subst hb
       exact ⟨ha, by rw [List.length_map]; exact hl, vs, _, rv, ha⟩
     . have z' := (if_neg hb).symm.trans z
       cases z'
   . by_cases hb : b = a
     . exact hb
     . exact absurd (if_neg hb) z
theorem walk_of {l : PySem.W.OpenLaw} {n k : Nat} {q : Program} {loose : List Str} {XP : (Str -> Option Value) -> Heap -> Prop} {YP : World -> Heap -> Prop} {d : DefRec} {K : Params -> PySem.W.Frag} {CX : World -> CXT} {sp : World -> Sp} {x : Str}
   (hn : l.most = some n) (hn2 : n <= sizeLine) (hdf : d.params.defaults = []) (hr : Room k callerA)
   (hY : ∀ (w : World) (h : Heap), YP w h -> (K w.params).In h)
   (F : ∀ (w : World) (mg : Str -> Option Value) (fa : Addr) (h : Heap), (K w.params).In h -> h.Ns mainGlobals mg -> mg d.name = some (.ref fa) ->
     ∃ fd : FuncData, (∀ (s : Shared) (u : Value), BindsTo s fd ⟨[u], []⟩ [(x, u)]) /\
       ∀ base : Heap, (K w.params).In base -> base.Ns mainGlobals mg -> FnOk l.prog w (K w.params) mg base (CX w) k fa fd [x] (sp w))
   (hsp : ∀ (w : World) (H : Hp) (a : Addr) (ns : List Int), ns.length <= n -> Z2q H -> SqL (K w.params) H a (ns.map V.int) -> sp w [.ref a] H (fun v _ => v = .bl true) fun _ _ _ => False)
   (hCX : ∀ (w : World) (H : Hp) (s : Shared) (e : Value) (s' : Shared), CX w [] H s (fun _ _ _ => False) e s' -> False) :
   PySem.W.WalkO q loose XP YP l.row.toRowW d [] (fun f vs => PySem.call f vs) := by
 refine Att.attach_call hn hdf fun w s₀ s₁ mg mb fa o pm cd doc a vs ns G Y ho hd hcd hmg hobj hints hlen hg => ?_
 have KX := hY w _ Y
 obtain ⟨fd, hb, hF⟩ := F w mg fa _ KX G.T.g hmg
 exact U9r KX G.T.g G.T.b G.T.builtins G.T.nolimit hg hobj hints (Nat.le_trans hlen hn2) hr hF hb (fun H hO hS => hsp w H a ns hlen hO hS) fun H e s' => hCX w H s₁ e s'
def D5 (s : Stmt) (j : Nat) : Stmt := match s with
 | .ClassDef _ _ _ body _ _ _ _ _ _ _ => body.getD j (.Pass ⟨0, 0, 0, 0⟩)
 | _ => .Pass ⟨0, 0, 0, 0⟩
def A9 (s : Stmt) : Arguments := match s with
 | .FunctionDef _ a _ _ _ _ _ _ _ _ => a
 | _ => { posonlyargs := [], args := [], vararg := none, kwonlyargs := [], kw_defaults := [], kwarg := none, defaults := [] }
def A8 (s : Stmt) : List Stmt := match s with
 | .FunctionDef _ _ b _ _ _ _ _ _ _ => b
 | _ => []
def A1 (s : Stmt) : Scope := match s with
 | .FunctionDef _ _ _ _ _ _ sc _ _ _ => sc
 | _ => { kind := .function, names := [], isGenerator := false, isCoroutine := false }
abbrev CX0 : CXT := fun _ _ _ _ _ _ => False
abbrev E0 : XK := fun _ _ _ => False
theorem U8j {X : Cx} : G7m CX0 X E0 := fun _ _ _ _ _ _ _ h => h.elim
structure Fun (K : PySem.W.Frag) (x qual : Str) (st : Stmt) (f : Addr) (fd : FuncData) : Prop where
 ex : ∃ (oc : Value) (od : Option Addr) (kV doc pm : Value) (an : Option Addr) (cdv ct : Value) (osl : Array (Option Value)),
   fd = PySem.W.fnOf x qual (A9 st) (A8 st) (A1 st) .none kV doc pm an cdv ct /\ K.lookup f = some ⟨oc, od, .func fd, osl⟩ /\ PySem.W.codeIn K cdv qual = true
 kp : PySem.W.keepIn K (.ref f) = true
section
variable {P : Program} {w : World} {K : PySem.W.Frag} {mg : Str -> Option Value} {base : Heap}
theorem Fun.ok {x qual : Str} {st : Stmt} {f : Addr} {fd : FuncData} {N ps : List Str} {k : Nat} {sp : Sp} (F : Fun K x qual st f fd) (S : FnScope N ps (A1 st)) (len : ∀ vs H Q E, sp vs H Q E -> vs.length = ps.length)
   (hbody : ∀ (cdv : Value) (A : Around) (outer : List Env) (s : Shared) (H : Hp) (vs : List V) (Q : VK) (E : XK), Room k (A.deeper (envOfC qual (A1 st) s.heap.objs.size f cdv)) -> sp vs H Q E ->
     ∃ t, PSs (Z9 CX0 P w K mg base N qual (A1 st) f cdv A outer s H E).nox (A8 st) t /\ t { nx := fun _ H' => Q .non H', rt := Q } (B2g N vs) H) : FnOk P w K mg base CX0 (k + 1) f fd ps sp := by
 obtain ⟨oc, od, kV, doc, pm, an, cdv, ct, osl, rfl, lk, hcd⟩ := F.ex
 refine U8k lk hcd S len fun A outer s H vs Q E hr hsp => ?_
 obtain ⟨t, h, q⟩ := hbody cdv A outer s H vs Q E hr hsp
 exact ⟨t, h.nox, q⟩
theorem Fun.binds {x qual : Str} {st : Stmt} {f : Addr} {fd : FuncData} {ps : List Str} (F : Fun K x qual st f fd)
   (h : ∀ (kV doc pm : Value) (an : Option Addr) (cdv ct : Value) (us : List Value), us.length = ps.length -> bindArgs (PySem.W.fnOf x qual (A9 st) (A8 st) (A1 st) .none kV doc pm an cdv ct) ⟨us, []⟩ = pure (ps.zip us)) : Binds K fd ps [] := by
 obtain ⟨oc, od, kV, doc, pm, an, cdv, ct, osl, rfl, lk, hcd⟩ := F.ex
 exact .all (h kV doc pm an cdv ct)
theorem D9 {x qual : Str} {st : Stmt} {f : Addr} {oc : Value} {od an : Option Addr} {osl : Array (Option Value)} {kV doc pm cdv ct : Value} (l : K.lookup f = some ⟨oc, od, .func (PySem.W.fnOf x qual (A9 st) (A8 st) (A1 st) .none kV doc pm an cdv ct), osl⟩)
   (c : PySem.W.codeIn K cdv qual = true) (k : PySem.W.keepIn K (.ref f) = true) : Fun K x qual st f (PySem.W.fnOf x qual (A9 st) (A8 st) (A1 st) .none kV doc pm an cdv ct) := ⟨⟨oc, od, kV, doc, pm, an, cdv, ct, osl, rfl, l, c⟩, k⟩
end
theorem V0 {n : Nat} (h : n <= 1000) : n < sizeLine := Nat.lt_of_le_of_lt h (by decide)
section
variable {X : Cx}
theorem pv (i : Nat) {x : Str} {pos : Pos} (hN : X.N[i]? = some x := by rfl) (hv : Vis X.env.scope x := by first | exact Or.inl rfl | exact Or.inr (Or.inl rfl) | exact Or.inr (Or.inr rfl)) (hd : (x == ("__debug__" : Str)) = false := by decide)
   (hcd : (x == ("__classdict__" : Str)) = false := by decide) : PE X (.Name x pos) (Z7w i) := Z1z hN hv hd hcd
end
theorem J9 {A B : Prop} (h : B) : if false = true then A else B := by
 rw [if_neg Bool.false_ne_true]
 exact h
theorem Z3 {A B : Prop} (h : A) : if true = true then A else B := by
 rw [if_pos rfl]
 exact h
theorem C0a {c A B : Prop} [Decidable c] (hc : c) (h : B) : if (!decide c) = true then A else B := by
 rw [decide_eq_true hc]
 exact J9 h
def Same (H H' : Hp) : Prop := ∀ b o, H b = some o -> H' b = some o
theorem Same.refl (H : Hp) : Same H H := fun _ _ h => h
theorem Same.trans {H H1 H2 : Hp} (a : Same H H1) (b : Same H1 H2) : Same H H2 := fun c o h => b c o (a c o h)
theorem Same.free {H H' : Hp} (e : Same H H') {l : Addr} (h : H' l = Option.none) : H l = Option.none := by
 cases q : H l with
 | none => rfl
 | some o =>
   rw [e l o q] at h
   cases h
theorem Same.seq {K : PySem.W.Frag} {H H' : Hp} {a : Addr} {xs : List V} (e : Same H H') (h : SqL K H a xs) : SqL K H' a xs := by
 rcases h with (h | ⟨o, h⟩) | h
 . exact .inl (.inl (e _ _ h))
 . exact .inl (.inr ⟨o, e _ _ h⟩)
 . exact .inr h
end L2
set_option maxHeartbeats 4000000
namespace L2
open PySem PySem.Spec PyProof.Rows
abbrev A0z (C : Value) (t : Addr) (dd : Option Addr) (tb : Value) : Obj :=
 { cls := C, dict := dd, data := .fields #[.ref t, tb, .none, .none, .bool false, .none] }
structure Noted (fs : List Addr) (h h' : Heap) (a : Addr) (C : Value) (t : Addr) (dd : Option Addr) (T : Addr) (fl : Value) : Prop where
 keep : ∀ b o, b ∉ fs -> b ≠ a -> h.get? b = some o -> h'.get? b = some o
 slot : ∀ b o, b ≠ a -> h.get? b = some o -> ∃ sl, h'.get? b = some { o with slots := sl }
 new : h.get? T = none
 ne : T ≠ a
 exc : h'.get? a = some (A0z C t dd (.ref T))
 tbk : ∃ oT ts, h'.get? T = some oT /\ oT.data = .fields ts /\ ts[3]? = some fl
section
variable {M : Model} {A : Around} {E : Value -> Shared -> Prop} {s : Shared} {base : Heap} {env : Env} {outer : List Env} {L a t : Addr} {C : Value} {dd : Option Addr} {tb : Value} {Q : Unit -> Shared -> Prop}
theorem Y7g {oa : Obj} {vs : Array Value} {l : List Env} (hl : s.heap.FunFrames base l) (ha : s.heap.get? a = some oa) (hd : oa.data = .fields vs) : a ∉ l.filterMap (·.frame) := by
 intro hm
 obtain ⟨_, o, ho, hn⟩ := hl.mem hm
 rw [ha] at ho
 cases ho
 exact hn vs hd
theorem J8p {head : Value} {hn : Bool} (hfr : A.frames = some (env :: outer)) (hl : s.heap.FunFrames base (env :: outer)) (hf : env.frame = some L)
   (ha : s.heap.get? a = some (A0z C t dd tb))
   (h : ∀ h' T, Noted ((env :: outer).filterMap (·.frame)) s.heap h' a C t dd T (rawInt L) -> Q () { s with heap := h' }) :
   wpAny M A (do
     let x <- frameOf env
     let pl <- entryPlaceOf L hn
     let b <- EntryCells.newEntry head x .none (rawInt L) .none pl
     setField (.ref a) 1 b) Q E s := by
 have na := Y7g hl ha rfl
 refine wpAny_bind (wpAny_frameOf_fun hfr hl hf fun g hg => ?_)
 refine wpAny_bind (wpAny_entryPlaceOf fun pl hpl => ?_)
 unfold EntryCells.newEntry newFields
 refine wpAny_bind (wpAny_newObj_type ?_ (hpl.sizeOk5 _ _ _ _ _))
 have a1 : g.get? a = some (A0z C t dd tb) := (hg.2.1 a na).trans ha
 have a2 := fun (z : Obj) => Heap.get?_push_of_some (h := g) z a1
 have nT : g.objs.size ≠ a := Nat.ne_of_gt (Heap.lt_size a1)
 refine wpAny_setField (a2 _) rfl (by show 1 < 6; decide) (h _ g.objs.size ?_)
 have up : ∀ (z : Obj) (f : Obj -> Obj) b o, b ≠ a -> g.get? b = some o -> ((g.push z).update a f).get? b = some o := by
   intro z f b o hb e
   rw [Heap.get?_update_other _ _ (Ne.symm hb)]
   exact Heap.get?_push_of_some _ e
 refine ⟨fun b o hb hba e => up _ _ b o hba ((hg.2.1 b hb).trans e), fun b o hba e => ?_, ?_, nT, ?_, ?_⟩
 . obtain ⟨sl, e1⟩ := hg.2.2 b o e
   exact ⟨sl, up _ _ b _ hba e1⟩
 . refine Heap.get?_none_of_le ?_
   rw [hg.1]
   exact Nat.le_refl _
 . exact Heap.get?_update_self _ (a2 _) rfl
 . refine ⟨_, _, (Heap.get?_update_other _ _ (Ne.symm nT)).trans (Heap.get?_push_size _ rfl), rfl, ?_⟩
   first
     | (simp; done)
     | (rcases hpl with rfl | ⟨_, _, _, _, _, _, _, rfl⟩ <;> simp)
def Z2a (h : Heap) (a : Addr) (tb : Value) : Prop := tb = .none \/ ∃ T oT ts, tb = .ref T /\ T ≠ a /\ h.get? T = some oT /\ oT.data = .fields ts /\ ts[3]? = some .none
theorem Z2g (hfr : A.frames = some (env :: outer)) (hl : s.heap.FunFrames base (env :: outer)) (hf : env.frame = some L)
   (ha : s.heap.get? a = some (A0z C t dd tb)) (ht : Z2a s.heap a tb)
   (h : ∀ h' T, (∀ b o, b ∉ (env :: outer).filterMap (·.frame) -> b ≠ a -> tb ≠ .ref b -> s.heap.get? b = some o -> h'.get? b = some o) ->
     (∀ b o, b ≠ a -> tb ≠ .ref b -> s.heap.get? b = some o -> ∃ sl, h'.get? b = some { o with slots := sl }) -> s.heap.get? T = none -> T ≠ a ->
     h'.get? a = some (A0z C t dd (.ref T)) -> (∃ oT ts, h'.get? T = some oT /\ oT.data = .fields ts /\ ts[3]? = some (rawInt L)) -> Q () { s with heap := h' }) :
   wpAny M A (noteFrame (.ref a) env) Q E s := by
 unfold noteFrame
 simp only [hf]
 refine wpAny_bind (wpAny_field ha rfl (x := tb) rfl ?_)
 rcases ht with rfl | ⟨T, oT, ts, rfl, nT, hT, dT, h3⟩
 . rw [if_neg (by decide)]
   refine J8p hfr hl hf ha fun h' T N => ?_
   exact h h' T (fun b o hb hba _ e => N.keep b o hb hba e) (fun b o hba _ e => N.slot b o hba e) N.new N.ne N.exc N.tbk
 . rw [if_pos (show (Value.ref T != Value.none) = true by simp)]
   refine wpAny_bind (wpAny_field hT dT h3 ?_)
   rw [if_neg (show ¬ ((Value.none == rawInt L) = true) by simp [rawInt])]
   refine wpAny_bind (wpAny_setField hT dT (Array.getElem?_eq_some_iff.mp h3).1 ?_)
   have oth : ∀ (f : Obj -> Obj) b, b ≠ T -> (s.heap.update T f).get? b = s.heap.get? b := fun f b hb => Heap.get?_update_other _ _ (Ne.symm hb)
   have nrec : ∀ b o, s.heap.get? b = some o -> (∀ vs, o.data ≠ .fields vs) -> b ≠ T := by
     intro b o e hn q
     rw [q, hT] at e
     cases e
     exact hn ts dT
   refine J8p (s := { s with heap := _ }) hfr (hl.of_keeps fun b o e hn => ⟨o, (oth _ b (nrec b o e hn)).trans e, rfl⟩) hf ((oth _ a (Ne.symm nT)).trans ha) fun h' T' N => ?_
   have neb : ∀ b, Value.ref T ≠ Value.ref b -> b ≠ T := fun b q z => q (by rw [z])
   refine h h' T' (fun b o hb hba hbT e => N.keep b o hb hba ((oth _ b (neb b hbT)).trans e)) (fun b o hba hbT e => N.slot b o hba ((oth _ b (neb b hbT)).trans e)) ?_ N.ne N.exc N.tbk
   have nw := N.new
   by_cases q : T' = T
   . subst q
     have := Heap.get?_update_self (Obj.mapFields (·.setIfInBounds 3 Value.none)) hT (Obj.isFreed_of_fields (Obj.data_mapFields dT _))
     rw [nw] at this
     cases this
   . rw [oth _ T' q] at nw
     exact nw
theorem Z1p {T : Addr} {oT : Obj} {ts : Array Value} {fl : Value} (ha : s.heap.get? a = some (A0z C t dd (.ref T))) (nT : T ≠ a) (hT : s.heap.get? T = some oT) (dT : oT.data = .fields ts) (h3 : ts[3]? = some fl)
   (h : ∀ h', (∀ b o, b ≠ T -> s.heap.get? b = some o -> h'.get? b = some o) -> Z2a h' a (.ref T) -> Q () { s with heap := h' }) : wpAny M A (setFlight (.ref a) none) Q E s := by
 have sz : 3 < ts.size := (Array.getElem?_eq_some_iff.mp h3).1
 unfold setFlight
 refine wpAny_bind (wpAny_field ha rfl (x := .ref T) rfl ?_)
 rw [if_pos (show (Value.ref T != Value.none) = true by simp)]
 refine wpAny_setField hT dT sz (h _ (fun b o hb e => (Heap.get?_update_other _ _ (Ne.symm hb)).trans e) ?_)
 have d2 := Obj.data_mapFields dT (·.setIfInBounds 3 ((none : Option Addr).elim Value.none fun f => rawInt f))
 exact .inr ⟨T, _, _, rfl, nT, Heap.get?_update_self _ hT (Obj.isFreed_of_fields d2), d2, by simp [sz]⟩
end
def Hd (A : Around) (h : Heap) : Prop := A.handled = none \/ ∃ x ox vs, A.handled = some (.ref x) /\ h.get? x = some ox /\ ox.data = .fields vs /\ vs[2]? = some .none
theorem C7c : entryFor table "proto.unchain" = some Builtin.«proto.unchain» := entryFor_of_tree (by kernel_rfl)
section
variable {prog : Program} {w : World} {A : Around} {E : Value -> Shared -> Prop} {s : Shared}
theorem G2p {α : Type} {a : Addr} {oa : Obj} {ws : Array Value} {h₀ : Heap} {Q : α -> Shared -> Prop} (hd : Hd A h₀) (k : ∀ b o, h₀.get? b = some o -> s.heap.get? b = some o) (na : h₀.get? a = none)
   (ha : s.heap.get? a = some oa) (da : oa.data = .fields ws) (h2 : 2 < ws.size)
   (h : ∀ h', (∀ b o, b ≠ a -> s.heap.get? b = some o -> h'.get? b = some o) -> (∃ o', h'.get? a = some o' /\ o'.cls = oa.cls) -> E (.ref a) { s with heap := h' }) :
   wpAny (model prog w) A (raiseNew (.ref a) : Sem α) Q E s := by
 unfold raiseNew
 refine wpAny_bind (wpAny_handled ?_)
 rcases hd with z | ⟨x, ox, vs, z, e, d, n⟩
 . rw [z]
   exact wpAny_bind (wpAny_pure (wpAny_throw (h _ (fun b o _ e => e) ⟨_, ha, rfl⟩)))
 . rw [z]
   have nx : x ≠ a := by
     intro q
     rw [q, na] at e
     cases e
   dsimp only
   rw [if_pos (show (Value.ref x != Value.ref a) = true by simpa using nx)]
   refine wpAny_bind (wpAny_holding (wpAny_runValue (codeAny_builtin C7c ?_)))
   unfold Builtin.«proto.unchain»
   dsimp only
   refine wpAny_bind (wpAny_field (k x ox e) d n ?_)
   rw [if_pos (by decide)]
   refine wpAny_pure ?_
   dsimp only
   unfold updateField
   refine wpAny_bind (wpAny_bind (wpAny_load ha ?_))
   rw [da]
   dsimp only
   rw [if_pos h2]
   refine wpAny_update ha (wpAny_throw (h _ (fun b o hb e => (Heap.get?_update_other _ _ (Ne.symm hb)).trans e) ⟨_, Heap.get?_update_self _ ha (Obj.isFreed_of_fields (Obj.data_mapFields da _)), Obj.cls_mapFields _ _⟩))
theorem J9m {α : Type} {Q : α -> Shared -> Prop} (hd : Hd A s.heap)
   (h : ∀ h' e, (∀ b o, s.heap.get? b = some o -> h'.get? b = some o) -> ({ s with heap := h' } : Shared).TypeIs (.ref e) "StopIteration" -> E (.ref e) { s with heap := h' }) :
   wpAny (model prog w) A (newExc (.type "StopIteration") [] >>= fun e => (raiseNew e : Sem α)) Q E s := by
 refine wpAny_bind ?_
 simp only [newExc, newTuple]
 refine wpAny_bind (wpAny_newObj_type ?_ (by size_fits)); refine wpAny_bind (m := firstArgMember _ _) (wpAny_of_eq (a := Value.none) (by first | rfl | (simp only [firstArgMember]; rfl)) ?_)
 refine wpAny_newObj_type ?_ (by size_fits); dsimp only
 have k1 : ∀ (z : Obj) b o, s.heap.get? b = some o -> (s.heap.push z).get? b = some o := fun z b o e => Heap.get?_push_of_some _ e
 have k2 : ∀ (z y : Obj) b o, s.heap.get? b = some o -> ((s.heap.push z).push y).get? b = some o := fun z y b o e => Heap.get?_push_of_some _ (Heap.get?_push_of_some _ e)
 have nw : ∀ (z : Obj), s.heap.get? (s.heap.push z).objs.size = none := fun z => Heap.get?_none_of_le (by rw [Heap.size_push]; exact Nat.le_succ _)
 refine G2p (s := { s with heap := _ }) (h₀ := s.heap) hd (k2 _ _) (nw _) (Heap.get?_push_size _ rfl) rfl (by show 2 < 6; decide) fun h' k ⟨o', e', c'⟩ => h h' _ (fun b o e => ?_) ⟨o', e', c'⟩
 refine k b o ?_ (k2 _ _ b o e)
 intro q; rw [q, nw] at e; cases e
theorem B6a {it l : Addr} {i : Nat} {items : Array Value} {Q : Option Value -> Shared -> Prop} (hd : ∀ h' : Heap, Heap.ExtBut it s.heap h' -> Hd A h')
   (hit : s.heap.IsListIter it l i) (hl : s.heap.IsList l items) (hx : items[i]? = none)
   (hQ : ∀ h', Heap.ExtBut it s.heap h' -> Q none { s with heap := h' }) : wpAny (model prog w) A (pyNext (.ref it)) Q E s := by
 obtain ⟨o, ho, hc, dt⟩ := id hit
 obtain ⟨ol, hol, _, nl, dl⟩ := hl
 unfold pyNext
 refine wpAny_bind (wpAny_attempt (wpAny_callSpecial?_slot (name := Str.ofString "__next__") hit.typeIs slot_listiter_next (wpAny_call_entry slot_listiter_next hit.typeIs entry_listiter_next ?_ (args_listiter_next _))))
 show wpAny _ _ (field (.ref it) 0 >>= _) _ _ _; refine wpAny_bind (wpAny_field ho dt (x := .ref l) rfl ?_)
 show wpAny _ _ (if (Value.ref l == Value.none) = true then _ else _) _ _ _; rw [if_neg (show ¬ ((Value.ref l == Value.none) = true) by simp)]
 show wpAny _ _ (field (.ref it) 1 >>= _) _ _ _; refine wpAny_bind (wpAny_field ho dt (x := .int i 0) rfl ?_)
 show wpAny _ _ (seqItems? (.ref l) >>= _) _ _ _; refine wpAny_bind (wpAny_seqItems hol dl ?_)
 simp only [Int.toNat_natCast, hx]
 refine wpAny_bind (wpAny_rule (wpAny_bind (wpAny_setField ho dt (by simp) ?_)))
 have up := fun f => (Heap.SameBut.update (a := it) (h := s.heap) (f := f)).extBut
 refine J9m (s := { s with heap := _ }) (A := A.in1) (hd _ (up _)) fun h' e k ty => ?_
 refine wpAny_bind (wpAny_isInstance (T := "StopIteration") (b := true) ty isSubtype_stop ?_)
 exact wpAny_pure (hQ h' fun b o hb z => k b o (up _ b o hb z))
theorem C0s {it t : Addr} {i : Nat} {items : Array Value} {Q : Option Value -> Shared -> Prop} (hd : ∀ h' : Heap, Heap.ExtBut it s.heap h' -> Hd A h')
   (hit : IsTupIter s.heap it t i) (hl : IsTup s.heap t items) (hx : items[i]? = none)
   (hQ : ∀ h', Heap.ExtBut it s.heap h' -> Q none { s with heap := h' }) : wpAny (model prog w) A (pyNext (.ref it)) Q E s := by
 obtain ⟨o, ho, hc, dt⟩ := id hit
 obtain ⟨ol, hol, _, nl, dl⟩ := hl
 unfold pyNext
 refine wpAny_bind (wpAny_attempt (wpAny_callSpecial?_slot (name := Str.ofString "__next__") hit.typeIs slot_tupleiter_next (wpAny_call_entry slot_tupleiter_next hit.typeIs entry_tupleiter_next ?_ (args_tupleiter_next _))))
 show wpAny _ _ (field (.ref it) 0 >>= _) _ _ _; refine wpAny_bind (wpAny_field ho dt (x := .ref t) rfl ?_)
 show wpAny _ _ (if (Value.ref t == Value.none) = true then _ else _) _ _ _; rw [if_neg (show ¬ ((Value.ref t == Value.none) = true) by simp)]
 show wpAny _ _ (field (.ref it) 1 >>= _) _ _ _; refine wpAny_bind (wpAny_field ho dt (x := .int i 0) rfl ?_)
 show wpAny _ _ (seqItems? (.ref t) >>= _) _ _ _; refine wpAny_bind (wpAny_seqItems hol dl ?_)
 simp only [Int.toNat_natCast, hx]
 refine wpAny_bind (wpAny_rule (wpAny_bind (wpAny_setField ho dt (by simp) ?_)))
 have up := fun f => (Heap.SameBut.update (a := it) (h := s.heap) (f := f)).extBut
 refine J9m (s := { s with heap := _ }) (A := A.in1) (hd _ (up _)) fun h' e k ty => ?_
 refine wpAny_bind (wpAny_isInstance (T := "StopIteration") (b := true) ty isSubtype_stop ?_)
 exact wpAny_pure (hQ h' fun b o hb z => k b o (up _ b o hb z))
end
theorem ObjOk.there {P : Program} {w : World} {H : Hp} {h : Heap} {a : Addr} {o : HO} (x : ObjOk P w H h a o) : ∃ u, h.get? a = some u := by
 cases o with
 | lst xs => obtain ⟨_, _, _, _, e⟩ := x; exact ⟨_, e⟩
 | tup xs => obtain ⟨_, _, _, _, e, _⟩ := x; exact ⟨_, e⟩
 | dK kvs => obtain ⟨_, _, _, _, o, _, _, e, _⟩ := x; exact ⟨_, e⟩
 | dT kvs => obtain ⟨_, _, _, _, o, _, _, e, _⟩ := x; exact ⟨_, e⟩
 | set S n => obtain ⟨o, _, _, _, e, _⟩ := x; exact ⟨_, e⟩
 | ins C dx fs => obtain ⟨_, _, _, e, _⟩ := x; exact ⟨_, e⟩
 | own y => obtain ⟨_, e⟩ := x; exact ⟨_, e⟩
 | xd fs => obtain ⟨_, ⟨_, _, _, e, _⟩, _⟩ := x; exact ⟨_, e⟩
 | rng lo hi => obtain ⟨_, _, _, e⟩ := x; exact ⟨_, e⟩
 | frz ob u => obtain ⟨e, _⟩ := x; exact ⟨_, e⟩
 | tbl ps => exact ⟨_, show h.get? a = some _ from x⟩
 | met f y => exact ⟨_, show h.get? a = some _ from x⟩
 | ext φ => obtain ⟨_, e, _⟩ := x; exact e
theorem HOk.new {P : Program} {w : World} {H : Hp} {h : Heap} {a : Addr} (x : HOk P w H h) (e : h.get? a = none) : H a = none := by
 cases q : H a with
 | none => rfl
 | some u =>
   obtain ⟨o, z⟩ := (x a u q).there
   rw [e] at z
   cases z
structure Nw (X : Cx) (pins : List (Addr × Obj)) (H : Hp) (b : Addr) : Prop where
 un : H b = none
 loc : b ≠ X.env.locals
 fs : b ∉ X.fs
 old : X.s₀.heap.get? b = none
 cell : ∀ x c, X.env.cells.lookup x = some c -> c ≠ b
 pin : ∀ p ∈ X.pn ++ pins, p.1 ≠ b
section
variable {X : Cx} {pins : List (Addr × Obj)} {σ : St} {H H' : Hp} {s s' : Shared} {a b t : Addr} {C : Value} {dd : Option Addr}
theorem Inv.fsFree (I : Inv X pins σ H s) : ∀ b ∈ X.fs, H b = none := fun b hb => I.stkFree b (by
 rcases I.ok.stk with z | ⟨z, zf⟩
 . rw [z]; exact hb
 . rw [z]
   unfold frs
   rw [List.filterMap_cons, zf]
   exact List.mem_cons_of_mem _ hb)
theorem Inv.nw (I : Inv X pins σ H s) (hex : X.ex = []) (e : s.heap.get? b = none) (hu : H' b = none) : Nw X pins H' b := by
 refine ⟨hu, ?_, ?_, ?_, ?_, ?_⟩
 . rintro rfl
   obtain ⟨m, ⟨o, _, _, ho, _⟩, _⟩ := I.loc
   rw [e] at ho
   cases ho
 . intro hb
   obtain ⟨_, o, ho, _⟩ := I.funs.mem hb
   rw [e] at ho
   cases ho
 . cases q : X.s₀.heap.get? b with
   | none => rfl
   | some o =>
     obtain ⟨o', z⟩ := I.base.there b o q (by rw [hex]; simp)
     rw [e] at z
     cases z
 . rintro x c h rfl
   obtain ⟨v, o, ho, _⟩ := I.cell x c h
   rw [e] at ho
   cases ho
 . rintro p hp rfl
   obtain ⟨z, _⟩ := I.pin p hp
   rw [e] at z
   cases z
theorem Inv.stepN {h' : Heap} {ch : List Addr} (I : Inv X pins σ H s) (hch : ∀ b ∈ ch, Nw X pins H b)
   (keep : ∀ b o, b ≠ X.env.locals -> b ∉ X.fs -> b ∉ ch -> s.heap.get? b = some o -> h'.get? b = some o)
   (slot : ∀ b o, b ∉ ch -> s.heap.get? b = some o -> ∃ sl, h'.get? b = some { o with slots := sl }) : Inv X pins σ H { s with heap := h' } := by
 have neL : ∀ b o, X.s₀.heap.get? b = some o -> b ≠ X.env.locals := fun b o e => Nat.ne_of_lt (Nat.lt_of_lt_of_le (Heap.lt_size e) I.ok.above)
 have neC : ∀ b o, X.s₀.heap.get? b = some o -> b ∉ ch := fun b o e hb => by
   have z := (hch b hb).old
   rw [e] at z
   cases z
 have cellK : ∀ x c, X.env.cells.lookup x = some c -> ∀ v, s.heap.IsCell c v -> h'.IsCell c v := fun x c e v ⟨o, ho, hd⟩ => by
   have nch : c ∉ ch := fun z => (hch c z).cell x c e rfl
   obtain ⟨sl, q⟩ := slot c o nch ho
   exact ⟨_, q, hd⟩
 refine ⟨I.ok, I.os, I.bare, ⟨fun b o e n hb hx => ?_, fun b o e n hb hx => ?_, I.base.free, fun b o e hx => ?_, I.base.tups, I.base.frzs, I.base.tbls⟩, ?_, fun x c e => ?_, I.free, I.freeC, fun p hp => ?_, ?_, I.len⟩
 . exact keep b o (neL b o e) hb (neC b o e) (I.base.keep b o e n hb hx)
 . obtain ⟨sl, e1⟩ := I.base.slot b o e n hb hx
   obtain ⟨sl', e2⟩ := slot b _ (neC b o e) e1
   exact ⟨sl', e2⟩
 . obtain ⟨o', e1⟩ := I.base.there b o e hx
   obtain ⟨sl', e2⟩ := slot b _ (neC b o e) e1
   exact ⟨_, e2⟩
 . obtain ⟨m, hn, hl⟩ := I.loc
   refine ⟨m, ?_, fun i x v e1 e2 e3 => ?_⟩
   . obtain ⟨o, es, ep, ho, r⟩ := hn
     obtain ⟨sl, q⟩ := slot _ o (fun z => (hch _ z).loc rfl) ho
     exact ⟨_, es, ep, q, r⟩
   . obtain ⟨u, r, l⟩ := hl i x v e1 e2 e3
     refine ⟨u, r, ?_⟩
     rcases l with l | ⟨k, c, e, z⟩
     . exact .inl l
     . exact .inr ⟨k, c, e, cellK x c e _ z⟩
 . obtain ⟨v, z⟩ := I.cell x c e
   exact ⟨v, cellK x c e v z⟩
 . obtain ⟨e, n, ne, nf, d⟩ := I.pin p hp
   exact ⟨keep p.1 p.2 ne nf (fun z => (hch p.1 z).pin p hp rfl) e, n, ne, nf, d⟩
 . intro c o e
   have tr : ∀ b, H b ≠ none -> ∀ u, s.heap.get? b = some u -> h'.get? b = some u := fun b hb u q =>
     keep b u (fun z => hb (by rw [z]; exact I.free)) (fun z => hb (I.fsFree b z)) (fun z => hb (hch b z).un) q
   refine (I.hok c o e).stay (fun b u hb q => tr b ?_ u q) (fun _ q => q) fun _ _ q => q
   rcases hb with rfl | hb
   . rw [e]; simp
   . rw [hb]; simp
def Flt (X : Cx) (pins : List (Addr × Obj)) (H : Hp) (s : Shared) (a : Addr) (C : Value) (t : Addr) (dd : Option Addr) : Prop :=
 Nw X pins H a /\ ∃ tb, s.heap.get? a = some (A0z C t dd tb) /\ Z2a s.heap a tb /\ ∀ T, tb = .ref T -> Nw X pins H T
def FltAt (X : Cx) (pins : List (Addr × Obj)) (H : Hp) (s : Shared) (a : Addr) (C : Value) (t : Addr) (dd : Option Addr) (fl : Value) : Prop :=
 Nw X pins H a /\ ∃ T oT ts, s.heap.get? a = some (A0z C t dd (.ref T)) /\ T ≠ a /\ Nw X pins H T /\ s.heap.get? T = some oT /\ oT.data = .fields ts /\ ts[3]? = some fl
structure Body (X : Cx) : Prop where
 ex : X.ex = []
 st : X.stack = X.env :: X.outer
 fr : X.env.frame = some X.env.locals
theorem FltAt.flt (F : FltAt X pins H s a C t dd .none) : Flt X pins H s a C t dd := by
 obtain ⟨n, T, oT, ts, e, ne, nT, eT, dT, h3⟩ := F
 exact ⟨n, _, e, .inr ⟨T, oT, ts, rfl, ne, eT, dT, h3⟩, fun T' z => by cases z; exact nT⟩
def G7n : Value -> List Addr
 | .ref z => [z]
 | _ => []
theorem U9f {M : Model} {E : Value -> Shared -> Prop} {Q : Unit -> Shared -> Prop} (B : Body X) (I : Inv X pins σ H s) (F : Flt X pins H s a C t dd)
   (k : ∀ s', Inv X pins σ H s' -> FltAt X pins H s' a C t dd (rawInt X.env.locals) -> Q () s') : wpAny M X.A (noteFrame (.ref a) X.env) Q E s := by
 obtain ⟨na, tb, e, ht, nT⟩ := F
 have hfr := I.ok.frames
 rw [B.st] at hfr
 have hl := I.stack
 rw [B.st] at hl
 refine Z2g hfr hl B.fr e ht fun h' T k1 k2 k3 k4 k5 k6 => ?_
 have ch : ∀ b, b ∉ a :: G7n tb -> b ≠ a /\ tb ≠ .ref b := by
   intro b hb
   refine ⟨fun z => hb (by rw [z]; exact List.mem_cons_self), fun z => hb ?_⟩
   rw [z]
   exact List.mem_cons_of_mem _ (List.mem_singleton.mpr rfl)
 have I' : Inv X pins σ H { s with heap := h' } := by
   refine I.stepN (ch := a :: G7n tb) (fun b hb => ?_) (fun b o h1 h2 h3 q => k1 b o ?_ (ch b h3).1 (ch b h3).2 q) (fun b o h3 q => k2 b o (ch b h3).1 (ch b h3).2 q)
   . rcases List.mem_cons.mp hb with rfl | hb
     . exact na
     . cases tb <;> simp [G7n] at hb
       subst hb
       exact nT _ rfl
   . intro z
     rw [List.filterMap_cons, B.fr] at z
     rcases List.mem_cons.mp z with z | z
     . exact h1 z
     . exact h2 z
 obtain ⟨oT, ts, q1, q2, q3⟩ := k6
 exact k _ I' ⟨na, T, oT, ts, k5, k4, I.nw B.ex k3 (I.hok.new k3), q1, q2, q3⟩
theorem V0c {M : Model} {A : Around} {E : Value -> Shared -> Prop} {Q : Unit -> Shared -> Prop} {fl : Value} (I : Inv X pins σ H s) (F : FltAt X pins H s a C t dd fl)
   (k : ∀ s', Inv X pins σ H s' -> FltAt X pins H s' a C t dd .none -> Q () s') : wpAny M A (setFlight (.ref a) none) Q E s := by
 obtain ⟨na, T, oT, ts, e, ne, nT, eT, dT, h3⟩ := F
 refine Z1p e ne eT dT h3 fun h' k1 k2 => ?_
 have I' : Inv X pins σ H { s with heap := h' } := I.stepN (ch := [T]) (fun b hb => by
   have : b = T := by simpa using hb
   subst this
   exact nT) (fun b o _ _ hb q => k1 b o (fun z => hb (by simp [z])) q) (fun b o hb q => ⟨_, k1 b o (fun z => hb (by simp [z])) q⟩)
 rcases k2 with z | ⟨T', oT', ts', z, _, q1, q2, q3⟩
 . cases z
 . cases z
   exact k _ I' ⟨na, T, oT', ts', k1 a _ (Ne.symm ne) e, ne, nT, q1, q2, q3⟩
theorem U1g {M : Model} {E : Value -> Shared -> Prop} {Q : Unit -> Shared -> Prop} (B : Body X) (I : Inv X pins σ H s) (F : Flt X pins H s a C t dd)
   (k : ∀ s', Inv X pins σ H s' -> FltAt X pins H s' a C t dd .none -> Q () s') : wpAny M X.A (leaving X.env (.ref a)) Q E s := by
 unfold leaving
 exact wpAny_bind (U9f B I F fun s1 I1 F1 => V0c I1 F1 k)
end
abbrev EK := Value -> Option Addr -> St -> Hp -> Prop
def D8 (X : Cx) (EH : EK) : Prop := ∀ (pins : List (Addr × Obj)) (σ : St) (H : Hp) (s : Shared) (a t : Addr) (C : Value) (dd : Option Addr), Inv X pins σ H s -> Flt X pins H s a C t dd -> EH C dd σ H -> X.xe (.ref a) s
def CX1 (P : Program) (w : World) : CXT := fun outer H s E e s' => ∃ (a t : Addr) (C : Value) (dd : Option Addr) (H' : Hp), e = .ref a /\ s'.os = s.os /\ AllBare s'.gens /\ Un (frs outer) [] H H' s.heap s'.heap /\ HOk P w H' s'.heap /\ E C dd H' /\
 (s.heap.get? a = none /\ H' a = none) /\ ∃ T oT ts, s'.heap.get? a = some (A0z C t dd (.ref T)) /\ T ≠ a /\ (s.heap.get? T = none /\ H' T = none) /\ s'.heap.get? T = some oT /\ oT.data = .fields ts /\ ts[3]? = some .none
theorem C1z {P : Program} {w : World} {K : PySem.W.Frag} {mg : Str -> Option Value} {base : Heap} {N : List Str} {qual : Str} {scope : Scope} {f : Addr} {cd : Value} {A : Around} {outer : List Env} {s : Shared} {H : Hp} {E : XK} :
   D8 (Z9 (CX1 P w) P w K mg base N qual scope f cd A outer s H E) (fun C dd _ H' => E C dd H') := by
 intro pins σ H' s' a t C dd I F h
 refine U1g (X := Z9 (CX1 P w) P w K mg base N qual scope f cd A outer s H E) ⟨rfl, rfl, rfl⟩ I F fun s2 I2 F2 => ?_
 obtain ⟨na, T, oT, ts, e, ne, nT, eT, dT, h3⟩ := F2
 exact ⟨a, t, C, dd, H', rfl, I2.os, I2.bare, I2.base, I2.hok, h, ⟨na.old, na.un⟩, T, oT, ts, e, ne, ⟨nT.old, nT.un⟩, eT, dT, h3⟩
section
variable {X : Cx} {k : Nat} {f C : Addr} {fd : FuncData} {ps : List Str} {sp : Sp} {dvs : List V} {ds : List Value} {EH : EK} {x m : Str} {p pos apos : Pos} {e o : Expr} {es : List Expr} {ta : TE} {t : TA}
theorem Z6z {pins : List (Addr × Obj)} {σ : St} {H : Hp} {s : Shared} {e : Value} {s' : Shared} (hx : D8 X EH) (hex : X.ex = []) (I : Inv X pins σ H s)
   (h : CX1 X.prog X.w X.stack H s (fun C d H' => EH C d σ H') e s') : X.xe e s' := by
 obtain ⟨a, t, C, dd, H', rfl, os, bare, un, hok, hE, ⟨a1, a2⟩, T, oT, ts, z, ne, ⟨t1, t2⟩, eT, dT, h3⟩ := h
 have I' : Inv X pins σ H' s' := I.call' (ch := []) os un hok bare (fun b q => absurd q (by simp))
 exact hx pins σ H' s' a t C dd I' (FltAt.flt ⟨I.nw hex a1 a2, T, oT, ts, z, ne, I.nw hex t1 t2, eT, dT, h3⟩) hE
theorem C0u {pins : List (Addr × Obj)} {σ : St} {H : Hp} {s : Shared} {Q : VK} {us : List Value} {vs : List V} (F : FnOk X.prog X.w X.K X.mg X.base (CX1 X.prog X.w) k f fd ps sp) (hr : Room k X.A) (hb : Binds X.K fd ps ds) (hd : Vals dvs ds)
   (hx : D8 X EH) (hex : X.ex = []) (I : Inv X pins σ H s) (r : Vals vs us) (h : sp (vs ++ dvs) H Q (fun C d H' => EH C d σ H')) : wpAny (model X.prog X.w) X.A (call (.ref f) us) (EP X pins σ Q) X.xe s := by
 have r2 : Vals (vs ++ dvs) (us ++ ds) := r.append hd
 have hl : (us ++ ds).length = ps.length := by rw [<- r2.length]; exact F.len _ _ _ _ h
 refine wpAny_call (codeAny_mono (F.run X.A X.stack s H ⟨us, []⟩ (us ++ ds) (vs ++ dvs) Q _ hr I.env0 (hb s us I.kIn hl) r2 h) fun r s' hq => ?_)
 cases r with
 | error e => exact Z6z hx hex I hq
 | ok fl =>
   cases fl with
   | ret u => exact I.after hq
   | next => exact False.elim hq
   | brk => exact False.elim hq
   | cont => exact False.elim hq
def D2r (sp : Sp) (dvs : List V) (EH : EK) (t : TA) : TE := fun σ H Q => t σ H fun vs H1 => sp (vs ++ dvs) H1 Q (fun C d H' => EH C d σ H')
theorem V0p (F : FnOk X.prog X.w X.K X.mg X.base (CX1 X.prog X.w) k f fd ps sp) (hr : Room k X.A) (hg : Gl X x) (hm : X.mg x = some (.ref f)) (hk : PySem.W.keepIn X.K (.ref f) = true) (hb : Binds X.K fd ps ds) (hd : Vals dvs ds)
   (hx : D8 X EH) (ha : PA X (e :: es) t) (hex : X.ex = [] := by rfl) (hdb : (x == ("__debug__" : Str)) = false := by decide) (he : starEach (e :: es) X.env = (false, eval e X.env) :: starEach es X.env := by rfl)
   (hpl : (backTo pos (starEach es X.env)).any (·.1) = false := by rfl) : PE X (.Call (.Name x p) (e :: es) [] pos) (D2r sp dvs EH t) := by
 intro pins s σ H Q I h
 refine wpAny_Call_Name_kw (A2x I hg hm ?_ hdb)
 refine PySem.W.callWith_K (h₀ := X.base) I.ok.mod.kin hk (thn (ha pos pins s σ H _ I h) fun us s1 ⟨vs, H1, I1, r, q⟩ => ⟨I1.kIn, ?_⟩) he hpl
 exact C0u F hr hb hd hx hex I1 r q
theorem U0z (F : FnOk X.prog X.w X.K X.mg X.base (CX1 X.prog X.w) k f fd ps sp) (hr : Room k X.A) (hg : Gl X x) (hm : X.mg x = some (.ref f)) (hk : PySem.W.keepIn X.K (.ref f) = true) (hb : Binds X.K fd ps ds) (hd : Vals dvs ds)
   (hx : D8 X EH) (hex : X.ex = [] := by rfl) (hdb : (x == ("__debug__" : Str)) = false := by decide) : PE X (.Call (.Name x p) [] [] pos) (D2r sp dvs EH V1b) := by
 intro pins s σ H Q I h
 refine wpAny_Call_Name_kw (A2x I hg hm ?_ hdb)
 exact PySem.W.callWith_K0 I.kIn hk (C0u (us := []) F hr hb hd hx hex I .nil h)
end
section
variable {P : Program} {w : World} {K : PySem.W.Frag} {mg : Str -> Option Value} {base : Heap}
theorem Fun.okE {x qual : Str} {st : Stmt} {f : Addr} {fd : FuncData} {N ps : List Str} {k : Nat} {sp : Sp} (F : Fun K x qual st f fd) (S : FnScope N ps (A1 st)) (len : ∀ vs H Q E, sp vs H Q E -> vs.length = ps.length)
   (hbody : ∀ (X : Cx) (cdv : Value) (A : Around) (outer : List Env) (s : Shared) (H : Hp) (vs : List V) (Q : VK) (E : XK), X = Z9 (CX1 P w) P w K mg base N qual (A1 st) f cdv A outer s H E -> Room k X.A -> D8 X (fun C dd _ H' => E C dd H') -> sp vs H Q E ->
     ∃ t, PSs (Z9 (CX1 P w) P w K mg base N qual (A1 st) f cdv A outer s H E) (A8 st) t /\ t { nx := fun _ H' => Q .non H', rt := Q } (B2g N vs) H) : FnOk P w K mg base (CX1 P w) (k + 1) f fd ps sp := by
 obtain ⟨oc, od, kV, doc, pm, an, cdv, ct, osl, rfl, lk, hc⟩ := F.ex
 exact U8k lk hc S len fun A outer s H vs Q E hr h => hbody _ cdv A outer s H vs Q E rfl hr C1z h
theorem FnOk.up {k : Nat} {f : Addr} {fd : FuncData} {ps : List Str} {sp : Sp} (F : FnOk P w K mg base CX0 k f fd ps sp) : FnOk P w K mg base (CX1 P w) k f fd ps sp := by
 refine ⟨F.len, fun A outer s H args us vs Q E hr e0 hb r h => codeAny_mono (F.run A outer s H args us vs Q E hr e0 hb r h) fun r s' q => ?_⟩
 cases r with
 | error e => exact False.elim q
 | ok fl => cases fl <;> exact q
end
end L2
namespace L2
open PySem PySem.Spec PyProof.Rows PySem.W
theorem Y6y {K : Frag} {h : Heap} {C : Addr} {bmB : List Value} {newId : String} (X : K.In h) (q : excIn K C bmB newId = true) :
   ∃ (bm : List Value) (N : Addr) (nm qn : Str) (bs : List Value) (hd : Bool) (sn : List Str) (sub : List Value) (ab : Bool) (col : Option Bool) (dd : Option Addr) (k0 k1 k2 k3 k5 : Option Value) (mN : Str -> Option Value),
     h.get? C = some (excClassObj nm qn C N bs bm hd sn sub ab col dd k0 k1 k2 k3 k5 newId) /\ h.Ns N mN /\ mN "__init__" = none /\ OwnTail h bmB bm := by
 unfold excIn at q
 split at q
 . rename_i dd cd sl ho
   split at q
   . rename_i C' bm k0 k1 k2 k3 n k5 hm hs
     simp only [Bool.and_eq_true, beq_iff_eq, Bool.not_eq_true'] at q
     obtain ⟨⟨⟨⟨⟨r1, r2⟩, r3⟩, r4⟩, r5⟩, r6⟩ := q
     subst r1 r2
     obtain ⟨a1, a2, a3, a4, a5, a6, a7, a8, a9, a10, a11⟩ := cd
     dsimp only at hm r3 r5 r6
     subst hm r3
     have hsl : sl = #[k0, k1, k2, k3, some (.builtin n), k5] := by
       obtain ⟨l⟩ := sl
       simp only at hs
       rw [hs]
     subst hsl
     exact ⟨bm, a4, a1, a5, a2, a6, a7, a8, a9, a10, dd, k0, k1, k2, k3, k5, _, X _ _ ho, .of_isNs (isNs_of_in X r5), nsMap_none_of_in X r5 r6, tail_of_in X r4⟩
   . cases q
 . cases q
section
variable {X : Cx} {x : Str} {p cpos pos : Pos} {e : Expr} {es : List Expr} {t : TA} {C : Addr} {bmB : List Value} {B newId initId : String} {EH : EK}
def Z1q (C : Addr) (EH : EK) (t : TA) : TS := fun _ σ H => t σ H fun vs H1 => vs.length <= sizeLine /\ EH (.ref C) none σ H1
theorem A2a (hg : Gl X x) (hm : X.mg x = some (.ref C)) (q : excIn X.K C bmB newId = true) (FB : ExcBaseFacts B newId initId bmB) (hh : X.A.handled = none) (hx : D8 X EH) (ha : PA X (e :: es) t) (hex : X.ex = [] := by rfl)
   (hdb : (x == ("__debug__" : Str)) = false := by decide) (he : starEach (e :: es) X.env = (false, eval e X.env) :: starEach es X.env := by rfl) (hpl : (backTo cpos (starEach es X.env)).any (·.1) = false := by rfl) :
   PS X (.Raise (some (.Call (.Name x p) (e :: es) [] cpos)) none pos) (Z1q C EH t) := by
 intro pins s σ H D I h
 obtain ⟨bm, N, nm, qn, bs, hd, sn, sub, ab, col, dd, k0, k1, k2, k3, k5, mN, hC, hN, hni, T⟩ := Y6y I.ok.mod.kin q
 refine wpAny_Raise_call_subT (C := C) (nm := nm) (q := qn) (N := N) (bs := bs) (bm := bm) (hdct := hd) (sn := sn) (sub := sub) (ab := ab) (col := col) (dd := dd) (k0 := k0) (k1 := k1) (k2 := k2) (k3 := k3) (k5 := k5) FB (mN := mN) (T.hasType FB.hasBase) hh
   (by rw [he]; show (false || (backTo cpos (starEach es X.env)).any (·.1)) = false; rw [hpl]; rfl) hni (A2x I hg hm ⟨rfl, ?_⟩ hdb)
 have ha' := ha cpos pins s σ H _ I h
 rw [he] at ha' ⊢
 refine Calls.evalArgs_plain (wpAny_mono ha' (fun us s2 ⟨vs, H1, I1, r, z, q⟩ => ⟨rfl, by rw [<- r.length]; exact z, I1.bk _ _ hC, hN.keeps I1.bk, T.keeps I1.bk, fun h' a m => ?_⟩) fun _ _ y => y)
 have I2 : Inv X pins σ H1 { s2 with heap := h' } := I1.kept (t' := s2.toks) m.keeps
 obtain ⟨t', e1, tn, e2⟩ := m.there
 exact hx pins σ H1 _ a t' (.ref C) none I2 ⟨I1.nw hex m.new (I1.hok.new m.new), .none, e1, .inl rfl, fun T z => nomatch z⟩ q
end
section
variable {X : Cx} {pins : List (Addr × Obj)} {σ : St} {H : Hp} {s : Shared}
end
section
variable {X : Cx} {pins pins' : List (Addr × Obj)} {σ : St} {H : Hp} {s : Shared} {a : Addr} {E : Value -> Shared -> Prop}
end
theorem B4r {K : Frag} {M : Model} {h : Heap} {R : Addr} (X : K.In h) (c : (clsIn K R).isSome = true) : Looks M h (isType (.ref R)) true := by
 unfold clsIn at c
 split at c
 . rename_i ho
   intro A' Q' E' s' k q
   unfold isType loadHead
   exact wpAny_bind (wpAny_loadPart (k _ _ (X _ _ ho)) (wpAny_pure q))
 . cases c
section
variable {X : Cx} {x n : Str} {np hpos pos : Pos} {R : Addr} {i : Nat} {body suite : List Stmt} {b₀ : Stmt} {tb : EK -> TS} {ts : Addr -> TS}
end
structure ExcK (K : Frag) (C : Addr) : Prop where
 ga : findIn K (.ref C) "__getattribute__" = some (some (.builtin "BaseException.__getattribute__"))
 gh : findIn K (.ref C) "__getattr__" = some none
 ca : findIn K (.ref C) "__class__" = some (some (.builtin "object.__class__"))
 sn : specialIn K (.builtin "object.__class__") "__get__" = some (some (.builtin "getset_descriptor.__get__"))
 tk : takesIn K (.builtin "object.__class__") = some true
 ob : mroIn K C (.type "object") = some true
 be : subIn K (.ref C) (.type "BaseException") = some true
 cl : (clsIn K C).isSome = true
theorem A8k {prog : Program} {w : World} {A : Around} {E : Value -> Shared -> Prop} {s : Shared} {K : Frag} {a C : Addr} {oa : Obj} {od : Option Obj} {Q : Option Value -> Shared -> Prop} (F : ExcK K C) (X : K.In s.heap) (I : PySem.W.InstAt s.heap a oa C od)
   (h : Q (some (.ref C)) { s with toks := s.toks + 1 }) : wpAny (model prog w) A (getAttr? (.ref a) "__class__") Q E s := by
 obtain ⟨hp, g, d, t, os⟩ := s
 have L0 := I.type (M := model prog w)
 have L1 := looks_findIn (M := model prog w) X F.ga
 have L2 := looks_findIn (M := model prog w) X F.gh
 have L3 : Looks (model prog w) hp (isInstance (.ref a) (.type "BaseException")) true := L0.andThen (looks_subIn X F.be)
 have hf : findObj K C od "__class__" = some (.bind (.builtin "getset_descriptor.__get__") (.builtin "object.__class__")) := by
   obtain ⟨cd, hc⟩ := Option.isSome_iff_exists.mp F.cl
   unfold findObj
   rw [hc, Option.bind_some, F.ca, Option.bind_some]
   simp [F.sn, F.tk]
 have L4 := looks_find (M := model prog w) X I hf
 have hk : builtinKind "BaseException.__getattribute__" = some .slot := by decide +kernel
 have hsplit : splitId "BaseException.__getattribute__" = some ("BaseException", "__getattribute__") := by decide +kernel
 have hargs := PySem.F.args_bexc_ga (.ref a) (.str "__class__" t)
 have hb := PySem.F.attr_ValueError.ga.bind (.ref a)
 unfold getAttr? getAttrBy? getAttrBy
 refine wpAny_bind (wpAny_mkText (wpAny_bind (wpAny_attempt (wpAny_holding (wpAny_bind (L0.at (wpAny_bind (L1.at ?_))))))))
 dsimp only
 rw [if_neg (show ¬ ((onTheHeap (Value.ref C) && Value.builtin "BaseException.__getattribute__" == Value.builtin "object.__getattribute__") = true) by
   rw [show (Value.builtin "BaseException.__getattribute__" == Value.builtin "object.__getattribute__") = false by decide +kernel, Bool.and_false]; exact Bool.false_ne_true)]
 unfold getAttrByItsOwn
 refine wpAny_bind (m := hookBefore (.ref C)) (L2.at ?_)
 refine wpAny_bind (wpAny_attempt (wpAny_holding ?_))
 unfold callGetattribute
 rw [if_neg (by decide)]
 unfold boundAndCalled
 rw [hb]
 refine wpAny_bind (wpAny_pure ?_)
 refine wpAny_call (codeAny_call_builtin PySem.F.attr_ValueError.ga.plain PySem.F.entry_bexc_ga ?_)
 have chk : ∀ {A' : Around} {Q' : Unit -> Shared -> Prop} {E' : Value -> Shared -> Prop}, Q' () ⟨hp, g, d, t + 1, os⟩ -> wpAny (model prog w) A' (checkBuiltinCall "BaseException.__getattribute__" ⟨[.ref a, .str "__class__" t], []⟩) Q' E' ⟨hp, g, d, t + 1, os⟩ := by
   intro A' Q' E' hq
   simp only [checkBuiltinCall, hk, hsplit]
   refine wpAny_bind ?_
   refine L3.at ?_
   repeat (first | assumption | wp_step)
 refine chk ?_
 show wpAny _ _ (Builtin.«object.__getattribute__» ⟨[.ref a, .str "__class__" t], []⟩) _ _ _
 unfold Builtin.«object.__getattribute__»
 refine wpAny_bind (wpAny_pure ?_)
 refine wpAny_bind (wpAny_pure ?_)
 refine wpAny_bind (L0.at (wpAny_bind (L4.at ?_)))
 dsimp only
 show wpAny _ _ (holding [Value.builtin "object.__class__"] (call (.builtin "getset_descriptor.__get__") [.builtin "object.__class__", .ref a, .ref C]) >>= ret) _ _ _
 refine wpAny_bind (wpAny_holding (wpAny_call (class_get (s := ⟨hp, g, d, t + 1, os⟩) X I F.ob (wpAny_pure ?_))))
 exact handed_on rfl (wpAny_pure h)
def V2 (X : Cx) : Prop := X.A.handled = none \/ ∃ x o u vs, X.A.handled = some (.ref x) /\ X.H₀ x = some (.frz o u) /\ o.data = .fields vs /\ vs[2]? = some .none
section
variable {X : Cx} {pins : List (Addr × Obj)} {σ : St} {H : Hp} {s : Shared}
theorem Inv.hdB {it : Addr} (I : Inv X pins σ H s) (h : V2 X) (hn : H it = none) : ∀ h' : Heap, Heap.ExtBut it s.heap h' -> Hd X.A h' := by
 intro h' k
 rcases h with z | ⟨x, o, u, vs, z, e, d, n⟩
 . exact .inl z
 . have q := I.base.frzs x o u e
   exact .inr ⟨x, o, vs, z, k x o (fun w => by rw [w, hn] at q; cases q) (I.hok x _ q).1, d, n⟩
end
structure TurnH (P : Program) (w : World) (K : Frag) (tg : Expr) (J : It) (it : Addr) (tn : Nat -> Heap -> Prop) : Prop where
 obj : ∀ i h, tn i h -> ∃ o, h.get? it = some o /\ ∀ v, o.data ≠ .cell v
 keep : ∀ i h h', tn i h -> (∀ o, h.get? it = some o -> h'.get? it = some o) -> tn i h'
 item : ∀ (X : Cx), X.prog = P -> X.w = w -> X.K = K -> V2 X -> ∀ (i : Nat) (pins : List (Addr × Obj)) (s : Shared) (σ : St) (H : Hp) (E : Value -> Shared -> Prop), Inv X pins σ H s -> A1w X pins H it -> tn i s.heap -> J.go i H ->
   wpAny (model P w) X.A (pyNext (.ref it)) (fun r s1 => ∃ u, r = some u /\
     wpAny (model P w) X.A (letOwnedTupleGo tg (.ref it) u) (fun _ s2 => ∃ x, Inv X pins σ H s2 /\ RelV x u /\ J.yld i H x H /\ tn (i + 1) s2.heap) E s1) E s
 done : ∀ (X : Cx), X.prog = P -> X.w = w -> X.K = K -> V2 X -> ∀ (i : Nat) (pins : List (Addr × Obj)) (s : Shared) (σ : St) (H : Hp) (E : Value -> Shared -> Prop), Inv X pins σ H s -> A1w X pins H it -> tn i s.heap -> J.stop i H ->
   wpAny (model P w) X.A (pyNext (.ref it)) (fun r s1 => r = none /\ Inv X pins σ H s1) E s
 self : ∀ (A : Around) (i : Nat) (s : Shared) (Q : Value -> Shared -> Prop) (E : Value -> Shared -> Prop), tn i s.heap -> Q (.ref it) s -> wpAny (model P w) A (pyIter (.ref it)) Q E s
theorem G9j {P : Program} {w : World} {K : Frag} {tg : Expr} (a it : Addr) : TurnH P w K tg (Itl K a) it (fun i h => h.IsListIter it a i) where
 obj := fun i h ⟨o, e, c, d⟩ => ⟨o, e, fun v z => by rw [d] at z; cases z⟩
 keep := fun i h h' st k => st.at fun o e => k o e
 item := by
   intro X hP hw hK hc i pins s σ H E I hf st hg
   subst hP hw hK
   obtain ⟨xs, x, hq, hx⟩ := hg
   obtain ⟨its, rv, p, hz⟩ := I.list hq
   obtain ⟨u, hu, ru⟩ := rv.get hx
   obtain ⟨f0, f1, f2, f3, f4, f5⟩ := hf
   refine wpAny_pyNext_list_item st p.isList (x := u) (by simpa using hu) fun h' st' sb => ?_
   have I1 : Inv X pins σ H { s with heap := h' } := I.turned (t' := s.toks) (fun b o hb e => (sb.2 b hb).trans e) f0 f1 f3 f4 f5
   obtain ⟨o, e, c, d⟩ := id st'
   exact ⟨u, rfl, G3g (s := { s with heap := h' }) e c d (by decide) ⟨x, I1, ru, ⟨rfl, fun ys hy => by rw [I.list_inj hy hq]; exact hx⟩, st'⟩⟩
 done := by
   intro X hP hw hK hc i pins s σ H E I hf st hg
   subst hP hw hK
   obtain ⟨xs, hq, hx⟩ := hg
   obtain ⟨its, rv, p, hz⟩ := I.list hq
   obtain ⟨f0, f1, f2, f3, f4, f5⟩ := hf
   have hl := rv.length
   exact B6a (I.hdB hc f0) st p.isList (by simp; omega) fun h' eb => ⟨rfl, I.turned (t' := s.toks) (fun b o hb e => eb b o hb e) f0 f1 f3 f4 f5⟩
 self := fun _ _ _ _ _ st h => wpAny_pyIter_listiter st h
theorem U0d {P : Program} {w : World} {K : Frag} {tg : Expr} (a it : Addr) : TurnH P w K tg (Itt K a) it (fun i h => h.IsTupleIter it a i) where
 obj := fun i h ⟨o, e, c, d⟩ => ⟨o, e, fun v z => by rw [d] at z; cases z⟩
 keep := fun i h h' st k => st.at fun o e => k o e
 item := by
   intro X hP hw hK hc i pins s σ H E I hf st hg
   subst hP hw hK
   obtain ⟨xs, x, hq, hx⟩ := hg
   obtain ⟨its, rv, p, hz⟩ := I.tuple hq
   obtain ⟨u, hu, ru⟩ := rv.get hx
   obtain ⟨f0, f1, f2, f3, f4, f5⟩ := hf
   refine wpAny_pyNext_tuple_item st (show s.heap.IsTuple a its.toArray from p) (x := u) (by simpa using hu) fun h' st' sb => ?_
   have I1 : Inv X pins σ H { s with heap := h' } := I.turned (t' := s.toks) (fun b o hb e => (sb.2 b hb).trans e) f0 f1 f3 f4 f5
   obtain ⟨o, e, c, d⟩ := id st'
   exact ⟨u, rfl, G3g (s := { s with heap := h' }) e c d (by decide) ⟨x, I1, ru, ⟨rfl, fun ys hy => by rw [I.tuple_inj hy hq]; exact hx⟩, st'⟩⟩
 done := by
   intro X hP hw hK hc i pins s σ H E I hf st hg
   subst hP hw hK
   obtain ⟨xs, hq, hx⟩ := hg
   obtain ⟨its, rv, p, hz⟩ := I.tuple hq
   obtain ⟨f0, f1, f2, f3, f4, f5⟩ := hf
   have hl := rv.length
   exact C0s (I.hdB hc f0) st p (by simp; omega) fun h' eb => ⟨rfl, I.turned (t' := s.toks) (fun b o hb e => eb b o hb e) f0 f1 f3 f4 f5⟩
 self := fun _ _ _ _ _ st h => wpAny_pyIter_tupleiter st h
def PIH (X : Cx) (tg iter : Expr) (wi : TI) : Prop :=
 ∀ (pins : List (Addr × Obj)) (s : Shared) (σ : St) (H : Hp) (R : It -> Hp -> Prop), Inv X pins σ H s -> wi σ H R ->
   wpAny (model X.prog X.w) X.A (eval iter X.env) (fun v s1 => wpAny (model X.prog X.w) X.A (pyIter v) (fun itv s2 => ∃ (it : Addr) (tn : Nat -> Heap -> Prop) (J : It) (H' : Hp), itv = .ref it /\ Inv X pins σ H' s2 /\ TurnH X.prog X.w X.K tg J it tn /\ tn 0 s2.heap /\
     A1w X pins H' it /\ R J H') X.xe s1) X.xe s
section
variable {X : Cx} {tg : Expr}
theorem V0h {l : Expr} {tl : TE} (hl : PE X l tl) : PIH X tg l (Z0e X.K tl) := by
 intro pins s σ H R I h
 refine thn (hl pins s σ H _ I h) fun v s1 ⟨x, H1, I1, r1, q1⟩ => ?_
 obtain ⟨a, e, ⟨xs, hq⟩, q⟩ := q1
 subst e
 cases r1
 obtain ⟨its, rv, p, hz⟩ := I1.list hq
 exact wpAny_pyIter_list p.isList ⟨s1.heap.objs.size, _, _, H1, rfl, I1.kept (t' := s1.toks) fun b o e => Heap.get?_push_of_some _ e, G9j a _, ⟨_, Heap.get?_push_size _ rfl, rfl, rfl⟩, I1.fpOk (Nat.le_refl _) (I1.hok.fresh (Nat.le_refl _)), q⟩
theorem Y6c {l : Expr} {tl : TE} (hl : PE X l tl) : PIH X tg l (Z9e X.K tl) := by
 intro pins s σ H R I h
 refine thn (hl pins s σ H _ I h) fun v s1 ⟨x, H1, I1, r1, q1⟩ => ?_
 obtain ⟨a, e, ⟨xs, hq⟩, q⟩ := q1
 subst e
 cases r1
 obtain ⟨its, rv, p, hz⟩ := I1.tuple hq
 exact wpAny_pyIter_tuple (show s1.heap.IsTuple a its.toArray from p) ⟨s1.heap.objs.size, _, _, H1, rfl, I1.kept (t' := s1.toks) fun b o e => Heap.get?_push_of_some _ e, U0d a _, ⟨_, Heap.get?_push_size _ rfl, rfl, rfl⟩, I1.fpOk (Nat.le_refl _) (I1.hok.fresh (Nat.le_refl _)), q⟩
end
theorem U7y {prog : Program} {w : World} {A : Around} {s : Shared} {elt target iter : Expr} {scope : Scope} {pos : Pos} {it acc : Value} {env : Env} {R : Result -> Shared -> Prop} (I : Nat -> Shared -> Prop)
   (turn : ∀ n s, I n s -> wpAny (model prog w) A (pyNext it) (fun r s₁ => match r with
     | none => R (.ok .next) s₁
     | some v => wpAny (model prog w) A (letOwnedTupleGo target it v) (fun _ s₀ => wpAny (model prog w) A (assign target env v) (fun _ s₂ => wpAny (model prog w) A (eval elt env) (fun x s₄ =>
         wpAny (model prog w) A (call (.builtin "list.append") [acc, x]) (fun _ s₅ => ∃ m, m < n /\ I m s₅) (notedBy (model prog w) A env fun e s' => R (.error e) s') s₄) (notedBy (model prog w) A env fun e s' => R (.error e) s') s₂)
         (notedBy (model prog w) A env fun e s' => R (.error e) s') s₀) (notedBy (model prog w) A env fun e s' => R (.error e) s') s₁) (notedBy (model prog w) A env fun e s' => R (.error e) s') s)
   (n : Nat) (h : I n s) : codeAny (model prog w) A (.compLoop (.ListComp elt [⟨target, iter, [], 0⟩] scope pos) 0 it acc env) R s := by
 refine codeAny_loop rfl I (fun n s hI => ?_) n h
 show wpAny _ A ((compTurn (.ListComp elt [⟨target, iter, [], 0⟩] scope pos) 0 it acc env).onRaise (fun x => do noteFrame x env; theTreesLotGoes x)) _ _ s
 refine wpAny_noted ?_; rw [compTurn_list1]
 refine wpAny_bind (wpAny_standAt (wpAny_bind (wpAny_mono (turn n s hI) (fun r s₁ h₁ => ?_) fun _ _ z => z)))
 cases r with
 | none => exact wpAny_pure h₁
 | some v =>
   refine wpAny_bind (wpAny_mono h₁ (fun _ s₀ q₀ => ?_) fun _ _ z => z)
   refine wpAny_bind (wpAny_mono q₀ (fun _ s₂ q₂ => ?_) fun _ _ z => z)
   exact wpAny_bind (wpAny_bind (wpAny_mono q₂ (fun x s₄ q₄ => wpAny_bind (wpAny_mono q₄ (fun _ s₅ q₅ => wpAny_pure (wpAny_pure ⟨rfl, q₅⟩)) fun _ _ z => z)) fun _ _ z => z))
section
variable {X : Cx}
theorem J8n {pins : List (Addr × Obj)} {σ : St} {H : Hp} {s : Shared} {C : Addr} {h' : Heap} (I : Inv X pins σ H s) (f : A1w X pins H C) (sb : Heap.SameBut C s.heap h') : Inv X pins σ H { s with heap := h' } :=
 I.turned (t' := s.toks) (fun b o hb e => (sb.2 b hb).trans e) f.1 f.2.1 f.2.2.2.1 f.2.2.2.2.1 f.2.2.2.2.2
end
section
variable {X : Cx} {a b c : Expr} {ta tb tc : TE} {pos : Pos}
theorem D6 : OpR X (binaryOp .Mult) (rI IntMulOk fun i j => .int (i * j)) := opI fun _ _ _ _ _ _ _ hc q => mul_int q hc
theorem G6 : OpR X (binaryOp .FloorDiv) (rI (fun _ j => 0 < j /\ j.natAbs.log2 < 9000) fun i j => .int (i / j)) := opI fun i j _ _ _ _ _ hc q => by
 have h1 : (0 : Int) < j := hc.1
 exact floordiv_int (by omega) (by rw [Int.fdiv_eq_ediv_of_nonneg i (by omega)]; exact q) (.inl (PyProof.noPylong_of_log2 hc.2))
theorem A2g {i : Int} {k : Nat} (h : i.natAbs < 2 ^ k) (hk : 0 < k) : i.natAbs.log2 < k := by
 by_cases z : i.natAbs = 0
 . rw [z]; simpa using hk
 . exact (Nat.log2_lt z).mpr h
theorem C2a {i : Int} (h : i.natAbs < 2 ^ 1000) : Builtin.Int.intBits i <= 2 ^ 20 := by
 unfold Builtin.Int.intBits
 split
 . exact Nat.zero_le _
 . have := A2g h (by decide)
   have e : (2 : Nat) ^ 20 = 1048576 := by decide
   omega
theorem U0 {i j : Int} (h : i.natAbs < 2 ^ 1000) (h' : j.natAbs < 2 ^ 1000) : IntMulOk i j := IntMulOk.of_bits (C2a h) (C2a h')
inductive TyE (K : Frag) (H : Hp) : V -> Value -> Prop where
 | of {x : V} {t : Value} (h : TyOf K H x t) : TyE K H x t
 | exc {a C t : Addr} {T : Value} {u : HO} (e : H a = some (.frz (A0z (.ref C) t none T) u)) (k : ExcK K C) : TyE K H (.ref a) (.ref C)
 | excD {a C t : Addr} {T : Value} {d : Addr} {u : HO} {fs : List (Str × V)} (e : H a = some (.frz (A0z (.ref C) t (some d) T) u)) (hd : H d = some (.xd fs)) (k : ExcK K C) : TyE K H (.ref a) (.ref C)
 | tupK {a : Addr} {o : Obj} (l : K.lookup a = some o) (c : o.cls = .type "tuple") : TyE K H (.ref a) (.type "tuple")
theorem G8a {pins : List (Addr × Obj)} {σ : St} {H : Hp} {s : Shared} {A : Around} {E : Value -> Shared -> Prop} {Q : Value -> Shared -> Prop} {c : Value} {b : Bool} {x : V} {u t : Value} (I : Inv X pins σ H s) (rx : RelV x u) (ty : TyE X.K H x t)
   (e : kitOne X.K t c = some b) (h : ∀ tk, Q (.bool b) { s with toks := tk }) : wpAny (model X.prog X.w) A (call (.builtin "isinstance") [u, c]) Q E s := by
 cases ty with
 | of h' => exact U1e I rx h' e h
 | exc ea k =>
   cases rx
   rename_i a C t0 T u0
   have o1 : s.heap.get? a = some (A0z (.ref C) t0 none T) := (I.hok a _ ea).1
   refine kia_one (H := fun h => PySem.W.InstAt h a (A0z (.ref C) t0 none T) C none) ?_ I.kIn ⟨o1, rfl, rfl, trivial⟩ e (fun z => nomatch z) h
   refine ⟨fun M h _ J => J.type, fun M h K _ => B4r K k.cl, fun h tp dd its n sl K htp => ?_, fun K J q => A8k k K J q⟩
   refine Bool.eq_false_iff.mpr fun q => ?_
   have e : C = tp := Value.ref.inj (beq_iff_eq.mp q)
   subst e
   have z := k.cl
   unfold clsIn at z
   split at z
   . rename_i ho
     have y := (K _ _ ho).symm.trans htp
     cases y
   . cases z
 | tupK l c =>
   cases rx
   exact PySem.W.kia_one PySem.W.kitx_tuple I.kIn ⟨_, I.kIn _ _ l, c⟩ e (fun z => nomatch z) h
 | excD ea hd k =>
   cases rx
   rename_i a C t0 T d u0 fs
   have o1 : s.heap.get? a = some (A0z (.ref C) t0 (some d) T) := (I.hok a _ ea).1
   obtain ⟨mA, nA, _⟩ := (show ∃ mA, s.heap.Ns1 d mA /\ ∀ f, RelO (fs.lookup f) (mA f) from I.hok d _ hd)
   obtain ⟨od, o2, _⟩ := D0t nA
   refine kia_one (H := fun h => PySem.W.InstAt h a (A0z (.ref C) t0 (some d) T) C (some od)) ?_ I.kIn ⟨o1, rfl, rfl, o2⟩ e (fun z => nomatch z) h
   refine ⟨fun M h _ J => J.type, fun M h K _ => B4r K k.cl, fun h tp dd its n sl K htp => ?_, fun K J q => A8k k K J q⟩
   refine Bool.eq_false_iff.mpr fun q => ?_
   have e : C = tp := Value.ref.inj (beq_iff_eq.mp q)
   subst e
   have z := k.cl
   unfold clsIn at z
   split at z
   . rename_i ho
     have y := (K _ _ ho).symm.trans htp
     cases y
   . cases z
def Z3g : V -> Option Value
 | .ty n => some (.type n)
 | .ref a => some (.ref a)
 | _ => none
theorem G2y : A7t X (.builtin "isinstance") (fun xs H Q => ∃ x c cv t b, xs = [x, c] /\ Z3g c = some cv /\ TyE X.K H x t /\ kitOne X.K t cv = some b /\ Q (.bl b) H) := by
 intro pins s σ H xs us Q I r h
 obtain ⟨x, c, cv, t, b, rfl, hc, ty, e, q⟩ := h
 obtain ⟨u, v, rfl, ru, rv⟩ := Vals.two r
 have : v = cv := by
   cases c <;> simp only [Z3g] at hc <;> first | (cases hc; exact rv) | cases hc
 subst this
 exact G8a I ru ty e fun tk => ⟨.bl b, H, I.tok tk, rfl, q⟩
mutual
inductive RdD (K : Frag) (H : Hp) : V -> PyData -> Prop where
 | non : RdD K H .non .none
 | bl (b : Bool) : RdD K H (.bl b) (.bool b)
 | int (i : Int) : RdD K H (.int i) (.int i)
 | str (x : Str) : RdD K H (.str x) (.str x)
 | tup {a : Addr} {xs : List V} {ds : List PyData} (h : SqT K H a xs) (r : RdDs K H xs ds) : RdD K H (.ref a) (.tuple ds)
 | lst {a : Addr} {xs : List V} {ds : List PyData} (h : SqL K H a xs) (r : RdDs K H xs ds) : RdD K H (.ref a) (.list ds)
inductive RdDs (K : Frag) (H : Hp) : List V -> List PyData -> Prop where
 | nil : RdDs K H [] []
 | cons {x : V} {xs : List V} {d : PyData} {ds : List PyData} (h : RdD K H x d) (r : RdDs K H xs ds) : RdDs K H (x :: xs) (d :: ds)
end
mutual
theorem RdD.reads {pins : List (Addr × Obj)} {σ : St} {H : Hp} {s : Shared} (I : Inv X pins σ H s) : ∀ {x : V} {d : PyData} {u : Value}, RdD X.K H x d -> RelV x u -> ∃ as, Reads s.heap u d as
 | _, _, _, .non, r => by cases r; exact ⟨_, .none⟩
 | _, _, _, .bl b, r => by cases r; exact ⟨_, .bool b⟩
 | _, _, _, .int i, r => by obtain ⟨t, rfl⟩ := r; exact ⟨_, .int i t⟩
 | _, _, _, .str x, r => by obtain ⟨t, rfl⟩ := r; exact ⟨_, .str x t⟩
 | _, _, _, .tup h q, r => by
   cases r
   obtain ⟨its, rv, ⟨o, e, c, n, d⟩, _⟩ := I.tuple h
   obtain ⟨as, z⟩ := RdDs.reads I q rv
   exact ⟨_, reads_tuple_at e c d (by simpa using z)⟩
 | _, _, _, .lst h q, r => by
   cases r
   obtain ⟨its, rv, p, _⟩ := I.list h
   obtain ⟨o, e, c, n, d⟩ := p.isList
   obtain ⟨as, z⟩ := RdDs.reads I q rv
   exact ⟨_, reads_list_at e c d (by simpa using z)⟩
theorem RdDs.reads {pins : List (Addr × Obj)} {σ : St} {H : Hp} {s : Shared} (I : Inv X pins σ H s) : ∀ {xs : List V} {ds : List PyData} {us : List Value}, RdDs X.K H xs ds -> Vals xs us -> ∃ as, ReadsAll s.heap us ds as
 | _, _, _, .nil, r => by cases r; exact ⟨_, .nil⟩
 | _, _, _, .cons h q, r => by
   cases r with
   | cons r1 r2 =>
     obtain ⟨as, z⟩ := RdD.reads I h r1
     obtain ⟨bs, y⟩ := RdDs.reads I q r2
     exact ⟨_, .cons z y⟩
end
def Z3d (K : Frag) (n : Bool) : R2 := fun x y H Q => ∃ d e, RdD K H x d /\ RdD K H y e /\ SeqAt.shaped d = true /\ SeqAt.shaped e = true /\ Q (.bl (if n then !PyData.eqv d e else PyData.eqv d e)) H
theorem C3e (hu : X.A.units + 64 < cLine) : OpR X (compareOp .Eq) (Z3d X.K false) := by
 intro pins s σ H x y v u Q I rx ry q
 obtain ⟨d, e, hx, hy, sd, se, q⟩ := q
 obtain ⟨as, z⟩ := hx.reads I rx
 obtain ⟨bs, z'⟩ := hy.reads I ry
 exact eq_dataH z z' sd se hu ⟨.bl (PyData.eqv d e), H, I, rfl, q⟩
theorem D2x (hu : X.A.units + 64 < cLine) : OpR X (compareOp .NotEq) (Z3d X.K true) := by
 intro pins s σ H x y v u Q I rx ry q
 obtain ⟨d, e, hx, hy, sd, se, q⟩ := q
 obtain ⟨as, z⟩ := hx.reads I rx
 obtain ⟨bs, z'⟩ := hy.reads I ry
 exact ne_dataH z z' sd se hu ⟨.bl (!PyData.eqv d e), H, I, rfl, q⟩
theorem U7z (hc : X.A.handled = none) : A7t X (.builtin "any") (fun xs H Q => ∃ (l : Addr) (bs : List Bool), xs = [.ref l] /\ SqL X.K H l (bs.map V.bl) /\ Q (.bl (bs.any id)) H) := by
 intro pins s σ H xs us Q I r h
 obtain ⟨l, bs, rfl, hl, q⟩ := h
 obtain ⟨u, rfl, ru⟩ := Vals.one r
 cases ru
 obtain ⟨its, rv, p, hz⟩ := I.list hl
 obtain ⟨o, e, _⟩ := id p.isList
 have hlt : l < s.heap.objs.size := Heap.lt_size e
 have hlen : its.length = bs.length := by rw [<- rv.length, List.length_map]
 refine call_any_walk (wpAny_pyIter_list p.isList ?_)
 refine ⟨s.heap.objs.size, [s.heap.objs.size, l], [s.heap.objs.size], its.toArray.size, _, _, fun i => (bs[i]?).getD false, rfl, Walks.list (A := X.A.in1) hc _ l (Nat.ne_of_lt hlt) its.toArray, ⟨⟨_, Heap.get?_push_size _ rfl, rfl, rfl⟩, p.isList.push _⟩, fun i v s' Q' E' hP hQ => ?_, fun h' tk hk => ?_⟩
 . have hP : its[i]? = some v := by simpa using hP
   have hi : i < bs.length := by rw [<- hlen]; exact (List.getElem?_eq_some_iff.mp hP).1
   obtain ⟨u', hu', ru'⟩ := rv.get (i := i) (x := V.bl bs[i]) (by simp [hi])
   rw [hP] at hu'
   cases hu'
   cases ru'
   have z : (bs[i]?).getD false = bs[i] := by simp [hi]
   dsimp only at hQ
   rw [z] at hQ
   exact wpAny_truthy_bool hQ
 . have z : ((List.range its.toArray.size).any fun i => (bs[i]?).getD false) = bs.any id := by
     rw [List.size_toArray, hlen]
     exact LSm.range_any bs
   rw [z]
   exact ⟨.bl (bs.any id), H, I.kept fun b x e => hk b x (fun hm => by rw [List.mem_singleton.mp hm] at e; exact Nat.lt_irrefl _ (Heap.lt_size e)) (Heap.get?_push_of_some _ e), rfl, q⟩
inductive FPart (X : Cx) : Expr -> TE -> Prop where
 | lit {x : Str} {j : Nat} {pos : Pos} : FPart X (.Constant (.str x) j pos) (tC (.str x))
 | int {v : Expr} {tv : TE} {pos : Pos} (h : PE X v tv) : FPart X (.FormattedValue v (-1) none pos) (fun σ H Q => tv σ H fun y H1 => ∃ i, y = .int i /\ i.natAbs.log2 < 1920 /\ Q (.str (toString i)) H1)
theorem FPart.pe {e : Expr} {t : TE} (h : FPart X e t) : PE X e t := by
 cases h with
 | lit => exact B5
 | int h =>
   intro pins s σ H Q I q
   refine FormattedValue_plain (thn (h pins s σ H _ I q) fun u s1 ⟨y, H1, I1, r, i, e, l, q⟩ => ?_)
   subst e
   obtain ⟨t, rfl⟩ := r
   exact formatField_int_small l ⟨.str (toString i), H1, I1.tok _, ⟨_, rfl⟩, q⟩
inductive FParts (X : Cx) : List Expr -> (Str -> TE) -> Prop where
 | nil : FParts X [] (fun out _ H Q => out.length <= sizeLine /\ Q (.str out) H)
 | cons {e : Expr} {es : List Expr} {t : TE} {r : Str -> TE} (h : FPart X e t) (hr : FParts X es r) : FParts X (e :: es) (fun out σ H Q => t σ H fun x H1 => ∃ y, x = .str y /\ (out ++ y).length <= sizeLine /\ r (out ++ y) σ H1 Q)
theorem FParts.run {es : List Expr} {t : Str -> TE} (h : FParts X es t) : ∀ (out : Str) (pins : List (Addr × Obj)) (s : Shared) (σ : St) (H : Hp) (Q : VK), Inv X pins σ H s -> t out σ H Q ->
   wpAny (model X.prog X.w) X.A (joinParts out (evalEach es X.env)) (EP X pins σ Q) X.xe s := by
 induction h with
 | nil =>
   intro out pins s σ H Q I q
   exact joinParts_nil ⟨.str out, H, I.tok _, ⟨_, rfl⟩, q.2⟩ q.1
 | @cons e es t r h hr ih =>
   intro out pins s σ H Q I q
   show wpAny _ _ (joinParts out (eval e X.env :: evalEach es X.env)) _ _ _
   refine joinParts_cons (thn (h.pe pins s σ H _ I q) fun u s1 ⟨x, H1, I1, rx, y, ey, z, q⟩ => ?_)
   subst ey
   obtain ⟨t', rfl⟩ := rx
   exact ⟨z, ih _ pins s1 σ H1 Q I1 q⟩
theorem J8g {e1 e2 : Expr} {es : List Expr} {t : Str -> TE} {pos : Pos} (h : FParts X (e1 :: e2 :: es) t) : PE X (.JoinedStr (e1 :: e2 :: es) pos) (t Str.empty) := by
 intro pins s σ H Q I q
 exact JoinedStr_many (h.run _ pins s σ H Q I q)
end
section
variable {P : Program} {w : World} {K : Frag} {mg : Str -> Option Value} {base : Heap}
end
section
variable {X : Cx} {k : Nat} {f : Addr} {fd : FuncData} {ps : List Str} {sp : Sp} {x : Str} {p pos : Pos} {e : Expr} {es : List Expr} {t : TA}
end
theorem Inv.big {X : Cx} {pins : List (Addr × Obj)} {σ : St} {H : Hp} {s : Shared} (I : Inv X pins σ H s) : sysModules < s.heap.objs.size := by
 have h : mainGlobals < s.heap.objs.size := (I.mod.glob.keeps I.bk).lt
 exact Nat.lt_trans (by decide) h
theorem G2t {P : Program} {w : World} {H : Hp} (h : Heap) (hb : sysModules < h.objs.size) : ObjOk P w H (h.push { cls := .type "dict", data := .dict #[] }) h.objs.size (.dK []) :=
 ⟨Nat.zero_le _, beq_eq_false_iff_ne.mpr (Ne.symm (Nat.ne_of_lt hb)), [], .nil, Heap.DictOf.new h⟩
def Z1c : TE := fun _ H Q => ∀ p, H p = none -> Q (.ref p) (upd H p (.dK []))
theorem U7v {X : Cx} {pos : Pos} : PE X (.Dict [] [] pos) Z1c := fun pins s σ H Q I h =>
 wpAny_Dict_empty ⟨.ref s.heap.objs.size, _, I.laid (a := s.heap.objs.size) (o := .dK []) (t' := s.toks) (fun _ _ q => Heap.get?_push_of_some _ q) (Nat.le_refl _) (G2t s.heap I.big), rfl, h _ (I.hok.fresh (Nat.le_refl _))⟩
abbrev EKF : EK := fun _ _ _ _ => False
theorem J5 {X : Cx} : D8 X EKF := fun _ _ _ _ _ _ _ _ _ _ h => h.elim
structure Def (K : Frag) (mg : Str -> Option Value) (x : Str) (ps : List Str) (st : Stmt) (f : Addr) (fd : FuncData) : Prop where
 F : Fun K x x st f fd
 g : mg x = some (.ref f)
 b : Binds K fd ps []
theorem D3 {K : Frag} {h : Heap} {mg : Str -> Option Value} {x : Str} {ps : List Str} {st : Stmt} {f : Addr} {oc : Value} {od an : Option Addr} {osl : Array (Option Value)} {kV doc pm cdv ct : Value} (X : K.In h) (G : h.Ns mainGlobals mg)
   (a : nsIn K mainGlobals x = some (some (.ref f))) (l : K.lookup f = some ⟨oc, od, .func (fnOf x x (A9 st) (A8 st) (A1 st) .none kV doc pm an cdv ct), osl⟩) (c : codeIn K cdv x = true) (k : keepIn K (.ref f) = true)
   (hb : ∀ (kV doc pm : Value) (an : Option Addr) (cdv ct : Value) (us : List Value), us.length = ps.length -> bindArgs (fnOf x x (A9 st) (A8 st) (A1 st) .none kV doc pm an cdv ct) ⟨us, []⟩ = pure (ps.zip us)) :
   Def K mg x ps st f (fnOf x x (A9 st) (A8 st) (A1 st) .none kV doc pm an cdv ct) :=
 ⟨D9 (st := st) l c k, mg_of X G a, (D9 (st := st) l c k).binds hb⟩
theorem C1x {c A B : Prop} [Decidable c] (h : ¬ c) (b : B) : if decide c = true then A else B := by rw [decide_eq_false h]; exact J9 b
theorem B4n {c A B : Prop} [Decidable c] (h : c) (a : A) : if decide c = true then A else B := by rw [decide_eq_true h]; exact Z3 a
theorem U3 {c A B : Prop} [Decidable c] (a : c -> A) (b : ¬ c -> B) : if decide c = true then A else B := by
 by_cases h : c
 . exact B4n h (a h)
 . exact C1x h (b h)
def Z8p (t : TS) : TS := fun D σ H => ∃ J : St -> Hp -> Prop, t { D with nx := J } σ H /\ ∀ σ' H', J σ' H' -> D.nx σ' H'
theorem C6 {X : Cx} {st : Stmt} {t : TS} (h : PS X st t) : PS X st (Z8p t) := by
 intro pins s σ H D I q
 obtain ⟨J, q, k⟩ := q
 refine thn (h pins s σ H _ I q) fun f s' z => ?_
 cases f with
 | next => obtain ⟨σ', H', I', y⟩ := z; exact ⟨σ', H', I', k _ _ y⟩
 | brk => exact z
 | cont => exact z
 | ret u => exact z
theorem Same.upd {H : Hp} {p : Addr} {o : HO} (h : H p = none) : Same H (L2.upd H p o) := fun b u e => by rw [C0 (B7 e h)]; exact e
theorem D7 {n : Nat} (h : n <= 1000) : n <= sizeLine := Nat.le_of_lt (V0 h)
section
variable {X : Cx} {k j : Nat} {f : Addr} {fd : FuncData} {ps : List Str} {sp : Sp} {EH : EK} {x : Str} {st : Stmt} {p pos : Pos} {e : Expr} {es : List Expr} {t : TA}
theorem B9 (D : Def X.K X.mg x ps st f fd) (F : FnOk X.prog X.w X.K X.mg X.base (CX1 X.prog X.w) j f fd ps sp) (hr : Room k X.A) (hx : D8 X EH) (ha : PA X (e :: es) t) (hj : j <= k := by decide) (hg : Gl X x := by rfl) (hex : X.ex = [] := by rfl) (hdb : (x == ("__debug__" : Str)) = false := by decide)
   (he : starEach (e :: es) X.env = (false, eval e X.env) :: starEach es X.env := by rfl) (hpl : (backTo pos (starEach es X.env)).any (·.1) = false := by rfl) : PE X (.Call (.Name x p) (e :: es) [] pos) (D2r sp [] EH t) :=
 V0p (F.mono hj) hr hg D.g D.F.kp D.b .nil hx ha hex hdb he hpl
theorem G8y (D : Def X.K X.mg x ps st f fd) (F : FnOk X.prog X.w X.K X.mg X.base (CX1 X.prog X.w) j f fd ps sp) (hr : Room k X.A) (hx : D8 X EH) (hj : j <= k := by decide) (hg : Gl X x := by rfl) (hex : X.ex = [] := by rfl) (hdb : (x == ("__debug__" : Str)) = false := by decide) :
   PE X (.Call (.Name x p) [] [] pos) (D2r sp [] EH V1b) :=
 U0z (F.mono hj) hr hg D.g D.F.kp D.b .nil hx hex hdb
theorem pty {n : Str} {T : String} (hm : X.mg n = none) (hv : bootBuiltins n = some (.type T)) (hg : Gl X n := by rfl) (hn : n ≠ "__name__" := by decide) (hdb : (n == ("__debug__" : Str)) = false := by decide) : PE X (.Name n pos) (tC (.ty T)) := Y6u hg hm hv rfl hn hdb
theorem Z2n {n : Str} {C : Addr} (hm : X.mg n = some (.ref C)) (hg : Gl X n := by rfl) (hdb : (n == ("__debug__" : Str)) = false := by decide) : PE X (.Name n pos) (tC (.ref C)) := Y7c hg hm rfl hdb
theorem U0k {a b : Expr} {ta tb : TE} (hm : X.mg "isinstance" = none) (ha : PE X a ta) (hb : PE X b tb) (hg : Gl X "isinstance" := by rfl)
   (h1 : starEach [a, b] X.env = (false, eval a X.env) :: starEach [b] X.env := by rfl) (h2 : starEach [b] X.env = (false, eval b X.env) :: starEach [] X.env := by rfl) (h3 : (backTo pos (starEach [b] X.env)).any (·.1) = false := by rfl) :
   PE X (.Call (.Name "isinstance" p) [a, b] [] pos) (tCB (fun xs H Q => ∃ x c cv t b, xs = [x, c] /\ Z3g c = some cv /\ TyE X.K H x t /\ kitOne X.K t cv = some b /\ Q (.bl b) H) (U9e ta (U9e tb V1b))) :=
 J7 G2y hg hm boot_isinstance (A0 ha (A0 hb A5 h2) h1) (he := h1) (hpl := h3)
end
section
variable {X : Cx} {k j : Nat} {f : Addr} {fd : FuncData} {ps : List Str} {sp : Sp} {x : Str} {st : Stmt} {p pos : Pos} {e : Expr} {es : List Expr} {t : TA}
theorem J9b {K : Frag} (hK : X.K = K) (hu : X.A.units + 64 < cLine) : OpR X (compareOp .NotEq) (Z3d K true) := by subst hK; exact D2x hu
end
structure Mk0 (K : Frag) (C : Addr) : Prop where
 makes : makesIn K C = true
 init : findIn K (.ref C) "__init__" = some (some (.builtin "object.__init__"))
 kp : keepIn K (.ref C) = true
section
variable {X : Cx} {k j : Nat} {f C : Addr} {fd : FuncData} {ps : List Str} {sp : Sp} {dvs : List V} {ds : List Value} {EH : EK} {x m : Str} {p pos apos : Pos} {e o : Expr} {es : List Expr} {ta : TE} {t : TA}
def Z1k (C : Addr) : TE := fun _ H Q => ∀ x dx, H x = none -> H dx = none -> dx ≠ x -> Q (.ref x) (upd (upd H dx (.own x)) x (.ins C dx []))
theorem Y5b {pins : List (Addr × Obj)} {σ : St} {H : Hp} {s : Shared} {Q : VK} (M : Mk0 X.K C) (I : Inv X pins σ H s) (h : Z1k C σ H Q) : wpAny (model X.prog X.w) X.A (call (.ref C) []) (EP X pins σ Q) X.xe s := by
 have hq := h (s.heap.objs.size + 1) s.heap.objs.size (I.hok.fresh (Nat.le_succ _)) (I.hok.fresh (Nat.le_refl _)) (Nat.ne_of_lt (Nat.lt_succ_self _))
 have I2 := Inv.made (C := C) I
 have Y := makes_of (M := model X.prog X.w) I.kIn M.makes
 refine wpAny_call (U2w I.kIn M.makes M.init (fun self => Looks.of_pure (oi_bind self)) ?_)
 have e2 : ((s.heap.push emptyDict).push (instObj C s.heap.objs.size)).get? (s.heap.objs.size + 1) = some (instObj C s.heap.objs.size) := by
   have := Heap.get?_push_size (s.heap.push emptyDict) (o := instObj C s.heap.objs.size) rfl
   rwa [Heap.size_push] at this
 have t1 : Looks (model X.prog X.w) ((s.heap.push emptyDict).push (instObj C s.heap.objs.size)) (typeOf (.ref (s.heap.objs.size + 1))) (.ref C) := (Looks.ld e2).andThen .now
 have t2 : Looks (model X.prog X.w) ((s.heap.push emptyDict).push (instObj C s.heap.objs.size)) (isInstance (.ref (s.heap.objs.size + 1)) (.type "object")) true := t1.andThen (Y.top.keeps fun b o e => Heap.get?_push_of_some _ (Heap.get?_push_of_some _ e))
 refine codeAny_call_builtin oi_plain entry_oi (@check_slot (model X.prog X.w) _ _ _ "object.__init__" "object" "__init__" (.ref (s.heap.objs.size + 1)) [] [] _ oi_kind oi_split t2 (oi_args (.ref (s.heap.objs.size + 1))) ?_)
 rw [oi_run]
 exact wpAny_pure (And.intro rfl ⟨V.ref (s.heap.objs.size + 1), _, I2, rfl, hq⟩)
theorem A7u (M : Mk0 X.K C) (hg : Gl X x) (hm : X.mg x = some (.ref C)) (hdb : (x == ("__debug__" : Str)) = false := by decide) : PE X (.Call (.Name x p) [] [] pos) (Z1k C) := by
 intro pins s σ H Q I h
 refine wpAny_Call_Name_kw (A2x I hg hm ?_ hdb)
 exact callWith_K0 I.kIn M.kp (Y5b M I h)
def U8r (C : Addr) (m : Str) (sp : Sp) (dvs : List V) (EH : EK) (ta : TE) (t : TA) : TE := fun σ H Q => ta σ H fun x H1 => ∃ a dx fs, x = .ref a /\ H1 a = some (.ins C dx fs) /\ fs.lookup m = none /\
 t σ H1 fun vs H2 => sp (x :: (vs ++ dvs)) H2 Q (fun C d H' => EH C d σ H')
theorem C2k {pl : Sem Bool} (he : PE X o ta) (c : Cls X.K C) (hm : Meth X.K C m f) (F : FnOk X.prog X.w X.K X.mg X.base (CX1 X.prog X.w) j f fd ps sp) (hr : Room k X.A) (hb : Binds X.K fd ps ds) (hd : Vals dvs ds) (hx : D8 X EH) (ha : PA X (e :: es) t)
   (hj : j <= k := by decide) (hex : X.ex = [] := by rfl)
   (hst : starEach (e :: es) X.env = (false, eval e X.env) :: starEach es X.env := by rfl) (hpl : (backTo pos (starEach es X.env)).any (·.1) = false := by rfl)
   (ht : eval (.Call (.Attribute o m apos) (e :: es) [] pos) X.env = (do
     let ov <- eval o X.env
     standAt apos.atName
     let (f, first) <- holding [ov] (getMethod ov m pl)
     callWith pos f first (backTo pos (starEach (e :: es) X.env)) (backToKw pos (keywordEach [] X.env))) := by rfl) :
   PE X (.Call (.Attribute o m apos) (e :: es) [] pos) (U8r C m sp dvs EH ta t) := by
 intro pins s σ H Q I h
 refine methodCall_KW (pl := pl) (thn (he pins s σ H _ I h) fun u s1 ⟨x, H1, I1, rx, a, dx, fs, ex, ea, l, q⟩ => ?_) ht
 subst ex
 obtain rfl : u = Value.ref a := rx
 refine C2v I1 ea c hm l ?_
 refine callWith_K (first := [.ref a]) (h₀ := X.base) I.ok.mod.kin hm.kp (thn (ha pos pins s1 σ H1 _ I1 q) fun us s2 ⟨vs, H2, I2, r, q2⟩ => ⟨I2.kIn, ?_⟩) hst hpl
 exact C0u (us := .ref a :: us) (vs := .ref a :: vs) (F.mono hj) hr hb hd hx hex I2 (.cons rfl r) q2
theorem A4r {pl : Sem Bool} (he : PE X o ta) (c : Cls X.K C) (hm : Meth X.K C m f) (F : FnOk X.prog X.w X.K X.mg X.base (CX1 X.prog X.w) j f fd ps sp) (hr : Room k X.A) (hb : Binds X.K fd ps ds) (hd : Vals dvs ds) (hx : D8 X EH)
   (hj : j <= k := by decide) (hex : X.ex = [] := by rfl)
   (ht : eval (.Call (.Attribute o m apos) [] [] pos) X.env = (do
     let ov <- eval o X.env
     standAt apos.atName
     let (f, first) <- holding [ov] (getMethod ov m pl)
     callWith pos f first (backTo pos (starEach [] X.env)) (backToKw pos (keywordEach [] X.env))) := by rfl) :
   PE X (.Call (.Attribute o m apos) [] [] pos) (U8r C m sp dvs EH ta V1b) := by
 intro pins s σ H Q I h
 refine methodCall_KW (pl := pl) (thn (he pins s σ H _ I h) fun u s1 ⟨x, H1, I1, rx, a, dx, fs, ex, ea, l, q⟩ => ?_) ht
 subst ex
 obtain rfl : u = Value.ref a := rx
 refine C2v I1 ea c hm l ?_
 exact callWith_K0 (first := [.ref a]) I1.kIn hm.kp (C0u (us := [.ref a]) (vs := [.ref a]) (F.mono hj) hr hb hd hx hex I1 (.cons rfl .nil) q)
def Z1e (C : Addr) (sp : Sp) (dvs : List V) (EH : EK) (t : TA) : TE := fun σ H Q => t σ H fun vs H1 => ∀ x dx, H1 x = none -> H1 dx = none -> dx ≠ x ->
 sp (.ref x :: (vs ++ dvs)) (upd (upd H1 dx (.own x)) x (.ins C dx [])) (fun v H2 => v = .non /\ Q (.ref x) H2) (fun C d H' => EH C d σ H')
theorem U1p {pins : List (Addr × Obj)} {σ : St} {H : Hp} {s : Shared} {Q : VK} {us : List Value} {vs : List V} (M : Mk X.K C f) (F : FnOk X.prog X.w X.K X.mg X.base (CX1 X.prog X.w) k f fd ps sp) (hr : Room (k + 1) X.A) (hb : Binds X.K fd ps ds) (hd : Vals dvs ds)
   (hx : D8 X EH) (hex : X.ex = []) (I : Inv X pins σ H s) (r : Vals vs us)
   (h : ∀ x dx, H x = none -> H dx = none -> dx ≠ x -> sp (.ref x :: (vs ++ dvs)) (upd (upd H dx (.own x)) x (.ins C dx [])) (fun v H2 => v = .non /\ Q (.ref x) H2) (fun C d H' => EH C d σ H')) :
   wpAny (model X.prog X.w) X.A (call (.ref C) us) (EP X pins σ Q) X.xe s := by
 have hq := h (s.heap.objs.size + 1) s.heap.objs.size (I.hok.fresh (Nat.le_succ _)) (I.hok.fresh (Nat.le_refl _)) (Nat.ne_of_lt (Nat.lt_succ_self _))
 have I2 := Inv.made (C := C) I
 have r2 : Vals (V.ref (s.heap.objs.size + 1) :: (vs ++ dvs)) (Value.ref (s.heap.objs.size + 1) :: (us ++ ds)) := .cons rfl (r.append hd)
 have hl : (Value.ref (s.heap.objs.size + 1) :: us ++ ds).length = ps.length := by
   have e := r2.length
   rw [F.len _ _ _ _ hq] at e
   exact e.symm
 refine wpAny_call (G2j (f := f) I.kIn M.makes M.init (beq_iff_eq.mp M.fn) (codeAny_mono (F.run _ X.stack _ _ ⟨Value.ref (s.heap.objs.size + 1) :: us, []⟩ (Value.ref (s.heap.objs.size + 1) :: (us ++ ds)) _ _ _ (hr.make C us [])
   (I2.env0.make C us []) (hb _ (Value.ref (s.heap.objs.size + 1) :: us) I2.kIn hl) r2 hq) fun r s' hq' => ?_))
 cases r with
 | error e => exact Z6z hx hex I2 hq'
 | ok fl =>
   cases fl with
   | ret u =>
     obtain ⟨v, H', I3, rv, ev, q3⟩ := I2.after hq'
     subst ev
     exact ⟨rv, ⟨V.ref (s.heap.objs.size + 1), H', I3, rfl, q3⟩⟩
   | next => exact False.elim hq'
   | brk => exact False.elim hq'
   | cont => exact False.elim hq'
theorem B2h (M : Mk X.K C f) (F : FnOk X.prog X.w X.K X.mg X.base (CX1 X.prog X.w) j f fd ps sp) (hr : Room k X.A) (hm : X.mg x = some (.ref C)) (hb : Binds X.K fd ps ds) (hd : Vals dvs ds) (hx : D8 X EH)
   (ha : PA X (e :: es) t) (hj : j + 1 <= k := by decide) (hg : Gl X x := by rfl) (hex : X.ex = [] := by rfl) (hdb : (x == ("__debug__" : Str)) = false := by decide) (he : starEach (e :: es) X.env = (false, eval e X.env) :: starEach es X.env := by rfl) (hpl : (backTo pos (starEach es X.env)).any (·.1) = false := by rfl) :
   PE X (.Call (.Name x p) (e :: es) [] pos) (Z1e C sp dvs EH t) := by
 intro pins s σ H Q I h
 refine wpAny_Call_Name_kw (A2x I hg hm ?_ hdb)
 refine callWith_K (h₀ := X.base) I.ok.mod.kin M.kp (thn (ha pos pins s σ H _ I h) fun us s1 ⟨vs, H1, I1, r, q⟩ => ⟨I1.kIn, ?_⟩) he hpl
 exact U1p M F (hr.mono hj) hb hd hx hex I1 r q
end
theorem Y6v {n : Nat} (h : n <= sizeLine) : Builtin.Str.tooLong n = false := by
 unfold Builtin.Str.tooLong
 exact decide_eq_false (by omega)
section
variable {X : Cx}
end
structure FunD (K : Frag) (x qual : Str) (st : Stmt) (dV : Value) (f : Addr) (fd : FuncData) : Prop where
 ex : ∃ (oc : Value) (od : Option Addr) (kV doc pm : Value) (an : Option Addr) (cdv ct : Value) (osl : Array (Option Value)),
   fd = fnOf x qual (A9 st) (A8 st) (A1 st) dV kV doc pm an cdv ct /\ K.lookup f = some ⟨oc, od, .func fd, osl⟩ /\ codeIn K cdv qual = true
 kp : keepIn K (.ref f) = true
section
variable {P : Program} {w : World} {K : Frag} {mg : Str -> Option Value} {base : Heap}
theorem FunD.okE {x qual : Str} {st : Stmt} {dV : Value} {f : Addr} {fd : FuncData} {N ps : List Str} {k : Nat} {sp : Sp} (F : FunD K x qual st dV f fd) (S : FnScope N ps (A1 st)) (len : ∀ vs H Q E, sp vs H Q E -> vs.length = ps.length)
   (hbody : ∀ (X : Cx) (cdv : Value) (A : Around) (outer : List Env) (s : Shared) (H : Hp) (vs : List V) (Q : VK) (E : XK), X = Z9 (CX1 P w) P w K mg base N qual (A1 st) f cdv A outer s H E -> Room k X.A -> D8 X (fun C dd _ H' => E C dd H') -> sp vs H Q E ->
     ∃ t, PSs (Z9 (CX1 P w) P w K mg base N qual (A1 st) f cdv A outer s H E) (A8 st) t /\ t { nx := fun _ H' => Q .non H', rt := Q } (B2g N vs) H) : FnOk P w K mg base (CX1 P w) (k + 1) f fd ps sp := by
 obtain ⟨oc, od, kV, doc, pm, an, cdv, ct, osl, rfl, lk, hc⟩ := F.ex
 exact U8k lk hc S len fun A outer s H vs Q E hr h => hbody _ cdv A outer s H vs Q E rfl hr C1z h
theorem D3c {x qual : Str} {st : Stmt} {dV : Value} {f : Addr} {oc : Value} {od an : Option Addr} {osl : Array (Option Value)} {kV doc pm cdv ct : Value} (l : K.lookup f = some ⟨oc, od, .func (fnOf x qual (A9 st) (A8 st) (A1 st) dV kV doc pm an cdv ct), osl⟩)
   (c : codeIn K cdv qual = true) (k : keepIn K (.ref f) = true) : FunD K x qual st dV f (fnOf x qual (A9 st) (A8 st) (A1 st) dV kV doc pm an cdv ct) := ⟨⟨oc, od, kV, doc, pm, an, cdv, ct, osl, rfl, l, c⟩, k⟩
theorem B6d {fd : FuncData} {ps : List Str} {ds : List Value} {T : Addr} {o : Obj} {items : Array Value} {n : Nat} (hd : fd.defaults = .ref T) (ho : K.lookup T = some o) (hs : o.data = .seq items n)
   (h : ∀ us : List Value, (us ++ ds).length = ps.length -> ∃ k, bindArgs fd ⟨us, []⟩ = seqItems? fd.defaults >>= k /\ k (some items) = pure (ps.zip (us ++ ds))) : Binds K fd ps ds := fun s us X hl => by
 obtain ⟨k, h1, h2⟩ := h us hl
 exact binds_K X hd ho hs h1 h2
end
section
variable {X : Cx} {k j : Nat} {f C : Addr} {fd : FuncData} {ps ks : List Str} {sp : Sp} {EH : EK} {x m : Str} {p pos apos : Pos} {e o : Expr} {es : List Expr} {kws : List Keyword} {ta : TE} {t tk : TA} {g : List Value -> List Value -> List Value} {gV : List V -> List V -> List V}
end
section
variable {X : Cx} {K : Frag} {e : Expr} {f : Str} {pos : Pos} {ta : TE}
theorem Y7p (h : X.K = K) (he : PE X e ta) (hb : attributeBase e f X.env (eval e X.env) = eval e X.env) : PE X (.Attribute e f pos) (Z6w K ta f) := by subst h; exact C7 he hb
theorem G8m (h : X.K = K) : OpR X (compareOp .In) (rIn K false) := by subst h; exact B6f
end
end L2
namespace TR
open PySem L2 PySem.W PyProof.Rows
structure Own (mg : Str -> Option Value) : Prop where
 isi : mg "isinstance" = none
 int_ : mg "int" = none
 bool_ : mg "bool" = none
 str_ : mg "str" = none
 list_ : mg "list" = none
 tuple_ : mg "tuple" = none
 dict_ : mg "dict" = none
 len_ : mg "len" = none
 range_ : mg "range" = none
 min_ : mg "min" = none
 max_ : mg "max" = none
 abs_ : mg "abs" = none
 any_ : mg "any" = none
 all_ : mg "all" = none
 sum_ : mg "sum" = none
 repr_ : mg "repr" = none
 enumerate_ : mg "enumerate" = none
 reversed_ : mg "reversed" = none
 zip_ : mg "zip" = none
 sorted_ : mg "sorted" = none
 divmod_ : mg "divmod" = none
 set_ : mg "set" = none
 ValueError_ : mg "ValueError" = none
structure Kit (K : Frag) : Prop where
 int_int : kitOne K (.type "int") (.type "int") = some true
 int_bool : kitOne K (.type "int") (.type "bool") = some false
 int_str : kitOne K (.type "int") (.type "str") = some false
 int_list : kitOne K (.type "int") (.type "list") = some false
 int_tuple : kitOne K (.type "int") (.type "tuple") = some false
 int_dict : kitOne K (.type "int") (.type "dict") = some false
 bool_int : kitOne K (.type "bool") (.type "int") = some true
 bool_bool : kitOne K (.type "bool") (.type "bool") = some true
 bool_str : kitOne K (.type "bool") (.type "str") = some false
 bool_list : kitOne K (.type "bool") (.type "list") = some false
 bool_tuple : kitOne K (.type "bool") (.type "tuple") = some false
 bool_dict : kitOne K (.type "bool") (.type "dict") = some false
 str_int : kitOne K (.type "str") (.type "int") = some false
 str_bool : kitOne K (.type "str") (.type "bool") = some false
 str_str : kitOne K (.type "str") (.type "str") = some true
 str_list : kitOne K (.type "str") (.type "list") = some false
 str_tuple : kitOne K (.type "str") (.type "tuple") = some false
 str_dict : kitOne K (.type "str") (.type "dict") = some false
 list_int : kitOne K (.type "list") (.type "int") = some false
 list_bool : kitOne K (.type "list") (.type "bool") = some false
 list_str : kitOne K (.type "list") (.type "str") = some false
 list_list : kitOne K (.type "list") (.type "list") = some true
 list_tuple : kitOne K (.type "list") (.type "tuple") = some false
 list_dict : kitOne K (.type "list") (.type "dict") = some false
 tuple_int : kitOne K (.type "tuple") (.type "int") = some false
 tuple_bool : kitOne K (.type "tuple") (.type "bool") = some false
 tuple_str : kitOne K (.type "tuple") (.type "str") = some false
 tuple_list : kitOne K (.type "tuple") (.type "list") = some false
 tuple_tuple : kitOne K (.type "tuple") (.type "tuple") = some true
 tuple_dict : kitOne K (.type "tuple") (.type "dict") = some false
 dict_int : kitOne K (.type "dict") (.type "int") = some false
 dict_bool : kitOne K (.type "dict") (.type "bool") = some false
 dict_str : kitOne K (.type "dict") (.type "str") = some false
 dict_list : kitOne K (.type "dict") (.type "list") = some false
 dict_tuple : kitOne K (.type "dict") (.type "tuple") = some false
 dict_dict : kitOne K (.type "dict") (.type "dict") = some true
 NoneType_int : kitOne K (.type "NoneType") (.type "int") = some false
 NoneType_bool : kitOne K (.type "NoneType") (.type "bool") = some false
 NoneType_str : kitOne K (.type "NoneType") (.type "str") = some false
 NoneType_list : kitOne K (.type "NoneType") (.type "list") = some false
 NoneType_tuple : kitOne K (.type "NoneType") (.type "tuple") = some false
 NoneType_dict : kitOne K (.type "NoneType") (.type "dict") = some false
theorem scK {N P : List Str} {sc : Scope} (a : sc.kind = .function := by rfl) (b : sc.isCoroutine = false := by rfl) (c : sc.isGenerator = false := by rfl) (d : N.Nodup := by decide +kernel) (e : N.take P.length = P := by rfl) (f : ∀ x ∈ P, sc.names.lookup x = some .local \/ sc.names.lookup x = some .cell := by decide +kernel) (g : ∀ y ∈ sc.names, y.2 ≠ .free := by decide +kernel) : FnScope N P sc := ⟨a, b, c, d, e, f, g⟩
theorem Z0m {K : Frag} {H : Hp} (i : Int) : TyE K H (.int i) (.type "int") := .of (.int i)
theorem V0y {K : Frag} {H : Hp} (z : Str) : TyE K H (.str z) (.type "str") := .of (.str z)
theorem Z0k {K : Frag} {H : Hp} {a : Addr} {xs : List V} (h : H a = some (.lst xs)) : TyE K H (.ref a) (.type "list") := .of (.lst h)
def B2j (lo hi : Int) (v : V) : Prop := ∃ i, v = .int i /\ lo <= i /\ i <= hi
def C6z (K : Frag) (H : Hp) (lo hi : Int) (v : V) : Prop := ∃ t b1 b2, TyE K H v t /\ kitOne K t (.type "int") = some b1 /\ kitOne K t (.type "bool") = some b2 /\ ((b1 && !b2) = false \/ ∃ i, v = .int i /\ (i < lo \/ hi < i))
section
variable {K : Frag} {H : Hp} {lo hi : Int}
end
def Exc (p : Addr) (H H' : Hp) : Prop := ∀ b o, H b = some o -> b ≠ p -> H' b = some o
theorem Exc.refl (p : Addr) (H : Hp) : Exc p H H := fun _ _ h _ => h
theorem Exc.trans {p : Addr} {H H1 H2 : Hp} (a : Exc p H H1) (b : Exc p H1 H2) : Exc p H H2 := fun c o h n => b c o (a c o h n) n
theorem Exc.upd {p : Addr} {H : Hp} {o : HO} : Exc p H (L2.upd H p o) := fun b u e n => by rw [C0 n]; exact e
theorem Exc.of {p : Addr} {H H' : Hp} (s : Same H H') : Exc p H H' := fun b o h _ => s b o h
def Has (P : Program) (w : World) (K : Frag) (mg : Str -> Option Value) (base : Heap) (C : Addr) (m : Str) (k : Nat) (ps : List Str) (sp : Sp) : Prop := ∃ f fd, Meth K C m f /\ FnOk P w K mg base (CX1 P w) k f fd ps sp /\ Binds K fd ps []
theorem Z7c : ∀ {us : List Value}, us.length = 2 -> ∃ a b, us = [a, b]
 | [a, b], _ => ⟨a, b, rfl⟩
theorem Y7a : ∀ {us : List Value}, us.length = 3 -> ∃ a b c, us = [a, b, c]
 | [a, b, c], _ => ⟨a, b, c, rfl⟩
theorem len4 : ∀ {us : List Value}, us.length = 4 -> ∃ a b c d, us = [a, b, c, d]
 | [a, b, c, d], _ => ⟨a, b, c, d, rfl⟩
theorem len5 : ∀ {us : List Value}, us.length = 5 -> ∃ a b c d e, us = [a, b, c, d, e]
 | [a, b, c, d, e], _ => ⟨a, b, c, d, e, rfl⟩
theorem G2w {us ds : List Value} {n : Nat} (h : (us ++ ds).length = n) : us.length = n - ds.length := by rw [List.length_append] at h; omega
end TR
namespace L2
open PySem PySem.Spec PyProof.Rows
section
variable {κ : Type} [DecidableEq κ]
def C0t (kvs : List (κ × V)) (k : κ) : Option V := (kvs.find? fun kv => decide (kv.1 = k)).map (·.2)
def A0y (kvs : List (κ × V)) (k : κ) (v : V) : List (κ × V) :=
 if (kvs.any fun kv => decide (kv.1 = k)) = true then kvs.map (fun kv => if kv.1 = k then (kv.1, v) else kv) else kvs ++ [(k, v)]
theorem C2q {p : κ × V} {r : List (κ × V)} {k : κ} (e : p.1 = k) : C0t (p :: r) k = some p.2 := by simp [C0t, List.find?_cons, e]
theorem C1k {p : κ × V} {r : List (κ × V)} {k : κ} (e : ¬ p.1 = k) : C0t (p :: r) k = C0t r k := by simp [C0t, List.find?_cons, e]
theorem G3c (k : κ) : ∀ kvs : List (κ × V), (kvs.any fun kv => decide (kv.1 = k)) = (C0t kvs k).isSome
 | [] => rfl
 | p :: r => by
   rw [List.any_cons]
   by_cases e : p.1 = k
   . simp only [C2q e, decide_eq_true e, Bool.true_or, Option.isSome_some]
   . rw [C1k e, decide_eq_false e, Bool.false_or]; exact G3c k r
theorem A8e (kvs : List (κ × V)) (k : κ) (v : V) : (A0y kvs k v).length <= kvs.length + 1 := by
 unfold A0y
 split
 . rw [List.length_map]; omega
 . rw [List.length_append, List.length_cons, List.length_nil]; omega
theorem RelO.isSome_eq {o : Option V} {u : Option Value} (r : RelO o u) : o.isSome = u.isSome := by
 cases o with
 | none => cases u with
   | none => rfl
   | some _ => exact (show False from r).elim
 | some _ => cases u with
   | none => exact (show False from r).elim
   | some _ => rfl
theorem KV.val {kvs : List (κ × V)} {vs : List (κ × Value)} (r : KV kvs vs) (k : κ) : RelO (C0t kvs k) (valueAt vs k) := by
 unfold KV at r
 induction r with
 | nil => exact True.intro
 | @cons p q ps qs h t ih =>
   obtain ⟨h1, h2⟩ := h
   by_cases e : p.1 = k
   . have e' : q.1 = k := h1.symm.trans e
     have b : valueAt (q :: qs) k = some q.2 := by simp [valueAt, List.find?_cons, e']
     rw [C2q e, b]; exact h2
   . have e' : ¬ q.1 = k := fun z => e (h1.trans z)
     have b : valueAt (q :: qs) k = valueAt qs k := by simp [valueAt, List.find?_cons, e']
     rw [C1k e, b]; exact ih
theorem KV.any {kvs : List (κ × V)} {vs : List (κ × Value)} (r : KV kvs vs) (k : κ) : (kvs.any fun kv => decide (kv.1 = k)) = vs.any fun kv => decide (kv.1 = k) := by
 unfold KV at r
 induction r with
 | nil => rfl
 | cons h t ih => rw [List.any_cons, List.any_cons, ih, h.1]
theorem KV.repl {kvs : List (κ × V)} {vs : List (κ × Value)} (r : KV kvs vs) (k : κ) {y : V} {u : Value} (ry : RelV y u) :
   KV (kvs.map fun kv => if kv.1 = k then (kv.1, y) else kv) (vs.map fun kv => if kv.1 = k then (kv.1, u) else kv) := by
 unfold KV at r ⊢
 induction r with
 | nil => exact .nil
 | @cons p q ps qs h t ih =>
   rw [List.map_cons, List.map_cons]
   refine .cons ?_ ih
   obtain ⟨h1, h2⟩ := h
   by_cases e : p.1 = k
   . rw [if_pos e, if_pos (h1.symm.trans e)]; exact ⟨h1, ry⟩
   . rw [if_neg e, if_neg (fun z => e (h1.trans z))]; exact ⟨h1, h2⟩
theorem KV.put {kvs : List (κ × V)} {vs : List (κ × Value)} (r : KV kvs vs) (k : κ) {y : V} {u : Value} (ry : RelV y u) : KV (A0y kvs k y) (stored vs k u) := by
 unfold A0y stored
 rw [r.any k]
 by_cases e : (vs.any fun kv => decide (kv.1 = k)) = true
 . rw [if_pos e, if_pos e]; exact r.repl k ry
 . rw [if_neg e, if_neg e]; exact Paired.snoc r ⟨rfl, ry⟩
theorem KV.length {kvs : List (κ × V)} {vs : List (κ × Value)} (r : KV kvs vs) : kvs.length = vs.length := Paired.length r
end
theorem J8h {P : Program} {w : World} {k : Key} {u : Value} (r : RelV (kV k) u) : (J8 P w).is k u = true := by
 cases k with
 | inl i => obtain ⟨t, e⟩ := (show ∃ t, u = Value.int i t from r); subst e; exact G3w P w i t
 | inr x => obtain ⟨t, e⟩ := (show ∃ t, u = Value.str x t from r); subst e; exact G3d P w x t
theorem D0m {P : Program} {w : World} : ∀ {ks : List Key} {us : List Value}, Vals (ks.map kV) us -> ItemsAre (J8 P w) ks us
 | [], _, r => by rw [List.map_nil] at r; cases r; exact .nil
 | k :: ks, _, r => by
   rw [List.map_cons] at r
   cases r with
   | cons h t => exact .cons (J8h h) (D0m t)
abbrev KT (H : Hp) : List (List Key × V) -> List (List Key × Addr × Value) -> Prop := Paired fun p q => p.1 = q.1 /\ H q.2.1 = some (.tup (p.1.map kV)) /\ RelV p.2 q.2.2
theorem KT.val {H : Hp} {kvs : List (List Key × V)} {xs : List (List Key × Addr × Value)} (r : KT H kvs xs) (k : List Key) : RelO (C0t kvs k) ((atKey xs k).map (·.2)) := by
 induction r with
 | nil => exact True.intro
 | @cons p q ps qs h t ih =>
   obtain ⟨h1, _, h2⟩ := h
   by_cases e : p.1 = k
   . have e' : q.1 = k := h1.symm.trans e
     have b : atKey (q :: qs) k = some q.2 := by simp [atKey, List.find?_cons, e']
     rw [C2q e, b]; exact h2
   . have e' : ¬ q.1 = k := fun z => e (h1.trans z)
     have b : atKey (q :: qs) k = atKey qs k := by simp [atKey, List.find?_cons, e']
     rw [C1k e, b]; exact ih
theorem KT.repl {H : Hp} {kvs : List (List Key × V)} {xs : List (List Key × Addr × Value)} (r : KT H kvs xs) (k : List Key) {y : V} {u : Value} (ry : RelV y u) :
   KT H (kvs.map fun kv => if kv.1 = k then (kv.1, y) else kv) (xs.map (putAt k u)) := by
 induction r with
 | nil => exact .nil
 | @cons p q ps qs h t ih =>
   rw [List.map_cons, List.map_cons]
   refine .cons ?_ ih
   obtain ⟨h1, h2, h3⟩ := h
   unfold putAt
   by_cases e : p.1 = k
   . rw [if_pos e, if_pos (h1.symm.trans e)]; exact ⟨h1, h2, ry⟩
   . rw [if_neg e, if_neg (fun z => e (h1.trans z))]; exact ⟨h1, h2, h3⟩
theorem KT.put {H : Hp} {kvs : List (List Key × V)} {xs : List (List Key × Addr × Value)} (r : KT H kvs xs) (k : List Key) {b : Addr} {y : V} {u : Value} (hb : H b = some (.tup (k.map kV))) (ry : RelV y u) :
   KT H (A0y kvs k y) (storedH xs k b u) := by
 have e : (kvs.any fun kv => decide (kv.1 = k)) = (atKey xs k).isSome := by
   rw [G3c, (r.val k).isSome_eq, Option.isSome_map]
 unfold A0y storedH
 rw [e]
 by_cases q : (atKey xs k).isSome = true
 . rw [if_pos q, if_pos q]; exact r.repl k ry
 . rw [if_neg q, if_neg q]; exact Paired.snoc r ⟨rfl, hb, ry⟩
theorem KT.keeps {H H' : Hp} {kvs : List (List Key × V)} {xs : List (List Key × Addr × Value)} (r : KT H kvs xs) (ht : ∀ b ys, H b = some (.tup ys) -> H' b = some (.tup ys)) : KT H' kvs xs :=
 Paired.mapP r fun _ _ z => ⟨z.1, ht _ _ z.2.1, z.2.2⟩
section
variable {P : Program} {w : World} {H : Hp} {h : Heap} {a : Addr}
theorem Z0t {u : HO} (ok : HOk P w H h) (e : Rd H a u) : ObjOk P w H h a u := e.ok ok
theorem U7r {kvs : List (Key × V)} (ok : HOk P w H h) (e : Rd H a (.dK kvs)) : kvs.length <= sizeLine /\ (a == sysModules) = false /\ ∃ vs, KV kvs vs /\ h.DictOf (J8 P w) a vs :=
 show ObjOk P w H h a (.dK kvs) from Z0t ok e
theorem Z0h {kvs : List (Key × V)} (ok : HOk P w H h) (e : H a = some (.dK kvs)) : kvs.length <= sizeLine /\ (a == sysModules) = false /\ ∃ vs, KV kvs vs /\ h.DictOf (J8 P w) a vs := U7r ok (.inl e)
theorem G8r {ks : List Key} (ok : HOk P w H h) (e : H a = some (.tup (ks.map kV))) : (tupleKind (J8 P w)).is h ks a := by
 obtain ⟨_, its, r, o, h1, h2, n, h3⟩ := (show ObjOk P w H h a (.tup (ks.map kV)) from ok a _ e)
 exact ⟨o, its.toArray, n, h1, h2, h3, by simpa using D0m r⟩
theorem V0z {kvs : List (List Key × V)} (ok : HOk P w H h) (e : Rd H a (.dT kvs)) : kvs.length <= sizeLine /\ (a == sysModules) = false /\
   ∃ xs, KT H kvs xs /\ h.DictOfH (tupleKind (J8 P w)) a xs := by
 obtain ⟨z, y, xs, r, o, es, ep, h1, h2, h3, h4, h5⟩ := (show ObjOk P w H h a (.dT kvs) from Z0t ok e)
 refine ⟨z, y, xs, r, o, es, ep, h1, h2, h3, h4, fun x hx => ?_, h5⟩
 have all : ∀ {l : List (List Key × V)} {m : List (List Key × Addr × Value)}, KT H l m -> ∀ x ∈ m, (tupleKind (J8 P w)).is h x.1 x.2.1 := by
   intro l m q
   induction q with
   | nil => intro x hx; exact nomatch hx
   | @cons p q ps qs hq t ih =>
     intro x hx
     rcases List.mem_cons.mp hx with e | hx
     . subst e
       exact G8r ok (by rw [<- hq.1]; exact hq.2.1)
     . exact ih x hx
 exact all r x hx
theorem Z8w {kvs : List (List Key × V)} (ok : HOk P w H h) (e : H a = some (.dT kvs)) : kvs.length <= sizeLine /\ (a == sysModules) = false /\
   ∃ xs, KT H kvs xs /\ h.DictOfH (tupleKind (J8 P w)) a xs := V0z ok (.inl e)
end
def Y5a (H : Hp) (a : Addr) (y : V) (r : Option V) : Prop :=
 (∃ kvs k, Rd H a (.dK kvs) /\ y = kV k /\ r = C0t kvs k) \/ ∃ kvs k b, Rd H a (.dT kvs) /\ y = .ref b /\ H b = some (.tup (k.map kV)) /\ r = C0t kvs k
def DPut (H : Hp) (a : Addr) (y v : V) (H' : Hp) : Prop :=
 (∃ kvs k, H a = some (.dK kvs) /\ y = kV k /\ kvs.length < sizeLine /\ H' = upd H a (.dK (A0y kvs k v))) \/
 ∃ kvs k b, H a = some (.dT kvs) /\ y = .ref b /\ H b = some (.tup (k.map kV)) /\ kvs.length < sizeLine /\ H' = upd H a (.dT (A0y kvs k v))
theorem DPut.k {H : Hp} {a : Addr} {kvs : List (Key × V)} {k : Key} {v : V} (e : H a = some (.dK kvs)) (hl : kvs.length < sizeLine) : DPut H a (kV k) v (upd H a (.dK (A0y kvs k v))) := .inl ⟨kvs, k, e, rfl, hl, rfl⟩
section
variable {X : Cx} {pins : List (Addr × Obj)} {σ : St} {H : Hp} {s : Shared} {a : Addr} {y v : V} {u r : Value} {o : Option V} {A : Around} {E : Value -> Shared -> Prop}
theorem U1j {Q : Value -> Shared -> Prop} (hu : A.units + 1 < cLine) (I : Inv X pins σ H s) (g : Y5a H a y (some v)) (ry : RelV y u) (h : ∀ w' s', Inv X pins σ H s' -> RelV v w' -> Q w' s') :
   wpAny (model X.prog X.w) A (getItem (.ref a) u) Q E s := by
 rcases g with ⟨kvs, k, e, ey, l⟩ | ⟨kvs, k, b, e, ey, eb, l⟩
 . subst ey
   obtain ⟨z, hd, vs, rel, dd⟩ := U7r I.hok e
   obtain ⟨w', hw, rw'⟩ := RelO.some_of (v := v) (o := valueAt vs k) (by rw [l]; exact rel.val k)
   exact wpAny_getItem_of (J8h ry) dd.mapOf hw (h w' _ (I.tok _) rw')
 . subst ey
   cases (show u = Value.ref b from ry)
   obtain ⟨z, hd, xs, rel, dd⟩ := V0z I.hok e
   obtain ⟨w', hw, rw'⟩ := RelO.some_of (v := v) (o := (atKey xs k).map (·.2)) (by rw [l]; exact rel.val k)
   obtain ⟨p, hp, hp2⟩ := Option.map_eq_some_iff.mp hw
   refine wpAny_getItem_heap (tupleKind_room_in1 hu) (G8r I.hok eb) dd hp ?_
   rw [hp2]
   exact h w' _ (I.tok _) rw'
theorem D3a {h' : Heap} {t' : Nat} {ob : HO} (I : Inv X pins σ H s) (mu : Mut (H a)) (hs : Heap.SameBut a s.heap h') (he : ∃ q, h'.get? a = some q) (new : ObjOk X.prog X.w (upd H a ob) h' a ob) :
   Inv X pins σ (upd H a ob) { s with heap := h', toks := t' } :=
 I.write (x := a) (e := a) mu (.inl rfl) (fun b q hb z => (hs.2 b hb).trans z) he new
theorem U8g {P : Program} {w : World} {H' : Hp} {h' : Heap} {kvs : List (Key × V)} {vs : List (Key × Value)} (z : kvs.length <= sizeLine) (hd : (a == sysModules) = false) (rel : KV kvs vs) (dd : h'.DictOf (J8 P w) a vs) :
   ObjOk P w H' h' a (.dK kvs) := ⟨z, hd, vs, rel, dd⟩
theorem U0w {H' : Hp} {Q : Unit -> Shared -> Prop} (hu : A.units + 1 < cLine) (I : Inv X pins σ H s) (g : DPut H a y v H') (ry : RelV y u) (rv : RelV v r) (h : ∀ s', Inv X pins σ H' s' -> Q () s') :
   wpAny (model X.prog X.w) A (setItem (.ref a) u r) Q E s := by
 rcases g with ⟨kvs, k, e, ey, l, eH⟩ | ⟨kvs, k, b, e, ey, eb, l, eH⟩
 . subst ey eH
   obtain ⟨z, hd, vs, rel, dd⟩ := Z0h I.hok e
   have hz : vs.length <= sizeLine := by rw [<- rel.length]; exact z
   have hl : (A0y kvs k v).length <= sizeLine := by have := A8e kvs k v; omega
   refine wpAny_setItem_pairs (hsz := hz) (J8h ry) dd fun h' dd' hs => h _ ?_
   have he : ∃ q, h'.get? a = some q := let ⟨q, _, _, hq, _⟩ := dd'; ⟨q, hq⟩
   exact D3a I (by rw [e]; exact True.intro) hs he (U8g hl hd (rel.put k rv) dd')
 . subst ey eH
   cases (show u = Value.ref b from ry)
   obtain ⟨z, hd, xs, rel, dd⟩ := Z8w I.hok e
   have hz : xs.length <= sizeLine := by rw [<- Paired.length rel]; exact z
   have hl : (A0y kvs k v).length <= sizeLine := by have := A8e kvs k v; omega
   refine wpAny_setItem_heap (hsz := hz) (tupleKind_room_in1 hu) (G8r I.hok eb) dd fun h' dd' hs => h _ ?_
   obtain ⟨q, es, ep, hq, h2, h3, h4, _, h5⟩ := dd'
   refine D3a I (by rw [e]; exact True.intro) hs ⟨q, hq⟩ ⟨hl, hd, _, (rel.put k eb rv).keeps fun c ys ec => ?_, q, es, ep, hq, h2, h3, h4, h5⟩
   rw [C0 (B4h ec e (fun z => nomatch z))]
   exact ec
end
section
variable {X : Cx} {pins : List (Addr × Obj)} {σ : St} {H : Hp} {s : Shared} {a : Addr} {kvs : List (Key × V)} {k : Key} {u : Value} {A : Around} {E : Value -> Shared -> Prop}
end
def Z8g (i : Expr) : Prop := ∀ ov iv, subscripted i false ov iv = operate [ov, iv] (getItem ov iv)
theorem Y7d {prog : Program} {w : World} {A : Around} {E : Value -> Shared -> Prop} {s : Shared} {env : Env} {value slice : Expr} {pos : Pos} {T id : String} {Q : Value -> Shared -> Prop}
   (hl : typeLookup (.type T) "__getitem__" = pure (some (.builtin id))) (hs : Z8g slice)
   (h : wpAny (model prog w) A (eval value env) (fun o s₁ => wpAny (model prog w) A (eval slice env) (fun i s₂ => s₂.TypeIs o T /\ wpAny (model prog w) A (getItem o i) Q E s₂) E s₁) E s) :
   wpAny (model prog w) A (eval (.Subscript value slice pos) env) Q E s := by
 refine Subscript_ (wpAny_mono h (fun o s₁ h₁ => wpAny_mono h₁ (fun i s₂ h₂ => ?_) fun _ _ x => x) fun _ _ x => x)
 obtain ⟨hT, h₂⟩ := h₂
 unfold subscriptTail
 refine wpAny_bind ?_
 rw [getitemInPython_of_ne hT.not_modules]
 refine wpAny_bind (wpAny_specialOf hT hl ?_)
 have fin : wpAny (model prog w) A (subscripted slice false o i) (fun r s₃ => wpAny (model prog w) A (letTemporaryGo value o r >>= fun _ => pure r) Q E s₃) E s₂ := by
   rw [hs o i]
   exact wpAny_operating (wpAny_mono h₂ (fun r s₃ h₃ => wpAny_bind (wpAny_letTemporaryGo (wpAny_pure h₃))) fun _ _ x => x)
 first
   | exact wpAny_pure (wpAny_bind fin)
   | exact wpAny_bind (wpAny_pure (wpAny_bind fin))
   | exact wpAny_bind fin
theorem G3r {X : Cx} {pins : List (Addr × Obj)} {σ : St} {H : Hp} {s : Shared} {a : Addr} {y : V} {o : Option V} (I : Inv X pins σ H s) (g : Y5a H a y o) : s.TypeIs (.ref a) "dict" := by
 rcases g with ⟨kvs, k, e, _, _⟩ | ⟨kvs, k, b, e, _, _, _⟩
 . obtain ⟨_, _, vs, _, dd⟩ := U7r I.hok e
   exact dd.typeIs
 . obtain ⟨_, _, xs, _, dd⟩ := V0z I.hok e
   exact dd.typeIs
def Z6x (td ty : TE) : TE := fun σ H Q => td σ H fun x H1 => ty σ H1 fun y H2 => ∃ a v, x = .ref a /\ Y5a H2 a y (some v) /\ Q v H2
def Z7h (td ty tv : TE) : TS := fun D σ H => tv σ H fun v H1 => td σ H1 fun x H2 => ty σ H2 fun y H3 => ∃ a H4, x = .ref a /\ DPut H3 a y v H4 /\ D.nx σ H4
section
variable {X : Cx} {o i e value : Expr} {pos pos' tpos : Pos} {td ty tv : TE}
theorem B1k (hu : X.A.units + 1 < cLine) (ho : PE X o td) (hi : PE X i ty) (hs : Z8g i) : PE X (.Subscript o i pos) (Z6x td ty) := by
 intro pins s σ H Q I h
 refine Y7d PySem.F.slot_dict_getitem.lookup hs (thn (ho pins s σ H _ I h) fun u s1 ⟨x, H1, I1, rx, q1⟩ => thn (hi pins s1 σ H1 _ I1 q1) fun iv s2 ⟨y, H2, I2, ry, a, v, ex, g, q2⟩ => ?_)
 subst ex
 obtain rfl : u = Value.ref a := rx
 exact ⟨G3r I2 g, U1j hu I2 g ry fun w' s3 I3 rw' => ⟨v, H2, I3, rw', q2⟩⟩
theorem Y4q (hu : X.A.units + 1 < cLine) (ho : PE X o td) (hi : PE X i ty) (hv : PE X value tv) (hs : swapsWith value (some (.Subscript o i pos')) pos.line X.env = pure false) :
   PS X (.Assign [.Subscript o i pos'] value pos) (Z7h td ty tv) := by
 intro pins s σ H D I h
 refine wpAny_Assign_Subscript (thn (hv pins s σ H _ I h) fun r s1 ⟨v, H1, I1, rv, q1⟩ => thn (ho pins s1 σ H1 _ I1 q1) fun u s2 ⟨x, H2, I2, rx, q2⟩ => thn (hi pins s2 σ H2 _ I2 q2) fun iv s3 ⟨y, H3, I3, ry, a, H4, ex, g, q3⟩ => ?_) hs
 subst ex
 obtain rfl : u = Value.ref a := rx
 exact U0w hu I3 g ry rv fun s4 I4 => ⟨σ, H4, I4, q3⟩
end
section
variable {X : Cx} {pos : Pos}
end
def G9e : List (TE × TE) -> St -> Hp -> (List (V × V) -> Hp -> Prop) -> Prop
 | [], _, H, Q => Q [] H
 | (tk, tv) :: r, σ, H, Q => tk σ H fun x H1 => tv σ H1 fun y H2 => G9e r σ H2 fun ps H3 => Q ((x, y) :: ps) H3
abbrev VV : List (V × V) -> List (Value × Value) -> Prop := Paired fun p q => RelV p.1 q.1 /\ RelV p.2 q.2
def PPs (X : Cx) (pos : Pos) (keys : List (Option Expr)) (values : List Expr) (trs : List (TE × TE)) : Prop :=
 ∀ (pins : List (Addr × Obj)) (s : Shared) (σ : St) (H : Hp) (Q : List (V × V) -> Hp -> Prop), Inv X pins σ H s -> G9e trs σ H Q ->
   wpAny (model X.prog X.w) X.A (evalPairs (pairTrees keys values X.env pos)) (fun vs s' => ∃ ps H', Inv X pins σ H' s' /\ VV ps vs /\ Q ps H') X.xe s
theorem J8x {X : Cx} {pos : Pos} : PPs X pos [] [] [] := fun pins s σ H Q I h => pairTrees_nil_walk ⟨[], H, I, .nil, h⟩
theorem A1u {X : Cx} {pos : Pos} {k v : Expr} {ks : List (Option Expr)} {vs : List Expr} {tk tv : TE} {trs : List (TE × TE)} (hk : PE X k tk) (hv : PE X v tv) (hr : PPs X pos ks vs trs) :
   PPs X pos (some k :: ks) (v :: vs) ((tk, tv) :: trs) := fun pins s σ H Q I h =>
 pairTrees_cons_walk (thn (hk pins s σ H _ I h) fun u s1 ⟨x, H1, I1, rx, q1⟩ => thn (hv pins s1 σ H1 _ I1 q1) fun w2 s2 ⟨y, H2, I2, ry, q2⟩ =>
   thn (hr pins s2 σ H2 _ I2 q2) fun ws s3 ⟨ps, H3, I3, rel, q3⟩ => ⟨(x, y) :: ps, H3, I3, .cons ⟨rx, ry⟩ rel, q3⟩)
def V4 (kvs more : List (Key × V)) : List (Key × V) := more.foldl (fun acc kv => A0y acc kv.1 kv.2) kvs
theorem KV.merge : ∀ {more : List (Key × V)} {rs : List (Key × Value)} {kvs : List (Key × V)} {vs : List (Key × Value)}, KV more rs -> KV kvs vs -> KV (V4 kvs more) (merged vs rs) := by
 intro more rs kvs vs r
 unfold KV at r
 induction r generalizing kvs vs with
 | nil => intro q; exact q
 | @cons p q ps qs h t ih =>
   intro r0
   have e : KV (A0y kvs p.1 p.2) (stored vs q.1 q.2) := by
     have := r0.put p.1 h.2
     rw [<- h.1]; exact this
   exact ih e
theorem B2e : ∀ (more kvs : List (Key × V)), (V4 kvs more).length <= kvs.length + more.length
 | [], kvs => by show kvs.length <= kvs.length + 0; omega
 | p :: r, kvs => by
   have h1 := B2e r (A0y kvs p.1 p.2)
   have h2 := A8e kvs p.1 p.2
   show (V4 (A0y kvs p.1 p.2) r).length <= _
   rw [List.length_cons]; omega
theorem C1r {P : Program} {w : World} : ∀ {kvs : List (Key × V)} {ws : List (Value × Value)}, VV (kvs.map fun kv => (kV kv.1, kv.2)) ws -> ∃ rs, Carries (J8 P w) ws rs /\ KV kvs rs
 | [], _, r => by rw [List.map_nil] at r; cases r; exact ⟨[], True.intro, .nil⟩
 | p :: kvs, _, r => by
   rw [List.map_cons] at r
   cases r with
   | @cons a b as bs h t =>
     obtain ⟨rs, c, q⟩ := C1r (P := P) (w := w) t
     obtain ⟨b1, b2⟩ := b
     exact ⟨(p.1, b2) :: rs, ⟨J8h h.1, rfl, c⟩, .cons ⟨rfl, h.2⟩ q⟩
def Z9k (trs : List (TE × TE)) : TE := fun σ H Q => ∀ p, H p = none -> G9e trs σ (upd H p (.dK [])) fun ps H2 => H2 p = some (.dK []) /\ ∃ kvs : List (Key × V), ps = kvs.map (fun kv => (kV kv.1, kv.2)) /\ kvs.length <= 15 /\ Q (.ref p) (upd H2 p (.dK (V4 [] kvs)))
theorem J8r {X : Cx} {pos : Pos} {keys : List (Option Expr)} {values : List Expr} {trs : List (TE × TE)} (h : PPs X pos keys values trs) (hall : keys.all (·.isSome) = true) (hl : keys.length = values.length) (h0 : keys ≠ [])
   (h15 : keys.length <= 15) : PE X (.Dict keys values pos) (Z9k trs) := by
 intro pins s σ H Q I q
 have hn := I.hok.fresh (Nat.le_refl s.heap.objs.size)
 have I1 := I.laid (a := s.heap.objs.size) (o := .dK []) (h' := s.heap.push { cls := .type "dict", data := .dict #[] }) (t' := s.toks) (fun _ _ q => Heap.get?_push_of_some _ q) (Nat.le_refl _) (G2t s.heap I.big)
 refine wpAny_Dict_walk (knd := J8 X.prog X.w) hall hl h0 h15 (thn (h pins _ σ _ _ I1 (q _ hn)) fun ws s2 ⟨ps, H2, I2, rel, e, kvs, ep, lk, q2⟩ => ?_)
 subst ep
 obtain ⟨rs, c, rk⟩ := C1r (P := X.prog) (w := X.w) rel
 obtain ⟨z, hd, vs0, r0, dd⟩ := Z0h I2.hok e
 cases r0
 refine ⟨rs, c, dd, fun h' dd' hs => ⟨.ref s.heap.objs.size, _, ?_, rfl, q2⟩⟩
 have hz : (V4 [] kvs).length <= sizeLine := by
   have h1 := B2e kvs []
   rw [List.length_nil] at h1
   rw [sizeLine_eq]; omega
 have he : ∃ q, h'.get? s.heap.objs.size = some q := let ⟨q, _, _, hq, _⟩ := dd'; ⟨q, hq⟩
 exact D3a I2 (by rw [e]; exact True.intro) hs he (U8g hz hd (rk.merge .nil) dd')
end L2
namespace L2
open PySem PySem.Spec PyProof.Rows PySem.W
def A0m (F : List Str) (env : Env) : List (Str × Addr) := F.map fun x => (x, (env.cells.lookup x).getD 0)
def A4c (js : List Nat) (σ : St) : St := js.map fun j => (σ[j]?).getD none
abbrev Cx.compF (X : Cx) (scope : Scope) (N F : List Str) (C : Addr) (s₀ : Shared) (H₀ : Hp) (ex : List Addr) (pins : List (Addr × Obj)) : Cx :=
 { X with N := N ++ F, s₀ := s₀, H₀ := H₀, env := compEnvC scope (A0m F X.env) C X.env, outer := X.stack, ex := ex, fn := fun _ => false, pn := pins, xe := fun _ _ => False }
structure CompScopeF (N F : List Str) (js : List Nat) (sc : Scope) (XN : List Str) (env : Env) : Prop where
 kind : sc.kind = .function
 cell : ∀ y ∈ sc.names, y.2 ≠ .cell
 loc : ∀ y ∈ sc.names, y.2 = .local -> sc.names.lookup y.1 = some .local
 nd : (N ++ F).Nodup
 clos : closureFor sc env = pure (A0m F env)
 fr : ∀ y ∈ (relabel sc env).names, y.2 = .cell \/ y.2 = .free -> y.1 ∈ F
 at_ : ∀ (k : Nat) (x : Str), F[k]? = some x -> (∃ j : Nat, js[k]? = some j /\ XN[j]? = some x) /\ (∃ c, env.cells.lookup x = some c) /\ env.kindOf x = some .cell /\ (relabel sc env).names.lookup x = some .cell
 jl : js.length = F.length
def B6e (n : Nat) (js : List Nat) (wi : TI) (g : TG) (tc : TT) (te : TE) : TE := fun σ H Q => wi σ H fun J H1 => ∀ D, H1 D = none ->
 ∃ (m : Nat) (W : Nat -> List V -> Hp -> Prop), W 0 [] (upd H1 D (.lst [])) /\ ∀ i ys H2, W i ys H2 -> i <= m /\ H2 D = some (.lst ys) /\ ((J.stop i H2 /\ Q (.ref D) H2) \/ (i < m /\ J.go i H2 /\ ∀ x H3, J.yld i H2 x H3 ->
   g x (List.replicate n none ++ A4c js σ) H3 fun σ4 H4 => tc σ4 H4 fun b H5 => if b = true then te σ4 H5 fun y H6 => H6 D = some (.lst ys) /\ ys.length < sizeLine /\ W (i + 1) (ys ++ [y]) (upd H6 D (.lst (ys ++ [y]))) else W (i + 1) ys H5))
def J8y (n : Nat) (js : List Nat) (wi : TI) (g : TG) (te : TE) : TE := fun σ H Q => wi σ H fun J H1 => ∀ D, H1 D = none ->
 ∃ (m : Nat) (W : Nat -> List V -> Hp -> Prop), W 0 [] (upd H1 D (.lst [])) /\ ∀ i ys H2, W i ys H2 -> i <= m /\ H2 D = some (.lst ys) /\ ((J.stop i H2 /\ Q (.ref D) H2) \/ (i < m /\ J.go i H2 /\ ∀ x H3, J.yld i H2 x H3 ->
   g x (List.replicate n none ++ A4c js σ) H3 fun σ4 H4 => te σ4 H4 fun y H6 => H6 D = some (.lst ys) /\ ys.length < sizeLine /\ W (i + 1) (ys ++ [y]) (upd H6 D (.lst (ys ++ [y])))))
theorem Z1m {F : List Str} {env : Env} {x : Str} {c : Addr} (h : (A0m F env).lookup x = some c) : x ∈ F /\ c = (env.cells.lookup x).getD 0 := by
 have := PySem.mem_of_lookup h
 obtain ⟨y, hy, e⟩ := List.mem_map.mp this
 cases e
 exact ⟨hy, rfl⟩
theorem V1a {env : Env} {x : Str} : ∀ {F : List Str}, x ∈ F -> (A0m F env).lookup x = some ((env.cells.lookup x).getD 0)
 | y :: F, h => by
   show List.lookup x ((y, (env.cells.lookup y).getD 0) :: A0m F env) = _
   by_cases e : x = y
   . subst e; simp [List.lookup]
   . have hb : (x == y) = false := beq_eq_false_iff_ne.mpr e
     rw [List.lookup_cons, hb]
     exact V1a (by rcases List.mem_cons.mp h with z | z; exact absurd z e; exact z)
section
variable {X : Cx} {N F : List Str} {js : List Nat} {scope : Scope}
theorem CompScopeF.sub (S : CompScopeF N F js scope X.N X.env) : ∀ x c, (A0m F X.env).lookup x = some c -> X.env.cells.lookup x = some c := fun x c z => by
 obtain ⟨hx, rfl⟩ := Z1m z
 obtain ⟨k, hk⟩ := List.mem_iff_getElem?.mp hx
 obtain ⟨_, ⟨c, hc⟩, _⟩ := S.at_ k x hk
 rw [hc]; rfl
theorem CompScopeF.has (S : CompScopeF N F js scope X.N X.env) {x : Str} (hx : x ∈ F) : ∃ c, (A0m F X.env).lookup x = some c /\ X.env.cells.lookup x = some c :=
 ⟨_, V1a hx, S.sub _ _ (V1a hx)⟩
theorem B1p {pins : List (Addr × Obj)} {σ : St} {H : Hp} {s : Shared} (S : CompScopeF N F js scope X.N X.env) (I : Inv X pins σ H s) {h' : Heap} {m : Str -> Option Value} {C : Addr} (hc : ∀ x c v, X.env.cells.lookup x = some c -> s.heap.IsCell c v -> h'.IsCell c v) :
   ∀ (i : Nat) (x : Str) (v : V), (N ++ F)[i]? = some x -> (List.replicate N.length none ++ A4c js σ)[i]? = some (some v) -> ∃ u, RelV v u /\ Z7g (compEnvC scope (A0m F X.env) C X.env) h' m x u := by
 intro i x v e1 e2
 by_cases hi : i < N.length
 . rw [List.getElem?_append_left (by simpa using hi), List.getElem?_replicate] at e2
   split at e2 <;> cases e2
 . rw [List.getElem?_append_right (by omega)] at e1
   rw [List.getElem?_append_right (by simp; omega)] at e2
   rw [List.length_replicate] at e2
   obtain ⟨⟨j, hj, hx⟩, ⟨c, hcc⟩, kx, kr⟩ := S.at_ _ x e1
   unfold A4c at e2
   rw [List.getElem?_map, hj] at e2
   have e2 : (σ[j]?).getD none = some v := Option.some.inj e2
   have e3 : σ[j]? = some (some v) := by
     cases q : σ[j]? with
     | none => rw [q] at e2; cases e2
     | some o => rw [q] at e2; exact congrArg some e2
   obtain ⟨m0, _, hl⟩ := I.loc
   obtain ⟨u, r, l⟩ := hl j x v hx e3 (.inr (.inl kx))
   refine ⟨u, r, .inr ⟨.inl kr, c, ?_, ?_⟩⟩
   . obtain ⟨c', h1, h2⟩ := S.has (List.mem_of_getElem? e1)
     rw [hcc] at h2
     cases h2
     exact h1
   . rcases l with ⟨k, _⟩ | ⟨_, c', h1, h2⟩
     . rw [kx] at k; cases k
     . rw [hcc] at h1
       cases h1
       exact hc x c _ hcc h2
theorem D2s (S : CompScopeF N F js scope X.N X.env) (σ : St) : (List.replicate N.length none ++ A4c js σ : St).length = (N ++ F).length := by
 unfold A4c
 rw [List.length_append, List.length_replicate, List.length_map, S.jl, List.length_append]
theorem D0u {pins : List (Addr × Obj)} {σ : St} {H : Hp} {s : Shared} {it : Addr} {h' : Heap} (S : CompScopeF N F js scope X.N X.env) (I : Inv X pins σ H s) (hf : A1w X pins H it) (hit : ∃ o, s.heap.get? it = some o) (hnb : X.base.get? it = none)
   (hns : h'.Ns s.heap.objs.size (fun _ => none)) (hsb : ∀ b o, s.heap.get? b = some o -> h'.get? b = some o) {tk : Nat} :
   Inv (X.compF scope N F s.heap.objs.size s H [it] (X.pn ++ pins)) [] (List.replicate N.length none ++ A4c js σ) H { s with heap := h', toks := tk } := by
 obtain ⟨f0, f1, f2, f3, f4, f5⟩ := hf
 obtain ⟨oi, ei⟩ := hit
 have lt : it < s.heap.objs.size := Heap.lt_size ei
 have ck : ∀ c v, s.heap.IsCell c v -> h'.IsCell c v := fun c v ⟨o, e, d⟩ => ⟨o, hsb _ _ e, d⟩
 have inF : ∀ x, ((compEnvC scope (A0m F X.env) s.heap.objs.size X.env).kindOf x = some .cell \/ (compEnvC scope (A0m F X.env) s.heap.objs.size X.env).kindOf x = some .free) -> x ∈ F := by
   intro x z
   have z : (relabel scope X.env).names.lookup x = some .cell \/ (relabel scope X.env).names.lookup x = some .free := z
   rcases z with z | z
   . exact S.fr _ (PySem.mem_of_lookup z) (.inl rfl)
   . exact S.fr _ (PySem.mem_of_lookup z) (.inr rfl)
 refine ⟨⟨I.ok.mod, S.kind, I.ok.glob, I.ok.blt, Nat.le_refl _, fun x y c z z' => I.ok.inj x y c (S.sub x c z) (S.sub y c z'), fun x z => ?_, fun x c z _ => (nomatch z), I.ok.hd, I.ok.frames, .inl rfl, fun b hb => ?_, I.bs, Nat.le_trans I.ok.bsz I.sz, fun b o e hb => ?_, fun b hb hfs => ?_, I.stack, I.stkFree⟩,
   rfl, I.bare, Un.kept hsb, ⟨_, hns, fun i x v e1 e2 e3 => B1p S I (fun x c v _ z => ck c v z) i x v e1 e2⟩, fun x c z => ?_, I.hok.fresh (Nat.le_refl _), fun x c z => I.freeC x c (S.sub x c z), fun p hp => ?_, I.hok.kept hsb, D2s S σ⟩
 . obtain ⟨c, h1, _⟩ := S.has (inF x z)
   exact ⟨c, h1⟩
 . have e : b = it := by simpa using hb
   subst e
   exact ⟨Nat.ne_of_lt lt, fun x c z => f4 x c (S.sub x c z)⟩
 . have e' : b = it := by simpa using hb
   subst e'
   rw [hnb] at e
   cases e
 . have e' : b = it := by simpa using hb
   subst e'
   rcases List.mem_cons.mp (I.stkSub b hfs) with z | z
   . exact f1 z
   . exact f2 z
 . obtain ⟨v, z'⟩ := I.cell x c (S.sub x c z)
   exact ⟨v, ck c v z'⟩
 . have hp' : p ∈ X.pn ++ pins := by simpa using hp
   obtain ⟨q1, q2, q3, q4, q5⟩ := I.pin p hp'
   refine ⟨hsb _ _ q1, q2, Nat.ne_of_lt (Heap.lt_size q1), fun z => ?_, q5⟩
   rcases List.mem_cons.mp (I.stkSub p.1 z) with z | z
   . exact q3 z
   . exact q4 z
theorem D1b {pins pl : List (Addr × Obj)} {σ σ' : St} {H H' : Hp} {s s' : Shared} {it : Addr} (S : CompScopeF N F js scope X.N X.env) (I : Inv X pins σ H s) (hf : A1w X pins H it) (J : Inv (X.compF scope N F s.heap.objs.size s H [it] (X.pn ++ pins)) pl σ' H' s') :
   Inv (X.compF scope N F s.heap.objs.size s H [it] (X.pn ++ pins)) [] (List.replicate N.length none ++ A4c js σ) H' s' := by
 obtain ⟨m, hn, _⟩ := J.loc
 refine ⟨J.ok, J.os, J.bare, J.base, ⟨m, hn, fun i x v e1 e2 e3 => B1p S I (fun x c v z q => ?_) i x v e1 e2⟩, J.cell, J.free, J.freeC, fun p hp => J.pin p (by
   have hp : p ∈ (X.pn ++ pins) ++ [] := hp
   rw [List.append_nil] at hp
   exact List.mem_append_left _ hp), J.hok, D2s S σ⟩
 obtain ⟨o, e, d⟩ := q
 have ne : c ∉ [it] := fun w => hf.2.2.2.2.1 x c z (by simpa using w)
 obtain ⟨sl, q⟩ := J.base.any e (I.freeC x c z) ne
 exact ⟨_, q, d⟩
theorem G7s {elt target iter c : Expr} {scope : Scope} {pos : Pos} {N F : List Str} {js : List Nat} {wi : TI} {g : TG} {tc : TT} {te : TE} (S : CompScopeF N F js scope X.N X.env) (hd : V2 X) (hi : PIH X target iter wi) (hex : X.ex = [])
   (hg : ∀ C s₀ H₀ ex pn, V2 (X.compF scope N F C s₀ H₀ ex pn) -> PG (X.compF scope N F C s₀ H₀ ex pn) target g)
   (hc : ∀ C s₀ H₀ ex pn, V2 (X.compF scope N F C s₀ H₀ ex pn) -> PT (X.compF scope N F C s₀ H₀ ex pn) c tc)
   (he : ∀ C s₀ H₀ ex pn, V2 (X.compF scope N F C s₀ H₀ ex pn) -> PE (X.compF scope N F C s₀ H₀ ex pn) elt te)
   {pins : List (Addr × Obj)} {s : Shared} {σ : St} {H : Hp} {Q : VK} {RR : Value -> Env -> Result -> Shared -> Prop} (I : Inv X pins σ H s) (h : (B6e N.length js wi g tc te) σ H Q)
   (hRR : ∀ (D C : Addr) (s6 : Shared) (H5 : Hp) (mm : Str -> Option Value), Inv X pins σ H5 s6 -> s6.heap.Ns C mm -> A1w X pins H5 C -> Q (.ref D) H5 -> RR (.ref D) (compEnvC scope (A0m F X.env) C X.env) (.ok .next) s6) :
   wpAny (model X.prog X.w) X.A (eval iter X.env) (fun v s1 => wpAny (model X.prog X.w) X.A (pyIter v) (fun itv s2 => wpAny (model X.prog X.w) X.A (newList []) (fun acc s3 => wpAny (model X.prog X.w) X.A (newFunctionEnv scope X.env.globals (A0m F X.env) [] X.env.qual none .none (some X.env)) (fun cenv s4 =>
     codeAny (model X.prog X.w) X.A (.compStart (.ListComp elt [⟨target, iter, [c], 0⟩] scope pos) 0 itv acc { cenv with scope := relabel scope X.env }) (RR acc { cenv with scope := relabel scope X.env }) s4) X.xe s3) X.xe s2) X.xe s1) X.xe s := by
 refine thn (hi pins s σ H _ I h) fun v s1 h1 => thn h1 fun itv s2 h2 => ?_
 obtain ⟨it, tn, J, H2, rfl, I2, T, st2, f2, R⟩ := h2
 obtain ⟨oi, ei, di⟩ := T.obj _ _ st2
 have hf2 := I2.hok.fresh (Nat.le_refl _)
 refine wpAny_newObj_type ?_
 have I3 : Inv X pins σ (upd H2 s2.heap.objs.size (.lst [])) { s2 with heap := s2.heap.push { cls := .type "list", dict := none, data := .seq ([] : List Value).toArray } } := Inv.lnew (t' := s2.toks) I2 .nil (Nat.zero_le _)
 refine wpAny_newFunctionEnv S.cell (by intro y hy; simp at hy) (fun h4 hns hsb => ?_) S.kind
 dsimp only at hns hsb ⊢
 generalize hG : s2.heap.push { cls := .type "list", dict := none, data := .seq ([] : List Value).toArray } = G at I3 hns hsb ⊢
 generalize hD : s2.heap.objs.size = D at I3 hf2
 have nD : it ≠ D := by rw [<- hD]; exact Nat.ne_of_lt (Heap.lt_size ei)
 have eiG : G.get? it = some oi := by rw [<- hG]; exact Heap.get?_push_of_some _ ei
 have kp : ∀ b o, G.get? b = some o -> h4.get? b = some o := fun b o e => hsb.extBut b o (Nat.ne_of_lt (Heap.lt_size e)) (Heap.get?_push_of_some _ e)
 have f3 : A1w X pins (upd H2 D (.lst [])) it := ⟨by rw [C0 nD]; exact f2.1, f2.2⟩
 have nb : X.base.get? it = none := by
   cases q : X.base.get? it with
   | none => rfl
   | some o =>
     have := (I.ok.bs it o q).1
     rcases f2.2.2.2.1 with z | z
     . rw [hex] at z; simp at z
     . exact absurd (Nat.lt_of_lt_of_le (Heap.lt_size this) z) (Nat.lt_irrefl _)
 have hns' : h4.Ns G.objs.size (fun _ => none) := by
   obtain ⟨o, es, ep, q1, q2, q3, q4⟩ := hns
   exact ⟨o, es, ep, q1, q2, q3, fun x => by rw [q4]; rfl⟩
 have I4 := D0u (tk := s2.toks + ([] : List (Str × Value)).length) S I3 f3 ⟨oi, eiG⟩ nb hns' kp
 have hdc : V2 (X.compF scope N F G.objs.size { s2 with heap := G } (upd H2 D (.lst [])) [it] (X.pn ++ pins)) := by
   rcases hd with z | ⟨x, o, u, vs, z, e, d, n⟩
   . exact .inl z
   . refine .inr ⟨x, o, u, vs, z, ?_, d, n⟩
     have q := I2.base.frzs x o u e
     show upd H2 D (.lst []) x = _
     rw [C0 fun w => by rw [w, hf2] at q; cases q]
     exact q
 obtain ⟨m, W, w0, turn⟩ := R D hf2
 have gg := hg _ _ _ _ _ hdc
 have cc := hc _ _ _ _ _ hdc
 have ee := he _ _ _ _ _ hdc
 have fpc : ∀ {H' : Hp} {σ' : St} {s' : Shared} {pl : List (Addr × Obj)}, Inv (X.compF scope N F G.objs.size { s2 with heap := G } (upd H2 D (.lst [])) [it] (X.pn ++ pins)) pl σ' H' s' -> H' it = none -> (∀ p ∈ pl, p.1 ≠ it) -> A1w (X.compF scope N F G.objs.size { s2 with heap := G } (upd H2 D (.lst [])) [it] (X.pn ++ pins)) pl H' it := by
   intro H' σ' s' pl J' hn hp
   refine ⟨hn, Nat.ne_of_lt (Heap.lt_size eiG), ?_, .inl (List.mem_singleton.mpr rfl), (fun x c z => f2.2.2.2.2.1 x c (S.sub x c z)), fun p hpp => ?_⟩
   . intro z
     rcases List.mem_cons.mp (I.stkSub it z) with z | z
     . exact f2.2.1 z
     . exact f2.2.2.1 z
   . rcases List.mem_append.mp hpp with z | z
     . exact f2.2.2.2.2.2 p z
     . exact hp p z
 have loop : codeAny (model X.prog X.w) X.A (.compLoop (.ListComp elt [⟨target, iter, [c], 0⟩] scope pos) 0 (.ref it) (.ref D) (compEnvC scope (A0m F X.env) G.objs.size X.env))
     (RR (.ref D) (compEnvC scope (A0m F X.env) G.objs.size X.env))
     { s2 with heap := h4, toks := s2.toks + ([] : List (Str × Value)).length } := by
   refine kct_loop (fun k s' => ∃ i ys H', k = m + 1 - i /\ Inv (X.compF scope N F G.objs.size { s2 with heap := G } (upd H2 D (.lst [])) [it] (X.pn ++ pins)) [] (List.replicate N.length none ++ A4c js σ) H' s' /\ tn i s'.heap /\ H' it = none /\ W i ys H') ?_ (m + 1)
     ⟨0, [], _, rfl, I4, T.keep _ _ _ st2 fun o e => kp it o (by rw [<- hG]; exact Heap.get?_push_of_some _ e), f3.1, w0⟩
   rintro k s5 ⟨i, ys, H5, rfl, I5, st5, n5, w5⟩
   obtain ⟨hi5, hD5, w5⟩ := turn i ys H5 w5
   rcases w5 with ⟨stop, q⟩ | ⟨lt5, go, step⟩
   . refine wpAny_mono (T.done (X.compF scope N F G.objs.size { s2 with heap := G } (upd H2 D (.lst [])) [it] (X.pn ++ pins)) rfl rfl rfl hdc i [] s5 _ H5 (fun _ _ => False) I5 (fpc I5 n5 (by simp)) st5 stop) (fun r s6 z => ?_) (fun _ _ z => z.elim)
     obtain ⟨rfl, I6⟩ := z
     obtain ⟨mm, hn6, _⟩ := I6.loc
     have B6 := I6.base
     have J6 : Inv X pins σ H5 s6 := by
       refine I3.call' (ch := [it]) I6.os ⟨B6.keep, B6.slot, B6.free, B6.there, B6.tups, B6.frzs, B6.tbls⟩ I6.hok I6.bare (fun b hb => ?_)
       have e : b = it := by simpa using hb
       subst e
       exact ⟨f2.2.2.2.1, f2.2.1, f2.2.2.2.2.1, f2.2.2.2.2.2⟩
     have szG : X.s₀.heap.objs.size <= G.objs.size := I3.sz
     refine hRR D G.objs.size s6 H5 mm J6 hn6 ⟨I6.free, ?_, ?_, .inr szG, ?_, ?_⟩ q
     . exact Nat.ne_of_gt I3.lt
     . intro z
       obtain ⟨_, o, ho, _⟩ := I3.funs.mem z
       exact Nat.lt_irrefl _ (Heap.lt_size ho)
     . rintro x c z rfl
       obtain ⟨v', o, ho, _⟩ := I3.cell x _ z
       exact Nat.lt_irrefl _ (Heap.lt_size ho)
     . rintro p hp z
       have zz := (I3.pin p hp).1
       rw [z] at zz
       exact Nat.lt_irrefl _ (Heap.lt_size zz)
   . refine wpAny_mono (T.item (X.compF scope N F G.objs.size { s2 with heap := G } (upd H2 D (.lst [])) [it] (X.pn ++ pins)) rfl rfl rfl hdc i [] s5 _ H5 (fun _ _ => False) I5 (fpc I5 n5 (by simp)) st5 go) (fun r s6 z => ?_) (fun _ _ z => z.elim)
     obtain ⟨u, rfl, z⟩ := z
     refine wpAny_mono z (fun _ s7 z => ?_) (fun _ _ z => z.elim)
     obtain ⟨x, I7, rx, yl, st7⟩ := z
     obtain ⟨o7, e7, d7⟩ := T.obj _ _ st7
     obtain ⟨p0, p1, p2, _⟩ := fpc I7 n5 (by simp)
     have I7' : Inv (X.compF scope N F G.objs.size { s2 with heap := G } (upd H2 D (.lst [])) [it] (X.pn ++ pins)) [(it, o7)] (List.replicate N.length none ++ A4c js σ) H5 s7 := I7.pins_of fun p hp => by
       have e : p = (it, o7) := by simpa using hp
       subst e
       exact ⟨e7, p0, p1, p2, d7⟩
     have back : ∀ {i' : Nat} {ys' : List V} {H' : Hp} {σ' : St} {s' : Shared}, i' = i + 1 -> Inv (X.compF scope N F G.objs.size { s2 with heap := G } (upd H2 D (.lst [])) [it] (X.pn ++ pins)) [(it, o7)] σ' H' s' -> W i' ys' H' ->
         ∃ k', k' < m + 1 - i /\ ∃ i ys H', k' = m + 1 - i /\ Inv (X.compF scope N F G.objs.size { s2 with heap := G } (upd H2 D (.lst [])) [it] (X.pn ++ pins)) [] (List.replicate N.length none ++ A4c js σ) H' s' /\ tn i s'.heap /\ H' it = none /\ W i ys H' := by
       rintro i' ys' H' σ' s' rfl J' w'
       obtain ⟨q1, q2, _⟩ := J'.pin (it, o7) (List.mem_append_right _ (List.mem_singleton.mpr rfl))
       refine ⟨m + 1 - (i + 1), by omega, i + 1, ys', H', rfl, D1b S I3 f3 J', T.keep _ _ _ st7 fun o z => ?_, q2, w'⟩
       rw [e7] at z
       cases z
       exact q1
     refine wpAny_mono (gg [(it, o7)] s7 _ H5 x u _ I7' rx (step x H5 yl)) (fun _ s8 z => ?_) (fun _ _ z => z.elim)
     obtain ⟨σ8, H8, I8, q8⟩ := z
     refine wpAny_mono (cc [(it, o7)] s8 σ8 H8 _ I8 q8) (fun b s9 z => ?_) (fun _ _ z => z.elim)
     obtain ⟨H9, I9, q9⟩ := z
     cases b with
     | false =>
       simp only [Bool.false_eq_true, if_false] at q9 ⊢
       exact back rfl I9 q9
     | true =>
       simp only [if_true] at q9 ⊢
       refine wpAny_mono (ee [(it, o7)] s9 σ8 H9 _ I9 q9) (fun y s10 z => ?_) (fun _ _ z => z.elim)
       obtain ⟨yv, H10, I10, ry, hD10, hz10, w10⟩ := z
       refine wpAny_mono (B6h (X := X.compF scope N F G.objs.size { s2 with heap := G } (upd H2 D (.lst [])) [it] (X.pn ++ pins)) [(it, o7)] s10 σ8 H10 (.ref D) [yv] (.ref D) [y] (fun _ H11 => W (i + 1) (ys ++ [yv]) H11) I10 rfl (.cons ry .nil) ⟨D, ys, yv, rfl, rfl, hD10, hz10, w10⟩) (fun _ s11 z => ?_) (fun _ _ z => z.elim)
       obtain ⟨_, H11, I11, _, w11⟩ := z
       exact back rfl I11 w11
 exact codeAny_compStart_list loop (T.self _ 0 _ _ _ (T.keep _ _ _ st2 fun o e => kp it o (by rw [<- hG]; exact Heap.get?_push_of_some _ e)) loop)
theorem G3v {elt target iter : Expr} {scope : Scope} {pos : Pos} {N F : List Str} {js : List Nat} {wi : TI} {g : TG} {te : TE} (S : CompScopeF N F js scope X.N X.env) (hd : V2 X) (hi : PIH X target iter wi) (hex : X.ex = [])
   (hg : ∀ C s₀ H₀ ex pn, V2 (X.compF scope N F C s₀ H₀ ex pn) -> PG (X.compF scope N F C s₀ H₀ ex pn) target g)
   (he : ∀ C s₀ H₀ ex pn, V2 (X.compF scope N F C s₀ H₀ ex pn) -> PE (X.compF scope N F C s₀ H₀ ex pn) elt te)
   {pins : List (Addr × Obj)} {s : Shared} {σ : St} {H : Hp} {Q : VK} {RR : Value -> Env -> Result -> Shared -> Prop} (I : Inv X pins σ H s) (h : (J8y N.length js wi g te) σ H Q)
   (hRR : ∀ (D C : Addr) (s6 : Shared) (H5 : Hp) (mm : Str -> Option Value), Inv X pins σ H5 s6 -> s6.heap.Ns C mm -> A1w X pins H5 C -> Q (.ref D) H5 -> RR (.ref D) (compEnvC scope (A0m F X.env) C X.env) (.ok .next) s6) :
   wpAny (model X.prog X.w) X.A (eval iter X.env) (fun v s1 => wpAny (model X.prog X.w) X.A (pyIter v) (fun itv s2 => wpAny (model X.prog X.w) X.A (newList []) (fun acc s3 => wpAny (model X.prog X.w) X.A (newFunctionEnv scope X.env.globals (A0m F X.env) [] X.env.qual none .none (some X.env)) (fun cenv s4 =>
     codeAny (model X.prog X.w) X.A (.compStart (.ListComp elt [⟨target, iter, [], 0⟩] scope pos) 0 itv acc { cenv with scope := relabel scope X.env }) (RR acc { cenv with scope := relabel scope X.env }) s4) X.xe s3) X.xe s2) X.xe s1) X.xe s := by
 refine thn (hi pins s σ H _ I h) fun v s1 h1 => thn h1 fun itv s2 h2 => ?_
 obtain ⟨it, tn, J, H2, rfl, I2, T, st2, f2, R⟩ := h2
 obtain ⟨oi, ei, di⟩ := T.obj _ _ st2
 have hf2 := I2.hok.fresh (Nat.le_refl _)
 refine wpAny_newObj_type ?_
 have I3 : Inv X pins σ (upd H2 s2.heap.objs.size (.lst [])) { s2 with heap := s2.heap.push { cls := .type "list", dict := none, data := .seq ([] : List Value).toArray } } := Inv.lnew (t' := s2.toks) I2 .nil (Nat.zero_le _)
 refine wpAny_newFunctionEnv S.cell (by intro y hy; simp at hy) (fun h4 hns hsb => ?_) S.kind
 dsimp only at hns hsb ⊢
 generalize hG : s2.heap.push { cls := .type "list", dict := none, data := .seq ([] : List Value).toArray } = G at I3 hns hsb ⊢
 generalize hD : s2.heap.objs.size = D at I3 hf2
 have nD : it ≠ D := by rw [<- hD]; exact Nat.ne_of_lt (Heap.lt_size ei)
 have eiG : G.get? it = some oi := by rw [<- hG]; exact Heap.get?_push_of_some _ ei
 have kp : ∀ b o, G.get? b = some o -> h4.get? b = some o := fun b o e => hsb.extBut b o (Nat.ne_of_lt (Heap.lt_size e)) (Heap.get?_push_of_some _ e)
 have f3 : A1w X pins (upd H2 D (.lst [])) it := ⟨by rw [C0 nD]; exact f2.1, f2.2⟩
 have nb : X.base.get? it = none := by
   cases q : X.base.get? it with
   | none => rfl
   | some o =>
     have := (I.ok.bs it o q).1
     rcases f2.2.2.2.1 with z | z
     . rw [hex] at z; simp at z
     . exact absurd (Nat.lt_of_lt_of_le (Heap.lt_size this) z) (Nat.lt_irrefl _)
 have hns' : h4.Ns G.objs.size (fun _ => none) := by
   obtain ⟨o, es, ep, q1, q2, q3, q4⟩ := hns
   exact ⟨o, es, ep, q1, q2, q3, fun x => by rw [q4]; rfl⟩
 have I4 := D0u (tk := s2.toks + ([] : List (Str × Value)).length) S I3 f3 ⟨oi, eiG⟩ nb hns' kp
 have hdc : V2 (X.compF scope N F G.objs.size { s2 with heap := G } (upd H2 D (.lst [])) [it] (X.pn ++ pins)) := by
   rcases hd with z | ⟨x, o, u, vs, z, e, d, n⟩
   . exact .inl z
   . refine .inr ⟨x, o, u, vs, z, ?_, d, n⟩
     have q := I2.base.frzs x o u e
     show upd H2 D (.lst []) x = _
     rw [C0 fun w => by rw [w, hf2] at q; cases q]
     exact q
 obtain ⟨m, W, w0, turn⟩ := R D hf2
 have gg := hg _ _ _ _ _ hdc
 have ee := he _ _ _ _ _ hdc
 have fpc : ∀ {H' : Hp} {σ' : St} {s' : Shared} {pl : List (Addr × Obj)}, Inv (X.compF scope N F G.objs.size { s2 with heap := G } (upd H2 D (.lst [])) [it] (X.pn ++ pins)) pl σ' H' s' -> H' it = none -> (∀ p ∈ pl, p.1 ≠ it) -> A1w (X.compF scope N F G.objs.size { s2 with heap := G } (upd H2 D (.lst [])) [it] (X.pn ++ pins)) pl H' it := by
   intro H' σ' s' pl J' hn hp
   refine ⟨hn, Nat.ne_of_lt (Heap.lt_size eiG), ?_, .inl (List.mem_singleton.mpr rfl), (fun x c z => f2.2.2.2.2.1 x c (S.sub x c z)), fun p hpp => ?_⟩
   . intro z
     rcases List.mem_cons.mp (I.stkSub it z) with z | z
     . exact f2.2.1 z
     . exact f2.2.2.1 z
   . rcases List.mem_append.mp hpp with z | z
     . exact f2.2.2.2.2.2 p z
     . exact hp p z
 have loop : codeAny (model X.prog X.w) X.A (.compLoop (.ListComp elt [⟨target, iter, [], 0⟩] scope pos) 0 (.ref it) (.ref D) (compEnvC scope (A0m F X.env) G.objs.size X.env))
     (RR (.ref D) (compEnvC scope (A0m F X.env) G.objs.size X.env))
     { s2 with heap := h4, toks := s2.toks + ([] : List (Str × Value)).length } := by
   refine U7y (fun k s' => ∃ i ys H', k = m + 1 - i /\ Inv (X.compF scope N F G.objs.size { s2 with heap := G } (upd H2 D (.lst [])) [it] (X.pn ++ pins)) [] (List.replicate N.length none ++ A4c js σ) H' s' /\ tn i s'.heap /\ H' it = none /\ W i ys H') ?_ (m + 1)
     ⟨0, [], _, rfl, I4, T.keep _ _ _ st2 fun o e => kp it o (by rw [<- hG]; exact Heap.get?_push_of_some _ e), f3.1, w0⟩
   rintro k s5 ⟨i, ys, H5, rfl, I5, st5, n5, w5⟩
   obtain ⟨hi5, hD5, w5⟩ := turn i ys H5 w5
   rcases w5 with ⟨stop, q⟩ | ⟨lt5, go, step⟩
   . refine wpAny_mono (T.done (X.compF scope N F G.objs.size { s2 with heap := G } (upd H2 D (.lst [])) [it] (X.pn ++ pins)) rfl rfl rfl hdc i [] s5 _ H5 (fun _ _ => False) I5 (fpc I5 n5 (by simp)) st5 stop) (fun r s6 z => ?_) (fun _ _ z => z.elim)
     obtain ⟨rfl, I6⟩ := z
     obtain ⟨mm, hn6, _⟩ := I6.loc
     have B6 := I6.base
     have J6 : Inv X pins σ H5 s6 := by
       refine I3.call' (ch := [it]) I6.os ⟨B6.keep, B6.slot, B6.free, B6.there, B6.tups, B6.frzs, B6.tbls⟩ I6.hok I6.bare (fun b hb => ?_)
       have e : b = it := by simpa using hb
       subst e
       exact ⟨f2.2.2.2.1, f2.2.1, f2.2.2.2.2.1, f2.2.2.2.2.2⟩
     have szG : X.s₀.heap.objs.size <= G.objs.size := I3.sz
     refine hRR D G.objs.size s6 H5 mm J6 hn6 ⟨I6.free, ?_, ?_, .inr szG, ?_, ?_⟩ q
     . exact Nat.ne_of_gt I3.lt
     . intro z
       obtain ⟨_, o, ho, _⟩ := I3.funs.mem z
       exact Nat.lt_irrefl _ (Heap.lt_size ho)
     . rintro x c z rfl
       obtain ⟨v', o, ho, _⟩ := I3.cell x _ z
       exact Nat.lt_irrefl _ (Heap.lt_size ho)
     . rintro p hp z
       have zz := (I3.pin p hp).1
       rw [z] at zz
       exact Nat.lt_irrefl _ (Heap.lt_size zz)
   . refine wpAny_mono (T.item (X.compF scope N F G.objs.size { s2 with heap := G } (upd H2 D (.lst [])) [it] (X.pn ++ pins)) rfl rfl rfl hdc i [] s5 _ H5 (fun _ _ => False) I5 (fpc I5 n5 (by simp)) st5 go) (fun r s6 z => ?_) (fun _ _ z => z.elim)
     obtain ⟨u, rfl, z⟩ := z
     refine wpAny_mono z (fun _ s7 z => ?_) (fun _ _ z => z.elim)
     obtain ⟨x, I7, rx, yl, st7⟩ := z
     obtain ⟨o7, e7, d7⟩ := T.obj _ _ st7
     obtain ⟨p0, p1, p2, _⟩ := fpc I7 n5 (by simp)
     have I7' : Inv (X.compF scope N F G.objs.size { s2 with heap := G } (upd H2 D (.lst [])) [it] (X.pn ++ pins)) [(it, o7)] (List.replicate N.length none ++ A4c js σ) H5 s7 := I7.pins_of fun p hp => by
       have e : p = (it, o7) := by simpa using hp
       subst e
       exact ⟨e7, p0, p1, p2, d7⟩
     have back : ∀ {i' : Nat} {ys' : List V} {H' : Hp} {σ' : St} {s' : Shared}, i' = i + 1 -> Inv (X.compF scope N F G.objs.size { s2 with heap := G } (upd H2 D (.lst [])) [it] (X.pn ++ pins)) [(it, o7)] σ' H' s' -> W i' ys' H' ->
         ∃ k', k' < m + 1 - i /\ ∃ i ys H', k' = m + 1 - i /\ Inv (X.compF scope N F G.objs.size { s2 with heap := G } (upd H2 D (.lst [])) [it] (X.pn ++ pins)) [] (List.replicate N.length none ++ A4c js σ) H' s' /\ tn i s'.heap /\ H' it = none /\ W i ys H' := by
       rintro i' ys' H' σ' s' rfl J' w'
       obtain ⟨q1, q2, _⟩ := J'.pin (it, o7) (List.mem_append_right _ (List.mem_singleton.mpr rfl))
       refine ⟨m + 1 - (i + 1), by omega, i + 1, ys', H', rfl, D1b S I3 f3 J', T.keep _ _ _ st7 fun o z => ?_, q2, w'⟩
       rw [e7] at z
       cases z
       exact q1
     refine wpAny_mono (gg [(it, o7)] s7 _ H5 x u _ I7' rx (step x H5 yl)) (fun _ s8 z => ?_) (fun _ _ z => z.elim)
     obtain ⟨σ8, H8, I8, q8⟩ := z
     refine wpAny_mono (ee [(it, o7)] s8 σ8 H8 _ I8 q8) (fun y s10 z => ?_) (fun _ _ z => z.elim)
     obtain ⟨yv, H10, I10, ry, hD10, hz10, w10⟩ := z
     refine wpAny_mono (B6h (X := X.compF scope N F G.objs.size { s2 with heap := G } (upd H2 D (.lst [])) [it] (X.pn ++ pins)) [(it, o7)] s10 σ8 H10 (.ref D) [yv] (.ref D) [y] (fun _ H11 => W (i + 1) (ys ++ [yv]) H11) I10 rfl (.cons ry .nil) ⟨D, ys, yv, rfl, rfl, hD10, hz10, w10⟩) (fun _ s11 z => ?_) (fun _ _ z => z.elim)
     obtain ⟨_, H11, I11, _, w11⟩ := z
     exact back rfl I11 w11
 exact codeAny_compStart_list loop (T.self _ 0 _ _ _ (T.keep _ _ _ st2 fun o e => kp it o (by rw [<- hG]; exact Heap.get?_push_of_some _ e)) loop)
theorem U7q {elt target iter : Expr} {c : Expr} {tc : TT} {pos : Pos} {wi : TI} {g : TG} {te : TE} (S : CompScopeF N F js scope X.N X.env) (hd : V2 X) (hi : PIH X target iter wi) (hex : X.ex = [])
   (hg : ∀ C s₀ H₀ ex pn, V2 (X.compF scope N F C s₀ H₀ ex pn) -> PG (X.compF scope N F C s₀ H₀ ex pn) target g)
   (hc : ∀ C s₀ H₀ ex pn, V2 (X.compF scope N F C s₀ H₀ ex pn) -> PT (X.compF scope N F C s₀ H₀ ex pn) c tc)
   (he : ∀ C s₀ H₀ ex pn, V2 (X.compF scope N F C s₀ H₀ ex pn) -> PE (X.compF scope N F C s₀ H₀ ex pn) elt te)
   (hs : ∀ x, foldedSetIterable iter X.env x = pure x := by intro _; rfl) : PE X (.ListComp elt [⟨target, iter, [c], 0⟩] scope pos) (B6e N.length js wi g tc te) := by
 intro pins s σ H Q I h
 rw [eval_ListComp]
 refine wpAny_comprehension_free (use := none) rfl hs S.clos S.kind S.loc (G7s S hd hi hex hg hc he I h (RR := fun acc ce r s' => compPost (model X.prog X.w) X.A X.xe none (EP X pins σ Q) acc ce.locals r s') ?_)
 intro D C s6 H5 mm I6 n6 f6 q
 exact ⟨mm, n6, fun h' sb => ⟨.ref D, H5, J8n I6 f6 sb, rfl, q⟩⟩
theorem U0e {elt target iter : Expr} {pos : Pos} {wi : TI} {g : TG} {te : TE} (S : CompScopeF N F js scope X.N X.env) (hd : V2 X) (hi : PIH X target iter wi) (hex : X.ex = [])
   (hg : ∀ C s₀ H₀ ex pn, V2 (X.compF scope N F C s₀ H₀ ex pn) -> PG (X.compF scope N F C s₀ H₀ ex pn) target g)
   (he : ∀ C s₀ H₀ ex pn, V2 (X.compF scope N F C s₀ H₀ ex pn) -> PE (X.compF scope N F C s₀ H₀ ex pn) elt te)
   (hs : ∀ x, foldedSetIterable iter X.env x = pure x := by intro _; rfl) : PE X (.ListComp elt [⟨target, iter, [], 0⟩] scope pos) (J8y N.length js wi g te) := by
 intro pins s σ H Q I h
 rw [eval_ListComp]
 refine wpAny_comprehension_free (use := none) rfl hs S.clos S.kind S.loc (G3v S hd hi hex hg he I h (RR := fun acc ce r s' => compPost (model X.prog X.w) X.A X.xe none (EP X pins σ Q) acc ce.locals r s') ?_)
 intro D C s6 H5 mm I6 n6 f6 q
 exact ⟨mm, n6, fun h' sb => ⟨.ref D, H5, J8n I6 f6 sb, rfl, q⟩⟩
end
structure CompS (N F : List Str) (sc : Scope) : Prop where
 kind : sc.kind = .function
 cell : ∀ y ∈ sc.names, y.2 ≠ .cell
 loc : ∀ y ∈ sc.names, y.2 = .local -> sc.names.lookup y.1 = some .local
 fr : ∀ y ∈ sc.names, y.2 = .free -> y.1 ∈ F
 nd : (N ++ F).Nodup
theorem C3b {sc : Scope} {env : Env} {F : List Str} (cell : ∀ y ∈ sc.names, y.2 ≠ .cell) (fr : ∀ y ∈ sc.names, y.2 = .free -> y.1 ∈ F) : ∀ y ∈ (relabel sc env).names, y.2 = .cell \/ y.2 = .free -> y.1 ∈ F := by
 intro y hy h
 obtain ⟨⟨n, k⟩, hm, e⟩ := List.mem_map.mp hy
 dsimp only at e
 split at e
 . rename_i hc
   subst e
   simp only [Bool.and_eq_true] at hc
   exact fr (n, k) hm (by simpa using hc.1.1)
 . subst e
   rcases h with h | h
   . exact absurd h (cell (n, k) hm)
   . exact fr (n, k) hm h
theorem CompScopeF.of1 {N : List Str} {x : Str} {j : Nat} {sc : Scope} {XN : List Str} {env : Env} (S : CompS N [x] sc) (clos : closureFor sc env = pure (A0m [x] env)) (hj : XN[j]? = some x) (hc : ∃ c, env.cells.lookup x = some c) (hk : env.kindOf x = some .cell)
   (hr : (relabel sc env).names.lookup x = some .cell) : CompScopeF N [x] [j] sc XN env :=
 ⟨S.kind, S.cell, S.loc, S.nd, clos, C3b S.cell S.fr, fun k y h => match k, h with
   | 0, h => by cases h; exact ⟨⟨j, rfl, hj⟩, hc, hk, hr⟩
   | k + 1, h => by simp at h, rfl⟩
theorem CompScopeF.of2 {N : List Str} {x y : Str} {j k : Nat} {sc : Scope} {XN : List Str} {env : Env} (S : CompS N [x, y] sc) (clos : closureFor sc env = pure (A0m [x, y] env)) (hj : XN[j]? = some x) (hc : ∃ c, env.cells.lookup x = some c) (hk : env.kindOf x = some .cell)
   (hr : (relabel sc env).names.lookup x = some .cell) (hj' : XN[k]? = some y) (hc' : ∃ c, env.cells.lookup y = some c) (hk' : env.kindOf y = some .cell) (hr' : (relabel sc env).names.lookup y = some .cell) : CompScopeF N [x, y] [j, k] sc XN env :=
 ⟨S.kind, S.cell, S.loc, S.nd, clos, C3b S.cell S.fr, fun i z h => match i, h with
   | 0, h => by cases h; exact ⟨⟨j, rfl, hj⟩, hc, hk, hr⟩
   | 1, h => by cases h; exact ⟨⟨k, rfl, hj'⟩, hc', hk', hr'⟩
   | i + 2, h => by simp at h, rfl⟩
theorem A4z (z : Str) : ∀ zs : List Str, inV (.str z) (zs.map V.str) = zs.contains z
 | [] => rfl
 | y :: zs => by
   show (eqV (.str y) (.str z) || inV (.str z) (zs.map V.str)) = _
   rw [A4z z zs, List.contains_cons]
   show ((y == z) || _) = _
   rw [BEq.comm]
theorem A1q : ∀ zs : List Str, (zs.map V.str).all B5b = true
 | [] => rfl
 | _ :: zs => A1q zs
theorem U8p {K : Frag} {H : Hp} {σ σf : L2.St} {a : Addr} {zs : List Str} {f : Str -> Bool} {tc : TT} {te : TE} {Q : VK} (hl : ∀ H, SqT K H a (zs.map V.str)) (hz : zs.length <= 100)
   (ht : ∀ (z : Str) (H' : Hp) (Qb : Bool -> Hp -> Prop), Same H H' -> Qb (f z) H' -> tc (some (.str z) :: σf) H' Qb) (he : ∀ (z : Str) (H' : Hp) (Qv : VK), Qv (.str z) H' -> te (some (.str z) :: σf) H' Qv)
   (k : ∀ D H', Same H H' -> H D = none -> H' D = some (.lst ((zs.filter f).map V.str)) -> Q (.ref D) H') {js : List Nat} (hj : A4c js σ = σf) : B6e 1 js (Z9e K (tC (.ref a))) (J9k 0) tc te σ H Q := by
 refine ⟨a, rfl, ⟨_, hl H⟩, fun D hD => ⟨zs.length, fun i ys H2 => i <= zs.length /\ ys = ((zs.take i).filter f).map V.str /\ H2 = upd H D (.lst ys), ⟨Nat.zero_le _, rfl, rfl⟩, ?_⟩⟩
 rintro i ys H2 ⟨hi, rfl, rfl⟩
 refine ⟨hi, A7, ?_⟩
 have sm : Same H (upd H D (.lst (((zs.take i).filter f).map V.str))) := Same.upd hD
 have lz : (((zs.take i).filter f).map V.str).length <= 100 := by
   rw [List.length_map]
   exact Nat.le_trans (List.length_filter_le _ _) (by rw [List.length_take]; omega)
 by_cases hlt : i < zs.length
 . refine .inr ⟨hlt, ⟨_, V.str zs[i], hl _, by simp [hlt]⟩, fun x H3 y => ?_⟩
   obtain ⟨rfl, y⟩ := y
   have ex : x = V.str zs[i] := by
     have := y _ (hl _)
     simp [hlt] at this
     exact this.symm
   subst ex
   rw [hj]
   show tc (some (.str zs[i]) :: σf) _ _
   refine ht _ _ _ sm ?_
   have et : (zs.take (i + 1)).filter f = (zs.take i).filter f ++ (if f zs[i] then [zs[i]] else []) := by
     rw [List.take_succ_eq_append_getElem hlt, List.filter_append]
     congr 1
     cases hb : f zs[i] <;> simp [hb]
   cases hb : f zs[i] with
   | false =>
     refine J9 ⟨hlt, ?_, rfl⟩
     rw [et, hb]; simp
   | true =>
     refine Z3 (he _ _ _ ⟨A7, Nat.lt_of_le_of_lt lz (V0 (by decide)), hlt, ?_, ?_⟩)
     . rw [et, hb]; simp
     . rw [Y5x]
 . have e : i = zs.length := by omega
   subst e
   refine .inl ⟨⟨_, hl _, by simp⟩, k D _ sm hD ?_⟩
   rw [List.take_length]
   exact A7
end L2
namespace L2
open PySem
section
variable {prog : Program} {w : World} {A : Around} {E : Value -> Shared -> Prop} {h : Heap} {g : Array GenState} {d : Drawn} {t : Nat} {os : OsState}
variable {nm q : Str} {C N : Addr} {bs bm bmB : List Value} {hdct : Bool} {sn : List Str} {sub : List Value} {ab : Bool} {col : Option Bool} {dd : Option Addr} {k0 k1 k2 k3 k5 : Option Value} {B newId initId : String}
theorem B2d (F : ExcBaseFacts B newId initId bmB) (T : OwnTail h bmB bm) {mN : Str -> Option Value} {rest : List Value} {fI : Addr} {oI : Obj} {Q : Fin -> Shared -> Prop}
   (hC : h.get? C = some (excClassObj nm q C N bs bm hdct sn sub ab col dd k0 k1 k2 k3 k5 newId)) (hn : h.Ns N mN) (hi : mN "__init__" = some (.ref fI))
   (hfI : h.get? fI = some oI) (hfc : oI.cls = .type "function")
   (hq : ∀ h' e, Heap.MadeExcOf h h' e (.ref C) rest ->
     wpAny (model prog w) A (call (.ref fI) (.ref e :: rest)) (fun r s' => r = .none /\ Q (.done (.ret (.ref e))) s') E ⟨h', g, d, t, os⟩) (hrest : rest.length <= sizeLine) :
   wpAny (model prog w) A (Builtin.«type.__call__» ⟨.ref C :: rest, []⟩) Q E ⟨h, g, d, t, os⟩ := by
 repeat (first | with_reducible refine wpAny_loadPart_at hC ?_ | with_reducible refine wpAny_madeBy_exc hC ?_ | wp_step)
 refine codeAny_call_builtin_code (Code.quiet_builtin _ F.quiet) (wpAny_check_new_subT F T hC ?_)
 refine codeAny_exc_new_subT F T hC ?_ hrest
 show wpAny _ _ _ _ _ _
 have hC₁ := Heap.get?_push_of_some { cls := .ref C, data := .fields #[.ref h.objs.size, .none, .none, .none, .bool false, .none] }
   (Heap.get?_push_of_some { cls := .type "tuple", data := .seq rest.toArray } hC)
 have hfI₁ := Heap.get?_push_of_some { cls := .ref C, data := .fields #[.ref h.objs.size, .none, .none, .none, .bool false, .none] }
   (Heap.get?_push_of_some { cls := .type "tuple", data := .seq rest.toArray } hfI)
 have hn₁ : ((h.push { cls := .type "tuple", data := .seq rest.toArray }).push { cls := .ref C, data := .fields #[.ref h.objs.size, .none, .none, .none, .bool false, .none] }).Ns N mN :=
   let ⟨o, es, ep, e, r⟩ := hn; ⟨o, es, ep, Heap.get?_push_of_some _ (Heap.get?_push_of_some _ e), r⟩
 have hget : ((h.push { cls := .type "tuple", data := .seq rest.toArray }).push
     { cls := .ref C, data := .fields #[.ref h.objs.size, .none, .none, .none, .bool false, .none] }).get? (h.objs.size + 1) = some
     { cls := .ref C, data := .fields #[.ref h.objs.size, .none, .none, .none, .bool false, .none] } := by heap_get
 have hcC : (Value.ref C :: bm).contains (.ref C) = true := by simp
 have T₁ := T.keeps (h' := (h.push { cls := .type "tuple", data := .seq rest.toArray }).push { cls := .ref C, data := .fields #[.ref h.objs.size, .none, .none, .none, .bool false, .none] })
   fun b o e => Heap.get?_push_of_some _ (Heap.get?_push_of_some _ e)
 unfold isInstance
 repeat (first | with_reducible refine wpAny_loadPart_at hget ?_ | (with_reducible refine wpAny_isSubtype_exc hC₁ ?_; rw [hcC]) | wp_step)
 show wpAny _ _ (typeLookup (.ref C) _) _ _ _
 refine wpAny_typeLookup_tail hC₁ hn₁ T₁ F.mroIs F.init.lookup ?_
 rw [hi]
 refine wpAny_holding (wpAny_bind ?_)
 unfold bindSpecial
 refine wpAny_bind (wpAny_typeOf (T := "function") ⟨_, hfI₁, hfc⟩ ?_)
 rw [if_pos (by decide)]
 refine wpAny_pure (wpAny_bind (wpAny_mono (hq _ (h.objs.size + 1) ⟨fun b o hb => Heap.get?_push_of_some _ (Heap.get?_push_of_some _ hb), Heap.get?_none_of_le (Nat.le_succ _), h.objs.size, hget, Heap.get?_none_of_le (Nat.le_refl _), ?_⟩) (fun r s' hr => ?_) fun _ _ x => x))
 . exact Heap.get?_push_of_some _ (Heap.get?_push_at rfl rfl)
 . obtain ⟨rfl, hQ⟩ := hr
   wp_walk
   exact hQ
theorem C1w (F : ExcBaseFacts B newId initId bmB) (T : OwnTail h bmB bm) {mN : Str -> Option Value} {rest : List Value} {fI : Addr} {oI : Obj} {Q : Value -> Shared -> Prop}
   (hC : h.get? C = some (excClassObj nm q C N bs bm hdct sn sub ab col dd k0 k1 k2 k3 k5 newId)) (hn : h.Ns N mN) (hi : mN "__init__" = some (.ref fI))
   (hfI : h.get? fI = some oI) (hfc : oI.cls = .type "function")
   (hq : ∀ h' e, Heap.MadeExcOf h h' e (.ref C) rest ->
     wpAny (model prog w) (A.under (.builtin "type.__call__" ⟨.ref C :: rest, []⟩)) (call (.ref fI) (.ref e :: rest)) (fun r s' => r = .none /\ Q (.ref e) s') E ⟨h', g, d, t, os⟩) (hrest : rest.length <= sizeLine) :
   wpAny (model prog w) A (call (.ref C) rest) Q E ⟨h, g, d, t, os⟩ := by
 have f1 := tc_lookup
 have f2 := tc_bind (.ref C)
 have hT : (⟨h, g, d, t, os⟩ : Shared).TypeIs (.ref C) "type" := ⟨_, hC, rfl⟩
 refine wpAny_call (codeAny_of_tree ?_)
 show wpAny _ _ (callAny (.ref C) _) _ _ _
 repeat (any_goals (first | assumption | with_reducible refine wpAny_loadPart_at hC ?_ | wp_step))
 refine ⟨rfl, ?_⟩
 refine codeAny_call_builtin_at (Code.quiet_builtin _ (by decide +kernel)) entry_typeCall (wpAny_check_type_call_sub hC (B2d (hrest := hrest) F T hC hn hi hfI hfc fun h' e hm => ?_))
 exact hq h' e hm
end
section
variable {M : Model} {prog : Program} {w : World} {A : Around} {E : Value -> Shared -> Prop} {s : Shared} {env : Env}
variable {nm q : Str} {C N : Addr} {bs bm bmB : List Value} {hdct : Bool} {sn : List Str} {sub : List Value} {ab : Bool} {col : Option Bool} {dd : Option Addr} {k0 k1 k2 k3 k5 : Option Value} {B newId initId : String}
theorem A8h {x : Sem Value} {Q : Flow -> Shared -> Prop} (hbase : bm.contains (.type "BaseException") = true) (hh : A.handled = none)
   (h : wpAny M A x (fun v s₁ => ∃ e t de, v = .ref e /\ s₁.heap.get? C = some (excClassObj nm q C N bs bm hdct sn sub ab col dd k0 k1 k2 k3 k5 newId) /\
     s₁.heap.get? e = some { cls := .ref C, dict := de, data := .fields #[.ref t, .none, .none, .none, .bool false, .none] } /\ E (.ref e) s₁) E s) :
   wpAny M A (raiseStmt env (some x) none) Q E s := by
 have hcB : (Value.ref C :: bm).contains (.type "BaseException") = true := by rw [List.contains_cons, hbase, Bool.or_true]
 unfold raiseStmt
 refine wpAny_bind (wpAny_mono h (fun v s₁ h₁ => ?_) fun _ _ x => x)
 obtain ⟨e, t, de, rfl, hC, he, hE⟩ := h₁
 obtain ⟨hp, g, d, tk, os⟩ := s₁
 repeat (first | with_reducible refine wpAny_loadPart_at he ?_ | with_reducible refine wpAny_loadPart_at hC ?_ | (with_reducible refine wpAny_isSubtype_exc hC ?_; rw [hcB]) | wp_step)
 exact wpAny_raiseNew_none hh hE
theorem B5x (F : ExcBaseFacts B newId initId bmB) {mN : Str -> Option Value} {x : Str} {np cpos pos : Pos} {args : List Expr} {Q : Flow -> Shared -> Prop} {fI : Addr} {oI : Obj}
   (hbase : bm.contains (.type "BaseException") = true) (hh : A.handled = none) (hplain : (backTo cpos (starEach args env)).any (·.1) = false) (hi : mN "__init__" = some (.ref fI)) (hfc : oI.cls = .type "function")
   (h : wpAny (model prog w) A (eval (.Name x np) env) (fun f s₁ => f = .ref C /\ wpAny (model prog w) A (evalArgs (.ref C) true (backTo cpos (starEach args env)) [])
     (fun a s₂ => a.kw = [] /\ a.pos.length <= sizeLine /\ s₂.heap.get? C = some (excClassObj nm q C N bs bm hdct sn sub ab col dd k0 k1 k2 k3 k5 newId) /\ s₂.heap.Ns N mN /\ OwnTail s₂.heap bmB bm /\ s₂.heap.get? fI = some oI /\
       ∀ h' e, Heap.MadeExcOf s₂.heap h' e (.ref C) a.pos -> wpAny (model prog w) (A.under (.builtin "type.__call__" ⟨.ref C :: a.pos, []⟩)) (call (.ref fI) (.ref e :: a.pos))
         (fun r s₃ => r = .none /\ s₃.heap.get? C = some (excClassObj nm q C N bs bm hdct sn sub ab col dd k0 k1 k2 k3 k5 newId) /\ (∃ t de, s₃.heap.get? e = some { cls := .ref C, dict := de, data := .fields #[.ref t, .none, .none, .none, .bool false, .none] }) /\ E (.ref e) s₃) E { s₂ with heap := h' }) E s₁) E s) :
   wpAny (model prog w) A (exec (.Raise (some (.Call (.Name x np) args [] cpos)) none pos) env) Q E s := by
 rw [arm_exec_Raise]
 first
   | refine wpAny_bind (wpAny_standAt (A8h (C := C) (nm := nm) (q := q) (N := N) (bs := bs) (bm := bm) (hdct := hdct) (sn := sn) (sub := sub) (ab := ab) (col := col) (dd := dd) (k0 := k0) (k1 := k1) (k2 := k2) (k3 := k3) (k5 := k5) (newId := newId) hbase hh (wpAny_bind (wpAny_mono (wpAny_Call_ofName (wpAny_mono h (fun f s₁ h₁ => ?_) fun _ _ x => x)) (fun v s₃ h₃ => wpAny_bind (wpAny_standAt (wpAny_pure h₃))) fun _ _ x => x))))
   | (simp only [evalOpt, Option.map]; refine wpAny_bind (wpAny_standAt (A8h (C := C) (nm := nm) (q := q) (N := N) (bs := bs) (bm := bm) (hdct := hdct) (sn := sn) (sub := sub) (ab := ab) (col := col) (dd := dd) (k0 := k0) (k1 := k1) (k2 := k2) (k3 := k3) (k5 := k5) (newId := newId) hbase hh (wpAny_bind (wpAny_mono (wpAny_Call_ofName (wpAny_mono h (fun f s₁ h₁ => ?_) fun _ _ x => x)) (fun v s₃ h₃ => wpAny_bind (wpAny_standAt (wpAny_pure h₃))) fun _ _ x => x)))))
 obtain ⟨rfl, h₁⟩ := h₁
 unfold callWith
 refine wpAny_bind (wpAny_holding (wpAny_mono h₁ (fun a s₂ h₂ => wpAny_bind (wpAny_standAt ?_)) fun _ _ x => x))
 obtain ⟨apos, akw⟩ := a
 obtain ⟨hkw, hlen, hC, hn, T, hf, h₂⟩ := h₂
 obtain rfl : akw = [] := hkw
 obtain ⟨hp, g, d, tk, os⟩ := s₂
 simp only [hplain]
 refine wpAny_bind (wpAny_keeperOf_exc hC ?_)
 refine wpAny_bind (C1w F T hC hn hi hf hfc (fun h' e hm => wpAny_mono (h₂ h' e hm) (fun r s₃ z => ⟨z.1, wpAny_bind (wpAny_holding (wpAny_point (wpAny_pure ?_)))⟩) fun _ _ x => x) hlen)
 obtain ⟨_, hC3, ⟨t, de, he⟩, hE⟩ := z
 exact ⟨e, t, de, rfl, hC3, he, hE⟩
end
end L2
namespace L2
open PySem PySem.Spec PyProof.Rows PySem.W
abbrev J9a : List Value := [.type "ValueError", .type "Exception", .type "BaseException", .type "object"]
structure ExcI (K : Frag) (C fI : Addr) : Prop where
 cls : ∃ nm q N bs bm sn sub ab col dd k0 k1 k2 k3 k5, K.lookup C = some (excClassObj nm q C N bs bm true sn sub ab col dd k0 k1 k2 k3 k5 "ValueError.__new__") /\ nsOkIn K N = true /\ nsIn K N "__init__" = some (some (.ref fI)) /\ tailIn K J9a bm = true
 fn : ∃ o, K.lookup fI = some o /\ o.cls = .type "function"
 sa : findIn K (.ref C) "__setattr__" = some (some (.builtin "object.__setattr__"))
 ob : mroIn K C (.type "object") = some true
theorem G7q {K : Frag} {h : Heap} {N : Addr} {mg : Str -> Option Value} {n : Str} {v : Value} (X : K.In h) (G : h.Ns N mg) (e : nsIn K N n = some (some v)) : mg n = some v := by
 obtain ⟨o, es, ep, ho, hd, _, hf⟩ := G
 unfold nsIn at e
 split at e
 . rename_i c d es' n' sl q
   have := X _ _ q
   rw [ho] at this
   cases this
   cases hd
   split at e
   . rename_i en he
     cases e
     rw [<- hf]
     unfold nsFind findBy
     rw [<- Array.find?_toList, he]
     rfl
   . split at e <;> cases e
 . cases e
theorem C0d {h : Heap} (self : Value) : ∀ {l : List Value}, OwnTail h J9a l -> refuseLoop self "__setattr__" l = pure ()
 | _, .base => PySem.F.store_ValueError.passes self
 | _, .own _ _ _ t => by rw [refuseLoop_ref]; exact C0d self t
section
variable {prog : Program} {w : World} {A : Around} {s : Shared} {K : Frag} {C e fI : Addr} {t : Addr} {R : Result -> Shared -> Prop} {name : Str} {tk : Tok} {v : Value}
theorem Y6e (X : K.In s.heap) (F : ExcI K C fI) (he : s.heap.get? e = some (A0z (.ref C) t none .none)) (ht : findIn K (.ref C) name = some none)
   (h : ∀ h' tk' d, (∀ b ob, b ≠ e -> s.heap.get? b = some ob -> h'.get? b = some ob) -> h'.get? e = some (A0z (.ref C) t (some d) .none) -> h'.Ns1 d (fun y => if y = name then some v else none) -> s.heap.get? d = none -> d ≠ e ->
     R (.ok (.ret .none)) { s with heap := h', toks := tk' }) :
   codeAny (model prog w) A (.call (.builtin "object.__setattr__") ⟨[.ref e, .str name tk, v], []⟩) R s := by
 have SF := PySem.F.store_object
 obtain ⟨nm, q, N, bs, bm, sn, sub, ab, col, dd, k0, k1, k2, k3, k5, lC, nO, nI, tl⟩ := F.cls
 have hC := X _ _ lC
 have I : PySem.W.InstAt s.heap e (A0z (.ref C) t none .none) C none := ⟨he, rfl, rfl, trivial⟩
 have hc : clsIn K C = some { name := nm, bases := bs, mro := .ref C :: bm, ns := N, qualname := q, hasDict := true, slotNames := sn, subclasses := sub, abstract := ab, collection := col, hasDel := false } := by
   unfold clsIn
   rw [lC]
 have sub' : Looks (model prog w) s.heap (isInstance (.ref e) (.type "object")) true := I.type.andThen (looks_mroIn X F.ob)
 refine codeAny_call_builtin SF.slot.plain SF.entry (@check_slot (model prog w) _ _ s "object.__setattr__" "object" "__setattr__" (.ref e) [.str name tk, v] [] _ SF.kind SF.split sub' (SF.args (.ref e) (.str name tk) v) ?_)
 have hm : Looks (model prog w) s.heap (mroOf (.ref C)) (.ref C :: bm) := (looks_clsIn X hc).andThen .now
 have L3 : Looks (model prog w) s.heap (Builtin.ObjectAttr.storeTaker? none) none := .now
 rw [osa_eq, refuse_eq]
 refine wpAny_bind (wpAny_bind (I.type.here (wpAny_bind (hm.here ?_))))
 rw [refuseLoop_ref, C0d _ (tail_of_in X tl)]
 refine wpAny_pure (wpAny_bind (I.type.here (wpAny_bind ((looks_findIn X ht).here (wpAny_bind (L3.here ?_))))))
 dsimp only
 refine wpAny_bind (wpAny_pure (wpAny_bind (wpAny_bind (wpAny_loadPart he (wpAny_bind (PySem.W.Looks.here (PySem.W.looks_clsIn X hc) ?_))))))
 have hx₁ : (s.heap.push { cls := .type "dict", data := .dict #[] }).get? e = some (A0z (.ref C) t none .none) := Heap.get?_push_of_some _ he
 have hxs : e ≠ s.heap.objs.size := Nat.ne_of_lt (Heap.lt_size he)
 show wpAny (model prog w) A.in1 (do
     let d <- alloc { cls := Value.type "dict", data := Data.dict #[] }
     update e fun o => { cls := o.cls, dict := some d, data := o.data, slots := o.slots }
     pure (some d)) _ _ _
 refine wpAny_bind (wpAny_alloc' ?_)
 refine wpAny_bind (wpAny_update' hx₁ ?_)
 refine wpAny_pure ?_
 have hgd : ((s.heap.push { cls := .type "dict", data := .dict #[] }).update e fun o => { cls := o.cls, dict := some s.heap.objs.size, data := o.data, slots := o.slots }).get? s.heap.objs.size
     = some { cls := .type "dict", data := .dict #[] } :=
   (Heap.get?_update_ne _ _ _ _ hxs.symm).trans (Heap.get?_push_at rfl rfl)
 have hnd : ((s.heap.push { cls := .type "dict", data := .dict #[] }).update e fun o => { cls := o.cls, dict := some s.heap.objs.size, data := o.data, slots := o.slots }).Ns s.heap.objs.size (fun _ => none) :=
   ⟨_, #[], _, hgd, rfl, fun e he => absurd he (by simp), fun _ => rfl⟩
 show wpAny _ _ (Builtin.ObjectAttr.storeInDict s.heap.objs.size (.str name tk) name v) _ _ _
 unfold Builtin.ObjectAttr.storeInDict Builtin.ObjectAttr.newKeyGuard
 refine wpAny_bind (wpAny_pure (wpAny_bind (wpAny_nsSet1 (Heap.Ns1.of_empty hnd) fun h' hn' hs => ?_)))
 obtain ⟨oD, esD, epD, hoD, hdD, hcD⟩ := hn'.count (Within.cons name v Within.nil)
 refine wpAny_bind (wpAny_lookBehind hoD (by rw [hdD]; exact pastItsLine_dict (Nat.le_trans hcD (by rw [List.length_cons, List.length_nil, sizeLine_eq]; omega))) ?_)
 have hx' : h'.get? e = some (A0z (.ref C) t (some s.heap.objs.size) .none) := (hs.2 e hxs).trans (Heap.get?_update_self _ hx₁ rfl)
 refine wpAny_pure (h h' _ s.heap.objs.size (fun b ob hbx hb => ?_) hx' hn' (Heap.get?_none_of_le (Nat.le_refl _)) hxs.symm)
 exact (hs.2 b (Nat.ne_of_lt (Heap.lt_size hb))).trans ((Heap.get?_update_ne _ _ _ _ hbx).trans (Heap.get?_push_of_some _ hb))
end
def A2u (e C t : Addr) (d : Option Addr) : Heap -> Prop := fun h => h.get? e = some (A0z (.ref C) t d .none)
theorem U7t {P : Program} {w : World} {H : Hp} {h : Heap} {e C t : Addr} {d : Option Addr} (q : h.get? e = some (A0z (.ref C) t d .none)) : ObjOk P w H h e (.ext (A2u e C t d)) :=
 ⟨q, ⟨_, q⟩, fun _ _ z k => k _ z⟩
section
variable {X : Cx} {pins : List (Addr × Obj)} {σ : St} {H : Hp} {s : Shared}
theorem Inv.trackO {a : Addr} {ho : HO} (I : Inv X pins σ H s) (n : Nw X pins H a) (ok : ObjOk X.prog X.w (upd H a ho) s.heap a ho) : Inv X pins σ (upd H a ho) s := by
 have ne : ∀ b u, H b = some u -> b ≠ a := fun b u z q => by rw [q, n.un] at z; cases z
 have up : ∀ b, b ≠ a -> upd H a ho b = H b := fun b hb => C0 hb
 refine ⟨I.ok, I.os, I.bare, ⟨I.base.keep, I.base.slot, fun b u z m hx => ?_, I.base.there, fun b xs z => ?_, fun b u v z => ?_, fun b ps z => ?_⟩, I.loc, I.cell, ?_, fun x c z => ?_, fun p hp => ?_, fun b u z => ?_, I.len⟩
 . rw [up b fun q => by rw [q, n.old] at z; cases z]
   exact I.base.free b u z m hx
 . have := I.base.tups b xs z
   rw [up b (ne b _ this)]; exact this
 . have := I.base.frzs b u v z
   rw [up b (ne b _ this)]; exact this
 . obtain ⟨more, this⟩ := I.base.tbls b ps z
   exact ⟨more, by rw [up b (ne b _ this)]; exact this⟩
 . rw [up _ (Ne.symm n.loc)]; exact I.free
 . rw [up _ (n.cell x c z)]; exact I.freeC x c z
 . obtain ⟨q1, q2, q3⟩ := I.pin p hp
   exact ⟨q1, by rw [up _ (n.pin p hp)]; exact q2, q3⟩
 . by_cases hb : b = a
   . subst hb
     rw [A7] at z
     cases z
     exact ok
   . rw [up b hb] at z
     exact (I.hok b u z).stay (fun _ _ _ q => q) (fun c q => by rw [up c (ne c _ q)]; exact q) (fun c xs q => by rw [up c (ne c _ q)]; exact q)
def rem (H : Hp) (a : Addr) : Hp := fun b => if b = a then none else H b
theorem C2b {a : Addr} : rem H a a = none := by unfold rem; rw [if_pos rfl]
theorem A4p {a b : Addr} (h : b ≠ a) : rem H a b = H b := by unfold rem; rw [if_neg h]
theorem Inv.forget {a : Addr} {φ : Heap -> Prop} (I : Inv X pins σ H s) (e : H a = some (.ext φ)) : Inv X pins σ (rem H a) s := by
 have ne : ∀ b u, H b = some u -> (∀ φ, u ≠ .ext φ) -> b ≠ a := fun b u z q w => by rw [w, e] at z; cases z; exact q _ rfl
 have non : ∀ b, H b = none -> rem H a b = none := fun b z => by
   by_cases q : b = a
   . rw [q]; exact C2b
   . rw [A4p q]; exact z
 refine ⟨I.ok, I.os, I.bare, ⟨I.base.keep, I.base.slot, fun b u z m hx => non b (I.base.free b u z m hx), I.base.there, fun b xs z => ?_, fun b u v z => ?_, fun b ps z => ?_⟩, I.loc, I.cell, non _ I.free, fun x c z => non _ (I.freeC x c z), fun p hp => ?_, fun b u z => ?_, I.len⟩
 . have := I.base.tups b xs z
   rw [A4p (ne b _ this (fun _ q => nomatch q))]; exact this
 . have := I.base.frzs b u v z
   rw [A4p (ne b _ this (fun _ q => nomatch q))]; exact this
 . obtain ⟨more, this⟩ := I.base.tbls b ps z
   exact ⟨more, by rw [A4p (ne b _ this (fun _ q => nomatch q))]; exact this⟩
 . obtain ⟨q1, q2, q3⟩ := I.pin p hp
   exact ⟨q1, non _ q2, q3⟩
 . have hb : b ≠ a := fun q => by rw [q, C2b] at z; cases z
   rw [A4p hb] at z
   exact (I.hok b u z).stay (fun _ _ _ q => q) (fun c q => by rw [A4p (ne c _ q (fun _ w => nomatch w))]; exact q) (fun c xs q => by rw [A4p (ne c _ q (fun _ w => nomatch w))]; exact q)
end
def Z7r (C : Addr) (ta tv : TE) (f : Str) : TS := fun D σ H => tv σ H fun y H1 => ta σ H1 fun x H2 => ∃ e t, x = .ref e /\ H2 e = some (.ext (A2u e C t none)) /\
 ∀ d, H2 d = none -> d ≠ e -> D.nx σ (upd (upd H2 e (.ext (A2u e C t (some d)))) d (.xd [(f, y)]))
section
variable {X : Cx} {o value : Expr} {f : Str} {pos pos' : Pos} {ta tv : TE} {C fI : Addr}
theorem Y5t (F : ExcI X.K C fI) (hf : findIn X.K (.ref C) f = some none) (ha : PE X o ta) (hv : PE X value tv) (hs : swapsWith value (some (.Attribute o f pos')) pos.line X.env = pure false) (hex : X.ex = [] := by rfl) :
   PS X (.Assign [.Attribute o f pos'] value pos) (Z7r C ta tv f) := by
 intro pins s σ H D I h
 refine plainObj_wpAny_Assign_Attribute (thn (hv pins s σ H _ I h) fun u s1 ⟨y, H1, I1, ry, q⟩ => thn (ha pins s1 σ H1 _ I1 q) fun ov s2 ⟨x, H2, I2, rx, e, t, ex, ea, q2⟩ => ?_) hs
 subst ex
 obtain rfl : ov = Value.ref e := rx
 have he : s2.heap.get? e = some (A0z (.ref C) t none .none) := (I2.hok e _ ea).1
 refine set_plain I2.kIn (⟨he, rfl, rfl, trivial⟩ : PySem.W.InstAt s2.heap e (A0z (.ref C) t none .none) C none) F.sa (Y6e (s := { s2 with toks := s2.toks + 1 }) I2.kIn F he hf fun h' tk' d k1 k2 k3 k4 k5 => ?_)
 have nd : H2 d = none := I2.hok.new k4
 have I3 : Inv X pins σ (upd H2 e (.ext (A2u e C t (some d)))) { s2 with heap := h', toks := tk' } :=
   I2.write (x := e) (e := e) (by rw [ea]; exact trivial) (.inl rfl) (fun b u hb z => k1 b u hb z) ⟨_, k2⟩ (U7t k2)
 have nw : Nw X pins (upd H2 e (.ext (A2u e C t (some d)))) d := I2.nw hex k4 (by rw [C0 k5]; exact nd)
 refine ⟨σ, _, I3.trackO (ho := .xd [(f, y)]) nw ⟨_, k3, fun g => ?_⟩, q2 d nd k5⟩
 show RelO (List.lookup g [(f, y)]) (if g = f then some u else none)
 by_cases z : g = f
 . rw [if_pos z, z]
   have : List.lookup f [(f, y)] = some y := by simp [List.lookup]
   rw [this]; exact ry
 . rw [if_neg z]
   have : List.lookup g [(f, y)] = none := by
     have hb : (g == f) = false := beq_eq_false_iff_ne.mpr z
     simp [List.lookup, hb]
   rw [this]; exact trivial
end
def D2z (C : Addr) (f : Str) : Sp := fun vs H Q _ => ∃ e t v, vs = [.ref e, v] /\ H e = some (.ext (A2u e C t none)) /\ ∀ d, H d = none -> d ≠ e -> Q .non (upd (upd H e (.ext (A2u e C t (some d)))) d (.xd [(f, v)]))
def Y6r (C : Addr) (f : Str) (EH : EK) (t : TA) : TS := fun _ σ H => t σ H fun vs H1 => ∃ v, vs = [v] /\ ∀ d H2, Same H1 H2 -> H1 d = none -> H2 d = some (.xd [(f, v)]) -> EH (.ref C) (some d) σ H2
section
variable {X : Cx} {x f : Str} {p cpos pos : Pos} {e : Expr} {t : TA} {C fI : Addr} {fdI : FuncData} {ps : List Str} {EH : EK} {j k : Nat}
theorem U0j (hm : X.mg x = some (.ref C)) (F : ExcI X.K C fI) (G : FnOk X.prog X.w X.K X.mg X.base CX0 j fI fdI ps (D2z C f)) (bI : Binds X.K fdI ps []) (hr : Room k X.A) (hx : D8 X EH) (ha : PA X [e] t) (hj : j + 1 <= k := by decide) (hg : Gl X x := by rfl) (hex : X.ex = [] := by rfl)
   (hdb : (x == ("__debug__" : Str)) = false := by decide) (he : starEach [e] X.env = (false, eval e X.env) :: starEach [] X.env := by rfl) (hpl : (backTo cpos (starEach [] X.env)).any (·.1) = false := by rfl) :
   PS X (.Raise (some (.Call (.Name x p) [e] [] cpos)) none pos) (Y6r C f EH t) := by
 intro pins s σ H D I h
 obtain ⟨nm, q, N, bs, bm, sn, sub, ab, col, dd, k0, k1, k2, k3, k5, lC, nO, nI, tl⟩ := F.cls
 obtain ⟨oI, lI, cI⟩ := F.fn
 have T0 : OwnTail X.base J9a bm := tail_of_in I.ok.mod.kin tl
 have hN0 : X.base.Ns N (X.base.nsMap N) := .of_isNs (isNs_of_in I.ok.mod.kin nO)
 have hi0 : X.base.nsMap N "__init__" = some (.ref fI) := G7q I.ok.mod.kin hN0 nI
 refine B5x (C := C) (nm := nm) (q := q) (N := N) (bs := bs) (bm := bm) (hdct := true) (sn := sn) (sub := sub) (ab := ab) (col := col) (dd := dd) (k0 := k0) (k1 := k1) (k2 := k2) (k3 := k3) (k5 := k5) (oI := oI) PySem.F.excBase_ValueError (mN := X.base.nsMap N) (T0.hasType PySem.F.excBase_ValueError.hasBase) hr.hd
   (by rw [he]; show (false || (backTo cpos (starEach [] X.env)).any (·.1)) = false; rw [hpl]; rfl) hi0 cI (A2x I hg hm ⟨rfl, ?_⟩ hdb)
 have ha' := ha cpos pins s σ H _ I h
 rw [he] at ha' ⊢
 refine Calls.evalArgs_plain (wpAny_mono ha' (fun us s2 ⟨vs, H1, I1, r, v, ev, z⟩ => ?_) fun _ _ y => y)
 subst ev
 obtain ⟨u, rfl, ru⟩ := r.one
 refine ⟨rfl, D7 (by show 1 <= 1000; decide), I1.kIn _ _ lC, hN0.keeps I1.bk, T0.keeps I1.bk, I1.kIn _ _ lI, fun h' a m => ?_⟩
 obtain ⟨t', e1, tn, e2⟩ := m.there
 have I2 : Inv X pins σ H1 { s2 with heap := h' } := I1.kept (t' := s2.toks) m.keeps
 have na : H1 a = none := I1.hok.new m.new
 have I3 := I2.trackO (ho := .ext (A2u a C t' none)) (I1.nw hex m.new na) (U7t e1)
 have sp0 : D2z C f [.ref a, v] (upd H1 a (.ext (A2u a C t' none))) (fun v0 H' => v0 = .non /\ ∃ d, H1 d = none /\ d ≠ a /\ H' = upd (upd (upd H1 a (.ext (A2u a C t' none))) a (.ext (A2u a C t' (some d)))) d (.xd [(f, v)])) E0 :=
   ⟨a, t', v, rfl, A7, fun d nd nda => ⟨rfl, d, by rw [C0 nda] at nd; exact nd, nda, rfl⟩⟩
 have rr : Vals [.ref a, v] [.ref a, u] := .cons rfl (.cons ru .nil)
 have hl : ([Value.ref a, u] ++ []).length = ps.length := by
   have := G.len _ _ _ _ sp0
   rw [<- this]; rfl
 refine wpAny_call (codeAny_mono (G.run _ X.stack _ _ ⟨[.ref a, u], []⟩ ([.ref a, u] ++ []) [.ref a, v] _ E0 ((hr.mono hj).make C [u] []) (I3.env0.make C [u] []) (bI _ [.ref a, u] I3.kIn hl) rr sp0) fun r s' hq => ?_)
 cases r with
 | error e => exact hq.elim
 | ok fl =>
   cases fl with
   | ret u0 =>
     obtain ⟨v0, H', I4, rv, ev, d, nd, nda, eH⟩ := I3.after hq
     subst ev eH
     have ea : (upd (upd (upd H1 a (.ext (A2u a C t' none))) a (.ext (A2u a C t' (some d)))) d (.xd [(f, v)])) a = some (.ext (A2u a C t' (some d))) := by
       rw [C0 (Ne.symm nda), A7]
     have g1 : s'.heap.get? a = some (A0z (.ref C) t' (some d) .none) := (I4.hok a _ ea).1
     refine ⟨rv, I4.kIn _ _ lC, ⟨t', some d, g1⟩, ?_⟩
     refine hx pins σ _ s' a t' (.ref C) (some d) (I4.forget ea) ⟨I1.nw hex m.new C2b, .none, g1, .inl rfl, fun T z => nomatch z⟩ (z d _ (fun b ob q => ?_) nd ?_)
     . have nb : b ≠ a := B7 q na
       have nbd : b ≠ d := B7 q nd
       rw [A4p nb, C0 nbd, C0 nb, C0 nb]
       exact q
     . rw [A4p nda, A7]
   | next => exact hq.elim
   | brk => exact hq.elim
   | cont => exact hq.elim
end
section
variable {X : Cx} {e : Expr} {f : Str} {pos : Pos} {ta : TE}
end
def A8m (z : Str) (n : Int) : Str := if n < 1 then Str.empty else if (n == 1 || z.length == 0) = true then z else ⟨(List.replicate n.toNat z.cps).foldl (· ++ ·) #[]⟩
def Z3j : R2 := fun x y H Q => ∃ z n, x = .str z /\ y = .int n /\ -(2 ^ 63) <= n /\ n < 2 ^ 63 /\ z.length * n.toNat <= sizeLine /\ Q (.str (A8m z n)) H
theorem D0v (z : Array Nat) : ∀ (k : Nat) (acc : Array Nat), ((List.replicate k z).foldl (· ++ ·) acc).toList = acc.toList ++ (List.replicate k z.toList).flatten
 | 0, acc => by simp
 | k + 1, acc => by
   rw [List.replicate_succ, List.foldl_cons, D0v z k, Array.toList_append, List.replicate_succ, List.flatten_cons, List.append_assoc]
theorem A0g (z : Str) : z.cps.toList.length = z.length := Array.length_toList
theorem C0c (z : Str) (n : Int) : (A8m z n).cps.toList = (List.replicate n.toNat z.cps.toList).flatten := by
 unfold A8m
 split
 . have : n.toNat = 0 := by omega
   rw [this]; rfl
 . split
   . rename_i h1 h2
     rcases Bool.or_eq_true _ _ |>.mp h2 with h | h
     . have : n = 1 := by simpa using h
       subst this
       simp
     . have e : z.length = 0 := by simpa using h
       have e2 : z.cps.toList = [] := List.eq_nil_of_length_eq_zero (by rw [A0g]; exact e)
       rw [e2]
       have : ∀ k : Nat, (List.replicate k ([] : List Nat)).flatten = [] := fun k => by simp
       rw [this]
   . show ((List.replicate n.toNat z.cps).foldl (· ++ ·) #[]).toList = _
     rw [D0v]
     rfl
theorem C2w (z : Str) (n : Int) : (A8m z n).length = n.toNat * z.length := by
 rw [<- A0g, C0c, Y5z, A0g]
section
variable {X : Cx}
theorem G7y : OpR X (binaryOp .Mult) Z3j := by
 intro pins s σ H x y v u Q I rx ry h
 obtain ⟨z, n, rfl, rfl, h1, h2, hz, q⟩ := h
 obtain ⟨t, rfl⟩ := rx
 obtain ⟨t', rfl⟩ := ry
 have lo : ¬ n < -(2 ^ 63 : Int) := by omega
 have hi : ¬ n >= (2 ^ 63 : Int) := by omega
 have hl := C2w z n
 have hs : (A8m z n).length <= sizeLine := by rw [hl, Nat.mul_comm]; exact hz
 refine PySem.P.mul_str (by rw [decide_eq_false lo, decide_eq_false hi]; rfl) (fun n1 n2 => ?_) (fun n1 n2 => Y6v hz) ?_
 . intro g
   have p : 0 < n := by omega
   have e : ((z.length * n.toNat : Nat) : Int) = (z.length : Int) * n := by rw [Int.natCast_mul, Int.toNat_of_nonneg (by omega)]
   have c : ((z.length * n.toNat : Nat) : Int) <= (sizeLine : Nat) := Int.ofNat_le.mpr hz
   have k : (sizeLine : Nat) <= 2 ^ 63 - 1 := by decide
   have k' : ((sizeLine : Nat) : Int) <= (2 ^ 63 - 1 : Int) := by
     have := Int.ofNat_le.mpr k
     exact this
   have : (z.length : Int) <= (2 ^ 63 - 1) / n := (Int.le_ediv_iff_mul_le p).mpr (by omega)
   omega
 . unfold A8m at q hs
   split
   . rw [if_pos (by assumption)] at q
     exact ⟨by decide, .str _, H, I.tok _, ⟨_, rfl⟩, q⟩
   . rw [if_neg (by assumption)] at q hs
     split
     . rw [if_pos (by assumption)] at q
       exact ⟨.str _, H, I, ⟨_, rfl⟩, q⟩
     . rw [if_neg (by assumption)] at q hs
       exact ⟨hs, .str _, H, I.tok _, ⟨_, rfl⟩, q⟩
theorem C7d : A7t X (.type "int") (fun xs H Q => ∃ z n, xs = [.str z] /\ PySem.intText? z = some n /\ z.length <= 640 /\ Q (.int n) H) := by
 intro pins s σ H xs us Q I r h
 obtain ⟨z, n, rfl, h1, h2, q⟩ := h
 obtain ⟨u, rfl, t, rfl⟩ := C1t r
 exact KIN.call_text h1 h2 ⟨.int n, H, I.tok _, ⟨_, rfl⟩, q⟩
end
def U0x (n : Nat) : Str := ("1" : Str) ++ A8m ("0" : Str) (n : Int)
theorem U2d (n : Nat) : (List.replicate n [48]).flatten = List.replicate n 48 := by
 induction n with
 | zero => rfl
 | succ n ih => rw [List.replicate_succ, List.flatten_cons, ih, List.replicate_succ]; rfl
theorem B1r (n : Nat) : (U0x n).cps.toList = 49 :: List.replicate n 48 := by
 unfold U0x
 show (("1" : Str).cps ++ (A8m ("0" : Str) (n : Int)).cps).toList = _
 rw [Array.toList_append, C0c]
 have a : ("1" : Str).cps.toList = [49] := by decide +kernel
 have b : ("0" : Str).cps.toList = [48] := by decide +kernel
 rw [a, b]
 show [49] ++ (List.replicate n [48]).flatten = _
 rw [U2d]
 rfl
theorem G3s (n : Nat) : (U0x n).length = n + 1 := by
 rw [<- A0g, B1r]
 simp
theorem G7t (n : Nat) : ∀ a : Nat, (List.replicate n 48).foldl (fun acc c => acc * 10 + (c - 48)) a = a * 10 ^ n := by
 induction n with
 | zero => intro a; simp
 | succ n ih =>
   intro a
   rw [List.replicate_succ, List.foldl_cons, ih, Nat.pow_succ]
   show (a * 10 + 0) * 10 ^ n = _
   rw [Nat.add_zero, Nat.mul_assoc, Nat.mul_comm 10]
theorem U7p (n : Nat) (h : n <= 600) : PySem.intText? (U0x n) = some ((10 ^ n : Nat) : Int) := by
 have e : PySem.NumText.digitsVal (U0x n).cps.toList = 10 ^ n := by
   rw [B1r]
   unfold PySem.NumText.digitsVal
   rw [List.foldl_cons, G7t]
   show (0 * 10 + 1) * 10 ^ n = _
   omega
 rw [<- e]
 refine PySem.intText_digits ?_ ?_ ?_
 . rw [B1r]
   intro c hc
   rcases List.mem_cons.mp hc with rfl | hc
   . exact ⟨by decide, by decide⟩
   . obtain ⟨_, rfl⟩ := List.mem_replicate.mp hc
     exact ⟨by decide, by decide⟩
 . rw [B1r]; exact fun z => nomatch z
 . rw [G3s]; omega
section
variable {X : Cx}
def Z8u : V -> List V -> Hp -> VK -> Prop := fun x vs H Q => ∃ i, x = .int i /\ vs = [] /\ Q (.int ((Builtin.Int.intBits i : Nat) : Int)) H
theorem C7a : MtR X "int.bit_length" Z8u := by
 intro pins s σ H x xs v us Q I rx rs h
 obtain ⟨i, rfl, rfl, q⟩ := h
 obtain ⟨t, rfl⟩ := rx
 cases rs
 exact call_int_bit_length ⟨.int _, H, I.tok _, ⟨_, rfl⟩, q⟩
end
section
variable {X : Cx} {a b : Expr} {rest : List Expr} {pos : Pos} {ta tb : TE}
end
section
variable {X : Cx} {j k : Nat} {f C : Addr} {fd : FuncData} {ps : List Str} {sp : Sp} {dvs : List V} {ds : List Value} {x m : Str} {p pos apos : Pos} {e o : Expr} {es : List Expr} {ta : TE} {t : TA} {st : Stmt}
end
section
variable {X : Cx} {N F : List Str} {js : List Nat} {scope : Scope}
theorem U1w {pins : List (Addr × Obj)} {σ : St} {H : Hp} {s : Shared} {fp : List Addr} {h' : Heap} (S : CompScopeF N F js scope X.N X.env) (I : Inv X pins σ H s) (hf : ∀ b ∈ fp, A1w X pins H b) (hit : ∀ b ∈ fp, ∃ o, s.heap.get? b = some o) (hnb : ∀ b ∈ fp, X.base.get? b = none)
   (hns : h'.Ns s.heap.objs.size (fun _ => none)) (hsb : ∀ b o, s.heap.get? b = some o -> h'.get? b = some o) {tk : Nat} :
   Inv (X.compF scope N F s.heap.objs.size s H fp (X.pn ++ pins)) [] (List.replicate N.length none ++ A4c js σ) H { s with heap := h', toks := tk } := by
 have ck : ∀ c v, s.heap.IsCell c v -> h'.IsCell c v := fun c v ⟨o, e, d⟩ => ⟨o, hsb _ _ e, d⟩
 have inF : ∀ x, ((compEnvC scope (A0m F X.env) s.heap.objs.size X.env).kindOf x = some .cell \/ (compEnvC scope (A0m F X.env) s.heap.objs.size X.env).kindOf x = some .free) -> x ∈ F := by
   intro x z
   have z : (relabel scope X.env).names.lookup x = some .cell \/ (relabel scope X.env).names.lookup x = some .free := z
   rcases z with z | z
   . exact S.fr _ (PySem.mem_of_lookup z) (.inl rfl)
   . exact S.fr _ (PySem.mem_of_lookup z) (.inr rfl)
 refine ⟨⟨I.ok.mod, S.kind, I.ok.glob, I.ok.blt, Nat.le_refl _, fun x y c z z' => I.ok.inj x y c (S.sub x c z) (S.sub y c z'), fun x z => ?_, fun x c z _ => (nomatch z), I.ok.hd, I.ok.frames, .inl rfl, fun b hb => ?_, I.bs, Nat.le_trans I.ok.bsz I.sz, fun b o e hb => ?_, fun b hb hfs => ?_, I.stack, I.stkFree⟩,
   rfl, I.bare, Un.kept hsb, ⟨_, hns, fun i x v e1 e2 e3 => B1p S I (fun x c v _ z => ck c v z) i x v e1 e2⟩, fun x c z => ?_, I.hok.fresh (Nat.le_refl _), fun x c z => I.freeC x c (S.sub x c z), fun p hp => ?_, I.hok.kept hsb, D2s S σ⟩
 . obtain ⟨c, h1, _⟩ := S.has (inF x z)
   exact ⟨c, h1⟩
 . obtain ⟨oi, ei⟩ := hit b hb
   exact ⟨Nat.ne_of_lt (Heap.lt_size ei), fun x c z => (hf b hb).2.2.2.2.1 x c (S.sub x c z)⟩
 . rw [hnb b hb] at e
   cases e
 . rcases List.mem_cons.mp (I.stkSub b hfs) with z | z
   . exact (hf b hb).2.1 z
   . exact (hf b hb).2.2.1 z
 . obtain ⟨v, z'⟩ := I.cell x c (S.sub x c z)
   exact ⟨v, ck c v z'⟩
 . have hp' : p ∈ X.pn ++ pins := by simpa using hp
   obtain ⟨q1, q2, q3, q4, q5⟩ := I.pin p hp'
   refine ⟨hsb _ _ q1, q2, Nat.ne_of_lt (Heap.lt_size q1), fun z => ?_, q5⟩
   rcases List.mem_cons.mp (I.stkSub p.1 z) with z | z
   . exact q3 z
   . exact q4 z
theorem G8j {pins pl : List (Addr × Obj)} {σ σ' : St} {H H' : Hp} {s s' : Shared} {fp : List Addr} (S : CompScopeF N F js scope X.N X.env) (I : Inv X pins σ H s) (hf : ∀ b ∈ fp, A1w X pins H b) (J : Inv (X.compF scope N F s.heap.objs.size s H fp (X.pn ++ pins)) pl σ' H' s') :
   Inv (X.compF scope N F s.heap.objs.size s H fp (X.pn ++ pins)) [] (List.replicate N.length none ++ A4c js σ) H' s' := by
 obtain ⟨m, hn, _⟩ := J.loc
 refine ⟨J.ok, J.os, J.bare, J.base, ⟨m, hn, fun i x v e1 e2 e3 => B1p S I (fun x c v z q => ?_) i x v e1 e2⟩, J.cell, J.free, J.freeC, fun p hp => J.pin p (by
   have hp : p ∈ (X.pn ++ pins) ++ [] := hp
   rw [List.append_nil] at hp
   exact List.mem_append_left _ hp), J.hok, D2s S σ⟩
 obtain ⟨o, e, d⟩ := q
 have ne : c ∉ fp := fun w => (hf c w).2.2.2.2.1 x c z rfl
 obtain ⟨sl, q⟩ := J.base.any e (I.freeC x c z) ne
 exact ⟨_, q, d⟩
theorem C3f {elt target iter c : Expr} {scope : Scope} {pos : Pos} {N F : List Str} {js : List Nat} {wi : TI} {g : TG} {tc : TT} {te : TE} (S : CompScopeF N F js scope X.N X.env) (hd : V2 X) (hc0 : X.calm = true) (hi : PI X target iter wi) (hex : X.ex = [])
   (hg : ∀ C s₀ H₀ ex pn, V2 (X.compF scope N F C s₀ H₀ ex pn) -> PG (X.compF scope N F C s₀ H₀ ex pn) target g)
   (hc : ∀ C s₀ H₀ ex pn, V2 (X.compF scope N F C s₀ H₀ ex pn) -> PT (X.compF scope N F C s₀ H₀ ex pn) c tc)
   (he : ∀ C s₀ H₀ ex pn, V2 (X.compF scope N F C s₀ H₀ ex pn) -> PE (X.compF scope N F C s₀ H₀ ex pn) elt te)
   {pins : List (Addr × Obj)} {s : Shared} {σ : St} {H : Hp} {Q : VK} {RR : Value -> Env -> Result -> Shared -> Prop} (I : Inv X pins σ H s) (h : (B6e N.length js wi g tc te) σ H Q)
   (hRR : ∀ (D C : Addr) (s6 : Shared) (H5 : Hp) (mm : Str -> Option Value), Inv X pins σ H5 s6 -> s6.heap.Ns C mm -> A1w X pins H5 C -> Q (.ref D) H5 -> RR (.ref D) (compEnvC scope (A0m F X.env) C X.env) (.ok .next) s6) :
   wpAny (model X.prog X.w) X.A (eval iter X.env) (fun v s1 => wpAny (model X.prog X.w) X.A (pyIter v) (fun itv s2 => wpAny (model X.prog X.w) X.A (newList []) (fun acc s3 => wpAny (model X.prog X.w) X.A (newFunctionEnv scope X.env.globals (A0m F X.env) [] X.env.qual none .none (some X.env)) (fun cenv s4 =>
     codeAny (model X.prog X.w) X.A (.compStart (.ListComp elt [⟨target, iter, [c], 0⟩] scope pos) 0 itv acc { cenv with scope := relabel scope X.env }) (RR acc { cenv with scope := relabel scope X.env }) s4) X.xe s3) X.xe s2) X.xe s1) X.xe s := by
 refine thn (hi pins s σ H _ I h) fun v s1 h1 => thn h1 fun itv s2 h2 => ?_
 obtain ⟨it, fp, tn, J, H2, rfl, I2, T, st2, f2, R⟩ := h2
 have ob2 := T.obj _ _ st2
 have hf2 := I2.hok.fresh (Nat.le_refl _)
 refine wpAny_newObj_type ?_
 have I3 : Inv X pins σ (upd H2 s2.heap.objs.size (.lst [])) { s2 with heap := s2.heap.push { cls := .type "list", dict := none, data := .seq ([] : List Value).toArray } } := Inv.lnew (t' := s2.toks) I2 .nil (Nat.zero_le _)
 refine wpAny_newFunctionEnv S.cell (by intro y hy; simp at hy) (fun h4 hns hsb => ?_) S.kind
 dsimp only at hns hsb ⊢
 generalize hG : s2.heap.push { cls := .type "list", dict := none, data := .seq ([] : List Value).toArray } = G at I3 hns hsb ⊢
 generalize hD : s2.heap.objs.size = D at I3 hf2
 have nD : ∀ b ∈ fp, b ≠ D := fun b hb => by
   obtain ⟨o, eo, _⟩ := ob2 b hb
   rw [<- hD]; exact Nat.ne_of_lt (Heap.lt_size eo)
 have eiG : ∀ b ∈ fp, ∃ o, G.get? b = some o := fun b hb => by
   obtain ⟨o, eo, _⟩ := ob2 b hb
   exact ⟨o, by rw [<- hG]; exact Heap.get?_push_of_some _ eo⟩
 have kp : ∀ b o, G.get? b = some o -> h4.get? b = some o := fun b o e => hsb.extBut b o (Nat.ne_of_lt (Heap.lt_size e)) (Heap.get?_push_of_some _ e)
 have f3 : ∀ b ∈ fp, A1w X pins (upd H2 D (.lst [])) b := fun b hb => ⟨by rw [C0 (nD b hb)]; exact (f2 b hb).1, (f2 b hb).2⟩
 have nb : ∀ b ∈ fp, X.base.get? b = none := fun b hb => by
   cases q : X.base.get? b with
   | none => rfl
   | some o =>
     have := (I.ok.bs b o q).1
     rcases (f2 b hb).2.2.2.1 with z | z
     . rw [hex] at z; simp at z
     . exact absurd (Nat.lt_of_lt_of_le (Heap.lt_size this) z) (Nat.lt_irrefl _)
 have hns' : h4.Ns G.objs.size (fun _ => none) := by
   obtain ⟨o, es, ep, q1, q2, q3, q4⟩ := hns
   exact ⟨o, es, ep, q1, q2, q3, fun x => by rw [q4]; rfl⟩
 have I4 := U1w (tk := s2.toks + ([] : List (Str × Value)).length) S I3 f3 eiG nb hns' kp
 have hdc : V2 (X.compF scope N F G.objs.size { s2 with heap := G } (upd H2 D (.lst [])) fp (X.pn ++ pins)) := by
   rcases hd with z | ⟨x, o, u, vs, z, e, d, n⟩
   . exact .inl z
   . refine .inr ⟨x, o, u, vs, z, ?_, d, n⟩
     have q := I2.base.frzs x o u e
     show upd H2 D (.lst []) x = _
     rw [C0 fun w => by rw [w, hf2] at q; cases q]
     exact q
 obtain ⟨m, W, w0, turn⟩ := R D hf2
 have gg := hg _ _ _ _ _ hdc
 have cc := hc _ _ _ _ _ hdc
 have ee := he _ _ _ _ _ hdc
 have fpc : ∀ {H' : Hp} {σ' : St} {s' : Shared} {pl : List (Addr × Obj)}, Inv (X.compF scope N F G.objs.size { s2 with heap := G } (upd H2 D (.lst [])) fp (X.pn ++ pins)) pl σ' H' s' -> (∀ b ∈ fp, H' b = none) -> (∀ b ∈ fp, ∀ p ∈ pl, p.1 ≠ b) -> ∀ b ∈ fp, A1w (X.compF scope N F G.objs.size { s2 with heap := G } (upd H2 D (.lst [])) fp (X.pn ++ pins)) pl H' b := by
   intro H' σ' s' pl J' hn hp b hb
   obtain ⟨oi, ei⟩ := eiG b hb
   refine ⟨hn b hb, Nat.ne_of_lt (Heap.lt_size ei), ?_, .inl hb, (fun x c z => (f2 b hb).2.2.2.2.1 x c (S.sub x c z)), fun p hpp => ?_⟩
   . intro z
     rcases List.mem_cons.mp (I.stkSub b z) with z | z
     . exact (f2 b hb).2.1 z
     . exact (f2 b hb).2.2.1 z
   . rcases List.mem_append.mp hpp with z | z
     . exact (f2 b hb).2.2.2.2.2 p z
     . exact hp b hb p z
 have loop : codeAny (model X.prog X.w) X.A (.compLoop (.ListComp elt [⟨target, iter, [c], 0⟩] scope pos) 0 (.ref it) (.ref D) (compEnvC scope (A0m F X.env) G.objs.size X.env))
     (RR (.ref D) (compEnvC scope (A0m F X.env) G.objs.size X.env))
     { s2 with heap := h4, toks := s2.toks + ([] : List (Str × Value)).length } := by
   refine kct_loop (fun k s' => ∃ i ys H', k = m + 1 - i /\ Inv (X.compF scope N F G.objs.size { s2 with heap := G } (upd H2 D (.lst [])) fp (X.pn ++ pins)) [] (List.replicate N.length none ++ A4c js σ) H' s' /\ tn i s'.heap /\ (∀ b ∈ fp, H' b = none) /\ W i ys H') ?_ (m + 1)
     ⟨0, [], _, rfl, I4, T.keep _ _ _ st2 fun b hb o e => kp b o (by rw [<- hG]; exact Heap.get?_push_of_some _ e), fun b hb => (f3 b hb).1, w0⟩
   rintro k s5 ⟨i, ys, H5, rfl, I5, st5, n5, w5⟩
   obtain ⟨hi5, hD5, w5⟩ := turn i ys H5 w5
   rcases w5 with ⟨stop, q⟩ | ⟨lt5, go, step⟩
   . refine wpAny_mono (T.done (X.compF scope N F G.objs.size { s2 with heap := G } (upd H2 D (.lst [])) fp (X.pn ++ pins)) rfl rfl rfl hc0 i [] s5 _ H5 (fun _ _ => False) I5 (fpc I5 n5 (by simp)) st5 stop) (fun r s6 z => ?_) (fun _ _ z => z.elim)
     obtain ⟨rfl, I6⟩ := z
     obtain ⟨mm, hn6, _⟩ := I6.loc
     have B6 := I6.base
     have J6 : Inv X pins σ H5 s6 := by
       refine I3.call' (ch := fp) I6.os ⟨B6.keep, B6.slot, B6.free, B6.there, B6.tups, B6.frzs, B6.tbls⟩ I6.hok I6.bare (fun b hb => ⟨(f2 b hb).2.2.2.1, (f2 b hb).2.1, (f2 b hb).2.2.2.2.1, (f2 b hb).2.2.2.2.2⟩)
     have szG : X.s₀.heap.objs.size <= G.objs.size := I3.sz
     refine hRR D G.objs.size s6 H5 mm J6 hn6 ⟨I6.free, ?_, ?_, .inr szG, ?_, ?_⟩ q
     . exact Nat.ne_of_gt I3.lt
     . intro z
       obtain ⟨_, o, ho, _⟩ := I3.funs.mem z
       exact Nat.lt_irrefl _ (Heap.lt_size ho)
     . rintro x c z rfl
       obtain ⟨v', o, ho, _⟩ := I3.cell x _ z
       exact Nat.lt_irrefl _ (Heap.lt_size ho)
     . rintro p hp z
       have zz := (I3.pin p hp).1
       rw [z] at zz
       exact Nat.lt_irrefl _ (Heap.lt_size zz)
   . refine wpAny_mono (T.item (X.compF scope N F G.objs.size { s2 with heap := G } (upd H2 D (.lst [])) fp (X.pn ++ pins)) rfl rfl rfl hc0 i [] s5 _ H5 (fun _ _ => False) I5 (fpc I5 n5 (by simp)) st5 go) (fun r s6 z => ?_) (fun _ _ z => z.elim)
     obtain ⟨u, rfl, z⟩ := z
     refine wpAny_mono z (fun _ s7 z => ?_) (fun _ _ z => z.elim)
     obtain ⟨x, H7, I7, rx, yl, st7, fr7⟩ := z
     have ob7 := T.obj _ _ st7
     have I7' : Inv (X.compF scope N F G.objs.size { s2 with heap := G } (upd H2 D (.lst [])) fp (X.pn ++ pins)) (A3m fp s7.heap) (List.replicate N.length none ++ A4c js σ) H7 s7 := I7.pinned (fpc I7 fr7 (by simp)) ob7
     have back : ∀ {i' : Nat} {ys' : List V} {H' : Hp} {σ' : St} {s' : Shared}, i' = i + 1 -> Inv (X.compF scope N F G.objs.size { s2 with heap := G } (upd H2 D (.lst [])) fp (X.pn ++ pins)) (A3m fp s7.heap) σ' H' s' -> W i' ys' H' ->
         ∃ k', k' < m + 1 - i /\ ∃ i ys H', k' = m + 1 - i /\ Inv (X.compF scope N F G.objs.size { s2 with heap := G } (upd H2 D (.lst [])) fp (X.pn ++ pins)) [] (List.replicate N.length none ++ A4c js σ) H' s' /\ tn i s'.heap /\ (∀ b ∈ fp, H' b = none) /\ W i ys H' := by
       rintro i' ys' H' σ' s' rfl J' w'
       refine ⟨m + 1 - (i + 1), by omega, i + 1, ys', H', rfl, G8j S I3 f3 J', T.keep _ _ _ st7 fun b hb o z => (J'.pin (b, o) (List.mem_append_right _ (A5h hb z))).1, fun b hb => ?_, w'⟩
       obtain ⟨o, eo, _⟩ := ob7 b hb
       exact (J'.pin (b, o) (List.mem_append_right _ (A5h hb eo))).2.1
     refine wpAny_mono (gg (A3m fp s7.heap) s7 _ H7 x u _ I7' rx (step x H7 yl)) (fun _ s8 z => ?_) (fun _ _ z => z.elim)
     obtain ⟨σ8, H8, I8, q8⟩ := z
     refine wpAny_mono (cc (A3m fp s7.heap) s8 σ8 H8 _ I8 q8) (fun b s9 z => ?_) (fun _ _ z => z.elim)
     obtain ⟨H9, I9, q9⟩ := z
     cases b with
     | false =>
       simp only [Bool.false_eq_true, if_false] at q9 ⊢
       exact back rfl I9 q9
     | true =>
       simp only [if_true] at q9 ⊢
       refine wpAny_mono (ee (A3m fp s7.heap) s9 σ8 H9 _ I9 q9) (fun y s10 z => ?_) (fun _ _ z => z.elim)
       obtain ⟨yv, H10, I10, ry, hD10, hz10, w10⟩ := z
       refine wpAny_mono (B6h (X := X.compF scope N F G.objs.size { s2 with heap := G } (upd H2 D (.lst [])) fp (X.pn ++ pins)) (A3m fp s7.heap) s10 σ8 H10 (.ref D) [yv] (.ref D) [y] (fun _ H11 => W (i + 1) (ys ++ [yv]) H11) I10 rfl (.cons ry .nil) ⟨D, ys, yv, rfl, rfl, hD10, hz10, w10⟩) (fun _ s11 z => ?_) (fun _ _ z => z.elim)
       obtain ⟨_, H11, I11, _, w11⟩ := z
       exact back rfl I11 w11
 exact codeAny_compStart_list loop (T.self _ 0 _ _ _ (T.keep _ _ _ st2 fun b hb o e => kp b o (by rw [<- hG]; exact Heap.get?_push_of_some _ e)) loop)
theorem U8z {elt target iter : Expr} {c : Expr} {tc : TT} {pos : Pos} {wi : TI} {g : TG} {te : TE} (S : CompScopeF N F js scope X.N X.env) (hd : V2 X) (hc0 : X.calm = true) (hi : PI X target iter wi) (hex : X.ex = [])
   (hg : ∀ C s₀ H₀ ex pn, V2 (X.compF scope N F C s₀ H₀ ex pn) -> PG (X.compF scope N F C s₀ H₀ ex pn) target g)
   (hc : ∀ C s₀ H₀ ex pn, V2 (X.compF scope N F C s₀ H₀ ex pn) -> PT (X.compF scope N F C s₀ H₀ ex pn) c tc)
   (he : ∀ C s₀ H₀ ex pn, V2 (X.compF scope N F C s₀ H₀ ex pn) -> PE (X.compF scope N F C s₀ H₀ ex pn) elt te)
   (hs : ∀ x, foldedSetIterable iter X.env x = pure x := by intro _; rfl) : PE X (.ListComp elt [⟨target, iter, [c], 0⟩] scope pos) (B6e N.length js wi g tc te) := by
 intro pins s σ H Q I h
 rw [eval_ListComp]
 refine wpAny_comprehension_free (use := none) rfl hs S.clos S.kind S.loc (C3f S hd hc0 hi hex hg hc he I h (RR := fun acc ce r s' => compPost (model X.prog X.w) X.A X.xe none (EP X pins σ Q) acc ce.locals r s') ?_)
 intro D C s6 H5 mm I6 n6 f6 q
 exact ⟨mm, n6, fun h' sb => ⟨.ref D, H5, J8n I6 f6 sb, rfl, q⟩⟩
theorem U7u {i : Nat} {y : Str} {py spos : Pos} {elt target iter : Expr} {c : Expr} {tc : TT} {pos : Pos} {wi : TI} {g : TG} {te : TE} (S : CompScopeF N F js scope X.N X.env) (hd : V2 X) (hc0 : X.calm = true) (hi : PI X target iter wi) (hex : X.ex = [])
   (hg : ∀ C s₀ H₀ ex pn, V2 (X.compF scope N F C s₀ H₀ ex pn) -> PG (X.compF scope N F C s₀ H₀ ex pn) target g)
   (hc : ∀ C s₀ H₀ ex pn, V2 (X.compF scope N F C s₀ H₀ ex pn) -> PT (X.compF scope N F C s₀ H₀ ex pn) c tc)
   (he : ∀ C s₀ H₀ ex pn, V2 (X.compF scope N F C s₀ H₀ ex pn) -> PE (X.compF scope N F C s₀ H₀ ex pn) elt te) (hN : X.N.Nodup) (hi' : X.N[i]? = some y) (hy : Loc X.env.scope y)
   (hf : X.fn y = true \/ X.env.scope.names.lookup y = some .local := by first | exact .inl rfl | exact .inr rfl | assumption)
   (hsw : swapsWith (.ListComp elt [⟨target, iter, [c], 0⟩] scope pos) (some (.Name y py)) spos.line X.env = pure true := by rfl)
   (hs : ∀ x, foldedSetIterable iter X.env x = pure x := by intro _; rfl) : PS X (.Assign [.Name y py] (.ListComp elt [⟨target, iter, [c], 0⟩] scope pos) spos) (Z3p (B6e N.length js wi g tc te) (J9k i)) := by
 intro pins s σ H D I h
 rw [exec_Assign_Name_used _ _ _ _ hsw]
 refine wpAny_bind (wpAny_standAt (wpAny_bind ?_))
 show wpAny _ X.A (do let _ <- comprehension (.ListComp elt [⟨target, iter, [c], 0⟩] scope pos) scope X.env _ (newList []) false (eval iter X.env) (some (assign (.Name y py) X.env))) _ _ s
 refine wpAny_bind (wpAny_mono (wpAny_comprehension_free (Q := fun _ s' => SP X pins D .next s') rfl hs S.clos S.kind S.loc (C3f S hd hc0 hi hex hg hc he I h (RR := fun acc ce r s' => compPost (model X.prog X.w) X.A X.xe (some (assign (.Name y py) X.env)) (fun _ s' => SP X pins D .next s') acc ce.locals r s') ?_))
   (fun _ s' hq => wpAny_pure (wpAny_pure hq)) fun _ _ e => e)
 intro D' C s6 H5 mm I6 n6 f6 q
 refine wpAny_assign_Name (D1a (v := .ref D') I6 hN hi' hy rfl (fun s7 I7 st => ?_) hf)
 obtain ⟨a, sb, ha⟩ := st
 have na : C ≠ a := by
   rcases ha with rfl | ha
   . exact f6.2.1
   . exact (f6.2.2.2.2.1 y a ha).symm
 exact ⟨mm, n6.sameBut sb na, fun h' sb' => ⟨_, _, J8n I7 f6 sb', q⟩⟩
end
section
variable {X : Cx} {pins : List (Addr × Obj)} {σ : St} {H : Hp} {s : Shared} {h' : Heap}
end
section
variable {X : Cx} {es : List Expr} {k : Nat} {tp : Pos}
end
def Y6d (D : Addr) (H H' : Hp) : Prop := ∀ b o, H b = some o -> b ≠ D -> H' b = some o
theorem U0t {J : It} {g : TG} {te : TE} {σ0 : St} {H1 : Hp} {QD : Addr -> Hp -> Prop} {n : Nat} (R : Nat -> V -> Hp -> Prop) (hn : n <= 1000)
   (mono : ∀ i y H' H'' D l, R i y H' -> H' D = some (.lst l) -> Y6d D H' H'' -> R i y H'')
   (step : ∀ i H2 Qy, i < n -> Same H1 H2 -> (∀ y H6, Same H2 H6 -> R i y H6 -> Qy y H6) -> J.go i H2 /\ ∀ x H3, J.yld i H2 x H3 -> g x σ0 H3 fun σ4 H4 => te σ4 H4 Qy)
   (stop : ∀ H2, Same H1 H2 -> J.stop n H2)
   (k : ∀ D H' ys, Same H1 H' -> H1 D = none -> H' D = some (.lst ys) -> ys.length = n -> (∀ i y, ys[i]? = some y -> R i y H') -> QD D H') : ∀ D, H1 D = none ->
   ∃ (m : Nat) (W : Nat -> List V -> Hp -> Prop), W 0 [] (upd H1 D (.lst [])) /\ ∀ i ys H2, W i ys H2 -> i <= m /\ H2 D = some (.lst ys) /\ ((J.stop i H2 /\ QD D H2) \/ (i < m /\ J.go i H2 /\ ∀ x H3, J.yld i H2 x H3 ->
     g x σ0 H3 fun σ4 H4 => te σ4 H4 fun y H6 => H6 D = some (.lst ys) /\ ys.length < sizeLine /\ W (i + 1) (ys ++ [y]) (upd H6 D (.lst (ys ++ [y]))))) := by
 intro D hD
 refine ⟨n, fun i ys H2 => i <= n /\ ys.length = i /\ H2 D = some (.lst ys) /\ Same H1 H2 /\ ∀ j y, ys[j]? = some y -> R j y H2, ⟨Nat.zero_le _, rfl, A7, Same.upd hD, fun j y h => by simp at h⟩, ?_⟩
 rintro i ys H2 ⟨hi, hl, hd, sm, hR⟩
 refine ⟨hi, hd, ?_⟩
 by_cases hlt : i < n
 . refine .inr ⟨hlt, step i H2 _ hlt sm fun y H6 s6 r6 => ?_⟩
   have d6 : H6 D = some (.lst ys) := s6 _ _ hd
   have ex : Y6d D H6 (upd H6 D (.lst (ys ++ [y]))) := fun b o e hb => by rw [C0 hb]; exact e
   refine ⟨d6, Nat.lt_of_le_of_lt (by omega : ys.length <= 1000) (V0 (Nat.le_refl _)), hlt, by simp [hl], A7, fun b o e => ?_, fun j z hj => ?_⟩
   . rw [C0 (B7 e hD)]
     exact s6 _ _ (sm _ _ e)
   . by_cases hj' : j < ys.length
     . rw [List.getElem?_append_left hj'] at hj
       exact mono j z H6 _ D ys (mono j z H2 H6 D ys (hR j z hj) hd fun b o e _ => s6 _ _ e) d6 ex
     . rw [List.getElem?_append_right (by omega)] at hj
       have e0 : j - ys.length = 0 := by
         apply Classical.byContradiction
         intro q
         rw [List.getElem?_eq_none (by simp; omega)] at hj
         cases hj
       rw [e0] at hj
       have ej : j = i := by omega
       subst ej
       cases hj
       exact mono _ _ H6 _ D ys r6 d6 ex
 . have e : i = n := by omega
   subst e
   exact .inl ⟨stop H2 sm, k D H2 ys sm hD hd hl hR⟩
theorem G3j {J : It} {g : TG} {tc : TT} {te : TE} {σ0 : St} {H1 : Hp} {QD : Addr -> Hp -> Prop} {n : Nat} (f : Nat -> Bool) (R : Nat -> V -> Hp -> Prop) (hn : n <= 1000)
   (mono : ∀ i y H' H'' D l, R i y H' -> H' D = some (.lst l) -> Y6d D H' H'' -> R i y H'')
   (step : ∀ (i : Nat) (H2 : Hp) (Qy : VK) (Qn : Hp -> Prop), i < n -> Same H1 H2 -> (f i = true -> ∀ y H6, Same H2 H6 -> R i y H6 -> Qy y H6) -> (f i = false -> ∀ H6, Same H2 H6 -> Qn H6) -> J.go i H2 /\ ∀ x H3, J.yld i H2 x H3 -> g x σ0 H3 fun σ4 H4 => tc σ4 H4 fun b H5 => if b = true then te σ4 H5 Qy else Qn H5)
   (stop : ∀ H2, Same H1 H2 -> J.stop n H2)
   (k : ∀ D H' ys, Same H1 H' -> H1 D = none -> H' D = some (.lst ys) -> ys.length = ((List.range n).filter f).length -> (∀ (j i : Nat) (y : V), ((List.range n).filter f)[j]? = some i -> ys[j]? = some y -> R i y H') -> QD D H') : ∀ D, H1 D = none ->
   ∃ (m : Nat) (W : Nat -> List V -> Hp -> Prop), W 0 [] (upd H1 D (.lst [])) /\ ∀ i ys H2, W i ys H2 -> i <= m /\ H2 D = some (.lst ys) /\ ((J.stop i H2 /\ QD D H2) \/ (i < m /\ J.go i H2 /\ ∀ x H3, J.yld i H2 x H3 ->
     g x σ0 H3 fun σ4 H4 => tc σ4 H4 fun b H5 => if b = true then te σ4 H5 fun y H6 => H6 D = some (.lst ys) /\ ys.length < sizeLine /\ W (i + 1) (ys ++ [y]) (upd H6 D (.lst (ys ++ [y]))) else W (i + 1) ys H5)) := by
 intro D hD
 refine ⟨n, fun i ys H2 => i <= n /\ ys.length = ((List.range i).filter f).length /\ H2 D = some (.lst ys) /\ Same H1 H2 /\ ∀ (j i' : Nat) (y : V), ((List.range i).filter f)[j]? = some i' -> ys[j]? = some y -> R i' y H2, ⟨Nat.zero_le _, rfl, A7, Same.upd hD, fun j i' y h => by simp at h⟩, ?_⟩
 rintro i ys H2 ⟨hi, hl, hd, sm, hR⟩
 refine ⟨hi, hd, ?_⟩
 by_cases hlt : i < n
 . have fl : ((List.range i).filter f).length <= i := Nat.le_trans (List.length_filter_le _ _) (by simp)
   refine .inr ⟨hlt, step i H2 _ _ hlt sm (fun hf y H6 s6 r6 => ?_) (fun hf H6 s6 => ?_)⟩
   . have d6 : H6 D = some (.lst ys) := s6 _ _ hd
     have ex : Y6d D H6 (upd H6 D (.lst (ys ++ [y]))) := fun b o e hb => by rw [C0 hb]; exact e
     have ef : (List.range (i + 1)).filter f = (List.range i).filter f ++ [i] := by rw [List.range_succ, List.filter_append, List.filter_cons, hf]; rfl
     refine ⟨d6, Nat.lt_of_le_of_lt (by omega : ys.length <= 1000) (V0 (Nat.le_refl _)), hlt, by rw [ef, List.length_append, List.length_append, hl]; rfl, A7, fun b o e => ?_, fun j i' z hi' hj => ?_⟩
     . rw [C0 (B7 e hD)]
       exact s6 _ _ (sm _ _ e)
     . rw [ef] at hi'
       by_cases hj' : j < ys.length
       . rw [List.getElem?_append_left hj'] at hj
         rw [List.getElem?_append_left (by omega)] at hi'
         exact mono i' z H6 _ D ys (mono i' z H2 H6 D ys (hR j i' z hi' hj) hd fun b o e _ => s6 _ _ e) d6 ex
       . rw [List.getElem?_append_right (by omega)] at hj
         rw [List.getElem?_append_right (by omega)] at hi'
         have e0 : j - ys.length = 0 := by
           apply Classical.byContradiction
           intro q
           rw [List.getElem?_eq_none (by simp; omega)] at hj
           cases hj
         rw [e0] at hj
         rw [<- hl, e0] at hi'
         cases hj
         cases hi'
         exact mono _ _ H6 _ D ys r6 d6 ex
   . have ef : (List.range (i + 1)).filter f = (List.range i).filter f := by rw [List.range_succ, List.filter_append, List.filter_cons, hf]; simp
     refine ⟨hlt, by rw [ef]; exact hl, s6 _ _ hd, sm.trans s6, fun j i' z hi' hj => ?_⟩
     rw [ef] at hi'
     exact mono i' z H2 H6 D ys (hR j i' z hi' hj) hd fun b o e _ => s6 _ _ e
 . have e : i = n := by omega
   subst e
   exact .inl ⟨stop H2 sm, k D H2 ys sm hD hd hl hR⟩
open AutoSeq1 (wpAny_loadPart')
section
variable {prog : Program} {w : World} {A : Around} {E : Value -> Shared -> Prop} {s : Shared}
end
section
variable {X : Cx} {es : List Expr} {k : Nat} {tp : Pos}
end
end L2
namespace L2
open PySem PySem.Spec PyProof.Rows PySem.W
section
variable {X : Cx}
end
end L2
namespace L2
open PySem PySem.W PyProof.Rows
section
variable {X : Cx} {o e : Expr} {ta : TE} {m : Str} {apos pos : Pos} {j k : Nat} {ps : List Str} {ι : Type} {cw f : ι -> Addr} {fd : ι -> FuncData} {sp : ι -> Sp} {EH : EK}
end
section
variable {X : Cx} {a b e o : Expr} {es : List Expr} {ta tb te to : TE} {t : TA} {pos : Pos} {st : Stmt} {rest : List Stmt} {ts u : TS}
end
end L2
namespace L2
open PySem PySem.Spec PyProof.Rows PySem.W
section
variable {X : Cx} {x f : Str} {p cpos pos : Pos} {e : Expr} {t : TA} {C fI : Addr} {fdI : FuncData} {ps : List Str} {j k : Nat}
end
section
variable {X : Cx} {x y : Str} {e : Expr} {t : TE} {p q : Pos} {pos pos2 : Pos}
end
end L2
namespace L2
open PySem PySem.Spec PyProof.Rows
end L2
namespace L2
open PySem PySem.Spec PyProof.Rows PySem.W
mutual
inductive RdR (H : Hp) : V -> PyData -> Prop where
 | non : RdR H .non .none
 | bl (b : Bool) : RdR H (.bl b) (.bool b)
 | int (i : Int) : RdR H (.int i) (.int i)
 | str (x : Str) : RdR H (.str x) (.str x)
 | tup {a : Addr} {xs : List V} {ds : List PyData} (h : H a = some (.tup xs)) (r : RdRs H xs ds) : RdR H (.ref a) (.tuple ds)
 | lst {a : Addr} {xs : List V} {ds : List PyData} (h : H a = some (.lst xs)) (n : a ≠ sysModules) (r : RdRs H xs ds) : RdR H (.ref a) (.list ds)
 | dct0 {a : Addr} (h : H a = some (.dK [])) : RdR H (.ref a) (.dict [])
 | dct1 {a : Addr} {z : Str} {b : Bool} (h : H a = some (.dK [(.inr z, .bl b)])) : RdR H (.ref a) (.dict [(.str z, .bool b)])
inductive RdRs (H : Hp) : List V -> List PyData -> Prop where
 | nil : RdRs H [] []
 | cons {x : V} {xs : List V} {d : PyData} {ds : List PyData} (h : RdR H x d) (r : RdRs H xs ds) : RdRs H (x :: xs) (d :: ds)
end
mutual
theorem RdR.same {H H' : Hp} (s : ∀ b o, H b = some o -> H' b = some o) : ∀ {x : V} {d : PyData}, RdR H x d -> RdR H' x d
 | _, _, .non => .non
 | _, _, .bl b => .bl b
 | _, _, .int i => .int i
 | _, _, .str x => .str x
 | _, _, .tup h r => .tup (s _ _ h) (RdRs.same s r)
 | _, _, .lst h n r => .lst (s _ _ h) n (RdRs.same s r)
 | _, _, .dct0 h => .dct0 (s _ _ h)
 | _, _, .dct1 h => .dct1 (s _ _ h)
theorem RdRs.same {H H' : Hp} (s : ∀ b o, H b = some o -> H' b = some o) : ∀ {x : List V} {d : List PyData}, RdRs H x d -> RdRs H' x d
 | _, _, .nil => .nil
 | _, _, .cons h r => .cons (RdR.same s h) (RdRs.same s r)
end
section
variable {X : Cx}
mutual
theorem RdR.reads {pins : List (Addr × Obj)} {σ : St} {H : Hp} {s : Shared} (I : Inv X pins σ H s) : ∀ {x : V} {d : PyData} {u : Value}, RdR H x d -> RelV x u -> ∃ as, Reads s.heap u d as /\ sysModules ∉ as
 | _, _, _, .non, r => by cases r; exact ⟨_, .none, by simp⟩
 | _, _, _, .bl b, r => by cases r; exact ⟨_, .bool b, by simp⟩
 | _, _, _, .int i, r => by obtain ⟨t, rfl⟩ := r; exact ⟨_, .int i t, by simp⟩
 | _, _, _, .str x, r => by obtain ⟨t, rfl⟩ := r; exact ⟨_, .str x t, by simp⟩
 | _, _, _, .tup h q, r => by
   cases r
   obtain ⟨_, its, rv, o, e, c, n, d⟩ := I.hok _ _ h
   obtain ⟨as, z, y⟩ := RdRs.reads I q rv
   exact ⟨_, .tuple e c d (by simpa using z), y⟩
 | _, _, _, .lst (a := a) h nn q, r => by
   cases r
   obtain ⟨_, its, n, rv, e⟩ := I.hok _ _ h
   obtain ⟨as, z, y⟩ := RdRs.reads I q rv
   refine ⟨_, .list e rfl rfl (by simpa using z), fun hm => ?_⟩
   rcases List.mem_cons.mp hm with hm | hm
   . exact nn hm.symm
   . exact y hm
 | _, _, _, .dct0 (a := a) h, r => by
   cases r
   obtain ⟨_, nS, vs, kv, o, es, ep, e, c, d, _, ps, _⟩ := I.hok _ _ h
   cases kv
   cases hp : es.toList with
   | cons _ _ => rw [hp] at ps; cases ps
   | nil =>
     refine ⟨_, .dict (kvs := []) e c.1 d (by rw [hp]; exact .nil) (by rw [hp]; exact .nil), fun hm => ?_⟩
     exact beq_eq_false_iff_ne.mp nS (by simpa using hm : sysModules = a).symm
 | _, _, _, .dct1 (a := a) (z := z) (b := b) h, r => by
   cases r
   obtain ⟨_, nS, vs, kv, o, es, ep, e, c, d, _, ps, _⟩ := I.hok _ _ h
   cases kv with
   | cons k1 k2 =>
     cases k2
     obtain ⟨k1a, k1b⟩ := k1
     cases ps' : es.toList with
     | nil => rw [ps'] at ps; cases ps
     | cons en rest =>
       rw [ps'] at ps
       cases ps with
       | cons p1 p2 p3 =>
         cases p3
         have hk : ∃ t, en.key = .str z t := by
           rw [<- k1a] at p1
           have p1 : Value.isStrOf z en.key = true := p1
           cases hk : en.key <;> rw [hk] at p1 <;> simp [Value.isStrOf] at p1
           subst p1
           exact ⟨_, rfl⟩
         obtain ⟨t, hk⟩ := hk
         have hv : en.val = .bool b := p2.trans k1b
         refine ⟨_, .dict (kvs := [(.str z, .bool b)]) e c.1 d (by rw [ps']; show ReadsAll s.heap [en.key] [.str z] _; rw [hk]; exact .cons (.str z t) .nil) (by rw [ps']; show ReadsAll s.heap [en.val] [.bool b] _; rw [hv]; exact .cons (.bool b) .nil), fun hm => ?_⟩
         exact beq_eq_false_iff_ne.mp nS (by simpa using hm : sysModules = a).symm
theorem RdRs.reads {pins : List (Addr × Obj)} {σ : St} {H : Hp} {s : Shared} (I : Inv X pins σ H s) : ∀ {xs : List V} {ds : List PyData} {us : List Value}, RdRs H xs ds -> Vals xs us -> ∃ as, ReadsAll s.heap us ds as /\ sysModules ∉ as
 | _, _, _, .nil, r => by cases r; exact ⟨_, .nil, by simp⟩
 | _, _, _, .cons h q, r => by
   cases r with
   | cons r1 r2 =>
     obtain ⟨as, z, n1⟩ := RdR.reads I h r1
     obtain ⟨bs, y, n2⟩ := RdRs.reads I q r2
     exact ⟨_, .cons z y, by simp [n1, n2]⟩
end
end
section
variable {X : Cx} {j k : Nat} {f C : Addr} {fd : FuncData} {ps : List Str} {sp : Sp} {dvs : List V} {ds : List Value} {x m : Str} {p pos apos : Pos} {e o : Expr} {es : List Expr} {ta : TE} {t : TA} {st : Stmt}
end
section
variable {cs : List Addr} {H H' H2 : Hp} {b : Addr} {P : Program} {w : World} {h h' : Heap} {fs : List Addr}
end
section
variable {X : Cx} {j k : Nat} {f : Addr} {fd : FuncData} {ps : List Str} {sp : Sp} {ds : List Value} {EH : EK} {x : Str} {p pos : Pos} {e : Expr} {es : List Expr} {t : TA} {st : Stmt}
end
section
variable {X : Cx}
end
section
variable {X : Cx} {tg : Expr}
end
section
variable {X : Cx}
end
section
variable {prog : Program} {w : World} {A : Around} {E : Value -> Shared -> Prop} {s : Shared}
end
section
variable {X : Cx} {pos : Pos}
end
section
variable {X : Cx} {pos tpos pa pb : Pos}
end
section
variable {X : Cx} {N F : List Str} {js : List Nat} {scope : Scope}
end
section
variable {X : Cx} {tg : Expr}
end
theorem Paired.at {α β : Type} {F : α -> β -> Prop} : ∀ {l₁ : List α} {l₂ : List β}, Paired F l₁ l₂ -> ∀ (i : Nat) (x : α), l₁[i]? = some x -> ∃ y, l₂[i]? = some y /\ F x y
 | _, _, .nil, i, x, h => by simp at h
 | _, _, .cons r t, 0, x, h => by
   simp at h
   subst h
   exact ⟨_, by simp, r⟩
 | _, _, .cons r t, i + 1, x, h => by
   simp at h
   obtain ⟨y, e, q⟩ := Paired.at t i x h
   exact ⟨y, by simpa using e, q⟩
theorem Y5h {k : Key} {v : Value} (h : C1j k v = true) : RelV (kV k) v := by
 rcases J4 h with ⟨i, t, rfl, rfl⟩ | ⟨x, t, rfl, rfl⟩
 . exact ⟨t, rfl⟩
 . exact ⟨t, rfl⟩
section
variable {X : Cx} {pins : List (Addr × Obj)} {σ : St} {H : Hp} {s : Shared}
theorem Inv.freeze {d : Addr} {kvs : List (Key × V)} (I : Inv X pins σ H s) (hH : H d = some (.dK kvs)) : ∃ o, Inv X pins σ (upd H d (.frz o (.dK kvs))) s := by
 have ok : ObjOk X.prog X.w H s.heap d (.dK kvs) := I.hok d _ hH
 obtain ⟨z, y, vs, r, ob, es, ep, e, c⟩ := id ok
 exact ⟨ob, I.write (x := d) (e := d) (o := .frz ob (.dK kvs)) (h' := s.heap) (t' := s.toks) (by rw [hH]; exact trivial) (.inl rfl) (fun _ _ _ q => q) ⟨_, e⟩ ⟨e, z, y, vs, r, ob, es, ep, e, c⟩⟩
theorem Inv.dat {d : Addr} {o : Obj} {kvs : List (Key × V)} (I : Inv X pins σ H s) (hH : H d = some (.frz o (.dK kvs))) : (d == sysModules) = false /\ s.heap.get? d = some o /\ ∃ vs es ep, KV kvs vs /\ o.data = .dict es ep /\ s.heap.DictAt (J8 X.prog X.w) d vs ep := by
 have ok : ObjOk X.prog X.w H s.heap d (.frz o (.dK kvs)) := I.hok d _ hH
 obtain ⟨e, z, y, vs, r, ob, es, ep, e2, c⟩ := ok
 have q : o = ob := by rw [e] at e2; exact Option.some.inj e2
 subst q
 exact ⟨y, e, vs, es, ep, r, c.2.1, o, es, e2, c⟩
end
def Itv (d : Addr) (o : Obj) (kvs : List (Key × V)) : It := ⟨fun i H => H d = some (.frz o (.dK kvs)) /\ i < kvs.length, fun i H x H' => H' = H /\ ∃ k, kvs[i]? = some (k, x), fun i H => H d = some (.frz o (.dK kvs)) /\ kvs.length <= i⟩
def Itk (d : Addr) (o : Obj) (kvs : List (Key × V)) : It := ⟨fun i H => H d = some (.frz o (.dK kvs)) /\ i < kvs.length, fun i H x H' => H' = H /\ ∃ k v, kvs[i]? = some (k, v) /\ x = kV k, fun i H => H d = some (.frz o (.dK kvs)) /\ kvs.length <= i⟩
theorem U0f {P : Program} {w : World} {K : Frag} {tg : Expr} (it d : Addr) (o : Obj) (kvs : List (Key × V)) : Turn P w K tg (Itv d o kvs) [it] it (fun i h => ∃ es ep, o.data = .dict es ep /\ h.IsValIter it d i kvs.length ep) where
 mem := by simp
 obj := fun i h st b hb => by
   have e : b = it := by simpa using hb
   subst e
   obtain ⟨_, _, _, ob, e, c, dd⟩ := st
   exact ⟨ob, e, fun v z => by rw [dd] at z; cases z⟩
 keep := fun i h h' st k => by
   obtain ⟨es, ep, e, q⟩ := st
   exact ⟨es, ep, e, q.at fun ob x => k it (by simp) ob x⟩
 item := by
   intro X hP hw hK hc i pins s σ H E I hf st hg
   subst hP hw hK
   obtain ⟨f0, f1, f2, f3, f4, f5⟩ := hf it (by simp)
   obtain ⟨hd, hi⟩ := hg
   obtain ⟨es, ep, eo, q⟩ := st
   obtain ⟨_, _, vs, es', ep', r, eo', da⟩ := I.dat hd
   rw [eo] at eo'
   injection eo' with e1 e2
   subst e2
   obtain ⟨⟨k, v⟩, ev, ek, rv⟩ := Paired.at r i kvs[i] (by simp [hi])
   have hl := r.length
   rw [hl] at q
   refine wpAny_pyNext_values_item q da ev fun h' hit' hs' => ?_
   have I1 : Inv X pins σ H { s with heap := h' } := I.turned (t' := s.toks) (fun b ob hb e => hs'.extBut b ob hb e) f0 f1 f3 f4 f5
   obtain ⟨ob, e3, c3, d3⟩ := id hit'
   refine ⟨_, rfl, G3g (s := { s with heap := h' }) (n := "dict_valueiterator") e3 c3 d3 (by decide) ⟨kvs[i].2, H, I1, rv, ⟨rfl, kvs[i].1, by simp [hi]⟩, ⟨es, ep, eo, by rw [hl]; exact hit'⟩, fun b hb => (hf b hb).1⟩⟩
 done := by
   intro X hP hw hK hc i pins s σ H E I hf st hg
   subst hP hw hK
   obtain ⟨f0, f1, f2, f3, f4, f5⟩ := hf it (by simp)
   obtain ⟨hd, hi⟩ := hg
   obtain ⟨es, ep, eo, q⟩ := st
   obtain ⟨_, _, vs, es', ep', r, eo', da⟩ := I.dat hd
   rw [eo] at eo'
   injection eo' with e1 e2
   subst e2
   have hl := r.length
   rw [hl] at q
   exact wpAny_pyNext_values_end (I.ok.hd hc) q da (by simp; omega) fun h' eb => ⟨rfl, I.turned (t' := s.toks) (fun b ob hb e => eb b ob hb e) f0 f1 f3 f4 f5⟩
 self := fun _ _ _ _ _ st h => by
   obtain ⟨_, _, _, q⟩ := st
   exact wpAny_pyIter_valiter q h
theorem U2r {P : Program} {w : World} {K : Frag} {tg : Expr} (it d : Addr) (o : Obj) (kvs : List (Key × V)) : Turn P w K tg (Itk d o kvs) [it] it (fun i h => ∃ es ep, o.data = .dict es ep /\ h.IsKeyIter it d i kvs.length ep) where
 mem := by simp
 obj := fun i h st b hb => by
   have e : b = it := by simpa using hb
   subst e
   obtain ⟨_, _, _, ob, e, c, dd⟩ := st
   exact ⟨ob, e, fun v z => by rw [dd] at z; cases z⟩
 keep := fun i h h' st k => by
   obtain ⟨es, ep, e, q⟩ := st
   exact ⟨es, ep, e, q.at fun ob x => k it (by simp) ob x⟩
 item := by
   intro X hP hw hK hc i pins s σ H E I hf st hg
   subst hP hw hK
   obtain ⟨f0, f1, f2, f3, f4, f5⟩ := hf it (by simp)
   obtain ⟨hd, hi⟩ := hg
   obtain ⟨es, ep, eo, q⟩ := st
   obtain ⟨_, _, vs, es', ep', r, eo', da⟩ := I.dat hd
   rw [eo] at eo'
   injection eo' with e1 e2
   subst e2
   obtain ⟨⟨k, v⟩, ev, ek, rv⟩ := Paired.at r i kvs[i] (by simp [hi])
   have hl := r.length
   rw [hl] at q
   refine wpAny_pyNext_dict_item q da ev fun key h' hkey hit' hs' => ?_
   have I1 : Inv X pins σ H { s with heap := h' } := I.turned (t' := s.toks) (fun b ob hb e => hs'.extBut b ob hb e) f0 f1 f3 f4 f5
   obtain ⟨ob, e3, c3, d3⟩ := id hit'
   have ek' : kvs[i].1 = k := ek
   refine ⟨_, rfl, G3g (s := { s with heap := h' }) (n := "dict_keyiterator") e3 c3 d3 (by decide) ⟨kV k, H, I1, Y5h hkey, ⟨rfl, k, kvs[i].2, by rw [<- ek']; simp [hi], rfl⟩, ⟨es, ep, eo, by rw [hl]; exact hit'⟩, fun b hb => (hf b hb).1⟩⟩
 done := by
   intro X hP hw hK hc i pins s σ H E I hf st hg
   subst hP hw hK
   obtain ⟨f0, f1, f2, f3, f4, f5⟩ := hf it (by simp)
   obtain ⟨hd, hi⟩ := hg
   obtain ⟨es, ep, eo, q⟩ := st
   obtain ⟨_, _, vs, es', ep', r, eo', da⟩ := I.dat hd
   rw [eo] at eo'
   injection eo' with e1 e2
   subst e2
   have hl := r.length
   rw [hl] at q
   exact wpAny_pyNext_dict_end (I.ok.hd hc) q da (by simp; omega) fun h' eb => ⟨rfl, I.turned (t' := s.toks) (fun b ob hb e => eb b ob hb e) f0 f1 f3 f4 f5⟩
 self := fun _ _ _ _ _ st h => by
   obtain ⟨_, _, _, q⟩ := st
   exact wpAny_pyIter_keyiter q h
section
variable {X : Cx} {tg : Expr}
def G9g (J : Addr -> Obj -> List (Key × V) -> It) (x : V) (H : Hp) (R : It -> Hp -> Prop) : Prop := ∃ d kvs, x = .ref d /\ ((H d = some (.dK kvs) /\ ∀ o, R (J d o kvs) (upd H d (.frz o (.dK kvs)))) \/ ∃ o, H d = some (.frz o (.dK kvs)) /\ R (J d o kvs) H)
theorem Inv.walked {J : Addr -> Obj -> List (Key × V) -> It} {pins : List (Addr × Obj)} {σ : St} {H : Hp} {s : Shared} {x : V} {v : Value} {R : It -> Hp -> Prop} (I : Inv X pins σ H s) (r : RelV x v) (h : G9g J x H R) :
   ∃ d o kvs H', v = .ref d /\ Inv X pins σ H' s /\ H' d = some (.frz o (.dK kvs)) /\ R (J d o kvs) H' := by
 obtain ⟨d, kvs, rfl, h⟩ := h
 cases r
 rcases h with ⟨e, k⟩ | ⟨o, e, k⟩
 . obtain ⟨o, I'⟩ := I.freeze e
   exact ⟨d, o, kvs, _, rfl, I', A7, k o⟩
 . exact ⟨d, o, kvs, H, rfl, I, e, k⟩
theorem J8s {e : Expr} {te : TE} {apos cpos : Pos} (he : PE X e te) (hbase : attributeBase e "values" X.env (eval e X.env) = eval e X.env := by rfl) (hline : (apos.endLine == cpos.line) = true := by rfl) :
   PI X tg (.Call (.Attribute e "values" apos) [] [] cpos) (fun σ H R => te σ H fun x H1 => G9g Itv x H1 R) := by
 intro pins s σ H R I h
 refine wpAny_Call_method0_late hbase hline (thn (he pins s σ H _ I h) fun v s1 ⟨x, H1, I1, r1, q1⟩ => ?_)
 obtain ⟨d, o, kvs, H2, rfl, I2, e2, q2⟩ := I1.walked r1 q1
 obtain ⟨lo, eo, vs, es, ep, r, ed, da⟩ := I2.dat e2
 have ty : s1.TypeIs (.ref d) "dict" := da.dictOf.typeIs
 have nod : ∀ a, (Value.ref d : Value) = .ref a -> ∃ ob, s1.heap.get? a = some ob /\ ob.dict = none := fun a ea => by
   injection ea with ea
   subst ea
   obtain ⟨ob, _, eb, xd, _⟩ := da
   exact ⟨ob, eb, xd.2.1⟩
 refine ⟨"dict", "dict.values", PySem.F.plainAttrs_dict, PySem.F.slot_dict_values, PySem.F.type_dict_values, ty, nod, Calls.callWith_builtin rfl (PySem.evalArgs_none (call_meetsIn PySem.F.slot_dict_values ty PySem.F.entry_dict_values (PySem.F.args_dict_values_1 _) (meets_dict_values (J8 X.prog X.w) d lo) ⟨⟨vs, da.dictOf⟩, ?_⟩))⟩
 have I3 : Inv X pins σ H2 { s1 with heap := s1.heap.push { cls := .type "dict_values", data := .fields #[.ref d] } } := I2.kept (t' := s1.toks) fun b o e => Heap.get?_push_of_some _ e
 obtain ⟨_, _, vs, es, ep, r, ed, da⟩ := I3.dat e2
 refine wpAny_pyIter_values (v := s1.heap.objs.size) (d := d) ⟨_, Heap.get?_push_size _ rfl, rfl, rfl⟩ da ?_
 refine ⟨_, [_], _, _, H2, rfl, I3.kept (t' := s1.toks) fun b o e => Heap.get?_push_of_some _ e, U0f _ d o kvs, ⟨es, ep, ed, _, Heap.get?_push_size _ rfl, rfl, by rw [KV.length r]; rfl⟩, fun b hb => ?_, q2⟩
 have eb := List.mem_singleton.mp hb
 subst eb
 exact I3.fpOk (Nat.le_refl _) (I3.hok.fresh (Nat.le_refl _))
theorem Y6g {e : Expr} {te : TE} (he : PE X e te) : PI X tg e (fun σ H R => te σ H fun x H1 => G9g Itk x H1 R) := by
 intro pins s σ H R I h
 refine thn (he pins s σ H _ I h) fun v s1 ⟨x, H1, I1, r1, q1⟩ => ?_
 obtain ⟨d, o, kvs, H2, rfl, I2, e2, q2⟩ := I1.walked r1 q1
 obtain ⟨lo, eo, vs, es, ep, r, ed, da⟩ := I2.dat e2
 refine wpAny_pyIter_dict lo da ?_
 refine ⟨_, [_], _, _, H2, rfl, I2.kept (t' := s1.toks) fun b o e => Heap.get?_push_of_some _ e, U2r _ d o kvs, ⟨es, ep, ed, _, Heap.get?_push_size _ rfl, rfl, by rw [KV.length r]; rfl⟩, fun b hb => ?_, q2⟩
 have eb := List.mem_singleton.mp hb
 subst eb
 exact I2.fpOk (Nat.le_refl _) (I2.hok.fresh (Nat.le_refl _))
def Y6h : V -> List V -> Hp -> VK -> Prop := fun x vs H Q => ∃ d o kvs more, x = .ref d /\ vs = [.ref o] /\ H d = some (.dK kvs) /\ H o = some (.dK more) /\ d ≠ o /\ kvs.length + more.length <= sizeLine /\ Q .non (upd H d (.dK (V4 kvs more)))
theorem U2f : MtM X "dict.update" Y6h := by
 intro pins s σ H x vs v us Q I rx rv h
 obtain ⟨d, o, kvs, more, rfl, rfl, hd, ho, hne, hz, q⟩ := h
 cases rx
 obtain ⟨u, rfl, ru⟩ := rv.one
 cases ru
 obtain ⟨z1, lo1, vs1, r1, D1⟩ := (show ObjOk X.prog X.w H s.heap d (.dK kvs) from I.hok d _ hd)
 obtain ⟨z2, lo2, vs2, r2, D2⟩ := (show ObjOk X.prog X.w H s.heap o (.dK more) from I.hok o _ ho)
 refine call_meetsIn PySem.F.slot_dict_update D1.typeIs PySem.F.entry_dict_update (PySem.F.args_dict_update_2 _ _) (meets_dict_update (J8 X.prog X.w) d o hne lo2) ⟨vs1, vs2, D1, D2, by rw [<- KV.length r1, <- KV.length r2]; exact hz, fun h' e1 e2 sb => ?_⟩
 have rm := KV.merge r2 r1
 refine ⟨.non, _, I.write (x := d) (e := d) (o := .dK (V4 kvs more)) (h' := h') (t' := s.toks) (by rw [hd]; exact trivial) (.inl rfl) (fun b ob hb e => sb.extBut b ob hb e) ?_ ⟨?_, lo1, _, rm, e1⟩, rfl, q⟩
 . obtain ⟨ob, _, _, e, _⟩ := e1
   exact ⟨ob, e⟩
 . have : ∀ (more kvs : List (Key × V)), (V4 kvs more).length <= kvs.length + more.length := by
     intro more
     induction more with
     | nil => intro kvs; exact Nat.le_refl _
     | cons p t ih =>
       intro kvs
       have a := ih (A0y kvs p.1 p.2)
       have b : (A0y kvs p.1 p.2).length <= kvs.length + 1 := by
         unfold A0y
         split
         . simp
         . simp
       show (V4 (A0y kvs p.1 p.2) t).length <= _
       simp only [List.length_cons]
       omega
   exact Nat.le_trans (this more kvs) hz
def rInT (K : Frag) : R2 := fun x y H Q => ∃ d es, RdD K H x d /\ RdD K H y (.tuple es) /\ PyData.canLayAll0 es = true /\ d.canLay0 = true /\ d.depth <= 60 /\ Q (.bl (es.any fun e => PyData.eqv e d)) H
theorem Z2p (hu : X.A.units + 64 < cLine) : OpR X (compareOp .In) (rInT X.K) := by
 intro pins s σ H x y v u Q I rx ry h
 obtain ⟨d, es, hx, hy, ce, cd, dd, q⟩ := h
 obtain ⟨as, z⟩ := hx.reads I rx
 obtain ⟨bs, z'⟩ := hy.reads I ry
 exact SeqAt.in_tuple_reads z' z ce cd (Nat.lt_of_le_of_lt (Nat.add_le_add_left (Nat.le_trans (Nat.min_le_right _ _) dd) _) (by omega)) ⟨.bl _, H, I, rfl, q⟩
end
end L2
namespace TR
open PySem L2 PySem.W PyProof.Rows
seal PE PS PSs PA PT PW PG PGs PI
def top (i : Nat) : Stmt := PySem.Challenge.pw_tenreckon_k24_whole_roots_by_squares.main.body.getD i (.Pass ⟨0, 0, 0, 0⟩)
abbrev C7e : Stmt := (top 27)
section
variable {P : Program} {w : World} {K : Frag} {mg : Str -> Option Value} {base : Heap}
def Z9b (K : Frag) : Sp := fun vs H Q _ => ∃ v lo hi, vs = [v, .int lo, .int hi] /\ ((B2j lo hi v /\ Q (.bl true) H) \/ (C6z K H lo hi v /\ Q (.bl false) H))
theorem Z8e : FnScope ["thing", "least", "most"] ["thing", "least", "most"] (A1 C7e) := scK
theorem U8f {f : Addr} {fd : FuncData} (D : Def K mg "is_between" ["thing", "least", "most"] C7e f fd) (O : Own mg) (T : Kit K) : FnOk P w K mg base (CX1 P w) 1 f fd ["thing", "least", "most"] (Z9b K) := by
 refine FnOk.up (D.F.ok Z8e (fun vs H Q E h => ?_) (fun cdv A outer s H vs Q E hr h => ?_))
 . obtain ⟨v, lo, hi, rfl, _⟩ := h
   rfl
 . obtain ⟨v, lo, hi, rfl, h⟩ := h
   refine ⟨_, (A4 (G2 (PW.pt (C2s (A2e (U8 (U0k O.isi (pv 0) (pty O.int_ boot_int)))) (C1y (U8 (U0k O.isi (pv 0) (pty O.bool_ boot_bool)))))) (A6 (B0 A2b)) C8)
     (A6 (B0 (A8p (G3 U8e (pv 0) (pv 1) (B8 _)) (A5b (G3 Z0q (pv 0) (pv 2) (B8 _))))))), ?_⟩
   rcases h with ⟨⟨i, rfl, h1, h2⟩, k⟩ | ⟨⟨t, b1, b2, ty, k1, k2, bad⟩, k⟩
   . refine ⟨_, rfl, _, _, _, _, true, rfl, rfl, Z0m i, T.int_int, _, rfl, J9 ?_⟩
     refine ⟨_, rfl, _, _, _, _, false, rfl, rfl, Z0m i, T.int_bool, _, rfl, J9 ?_⟩
     refine ⟨_, rfl, _, rfl, _, _, rfl, rfl, _, rfl, B4n h1 ?_⟩
     refine ⟨_, rfl, _, rfl, _, _, rfl, rfl, ?_⟩
     show Q (.bl (decide (i <= hi))) H
     rw [decide_eq_true h2]
     exact k
   . refine ⟨_, rfl, _, _, _, _, b1, rfl, rfl, ty, k1, _, rfl, ?_⟩
     cases b1 with
     | false => exact Z3 (Z3 k)
     | true =>
       refine J9 ⟨_, rfl, _, _, _, _, b2, rfl, rfl, ty, k2, _, rfl, ?_⟩
       cases b2 with
       | true => exact Z3 k
       | false =>
         obtain ⟨i, rfl, out⟩ := bad.resolve_left (by decide)
         refine J9 ⟨_, rfl, _, rfl, _, _, rfl, rfl, _, rfl, U3 (fun h1 => ?_) (fun h1 => ?_)⟩
         . refine ⟨_, rfl, _, rfl, _, _, rfl, rfl, ?_⟩
           show Q (.bl (decide (i <= hi))) H
           rw [decide_eq_false (by omega : ¬ i <= hi)]
           exact k
         . exact k
end
structure Err (K : Frag) (mg : Str -> Option Value) (x : Str) (CB : Addr) : Prop where
 g : mg x = some (.ref CB)
 q : excIn K CB [.type "ValueError", .type "Exception", .type "BaseException", .type "object"] "ValueError.__new__" = true
def B4v (lo hi : Int) : Prop := lo.natAbs.log2 < 1920 /\ hi.natAbs.log2 < 1920 /\ (Str.ofString (toString lo)).length <= 100 /\ (Str.ofString (toString hi)).length <= 100
abbrev A2c : Stmt := (top 59)
section
variable {P : Program} {w : World} {K : Frag} {mg : Str -> Option Value} {base : Heap}
def D1f (K : Frag) (CB : Addr) : Sp := fun vs H Q E => ∃ v lo hi, vs = [v, .int lo, .int hi] /\ B4v lo hi /\ ((B2j lo hi v /\ Q v H) \/ (C6z K H lo hi v /\ E (.ref CB) none H))
theorem U0n : FnScope ["thing", "least", "most"] ["thing", "least", "most"] (A1 A2c) := scK
theorem G8z {f f1 CB : Addr} {fd fd1 : FuncData} (D : Def K mg "bounded" ["thing", "least", "most"] A2c f fd) (D1 : Def K mg "is_between" ["thing", "least", "most"] C7e f1 fd1) (O : Own mg) (T : Kit K) (B : Err K mg "BadContext" CB) :
   FnOk P w K mg base (CX1 P w) 2 f fd ["thing", "least", "most"] (D1f K CB) := by
 have G1 := U8f (P := P) (w := w) (base := base) D1 O T
 refine D.F.okE U0n (fun vs H Q E h => ?_) (fun X cdv A outer s H vs Q E hX hr hx h => ?_)
 . obtain ⟨v, lo, hi, rfl, _⟩ := h
   rfl
 . subst hX
   obtain ⟨v, lo, hi, rfl, ⟨l1, l2, l3, l4⟩, h⟩ := h
   refine ⟨_, (A4 (G2 (A2e (U8 (B9 D1 G1 hr hx (A0 (pv 0) (A0 (pv 1) (A0 (pv 2) A5))))))
     (A6 (A2a (by rfl) B.g B.q PySem.F.excBase_ValueError hr.hd hx (A0 (J8g (.cons .lit (.cons (.int (pv 1)) (.cons .lit (.cons (.int (pv 2)) .nil))))) A5))) C8)
     (A6 (B0 (pv 0)))), ?_⟩
   rcases h with ⟨g, k⟩ | ⟨bad, k⟩
   . exact ⟨_, rfl, _, rfl, _, rfl, _, _, _, rfl, .inl ⟨g, _, rfl, J9 ⟨_, rfl, k⟩⟩⟩
   . have a0 : Str.empty.length = 0 := rfl
     have a1 : (Str.ofString "not a whole number from ").length = 24 := by decide +kernel
     have a2 : (Str.ofString " to ").length = 4 := by decide +kernel
     have sz : ∀ {n : Nat}, n <= 1000 -> n <= sizeLine := fun h => Nat.le_of_lt (V0 h)
     refine ⟨_, rfl, _, rfl, _, rfl, _, _, _, rfl, .inr ⟨bad, _, rfl, Z3 ?_⟩⟩
     exact ⟨_, rfl, sz (by rw [strLen_append]; omega), _, rfl, _, rfl, l1, _, rfl, sz (by rw [strLen_append, strLen_append]; omega), _, rfl, sz (by rw [strLen_append, strLen_append, strLen_append]; omega), _, rfl, _, rfl, l2, _, rfl, sz (by rw [strLen_append, strLen_append, strLen_append, strLen_append]; omega), sz (by rw [strLen_append, strLen_append, strLen_append, strLen_append]; omega), sz (by show 1 <= 1000; decide), k⟩
end
abbrev A0h : Stmt := (top 28)
section
variable {P : Program} {w : World} {K : Frag} {mg : Str -> Option Value} {base : Heap}
def U1y (K : Frag) (CB : Addr) : Sp := fun vs H Q E => ∃ v lo hi, vs = [v, .int lo, .int hi] /\ B4v lo hi /\
 ((B2j lo hi v /\ Q .non H) \/ (C6z K H lo hi v /\ E (.ref CB) none H))
theorem U2a : FnScope ["thing", "least", "most"] ["thing", "least", "most"] (A1 A0h) := scK
theorem C2p {f f1 CB : Addr} {fd fd1 : FuncData} (D : Def K mg "need_between" ["thing", "least", "most"] A0h f fd) (D1 : Def K mg "is_between" ["thing", "least", "most"] C7e f1 fd1) (O : Own mg) (T : Kit K) (B : Err K mg "BadNumber" CB) :
   FnOk P w K mg base (CX1 P w) 2 f fd ["thing", "least", "most"] (U1y K CB) := by
 have G1 := U8f (P := P) (w := w) (base := base) D1 O T
 refine D.F.okE U2a (fun vs H Q E h => ?_) (fun X cdv A outer s H vs Q E hX hr hx h => ?_)
 . obtain ⟨v, lo, hi, rfl, _⟩ := h
   rfl
 . subst hX
   obtain ⟨v, lo, hi, rfl, ⟨l1, l2, l3, l4⟩, h⟩ := h
   refine ⟨_, (A6 (G2 (A2e (U8 (B9 D1 G1 hr hx (A0 (pv 0) (A0 (pv 1) (A0 (pv 2) A5))))))
     (A6 (A2a (by rfl) B.g B.q PySem.F.excBase_ValueError hr.hd hx (A0 (J8g (.cons .lit (.cons (.int (pv 1)) (.cons .lit (.cons (.int (pv 2)) .nil))))) A5))) C8)), ?_⟩
   rcases h with ⟨g, k⟩ | ⟨bad, k⟩
   . exact ⟨_, rfl, _, rfl, _, rfl, _, _, _, rfl, .inl ⟨g, _, rfl, J9 k⟩⟩
   . have a0 : Str.empty.length = 0 := rfl
     have a1 : (Str.ofString "not a whole number from ").length = 24 := by decide +kernel
     have a2 : (Str.ofString " to ").length = 4 := by decide +kernel
     have sz : ∀ {n : Nat}, n <= 1000 -> n <= sizeLine := fun h => Nat.le_of_lt (V0 h)
     refine ⟨_, rfl, _, rfl, _, rfl, _, _, _, rfl, .inr ⟨bad, _, rfl, Z3 ?_⟩⟩
     exact ⟨_, rfl, sz (by rw [strLen_append]; omega), _, rfl, _, rfl, l1, _, rfl, sz (by rw [strLen_append, strLen_append]; omega), _, rfl, sz (by rw [strLen_append, strLen_append, strLen_append]; omega), _, rfl, _, rfl, l2, _, rfl, sz (by rw [strLen_append, strLen_append, strLen_append, strLen_append]; omega), sz (by rw [strLen_append, strLen_append, strLen_append, strLen_append]; omega), sz (by show 1 <= 1000; decide), k⟩
end
abbrev D1c : Stmt := (D5 (top 17) 0)
abbrev C0g : Stmt := (top 21)
abbrev A3n : Stmt := (top 23)
structure Num (K : Frag) (mg : Str -> Option Value) (CN : Addr) : Prop where
 g : mg "Number" = some (.ref CN)
 cl : Cls K CN
 n1 : NoAttr K CN "kind"
 n2 : NoAttr K CN "sign"
 n3 : NoAttr K CN "figures"
 n4 : NoAttr K CN "power"
 ca : findIn K (.ref CN) "__class__" = some (some (.builtin "object.__class__"))
 sn : specialIn K (.builtin "object.__class__") "__get__" = some (some (.builtin "getset_descriptor.__get__"))
 tk : takesIn K (.builtin "object.__class__") = some true
 ob : mroIn K CN (.type "object") = some true
 self : kitOne K (.ref CN) (.ref CN) = some true
def C7f (k s f p : V) : List (Str × V) := J0 "power" p (J0 "figures" f (J0 "sign" s (J0 "kind" k [])))
theorem e12 : ¬ (("kind" : Str) = "sign") := by decide +kernel
theorem e13 : ¬ (("kind" : Str) = "figures") := by decide +kernel
theorem e14 : ¬ (("kind" : Str) = "power") := by decide +kernel
theorem e23 : ¬ (("sign" : Str) = "figures") := by decide +kernel
theorem e24 : ¬ (("sign" : Str) = "power") := by decide +kernel
theorem e34 : ¬ (("figures" : Str) = "power") := by decide +kernel
theorem U1d (k s f p : V) : (C7f k s f p).lookup ("kind" : Str) = some k := by unfold C7f; rw [C9, if_neg e14, C9, if_neg e13, C9, if_neg e12, C9, if_pos rfl]
theorem G8w (k s f p : V) : (C7f k s f p).lookup ("sign" : Str) = some s := by unfold C7f; rw [C9, if_neg e24, C9, if_neg e23, C9, if_pos rfl]
theorem D2h (k s f p : V) : (C7f k s f p).lookup ("figures" : Str) = some f := by unfold C7f; rw [C9, if_neg e34, C9, if_pos rfl]
theorem C2e (k s f p : V) : (C7f k s f p).lookup ("power" : Str) = some p := by unfold C7f; rw [C9, if_pos rfl]
def NumAt (CN : Addr) (H : Hp) (n : Addr) (k s f p : V) : Prop := ∃ dx, H n = some (.ins CN dx (C7f k s f p))
theorem NumAt.same {CN : Addr} {H H' : Hp} {n : Addr} {k s f p : V} (h : NumAt CN H n k s f p) (e : Same H H') : NumAt CN H' n k s f p := by
 obtain ⟨dx, z⟩ := h
 exact ⟨dx, e _ _ z⟩
theorem Num.ty {K : Frag} {mg : Str -> Option Value} {CN : Addr} (N : Num K mg CN) {H : Hp} {n : Addr} {k s f p : V} (h : NumAt CN H n k s f p) : TyE K H (.ref n) (.ref CN) := by
 obtain ⟨dx, z⟩ := h
 exact .of (.ins z N.cl N.ca N.sn N.tk N.ob)
section
variable {P : Program} {w : World} {K : Frag} {mg : Str -> Option Value} {base : Heap}
def D3f (CN : Addr) : Sp := fun vs H Q _ => ∃ (p dx : Addr) (k s f pw : V), vs = [.ref p, k, s, f, pw] /\ H p = some (.ins CN dx []) /\ ∀ H', H' p = some (.ins CN dx (C7f k s f pw)) -> (∀ b o, H b = some o -> b ≠ p -> H' b = some o) -> Q .non H'
theorem Z2b : FnScope ["self", "kind", "sign", "figures", "power"] ["self", "kind", "sign", "figures", "power"] (A1 D1c) := scK
theorem Y5f {f CN : Addr} {fd : FuncData} (F : Fun K "__init__" "Number.__init__" D1c f fd) (N : Num K mg CN) : FnOk P w K mg base CX0 1 f fd ["self", "kind", "sign", "figures", "power"] (D3f CN) := by
 refine F.ok Z2b (fun vs H Q E h => ?_) (fun cdv A outer s H vs Q E hr h => ?_)
 . obtain ⟨p, dx, a, b, c, d, rfl, _⟩ := h
   rfl
 . obtain ⟨p, dx, a, b, c, d, rfl, hp, k⟩ := h
   refine ⟨_, A4 (V1 (pv 0) (pv 1) rfl) (A4 (V1 (pv 0) (pv 2) rfl) (A4 (V1 (pv 0) (pv 3) rfl) (A6 (V1 (pv 0) (pv 4) rfl)))), ?_⟩
   have l : ∀ (fs : List (Str × V)) (f : Str) (v : V) (n : Nat), fs.length <= n -> (J0 f v fs).length <= n + 1 := fun fs f v n h => Nat.le_trans (V8 f v fs) (Nat.succ_le_succ h)
   refine ⟨_, rfl, _, rfl, p, CN, dx, [], rfl, hp, N.cl, N.n1, (by show 0 < 1000; decide), ?_⟩
   refine ⟨_, rfl, _, rfl, p, CN, dx, _, rfl, A7, N.cl, N.n2, Nat.lt_of_le_of_lt (l _ _ _ 0 (Nat.le_refl _)) (by decide), ?_⟩
   refine ⟨_, rfl, _, rfl, p, CN, dx, _, rfl, A7, N.cl, N.n3, Nat.lt_of_le_of_lt (l _ _ _ 1 (l _ _ _ 0 (Nat.le_refl _))) (by decide), ?_⟩
   refine ⟨_, rfl, _, rfl, p, CN, dx, _, rfl, A7, N.cl, N.n4, Nat.lt_of_le_of_lt (l _ _ _ 2 (l _ _ _ 1 (l _ _ _ 0 (Nat.le_refl _)))) (by decide), ?_⟩
   refine k _ A7 fun b o e hb => ?_
   rw [C0 hb, C0 hb, C0 hb, C0 hb]
   exact e
structure MakeN (P : Program) (w : World) (K : Frag) (mg : Str -> Option Value) (base : Heap) (CN fI : Addr) (fdI : FuncData) : Prop where
 m : Mk K CN fI
 g : FnOk P w K mg base CX0 1 fI fdI ["self", "kind", "sign", "figures", "power"] (D3f CN)
 b : Binds K fdI ["self", "kind", "sign", "figures", "power"] []
theorem made {CN : Addr} {H : Hp} {Q : VK} {k s f p : V} (h : ∀ n H', H n = none -> Same H H' -> NumAt CN H' n k s f p -> Q (.ref n) H') :
   ∀ x dx, H x = none -> H dx = none -> dx ≠ x -> D3f CN (.ref x :: ([k, s, f, p] ++ [])) (upd (upd H dx (.own x)) x (.ins CN dx [])) (fun v H2 => v = .non /\ Q (.ref x) H2) E0 := by
 intro x dx nx nd ne
 refine ⟨x, dx, k, s, f, p, rfl, A7, fun H' e kp => ⟨rfl, h x H' nx (fun b o z => ?_) ⟨dx, e⟩⟩⟩
 refine kp b o ?_ (B7 z nx)
 rw [C0 (B7 z nx), C0 (B7 z nd)]
 exact z
def G8k (K : Frag) (CN : Addr) (H : Hp) (v : V) : Prop := ∃ t, TyE K H v t /\ kitOne K t (.ref CN) = some false
def C0z (K : Frag) (CN CB : Addr) : Sp := fun vs H Q E => ∃ v, vs = [v] /\ ((∃ n k s f p, v = .ref n /\ NumAt CN H n k s f p /\ Q v H) \/ (G8k K CN H v /\ E (.ref CB) none H))
theorem Y5s : FnScope ["thing"] ["thing"] (A1 A3n) := scK
theorem G2r {f CN CB : Addr} {fd : FuncData} (D : Def K mg "need_number" ["thing"] A3n f fd) (O : Own mg) (T : Kit K) (B : Err K mg "BadNumber" CB) (N : Num K mg CN) : FnOk P w K mg base (CX1 P w) 1 f fd ["thing"] (C0z K CN CB) := by
 refine D.F.okE Y5s (fun vs H Q E h => ?_) (fun X cdv A outer s H vs Q E hX hr hx h => ?_)
 . obtain ⟨v, rfl, _⟩ := h
   rfl
 . subst hX
   obtain ⟨v, rfl, h⟩ := h
   refine ⟨_, (A4 (G2 (A2e (U8 (U0k O.isi (pv 0) (Z2n N.g)))) (A6 (A2a (by rfl) B.g B.q PySem.F.excBase_ValueError hr.hd hx (A0 B5 A5))) C8)
     (A6 (B0 (pv 0)))), ?_⟩
   rcases h with ⟨n, a, b, c, d, rfl, hn, k⟩ | ⟨⟨t, ty, k1⟩, k⟩
   . exact ⟨_, rfl, _, _, _, _, true, rfl, rfl, N.ty hn, N.self, _, rfl, J9 ⟨_, rfl, k⟩⟩
   . exact ⟨_, rfl, _, _, _, t, false, rfl, rfl, ty, k1, _, rfl, Z3 ⟨Nat.le_of_lt (V0 (by show 1 <= 1000; decide)), k⟩⟩
def G9a (K : Frag) (CN CB : Addr) : Sp := fun vs H Q E => ∃ v, vs = [v] /\ ((∃ n k s f p, v = .ref n /\ NumAt CN H n k s f p /\ ∀ t, H t = none -> Q (.ref t) (upd H t (.tup [k, s, f, p]))) \/ (G8k K CN H v /\ E (.ref CB) none H))
theorem Z1v : FnScope ["number"] ["number"] (A1 C0g) := scK
theorem Y7m {f f1 CN CB : Addr} {fd fd1 : FuncData} (D : Def K mg "told" ["number"] C0g f fd) (D_need_number : Def K mg "need_number" ["thing"] A3n f1 fd1) (O : Own mg) (T : Kit K) (B : Err K mg "BadNumber" CB) (N : Num K mg CN) :
   FnOk P w K mg base (CX1 P w) 2 f fd ["number"] (G9a K CN CB) := by
 have G_need_number := G2r (P := P) (w := w) (base := base) D_need_number O T B N
 refine D.F.okE Z1v (fun vs H Q E h => ?_) (fun X cdv A outer s H vs Q E hX hr hx h => ?_)
 . obtain ⟨v, rfl, _⟩ := h
   rfl
 . subst hX
   obtain ⟨v, rfl, h⟩ := h
   refine ⟨_, (A4 (U6 (B9 D_need_number G_need_number hr hx (A0 (pv 0) A5)))
     (A6 (B0 (A3j (A0 (C7 (pv 0) rfl) (A0 (C7 (pv 0) rfl) (A0 (C7 (pv 0) rfl) (A0 (C7 (pv 0) rfl) A5)))))))), ?_⟩
   rcases h with ⟨n, a, b, c, d, rfl, hn, k⟩ | ⟨bad, k⟩
   . refine ⟨_, rfl, _, rfl, .inl ⟨n, a, b, c, d, rfl, hn, ?_⟩⟩
     obtain ⟨dx, e⟩ := hn
     exact ⟨_, rfl, n, CN, dx, _, _, rfl, e, N.cl, N.n1, U1d _ _ _ _, _, rfl, n, CN, dx, _, _, rfl, e, N.cl, N.n2, G8w _ _ _ _, _, rfl, n, CN, dx, _, _, rfl, e, N.cl, N.n3, D2h _ _ _ _, _, rfl, n, CN, dx, _, _, rfl, e, N.cl, N.n4, C2e _ _ _ _,
       Nat.le_of_lt (V0 (by show 4 <= 1000; decide)), k⟩
   . exact ⟨_, rfl, _, rfl, .inr ⟨bad, k⟩⟩
end
abbrev A7x : Stmt := (top 18)
abbrev G3f : Stmt := (top 19)
abbrev Y1 : Stmt := (top 20)
section
variable {P : Program} {w : World} {K : Frag} {mg : Str -> Option Value} {base : Heap}
def D2w (K : Frag) (CN CB : Addr) : Sp := fun vs H Q E => ∃ x y z, vs = [x, y, z] /\
 ((B2j 0 1 x /\ B2j 0 (10 ^ 60 - 1) y /\ B2j (-200) 200 z /\ ∀ n H', H n = none -> Same H H' -> NumAt CN H' n (.str "plain") x y z -> Q (.ref n) H') \/
  ((C6z K H 0 1 x \/ (B2j 0 1 x /\ (C6z K H 0 (10 ^ 60 - 1) y \/ (B2j 0 (10 ^ 60 - 1) y /\ C6z K H (-200) 200 z)))) /\ E (.ref CB) none H))
theorem Y6p : FnScope ["sign", "figures", "power"] ["sign", "figures", "power"] (A1 A7x) := scK
theorem b01 : B4v 0 1 := by unfold B4v; decide +kernel
theorem b60 : B4v 0 (10 ^ 60 - 1) := by unfold B4v; decide +kernel
theorem Z7b : B4v (-200) 200 := by unfold B4v; decide +kernel
theorem V1f {f f1 f2 fI CN CB : Addr} {fd fd1 fd2 fdI : FuncData} (D : Def K mg "plain" ["sign", "figures", "power"] A7x f fd) (D_need_between : Def K mg "need_between" ["thing", "least", "most"] A0h f1 fd1) (D2 : Def K mg "is_between" ["thing", "least", "most"] C7e f2 fd2)
   (O : Own mg) (T : Kit K) (B : Err K mg "BadNumber" CB) (N : Num K mg CN) (M : MakeN P w K mg base CN fI fdI) : FnOk P w K mg base (CX1 P w) 3 f fd ["sign", "figures", "power"] (D2w K CN CB) := by
 have G_need_between := C2p (P := P) (w := w) (base := base) D_need_between D2 O T B
 refine D.F.okE Y6p (fun vs H Q E h => ?_) (fun X cdv A outer s H vs Q E hX hr hx h => ?_)
 . obtain ⟨x, y, z, rfl, _⟩ := h
   rfl
 . subst hX
   obtain ⟨x, y, z, rfl, h⟩ := h
   refine ⟨_, (A4 (U6 (B9 D_need_between G_need_between hr hx (A0 (pv 0) (A0 A3 (A0 A3 A5)))))
     (A4 (U6 (B9 D_need_between G_need_between hr hx (A0 (pv 1) (A0 A3 (A0 (B3 U1 (B3 V0b A3 A3) A3) A5)))))
     (A4 (U6 (B9 D_need_between G_need_between hr hx (A0 (pv 2) (A0 (D1e B5w A3) (A0 A3 A5)))))
     (A6 (B0 (D3u M.m M.g hr rfl N.g M.b .nil U8j (A0 B5 (A0 (pv 0) (A0 (pv 1) (A0 (pv 2) A5)))))))))), ?_⟩
   have pw : Z3b 10 60 := ⟨by decide, by decide, by decide⟩
   rcases h with ⟨⟨i1, rfl, l1, u1⟩, ⟨i2, rfl, l2, u2⟩, ⟨i3, rfl, l3, u3⟩, k⟩ | ⟨bad, k⟩
   . refine ⟨_, rfl, _, _, _, rfl, b01, .inl ⟨⟨i1, rfl, l1, u1⟩, ?_⟩⟩
     refine ⟨_, rfl, _, _, rfl, rfl, pw, _, _, rfl, rfl, _, _, _, rfl, b60, .inl ⟨⟨i2, rfl, l2, u2⟩, ?_⟩⟩
     refine ⟨_, rfl, _, rfl, _, _, _, rfl, Z7b, .inl ⟨⟨i3, rfl, l3, u3⟩, ?_⟩⟩
     exact ⟨_, rfl, _, rfl, _, rfl, made k⟩
   . rcases bad with bad | ⟨⟨i1, rfl, l1, u1⟩, bad | ⟨⟨i2, rfl, l2, u2⟩, bad⟩⟩
     . exact ⟨_, rfl, _, _, _, rfl, b01, .inr ⟨bad, k⟩⟩
     . refine ⟨_, rfl, _, _, _, rfl, b01, .inl ⟨⟨i1, rfl, l1, u1⟩, ?_⟩⟩
       exact ⟨_, rfl, _, _, rfl, rfl, pw, _, _, rfl, rfl, _, _, _, rfl, b60, .inr ⟨bad, k⟩⟩
     . refine ⟨_, rfl, _, _, _, rfl, b01, .inl ⟨⟨i1, rfl, l1, u1⟩, ?_⟩⟩
       refine ⟨_, rfl, _, _, rfl, rfl, pw, _, _, rfl, rfl, _, _, _, rfl, b60, .inl ⟨⟨i2, rfl, l2, u2⟩, ?_⟩⟩
       exact ⟨_, rfl, _, rfl, _, _, _, rfl, Z7b, .inr ⟨bad, k⟩⟩
def U8w (K : Frag) (CN CB : Addr) : Sp := fun vs H Q E => ∃ x, vs = [x] /\ ((B2j 0 1 x /\ ∀ n H', H n = none -> Same H H' -> NumAt CN H' n (.str "end") x (.int 0) (.int 0) -> Q (.ref n) H') \/ (C6z K H 0 1 x /\ E (.ref CB) none H))
theorem Z8a : FnScope ["sign"] ["sign"] (A1 G3f) := scK
theorem Z1r {f f1 f2 fI CN CB : Addr} {fd fd1 fd2 fdI : FuncData} (D : Def K mg "end" ["sign"] G3f f fd) (D_need_between : Def K mg "need_between" ["thing", "least", "most"] A0h f1 fd1) (D2 : Def K mg "is_between" ["thing", "least", "most"] C7e f2 fd2)
   (O : Own mg) (T : Kit K) (B : Err K mg "BadNumber" CB) (N : Num K mg CN) (M : MakeN P w K mg base CN fI fdI) : FnOk P w K mg base (CX1 P w) 3 f fd ["sign"] (U8w K CN CB) := by
 have G_need_between := C2p (P := P) (w := w) (base := base) D_need_between D2 O T B
 refine D.F.okE Z8a (fun vs H Q E h => ?_) (fun X cdv A outer s H vs Q E hX hr hx h => ?_)
 . obtain ⟨x, rfl, _⟩ := h
   rfl
 . subst hX
   obtain ⟨x, rfl, h⟩ := h
   refine ⟨_, (A4 (U6 (B9 D_need_between G_need_between hr hx (A0 (pv 0) (A0 A3 (A0 A3 A5)))))
     (A6 (B0 (D3u M.m M.g hr rfl N.g M.b .nil U8j (A0 B5 (A0 (pv 0) (A0 A3 (A0 A3 A5)))))))), ?_⟩
   rcases h with ⟨⟨i1, rfl, l1, u1⟩, k⟩ | ⟨bad, k⟩
   . refine ⟨_, rfl, _, _, _, rfl, b01, .inl ⟨⟨i1, rfl, l1, u1⟩, ?_⟩⟩
     exact ⟨_, rfl, made k⟩
   . exact ⟨_, rfl, _, _, _, rfl, b01, .inr ⟨bad, k⟩⟩
def B1n (CN : Addr) : Sp := fun vs H Q _ => vs = [] /\ ∀ n H', H n = none -> Same H H' -> NumAt CN H' n (.str "none") (.int 0) (.int 0) (.int 0) -> Q (.ref n) H'
theorem U1c : FnScope [] [] (A1 Y1) := scK
theorem G9h {f fI CN : Addr} {fd fdI : FuncData} (D : Def K mg "nothing" [] Y1 f fd) (N : Num K mg CN) (M : MakeN P w K mg base CN fI fdI) : FnOk P w K mg base (CX1 P w) 3 f fd [] (B1n CN) := by
 refine D.F.okE U1c (fun vs H Q E h => ?_) (fun X cdv A outer s H vs Q E hX hr hx h => ?_)
 . obtain ⟨rfl, _⟩ := h
   rfl
 . subst hX
   obtain ⟨rfl, k⟩ := h
   refine ⟨_, (A6 (B0 (D3u M.m M.g hr rfl N.g M.b .nil U8j (A0 B5 (A0 A3 (A0 A3 (A0 A3 A5))))))), ?_⟩
   exact made k
end
abbrev C2g : Stmt := (top 22)
section
variable {P : Program} {w : World} {K : Frag} {mg : Str -> Option Value} {base : Heap}
def V0w (CN : Addr) : Sp := fun vs H Q _ => ∃ n k s f p, vs = [.ref n] /\ NumAt CN H n k s (.int f) (.int p) /\ f.natAbs < 2 ^ 300 /\ Q (.int (p + ((Str.ofString (toString f)).length : Nat) - 1)) H
theorem Z2h : FnScope ["number"] ["number"] (A1 C2g) := scK
theorem Y6z {f CN : Addr} {fd : FuncData} (D : Def K mg "lead_of" ["number"] C2g f fd) (O : Own mg) (N : Num K mg CN) : FnOk P w K mg base (CX1 P w) 1 f fd ["number"] (V0w CN) := by
 refine D.F.okE Z2h (fun vs H Q E h => ?_) (fun X cdv A outer s H vs Q E hX hr hx h => ?_)
 . obtain ⟨n, a, b, c, d, rfl, _⟩ := h
   rfl
 . subst hX
   obtain ⟨n, a, b, fg, pw, rfl, ⟨dx, e⟩, hf, k⟩ := h
   refine ⟨_, (A6 (B0 (B3 U1 (B3 J3 (C7 (pv 0) rfl) (J7 D2v (by rfl) O.len_ PySem.boot_len (A0 (A3y D3n (by rfl) O.str_ boot_str (A0 (C7 (pv 0) rfl) A5)) A5))) A3))), ?_⟩
   have lg : fg.natAbs.log2 < 1920 := Nat.lt_trans (A2g hf (by decide)) (by decide)
   exact ⟨_, rfl, n, CN, dx, _, _, rfl, e, N.cl, N.n4, C2e _ _ _ _, _, rfl, n, CN, dx, _, _, rfl, e, N.cl, N.n3, D2h _ _ _ _, _, rfl, lg, _, rfl, int_text_fits lg, _, _, rfl, rfl, _, _, rfl, rfl, k⟩
end
abbrev V5 : Stmt := (top 2)
abbrev Z7 : Stmt := (top 3)
theorem B4z {x k : Nat} (h : x < 2 ^ k) (hk : k <= 1048576) : Builtin.Int.intBits (x : Int) <= 2 ^ 20 := by
 unfold Builtin.Int.intBits
 split
 . exact Nat.zero_le _
 . have z : (x : Int).natAbs ≠ 0 := by
     intro z
     rename_i hz
     exact hz (by simpa using z)
   have : (x : Int).natAbs.log2 < k := (Nat.log2_lt z).mpr h
   have e : (2 : Nat) ^ 20 = 1048576 := by decide
   omega
theorem C3c {b s j n : Nat} (hb : b < 2 ^ s) (hj : j <= n) (hn : n * s < 1048576) : Builtin.Int.intBits ((b ^ j : Nat) : Int) <= 2 ^ 20 := by
 refine B4z (k := n * s + 1) ?_ hn
 have a : b ^ j <= (2 ^ s) ^ j := Nat.pow_le_pow_left (Nat.le_of_lt hb) j
 have c : (2 ^ s) ^ j <= 2 ^ (n * s) := by
   rw [<- Nat.pow_mul, Nat.mul_comm n s]
   exact Nat.pow_le_pow_right (by decide) (Nat.mul_le_mul_left s hj)
 have d : 2 ^ (n * s) < 2 ^ (n * s + 1) := Nat.pow_lt_pow_right (by decide) (by omega)
 exact Nat.lt_of_le_of_lt a (Nat.lt_of_le_of_lt c d)
theorem B6g {b s i j n : Nat} (hb : b < 2 ^ s) (hi : i <= n) (hj : j <= n) (hn : n * s < 1048576) : IntMulOk ((b ^ i : Nat) : Int) ((b ^ j : Nat) : Int) := IntMulOk.of_bits (C3c hb hi hn) (C3c hb hj hn)
section
variable {P : Program} {w : World} {K : Frag} {mg : Str -> Option Value} {base : Heap}
def C0h : Sp := fun vs H Q _ => ∃ b n s : Nat, vs = [.int (b : Int), .int (n : Int)] /\ b < 2 ^ s /\ n * s < 1048576 /\ Q (.int ((b ^ n : Nat) : Int)) H
theorem scProductOf : FnScope ["whole", "count", "product"] ["whole", "count"] (A1 V5) := scK
theorem D2u {f : Addr} {fd : FuncData} (D : Def K mg "product_of" ["whole", "count"] V5 f fd) : FnOk P w K mg base (CX1 P w) 1 f fd ["whole", "count"] C0h := by
 refine FnOk.up (D.F.ok scProductOf (fun vs H Q E h => ?_) (fun cdv A outer s H vs Q E hr h => ?_))
 . obtain ⟨b, n, z, rfl, _⟩ := h
   rfl
 . obtain ⟨b, n, z, rfl, hb, hn, k⟩ := h
   refine ⟨_, (A4 (D0 (i := 2) scProductOf.nd rfl (Or.inl rfl) A3)
     (A4 (B4j PassesOwn.never (C5 J9n (pv 1) A3 (B8 _)) (A4 (G2 (C5 G8 (B3 V6 (pv 1) A3) A3 (B8 _)) (A6 (D0 (i := 2) scProductOf.nd rfl (Or.inl rfl) (B3 D6 (pv 2) (pv 0)))) C8)
     (A4 (D0 (i := 0) scProductOf.nd rfl (Or.inl rfl) (B3 D6 (pv 0) (pv 0)))
     (A6 (D0 (i := 1) scProductOf.nd rfl (Or.inl rfl) (B3 G6 (pv 1) A3))))))
     (A6 (B0 (pv 2))))), ?_⟩
   have d2 : (0 : Int) < 2 /\ (2 : Int).natAbs.log2 < 9000 := ⟨by decide, by decide +kernel⟩
   refine B5a (fun σ H2 => H2 = H /\ ∃ i m c : Nat, m + i * c = n /\ σ = [some (.int ((b ^ i : Nat) : Int)), some (.int (c : Int)), some (.int ((b ^ m : Nat) : Int))]) (fun σ _ => match σ with | [_, some (.int c), _] => c.toNat | _ => 0) ?_ ?_ ?_
   . exact ⟨rfl, 1, 0, n, by omega, by rw [Nat.pow_one]; rfl⟩
   . rintro σ H2 ⟨rfl, i, m, c, hc, rfl⟩
     refine ⟨_, rfl, _, _, rfl, rfl, _, rfl, U3 (fun h0 => ?_) (fun h0 => ?_)⟩
     . have c1 : 1 <= c := by
         have : (0 : Int) < c := h0
         omega
       have hi : i <= n := Nat.le_trans (Nat.le_mul_of_pos_right i c1) (by omega)
       have hm : m <= n := by omega
       have sq : ((b ^ i : Nat) : Int) * ((b ^ i : Nat) : Int) = ((b ^ (2 * i) : Nat) : Int) := by rw [Nat.two_mul, Nat.pow_add]; rfl
       have lt : ((c : Int) / 2).toNat < (c : Int).toNat := by omega
       refine ⟨_, rfl, _, _, rfl, rfl, d2.1, rfl, _, rfl, U3 (fun ho => ?_) (fun he => ?_)⟩
       . have ho : (c : Int) % 2 = 1 := by injection ho
         have mu : ((b ^ m : Nat) : Int) * ((b ^ i : Nat) : Int) = ((b ^ (m + i) : Nat) : Int) := by rw [Nat.pow_add]; rfl
         refine ⟨_, rfl, _, rfl, _, _, rfl, rfl, B6g hb hm hi hn, _, rfl, _, rfl, _, _, rfl, rfl, B6g hb hi hi hn, _, rfl, _, _, rfl, rfl, d2, ⟨rfl, 2 * i, m + i, c / 2, ?_, ?_⟩, lt⟩
         . have e : i * c = i * (2 * (c / 2) + 1) := congrArg (i * ·) (by omega)
           rw [Nat.mul_add, Nat.mul_one, <- Nat.mul_assoc, Nat.mul_comm i 2] at e
           omega
         . show [some (V.int (((b ^ i : Nat) : Int) * ((b ^ i : Nat) : Int))), some (V.int ((c : Int) / 2)), some (V.int (((b ^ m : Nat) : Int) * ((b ^ i : Nat) : Int)))] = _
           rw [sq, mu]
           rfl
       . have he : ¬ (c : Int) % 2 = 1 := fun z => he (congrArg V.int z)
         refine ⟨_, rfl, _, rfl, _, _, rfl, rfl, B6g hb hi hi hn, _, rfl, _, _, rfl, rfl, d2, ⟨rfl, 2 * i, m, c / 2, ?_, ?_⟩, lt⟩
         . have e : i * c = i * (2 * (c / 2)) := congrArg (i * ·) (by omega)
           rw [<- Nat.mul_assoc, Nat.mul_comm i 2] at e
           omega
         . show [some (V.int (((b ^ i : Nat) : Int) * ((b ^ i : Nat) : Int))), some (V.int ((c : Int) / 2)), some (V.int ((b ^ m : Nat) : Int))] = _
           rw [sq]
           rfl
     . have c0 : c = 0 := by
         have : ¬ (0 : Int) < c := h0
         omega
       subst c0
       have hm : m = n := by omega
       subst hm
       exact ⟨_, rfl, k⟩
   . rintro σ H2 Q1 Q2 hQ ⟨v, e, i, j, e1, e2, b, e3, q⟩
     exact ⟨v, e, i, j, e1, e2, b, e3, hQ _ _ q⟩
def A4x : Sp := fun vs H Q _ => ∃ n : Nat, vs = [.int (n : Int)] /\ n <= 4000 /\ Q (.int ((10 ^ n : Nat) : Int)) H
theorem Y6m : FnScope ["count"] ["count"] (A1 Z7) := scK
theorem V1g {f f1 : Addr} {fd fd1 : FuncData} (D : Def K mg "ten_to" ["count"] Z7 f fd) (D_product_of : Def K mg "product_of" ["whole", "count"] V5 f1 fd1) (G_product_of : FnOk P w K mg base (CX1 P w) 1 f1 fd1 ["whole", "count"] C0h) : FnOk P w K mg base (CX1 P w) 2 f fd ["count"] A4x := by
 refine FnOk.up (D.F.ok Y6m (fun vs H Q E h => ?_) (fun cdv A outer s H vs Q E hr h => ?_))
 . obtain ⟨n, rfl, _⟩ := h
   rfl
 . obtain ⟨n, rfl, hn, k⟩ := h
   have hx : D8 (Z9 CX0 P w K mg base ["count"] "ten_to" (A1 Z7) f cdv A outer s H E).nox EKF := J5
   refine ⟨_, (A6 (B0 (B9 D_product_of G_product_of hr hx (A0 A3 (A0 (pv 0) A5))))), ?_⟩
   exact ⟨_, rfl, 10, n, 4, rfl, by decide, by omega, k⟩
end
inductive Kd where
 | plain | end_ | none
def Kd.str : Kd -> Str
 | .plain => "plain"
 | .end_ => "end"
 | .none => "none"
structure Nm where
 k : Kd
 s : Int
 f : Int
 p : Int
def Nm.vs (x : Nm) : List V := [.str x.k.str, .int x.s, .int x.f, .int x.p]
structure Nm.Ok (x : Nm) : Prop where
 s0 : 0 <= x.s
 s1 : x.s <= 1
 f0 : 0 <= x.f
 f1 : x.f <= 10 ^ 60 - 1
 p0 : -200 <= x.p
 p1 : x.p <= 200
def NumIs (CN : Addr) (H : Hp) (n : Addr) (x : Nm) : Prop := NumAt CN H n (.str x.k.str) (.int x.s) (.int x.f) (.int x.p)
theorem NumIs.same {CN : Addr} {H H' : Hp} {n : Addr} {x : Nm} (h : NumIs CN H n x) (e : Same H H') : NumIs CN H' n x := NumAt.same h e
structure NumsAt (CN : Addr) (H : Hp) (l : Addr) (ns : List (Addr × Nm)) : Prop where
 l : H l = some (.lst (ns.map fun p => V.ref p.1))
 n : ∀ p ∈ ns, NumIs CN H p.1 p.2
def A2 (n : Int) : Int := ((10 ^ n.toNat : Nat) : Int)
theorem C4 (n : Int) : 0 < A2 n := Int.natCast_pos.mpr (Nat.pow_pos (by decide))
structure Nm.Bg (x : Nm) : Prop where
 f0 : 0 <= x.f
 f1 : x.f < A2 120
 p0 : -400 <= x.p
 p1 : x.p <= 400
abbrev A5c : Stmt := (top 24)
abbrev A5j : Stmt := (top 25)
section
variable {P : Program} {w : World} {K : Frag} {mg : Str -> Option Value} {base : Heap}
def G3p (K : Frag) (CN CB : Addr) : Sp := fun vs H Q E => ∃ l ns, vs = [.ref l] /\ (∀ p ∈ (ns : List (Addr × Nm)), NumIs CN H p.1 p.2) /\
 ((H l = some (.lst (ns.map fun p => V.ref p.1)) /\ Q .non H) \/ (∃ v r, H l = some (.lst ((ns.map fun p => V.ref p.1) ++ v :: r)) /\ G8k K CN H v /\ E (.ref CB) none H))
theorem scNeedNs : FnScope ["things", "thing"] ["things"] (A1 A5c) := scK
theorem U2k {f f1 CN CB : Addr} {fd fd1 : FuncData} (D : Def K mg "need_numbers" ["things"] A5c f fd) (D_need_number : Def K mg "need_number" ["thing"] A3n f1 fd1) (G_need_number : FnOk P w K mg base (CX1 P w) 1 f1 fd1 ["thing"] (C0z K CN CB)) : FnOk P w K mg base (CX1 P w) 2 f fd ["things"] (G3p K CN CB) := by
 refine D.F.okE scNeedNs (fun vs H Q E h => ?_) (fun X cdv A outer s H vs Q E hX hr hx h => ?_)
 . obtain ⟨l, ns, rfl, _⟩ := h
   rfl
 . subst hX
   obtain ⟨l, ns, rfl, hn, h⟩ := h
   refine ⟨_, (A6 (C2j PassesOwn.leaving rfl (C0y (pv 0)) (U5 (i := 1) scNeedNs.nd rfl (Or.inl rfl)) (A6 (U6 (B9 D_need_number G_need_number hr hx (A0 (pv 1) A5)))))), ?_⟩
   rcases h with ⟨hl, k⟩ | ⟨v, r, hl, nv, k⟩
   . refine ⟨_, rfl, l, rfl, ⟨_, SqL.of hl⟩, A8a (xs := ns.map fun p => V.ref p.1) (fun i σ H' => H' = H /\ ∃ v, σ = [some (.ref l), v]) ⟨rfl, none, rfl⟩ ?_ ?_ ?_⟩
     . rintro i σ H' _ ⟨rfl, _⟩
       exact SqL.of hl
     . rintro i x σ H' hi ⟨rfl, v, rfl⟩
       obtain ⟨p, hp, rfl⟩ := List.mem_map.mp (List.mem_of_getElem? hi)
       exact ⟨_, rfl, _, rfl, .inl ⟨p.1, _, _, _, _, rfl, hn p hp, rfl, _, rfl⟩⟩
     . rintro σ H' ⟨rfl, v, rfl⟩
       exact k
   . refine ⟨_, rfl, l, rfl, ⟨_, SqL.of hl⟩, A8a (xs := (ns.map fun p => V.ref p.1) ++ v :: r) (fun i σ H' => H' = H /\ i <= ns.length /\ ∃ v, σ = [some (.ref l), v]) ⟨rfl, Nat.zero_le _, none, rfl⟩ ?_ ?_ ?_⟩
     . rintro i σ H' _ ⟨rfl, _⟩
       exact SqL.of hl
     . rintro i x σ H' hi ⟨rfl, hle, u, rfl⟩
       by_cases hlt : i < ns.length
       . rw [List.getElem?_append_left (by simpa using hlt)] at hi
         obtain ⟨p, hp, rfl⟩ := List.mem_map.mp (List.mem_of_getElem? hi)
         exact ⟨_, rfl, _, rfl, .inl ⟨p.1, _, _, _, _, rfl, hn p hp, rfl, by omega, _, rfl⟩⟩
       . have e : i = ns.length := by omega
         subst e
         rw [List.getElem?_append_right (by simp)] at hi
         simp at hi
         subst hi
         exact ⟨_, rfl, _, rfl, .inr ⟨nv, k⟩⟩
     . rintro σ H' ⟨rfl, hle, _⟩
       exfalso
       rw [List.length_append, List.length_map, List.length_cons] at hle
       omega
def C1a (CN : Addr) : Sp := fun vs H Q _ => ∃ l ns z, vs = [.ref l, .str z] /\ NumsAt CN H l ns /\ ns.length <= 1000 /\ ∀ H', Same H H' -> Q (.bl (ns.any fun p => decide (p.2.k.str = z))) H'
theorem Y5u : FnScope ["numbers", "kind"] ["numbers", "kind"] (A1 A5j) := scK
theorem Z1b (ns : List (Addr × Nm)) (z : Str) : (ns.map fun p => decide (p.2.k.str = z)).any id = ns.any fun p => decide (p.2.k.str = z) := by rw [List.any_map]; rfl
theorem dec_str {a b : Str} : decide (V.str a = V.str b) = decide (a = b) := by
 by_cases h : a = b
 . rw [decide_eq_true h, decide_eq_true (congrArg V.str h)]
 . rw [decide_eq_false h, decide_eq_false fun q => h (by injection q)]
theorem U8b {f CN : Addr} {fd : FuncData} (D : Def K mg "some_of_kind" ["numbers", "kind"] A5j f fd) (O : Own mg) (N : Num K mg CN) : FnOk P w K mg base (CX1 P w) 1 f fd ["numbers", "kind"] (C1a CN) := by
 refine FnOk.up (D.F.ok Y5u (fun vs H Q E h => ?_) (fun cdv A outer s H vs Q E hr h => ?_))
 . obtain ⟨l, ns, z, rfl, _⟩ := h
   rfl
 . obtain ⟨l, ns, z, rfl, ⟨hl, hn⟩, hz, k⟩ := h
   refine ⟨_, (A6 (B0 (J7 (U7z hr.hd) (by rfl) O.any_ boot_any (A0 (U0e (N := ["number"]) (F := ["kind"]) (js := [1]) (CompScopeF.of1 ⟨rfl, by decide +kernel, by decide +kernel, by decide +kernel, by decide +kernel⟩ (by rfl) (by rfl) ⟨_, by rfl⟩ (by rfl) (by rfl)) (.inl hr.hd) (V0h (pv 0)) rfl (fun C s₀ H₀ ex pn h => U5 (i := 0) (by decide +kernel : (["number", "kind"] : List Str).Nodup) rfl (Or.inl rfl)) (fun C s₀ H₀ ex pn h => (G3 G8 (Y7p (K := K) rfl (pv 0) rfl) (pv 1) (B8 _)))) A5)))), ?_⟩
   refine ⟨_, rfl, l, rfl, ⟨_, SqL.of hl⟩, U0t (J := Itl K l) (n := ns.length) (fun i y _ => ∃ p, ns[i]? = some p /\ y = .bl (decide (p.2.k.str = z))) hz (fun _ _ _ _ _ _ h _ _ => h) (fun i H2 Qy hi sm hy => ⟨⟨_, V.ref ns[i].1, SqL.of (sm _ _ hl), by simp [hi]⟩, fun x H3 yl => ?_⟩) (fun H2 sm => ⟨_, SqL.of (sm _ _ hl), by simp⟩) (fun D H' ys sm nD eD hlen hR => ?_)⟩
   . obtain ⟨rfl, yl⟩ := yl
     have ex : x = V.ref ns[i].1 := by
       have := yl _ (SqL.of (sm _ _ hl))
       simp [hi] at this
       exact this.symm
     subst ex
     obtain ⟨dx, e⟩ := (hn _ (List.getElem_mem hi)).same sm
     refine ⟨_, rfl, ns[i].1, CN, dx, _, _, rfl, e, N.cl, N.n1, U1d _ _ _ _, _, rfl, rfl, hy _ _ (Same.refl _) ⟨ns[i], by simp [hi], ?_⟩⟩
     rw [dec_str]
   . have ey : ys = (ns.map fun p => decide (p.2.k.str = z)).map V.bl := by
       apply List.ext_getElem?
       intro i
       by_cases hi : i < ns.length
       . obtain ⟨p, hp, hy⟩ := hR i ys[i] (by simp [hlen, hi])
         rw [List.getElem?_eq_getElem (by omega), hy]
         simp [hp]
       . rw [List.getElem?_eq_none (by omega), List.getElem?_eq_none (by simp; omega)]
     subst ey
     refine ⟨D, _, rfl, SqL.of eD, ?_⟩
     rw [Z1b]
     exact k H' sm
theorem Nm.Ok.bits {x : Nm} (h : x.Ok) : Builtin.Int.intBits x.f <= 2 ^ 20 := by
 obtain ⟨n, hn⟩ := Int.eq_ofNat_of_zero_le h.f0
 rw [hn]
 refine B4z (k := 200) ?_ (by decide)
 have := h.f1
 have e : ((10 ^ 60 : Nat) : Int) = 10 ^ 60 := by decide +kernel
 have : n < 10 ^ 60 := by omega
 exact Nat.lt_trans this (by decide +kernel)
theorem U2n {d : Int} (h : d <= 4000) : Builtin.Int.intBits (A2 d) <= 2 ^ 20 := C3c (b := 10) (s := 4) (n := 4000) (by decide) (by omega) (by decide)
end
section
variable {P : Program} {w : World} {K : Frag} {mg : Str -> Option Value} {base : Heap}
end
def A2q (left low : Int) : Int := (if decide (0 < left) = true then 1 else 0) + (if decide (low <= 2 * left) = true then 1 else 0) + (if decide (low < 2 * left) = true then 1 else 0)
theorem Y5m (s : Int) : (if (0 : Int) > s then 0 else s) = ((s.toNat : Nat) : Int) := by
 by_cases h : (0 : Int) > s
 . rw [if_pos h]; omega
 . rw [if_neg h]; omega
def A3z (t b s : Int) : Prop := b * A2 (-s) <= t * A2 s /\ t * A2 s < 10 * (b * A2 (-s))
theorem A2h {s r : Int} (h : s <= r) : A2 r * A2 (-s) = A2 s * A2 (-r) * A2 (r - s) := by
 unfold A2
 rw [<- Int.natCast_mul, <- Int.natCast_mul, <- Int.natCast_mul, <- Nat.pow_add, <- Nat.pow_add, <- Nat.pow_add]
 congr 2
 omega
theorem Y6f {d : Int} (h : 1 <= d) : 10 <= A2 d := by
 unfold A2
 have : 10 ^ 1 <= 10 ^ d.toNat := Nat.pow_le_pow_right (by decide) (by omega)
 omega
theorem G9 {a b : Int} (h : a <= b) : A2 a <= A2 b := by
 unfold A2
 exact Int.ofNat_le.mpr (Nat.pow_le_pow_right (by decide) (by omega))
theorem J8t {t b s r : Int} (hb : 0 < b) (h1 : A3z t b s) (h2 : A3z t b r) : r <= s := by
 apply Classical.byContradiction
 intro h
 have hs : s <= r := by omega
 have c := A2h hs
 have g := Y6f (d := r - s) (by omega)
 have p1 := C4 (-s)
 have p2 := C4 (-r)
 have l1 : 0 < b * A2 (-s) := Int.mul_pos hb p1
 have l2 : 0 < b * A2 (-r) := Int.mul_pos hb p2
 have e : t * A2 r * (b * A2 (-s)) = t * A2 s * (b * A2 (-r)) * A2 (r - s) := by
   calc t * A2 r * (b * A2 (-s)) = t * b * (A2 r * A2 (-s)) := by ac_rfl
     _ = t * b * (A2 s * A2 (-r) * A2 (r - s)) := by rw [c]
     _ = t * A2 s * (b * A2 (-r)) * A2 (r - s) := by ac_rfl
 have a1 : t * A2 r * (b * A2 (-s)) < 10 * (b * A2 (-r)) * (b * A2 (-s)) := Int.mul_lt_mul_of_pos_right h2.2 l1
 have hp : 0 < t * A2 s := Int.lt_of_lt_of_le l1 h1.1
 have a2 : t * A2 s * (b * A2 (-r)) * 10 <= t * A2 s * (b * A2 (-r)) * A2 (r - s) := Int.mul_le_mul_of_nonneg_left g (Int.le_of_lt (Int.mul_pos hp l2))
 have a3 : b * A2 (-s) * (b * A2 (-r)) <= t * A2 s * (b * A2 (-r)) := Int.mul_le_mul_of_nonneg_right h1.1 (Int.le_of_lt l2)
 have e2 : 10 * (b * A2 (-r)) * (b * A2 (-s)) = b * A2 (-s) * (b * A2 (-r)) * 10 := by ac_rfl
 have a4 : b * A2 (-s) * (b * A2 (-r)) * 10 <= t * A2 s * (b * A2 (-r)) * 10 := Int.mul_le_mul_of_nonneg_right a3 (by decide)
 rw [e] at a1
 rw [e2] at a1
 exact absurd (Int.lt_of_lt_of_le a1 (Int.le_trans a4 a2)) (Int.lt_irrefl _)
theorem Y6w {t b s r : Int} (hb : 0 < b) (h1 : A3z t b s) (h2 : A3z t b r) : s = r := Int.le_antisymm (J8t hb h2 h1) (J8t hb h1 h2)
def Sz (t : Int) : Prop := 1 <= t /\ t < A2 1000
theorem J8k (n : Nat) : 10 ^ n <= 2 ^ (4 * n) := by
 rw [Nat.pow_mul]
 exact Nat.pow_le_pow_left (by decide) n
theorem U9t (n : Nat) : 10 ^ (3 * n) <= 2 ^ (10 * n) := by
 rw [Nat.pow_mul, Nat.pow_mul]
 exact Nat.pow_le_pow_left (by decide) n
theorem Sz.nat {t : Int} (h : Sz t) : ∃ n : Nat, t = (n : Int) /\ 1 <= n /\ n < 10 ^ 1000 := by
 obtain ⟨n, rfl⟩ := Int.eq_ofNat_of_zero_le (show 0 <= t by have := h.1; omega)
 exact ⟨n, rfl, Int.ofNat_le.mp h.1, Int.ofNat_lt.mp h.2⟩
theorem D3j {t s : Int} (ht : Sz t) (h : s <= 1500) : ∃ n : Nat, t * A2 s = (n : Int) /\ n < 10 ^ 2502 := by
 obtain ⟨n, rfl, _, hn⟩ := ht.nat
 refine ⟨n * 10 ^ s.toNat, rfl, ?_⟩
 have a : 10 ^ s.toNat <= 10 ^ 1502 := Nat.pow_le_pow_right (by decide) (by omega)
 calc n * 10 ^ s.toNat <= n * 10 ^ 1502 := Nat.mul_le_mul_left n a
   _ < 10 ^ 1000 * 10 ^ 1502 := Nat.mul_lt_mul_of_pos_right hn (Nat.pow_pos (by decide))
   _ = 10 ^ 2502 := by rw [<- Nat.pow_add]
theorem G3t {n : Nat} (h : n < 10 ^ 2502) : Builtin.Int.intBits (n : Int) <= 2 ^ 20 := B4z (k := 4 * 2502) (Nat.lt_of_lt_of_le h (J8k 2502)) (by decide)
theorem Y7e {t : Int} (h : Sz t) : Builtin.Int.intBits t <= 2 ^ 20 := by
 obtain ⟨n, rfl, _, hn⟩ := h.nat
 exact B4z (k := 4 * 1000) (Nat.lt_of_lt_of_le hn (J8k 1000)) (by decide)
theorem V0s {t s : Int} (ht : Sz t) (h : s <= 1500) : IntMulOk t (A2 s) := IntMulOk.of_bits (Y7e ht) (U2n (by omega))
theorem Z2s {b s : Int} (hb : Sz b) (h : s <= 1500) : (b * A2 s).natAbs.log2 < 9000 := by
 obtain ⟨n, e, hn⟩ := D3j hb h
 rw [e]
 have : n < 2 ^ 8340 := Nat.lt_of_lt_of_le hn (U9t 834)
 exact Nat.lt_trans (A2g (i := (n : Int)) (k := 8340) (by rw [Int.natAbs_natCast]; exact this) (by decide)) (by decide)
def whI (t b s : Int) : Int := t * A2 s / (b * A2 (-s))
def ptI (t b s : Int) : Int := A2q (t * A2 s - whI t b s * (b * A2 (-s))) (b * A2 (-s))
theorem Y5y {t b s : Int} (hb : 0 < b) : 0 <= t * A2 s - whI t b s * (b * A2 (-s)) /\ t * A2 s - whI t b s * (b * A2 (-s)) < b * A2 (-s) := by
 have l := Int.mul_pos hb (C4 (-s))
 have e := Int.emod_add_mul_ediv (t * A2 s) (b * A2 (-s))
 have a := Int.emod_nonneg (t * A2 s) (Int.ne_of_gt l)
 have c := Int.emod_lt_of_pos (t * A2 s) l
 have e2 : whI t b s * (b * A2 (-s)) = b * A2 (-s) * (t * A2 s / (b * A2 (-s))) := Int.mul_comm _ _
 omega
theorem Z7q {t b s : Int} (ht : Sz t) (hb : Sz b) (h1 : -1500 <= s) (h2 : s <= 1500) : IntMulOk (whI t b s) (b * A2 (-s)) := by
 obtain ⟨n, e, hn⟩ := D3j hb (s := -s) (by omega)
 obtain ⟨k, e', hk⟩ := D3j ht h2
 unfold whI
 rw [e, e']
 exact IntMulOk.of_bits (G3t (Nat.lt_of_le_of_lt (Nat.div_le_self k n) hk)) (G3t hn)
abbrev A5a : Stmt := (D5 (top 6) 0)
structure RatC (K : Frag) (mg : Str -> Option Value) (CR CE : Addr) : Prop where
 g : mg "Ratio" = some (.ref CR)
 ge : mg "Exact" = some (.ref CE)
 cl : Cls K CR
 n_top : NoAttr K CR "top"
 n_bottom : NoAttr K CR "bottom"
 n_power : NoAttr K CR "power"
 ca : findIn K (.ref CR) "__class__" = some (some (.builtin "object.__class__"))
 sn : specialIn K (.builtin "object.__class__") "__get__" = some (some (.builtin "getset_descriptor.__get__"))
 tk : takesIn K (.builtin "object.__class__") = some true
 ob : mroIn K CR (.type "object") = some true
 up : kitOne K (.ref CR) (.ref CE) = some true
def D2y (t b n : V) : List (Str × V) := J0 "power" n (J0 "bottom" b (J0 "top" t []))
theorem C2r (t b n : V) (x : Str) : (D2y t b n).lookup x = if x = "power" then some n else if x = "bottom" then some b else if x = "top" then some t else none := by
 unfold D2y
 rw [C9, C9, C9]
 rfl
theorem J9c (t b n : V) : (D2y t b n).lookup ("top" : Str) = some t := by rw [C2r, if_neg (by decide +kernel), if_neg (by decide +kernel), if_pos rfl]
theorem C2t (t b n : V) : (D2y t b n).lookup ("bottom" : Str) = some b := by rw [C2r, if_neg (by decide +kernel), if_pos rfl]
theorem D0x (t b n : V) : (D2y t b n).lookup ("power" : Str) = some n := by rw [C2r, if_pos rfl]
theorem D2g (t b n : V) : (D2y t b n).lookup ("first" : Str) = none := by rw [C2r, if_neg (by decide +kernel), if_neg (by decide +kernel), if_neg (by decide +kernel)]
theorem D1g (t b n : V) : (D2y t b n).lookup ("at" : Str) = none := by rw [C2r, if_neg (by decide +kernel), if_neg (by decide +kernel), if_neg (by decide +kernel)]
def RatAt (CR : Addr) (H : Hp) (x : Addr) (t b n : Int) : Prop := ∃ dx, H x = some (.ins CR dx (D2y (.int t) (.int b) (.int n)))
theorem RatAt.same {CR : Addr} {H H' : Hp} {x : Addr} {t b n : Int} (h : RatAt CR H x t b n) (s : Same H H') : RatAt CR H' x t b n := by
 obtain ⟨dx, e⟩ := h
 exact ⟨dx, s _ _ e⟩
section
variable {P : Program} {w : World} {K : Frag} {mg : Str -> Option Value} {base : Heap}
def D2p (CR : Addr) : Sp := fun vs H Q _ => ∃ (p dx : Addr) (t b n : V), vs = [.ref p, t, b, n] /\ H p = some (.ins CR dx []) /\ ∀ H', H' p = some (.ins CR dx (D2y t b n)) -> Exc p H H' -> Q .non H'
theorem Y7b : FnScope ["self", "top", "bottom", "power"] ["self", "top", "bottom", "power"] (A1 A5a) := scK
theorem U8t {f CR CE : Addr} {fd : FuncData} {dV : Value} (F : FunD K "__init__" "Ratio.__init__" A5a dV f fd) (R : RatC K mg CR CE) : FnOk P w K mg base (CX1 P w) 1 f fd ["self", "top", "bottom", "power"] (D2p CR) := by
 refine F.okE Y7b (fun vs H Q E h => ?_) (fun X cdv A outer s H vs Q E hX hr hx h => ?_)
 . obtain ⟨p, dx, a, b, c, rfl, _⟩ := h
   rfl
 . subst hX
   obtain ⟨p, dx, a, b, c, rfl, hp, k⟩ := h
   refine ⟨_, (A4 (V1 (pv 0) (pv 1) rfl)
     (A4 (V1 (pv 0) (pv 2) rfl)
     (A6 (V1 (pv 0) (pv 3) rfl)))), ?_⟩
   have l : ∀ (fs : List (Str × V)) (f : Str) (v : V) (n : Nat), fs.length <= n -> (J0 f v fs).length <= n + 1 := fun fs f v n h => Nat.le_trans (V8 f v fs) (Nat.succ_le_succ h)
   refine ⟨_, rfl, _, rfl, p, CR, dx, [], rfl, hp, R.cl, R.n_top, (by show 0 < 1000; decide), ?_⟩
   refine ⟨_, rfl, _, rfl, p, CR, dx, _, rfl, A7, R.cl, R.n_bottom, Nat.lt_of_le_of_lt (l _ _ _ 0 (Nat.le_refl _)) (by decide), ?_⟩
   refine ⟨_, rfl, _, rfl, p, CR, dx, _, rfl, A7, R.cl, R.n_power, Nat.lt_of_le_of_lt (l _ _ _ 1 (l _ _ _ 0 (Nat.le_refl _))) (by decide), ?_⟩
   refine k _ A7 fun b o e hb => ?_
   rw [C0 hb, C0 hb, C0 hb]
   exact e
def A3x (CR : Addr) : Sp := fun vs H Q _ => ∃ x t b n, vs = [.ref x] /\ RatAt CR H x t b n /\ Sz t /\ Sz b /\ ∀ f H', Same H H' -> A3z t b (n - f) -> Q (.int f) H'
def C1m (CR : Addr) : Sp := fun vs H Q _ => ∃ x t b n p, vs = [.ref x, .int p] /\ RatAt CR H x t b n /\ Sz t /\ Sz b /\ -1500 <= n - p /\ n - p <= 1500 /\
 ∀ q H', Same H H' -> H q = none -> H' q = some (.tup [.int (whI t b (n - p)), .int (ptI t b (n - p))]) -> Q (.ref q) H'
structure MakeR (P : Program) (w : World) (K : Frag) (mg : Str -> Option Value) (base : Heap) (CR fI : Addr) (fdI : FuncData) (d0 : Value) (gP : List Value -> List Value -> List Value) (vP : List V -> List V -> List V) : Prop where
 m : Mk K CR fI
 g : FnOk P w K mg base (CX1 P w) 1 fI fdI ["self", "top", "bottom", "power"] (D2p CR)
 b3 : Binds K fdI ["self", "top", "bottom", "power"] []
 b2 : Binds K fdI ["self", "top", "bottom", "power"] [d0]
 r0 : RelV (.int 0) d0
 kP : KBinds K fdI ["self", "top", "bottom", "power"] ["power"] gP vP
 eP : ∀ x a b c, vP [x, a, b] [c] = [x, a, b, c]
structure RatM (P : Program) (w : World) (K : Frag) (mg : Str -> Option Value) (base : Heap) (CR f1 f2 : Addr) (fd1 fd2 : FuncData) : Prop where
 m1 : Meth K CR "first" f1
 g1 : FnOk P w K mg base (CX1 P w) 4 f1 fd1 ["self"] (A3x CR)
 b1 : Binds K fd1 ["self"] []
 m2 : Meth K CR "at" f2
 g2 : FnOk P w K mg base (CX1 P w) 3 f2 fd2 ["self", "power"] (C1m CR)
 b2 : Binds K fd2 ["self", "power"] []
theorem Z6v {CR x dx : Addr} {H : Hp} {Q : VK} {E : XK} {t b n : Int} (n1 : H x = none) (n2 : H dx = none) (ne : dx ≠ x) (k : ∀ H', Same H H' -> RatAt CR H' x t b n -> Q .non H') :
   D2p CR [.ref x, .int t, .int b, .int n] (upd (upd H dx (.own x)) x (.ins CR dx [])) Q E :=
 ⟨x, dx, _, _, _, rfl, A7, fun H' e s => k H' (fun c o z => s c o (by rw [C0 (B7 z n1), C0 (B7 z n2)]; exact z) (B7 z n1)) ⟨dx, e⟩⟩
end
abbrev A2w : Stmt := (top 8)
section
variable {P : Program} {w : World} {K : Frag} {mg : Str -> Option Value} {base : Heap}
def C2n : Sp := fun vs H Q _ => ∃ l m : Int, vs = [.int (2 * l), .int m] /\ 0 <= l /\ 0 < m /\ Q (.int (A2q l m)) H
theorem U8v : FnScope ["size", "middle"] ["size", "middle"] (A1 A2w) := scK
theorem Y5w {m : Int} (hm : 0 < m) : A2q 0 m = 0 := by
 unfold A2q
 rw [decide_eq_false (by omega : ¬ (0 : Int) < 0), decide_eq_false (by omega : ¬ m <= 2 * 0), decide_eq_false (by omega : ¬ m < 2 * 0)]
 rfl
theorem Y4r {l m : Int} (hl : 0 < l) (h : 2 * l < m) : A2q l m = 1 := by
 unfold A2q
 rw [decide_eq_true hl, decide_eq_false (by omega : ¬ m <= 2 * l), decide_eq_false (by omega : ¬ m < 2 * l)]
 rfl
theorem Y7j {l m : Int} (hl : 0 < l) (h : 2 * l = m) : A2q l m = 2 := by
 unfold A2q
 rw [decide_eq_true hl, decide_eq_true (by omega : m <= 2 * l), decide_eq_false (by omega : ¬ m < 2 * l)]
 rfl
theorem Y7h {l m : Int} (hl : 0 < l) (h : m < 2 * l) : A2q l m = 3 := by
 unfold A2q
 rw [decide_eq_true hl, decide_eq_true (by omega : m <= 2 * l), decide_eq_true h]
 rfl
theorem U0h {f : Addr} {fd : FuncData} (D : Def K mg "part_of" ["size", "middle"] A2w f fd) : FnOk P w K mg base (CX1 P w) 1 f fd ["size", "middle"] C2n := by
 refine FnOk.up (D.F.ok U8v (fun vs H Q E h => ?_) (fun cdv A outer s H vs Q E hr h => ?_))
 . obtain ⟨l, m, rfl, _⟩ := h
   rfl
 . obtain ⟨l, m, rfl, hl, hm, k⟩ := h
   refine ⟨_, (A4 (G2 (C5 G8 (pv 0) A3 (B8 _)) (A6 (B0 A3)) C8)
     (A4 (G2 (C5 B4t (pv 0) (pv 1) (B8 _)) (A6 (B0 A3)) C8)
     (A6 (B0 (A1y (C5 G8 (pv 0) (pv 1) (B8 _)) A3 A3))))), ?_⟩
   refine ⟨_, rfl, rfl, _, rfl, U3 (fun h0 => ?_) (fun h0 => ?_)⟩
   . have e : l = 0 := by
       have : 2 * l = 0 := by injection h0
       omega
     subst e
     rw [Y5w hm] at k
     exact k
   . have hl' : 0 < l := by
       apply Classical.byContradiction
       intro z
       exact h0 (by rw [show l = 0 by omega]; rfl)
     refine ⟨_, rfl, _, rfl, _, _, rfl, rfl, _, rfl, U3 (fun h1 => ?_) (fun h1 => ?_)⟩
     . rw [Y4r hl' h1] at k
       exact k
     . refine ⟨_, rfl, _, rfl, rfl, _, rfl, U3 (fun h2 => ?_) (fun h2 => ?_)⟩
       . rw [Y7j hl' (by injection h2)] at k
         exact k
       . rw [Y7h hl' (by
           have : 2 * l ≠ m := fun z => h2 (by rw [z])
           omega)] at k
         exact k
end
abbrev A3q : Stmt := (top 9)
theorem G8t (k : Nat) : 10 ^ (k * 301029995 / 10 ^ 9) <= 2 ^ k := by
 have hm : k * 301029995 / 10 ^ 9 * 28738 <= k * 8651 := by
   have : k * 301029995 / 10 ^ 9 * 10 ^ 9 <= k * 301029995 := Nat.div_mul_le_self _ _
   omega
 generalize k * 301029995 / 10 ^ 9 = m at hm
 have c : (10 : Nat) ^ 8651 <= 2 ^ 28738 := by decide +kernel
 have a : (10 ^ m) ^ 8651 <= (2 ^ k) ^ 8651 := by
   calc (10 ^ m) ^ 8651 = (10 ^ 8651) ^ m := by rw [<- Nat.pow_mul, <- Nat.pow_mul, Nat.mul_comm]
     _ <= (2 ^ 28738) ^ m := Nat.pow_le_pow_left c m
     _ = 2 ^ (m * 28738) := by rw [<- Nat.pow_mul, Nat.mul_comm]
     _ <= 2 ^ (k * 8651) := Nat.pow_le_pow_right (by decide) hm
     _ = (2 ^ k) ^ 8651 := by rw [<- Nat.pow_mul]
 exact (Nat.pow_le_pow_iff_left (by decide)).mp a
section
variable {P : Program} {w : World} {K : Frag} {mg : Str -> Option Value} {base : Heap}
def C0x : Sp := fun vs H Q _ => ∃ n : Nat, vs = [.int (n : Int)] /\ 1 <= n /\ n < 10 ^ 3000 /\ ∀ L : Nat, 10 ^ L <= n -> n < 10 ^ (L + 1) -> Q (.int (L : Int)) H
theorem scWLead : FnScope ["whole", "lead", "beyond"] ["whole"] (A1 A3q) := scK
theorem U9v {f f1 : Addr} {fd fd1 : FuncData} (D : Def K mg "whole_lead" ["whole"] A3q f fd) (D_ten_to : Def K mg "ten_to" ["count"] Z7 f1 fd1) (G_ten_to : FnOk P w K mg base (CX1 P w) 2 f1 fd1 ["count"] A4x) : FnOk P w K mg base (CX1 P w) 3 f fd ["whole"] C0x := by
 refine FnOk.up (D.F.ok scWLead (fun vs H Q E h => ?_) (fun cdv A outer s H vs Q E hr h => ?_))
 . obtain ⟨n, rfl, _⟩ := h
   rfl
 . obtain ⟨n, rfl, n1, n2, k⟩ := h
   have hx : D8 (Z9 CX0 P w K mg base ["whole", "lead", "beyond"] "whole_lead" (A1 A3q) f cdv A outer s H E).nox EKF := J5
   refine ⟨_, (A4 (C6 (D0 (i := 1) scWLead.nd rfl (Or.inl rfl) (B3 G6 (B3 D6 (B3 U1 (Z3a PySem.F.plainAttrs_int PySem.F.slot_int_bit_length PySem.F.type_int_bit_length C7a (pv 0)) A3) A3) (B3 V0b A3 A3))))
     (A4 (C6 (D0 (i := 2) scWLead.nd rfl (Or.inl rfl) (B9 D_ten_to G_ten_to hr hx (A0 (B3 J3 (pv 1) A3) A5))))
     (A4 (C6 (B4j PassesOwn.never (C5 Z0q (pv 2) (pv 0) (B8 _)) (A4 (Z1n (i := 1) scWLead.nd rfl (Or.inl rfl) A3 Z3f)
     (A6 (D0 (i := 2) scWLead.nd rfl (Or.inl rfl) (B3 D6 (pv 2) A3))))))
     (A6 (B0 (pv 1)))))), ?_⟩
   have mC : ∀ z n : Int, -(2 ^ 64) < n -> n < 2 ^ 64 -> IntMulOk z n := fun z n a b => CMul.ok (.inr ⟨a, b⟩)
   have pw : Z3b 10 9 := ⟨by decide, by decide, by decide⟩
   have l3 : ∀ {L : Nat}, 10 ^ L <= n -> L < 3000 := fun hL => (Nat.pow_lt_pow_iff_right (by decide : 1 < 10)).mp (Nat.lt_of_le_of_lt hL n2)
   refine ⟨fun σ H' => H' = H /\ ∃ L : Nat, 10 ^ L <= n /\ σ = [some (.int (n : Int)), some (.int (L : Int)), none], ?_, ?_⟩
   . refine ⟨_, rfl, rfl, _, rfl, rfl, _, _, rfl, rfl, _, _, rfl, rfl, mC _ _ (by decide) (by decide), _, _, rfl, rfl, pw, _, _, rfl, rfl, ⟨by decide, by decide +kernel⟩, rfl, n.log2 * 301029995 / 10 ^ 9, ?_, ?_⟩
     . exact Nat.le_trans (G8t _) (Nat.log2_self_le (by omega))
     . have e : (Builtin.Int.intBits (n : Int) : Nat) = n.log2 + 1 := by
         unfold Builtin.Int.intBits
         rw [if_neg (by simp; omega)]
         rfl
       show [some (V.int (n : Int)), some (V.int ((((Builtin.Int.intBits (n : Int) : Nat) : Int) - 1) * 301029995 / (10 ^ Int.toNat 9 : Int))), none] = _
       rw [e, show ((n.log2 + 1 : Nat) : Int) - 1 = (n.log2 : Int) by omega]
       rfl
   rintro σ H' ⟨rfl, L0, hL0, rfl⟩
   refine ⟨fun σ H2 => H2 = H' /\ ∃ L : Nat, 10 ^ L <= n /\ σ = [some (.int (n : Int)), some (.int (L : Int)), some (.int ((10 ^ (L + 1) : Nat) : Int))], ?_, ?_⟩
   . have := l3 hL0
     exact ⟨_, rfl, _, _, rfl, rfl, L0 + 1, rfl, by omega, rfl, L0, hL0, rfl⟩
   rintro σ H2 ⟨rfl, L1, hL1, rfl⟩
   refine ⟨fun σ H3 => H3 = H2 /\ ∃ L : Nat, 10 ^ L <= n /\ n < 10 ^ (L + 1) /\ σ = [some (.int (n : Int)), some (.int (L : Int)), some (.int ((10 ^ (L + 1) : Nat) : Int))], ?_, ?_⟩
   . refine B5a (fun σ H3 => H3 = H2 /\ ∃ L : Nat, 10 ^ L <= n /\ σ = [some (.int (n : Int)), some (.int (L : Int)), some (.int ((10 ^ (L + 1) : Nat) : Int))]) (fun σ _ => match σ with | [_, some (.int c), _] => n - c.toNat | _ => 0) ?_ ?_ ?_
     . exact ⟨rfl, L1, hL1, rfl⟩
     . rintro σ H3 ⟨rfl, L, hL, rfl⟩
       refine ⟨_, rfl, _, rfl, _, _, rfl, rfl, _, rfl, U3 (fun hle => ?_) (fun hgt => ?_)⟩
       . have hle : 10 ^ (L + 1) <= n := Int.ofNat_le.mp hle
         refine ⟨_, rfl, _, _, rfl, rfl, _, rfl, _, _, rfl, rfl, mC _ _ (by decide) (by decide), ⟨rfl, L + 1, hle, ?_⟩, ?_⟩
         . show [some (V.int (n : Int)), some (V.int ((L : Int) + 1)), some (V.int (((10 ^ (L + 1) : Nat) : Int) * 10))] = _
           rw [show ((10 ^ (L + 1) : Nat) : Int) * 10 = ((10 ^ (L + 1 + 1) : Nat) : Int) by rw [Nat.pow_succ 10 (L + 1)]; rfl]
           rfl
         have lt : L + 1 < 10 ^ (L + 1) := Nat.lt_pow_self (by decide)
         show n - ((L : Int) + 1).toNat < n - (L : Int).toNat
         omega
       . have hgt : ¬ 10 ^ (L + 1) <= n := fun z => hgt (Int.ofNat_le.mpr z)
         exact ⟨rfl, L, hL, by omega, rfl⟩
     . rintro σ H2 Q1 Q2 hQ ⟨v, e, v2, e4, i2, j2, e5, e6, b, e7, q⟩
       exact ⟨v, e, v2, e4, i2, j2, e5, e6, b, e7, hQ _ _ q⟩
   rintro σ H3 ⟨rfl, L, h1, h2, rfl⟩
   exact ⟨_, rfl, k L h1 h2⟩
end
abbrev C1h : Stmt := (D5 (top 6) 2)
abbrev A1t : Stmt := (D5 (top 6) 1)
section
variable {P : Program} {w : World} {K : Frag} {mg : Str -> Option Value} {base : Heap}
theorem scRAt : FnScope ["self", "power", "shift", "top", "bottom", "whole"] ["self", "power"] (A1 C1h) := scK
theorem Z2y {f f1 f2 CR CE : Addr} {fd fd1 fd2 : FuncData} (F : Fun K "at" "Ratio.at" C1h f fd) (D_ten_to : Def K mg "ten_to" ["count"] Z7 f1 fd1) (G_ten_to : FnOk P w K mg base (CX1 P w) 2 f1 fd1 ["count"] A4x)
   (D_part_of : Def K mg "part_of" ["size", "middle"] A2w f2 fd2) (G_part_of : FnOk P w K mg base (CX1 P w) 1 f2 fd2 ["size", "middle"] C2n) (R : RatC K mg CR CE) (O : Own mg) : FnOk P w K mg base (CX1 P w) 3 f fd ["self", "power"] (C1m CR) := by
 refine FnOk.up (F.ok scRAt (fun vs H Q E h => ?_) (fun cdv A outer s H vs Q E hr h => ?_))
 . obtain ⟨x, t, b, n, p, rfl, _⟩ := h
   rfl
 . obtain ⟨x, t, b, n, p, rfl, ⟨dx, e⟩, ht, hb, h1, h2, k⟩ := h
   have hx : D8 (Z9 CX0 P w K mg base ["self", "power", "shift", "top", "bottom", "whole"] "Ratio.at" (A1 C1h) f cdv A outer s H E).nox EKF := J5
   refine ⟨_, (A4 (D0 (i := 2) scRAt.nd rfl (Or.inl rfl) (B3 U1 (C7 (pv 0) rfl) (pv 1)))
     (A4 (D0 (i := 3) scRAt.nd rfl (Or.inl rfl) (B3 D6 (C7 (pv 0) rfl) (B9 D_ten_to G_ten_to hr hx (A0 (J7 (V9 rfl) (by rfl) O.max_ boot_max (A0 (pv 2) (A0 A3 A5))) A5))))
     (A4 (D0 (i := 4) scRAt.nd rfl (Or.inl rfl) (B3 D6 (C7 (pv 0) rfl) (B9 D_ten_to G_ten_to hr hx (A0 (J7 (V9 rfl) (by rfl) O.max_ boot_max (A0 (D1e B5w (pv 2)) (A0 A3 A5))) A5))))
     (A4 (D0 (i := 5) scRAt.nd rfl (Or.inl rfl) (B3 G6 (pv 3) (pv 4)))
     (A6 (B0 (A3j (A0 (pv 5) (A0 (B9 D_part_of G_part_of hr hx (A0 (B3 D6 A3 (B3 U1 (pv 3) (B3 D6 (pv 5) (pv 4)))) (A0 (pv 4) A5))) A5))))))))), ?_⟩
   have z2 : 2 <= sizeLine := D7 (by decide)
   have mC' : ∀ z n : Int, -(2 ^ 64) < n -> n < 2 ^ 64 -> IntMulOk n z := fun z n a b => CMul.ok (.inl ⟨a, b⟩)
   have hb0 : 0 < b := by have := hb.1; omega
   refine ⟨_, rfl, x, CR, dx, _, _, rfl, e, R.cl, R.n_power, D0x _ _ _, _, rfl, _, _, rfl, rfl, ?_⟩
   refine ⟨_, rfl, x, CR, dx, _, _, rfl, e, R.cl, R.n_top, J9c _ _ _, _, rfl, _, _, rfl, (n - p).toNat, congrArg (fun z => [V.int z]) (Y5m (n - p)), by omega, _, _, rfl, rfl, V0s ht h2, ?_⟩
   refine ⟨_, rfl, x, CR, dx, _, _, rfl, e, R.cl, R.n_bottom, C2t _ _ _, _, rfl, _, rfl, _, _, rfl, (-(n - p)).toNat, congrArg (fun z => [V.int z]) (Y5m (-(n - p))), by omega, _, _, rfl, rfl, V0s hb (by omega), ?_⟩
   have lp : 0 < b * A2 (-(n - p)) := Int.mul_pos hb0 (C4 _)
   have ll : (b * A2 (-(n - p))).natAbs.log2 < 9000 := Z2s hb (by omega)
   refine ⟨_, rfl, _, rfl, _, _, rfl, rfl, ⟨lp, ll⟩, ?_⟩
   have lf := Y5y (t := t) (s := n - p) hb0
   refine ⟨_, rfl, _, rfl, _, rfl, _, rfl, _, _, rfl, rfl, Z7q ht hb h1 h2, _, _, rfl, rfl, _, _, rfl, rfl, mC' _ _ (by decide) (by decide), _, rfl, _, _, rfl, lf.1, lp, z2, fun q nq => k q _ (Same.upd nq) nq A7⟩
end
theorem Z1h {t b L M u v : Nat} (h : L + u = M + v) (t2 : t < 10 ^ (L + 1)) (b1 : 10 ^ M <= b) : t * 10 ^ u < 10 * (b * 10 ^ v) := by
 have p : 0 < 10 ^ u := Nat.pow_pos (by decide)
 calc t * 10 ^ u < 10 ^ (L + 1) * 10 ^ u := Nat.mul_lt_mul_of_pos_right t2 p
   _ = 10 * (10 ^ M * 10 ^ v) := by rw [<- Nat.pow_add, <- Nat.pow_add, <- h, show L + 1 + u = (L + u) + 1 by omega, Nat.pow_succ, Nat.mul_comm]
   _ <= 10 * (b * 10 ^ v) := Nat.mul_le_mul_left 10 (Nat.mul_le_mul_right _ b1)
theorem Z2w {t b L M u v : Nat} (h : L + u = M + 1 + v) (t1 : 10 ^ L <= t) (b2 : b < 10 ^ (M + 1)) : b * 10 ^ v <= t * 10 ^ u := by
 calc b * 10 ^ v <= 10 ^ (M + 1) * 10 ^ v := Nat.mul_le_mul_right _ (Nat.le_of_lt b2)
   _ = 10 ^ L * 10 ^ u := by rw [<- Nat.pow_add, <- Nat.pow_add, h]
   _ <= t * 10 ^ u := Nat.mul_le_mul_right _ t1
theorem U0q {t b L M : Nat} (t1 : 10 ^ L <= t) (t2 : t < 10 ^ (L + 1)) (b1 : 10 ^ M <= b) (b2 : b < 10 ^ (M + 1)) (h : (b : Int) * A2 (-((M : Int) - L)) <= (t : Int) * A2 ((M : Int) - L)) : A3z t b ((M : Int) - L) := by
 refine ⟨h, ?_⟩
 unfold A2
 have := Z1h (t := t) (b := b) (L := L) (M := M) (u := ((M : Int) - L).toNat) (v := (-((M : Int) - L)).toNat) (by omega) t2 b1
 exact Int.ofNat_lt.mpr this
theorem G9f {t b L M : Nat} (t1 : 10 ^ L <= t) (t2 : t < 10 ^ (L + 1)) (b1 : 10 ^ M <= b) (b2 : b < 10 ^ (M + 1)) (h : (t : Int) * A2 ((M : Int) - L) < (b : Int) * A2 (-((M : Int) - L))) : A3z t b ((M : Int) - L + 1) := by
 refine ⟨?_, ?_⟩
 . unfold A2
   have := Z2w (t := t) (b := b) (L := L) (M := M) (u := ((M : Int) - L + 1).toNat) (v := (-((M : Int) - L + 1)).toNat) (by omega) t1 b2
   exact Int.ofNat_le.mpr this
 . have hb : 0 < (b : Int) := by
     have : 0 < 10 ^ M := Nat.pow_pos (by decide)
     omega
   generalize (M : Int) - L = s at h
   have c := A2h (s := s) (r := s + 1) (by omega)
   have e1 : A2 (s + 1 - s) = 10 := by rw [show s + 1 - s = 1 by omega]; rfl
   rw [e1] at c
   have l := Int.mul_pos hb (C4 (-s))
   have l' := Int.mul_pos hb (C4 (-(s + 1)))
   have e : (t : Int) * A2 (s + 1) * ((b : Int) * A2 (-s)) = (t : Int) * A2 s * ((b : Int) * A2 (-(s + 1))) * 10 := by
     calc (t : Int) * A2 (s + 1) * ((b : Int) * A2 (-s)) = t * b * (A2 (s + 1) * A2 (-s)) := by ac_rfl
       _ = t * b * (A2 s * A2 (-(s + 1)) * 10) := by rw [c]
       _ = (t : Int) * A2 s * ((b : Int) * A2 (-(s + 1))) * 10 := by ac_rfl
   have a : (t : Int) * A2 s * ((b : Int) * A2 (-(s + 1))) < (b : Int) * A2 (-s) * ((b : Int) * A2 (-(s + 1))) := Int.mul_lt_mul_of_pos_right h l'
   have a2 : (t : Int) * A2 (s + 1) * ((b : Int) * A2 (-s)) < 10 * ((b : Int) * A2 (-(s + 1))) * ((b : Int) * A2 (-s)) := by
     rw [e, show 10 * ((b : Int) * A2 (-(s + 1))) * ((b : Int) * A2 (-s)) = (b : Int) * A2 (-s) * ((b : Int) * A2 (-(s + 1))) * 10 by ac_rfl]
     exact Int.mul_lt_mul_of_pos_right a (by decide)
   exact Int.lt_of_mul_lt_mul_right a2 (Int.le_of_lt l)
section
variable {P : Program} {w : World} {K : Frag} {mg : Str -> Option Value} {base : Heap}
theorem scRFirst : FnScope ["self", "guess"] ["self"] (A1 A1t) := scK
theorem U0r {f f1 f2 CR CE : Addr} {fd fd1 fd2 : FuncData} (F : Fun K "first" "Ratio.first" A1t f fd) (D_whole_lead : Def K mg "whole_lead" ["whole"] A3q f1 fd1) (G_whole_lead : FnOk P w K mg base (CX1 P w) 3 f1 fd1 ["whole"] C0x)
   (MA : Meth K CR "at" f2) (GA : FnOk P w K mg base (CX1 P w) 3 f2 fd2 ["self", "power"] (C1m CR)) (BA : Binds K fd2 ["self", "power"] []) (R : RatC K mg CR CE) : FnOk P w K mg base (CX1 P w) 4 f fd ["self"] (A3x CR) := by
 refine FnOk.up (F.ok scRFirst (fun vs H Q E h => ?_) (fun cdv A outer s H vs Q E hr h => ?_))
 . obtain ⟨x, t, b, n, rfl, _⟩ := h
   rfl
 . obtain ⟨x, t, b, n, rfl, ra, ht, hb, k⟩ := h
   have hx : D8 (Z9 CX0 P w K mg base ["self", "guess"] "Ratio.first" (A1 A1t) f cdv A outer s H E).nox EKF := J5
   refine ⟨_, (A4 (D0 (i := 1) scRFirst.nd rfl (Or.inl rfl) (B3 J3 (B3 U1 (B9 D_whole_lead G_whole_lead hr hx (A0 (C7 (pv 0) rfl) A5)) (B9 D_whole_lead G_whole_lead hr hx (A0 (C7 (pv 0) rfl) A5))) (C7 (pv 0) rfl)))
     (A6 (B0 (A1y (C5 J9n (G7 G0 (C2k (pv 0) R.cl MA GA hr BA .nil hx (A0 (pv 1) A5)) A3 (fun _ _ => rfl)) A3 (B8 _)) (pv 1) (B3 U1 (pv 1) A3))))), ?_⟩
   obtain ⟨tn, rfl, ta, tb⟩ := ht.nat
   obtain ⟨bn, rfl, ba, bb⟩ := hb.nat
   obtain ⟨dx, e⟩ := id ra
   have p30 : (10 : Nat) ^ 1000 < 10 ^ 3000 := Nat.pow_lt_pow_right (by decide) (by decide)
   have p30' : ∀ {L m : Nat}, 10 ^ L <= m -> m < 10 ^ 1000 -> L < 1000 := fun h1 h2 => (Nat.pow_lt_pow_iff_right (by decide : 1 < 10)).mp (Nat.lt_of_le_of_lt h1 h2)
   refine ⟨_, rfl, x, CR, dx, _, _, rfl, e, R.cl, R.n_top, J9c _ _ _, tn, rfl, ta, Nat.lt_trans tb p30, fun L L1 L2 => ?_⟩
   refine ⟨_, rfl, x, CR, dx, _, _, rfl, e, R.cl, R.n_bottom, C2t _ _ _, bn, rfl, ba, Nat.lt_trans bb p30, fun M' M1 M2 => ?_⟩
   have l30 := p30' L1 tb
   have m30 := p30' M1 bb
   refine ⟨_, _, rfl, rfl, _, rfl, x, CR, dx, _, _, rfl, e, R.cl, R.n_power, D0x _ _ _, _, _, rfl, rfl, ?_⟩
   have es : n - ((L : Int) - M' + n) = (M' : Int) - L := by omega
   refine ⟨_, rfl, x, dx, _, rfl, e, D1g _ _ _, _, rfl, x, tn, bn, n, _, rfl, ra, ht, hb, by omega, by omega, fun q H1 s1 nq hq => ?_⟩
   rw [es] at hq
   refine ⟨q, _, 0, _, rfl, rfl, SqT.of hq, D4 (j := 0) rfl, _, _, rfl, rfl, _, rfl, ?_⟩
   have lp : 0 < (bn : Int) * A2 (-((M' : Int) - L)) := Int.mul_pos (by omega) (C4 _)
   refine U3 (fun hg => ?_) (fun hg => ?_)
   . have hle : (bn : Int) * A2 (-((M' : Int) - L)) <= (tn : Int) * A2 ((M' : Int) - L) := by
       have := (Int.le_ediv_iff_mul_le lp).mp (show (1 : Int) <= (tn : Int) * A2 ((M' : Int) - L) / ((bn : Int) * A2 (-((M' : Int) - L))) from hg)
       omega
     refine ⟨_, rfl, k _ H1 s1 ?_⟩
     rw [es]
     exact U0q L1 L2 M1 M2 hle
   . have hlt : (tn : Int) * A2 ((M' : Int) - L) < (bn : Int) * A2 (-((M' : Int) - L)) := by
       apply Classical.byContradiction
       intro z
       exact hg ((Int.le_ediv_iff_mul_le lp).mpr (by omega))
     refine ⟨_, rfl, _, _, rfl, rfl, k _ H1 s1 ?_⟩
     rw [show n - ((L : Int) - M' + n - 1) = (M' : Int) - L + 1 by omega]
     exact G9f L1 L2 M1 M2 hlt
end
inductive Wy where
 | down
 | up
 | floor
 | ceiling
 | halfUp
 | halfDown
 | halfEven
 | fiveUp
def Wy.name : Wy -> Str
 | .down => "down"
 | .up => "up"
 | .floor => "floor"
 | .ceiling => "ceiling"
 | .halfUp => "half up"
 | .halfDown => "half down"
 | .halfEven => "half even"
 | .fiveUp => "five up"
def Wy.cls : Wy -> Str
 | .down => "Down"
 | .up => "Up"
 | .floor => "Floor"
 | .ceiling => "Ceiling"
 | .halfUp => "HalfUp"
 | .halfDown => "HalfDown"
 | .halfEven => "HalfEven"
 | .fiveUp => "FiveUp"
theorem Wy.inj {a b : Wy} (h : a.name = b.name) : a = b := by
 cases a <;> cases b <;> first | rfl | exact absurd h (by decide +kernel)
structure WayC (K : Frag) (mg : Str -> Option Value) (x : Str) (C CW : Addr) : Prop where
 g : mg x = some (.ref C)
 cl : Cls K C
 mk0 : Mk0 K C
 ca : findIn K (.ref C) "__class__" = some (some (.builtin "object.__class__"))
 sn : specialIn K (.builtin "object.__class__") "__get__" = some (some (.builtin "getset_descriptor.__get__"))
 tk : takesIn K (.builtin "object.__class__") = some true
 ob : mroIn K C (.type "object") = some true
 up : kitOne K (.ref C) (.ref CW) = some true
section
variable {P : Program} {w : World} {K : Frag} {mg : Str -> Option Value} {base : Heap}
def A4s (s : Str) : Sp := fun vs H Q _ => ∃ p, vs = [.ref p] /\ Q (.str s) H
def Z7x (P : Program) (w : World) (K : Frag) (mg : Str -> Option Value) (base : Heap) (C : Addr) (s : Str) : Prop := Has P w K mg base C "name" 1 ["self"] (A4s s)
abbrev sN0 : Stmt := (D5 (top 47) 0)
theorem scN0 : FnScope ["self"] ["self"] (A1 sN0) := scK
theorem Z8c {f : Addr} {fd : FuncData} (F : Fun K "name" "Down.name" sN0 f fd) : FnOk P w K mg base (CX1 P w) 1 f fd ["self"] (A4s "down") := by
 refine FnOk.up (F.ok scN0 (fun vs H Q E h => ?_) (fun cdv A outer s H vs Q E hr h => ?_))
 . obtain ⟨p, rfl, _⟩ := h
   rfl
 . obtain ⟨p, rfl, k⟩ := h
   exact ⟨_, A6 (B0 B5), k⟩
abbrev sN1 : Stmt := (D5 (top 48) 0)
theorem scN1 : FnScope ["self"] ["self"] (A1 sN1) := scK
theorem Z6r {f : Addr} {fd : FuncData} (F : Fun K "name" "Up.name" sN1 f fd) : FnOk P w K mg base (CX1 P w) 1 f fd ["self"] (A4s "up") := by
 refine FnOk.up (F.ok scN1 (fun vs H Q E h => ?_) (fun cdv A outer s H vs Q E hr h => ?_))
 . obtain ⟨p, rfl, _⟩ := h
   rfl
 . obtain ⟨p, rfl, k⟩ := h
   exact ⟨_, A6 (B0 B5), k⟩
abbrev sN2 : Stmt := (D5 (top 49) 0)
theorem scN2 : FnScope ["self"] ["self"] (A1 sN2) := scK
theorem Z7d {f : Addr} {fd : FuncData} (F : Fun K "name" "Floor.name" sN2 f fd) : FnOk P w K mg base (CX1 P w) 1 f fd ["self"] (A4s "floor") := by
 refine FnOk.up (F.ok scN2 (fun vs H Q E h => ?_) (fun cdv A outer s H vs Q E hr h => ?_))
 . obtain ⟨p, rfl, _⟩ := h
   rfl
 . obtain ⟨p, rfl, k⟩ := h
   exact ⟨_, A6 (B0 B5), k⟩
abbrev sN3 : Stmt := (D5 (top 50) 0)
theorem scN3 : FnScope ["self"] ["self"] (A1 sN3) := scK
theorem Z8y {f : Addr} {fd : FuncData} (F : Fun K "name" "Ceiling.name" sN3 f fd) : FnOk P w K mg base (CX1 P w) 1 f fd ["self"] (A4s "ceiling") := by
 refine FnOk.up (F.ok scN3 (fun vs H Q E h => ?_) (fun cdv A outer s H vs Q E hr h => ?_))
 . obtain ⟨p, rfl, _⟩ := h
   rfl
 . obtain ⟨p, rfl, k⟩ := h
   exact ⟨_, A6 (B0 B5), k⟩
abbrev sN4 : Stmt := (D5 (top 51) 0)
theorem scN4 : FnScope ["self"] ["self"] (A1 sN4) := scK
theorem Z8f {f : Addr} {fd : FuncData} (F : Fun K "name" "HalfUp.name" sN4 f fd) : FnOk P w K mg base (CX1 P w) 1 f fd ["self"] (A4s "half up") := by
 refine FnOk.up (F.ok scN4 (fun vs H Q E h => ?_) (fun cdv A outer s H vs Q E hr h => ?_))
 . obtain ⟨p, rfl, _⟩ := h
   rfl
 . obtain ⟨p, rfl, k⟩ := h
   exact ⟨_, A6 (B0 B5), k⟩
abbrev sN5 : Stmt := (D5 (top 52) 0)
theorem scN5 : FnScope ["self"] ["self"] (A1 sN5) := scK
theorem Z8m {f : Addr} {fd : FuncData} (F : Fun K "name" "HalfDown.name" sN5 f fd) : FnOk P w K mg base (CX1 P w) 1 f fd ["self"] (A4s "half down") := by
 refine FnOk.up (F.ok scN5 (fun vs H Q E h => ?_) (fun cdv A outer s H vs Q E hr h => ?_))
 . obtain ⟨p, rfl, _⟩ := h
   rfl
 . obtain ⟨p, rfl, k⟩ := h
   exact ⟨_, A6 (B0 B5), k⟩
abbrev sN6 : Stmt := (D5 (top 53) 0)
theorem scN6 : FnScope ["self"] ["self"] (A1 sN6) := scK
theorem Z6m {f : Addr} {fd : FuncData} (F : Fun K "name" "HalfEven.name" sN6 f fd) : FnOk P w K mg base (CX1 P w) 1 f fd ["self"] (A4s "half even") := by
 refine FnOk.up (F.ok scN6 (fun vs H Q E h => ?_) (fun cdv A outer s H vs Q E hr h => ?_))
 . obtain ⟨p, rfl, _⟩ := h
   rfl
 . obtain ⟨p, rfl, k⟩ := h
   exact ⟨_, A6 (B0 B5), k⟩
abbrev sN7 : Stmt := (D5 (top 54) 0)
theorem scN7 : FnScope ["self"] ["self"] (A1 sN7) := scK
theorem Z6q {f : Addr} {fd : FuncData} (F : Fun K "name" "FiveUp.name" sN7 f fd) : FnOk P w K mg base (CX1 P w) 1 f fd ["self"] (A4s "five up") := by
 refine FnOk.up (F.ok scN7 (fun vs H Q E h => ?_) (fun cdv A outer s H vs Q E hr h => ?_))
 . obtain ⟨p, rfl, _⟩ := h
   rfl
 . obtain ⟨p, rfl, k⟩ := h
   exact ⟨_, A6 (B0 B5), k⟩
def Z0r (K : Frag) (H : Hp) (v : V) : Prop := ∃ t b, TyE K H v t /\ kitOne K t (.type "str") = some b /\ (b = false \/ ∃ z, v = .str z /\ ∀ y : Wy, z ≠ y.name)
theorem A8j {C : Addr} {σ : L2.St} {H : Hp} {Q : VK} (k : ∀ p dx H', H p = none -> Same H H' -> H' p = some (.ins C dx []) -> Q (.ref p) H') : Z1k C σ H Q := fun x dx n1 n2 ne =>
 k x dx _ n1 ((Same.upd n2).trans (Same.upd (by rw [C0 (Ne.symm ne)]; exact n1))) A7
abbrev A8n : Stmt := (top 55)
def D2m (K : Frag) (CB : Addr) (cw : Wy -> Addr) : Sp := fun vs H Q E => ∃ v, vs = [v] /\ ((∃ y : Wy, v = .str y.name /\ ∀ p dx H', H p = none -> Same H H' -> H' p = some (.ins (cw y) dx []) -> Q (.ref p) H') \/ (Z0r K H v /\ E (.ref CB) none H))
theorem Y5r : FnScope ["name"] ["name"] (A1 A8n) := scK
theorem U9h {f CB CW : Addr} {cw : Wy -> Addr} {fd : FuncData} (D : Def K mg "way_of" ["name"] A8n f fd) (O : Own mg) (T : Kit K) (B : Err K mg "BadContext" CB) (W : ∀ y : Wy, WayC K mg y.cls (cw y) CW) :
   FnOk P w K mg base (CX1 P w) 1 f fd ["name"] (D2m K CB cw) := by
 refine D.F.okE Y5r (fun vs H Q E h => ?_) (fun X cdv A outer s H vs Q E hX hr hx h => ?_)
 . obtain ⟨v, rfl, _⟩ := h
   rfl
 . subst hX
   obtain ⟨v, rfl, h⟩ := h
   refine ⟨_, (A4 (G2 (A2e (U8 (U0k O.isi (pv 0) (pty O.str_ boot_str)))) (A6 (A2a (by rfl) B.g B.q PySem.F.excBase_ValueError hr.hd hx (A0 B5 A5))) C8)
     (A4 (G2 (C5 G8 (pv 0) B5 (B8 _)) (A6 (B0 (A7u (W .down).mk0 rfl (W .down).g))) C8)
     (A4 (G2 (C5 G8 (pv 0) B5 (B8 _)) (A6 (B0 (A7u (W .up).mk0 rfl (W .up).g))) C8)
     (A4 (G2 (C5 G8 (pv 0) B5 (B8 _)) (A6 (B0 (A7u (W .floor).mk0 rfl (W .floor).g))) C8)
     (A4 (G2 (C5 G8 (pv 0) B5 (B8 _)) (A6 (B0 (A7u (W .ceiling).mk0 rfl (W .ceiling).g))) C8)
     (A4 (G2 (C5 G8 (pv 0) B5 (B8 _)) (A6 (B0 (A7u (W .halfUp).mk0 rfl (W .halfUp).g))) C8)
     (A4 (G2 (C5 G8 (pv 0) B5 (B8 _)) (A6 (B0 (A7u (W .halfDown).mk0 rfl (W .halfDown).g))) C8)
     (A4 (G2 (C5 G8 (pv 0) B5 (B8 _)) (A6 (B0 (A7u (W .halfEven).mk0 rfl (W .halfEven).g))) C8)
     (A4 (G2 (C5 G8 (pv 0) B5 (B8 _)) (A6 (B0 (A7u (W .fiveUp).mk0 rfl (W .fiveUp).g))) C8)
     (A6 (A2a (by rfl) B.g B.q PySem.F.excBase_ValueError hr.hd hx (A0 B5 A5)))))))))))), ?_⟩
   have z1 : 1 <= sizeLine := D7 (by decide)
   rcases h with ⟨y, rfl, k⟩ | ⟨⟨t, b, ty, kk, bad⟩, k⟩
   . refine ⟨_, rfl, _, _, _, _, true, rfl, rfl, V0y _, T.str_str, _, rfl, J9 ?_⟩
     refine ⟨_, rfl, rfl, _, rfl, U3 (fun e => ?_) (fun n0 => ?_)⟩
     . have q : y = .down := Wy.inj (V.str.inj (e : V.str y.name = V.str (Wy.name .down)))
       subst q
       exact A8j k
     refine ⟨_, rfl, rfl, _, rfl, U3 (fun e => ?_) (fun n1 => ?_)⟩
     . have q : y = .up := Wy.inj (V.str.inj (e : V.str y.name = V.str (Wy.name .up)))
       subst q
       exact A8j k
     refine ⟨_, rfl, rfl, _, rfl, U3 (fun e => ?_) (fun n2 => ?_)⟩
     . have q : y = .floor := Wy.inj (V.str.inj (e : V.str y.name = V.str (Wy.name .floor)))
       subst q
       exact A8j k
     refine ⟨_, rfl, rfl, _, rfl, U3 (fun e => ?_) (fun n3 => ?_)⟩
     . have q : y = .ceiling := Wy.inj (V.str.inj (e : V.str y.name = V.str (Wy.name .ceiling)))
       subst q
       exact A8j k
     refine ⟨_, rfl, rfl, _, rfl, U3 (fun e => ?_) (fun n4 => ?_)⟩
     . have q : y = .halfUp := Wy.inj (V.str.inj (e : V.str y.name = V.str (Wy.name .halfUp)))
       subst q
       exact A8j k
     refine ⟨_, rfl, rfl, _, rfl, U3 (fun e => ?_) (fun n5 => ?_)⟩
     . have q : y = .halfDown := Wy.inj (V.str.inj (e : V.str y.name = V.str (Wy.name .halfDown)))
       subst q
       exact A8j k
     refine ⟨_, rfl, rfl, _, rfl, U3 (fun e => ?_) (fun n6 => ?_)⟩
     . have q : y = .halfEven := Wy.inj (V.str.inj (e : V.str y.name = V.str (Wy.name .halfEven)))
       subst q
       exact A8j k
     refine ⟨_, rfl, rfl, _, rfl, U3 (fun e => ?_) (fun n7 => ?_)⟩
     . have q : y = .fiveUp := Wy.inj (V.str.inj (e : V.str y.name = V.str (Wy.name .fiveUp)))
       subst q
       exact A8j k
     cases y with
     | down => exact absurd rfl n0
     | up => exact absurd rfl n1
     | floor => exact absurd rfl n2
     | ceiling => exact absurd rfl n3
     | halfUp => exact absurd rfl n4
     | halfDown => exact absurd rfl n5
     | halfEven => exact absurd rfl n6
     | fiveUp => exact absurd rfl n7
   . refine ⟨_, rfl, _, _, _, _, b, rfl, rfl, ty, kk, _, rfl, ?_⟩
     cases b with
     | false => exact Z3 ⟨z1, k⟩
     | true =>
       obtain ⟨z, rfl, nz⟩ := bad.resolve_left (by decide)
       refine J9 ?_
       refine ⟨_, rfl, rfl, _, rfl, U3 (fun e => absurd (V.str.inj e) (nz .down)) (fun n0 => ?_)⟩
       refine ⟨_, rfl, rfl, _, rfl, U3 (fun e => absurd (V.str.inj e) (nz .up)) (fun n1 => ?_)⟩
       refine ⟨_, rfl, rfl, _, rfl, U3 (fun e => absurd (V.str.inj e) (nz .floor)) (fun n2 => ?_)⟩
       refine ⟨_, rfl, rfl, _, rfl, U3 (fun e => absurd (V.str.inj e) (nz .ceiling)) (fun n3 => ?_)⟩
       refine ⟨_, rfl, rfl, _, rfl, U3 (fun e => absurd (V.str.inj e) (nz .halfUp)) (fun n4 => ?_)⟩
       refine ⟨_, rfl, rfl, _, rfl, U3 (fun e => absurd (V.str.inj e) (nz .halfDown)) (fun n5 => ?_)⟩
       refine ⟨_, rfl, rfl, _, rfl, U3 (fun e => absurd (V.str.inj e) (nz .halfEven)) (fun n6 => ?_)⟩
       refine ⟨_, rfl, rfl, _, rfl, U3 (fun e => absurd (V.str.inj e) (nz .fiveUp)) (fun n7 => ?_)⟩
       exact ⟨z1, k⟩
end
def sigS : List Str := ["void", "split", "burst", "sunk", "faint", "off", "cut"]
def G8x : List V := sigS.map V.str
structure SigK (K : Frag) (mg : Str -> Option Value) (aS : Addr) : Prop where
 g : mg "SIGNALS" = some (.ref aS)
 ty : ∃ o, K.lookup aS = some o /\ o.cls = .type "tuple"
 sq : ∀ H, SqT K H aS G8x
abbrev B2u : Stmt := (top 60)
section
variable {P : Program} {w : World} {K : Frag} {mg : Str -> Option Value} {base : Heap}
def BadS (K : Frag) (H : Hp) (x : V) : Prop := ∃ t b, TyE K H x t /\ kitOne K t (.type "str") = some b /\ (b = false \/ ∃ z, x = .str z /\ z ∉ sigS)
def U8c (K : Frag) (H : Hp) (v : V) : Prop := (∃ t, TyE K H v t /\ kitOne K t (.type "list") = some false) \/ (∃ (p : Addr) (zs : List Str) (x : V) (r : List V), v = .ref p /\ H p = some (.lst (zs.map V.str ++ x :: r)) /\ (∀ z ∈ zs, z ∈ sigS) /\ BadS K H x)
def J9g (K : Frag) (CB : Addr) : Sp := fun vs H Q E => ∃ v, vs = [v] /\ ((∃ (p : Addr) (zs : List Str), v = .ref p /\ H p = some (.lst (zs.map V.str)) /\ (∀ z ∈ zs, z ∈ sigS) /\ Q .non H) \/ (U8c K H v /\ E (.ref CB) none H))
theorem scNeedS : FnScope ["names", "name"] ["names"] (A1 B2u) := scK
theorem V0u {f CB aS : Addr} {fd : FuncData} (D : Def K mg "need_signals" ["names"] B2u f fd) (O : Own mg) (T : Kit K) (B : Err K mg "BadContext" CB) (SG : SigK K mg aS) : FnOk P w K mg base (CX1 P w) 1 f fd ["names"] (J9g K CB) := by
 refine D.F.okE scNeedS (fun vs H Q E h => ?_) (fun X cdv A outer s H vs Q E hX hr hx h => ?_)
 . obtain ⟨v, rfl, _⟩ := h
   rfl
 . subst hX
   obtain ⟨v, rfl, h⟩ := h
   refine ⟨_, (A4 (G2 (A2e (U8 (U0k O.isi (pv 0) (pty O.list_ boot_list)))) (A6 (A2a (by rfl) B.g B.q PySem.F.excBase_ValueError hr.hd hx (A0 B5 A5))) C8)
     (A6 (C2j PassesOwn.leaving rfl (C0y (pv 0)) (U5 (i := 1) scNeedS.nd rfl (Or.inl rfl)) (A6 (G2 (PW.pt (C2s (A2e (U8 (U0k O.isi (pv 1) (pty O.str_ boot_str)))) (C1y (C5 D3k (pv 1) (Z2n SG.g) (by rfl))))) (A6 (A2a (by rfl) B.g B.q PySem.F.excBase_ValueError hr.hd hx (A0 B5 A5))) C8))))), ?_⟩
   have z1 : 1 <= sizeLine := D7 (by decide)
   rcases h with ⟨p, zs, rfl, hp, hz, k⟩ | ⟨(⟨t, ty, kk⟩ | ⟨p, zs, x, r, rfl, hp, hz, t, b, ty, kk, bad⟩), k⟩
   . refine ⟨_, rfl, _, _, _, _, true, rfl, rfl, Z0k hp, T.list_list, _, rfl, J9 ?_⟩
     refine ⟨_, rfl, p, rfl, ⟨_, SqL.of hp⟩, A8a (xs := zs.map V.str) (fun i σ H' => H' = H /\ ∃ v, σ = [some (.ref p), v]) ⟨rfl, none, rfl⟩ ?_ ?_ ?_⟩
     . rintro i σ H' _ ⟨rfl, _⟩
       exact SqL.of hp
     . rintro i x σ H' hi ⟨rfl, v, rfl⟩
       obtain ⟨z, hzm, rfl⟩ := List.mem_map.mp (List.mem_of_getElem? hi)
       refine ⟨_, rfl, _, _, _, _, true, rfl, rfl, V0y _, T.str_str, _, rfl, J9 ?_⟩
       refine ⟨_, rfl, aS, G8x, rfl, .inr (SG.sq _), rfl, A1q _, _, rfl, ?_⟩
       have e : inV (.str z) G8x = true := by
         show inV (.str z) (sigS.map V.str) = true
         rw [A4z]
         simpa using hz z hzm
       rw [e]
       exact J9 ⟨rfl, _, rfl⟩
     . rintro σ H' ⟨rfl, v, rfl⟩
       exact k
   . exact ⟨_, rfl, _, _, _, _, false, rfl, rfl, ty, kk, _, rfl, Z3 ⟨z1, k⟩⟩
   . refine ⟨_, rfl, _, _, _, _, true, rfl, rfl, Z0k hp, T.list_list, _, rfl, J9 ?_⟩
     refine ⟨_, rfl, p, rfl, ⟨_, SqL.of hp⟩, A8a (xs := zs.map V.str ++ x :: r) (fun i σ H' => H' = H /\ i <= zs.length /\ ∃ v, σ = [some (.ref p), v]) ⟨rfl, Nat.zero_le _, none, rfl⟩ ?_ ?_ ?_⟩
     . rintro i σ H' _ ⟨rfl, _⟩
       exact SqL.of hp
     . rintro i y σ H' hi ⟨rfl, hl, v, rfl⟩
       by_cases hlt : i < zs.length
       . rw [List.getElem?_append_left (by simpa using hlt)] at hi
         obtain ⟨z, hzm, rfl⟩ := List.mem_map.mp (List.mem_of_getElem? hi)
         refine ⟨_, rfl, _, _, _, _, true, rfl, rfl, V0y _, T.str_str, _, rfl, J9 ?_⟩
         refine ⟨_, rfl, aS, G8x, rfl, .inr (SG.sq _), rfl, A1q _, _, rfl, ?_⟩
         have e : inV (.str z) G8x = true := by
           show inV (.str z) (sigS.map V.str) = true
           rw [A4z]
           simpa using hz z hzm
         rw [e]
         exact J9 ⟨rfl, by omega, _, rfl⟩
       . have e : i = zs.length := by omega
         subst e
         rw [List.getElem?_append_right (by simp)] at hi
         simp at hi
         subst hi
         refine ⟨_, rfl, _, _, _, _, b, rfl, rfl, ty, kk, _, rfl, ?_⟩
         cases b with
         | false => exact Z3 (Z3 ⟨z1, k⟩)
         | true =>
           obtain ⟨z, rfl, nz⟩ := bad.resolve_left (by decide)
           refine J9 ⟨_, rfl, aS, G8x, rfl, .inr (SG.sq _), rfl, A1q _, _, rfl, ?_⟩
           have e : inV (.str z) G8x = false := by
             show inV (.str z) (sigS.map V.str) = false
             rw [A4z]
             simpa using nz
           rw [e]
           exact Z3 ⟨z1, k⟩
     . rintro σ H' ⟨rfl, hl, _⟩
       exfalso
       rw [List.length_append, List.length_map, List.length_cons] at hl
       omega
end
abbrev B2w : Stmt := (top 61)
section
variable {P : Program} {w : World} {K : Frag} {mg : Str -> Option Value} {base : Heap}
def Z4 (zs : List Str) : List Str := sigS.filter fun z => zs.contains z
def J8f (K : Frag) : Sp := fun vs H Q _ => ∃ (p : Addr) (zs : List Str), vs = [.ref p] /\ SqL K H p (zs.map V.str) /\ ∀ l H', Same H H' -> H l = none -> H' l = some (.lst ((Z4 zs).map V.str)) -> Q (.ref l) H'
theorem Y7n : FnScope ["names"] ["names"] (A1 B2w) := scK
theorem U8m {f aS : Addr} {fd : FuncData} (D : Def K mg "in_order" ["names"] B2w f fd) (SG : SigK K mg aS) : FnOk P w K mg base (CX1 P w) 1 f fd ["names"] (J8f K) := by
 refine FnOk.up (D.F.ok Y7n (fun vs H Q E h => ?_) (fun cdv A outer s H vs Q E hr h => ?_))
 . obtain ⟨p, zs, rfl, _⟩ := h
   rfl
 . obtain ⟨p, zs, rfl, hp, k⟩ := h
   refine ⟨_, (A6 (B0 (U7q (N := ["name"]) (F := ["names"]) (js := [0]) (CompScopeF.of1 ⟨rfl, by decide +kernel, by decide +kernel, by decide +kernel, by decide +kernel⟩ (by rfl) (by rfl) ⟨_, by rfl⟩ (by rfl) (by rfl)) (.inl hr.hd) (Y6c (Z2n SG.g)) rfl (fun C s₀ H₀ ex pn h => U5 (i := 0) (by decide +kernel : (["name", "names"] : List Str).Nodup) rfl (Or.inl rfl)) (fun C s₀ H₀ ex pn h => (C5 (G8m (K := K) rfl) (pv 0) (pv 1) (by rfl))) (fun C s₀ H₀ ex pn h => (pv 0))))), ?_⟩
   refine U8p (zs := sigS) (f := fun z => zs.contains z) (σf := [some (.ref p)]) SG.sq (by decide) (fun z H' Qb sm q => ?_) (fun z H' Qv q => ⟨_, rfl, q⟩) (fun D H' sm nd e => k D H' sm nd e) rfl
   refine ⟨_, rfl, _, rfl, p, _, rfl, .inl (sm.seq hp), rfl, A1q _, _, rfl, ?_⟩
   show Qb (inV (.str z) (zs.map V.str)) H'
   rw [A4z]
   exact q
end
structure CtxC (K : Frag) (mg : Str -> Option Value) (CC : Addr) : Prop where
 g : mg "Context" = some (.ref CC)
 cl : Cls K CC
 n_room : NoAttr K CC "room"
 n_rule : NoAttr K CC "rule"
 n_least : NoAttr K CC "least"
 n_most : NoAttr K CC "most"
 n_risen : NoAttr K CC "risen"
 n_trapped : NoAttr K CC "trapped"
def A2p (r s l m a b : V) : List (Str × V) := J0 "trapped" b (J0 "risen" a (J0 "most" m (J0 "least" l (J0 "rule" s (J0 "room" r [])))))
theorem A3k (r s l m a b : V) (n : Str) : (A2p r s l m a b).lookup n = if n = "trapped" then some b else if n = "risen" then some a else if n = "most" then some m else if n = "least" then some l else if n = "rule" then some s else if n = "room" then some r else none := by
 unfold A2p
 rw [C9, C9, C9, C9, C9, C9]
 rfl
theorem A7v (r s l m a b : V) : (A2p r s l m a b).lookup ("room" : Str) = some r := by rw [A3k, if_neg (by decide +kernel), if_neg (by decide +kernel), if_neg (by decide +kernel), if_neg (by decide +kernel), if_neg (by decide +kernel), if_pos rfl]
theorem U7w (r s l m a b : V) : (A2p r s l m a b).lookup ("rule" : Str) = some s := by rw [A3k, if_neg (by decide +kernel), if_neg (by decide +kernel), if_neg (by decide +kernel), if_neg (by decide +kernel), if_pos rfl]
theorem D1m (r s l m a b : V) : (A2p r s l m a b).lookup ("least" : Str) = some l := by rw [A3k, if_neg (by decide +kernel), if_neg (by decide +kernel), if_neg (by decide +kernel), if_pos rfl]
theorem C2m (r s l m a b : V) : (A2p r s l m a b).lookup ("most" : Str) = some m := by rw [A3k, if_neg (by decide +kernel), if_neg (by decide +kernel), if_pos rfl]
theorem D0p (r s l m a b : V) : (A2p r s l m a b).lookup ("risen" : Str) = some a := by rw [A3k, if_neg (by decide +kernel), if_pos rfl]
theorem G3z (r s l m a b : V) : (A2p r s l m a b).lookup ("trapped" : Str) = some b := by rw [A3k, if_pos rfl]
theorem C1v (r s l m a b : V) : (A2p r s l m a b).lookup ("way" : Str) = none := by rw [A3k, if_neg (by decide +kernel), if_neg (by decide +kernel), if_neg (by decide +kernel), if_neg (by decide +kernel), if_neg (by decide +kernel), if_neg (by decide +kernel)]
theorem B2f (r s l m a b : V) : (A2p r s l m a b).lookup ("lowest" : Str) = none := by rw [A3k, if_neg (by decide +kernel), if_neg (by decide +kernel), if_neg (by decide +kernel), if_neg (by decide +kernel), if_neg (by decide +kernel), if_neg (by decide +kernel)]
theorem B4x (r s l m a b : V) : (A2p r s l m a b).lookup ("flags" : Str) = none := by rw [A3k, if_neg (by decide +kernel), if_neg (by decide +kernel), if_neg (by decide +kernel), if_neg (by decide +kernel), if_neg (by decide +kernel), if_neg (by decide +kernel)]
theorem A3p (r s l m a b : V) : (A2p r s l m a b).lookup ("raised" : Str) = none := by rw [A3k, if_neg (by decide +kernel), if_neg (by decide +kernel), if_neg (by decide +kernel), if_neg (by decide +kernel), if_neg (by decide +kernel), if_neg (by decide +kernel)]
structure CtxAt (CC : Addr) (H : Hp) (c : Addr) (r : Int) (y : Wy) (l m : Int) (a b : Addr) (xs ys : List V) : Prop where
 ins : ∃ dx, H c = some (.ins CC dx (A2p (.int r) (.str y.name) (.int l) (.int m) (.ref a) (.ref b)))
 ha : H a = some (.lst xs)
 hb : H b = some (.lst ys)
theorem CtxAt.same {CC : Addr} {H H' : Hp} {c : Addr} {r : Int} {y : Wy} {l m : Int} {a b : Addr} {xs ys : List V} (h : CtxAt CC H c r y l m a b xs ys) (e : Same H H') : CtxAt CC H' c r y l m a b xs ys := by
 obtain ⟨⟨dx, z⟩, z1, z2⟩ := h
 exact ⟨⟨dx, e _ _ z⟩, e _ _ z1, e _ _ z2⟩
section
variable {P : Program} {w : World} {K : Frag} {mg : Str -> Option Value} {base : Heap}
abbrev U2 : Stmt := (D5 (top 58) 0)
abbrev B1s : Stmt := (D5 (top 58) 1)
abbrev B1m : Stmt := (D5 (top 58) 2)
abbrev A1r : Stmt := (D5 (top 58) 3)
def G8h (l : Int) (v : V) : Prop := (v = .non /\ l = -60) \/ (v = .int l /\ -60 <= l /\ l <= 0)
def Z1f (K : Frag) (S : Hp -> Prop) (v1 v2 v3 v4 : V) : Prop := (∀ H', S H' -> C6z K H' 1 24 v1) \/ (B2j 1 24 v1 /\ ((∀ H', S H' -> Z0r K H' v2) \/ ((∃ y : Wy, v2 = .str y.name) /\ ((v3 ≠ .non /\ ∀ H', S H' -> C6z K H' (-60) 0 v3) \/ ((∃ l, G8h l v3) /\ ∀ H', S H' -> C6z K H' 0 60 v4)))))
theorem Exc.none {p a : Addr} {H H' : Hp} {o : HO} (x : Exc p H H') (hp : H' p = some o) (n : H' a = none) : H a = none := by
 cases q : H a with
 | none => rfl
 | some u =>
   have := x a u q (fun e => by rw [e, hp] at n; cases n)
   rw [n] at this
   cases this
def B6c (K : Frag) (CC CB : Addr) : Sp := fun vs H Q E => ∃ p dx v1 v2 v3 v4, vs = [.ref p, v1, v2, v3, v4] /\ H p = some (.ins CC dx []) /\
 ((∃ r y l m, v1 = .int r /\ 1 <= r /\ r <= 24 /\ v2 = .str (Wy.name y) /\ G8h l v3 /\ v4 = .int m /\ 0 <= m /\ m <= 60 /\ ∀ a b H', Exc p H H' -> H a = none -> H b = none -> CtxAt CC H' p r y l m a b [] [] -> Q .non H') \/
  (Z1f K (Exc p H) v1 v2 v3 v4 /\ ∀ H', Exc p H H' -> E (.ref CB) none H'))
theorem U0m : FnScope ["self", "room", "way", "least", "most"] ["self", "room", "way", "least", "most"] (A1 U2) := scK
theorem U9y : B4v 1 24 := by unfold B4v; decide +kernel
theorem G8p : B4v (-60) 0 := by unfold B4v; decide +kernel
theorem U7s : B4v 0 60 := by unfold B4v; decide +kernel
theorem G9k {f fB fW CC CB CW : Addr} {dV : Value} {cw : Wy -> Addr} {fd fdB fdW : FuncData} (F : FunD K "__init__" "Context.__init__" U2 dV f fd) (D_bounded : Def K mg "bounded" ["thing", "least", "most"] A2c fB fdB) (D_way_of : Def K mg "way_of" ["name"] A8n fW fdW)
   (G_bounded : FnOk P w K mg base (CX1 P w) 2 fB fdB ["thing", "least", "most"] (D1f K CB)) (G_way_of : FnOk P w K mg base (CX1 P w) 1 fW fdW ["name"] (D2m K CB cw)) (C : CtxC K mg CC)
   (W : ∀ y : Wy, WayC K mg y.cls (cw y) CW) (N : ∀ y : Wy, Z7x P w K mg base (cw y) y.name) : FnOk P w K mg base (CX1 P w) 3 f fd ["self", "room", "way", "least", "most"] (B6c K CC CB) := by
 refine F.okE U0m (fun vs H Q E h => ?_) (fun X cdv A outer s H vs Q E hX hr hx h => ?_)
 . obtain ⟨p, dx, v1, v2, v3, v4, rfl, _⟩ := h
   rfl
 . subst hX
   obtain ⟨p, dx, v1, v2, v3, v4, rfl, hp, h⟩ := h
   obtain ⟨y, hy⟩ : ∃ y : Wy, ∀ z : Wy, v2 = .str z.name -> z = y := by
     by_cases q : ∃ z : Wy, v2 = .str z.name
     . obtain ⟨z, rfl⟩ := q
       exact ⟨z, fun u e => Wy.inj (V.str.inj e.symm)⟩
     . exact ⟨.down, fun z e => absurd ⟨z, e⟩ q⟩
   obtain ⟨fN, fdN, mN, gN, bN⟩ := N y
   refine ⟨_, (A4 (V1 (pv 0) (B9 D_bounded G_bounded hr hx (A0 (pv 1) (A0 A3 (A0 A3 A5)))) rfl)
     (A4 (V1 (pv 0) (A4r (B9 D_way_of G_way_of hr hx (A0 (pv 2) A5)) (W y).cl mN gN hr bN .nil hx) rfl)
     (A4 (C6 (V1 (pv 0) (A1y (C5 Z1j (pv 3) Z1w (B8 _)) (D1e B5w A3) (B9 D_bounded G_bounded hr hx (A0 (pv 3) (A0 (D1e B5w A3) (A0 A3 A5))))) rfl))
     (A4 (V1 (pv 0) (B9 D_bounded G_bounded hr hx (A0 (pv 4) (A0 A3 (A0 A3 A5)))) rfl)
     (A4 (V1 (pv 0) (J2 A5) rfl)
     (A6 (V1 (pv 0) (J2 A5) rfl))))))), ?_⟩
   have lz : ∀ (fs : List (Str × V)) (f : Str) (v : V) (n : Nat), fs.length <= n -> (J0 f v fs).length <= n + 1 := fun fs f v n h => Nat.le_trans (V8 f v fs) (Nat.succ_le_succ h)
   have q0 : (([] : List (Str × V))).length <= 0 := Nat.le_refl _
   have z0 : 0 <= sizeLine := Nat.zero_le _
   rcases h with ⟨r, y', l, m, rfl, r1, r2, rfl, hl, rfl, m1, m2, k⟩ | ⟨bad, k⟩
   . obtain rfl := hy _ rfl
     refine ⟨_, rfl, _, _, _, rfl, U9y, .inl ⟨⟨r, rfl, r1, r2⟩, ?_⟩⟩
     refine ⟨_, rfl, p, CC, dx, [], rfl, hp, C.cl, C.n_room, by show 0 < 1000; decide, ?_⟩
     refine ⟨_, rfl, _, rfl, .inl ⟨_, rfl, fun q dq H2 nq s2 eq => ⟨q, dq, [], rfl, eq, rfl, _, rfl, ?_⟩⟩⟩
     have hp2 := s2 _ _ (A7 (H := H) (a := p) (o := .ins CC dx (J0 "room" (.int r) [])))
     have x2 : Exc p H H2 := (Exc.upd (H := H) (o := .ins CC dx (J0 "room" (.int r) []))).trans (.of s2)
     refine ⟨_, rfl, p, CC, dx, _, rfl, hp2, C.cl, C.n_rule, Nat.lt_of_le_of_lt (lz _ _ _ 0 q0) (by decide), ?_⟩
     refine ⟨fun σ' H' => σ' = [some (.ref p), some (.int r), some (.str y'.name), some v3, some (.int m)] /\ Exc p H H' /\ H' p = some (.ins CC dx (J0 "least" (.int l) (J0 "rule" (.str y'.name) (J0 "room" (.int r) [])))), ?_, ?_⟩
     . refine ⟨_, rfl, rfl, _, rfl, ?_⟩
       rcases hl with ⟨rfl, rfl⟩ | ⟨rfl, l1, l2⟩
       . refine B4n rfl ⟨_, rfl, ?_⟩
         exact ⟨_, rfl, p, CC, dx, _, rfl, A7, C.cl, C.n_least, Nat.lt_of_le_of_lt (lz _ _ _ 1 (lz _ _ _ 0 q0)) (by decide), rfl, (x2.trans Exc.upd).trans Exc.upd, A7⟩
       . refine C1x (by intro z; cases z) ⟨_, rfl, _, rfl, _, _, _, rfl, G8p, .inl ⟨⟨l, rfl, l1, l2⟩, ?_⟩⟩
         exact ⟨_, rfl, p, CC, dx, _, rfl, A7, C.cl, C.n_least, Nat.lt_of_le_of_lt (lz _ _ _ 1 (lz _ _ _ 0 q0)) (by decide), rfl, (x2.trans Exc.upd).trans Exc.upd, A7⟩
     rintro σ' H4 ⟨rfl, x4, hp4⟩
     refine ⟨_, rfl, _, _, _, rfl, U7s, .inl ⟨⟨m, rfl, m1, m2⟩, ?_⟩⟩
     refine ⟨_, rfl, p, CC, dx, _, rfl, hp4, C.cl, C.n_most, Nat.lt_of_le_of_lt (lz _ _ _ 2 (lz _ _ _ 1 (lz _ _ _ 0 q0))) (by decide), ?_⟩
     refine ⟨z0, fun a na => ?_⟩
     refine ⟨_, rfl, p, CC, dx, _, rfl, Same.upd na _ _ A7, C.cl, C.n_risen, Nat.lt_of_le_of_lt (lz _ _ _ 3 (lz _ _ _ 2 (lz _ _ _ 1 (lz _ _ _ 0 q0)))) (by decide), ?_⟩
     refine ⟨z0, fun b nb => ?_⟩
     refine ⟨_, rfl, p, CC, dx, _, rfl, Same.upd nb _ _ A7, C.cl, C.n_trapped, Nat.lt_of_le_of_lt (lz _ _ _ 4 (lz _ _ _ 3 (lz _ _ _ 2 (lz _ _ _ 1 (lz _ _ _ 0 q0))))) (by decide), ?_⟩
     have x5 := x4.trans (Exc.upd (H := H4) (o := .ins CC dx (J0 "most" (.int m) (J0 "least" (.int l) (J0 "rule" (.str y'.name) (J0 "room" (.int r) []))))))
     have nap : a ≠ p := fun e => by rw [e, A7] at na; cases na
     have nbp : b ≠ p := fun e => by rw [e, A7] at nb; cases nb
     have x6 := (x5.trans (.of (Same.upd (o := .lst []) na))).trans (Exc.upd (o := .ins CC dx (J0 "risen" (.ref a) (J0 "most" (.int m) (J0 "least" (.int l) (J0 "rule" (.str y'.name) (J0 "room" (.int r) [])))))))
     have x7 := (x6.trans (.of (Same.upd (o := .lst []) nb))).trans (Exc.upd (o := .ins CC dx (A2p (.int r) (.str y'.name) (.int l) (.int m) (.ref a) (.ref b))))
     refine k a b _ x7 (x5.none A7 na) (x6.none A7 nb) ⟨⟨dx, A7⟩, ?_, ?_⟩
     . rw [C0 nap]
       refine Same.upd nb _ _ ?_
       rw [C0 nap]
       exact A7
     . rw [C0 nbp]
       exact A7
   . rcases bad with b1 | ⟨⟨r, rfl, r1, r2⟩, bad⟩
     . exact ⟨_, rfl, _, _, _, rfl, U9y, .inr ⟨b1 _ (Exc.refl p H), k _ (Exc.refl p H)⟩⟩
     refine ⟨_, rfl, _, _, _, rfl, U9y, .inl ⟨⟨r, rfl, r1, r2⟩, ?_⟩⟩
     refine ⟨_, rfl, p, CC, dx, [], rfl, hp, C.cl, C.n_room, by show 0 < 1000; decide, ?_⟩
     have x1 : Exc p H (upd H p (.ins CC dx (J0 "room" (.int r) []))) := Exc.upd
     rcases bad with b2 | ⟨⟨y', rfl⟩, bad⟩
     . exact ⟨_, rfl, _, rfl, .inr ⟨b2 _ x1, k _ x1⟩⟩
     obtain rfl := hy _ rfl
     refine ⟨_, rfl, _, rfl, .inl ⟨_, rfl, fun q dq H2 nq s2 eq => ⟨q, dq, [], rfl, eq, rfl, _, rfl, ?_⟩⟩⟩
     have hp2 := s2 _ _ (A7 (H := H) (a := p) (o := .ins CC dx (J0 "room" (.int r) [])))
     have x2 : Exc p H H2 := x1.trans (.of s2)
     refine ⟨_, rfl, p, CC, dx, _, rfl, hp2, C.cl, C.n_rule, Nat.lt_of_le_of_lt (lz _ _ _ 0 q0) (by decide), ?_⟩
     rcases bad with ⟨n3, b3⟩ | ⟨⟨l, hl⟩, b4⟩
     . refine ⟨fun _ _ => False, ?_, fun _ _ z => z.elim⟩
       refine ⟨_, rfl, rfl, _, rfl, C1x n3 ?_⟩
       exact ⟨_, rfl, _, rfl, _, _, _, rfl, G8p, .inr ⟨b3 _ (x2.trans Exc.upd), k _ (x2.trans Exc.upd)⟩⟩
     refine ⟨fun σ' H' => σ' = [some (.ref p), some (.int r), some (.str y'.name), some v3, some v4] /\ Exc p H H', ?_, ?_⟩
     . refine ⟨_, rfl, rfl, _, rfl, ?_⟩
       rcases hl with ⟨rfl, rfl⟩ | ⟨rfl, l1, l2⟩
       . refine B4n rfl ⟨_, rfl, ?_⟩
         exact ⟨_, rfl, p, CC, dx, _, rfl, A7, C.cl, C.n_least, Nat.lt_of_le_of_lt (lz _ _ _ 1 (lz _ _ _ 0 q0)) (by decide), rfl, (x2.trans Exc.upd).trans Exc.upd⟩
       . refine C1x (by intro z; cases z) ⟨_, rfl, _, rfl, _, _, _, rfl, G8p, .inl ⟨⟨l, rfl, l1, l2⟩, ?_⟩⟩
         exact ⟨_, rfl, p, CC, dx, _, rfl, A7, C.cl, C.n_least, Nat.lt_of_le_of_lt (lz _ _ _ 1 (lz _ _ _ 0 q0)) (by decide), rfl, (x2.trans Exc.upd).trans Exc.upd⟩
     rintro σ' H4 ⟨rfl, x4⟩
     exact ⟨_, rfl, _, _, _, rfl, U7s, .inr ⟨b4 _ x4, k _ x4⟩⟩
end
section
variable {P : Program} {w : World} {K : Frag} {mg : Str -> Option Value} {base : Heap}
def C1p (CC : Addr) (cw : Wy -> Addr) : Sp := fun vs H Q _ => ∃ c r y l m a b xs ys, vs = [.ref c] /\ CtxAt CC H c r y l m a b xs ys /\ ∀ p dx H', H p = none -> Same H H' -> H' p = some (.ins (cw y) dx []) -> Q (.ref p) H'
theorem U9m : FnScope ["self"] ["self"] (A1 B1s) := scK
theorem U0u {f fW CC CB : Addr} {cw : Wy -> Addr} {fd fdW : FuncData} (F : Fun K "way" "Context.way" B1s f fd) (D_way_of : Def K mg "way_of" ["name"] A8n fW fdW) (G_way_of : FnOk P w K mg base (CX1 P w) 1 fW fdW ["name"] (D2m K CB cw)) (C : CtxC K mg CC) :
   FnOk P w K mg base (CX1 P w) 2 f fd ["self"] (C1p CC cw) := by
 refine F.okE U9m (fun vs H Q E h => ?_) (fun X cdv A outer s H vs Q E hX hr hx h => ?_)
 . obtain ⟨c, r, y, l, m, a, b, xs, ys, rfl, _⟩ := h
   rfl
 . subst hX
   obtain ⟨c, r, y, l, m, a, b, xs, ys, rfl, ⟨⟨dx, e⟩, _, _⟩, k⟩ := h
   refine ⟨_, (A6 (B0 (B9 D_way_of G_way_of hr hx (A0 (C7 (pv 0) rfl) A5)))), ?_⟩
   exact ⟨_, rfl, c, CC, dx, _, _, rfl, e, C.cl, C.n_rule, U7w _ _ _ _ _ _, _, rfl, .inl ⟨y, rfl, k⟩⟩
def C1g (CC : Addr) : Sp := fun vs H Q _ => ∃ c r y l m a b xs ys, vs = [.ref c] /\ CtxAt CC H c r y l m a b xs ys /\ Q (.int (l - r + 1)) H
theorem U9x : FnScope ["self"] ["self"] (A1 B1m) := scK
theorem U1r {f CC : Addr} {fd : FuncData} (F : Fun K "lowest" "Context.lowest" B1m f fd) (C : CtxC K mg CC) : FnOk P w K mg base (CX1 P w) 1 f fd ["self"] (C1g CC) := by
 refine FnOk.up (F.ok U9x (fun vs H Q E h => ?_) (fun cdv A outer s H vs Q E hr h => ?_))
 . obtain ⟨c, r, y, l, m, a, b, xs, ys, rfl, _⟩ := h
   rfl
 . obtain ⟨c, r, y, l, m, a, b, xs, ys, rfl, ⟨⟨dx, e⟩, _, _⟩, k⟩ := h
   refine ⟨_, (A6 (B0 (B3 J3 (B3 U1 (C7 (pv 0) rfl) (C7 (pv 0) rfl)) A3))), ?_⟩
   exact ⟨_, rfl, c, CC, dx, _, _, rfl, e, C.cl, C.n_least, D1m _ _ _ _ _ _, _, rfl, c, CC, dx, _, _, rfl, e, C.cl, C.n_room, A7v _ _ _ _ _ _, _, _, rfl, rfl, _, _, rfl, rfl, k⟩
def A4v (CC : Addr) : Sp := fun vs H Q _ => ∃ c r y l m a b xs ys, vs = [.ref c] /\ CtxAt CC H c r y l m a b xs ys /\ ∀ p, H p = none -> Q (.ref p) (upd H p (.lst xs))
theorem G8c : FnScope ["self"] ["self"] (A1 A1r) := scK
theorem G3q {f CC : Addr} {fd : FuncData} (F : Fun K "flags" "Context.flags" A1r f fd) (C : CtxC K mg CC) (O : Own mg) : FnOk P w K mg base (CX1 P w) 1 f fd ["self"] (A4v CC) := by
 refine FnOk.up (F.ok G8c (fun vs H Q E h => ?_) (fun cdv A outer s H vs Q E hr h => ?_))
 . obtain ⟨c, r, y, l, m, a, b, xs, ys, rfl, _⟩ := h
   rfl
 . obtain ⟨c, r, y, l, m, a, b, xs, ys, rfl, ⟨⟨dx, e⟩, ha, _⟩, k⟩ := h
   refine ⟨_, (A6 (B0 (A3y D3b (by rfl) O.list_ boot_list (A0 (C7 (pv 0) rfl) A5)))), ?_⟩
   exact ⟨_, rfl, c, CC, dx, _, _, rfl, e, C.cl, C.n_risen, D0p _ _ _ _ _ _, a, xs, rfl, .inl (SqL.of ha), k⟩
structure MakeC (P : Program) (w : World) (K : Frag) (mg : Str -> Option Value) (base : Heap) (CC CB fI : Addr) (fdI : FuncData) : Prop where
 m : Mk K CC fI
 g : FnOk P w K mg base (CX1 P w) 3 fI fdI ["self", "room", "way", "least", "most"] (B6c K CC CB)
theorem Y5e {C x dx : Addr} {H H' : Hp} (n1 : H x = none) (n2 : H dx = none) (ne : dx ≠ x) (e : Exc x (upd (upd H dx (.own x)) x (.ins C dx [])) H') : Same H H' := fun b o h =>
 e b o (by rw [C0 (B7 h n1), C0 (B7 h n2)]; exact h) (B7 h n1)
theorem Z0g {CC CB x dx : Addr} {H : Hp} {Q : VK} {E : XK} {v1 v2 v3 v4 : V} {r : Int} {y : Wy} {l m : Int} (n1 : H x = none) (n2 : H dx = none) (ne : dx ≠ x) (h1 : v1 = .int r) (r1 : 1 <= r) (r2 : r <= 24) (h2 : v2 = .str y.name) (h3 : G8h l v3) (h4 : v4 = .int m) (m1 : 0 <= m) (m2 : m <= 60)
   (k : ∀ a b H', Same H H' -> CtxAt CC H' x r y l m a b [] [] -> Q .non H') : B6c K CC CB [.ref x, v1, v2, v3, v4] (upd (upd H dx (.own x)) x (.ins CC dx [])) Q E :=
 ⟨x, dx, v1, v2, v3, v4, rfl, A7, .inl ⟨r, y, l, m, h1, r1, r2, h2, h3, h4, m1, m2, fun a b H' e _ _ c => k a b H' (Y5e n1 n2 ne e) c⟩⟩
end
abbrev B1q : Stmt := (D5 (top 15) 0)
section
variable {P : Program} {w : World} {K : Frag} {mg : Str -> Option Value} {base : Heap}
theorem U9q : FnScope ["self", "signal"] ["self", "signal"] (A1 B1q) := scK
theorem U2p {f CT fI : Addr} {fd : FuncData} (F : Fun K "__init__" "Trapped.__init__" B1q f fd) (XI : ExcI K CT fI) (hn : findIn K (.ref CT) "signal" = some none) : FnOk P w K mg base CX0 1 f fd ["self", "signal"] (D2z CT "signal") := by
 refine F.ok U9q (fun vs H Q E h => ?_) (fun cdv A outer s H vs Q E hr h => ?_)
 . obtain ⟨e, t, v, rfl, _⟩ := h
   rfl
 . obtain ⟨e, t, v, rfl, he, k⟩ := h
   refine ⟨_, (A6 (Y5t XI hn (pv 0) (pv 1) rfl)), ?_⟩
   exact ⟨_, rfl, _, rfl, e, t, rfl, he, fun d nd ne => k d nd ne⟩
end
abbrev A0a : Stmt := (D5 (top 58) 7)
theorem U9c (r s l m a b : V) : (A2p r s l m a b).length = 6 := rfl
theorem G7r (r s l m a b v : V) : J0 "risen" v (A2p r s l m a b) = A2p r s l m v b := rfl
section
variable {P : Program} {w : World} {K : Frag} {mg : Str -> Option Value} {base : Heap}
def hit (ys zs : List Str) : Option Str := ys.find? fun t => zs.contains t
def C2f (K : Frag) (CC CB CT : Addr) : Sp := fun vs H Q E => ∃ c r y l m a b, ∃ (xs ys : List Str) (v : V), vs = [.ref c, v] /\ CtxAt CC H c r y l m a b (xs.map V.str) (ys.map V.str) /\ xs.length + 100 <= 1000 /\
 ((∃ (p : Addr) (zs : List Str), v = .ref p /\ H p = some (.lst (zs.map V.str)) /\ zs.length <= 100 /\ (∀ z ∈ zs, z ∈ sigS) /\
     (hit ys zs = none -> ∀ a' H', Exc c H H' -> H a' = none -> CtxAt CC H' c r y l m a' b ((Z4 (xs ++ zs)).map V.str) (ys.map V.str) -> Q .non H') /\
     (∀ t, hit ys zs = some t -> ∀ a' d H', Exc c H H' -> H a' = none -> CtxAt CC H' c r y l m a' b ((Z4 (xs ++ zs)).map V.str) (ys.map V.str) -> H d = none -> H' d = some (.xd [("signal", .str t)]) -> E (.ref CT) (some d) H')) \/
  (U8c K H v /\ E (.ref CB) none H))
theorem scRaised : FnScope ["self", "names", "name"] ["self", "names"] (A1 A0a) := scK
theorem U0g {f f1 f2 fX CC CB CT : Addr} {fd fd1 fd2 fdX : FuncData} (F : Fun K "raised" "Context.raised" A0a f fd) (D_need_signals : Def K mg "need_signals" ["names"] B2u f1 fd1) (G_need_signals : FnOk P w K mg base (CX1 P w) 1 f1 fd1 ["names"] (J9g K CB))
   (D_in_order : Def K mg "in_order" ["names"] B2w f2 fd2) (G_in_order : FnOk P w K mg base (CX1 P w) 1 f2 fd2 ["names"] (J8f K)) (C : CtxC K mg CC)
   (gT : mg "Trapped" = some (.ref CT)) (XI : ExcI K CT fX) (GX : FnOk P w K mg base CX0 1 fX fdX ["self", "signal"] (D2z CT "signal")) (BX : Binds K fdX ["self", "signal"] []) : FnOk P w K mg base (CX1 P w) 3 f fd ["self", "names"] (C2f K CC CB CT) := by
 refine F.okE scRaised (fun vs H Q E h => ?_) (fun X cdv A outer s H vs Q E hX hr hx h => ?_)
 . obtain ⟨c, r, y, l, m, a, b, xs, ys, v, rfl, _⟩ := h
   rfl
 . subst hX
   obtain ⟨c, r, y, l, m, a, b, xs, ys, v, rfl, ⟨⟨dx, e⟩, ha, hb⟩, lx, h⟩ := h
   refine ⟨_, (A4 (U6 (B9 D_need_signals G_need_signals hr hx (A0 (pv 1) A5)))
     (A4 (V1 (pv 0) (B9 D_in_order G_in_order hr hx (A0 (B3 U8u (C7 (pv 0) rfl) (pv 1)) A5)) rfl)
     (A6 (C2j PassesOwn.leaving rfl (C0y (C7 (pv 0) rfl)) (U5 (i := 2) scRaised.nd rfl (Or.inl rfl)) (A6 (G2 (C5 B6f (pv 2) (pv 1) (by rfl)) (A6 (U0j gT XI GX BX hr hx (A0 (pv 2) A5))) C8)))))), ?_⟩
   rcases h with ⟨p, zs, rfl, hp, lz, hz, k1, k2⟩ | ⟨bad, k⟩
   . refine ⟨_, rfl, _, rfl, .inl ⟨p, zs, rfl, hp, hz, ?_⟩⟩
     refine ⟨_, rfl, c, CC, dx, _, _, rfl, e, C.cl, C.n_risen, D0p _ _ _ _ _ _, _, rfl, a, p, _, _, rfl, rfl, ha, hp, D7 (by rw [List.length_map, List.length_map]; omega), fun q nq => ?_⟩
     have u1 := Same.upd (o := .lst (xs.map V.str ++ zs.map V.str)) nq
     refine ⟨q, xs ++ zs, rfl, SqL.of (by rw [A7, List.map_append]), fun a' H1 s1 n1 e1 => ?_⟩
     have s2 := u1.trans s1
     refine ⟨_, rfl, c, CC, dx, _, rfl, s2 _ _ e, C.cl, C.n_risen, by rw [U9c]; decide, ?_⟩
     rw [G7r]
     have nbc : b ≠ c := B4h hb e (by intro z; cases z)
     have npc : p ≠ c := B4h hp e (by intro z; cases z)
     have nac : a' ≠ c := B4h e1 (s2 _ _ e) (by intro z; cases z)
     have x2 : Exc c H (upd H1 c (.ins CC dx (A2p (.int r) (.str y.name) (.int l) (.int m) (.ref a') (.ref b)))) := (Exc.of s2).trans Exc.upd
     have hb2 : (upd H1 c (.ins CC dx (A2p (.int r) (.str y.name) (.int l) (.int m) (.ref a') (.ref b)))) b = some (.lst (ys.map V.str)) := by rw [C0 nbc]; exact s2 _ _ hb
     have hp2 : (upd H1 c (.ins CC dx (A2p (.int r) (.str y.name) (.int l) (.int m) (.ref a') (.ref b)))) p = some (.lst (zs.map V.str)) := by rw [C0 npc]; exact s2 _ _ hp
     have ct : CtxAt CC (upd H1 c (.ins CC dx (A2p (.int r) (.str y.name) (.int l) (.int m) (.ref a') (.ref b)))) c r y l m a' b ((Z4 (xs ++ zs)).map V.str) (ys.map V.str) := ⟨⟨dx, A7⟩, by rw [C0 nac]; exact e1, hb2⟩
     refine ⟨_, rfl, c, CC, dx, _, _, rfl, A7, C.cl, C.n_trapped, G3z _ _ _ _ _ _, b, rfl, ⟨_, SqL.of hb2⟩, ?_⟩
     generalize upd H1 c (.ins CC dx (A2p (.int r) (.str y.name) (.int l) (.int m) (.ref a') (.ref b))) = H3 at x2 hb2 hp2 ct ⊢
     refine A8a (xs := ys.map V.str) (fun i σ H' => H' = H3 /\ (∀ t ∈ ys.take i, zs.contains t = false) /\ ∃ v, σ = [some (.ref c), some (.ref p), v]) ⟨rfl, by simp, none, rfl⟩ ?_ ?_ ?_
     . rintro i σ H' _ ⟨rfl, _⟩
       exact SqL.of hb2
     . rintro i x σ H' hi ⟨rfl, ht, v, rfl⟩
       rw [List.getElem?_map] at hi
       obtain ⟨t, hti, rfl⟩ := Option.map_eq_some_iff.mp hi
       refine ⟨_, rfl, _, rfl, p, _, rfl, .inl (SqL.of hp2), rfl, A1q _, _, rfl, ?_⟩
       have hlt : i < ys.length := (List.getElem?_eq_some_iff.mp hti).1
       have et : ys.take (i + 1) = ys.take i ++ [t] := by
         rw [List.take_succ_eq_append_getElem hlt, (List.getElem?_eq_some_iff.mp hti).2]
       cases hc : zs.contains t with
       | false =>
         rw [show (if false = true then !inV (V.str t) (zs.map V.str) else inV (V.str t) (zs.map V.str)) = false by rw [if_neg Bool.false_ne_true, A4z, hc]]
         refine J9 ⟨rfl, fun t' h' => ?_, _, rfl⟩
         rw [et] at h'
         rcases List.mem_append.mp h' with h' | h'
         . exact ht t' h'
         . rw [List.mem_singleton.mp h']; exact hc
       | true =>
         rw [show (if false = true then !inV (V.str t) (zs.map V.str) else inV (V.str t) (zs.map V.str)) = true by rw [if_neg Bool.false_ne_true, A4z, hc]]
         obtain ⟨dx', hc3⟩ := ct.ins
         refine Z3 ⟨_, rfl, _, rfl, fun d H4 s4 nd e4 => ?_⟩
         refine k2 t ?_ a' d H4 (x2.trans (.of s4)) ((u1.free n1)) (ct.same s4) (x2.none hc3 nd) e4
         unfold hit
         rw [List.find?_eq_some_iff_append]
         refine ⟨hc, ys.take i, ys.drop (i + 1), ?_, fun t' h' => by rw [ht t' h']; rfl⟩
         have := List.take_append_drop (i + 1) ys
         rw [et] at this
         rw [List.append_assoc] at this
         exact this.symm
     . rintro σ H' ⟨rfl, ht, v, rfl⟩
       refine k1 ?_ a' _ x2 (u1.free n1) ct
       unfold hit
       rw [List.find?_eq_none]
       rw [List.length_map, List.take_length] at ht
       intro t hm
       rw [ht t hm]
       exact Bool.false_ne_true
   . exact ⟨_, rfl, _, rfl, .inr ⟨bad, k⟩⟩
end
def Wy.goes (y : Wy) (s last part : Int) : Bool := match y with
 | .down => false
 | .up => true
 | .floor => decide (V.int s = V.int 1)
 | .ceiling => decide (V.int s = V.int 0)
 | .halfUp => decide (part >= 2)
 | .halfDown => decide (V.int part = V.int 3)
 | .halfEven => if decide (V.int part = V.int 3) = true then true else if decide (V.int part = V.int 2) = true then decide (V.int (last % 2) = V.int 1) else false
 | .fiveUp => inV (.int last) [.int 0, .int 5]
def Wy.toEnd (y : Wy) (s : Int) : Bool := match y with
 | .down => false
 | .up => true
 | .floor => decide (V.int s = V.int 1)
 | .ceiling => decide (V.int s = V.int 0)
 | .halfUp => true
 | .halfDown => true
 | .halfEven => true
 | .fiveUp => false
section
variable {P : Program} {w : World} {K : Frag} {mg : Str -> Option Value} {base : Heap}
def A5d (y : Wy) : Sp := fun vs H Q _ => ∃ p s l t, vs = [.ref p, .int s, .int l, .int t] /\ ∀ H', Same H H' -> Q (.bl (y.goes s l t)) H'
def A1e (y : Wy) : Sp := fun vs H Q _ => ∃ p s, vs = [.ref p, .int s] /\ ∀ H', Same H H' -> Q (.bl (y.toEnd s)) H'
def Z8d (P : Program) (w : World) (K : Frag) (mg : Str -> Option Value) (base : Heap) (C : Addr) (y : Wy) : Prop := Has P w K mg base C "goes_up" 1 ["self", "sign", "last", "part"] (A5d y)
def Z7m (P : Program) (w : World) (K : Frag) (mg : Str -> Option Value) (base : Heap) (C : Addr) (y : Wy) : Prop := Has P w K mg base C "to_end" 1 ["self", "sign"] (A1e y)
abbrev sU0 : Stmt := (D5 (top 47) 1)
theorem scU0 : FnScope ["self", "sign", "last", "part"] ["self", "sign", "last", "part"] (A1 sU0) := scK
theorem Z6s {f : Addr} {fd : FuncData} (F : Fun K "goes_up" "Down.goes_up" sU0 f fd) : FnOk P w K mg base (CX1 P w) 1 f fd ["self", "sign", "last", "part"] (A5d .down) := by
 refine FnOk.up (F.ok scU0 (fun vs H Q E h => ?_) (fun cdv A outer s H vs Q E hr h => ?_))
 . obtain ⟨p, z, l, t, rfl, _⟩ := h
   rfl
 . obtain ⟨p, z, l, t, rfl, k⟩ := h
   refine ⟨_, (A6 (B0 A2b)), ?_⟩
   exact k H (Same.refl H)
abbrev sT0 : Stmt := (D5 (top 47) 2)
theorem scT0 : FnScope ["self", "sign"] ["self", "sign"] (A1 sT0) := scK
theorem Z9h {f : Addr} {fd : FuncData} (F : Fun K "to_end" "Down.to_end" sT0 f fd) : FnOk P w K mg base (CX1 P w) 1 f fd ["self", "sign"] (A1e .down) := by
 refine FnOk.up (F.ok scT0 (fun vs H Q E h => ?_) (fun cdv A outer s H vs Q E hr h => ?_))
 . obtain ⟨p, z, rfl, _⟩ := h
   rfl
 . obtain ⟨p, z, rfl, k⟩ := h
   refine ⟨_, (A6 (B0 A2b)), ?_⟩
   exact k H (Same.refl H)
abbrev sU1 : Stmt := (D5 (top 48) 1)
theorem scU1 : FnScope ["self", "sign", "last", "part"] ["self", "sign", "last", "part"] (A1 sU1) := scK
theorem Z8k {f : Addr} {fd : FuncData} (F : Fun K "goes_up" "Up.goes_up" sU1 f fd) : FnOk P w K mg base (CX1 P w) 1 f fd ["self", "sign", "last", "part"] (A5d .up) := by
 refine FnOk.up (F.ok scU1 (fun vs H Q E h => ?_) (fun cdv A outer s H vs Q E hr h => ?_))
 . obtain ⟨p, z, l, t, rfl, _⟩ := h
   rfl
 . obtain ⟨p, z, l, t, rfl, k⟩ := h
   refine ⟨_, (A6 (B0 A2b)), ?_⟩
   exact k H (Same.refl H)
abbrev sT1 : Stmt := (D5 (top 48) 2)
theorem scT1 : FnScope ["self", "sign"] ["self", "sign"] (A1 sT1) := scK
theorem Z7t {f : Addr} {fd : FuncData} (F : Fun K "to_end" "Up.to_end" sT1 f fd) : FnOk P w K mg base (CX1 P w) 1 f fd ["self", "sign"] (A1e .up) := by
 refine FnOk.up (F.ok scT1 (fun vs H Q E h => ?_) (fun cdv A outer s H vs Q E hr h => ?_))
 . obtain ⟨p, z, rfl, _⟩ := h
   rfl
 . obtain ⟨p, z, rfl, k⟩ := h
   refine ⟨_, (A6 (B0 A2b)), ?_⟩
   exact k H (Same.refl H)
abbrev sU2 : Stmt := (D5 (top 49) 1)
theorem scU2 : FnScope ["self", "sign", "last", "part"] ["self", "sign", "last", "part"] (A1 sU2) := scK
theorem Z8x {f : Addr} {fd : FuncData} (F : Fun K "goes_up" "Floor.goes_up" sU2 f fd) : FnOk P w K mg base (CX1 P w) 1 f fd ["self", "sign", "last", "part"] (A5d .floor) := by
 refine FnOk.up (F.ok scU2 (fun vs H Q E h => ?_) (fun cdv A outer s H vs Q E hr h => ?_))
 . obtain ⟨p, z, l, t, rfl, _⟩ := h
   rfl
 . obtain ⟨p, z, l, t, rfl, k⟩ := h
   refine ⟨_, (A6 (B0 (G3 G8 (pv 1) A3 (B8 _)))), ?_⟩
   exact ⟨_, rfl, rfl, k H (Same.refl H)⟩
abbrev sT2 : Stmt := (D5 (top 49) 2)
theorem scT2 : FnScope ["self", "sign"] ["self", "sign"] (A1 sT2) := scK
theorem Z8z {f : Addr} {fd : FuncData} (F : Fun K "to_end" "Floor.to_end" sT2 f fd) : FnOk P w K mg base (CX1 P w) 1 f fd ["self", "sign"] (A1e .floor) := by
 refine FnOk.up (F.ok scT2 (fun vs H Q E h => ?_) (fun cdv A outer s H vs Q E hr h => ?_))
 . obtain ⟨p, z, rfl, _⟩ := h
   rfl
 . obtain ⟨p, z, rfl, k⟩ := h
   refine ⟨_, (A6 (B0 (G3 G8 (pv 1) A3 (B8 _)))), ?_⟩
   exact ⟨_, rfl, rfl, k H (Same.refl H)⟩
abbrev sU3 : Stmt := (D5 (top 50) 1)
theorem scU3 : FnScope ["self", "sign", "last", "part"] ["self", "sign", "last", "part"] (A1 sU3) := scK
theorem Z7y {f : Addr} {fd : FuncData} (F : Fun K "goes_up" "Ceiling.goes_up" sU3 f fd) : FnOk P w K mg base (CX1 P w) 1 f fd ["self", "sign", "last", "part"] (A5d .ceiling) := by
 refine FnOk.up (F.ok scU3 (fun vs H Q E h => ?_) (fun cdv A outer s H vs Q E hr h => ?_))
 . obtain ⟨p, z, l, t, rfl, _⟩ := h
   rfl
 . obtain ⟨p, z, l, t, rfl, k⟩ := h
   refine ⟨_, (A6 (B0 (G3 G8 (pv 1) A3 (B8 _)))), ?_⟩
   exact ⟨_, rfl, rfl, k H (Same.refl H)⟩
abbrev sT3 : Stmt := (D5 (top 50) 2)
theorem scT3 : FnScope ["self", "sign"] ["self", "sign"] (A1 sT3) := scK
theorem Z7s {f : Addr} {fd : FuncData} (F : Fun K "to_end" "Ceiling.to_end" sT3 f fd) : FnOk P w K mg base (CX1 P w) 1 f fd ["self", "sign"] (A1e .ceiling) := by
 refine FnOk.up (F.ok scT3 (fun vs H Q E h => ?_) (fun cdv A outer s H vs Q E hr h => ?_))
 . obtain ⟨p, z, rfl, _⟩ := h
   rfl
 . obtain ⟨p, z, rfl, k⟩ := h
   refine ⟨_, (A6 (B0 (G3 G8 (pv 1) A3 (B8 _)))), ?_⟩
   exact ⟨_, rfl, rfl, k H (Same.refl H)⟩
abbrev sU4 : Stmt := (D5 (top 51) 1)
theorem scU4 : FnScope ["self", "sign", "last", "part"] ["self", "sign", "last", "part"] (A1 sU4) := scK
theorem Z7z {f : Addr} {fd : FuncData} (F : Fun K "goes_up" "HalfUp.goes_up" sU4 f fd) : FnOk P w K mg base (CX1 P w) 1 f fd ["self", "sign", "last", "part"] (A5d .halfUp) := by
 refine FnOk.up (F.ok scU4 (fun vs H Q E h => ?_) (fun cdv A outer s H vs Q E hr h => ?_))
 . obtain ⟨p, z, l, t, rfl, _⟩ := h
   rfl
 . obtain ⟨p, z, l, t, rfl, k⟩ := h
   refine ⟨_, (A6 (B0 (G3 U8e (pv 3) A3 (B8 _)))), ?_⟩
   exact ⟨_, rfl, _, _, rfl, rfl, k H (Same.refl H)⟩
abbrev sT4 : Stmt := (D5 (top 51) 2)
theorem scT4 : FnScope ["self", "sign"] ["self", "sign"] (A1 sT4) := scK
theorem Z9d {f : Addr} {fd : FuncData} (F : Fun K "to_end" "HalfUp.to_end" sT4 f fd) : FnOk P w K mg base (CX1 P w) 1 f fd ["self", "sign"] (A1e .halfUp) := by
 refine FnOk.up (F.ok scT4 (fun vs H Q E h => ?_) (fun cdv A outer s H vs Q E hr h => ?_))
 . obtain ⟨p, z, rfl, _⟩ := h
   rfl
 . obtain ⟨p, z, rfl, k⟩ := h
   refine ⟨_, (A6 (B0 A2b)), ?_⟩
   exact k H (Same.refl H)
abbrev sU5 : Stmt := (D5 (top 52) 1)
theorem scU5 : FnScope ["self", "sign", "last", "part"] ["self", "sign", "last", "part"] (A1 sU5) := scK
theorem Z9c {f : Addr} {fd : FuncData} (F : Fun K "goes_up" "HalfDown.goes_up" sU5 f fd) : FnOk P w K mg base (CX1 P w) 1 f fd ["self", "sign", "last", "part"] (A5d .halfDown) := by
 refine FnOk.up (F.ok scU5 (fun vs H Q E h => ?_) (fun cdv A outer s H vs Q E hr h => ?_))
 . obtain ⟨p, z, l, t, rfl, _⟩ := h
   rfl
 . obtain ⟨p, z, l, t, rfl, k⟩ := h
   refine ⟨_, (A6 (B0 (G3 G8 (pv 3) A3 (B8 _)))), ?_⟩
   exact ⟨_, rfl, rfl, k H (Same.refl H)⟩
abbrev sT5 : Stmt := (D5 (top 52) 2)
theorem scT5 : FnScope ["self", "sign"] ["self", "sign"] (A1 sT5) := scK
theorem Z7f {f : Addr} {fd : FuncData} (F : Fun K "to_end" "HalfDown.to_end" sT5 f fd) : FnOk P w K mg base (CX1 P w) 1 f fd ["self", "sign"] (A1e .halfDown) := by
 refine FnOk.up (F.ok scT5 (fun vs H Q E h => ?_) (fun cdv A outer s H vs Q E hr h => ?_))
 . obtain ⟨p, z, rfl, _⟩ := h
   rfl
 . obtain ⟨p, z, rfl, k⟩ := h
   refine ⟨_, (A6 (B0 A2b)), ?_⟩
   exact k H (Same.refl H)
abbrev sU6 : Stmt := (D5 (top 53) 1)
theorem scU6 : FnScope ["self", "sign", "last", "part"] ["self", "sign", "last", "part"] (A1 sU6) := scK
theorem Z7k {f : Addr} {fd : FuncData} (F : Fun K "goes_up" "HalfEven.goes_up" sU6 f fd) : FnOk P w K mg base (CX1 P w) 1 f fd ["self", "sign", "last", "part"] (A5d .halfEven) := by
 refine FnOk.up (F.ok scU6 (fun vs H Q E h => ?_) (fun cdv A outer s H vs Q E hr h => ?_))
 . obtain ⟨p, z, l, t, rfl, _⟩ := h
   rfl
 . obtain ⟨p, z, l, t, rfl, k⟩ := h
   refine ⟨_, (A6 (B0 (Z0p (G3 G8 (pv 3) A3 (B8 _)) (A5b (A8p (G3 G8 (pv 3) A3 (B8 _)) (A5b (G3 G8 (B3 V6 (pv 2) A3) A3 (B8 _)))))))), ?_⟩
   have k := k H (Same.refl H)
   unfold Wy.goes at k
   refine ⟨_, rfl, rfl, _, rfl, ?_⟩
   cases e : decide (V.int t = V.int 3) with
   | true => rw [e] at k; exact Z3 k
   | false =>
     rw [e] at k
     refine J9 ⟨_, rfl, rfl, _, rfl, ?_⟩
     cases e2 : decide (V.int t = V.int 2) with
     | true => rw [e2] at k; exact Z3 ⟨_, rfl, _, _, rfl, rfl, (by decide : (0 : Int) < 2), rfl, k⟩
     | false => rw [e2] at k; exact J9 k
abbrev sT6 : Stmt := (D5 (top 53) 2)
theorem scT6 : FnScope ["self", "sign"] ["self", "sign"] (A1 sT6) := scK
theorem Z9g {f : Addr} {fd : FuncData} (F : Fun K "to_end" "HalfEven.to_end" sT6 f fd) : FnOk P w K mg base (CX1 P w) 1 f fd ["self", "sign"] (A1e .halfEven) := by
 refine FnOk.up (F.ok scT6 (fun vs H Q E h => ?_) (fun cdv A outer s H vs Q E hr h => ?_))
 . obtain ⟨p, z, rfl, _⟩ := h
   rfl
 . obtain ⟨p, z, rfl, k⟩ := h
   refine ⟨_, (A6 (B0 A2b)), ?_⟩
   exact k H (Same.refl H)
abbrev sU7 : Stmt := (D5 (top 54) 1)
theorem scU7 : FnScope ["self", "sign", "last", "part"] ["self", "sign", "last", "part"] (A1 sU7) := scK
theorem Z6n {f : Addr} {fd : FuncData} (F : Fun K "goes_up" "FiveUp.goes_up" sU7 f fd) : FnOk P w K mg base (CX1 P w) 1 f fd ["self", "sign", "last", "part"] (A5d .fiveUp) := by
 refine FnOk.up (F.ok scU7 (fun vs H Q E h => ?_) (fun cdv A outer s H vs Q E hr h => ?_))
 . obtain ⟨p, z, l, t, rfl, _⟩ := h
   rfl
 . obtain ⟨p, z, l, t, rfl, k⟩ := h
   refine ⟨_, (A6 (B0 (G3 B6f (pv 2) (A3j (A0 A3 (A0 A3 A5))) (by rfl)))), ?_⟩
   exact ⟨_, rfl, D7 (by decide), fun q nq => ⟨q, _, rfl, .inr (SqT.of A7), rfl, rfl, k _ (Same.upd nq)⟩⟩
abbrev sT7 : Stmt := (D5 (top 54) 2)
theorem scT7 : FnScope ["self", "sign"] ["self", "sign"] (A1 sT7) := scK
theorem Z7n {f : Addr} {fd : FuncData} (F : Fun K "to_end" "FiveUp.to_end" sT7 f fd) : FnOk P w K mg base (CX1 P w) 1 f fd ["self", "sign"] (A1e .fiveUp) := by
 refine FnOk.up (F.ok scT7 (fun vs H Q E h => ?_) (fun cdv A outer s H vs Q E hr h => ?_))
 . obtain ⟨p, z, rfl, _⟩ := h
   rfl
 . obtain ⟨p, z, rfl, k⟩ := h
   refine ⟨_, (A6 (B0 A2b)), ?_⟩
   exact k H (Same.refl H)
end
abbrev A2s : Stmt := (top 31)
abbrev A0k : Stmt := (top 32)
abbrev U7 : Stmt := (top 33)
abbrev A2v : Stmt := (top 34)
abbrev A2r : Stmt := (top 35)
abbrev A8f : Stmt := (top 36)
abbrev A7z : Stmt := (top 37)
abbrev A2d : Stmt := (top 38)
abbrev A1z : Stmt := (top 39)
abbrev A1d : Stmt := (top 40)
structure Cv where
 r : Int
 y : Wy
 l : Int
 m : Int
structure Cv.Ok (c : Cv) : Prop where
 r1 : 1 <= c.r
 r2 : c.r <= 24
 l1 : -60 <= c.l
 l2 : c.l <= 0
 m1 : 0 <= c.m
 m2 : c.m <= 60
def Y3 (ideal : Int) : Nat -> Int -> Int -> Int × Int
 | 0, f, p => (f, p)
 | n + 1, f, p => if f % 10 = 0 then Y3 ideal n (f / 10) (p + 1) else (f, p)
def J1 (ideal f p : Int) : Int × Int := Y3 ideal (ideal - p).toNat f p
theorem G7w {ideal f p : Int} (h : p < ideal) (z : f % 10 = 0) : J1 ideal f p = J1 ideal (f / 10) (p + 1) := by
 unfold J1
 obtain ⟨n, hn⟩ : ∃ n, (ideal - p).toNat = n + 1 := ⟨(ideal - p).toNat - 1, by omega⟩
 rw [hn, show (ideal - (p + 1)).toNat = n by omega]
 show (if f % 10 = 0 then Y3 ideal n (f / 10) (p + 1) else (f, p)) = _
 rw [if_pos z]
theorem G9d {ideal f p : Int} (h : ¬ (p < ideal /\ f % 10 = 0)) : J1 ideal f p = (f, p) := by
 unfold J1
 by_cases q : p < ideal
 . obtain ⟨n, hn⟩ : ∃ n, (ideal - p).toNat = n + 1 := ⟨(ideal - p).toNat - 1, by omega⟩
   rw [hn]
   show (if f % 10 = 0 then Y3 ideal n (f / 10) (p + 1) else (f, p)) = _
   rw [if_neg fun z => h ⟨q, z⟩]
 . rw [show (ideal - p).toNat = 0 by omega]
   rfl
def V3 (f : Int) : Int := ((Str.ofString (toString f)).length : Nat)
def upI (y : Wy) (s wh pt : Int) : Int := if (if pt = 0 then false else y.goes s (wh % 10) pt) = true then wh + 1 else wh
def Z5 (r f q : Int) : Int × Int := if f = A2 r then (f / 10, q + 1) else (f, q)
def A1c (c : Cv) (s wh pt q ideal : Int) : Int × Int := if pt = 0 then J1 ideal wh q else Z5 c.r (upI c.y s wh pt) q
def U9 (m f p : Int) : Bool := if f = 0 then false else decide (p + V3 f - 1 > m)
def G8e (c : Cv) (s : Int) : Nm := if c.y.toEnd s = true then ⟨.end_, s, 0, 0⟩ else ⟨.plain, s, A2 c.r - 1, c.m - c.r + 1⟩
def Z6 (pt : Int) (cut : Bool) : List Str := if pt = 0 then (if cut = true then ["cut"] else []) else ["off", "cut"]
def V7 (l L pt : Int) : List Str := if L >= l then [] else if pt = 0 then ["faint"] else ["sunk", "faint"]
def Y2 (c : Cv) (s wh pt L q ideal : Int) : Nm × List Str :=
 if U9 c.m (A1c c s wh pt q ideal).1 (A1c c s wh pt q ideal).2 = true then (G8e c s, ["burst", "off", "cut"])
 else (⟨.plain, s, (A1c c s wh pt q ideal).1, (A1c c s wh pt q ideal).2⟩, Z6 pt (decide ((A1c c s wh pt q ideal).2 > ideal)) ++ V7 c.l L pt)
def B5v (a b : Int) : Int := if b > a then b else a
def Z2z (a b : Int) : Int := if b < a then b else a
def CtxV (CC : Addr) (H : Hp) (c : Addr) (v : Cv) (a b : Addr) (xs ys : List Str) : Prop := CtxAt CC H c v.r v.y v.l v.m a b (xs.map V.str) (ys.map V.str)
theorem CtxV.same {CC : Addr} {H H' : Hp} {c : Addr} {v : Cv} {a b : Addr} {xs ys : List Str} (h : CtxV CC H c v a b xs ys) (e : Same H H') : CtxV CC H' c v a b xs ys := CtxAt.same h e
theorem C1s {CN : Addr} {H : Hp} {Q : VK} {E : XK} {k s f p : V} (h : ∀ n H', H n = none -> Same H H' -> NumAt CN H' n k s f p -> Q (.ref n) H') :
   ∀ x dx, H x = none -> H dx = none -> dx ≠ x -> D3f CN (.ref x :: ([k, s, f, p] ++ [])) (upd (upd H dx (.own x)) x (.ins CN dx [])) (fun v H2 => v = .non /\ Q (.ref x) H2) E := by
 intro x dx nx nd ne
 refine ⟨x, dx, k, s, f, p, rfl, A7, fun H' e kp => ⟨rfl, h x H' nx (fun b o z => ?_) ⟨dx, e⟩⟩⟩
 refine kp b o ?_ (B7 z nx)
 rw [C0 (B7 z nx), C0 (B7 z nd)]
 exact z
section
variable {P : Program} {w : World} {K : Frag} {mg : Str -> Option Value} {base : Heap}
structure CtxM (P : Program) (w : World) (K : Frag) (mg : Str -> Option Value) (base : Heap) (CC CB CT CW : Addr) (cw : Wy -> Addr) : Prop where
 c : CtxC K mg CC
 way : Has P w K mg base CC "way" 2 ["self"] (C1p CC cw)
 low : Has P w K mg base CC "lowest" 1 ["self"] (C1g CC)
 raised : Has P w K mg base CC "raised" 3 ["self", "names"] (C2f K CC CB CT)
 wc : ∀ y : Wy, WayC K mg y.cls (cw y) CW
 u : ∀ y : Wy, Z8d P w K mg base (cw y) y
 e : ∀ y : Wy, Z7m P w K mg base (cw y) y
def D0s (CN : Addr) : Sp := fun vs H Q _ => ∃ i s f p : Int, vs = [.int i, .int s, .int f, .int p] /\ ∀ n H', H n = none -> Same H H' -> NumIs CN H' n ⟨.plain, s, (J1 i f p).1, (J1 i f p).2⟩ -> Q (.ref n) H'
theorem scNearest : FnScope ["ideal", "sign", "figures", "power"] ["ideal", "sign", "figures", "power"] (A1 A0k) := scK
theorem G8v {f fI CN : Addr} {fd fdI : FuncData} (D : Def K mg "nearest_to" ["ideal", "sign", "figures", "power"] A0k f fd) (N : Num K mg CN) (M : MakeN P w K mg base CN fI fdI) : FnOk P w K mg base (CX1 P w) 3 f fd ["ideal", "sign", "figures", "power"] (D0s CN) := by
 refine FnOk.up (D.F.ok scNearest (fun vs H Q E h => ?_) (fun cdv A outer s H vs Q E hr h => ?_))
 . obtain ⟨i, s, f, p, rfl, _⟩ := h
   rfl
 . obtain ⟨i, sg, fg, pw, rfl, k⟩ := h
   have hx : D8 (Z9 CX0 P w K mg base ["ideal", "sign", "figures", "power"] "nearest_to" (A1 A0k) f cdv A outer s H E).nox EKF := J5
   refine ⟨_, (A4 (B4j PassesOwn.never (PW.pt (G8u (C5 B4t (pv 3) (pv 0) (B8 _)) (D2j (C5 G8 (B3 V6 (pv 2) A3) A3 (B8 _))))) (A4 (D0 (i := 2) scNearest.nd rfl (Or.inl rfl) (B3 G6 (pv 2) A3))
     (A6 (D0 (i := 3) scNearest.nd rfl (Or.inl rfl) (B3 J3 (pv 3) A3)))))
     (A6 (B0 (B2h M.m (FnOk.up M.g) hr N.g M.b .nil hx (A0 B5 (A0 (pv 1) (A0 (pv 2) (A0 (pv 3) A5)))))))), ?_⟩
   have d10 : (0 : Int) < 10 /\ (10 : Int).natAbs.log2 < 9000 := ⟨by decide, by decide +kernel⟩
   refine B5a (fun σ H2 => H2 = H /\ ∃ f p : Int, J1 i f p = J1 i fg pw /\ σ = [some (.int i), some (.int sg), some (.int f), some (.int p)]) (fun σ _ => match σ with | [_, _, _, some (.int p)] => (i - p).toNat | _ => 0) ?_ ?_ ?_
   . exact ⟨rfl, fg, pw, rfl, rfl⟩
   . rintro σ H2 ⟨rfl, f, p, e, rfl⟩
     have stop : ¬ (p < i /\ f % 10 = 0) -> ∀ n H', H2 n = none -> Same H2 H' -> NumAt CN H' n (.str "plain") (.int sg) (.int f) (.int p) -> Q (.ref n) H' := fun h n H' nn sm num => by
       refine k n H' nn sm ?_
       rw [<- e, G9d h]
       exact num
     refine ⟨_, rfl, _, rfl, _, _, rfl, rfl, _, rfl, U3 (fun h1 => ?_) (fun h1 => J9 ⟨_, rfl, _, rfl, _, rfl, C1s (stop fun q => h1 q.1)⟩)⟩
     refine ⟨_, rfl, _, _, rfl, rfl, d10.1, rfl, _, rfl, U3 (fun h2 => ?_) (fun h2 => ⟨_, rfl, _, rfl, _, rfl, C1s (stop fun q => h2 (congrArg V.int q.2))⟩)⟩
     have h1 : p < i := h1
     have h2 : f % 10 = 0 := by injection h2
     refine ⟨_, rfl, _, _, rfl, rfl, d10, _, rfl, _, _, rfl, rfl, ⟨rfl, f / 10, p + 1, (G7w h1 h2).symm.trans e, rfl⟩, ?_⟩
     show (i - (p + 1)).toNat < (i - p).toNat
     omega
   . rintro σ H2 Q1 Q2 hQ ⟨v, e, v2, e2, a, b, e3, e4, c, e5, q⟩
     refine ⟨v, e, v2, e2, a, b, e3, e4, c, e5, ?_⟩
     cases c with
     | false => exact J9 (hQ _ _ (by simpa using q))
     | true =>
       have q : _ := q
       rw [if_pos rfl] at q ⊢
       obtain ⟨v3, e6, a2, b2, e7, e8, e9, e10, e11, e12, q⟩ := q
       exact ⟨v3, e6, a2, b2, e7, e8, e9, e10, e11, e12, hQ _ _ q⟩
def C0e (CC : Addr) : Sp := fun vs H Q _ => ∃ c v a b xs ys p, ∃ s wh pt : Int, vs = [.ref c, .int s, .ref p] /\ CtxV CC H c v a b xs ys /\ H p = some (.tup [.int wh, .int pt]) /\ ∀ H', Same H H' -> Q (.int (upI v.y s wh pt)) H'
theorem G3b : FnScope ["context", "sign", "pair"] ["context", "sign", "pair"] (A1 U7) := scK
theorem D2n {f CC CB CT CW : Addr} {cw : Wy -> Addr} {fd : FuncData} (D : Def K mg "neighbour" ["context", "sign", "pair"] U7 f fd) (C : CtxM P w K mg base CC CB CT CW cw) : FnOk P w K mg base (CX1 P w) 3 f fd ["context", "sign", "pair"] (C0e CC) := by
 refine FnOk.up (D.F.ok G3b (fun vs H Q E h => ?_) (fun cdv A outer s H vs Q E hr h => ?_))
 . obtain ⟨c, v, a, b, xs, ys, p, sg, wh, pt, rfl, _⟩ := h
   rfl
 . obtain ⟨c, v, a, b, xs, ys, p, sg, wh, pt, rfl, hc, hp, k⟩ := h
   have hx : D8 (Z9 CX0 P w K mg base ["context", "sign", "pair"] "neighbour" (A1 U7) f cdv A outer s H E).nox EKF := J5
   obtain ⟨fW, fdW, mW, gW, bW⟩ := C.way
   obtain ⟨fU, fdU, mU, gU, bU⟩ := C.u v.y
   refine ⟨_, (A4 (G2 (PW.pt (G8u (C5 B4g (G7 G0 (pv 2) A3 (fun _ _ => rfl)) A3 (B8 _)) (D2j (U8 (C2k (A4r (pv 0) C.c.cl mW gW hr bW .nil hx) (C.wc v.y).cl mU gU hr bU .nil hx (A0 (pv 1) (A0 (B3 V6 (G7 G0 (pv 2) A3 (fun _ _ => rfl)) A3) (A0 (G7 G0 (pv 2) A3 (fun _ _ => rfl)) A5)))))))) (A6 (B0 (B3 J3 (G7 G0 (pv 2) A3 (fun _ _ => rfl)) A3))) C8)
     (A6 (B0 (G7 G0 (pv 2) A3 (fun _ _ => rfl))))), ?_⟩
   obtain ⟨⟨dx, e⟩, _, _⟩ := id hc
   unfold upI at k
   refine ⟨_, rfl, p, _, _, _, rfl, rfl, SqT.of hp, D4 (j := 1) rfl, rfl, _, rfl, ?_⟩
   by_cases h0 : pt = 0
   . subst h0
     rw [if_pos rfl, if_neg Bool.false_ne_true] at k
     exact C0a rfl (J9 ⟨_, rfl, p, _, _, _, rfl, rfl, SqT.of hp, D4 (j := 0) rfl, k H (Same.refl H)⟩)
   . rw [if_neg h0] at k
     rw [decide_eq_false (fun q => h0 (by injection q) : ¬ V.int pt = V.int 0)]
     refine Z3 ⟨_, rfl, c, dx, _, rfl, e, C1v _ _ _ _ _ _, c, v.r, v.y, v.l, v.m, a, b, _, _, rfl, hc, fun q dq H1 nq s1 eq => ?_⟩
     refine ⟨q, dq, _, rfl, eq, rfl, _, rfl, _, rfl, p, _, _, _, rfl, rfl, SqT.of (s1 _ _ hp), D4 (j := 0) rfl, _, _, rfl, rfl, (by decide : (0 : Int) < 10), _, rfl, p, _, _, _, rfl, rfl, SqT.of (s1 _ _ hp), D4 (j := 1) rfl, q, sg, wh % 10, pt, rfl, fun H2 s2 => ⟨_, rfl, ?_⟩⟩
     have s3 := s1.trans s2
     cases g : v.y.goes sg (wh % 10) pt with
     | true =>
       rw [g, if_pos rfl] at k
       exact Z3 ⟨_, rfl, p, _, _, _, rfl, rfl, SqT.of (s3 _ _ hp), D4 (j := 0) rfl, _, _, rfl, rfl, k H2 s3⟩
     | false =>
       rw [g, if_neg Bool.false_ne_true] at k
       exact J9 ⟨_, rfl, p, _, _, _, rfl, rfl, SqT.of (s3 _ _ hp), D4 (j := 0) rfl, k H2 s3⟩
def G2q (CN CC : Addr) : Sp := fun vs H Q _ => ∃ c v a b xs ys, ∃ s f q : Int, vs = [.ref c, .int s, .int f, .int q] /\ CtxV CC H c v a b xs ys /\ v.Ok /\ ∀ n H', H n = none -> Same H H' -> NumIs CN H' n ⟨.plain, s, (Z5 v.r f q).1, (Z5 v.r f q).2⟩ -> Q (.ref n) H'
theorem V0r : FnScope ["context", "sign", "figures", "power"] ["context", "sign", "figures", "power"] (A1 A2v) := scK
theorem U1x {f f1 fI CN CC CB CT CW : Addr} {cw : Wy -> Addr} {fd fd1 fdI : FuncData} (D : Def K mg "within_room" ["context", "sign", "figures", "power"] A2v f fd) (D_ten_to : Def K mg "ten_to" ["count"] Z7 f1 fd1) (G_ten_to : FnOk P w K mg base (CX1 P w) 2 f1 fd1 ["count"] A4x) (C : CtxM P w K mg base CC CB CT CW cw) (N : Num K mg CN) (M : MakeN P w K mg base CN fI fdI) :
   FnOk P w K mg base (CX1 P w) 3 f fd ["context", "sign", "figures", "power"] (G2q CN CC) := by
 refine FnOk.up (D.F.ok V0r (fun vs H Q E h => ?_) (fun cdv A outer s H vs Q E hr h => ?_))
 . obtain ⟨c, v, a, b, xs, ys, sg, f, q, rfl, _⟩ := h
   rfl
 . obtain ⟨c, v, a, b, xs, ys, sg, fg, q, rfl, hc, ok, k⟩ := h
   have hx : D8 (Z9 CX0 P w K mg base ["context", "sign", "figures", "power"] "within_room" (A1 A2v) f cdv A outer s H E).nox EKF := J5
   refine ⟨_, (A4 (G2 (C5 G8 (pv 2) (B9 D_ten_to G_ten_to hr hx (A0 (C7 (pv 0) rfl) A5)) (B8 _)) (A6 (B0 (B2h M.m (FnOk.up M.g) hr N.g M.b .nil hx (A0 B5 (A0 (pv 1) (A0 (B3 G6 (pv 2) A3) (A0 (B3 J3 (pv 3) A3) A5))))))) C8)
     (A6 (B0 (B2h M.m (FnOk.up M.g) hr N.g M.b .nil hx (A0 B5 (A0 (pv 1) (A0 (pv 2) (A0 (pv 3) A5)))))))), ?_⟩
   have d10 : (0 : Int) < 10 /\ (10 : Int).natAbs.log2 < 9000 := ⟨by decide, by decide +kernel⟩
   obtain ⟨⟨dx, e⟩, _, _⟩ := id hc
   have r1 := ok.r1; have r2 := ok.r2
   refine ⟨_, rfl, _, rfl, c, CC, dx, _, _, rfl, e, C.c.cl, C.c.n_room, A7v _ _ _ _ _ _, v.r.toNat, (by rw [Int.toNat_of_nonneg (by omega)]; rfl), by omega, rfl, _, rfl, ?_⟩
   unfold Z5 at k
   refine U3 (fun h => ?_) (fun h => ?_)
   . have h : fg = A2 v.r := by injection h
     rw [if_pos h] at k
     exact ⟨_, rfl, _, rfl, _, _, rfl, rfl, d10, _, rfl, _, _, rfl, rfl, C1s k⟩
   . have h : ¬ fg = A2 v.r := fun z => h (congrArg V.int z)
     rw [if_neg h] at k
     exact ⟨_, rfl, _, rfl, _, rfl, C1s k⟩
def G2n (CN CC : Addr) : Sp := fun vs H Q _ => ∃ c v a b xs ys n x, vs = [.ref c, .ref n] /\ CtxV CC H c v a b xs ys /\ NumIs CN H n x /\ x.f.natAbs < 2 ^ 300 /\ Q (.bl (U9 v.m x.f x.p)) H
theorem V1c : FnScope ["context", "number"] ["context", "number"] (A1 A2r) := scK
theorem U2e {f f1 CN CC CB CT CW : Addr} {cw : Wy -> Addr} {fd fd1 : FuncData} (D : Def K mg "is_beyond" ["context", "number"] A2r f fd) (D_lead_of : Def K mg "lead_of" ["number"] C2g f1 fd1) (G_lead_of : FnOk P w K mg base (CX1 P w) 1 f1 fd1 ["number"] (V0w CN)) (C : CtxM P w K mg base CC CB CT CW cw) (N : Num K mg CN) :
   FnOk P w K mg base (CX1 P w) 2 f fd ["context", "number"] (G2n CN CC) := by
 refine FnOk.up (D.F.ok V1c (fun vs H Q E h => ?_) (fun cdv A outer s H vs Q E hr h => ?_))
 . obtain ⟨c, v, a, b, xs, ys, n, x, rfl, _⟩ := h
   rfl
 . obtain ⟨c, v, a, b, xs, ys, n, x, rfl, hc, hn, hf, k⟩ := h
   have hx : D8 (Z9 CX0 P w K mg base ["context", "number"] "is_beyond" (A1 A2r) f cdv A outer s H E).nox EKF := J5
   refine ⟨_, (A6 (B0 (A8p (G3 B4g (C7 (pv 1) rfl) A3 (B8 _)) (A5b (G3 J9n (B9 D_lead_of G_lead_of hr hx (A0 (pv 1) A5)) (C7 (pv 0) rfl) (B8 _)))))), ?_⟩
   obtain ⟨⟨dx, e⟩, _, _⟩ := id hc
   obtain ⟨dn, en⟩ := id hn
   unfold U9 at k
   refine ⟨_, rfl, n, CN, dn, _, _, rfl, en, N.cl, N.n3, D2h _ _ _ _, rfl, _, rfl, ?_⟩
   by_cases h0 : x.f = 0
   . rw [if_pos h0] at k
     rw [decide_eq_true (congrArg V.int h0)]
     exact J9 k
   . rw [if_neg h0] at k
     rw [decide_eq_false (fun q => h0 (by injection q) : ¬ V.int x.f = V.int 0)]
     exact Z3 ⟨_, rfl, n, _, _, _, _, rfl, hn, hf, _, rfl, c, CC, dx, _, _, rfl, e, C.c.cl, C.c.n_most, C2m _ _ _ _ _ _, _, _, rfl, rfl, k⟩
def J8z (CN CC : Addr) : Sp := fun vs H Q _ => ∃ c v a b xs ys, ∃ s : Int, vs = [.ref c, .int s] /\ CtxV CC H c v a b xs ys /\ v.Ok /\ ∀ n H', H n = none -> Same H H' -> NumIs CN H' n ⟨.plain, s, A2 v.r - 1, v.m - v.r + 1⟩ -> Q (.ref n) H'
theorem Y6q : FnScope ["context", "sign"] ["context", "sign"] (A1 A7z) := scK
theorem U9d {f f1 fI CN CC CB CT CW : Addr} {cw : Wy -> Addr} {fd fd1 fdI : FuncData} (D : Def K mg "nines" ["context", "sign"] A7z f fd) (D_ten_to : Def K mg "ten_to" ["count"] Z7 f1 fd1) (G_ten_to : FnOk P w K mg base (CX1 P w) 2 f1 fd1 ["count"] A4x) (C : CtxM P w K mg base CC CB CT CW cw) (N : Num K mg CN) (M : MakeN P w K mg base CN fI fdI) :
   FnOk P w K mg base (CX1 P w) 3 f fd ["context", "sign"] (J8z CN CC) := by
 refine FnOk.up (D.F.ok Y6q (fun vs H Q E h => ?_) (fun cdv A outer s H vs Q E hr h => ?_))
 . obtain ⟨c, v, a, b, xs, ys, sg, rfl, _⟩ := h
   rfl
 . obtain ⟨c, v, a, b, xs, ys, sg, rfl, hc, ok, k⟩ := h
   have hx : D8 (Z9 CX0 P w K mg base ["context", "sign"] "nines" (A1 A7z) f cdv A outer s H E).nox EKF := J5
   refine ⟨_, (A6 (B0 (B2h M.m (FnOk.up M.g) hr N.g M.b .nil hx (A0 B5 (A0 (pv 1) (A0 (B3 U1 (B9 D_ten_to G_ten_to hr hx (A0 (C7 (pv 0) rfl) A5)) A3) (A0 (B3 J3 (B3 U1 (C7 (pv 0) rfl) (C7 (pv 0) rfl)) A3) A5))))))), ?_⟩
   obtain ⟨⟨dx, e⟩, _, _⟩ := id hc
   have r1 := ok.r1; have r2 := ok.r2
   exact ⟨_, rfl, _, rfl, c, CC, dx, _, _, rfl, e, C.c.cl, C.c.n_room, A7v _ _ _ _ _ _, v.r.toNat, (by rw [Int.toNat_of_nonneg (by omega)]; rfl), by omega, _, _, rfl, rfl, _, rfl, c, CC, dx, _, _, rfl, e, C.c.cl, C.c.n_most, C2m _ _ _ _ _ _, _, rfl, c, CC, dx, _, _, rfl, e, C.c.cl, C.c.n_room, A7v _ _ _ _ _ _, _, _, rfl, rfl, _, _, rfl, rfl, C1s k⟩
def J8c (CN CC : Addr) : Sp := fun vs H Q _ => ∃ c v a b xs ys, ∃ s : Int, vs = [.ref c, .int s] /\ CtxV CC H c v a b xs ys /\ v.Ok /\ 0 <= s /\ s <= 1 /\ ∀ n H', Same H H' -> NumIs CN H' n (G8e v s) -> Q (.ref n) H'
theorem Y4t : FnScope ["context", "sign"] ["context", "sign"] (A1 A8f) := scK
theorem V0j {f f1 f2 CN CN' CC CB CT CW : Addr} {cw : Wy -> Addr} {fd fd1 fd2 : FuncData} (D : Def K mg "burst" ["context", "sign"] A8f f fd) (D_nines : Def K mg "nines" ["context", "sign"] A7z f1 fd1) (G_nines : FnOk P w K mg base (CX1 P w) 3 f1 fd1 ["context", "sign"] (J8z CN CC)) (D_end : Def K mg "end" ["sign"] G3f f2 fd2) (G_end : FnOk P w K mg base (CX1 P w) 3 f2 fd2 ["sign"] (U8w K CN CN')) (C : CtxM P w K mg base CC CB CT CW cw) :
   FnOk P w K mg base (CX1 P w) 4 f fd ["context", "sign"] (J8c CN CC) := by
 refine FnOk.up (D.F.ok Y4t (fun vs H Q E h => ?_) (fun cdv A outer s H vs Q E hr h => ?_))
 . obtain ⟨c, v, a, b, xs, ys, sg, rfl, _⟩ := h
   rfl
 . obtain ⟨c, v, a, b, xs, ys, sg, rfl, hc, ok, s0, s1, k⟩ := h
   have hx : D8 (Z9 CX0 P w K mg base ["context", "sign"] "burst" (A1 A8f) f cdv A outer s H E).nox EKF := J5
   obtain ⟨fW, fdW, mW, gW, bW⟩ := C.way
   obtain ⟨fU, fdU, mU, gU, bU⟩ := C.e v.y
   refine ⟨_, (A6 (B0 (A1y (U8 (C2k (A4r (pv 0) C.c.cl mW gW hr bW .nil hx) (C.wc v.y).cl mU gU hr bU .nil hx (A0 (pv 1) A5))) (B9 D_end G_end hr hx (A0 (pv 1) A5)) (B9 D_nines G_nines hr hx (A0 (pv 0) (A0 (pv 1) A5)))))), ?_⟩
   obtain ⟨⟨dx, e⟩, _, _⟩ := id hc
   unfold G8e at k
   refine ⟨_, rfl, c, dx, _, rfl, e, C1v _ _ _ _ _ _, c, v.r, v.y, v.l, v.m, a, b, _, _, rfl, hc, fun q dq H1 nq t1 eq => ?_⟩
   refine ⟨q, dq, _, rfl, eq, rfl, _, rfl, q, sg, rfl, fun H2 t2 => ⟨_, rfl, ?_⟩⟩
   have t3 := t1.trans t2
   cases g : v.y.toEnd sg with
   | true =>
     rw [g, if_pos rfl] at k
     exact Z3 ⟨_, rfl, _, rfl, .inl ⟨⟨sg, rfl, s0, s1⟩, fun n H' _ sm num => k n H' (t3.trans sm) num⟩⟩
   | false =>
     rw [g, if_neg Bool.false_ne_true] at k
     exact J9 ⟨_, rfl, _, rfl, c, v, a, b, xs, ys, sg, rfl, hc.same t3, ok, fun n H' _ sm num => k n H' (t3.trans sm) num⟩
def D0n : Sp := fun vs H Q _ => ∃ (pt : Int) (cut : Bool), vs = [.int pt, .bl cut] /\ ∀ l, H l = none -> Q (.ref l) (upd H l (.lst ((Z6 pt cut).map V.str)))
theorem U2t : FnScope ["part", "is_cut"] ["part", "is_cut"] (A1 A2d) := scK
theorem G7z {f : Addr} {fd : FuncData} (D : Def K mg "signals_of_rest" ["part", "is_cut"] A2d f fd) : FnOk P w K mg base (CX1 P w) 1 f fd ["part", "is_cut"] D0n := by
 refine FnOk.up (D.F.ok U2t (fun vs H Q E h => ?_) (fun cdv A outer s H vs Q E hr h => ?_))
 . obtain ⟨pt, cut, rfl, _⟩ := h
   rfl
 . obtain ⟨pt, cut, rfl, k⟩ := h
   refine ⟨_, (A4 (G2 (C5 B4g (pv 0) A3 (B8 _)) (A6 (B0 (J2 (A0 B5 (A0 B5 A5))))) C8)
     (A6 (B0 (A1y (U8 (pv 1)) (J2 (A0 B5 A5)) (J2 A5))))), ?_⟩
   unfold Z6 at k
   refine ⟨_, rfl, rfl, _, rfl, ?_⟩
   by_cases h0 : pt = 0
   . subst h0
     rw [if_pos rfl] at k
     refine C0a rfl ⟨_, rfl, _, rfl, ?_⟩
     cases cut with
     | true => exact Z3 ⟨D7 (by decide), k⟩
     | false => exact J9 ⟨D7 (by decide), k⟩
   . rw [if_neg h0] at k
     rw [decide_eq_false (fun q => h0 (by injection q) : ¬ V.int pt = V.int 0)]
     exact Z3 ⟨D7 (by decide), k⟩
def D0q (CC : Addr) : Sp := fun vs H Q _ => ∃ c v a b xs ys, ∃ L pt : Int, vs = [.ref c, .int L, .int pt] /\ CtxV CC H c v a b xs ys /\ ∀ l, H l = none -> Q (.ref l) (upd H l (.lst ((V7 v.l L pt).map V.str)))
theorem U2s : FnScope ["context", "lead", "part"] ["context", "lead", "part"] (A1 A1z) := scK
theorem G9m {f CC CB CT CW : Addr} {cw : Wy -> Addr} {fd : FuncData} (D : Def K mg "signals_of_lead" ["context", "lead", "part"] A1z f fd) (C : CtxM P w K mg base CC CB CT CW cw) : FnOk P w K mg base (CX1 P w) 1 f fd ["context", "lead", "part"] (D0q CC) := by
 refine FnOk.up (D.F.ok U2s (fun vs H Q E h => ?_) (fun cdv A outer s H vs Q E hr h => ?_))
 . obtain ⟨c, v, a, b, xs, ys, L, pt, rfl, _⟩ := h
   rfl
 . obtain ⟨c, v, a, b, xs, ys, L, pt, rfl, hc, k⟩ := h
   refine ⟨_, (A4 (G2 (C5 U8e (pv 1) (C7 (pv 0) rfl) (B8 _)) (A6 (B0 (J2 A5))) C8)
     (A6 (B0 (A1y (C5 G8 (pv 2) A3 (B8 _)) (J2 (A0 B5 A5)) (J2 (A0 B5 (A0 B5 A5))))))), ?_⟩
   obtain ⟨⟨dx, e⟩, _, _⟩ := id hc
   unfold V7 at k
   refine ⟨_, rfl, _, rfl, c, CC, dx, _, _, rfl, e, C.c.cl, C.c.n_least, D1m _ _ _ _ _ _, _, _, rfl, rfl, _, rfl, U3 (fun h => ?_) (fun h => ?_)⟩
   . rw [if_pos h] at k
     exact ⟨D7 (by decide), k⟩
   . rw [if_neg h] at k
     refine ⟨_, rfl, rfl, _, rfl, U3 (fun h => ?_) (fun h => ?_)⟩
     . rw [if_pos (by injection h)] at k
       exact ⟨D7 (by decide), k⟩
     . rw [if_neg fun q => h (congrArg V.int q)] at k
       exact ⟨D7 (by decide), k⟩
def C3a (CN CC : Addr) : Sp := fun vs H Q _ => ∃ c v a b xs ys, ∃ s i : Int, vs = [.ref c, .int s, .int i] /\ CtxV CC H c v a b xs ys /\ ∀ n H', H n = none -> Same H H' -> NumIs CN H' n ⟨.plain, s, 0, Z2z (B5v i (v.l - v.r + 1)) v.m⟩ -> Q (.ref n) H'
theorem U8s : FnScope ["context", "sign", "ideal"] ["context", "sign", "ideal"] (A1 A1d) := scK
theorem U2b {f fI CN CC CB CT CW : Addr} {cw : Wy -> Addr} {fd fdI : FuncData} (D : Def K mg "nought" ["context", "sign", "ideal"] A1d f fd) (C : CtxM P w K mg base CC CB CT CW cw) (N : Num K mg CN) (M : MakeN P w K mg base CN fI fdI) (O : Own mg) : FnOk P w K mg base (CX1 P w) 3 f fd ["context", "sign", "ideal"] (C3a CN CC) := by
 refine FnOk.up (D.F.ok U8s (fun vs H Q E h => ?_) (fun cdv A outer s H vs Q E hr h => ?_))
 . obtain ⟨c, v, a, b, xs, ys, sg, i, rfl, _⟩ := h
   rfl
 . obtain ⟨c, v, a, b, xs, ys, sg, i, rfl, hc, k⟩ := h
   have hx : D8 (Z9 CX0 P w K mg base ["context", "sign", "ideal"] "nought" (A1 A1d) f cdv A outer s H E).nox EKF := J5
   obtain ⟨fL, fdL, mL, gL, bL⟩ := C.low
   refine ⟨_, (A6 (B0 (B2h M.m (FnOk.up M.g) hr N.g M.b .nil hx (A0 B5 (A0 (pv 1) (A0 A3 (A0 (J7 (B6b rfl) (by rfl) O.min_ boot_min (A0 (J7 (V9 rfl) (by rfl) O.max_ boot_max (A0 (pv 2) (A0 (A4r (pv 0) C.c.cl mL gL hr bL .nil hx) A5))) (A0 (C7 (pv 0) rfl) A5))) A5))))))), ?_⟩
   obtain ⟨⟨dx, e⟩, _, _⟩ := id hc
   exact ⟨_, rfl, _, rfl, _, rfl, c, dx, _, rfl, e, B2f _ _ _ _ _ _, c, v.r, v.y, v.l, v.m, a, b, _, _, rfl, hc, _, _, rfl, _, rfl, c, CC, dx, _, _, rfl, e, C.c.cl, C.c.n_most, C2m _ _ _ _ _ _, _, _, rfl, C1s k⟩
end
abbrev A0j : Stmt := (top 30)
abbrev A2f : Stmt := (top 42)
theorem C3d (i : Int) : ∀ (n : Nat) (f p : Int), 0 <= f -> 0 <= (Y3 i n f p).1 /\ (Y3 i n f p).1 <= f
 | 0, f, p, h => ⟨h, Int.le_refl _⟩
 | n + 1, f, p, h => by
   show 0 <= (if f % 10 = 0 then Y3 i n (f / 10) (p + 1) else (f, p)).1 /\ (if f % 10 = 0 then Y3 i n (f / 10) (p + 1) else (f, p)).1 <= f
   by_cases z : f % 10 = 0
   . rw [if_pos z]
     have := C3d i n (f / 10) (p + 1) (by omega)
     omega
   . rw [if_neg z]
     exact ⟨h, Int.le_refl _⟩
theorem V0m {t b u1 v1 u2 v2 d : Nat} (h : t * 10 ^ u1 < 10 * (b * 10 ^ v1)) (e : u2 + v1 <= u1 + v2 + d) : t * 10 ^ u2 < 10 ^ (d + 1) * (b * 10 ^ v2) := by
 have p : 0 < 10 ^ v1 := Nat.pow_pos (by decide)
 apply Nat.lt_of_mul_lt_mul_right (a := 10 ^ v1)
 calc t * 10 ^ u2 * 10 ^ v1 = t * 10 ^ (u2 + v1) := by rw [Nat.mul_assoc, <- Nat.pow_add]
   _ <= t * 10 ^ (u1 + v2 + d) := Nat.mul_le_mul_left t (Nat.pow_le_pow_right (by decide) e)
   _ = t * 10 ^ u1 * (10 ^ v2 * 10 ^ d) := by rw [Nat.mul_assoc, <- Nat.pow_add, <- Nat.pow_add, Nat.add_assoc]
   _ < 10 * (b * 10 ^ v1) * (10 ^ v2 * 10 ^ d) := Nat.mul_lt_mul_of_pos_right h (Nat.mul_pos (Nat.pow_pos (by decide)) (Nat.pow_pos (by decide)))
   _ = 10 ^ (d + 1) * (b * 10 ^ v2) * 10 ^ v1 := by rw [Nat.pow_succ]; ac_rfl
theorem Y6s {t b s1 s2 r : Int} (ht : Sz t) (hb : Sz b) (h : A3z t b s1) (hr : 1 <= r) (e : s2 <= s1 + (r - 1)) : 0 <= whI t b s2 /\ whI t b s2 < A2 r := by
 obtain ⟨tn, rfl, _, _⟩ := ht.nat
 obtain ⟨bn, rfl, b1, _⟩ := hb.nat
 have lp : 0 < (bn : Int) * A2 (-s2) := Int.mul_pos (by omega) (C4 _)
 refine ⟨Int.ediv_nonneg (Int.mul_nonneg (by omega) (Int.le_of_lt (C4 _))) (Int.le_of_lt lp), ?_⟩
 refine Int.ediv_lt_of_lt_mul lp ?_
 have a : tn * 10 ^ s1.toNat < 10 * (bn * 10 ^ (-s1).toNat) := Int.ofNat_lt.mp h.2
 have c := V0m (u2 := s2.toNat) (v2 := (-s2).toNat) (d := (r - 1).toNat) a (by omega)
 rw [show (r - 1).toNat + 1 = r.toNat by omega] at c
 exact Int.ofNat_lt.mpr c
theorem Y6k {r : Int} (h : r <= 24) : A2 r <= 10 ^ 24 := by
 unfold A2
 have : 10 ^ r.toNat <= 10 ^ 24 := Nat.pow_le_pow_right (by decide) (by omega)
 exact Int.ofNat_le.mpr this
theorem G8q {c : Cv} {s wh pt q i : Int} (ok : c.Ok) (h0 : 0 <= wh) (h1 : wh < A2 c.r) : (A1c c s wh pt q i).1.natAbs < 2 ^ 300 := by
 have t := Y6k ok.r2
 have big : ((10 ^ 24 : Nat) : Int) = 10 ^ 24 := by decide +kernel
 have lt : ∀ z : Int, 0 <= z -> z <= 10 ^ 24 -> z.natAbs < 2 ^ 300 := fun z a b => Nat.lt_of_le_of_lt (show z.natAbs <= 10 ^ 24 by omega) (by decide +kernel)
 unfold A1c
 split
 . have := C3d i (i - q).toNat wh q h0
   exact lt _ this.1 (by unfold J1; omega)
 . have hu : 0 <= upI c.y s wh pt /\ upI c.y s wh pt <= A2 c.r := by
     have e : upI c.y s wh pt = wh + 1 \/ upI c.y s wh pt = wh := by
       unfold upI
       generalize (if pt = 0 then false else c.y.goes s (wh % 10) pt) = g
       cases g with
       | true => exact .inl rfl
       | false => exact .inr rfl
     omega
   generalize upI c.y s wh pt = u at hu
   unfold Z5
   split
   . exact lt (u / 10) (by omega) (by omega)
   . exact lt u (by omega) (by omega)
section
variable {P : Program} {w : World} {K : Frag} {mg : Str -> Option Value} {base : Heap}
theorem U9p : FnScope ["context", "exact"] ["context", "exact"] (A1 A2s) := scK
def Cv.fin (v : Cv) (L : Int) : Int := B5v (L - v.r + 1) (v.l - v.r + 1)
def D3p (v : Cv) (s t bo n L i : Int) : Nm × List Str := Y2 v s (whI t bo (n - v.fin L)) (ptI t bo (n - v.fin L)) L (v.fin L) i
def Ends2 (CN CC CT : Addr) (H : Hp) (c : Addr) (v : Cv) (b : Addr) (xs ys : List Str) (res : Nm × List Str) (Q : VK) (E : XK) : Prop :=
 (hit ys res.2 = none -> ∀ m a' H', Exc c H H' -> CtxV CC H' c v a' b (Z4 (xs ++ res.2)) ys -> NumIs CN H' m res.1 -> Q (.ref m) H') /\
 (∀ z, hit ys res.2 = some z -> ∀ a' d H', Exc c H H' -> CtxV CC H' c v a' b (Z4 (xs ++ res.2)) ys -> H' d = some (.xd [("signal", .str z)]) -> E (.ref CT) (some d) H')
def B5z (CN CC CT CR : Addr) : Sp := fun vs H Q E => ∃ c v a b xs ys x, ∃ t bo n L s i : Int, vs = [.ref c, .int s, .ref x, .int i] /\ CtxV CC H c v a b xs ys /\ v.Ok /\ xs.length <= 900 /\ RatAt CR H x t bo n /\ Sz t /\ Sz bo /\ A3z t bo (n - L) /\ -1500 <= n - v.fin L /\ n - v.fin L <= 1500 /\ 0 <= s /\ s <= 1 /\
 Ends2 CN CC CT H c v b xs ys (D3p v s t bo n L i) Q E
theorem scSettled : FnScope ["context", "sign", "exact", "ideal", "finest", "pair", "number", "names"] ["context", "sign", "exact", "ideal"] (A1 A0j) := scK
theorem U0s : ∀ z ∈ (["burst", "off", "cut"] : List Str), z ∈ sigS := by decide +kernel
theorem U9u {pt : Int} {cut : Bool} {l L : Int} : ∀ z ∈ Z6 pt cut ++ V7 l L pt, z ∈ sigS := by
 have r : ∀ z ∈ Z6 pt cut, z ∈ sigS := by
   unfold Z6
   split
   . split
     . decide +kernel
     . decide +kernel
   . decide +kernel
 have d : ∀ z ∈ V7 l L pt, z ∈ sigS := by
   unfold V7
   split
   . decide +kernel
   . split
     . decide +kernel
     . decide +kernel
 intro z hz
 rcases List.mem_append.mp hz with h | h
 . exact r z h
 . exact d z h
theorem U9a {pt : Int} {cut : Bool} {l L : Int} : (Z6 pt cut ++ V7 l L pt).length <= 4 := by
 have r : (Z6 pt cut).length <= 2 := by
   unfold Z6
   split
   . split <;> decide
   . decide
 have d : (V7 l L pt).length <= 2 := by
   unfold V7
   split
   . decide
   . split <;> decide
 rw [List.length_append]
 omega
end
structure Exa where
 At : Hp -> Addr -> Prop
 L : Int
 wh : Int -> Int
 pt : Int -> Int
 okq : Int -> Prop
structure ExV (CR : Addr) (sp1 sp2 : Sp) (e : Exa) : Prop where
 same : ∀ H H' x, e.At H x -> Same H H' -> e.At H' x
 ins : ∀ H x, e.At H x -> ∃ dx fs, H x = some (.ins CR dx fs) /\ fs.lookup ("first" : Str) = none /\ fs.lookup ("at" : Str) = none
 first : ∀ H x (Q : VK) (E : XK), e.At H x -> (∀ H', Same H H' -> Q (.int e.L) H') -> sp1 [.ref x] H Q E
 at_ : ∀ H x q (Q : VK) (E : XK), e.At H x -> e.okq q -> (∀ p H', Same H H' -> H p = none -> H' p = some (.tup [.int (e.wh q), .int (e.pt q)]) -> Q (.ref p) H') -> sp2 [.ref x, .int q] H Q E
structure ExM (P : Program) (w : World) (K : Frag) (mg : Str -> Option Value) (base : Heap) (CR f1 f2 : Addr) (fd1 fd2 : FuncData) (sp1 sp2 : Sp) : Prop where
 cl : Cls K CR
 m1 : Meth K CR "first" f1
 g1 : FnOk P w K mg base (CX1 P w) 4 f1 fd1 ["self"] sp1
 b1 : Binds K fd1 ["self"] []
 m2 : Meth K CR "at" f2
 g2 : FnOk P w K mg base (CX1 P w) 5 f2 fd2 ["self", "power"] sp2
 b2 : Binds K fd2 ["self", "power"] []
theorem FnOk.lift {P : Program} {w : World} {K : Frag} {mg : Str -> Option Value} {base : Heap} {CX : CXT} {j k : Nat} {f : Addr} {fd : FuncData} {ps : List Str} {sp : Sp} (h : j <= k) (F : FnOk P w K mg base CX j f fd ps sp) : FnOk P w K mg base CX k f fd ps sp :=
 ⟨F.len, fun A outer s H args us vs Q E hr => F.run A outer s H args us vs Q E (hr.mono h)⟩
theorem FnOk.weak {P : Program} {w : World} {K : Frag} {mg : Str -> Option Value} {base : Heap} {CX : CXT} {k : Nat} {f : Addr} {fd : FuncData} {ps : List Str} {sp sp' : Sp} (h : ∀ vs H Q E, sp' vs H Q E -> sp vs H Q E) (F : FnOk P w K mg base CX k f fd ps sp) : FnOk P w K mg base CX k f fd ps sp' :=
 ⟨fun vs H Q E z => F.len vs H Q E (h _ _ _ _ z), fun A outer s H args us vs Q E hr e0 hb r z => F.run A outer s H args us vs Q E hr e0 hb r (h _ _ _ _ z)⟩
theorem FnOk.both {P : Program} {w : World} {K : Frag} {mg : Str -> Option Value} {base : Heap} {CX : CXT} {k : Nat} {f : Addr} {fd : FuncData} {ps : List Str} {sp sp' : Sp} (F : FnOk P w K mg base CX k f fd ps sp) (G : FnOk P w K mg base CX k f fd ps sp') : FnOk P w K mg base CX k f fd ps (fun vs H Q E => sp vs H Q E \/ sp' vs H Q E) :=
 ⟨fun vs H Q E z => z.elim (F.len vs H Q E) (G.len vs H Q E), fun A outer s H args us vs Q E hr e0 hb r z => z.elim (F.run A outer s H args us vs Q E hr e0 hb r) (G.run A outer s H args us vs Q E hr e0 hb r)⟩
section
variable {P : Program} {w : World} {K : Frag} {mg : Str -> Option Value} {base : Heap}
def D1k (CC CR : Addr) (sp1 sp2 : Sp) : Sp := fun vs H Q _ => ∃ c v a b xs ys x, ∃ ex : Exa, vs = [.ref c, .ref x] /\ CtxV CC H c v a b xs ys /\ ExV CR sp1 sp2 ex /\ ex.At H x /\ ∀ H', Same H H' -> Q (.int (B5v (ex.L - v.r + 1) (v.l - v.r + 1))) H'
theorem C2h {f CC CB CT CW CR CE g1 g2 : Addr} {cw : Wy -> Addr} {fd gd1 gd2 : FuncData} (D : Def K mg "finest_power" ["context", "exact"] A2s f fd) (C : CtxM P w K mg base CC CB CT CW cw) {sp1 sp2 : Sp} (RM : ExM P w K mg base CR g1 g2 gd1 gd2 sp1 sp2) (O : Own mg) : FnOk P w K mg base (CX1 P w) 5 f fd ["context", "exact"] (D1k CC CR sp1 sp2) := by
 refine FnOk.up (D.F.ok U9p (fun vs H Q E h => ?_) (fun cdv A outer s H vs Q E hr h => ?_))
 . obtain ⟨c, v, a, b, xs, ys, x, ex, rfl, _⟩ := h
   rfl
 . obtain ⟨c, v, a, b, xs, ys, x, ex, rfl, hc, ev, ra, k⟩ := h
   have hx : D8 (Z9 CX0 P w K mg base ["context", "exact"] "finest_power" (A1 A2s) f cdv A outer s H E).nox EKF := J5
   obtain ⟨fL, fdL, mL, gL, bL⟩ := C.low
   refine ⟨_, (A6 (B0 (J7 (V9 rfl) (by rfl) O.max_ boot_max (A0 (B3 J3 (B3 U1 (A4r (pv 1) RM.cl RM.m1 RM.g1 hr RM.b1 .nil hx) (C7 (pv 0) rfl)) A3) (A0 (A4r (pv 0) C.c.cl mL gL hr bL .nil hx) A5))))), ?_⟩
   obtain ⟨dr, fs, er, nf, _⟩ := ev.ins _ _ ra
   refine ⟨_, rfl, x, dr, _, rfl, er, nf, ev.first _ _ _ _ ra fun H1 s1 => ?_⟩
   have hc1 := hc.same s1
   obtain ⟨⟨dx, e⟩, _, _⟩ := id hc1
   exact ⟨_, rfl, c, CC, dx, _, _, rfl, e, C.c.cl, C.c.n_room, A7v _ _ _ _ _ _, _, _, rfl, rfl, _, _, rfl, rfl, _, rfl, c, dx, _, rfl, e, B2f _ _ _ _ _ _, c, v.r, v.y, v.l, v.m, a, b, _, _, rfl, hc1, _, _, rfl, k H1 s1⟩
def A5g (CN CC CT CR : Addr) (sp1 sp2 : Sp) : Sp := fun vs H Q E => ∃ c v a b xs ys x, ∃ (ex : Exa) (s i : Int), vs = [.ref c, .int s, .ref x, .int i] /\ CtxV CC H c v a b xs ys /\ v.Ok /\ xs.length <= 900 /\ ExV CR sp1 sp2 ex /\ ex.At H x /\ ex.okq (v.fin ex.L) /\ 0 <= ex.wh (v.fin ex.L) /\ ex.wh (v.fin ex.L) < A2 v.r /\ 0 <= s /\ s <= 1 /\
 Ends2 CN CC CT H c v b xs ys (Y2 v s (ex.wh (v.fin ex.L)) (ex.pt (v.fin ex.L)) ex.L (v.fin ex.L) i) Q E
theorem C0b {f f1 f2 f3 f4 f5 f6 f7 f8 CN CC CB CT CW CR CE g1 g2 : Addr} {cw : Wy -> Addr} {sp1 sp2 : Sp} {fd fd1 fd2 fd3 fd4 fd5 fd6 fd7 fd8 gd1 gd2 : FuncData} (D : Def K mg "settled" ["context", "sign", "exact", "ideal"] A0j f fd)
   (D_finest_power : Def K mg "finest_power" ["context", "exact"] A2s f1 fd1) (G_finest_power : FnOk P w K mg base (CX1 P w) 5 f1 fd1 ["context", "exact"] (D1k CC CR sp1 sp2)) (D_nearest_to : Def K mg "nearest_to" ["ideal", "sign", "figures", "power"] A0k f2 fd2) (G_nearest_to : FnOk P w K mg base (CX1 P w) 3 f2 fd2 ["ideal", "sign", "figures", "power"] (D0s CN))
   (D_neighbour : Def K mg "neighbour" ["context", "sign", "pair"] U7 f3 fd3) (G_neighbour : FnOk P w K mg base (CX1 P w) 3 f3 fd3 ["context", "sign", "pair"] (C0e CC)) (D_within_room : Def K mg "within_room" ["context", "sign", "figures", "power"] A2v f4 fd4) (G_within_room : FnOk P w K mg base (CX1 P w) 3 f4 fd4 ["context", "sign", "figures", "power"] (G2q CN CC))
   (D_is_beyond : Def K mg "is_beyond" ["context", "number"] A2r f5 fd5) (G_is_beyond : FnOk P w K mg base (CX1 P w) 2 f5 fd5 ["context", "number"] (G2n CN CC)) (D_burst : Def K mg "burst" ["context", "sign"] A8f f6 fd6) (G_burst : FnOk P w K mg base (CX1 P w) 4 f6 fd6 ["context", "sign"] (J8c CN CC))
   (D_signals_of_rest : Def K mg "signals_of_rest" ["part", "is_cut"] A2d f7 fd7) (G_signals_of_rest : FnOk P w K mg base (CX1 P w) 1 f7 fd7 ["part", "is_cut"] D0n) (D_signals_of_lead : Def K mg "signals_of_lead" ["context", "lead", "part"] A1z f8 fd8) (G_signals_of_lead : FnOk P w K mg base (CX1 P w) 1 f8 fd8 ["context", "lead", "part"] (D0q CC))
   (C : CtxM P w K mg base CC CB CT CW cw) (RM : ExM P w K mg base CR g1 g2 gd1 gd2 sp1 sp2) (N : Num K mg CN) : FnOk P w K mg base (CX1 P w) 6 f fd ["context", "sign", "exact", "ideal"] (A5g CN CC CT CR sp1 sp2) := by
 refine D.F.okE scSettled (fun vs H Q E h => ?_) (fun X cdv A outer s H vs Q E hX hr hx h => ?_)
 . obtain ⟨c, v, a, b, xs, ys, x, ex, sg, i, rfl, _⟩ := h
   rfl
 . subst hX
   obtain ⟨c, v, a, b, xs, ys, x, ex, sg, i, rfl, hc, ok, lx, ev, ra, q0, wr0, wr1, s0, s1, k⟩ := h
   obtain ⟨fR, fdR, mR, gR, bR⟩ := C.raised
   refine ⟨_, (A4 (C6 (D0 (i := 4) scSettled.nd rfl (Or.inl rfl) (B9 D_finest_power G_finest_power hr hx (A0 (pv 0) (A0 (pv 2) A5)))))
     (A4 (C6 (D0 (i := 5) scSettled.nd rfl (Or.inl rfl) (C2k (pv 2) RM.cl RM.m2 RM.g2 hr RM.b2 .nil hx (A0 (pv 4) A5))))
     (A4 (C6 (G2 (C5 G8 (G7 G0 (pv 5) A3 (fun _ _ => rfl)) A3 (B8 _)) (A6 (D0 (i := 6) scSettled.nd rfl (Or.inl rfl) (B9 D_nearest_to G_nearest_to hr hx (A0 (pv 3) (A0 (pv 1) (A0 (G7 G0 (pv 5) A3 (fun _ _ => rfl)) (A0 (pv 4) A5))))))) (A6 (D0 (i := 6) scSettled.nd rfl (Or.inl rfl) (B9 D_within_room G_within_room hr hx (A0 (pv 0) (A0 (pv 1) (A0 (B9 D_neighbour G_neighbour hr hx (A0 (pv 0) (A0 (pv 1) (A0 (pv 5) A5)))) (A0 (pv 4) A5)))))))))
     (A4 (C6 (G2 (U8 (B9 D_is_beyond G_is_beyond hr hx (A0 (pv 0) (A0 (pv 6) A5)))) (A4 (U6 (C2k (pv 0) C.c.cl mR gR hr bR .nil hx (A0 (J2 (A0 B5 (A0 B5 (A0 B5 A5)))) A5)))
     (A6 (B0 (B9 D_burst G_burst hr hx (A0 (pv 0) (A0 (pv 1) A5)))))) C8))
     (A4 (C6 (D0 (i := 7) scSettled.nd rfl (Or.inl rfl) (B9 D_signals_of_rest G_signals_of_rest hr hx (A0 (G7 G0 (pv 5) A3 (fun _ _ => rfl)) (A0 (G3 J9n (C7 (pv 6) rfl) (pv 3) (B8 _)) A5)))))
     (A4 (C6 (U6 (C2k (pv 0) C.c.cl mR gR hr bR .nil hx (A0 (B3 U8u (pv 7) (B9 D_signals_of_lead G_signals_of_lead hr hx (A0 (pv 0) (A0 (A4r (pv 2) RM.cl RM.m1 RM.g1 hr RM.b1 .nil hx) (A0 (G7 G0 (pv 5) A3 (fun _ _ => rfl)) A5))))) A5))))
     (A6 (B0 (pv 6))))))))), ?_⟩
   have wr := And.intro wr0 wr1
   unfold Y2 at k
   refine ⟨fun σ' H' => Same H H' /\ σ' = [some (.ref c), some (.int sg), some (.ref x), some (.int i), some (.int (v.fin ex.L)), none, none, none], ?_, ?_⟩
   . exact ⟨_, rfl, _, rfl, c, v, a, b, xs, ys, x, ex, rfl, hc, ev, ra, fun H' s' => ⟨s', rfl⟩⟩
   rintro σ' H1 ⟨t1, rfl⟩
   have hc1 := hc.same t1
   have ra1 := ev.same _ _ _ ra t1
   generalize v.fin ex.L = q at *
   generalize hwh : ex.wh q = wh at *
   generalize hpt : ex.pt q = pt at *
   refine ⟨fun σ' H' => ∃ p, Same H1 H' /\ H' p = some (.tup [.int wh, .int pt]) /\ σ' = [some (.ref c), some (.int sg), some (.ref x), some (.int i), some (.int q), some (.ref p), none, none], ?_, ?_⟩
   . obtain ⟨dr, fs, er, _, na⟩ := ev.ins _ _ ra1
     refine ⟨_, rfl, x, dr, _, rfl, er, na, _, rfl, ev.at_ _ _ _ _ _ ra1 q0 fun p H' s' np ep => ⟨p, s', ?_, rfl⟩⟩
     rw [hwh, hpt] at ep
     exact ep
   rintro σ' H2 ⟨p, t2, hp, rfl⟩
   have hc2 := hc1.same t2
   have sm := G8q (s := sg) (pt := pt) (q := q) (i := i) ok wr.1 wr.2
   refine ⟨fun σ' H' => ∃ m, Same H2 H' /\ H2 m = none /\ NumIs CN H' m ⟨.plain, sg, (A1c v sg wh pt q i).1, (A1c v sg wh pt q i).2⟩ /\ σ' = [some (.ref c), some (.int sg), some (.ref x), some (.int i), some (.int q), some (.ref p), some (.ref m), none], ?_, ?_⟩
   . refine ⟨_, rfl, p, _, _, _, rfl, rfl, SqT.of hp, D4 (j := 1) rfl, rfl, _, rfl, U3 (fun h => ?_) (fun h => ?_)⟩
     . have h : pt = 0 := by injection h
       refine ⟨_, rfl, _, rfl, _, rfl, p, _, _, _, rfl, rfl, SqT.of hp, D4 (j := 0) rfl, _, rfl, i, sg, wh, q, rfl, fun m H' nm s' num => ⟨m, s', nm, ?_, rfl⟩⟩
       unfold A1c
       rw [if_pos h]
       exact num
     . have h : ¬ pt = 0 := fun z => h (congrArg V.int z)
       refine ⟨_, rfl, _, rfl, _, rfl, _, rfl, _, rfl, c, v, a, b, xs, ys, p, sg, wh, pt, rfl, hc2, hp, fun H3 s3 => ?_⟩
       refine ⟨_, rfl, c, v, a, b, xs, ys, sg, _, q, rfl, hc2.same s3, ok, fun m H' nm s' num => ⟨m, s3.trans s', s3.free nm, ?_, rfl⟩⟩
       unfold A1c
       rw [if_neg h]
       exact num
   rintro σ' H3 ⟨m, t3, nm, num, rfl⟩
   have hc3 := hc2.same t3
   have tA := (t1.trans t2).trans t3
   have nmc : m ≠ c := fun z => by
     obtain ⟨⟨dx, e⟩, _, _⟩ := hc2
     rw [z, e] at nm
     cases nm
   obtain ⟨⟨dx, e3⟩, _, _⟩ := id hc3
   generalize hf : (A1c v sg wh pt q i).1 = fg at *
   generalize hg : (A1c v sg wh pt q i).2 = pw at *
   refine ⟨fun σ' H' => H' = H3 /\ U9 v.m fg pw = false /\ σ' = [some (.ref c), some (.int sg), some (.ref x), some (.int i), some (.int q), some (.ref p), some (.ref m), none], ?_, ?_⟩
   . refine ⟨_, rfl, _, rfl, c, v, a, b, xs, ys, m, _, rfl, hc3, num, sm, _, rfl, ?_⟩
     cases e : U9 v.m fg pw with
     | false => exact J9 ⟨rfl, rfl, rfl⟩
     | true =>
       rw [e, if_pos rfl] at k
       refine Z3 ⟨_, rfl, c, dx, _, rfl, e3, A3p _ _ _ _ _ _, D7 (by decide), fun l nl => ?_⟩
       have u := Same.upd (o := .lst [.str "burst", .str "off", .str "cut"]) nl
       refine ⟨c, v.r, v.y, v.l, v.m, a, b, xs, ys, .ref l, rfl, hc3.same u, by omega, .inl ⟨l, ["burst", "off", "cut"], rfl, A7, by decide, U0s, fun hn a' H4 x4 na ct => ?_, fun z hz a' d H4 x4 na ct nd ed => ?_⟩⟩
       . refine ⟨_, rfl, _, rfl, c, v, a', b, _, ys, sg, rfl, ct, ok, s0, s1, fun m' H5 s5 num5 => k.1 hn m' a' H5 (((Exc.of (tA.trans u)).trans x4).trans (.of s5)) (CtxV.same ct s5) num5⟩
       . exact k.2 z hz a' d H4 ((Exc.of (tA.trans u)).trans x4) ct ed
   rintro σ' H4 ⟨rfl, e, rfl⟩
   rw [e, if_neg Bool.false_ne_true] at k
   refine ⟨fun σ' H' => ∃ l, Same H4 H' /\ H' l = some (.lst ((Z6 pt (decide (pw > i))).map V.str)) /\ σ' = [some (.ref c), some (.int sg), some (.ref x), some (.int i), some (.int q), some (.ref p), some (.ref m), some (.ref l)], ?_, ?_⟩
   . obtain ⟨dn, en⟩ := id num
     exact ⟨_, rfl, p, _, _, _, rfl, rfl, SqT.of (t3 _ _ hp), D4 (j := 1) rfl, _, rfl, m, CN, dn, _, _, rfl, en, N.cl, N.n4, C2e _ _ _ _, _, rfl, _, _, rfl, rfl, pt, _, rfl, fun l nl => ⟨l, Same.upd nl, A7, rfl⟩⟩
   rintro σ' H5 ⟨l, t5, hl, rfl⟩
   refine ⟨fun σ' H' => hit ys (Z6 pt (decide (pw > i)) ++ V7 v.l ex.L pt) = none /\ ∃ a', Exc c H H' /\ CtxV CC H' c v a' b (Z4 (xs ++ (Z6 pt (decide (pw > i)) ++ V7 v.l ex.L pt))) ys /\ NumIs CN H' m ⟨.plain, sg, fg, pw⟩ /\ σ' = [some (.ref c), some (.int sg), some (.ref x), some (.int i), some (.int q), some (.ref p), some (.ref m), some (.ref l)], ?_, ?_⟩
   . have ra5 := ev.same _ _ _ ra1 ((t2.trans t3).trans t5)
     obtain ⟨dr, fs, er, nf, _⟩ := ev.ins _ _ ra5
     have hc5 := hc3.same t5
     refine ⟨_, rfl, c, dx, _, rfl, t5 _ _ e3, A3p _ _ _ _ _ _, _, rfl, _, rfl, _, rfl, x, dr, _, rfl, er, nf, ev.first _ _ _ _ ra5 fun H6 t6 => ?_⟩
     generalize ex.L = f at *
     refine ⟨_, rfl, p, _, _, _, rfl, rfl, SqT.of ((t5.trans t6) _ _ (t3 _ _ hp)), D4 (j := 1) rfl, c, v, a, b, xs, ys, f, pt, rfl, hc5.same t6, fun l2 nl2 => ?_⟩
     have u2 := Same.upd (o := .lst ((V7 v.l f pt).map V.str)) nl2
     have rl := U9a (pt := pt) (cut := decide (pw > i)) (l := v.l) (L := f)
     rw [List.length_append] at rl
     refine ⟨l, l2, _, _, rfl, rfl, (t6.trans u2) _ _ hl, A7, D7 (by rw [List.length_map, List.length_map]; omega), fun l3 nl3 => ?_⟩
     have u3 := Same.upd (o := .lst ((Z6 pt (decide (pw > i))).map V.str ++ (V7 v.l f pt).map V.str)) nl3
     have tB := (t6.trans u2).trans u3
     have num7 := (num.same t5).same tB
     obtain ⟨dn7, en7⟩ := id num7
     have keep : ∀ {H' : Hp}, Exc c _ H' -> NumIs CN H' m ⟨.plain, sg, fg, pw⟩ := fun x7 => ⟨dn7, x7 _ _ en7 nmc⟩
     refine ⟨c, v.r, v.y, v.l, v.m, a, b, xs, ys, .ref l3, rfl, (hc5.same tB), by omega, .inl ⟨l3, Z6 pt (decide (pw > i)) ++ V7 v.l f pt, rfl, by rw [A7, List.map_append], by rw [List.length_append]; omega, U9u, fun hn a' H8 x8 na ct => ?_, fun z hz a' d H8 x8 na ct nd ed => ?_⟩⟩
     . exact ⟨hn, a', (Exc.of (tA.trans (t5.trans tB))).trans x8, ct, keep x8, rfl⟩
     . exact k.2 z hz a' d H8 ((Exc.of (tA.trans (t5.trans tB))).trans x8) ct ed
   rintro σ' H6 ⟨hn, a', x6, ct, num6, rfl⟩
   exact ⟨_, rfl, k.1 hn m a' H6 x6 ct num6⟩
def Z8s (CR : Addr) (t bo n L : Int) : Exa := ⟨fun H x => RatAt CR H x t bo n, L, fun q => whI t bo (n - q), fun q => ptI t bo (n - q), fun q => -1500 <= n - q /\ n - q <= 1500⟩
theorem ratV {CR : Addr} {t bo n L : Int} (ht : Sz t) (hb : Sz bo) (hL : A3z t bo (n - L)) : ExV CR (A3x CR) (C1m CR) (Z8s CR t bo n L) where
 same := fun _ _ _ h s => RatAt.same h s
 ins := fun _ _ h => by
   obtain ⟨dx, e⟩ := h
   exact ⟨dx, _, e, D2g _ _ _, D1g _ _ _⟩
 first := fun H x Q E h k => ⟨x, t, bo, n, rfl, h, ht, hb, fun f H' s ld => by
   have ef : f = L := by
     have := Y6w (show 0 < bo by have := hb.1; omega) ld hL
     omega
   rw [ef]
   exact k H' s⟩
 at_ := fun H x q Q E h ok k => ⟨x, t, bo, n, q, rfl, h, ht, hb, ok.1, ok.2, fun p H' s np ep => k p H' s np ep⟩
theorem ratM {CR CE g1 g2 : Addr} {gd1 gd2 : FuncData} (RM : RatM P w K mg base CR g1 g2 gd1 gd2) (R : RatC K mg CR CE) : ExM P w K mg base CR g1 g2 gd1 gd2 (A3x CR) (C1m CR) := ⟨R.cl, RM.m1, RM.g1, RM.b1, RM.m2, FnOk.lift (by decide) RM.g2, RM.b2⟩
theorem G3y {CN CC CT CR : Addr} {vs : List V} {H : Hp} {Q : VK} {E : XK} (h : B5z CN CC CT CR vs H Q E) : A5g CN CC CT CR (A3x CR) (C1m CR) vs H Q E := by
 obtain ⟨c, v, a, b, xs, ys, x, t, bo, n, L, sg, i, rfl, hc, ok, lx, ra, ht, hb, hL, q0, q1, s0, s1, k⟩ := h
 have wr := Y6s (s2 := n - v.fin L) ht hb hL ok.r1 (by
   unfold Cv.fin B5v
   split <;> omega)
 exact ⟨c, v, a, b, xs, ys, x, Z8s CR t bo n L, sg, i, rfl, hc, ok, lx, ratV ht hb hL, ra, ⟨q0, q1⟩, wr.1, wr.2, s0, s1, k⟩
end
def A8c (t s : Int) : Prop := A2 (-s) <= t * A2 s /\ t * A2 s < 100 * A2 (-s)
def Z8 (t s wh : Int) : Prop := 0 <= wh /\ wh * wh * A2 (-s) <= t * A2 s /\ t * A2 s < (wh + 1) * (wh + 1) * A2 (-s)
def B4q (t s wh : Int) : Int := if wh * wh * A2 (-s) = t * A2 s then 0 else 1 + (if decide ((2 * wh + 1) * (2 * wh + 1) * A2 (-s) <= 4 * (t * A2 s)) = true then 1 else 0) + (if decide ((2 * wh + 1) * (2 * wh + 1) * A2 (-s) < 4 * (t * A2 s)) = true then 1 else 0)
structure Muls (t s wh : Int) : Prop where
 o1 : IntMulOk t (A2 s)
 o2 : IntMulOk wh wh
 o3 : IntMulOk (wh * wh) (A2 (-s))
 o4 : IntMulOk (wh + 1) (wh + 1)
 o5 : IntMulOk ((wh + 1) * (wh + 1)) (A2 (-s))
 o6 : IntMulOk (2 * wh + 1) (2 * wh + 1)
 o7 : IntMulOk ((2 * wh + 1) * (2 * wh + 1)) (A2 (-s))
theorem A2j {s : Int} (h : s <= 0) : A2 s = 1 := by unfold A2; rw [show s.toNat = 0 by omega]; rfl
theorem G2g {t s r : Int} (ht : 0 < t) (h1 : A8c t s) (h2 : A8c t r) (hp : (r - s) % 2 = 0) : r <= s := by
 apply Classical.byContradiction
 intro h
 have hs : s <= r := by omega
 have c := A2h hs
 have g : A2 2 <= A2 (r - s) := G9 (by omega)
 have e100 : A2 2 = 100 := by decide +kernel
 rw [e100] at g
 have p1 := C4 (-s)
 have p2 := C4 (-r)
 have e : t * A2 r * A2 (-s) = t * A2 s * A2 (-r) * A2 (r - s) := by
   calc t * A2 r * A2 (-s) = t * (A2 r * A2 (-s)) := by ac_rfl
     _ = t * (A2 s * A2 (-r) * A2 (r - s)) := by rw [c]
     _ = t * A2 s * A2 (-r) * A2 (r - s) := by ac_rfl
 have a1 : t * A2 r * A2 (-s) < 100 * A2 (-r) * A2 (-s) := Int.mul_lt_mul_of_pos_right h2.2 p1
 have hp : 0 < t * A2 s := Int.mul_pos ht (C4 s)
 have a2 : t * A2 s * A2 (-r) * 100 <= t * A2 s * A2 (-r) * A2 (r - s) := Int.mul_le_mul_of_nonneg_left g (Int.le_of_lt (Int.mul_pos hp p2))
 have a3 : A2 (-s) * A2 (-r) <= t * A2 s * A2 (-r) := Int.mul_le_mul_of_nonneg_right h1.1 (Int.le_of_lt p2)
 have e2 : 100 * A2 (-r) * A2 (-s) = A2 (-s) * A2 (-r) * 100 := by ac_rfl
 have a4 : A2 (-s) * A2 (-r) * 100 <= t * A2 s * A2 (-r) * 100 := Int.mul_le_mul_of_nonneg_right a3 (by decide)
 rw [e, e2] at a1
 exact absurd (Int.lt_of_lt_of_le a1 (Int.le_trans a4 a2)) (Int.lt_irrefl _)
theorem V0t {t n f g : Int} (ht : 0 < t) (h1 : A8c t (n - 2 * f)) (h2 : A8c t (n - 2 * g)) : f = g := by
 have a := G2g ht h1 h2 (by omega)
 have b := G2g ht h2 h1 (by omega)
 omega
def SzQ (t : Int) : Prop := 1 <= t /\ t < 10 ^ 61
theorem G2f {t s : Int} (ht : SzQ t) (h : A8c t s) : -61 <= s /\ s <= 1 := by
 refine ⟨?_, ?_⟩
 . apply Classical.byContradiction
   intro hs
   have g : A2 61 <= A2 (-s) := G9 (by omega)
   have e61 : A2 61 = 10 ^ 61 := by decide +kernel
   have a := h.1
   rw [A2j (by omega : s <= 0), Int.mul_one] at a
   rw [e61] at g
   have := ht.2
   omega
 . apply Classical.byContradiction
   intro hs
   have g : A2 2 <= A2 s := G9 (by omega)
   have e2 : A2 2 = 100 := by decide +kernel
   have a := h.2
   rw [A2j (by omega : -s <= 0)] at a
   have : 1 * A2 s <= t * A2 s := Int.mul_le_mul_of_nonneg_right ht.1 (Int.le_of_lt (C4 _))
   omega
theorem A1v {s : Int} (h : s <= 200) : (A2 s).natAbs < 2 ^ 700 := by
 unfold A2
 rw [Int.natAbs_natCast]
 exact Nat.lt_of_le_of_lt (Nat.pow_le_pow_right (by decide) (show s.toNat <= 200 by omega)) (by decide +kernel)
theorem SzQ.small {t : Int} (h : SzQ t) : t.natAbs < 2 ^ 203 := by
 have e : (10 ^ 61 : Int).natAbs < 2 ^ 203 := by decide +kernel
 have := h.1; have := h.2
 omega
theorem C2z {k : Nat} (h : k <= 1000) : (2 : Nat) ^ k <= 2 ^ 1000 := Nat.pow_le_pow_right (by decide) h
theorem G2v {t s : Int} (ht : SzQ t) (h : s <= 200) : (t * A2 s).natAbs < 2 ^ 903 := by
 rw [Int.natAbs_mul]
 exact Nat.lt_of_lt_of_le (Nat.mul_lt_mul'' ht.small (A1v h)) (Nat.le_of_eq (Nat.pow_add 2 203 700).symm)
theorem G7x {t s wh : Int} (ht : SzQ t) (h2 : s <= 200) (r : Z8 t s wh) : wh.natAbs < 2 ^ 452 := by
 obtain ⟨w0, w1, _⟩ := r
 obtain ⟨n, rfl⟩ := Int.eq_ofNat_of_zero_le w0
 rw [Int.natAbs_natCast]
 have hh := G2v ht h2
 have l1 : (1 : Int) <= A2 (-s) := C4 (-s)
 have a : (n : Int) * n * 1 <= (n : Int) * n * A2 (-s) := Int.mul_le_mul_of_nonneg_left l1 (Int.mul_nonneg w0 w0)
 have b : (n : Int) * n <= t * A2 s := by omega
 have c : n * n < 2 ^ 903 := by
   have : ((n * n : Nat) : Int) <= t * A2 s := b
   omega
 apply Classical.byContradiction
 intro z
 have : 2 ^ 452 * 2 ^ 452 <= n * n := Nat.mul_le_mul (by omega) (by omega)
 rw [<- Nat.pow_add] at this
 have q : (2 : Nat) ^ 903 <= 2 ^ (452 + 452) := Nat.pow_le_pow_right (by decide) (by decide)
 exact absurd (Nat.lt_of_lt_of_le c (Nat.le_trans q this)) (Nat.lt_irrefl _)
theorem U8q {a : Int} {k : Nat} (h : a.natAbs < 2 ^ k) : (a * a).natAbs < 2 ^ (k + k) := by
 rw [Int.natAbs_mul, Nat.pow_add]
 exact Nat.mul_lt_mul'' h h
theorem Y6n {t s wh : Int} (ht : SzQ t) (h1 : -200 <= s) (h2 : s <= 200) (r : Z8 t s wh) : Muls t s wh := by
 have rs := G7x ht h2 r
 have w0 := r.1
 have l : (A2 (-s)).natAbs < 2 ^ 1000 := Nat.lt_of_lt_of_le (A1v (by omega)) (C2z (by decide))
 have d : (2 : Nat) ^ 454 = 4 * 2 ^ 452 := by rw [show 454 = 2 + 452 from rfl, Nat.pow_add]
 have e : ∀ {a : Int}, a.natAbs < 2 ^ 454 -> a.natAbs < 2 ^ 1000 := fun h => Nat.lt_of_lt_of_le h (C2z (by decide))
 have e2 : ∀ {a : Int}, a.natAbs < 2 ^ 454 -> (a * a).natAbs < 2 ^ 1000 := fun h => Nat.lt_of_lt_of_le (U8q h) (C2z (by decide))
 have b1 : wh.natAbs < 2 ^ 454 := by omega
 have b2 : (wh + 1).natAbs < 2 ^ 454 := by omega
 have b3 : (2 * wh + 1).natAbs < 2 ^ 454 := by omega
 exact ⟨U0 (Nat.lt_of_lt_of_le ht.small (C2z (by decide))) (Nat.lt_of_lt_of_le (A1v h2) (C2z (by decide))), U0 (e b1) (e b1), U0 (e2 b1) l, U0 (e b2) (e b2), U0 (e2 b2) l, U0 (e b3) (e b3), U0 (e2 b3) l⟩
theorem J8q {t s a b : Int} (ha : Z8 t s a) (hb : Z8 t s b) : b <= a := by
 apply Classical.byContradiction
 intro h
 have p := C4 (-s)
 have q : (a + 1) * (a + 1) <= b * b := Int.mul_le_mul (by omega) (by omega) (by have := ha.1; omega) hb.1
 have q2 : (a + 1) * (a + 1) * A2 (-s) <= b * b * A2 (-s) := Int.mul_le_mul_of_nonneg_right q (Int.le_of_lt p)
 have := ha.2.2
 have := hb.2.1
 omega
theorem Y5p {t s a b : Int} (ha : Z8 t s a) (hb : Z8 t s b) : a = b := Int.le_antisymm (J8q hb ha) (J8q ha hb)
abbrev A4u : Stmt := (D5 (top 7) 0)
structure RooC (K : Frag) (mg : Str -> Option Value) (CR CE : Addr) : Prop where
 g : mg "Root" = some (.ref CR)
 ge : mg "Exact" = some (.ref CE)
 cl : Cls K CR
 n_top : NoAttr K CR "top"
 n_power : NoAttr K CR "power"
 ca : findIn K (.ref CR) "__class__" = some (some (.builtin "object.__class__"))
 sn : specialIn K (.builtin "object.__class__") "__get__" = some (some (.builtin "getset_descriptor.__get__"))
 tk : takesIn K (.builtin "object.__class__") = some true
 ob : mroIn K CR (.type "object") = some true
 up : kitOne K (.ref CR) (.ref CE) = some true
def G3a (t n : V) : List (Str × V) := J0 "power" n (J0 "top" t [])
theorem D3e (t n : V) (x : Str) : (G3a t n).lookup x = if x = "power" then some n else if x = "top" then some t else none := by
 unfold G3a
 rw [C9, C9]
 rfl
theorem J8v (t n : V) : (G3a t n).lookup ("top" : Str) = some t := by rw [D3e, if_neg (by decide +kernel), if_pos rfl]
theorem D0y (t n : V) : (G3a t n).lookup ("power" : Str) = some n := by rw [D3e, if_pos rfl]
theorem D3q (t n : V) : (G3a t n).lookup ("first" : Str) = none := by rw [D3e, if_neg (by decide +kernel), if_neg (by decide +kernel)]
theorem U0v (t n : V) : (G3a t n).lookup ("at" : Str) = none := by rw [D3e, if_neg (by decide +kernel), if_neg (by decide +kernel)]
def RooAt (CR : Addr) (H : Hp) (x : Addr) (t n : Int) : Prop := ∃ dx, H x = some (.ins CR dx (G3a (.int t) (.int n)))
theorem RooAt.same {CR : Addr} {H H' : Hp} {x : Addr} {t n : Int} (h : RooAt CR H x t n) (s : Same H H') : RooAt CR H' x t n := by
 obtain ⟨dx, e⟩ := h
 exact ⟨dx, s _ _ e⟩
section
variable {P : Program} {w : World} {K : Frag} {mg : Str -> Option Value} {base : Heap}
def D2f (CR : Addr) : Sp := fun vs H Q _ => ∃ (p dx : Addr) (t n : V), vs = [.ref p, t, n] /\ H p = some (.ins CR dx []) /\ ∀ H', H' p = some (.ins CR dx (G3a t n)) -> Exc p H H' -> Q .non H'
theorem Y5v : FnScope ["self", "top", "power"] ["self", "top", "power"] (A1 A4u) := scK
theorem V0g {f CR CE : Addr} {fd : FuncData} {dV : Value} (F : FunD K "__init__" "Root.__init__" A4u dV f fd) (R : RooC K mg CR CE) : FnOk P w K mg base (CX1 P w) 1 f fd ["self", "top", "power"] (D2f CR) := by
 refine F.okE Y5v (fun vs H Q E h => ?_) (fun X cdv A outer s H vs Q E hX hr hx h => ?_)
 . obtain ⟨p, dx, a, c, rfl, _⟩ := h
   rfl
 . subst hX
   obtain ⟨p, dx, a, c, rfl, hp, k⟩ := h
   refine ⟨_, (A4 (V1 (pv 0) (pv 1) rfl)
     (A6 (V1 (pv 0) (pv 2) rfl))), ?_⟩
   have l : ∀ (fs : List (Str × V)) (f : Str) (v : V) (n : Nat), fs.length <= n -> (J0 f v fs).length <= n + 1 := fun fs f v n h => Nat.le_trans (V8 f v fs) (Nat.succ_le_succ h)
   refine ⟨_, rfl, _, rfl, p, CR, dx, [], rfl, hp, R.cl, R.n_top, (by show 0 < 1000; decide), ?_⟩
   refine ⟨_, rfl, _, rfl, p, CR, dx, _, rfl, A7, R.cl, R.n_power, Nat.lt_of_le_of_lt (l _ _ _ 0 (Nat.le_refl _)) (by decide), ?_⟩
   refine k _ A7 fun b o e hb => ?_
   rw [C0 hb, C0 hb]
   exact e
def A7w (CR : Addr) : Sp := fun vs H Q _ => ∃ x t n, vs = [.ref x] /\ RooAt CR H x t n /\ SzQ t /\ -900 <= n /\ n <= 900 /\ ∀ f H', Same H H' -> A8c t (n - 2 * f) -> Q (.int f) H'
def G3x (CR : Addr) : Sp := fun vs H Q _ => ∃ x t n p, vs = [.ref x, .int p] /\ RooAt CR H x t n /\ SzQ t /\ -200 <= n - 2 * p /\ n - 2 * p <= 200 /\
 ∀ wh q H', Same H H' -> H q = none -> Z8 t (n - 2 * p) wh -> H' q = some (.tup [.int wh, .int (B4q t (n - 2 * p) wh)]) -> Q (.ref q) H'
structure MakeQ (P : Program) (w : World) (K : Frag) (mg : Str -> Option Value) (base : Heap) (CR fI : Addr) (fdI : FuncData) (d0 : Value) (gP : List Value -> List Value -> List Value) (vP : List V -> List V -> List V) : Prop where
 m : Mk K CR fI
 g : FnOk P w K mg base (CX1 P w) 1 fI fdI ["self", "top", "power"] (D2f CR)
 b3 : Binds K fdI ["self", "top", "power"] []
 b2 : Binds K fdI ["self", "top", "power"] [d0]
 r0 : RelV (.int 0) d0
 kP : KBinds K fdI ["self", "top", "power"] ["power"] gP vP
 eP : ∀ x a c, vP [x, a] [c] = [x, a, c]
structure RooM (P : Program) (w : World) (K : Frag) (mg : Str -> Option Value) (base : Heap) (CR f1 f2 : Addr) (fd1 fd2 : FuncData) : Prop where
 m1 : Meth K CR "first" f1
 g1 : FnOk P w K mg base (CX1 P w) 4 f1 fd1 ["self"] (A7w CR)
 b1 : Binds K fd1 ["self"] []
 m2 : Meth K CR "at" f2
 g2 : FnOk P w K mg base (CX1 P w) 5 f2 fd2 ["self", "power"] (G3x CR)
 b2 : Binds K fd2 ["self", "power"] []
theorem Z7a {CR x dx : Addr} {H : Hp} {Q : VK} {E : XK} {t n : Int} (n1 : H x = none) (n2 : H dx = none) (ne : dx ≠ x) (k : ∀ H', Same H H' -> RooAt CR H' x t n -> Q .non H') :
   D2f CR [.ref x, .int t, .int n] (upd (upd H dx (.own x)) x (.ins CR dx [])) Q E :=
 ⟨x, dx, _, _, rfl, A7, fun H' e s => k H' (fun c o z => s c o (by rw [C0 (B7 z n1), C0 (B7 z n2)]; exact z) (B7 z n1)) ⟨dx, e⟩⟩
end
abbrev A8b : Stmt := (top 10)
theorem Z1y {n g : Nat} (hg : 1 <= g) : n < ((g + n / g) / 2 + 1) * ((g + n / g) / 2 + 1) := by
 have q : n < g * (n / g + 1) := by
   have := Nat.div_add_mod n g
   have := Nat.mod_lt n hg
   rw [Nat.mul_add, Nat.mul_one]
   omega
 generalize n / g = d at q
 have b : g + (d + 1) <= 2 * ((g + d) / 2 + 1) := by omega
 generalize (g + d) / 2 + 1 = c at b
 have s1 : (g + (d + 1)) * (g + (d + 1)) <= 2 * c * (2 * c) := Nat.mul_le_mul b b
 have s2 : 4 * (g * (d + 1)) <= (g + (d + 1)) * (g + (d + 1)) := by
   generalize d + 1 = e
   rcases Nat.le_total g e with h | h
   . obtain ⟨k, rfl⟩ := Nat.exists_eq_add_of_le h
     have e1 : (g + (g + k)) * (g + (g + k)) = 4 * (g * (g + k)) + k * k := by
       simp only [Nat.mul_add, Nat.add_mul]
       have := Nat.mul_comm k g
       omega
     omega
   . obtain ⟨k, rfl⟩ := Nat.exists_eq_add_of_le h
     have e1 : (e + k + e) * (e + k + e) = 4 * ((e + k) * e) + k * k := by
       simp only [Nat.mul_add, Nat.add_mul]
       have := Nat.mul_comm k e
       omega
     omega
 have s3 : 2 * c * (2 * c) = 4 * (c * c) := by
   rw [Nat.mul_mul_mul_comm]
 omega
section
variable {P : Program} {w : World} {K : Frag} {mg : Str -> Option Value} {base : Heap}
def J8w : Sp := fun vs H Q _ => ∃ n : Nat, vs = [.int (n : Int)] /\ n < 10 ^ 300 /\ ∀ r : Nat, r * r <= n -> n < (r + 1) * (r + 1) -> Q (.int (r : Int)) H
theorem scWRoot : FnScope ["whole", "guess", "better"] ["whole"] (A1 A8b) := scK
theorem U8y {f f1 f2 : Addr} {fd fd1 fd2 : FuncData} (D : Def K mg "whole_root" ["whole"] A8b f fd) (D_ten_to : Def K mg "ten_to" ["count"] Z7 f1 fd1) (G_ten_to : FnOk P w K mg base (CX1 P w) 2 f1 fd1 ["count"] A4x) (D_whole_lead : Def K mg "whole_lead" ["whole"] A3q f2 fd2) (G_whole_lead : FnOk P w K mg base (CX1 P w) 3 f2 fd2 ["whole"] C0x) : FnOk P w K mg base (CX1 P w) 4 f fd ["whole"] J8w := by
 refine FnOk.up (D.F.ok scWRoot (fun vs H Q E h => ?_) (fun cdv A outer s H vs Q E hr h => ?_))
 . obtain ⟨n, rfl, _⟩ := h
   rfl
 . obtain ⟨n, rfl, n2, k⟩ := h
   have hx : D8 (Z9 CX0 P w K mg base ["whole", "guess", "better"] "whole_root" (A1 A8b) f cdv A outer s H E).nox EKF := J5
   refine ⟨_, (A4 (G2 (C5 G8 (pv 0) A3 (B8 _)) (A6 (B0 A3)) C8)
     (A4 (D0 (i := 1) scWRoot.nd rfl (Or.inl rfl) (B9 D_ten_to G_ten_to hr hx (A0 (B3 J3 (B3 G6 (B9 D_whole_lead G_whole_lead hr hx (A0 (pv 0) A5)) A3) A3) A5)))
     (A4 (D0 (i := 2) scWRoot.nd rfl (Or.inl rfl) (B3 G6 (B3 J3 (pv 1) (B3 G6 (pv 0) (pv 1))) A3))
     (A4 (B4j PassesOwn.never (C5 B4t (pv 2) (pv 1) (B8 _)) (A4 (D0 (i := 1) scWRoot.nd rfl (Or.inl rfl) (pv 2))
     (A6 (D0 (i := 2) scWRoot.nd rfl (Or.inl rfl) (B3 G6 (B3 J3 (pv 1) (B3 G6 (pv 0) (pv 1))) A3)))))
     (A6 (B0 (pv 1))))))), ?_⟩
   have d2 : (0 : Int) < 2 /\ (2 : Int).natAbs.log2 < 9000 := ⟨by decide, by decide +kernel⟩
   refine ⟨_, rfl, rfl, _, rfl, U3 (fun h0 => ?_) (fun h0 => ?_)⟩
   . have e : n = 0 := by
       have : (n : Int) = 0 := by injection h0
       omega
     subst e
     exact k 0 (Nat.le_refl _) (by decide)
   . have n1 : 1 <= n := by
       apply Classical.byContradiction
       intro z
       exact h0 (by rw [show n = 0 by omega]; rfl)
     have lg : ∀ {g : Nat}, 1 <= g -> g < 2 ^ 1000 -> 0 < (g : Int) /\ (g : Int).natAbs.log2 < 9000 := fun h1 h2 => ⟨by omega, Nat.lt_trans (A2g (k := 1000) (by rw [Int.natAbs_natCast]; exact h2) (by decide)) (by decide)⟩
     refine ⟨_, rfl, n, rfl, n1, Nat.lt_trans n2 (Nat.pow_lt_pow_right (by decide) (by decide)), fun L L1 L2 => ?_⟩
     have l3 : L < 300 := (Nat.pow_lt_pow_iff_right (by decide : 1 < 10)).mp (Nat.lt_of_le_of_lt L1 n2)
     refine ⟨_, _, rfl, rfl, d2, _, _, rfl, rfl, L / 2 + 1, rfl, by omega, ?_⟩
     have g1 : 1 <= 10 ^ (L / 2 + 1) := Nat.pow_pos (by decide)
     have g2 : 10 ^ (L / 2 + 1) < 2 ^ 1000 := Nat.lt_of_le_of_lt (Nat.pow_le_pow_right (by decide) (show L / 2 + 1 <= 200 by omega)) (by decide +kernel)
     have g3 : n < (10 ^ (L / 2 + 1) + 1) * (10 ^ (L / 2 + 1) + 1) := by
       have a : 10 ^ (L + 1) <= 10 ^ (L / 2 + 1) * 10 ^ (L / 2 + 1) := by
         rw [<- Nat.pow_add]
         exact Nat.pow_le_pow_right (by decide) (by omega)
       have b : 10 ^ (L / 2 + 1) * 10 ^ (L / 2 + 1) <= (10 ^ (L / 2 + 1) + 1) * (10 ^ (L / 2 + 1) + 1) := Nat.mul_le_mul (Nat.le_succ _) (Nat.le_succ _)
       omega
     refine ⟨_, rfl, _, rfl, _, rfl, _, _, rfl, rfl, lg g1 g2, _, _, rfl, rfl, _, _, rfl, rfl, d2, ?_⟩
     refine B5a (fun σ H2 => H2 = H /\ ∃ g : Nat, 1 <= g /\ g < 2 ^ 1000 /\ n < (g + 1) * (g + 1) /\ σ = [some (.int (n : Int)), some (.int (g : Int)), some (.int (((g + n / g) / 2 : Nat) : Int))]) (fun σ _ => match σ with | [_, some (.int c), _] => c.toNat | _ => 0) ?_ ?_ ?_
     . exact ⟨rfl, 10 ^ (L / 2 + 1), g1, g2, g3, rfl⟩
     . rintro σ H2 ⟨rfl, g, g1, g2, g3, rfl⟩
       refine ⟨_, rfl, _, rfl, _, _, rfl, rfl, _, rfl, U3 (fun hlt => ?_) (fun hge => ?_)⟩
       . have hlt : (g + n / g) / 2 < g := Int.ofNat_lt.mp hlt
         have b1 : 1 <= (g + n / g) / 2 := by
           rcases (by omega : g = 1 \/ 2 <= g) with rfl | h
           . rw [Nat.div_one]; omega
           . clear hlt
             generalize n / g = d
             omega
         have b3 := Z1y (n := n) g1
         generalize (g + n / g) / 2 = b at hlt b1 b3
         refine ⟨_, rfl, _, rfl, _, rfl, _, rfl, _, _, rfl, rfl, lg b1 (Nat.lt_trans hlt g2), _, _, rfl, rfl, _, _, rfl, rfl, d2, ⟨rfl, b, b1, Nat.lt_trans hlt g2, b3, rfl⟩, ?_⟩
         show (b : Int).toNat < (g : Int).toNat
         omega
       . have hge : g <= (g + n / g) / 2 := by
           have : ¬ ((g + n / g) / 2 < g) := fun z => hge (Int.ofNat_lt.mpr z)
           omega
         refine ⟨_, rfl, k g ?_ g3⟩
         have : g <= n / g := by omega
         exact (Nat.le_div_iff_mul_le (by omega)).mp this
     . rintro σ H2 Q1 Q2 hQ ⟨v, e, v2, e2, i, j, e3, e4, b, e5, q⟩
       exact ⟨v, e, v2, e2, i, j, e3, e4, b, e5, hQ _ _ q⟩
end
abbrev C2x : Stmt := (D5 (top 7) 2)
abbrev A2k : Stmt := (D5 (top 7) 1)
theorem J8j {t : Int} (h : SzQ t) : ∃ n : Nat, t = (n : Int) /\ 1 <= n /\ n < 10 ^ 61 := by
 obtain ⟨n, rfl⟩ := Int.eq_ofNat_of_zero_le (show 0 <= t by have := h.1; omega)
 have := h.1; have := h.2
 exact ⟨n, rfl, by omega, by omega⟩
theorem Y4s {h m : Int} (hp : 0 < h) : A2q (2 * h) m = 1 + (if decide (m <= 4 * h) = true then 1 else 0) + (if decide (m < 4 * h) = true then 1 else 0) := by
 unfold A2q
 rw [decide_eq_true (by omega : 0 < 2 * h), show 2 * (2 * h) = 4 * h by omega]
 rfl
theorem D1n {t L : Nat} {n f : Int} (t1 : 10 ^ L <= t) (t2 : t < 10 ^ (L + 1)) (e : f = ((L : Int) + n) / 2) : A8c t (n - 2 * f) := by
 have hs : n - 2 * f = -(L : Int) \/ n - 2 * f = 1 - (L : Int) := by omega
 have key : ∀ u v : Nat, (u = 0 /\ (v = L \/ v + 1 = L)) \/ (u = 1 /\ v = 0 /\ L = 0) -> 10 ^ v <= t * 10 ^ u /\ t * 10 ^ u < 100 * 10 ^ v := by
   rintro u v (⟨rfl, rfl | rfl⟩ | ⟨rfl, rfl, rfl⟩)
   . rw [Nat.pow_succ] at t2
     omega
   . rw [Nat.pow_succ] at t1
     rw [Nat.pow_succ, Nat.pow_succ] at t2
     omega
   . simp at t1 t2 ⊢
     omega
 have := key (n - 2 * f).toNat (-(n - 2 * f)).toNat (by omega)
 unfold A8c A2
 exact ⟨Int.ofNat_le.mpr this.1, Int.ofNat_lt.mpr this.2⟩
section
variable {P : Program} {w : World} {K : Frag} {mg : Str -> Option Value} {base : Heap}
theorem V0x : FnScope ["self"] ["self"] (A1 A2k) := scK
theorem U1k {f f1 CR CE : Addr} {fd fd1 : FuncData} (F : Fun K "first" "Root.first" A2k f fd) (D_whole_lead : Def K mg "whole_lead" ["whole"] A3q f1 fd1) (G_whole_lead : FnOk P w K mg base (CX1 P w) 3 f1 fd1 ["whole"] C0x) (R : RooC K mg CR CE) : FnOk P w K mg base (CX1 P w) 4 f fd ["self"] (A7w CR) := by
 refine FnOk.up (F.ok V0x (fun vs H Q E h => ?_) (fun cdv A outer s H vs Q E hr h => ?_))
 . obtain ⟨x, t, n, rfl, _⟩ := h
   rfl
 . obtain ⟨x, t, n, rfl, ra, ht, _, _, k⟩ := h
   have hx : D8 (Z9 CX0 P w K mg base ["self"] "Root.first" (A1 A2k) f cdv A outer s H E).nox EKF := J5
   refine ⟨_, (A6 (B0 (B3 G6 (B3 J3 (B9 D_whole_lead G_whole_lead hr hx (A0 (C7 (pv 0) rfl) A5)) (C7 (pv 0) rfl)) A3))), ?_⟩
   obtain ⟨tn, rfl, ta, tb⟩ := J8j ht
   obtain ⟨dx, e⟩ := id ra
   have d2 : (0 : Int) < 2 /\ (2 : Int).natAbs.log2 < 9000 := ⟨by decide, by decide +kernel⟩
   refine ⟨_, rfl, x, CR, dx, _, _, rfl, e, R.cl, R.n_top, J8v _ _, tn, rfl, ta, Nat.lt_trans tb (Nat.pow_lt_pow_right (by decide) (by decide)), fun L L1 L2 => ?_⟩
   exact ⟨_, rfl, x, CR, dx, _, _, rfl, e, R.cl, R.n_power, D0y _ _, _, _, rfl, rfl, _, _, rfl, rfl, d2, k _ H (Same.refl H) (D1n L1 L2 rfl)⟩
theorem scQAt : FnScope ["self", "power", "shift", "top", "bottom", "whole"] ["self", "power"] (A1 C2x) := scK
theorem Z2m {f f1 f2 f3 CR CE : Addr} {fd fd1 fd2 fd3 : FuncData} (F : Fun K "at" "Root.at" C2x f fd) (D_ten_to : Def K mg "ten_to" ["count"] Z7 f1 fd1) (G_ten_to : FnOk P w K mg base (CX1 P w) 2 f1 fd1 ["count"] A4x)
   (D_part_of : Def K mg "part_of" ["size", "middle"] A2w f2 fd2) (G_part_of : FnOk P w K mg base (CX1 P w) 1 f2 fd2 ["size", "middle"] C2n) (D_whole_root : Def K mg "whole_root" ["whole"] A8b f3 fd3) (G_whole_root : FnOk P w K mg base (CX1 P w) 4 f3 fd3 ["whole"] J8w) (R : RooC K mg CR CE) (O : Own mg) : FnOk P w K mg base (CX1 P w) 5 f fd ["self", "power"] (G3x CR) := by
 refine FnOk.up (F.ok scQAt (fun vs H Q E h => ?_) (fun cdv A outer s H vs Q E hr h => ?_))
 . obtain ⟨x, t, n, p, rfl, _⟩ := h
   rfl
 . obtain ⟨x, t, n, p, rfl, ⟨dx, e⟩, ht, h1, h2, k⟩ := h
   have hx : D8 (Z9 CX0 P w K mg base ["self", "power", "shift", "top", "bottom", "whole"] "Root.at" (A1 C2x) f cdv A outer s H E).nox EKF := J5
   refine ⟨_, (A4 (D0 (i := 2) scQAt.nd rfl (Or.inl rfl) (B3 U1 (C7 (pv 0) rfl) (B3 D6 A3 (pv 1))))
     (A4 (D0 (i := 3) scQAt.nd rfl (Or.inl rfl) (B3 D6 (C7 (pv 0) rfl) (B9 D_ten_to G_ten_to hr hx (A0 (J7 (V9 rfl) (by rfl) O.max_ boot_max (A0 (pv 2) (A0 A3 A5))) A5))))
     (A4 (D0 (i := 4) scQAt.nd rfl (Or.inl rfl) (B9 D_ten_to G_ten_to hr hx (A0 (J7 (V9 rfl) (by rfl) O.max_ boot_max (A0 (D1e B5w (pv 2)) (A0 A3 A5))) A5)))
     (A4 (D0 (i := 5) scQAt.nd rfl (Or.inl rfl) (B9 D_whole_root G_whole_root hr hx (A0 (B3 G6 (pv 3) (pv 4)) A5)))
     (A4 (G2 (C5 G8 (B3 D6 (B3 D6 (pv 5) (pv 5)) (pv 4)) (pv 3) (B8 _)) (A6 (B0 (A3j (A0 (pv 5) (A0 A3 A5))))) C8)
     (A6 (B0 (A3j (A0 (pv 5) (A0 (B9 D_part_of G_part_of hr hx (A0 (B3 D6 A3 (pv 3)) (A0 (B3 D6 (B3 D6 (B3 J3 (B3 D6 A3 (pv 5)) A3) (B3 J3 (B3 D6 A3 (pv 5)) A3)) (pv 4)) A5))) A5)))))))))), ?_⟩
   have z2 : 2 <= sizeLine := D7 (by decide)
   have mC' : ∀ z n : Int, -(2 ^ 64) < n -> n < 2 ^ 64 -> IntMulOk n z := fun z n a b => CMul.ok (.inl ⟨a, b⟩)
   have oT : IntMulOk t (A2 (n - 2 * p)) := U0 (Nat.lt_of_lt_of_le ht.small (C2z (by decide))) (Nat.lt_of_lt_of_le (A1v h2) (C2z (by decide)))
   refine ⟨_, rfl, x, CR, dx, _, _, rfl, e, R.cl, R.n_power, D0y _ _, _, rfl, _, _, rfl, rfl, mC' _ _ (by decide) (by decide), _, _, rfl, rfl, ?_⟩
   refine ⟨_, rfl, x, CR, dx, _, _, rfl, e, R.cl, R.n_top, J8v _ _, _, rfl, _, _, rfl, (n - 2 * p).toNat, congrArg (fun z => [V.int z]) (Y5m (n - 2 * p)), by omega, _, _, rfl, rfl, oT, ?_⟩
   refine ⟨_, rfl, _, rfl, _, _, rfl, (-(n - 2 * p)).toNat, congrArg (fun z => [V.int z]) (Y5m (-(n - 2 * p))), by omega, ?_⟩
   have lp : 0 < A2 (-(n - 2 * p)) := C4 _
   have ll : (A2 (-(n - 2 * p))).natAbs.log2 < 9000 := Nat.lt_trans (A2g (A1v (by omega)) (by decide)) (by decide)
   have hp : 0 < t * A2 (n - 2 * p) := Int.mul_pos (by have := ht.1; omega) (C4 _)
   have hs := G2v ht h2
   obtain ⟨hi, ehi⟩ := Int.eq_ofNat_of_zero_le (Int.le_of_lt hp)
   obtain ⟨lo, elo⟩ := Int.eq_ofNat_of_zero_le (Int.le_of_lt lp)
   have b300 : hi / lo < 10 ^ 300 := by
     have a : hi < 2 ^ 903 := by rw [ehi, Int.natAbs_natCast] at hs; exact hs
     exact Nat.lt_of_le_of_lt (Nat.div_le_self _ _) (Nat.lt_trans a (by decide +kernel))
   refine ⟨_, rfl, _, rfl, _, _, rfl, rfl, ⟨lp, ll⟩, hi / lo, (by show [V.int (t * A2 (n - 2 * p) / A2 (-(n - 2 * p)))] = _; rw [ehi, elo]; rfl), b300, fun r r1 r2 => ?_⟩
   have lo0 : 0 < lo := by omega
   have rt : Z8 t (n - 2 * p) (r : Int) := by
     refine ⟨by omega, ?_, ?_⟩
     . rw [ehi, elo]
       have := (Nat.le_div_iff_mul_le lo0).mp r1
       exact Int.ofNat_le.mpr this
     . rw [ehi, elo]
       have := (Nat.div_lt_iff_lt_mul lo0).mp r2
       exact Int.ofNat_lt.mpr this
   have m := Y6n ht h1 h2 rt
   refine ⟨_, rfl, _, rfl, _, _, rfl, rfl, m.o2, _, rfl, _, _, rfl, rfl, m.o3, _, rfl, rfl, _, rfl, U3 (fun he => ?_) (fun hn => ?_)⟩
   . have he : (r : Int) * r * A2 (-(n - 2 * p)) = t * A2 (n - 2 * p) := by injection he
     refine ⟨_, rfl, z2, fun q nq => k r q _ (Same.upd nq) nq rt ?_⟩
     rw [A7]
     unfold B4q
     rw [if_pos he]
   . have hn : ¬ (r : Int) * r * A2 (-(n - 2 * p)) = t * A2 (n - 2 * p) := fun z => hn (congrArg V.int z)
     have m0 : 0 < (2 * (r : Int) + 1) * (2 * (r : Int) + 1) * A2 (-(n - 2 * p)) := Int.mul_pos (Int.mul_pos (by omega) (by omega)) lp
     refine ⟨_, rfl, _, rfl, _, _, rfl, rfl, mC' _ _ (by decide) (by decide), _, rfl, _, _, rfl, rfl, mC' _ _ (by decide) (by decide), _, _, rfl, rfl, _, rfl, _, _, rfl, rfl, mC' _ _ (by decide) (by decide), _, _, rfl, rfl, _, _, rfl, rfl, m.o6, _, rfl, _, _, rfl, rfl, m.o7, 2 * (t * A2 (n - 2 * p)), (2 * (r : Int) + 1) * (2 * (r : Int) + 1) * A2 (-(n - 2 * p)), ?_, by omega, m0, z2, fun q nq => k r q _ (Same.upd nq) nq rt ?_⟩
     . show [V.int (4 * (t * A2 (n - 2 * p))), _] = [V.int (2 * (2 * (t * A2 (n - 2 * p)))), _]
       rw [show 2 * (2 * (t * A2 (n - 2 * p))) = 4 * (t * A2 (n - 2 * p)) by omega]
       rfl
     . rw [A7, Y4s hp]
       unfold B4q
       rw [if_neg hn]
end
theorem J9h : ∀ n : Nat, ∃ r : Nat, r * r <= n /\ n < (r + 1) * (r + 1)
 | 0 => ⟨0, by decide, by decide⟩
 | n + 1 => by
   obtain ⟨r, h1, h2⟩ := J9h n
   by_cases h : n + 1 < (r + 1) * (r + 1)
   . exact ⟨r, by omega, h⟩
   . refine ⟨r + 1, by omega, ?_⟩
     have : (r + 1 + 1) * (r + 1 + 1) = (r + 1) * (r + 1) + 2 * (r + 1) + 1 := by
       simp only [Nat.add_mul, Nat.mul_add]
       omega
     omega
theorem Y4v {t s : Int} (ht : 1 <= t) : ∃ w, Z8 t s w := by
 obtain ⟨hi, ehi⟩ := Int.eq_ofNat_of_zero_le (Int.le_of_lt (Int.mul_pos (show 0 < t by omega) (C4 s)))
 obtain ⟨lo, elo⟩ := Int.eq_ofNat_of_zero_le (Int.le_of_lt (C4 (-s)))
 have lo0 : 0 < lo := by have := C4 (-s); omega
 obtain ⟨r, r1, r2⟩ := J9h (hi / lo)
 refine ⟨r, by omega, ?_, ?_⟩
 . rw [ehi, elo]
   exact Int.ofNat_le.mpr ((Nat.le_div_iff_mul_le lo0).mp r1)
 . rw [ehi, elo]
   exact Int.ofNat_lt.mpr ((Nat.div_lt_iff_lt_mul lo0).mp r2)
noncomputable def whQ (t s : Int) : Int := by
 classical exact if h : ∃ w, Z8 t s w then Classical.choose h else 0
theorem B5c {t s : Int} (ht : 1 <= t) : Z8 t s (whQ t s) := by
 have h := Y4v (s := s) ht
 unfold whQ
 rw [dif_pos h]
 exact Classical.choose_spec h
theorem U8n {t s w : Int} (ht : 1 <= t) (h : Z8 t s w) : whQ t s = w := Y5p (B5c ht) h
noncomputable def rooE (CR : Addr) (t n L : Int) : Exa := ⟨fun H x => RooAt CR H x t n, L, fun q => whQ t (n - 2 * q), fun q => B4q t (n - 2 * q) (whQ t (n - 2 * q)), fun q => -200 <= n - 2 * q /\ n - 2 * q <= 200⟩
theorem rooV {CR : Addr} {t n L : Int} (ht : SzQ t) (n1 : -900 <= n) (n2 : n <= 900) (hL : A8c t (n - 2 * L)) : ExV CR (A7w CR) (G3x CR) (rooE CR t n L) where
 same := fun _ _ _ h s => RooAt.same h s
 ins := fun _ _ h => by
   obtain ⟨dx, e⟩ := h
   exact ⟨dx, _, e, D3q _ _, U0v _ _⟩
 first := fun H x Q E h k => ⟨x, t, n, rfl, h, ht, n1, n2, fun f H' s ld => by
   have ef : f = L := V0t (show 0 < t by have := ht.1; omega) ld hL
   rw [ef]
   exact k H' s⟩
 at_ := fun H x q Q E h ok k => ⟨x, t, n, q, rfl, h, ht, ok.1, ok.2, fun wh p H' s np rt ep => by
   have e := U8n ht.1 rt
   refine k p H' s np ?_
   show H' p = some (.tup [.int (whQ t (n - 2 * q)), .int (B4q t (n - 2 * q) (whQ t (n - 2 * q)))])
   rw [e]
   exact ep⟩
section
variable {P : Program} {w : World} {K : Frag} {mg : Str -> Option Value} {base : Heap}
theorem rooM {CR CE g1 g2 : Addr} {gd1 gd2 : FuncData} (RM : RooM P w K mg base CR g1 g2 gd1 gd2) (R : RooC K mg CR CE) : ExM P w K mg base CR g1 g2 gd1 gd2 (A7w CR) (G3x CR) := ⟨R.cl, RM.m1, RM.g1, RM.b1, RM.m2, RM.g2, RM.b2⟩
end
section
variable {P : Program} {w : World} {K : Frag} {mg : Str -> Option Value} {base : Heap}
end
section
variable {P : Program} {w : World} {K : Frag} {mg : Str -> Option Value} {base : Heap}
theorem V0a {v : Cv} {L n : Int} (ok : v.Ok) (h1 : -1000 <= n - L) (h2 : n - L <= 1000) (n1 : -400 <= n) (n2 : n <= 400) : -1500 <= n - v.fin L /\ n - v.fin L <= 1500 := by
 have := ok.r1; have := ok.r2; have := ok.l1; have := ok.l2
 unfold Cv.fin B5v
 split <;> omega
theorem G7v {t b s : Int} (ht : Sz t) (hb : Sz b) (h : A3z t b s) : -1000 <= s /\ s <= 1000 := by
 have e := C4 1000
 refine ⟨?_, ?_⟩
 . apply Classical.byContradiction
   intro hs
   have z : A2 s = 1 := by unfold A2; rw [show s.toNat = 0 by omega]; rfl
   have g : A2 1000 <= A2 (-s) := G9 (by omega)
   have a := h.1
   rw [z, Int.mul_one] at a
   have : 1 * A2 (-s) <= b * A2 (-s) := Int.mul_le_mul_of_nonneg_right hb.1 (Int.le_of_lt (C4 _))
   have := ht.2
   omega
 . apply Classical.byContradiction
   intro hs
   have z : A2 (-s) = 1 := by unfold A2; rw [show (-s).toNat = 0 by omega]; rfl
   have g : A2 1001 <= A2 s := G9 (by omega)
   have e1 : A2 1001 = 10 * A2 1000 := by
     unfold A2
     rw [show (1001 : Int).toNat = (1000 : Int).toNat + 1 by decide, Nat.pow_succ, Nat.mul_comm]
     rfl
   have a := h.2
   rw [z, Int.mul_one] at a
   have : 1 * A2 s <= t * A2 s := Int.mul_le_mul_of_nonneg_right ht.1 (Int.le_of_lt (C4 _))
   have := hb.2
   omega
theorem U9g : Sz 1 := ⟨by decide, by
 have : A2 1 <= A2 1000 := G9 (by decide)
 have e : A2 1 = 10 := rfl
 omega⟩
theorem V1e {f : Int} (h0 : 0 <= f) (h : f ≠ 0) (h1 : f <= 10 ^ 60 - 1) : Sz f := by
 refine ⟨by omega, ?_⟩
 have : A2 60 <= A2 1000 := G9 (by decide)
 have e : A2 60 = 10 ^ 60 := by decide +kernel
 omega
end
def Z0f : Nm := ⟨.none, 0, 0, 0⟩
def B4u (v : Cv) (s i : Int) : Nm := ⟨.plain, s, 0, Z2z (B5v i (v.l - v.r + 1)) v.m⟩
theorem Ends2.same {CN CC CT : Addr} {H H1 : Hp} {c : Addr} {v : Cv} {b : Addr} {xs ys : List Str} {res : Nm × List Str} {Q : VK} {E : XK} (k : Ends2 CN CC CT H c v b xs ys res Q E) (s : Same H H1) : Ends2 CN CC CT H1 c v b xs ys res Q E :=
 ⟨fun hn m a' H' x => k.1 hn m a' H' ((Exc.of s).trans x), fun z hz a' d H' x => k.2 z hz a' d H' ((Exc.of s).trans x)⟩
theorem Y7k (tr : List Str) : hit tr [] = none := by
 unfold hit
 rw [List.find?_eq_none]
 simp
theorem Ends2.calm {CN CC CT : Addr} {H H1 : Hp} {c n a : Addr} {v : Cv} {b : Addr} {xs ys : List Str} {x : Nm} {Q : VK} {E : XK} (k : Ends2 CN CC CT H c v b xs ys (x, []) Q E) (ox : Z4 xs = xs) (s : Same H H1) (hc : CtxV CC H c v a b xs ys) (hn : NumIs CN H1 n x) : Q (.ref n) H1 :=
 k.1 (Y7k _) n a H1 (Exc.of s) (by show CtxV CC H1 c v a b (Z4 (xs ++ [])) ys; rw [List.append_nil, ox]; exact hc.same s) hn
deriving instance DecidableEq for Kd
theorem D3g (n : Nat) (h : 1 <= n) : ∃ L : Nat, 10 ^ L <= n /\ n < 10 ^ (L + 1) := by
 induction n using Nat.strongRecOn with
 | ind n ih =>
   by_cases h10 : n < 10
   . exact ⟨0, by simpa using h, by simpa using h10⟩
   . obtain ⟨L, a, b⟩ := ih (n / 10) (by omega) (by omega)
     refine ⟨L + 1, ?_, ?_⟩
     . rw [Nat.pow_succ]; omega
     . rw [Nat.pow_succ]; omega
theorem D3h {n j : Nat} (h1 : n < 10 ^ (j + 1)) (h2 : 10 ^ j <= n) : V3 (n : Int) = (j : Int) + 1 := by
 unfold V3
 have e : (Str.ofString (toString (n : Int))).length = (Nat.toDigits 10 n).length := by
   have := congrArg List.length (KIN.signs_num n)
   rw [List.length_map] at this
   rw [<- this]; rfl
 rw [e]
 have a : (Nat.toDigits 10 n).length <= j + 1 := digits10_le (by omega) h1
 have b : j + 1 <= (Nat.toDigits 10 n).length := digits10_ge h2
 omega
theorem Z8b {c A B : Prop} [Decidable c] (h : ¬ c) (a : A) : if (!decide c) = true then A else B := by rw [decide_eq_false h]; exact Z3 a
abbrev A4t : Stmt := (top 26)
abbrev A4a : Stmt := (top 64)
abbrev A5e : Stmt := (top 65)
abbrev A1s : Stmt := (top 66)
theorem FnOk.never {P : Program} {w : World} {K : Frag} {mg : Str -> Option Value} {base : Heap} {CX : CXT} {k : Nat} {f : Addr} {fd : FuncData} {ps : List Str} : FnOk P w K mg base CX k f fd ps (fun _ _ _ _ => False) := ⟨fun _ _ _ _ h => h.elim, fun _ _ _ _ _ _ _ _ _ _ _ _ _ h => h.elim⟩
def C7g (a b : Int) : Int := if a = b then 0 else 1
theorem Z2v (a b : Int) : 0 <= C7g a b /\ C7g a b <= 1 := by unfold C7g; split <;> decide
section
variable {P : Program} {w : World} {K : Frag} {mg : Str -> Option Value} {base : Heap}
def Two (CN : Addr) (H : Hp) (n1 n2 : Addr) (x1 x2 : Nm) : Prop := NumIs CN H n1 x1 /\ NumIs CN H n2 x2
theorem Two.same {CN : Addr} {H H' : Hp} {n1 n2 : Addr} {x1 x2 : Nm} (h : Two CN H n1 n2 x1 x2) (e : Same H H') : Two CN H' n1 n2 x1 x2 := ⟨h.1.same e, h.2.same e⟩
def G2k (CN : Addr) : Sp := fun vs H Q _ => ∃ n1 n2 x1 x2, vs = [.ref n1, .ref n2] /\ Two CN H n1 n2 x1 x2 /\ Q (.int (C7g x1.s x2.s)) H
theorem U9j : FnScope ["one", "other"] ["one", "other"] (A1 A4t) := scK
theorem U1t {f CN : Addr} {fd : FuncData} (D : Def K mg "unlike_sign" ["one", "other"] A4t f fd) (N : Num K mg CN) : FnOk P w K mg base (CX1 P w) 1 f fd ["one", "other"] (G2k CN) := by
 refine D.F.okE U9j (fun vs H Q E h => ?_) (fun X cdv A outer s H vs Q E hX hr hx h => ?_)
 . obtain ⟨n1, n2, x1, x2, rfl, _⟩ := h
   rfl
 . subst hX
   obtain ⟨n1, n2, x1, x2, rfl, ⟨⟨d1, e1⟩, ⟨d2, e2⟩⟩, k⟩ := h
   refine ⟨_, (A6 (B0 (A1y (C5 B4g (C7 (pv 0) rfl) (C7 (pv 1) rfl) (B8 _)) A3 A3))), ?_⟩
   refine ⟨_, rfl, n1, CN, d1, _, _, rfl, e1, N.cl, N.n2, G8w _ _ _ _, _, rfl, n2, CN, d2, _, _, rfl, e2, N.cl, N.n2, G8w _ _ _ _, rfl, _, rfl, ?_⟩
   unfold C7g at k
   by_cases h : x1.s = x2.s
   . rw [if_pos h] at k
     exact C0a (congrArg V.int h) k
   . rw [if_neg h] at k
     rw [decide_eq_false (fun z => h (by injection z) : ¬ V.int x1.s = V.int x2.s)]
     exact Z3 k
theorem C1n {z : Str} {n1 n2 : Addr} {x1 x2 : Nm} (h1 : x1.k = .plain) (h2 : x2.k = .plain) (hz : Kd.plain.str ≠ z) : ([(n1, x1), (n2, x2)].any fun p => decide (p.2.k.str = z)) = false := by
 simp [h1, h2, hz]
theorem B4p {CN : Addr} {H : Hp} {l n1 n2 : Addr} {x1 x2 : Nm} (h : Two CN H n1 n2 x1 x2) (hl : H l = some (.lst [.ref n1, .ref n2])) : NumsAt CN H l [(n1, x1), (n2, x2)] := ⟨hl, List.forall_mem_cons.2 ⟨h.1, List.forall_mem_cons.2 ⟨h.2, by simp⟩⟩⟩
def G2m (CN : Addr) : Sp := fun vs H Q _ => ∃ n1 n2 x1 x2, vs = [.ref n1, .ref n2] /\ Two CN H n1 n2 x1 x2 /\ x1.k = .plain /\ x2.k = .plain /\ ∀ H', Same H H' -> Q (.bl false) H'
theorem U9z : FnScope ["one", "other"] ["one", "other"] (A1 A5e) := scK
theorem U2u {f f1 f2 CN : Addr} {fd fd1 fd2 : FuncData} (D : Def K mg "is_end_by_nought" ["one", "other"] A5e f fd) (D_some_of_kind : Def K mg "some_of_kind" ["numbers", "kind"] A5j f1 fd1) (G_some_of_kind : FnOk P w K mg base (CX1 P w) 1 f1 fd1 ["numbers", "kind"] (C1a CN)) (D_is_nought : Def K mg "is_nought" ["number"] A4a f2 fd2) : FnOk P w K mg base (CX1 P w) 2 f fd ["one", "other"] (G2m CN) := by
 have G_is_nought : FnOk P w K mg base (CX1 P w) 1 f2 fd2 ["number"] (fun _ _ _ _ => False) := FnOk.never
 refine D.F.okE U9z (fun vs H Q E h => ?_) (fun X cdv A outer s H vs Q E hX hr hx h => ?_)
 . obtain ⟨n1, n2, x1, x2, rfl, _⟩ := h
   rfl
 . subst hX
   obtain ⟨n1, n2, x1, x2, rfl, tw, h1, h2, k⟩ := h
   refine ⟨_, (A6 (B0 (A8p (B9 D_some_of_kind G_some_of_kind hr hx (A0 (J2 (A0 (pv 0) (A0 (pv 1) A5))) (A0 B5 A5))) (A5b (Z0p (B9 D_is_nought G_is_nought hr hx (A0 (pv 0) A5)) (A5b (B9 D_is_nought G_is_nought hr hx (A0 (pv 1) A5)))))))), ?_⟩
   have z2 : 2 <= sizeLine := D7 (by decide)
   refine ⟨_, rfl, _, rfl, z2, fun l nl => ?_⟩
   have u := Same.upd (o := .lst [.ref n1, .ref n2]) nl
   refine ⟨l, _, _, rfl, B4p (tw.same u) A7, (by show 2 <= 1000; decide), fun H' s' => ⟨_, rfl, ?_⟩⟩
   rw [C1n h1 h2 (by decide +kernel)]
   exact J9 (k H' (u.trans s'))
def U9k (x1 x2 : Nm) : Nm := ⟨.plain, C7g x1.s x2.s, x1.f * x2.f, x1.p + x2.p⟩
def V1d (CN : Addr) : Sp := fun vs H Q _ => ∃ n1 n2 x1 x2, vs = [.ref n1, .ref n2] /\ Two CN H n1 n2 x1 x2 /\ x1.k = .plain /\ x2.k = .plain /\ IntMulOk x1.f x2.f /\ ∀ n H', H n = none -> Same H H' -> NumIs CN H' n (U9k x1 x2) -> Q (.ref n) H'
theorem scProd : FnScope ["one", "other", "sign"] ["one", "other"] (A1 A1s) := scK
theorem Y5j {f f1 f2 f3 fI CN CB : Addr} {fd fd1 fd2 fd3 fdI : FuncData} (D : Def K mg "product" ["one", "other"] A1s f fd) (D_some_of_kind : Def K mg "some_of_kind" ["numbers", "kind"] A5j f1 fd1) (G_some_of_kind : FnOk P w K mg base (CX1 P w) 1 f1 fd1 ["numbers", "kind"] (C1a CN)) (D_unlike_sign : Def K mg "unlike_sign" ["one", "other"] A4t f2 fd2) (G_unlike_sign : FnOk P w K mg base (CX1 P w) 1 f2 fd2 ["one", "other"] (G2k CN))
   (D_end : Def K mg "end" ["sign"] G3f f3 fd3) (G_end : FnOk P w K mg base (CX1 P w) 3 f3 fd3 ["sign"] (U8w K CN CB)) (N : Num K mg CN) (M : MakeN P w K mg base CN fI fdI) : FnOk P w K mg base (CX1 P w) 4 f fd ["one", "other"] (V1d CN) := by
 refine D.F.okE scProd (fun vs H Q E h => ?_) (fun X cdv A outer s H vs Q E hX hr hx h => ?_)
 . obtain ⟨n1, n2, x1, x2, rfl, _⟩ := h
   rfl
 . subst hX
   obtain ⟨n1, n2, x1, x2, rfl, tw, h1, h2, hm, k⟩ := h
   refine ⟨_, (A4 (D0 (i := 2) scProd.nd rfl (Or.inl rfl) (B9 D_unlike_sign G_unlike_sign hr hx (A0 (pv 0) (A0 (pv 1) A5))))
     (A4 (G2 (U8 (B9 D_some_of_kind G_some_of_kind hr hx (A0 (J2 (A0 (pv 0) (A0 (pv 1) A5))) (A0 B5 A5)))) (A6 (B0 (B9 D_end G_end hr hx (A0 (pv 2) A5)))) C8)
     (A6 (B0 (B2h M.m (FnOk.up M.g) hr N.g M.b .nil hx (A0 B5 (A0 (pv 2) (A0 (B3 D6 (C7 (pv 0) rfl) (C7 (pv 1) rfl)) (A0 (B3 J3 (C7 (pv 0) rfl) (C7 (pv 1) rfl)) A5))))))))), ?_⟩
   have z2 : 2 <= sizeLine := D7 (by decide)
   refine ⟨_, rfl, _, rfl, n1, n2, x1, x2, rfl, tw, ?_⟩
   refine ⟨_, rfl, _, rfl, z2, fun l nl => ?_⟩
   have u := Same.upd (o := .lst [.ref n1, .ref n2]) nl
   refine ⟨l, _, _, rfl, B4p (tw.same u) A7, (by show 2 <= 1000; decide), fun H' s' => ⟨_, rfl, ?_⟩⟩
   rw [C1n h1 h2 (by decide +kernel)]
   refine J9 ?_
   have sm := u.trans s'
   obtain ⟨⟨d1, e1⟩, ⟨d2, e2⟩⟩ := tw.same sm
   refine ⟨_, rfl, _, rfl, n1, CN, d1, _, _, rfl, e1, N.cl, N.n3, D2h _ _ _ _, _, rfl, n2, CN, d2, _, _, rfl, e2, N.cl, N.n3, D2h _ _ _ _, _, _, rfl, rfl, hm, _, rfl, n1, CN, d1, _, _, rfl, e1, N.cl, N.n4, C2e _ _ _ _, _, rfl, n2, CN, d2, _, _, rfl, e2, N.cl, N.n4, C2e _ _ _ _, _, _, rfl, rfl, ?_⟩
   exact C1s fun n H2 nn s2 num => k n H2 (sm.free nn) (sm.trans s2) num
end
abbrev C2u : Stmt := (top 41)
section
variable {P : Program} {w : World} {K : Frag} {mg : Str -> Option Value} {base : Heap}
def V0e (CN CC CT : Addr) : Sp := fun vs H Q E => ∃ c v a b xs ys, vs = [.ref c] /\ CtxV CC H c v a b xs ys /\ xs.length <= 900 /\ Ends2 CN CC CT H c v b xs ys (Z0f, ["void"]) Q E
theorem Z3e : FnScope ["context"] ["context"] (A1 C2u) := scK
theorem Y6x {f f1 CN CC CB CT CW : Addr} {cw : Wy -> Addr} {fd fd1 : FuncData} (D : Def K mg "void" ["context"] C2u f fd) (D_nothing : Def K mg "nothing" [] Y1 f1 fd1) (G_nothing : FnOk P w K mg base (CX1 P w) 3 f1 fd1 [] (B1n CN)) (C : CtxM P w K mg base CC CB CT CW cw) : FnOk P w K mg base (CX1 P w) 4 f fd ["context"] (V0e CN CC CT) := by
 refine D.F.okE Z3e (fun vs H Q E h => ?_) (fun X cdv A outer s H vs Q E hX hr hx h => ?_)
 . obtain ⟨c, v, a, b, xs, ys, rfl, _⟩ := h
   rfl
 . subst hX
   obtain ⟨c, v, a, b, xs, ys, rfl, hc, lx, k⟩ := h
   obtain ⟨fR, fdR, mR, gR, bR⟩ := C.raised
   refine ⟨_, (A4 (U6 (C2k (pv 0) C.c.cl mR gR hr bR .nil hx (A0 (J2 (A0 B5 A5)) A5)))
     (A6 (B0 (G8y D_nothing G_nothing hr hx)))), ?_⟩
   have z1 : 1 <= sizeLine := D7 (by decide)
   obtain ⟨dx, e⟩ := hc.ins
   refine ⟨_, rfl, c, dx, _, rfl, e, A3p _ _ _ _ _ _, z1, fun p np => ?_⟩
   have u := Same.upd (o := .lst [.str "void"]) np
   refine ⟨c, v.r, v.y, v.l, v.m, a, b, xs, ys, _, rfl, hc.same u, by omega, .inl ⟨p, ["void"], rfl, A7, by decide, by decide +kernel, fun hn a' H' x na ct => ?_, fun t ht a' d H' x na ct nd ed => ?_⟩⟩
   . exact ⟨rfl, fun n H2 nn s2 num => k.1 hn n a' H2 ((Exc.of u).trans (x.trans (Exc.of s2))) (CtxAt.same ct s2) num⟩
   . exact k.2 t ht a' d H' ((Exc.of u).trans x) ct ed
end
abbrev B2v : Stmt := (top 63)
def U2c (v : Cv) (s f p i : Int) : Nm × List Str := if f = 0 then (B4u v s i, []) else D3p v s f 1 p (p + V3 f - 1) i
theorem G3h {f p : Int} (h : Sz f) : A3z f 1 (p - (p + V3 f - 1)) := by
 obtain ⟨n, rfl, h1, _⟩ := h.nat
 obtain ⟨j, a, b⟩ := D3g n h1
 rw [D3h b a, show p - (p + ((j : Int) + 1) - 1) = -(j : Int) by omega]
 unfold A3z
 have e1 : A2 (-(j : Int)) = 1 := by unfold A2; rw [show (-(j : Int)).toNat = 0 by omega]; rfl
 have e2 : A2 (-(-(j : Int))) = ((10 ^ j : Nat) : Int) := by unfold A2; rw [Int.neg_neg, Int.toNat_natCast]
 rw [e1, e2]
 rw [Nat.pow_succ] at b
 constructor <;> omega
theorem U1s {v : Cv} {f p : Int} (ok : v.Ok) (h : Sz f) (p0 : -400 <= p) (p1 : p <= 400) : -1500 <= p - v.fin (p + V3 f - 1) /\ p - v.fin (p + V3 f - 1) <= 1500 := by
 have ls := G7v h U9g (G3h (p := p) h)
 exact V0a ok ls.1 ls.2 p0 p1
theorem Z2j {x : Nm} (h : x.Bg) (hf : x.f ≠ 0) : Sz x.f := ⟨by have := h.f0; omega, Int.lt_of_lt_of_le h.f1 (G9 (by decide))⟩
theorem Y4w {x y : Nm} (hx : x.Ok) (hy : y.Ok) : (U9k x y).Bg := by
 have := hx.p0; have := hx.p1; have := hy.p0; have := hy.p1
 refine ⟨Int.mul_nonneg hx.f0 hy.f0, ?_, by show -400 <= x.p + y.p; omega, by show x.p + y.p <= 400; omega⟩
 have a : x.f * y.f <= (10 ^ 60 - 1) * (10 ^ 60 - 1) := Int.mul_le_mul hx.f1 hy.f1 hy.f0 (by decide +kernel)
 exact Int.lt_of_le_of_lt a (by decide +kernel)
section
variable {P : Program} {w : World} {K : Frag} {mg : Str -> Option Value} {base : Heap}
end
section
variable {P : Program} {w : World} {K : Frag} {mg : Str -> Option Value} {base : Heap}
def G2s (CN CC CT : Addr) : Sp := fun vs H Q E => ∃ c v a b xs ys n x, vs = [.ref c, .ref n] /\ CtxV CC H c v a b xs ys /\ v.Ok /\ xs.length <= 900 /\ Z4 xs = xs /\ NumIs CN H n x /\ x.k = .plain /\ 0 <= x.s /\ x.s <= 1 /\ x.Bg /\ Ends2 CN CC CT H c v b xs ys (U2c v x.s x.f x.p x.p) Q E
theorem U0y : FnScope ["context", "number"] ["context", "number"] (A1 A2f) := scK
theorem U2h {f f1 f2 f3 fI CN CC CB CB' CT CW CR CE : Addr} {cw : Wy -> Addr} {fd fd1 fd2 fd3 fdI : FuncData} {d0 : Value} {gP : List Value -> List Value -> List Value} {vP : List V -> List V -> List V} (D : Def K mg "rounded" ["context", "number"] A2f f fd)
   (D_need_number : Def K mg "need_number" ["thing"] A3n f1 fd1) (G_need_number : FnOk P w K mg base (CX1 P w) 1 f1 fd1 ["thing"] (C0z K CN CB')) (D_nought : Def K mg "nought" ["context", "sign", "ideal"] A1d f2 fd2) (G_nought : FnOk P w K mg base (CX1 P w) 3 f2 fd2 ["context", "sign", "ideal"] (C3a CN CC))
   (D_settled : Def K mg "settled" ["context", "sign", "exact", "ideal"] A0j f3 fd3) (G_settled : FnOk P w K mg base (CX1 P w) 6 f3 fd3 ["context", "sign", "exact", "ideal"] (B5z CN CC CT CR)) (MR : MakeR P w K mg base CR fI fdI d0 gP vP) (R : RatC K mg CR CE) (N : Num K mg CN) :
   FnOk P w K mg base (CX1 P w) 7 f fd ["context", "number"] (G2s CN CC CT) := by
 refine D.F.okE U0y (fun vs H Q E h => ?_) (fun X cdv A outer s H vs Q E hX hr hx h => ?_)
 . obtain ⟨c, v, a, b, xs, ys, n, x, rfl, _⟩ := h
   rfl
 . subst hX
   obtain ⟨c, v, a, b, xs, ys, n, x, rfl, hc, ok, lx, ox, num, hk, s0, s1, g, k⟩ := h
   refine ⟨_, (A4 (U6 (B9 D_need_number G_need_number hr hx (A0 (pv 1) A5)))
     (A4 (G2 (C5 B4g (C7 (pv 1) rfl) B5 (B8 _)) (A6 (B0 (pv 1))) C8)
     (A4 (G2 (C5 G8 (C7 (pv 1) rfl) A3 (B8 _)) (A6 (B0 (B9 D_nought G_nought hr hx (A0 (pv 0) (A0 (C7 (pv 1) rfl) (A0 (C7 (pv 1) rfl) A5)))))) C8)
     (A6 (B0 (B9 D_settled G_settled hr hx (A0 (pv 0) (A0 (C7 (pv 1) rfl) (A0 (B2h MR.m MR.g hr R.g MR.b3 .nil hx (A0 (C7 (pv 1) rfl) (A0 A3 (A0 (C7 (pv 1) rfl) A5)))) (A0 (C7 (pv 1) rfl) A5)))))))))), ?_⟩
   obtain ⟨dn, en⟩ := id num
   refine ⟨_, rfl, _, rfl, Or.inl ⟨n, _, _, _, _, rfl, num, ?_⟩⟩
   refine ⟨_, rfl, n, CN, dn, _, _, rfl, en, N.cl, N.n1, U1d _ _ _ _, rfl, _, rfl, ?_⟩
   unfold U2c at k
   refine C0a (by rw [hk]; rfl) ⟨_, rfl, n, CN, dn, _, _, rfl, en, N.cl, N.n3, D2h _ _ _ _, rfl, _, rfl, U3 (fun hf => ?_) (fun hf => ?_)⟩
   . have hf : x.f = 0 := V.int.inj hf
     rw [if_pos hf] at k
     exact ⟨_, rfl, _, rfl, n, CN, dn, _, _, rfl, en, N.cl, N.n2, G8w _ _ _ _, _, rfl, n, CN, dn, _, _, rfl, en, N.cl, N.n4, C2e _ _ _ _, c, v, a, b, xs, ys, x.s, x.p, rfl, hc, fun n' H' nn s' num' => k.calm ox s' hc num'⟩
   . have hf : ¬ x.f = 0 := fun z => hf (congrArg V.int z)
     rw [if_neg hf] at k
     have sz := Z2j g hf
     have fn := U1s (p := x.p) ok sz g.p0 g.p1
     refine ⟨_, rfl, _, rfl, n, CN, dn, _, _, rfl, en, N.cl, N.n2, G8w _ _ _ _, _, rfl, n, CN, dn, _, _, rfl, en, N.cl, N.n3, D2h _ _ _ _, _, rfl, n, CN, dn, _, _, rfl, en, N.cl, N.n4, C2e _ _ _ _, fun r dr m1 m2 me => Z6v m1 m2 me fun H1 s1' ra => ⟨rfl, ?_⟩⟩
     obtain ⟨dn1, en1⟩ := num.same s1'
     exact ⟨_, rfl, n, CN, dn1, _, _, rfl, en1, N.cl, N.n4, C2e _ _ _ _, c, v, a, b, xs, ys, r, x.f, 1, x.p, _, x.s, x.p, rfl, hc.same s1', ok, lx, ra, sz, U9g, G3h sz, fn.1, fn.2, s0, s1, k.same s1'⟩
theorem Z3n {x y : Nm} (hx : x.Ok) (hy : y.Ok) : IntMulOk x.f y.f := IntMulOk.of_bits hx.bits hy.bits
def J8d (CN CC CT : Addr) : Sp := fun vs H Q E => ∃ c v a b xs ys n1 n2 x1 x2, vs = [.ref c, .ref n1, .ref n2] /\ CtxV CC H c v a b xs ys /\ v.Ok /\ xs.length <= 900 /\ Z4 xs = xs /\ Two CN H n1 n2 x1 x2 /\ x1.k = .plain /\ x2.k = .plain /\ x1.Ok /\ x2.Ok /\ Ends2 CN CC CT H c v b xs ys (U2c v (C7g x1.s x2.s) (x1.f * x2.f) (x1.p + x2.p) (x1.p + x2.p)) Q E
theorem Y5k : FnScope ["context", "one", "other"] ["context", "one", "other"] (A1 B2v) := scK
theorem V0n {f f1 f2 f3 f6 f7 f8 f9 CN CC CB' CT : Addr} {fd fd1 fd2 fd3 fd6 fd7 fd8 fd9 : FuncData} {sVo : Stmt} (D : Def K mg "times" ["context", "one", "other"] B2v f fd) (D_need_numbers : Def K mg "need_numbers" ["things"] A5c f1 fd1) (G_need_numbers : FnOk P w K mg base (CX1 P w) 2 f1 fd1 ["things"] (G3p K CN CB'))
   (D_some_of_kind : Def K mg "some_of_kind" ["numbers", "kind"] A5j f2 fd2) (G_some_of_kind : FnOk P w K mg base (CX1 P w) 1 f2 fd2 ["numbers", "kind"] (C1a CN)) (D_nothing : Def K mg "nothing" [] Y1 f3 fd3) (G_nothing : FnOk P w K mg base (CX1 P w) 3 f3 fd3 [] (B1n CN))
   (D_rounded : Def K mg "rounded" ["context", "number"] A2f f6 fd6) (G_rounded : FnOk P w K mg base (CX1 P w) 7 f6 fd6 ["context", "number"] (G2s CN CC CT))
   (D_is_end_by_nought : Def K mg "is_end_by_nought" ["one", "other"] A5e f7 fd7) (G_is_end_by_nought : FnOk P w K mg base (CX1 P w) 2 f7 fd7 ["one", "other"] (G2m CN)) (D_product : Def K mg "product" ["one", "other"] A1s f8 fd8) (G_product : FnOk P w K mg base (CX1 P w) 4 f8 fd8 ["one", "other"] (V1d CN)) (D_void : Def K mg "void" ["context"] sVo f9 fd9) : FnOk P w K mg base (CX1 P w) 8 f fd ["context", "one", "other"] (J8d CN CC CT) := by
 have G_void : FnOk P w K mg base (CX1 P w) 1 f9 fd9 ["context"] (fun _ _ _ _ => False) := FnOk.never
 refine D.F.okE Y5k (fun vs H Q E h => ?_) (fun X cdv A outer s H vs Q E hX hr hx h => ?_)
 . obtain ⟨c, v, a, b, xs, ys, n1, n2, x1, x2, rfl, _⟩ := h
   rfl
 . subst hX
   obtain ⟨c, v, a, b, xs, ys, n1, n2, x1, x2, rfl, hc, ok, lx, ox, tw, h1, h2, o1, o2, k⟩ := h
   refine ⟨_, (A4 (U6 (B9 D_need_numbers G_need_numbers hr hx (A0 (J2 (A0 (pv 1) (A0 (pv 2) A5))) A5)))
     (A4 (G2 (U8 (B9 D_some_of_kind G_some_of_kind hr hx (A0 (J2 (A0 (pv 1) (A0 (pv 2) A5))) (A0 B5 A5)))) (A6 (B0 (G8y D_nothing G_nothing hr hx))) C8)
     (A4 (G2 (U8 (B9 D_is_end_by_nought G_is_end_by_nought hr hx (A0 (pv 1) (A0 (pv 2) A5)))) (A6 (B0 (B9 D_void G_void hr hx (A0 (pv 0) A5)))) C8)
     (A6 (B0 (B9 D_rounded G_rounded hr hx (A0 (pv 0) (A0 (B9 D_product G_product hr hx (A0 (pv 1) (A0 (pv 2) A5))) A5)))))))), ?_⟩
   have z2 : 2 <= sizeLine := D7 (by decide)
   refine ⟨_, rfl, _, rfl, z2, fun l nl => ?_⟩
   have u := Same.upd (o := .lst [.ref n1, .ref n2]) nl
   refine ⟨l, [(n1, x1), (n2, x2)], rfl, (B4p (tw.same u) A7).n, .inl ⟨A7, ?_⟩⟩
   refine ⟨_, rfl, _, rfl, z2, fun l2 nl2 => ?_⟩
   have u2 := u.trans (Same.upd (o := .lst [.ref n1, .ref n2]) nl2)
   refine ⟨l2, _, _, rfl, B4p (tw.same u2) A7, (by show 2 <= 1000; decide), fun H3 s3 => ⟨_, rfl, ?_⟩⟩
   rw [C1n h1 h2 (by decide +kernel)]
   refine J9 ?_
   have sm3 := u2.trans s3
   have tw3 := tw.same sm3
   refine ⟨_, rfl, _, rfl, n1, n2, x1, x2, rfl, tw3, h1, h2, fun H4 s4 => ⟨_, rfl, J9 ?_⟩⟩
   have sm4 := sm3.trans s4
   refine ⟨_, rfl, _, rfl, _, rfl, n1, n2, x1, x2, rfl, tw.same sm4, h1, h2, Z3n o1 o2, fun n H5 nn s5 num => ?_⟩
   have sm5 := sm4.trans s5
   have us := Z2v x1.s x2.s
   exact ⟨c, v, a, b, xs, ys, n, U9k x1 x2, rfl, hc.same sm5, ok, lx, ox, num, rfl, us.1, us.2, Y4w o1 o2, k.same sm5⟩
end
abbrev C2c : Stmt := (top 68)
section
variable {P : Program} {w : World} {K : Frag} {mg : Str -> Option Value} {base : Heap}
def V0q (K : Frag) : Sp := fun vs H Q _ => ∃ a ns k, vs = [.ref a, .int k] /\ SqL K H a ((ns : List Int).map V.int) /\ 0 <= k /\ ∀ i, Q (.int i) H
theorem Z3s : FnScope ["_law_script", "_law_k"] ["_law_script", "_law_k"] (A1 C2c) := scK
theorem Y4z {f : Addr} {fd : FuncData} (D : Def K mg "_law_cell_at" ["_law_script", "_law_k"] C2c f fd) (O : Own mg) : FnOk P w K mg base (CX1 P w) 1 f fd ["_law_script", "_law_k"] (V0q K) := by
 refine FnOk.up (D.F.ok Z3s (fun vs H Q E h => ?_) (fun cdv A outer s H vs Q E hr h => ?_))
 . obtain ⟨a, ns, k, rfl, _⟩ := h
   rfl
 . obtain ⟨a, ns, i, rfl, hs, h0, k⟩ := h
   refine ⟨_, (A4 (G2 (C5 B4t (pv 1) (J7 D2q (by rfl) O.len_ PySem.boot_len (A0 (pv 0) A5)) (B8 _)) (A6 (B0 (G7 C0v (pv 0) (pv 1) (fun _ _ => rfl)))) C8)
     (A6 (B0 A3))), ?_⟩
   refine ⟨_, rfl, _, rfl, a, _, rfl, .inl hs, _, _, rfl, rfl, _, rfl, ?_⟩
   refine U3 (fun hlt => ?_) (fun _ => k 0)
   rw [List.length_map] at hlt
   obtain ⟨j, rfl⟩ := Int.eq_ofNat_of_zero_le h0
   have hj : j < ns.length := by omega
   exact ⟨_, rfl, _, rfl, a, _, _, _, rfl, rfl, hs, D4 (v := V.int ns[j]) (by simp [hj]), k _⟩
end
abbrev A8g : Stmt := (top 69)
section
variable {P : Program} {w : World} {K : Frag} {mg : Str -> Option Value} {base : Heap}
def D3r : Sp := fun vs H Q _ => ∃ c k, vs = [.int c, .int k] /\ 0 <= k /\ k <= 100 /\ ∀ m, 0 <= m -> m < 2147483629 -> Q (.int m) H
theorem Y5g : FnScope ["_law_cell", "_law_k"] ["_law_cell", "_law_k"] (A1 A8g) := scK
theorem U9b {f : Addr} {fd : FuncData} (D : Def K mg "_law_mixed" ["_law_cell", "_law_k"] A8g f fd) : FnOk P w K mg base (CX1 P w) 1 f fd ["_law_cell", "_law_k"] D3r := by
 refine FnOk.up (D.F.ok Y5g (fun vs H Q E h => ?_) (fun cdv A outer s H vs Q E hr h => ?_))
 . obtain ⟨c, k, rfl, _⟩ := h
   rfl
 . obtain ⟨c, i, rfl, h0, h1, k⟩ := h
   refine ⟨_, (A6 (B0 (B3 V6 (B3 D6 (B3 V6 (B3 J3 (B3 J3 (B3 D6 (pv 0) (B3 J3 A3 (B3 D6 (B3 D6 A3 (pv 1)) (pv 1)))) (B3 D6 A3 (pv 1))) A3) A3) A3) A3))), ?_⟩
   have q0 : (0 : Int) <= 2 * i * i := Int.mul_nonneg (by omega) h0
   have q1 : 2 * i * i <= 200 * 100 := Int.mul_le_mul (by omega) h1 h0 (by decide)
   have m1 : IntMulOk 2 i := CMul.ok (.inl ⟨by decide, by decide⟩)
   have m2 : IntMulOk (2 * i) i := CMul.ok (.inr ⟨by omega, by omega⟩)
   have m3 : IntMulOk c (48271 + 2 * i * i) := CMul.ok (.inr ⟨by omega, by omega⟩)
   have m4 : IntMulOk 69621 i := CMul.ok (.inl ⟨by decide, by decide⟩)
   have m5 : ∀ z : Int, IntMulOk z 69621 := fun z => CMul.ok (.inr ⟨by decide, by decide⟩)
   refine ⟨_, rfl, _, rfl, _, _, rfl, rfl, m1, _, rfl, _, _, rfl, rfl, m2, _, _, rfl, rfl, _, _, rfl, rfl, m3, _, rfl, _, _, rfl, rfl, m4, _, _, rfl, rfl, _, _, rfl, rfl, _, _, rfl, rfl, (by show (0 : Int) < 2147483647; decide), _, _, rfl, rfl, m5 _, _, _, rfl, rfl, (by show (0 : Int) < 2147483629; decide), ?_⟩
   exact k _ (Int.emod_nonneg _ (by decide)) (Int.emod_lt_of_pos _ (by decide))
end
abbrev B4s : Stmt := (top 70)
section
variable {P : Program} {w : World} {K : Frag} {mg : Str -> Option Value} {base : Heap}
def D2k : Sp := fun vs H Q _ => ∃ n : Nat, vs = [.int (n : Int)] /\ n <= 600 /\ Q (.int ((10 ^ n : Nat) : Int)) H
theorem Z2r : FnScope ["_law_count"] ["_law_count"] (A1 B4s) := scK
theorem Y5q {f : Addr} {fd : FuncData} (D : Def K mg "_law_ten" ["_law_count"] B4s f fd) (O : Own mg) : FnOk P w K mg base (CX1 P w) 1 f fd ["_law_count"] D2k := by
 refine FnOk.up (D.F.ok Z2r (fun vs H Q E h => ?_) (fun cdv A outer s H vs Q E hr h => ?_))
 . obtain ⟨n, rfl, _⟩ := h
   rfl
 . obtain ⟨n, rfl, hn, k⟩ := h
   refine ⟨_, (A6 (B0 (A3y C7d (by rfl) O.int_ boot_int (A0 (B3 G8g B5 (B3 G7y B5 (pv 0))) A5)))), ?_⟩
   have l1 : ("1" : Str).length = 1 := by decide +kernel
   have l0 : ("0" : Str).length = 1 := by decide +kernel
   refine ⟨_, rfl, _, _, rfl, rfl, by omega, by omega, D7 (by rw [l0]; omega), _, _, rfl, rfl, D7 (by rw [C2w, l0, l1]; omega), ?_⟩
   exact ⟨U0x n, _, rfl, U7p n hn, by rw [G3s]; omega, k⟩
end
theorem dv {n : Int} (h : 0 < n) (h2 : n.natAbs.log2 < 9000) : (0 : Int) < n /\ n.natAbs.log2 < 9000 := ⟨h, h2⟩
section
variable {P : Program} {w : World} {K : Frag} {mg : Str -> Option Value} {base : Heap}
end
theorem Z2u {a b : Int} (h : a = 0) (hb : 0 < b) : A2q a b = 0 := by
 subst h
 unfold A2q
 rw [decide_eq_false (show ¬ (0 : Int) < 0 by omega), decide_eq_false (show ¬ b <= 2 * 0 by omega), decide_eq_false (show ¬ b < 2 * 0 by omega)]
 rfl
theorem Y6b {l : Int} (h0 : 0 <= l) (h1 : l <= 9) : inV (.int l) [.int 0, .int 5] = decide (V.int (l % 5) = V.int 0) := by
 rcases (by omega : l = 0 \/ l = 1 \/ l = 2 \/ l = 3 \/ l = 4 \/ l = 5 \/ l = 6 \/ l = 7 \/ l = 8 \/ l = 9) with rfl | rfl | rfl | rfl | rfl | rfl | rfl | rfl | rfl | rfl <;> decide +kernel
inductive Lv where
 | rat (t b n : Int)
 | roo (t n : Int)
def Z8v (t b : Int) : Int := if t * A2 (-(V3 t - V3 b)) < b * A2 (V3 t - V3 b) then V3 t - V3 b - 1 else V3 t - V3 b
def G5 (t n : Int) : Int := (V3 t - 1 + n) / 2
def Lv.L : Lv -> Int
 | .rat t b n => n + Z8v t b
 | .roo t n => G5 t n
noncomputable def Lv.wh : Lv -> Int -> Int
 | .rat t b n, p => whI t b (n - p)
 | .roo t n, p => whQ t (n - 2 * p)
noncomputable def Lv.pt : Lv -> Int -> Int
 | .rat t b n, p => ptI t b (n - p)
 | .roo t n, p => B4q t (n - 2 * p) (whQ t (n - 2 * p))
theorem G8d {t : Int} (h : Sz t) : A2 (V3 t - 1) <= t /\ t < A2 (V3 t) /\ 1 <= V3 t := by
 obtain ⟨n, rfl, h1, _⟩ := h.nat
 obtain ⟨j, a, b⟩ := D3g n h1
 rw [D3h b a]
 have e1 : A2 ((j : Int) + 1 - 1) = ((10 ^ j : Nat) : Int) := by unfold A2; rw [show ((j : Int) + 1 - 1).toNat = j by omega]
 have e2 : A2 ((j : Int) + 1) = ((10 ^ (j + 1) : Nat) : Int) := by unfold A2; rw [show ((j : Int) + 1).toNat = j + 1 by omega]
 rw [e1, e2]
 exact ⟨Int.ofNat_le.mpr a, Int.ofNat_lt.mpr b, by omega⟩
section
variable {P : Program} {w : World} {K : Frag} {mg : Str -> Option Value} {base : Heap}
end
theorem C2d {t : Int} (ht : SzQ t) (n : Int) : A8c t (n - 2 * G5 t n) := by
 obtain ⟨m, rfl, h1, _⟩ := J8j ht
 obtain ⟨L, l1, l2⟩ := D3g m h1
 refine D1n l1 l2 ?_
 unfold G5
 rw [D3h l2 l1]
 congr 1
 omega
theorem Z7p {t s wh : Int} : 0 <= B4q t s wh /\ B4q t s wh <= 3 := by
 unfold B4q
 split
 . decide
 . generalize decide ((2 * wh + 1) * (2 * wh + 1) * A2 (-s) <= 4 * (t * A2 s)) = x
   generalize decide ((2 * wh + 1) * (2 * wh + 1) * A2 (-s) < 4 * (t * A2 s)) = y
   cases x <;> cases y <;> decide
section
variable {P : Program} {w : World} {K : Frag} {mg : Str -> Option Value} {base : Heap}
end
noncomputable def setL (v : Cv) (s : Int) (lv : Lv) (i : Int) : Nm × List Str := Y2 v s (lv.wh (v.fin lv.L)) (lv.pt (v.fin lv.L)) lv.L (v.fin lv.L) i
section
variable {P : Program} {w : World} {K : Frag} {mg : Str -> Option Value} {base : Heap}
end
abbrev C0f : Stmt := (top 44)
theorem U2g {t s s0 r : Int} (ht : 1 <= t) (h : A8c t s0) (hr : 1 <= r) (e : s <= s0 + 2 * (r - 1)) : whQ t s < A2 r := by
 have wq := B5c (s := s) ht
 have bp := C4 (-s)
 have key : t * A2 s < A2 (2 * r) * A2 (-s) := by
   have p0 := C4 (-s0)
   by_cases hs : s0 <= s
   . have c := A2h hs
     have q : t * A2 s * A2 (-s0) = t * A2 s0 * A2 (-s) * A2 (s - s0) := by
       calc t * A2 s * A2 (-s0) = t * (A2 s * A2 (-s0)) := by ac_rfl
         _ = t * (A2 s0 * A2 (-s) * A2 (s - s0)) := by rw [c]
         _ = t * A2 s0 * A2 (-s) * A2 (s - s0) := by ac_rfl
     have a1 : t * A2 s0 * A2 (-s) < 100 * A2 (-s0) * A2 (-s) := Int.mul_lt_mul_of_pos_right h.2 bp
     have a2 : t * A2 s0 * A2 (-s) * A2 (s - s0) < 100 * A2 (-s0) * A2 (-s) * A2 (s - s0) := Int.mul_lt_mul_of_pos_right a1 (C4 _)
     have g : A2 (s - s0) <= A2 (2 * (r - 1)) := G9 (by omega)
     have a3 : 100 * A2 (-s0) * A2 (-s) * A2 (s - s0) <= 100 * A2 (-s0) * A2 (-s) * A2 (2 * (r - 1)) := Int.mul_le_mul_of_nonneg_left g (Int.le_of_lt (Int.mul_pos (Int.mul_pos (by decide) p0) bp))
     have e2 : A2 (2 * r) = 100 * A2 (2 * (r - 1)) := by
       unfold A2
       rw [show (2 * r).toNat = (2 * (r - 1)).toNat + 2 by omega, Nat.pow_add, Int.natCast_mul, Int.mul_comm]
       rfl
     have e3 : 100 * A2 (-s0) * A2 (-s) * A2 (2 * (r - 1)) = A2 (2 * r) * A2 (-s) * A2 (-s0) := by rw [e2]; ac_rfl
     exact Int.lt_of_mul_lt_mul_right (by rw [q, <- e3]; omega) (Int.le_of_lt p0)
   . have c := A2h (show s <= s0 by omega)
     have q : t * A2 s0 * A2 (-s) = t * A2 s * A2 (-s0) * A2 (s0 - s) := by
       calc t * A2 s0 * A2 (-s) = t * (A2 s0 * A2 (-s)) := by ac_rfl
         _ = t * (A2 s * A2 (-s0) * A2 (s0 - s)) := by rw [c]
         _ = t * A2 s * A2 (-s0) * A2 (s0 - s) := by ac_rfl
     have a1 : t * A2 s0 * A2 (-s) < 100 * A2 (-s0) * A2 (-s) := Int.mul_lt_mul_of_pos_right h.2 bp
     have d := C4 (s0 - s)
     have a2 : t * A2 s * A2 (-s0) * 1 <= t * A2 s * A2 (-s0) * A2 (s0 - s) := Int.mul_le_mul_of_nonneg_left (by omega) (Int.le_of_lt (Int.mul_pos (Int.mul_pos (by omega) (C4 _)) p0))
     have g : 100 <= A2 (2 * r) := by
       have : A2 2 <= A2 (2 * r) := G9 (by omega)
       have e : A2 2 = 100 := rfl
       omega
     have a3 : 100 * (A2 (-s0) * A2 (-s)) <= A2 (2 * r) * (A2 (-s0) * A2 (-s)) := Int.mul_le_mul_of_nonneg_right g (Int.le_of_lt (Int.mul_pos p0 bp))
     have e3 : 100 * A2 (-s0) * A2 (-s) = 100 * (A2 (-s0) * A2 (-s)) := by ac_rfl
     have e4 : A2 (2 * r) * (A2 (-s0) * A2 (-s)) = A2 (2 * r) * A2 (-s) * A2 (-s0) := by ac_rfl
     exact Int.lt_of_mul_lt_mul_right (a := A2 (-s0)) (by rw [q] at a1; rw [<- e4]; omega) (Int.le_of_lt p0)
 apply Classical.byContradiction
 intro z
 have w : A2 r <= whQ t s := by omega
 have ww : A2 r * A2 r <= whQ t s * whQ t s := Int.mul_le_mul w w (Int.le_of_lt (C4 _)) wq.1
 have e : A2 (2 * r) = A2 r * A2 r := by
   unfold A2
   rw [<- Int.natCast_mul, <- Nat.pow_add]
   congr 2
   omega
 have := wq.2.1
 have b : A2 r * A2 r * A2 (-s) <= whQ t s * whQ t s * A2 (-s) := Int.mul_le_mul_of_nonneg_right ww (Int.le_of_lt bp)
 rw [e] at key
 omega
theorem J9f {v : Cv} {t n : Int} (ok : v.Ok) (ht : SzQ t) (n0 : -200 <= n) (n1 : n <= 200) : -200 <= n - 2 * v.fin (G5 t n) /\ n - 2 * v.fin (G5 t n) <= 200 /\ whQ t (n - 2 * v.fin (G5 t n)) < A2 v.r := by
 have ld := C2d ht n
 have lb := G2f ht ld
 have r1 := ok.r1; have r2 := ok.r2; have l1 := ok.l1; have l2 := ok.l2
 have rm := U2g (s := n - 2 * v.fin (G5 t n)) (r := v.r) ht.1 ld r1 (by
   unfold Cv.fin B5v
   split <;> omega)
 refine ⟨?_, ?_, rm⟩
 . unfold Cv.fin B5v
   split <;> omega
 . unfold Cv.fin B5v
   split <;> omega
noncomputable def rootR (v : Cv) (x : Nm) : Nm × List Str := if x.f = 0 then (B4u v x.s (x.p / 2), []) else if x.s = 1 then (Z0f, ["void"]) else setL v 0 (.roo x.f x.p) (x.p / 2)
section
variable {P : Program} {w : World} {K : Frag} {mg : Str -> Option Value} {base : Heap}
def C1f (CN CC CT CR CQ : Addr) : Sp := fun vs H Q E => A5g CN CC CT CR (A3x CR) (C1m CR) vs H Q E \/ A5g CN CC CT CQ (A7w CQ) (G3x CQ) vs H Q E
def G9c (CN CC CT : Addr) : Sp := fun vs H Q E => ∃ c v a b xs ys n x, vs = [.ref c, .ref n] /\ CtxV CC H c v a b xs ys /\ v.Ok /\ xs.length <= 900 /\ Z4 xs = xs /\ NumIs CN H n x /\ x.k = .plain /\ x.Ok /\ Ends2 CN CC CT H c v b xs ys (rootR v x) Q E
theorem Z3q : FnScope ["context", "one"] ["context", "one"] (A1 C0f) := scK
theorem Y4u {f f1 f2 f3 f4 f5 fQ CN CC CB' CT CR CQ CE : Addr} {fd fd1 fd2 fd3 fd4 fd5 fdQ : FuncData} {d0 : Value} {gP : List Value -> List Value -> List Value} {vP : List V -> List V -> List V} (D : Def K mg "root" ["context", "one"] C0f f fd) (D_need_number : Def K mg "need_number" ["thing"] A3n f1 fd1) (G_need_number : FnOk P w K mg base (CX1 P w) 1 f1 fd1 ["thing"] (C0z K CN CB'))
   (D_nothing : Def K mg "nothing" [] Y1 f2 fd2) (G_nothing : FnOk P w K mg base (CX1 P w) 3 f2 fd2 [] (B1n CN)) (D_nought : Def K mg "nought" ["context", "sign", "ideal"] A1d f3 fd3) (G_nought : FnOk P w K mg base (CX1 P w) 3 f3 fd3 ["context", "sign", "ideal"] (C3a CN CC)) (D_void : Def K mg "void" ["context"] C2u f4 fd4) (G_void : FnOk P w K mg base (CX1 P w) 4 f4 fd4 ["context"] (V0e CN CC CT))
   (D_settled : Def K mg "settled" ["context", "sign", "exact", "ideal"] A0j f5 fd5) (G_settled : FnOk P w K mg base (CX1 P w) 6 f5 fd5 ["context", "sign", "exact", "ideal"] (C1f CN CC CT CR CQ)) (N : Num K mg CN) (MQ : MakeQ P w K mg base CQ fQ fdQ d0 gP vP) (RQ : RooC K mg CQ CE) : FnOk P w K mg base (CX1 P w) 7 f fd ["context", "one"] (G9c CN CC CT) := by
 refine D.F.okE Z3q (fun vs H Q E h => ?_) (fun X cdv A outer s H vs Q E hX hr hx h => ?_)
 . obtain ⟨c, v, a, b, xs, ys, n, x, rfl, _⟩ := h
   rfl
 . subst hX
   obtain ⟨c, v, a, b, xs, ys, n, x, rfl, hc, ok, lx, ox, hn, hk, xo, kk⟩ := h
   refine ⟨_, (A4 (U6 (B9 D_need_number G_need_number hr hx (A0 (pv 1) A5)))
     (A4 (G2 (C5 G8 (C7 (pv 1) rfl) B5 (B8 _)) (A6 (B0 (G8y D_nothing G_nothing hr hx))) C8)
     (A4 (G2 (PW.pt (G8u (C5 G8 (C7 (pv 1) rfl) B5 (B8 _)) (D2j (C5 G8 (C7 (pv 1) rfl) A3 (B8 _))))) (A6 (B0 (B9 D_nought G_nought hr hx (A0 (pv 0) (A0 (C7 (pv 1) rfl) (A0 (B3 G6 (C7 (pv 1) rfl) A3) A5)))))) C8)
     (A4 (G2 (C5 G8 (C7 (pv 1) rfl) A3 (B8 _)) (A6 (B0 (B9 D_void G_void hr hx (A0 (pv 0) A5)))) C8)
     (A4 (G2 (C5 G8 (C7 (pv 1) rfl) B5 (B8 _)) (A6 (B0 (pv 1))) C8)
     (A6 (B0 (B9 D_settled G_settled hr hx (A0 (pv 0) (A0 A3 (A0 (B2h MQ.m MQ.g hr RQ.g MQ.b3 .nil hx (A0 (C7 (pv 1) rfl) (A0 (C7 (pv 1) rfl) A5))) (A0 (B3 G6 (C7 (pv 1) rfl) A3) A5)))))))))))), ?_⟩
   obtain ⟨dn, en⟩ := id hn
   have xp0 := xo.p0; have xp1 := xo.p1; have xf0 := xo.f0; have xf1 := xo.f1
   have npl : ∀ {z : Str}, Kd.plain.str ≠ z -> ¬ V.str x.k.str = V.str z := fun hz e => by
     rw [hk] at e
     exact hz (by injection e)
   have d2 : (0 : Int) < 2 /\ (2 : Int).natAbs.log2 < 9000 := ⟨by decide, by decide +kernel⟩
   refine ⟨_, rfl, _, rfl, .inl ⟨n, _, _, _, _, rfl, hn, ?_⟩⟩
   refine ⟨_, rfl, n, CN, dn, _, _, rfl, en, N.cl, N.n1, U1d _ _ _ _, rfl, _, rfl, C1x (npl (by decide +kernel)) ?_⟩
   refine ⟨_, rfl, n, CN, dn, _, _, rfl, en, N.cl, N.n1, U1d _ _ _ _, rfl, _, rfl, B4n (by rw [hk]; rfl) ?_⟩
   refine ⟨_, rfl, n, CN, dn, _, _, rfl, en, N.cl, N.n3, D2h _ _ _ _, rfl, _, rfl, ?_⟩
   unfold rootR at kk
   by_cases hf : x.f = 0
   . rw [if_pos hf] at kk
     refine B4n (congrArg V.int hf) ?_
     exact ⟨_, rfl, _, rfl, n, CN, dn, _, _, rfl, en, N.cl, N.n2, G8w _ _ _ _, _, rfl, n, CN, dn, _, _, rfl, en, N.cl, N.n4, C2e _ _ _ _, _, _, rfl, rfl, d2, c, v, a, b, xs, ys, x.s, x.p / 2, rfl, hc, fun m H' nm sm num => kk.calm ox sm hc num⟩
   rw [if_neg hf] at kk
   refine C1x (fun z => hf (by injection z)) ?_
   refine ⟨_, rfl, n, CN, dn, _, _, rfl, en, N.cl, N.n2, G8w _ _ _ _, rfl, _, rfl, U3 (fun hs => ?_) (fun hs => ?_)⟩
   . rw [if_pos (V.int.inj hs)] at kk
     exact ⟨_, rfl, c, v, a, b, xs, ys, rfl, hc, lx, kk⟩
   rw [if_neg fun z => hs (congrArg V.int z)] at kk
   refine ⟨_, rfl, n, CN, dn, _, _, rfl, en, N.cl, N.n1, U1d _ _ _ _, rfl, _, rfl, C1x (npl (by decide +kernel)) ?_⟩
   refine ⟨_, rfl, _, rfl, n, CN, dn, _, _, rfl, en, N.cl, N.n3, D2h _ _ _ _, _, rfl, n, CN, dn, _, _, rfl, en, N.cl, N.n4, C2e _ _ _ _, fun q dq m1 m2 me => Z7a m1 m2 me fun H4 s4 ra => ⟨rfl, ?_⟩⟩
   have szq : SzQ x.f := ⟨by omega, Int.lt_of_le_of_lt xf1 (by decide +kernel)⟩
   obtain ⟨q0, q1, wr⟩ := J9f ok szq xp0 xp1
   have ld := C2d szq x.p
   have wq := B5c (t := x.f) (s := x.p - 2 * v.fin (G5 x.f x.p)) (by omega)
   obtain ⟨dn4, en4⟩ := hn.same s4
   refine ⟨_, rfl, n, CN, dn4, _, _, rfl, en4, N.cl, N.n4, C2e _ _ _ _, _, _, rfl, rfl, d2, .inr ⟨c, v, a, b, xs, ys, q, rooE CQ x.f x.p (G5 x.f x.p), 0, x.p / 2, rfl, hc.same s4, ok, lx, rooV szq (by omega) (by omega) ld, ra, ⟨q0, q1⟩, wq.1, wr, by decide, by decide, kk.same s4⟩⟩
end
theorem U4 {a b : Int} (ha : 0 <= a) (hb : 0 <= b) : A2 (a + b) = A2 a * A2 b := by
 unfold A2
 rw [show (a + b).toNat = a.toNat + b.toNat by omega, Nat.pow_add]
 exact Int.natCast_mul _ _
theorem E24 {q c p : Int} (h1 : c <= q) (h2 : 2 * c <= p) : ∃ E, 0 < E /\ A2 (q - c) * A2 (q - c) = A2 (-(p - 2 * q)) * E /\ A2 (p - 2 * c) = A2 (p - 2 * q) * E := by
 by_cases hs : 0 <= p - 2 * q
 . refine ⟨A2 (2 * (q - c)), C4 _, ?_, ?_⟩
   . rw [A2j (show -(p - 2 * q) <= 0 by omega), Int.one_mul, <- U4 (by omega) (by omega)]
     congr 1
     omega
   . rw [<- U4 hs (by omega)]
     congr 1
     omega
 . refine ⟨A2 (p - 2 * c), C4 _, ?_, ?_⟩
   . rw [<- U4 (by omega) (by omega), <- U4 (by omega) (by omega)]
     congr 1
     omega
   . rw [A2j (show p - 2 * q <= 0 by omega), Int.one_mul]
theorem G3u (i : Int) : ∀ (n : Nat) (f p : Int), f ≠ 0 -> (Y3 i n f p).1 ≠ 0
 | 0, f, p, h => h
 | n + 1, f, p, h => by
   unfold Y3
   split
   . exact G3u i n (f / 10) (p + 1) (by omega)
   . exact h
theorem J9d (i : Int) : ∀ (n : Nat) (f p : Int), (Y3 i n f p).1 * A2 ((Y3 i n f p).2 - p) = f /\ p <= (Y3 i n f p).2 /\ (Y3 i n f p).2 <= p + n
 | 0, f, p => ⟨by show f * A2 (p - p) = f; rw [A2j (by omega), Int.mul_one], Int.le_refl _, by show p <= p + 0; omega⟩
 | n + 1, f, p => by
   unfold Y3
   split
   . rename_i hf
     obtain ⟨a, b, c⟩ := J9d i n (f / 10) (p + 1)
     refine ⟨?_, by omega, by omega⟩
     rw [show (Y3 i n (f / 10) (p + 1)).2 - p = 1 + ((Y3 i n (f / 10) (p + 1)).2 - (p + 1)) by omega, U4 (by omega) (by omega), show A2 1 = 10 from rfl, Int.mul_left_comm, a]
     omega
   . exact ⟨by show f * A2 (p - p) = f; rw [A2j (by omega), Int.mul_one], Int.le_refl _, by show p <= p + ((n + 1 : Nat) : Int); omega⟩
def x24 (t p : Int) : Nm := ⟨.plain, 0, t, p⟩
def v24 (r : Int) (y : Wy) : Cv := ⟨r, y, -60, 60⟩
noncomputable def R24 (t p r : Int) (y : Wy) : Nm × List Str := rootR (v24 r y) (x24 t p)
structure D24 (t p r : Int) : Prop where
 t1 : 1 <= t
 t2 : t < A2 12
 p0 : -30 <= p
 p1 : p <= 30
 r1 : 1 <= r
 r2 : r <= 9
theorem D24.ok {t p r : Int} (h : D24 t p r) (y : Wy) : (v24 r y).Ok := ⟨h.r1, by have := h.r2; show r <= 24; omega, by show (-60 : Int) <= -60; decide, by show (-60 : Int) <= 0; decide, by show (0 : Int) <= 60; decide, by show (60 : Int) <= 60; decide⟩
theorem D24.x {t p r : Int} (h : D24 t p r) : (x24 t p).Ok := by
 have := h.t1; have := h.t2; have := h.p0; have := h.p1
 have e : A2 12 <= 10 ^ 60 - 1 := by decide +kernel
 exact ⟨by show (0 : Int) <= 0; decide, by show (0 : Int) <= 1; decide, by show 0 <= t; omega, by show t <= 10 ^ 60 - 1; omega, by show -200 <= p; omega, by show p <= 200; omega⟩
def q24 (t p r : Int) : Int := G5 t p - r + 1
noncomputable def w24 (t p r : Int) : Int := whQ t (p - 2 * q24 t p r)
noncomputable def pt24 (t p r : Int) : Int := B4q t (p - 2 * q24 t p r) (w24 t p r)
theorem D24.sz {t p r : Int} (h : D24 t p r) : Sz t := ⟨h.t1, Int.lt_of_lt_of_le h.t2 (G9 (by decide))⟩
theorem D24.lead {t p r : Int} (h : D24 t p r) : -16 <= G5 t p /\ G5 t p <= 21 := by
 have b := G8d h.sz
 have f : V3 t <= 12 := by
   refine Classical.byContradiction fun z => ?_
   have := G9 (show 12 <= V3 t - 1 by omega)
   have := h.t2
   omega
 have := h.p0; have := h.p1
 unfold G5
 omega
theorem D24.fin {t p r : Int} (h : D24 t p r) (y : Wy) : (v24 r y).fin (G5 t p) = q24 t p r := by
 have := h.lead
 unfold Cv.fin B5v q24
 show (if (-60 : Int) - r + 1 > G5 t p - r + 1 then (-60 : Int) - r + 1 else G5 t p - r + 1) = _
 rw [if_neg (by omega)]
theorem D24.q {t p r : Int} (h : D24 t p r) : -30 <= q24 t p r /\ q24 t p r + r <= 22 := by
 have := h.lead; have := h.r1; have := h.r2
 unfold q24
 omega
theorem D24.root {t p r : Int} (h : D24 t p r) : Z8 t (p - 2 * q24 t p r) (w24 t p r) := B5c h.t1
theorem D24.w {t p r : Int} (h : D24 t p r) : 0 < w24 t p r /\ w24 t p r < A2 r := by
 have szq : SzQ t := ⟨h.t1, Int.lt_trans h.t2 (by decide +kernel)⟩
 have ri := J9f (h.ok .down) szq (n := p) (by have := h.p0; omega) (by have := h.p1; omega)
 rw [h.fin .down] at ri
 have ld := C2d szq p
 have rt := h.root
 refine ⟨?_, ri.2.2⟩
 refine Classical.byContradiction fun z => ?_
 have w0 : w24 t p r = 0 := by have := rt.1; omega
 have w2 := rt.2.2
 rw [w0, show ((0 : Int) + 1) * (0 + 1) = 1 by decide, Int.one_mul] at w2
 have hr := h.r1
 have eq : q24 t p r <= G5 t p := by unfold q24; omega
 have a : A2 (-(p - 2 * q24 t p r)) <= A2 (-(p - 2 * G5 t p)) := G9 (by omega)
 have b : t * A2 (p - 2 * G5 t p) <= t * A2 (p - 2 * q24 t p r) := Int.mul_le_mul_of_nonneg_left (G9 (by omega)) (by have := h.t1; omega)
 have c := ld.1
 omega
theorem U7n {t p r : Int} (h : D24 t p r) (y : Wy) : R24 t p r y = Y2 (v24 r y) 0 (w24 t p r) (pt24 t p r) (G5 t p) (q24 t p r) (p / 2) := by
 have f : ¬ (x24 t p).f = 0 := by have := h.t1; show ¬ t = 0; omega
 have s : ¬ (x24 t p).s = 1 := by show ¬ (0 : Int) = 1; decide
 unfold R24 rootR
 rw [if_neg f, if_neg s]
 unfold setL
 show Y2 (v24 r y) 0 (whQ t (p - 2 * (v24 r y).fin (G5 t p))) (B4q t (p - 2 * (v24 r y).fin (G5 t p)) (whQ t (p - 2 * (v24 r y).fin (G5 t p)))) (G5 t p) ((v24 r y).fin (G5 t p)) (p / 2) = _
 rw [h.fin y]
 rfl
theorem G4a {t p r f P : Int} (h : D24 t p r) (f0 : 0 < f) (f1 : f < A2 r) (hP : P <= 30) : U9 60 f P = false := by
 have r2 := h.r2
 have f2 : f <= 10 ^ 60 - 1 := by
   have a := G9 (show r <= 24 by omega)
   have b : A2 24 <= 10 ^ 60 - 1 := by decide +kernel
   omega
 have b := G8d (V1e (by omega) (by omega) f2)
 have g : V3 f <= r := by
   refine Classical.byContradiction fun z => ?_
   have := G9 (show r <= V3 f - 1 by omega)
   omega
 unfold U9
 rw [if_neg (by omega)]
 exact decide_eq_false (by omega)
theorem J8m {t p r : Int} (h : D24 t p r) (e : pt24 t p r = 0) : ∃ (f0 p0 : Int) (ns : List Str), (∀ y, R24 t p r y = (⟨.plain, 0, f0, p0⟩, ns)) /\ 0 < f0 /\ f0 < A2 r /\ q24 t p r <= p0 /\ p0 <= 30 /\ f0 * A2 (p0 - q24 t p r) = w24 t p r /\ (ns = [] \/ ns = (["cut"] : List Str)) := by
 have hw := h.w; have hq := h.q; have hl := h.lead
 have p0 := h.p0; have p1 := h.p1; have r1 := h.r1
 obtain ⟨a, b, c⟩ := J9d (p / 2) (p / 2 - q24 t p r).toNat (w24 t p r) (q24 t p r)
 have d := C3d (p / 2) (p / 2 - q24 t p r).toNat (w24 t p r) (q24 t p r) (by omega)
 have nz := G3u (p / 2) (p / 2 - q24 t p r).toNat (w24 t p r) (q24 t p r) (by omega)
 refine ⟨(J1 (p / 2) (w24 t p r) (q24 t p r)).1, (J1 (p / 2) (w24 t p r) (q24 t p r)).2, Z6 0 (decide ((J1 (p / 2) (w24 t p r) (q24 t p r)).2 > p / 2)), fun y => ?_, by show 0 < (J1 (p / 2) (w24 t p r) (q24 t p r)).1; unfold J1; omega, ?_, ?_, ?_, ?_, ?_⟩
 . rw [U7n h, e]
   have el : V7 (v24 r y).l (G5 t p) 0 = [] := by
     unfold V7
     exact if_pos (show G5 t p >= -60 by omega)
   have be : U9 (v24 r y).m (J1 (p / 2) (w24 t p r) (q24 t p r)).1 (J1 (p / 2) (w24 t p r) (q24 t p r)).2 = false := G4a h (by unfold J1; omega) (by unfold J1; omega) (by unfold J1; omega)
   unfold Y2 A1c
   rw [if_pos rfl, be, if_neg Bool.false_ne_true, el, List.append_nil]
 . unfold J1; omega
 . exact b
 . unfold J1; omega
 . exact a
 . unfold Z6
   rw [if_pos rfl]
   split
   . exact .inr rfl
   . exact .inl rfl
theorem G7u {r u q : Int} (hr : 1 <= r) (h0 : 0 < u) (h1 : u <= A2 r) : (Z5 r u q).1 * A2 ((Z5 r u q).2 - q) = u /\ 0 < (Z5 r u q).1 /\ (Z5 r u q).1 < A2 r /\ q <= (Z5 r u q).2 /\ (Z5 r u q).2 <= q + 1 := by
 have e : A2 r = A2 (r - 1) * 10 := by
   have := U4 (show 0 <= r - 1 by omega) (show (0 : Int) <= 1 by decide)
   rw [show r - 1 + 1 = r by omega] at this
   exact this
 have tp := C4 (r - 1)
 unfold Z5
 by_cases h : u = A2 r
 . rw [if_pos h]
   refine ⟨?_, by show 0 < u / 10; omega, by show u / 10 < A2 r; omega, by show q <= q + 1; omega, Int.le_refl _⟩
   show u / 10 * A2 (q + 1 - q) = u
   rw [show q + 1 - q = 1 by omega, show A2 1 = 10 from rfl]
   omega
 . rw [if_neg h]
   refine ⟨?_, h0, by show u < A2 r; omega, Int.le_refl _, by show q <= q + 1; omega⟩
   show u * A2 (q - q) = u
   rw [A2j (by omega), Int.mul_one]
theorem Z9j (y : Wy) (s w pt : Int) : w <= upI y s w pt /\ upI y s w pt <= w + 1 := by
 unfold upI
 split <;> omega
theorem B4m {t p r : Int} (h : D24 t p r) (e : pt24 t p r ≠ 0) (y : Wy) : R24 t p r y = ((⟨.plain, 0, (Z5 r (upI y 0 (w24 t p r) (pt24 t p r)) (q24 t p r)).1, (Z5 r (upI y 0 (w24 t p r) (pt24 t p r)) (q24 t p r)).2⟩, ["off", "cut"]) : Nm × List Str) := by
 have hw := h.w; have hq := h.q; have hl := h.lead; have r1 := h.r1
 have u := Z9j y 0 (w24 t p r) (pt24 t p r)
 obtain ⟨a, b, c, d, f⟩ := G7u (r := r) (u := upI y 0 (w24 t p r) (pt24 t p r)) (q := q24 t p r) r1 (by omega) (by omega)
 rw [U7n h]
 unfold Y2 A1c
 rw [if_neg e]
 show (if U9 60 (Z5 r (upI y 0 (w24 t p r) (pt24 t p r)) (q24 t p r)).1 (Z5 r (upI y 0 (w24 t p r) (pt24 t p r)) (q24 t p r)).2 = true then _ else _) = _
 rw [G4a h b c (by omega), if_neg Bool.false_ne_true]
 have el : V7 (v24 r y).l (G5 t p) (pt24 t p r) = [] := by
   unfold V7
   exact if_pos (show G5 t p >= -60 by omega)
 rw [el, List.append_nil]
 unfold Z6
 rw [if_neg e]
 rfl
theorem Z3h {x y E : Int} (hE : 0 < E) : (x * E < y * E ↔ x < y) /\ (x * E = y * E ↔ x = y) :=
 ⟨⟨fun h => Int.lt_of_mul_lt_mul_right h (Int.le_of_lt hE), fun h => Int.mul_lt_mul_of_pos_right h hE⟩, fun h => Int.eq_of_mul_eq_mul_right (by omega) h, fun h => by rw [h]⟩
structure Lie (less more square pt : Int) : Prop where
 ex : less * less = square ↔ pt = 0
 lo : pt ≠ 0 -> less * less < square
 hi : square < more * more
 m3 : pt ≠ 0 -> ((less + more) * (less + more) < 4 * square ↔ pt = 3)
 m2 : pt ≠ 0 -> ((less + more) * (less + more) = 4 * square ↔ pt = 2)
theorem Z2c {w B T E G Sq : Int} (hE : 0 < E) (e1 : G * G = B * E) (e2 : Sq = T * E) (a : w * w * B <= T) (b : T < (w + 1) * (w + 1) * B) :
   Lie (w * G) ((w + 1) * G) Sq (if w * w * B = T then 0 else 1 + (if decide ((2 * w + 1) * (2 * w + 1) * B <= 4 * T) = true then 1 else 0) + (if decide ((2 * w + 1) * (2 * w + 1) * B < 4 * T) = true then 1 else 0)) := by
 have sq : ∀ u : Int, (u * G) * (u * G) = u * u * B * E := fun u => by
   have : (u * G) * (u * G) = u * u * (G * G) := by ac_rfl
   rw [this, e1]
   ac_rfl
 have md : w * G + (w + 1) * G = (2 * w + 1) * G := by
   rw [<- Int.add_mul]
   congr 1
   omega
 have q4 : 4 * Sq = 4 * T * E := by rw [e2, Int.mul_assoc]
 have c0 := Z3h (x := w * w * B) (y := T) hE
 have c1 := Z3h (x := T) (y := (w + 1) * (w + 1) * B) hE
 have c2 := Z3h (x := (2 * w + 1) * (2 * w + 1) * B) (y := 4 * T) hE
 by_cases h : w * w * B = T
 . rw [if_pos h]
   exact ⟨by rw [sq, e2, c0.2]; exact ⟨fun _ => rfl, fun _ => h⟩, fun z => absurd rfl z, by rw [sq, e2, c1.1]; exact b, fun z => absurd rfl z, fun z => absurd rfl z⟩
 . rw [if_neg h]
   have c3 : ∀ x : Int, (x = 0 -> False) -> (1 + (if decide ((2 * w + 1) * (2 * w + 1) * B <= 4 * T) = true then 1 else 0) + (if decide ((2 * w + 1) * (2 * w + 1) * B < 4 * T) = true then 1 else 0) : Int) = x -> True := fun _ _ _ => trivial
   refine ⟨?_, fun _ => by rw [sq, e2, c0.1]; omega, by rw [sq, e2, c1.1]; exact b, fun _ => ?_, fun _ => ?_⟩
   . rw [sq, e2, c0.2]
     refine ⟨fun z => absurd z h, fun z => ?_⟩
     split at z <;> split at z <;> omega
   . rw [md, sq, q4, c2.1]
     by_cases l : (2 * w + 1) * (2 * w + 1) * B < 4 * T
     . rw [if_pos (decide_eq_true (Int.le_of_lt l)), if_pos (decide_eq_true l)]
       exact ⟨fun _ => rfl, fun _ => l⟩
     . rw [if_neg (fun z => l (of_decide_eq_true z))]
       refine ⟨fun z => absurd z l, fun z => ?_⟩
       split at z <;> omega
   . rw [md, sq, q4, c2.2]
     by_cases l : (2 * w + 1) * (2 * w + 1) * B < 4 * T
     . rw [if_pos (decide_eq_true (Int.le_of_lt l)), if_pos (decide_eq_true l)]
       exact ⟨fun z => by omega, fun z => by omega⟩
     . rw [if_neg (fun z => l (of_decide_eq_true z))]
       by_cases e : (2 * w + 1) * (2 * w + 1) * B = 4 * T
       . rw [if_pos (decide_eq_true (Int.le_of_eq e))]
         exact ⟨fun _ => rfl, fun _ => e⟩
       . rw [if_neg (fun z => by have := of_decide_eq_true z; omega)]
         exact ⟨fun z => absurd z e, fun z => by omega⟩
theorem U8x {t p r c : Int} (h : D24 t p r) (h1 : c <= q24 t p r) (h2 : 2 * c <= p) : Lie (w24 t p r * A2 (q24 t p r - c)) ((w24 t p r + 1) * A2 (q24 t p r - c)) (t * A2 (p - 2 * c)) (pt24 t p r) := by
 obtain ⟨E, hE, e1, e2⟩ := E24 h1 h2
 obtain ⟨w0, a, b⟩ := h.root
 exact Z2c hE e1 (by rw [e2, Int.mul_assoc]) a b
theorem Z2k {t p r f0 p0 c : Int} (h : D24 t p r) (e : pt24 t p r = 0) (hf : f0 * A2 (p0 - q24 t p r) = w24 t p r) (hq : q24 t p r <= p0) (h1 : c <= p0) (h2 : 2 * c <= p) : (f0 * A2 (p0 - c)) * (f0 * A2 (p0 - c)) = t * A2 (p - 2 * c) := by
 by_cases hc : c <= q24 t p r
 . have rr := (U8x h hc h2).ex.2 e
   rw [<- hf] at rr
   have z : f0 * A2 (p0 - q24 t p r) * A2 (q24 t p r - c) = f0 * A2 (p0 - c) := by
     rw [Int.mul_assoc, <- U4 (by omega) (by omega)]
     congr 2
     omega
   rw [z] at rr
   exact rr
 . have hq' : 2 * q24 t p r <= p := by omega
   have rr := (U8x h (Int.le_refl _) hq').ex.2 e
   rw [A2j (show q24 t p r - q24 t p r <= 0 by omega), Int.mul_one, <- hf] at rr
   have z : f0 * A2 (p0 - q24 t p r) = f0 * A2 (p0 - c) * A2 (c - q24 t p r) := by
     rw [Int.mul_assoc, <- U4 (by omega) (by omega)]
     congr 2
     omega
   have z2 : A2 (p - 2 * q24 t p r) = A2 (p - 2 * c) * (A2 (c - q24 t p r) * A2 (c - q24 t p r)) := by
     rw [<- U4 (by omega) (by omega), <- U4 (by omega) (by omega)]
     congr 1
     omega
   rw [z, z2] at rr
   have g := Int.mul_pos (C4 (c - q24 t p r)) (C4 (c - q24 t p r))
   refine Int.eq_of_mul_eq_mul_right (by omega : A2 (c - q24 t p r) * A2 (c - q24 t p r) ≠ 0) ?_
   rw [Int.mul_assoc t, <- rr]
   ac_rfl
theorem Z1u {t p r : Int} (h : D24 t p r) (e : pt24 t p r ≠ 0) (y : Wy) : R24 t p r y = R24 t p r (if (y.goes 0 (w24 t p r % 10) (pt24 t p r)) = true then .ceiling else .floor) := by
 have u : ∀ y : Wy, upI y 0 (w24 t p r) (pt24 t p r) = if y.goes 0 (w24 t p r % 10) (pt24 t p r) = true then w24 t p r + 1 else w24 t p r := fun y => by
   unfold upI
   rw [if_neg e]
 rw [B4m h e, B4m h e, u, u]
 cases y.goes 0 (w24 t p r % 10) (pt24 t p r) with
 | true => rfl
 | false => rfl
abbrev A2t : Stmt := (top 72)
abbrev A4y : Stmt := (top 73)
theorem B4y {n : Int} (h : 0 <= n) : ∃ k : Nat, n = (k : Int) /\ ((10 ^ k : Nat) : Int) = A2 n := by
 obtain ⟨k, rfl⟩ := Int.eq_ofNat_of_zero_le h
 exact ⟨k, rfl, rfl⟩
section
variable {P : Program} {w : World} {K : Frag} {mg : Str -> Option Value} {base : Heap}
def C2y : Sp := fun vs H Q _ => ∃ c m : Int, vs = [.int c, .int m] /\ 1 <= m /\ m <= 12 /\ ∀ f : Int, 0 <= f -> f < A2 m -> Q (.int f) H
theorem scLFig24 : FnScope ["_law_cell", "_law_most", "_law_many"] ["_law_cell", "_law_most"] (A1 A2t) := scK
theorem U1n {f f1 f2 : Addr} {fd fd1 fd2 : FuncData} (D : Def K mg "_law_figures" ["_law_cell", "_law_most"] A2t f fd) (D_l_mixed : Def K mg "_law_mixed" ["_law_cell", "_law_k"] A8g f1 fd1) (G_l_mixed : FnOk P w K mg base (CX1 P w) 1 f1 fd1 ["_law_cell", "_law_k"] D3r)
   (D_l_ten : Def K mg "_law_ten" ["_law_count"] B4s f2 fd2) (G_l_ten : FnOk P w K mg base (CX1 P w) 1 f2 fd2 ["_law_count"] D2k) : FnOk P w K mg base (CX1 P w) 2 f fd ["_law_cell", "_law_most"] C2y := by
 refine D.F.okE scLFig24 (fun vs H Q E h => ?_) (fun X cdv A outer s H vs Q E hX hr hx h => ?_)
 . obtain ⟨c, m, rfl, _⟩ := h
   rfl
 . subst hX
   obtain ⟨c, m, rfl, m1, m2, k⟩ := h
   refine ⟨_, (A4 (D0 (i := 2) scLFig24.nd rfl (Or.inl rfl) (B3 J3 A3 (B3 V6 (B3 G6 (B9 D_l_mixed G_l_mixed hr hx (A0 (pv 0) (A0 A3 A5))) A3) (pv 1))))
     (A6 (B0 (B3 V6 (B3 J3 (B3 D6 (B9 D_l_mixed G_l_mixed hr hx (A0 (pv 0) (A0 A3 A5))) A3) (B9 D_l_mixed G_l_mixed hr hx (A0 (pv 0) (A0 A3 A5)))) (B9 D_l_ten G_l_ten hr hx (A0 (pv 2) A5)))))), ?_⟩
   refine ⟨_, rfl, c, 1, rfl, by decide, by decide, fun a a0 _ => ⟨_, _, rfl, rfl, dv (n := 7) (by decide) (by decide +kernel), _, rfl, _, _, rfl, rfl, by omega, _, _, rfl, rfl, ?_⟩⟩
   have e0 := Int.emod_nonneg (a / 7) (show m ≠ 0 by omega)
   have e1 := Int.emod_lt_of_pos (a / 7) (show 0 < m by omega)
   obtain ⟨n, en, eT⟩ := B4y (show 0 <= 1 + a / 7 % m by omega)
   have tp := C4 (1 + a / 7 % m)
   have tl : A2 (1 + a / 7 % m) <= A2 m := G9 (by omega)
   refine ⟨_, rfl, c, 2, rfl, by decide, by decide, fun b b0 b1 => ⟨_, _, rfl, rfl, CMul.ok (.inr ⟨by decide, by decide⟩), _, rfl, c, 3, rfl, by decide, by decide, fun d d0 d1 => ⟨_, _, rfl, rfl, _, rfl, n, by rw [<- en]; rfl, by omega, ?_⟩⟩⟩
   rw [eT]
   exact ⟨_, _, rfl, rfl, tp, k _ (Int.emod_nonneg _ (by omega)) (Int.lt_of_lt_of_le (Int.emod_lt_of_pos _ tp) tl)⟩
def G2x : Sp := fun vs H Q _ => ∃ c : Int, vs = [.int c] /\ ∀ t p q H', 1 <= t -> t < A2 12 -> -30 <= p -> p <= 30 -> Same H H' -> H' q = some (.tup [.int t, .int p]) -> Q (.ref q) H'
theorem scLDrawn : FnScope ["_law_cell", "_law_figures_here", "_law_side"] ["_law_cell"] (A1 A4y) := scK
theorem U1m {f f1 f2 : Addr} {fd fd1 fd2 : FuncData} (D : Def K mg "_law_drawn" ["_law_cell"] A4y f fd) (D_l_mixed : Def K mg "_law_mixed" ["_law_cell", "_law_k"] A8g f1 fd1) (G_l_mixed : FnOk P w K mg base (CX1 P w) 1 f1 fd1 ["_law_cell", "_law_k"] D3r)
   (D_l_figures : Def K mg "_law_figures" ["_law_cell", "_law_most"] A2t f2 fd2) (G_l_figures : FnOk P w K mg base (CX1 P w) 2 f2 fd2 ["_law_cell", "_law_most"] C2y) (O : Own mg) : FnOk P w K mg base (CX1 P w) 3 f fd ["_law_cell"] G2x := by
 refine D.F.okE scLDrawn (fun vs H Q E h => ?_) (fun X cdv A outer s H vs Q E hX hr hx h => ?_)
 . obtain ⟨c, rfl, _⟩ := h
   rfl
 . subst hX
   obtain ⟨c, rfl, k⟩ := h
   refine ⟨_, (A4 (C6 (D0 (i := 1) scLDrawn.nd rfl (Or.inl rfl) (J7 (V9 rfl) (by rfl) O.max_ boot_max (A0 A3 (A0 (B9 D_l_figures G_l_figures hr hx (A0 (pv 0) (A0 A3 A5))) A5)))))
     (A4 (C6 (G2 (C5 G8 (B3 V6 (B3 G6 (B9 D_l_mixed G_l_mixed hr hx (A0 (pv 0) (A0 A3 A5))) A3) A3) A3 (B8 _)) (A4 (C6 (D0 (i := 2) scLDrawn.nd rfl (Or.inl rfl) (J7 (V9 rfl) (by rfl) O.max_ boot_max (A0 A3 (A0 (B9 D_l_figures G_l_figures hr hx (A0 (pv 0) (A0 A3 A5))) A5)))))
     (A6 (C6 (D0 (i := 1) scLDrawn.nd rfl (Or.inl rfl) (B3 D6 (pv 2) (pv 2)))))) C8))
     (A6 (B0 (A3j (A0 (pv 1) (A0 (B3 U1 (B3 V6 (B3 G6 (B9 D_l_mixed G_l_mixed hr hx (A0 (pv 0) (A0 A3 A5))) A3) A3) A3) A5))))))), ?_⟩
   have d7 := dv (n := 7) (by decide) (by decide +kernel)
   have t12 : A2 6 * A2 6 = A2 12 := by decide +kernel
   have one12 : (1 : Int) < A2 12 := by decide +kernel
   have one6 : (1 : Int) < A2 6 := by decide +kernel
   refine ⟨fun σ' H' => ∃ t : Int, H' = H /\ 1 <= t /\ t < A2 12 /\ σ' = [some (.int c), some (.int t), none], ?_, ?_⟩
   . refine ⟨_, rfl, c, 12, rfl, by decide, by decide, fun f f0 f1 => ⟨_, _, rfl, ?_⟩⟩
     exact ⟨_, rfl, by split <;> omega, by split <;> omega, rfl⟩
   rintro σ' H1 ⟨t, rfl, t1, t2, rfl⟩
   refine ⟨fun σ' H' => ∃ (t : Int) (z : Option V), H' = H1 /\ 1 <= t /\ t < A2 12 /\ σ' = [some (.int c), some (.int t), z], ?_, ?_⟩
   . refine ⟨_, rfl, c, 4, rfl, by decide, by decide, fun a a0 _ => ⟨_, _, rfl, rfl, d7, _, _, rfl, rfl, (by decide : (0 : Int) < 4), rfl, _, rfl, U3 (fun _ => ?_) (fun _ => ⟨t, none, rfl, t1, t2, rfl⟩)⟩⟩
     refine ⟨fun σ' H' => ∃ u : Int, H' = H1 /\ 1 <= u /\ u < A2 6 /\ σ' = [some (.int c), some (.int t), some (.int u)], ?_, ?_⟩
     . refine ⟨_, rfl, c, 6, rfl, by decide, by decide, fun f f0 f1 => ⟨_, _, rfl, ?_⟩⟩
       exact ⟨_, rfl, by split <;> omega, by split <;> omega, rfl⟩
     rintro σ' H2 ⟨u, rfl, u1, u2, rfl⟩
     refine ⟨_, ?_, fun _ _ h => h⟩
     have b6 : A2 6 <= 2 ^ 63 := by decide +kernel
     have m1 : u * u <= u * A2 6 := Int.mul_le_mul_of_nonneg_left (by omega) (by omega)
     have m2 : u * A2 6 < A2 6 * A2 6 := Int.mul_lt_mul_of_pos_right u2 (by omega)
     have m0 : 1 * u <= u * u := Int.mul_le_mul_of_nonneg_right u1 (by omega)
     exact ⟨_, rfl, _, rfl, _, _, rfl, rfl, CMul.ok (.inl ⟨by omega, by omega⟩), _, _, rfl, by omega, by omega, rfl⟩
   rintro σ' H2 ⟨t, z, rfl, t1, t2, rfl⟩
   refine ⟨_, rfl, _, rfl, c, 5, rfl, by decide, by decide, fun a a0 _ => ⟨_, _, rfl, rfl, d7, _, _, rfl, rfl, (by decide : (0 : Int) < 61), _, _, rfl, rfl, D7 (show 2 <= 1000 by decide), fun q nq => ?_⟩⟩
   have e0 := Int.emod_nonneg (a / 7) (show (61 : Int) ≠ 0 by decide)
   have e1 := Int.emod_lt_of_pos (a / 7) (show (0 : Int) < 61 by decide)
   exact k t _ q _ t1 t2 (by omega) (by omega) (Same.upd nq) A7
end
def rdS (zs : List Str) : PyData := .list (zs.map PyData.str)
def OkL (zs : List Str) : Prop := zs.length <= 100 /\ ∀ z ∈ zs, PyData.strOk z = true
theorem Z1s : ∀ {zs : List Str}, (∀ z ∈ zs, PyData.strOk z = true) -> PyData.canLayAll0 (zs.map PyData.str) = true /\ PyData.depthAll (zs.map PyData.str) <= 1
 | [], _ => by simp [PyData.canLayAll0, PyData.depthAll]
 | z :: zs, h => by
   obtain ⟨a, b⟩ := Z1s (zs := zs) fun z' h' => h z' (List.mem_cons_of_mem _ h')
   have c := h z List.mem_cons_self
   constructor
   . simp [PyData.canLayAll0, PyData.canLay0, c, a]
   . simp only [List.map_cons, PyData.depthAll, PyData.depth]
     omega
theorem shS {zs : List Str} (h : OkL zs) : SeqAt.shaped (rdS zs) = true := by
 obtain ⟨a, b⟩ := Z1s h.2
 unfold SeqAt.shaped rdS
 simp only [PyData.canLay0, PyData.depth, a, Bool.and_true, Bool.and_eq_true, decide_eq_true_eq, List.length_map]
 exact ⟨trivial, decide_eq_true (by omega)⟩
theorem U1q : ∀ zs : List Str, PyData.eqv (rdS zs) (rdS zs) = true := by
 have h : ∀ zs : List Str, PyData.eqvAll (zs.map PyData.str) (zs.map PyData.str) = true := fun zs => by
   induction zs with
   | nil => simp [PyData.eqvAll]
   | cons z zs ih => simp [PyData.eqvAll, PyData.eqv, ih]
 intro zs
 simp [rdS, PyData.eqv, h]
theorem Z7u {K : Frag} {H : Hp} : ∀ zs : List Str, RdDs K H (zs.map V.str) (zs.map PyData.str)
 | [] => .nil
 | z :: zs => .cons (.str z) (Z7u zs)
theorem Y0 {K : Frag} {H : Hp} {p : Addr} {zs : List Str} (h : H p = some (.lst (zs.map V.str))) : RdD K H (.ref p) (rdS zs) := .lst (SqL.of h) (Z7u zs)
theorem Z9f : ∀ z ∈ sigS, PyData.strOk z = true := by decide +kernel
def SubS (zs : List Str) : Prop := ∃ p : Str -> Bool, zs = sigS.filter p
theorem SubS.ok {zs : List Str} (h : SubS zs) : OkL zs := by
 obtain ⟨p, rfl⟩ := h
 exact ⟨Nat.le_trans (List.length_filter_le _ _) (by decide), fun z hz => Z9f z (List.mem_filter.mp hz).1⟩
theorem U7x (zs : List Str) : SubS (Z4 zs) := ⟨_, rfl⟩
def C7b (k : Str) (s f p : Int) : PyData := .tuple [.str k, .int s, .int f, .int p]
theorem shD {k : Str} (s f p : Int) (h : PyData.strOk k = true) : SeqAt.shaped (C7b k s f p) = true := by
 unfold SeqAt.shaped C7b
 simp [PyData.canLay0, PyData.canLayAll0, PyData.depth, PyData.depthAll, h]
theorem eqD (k : Str) (s f p : Int) : PyData.eqv (C7b k s f p) (C7b k s f p) = true := by
 simp [C7b, PyData.eqv, PyData.eqvAll]
theorem rdD {K : Frag} {H : Hp} {d : Addr} {k : Str} {s f p : Int} (h : H d = some (.tup [.str k, .int s, .int f, .int p])) : RdD K H (.ref d) (C7b k s f p) := .tup (SqT.of h) (.cons (.str _) (.cons (.int _) (.cons (.int _) (.cons (.int _) .nil))))
theorem okK (k : Kd) : PyData.strOk k.str = true := by cases k <;> decide +kernel
abbrev A4q : Stmt := (top 74)
abbrev A5f : Stmt := (top 75)
def wys : List Wy := [.down, .up, .floor, .ceiling, .halfUp, .halfDown, .halfEven, .fiveUp]
def wysV : List V := wys.map fun y => V.str y.name
theorem D3m : ∀ n : Nat, n < 8 -> wys[n]? = some (wys.getD n .down) /\ wysV[n]? = some (.str (wys.getD n .down).name) := by
 intro n h
 rcases (by omega : n = 0 \/ n = 1 \/ n = 2 \/ n = 3 \/ n = 4 \/ n = 5 \/ n = 6 \/ n = 7) with rfl | rfl | rfl | rfl | rfl | rfl | rfl | rfl <;> exact ⟨rfl, rfl⟩
theorem Y6j : ∀ n : Nat, n < 8 -> ∀ z ∈ wys.take n, z.name ≠ (wys.getD n .down).name := by decide +kernel
theorem Y6t (y : Wy) : y ∈ wys := by cases y <;> simp [wys]
def PairAt (H : Hp) (a : Addr) (R : Nm × List Str) : Prop := ∃ tt l, H a = some (.tup [.ref tt, .ref l]) /\ H tt = some (.tup R.1.vs) /\ H l = some (.lst ((Z4 R.2).map V.str))
theorem PairAt.same {H H' : Hp} {a : Addr} {R : Nm × List Str} (h : PairAt H a R) (s : Same H H') : PairAt H' a R := by
 obtain ⟨tt, l, e1, e2, e3⟩ := h
 exact ⟨tt, l, s _ _ e1, s _ _ e2, s _ _ e3⟩
theorem PairAt.exc {H H' : Hp} {a d : Addr} {R : Nm × List Str} {o : HO} (h : PairAt H a R) (x : Exc d H H') (ed : H d = some o) (h1 : ∀ xs, HO.tup xs ≠ o) (h2 : ∀ xs, HO.lst xs ≠ o) : PairAt H' a R := by
 obtain ⟨tt, l, e1, e2, e3⟩ := h
 exact ⟨tt, l, x _ _ e1 (B4h e1 ed (h1 _)), x _ _ e2 (B4h e2 ed (h1 _)), x _ _ e3 (B4h e3 ed (h2 _))⟩
def A1x (As : Wy -> Addr) (n : Nat) : List (Key × V) := (wys.take n).map fun y => (.inr y.name, .ref (As y))
theorem Y5d {kvs : List (Key × V)} {k : Key} {v : V} (h : ∀ kv ∈ kvs, kv.1 ≠ k) : A0y kvs k v = kvs ++ [(k, v)] := by
 unfold A0y
 rw [if_neg]
 intro z
 obtain ⟨kv, hm, e⟩ := List.any_eq_true.mp z
 exact h kv hm (of_decide_eq_true e)
theorem Z7e {As : Wy -> Addr} {n : Nat} {a : Addr} (hn : n < 8) : ∃ As' : Wy -> Addr, A0y (A1x As n) (.inr (wys.getD n .down).name) (.ref a) = A1x As' (n + 1) /\ As' (wys.getD n .down) = a /\ ∀ z ∈ wys.take n, As' z = As z := by
 have nw := Y6j n hn
 have keep : ∀ z ∈ wys.take n, (if z.name = (wys.getD n .down).name then a else As z) = As z := fun z hz => if_neg (nw z hz)
 refine ⟨fun z => if z.name = (wys.getD n .down).name then a else As z, ?_, if_pos rfl, keep⟩
 rw [Y5d]
 . unfold A1x
   rw [List.take_succ, (D3m n hn).1, List.map_append]
   show _ = _ ++ [((.inr (wys.getD n .down).name : Key), V.ref (if (wys.getD n .down).name = (wys.getD n .down).name then a else As _))]
   rw [if_pos rfl]
   congr 1
   refine List.map_congr_left fun z hz => ?_
   show _ = (Sum.inr z.name, V.ref (if z.name = (wys.getD n .down).name then a else As z))
   rw [keep z hz]
 . intro kv hkv z
   obtain ⟨y, hy, rfl⟩ := List.mem_map.mp hkv
   injection z with z
   exact nw y hy z
theorem Y4n {t p r : Int} (h : D24 t p r) (y : Wy) : ∃ f P ns, R24 t p r y = (⟨.plain, 0, f, P⟩, ns) /\ 0 < f /\ f < A2 r := by
 by_cases e : pt24 t p r = 0
 . obtain ⟨f0, p0, ns, a, b, c, _⟩ := J8m h e
   exact ⟨f0, p0, ns, a y, b, c⟩
 . have hw := h.w
   have u := Z9j y 0 (w24 t p r) (pt24 t p r)
   obtain ⟨_, b, c, _⟩ := G7u (r := r) (u := upI y 0 (w24 t p r) (pt24 t p r)) (q := q24 t p r) h.r1 (by omega) (by omega)
   exact ⟨_, _, _, B4m h e y, b, c⟩
theorem Z8r {K : PySem.W.Frag} {a : Addr} {xs : List V} {g : TG} {tb : TS} {D : Ends} {σ : L2.St} {H : Hp} (Pv : Nat -> L2.St -> Hp -> Prop) (h0 : Pv 0 σ H) (hl : ∀ i σ H, i <= xs.length -> Pv i σ H -> SqL K H a xs)
   (hs : ∀ i y σ H, xs[i]? = some y -> Pv i σ H -> g y σ H fun σ2 H2 => tb { D with nx := Pv (i + 1), ct := Pv (i + 1), bk := D.nx } σ2 H2) (hd : ∀ σ H, Pv xs.length σ H -> D.nx σ H) :
   ∃ W : Nat -> Nat -> L2.St -> Hp -> Prop, (∃ m, W 0 m σ H) /\ ∀ i m σ H, W i m σ H ->
     ((Itl K a).stop i H /\ D.nx σ H) \/ ((Itl K a).go i H /\ ∃ N : L2.St -> Hp -> Prop, (∀ σ' H', N σ' H' -> ∃ m', m' < m /\ W (i + 1) m' σ' H') /\ ∀ x H', (Itl K a).yld i H x H' -> g x σ H' fun σ2 H2 => tb { D with nx := N, ct := N, bk := D.nx } σ2 H2) := by
 refine ⟨fun i m σ H => m = xs.length - i /\ i <= xs.length /\ Pv i σ H, ⟨xs.length, by simp, Nat.zero_le _, h0⟩, ?_⟩
 rintro i m σ H ⟨rfl, hi, p⟩
 have q := hl i σ H hi p
 by_cases hlt : i < xs.length
 . refine .inr ⟨⟨xs, xs[i], q, by simp [hlt]⟩, Pv (i + 1), fun σ' H' p' => ⟨xs.length - (i + 1), by omega, rfl, hlt, p'⟩, fun x H' y => ?_⟩
   obtain ⟨rfl, yl⟩ := y
   exact hs i x σ _ (yl xs q) p
 . have e : i = xs.length := by omega
   subst e
   exact .inl ⟨⟨xs, q, Nat.le_refl _⟩, hd σ H p⟩
theorem Z6t {d : Addr} {o : Obj} {kvs : List (Key × V)} {g : TG} {tb : TS} {D : Ends} {σ : L2.St} {H : Hp} (Pv : Nat -> L2.St -> Hp -> Prop) (h0 : Pv 0 σ H) (hl : ∀ i σ H, Pv i σ H -> H d = some (.frz o (.dK kvs)))
   (hs : ∀ (i : Nat) (k : Key) (v : V) σ H, kvs[i]? = some (k, v) -> Pv i σ H -> g v σ H fun σ2 H2 => tb { D with nx := Pv (i + 1), ct := Pv (i + 1), bk := D.nx } σ2 H2) (hd : ∀ σ H, Pv kvs.length σ H -> D.nx σ H) :
   ∃ W : Nat -> Nat -> L2.St -> Hp -> Prop, (∃ m, W 0 m σ H) /\ ∀ i m σ H, W i m σ H ->
     ((Itv d o kvs).stop i H /\ D.nx σ H) \/ ((Itv d o kvs).go i H /\ ∃ N : L2.St -> Hp -> Prop, (∀ σ' H', N σ' H' -> ∃ m', m' < m /\ W (i + 1) m' σ' H') /\ ∀ x H', (Itv d o kvs).yld i H x H' -> g x σ H' fun σ2 H2 => tb { D with nx := N, ct := N, bk := D.nx } σ2 H2) := by
 refine ⟨fun i m σ H => m = kvs.length - i /\ i <= kvs.length /\ Pv i σ H, ⟨kvs.length, by simp, Nat.zero_le _, h0⟩, ?_⟩
 rintro i m σ H ⟨rfl, hi, p⟩
 have q := hl i σ H p
 by_cases hlt : i < kvs.length
 . refine .inr ⟨⟨q, hlt⟩, Pv (i + 1), fun σ' H' p' => ⟨kvs.length - (i + 1), by omega, rfl, hlt, p'⟩, fun x H' y => ?_⟩
   obtain ⟨rfl, k, yl⟩ := y
   exact hs i k x σ _ yl p
 . have e : i = kvs.length := by omega
   subst e
   exact .inl ⟨⟨q, Nat.le_refl _⟩, hd σ H p⟩
section
variable {P : Program} {w : World} {K : Frag} {mg : Str -> Option Value} {base : Heap}
def G3n : Sp := fun vs H Q _ => ∃ t p r, vs = [.int t, .int p, .int r] /\ D24 t p r /\ ∀ d As H', Same H H' -> H d = none -> H' d = some (.dK (A1x As 8)) -> (∀ y, PairAt H' (As y) (R24 t p r y)) -> Q (.ref d) H'
theorem scLRoots : FnScope ["_law_figures_here", "_law_power", "_law_room", "_law_found", "_law_way", "_law_context", "_law_made"] ["_law_figures_here", "_law_power", "_law_room"] (A1 A4q) := scK
theorem U1a {f f1 f2 f3 fI CC CN CB CB' CT : Addr} {fd fd1 fd2 fd3 fdI : FuncData} (D : Def K mg "_law_roots" ["_law_figures_here", "_law_power", "_law_room"] A4q f fd) (D_plain : Def K mg "plain" ["sign", "figures", "power"] A7x f1 fd1) (G_plain : FnOk P w K mg base (CX1 P w) 3 f1 fd1 ["sign", "figures", "power"] (D2w K CN CB'))
   (D_root : Def K mg "root" ["context", "one"] C0f f2 fd2) (G_root : FnOk P w K mg base (CX1 P w) 7 f2 fd2 ["context", "one"] (G9c CN CC CT)) (D_told : Def K mg "told" ["number"] C0g f3 fd3) (G_told : FnOk P w K mg base (CX1 P w) 2 f3 fd3 ["number"] (G9a K CN CB'))
   (MC : MakeC P w K mg base CC CB fI fdI) (B4 : L2.Binds K fdI ["self", "room", "way", "least", "most"] []) (C : CtxC K mg CC) (MF : Has P w K mg base CC "flags" 1 ["self"] (A4v CC)) : FnOk P w K mg base (CX1 P w) 8 f fd ["_law_figures_here", "_law_power", "_law_room"] G3n := by
 refine D.F.okE scLRoots (fun vs H Q E h => ?_) (fun X cdv A outer s H vs Q E hX hr hx h => ?_)
 . obtain ⟨t, p, r, rfl, _⟩ := h
   rfl
 . subst hX
   obtain ⟨t, p, r, rfl, hD, k⟩ := h
   obtain ⟨ff, fdf, mf, gf, bf⟩ := MF
   have HU := hr.units
   refine ⟨_, (A4 (C6 (D0 (i := 3) scLRoots.nd rfl (Or.inl rfl) U7v))
     (A4 (C6 (C2j PassesOwn.leaving rfl (C0y (J2 (A0 B5 (A0 B5 (A0 B5 (A0 B5 (A0 B5 (A0 B5 (A0 B5 (A0 B5 A5)))))))))) (U5 (i := 4) scLRoots.nd rfl (Or.inl rfl)) (A4 (C6 (D0 (i := 5) scLRoots.nd rfl (Or.inl rfl) (B2h MC.m MC.g hr C.g B4 .nil hx (A0 (pv 2) (A0 (pv 4) (A0 (D1e B5w A3) (A0 A3 A5)))))))
     (A4 (C6 (D0 (i := 6) scLRoots.nd rfl (Or.inl rfl) (B9 D_told G_told hr hx (A0 (B9 D_root G_root hr hx (A0 (pv 5) (A0 (B9 D_plain G_plain hr hx (A0 A3 (A0 (pv 0) (A0 (pv 1) A5)))) A5))) A5))))
     (A6 (C6 (Y4q (Nat.lt_of_le_of_lt (Nat.add_le_add_left (by decide) _) HU) (pv 3) (pv 4) (A3j (A0 (pv 6) (A0 (A4r (pv 5) C.cl mf gf hr bf .nil hx) A5))) (by rfl))))))))
     (A6 (B0 (pv 3))))), ?_⟩
   have r1 := hD.r1; have r2 := hD.r2
   have ox := hD.x
   refine ⟨fun σ' H' => ∃ d, Same H H' /\ H d = none /\ H' d = some (.dK []) /\ σ' = [some (.int t), some (.int p), some (.int r), some (.ref d), none, none, none], ?_, ?_⟩
   . exact fun d nd => ⟨d, Same.upd nd, nd, A7, rfl⟩
   rintro σ' H1 ⟨d, s1, nd, ed, rfl⟩
   refine ⟨fun σ' H' => ∃ As z4 z5 z6, Same H H' /\ H' d = some (.dK (A1x As 8)) /\ (∀ y ∈ wys.take 8, PairAt H' (As y) (R24 t p r y)) /\ σ' = [some (.int t), some (.int p), some (.int r), some (.ref d), z4, z5, z6], ?_, ?_⟩
   . refine ⟨D7 (show 8 <= 1000 by decide), fun l nl => ⟨l, rfl, ⟨_, SqL.of A7⟩, ?_⟩⟩
     have ul := Same.upd (o := .lst wysV) nl
     have el : upd H1 l (.lst wysV) l = some (.lst wysV) := A7
     have ed2 := ul _ _ ed
     have s2 := s1.trans ul
     show ∃ W : Nat -> Nat -> L2.St -> Hp -> Prop, (∃ m, W 0 m _ (upd H1 l (.lst wysV))) /\ _
     generalize upd H1 l (.lst wysV) = H2 at *
     have nld : l ≠ d := B4h el ed2 (by intro z; cases z)
     refine Z8r (xs := wysV) (fun i σ' H' => ∃ As z4 z5 z6, Exc d H2 H' /\ H' d = some (.dK (A1x As i)) /\ (∀ y ∈ wys.take i, PairAt H' (As y) (R24 t p r y)) /\ σ' = [some (.int t), some (.int p), some (.int r), some (.ref d), z4, z5, z6]) ?_ ?_ ?_ ?_
     . exact ⟨fun _ => 0, none, none, none, Exc.refl _ _, ed2, fun y hy => by simp at hy, rfl⟩
     . rintro i σ' H3 _ ⟨As, z4, z5, z6, x3, _⟩
       exact SqL.of (x3 _ _ el nld)
     . rintro i yv σ' H3 hy ⟨As, z4, z5, z6, x3, e3, pa, rfl⟩
       have hi : i < 8 := by
         refine Classical.byContradiction fun z => ?_
         rw [List.getElem?_eq_none (show wysV.length <= i by show 8 <= i; omega)] at hy
         cases hy
       obtain ⟨wy, rfl⟩ : ∃ wy : Str, yv = .str wy := ⟨_, by rw [(D3m i hi).2] at hy; exact (Option.some.inj hy).symm⟩
       have ewy : wy = (wys.getD i .down).name := by
         rw [(D3m i hi).2] at hy
         injection hy with hy
         injection hy with hy
         exact hy.symm
       subst ewy
       generalize hY : wys.getD i .down = Y at *
       have vok := hD.ok Y
       refine ⟨fun σ' H' => ∃ c a b, Same H3 H' /\ H3 c = none /\ CtxV CC H' c (v24 r Y) a b [] [] /\ σ' = [some (.int t), some (.int p), some (.int r), some (.ref d), some (.str Y.name), some (.ref c), z6], ?_, ?_⟩
       . exact ⟨_, rfl, _, rfl, _, rfl, fun x dx n1 n2 ne => Z0g n1 n2 ne rfl r1 (by omega) rfl (.inr ⟨rfl, by decide, by decide⟩) rfl (by decide) (by decide) fun a b H4 s4 hc => ⟨rfl, x, a, b, s4, n1, hc, rfl⟩⟩
       rintro σ' H4 ⟨c, a, b, s4, nc, ct, rfl⟩
       refine ⟨fun σ' H' => ∃ tt a, Exc c H4 H' /\ CtxV CC H' c (v24 r Y) a b (Z4 (R24 t p r Y).2) [] /\ H' tt = some (.tup (R24 t p r Y).1.vs) /\ σ' = [some (.int t), some (.int p), some (.int r), some (.ref d), some (.str Y.name), some (.ref c), some (.ref tt)], ?_, ?_⟩
       . refine ⟨_, rfl, _, rfl, _, rfl, _, _, _, rfl, .inl ⟨⟨0, rfl, by decide, by decide⟩, ⟨t, rfl, ox.f0, ox.f1⟩, ⟨p, rfl, ox.p0, ox.p1⟩, fun n H5 nn s5 num => ?_⟩⟩
         refine ⟨c, v24 r Y, a, b, [], [], n, x24 t p, rfl, ct.same s5, vok, by decide, by decide +kernel, num, rfl, ox, fun _ m a' H6 x6 ct6 num6 => ?_, fun z hz => by cases hz⟩
         refine ⟨_, rfl, .inl ⟨m, _, _, _, _, rfl, num6, fun tt nt => ?_⟩⟩
         exact ⟨tt, a', ((Exc.of s5).trans x6).trans (.of (Same.upd nt)), ct6.same (Same.upd nt), A7, rfl⟩
       rintro σ' H5 ⟨tt, a', x5, ct5, et, rfl⟩
       refine ⟨_, ?_, fun _ _ h => h⟩
       obtain ⟨dc, ec⟩ := ct.ins
       obtain ⟨dc5, ec5⟩ := ct5.ins
       refine ⟨_, rfl, _, rfl, c, dc5, _, rfl, ec5, B4x _ _ _ _ _ _, c, r, Y, -60, 60, a', b, _, _, rfl, ct5, fun l2 n2 => ⟨D7 (show 2 <= 1000 by decide), fun pq np => ?_⟩⟩
       have u2 := Same.upd (o := .lst ((Z4 (R24 t p r Y).2).map V.str)) n2
       have up := Same.upd (o := .tup [.ref tt, .ref l2]) np
       have ed4 := s4 _ _ e3
       have ed5 := x5 _ _ ed4 (B4h ed4 ec (by intro z; cases z))
       have edp := up _ _ (u2 _ _ ed5)
       have epq : upd (upd H5 l2 (.lst ((Z4 (R24 t p r Y).2).map V.str))) pq (.tup [.ref tt, .ref l2]) pq = some (.tup [.ref tt, .ref l2]) := A7
       have el2 := up _ _ (A7 (H := H5) (a := l2) (o := .lst ((Z4 (R24 t p r Y).2).map V.str)))
       have et2 := (u2.trans up) _ _ et
       have keep : ∀ y ∈ wys.take i, PairAt (upd (upd H5 l2 (.lst ((Z4 (R24 t p r Y).2).map V.str))) pq (.tup [.ref tt, .ref l2])) (As y) (R24 t p r y) := fun y hy => (((pa y hy).same s4).exc x5 ec (by intro xs z; cases z) (by intro xs z; cases z)).same (u2.trans up)
       have xx : Exc d H2 (upd (upd H5 l2 (.lst ((Z4 (R24 t p r Y).2).map V.str))) pq (.tup [.ref tt, .ref l2])) := fun z o e n => (u2.trans up) _ _ (x5 _ _ (s4 _ _ (x3 _ _ e n)) (B7 (x3 _ _ e n) nc))
       generalize upd (upd H5 l2 (.lst ((Z4 (R24 t p r Y).2).map V.str))) pq (.tup [.ref tt, .ref l2]) = H6 at *
       obtain ⟨As', eA, eY, eO⟩ := Z7e (As := As) (a := pq) hi
       rw [hY] at eA eY
       refine ⟨_, rfl, _, rfl, d, _, rfl, DPut.k (k := .inr Y.name) edp (V0 (by unfold A1x; rw [List.length_map, List.length_take]; omega)), ?_⟩
       rw [eA]
       have xd : Exc d H6 (upd H6 d (.dK (A1x As' (i + 1)))) := Exc.upd
       refine ⟨As', _, _, _, xx.trans xd, A7, fun y hy => ?_, rfl⟩
       rw [List.take_succ, (D3m i hi).1, List.mem_append] at hy
       rcases hy with hy | hy
       . rw [eO y hy]
         exact (keep y hy).exc xd edp (by intro xs z; cases z) (by intro xs z; cases z)
       . have ey : y = Y := by
           rw [hY] at hy
           simpa using hy
         subst ey
         rw [eY]
         exact PairAt.exc ⟨tt, l2, epq, et2, el2⟩ xd edp (by intro xs z; cases z) (by intro xs z; cases z)
     . rintro σ' H3 ⟨As, z4, z5, z6, x3, e3, pa, rfl⟩
       exact ⟨As, z4, z5, z6, fun z o e => x3 _ _ (s2 _ _ e) (B7 e nd), e3, pa, rfl⟩
   rintro σ' H2 ⟨As, z4, z5, z6, s2, e2, pa, rfl⟩
   exact ⟨_, rfl, k d As H2 s2 nd e2 fun y => pa y (Y6t y)⟩
theorem Z0v {As : Wy -> Addr} {n : Nat} {i : Nat} {k : Key} {v : V} (h : (A1x As n)[i]? = some (k, v)) : ∃ y, k = .inr (Wy.name y) /\ v = .ref (As y) := by
 unfold A1x at h
 rw [List.getElem?_map] at h
 obtain ⟨y, _, e⟩ := Option.map_eq_some_iff.mp h
 injection e with e1 e2
 exact ⟨y, e1.symm, e2.symm⟩
def G2z : Sp := fun vs H Q _ => ∃ d As t p r, vs = [.ref d, .int r] /\ D24 t p r /\ H d = some (.dK (A1x As 8)) /\ (∀ y, PairAt H (As y) (R24 t p r y)) /\ ∀ o H', Exc d H H' -> H' d = some (.frz o (.dK (A1x As 8))) -> Q (.bl true) H'
theorem scLKinds : FnScope ["_law_found", "_law_room", "_law_made", "_law_flags"] ["_law_found", "_law_room"] (A1 A5f) := scK
theorem U2j {f f1 : Addr} {fd fd1 : FuncData} (D : Def K mg "_law_good_kinds" ["_law_found", "_law_room"] A5f f fd) (D_l_ten : Def K mg "_law_ten" ["_law_count"] B4s f1 fd1) (G_l_ten : FnOk P w K mg base (CX1 P w) 1 f1 fd1 ["_law_count"] D2k) : FnOk P w K mg base (CX1 P w) 2 f fd ["_law_found", "_law_room"] G2z := by
 refine D.F.okE scLKinds (fun vs H Q E h => ?_) (fun X cdv A outer s H vs Q E hX hr hx h => ?_)
 . obtain ⟨d, As, t, p, r, rfl, _⟩ := h
   rfl
 . subst hX
   obtain ⟨d, As, t, p, r, rfl, hD, ed, pa, k⟩ := h
   refine ⟨_, (A4 (C6 (C2j PassesOwn.leaving rfl (J8s (pv 0)) (G8b rfl (A4b (U5 (i := 2) scLKinds.nd rfl (Or.inl rfl)) (A4b (U5 (i := 3) scLKinds.nd rfl (Or.inl rfl)) D3s))) (A6 (C6 (G2 (PW.pt (C2s (C5 B4g (G7 G0 (pv 2) A3 (fun _ _ => rfl)) B5 (B8 _)) (C2s (C5 B4g (G7 G0 (pv 2) A3 (fun _ _ => rfl)) A3 (B8 _)) (C1y (A2e (G3e B4t B4t A3 (G7 G0 (pv 2) A3 (fun _ _ => rfl)) (B9 D_l_ten G_l_ten hr hx (A0 (pv 1) A5)))))))) (A6 (B0 A2b)) C8)))))
     (A6 (B0 A2b))), ?_⟩
   have r1 := hD.r1; have r2 := hD.r2
   obtain ⟨n, en, eT⟩ := B4y (show 0 <= r by omega)
   refine ⟨fun σ' H' => ∃ o, Exc d H H' /\ H' d = some (.frz o (.dK (A1x As 8))), ?_, ?_⟩
   . refine ⟨_, rfl, d, _, rfl, .inl ⟨ed, fun o => ?_⟩⟩
     have xd : Exc d H (upd H d (.frz o (.dK (A1x As 8)))) := Exc.upd
     have ef : upd H d (.frz o (.dK (A1x As 8))) d = some (.frz o (.dK (A1x As 8))) := A7
     have pa' : ∀ y, PairAt (upd H d (.frz o (.dK (A1x As 8)))) (As y) (R24 t p r y) := fun y => (pa y).exc xd ed (by intro xs z; cases z) (by intro xs z; cases z)
     generalize upd H d (.frz o (.dK (A1x As 8))) = H1 at *
     refine Z6t (fun i σ' H' => H' = H1 /\ ∃ z2 z3, σ' = [some (.ref d), some (.int r), z2, z3]) ⟨rfl, _, _, rfl⟩ (fun i σ' H' h => by rw [h.1]; exact ef) ?_ (fun σ' H' h => ⟨o, by rw [h.1]; exact xd, by rw [h.1]; exact ef⟩)
     rintro i ky v σ' H' hv ⟨rfl, z2, z3, rfl⟩
     obtain ⟨y, _, rfl⟩ := Z0v hv
     obtain ⟨tt, l, e1, e2, e3⟩ := pa' y
     obtain ⟨f, P', ns, eR, f0, f1⟩ := Y4n hD y
     rw [eR] at e2
     refine ⟨As y, _, rfl, SqT.of e1, rfl, _, _, rfl, _, _, rfl, rfl, ?_⟩
     refine ⟨_, ?_, fun _ _ h => h⟩
     refine ⟨_, rfl, tt, _, _, _, rfl, rfl, SqT.of e2, D4 (j := 0) rfl, rfl, _, rfl, C0a rfl ⟨_, rfl, tt, _, _, _, rfl, rfl, SqT.of e2, D4 (j := 1) rfl, rfl, _, rfl, C0a rfl ?_⟩⟩
     refine ⟨_, rfl, tt, _, _, _, rfl, rfl, SqT.of e2, D4 (j := 2) rfl, _, _, rfl, rfl, _, rfl, B4n (show (0 : Int) < f from f0) ⟨_, rfl, n, by rw [en]; rfl, by omega, ?_⟩⟩
     rw [eT]
     refine ⟨_, _, rfl, rfl, _, rfl, ?_⟩
     rw [decide_eq_true (show f < A2 r from f1)]
     exact J9 ⟨rfl, _, _, rfl⟩
   rintro σ' H1 ⟨o, xd, ef⟩
   exact k o H1 xd ef
end
abbrev A4w : Stmt := (top 76)
def B4k (R : Nm × List Str) : PyData := .tuple [C7b R.1.k.str R.1.s R.1.f R.1.p, rdS (Z4 R.2)]
theorem Z2f (zs : List Str) : OkL (Z4 zs) := (U7x zs).ok
theorem shP (R : Nm × List Str) : SeqAt.shaped (B4k R) = true := by
 obtain ⟨a, b⟩ := Z1s (Z2f R.2).2
 unfold SeqAt.shaped B4k rdS C7b
 simp only [PyData.canLay0, PyData.canLayAll0, PyData.depth, PyData.depthAll, okK, a, Bool.and_true, Bool.and_eq_true, decide_eq_true_eq, List.length_map]
 refine ⟨?_, ?_⟩
 . first | trivial | exact ⟨trivial, trivial⟩ | simp
 . exact decide_eq_true (by omega)
theorem eqP (R : Nm × List Str) : PyData.eqv (B4k R) (B4k R) = true := by
 have a := eqD R.1.k.str R.1.s R.1.f R.1.p
 have b := U1q (Z4 R.2)
 simp [B4k, PyData.eqv, PyData.eqvAll, a, b]
theorem rdP {K : Frag} {H : Hp} {a : Addr} {R : Nm × List Str} (h : PairAt H a R) : RdD K H (.ref a) (B4k R) := by
 obtain ⟨tt, l, e1, e2, e3⟩ := h
 exact .tup (SqT.of e1) (.cons (rdD e2) (.cons (Y0 e3) .nil))
theorem Z7j {As : Wy -> Addr} (y : Wy) : C0t (A1x As 8) (.inr y.name) = some (.ref (As y)) := by cases y <;> rfl
theorem C1u {H : Hp} {d : Addr} {o : Obj} {As : Wy -> Addr} (e : H d = some (.frz o (.dK (A1x As 8)))) (y : Wy) : Y5a H d (.str y.name) (some (.ref (As y))) := .inl ⟨_, .inr y.name, .inr ⟨o, e⟩, rfl, (Z7j y).symm⟩
def sel (b : Bool) : Wy := if b = true then .ceiling else .floor
def A7y (As : Wy -> Addr) (b1 b2 b3 b4 : Bool) : List (Key × V) := [(.inr "half up", .ref (As (sel b1))), (.inr "half down", .ref (As (sel b2))), (.inr "half even", .ref (As (sel b3))), (.inr "five up", .ref (As (sel b4)))]
theorem U9n : (¬ (("half down" : Str) = "half up")) /\ (¬ (("half even" : Str) = "half up")) /\ (¬ (("five up" : Str) = "half up")) /\ (¬ (("half up" : Str) = "half down")) /\ (¬ (("half even" : Str) = "half down")) /\ (¬ (("five up" : Str) = "half down")) /\
   (¬ (("half up" : Str) = "half even")) /\ (¬ (("half down" : Str) = "half even")) /\ (¬ (("five up" : Str) = "half even")) /\ (¬ (("half up" : Str) = "five up")) /\ (¬ (("half down" : Str) = "five up")) /\ (¬ (("half even" : Str) = "five up")) := by decide +kernel
theorem Z1t (As : Wy -> Addr) (b1 b2 b3 b4 : Bool) : V4 [] (A7y As b1 b2 b3 b4) = A7y As b1 b2 b3 b4 := by
 obtain ⟨h1, h2, h3, h4, h5, h6, h7, h8, h9, h10, h11, h12⟩ := U9n
 simp [V4, A0y, A7y, h1, h2, h3, h4, h5, h6, h7, h8, h9, h10, h11, h12]
theorem Z3k (As : Wy -> Addr) (b : Bool) : V4 [] [((.inr "half up" : Key), V.ref (As (sel b))), (.inr "half down", .ref (As (sel b))), (.inr "half even", .ref (As (sel b)))] = [((.inr "half up" : Key), V.ref (As (sel b))), (.inr "half down", .ref (As (sel b))), (.inr "half even", .ref (As (sel b)))] := by
 obtain ⟨h1, h2, h3, h4, h5, h6, h7, h8, h9, h10, h11, h12⟩ := U9n
 simp [V4, A0y, h1, h2, h3, h4, h5, h6, h7, h8, h9, h10, h11, h12]
theorem Z8j (As : Wy -> Addr) (b1 b2 b3 b4 b : Bool) : V4 (A7y As b1 b2 b3 b4) [((.inr "half up" : Key), V.ref (As (sel b))), (.inr "half down", .ref (As (sel b))), (.inr "half even", .ref (As (sel b)))] = A7y As b b b b4 := by
 obtain ⟨h1, h2, h3, h4, h5, h6, h7, h8, h9, h10, h11, h12⟩ := U9n
 simp [V4, A0y, A7y, h1, h2, h3, h4, h5, h6, h7, h8, h9, h10, h11, h12]
theorem Z3c {As : Wy -> Addr} {i : Int} (h0 : 0 <= i) (h1 : i <= 1) : atI ([.ref (As .floor), .ref (As .ceiling)] : List V) i = some (.ref (As (sel (decide (i = 1))))) := by
 rcases (by omega : i = 0 \/ i = 1) with rfl | rfl <;> rfl
theorem Z0j {As : Wy -> Addr} (b : Bool) : atI ([.ref (As .floor), .ref (As .ceiling)] : List V) (if b = true then 1 else 0) = some (.ref (As (sel b))) := by cases b <;> rfl
theorem U9w {a : Int} (h0 : 0 <= a) (h : a < A2 500) : Builtin.Int.intBits a <= 2 ^ 20 := by
 obtain ⟨n, rfl⟩ := Int.eq_ofNat_of_zero_le h0
 refine B4z (k := 1700) ?_ (by decide)
 have e : A2 500 <= 2 ^ 1700 := by decide +kernel
 have : (n : Int) < ((2 ^ 1700 : Nat) : Int) := by
   have e2 : ((2 ^ 1700 : Nat) : Int) = 2 ^ 1700 := by decide +kernel
   omega
 exact Int.ofNat_lt.mp this
theorem U9s {a b : Int} (a0 : 0 <= a) (a1 : a < A2 500) (b0 : 0 <= b) (b1 : b < A2 500) : IntMulOk a b := IntMulOk.of_bits (U9w a0 a1) (U9w b0 b1)
structure Near24 (t p r fl Pl fh Ph : Int) (nl nh : List Str) : Prop where
 lo : R24 t p r .floor = (⟨.plain, 0, fl, Pl⟩, nl)
 hi : R24 t p r .ceiling = (⟨.plain, 0, fh, Ph⟩, nh)
 l0 : 0 < fl
 l1 : fl < A2 9
 h0 : 0 < fh
 h1 : fh < A2 9
 pl0 : -30 <= Pl
 pl1 : Pl <= 31
 ph0 : -30 <= Ph
 ph1 : Ph <= 31
 w : (pt24 t p r = 0 /\ fh = fl /\ Ph = Pl /\ (nl = [] \/ nl = (["cut"] : List Str)) /\ (∀ y, R24 t p r y = R24 t p r .floor) /\ ∀ c, c <= Pl -> 2 * c <= p -> (fl * A2 (Pl - c)) * (fl * A2 (Pl - c)) = t * A2 (p - 2 * c)) \/
   (pt24 t p r ≠ 0 /\ fl = w24 t p r /\ Pl = q24 t p r /\ nl = (["off", "cut"] : List Str) /\ nh = (["off", "cut"] : List Str) /\ Pl <= Ph /\ fh * A2 (Ph - Pl) = fl + 1 /\ ∀ c, c <= Pl -> 2 * c <= p -> Lie (fl * A2 (Pl - c)) ((fl + 1) * A2 (Pl - c)) (t * A2 (p - 2 * c)) (pt24 t p r))
theorem Z1d {t p r : Int} (h : D24 t p r) : ∃ fl Pl fh Ph nl nh, Near24 t p r fl Pl fh Ph nl nh := by
 have hw := h.w; have hq := h.q; have r1 := h.r1; have r2 := h.r2
 have t9 : A2 r <= A2 9 := G9 r2
 by_cases e : pt24 t p r = 0
 . obtain ⟨f0, p0, ns, a, b, c, d, f, g, i⟩ := J8m h e
   exact ⟨f0, p0, f0, p0, ns, ns, a _, a _, b, by omega, b, by omega, by omega, by omega, by omega, by omega, .inl ⟨e, rfl, rfl, i, fun y => by rw [a y, a .floor], fun cc h1 h2 => Z2k h e g d h1 h2⟩⟩
 . have ul : upI .floor 0 (w24 t p r) (pt24 t p r) = w24 t p r := by
     unfold upI
     rw [if_neg e]
     rfl
   have uh : upI .ceiling 0 (w24 t p r) (pt24 t p r) = w24 t p r + 1 := by
     unfold upI
     rw [if_neg e]
     rfl
   have rl : Z5 r (w24 t p r) (q24 t p r) = (w24 t p r, q24 t p r) := by
     unfold Z5
     rw [if_neg (by omega)]
   obtain ⟨a, b, c, d, f⟩ := G7u (r := r) (u := w24 t p r + 1) (q := q24 t p r) r1 (by omega) (by omega)
   have lo := B4m h e .floor
   have hi := B4m h e .ceiling
   rw [ul, rl] at lo
   rw [uh] at hi
   exact ⟨_, _, _, _, _, _, lo, hi, by omega, by show w24 t p r < A2 9; omega, b, by omega, by show -30 <= q24 t p r; omega, by show q24 t p r <= 31; omega, by omega, by omega, .inr ⟨e, rfl, rfl, rfl, rfl, d, a, fun cc h1 h2 => U8x h h1 h2⟩⟩
section
variable {P : Program} {w : World} {K : Frag} {mg : Str -> Option Value} {base : Heap}
def G2h : Sp := fun vs H Q _ => ∃ t p r, vs = [.int t, .int p, .int r] /\ D24 t p r /\ ∀ H', Same H H' -> Q (.bl true) H'
theorem scLRight : FnScope ["_law_figures_here", "_law_power", "_law_room", "_law_found", "_law_low", "_law_high", "_law_fine", "_law_common", "_law_less", "_law_more", "_law_square", "_law_same", "_law_middle", "_law_even", "_law_due", "_law_closer"] ["_law_figures_here", "_law_power", "_law_room"] (A1 A4w) := scK
theorem U0p {f f1 f2 f3 : Addr} {fd fd1 fd2 fd3 : FuncData} (D : Def K mg "_law_right" ["_law_figures_here", "_law_power", "_law_room"] A4w f fd) (D_l_ten : Def K mg "_law_ten" ["_law_count"] B4s f1 fd1) (G_l_ten : FnOk P w K mg base (CX1 P w) 1 f1 fd1 ["_law_count"] D2k)
   (D_l_roots : Def K mg "_law_roots" ["_law_figures_here", "_law_power", "_law_room"] A4q f2 fd2) (G_l_roots : FnOk P w K mg base (CX1 P w) 8 f2 fd2 ["_law_figures_here", "_law_power", "_law_room"] G3n) (D_l_good_kinds : Def K mg "_law_good_kinds" ["_law_found", "_law_room"] A5f f3 fd3) (G_l_good_kinds : FnOk P w K mg base (CX1 P w) 2 f3 fd3 ["_law_found", "_law_room"] G2z) (O : Own mg) :
   FnOk P w K mg base (CX1 P w) 9 f fd ["_law_figures_here", "_law_power", "_law_room"] G2h := by
 refine D.F.okE scLRight (fun vs H Q E h => ?_) (fun X cdv A outer s H vs Q E hX hr hx h => ?_)
 . obtain ⟨t, p, r, rfl, _⟩ := h
   rfl
 . subst hX
   obtain ⟨t, p, r, rfl, hD, k⟩ := h
   have HU := hr.units
   refine ⟨_, (A4 (C6 (D0 (i := 3) scLRight.nd rfl (Or.inr rfl) (B9 D_l_roots G_l_roots hr hx (A0 (pv 0) (A0 (pv 1) (A0 (pv 2) A5))))))
     (A4 (C6 (G2 (A2e (U8 (B9 D_l_good_kinds G_l_good_kinds hr hx (A0 (pv 3) (A0 (pv 2) A5))))) (A6 (B0 A2b)) C8))
     (A4 (C6 (U8h (A3j (A0 (B1k (Nat.lt_of_le_of_lt (Nat.add_le_add_left (by decide) _) HU) (pv 3) B5 (fun _ _ => rfl)) (A0 (B1k (Nat.lt_of_le_of_lt (Nat.add_le_add_left (by decide) _) HU) (pv 3) B5 (fun _ _ => rfl)) A5))) (G8b rfl (A4b (U5 (i := 4) scLRight.nd rfl (Or.inr rfl)) (A4b (U5 (i := 5) scLRight.nd rfl (Or.inl rfl)) D3s)))))
     (A4 (C6 (D0 (i := 6) scLRight.nd rfl (Or.inl rfl) (J7 (B6b rfl) (by rfl) O.min_ boot_min (A0 (G7 G0 (G7 G0 (pv 4) A3 (fun _ _ => rfl)) A3 (fun _ _ => rfl)) (A0 (G7 G0 (G7 G0 (pv 5) A3 (fun _ _ => rfl)) A3 (fun _ _ => rfl)) A5)))))
     (A4 (C6 (D0 (i := 7) scLRight.nd rfl (Or.inl rfl) (J7 (B6b rfl) (by rfl) O.min_ boot_min (A0 (pv 6) (A0 (B3 G6 (pv 1) A3) A5)))))
     (A4 (C6 (D0 (i := 8) scLRight.nd rfl (Or.inl rfl) (B3 D6 (G7 G0 (G7 G0 (pv 4) A3 (fun _ _ => rfl)) A3 (fun _ _ => rfl)) (B9 D_l_ten G_l_ten hr hx (A0 (B3 U1 (G7 G0 (G7 G0 (pv 4) A3 (fun _ _ => rfl)) A3 (fun _ _ => rfl)) (pv 7)) A5)))))
     (A4 (C6 (D0 (i := 9) scLRight.nd rfl (Or.inl rfl) (B3 D6 (G7 G0 (G7 G0 (pv 5) A3 (fun _ _ => rfl)) A3 (fun _ _ => rfl)) (B9 D_l_ten G_l_ten hr hx (A0 (B3 U1 (G7 G0 (G7 G0 (pv 5) A3 (fun _ _ => rfl)) A3 (fun _ _ => rfl)) (pv 7)) A5)))))
     (A4 (C6 (D0 (i := 10) scLRight.nd rfl (Or.inl rfl) (B3 D6 (pv 0) (B9 D_l_ten G_l_ten hr hx (A0 (B3 U1 (pv 1) (B3 D6 A3 (pv 7))) A5)))))
     (A4 (C6 (G2 (C5 G8 (B3 D6 (pv 8) (pv 8)) (pv 10) (B8 _)) (A4 (C6 (U7u (i := 11) (N := ["_law_one"]) (F := ["_law_low"]) (js := [4]) (CompScopeF.of1 ⟨rfl, by decide +kernel, by decide +kernel, by decide +kernel, by decide +kernel⟩ (by rfl) (by rfl) ⟨_, by rfl⟩ (by rfl) (by rfl)) (.inl hr.hd) rfl (J8s (pv 3)) rfl (fun C s₀ H₀ ex pn h => U5 (i := 0) (by decide +kernel : (["_law_one", "_law_low"] : List Str).Nodup) rfl (Or.inl rfl)) (fun C s₀ H₀ ex pn h => (C5 (J9b (K := K) rfl hr.units) (pv 0) (pv 1) (B8 _))) (fun C s₀ H₀ ex pn h => (pv 0)) scLRight.nd rfl (Or.inl rfl)))
     (A6 (B0 (A8p (G3 (C3e hr.units) (pv 11) (J2 A5) (B8 _)) (A8p (G3 G8 (pv 8) (pv 9) (B8 _)) (A5b (G3 (Z2p hr.units) (G7 G0 (pv 4) A3 (fun _ _ => rfl)) (A3j (A0 (J2 A5) (A0 (J2 (A0 B5 A5)) A5))) (by rfl)))))))) C8))
     (A4 (C6 (G2 (PW.pt (C2s (A2e (G3e B4t B4t (B3 D6 (pv 8) (pv 8)) (pv 10) (B3 D6 (pv 9) (pv 9)))) (C1y (C5 B4g (B3 U1 (pv 9) (pv 8)) (B9 D_l_ten G_l_ten hr hx (A0 (B3 U1 (G7 G0 (G7 G0 (pv 4) A3 (fun _ _ => rfl)) A3 (fun _ _ => rfl)) (pv 7)) A5)) (B8 _))))) (A6 (B0 A2b)) C8))
     (A4 (C6 (G2 (PW.pt (C2s (C5 (D2x hr.units) (G7 G0 (pv 4) A3 (fun _ _ => rfl)) (J2 (A0 B5 (A0 B5 A5))) (B8 _)) (C2s (C5 (D2x hr.units) (B1k (Nat.lt_of_le_of_lt (Nat.add_le_add_left (by decide) _) HU) (pv 3) B5 (fun _ _ => rfl)) (pv 4) (B8 _)) (C1y (C5 (D2x hr.units) (B1k (Nat.lt_of_le_of_lt (Nat.add_le_add_left (by decide) _) HU) (pv 3) B5 (fun _ _ => rfl)) (pv 5) (B8 _)))))) (A6 (B0 A2b)) C8))
     (A4 (C6 (D0 (i := 12) scLRight.nd rfl (Or.inl rfl) (B3 D6 (B3 J3 (pv 8) (pv 9)) (B3 J3 (pv 8) (pv 9)))))
     (A4 (C6 (D0 (i := 13) scLRight.nd rfl (Or.inl rfl) (G7 C0v (J2 (A0 (pv 4) (A0 (pv 5) A5))) (B3 V6 (G7 G0 (G7 G0 (pv 4) A3 (fun _ _ => rfl)) A3 (fun _ _ => rfl)) A3) (fun _ _ => rfl))))
     (A4 (C6 (D0 (i := 14) scLRight.nd rfl (Or.inr rfl) (J8r (A1u B5 (pv 5) (A1u B5 (pv 4) (A1u B5 (pv 13) (A1u B5 (G7 C0v (J2 (A0 (pv 4) (A0 (pv 5) A5))) (A3y D0r (by rfl) O.int_ boot_int (A0 (G3 G8 (B3 V6 (G7 G0 (G7 G0 (pv 4) A3 (fun _ _ => rfl)) A3 (fun _ _ => rfl)) A3) A3 (B8 _)) A5)) (fun _ _ => rfl)) J8x)))) rfl rfl (by simp) (by decide))))
     (A4 (C6 (G2 (C5 B4g (pv 12) (B3 D6 A3 (pv 10)) (B8 _)) (A4 (C6 (D0 (i := 15) scLRight.nd rfl (Or.inl rfl) (G7 C0v (J2 (A0 (pv 4) (A0 (pv 5) A5))) (A3y D0r (by rfl) O.int_ boot_int (A0 (G3 B4t (pv 12) (B3 D6 A3 (pv 10)) (B8 _)) A5)) (fun _ _ => rfl))))
     (A6 (C6 (U6 (Z8h PySem.F.plainAttrs_dict PySem.F.slot_dict_update PySem.F.type_dict_update U2f (pv 14) (A0 (J8r (A1u B5 (pv 15) (A1u B5 (pv 15) (A1u B5 (pv 15) J8x))) rfl rfl (by simp) (by decide)) A5)))))) C8))
     (A6 (B0 (A8p (G3 (C3e hr.units) (G7 G0 (pv 5) A3 (fun _ _ => rfl)) (G7 G0 (pv 4) A3 (fun _ _ => rfl)) (B8 _)) (A5b (G3 (C3e hr.units) (U8z (N := ["_law_way"]) (F := ["_law_found", "_law_due"]) (js := [3, 14]) (CompScopeF.of2 ⟨rfl, by decide +kernel, by decide +kernel, by decide +kernel, by decide +kernel⟩ (by rfl) (by rfl) ⟨_, by rfl⟩ (by rfl) (by rfl) (by rfl) ⟨_, by rfl⟩ (by rfl) (by rfl)) (.inl hr.hd) rfl (Y6g (pv 14)) rfl (fun C s₀ H₀ ex pn h => U5 (i := 0) (by decide +kernel : (["_law_way", "_law_found", "_law_due"] : List Str).Nodup) rfl (Or.inl rfl)) (fun C s₀ H₀ ex pn h => (C5 (J9b (K := K) rfl hr.units) (B1k (Nat.lt_of_le_of_lt (Nat.add_le_add_left (by decide) _) HU) (pv 1) (pv 0) (fun _ _ => rfl)) (B1k (Nat.lt_of_le_of_lt (Nat.add_le_add_left (by decide) _) HU) (pv 2) (pv 0) (fun _ _ => rfl)) (B8 _))) (fun C s₀ H₀ ex pn h => (pv 0))) (J2 A5) (B8 _))))))))))))))))))))), ?_⟩
   have z2 : 2 <= sizeLine := D7 (by decide)
   have z1 : 1 <= sizeLine := D7 (by decide)
   have d2 := dv (n := 2) (by decide) (by decide +kernel)
   obtain ⟨fl, Pl, fh, Ph, nl, nh, N⟩ := Z1d hD
   have t1 := hD.t1; have t2 := hD.t2; have p0 := hD.p0; have p1 := hD.p1
   have l0 := N.l0; have l1 := N.l1; have h0 := N.h0; have h1 := N.h1; have pl0 := N.pl0; have pl1 := N.pl1; have ph0 := N.ph0; have ph1 := N.ph1
   refine ⟨fun σ' H' => ∃ d As, Same H H' /\ H d = none /\ H' d = some (.dK (A1x As 8)) /\ (∀ y, PairAt H' (As y) (R24 t p r y)) /\ σ' = [some (.int t), some (.int p), some (.int r), some (.ref d), none, none, none, none, none, none, none, none, none, none, none, none], ?_, ?_⟩
   . exact ⟨_, rfl, _, rfl, _, rfl, t, p, r, rfl, hD, fun d As H' s' nd e pa => ⟨d, As, s', nd, e, pa, rfl⟩⟩
   rintro σ' H1 ⟨d, As, s1, nd, e1, pa1, rfl⟩
   refine ⟨fun σ' H' => ∃ o, Same H H' /\ H' d = some (.frz o (.dK (A1x As 8))) /\ (∀ y, PairAt H' (As y) (R24 t p r y)) /\ σ' = [some (.int t), some (.int p), some (.int r), some (.ref d), none, none, none, none, none, none, none, none, none, none, none, none], ?_, ?_⟩
   . refine ⟨_, rfl, _, rfl, d, As, t, p, r, rfl, hD, e1, pa1, fun o H' x' e' => ⟨_, rfl, J9 ⟨o, fun z ob hz => x' _ _ (s1 _ _ hz) (B7 hz nd), e', fun y => (pa1 y).exc x' e1 (by intro xs z; cases z) (by intro xs z; cases z), rfl⟩⟩⟩
   clear e1 pa1
   rintro σ' H2 ⟨o, s2, ef, pa, rfl⟩
   have kk : ∀ {H'}, Same H2 H' -> Q (.bl true) H' := fun s' => k _ (s2.trans s')
   refine ⟨fun σ' H' => Same H2 H' /\ σ' = [some (.int t), some (.int p), some (.int r), some (.ref d), some (.ref (As .floor)), some (.ref (As .ceiling)), none, none, none, none, none, none, none, none, none, none], ?_, ?_⟩
   . exact ⟨_, rfl, d, _, rfl, C1u ef .floor, _, rfl, d, _, rfl, C1u ef .ceiling, z2, fun q nq => ⟨q, _, rfl, SqT.of A7, rfl, _, _, rfl, _, _, rfl, rfl, Same.upd nq, rfl⟩⟩
   rintro σ' H3 ⟨s3, rfl⟩
   have ef := s3 _ _ ef
   have pa : ∀ y, PairAt H3 (As y) (R24 t p r y) := fun y => (pa y).same s3
   have kk : ∀ {H'}, Same H3 H' -> Q (.bl true) H' := fun s' => kk (s3.trans s')
   obtain ⟨tl, ll, el1, el2, el3⟩ := id (pa .floor)
   obtain ⟨th, lh, eh1, eh2, eh3⟩ := id (pa .ceiling)
   rw [N.lo] at el2 el3
   rw [N.hi] at eh2 eh3
   have el2 : H3 tl = some (.tup [.str "plain", .int 0, .int fl, .int Pl]) := el2
   have eh2 : H3 th = some (.tup [.str "plain", .int 0, .int fh, .int Ph]) := eh2
   have el3 : H3 ll = some (.lst ((Z4 nl).map V.str)) := el3
   have eh3 : H3 lh = some (.lst ((Z4 nh).map V.str)) := eh3
   obtain ⟨m1, em1⟩ : ∃ m1 : Int, (if Ph < Pl then Ph else Pl) = m1 := ⟨_, rfl⟩
   obtain ⟨c, ec⟩ : ∃ c : Int, (if p / 2 < m1 then p / 2 else m1) = c := ⟨_, rfl⟩
   have cl : c <= Pl := by rw [<- ec, <- em1]; split <;> split <;> omega
   have ch : c <= Ph := by rw [<- ec, <- em1]; split <;> split <;> omega
   have cp : 2 * c <= p := by rw [<- ec]; split <;> omega
   have c0 : -31 <= c := by rw [<- ec, <- em1]; split <;> split <;> omega
   refine ⟨fun σ' H' => H' = H3 /\ σ' = [some (.int t), some (.int p), some (.int r), some (.ref d), some (.ref (As .floor)), some (.ref (As .ceiling)), some (.int m1), none, none, none, none, none, none, none, none, none], ?_, ?_⟩
   . refine ⟨_, rfl, As .floor, _, _, _, rfl, rfl, SqT.of el1, D4 (j := 0) rfl, tl, _, _, _, rfl, rfl, SqT.of el2, D4 (j := 3) rfl, _, rfl, As .ceiling, _, _, _, rfl, rfl, SqT.of eh1, D4 (j := 0) rfl, th, _, _, _, rfl, rfl, SqT.of eh2, D4 (j := 3) rfl, _, _, rfl, ?_⟩
     rw [em1]
     exact ⟨rfl, rfl⟩
   rintro σ' H4 ⟨rfl, rfl⟩
   refine ⟨fun σ' H' => H' = H4 /\ σ' = [some (.int t), some (.int p), some (.int r), some (.ref d), some (.ref (As .floor)), some (.ref (As .ceiling)), some (.int m1), some (.int c), none, none, none, none, none, none, none, none], ?_, ?_⟩
   . refine ⟨_, rfl, _, rfl, _, _, rfl, rfl, d2, _, _, rfl, ?_⟩
     rw [ec]
     exact ⟨rfl, rfl⟩
   rintro σ' H5 ⟨rfl, rfl⟩
   have t9 : A2 9 < 2 ^ 64 := by decide +kernel
   have t12 : A2 12 < 2 ^ 64 := by decide +kernel
   have ta : 2 * (A2 9 * A2 62) < A2 500 := by decide +kernel
   have tb : A2 12 * A2 92 < A2 500 := by decide +kernel
   have bnd : ∀ {a e A B : Int}, 0 < a -> a < A2 A -> e <= B -> 0 < a * A2 e /\ a * A2 e <= A2 A * A2 B := fun {a e A B} a0 a1 e1 => ⟨Int.mul_pos a0 (C4 _), Int.mul_le_mul (Int.le_of_lt a1) (G9 e1) (Int.le_of_lt (C4 _)) (Int.le_of_lt (C4 _))⟩
   have ble := bnd (e := Pl - c) (B := 62) l0 l1 (by omega)
   have bmo := bnd (e := Ph - c) (B := 62) h0 h1 (by omega)
   have bsq := bnd (e := p - 2 * c) (B := 92) (show 0 < t by omega) t2 (by omega)
   obtain ⟨n1, en1, eT1⟩ := B4y (show 0 <= Pl - c by omega)
   obtain ⟨n2, en2, eT2⟩ := B4y (show 0 <= Ph - c by omega)
   obtain ⟨n3, en3, eT3⟩ := B4y (show 0 <= p - 2 * c by omega)
   obtain ⟨le, ele⟩ : ∃ le : Int, fl * A2 (Pl - c) = le := ⟨_, rfl⟩
   obtain ⟨mo, emo⟩ : ∃ mo : Int, fh * A2 (Ph - c) = mo := ⟨_, rfl⟩
   obtain ⟨sq, esq⟩ : ∃ sq : Int, t * A2 (p - 2 * c) = sq := ⟨_, rfl⟩
   rw [ele] at ble
   rw [emo] at bmo
   rw [esq] at bsq
   have mll := U9s (a := le) (b := le) (by omega) (by omega) (by omega) (by omega)
   have mmm := U9s (a := mo) (b := mo) (by omega) (by omega) (by omega) (by omega)
   refine ⟨fun σ' H' => H' = H5 /\ σ' = [some (.int t), some (.int p), some (.int r), some (.ref d), some (.ref (As .floor)), some (.ref (As .ceiling)), some (.int m1), some (.int c), some (.int le), none, none, none, none, none, none, none], ?_, ?_⟩
   . refine ⟨_, rfl, As .floor, _, _, _, rfl, rfl, SqT.of el1, D4 (j := 0) rfl, tl, _, _, _, rfl, rfl, SqT.of el2, D4 (j := 2) rfl, _, rfl, As .floor, _, _, _, rfl, rfl, SqT.of el1, D4 (j := 0) rfl, tl, _, _, _, rfl, rfl, SqT.of el2, D4 (j := 3) rfl, _, rfl, _, _, rfl, rfl, n1, by rw [<- en1]; rfl, by omega, ?_⟩
     rw [eT1]
     refine ⟨_, _, rfl, rfl, CMul.ok (.inl ⟨by omega, by omega⟩), rfl, ?_⟩
     rw [<- ele]
     rfl
   rintro σ' H6 ⟨rfl, rfl⟩
   refine ⟨fun σ' H' => H' = H6 /\ σ' = [some (.int t), some (.int p), some (.int r), some (.ref d), some (.ref (As .floor)), some (.ref (As .ceiling)), some (.int m1), some (.int c), some (.int le), some (.int mo), none, none, none, none, none, none], ?_, ?_⟩
   . refine ⟨_, rfl, As .ceiling, _, _, _, rfl, rfl, SqT.of eh1, D4 (j := 0) rfl, th, _, _, _, rfl, rfl, SqT.of eh2, D4 (j := 2) rfl, _, rfl, As .ceiling, _, _, _, rfl, rfl, SqT.of eh1, D4 (j := 0) rfl, th, _, _, _, rfl, rfl, SqT.of eh2, D4 (j := 3) rfl, _, rfl, _, _, rfl, rfl, n2, by rw [<- en2]; rfl, by omega, ?_⟩
     rw [eT2]
     refine ⟨_, _, rfl, rfl, CMul.ok (.inl ⟨by omega, by omega⟩), rfl, ?_⟩
     rw [<- emo]
     rfl
   rintro σ' H7 ⟨rfl, rfl⟩
   refine ⟨fun σ' H' => H' = H7 /\ σ' = [some (.int t), some (.int p), some (.int r), some (.ref d), some (.ref (As .floor)), some (.ref (As .ceiling)), some (.int m1), some (.int c), some (.int le), some (.int mo), some (.int sq), none, none, none, none, none], ?_, ?_⟩
   . refine ⟨_, rfl, _, rfl, _, rfl, _, _, rfl, rfl, CMul.ok (.inl ⟨by decide, by decide⟩), _, _, rfl, rfl, n3, by rw [<- en3]; rfl, by omega, ?_⟩
     rw [eT3]
     refine ⟨_, _, rfl, rfl, CMul.ok (.inl ⟨by omega, by omega⟩), rfl, ?_⟩
     rw [<- esq]
     rfl
   rintro σ' H8 ⟨rfl, rfl⟩
   have rdl := rdP (K := K) (pa .floor)
   refine ⟨fun σ' H' => H' = H8 /\ pt24 t p r ≠ 0 /\ σ' = [some (.int t), some (.int p), some (.int r), some (.ref d), some (.ref (As .floor)), some (.ref (As .ceiling)), some (.int m1), some (.int c), some (.int le), some (.int mo), some (.int sq), none, none, none, none, none], ?_, ?_⟩
   . refine ⟨_, rfl, _, rfl, _, _, rfl, rfl, mll, _, rfl, rfl, _, rfl, U3 (fun hq => ?_) (fun hq => ⟨rfl, fun z => ?_, rfl⟩)⟩
     . have hq : le * le = sq := V.int.inj hq
       rcases N.w with ⟨e, ef1, ef2, hn, all, _⟩ | ⟨e, _, _, _, _, _, _, lie⟩
       . refine ⟨fun σ' H' => ∃ q, Same H8 H' /\ H' q = some (.lst []) /\ σ' = [some (.int t), some (.int p), some (.int r), some (.ref d), some (.ref (As .floor)), some (.ref (As .ceiling)), some (.int m1), some (.int c), some (.int le), some (.int mo), some (.int sq), some (.ref q), none, none, none, none], ?_, ?_⟩
         . refine ⟨_, rfl, d, _, rfl, .inr ⟨o, ef, G3j (J := Itv d o (A1x As 8)) (n := 8) (fun _ => false) (fun _ _ _ => True) (by decide) (fun _ _ _ _ _ _ h _ _ => h) (fun i G Qy Qn hi sm hy hn => ⟨⟨sm _ _ ef, hi⟩, fun x G' yl => ?_⟩) (fun G sm => ⟨sm _ _ ef, Nat.le_refl _⟩) (fun D' G ys sm nD eD hlen hR => ?_)⟩⟩
           . obtain ⟨rfl, ky, yl⟩ := yl
             obtain ⟨y, _, rfl⟩ := Z0v yl
             refine ⟨_, rfl, _, rfl, B4k (R24 t p r y), B4k (R24 t p r .floor), rdP ((pa y).same sm), rdP ((pa .floor).same sm), shP _, shP _, _, rfl, ?_⟩
             rw [if_pos rfl, all y, eqP]
             exact J9 (hn rfl _ (Same.refl _))
           . have e0 : ys = [] := by
               have : ys.length = 0 := by rw [hlen]; simp
               exact List.length_eq_zero_iff.mp this
             subst e0
             exact ⟨D', sm, eD, rfl⟩
         rintro σ' H9 ⟨q, s9, eq, rfl⟩
         refine ⟨_, rfl, Nat.zero_le _, fun l1 n1 => ?_⟩
         have u1 := Same.upd (o := .lst []) n1
         refine ⟨rdS [], rdS [], Y0 (u1 _ _ eq), Y0 A7, shS ⟨by simp, by simp⟩, shS ⟨by simp, by simp⟩, _, rfl, ?_⟩
         rw [if_neg Bool.false_ne_true, U1q]
         have elm : le = mo := by rw [<- ele, <- emo, ef1, ef2]
         refine Z3 ⟨_, rfl, _, rfl, rfl, _, rfl, B4n (congrArg V.int elm) ?_⟩
         have sa := s9.trans u1
         refine ⟨_, rfl, As .floor, _, _, _, rfl, rfl, SqT.of (sa _ _ el1), D4 (j := 1) rfl, Nat.zero_le _, fun a1 m1 => ⟨z1, fun a2 m2 => ⟨z2, fun qq mq => ?_⟩⟩⟩
         have v1 := Same.upd (o := .lst []) m1
         have v2 := Same.upd (o := .lst [.str "cut"]) m2
         have v3 := Same.upd (o := .tup [.ref a1, .ref a2]) mq
         have sb := sa.trans ((v1.trans v2).trans v3)
         refine ⟨rdS (Z4 nl), [rdS [], rdS ["cut"]], Y0 (sb _ _ el3), .tup (SqT.of A7) (.cons (Y0 ((v2.trans v3) _ _ A7)) (.cons (Y0 (v3 _ _ A7)) .nil)), by decide +kernel, ?_, ?_, ?_⟩
         . rcases hn with rfl | rfl <;> decide +kernel
         . rcases hn with rfl | rfl <;> decide +kernel
         . have : (([rdS [], rdS ["cut"]] : List PyData).any fun e => PyData.eqv e (rdS (Z4 nl))) = true := by
             rcases hn with rfl | rfl <;> decide +kernel
           rw [this]
           exact kk sb
       . have := (lie c cl cp).ex
         rw [ele, esq] at this
         exact absurd (this.1 hq) e
     . rcases N.w with ⟨e, ef1, ef2, hn, all, same⟩ | ⟨e, _⟩
       . have := same c cl cp
         rw [ele, esq] at this
         exact hq (congrArg V.int this)
       . exact e z
   rintro σ' H9 ⟨rfl, hpt, rfl⟩
   obtain ⟨e, efl, ePl, enl, enh, lePh, efh, lie⟩ : pt24 t p r ≠ 0 /\ fl = w24 t p r /\ Pl = q24 t p r /\ nl = (["off", "cut"] : List Str) /\ nh = (["off", "cut"] : List Str) /\ Pl <= Ph /\ fh * A2 (Ph - Pl) = fl + 1 /\ ∀ c, c <= Pl -> 2 * c <= p -> Lie (fl * A2 (Pl - c)) ((fl + 1) * A2 (Pl - c)) (t * A2 (p - 2 * c)) (pt24 t p r) := by
     rcases N.w with ⟨e, _⟩ | w
     . exact absurd e hpt
     . exact w
   have L := lie c cl cp
   have emo2 : (fl + 1) * A2 (Pl - c) = mo := by
     rw [<- efh, <- emo, Int.mul_assoc, <- U4 (by omega) (by omega)]
     congr 2
     omega
   rw [ele, emo2, esq] at L
   have dif : mo - le = A2 (Pl - c) := by
     rw [<- emo2, <- ele, Int.add_mul, Int.one_mul]
     omega
   subst enl enh
   refine ⟨fun σ' H' => H' = H9 /\ σ' = [some (.int t), some (.int p), some (.int r), some (.ref d), some (.ref (As .floor)), some (.ref (As .ceiling)), some (.int m1), some (.int c), some (.int le), some (.int mo), some (.int sq), none, none, none, none, none], ?_, ?_⟩
   . refine ⟨_, rfl, _, rfl, _, _, rfl, rfl, mll, _, rfl, _, _, rfl, rfl, _, rfl, B4n (show le * le < sq from L.lo hpt) ⟨_, rfl, _, rfl, _, _, rfl, rfl, mmm, _, _, rfl, rfl, _, rfl, ?_⟩⟩
     rw [decide_eq_true (show sq < mo * mo from L.hi)]
     refine J9 ⟨_, rfl, _, rfl, _, _, rfl, rfl, _, rfl, As .floor, _, _, _, rfl, rfl, SqT.of el1, D4 (j := 0) rfl, tl, _, _, _, rfl, rfl, SqT.of el2, D4 (j := 3) rfl, _, rfl, _, _, rfl, rfl, n1, by rw [<- en1]; rfl, by omega, ?_⟩
     rw [eT1]
     exact ⟨rfl, _, rfl, C0a (congrArg V.int dif) ⟨rfl, rfl⟩⟩
   rintro σ' H10 ⟨rfl, rfl⟩
   have go := Z1u hD hpt
   refine ⟨fun σ' H' => Same H10 H' /\ σ' = [some (.int t), some (.int p), some (.int r), some (.ref d), some (.ref (As .floor)), some (.ref (As .ceiling)), some (.int m1), some (.int c), some (.int le), some (.int mo), some (.int sq), none, none, none, none, none], ?_, ?_⟩
   . refine ⟨_, rfl, As .floor, _, _, _, rfl, rfl, SqT.of el1, D4 (j := 1) rfl, z2, fun l1 n1 => ?_⟩
     have u1 := Same.upd (o := .lst [.str "off", .str "cut"]) n1
     refine ⟨rdS ["off", "cut"], rdS ["off", "cut"], Y0 (u1 _ _ el3), Y0 A7, by decide +kernel, by decide +kernel, _, rfl, ?_⟩
     rw [if_pos rfl, U1q]
     refine J9 ⟨_, rfl, d, _, rfl, C1u (u1 _ _ ef) .down, _, rfl, B4k (R24 t p r .down), B4k (R24 t p r .floor), rdP ((pa .down).same u1), rdP ((pa .floor).same u1), shP _, shP _, _, rfl, ?_⟩
     rw [if_pos rfl, show R24 t p r .down = R24 t p r .floor from go .down, eqP]
     refine J9 ⟨_, rfl, d, _, rfl, C1u (u1 _ _ ef) .up, _, rfl, B4k (R24 t p r .up), B4k (R24 t p r .ceiling), rdP ((pa .up).same u1), rdP ((pa .ceiling).same u1), shP _, shP _, _, rfl, ?_⟩
     rw [if_pos rfl, show R24 t p r .up = R24 t p r .ceiling from go .up, eqP]
     exact J9 ⟨u1, rfl⟩
   rintro σ' H11 ⟨s11, rfl⟩
   have ef := s11 _ _ ef
   have pa : ∀ y, PairAt H11 (As y) (R24 t p r y) := fun y => (pa y).same s11
   have kk : ∀ {H'}, Same H11 H' -> Q (.bl true) H' := fun s' => kk (s11.trans s')
   have el1 := s11 _ _ el1; have el2 := s11 _ _ el2; have el3 := s11 _ _ el3; have eh1 := s11 _ _ eh1; have eh3 := s11 _ _ eh3
   refine ⟨fun σ' H' => H' = H11 /\ σ' = [some (.int t), some (.int p), some (.int r), some (.ref d), some (.ref (As .floor)), some (.ref (As .ceiling)), some (.int m1), some (.int c), some (.int le), some (.int mo), some (.int sq), none, some (.int ((le + mo) * (le + mo))), none, none, none], ?_, ?_⟩
   . exact ⟨_, rfl, _, rfl, _, _, rfl, rfl, _, rfl, _, rfl, _, _, rfl, rfl, _, _, rfl, rfl, U9s (by omega) (by omega) (by omega) (by omega), rfl, rfl⟩
   rintro σ' H12 ⟨rfl, rfl⟩
   obtain ⟨be, ebe⟩ : ∃ be, decide (fl % 2 = 1) = be := ⟨_, rfl⟩
   refine ⟨fun σ' H' => Same H12 H' /\ σ' = [some (.int t), some (.int p), some (.int r), some (.ref d), some (.ref (As .floor)), some (.ref (As .ceiling)), some (.int m1), some (.int c), some (.int le), some (.int mo), some (.int sq), none, some (.int ((le + mo) * (le + mo))), some (.ref (As (sel be))), none, none], ?_, ?_⟩
   . refine ⟨_, rfl, _, rfl, z2, fun l1 n1 => ?_⟩
     have u1 := Same.upd (o := .lst [.ref (As .floor), .ref (As .ceiling)]) n1
     refine ⟨_, rfl, As .floor, _, _, _, rfl, rfl, SqT.of (u1 _ _ el1), D4 (j := 0) rfl, tl, _, _, _, rfl, rfl, SqT.of (u1 _ _ el2), D4 (j := 2) rfl, _, _, rfl, rfl, (by decide : (0 : Int) < 2), l1, _, _, _, rfl, rfl, SqL.of A7, Z3c (Int.emod_nonneg _ (by decide)) (by have := Int.emod_lt_of_pos fl (show (0 : Int) < 2 by decide); omega), u1, ?_⟩
     rw [ebe]
     rfl
   rintro σ' H13 ⟨s13, rfl⟩
   have ef := s13 _ _ ef
   have pa : ∀ y, PairAt H13 (As y) (R24 t p r y) := fun y => (pa y).same s13
   have kk : ∀ {H'}, Same H13 H' -> Q (.bl true) H' := fun s' => kk (s13.trans s')
   have el1 := s13 _ _ el1; have el2 := s13 _ _ el2; have el3 := s13 _ _ el3; have eh1 := s13 _ _ eh1; have eh3 := s13 _ _ eh3
   refine ⟨fun σ' H' => ∃ du, Same H13 H' /\ H13 du = none /\ H' du = some (.dK (A7y As true false be (decide (fl % 5 = 0)))) /\ σ' = [some (.int t), some (.int p), some (.int r), some (.ref d), some (.ref (As .floor)), some (.ref (As .ceiling)), some (.int m1), some (.int c), some (.int le), some (.int mo), some (.int sq), none, some (.int ((le + mo) * (le + mo))), some (.ref (As (sel be))), some (.ref du), none], ?_, ?_⟩
   . intro du nu
     have u0 := Same.upd (o := .dK []) nu
     refine ⟨_, rfl, _, rfl, _, rfl, _, rfl, _, rfl, z2, fun l1 n1 => ?_⟩
     have u1 := Same.upd (o := .lst [.ref (As .floor), .ref (As .ceiling)]) n1
     have u := u0.trans u1
     refine ⟨_, rfl, As .floor, _, _, _, rfl, rfl, SqT.of (u _ _ el1), D4 (j := 0) rfl, tl, _, _, _, rfl, rfl, SqT.of (u _ _ el2), D4 (j := 2) rfl, _, _, rfl, rfl, (by decide : (0 : Int) < 5), rfl, .inr ⟨_, rfl, l1, _, _, _, rfl, rfl, SqL.of A7, Z0j _, ?_⟩⟩
     have e5 : decide (V.int (fl % 5) = V.int 0) = decide (fl % 5 = 0) := by
       by_cases z : fl % 5 = 0
       . rw [decide_eq_true z, decide_eq_true (congrArg V.int z)]
       . rw [decide_eq_false z, decide_eq_false fun q => z (V.int.inj q)]
     rw [e5]
     refine ⟨u1 _ _ A7, A7y As true false be (decide (fl % 5 = 0)), rfl, by show 4 <= 15; decide, ?_⟩
     rw [Z1t]
     refine ⟨du, fun z ob hz => ?_, nu, A7, rfl⟩
     rw [C0 (B7 hz nu)]
     exact u _ _ hz
   rintro σ' H14 ⟨du, s14, nu, edu, rfl⟩
   have nfd : d ≠ du := B7 ef nu
   obtain ⟨b1, eb1⟩ : ∃ b1, Wy.goes .halfUp 0 (w24 t p r % 10) (pt24 t p r) = b1 := ⟨_, rfl⟩
   obtain ⟨b2, eb2⟩ : ∃ b2, Wy.goes .halfDown 0 (w24 t p r % 10) (pt24 t p r) = b2 := ⟨_, rfl⟩
   obtain ⟨b3, eb3⟩ : ∃ b3, Wy.goes .halfEven 0 (w24 t p r % 10) (pt24 t p r) = b3 := ⟨_, rfl⟩
   have q4 : IntMulOk 4 sq := CMul.ok (.inl ⟨by decide, by decide⟩)
   refine ⟨fun σ' H' => ∃ z15, Exc du H14 H' /\ H' du = some (.dK (A7y As b1 b2 b3 (decide (fl % 5 = 0)))) /\ σ' = [some (.int t), some (.int p), some (.int r), some (.ref d), some (.ref (As .floor)), some (.ref (As .ceiling)), some (.int m1), some (.int c), some (.int le), some (.int mo), some (.int sq), none, some (.int ((le + mo) * (le + mo))), some (.ref (As (sel be))), some (.ref du), z15], ?_, ?_⟩
   . refine ⟨_, rfl, _, rfl, _, _, rfl, rfl, q4, rfl, _, rfl, ?_⟩
     by_cases hm : (le + mo) * (le + mo) = 4 * sq
     . refine C0a (congrArg V.int hm) ⟨none, Exc.refl _ _, ?_, rfl⟩
       have p2 := (L.m2 hpt).1 hm
       have x1 : b1 = true := by rw [<- eb1, p2]; rfl
       have x2 : b2 = false := by rw [<- eb2, p2]; rfl
       have x3 : b3 = be := by
         rw [<- eb3, <- ebe, p2, efl]
         show decide (V.int (w24 t p r % 10 % 2) = V.int 1) = decide (w24 t p r % 2 = 1)
         by_cases z : w24 t p r % 2 = 1
         . rw [decide_eq_true z, decide_eq_true (congrArg V.int (show w24 t p r % 10 % 2 = 1 by omega))]
         . rw [decide_eq_false z, decide_eq_false fun q => z (by have := V.int.inj q; omega)]
       rw [x1, x2, x3]
       exact edu
     . refine Z8b (fun z => hm (V.int.inj z)) ?_
       have p2 : pt24 t p r ≠ 2 := fun z => hm ((L.m2 hpt).2 z)
       obtain ⟨bc, ebc⟩ : ∃ bc, decide ((le + mo) * (le + mo) < 4 * sq) = bc := ⟨_, rfl⟩
       have x0 : bc = decide (pt24 t p r = 3) := by
         rw [<- ebc]
         by_cases z : pt24 t p r = 3
         . rw [decide_eq_true z, decide_eq_true ((L.m3 hpt).2 z)]
         . rw [decide_eq_false z, decide_eq_false fun q => z ((L.m3 hpt).1 q)]
       have prt : 0 <= pt24 t p r /\ pt24 t p r <= 3 := Z7p
       have x1 : b1 = bc := by
         rw [<- eb1, x0]
         show decide (pt24 t p r >= 2) = decide (pt24 t p r = 3)
         by_cases z : pt24 t p r = 3
         . rw [decide_eq_true z, decide_eq_true (show pt24 t p r >= 2 by omega)]
         . rw [decide_eq_false z, decide_eq_false (show ¬ pt24 t p r >= 2 by omega)]
       have d3 : decide (V.int (pt24 t p r) = V.int 3) = bc := by
         rw [x0]
         by_cases z : pt24 t p r = 3
         . rw [decide_eq_true z, decide_eq_true (congrArg V.int z)]
         . rw [decide_eq_false z, decide_eq_false fun q => z (V.int.inj q)]
       have x2 : b2 = bc := by rw [<- eb2]; exact d3
       have x3 : b3 = bc := by
         rw [<- eb3]
         show (if decide (V.int (pt24 t p r) = V.int 3) = true then true else if decide (V.int (pt24 t p r) = V.int 2) = true then _ else false) = bc
         rw [d3, decide_eq_false fun q => p2 (V.int.inj q)]
         cases bc <;> rfl
       refine ⟨fun σ' H' => Same H14 H' /\ σ' = [some (.int t), some (.int p), some (.int r), some (.ref d), some (.ref (As .floor)), some (.ref (As .ceiling)), some (.int m1), some (.int c), some (.int le), some (.int mo), some (.int sq), none, some (.int ((le + mo) * (le + mo))), some (.ref (As (sel be))), some (.ref du), some (.ref (As (sel bc)))], ?_, ?_⟩
       . refine ⟨_, rfl, _, rfl, z2, fun l1 n1 => ?_⟩
         have u1 := Same.upd (o := .lst [.ref (As .floor), .ref (As .ceiling)]) n1
         refine ⟨_, rfl, _, rfl, _, _, rfl, rfl, q4, _, _, rfl, rfl, .inr ⟨_, rfl, ?_⟩⟩
         rw [ebc]
         exact ⟨l1, _, _, _, rfl, rfl, SqL.of A7, Z0j _, u1, rfl⟩
       rintro σ' H15 ⟨s15, rfl⟩
       refine ⟨_, ?_, fun _ _ h => h⟩
       refine ⟨_, rfl, .inr (.inr (.inl ⟨rfl, .inl ⟨_, s15 _ _ edu⟩⟩)), fun o2 no2 => ⟨_, rfl, _, rfl, _, rfl, A7, [((.inr "half up" : Key), V.ref (As (sel bc))), (.inr "half down", .ref (As (sel bc))), (.inr "half even", .ref (As (sel bc)))], rfl, by show 3 <= 15; decide, ?_⟩⟩
       rw [Z3k]
       have edu15 := s15 _ _ edu
       have u2 : Same H15 (upd (upd H15 o2 (.dK [])) o2 (.dK [((.inr "half up" : Key), V.ref (As (sel bc))), (.inr "half down", .ref (As (sel bc))), (.inr "half even", .ref (As (sel bc)))])) := fun z ob hz => by
         rw [C0 (B7 hz no2), C0 (B7 hz no2)]
         exact hz
       refine ⟨du, o2, _, _, rfl, rfl, u2 _ _ edu15, A7, B7 edu15 no2, D7 (show 4 + 3 <= 1000 by decide), ?_⟩
       rw [Z8j, x1, x2, x3]
       exact ⟨_, ((Exc.of s15).trans (.of u2)).trans Exc.upd, A7, rfl⟩
   rintro σ' H15 ⟨z15, x15, edu15, rfl⟩
   have k2 : ∀ z ob, H13 z = some ob -> H15 z = some ob := fun z ob hz => x15 _ _ (s14 _ _ hz) (B7 hz nu)
   have k2 : Same H13 H15 := k2
   have ef := k2 _ _ ef
   have pa : ∀ y, PairAt H15 (As y) (R24 t p r y) := fun y => (pa y).same k2
   have kk : ∀ {H'}, Same H13 H' -> Q (.bl true) H' := kk
   have el1 := k2 _ _ el1; have el3 := k2 _ _ el3; have eh1 := k2 _ _ eh1; have eh3 := k2 _ _ eh3
   refine ⟨_, rfl, As .ceiling, _, _, _, rfl, rfl, SqT.of eh1, D4 (j := 1) rfl, _, rfl, As .floor, _, _, _, rfl, rfl, SqT.of el1, D4 (j := 1) rfl, rdS ["off", "cut"], rdS ["off", "cut"], Y0 eh3, Y0 el3, by decide +kernel, by decide +kernel, _, rfl, ?_⟩
   rw [if_neg Bool.false_ne_true, U1q]
   have b4 : Wy.goes .fiveUp 0 (w24 t p r % 10) (pt24 t p r) = decide (fl % 5 = 0) := by
     show inV (.int (w24 t p r % 10)) [.int 0, .int 5] = _
     rw [Y6b (Int.emod_nonneg _ (by decide)) (by have := Int.emod_lt_of_pos (w24 t p r) (show (0 : Int) < 10 by decide); omega), efl]
     by_cases z : w24 t p r % 5 = 0
     . rw [decide_eq_true z, decide_eq_true (congrArg V.int (show w24 t p r % 10 % 5 = 0 by omega))]
     . rw [decide_eq_false z, decide_eq_false fun q => z (by have := V.int.inj q; omega)]
   have all : ∀ (i : Nat) (ky : Key) (v : V), (A7y As b1 b2 b3 (decide (fl % 5 = 0)))[i]? = some (ky, v) -> ∃ (y z : Wy), ky = .inr y.name /\ v = .ref (As z) /\ R24 t p r y = R24 t p r z /\ C0t (A7y As b1 b2 b3 (decide (fl % 5 = 0))) ky = some v := by
     intro i ky v hv
     rcases i with _ | _ | _ | _ | i
     . cases hv; exact ⟨.halfUp, _, rfl, rfl, by rw [go .halfUp, eb1]; rfl, rfl⟩
     . cases hv; exact ⟨.halfDown, _, rfl, rfl, by rw [go .halfDown, eb2]; rfl, rfl⟩
     . cases hv; exact ⟨.halfEven, _, rfl, rfl, by rw [go .halfEven, eb3]; rfl, rfl⟩
     . cases hv; exact ⟨.fiveUp, _, rfl, rfl, by rw [go .fiveUp, b4]; rfl, rfl⟩
     . cases hv
   refine Z3 ⟨_, rfl, du, _, rfl, .inl ⟨edu15, fun o2 => ?_⟩⟩
   have xf : Exc du H15 (upd H15 du (.frz o2 (.dK (A7y As b1 b2 b3 (decide (fl % 5 = 0)))))) := Exc.upd
   have edf : upd H15 du (.frz o2 (.dK (A7y As b1 b2 b3 (decide (fl % 5 = 0))))) du = some (.frz o2 (.dK (A7y As b1 b2 b3 (decide (fl % 5 = 0))))) := A7
   have ef := xf _ _ ef nfd
   have pa : ∀ y, PairAt _ (As y) (R24 t p r y) := fun y => (pa y).exc xf edu15 (by intro xs z; cases z) (by intro xs z; cases z)
   have s16 : Same H13 (upd H15 du (.frz o2 (.dK (A7y As b1 b2 b3 (decide (fl % 5 = 0)))))) := fun z ob hz => xf _ _ (k2 _ _ hz) (B7 hz nu)
   generalize upd H15 du (.frz o2 (.dK (A7y As b1 b2 b3 (decide (fl % 5 = 0))))) = H16 at *
   refine G3j (J := Itk du o2 (A7y As b1 b2 b3 (decide (fl % 5 = 0)))) (n := 4) (fun _ => false) (fun _ _ _ => True) (by decide) (fun _ _ _ _ _ _ h _ _ => h) (fun i G Qy Qn hi sm hy hn => ⟨⟨sm _ _ edf, hi⟩, fun x G' yl => ?_⟩) (fun G sm => ⟨sm _ _ edf, Nat.le_refl _⟩) (fun D' G ys sm nD eD hlen hR => ?_)
   . obtain ⟨rfl, ky, v, yl, rfl⟩ := yl
     obtain ⟨y, z, rfl, rfl, eR, ev⟩ := all i ky v yl
     refine ⟨_, rfl, _, rfl, d, _, rfl, C1u (sm _ _ ef) y, _, rfl, _, rfl, du, _, rfl, .inl ⟨_, .inr y.name, .inr ⟨o2, sm _ _ edf⟩, rfl, ev.symm⟩, B4k (R24 t p r y), B4k (R24 t p r z), rdP ((pa y).same sm), rdP ((pa z).same sm), shP _, shP _, _, rfl, ?_⟩
     rw [if_pos rfl, eR, eqP]
     exact J9 (hn rfl _ (Same.refl _))
   . have e0 : ys = [] := by
       have : ys.length = 0 := by rw [hlen]; simp
       exact List.length_eq_zero_iff.mp this
     subst e0
     refine ⟨Nat.zero_le _, fun l1 n1 => ?_⟩
     have u1 := Same.upd (o := .lst []) n1
     refine ⟨rdS [], rdS [], Y0 (u1 _ _ eD), Y0 A7, shS ⟨by simp, by simp⟩, shS ⟨by simp, by simp⟩, ?_⟩
     rw [if_neg Bool.false_ne_true, U1q]
     exact kk ((s16.trans sm).trans u1)
end
abbrev D2t : Stmt := (top 77)
theorem G4b (i : Int) : ∀ (k : Nat) (f p : Int), Y3 i k (f * ((10 ^ k : Nat) : Int)) p = (f, p + (k : Int))
 | 0, f, p => by
   show (f * ((1 : Nat) : Int), p) = (f, p + ((0 : Nat) : Int))
   simp
 | k + 1, f, p => by
   have e : f * ((10 ^ (k + 1) : Nat) : Int) = f * ((10 ^ k : Nat) : Int) * 10 := by
     rw [Nat.pow_succ, Int.natCast_mul, Int.mul_assoc]
     rfl
   unfold Y3
   rw [e, if_pos (by omega), Int.mul_ediv_cancel _ (by decide), G4b i k f (p + 1)]
   congr 1
   omega
theorem V0k {v : Cv} {s f n L q : Int} (hq : q <= n) (hb : U9 v.m f n = false) (hl : v.l <= L) : Y2 v s (f * A2 (n - q)) 0 L q n = ((⟨.plain, s, f, n⟩, []) : Nm × List Str) := by
 have e : J1 n (f * A2 (n - q)) q = (f, n) := by
   unfold J1 A2
   rw [G4b]
   congr 1
   omega
 have el : V7 v.l L 0 = [] := by
   unfold V7
   exact if_pos hl
 unfold Y2 A1c
 rw [if_pos rfl, e]
 show (if U9 v.m f n = true then _ else _) = _
 rw [hb, if_neg Bool.false_ne_true, el]
 unfold Z6
 rw [if_pos rfl, show decide ((f, n).2 > n) = false from decide_eq_false (by show ¬ n > n; omega), if_neg Bool.false_ne_true]
 rfl
def v0 : Cv := ⟨24, .halfEven, -60, 60⟩
theorem Z0n : v0.Ok := ⟨by decide, by decide, by decide, by decide, by decide, by decide⟩
theorem G8s {f n : Int} (f0 : 0 < f) (f1 : f < A2 n) (hn : n <= 60) : 1 <= V3 f /\ V3 f <= n := by
 have f2 : f <= 10 ^ 60 - 1 := by
   have a := G9 hn
   have b : A2 60 = 10 ^ 60 := by decide +kernel
   omega
 have b := G8d (V1e (by omega) (by omega) f2)
 refine ⟨b.2.2, Classical.byContradiction fun z => ?_⟩
 have := G9 (show n <= V3 f - 1 by omega)
 omega
theorem G2u {h : Int} (h0 : -40 <= h) (h1 : h <= 40) : B4u v0 0 h = ⟨.plain, 0, 0, h⟩ := by
 unfold B4u Z2z B5v
 show (⟨.plain, 0, 0, if (60 : Int) < (if (-60 : Int) - 24 + 1 > h then (-60 : Int) - 24 + 1 else h) then 60 else (if (-60 : Int) - 24 + 1 > h then (-60 : Int) - 24 + 1 else h)⟩ : Nm) = _
 rw [if_neg (show ¬ (-60 : Int) - 24 + 1 > h by omega), if_neg (by omega)]
theorem J8b {f n k : Int} (f0 : 0 < f) (f1 : f < A2 k) (hk : k <= 60) (h : n + k <= 60) : U9 v0.m f n = false := by
 have b := G8s f0 f1 hk
 unfold U9
 rw [if_neg (by omega)]
 exact decide_eq_false (by show ¬ n + V3 f - 1 > 60; omega)
theorem Z8t {o h : Int} (o0 : 0 <= o) (o1 : o < A2 12) (h0 : -16 <= h) (h1 : h <= 16) : U2c v0 0 (o * o) (h + h) (h + h) = ((⟨.plain, 0, o * o, h + h⟩, []) : Nm × List Str) := by
 unfold U2c
 by_cases z : o * o = 0
 . rw [if_pos z, G2u (by omega) (by omega), z]
 . rw [if_neg z]
   have op : 0 < o := by
     rcases (show o = 0 \/ 0 < o by omega) with e | e
     . exact absurd (by rw [e]; rfl) z
     . exact e
   have f0 : 0 < o * o := Int.mul_pos op op
   have f1 : o * o < A2 24 := by
     have a : o * o <= o * A2 12 := Int.mul_le_mul_of_nonneg_left (by omega) o0
     have b : o * A2 12 < A2 12 * A2 12 := Int.mul_lt_mul_of_pos_right o1 (C4 _)
     have c : A2 12 * A2 12 = A2 24 := by decide +kernel
     omega
   have fb := G8s f0 f1 (by decide)
   have q : v0.fin (h + h + V3 (o * o) - 1) <= h + h := by
     unfold Cv.fin B5v
     show (if (-60 : Int) - 24 + 1 > h + h + V3 (o * o) - 1 - 24 + 1 then (-60 : Int) - 24 + 1 else h + h + V3 (o * o) - 1 - 24 + 1) <= h + h
     split <;> omega
   unfold D3p
   generalize v0.fin (h + h + V3 (o * o) - 1) = Q at q
   have ew : whI (o * o) 1 (h + h - Q) = o * o * A2 (h + h - Q) := by
     unfold whI
     rw [A2j (show -(h + h - Q) <= 0 by omega), Int.mul_one, Int.ediv_one]
   have ep : ptI (o * o) 1 (h + h - Q) = 0 := by
     unfold ptI
     rw [ew, A2j (show -(h + h - Q) <= 0 by omega), Int.mul_one, Int.mul_one, Int.sub_self]
     exact Z2u rfl (by decide)
   rw [ew, ep]
   exact V0k q (J8b f0 f1 (by decide) (by omega)) (by show (-60 : Int) <= _; omega)
theorem Z8q {o h : Int} (o0 : 0 <= o) (o1 : o < A2 12) (h0 : -16 <= h) (h1 : h <= 16) : rootR v0 ⟨.plain, 0, o * o, h + h⟩ = ((⟨.plain, 0, o, h⟩, []) : Nm × List Str) := by
 have e2 : (h + h) / 2 = h := by omega
 unfold rootR
 by_cases z : o * o = 0
 . have oz : o = 0 := by
     rcases (show o = 0 \/ 0 < o by omega) with e | e
     . exact e
     . have := Int.mul_pos e e
       omega
   rw [if_pos z]
   show (B4u v0 0 ((h + h) / 2), ([] : List Str)) = _
   rw [e2, G2u (by omega) (by omega), oz]
 . rw [if_neg z, if_neg (show ¬ (0 : Int) = 1 by decide)]
   have op : 0 < o := by
     rcases (show o = 0 \/ 0 < o by omega) with e | e
     . exact absurd (by rw [e]; rfl) z
     . exact e
   have f0 : 0 < o * o := Int.mul_pos op op
   have f1 : o * o < A2 24 := by
     have a : o * o <= o * A2 12 := Int.mul_le_mul_of_nonneg_left (by omega) o0
     have b : o * A2 12 < A2 12 * A2 12 := Int.mul_lt_mul_of_pos_right o1 (C4 _)
     have c : A2 12 * A2 12 = A2 24 := by decide +kernel
     omega
   have fb := G8s f0 f1 (by decide)
   have lb : h <= G5 (o * o) (h + h) /\ G5 (o * o) (h + h) <= h + 12 := by
     unfold G5
     omega
   unfold setL
   show Y2 v0 0 (whQ (o * o) (h + h - 2 * v0.fin (G5 (o * o) (h + h)))) (B4q (o * o) (h + h - 2 * v0.fin (G5 (o * o) (h + h))) (whQ (o * o) (h + h - 2 * v0.fin (G5 (o * o) (h + h))))) (G5 (o * o) (h + h)) (v0.fin (G5 (o * o) (h + h))) ((h + h) / 2) = _
   have q : v0.fin (G5 (o * o) (h + h)) <= h := by
     unfold Cv.fin B5v
     show (if (-60 : Int) - 24 + 1 > G5 (o * o) (h + h) - 24 + 1 then (-60 : Int) - 24 + 1 else G5 (o * o) (h + h) - 24 + 1) <= h
     split <;> omega
   generalize v0.fin (G5 (o * o) (h + h)) = Q at q
   have t1 : A2 (-(h + h - 2 * Q)) = 1 := A2j (by omega)
   have t2 : A2 (h + h - 2 * Q) = A2 (h - Q) * A2 (h - Q) := by
     rw [<- U4 (by omega) (by omega)]
     congr 1
     omega
   have sq : o * A2 (h - Q) * (o * A2 (h - Q)) = o * o * A2 (h + h - 2 * Q) := by
     rw [t2]
     ac_rfl
   have tp := C4 (h - Q)
   have op2 := Int.mul_pos op tp
   have ew : whQ (o * o) (h + h - 2 * Q) = o * A2 (h - Q) := U8n (by omega) ⟨by omega, by rw [t1, Int.mul_one, sq]; omega, by
     rw [t1, Int.mul_one, <- sq]
     have e : (o * A2 (h - Q) + 1) * (o * A2 (h - Q) + 1) = o * A2 (h - Q) * (o * A2 (h - Q)) + 2 * (o * A2 (h - Q)) + 1 := by
       rw [Int.add_mul, Int.mul_add, Int.one_mul, Int.mul_one]
       omega
     omega⟩
   have ep : B4q (o * o) (h + h - 2 * Q) (o * A2 (h - Q)) = 0 := by
     unfold B4q
     rw [if_pos (by rw [t1, Int.mul_one, sq])]
   rw [ew, ep, e2]
   exact V0k q (J8b op o1 (by decide) (by omega)) (by show (-60 : Int) <= _; omega)
structure Made24 (P : Program) (w : World) (K : Frag) (mg : Str -> Option Value) (base : Heap) (CC CB fI : Addr) (fdI : FuncData) (d60 : Value) : Prop where
 mc : MakeC P w K mg base CC CB fI fdI
 b2 : Binds K fdI ["self", "room", "way", "least", "most"] [.none, d60]
 v2 : Vals [.non, .int 60] [.none, d60]
section
variable {P : Program} {w : World} {K : Frag} {mg : Str -> Option Value} {base : Heap}
def J9j (K : Frag) : Sp := fun vs H Q _ => ∃ a ns, vs = [.ref a] /\ (ns : List Int).length <= 63 /\ SqL K H a (ns.map V.int) /\ ∀ H', Q (.bl true) H'
theorem scLaw : FnScope ["_law_script", "_law_figures_here", "_law_power", "_law_own", "_law_height", "_law_context", "_law_one", "_law_found"] ["_law_script"] (A1 D2t) := scK
theorem Z3r {f f1 f2 f3 f4 f5 f6 f7 f8 fI CC CN CB CB' CT : Addr} {fd fd1 fd2 fd3 fd4 fd5 fd6 fd7 fd8 fdI : FuncData} {d60 : Value} (D : Def K mg "law" ["_law_script"] D2t f fd)
   (D_l_cell_at : Def K mg "_law_cell_at" ["_law_script", "_law_k"] C2c f1 fd1) (G_l_cell_at : FnOk P w K mg base (CX1 P w) 1 f1 fd1 ["_law_script", "_law_k"] (V0q K)) (D_l_drawn : Def K mg "_law_drawn" ["_law_cell"] A4y f2 fd2) (G_l_drawn : FnOk P w K mg base (CX1 P w) 3 f2 fd2 ["_law_cell"] G2x)
   (D_l_figures : Def K mg "_law_figures" ["_law_cell", "_law_most"] A2t f3 fd3) (G_l_figures : FnOk P w K mg base (CX1 P w) 2 f3 fd3 ["_law_cell", "_law_most"] C2y) (D_l_right : Def K mg "_law_right" ["_law_figures_here", "_law_power", "_law_room"] A4w f4 fd4) (G_l_right : FnOk P w K mg base (CX1 P w) 9 f4 fd4 ["_law_figures_here", "_law_power", "_law_room"] G2h)
   (D_plain : Def K mg "plain" ["sign", "figures", "power"] A7x f5 fd5) (G_plain : FnOk P w K mg base (CX1 P w) 3 f5 fd5 ["sign", "figures", "power"] (D2w K CN CB')) (D_root : Def K mg "root" ["context", "one"] C0f f6 fd6) (G_root : FnOk P w K mg base (CX1 P w) 7 f6 fd6 ["context", "one"] (G9c CN CC CT))
   (D_times : Def K mg "times" ["context", "one", "other"] B2v f7 fd7) (G_times : FnOk P w K mg base (CX1 P w) 8 f7 fd7 ["context", "one", "other"] (J8d CN CC CT)) (D_told : Def K mg "told" ["number"] C0g f8 fd8) (G_told : FnOk P w K mg base (CX1 P w) 2 f8 fd8 ["number"] (G9a K CN CB'))
   (M : Made24 P w K mg base CC CB fI fdI d60) (C : CtxC K mg CC) (MF : Has P w K mg base CC "flags" 1 ["self"] (A4v CC)) (O : Own mg) : FnOk P w K mg base (CX1 P w) 10 f fd ["_law_script"] (J9j K) := by
 refine D.F.okE scLaw (fun vs H Q E h => ?_) (fun X cdv A outer s H vs Q E hX hr hx h => ?_)
 . obtain ⟨a, ns, rfl, _⟩ := h
   rfl
 . subst hX
   obtain ⟨sc, ns, rfl, n63, hS, kk⟩ := h
   obtain ⟨ff, fdf, mf, gf, bf⟩ := MF
   refine ⟨_, (A4 (C6 (U8h (B9 D_l_drawn G_l_drawn hr hx (A0 (B9 D_l_cell_at G_l_cell_at hr hx (A0 (pv 0) (A0 A3 A5))) A5)) (G8b rfl (A4b (U5 (i := 1) scLaw.nd rfl (Or.inl rfl)) (A4b (U5 (i := 2) scLaw.nd rfl (Or.inl rfl)) D3s)))))
     (A4 (C6 (G2 (A2e (U8 (B9 D_l_right G_l_right hr hx (A0 (pv 1) (A0 (pv 2) (A0 (B3 J3 A3 (B3 V6 (B9 D_l_cell_at G_l_cell_at hr hx (A0 (pv 0) (A0 A3 A5))) A3)) A5)))))) (A6 (B0 A2b)) C8))
     (A4 (C6 (D0 (i := 3) scLaw.nd rfl (Or.inl rfl) (B9 D_l_figures G_l_figures hr hx (A0 (B9 D_l_cell_at G_l_cell_at hr hx (A0 (pv 0) (A0 A3 A5))) (A0 A3 A5)))))
     (A4 (C6 (D0 (i := 4) scLaw.nd rfl (Or.inl rfl) (B3 U1 (B3 V6 (B9 D_l_cell_at G_l_cell_at hr hx (A0 (pv 0) (A0 A3 A5))) A3) A3)))
     (A4 (C6 (D0 (i := 5) scLaw.nd rfl (Or.inl rfl) (B2h M.mc.m M.mc.g hr C.g M.b2 M.v2 hx (A0 A3 (A0 B5 A5)))))
     (A4 (C6 (D0 (i := 6) scLaw.nd rfl (Or.inl rfl) (B9 D_plain G_plain hr hx (A0 (B3 V6 (B3 G6 (B9 D_l_cell_at G_l_cell_at hr hx (A0 (pv 0) (A0 A3 A5))) A3) A3) (A0 (pv 3) (A0 (pv 4) A5))))))
     (A4 (C6 (D0 (i := 7) scLaw.nd rfl (Or.inl rfl) (B9 D_root G_root hr hx (A0 (pv 5) (A0 (B9 D_times G_times hr hx (A0 (pv 5) (A0 (pv 6) (A0 (pv 6) A5)))) A5)))))
     (A6 (B0 (A8p (G3 (C3e hr.units) (B9 D_told G_told hr hx (A0 (pv 7) A5)) (A3j (A0 B5 (A0 A3 (A0 (pv 3) (A0 (pv 4) A5))))) (B8 _)) (A5b (G3 (C3e hr.units) (A4r (pv 5) C.cl mf gf hr bf .nil hx) (J2 A5) (B8 _))))))))))))), ?_⟩
   have z4 : 4 <= sizeLine := D7 (by decide)
   refine ⟨fun σ' H' => ∃ t p : Int, Same H H' /\ 1 <= t /\ t < A2 12 /\ -30 <= p /\ p <= 30 /\ σ' = [some (.ref sc), some (.int t), some (.int p), none, none, none, none, none], ?_, ?_⟩
   . exact ⟨_, rfl, sc, ns, 0, rfl, hS, by decide, fun c0 => ⟨c0, rfl, fun t p q H' t1 t2 p0 p1 s' e => ⟨q, _, rfl, SqT.of e, rfl, _, _, rfl, _, _, rfl, rfl, t, p, s', t1, t2, p0, p1, rfl⟩⟩⟩
   rintro σ' H1 ⟨t, p, s1, t1, t2, p0, p1, rfl⟩
   refine ⟨fun σ' H' => Same H H' /\ σ' = [some (.ref sc), some (.int t), some (.int p), none, none, none, none, none], ?_, ?_⟩
   . refine ⟨_, rfl, _, rfl, _, rfl, sc, ns, 1, rfl, s1.seq hS, by decide, fun c1 => ⟨_, _, rfl, rfl, (by decide : (0 : Int) < 9), _, _, rfl, rfl, t, p, _, rfl, ?_, fun H' s' => ⟨_, rfl, J9 ⟨s1.trans s', rfl⟩⟩⟩⟩
     have e0 := Int.emod_nonneg c1 (show (9 : Int) ≠ 0 by decide)
     have e1 := Int.emod_lt_of_pos c1 (show (0 : Int) < 9 by decide)
     exact ⟨t1, t2, p0, p1, by omega, by omega⟩
   rintro σ' H2 ⟨s2, rfl⟩
   refine ⟨fun σ' H' => ∃ o : Int, H' = H2 /\ 0 <= o /\ o < A2 12 /\ σ' = [some (.ref sc), some (.int t), some (.int p), some (.int o), none, none, none, none], ?_, ?_⟩
   . exact ⟨_, rfl, sc, ns, 2, rfl, s2.seq hS, by decide, fun c2 => ⟨c2, 12, rfl, by decide, by decide, fun o o0 o1 => ⟨o, rfl, o0, o1, rfl⟩⟩⟩
   rintro σ' H3 ⟨o, rfl, o0, o1, rfl⟩
   refine ⟨fun σ' H' => ∃ ht : Int, H' = H3 /\ -16 <= ht /\ ht <= 16 /\ σ' = [some (.ref sc), some (.int t), some (.int p), some (.int o), some (.int ht), none, none, none], ?_, ?_⟩
   . refine ⟨_, rfl, sc, ns, 3, rfl, s2.seq hS, by decide, fun c3 => ⟨_, _, rfl, rfl, (by decide : (0 : Int) < 33), _, _, rfl, rfl, ?_⟩⟩
     have e0 := Int.emod_nonneg c3 (show (33 : Int) ≠ 0 by decide)
     have e1 := Int.emod_lt_of_pos c3 (show (0 : Int) < 33 by decide)
     exact ⟨_, rfl, by omega, by omega, rfl⟩
   rintro σ' H4 ⟨ht, rfl, ht0, ht1, rfl⟩
   refine ⟨fun σ' H' => ∃ c a b, Same H4 H' /\ CtxV CC H' c v0 a b [] [] /\ σ' = [some (.ref sc), some (.int t), some (.int p), some (.int o), some (.int ht), some (.ref c), none, none], ?_, ?_⟩
   . exact fun x dx n1 n2 ne => Z0g n1 n2 ne rfl (by decide) (by decide) (y := .halfEven) rfl (.inl ⟨rfl, rfl⟩) rfl (by decide) (by decide) fun a b H5 s5 hc => ⟨rfl, x, a, b, s5, hc, rfl⟩
   rintro σ' H5 ⟨c, a, b, s5, ct, rfl⟩
   have t60 : A2 12 <= 10 ^ 60 - 1 := by decide +kernel
   refine ⟨fun σ' H' => ∃ n sg, Same H5 H' /\ NumIs CN H' n ⟨.plain, sg, o, ht⟩ /\ 0 <= sg /\ sg <= 1 /\ σ' = [some (.ref sc), some (.int t), some (.int p), some (.int o), some (.int ht), some (.ref c), some (.ref n), none], ?_, ?_⟩
   . refine ⟨_, rfl, sc, ns, 3, rfl, (s2.trans s5).seq hS, by decide, fun c3 => ⟨_, _, rfl, rfl, dv (n := 33) (by decide) (by decide +kernel), _, _, rfl, rfl, (by decide : (0 : Int) < 2), _, rfl, _, rfl, _, _, _, rfl, .inl ⟨⟨_, rfl, ?_, ?_⟩, ⟨o, rfl, o0, by omega⟩, ⟨ht, rfl, by omega, by omega⟩, fun n H' nn s' num => ⟨n, _, s', num, ?_, ?_, rfl⟩⟩⟩⟩
     . exact Int.emod_nonneg _ (by decide)
     . have := Int.emod_lt_of_pos (c3 / 33) (show (0 : Int) < 2 by decide); omega
     . exact Int.emod_nonneg _ (by decide)
     . have := Int.emod_lt_of_pos (c3 / 33) (show (0 : Int) < 2 by decide); omega
   rintro σ' H6 ⟨n, sg, s6, num, sg0, sg1, rfl⟩
   have ct6 := ct.same s6
   have ox : (⟨.plain, sg, o, ht⟩ : Nm).Ok := ⟨sg0, sg1, o0, by show o <= 10 ^ 60 - 1; omega, by show -200 <= ht; omega, by show ht <= 200; omega⟩
   have u0 : C7g sg sg = 0 := by unfold C7g; rw [if_pos rfl]
   have f1 : o * o < A2 24 + 1 := by
     have a : o * o <= o * A2 12 := Int.mul_le_mul_of_nonneg_left (by omega) o0
     have b : o * A2 12 <= A2 12 * A2 12 := Int.mul_le_mul_of_nonneg_right (by omega) (Int.le_of_lt (C4 _))
     have c : A2 12 * A2 12 = A2 24 := by decide +kernel
     omega
   have t24 : A2 24 <= 10 ^ 60 - 1 := by decide +kernel
   have f0 : 0 <= o * o := Int.mul_nonneg o0 o0
   have oy : (⟨.plain, 0, o * o, ht + ht⟩ : Nm).Ok := ⟨by show (0 : Int) <= 0; decide, by show (0 : Int) <= 1; decide, f0, by show o * o <= 10 ^ 60 - 1; omega, by show -200 <= ht + ht; omega, by show ht + ht <= 200; omega⟩
   refine ⟨fun σ' H' => ∃ m a, CtxV CC H' c v0 a b [] [] /\ NumIs CN H' m ⟨.plain, 0, o, ht⟩ /\ σ' = [some (.ref sc), some (.int t), some (.int p), some (.int o), some (.int ht), some (.ref c), some (.ref n), some (.ref m)], ?_, ?_⟩
   . refine ⟨_, rfl, _, rfl, _, rfl, _, rfl, c, v0, a, b, [], [], n, n, _, _, rfl, ct6, Z0n, by decide, by decide +kernel, ⟨num, num⟩, rfl, rfl, ox, ox, ?_⟩
     show Ends2 CN CC CT H6 c v0 b [] [] (U2c v0 (C7g sg sg) (o * o) (ht + ht) (ht + ht)) _ _
     rw [u0, Z8t o0 o1 ht0 ht1]
     refine ⟨fun _ m1 a1 H7 x7 ct7 num7 => ?_, fun z hz => by cases hz⟩
     refine ⟨c, v0, a1, b, [], [], m1, _, rfl, ct7, Z0n, by decide, by decide +kernel, num7, rfl, oy, ?_⟩
     rw [Z8q o0 o1 ht0 ht1]
     exact ⟨fun _ m2 a2 H8 x8 ct8 num8 => ⟨m2, a2, ct8, num8, rfl⟩, fun z hz => by cases hz⟩
   rintro σ' H7 ⟨m, a7, ct7, num7, rfl⟩
   refine ⟨_, rfl, _, rfl, .inl ⟨m, _, _, _, _, rfl, num7, fun q nq => ⟨_, rfl, _, rfl, z4, fun q2 nq2 => ?_⟩⟩⟩
   have u1 := Same.upd (o := .tup (Nm.vs ⟨.plain, 0, o, ht⟩)) nq
   have u2 := Same.upd (o := .tup [.str "plain", .int 0, .int o, .int ht]) nq2
   refine ⟨C7b "plain" 0 o ht, C7b "plain" 0 o ht, rdD (u2 _ _ A7), rdD A7, shD _ _ _ (okK .plain), shD _ _ _ (okK .plain), _, rfl, ?_⟩
   rw [if_neg Bool.false_ne_true, eqD]
   have ct8 := ct7.same (u1.trans u2)
   obtain ⟨dx, ec⟩ := ct8.ins
   refine Z3 ⟨_, rfl, c, dx, _, rfl, ec, B4x _ _ _ _ _ _, c, 24, .halfEven, -60, 60, a7, b, _, _, rfl, ct8, fun l1 n1 => ⟨Nat.zero_le _, fun l2 n2 => ?_⟩⟩
   have v1 := Same.upd (o := .lst []) n1
   have v2 := Same.upd (o := .lst []) n2
   refine ⟨rdS [], rdS [], Y0 (v2 _ _ A7), Y0 A7, shS ⟨by simp, by simp⟩, shS ⟨by simp, by simp⟩, ?_⟩
   rw [if_neg Bool.false_ne_true, U1q]
   exact kk _
end
end TR
namespace TR
open PySem L2 PySem.W PyProof.Rows
theorem all_mk {l : OpenLaw} {w : World} {K : Frag} {h : Heap} {mg : Str -> Option Value} {fa CW W0 A4n W1 A4k W2 A4g W3 A4j W4 A4h W5 A4f W6 A4e W7 A4m CN D1r Z2 A0t Y6 A0r Y9 A0u Z0 A0n Y8 A0x Y7 A0p Y5 A0v Y4 A0w CC C4a J9r A2n A0q A8u A0s CQ D2a V4t A0d B2c CE C1 C2 C3 CR fX aS RO D1s V6u A0c B1v B1a D6r C6f G1j D8d G1k V3f B7g J5b J1b D7j B4d G1a C4e Y1u B9v A4d C6g B7w A8x C6q C4t D5k D5a B8n B6k C5q J7s B9u J8a D4k B8a D9u D7d G0u B4c C6n B8v J5s D7m J7t J1p C3q C4f C4h C6u V9d : Addr} (X : K.In h) (G : h.Ns mainGlobals mg) (hfa : mg "law" = some (.ref fa))
   {D4n D7h : Option Addr} {D6z : Array (Option Value)} {D9w G0a D9a D5e B5r D4u : Value}
   (A8t : nsIn K mainGlobals "product_of" = some (some (.ref B1a))) (A8z : K.lookup B1a = some ⟨D9w, D4n, .func (fnOf "product_of" "product_of" (A9 V5) (A8 V5) (A1 V5) .none G0a D9a D5e D7h B5r D4u), D6z⟩) (B0y : codeIn K B5r "product_of" = true) (A9y : keepIn K (.ref B1a) = true)
   {V7k V1v : Option Addr} {Y3s : Array (Option Value)} {Y0t V3x V6a Y2g G4q V3u : Value}
   (D7p : nsIn K mainGlobals "ten_to" = some (some (.ref D6r))) (D4j : K.lookup D6r = some ⟨Y0t, V7k, .func (fnOf "ten_to" "ten_to" (A9 Z7) (A8 Z7) (A1 Z7) .none V3x V6a Y2g V1v G4q V3u), Y3s⟩) (G0s : codeIn K G4q "ten_to" = true) (G0k : keepIn K (.ref D6r) = true)
   {U5f U6v : Option Addr} {U3u : Array (Option Value)} {U4s U4d U4u U5h D1p U2z : Value}
   (C6d : nsIn K mainGlobals "part_of" = some (some (.ref C6f))) (C4n : K.lookup C6f = some ⟨U4s, U5f, .func (fnOf "part_of" "part_of" (A9 A2w) (A8 A2w) (A1 A2w) .none U4d U4u U5h U6v D1p U2z), U3u⟩) (C5j : codeIn K D1p "part_of" = true) (C3h : keepIn K (.ref C6f) = true)
   {V5u V2t : Option Addr} {V5z : Array (Option Value)} {Y0d V5p V6f V9c G5k V5c : Value}
   (G0r : nsIn K mainGlobals "whole_lead" = some (some (.ref G1j))) (G1e : K.lookup G1j = some ⟨Y0d, V5u, .func (fnOf "whole_lead" "whole_lead" (A9 A3q) (A8 A3q) (A1 A3q) .none V5p V6f V9c V2t G5k V5c), V5z⟩) (D5c : codeIn K G5k "whole_lead" = true) (D4c : keepIn K (.ref G1j) = true)
   {Y3t V7m : Option Addr} {V4n : Array (Option Value)} {V7g V2w Y1t V8j G4v V2n : Value}
   (D7f : nsIn K mainGlobals "whole_root" = some (some (.ref D8d))) (D6n : K.lookup D8d = some ⟨V7g, Y3t, .func (fnOf "whole_root" "whole_root" (A9 A8b) (A8 A8b) (A1 A8b) .none V2w Y1t V8j V7m G4v V2n), V4n⟩) (D6d : codeIn K G4v "whole_root" = true) (D3x : keepIn K (.ref D8d) = true)
   {V5x V2z : Option Addr} {V2r : Array (Option Value)} {Y0q Y0z Y1a V4s G6a Y0m : Value}
   (G0y : nsIn K mainGlobals "plain" = some (some (.ref G1k))) (G0g : K.lookup G1k = some ⟨Y0q, V5x, .func (fnOf "plain" "plain" (A9 A7x) (A8 A7x) (A1 A7x) .none Y0z Y1a V4s V2z G6a Y0m), V2r⟩) (G1m : codeIn K G6a "plain" = true) (D6b : keepIn K (.ref G1k) = true)
   {Z4x Z5d : Option Addr} {Z5t : Array (Option Value)} {Z6d Z5u Z5f Z4b V1k Z5v : Value}
   (V8a : nsIn K mainGlobals "end" = some (some (.ref V3f))) (V5g : K.lookup V3f = some ⟨Z6d, Z4x, .func (fnOf "end" "end" (A9 G3f) (A8 G3f) (A1 G3f) .none Z5u Z5f Z4b Z5d V1k Z5v), Z5t⟩) (V4c : codeIn K V1k "end" = true) (Y2j : keepIn K (.ref V3f) = true)
   {J0j J4w : Option Addr} {J3g : Array (Option Value)} {J0n J2f J5w J0f C6x J4z : Value}
   (B9h : nsIn K mainGlobals "nothing" = some (some (.ref B7g))) (B7k : K.lookup B7g = some ⟨J0n, J0j, .func (fnOf "nothing" "nothing" (A9 Y1) (A8 Y1) (A1 Y1) .none J2f J5w J0f J4w C6x J4z), J3g⟩) (B9z : codeIn K C6x "nothing" = true) (B7z : keepIn K (.ref B7g) = true)
   {Y8g Y9u : Option Addr} {Y7z : Array (Option Value)} {Y8v Y7x Z0b Y8t U0b Z0c : Value}
   (J2j : nsIn K mainGlobals "told" = some (some (.ref J5b))) (J2w : K.lookup J5b = some ⟨Y8v, Y8g, .func (fnOf "told" "told" (A9 C0g) (A8 C0g) (A1 C0g) .none Y7x Z0b Y8t Y9u U0b Z0c), Y7z⟩) (J0m : codeIn K U0b "told" = true) (J6s : keepIn K (.ref J5b) = true)
   {Y9f Y9g : Option Addr} {Y9e : Array (Option Value)} {Y9w Y7y Y9b Y9d U0c Y9c : Value}
   (J4j : nsIn K mainGlobals "lead_of" = some (some (.ref J1b))) (J4x : K.lookup J1b = some ⟨Y9w, Y9f, .func (fnOf "lead_of" "lead_of" (A9 C2g) (A8 C2g) (A1 C2g) .none Y7y Y9b Y9d Y9g U0c Y9c), Y9e⟩) (J7d : codeIn K U0c "lead_of" = true) (J2c : keepIn K (.ref J1b) = true)
   {V4a Y4d : Option Addr} {Y3q : Array (Option Value)} {V3z V6c V2e Y0h G5s V9j : Value}
   (D9h : nsIn K mainGlobals "need_number" = some (some (.ref D7j))) (D7e : K.lookup D7j = some ⟨V3z, V4a, .func (fnOf "need_number" "need_number" (A9 A3n) (A8 A3n) (A1 A3n) .none V6c V2e Y0h Y4d G5s V9j), Y3q⟩) (D8e : codeIn K G5s "need_number" = true) (G1f : keepIn K (.ref D7j) = true)
   {G6u G4p : Option Addr} {G4y : Array (Option Value)} {G5v G5a G7j G4n C0k G4f : Value}
   (B3g : nsIn K mainGlobals "need_numbers" = some (some (.ref B4d))) (B4e : K.lookup B4d = some ⟨G5v, G6u, .func (fnOf "need_numbers" "need_numbers" (A9 A5c) (A8 A5c) (A1 A5c) .none G5a G7j G4n G4p C0k G4f), G4y⟩) (B3s : codeIn K C0k "need_numbers" = true) (B4b : keepIn K (.ref B4d) = true)
   {V8v Y2e : Option Addr} {V6q : Array (Option Value)} {V3n V6v V4f Y2v G7a V8w : Value}
   (D7g : nsIn K mainGlobals "some_of_kind" = some (some (.ref G1a))) (D6u : K.lookup G1a = some ⟨V3n, V8v, .func (fnOf "some_of_kind" "some_of_kind" (A9 A5j) (A8 A5j) (A1 A5j) .none V6v V4f Y2v Y2e G7a V8w), V6q⟩) (D9b : codeIn K G7a "some_of_kind" = true) (D5p : keepIn K (.ref G1a) = true)
   {U3p U6x : Option Addr} {U5x : Array (Option Value)} {U3b U5r U6y U3t D1u U6a : Value}
   (C6t : nsIn K mainGlobals "unlike_sign" = some (some (.ref C4e))) (C5e : K.lookup C4e = some ⟨U3b, U3p, .func (fnOf "unlike_sign" "unlike_sign" (A9 A4t) (A8 A4t) (A1 A4t) .none U5r U6y U3t U6x D1u U6a), U5x⟩) (C5c : codeIn K D1u "unlike_sign" = true) (C4c : keepIn K (.ref C4e) = true)
   {Z3w Z5e : Option Addr} {Z4f : Array (Option Value)} {Z4m Z4k Z4u Z4z V2p Z3x : Value}
   (V7d : nsIn K mainGlobals "is_between" = some (some (.ref Y1u))) (Y3m : K.lookup Y1u = some ⟨Z4m, Z3w, .func (fnOf "is_between" "is_between" (A9 C7e) (A8 C7e) (A1 C7e) .none Z4k Z4u Z4z Z5e V2p Z3x), Z4f⟩) (V5b : codeIn K V2p "is_between" = true) (V2m : keepIn K (.ref Y1u) = true)
   {J4t J5a : Option Addr} {J1d : Array (Option Value)} {J4q J4c J0q J3b C5b J6f : Value}
   (B7m : nsIn K mainGlobals "need_between" = some (some (.ref B9v))) (B7u : K.lookup B9v = some ⟨J4q, J4t, .func (fnOf "need_between" "need_between" (A9 A0h) (A8 A0h) (A1 A0h) .none J4c J0q J3b J5a C5b J6f), J1d⟩) (B6u : codeIn K C5b "need_between" = true) (B8x : keepIn K (.ref B9v) = true)
   {J3d J3j : Option Addr} {J2v : Array (Option Value)} {J7x J1t J2k J4a C3t J4f : Value}
   (B9k : nsIn K mainGlobals "settled" = some (some (.ref A4d))) (B8j : K.lookup A4d = some ⟨J7x, J3d, .func (fnOf "settled" "settled" (A9 A0j) (A8 A0j) (A1 A0j) .none J1t J2k J4a J3j C3t J4f), J2v⟩) (B8m : codeIn K C3t "settled" = true) (B8c : keepIn K (.ref A4d) = true)
   {U5c U5w : Option Addr} {U4z : Array (Option Value)} {U6t U3j U7h U6b D2d U5k : Value}
   (C6m : nsIn K mainGlobals "finest_power" = some (some (.ref C6g))) (C3r : K.lookup C6g = some ⟨U6t, U5c, .func (fnOf "finest_power" "finest_power" (A9 A2s) (A8 A2s) (A1 A2s) .none U3j U7h U6b U5w D2d U5k), U4z⟩) (C3z : codeIn K D2d "finest_power" = true) (C5y : keepIn K (.ref C6g) = true)
   {J6x G9z : Option Addr} {J7g : Array (Option Value)} {J1u J4p G9q J6r C6h J6v : Value}
   (B8k : nsIn K mainGlobals "nearest_to" = some (some (.ref B7w))) (B7a : K.lookup B7w = some ⟨J1u, J6x, .func (fnOf "nearest_to" "nearest_to" (A9 A0k) (A8 A0k) (A1 A0k) .none J4p G9q J6r G9z C6h J6v), J7g⟩) (B7q : codeIn K C6h "nearest_to" = true) (B7y : keepIn K (.ref B7w) = true)
   {D8r G1u : Option Addr} {D4v : Array (Option Value)} {G0p D9f G2d D4e B5m G0x : Value}
   (A8v : nsIn K mainGlobals "neighbour" = some (some (.ref A8x))) (A9g : K.lookup A8x = some ⟨G0p, D8r, .func (fnOf "neighbour" "neighbour" (A9 U7) (A8 U7) (A1 U7) .none D9f G2d D4e G1u B5m G0x), D4v⟩) (A9q : codeIn K B5m "neighbour" = true) (A8r : keepIn K (.ref A8x) = true)
   {U7g U6q : Option Addr} {U3z : Array (Option Value)} {U5p U3m U3s U7a D1y U3w : Value}
   (C5g : nsIn K mainGlobals "within_room" = some (some (.ref C6q))) (C5s : K.lookup C6q = some ⟨U5p, U7g, .func (fnOf "within_room" "within_room" (A9 A2v) (A8 A2v) (A1 A2v) .none U3m U3s U7a U6q D1y U3w), U3z⟩) (C3u : codeIn K D1y "within_room" = true) (C6j : keepIn K (.ref C6q) = true)
   {U5e U4h : Option Addr} {U6h : Array (Option Value)} {U5d U5a U5q U5z D1q U4w : Value}
   (C3y : nsIn K mainGlobals "is_beyond" = some (some (.ref C4t))) (C3v : K.lookup C4t = some ⟨U5d, U5e, .func (fnOf "is_beyond" "is_beyond" (A9 A2r) (A8 A2r) (A1 A2r) .none U5a U5q U5z U4h D1q U4w), U6h⟩) (C6k : codeIn K D1q "is_beyond" = true) (C4q : keepIn K (.ref C4t) = true)
   {V4y V2a : Option Addr} {V8b : Array (Option Value)} {V3a V6n V3v V8d G4r Y3y : Value}
   (G1g : nsIn K mainGlobals "burst" = some (some (.ref D5k))) (D8b : K.lookup D5k = some ⟨V3a, V4y, .func (fnOf "burst" "burst" (A9 A8f) (A8 A8f) (A1 A8f) .none V6n V3v V8d V2a G4r Y3y), V8b⟩) (D6w : codeIn K G4r "burst" = true) (D8y : keepIn K (.ref D5k) = true)
   {Y2s Y1w : Option Addr} {V5w : Array (Option Value)} {V3k V6p V2f V1z G5n Y2r : Value}
   (D7v : nsIn K mainGlobals "nines" = some (some (.ref D5a))) (D5j : K.lookup D5a = some ⟨V3k, Y2s, .func (fnOf "nines" "nines" (A9 A7z) (A8 A7z) (A1 A7z) .none V6p V2f V1z Y1w G5n Y2r), V5w⟩) (G1s : codeIn K G5n "nines" = true) (D6a : keepIn K (.ref D5a) = true)
   {J2x J0r : Option Addr} {J1f : Array (Option Value)} {J1n J2n J6j J7e C5v J0d : Value}
   (B8p : nsIn K mainGlobals "signals_of_rest" = some (some (.ref B8n))) (B6s : K.lookup B8n = some ⟨J1n, J2x, .func (fnOf "signals_of_rest" "signals_of_rest" (A9 A2d) (A8 A2d) (A1 A2d) .none J2n J6j J7e J0r C5v J0d), J1f⟩) (B6r : codeIn K C5v "signals_of_rest" = true) (B7h : keepIn K (.ref B8n) = true)
   {J5u J1v : Option Addr} {J5c : Array (Option Value)} {J7j J6c J5g J5v C6w J0u : Value}
   (B8u : nsIn K mainGlobals "signals_of_lead" = some (some (.ref B6k))) (B8z : K.lookup B6k = some ⟨J7j, J5u, .func (fnOf "signals_of_lead" "signals_of_lead" (A9 A1z) (A8 A1z) (A1 A1z) .none J6c J5g J5v J1v C6w J0u), J5c⟩) (B8h : codeIn K C6w "signals_of_lead" = true) (B6w : keepIn K (.ref B6k) = true)
   {U7k U4q : Option Addr} {U3d : Array (Option Value)} {U5n U3g U3h U6z D2b U3k : Value}
   (C4j : nsIn K mainGlobals "nought" = some (some (.ref C5q))) (C4s : K.lookup C5q = some ⟨U5n, U7k, .func (fnOf "nought" "nought" (A9 A1d) (A8 A1d) (A1 A1d) .none U3g U3h U6z U4q D2b U3k), U3d⟩) (C4p : codeIn K D2b "nought" = true) (C4x : keepIn K (.ref C5q) = true)
   {Y9s Y8p : Option Addr} {Y9p : Array (Option Value)} {Y8h Y7r Y7t Z0d J9t Y7w : Value}
   (J1g : nsIn K mainGlobals "void" = some (some (.ref J7s))) (J2y : K.lookup J7s = some ⟨Y8h, Y9s, .func (fnOf "void" "void" (A9 C2u) (A8 C2u) (A1 C2u) .none Y7r Y7t Z0d Y8p J9t Y7w), Y9p⟩) (J7c : codeIn K J9t "void" = true) (J3p : keepIn K (.ref J7s) = true)
   {J0t J2q : Option Addr} {J3n : Array (Option Value)} {J1x J2b J3a J5m C4m G9s : Value}
   (B8y : nsIn K mainGlobals "rounded" = some (some (.ref B9u))) (B9s : K.lookup B9u = some ⟨J1x, J0t, .func (fnOf "rounded" "rounded" (A9 A2f) (A8 A2f) (A1 A2f) .none J2b J3a J5m J2q C4m G9s), J3n⟩) (B9y : codeIn K C4m "rounded" = true) (B7j : keepIn K (.ref B9u) = true)
   {Y8s Y7s : Option Addr} {Y9q : Array (Option Value)} {Y8w Y8b Y8j Y8a J9s Y8m : Value}
   (J4s : nsIn K mainGlobals "root" = some (some (.ref J8a))) (J2d : K.lookup J8a = some ⟨Y8w, Y8s, .func (fnOf "root" "root" (A9 C0f) (A8 C0f) (A1 C0f) .none Y8b Y8j Y8a Y7s J9s Y8m), Y9q⟩) (J4u : codeIn K J9s "root" = true) (J1s : keepIn K (.ref J8a) = true)
   {Y1e V9m : Option Addr} {V6t : Array (Option Value)} {V9w V9u V3s V8f G6j Y3r : Value}
   (D9y : nsIn K mainGlobals "way_of" = some (some (.ref D4k))) (D4d : K.lookup D4k = some ⟨V9w, Y1e, .func (fnOf "way_of" "way_of" (A9 A8n) (A8 A8n) (A1 A8n) .none V9u V3s V8f V9m G6j Y3r), V6t⟩) (D6f : codeIn K G6j "way_of" = true) (D7c : keepIn K (.ref D4k) = true)
   {J7q J6u : Option Addr} {J5n : Array (Option Value)} {J7p J6e J2e G9u C5z G9r : Value}
   (B7f : nsIn K mainGlobals "bounded" = some (some (.ref B8a))) (B7e : K.lookup B8a = some ⟨J7p, J7q, .func (fnOf "bounded" "bounded" (A9 A2c) (A8 A2c) (A1 A2c) .none J6e J2e G9u J6u C5z G9r), J5n⟩) (B7d : codeIn K C5z "bounded" = true) (B6y : keepIn K (.ref B8a) = true)
   {V8e V9f : Option Addr} {Y4j : Array (Option Value)} {V6h V8r V5r V4q G6y Y0v : Value}
   (D7s : nsIn K mainGlobals "need_signals" = some (some (.ref D9u))) (D7n : K.lookup D9u = some ⟨V6h, V8e, .func (fnOf "need_signals" "need_signals" (A9 B2u) (A8 B2u) (A1 B2u) .none V8r V5r V4q V9f G6y Y0v), Y4j⟩) (D9j : codeIn K G6y "need_signals" = true) (D8j : keepIn K (.ref D9u) = true)
   {Y1y Y3z : Option Addr} {V6k : Array (Option Value)} {V4p V5k V5m V6e G4u Y0e : Value}
   (D4b : nsIn K mainGlobals "in_order" = some (some (.ref D7d))) (D9e : K.lookup D7d = some ⟨V4p, Y1y, .func (fnOf "in_order" "in_order" (A9 B2w) (A8 B2w) (A1 B2w) .none V5k V5m V6e Y3z G4u Y0e), V6k⟩) (D8t : codeIn K G4u "in_order" = true) (D8m : keepIn K (.ref D7d) = true)
   {V6j Y3n : Option Addr} {V1w : Array (Option Value)} {Y4e V4v Y2f V5s G6h Y3k : Value}
   (D6p : nsIn K mainGlobals "times" = some (some (.ref G0u))) (D7x : K.lookup G0u = some ⟨Y4e, V6j, .func (fnOf "times" "times" (A9 B2v) (A8 B2v) (A1 B2v) .none V4v Y2f V5s Y3n G6h Y3k), V1w⟩) (D4t : codeIn K G6h "times" = true) (D4q : keepIn K (.ref G0u) = true)
   {G6x G6z : Option Addr} {G5z : Array (Option Value)} {G4m G4h G5y G6g C0j G4s : Value}
   (B3f : nsIn K mainGlobals "is_nought" = some (some (.ref B4c))) (B3e : K.lookup B4c = some ⟨G4m, G6x, .func (fnOf "is_nought" "is_nought" (A9 A4a) (A8 A4a) (A1 A4a) .none G4h G5y G6g G6z C0j G4s), G5z⟩) (B3d : codeIn K C0j "is_nought" = true) (B3b : keepIn K (.ref B4c) = true)
   {U3r U4k : Option Addr} {U6w : Array (Option Value)} {U4m U4c U2y U7c D1t U7e : Value}
   (C6r : nsIn K mainGlobals "is_end_by_nought" = some (some (.ref C6n))) (C5u : K.lookup C6n = some ⟨U4m, U3r, .func (fnOf "is_end_by_nought" "is_end_by_nought" (A9 A5e) (A8 A5e) (A1 A5e) .none U4c U2y U7c U4k D1t U7e), U6w⟩) (C4w : codeIn K D1t "is_end_by_nought" = true) (C6v : keepIn K (.ref C6n) = true)
   {J6z J3c : Option Addr} {J7z : Array (Option Value)} {J5z J0k J6t J7b C5r J1j : Value}
   (B9b : nsIn K mainGlobals "product" = some (some (.ref B8v))) (B9j : K.lookup B8v = some ⟨J5z, J6z, .func (fnOf "product" "product" (A9 A1s) (A8 A1s) (A1 A1s) .none J0k J6t J7b J3c C5r J1j), J7z⟩) (B6j : codeIn K C5r "product" = true) (B7b : keepIn K (.ref B8v) = true)
   {Y7u Y8k : Option Addr} {Y9m : Array (Option Value)} {Y8q Y9x Y8u Y9n J9w Y9y : Value}
   (J4n : nsIn K mainGlobals "_law_cell_at" = some (some (.ref J5s))) (J7h : K.lookup J5s = some ⟨Y8q, Y7u, .func (fnOf "_law_cell_at" "_law_cell_at" (A9 C2c) (A8 C2c) (A1 C2c) .none Y9x Y8u Y9n Y8k J9w Y9y), Y9m⟩) (J1y : codeIn K J9w "_law_cell_at" = true) (J6g : keepIn K (.ref J5s) = true)
   {Y4b Y1x : Option Addr} {V7e : Array (Option Value)} {V8h Y0r V2g Y2p G7k V7u : Value}
   (D5w : nsIn K mainGlobals "_law_mixed" = some (some (.ref D7m))) (D5t : K.lookup D7m = some ⟨V8h, Y4b, .func (fnOf "_law_mixed" "_law_mixed" (A9 A8g) (A8 A8g) (A1 A8g) .none Y0r V2g Y2p Y1x G7k V7u), V7e⟩) (D6q : codeIn K G7k "_law_mixed" = true) (D9v : keepIn K (.ref D7m) = true)
   {Y9r Y8f : Option Addr} {Y9t : Array (Option Value)} {Y8x Y8y Y7v Y9j J9v Y8c : Value}
   (J6q : nsIn K mainGlobals "_law_ten" = some (some (.ref J7t))) (J4r : K.lookup J7t = some ⟨Y8x, Y9r, .func (fnOf "_law_ten" "_law_ten" (A9 B4s) (A8 B4s) (A1 B4s) .none Y8y Y7v Y9j Y8f J9v Y8c), Y9t⟩) (J4d : codeIn K J9v "_law_ten" = true) (J7n : keepIn K (.ref J7t) = true)
   {Y9h Y8d : Option Addr} {Y8z : Array (Option Value)} {Y9z Y8e Y9k Y8r J9u Y9a : Value}
   (J3v : nsIn K mainGlobals "_law_figures" = some (some (.ref J1p))) (J6d : K.lookup J1p = some ⟨Y9z, Y9h, .func (fnOf "_law_figures" "_law_figures" (A9 A2t) (A8 A2t) (A1 A2t) .none Y8e Y9k Y8r Y8d J9u Y9a), Y8z⟩) (J5t : codeIn K J9u "_law_figures" = true) (J6b : keepIn K (.ref J1p) = true)
   {U6k U6p : Option Addr} {U4v : Array (Option Value)} {U3x U6s U4e U5g D1v U3c : Value}
   (C3w : nsIn K mainGlobals "_law_drawn" = some (some (.ref C3q))) (C4z : K.lookup C3q = some ⟨U3x, U6k, .func (fnOf "_law_drawn" "_law_drawn" (A9 A4y) (A8 A4y) (A1 A4y) .none U6s U4e U5g U6p D1v U3c), U4v⟩) (C3g : codeIn K D1v "_law_drawn" = true) (C4y : keepIn K (.ref C3q) = true)
   {U4b U6n : Option Addr} {U3y : Array (Option Value)} {U4x U3q U6m U3e D1z U5v : Value}
   (C6y : nsIn K mainGlobals "_law_roots" = some (some (.ref C4f))) (C3x : K.lookup C4f = some ⟨U4x, U4b, .func (fnOf "_law_roots" "_law_roots" (A9 A4q) (A8 A4q) (A1 A4q) .none U3q U6m U3e U6n D1z U5v), U3y⟩) (C5h : codeIn K D1z "_law_roots" = true) (C6p : keepIn K (.ref C4f) = true)
   {U4t U4f : Option Addr} {U6g : Array (Option Value)} {U3f U3n U6f U5u D2c U3a : Value}
   (C3k : nsIn K mainGlobals "_law_good_kinds" = some (some (.ref C4h))) (C5t : K.lookup C4h = some ⟨U3f, U4t, .func (fnOf "_law_good_kinds" "_law_good_kinds" (A9 A5f) (A8 A5f) (A1 A5f) .none U3n U6f U5u U4f D2c U3a), U6g⟩) (C6b : codeIn K D2c "_law_good_kinds" = true) (C4v : keepIn K (.ref C4h) = true)
   {U7d U4y : Option Addr} {U5y : Array (Option Value)} {U6c U4r U4p U3v D1w U6e : Value}
   (C5f : nsIn K mainGlobals "_law_right" = some (some (.ref C6u))) (C3p : K.lookup C6u = some ⟨U6c, U7d, .func (fnOf "_law_right" "_law_right" (A9 A4w) (A8 A4w) (A1 A4w) .none U4r U4p U3v U4y D1w U6e), U5y⟩) (C5a : codeIn K D1w "_law_right" = true) (C6c : keepIn K (.ref C6u) = true)
   {Z5g V2b : Option Addr} {Z6b : Array (Option Value)} {Z5j Y4h Y3v V4k J1c V6y : Value}
   (U0a : nsIn K mainGlobals "law" = some (some (.ref V9d))) (Y3h : K.lookup V9d = some ⟨Z5j, Z5g, .func (fnOf "law" "law" (A9 D2t) (A8 D2t) (A1 D2t) .none Y4h Y3v V4k V2b J1c V6y), Z6b⟩) (Y2b : codeIn K J1c "law" = true) (V9s : keepIn K (.ref V9d) = true)
   (A7e : nsIn K mainGlobals "isinstance" = some none)
   (V6x : nsIn K mainGlobals "int" = some none)
   (J6m : nsIn K mainGlobals "bool" = some none)
   (V9t : nsIn K mainGlobals "str" = some none)
   (J4h : nsIn K mainGlobals "list" = some none)
   (G1p : nsIn K mainGlobals "tuple" = some none)
   (J7k : nsIn K mainGlobals "dict" = some none)
   (Y2h : nsIn K mainGlobals "len" = some none)
   (G2e : nsIn K mainGlobals "range" = some none)
   (V8s : nsIn K mainGlobals "min" = some none)
   (Y3p : nsIn K mainGlobals "max" = some none)
   (Y0s : nsIn K mainGlobals "abs" = some none)
   (V7v : nsIn K mainGlobals "any" = some none)
   (V5f : nsIn K mainGlobals "all" = some none)
   (V3m : nsIn K mainGlobals "sum" = some none)
   (J5h : nsIn K mainGlobals "repr" = some none)
   (A9u : nsIn K mainGlobals "enumerate" = some none)
   (B3v : nsIn K mainGlobals "reversed" = some none)
   (V6g : nsIn K mainGlobals "zip" = some none)
   (C5k : nsIn K mainGlobals "sorted" = some none)
   (C5d : nsIn K mainGlobals "divmod" = some none)
   (Y0b : nsIn K mainGlobals "set" = some none)
   (A6s : nsIn K mainGlobals "ValueError" = some none)
   (B4a : kitOne K (.type "int") (.type "int") = some true)
   (A9r : kitOne K (.type "int") (.type "bool") = some false)
   (B3x : kitOne K (.type "int") (.type "str") = some false)
   (A9d : kitOne K (.type "int") (.type "list") = some false)
   (A6u : kitOne K (.type "int") (.type "tuple") = some false)
   (B1d : kitOne K (.type "int") (.type "dict") = some false)
   (A8y : kitOne K (.type "bool") (.type "int") = some true)
   (A5s : kitOne K (.type "bool") (.type "bool") = some true)
   (B0d : kitOne K (.type "bool") (.type "str") = some false)
   (A6y : kitOne K (.type "bool") (.type "list") = some false)
   (A3w : kitOne K (.type "bool") (.type "tuple") = some false)
   (A6n : kitOne K (.type "bool") (.type "dict") = some false)
   (B3m : kitOne K (.type "str") (.type "int") = some false)
   (B0p : kitOne K (.type "str") (.type "bool") = some false)
   (B4f : kitOne K (.type "str") (.type "str") = some true)
   (A8w : kitOne K (.type "str") (.type "list") = some false)
   (A6e : kitOne K (.type "str") (.type "tuple") = some false)
   (A9e : kitOne K (.type "str") (.type "dict") = some false)
   (B0w : kitOne K (.type "list") (.type "int") = some false)
   (A7j : kitOne K (.type "list") (.type "bool") = some false)
   (A9w : kitOne K (.type "list") (.type "str") = some false)
   (A6r : kitOne K (.type "list") (.type "list") = some true)
   (A3r : kitOne K (.type "list") (.type "tuple") = some false)
   (A6j : kitOne K (.type "list") (.type "dict") = some false)
   (A6a : kitOne K (.type "tuple") (.type "int") = some false)
   (A3t : kitOne K (.type "tuple") (.type "bool") = some false)
   (A5w : kitOne K (.type "tuple") (.type "str") = some false)
   (A3u : kitOne K (.type "tuple") (.type "list") = some false)
   (A2m : kitOne K (.type "tuple") (.type "tuple") = some true)
   (A3s : kitOne K (.type "tuple") (.type "dict") = some false)
   (B0a : kitOne K (.type "dict") (.type "int") = some false)
   (A7q : kitOne K (.type "dict") (.type "bool") = some false)
   (A9h : kitOne K (.type "dict") (.type "str") = some false)
   (A6x : kitOne K (.type "dict") (.type "list") = some false)
   (A3v : kitOne K (.type "dict") (.type "tuple") = some false)
   (A6b : kitOne K (.type "dict") (.type "dict") = some true)
   (A1b : kitOne K (.type "NoneType") (.type "int") = some false)
   (A0f : kitOne K (.type "NoneType") (.type "bool") = some false)
   (A1a : kitOne K (.type "NoneType") (.type "str") = some false)
   (A0e : kitOne K (.type "NoneType") (.type "list") = some false)
   (Z1 : kitOne K (.type "NoneType") (.type "tuple") = some false)
   (A0b : kitOne K (.type "NoneType") (.type "dict") = some false)
   (sn : specialIn K (.builtin "object.__class__") "__get__" = some (some (.builtin "getset_descriptor.__get__")))
   (tk : takesIn K (.builtin "object.__class__") = some true)
   (a_CW : nsIn K mainGlobals "Way" = some (some (.ref CW)))
   (Z5q : nsIn K mainGlobals "Down" = some (some (.ref W0)))
   (V6b : plainGet K W0 Str.empty = true)
   (V7n : hasDictIn K W0 = true)
   (V7h : plainOver K W0 = true)
   (Y3u : findIn K (.ref W0) "__setattr__" = some (some (.builtin "object.__setattr__")))
   (V5e : makesIn K W0 = true)
   (Y0p : keepIn K (.ref W0) = true)
   (V6z : findIn K (.ref W0) "__class__" = some (some (.builtin "object.__class__")))
   (V5y : mroIn K W0 (.type "object") = some true)
   (Y4f : findIn K (.ref W0) "__init__" = some (some (.builtin "object.__init__")))
   (V5d : kitOne K (.ref W0) (.ref CW) = some true)
   (B8q : findIn K (.ref W0) "name" = some (some (.ref A4n)))
   (B9p : isFn K (.ref A4n) = true)
   {J7u J0c : Option Addr} {J2m : Array (Option Value)} {J3h J6p G9t J5x C5w J2t : Value} (B8w : K.lookup A4n = some ⟨J3h, J7u, .func (fnOf "name" "Down.name" (A9 sN0) (A8 sN0) (A1 sN0) .none J6p G9t J5x J0c C5w J2t), J2m⟩)
   (B9f : codeIn K C5w "Down.name" = true)
   (B1w : keepIn K (.ref A4n) = true)
   (Z5w : nsIn K mainGlobals "Up" = some (some (.ref W1)))
   (V3r : plainGet K W1 Str.empty = true)
   (V4r : hasDictIn K W1 = true)
   (Y1c : plainOver K W1 = true)
   (V3c : findIn K (.ref W1) "__setattr__" = some (some (.builtin "object.__setattr__")))
   (V1t : makesIn K W1 = true)
   (V1x : keepIn K (.ref W1) = true)
   (V5v : findIn K (.ref W1) "__class__" = some (some (.builtin "object.__class__")))
   (V3h : mroIn K W1 (.type "object") = some true)
   (Y2y : findIn K (.ref W1) "__init__" = some (some (.builtin "object.__init__")))
   (V1j : kitOne K (.ref W1) (.ref CW) = some true)
   (B9e : findIn K (.ref W1) "name" = some (some (.ref A4k)))
   (B7r : isFn K (.ref A4k) = true)
   {J7m J3t : Option Addr} {J4y : Array (Option Value)} {J0h J3u J4b J5y C4d J7r : Value} (B9r : K.lookup A4k = some ⟨J0h, J7m, .func (fnOf "name" "Up.name" (A9 sN1) (A8 sN1) (A1 sN1) .none J3u J4b J5y J3t C4d J7r), J4y⟩)
   (B8d : codeIn K C4d "Up.name" = true)
   (B1y : keepIn K (.ref A4k) = true)
   (Z5y : nsIn K mainGlobals "Floor" = some (some (.ref W2)))
   (Y1b : plainGet K W2 Str.empty = true)
   (V2d : hasDictIn K W2 = true)
   (Y0n : plainOver K W2 = true)
   (V9r : findIn K (.ref W2) "__setattr__" = some (some (.builtin "object.__setattr__")))
   (Y1q : makesIn K W2 = true)
   (Y3c : keepIn K (.ref W2) = true)
   (V1u : findIn K (.ref W2) "__class__" = some (some (.builtin "object.__class__")))
   (Y3b : mroIn K W2 (.type "object") = some true)
   (V6r : findIn K (.ref W2) "__init__" = some (some (.builtin "object.__init__")))
   (V1y : kitOne K (.ref W2) (.ref CW) = some true)
   (B8b : findIn K (.ref W2) "name" = some (some (.ref A4g)))
   (B6n : isFn K (.ref A4g) = true)
   {J5r J3k : Option Addr} {J6y : Array (Option Value)} {J0g J4v J7y G9w C3j J7a : Value} (B9m : K.lookup A4g = some ⟨J0g, J5r, .func (fnOf "name" "Floor.name" (A9 sN2) (A8 sN2) (A1 sN2) .none J4v J7y G9w J3k C3j J7a), J6y⟩)
   (B7c : codeIn K C3j "Floor.name" = true)
   (B2a : keepIn K (.ref A4g) = true)
   (Z3u : nsIn K mainGlobals "Ceiling" = some (some (.ref W3)))
   (V8q : plainGet K W3 Str.empty = true)
   (V3g : hasDictIn K W3 = true)
   (Y3j : plainOver K W3 = true)
   (Y2a : findIn K (.ref W3) "__setattr__" = some (some (.builtin "object.__setattr__")))
   (Y4g : makesIn K W3 = true)
   (Y1z : keepIn K (.ref W3) = true)
   (V4h : findIn K (.ref W3) "__class__" = some (some (.builtin "object.__class__")))
   (Y4c : mroIn K W3 (.type "object") = some true)
   (V7a : findIn K (.ref W3) "__init__" = some (some (.builtin "object.__init__")))
   (V1m : kitOne K (.ref W3) (.ref CW) = some true)
   (B9g : findIn K (.ref W3) "name" = some (some (.ref A4j)))
   (B9n : isFn K (.ref A4j) = true)
   {J6w J4m : Option Addr} {J6h : Array (Option Value)} {J6n J0s J0b J0y C4k J3m : Value} (B7p : K.lookup A4j = some ⟨J6n, J6w, .func (fnOf "name" "Ceiling.name" (A9 sN3) (A8 sN3) (A1 sN3) .none J0s J0b J0y J4m C4k J3m), J6h⟩)
   (B7s : codeIn K C4k "Ceiling.name" = true)
   (B1u : keepIn K (.ref A4j) = true)
   (Z5z : nsIn K mainGlobals "HalfUp" = some (some (.ref W4)))
   (V1q : plainGet K W4 Str.empty = true)
   (V7b : hasDictIn K W4 = true)
   (V3t : plainOver K W4 = true)
   (V7t : findIn K (.ref W4) "__setattr__" = some (some (.builtin "object.__setattr__")))
   (Y3x : makesIn K W4 = true)
   (Y0x : keepIn K (.ref W4) = true)
   (V9g : findIn K (.ref W4) "__class__" = some (some (.builtin "object.__class__")))
   (V8p : mroIn K W4 (.type "object") = some true)
   (Y1g : findIn K (.ref W4) "__init__" = some (some (.builtin "object.__init__")))
   (Y1s : kitOne K (.ref W4) (.ref CW) = some true)
   (B6z : findIn K (.ref W4) "name" = some (some (.ref A4h)))
   (B9x : isFn K (.ref A4h) = true)
   {J3s J2a : Option Addr} {J5p : Array (Option Value)} {J7w J1q J1h J0v C4g J3e : Value} (B6v : K.lookup A4h = some ⟨J7w, J3s, .func (fnOf "name" "HalfUp.name" (A9 sN4) (A8 sN4) (A1 sN4) .none J1q J1h J0v J2a C4g J3e), J5p⟩)
   (B9q : codeIn K C4g "HalfUp.name" = true)
   (B1x : keepIn K (.ref A4h) = true)
   (Z4y : nsIn K mainGlobals "HalfDown" = some (some (.ref W5)))
   (Y3e : plainGet K W5 Str.empty = true)
   (V7r : hasDictIn K W5 = true)
   (V9y : plainOver K W5 = true)
   (V4m : findIn K (.ref W5) "__setattr__" = some (some (.builtin "object.__setattr__")))
   (V8m : makesIn K W5 = true)
   (V2c : keepIn K (.ref W5) = true)
   (V8t : findIn K (.ref W5) "__class__" = some (some (.builtin "object.__class__")))
   (V9q : mroIn K W5 (.type "object") = some true)
   (V9a : findIn K (.ref W5) "__init__" = some (some (.builtin "object.__init__")))
   (Y1d : kitOne K (.ref W5) (.ref CW) = some true)
   (B6p : findIn K (.ref W5) "name" = some (some (.ref A4f)))
   (B9d : isFn K (.ref A4f) = true)
   {J3q J6k : Option Addr} {J3y : Array (Option Value)} {J2g J1r J1m J2z C6a J2s : Value} (B9w : K.lookup A4f = some ⟨J2g, J3q, .func (fnOf "name" "HalfDown.name" (A9 sN5) (A8 sN5) (A1 sN5) .none J1r J1m J2z J6k C6a J2s), J3y⟩)
   (B8s : codeIn K C6a "HalfDown.name" = true)
   (B1t : keepIn K (.ref A4f) = true)
   (Z4j : nsIn K mainGlobals "HalfEven" = some (some (.ref W6)))
   (V1s : plainGet K W6 Str.empty = true)
   (Y2q : hasDictIn K W6 = true)
   (V4g : plainOver K W6 = true)
   (V7j : findIn K (.ref W6) "__setattr__" = some (some (.builtin "object.__setattr__")))
   (V4w : makesIn K W6 = true)
   (V7q : keepIn K (.ref W6) = true)
   (Y1v : findIn K (.ref W6) "__class__" = some (some (.builtin "object.__class__")))
   (Y2k : mroIn K W6 (.type "object") = some true)
   (V8u : findIn K (.ref W6) "__init__" = some (some (.builtin "object.__init__")))
   (V3y : kitOne K (.ref W6) (.ref CW) = some true)
   (B6q : findIn K (.ref W6) "name" = some (some (.ref A4e)))
   (B8f : isFn K (.ref A4e) = true)
   {J0p J0z : Option Addr} {G9x : Array (Option Value)} {J3z J5q J2r J0x C6s J3f : Value} (B8t : K.lookup A4e = some ⟨J3z, J0p, .func (fnOf "name" "HalfEven.name" (A9 sN6) (A8 sN6) (A1 sN6) .none J5q J2r J0x J0z C6s J3f), G9x⟩)
   (B9c : codeIn K C6s "HalfEven.name" = true)
   (B1z : keepIn K (.ref A4e) = true)
   (Z4w : nsIn K mainGlobals "FiveUp" = some (some (.ref W7)))
   (V8c : plainGet K W7 Str.empty = true)
   (V6s : hasDictIn K W7 = true)
   (Y3d : plainOver K W7 = true)
   (V7w : findIn K (.ref W7) "__setattr__" = some (some (.builtin "object.__setattr__")))
   (V4j : makesIn K W7 = true)
   (V9h : keepIn K (.ref W7) = true)
   (Y1f : findIn K (.ref W7) "__class__" = some (some (.builtin "object.__class__")))
   (V4x : mroIn K W7 (.type "object") = some true)
   (Y0f : findIn K (.ref W7) "__init__" = some (some (.builtin "object.__init__")))
   (Y4m : kitOne K (.ref W7) (.ref CW) = some true)
   (B6x : findIn K (.ref W7) "name" = some (some (.ref A4m)))
   (B8r : isFn K (.ref A4m) = true)
   {J0e J1z : Option Addr} {G9v : Array (Option Value)} {J2h J0w J1e J2u C5p J0a : Value} (B6t : K.lookup A4m = some ⟨J2h, J0e, .func (fnOf "name" "FiveUp.name" (A9 sN7) (A8 sN7) (A1 sN7) .none J0w J1e J2u J1z C5p J0a), G9v⟩)
   (B7v : codeIn K C5p "FiveUp.name" = true)
   (B2b : keepIn K (.ref A4m) = true)
   (Z4h : nsIn K mainGlobals "Number" = some (some (.ref CN)))
   (V4u : plainGet K CN Str.empty = true)
   (Y1n : hasDictIn K CN = true)
   (V4e : plainOver K CN = true)
   (V1n : findIn K (.ref CN) "__setattr__" = some (some (.builtin "object.__setattr__")))
   (Y0a : makesIn K CN = true)
   (Y2w : keepIn K (.ref CN) = true)
   (V3w : findIn K (.ref CN) "__class__" = some (some (.builtin "object.__class__")))
   (Y3g : mroIn K CN (.type "object") = some true)
   (B8e : findIn K (.ref CN) "kind" = some none)
   (B8g : findIn K (.ref CN) "sign" = some none)
   (A5u : findIn K (.ref CN) "figures" = some none)
   (B3r : findIn K (.ref CN) "power" = some none)
   (V9p : findIn K (.ref CN) "__init__" = some (some (.ref D1r)))
   (V8y : isFn K (.ref D1r) = true)
   {Z5r Z4s : Option Addr} {Z6e : Array (Option Value)} {Z5s Z4g Z4n Z4d V2v Z6g : Value} (V7z : K.lookup D1r = some ⟨Z5s, Z5r, .func (fnOf "__init__" "Number.__init__" (A9 D1c) (A8 D1c) (A1 D1c) .none Z4g Z4n Z4d Z4s V2v Z6g), Z6e⟩)
   (V2k : codeIn K V2v "Number.__init__" = true)
   (V7s : keepIn K (.ref D1r) = true)
   (D9t : kitOne K (.ref CN) (.ref CN) = some true)
   (A6f : findIn K (.ref W0) "goes_up" = some (some (.ref Z2)))
   (A5t : isFn K (.ref Z2) = true)
   {C9a C7z : Option Addr} {C9j : Array (Option Value)} {C7u D0g C9f C9y B2m C8v : Value} (A6c : K.lookup Z2 = some ⟨C7u, C9a, .func (fnOf "goes_up" "Down.goes_up" (A9 sU0) (A8 sU0) (A1 sU0) .none D0g C9f C9y C7z B2m C8v), C9j⟩)
   (A6m : codeIn K B2m "Down.goes_up" = true)
   (A1n : keepIn K (.ref Z2) = true)
   (B0t : findIn K (.ref W0) "to_end" = some (some (.ref A0t)))
   (B0j : isFn K (.ref A0t) = true)
   {D7q D3v : Option Addr} {D5b : Array (Option Value)} {D4w D5d D7u D8h B5j D5y : Value} (B0s : K.lookup A0t = some ⟨D4w, D7q, .func (fnOf "to_end" "Down.to_end" (A9 sT0) (A8 sT0) (A1 sT0) .none D5d D7u D8h D3v B5j D5y), D5b⟩)
   (B0h : codeIn K B5j "Down.to_end" = true)
   (A3c : keepIn K (.ref A0t) = true)
   (A5y : findIn K (.ref W1) "goes_up" = some (some (.ref Y6)))
   (A5k : isFn K (.ref Y6) = true)
   {C9g C7t : Option Addr} {C8q : Array (Option Value)} {C7q C8w C8n C7h B2n D0b : Value} (A6g : K.lookup Y6 = some ⟨C7q, C9g, .func (fnOf "goes_up" "Up.goes_up" (A9 sU1) (A8 sU1) (A1 sU1) .none C8w C8n C7h C7t B2n D0b), C8q⟩)
   (A7g : codeIn K B2n "Up.goes_up" = true)
   (A1g : keepIn K (.ref Y6) = true)
   (B0z : findIn K (.ref W1) "to_end" = some (some (.ref A0r)))
   (A9m : isFn K (.ref A0r) = true)
   {D5n G0w : Option Addr} {D7k : Array (Option Value)} {D4y D6v D6m D3z B5e D6k : Value} (B1c : K.lookup A0r = some ⟨D4y, D5n, .func (fnOf "to_end" "Up.to_end" (A9 sT1) (A8 sT1) (A1 sT1) .none D6v D6m D3z G0w B5e D6k), D7k⟩)
   (A9b : codeIn K B5e "Up.to_end" = true)
   (A2z : keepIn K (.ref A0r) = true)
   (A5r : findIn K (.ref W2) "goes_up" = some (some (.ref Y9)))
   (A7a : isFn K (.ref Y9) = true)
   {C9k C7w : Option Addr} {D0c : Array (Option Value)} {C8u C9d C9x C9t B2q C7v : Value} (A7d : K.lookup Y9 = some ⟨C8u, C9k, .func (fnOf "goes_up" "Floor.goes_up" (A9 sU2) (A8 sU2) (A1 sU2) .none C9d C9x C9t C7w B2q C7v), D0c⟩)
   (A6w : codeIn K B2q "Floor.goes_up" = true)
   (A1k : keepIn K (.ref Y9) = true)
   (B0m : findIn K (.ref W2) "to_end" = some (some (.ref A0u)))
   (B0g : isFn K (.ref A0u) = true)
   {D9n D8c : Option Addr} {D9c : Array (Option Value)} {D8z D4a D7b D4f B5t D8w : Value} (B0x : K.lookup A0u = some ⟨D8z, D9n, .func (fnOf "to_end" "Floor.to_end" (A9 sT2) (A8 sT2) (A1 sT2) .none D4a D7b D4f D8c B5t D8w), D9c⟩)
   (A8s : codeIn K B5t "Floor.to_end" = true)
   (A3f : keepIn K (.ref A0u) = true)
   (A7k : findIn K (.ref W3) "goes_up" = some (some (.ref Z0)))
   (A7c : isFn K (.ref Z0) = true)
   {C8t C8z : Option Addr} {C8k : Array (Option Value)} {C8x C8s D0a C9n B2r C7r : Value} (A7r : K.lookup Z0 = some ⟨C8x, C8t, .func (fnOf "goes_up" "Ceiling.goes_up" (A9 sU3) (A8 sU3) (A1 sU3) .none C8s D0a C9n C8z B2r C7r), C8k⟩)
   (A7m : codeIn K B2r "Ceiling.goes_up" = true)
   (A1j : keepIn K (.ref Z0) = true)
   (A9k : findIn K (.ref W3) "to_end" = some (some (.ref A0n)))
   (B0q : isFn K (.ref A0n) = true)
   {G0e D9z : Option Addr} {G0t : Array (Option Value)} {D8s D5h D9x G0q B5d D8g : Value} (B0v : K.lookup A0n = some ⟨D8s, G0e, .func (fnOf "to_end" "Ceiling.to_end" (A9 sT3) (A8 sT3) (A1 sT3) .none D5h D9x G0q D9z B5d D8g), G0t⟩)
   (B0b : codeIn K B5d "Ceiling.to_end" = true)
   (A3h : keepIn K (.ref A0n) = true)
   (A6q : findIn K (.ref W4) "goes_up" = some (some (.ref Y8)))
   (A5m : isFn K (.ref Y8) = true)
   {C9b C7x : Option Addr} {C9q : Array (Option Value)} {C7p C9z C8p C7y B2t C8h : Value} (A7b : K.lookup Y8 = some ⟨C7p, C9b, .func (fnOf "goes_up" "HalfUp.goes_up" (A9 sU4) (A8 sU4) (A1 sU4) .none C9z C8p C7y C7x B2t C8h), C9q⟩)
   (A6t : codeIn K B2t "HalfUp.goes_up" = true)
   (A1m : keepIn K (.ref Y8) = true)
   (B0c : findIn K (.ref W4) "to_end" = some (some (.ref A0x)))
   (A9p : isFn K (.ref A0x) = true)
   {G1h D6h : Option Addr} {D5z : Array (Option Value)} {D4s D9s D9g D9q B5n D4x : Value} (A9n : K.lookup A0x = some ⟨D4s, G1h, .func (fnOf "to_end" "HalfUp.to_end" (A9 sT4) (A8 sT4) (A1 sT4) .none D9s D9g D9q D6h B5n D4x), D5z⟩)
   (A9t : codeIn K B5n "HalfUp.to_end" = true)
   (A3d : keepIn K (.ref A0x) = true)
   (A5q : findIn K (.ref W5) "goes_up" = some (some (.ref Y7)))
   (A6k : isFn K (.ref Y7) = true)
   {C8e D0k : Option Addr} {C9s : Array (Option Value)} {D0j C8d C8a C8r B2p C7s : Value} (A6z : K.lookup Y7 = some ⟨D0j, C8e, .func (fnOf "goes_up" "HalfDown.goes_up" (A9 sU5) (A8 sU5) (A1 sU5) .none C8d C8a C8r D0k B2p C7s), C9s⟩)
   (A7n : codeIn K B2p "HalfDown.goes_up" = true)
   (A1h : keepIn K (.ref Y7) = true)
   (A9a : findIn K (.ref W5) "to_end" = some (some (.ref A0p)))
   (A9c : isFn K (.ref A0p) = true)
   {D6c D6j : Option Addr} {D6t : Array (Option Value)} {G0c D8n D7r D8u B5k G0v : Value} (B1h : K.lookup A0p = some ⟨G0c, D6c, .func (fnOf "to_end" "HalfDown.to_end" (A9 sT5) (A8 sT5) (A1 sT5) .none D8n D7r D8u D6j B5k G0v), D6t⟩)
   (A9x : codeIn K B5k "HalfDown.to_end" = true)
   (A3b : keepIn K (.ref A0p) = true)
   (A5n : findIn K (.ref W6) "goes_up" = some (some (.ref Y5)))
   (A6v : isFn K (.ref Y5) = true)
   {D0d C8c : Option Addr} {D0e : Array (Option Value)} {C9m C7j C8y C9e B2k C8j : Value} (A7p : K.lookup Y5 = some ⟨C9m, D0d, .func (fnOf "goes_up" "HalfEven.goes_up" (A9 sU6) (A8 sU6) (A1 sU6) .none C7j C8y C9e C8c B2k C8j), D0e⟩)
   (A7h : codeIn K B2k "HalfEven.goes_up" = true)
   (A1p : keepIn K (.ref Y5) = true)
   (B1j : findIn K (.ref W6) "to_end" = some (some (.ref A0v)))
   (A9z : isFn K (.ref A0v) = true)
   {D8a G1d : Option Addr} {D8v : Array (Option Value)} {G2b D6e D3y G0n B5h G1z : Value} (A9f : K.lookup A0v = some ⟨G2b, D8a, .func (fnOf "to_end" "HalfEven.to_end" (A9 sT6) (A8 sT6) (A1 sT6) .none D6e D3y G0n G1d B5h G1z), D8v⟩)
   (A8q : codeIn K B5h "HalfEven.to_end" = true)
   (A3g : keepIn K (.ref A0v) = true)
   (A6p : findIn K (.ref W7) "goes_up" = some (some (.ref Y4)))
   (A5v : isFn K (.ref Y4) = true)
   {C8g C7m : Option Addr} {C7n : Array (Option Value)} {D0f C7k C9r C9p B2s C9w : Value} (A7f : K.lookup Y4 = some ⟨D0f, C8g, .func (fnOf "goes_up" "FiveUp.goes_up" (A9 sU7) (A8 sU7) (A1 sU7) .none C7k C9r C9p C7m B2s C9w), C7n⟩)
   (A5x : codeIn K B2s "FiveUp.goes_up" = true)
   (A1f : keepIn K (.ref Y4) = true)
   (B1e : findIn K (.ref W7) "to_end" = some (some (.ref A0w)))
   (B0r : isFn K (.ref A0w) = true)
   {D4p D8q : Option Addr} {G0b : Array (Option Value)} {D6y D8f D5v D7w B5u D7z : Value} (A9j : K.lookup A0w = some ⟨D6y, D4p, .func (fnOf "to_end" "FiveUp.to_end" (A9 sT7) (A8 sT7) (A1 sT7) .none D8f D5v D7w D8q B5u D7z), G0b⟩)
   (B0n : codeIn K B5u "FiveUp.to_end" = true)
   (A3a : keepIn K (.ref A0w) = true)
   (Z5c : nsIn K mainGlobals "Context" = some (some (.ref CC)))
   (V5q : plainGet K CC Str.empty = true)
   (V1r : hasDictIn K CC = true)
   (Y1p : plainOver K CC = true)
   (Y0u : findIn K (.ref CC) "__setattr__" = some (some (.builtin "object.__setattr__")))
   (V7c : makesIn K CC = true)
   (Y2x : keepIn K (.ref CC) = true)
   (B7x : findIn K (.ref CC) "room" = some none)
   (B7t : findIn K (.ref CC) "rule" = some none)
   (B3a : findIn K (.ref CC) "least" = some none)
   (B9a : findIn K (.ref CC) "most" = some none)
   (B3q : findIn K (.ref CC) "risen" = some none)
   (A5p : findIn K (.ref CC) "trapped" = some none)
   (Y3w : findIn K (.ref CC) "__init__" = some (some (.ref C4a)))
   (Y2u : isFn K (.ref C4a) = true)
   {Z3y G9p : Option Addr} {Z4e : Array (Option Value)} {Z4a J7v J4g J5e D5m J3w : Value} (V7x : K.lookup C4a = some ⟨Z4a, Z3y, .func (fnOf "__init__" "Context.__init__" (A9 U2) (A8 U2) (A1 U2) (.ref J9r) J7v J4g J5e G9p D5m J3w), Z4e⟩)
   (V5j : codeIn K D5m "Context.__init__" = true)
   (V2q : keepIn K (.ref C4a) = true)
   {A0at A0bd Z0w : Tok} {A0ay : Nat} {Z3z : Option Addr} {Z5b : Value} {Z3v : Array (Option Value)} (J9y : K.lookup J9r = some ⟨Z5b, Z3z, .seq #[.int 9 A0at, .str "half even" A0bd, .none, .int 60 Z0w] A0ay, Z3v⟩)
   (B2z : findIn K (.ref CC) "flags" = some (some (.ref A2n)))
   (B3p : isFn K (.ref A2n) = true)
   {G5w G6d : Option Addr} {G6t : Array (Option Value)} {G6m G5f G4e G5m C0q G6n : Value} (B3t : K.lookup A2n = some ⟨G6m, G5w, .func (fnOf "flags" "Context.flags" (A9 A1r) (A8 A1r) (A1 A1r) .none G5f G4e G5m G6d C0q G6n), G6t⟩)
   (B3z : codeIn K C0q "Context.flags" = true)
   (A5z : keepIn K (.ref A2n) = true)
   (B1b : findIn K (.ref CC) "lowest" = some (some (.ref A0q)))
   (B1f : isFn K (.ref A0q) = true)
   {D8k D6s : Option Addr} {G1x : Array (Option Value)} {D4g G1q D5x G0m B5q G1c : Value} (B0k : K.lookup A0q = some ⟨D4g, D8k, .func (fnOf "lowest" "Context.lowest" (A9 B1m) (A8 B1m) (A1 B1m) .none G1q D5x G0m D6s B5q G1c), G1x⟩)
   (B0e : codeIn K B5q "Context.lowest" = true)
   (A3e : keepIn K (.ref A0q) = true)
   (C5n : findIn K (.ref CC) "way" = some (some (.ref A8u)))
   (C5m : isFn K (.ref A8u) = true)
   {U5j U4n : Option Addr} {U2x : Array (Option Value)} {U6r U5s U4a U5t D1x U4g : Value} (C5x : K.lookup A8u = some ⟨U6r, U5j, .func (fnOf "way" "Context.way" (A9 B1s) (A8 B1s) (A1 B1s) .none U5s U4a U5t U4n D1x U4g), U2x⟩)
   (C4u : codeIn K D1x "Context.way" = true)
   (B5g : keepIn K (.ref A8u) = true)
   (B1g : findIn K (.ref CC) "raised" = some (some (.ref A0s)))
   (B0f : isFn K (.ref A0s) = true)
   {G1t G0h : Option Addr} {D5f : Array (Option Value)} {D3w D6x G1r D4m B5p G0z : Value} (B0u : K.lookup A0s = some ⟨D3w, G1t, .func (fnOf "raised" "Context.raised" (A9 A0a) (A8 A0a) (A1 A0a) .none D6x G1r D4m G0h B5p G0z), D5f⟩)
   (A9s : codeIn K B5p "Context.raised" = true)
   (A2y : keepIn K (.ref A0s) = true)
   (Z5h : nsIn K mainGlobals "Ratio" = some (some (.ref CQ)))
   (Y4a : plainGet K CQ Str.empty = true)
   (V3d : hasDictIn K CQ = true)
   (V4b : plainOver K CQ = true)
   (V8n : findIn K (.ref CQ) "__setattr__" = some (some (.builtin "object.__setattr__")))
   (V5n : makesIn K CQ = true)
   (V3q : keepIn K (.ref CQ) = true)
   (V9v : findIn K (.ref CQ) "__class__" = some (some (.builtin "object.__class__")))
   (Y1h : mroIn K CQ (.type "object") = some true)
   (C4r : findIn K (.ref CQ) "top" = some none)
   (A9v : findIn K (.ref CQ) "bottom" = some none)
   (B3k : findIn K (.ref CQ) "power" = some none)
   (V3j : findIn K (.ref CQ) "__init__" = some (some (.ref D2a)))
   (V9k : isFn K (.ref D2a) = true)
   {Z5a Y2t : Option Addr} {Z4r : Array (Option Value)} {Z5x V3e V8z V3b J5j Y2m : Value} (V7y : K.lookup D2a = some ⟨Z5x, Z5a, .func (fnOf "__init__" "Ratio.__init__" (A9 A5a) (A8 A5a) (A1 A5a) (.ref V4t) V3e V8z V3b Y2t J5j Y2m), Z4r⟩)
   (Y2c : codeIn K J5j "Ratio.__init__" = true)
   (Y2z : keepIn K (.ref D2a) = true)
   {Z0y : Tok} {A0bc : Nat} {Z5p : Option Addr} {Z5m : Value} {Z5k : Array (Option Value)} (G7f : K.lookup V4t = some ⟨Z5m, Z5p, .seq #[.int 0 Z0y] A0bc, Z5k⟩)
   (B3y : findIn K (.ref CQ) "first" = some (some (.ref A0d)))
   (B3w : isFn K (.ref A0d) = true)
   {G7c G6e : Option Addr} {G6f : Array (Option Value)} {G5c G6p G5q G4t C0p G5h : Value} (B3c : K.lookup A0d = some ⟨G5c, G7c, .func (fnOf "first" "Ratio.first" (A9 A1t) (A8 A1t) (A1 A1t) .none G6p G5q G4t G6e C0p G5h), G6f⟩)
   (B2x : codeIn K C0p "Ratio.first" = true)
   (A6h : keepIn K (.ref A0d) = true)
   (D9d : findIn K (.ref CQ) "at" = some (some (.ref B2c)))
   (G2a : isFn K (.ref B2c) = true)
   {Y3f V1p : Option Addr} {Y4k : Array (Option Value)} {Y0c V9z V3p V2y G5j V8k : Value} (D4r : K.lookup B2c = some ⟨Y0c, Y3f, .func (fnOf "at" "Ratio.at" (A9 C1h) (A8 C1h) (A1 C1h) .none V9z V3p V2y V1p G5j V8k), Y4k⟩)
   (D9k : codeIn K G5j "Ratio.at" = true)
   (C1c : keepIn K (.ref B2c) = true)
   (Y8n : nsIn K mainGlobals "Exact" = some (some (.ref CE)))
   (V8x : kitOne K (.ref CQ) (.ref CE) = some true)
   (Z6c : nsIn K mainGlobals "BadContext" = some (some (.ref C1)))
   (Z4q : nsIn K mainGlobals "BadNumber" = some (some (.ref C2)))
   (Z6a : nsIn K mainGlobals "Trapped" = some (some (.ref C3)))
   (a_CR : nsIn K mainGlobals "ReckonError" = some (some (.ref CR)))
   (cty : typeIn K (.ref CR) = some (.type "type"))
   {dR : ClassData} (ccl : clsIn K CR = some dR)
   (cex : subIn K (.ref CR) (.type "BaseException") = some true)
   (sub3 : subIn K (.ref C3) (.ref CR) = some true)
   (xga3 : findIn K (.ref C3) "__getattribute__" = some (some (.builtin "BaseException.__getattribute__")))
   (xgh3 : findIn K (.ref C3) "__getattr__" = some none)
   (xca3 : findIn K (.ref C3) "__class__" = some (some (.builtin "object.__class__")))
   (xob3 : mroIn K C3 (.type "object") = some true)
   (xbe3 : subIn K (.ref C3) (.type "BaseException") = some true)
   {d3 : ClassData} (xcl3 : clsIn K C3 = some d3)
   (h3_1 : kitOne K (.ref C3) (.ref C1) = some false)
   (h3_2 : kitOne K (.ref C3) (.ref C2) = some false)
   (h3_3 : kitOne K (.ref C3) (.ref C3) = some true)
   (hv3 : kitOne K (.ref C3) (.type "ValueError") = some true)
   {nmT qT : Str} {NT : Addr} {bsT bmT : List Value} {snT : List Str} {suT : List Value} {abT : Bool} {coT : Option Bool} {ddT : Option Addr} {kT0 kT1 kT2 kT3 kT5 : Option Value} (lT : K.lookup C3 = some (excClassObj nmT qT C3 NT bsT bmT true snT suT abT coT ddT kT0 kT1 kT2 kT3 kT5 "ValueError.__new__"))
   {ocN : Value} {odN : Option Addr} {esN : Array DictEntry} {epN : Nat} {slN : Array (Option Value)} (lN : K.lookup NT = some ⟨ocN, odN, .dict esN epN, slN⟩)
   (alN : (esN.all fun e => match e.key with | .str _ _ => true | _ => false) = true)
   (niT : nsIn K NT "__init__" = some (some (.ref fX)))
   {nmU qU : Str} {NU : Addr} {bsU : List Value} {snU : List Str} {suU : List Value} {abU : Bool} {coU : Option Bool} {ddU : Option Addr} {kU0 kU1 kU2 kU3 kU5 : Option Value} (lT1 : K.lookup C1 = some (excClassObj nmU qU C1 NU bsU bmT true snU suU abU coU ddU kU0 kU1 kU2 kU3 kU5 "ValueError.__new__"))
   (saT : findIn K (.ref C3) "__setattr__" = some (some (.builtin "object.__setattr__")))
   (nsg3 : findIn K (.ref C3) "signal" = some none)
   {A0ag A0ac : Option Addr} {A0ak : Array (Option Value)} {Z0x Z9w A0bb A0az Z0z A0aa : Value} (Z0a : K.lookup fX = some ⟨Z0x, A0ag, .func (fnOf "__init__" "Trapped.__init__" (A9 B1q) (A8 B1q) (A1 B1q) .none Z9w A0bb A0az A0ac Z0z A0aa), A0ak⟩)
   (Z6h : codeIn K Z0z "Trapped.__init__" = true)
   (Z4v : keepIn K (.ref fX) = true)
   (fcT : Z0x = .type "function")
   (kTR : kitOne K (.ref C3) (.ref CR) = some true)
   (q1 : excIn K C1 [.type "ValueError", .type "Exception", .type "BaseException", .type "object"] "ValueError.__new__" = true)
   (q2 : excIn K C2 [.type "ValueError", .type "Exception", .type "BaseException", .type "object"] "ValueError.__new__" = true)
   (a_S : nsIn K mainGlobals "SIGNALS" = some (some (.ref aS)))
   {u0 u1 u2 u3 u4 u5 u6 : Tok} {nS : Nat} {odS : Option Addr} {slS : Array (Option Value)} (lS : K.lookup aS = some ⟨.type "tuple", odS, .seq #[.str "void" u0, .str "split" u1, .str "burst" u2, .str "sunk" u3, .str "faint" u4, .str "off" u5, .str "cut" u6] nS, slS⟩)
   (Z5n : nsIn K mainGlobals "Root" = some (some (.ref RO)))
   (V2h : plainGet K RO Str.empty = true)
   (V9n : hasDictIn K RO = true)
   (V9x : plainOver K RO = true)
   (V2u : findIn K (.ref RO) "__setattr__" = some (some (.builtin "object.__setattr__")))
   (Y1j : makesIn K RO = true)
   (Y2n : keepIn K (.ref RO) = true)
   (V7p : findIn K (.ref RO) "__class__" = some (some (.builtin "object.__class__")))
   (Y0j : mroIn K RO (.type "object") = some true)
   (C3n : findIn K (.ref RO) "top" = some none)
   (B3u : findIn K (.ref RO) "power" = some none)
   (Y2d : findIn K (.ref RO) "__init__" = some (some (.ref D1s)))
   (Y0y : isFn K (.ref D1s) = true)
   {Z3t V2s : Option Addr} {Z6j : Array (Option Value)} {Z4t V6w V8g Y3a J5k Y1k : Value} (Y0g : K.lookup D1s = some ⟨Z4t, Z3t, .func (fnOf "__init__" "Root.__init__" (A9 A4u) (A8 A4u) (A1 A4u) (.ref V6u) V6w V8g Y3a V2s J5k Y1k), Z6j⟩)
   (V2x : codeIn K J5k "Root.__init__" = true)
   (Y0k : keepIn K (.ref D1s) = true)
   {Z1a : Tok} {A0ae : Nat} {Z4p : Option Addr} {Z6f : Value} {Z4c : Array (Option Value)} (G5r : K.lookup V6u = some ⟨Z6f, Z4p, .seq #[.int 0 Z1a] A0ae, Z4c⟩)
   (B3h : findIn K (.ref RO) "first" = some (some (.ref A0c)))
   (B2y : isFn K (.ref A0c) = true)
   {G4j G6b : Option Addr} {G6r : Array (Option Value)} {G7g G4w G7b G5u C0n G4k : Value} (B3j : K.lookup A0c = some ⟨G7g, G4j, .func (fnOf "first" "Root.first" (A9 A2k) (A8 A2k) (A1 A2k) .none G4w G7b G5u G6b C0n G4k), G6r⟩)
   (B3n : codeIn K C0n "Root.first" = true)
   (A6d : keepIn K (.ref A0c) = true)
   (D8x : findIn K (.ref RO) "at" = some (some (.ref B1v)))
   (D5s : isFn K (.ref B1v) = true)
   {V7f V6m : Option Addr} {Y0w : Array (Option Value)} {V6d V4z V9e V9b G4x V5a : Value} (G1b : K.lookup B1v = some ⟨V6d, V7f, .func (fnOf "at" "Root.at" (A9 C2x) (A8 C2x) (A1 C2x) .none V4z V9e V9b V6m G4x V5a), Y0w⟩)
   (D7a : codeIn K G4x "Root.at" = true)
   (C1e : keepIn K (.ref B1v) = true)
   (Y1m : kitOne K (.ref RO) (.ref CE) = some true) :
   ∃ fd : FuncData, (∀ (s : Shared) (v : Value), BindsTo s fd ⟨[v], []⟩ [("_law_script", v)]) /\ ∀ base : Heap, K.In base -> base.Ns mainGlobals mg -> FnOk l.prog w K mg base (CX1 l.prog w) 10 fa fd ["_law_script"] (J9j K) := by
 have e := hfa.symm.trans (mg_of X G U0a)
 cases e
 have C0m := D3 (ps := ["whole", "count"]) (st := V5) X G A8t A8z B0y A9y fun _ _ _ _ _ _ us hl => match us, hl with | [_, _], _ => rfl
 have A7s := D3 (ps := ["count"]) (st := Z7) X G D7p D4j G0s G0k fun _ _ _ _ _ _ us hl => match us, hl with | [_], _ => rfl
 have C6e := D3 (ps := ["size", "middle"]) (st := A2w) X G C6d C4n C5j C3h fun _ _ _ _ _ _ us hl => match us, hl with | [_, _], _ => rfl
 have C1b := D3 (ps := ["whole"]) (st := A3q) X G G0r G1e D5c D4c fun _ _ _ _ _ _ us hl => match us, hl with | [_], _ => rfl
 have J9p := D3 (ps := ["whole"]) (st := A8b) X G D7f D6n D6d D3x fun _ _ _ _ _ _ us hl => match us, hl with | [_], _ => rfl
 have D_plain := D3 (ps := ["sign", "figures", "power"]) (st := A7x) X G G0y G0g G1m D6b fun _ _ _ _ _ _ us hl => match us, hl with | [_, _, _], _ => rfl
 have D_end := D3 (ps := ["sign"]) (st := G3f) X G V8a V5g V4c Y2j fun _ _ _ _ _ _ us hl => match us, hl with | [_], _ => rfl
 have D_nothing := D3 (ps := []) (st := Y1) X G B9h B7k B9z B7z fun _ _ _ _ _ _ us hl => match us, hl with | [], _ => rfl
 have D_told := D3 (ps := ["number"]) (st := C0g) X G J2j J2w J0m J6s fun _ _ _ _ _ _ us hl => match us, hl with | [_], _ => rfl
 have V5t := D3 (ps := ["number"]) (st := C2g) X G J4j J4x J7d J2c fun _ _ _ _ _ _ us hl => match us, hl with | [_], _ => rfl
 have B5s := D3 (ps := ["thing"]) (st := A3n) X G D9h D7e D8e G1f fun _ _ _ _ _ _ us hl => match us, hl with | [_], _ => rfl
 have C4b := D3 (ps := ["things"]) (st := A5c) X G B3g B4e B3s B4b fun _ _ _ _ _ _ us hl => match us, hl with | [_], _ => rfl
 have C1d := D3 (ps := ["numbers", "kind"]) (st := A5j) X G D7g D6u D9b D5p fun _ _ _ _ _ _ us hl => match us, hl with | [_, _], _ => rfl
 have G6q := D3 (ps := ["one", "other"]) (st := A4t) X G C6t C5e C5c C4c fun _ _ _ _ _ _ us hl => match us, hl with | [_, _], _ => rfl
 have V2j := D3 (ps := ["thing", "least", "most"]) (st := C7e) X G V7d Y3m V5b V2m fun _ _ _ _ _ _ us hl => match us, hl with | [_, _, _], _ => rfl
 have D2e := D3 (ps := ["thing", "least", "most"]) (st := A0h) X G B7m B7u B6u B8x fun _ _ _ _ _ _ us hl => match us, hl with | [_, _, _], _ => rfl
 have D_settled := D3 (ps := ["context", "sign", "exact", "ideal"]) (st := A0j) X G B9k B8j B8m B8c fun _ _ _ _ _ _ us hl => match us, hl with | [_, _, _, _], _ => rfl
 have B5f := D3 (ps := ["context", "exact"]) (st := A2s) X G C6m C3r C3z C5y fun _ _ _ _ _ _ us hl => match us, hl with | [_, _], _ => rfl
 have B9t := D3 (ps := ["ideal", "sign", "figures", "power"]) (st := A0k) X G B8k B7a B7q B7y fun _ _ _ _ _ _ us hl => match us, hl with | [_, _, _, _], _ => rfl
 have D_neighbour := D3 (ps := ["context", "sign", "pair"]) (st := U7) X G A8v A9g A9q A8r fun _ _ _ _ _ _ us hl => match us, hl with | [_, _, _], _ => rfl
 have C3m := D3 (ps := ["context", "sign", "figures", "power"]) (st := A2v) X G C5g C5s C3u C6j fun _ _ _ _ _ _ us hl => match us, hl with | [_, _, _, _], _ => rfl
 have C3s := D3 (ps := ["context", "number"]) (st := A2r) X G C3y C3v C6k C4q fun _ _ _ _ _ _ us hl => match us, hl with | [_, _], _ => rfl
 have D_burst := D3 (ps := ["context", "sign"]) (st := A8f) X G G1g D8b D6w D8y fun _ _ _ _ _ _ us hl => match us, hl with | [_, _], _ => rfl
 have D_nines := D3 (ps := ["context", "sign"]) (st := A7z) X G D7v D5j G1s D6a fun _ _ _ _ _ _ us hl => match us, hl with | [_, _], _ => rfl
 have B7n := D3 (ps := ["part", "is_cut"]) (st := A2d) X G B8p B6s B6r B7h fun _ _ _ _ _ _ us hl => match us, hl with | [_, _], _ => rfl
 have B6m := D3 (ps := ["context", "lead", "part"]) (st := A1z) X G B8u B8z B8h B6w fun _ _ _ _ _ _ us hl => match us, hl with | [_, _, _], _ => rfl
 have D_nought := D3 (ps := ["context", "sign", "ideal"]) (st := A1d) X G C4j C4s C4p C4x fun _ _ _ _ _ _ us hl => match us, hl with | [_, _, _], _ => rfl
 have D_void := D3 (ps := ["context"]) (st := C2u) X G J1g J2y J7c J3p fun _ _ _ _ _ _ us hl => match us, hl with | [_], _ => rfl
 have D_rounded := D3 (ps := ["context", "number"]) (st := A2f) X G B8y B9s B9y B7j fun _ _ _ _ _ _ us hl => match us, hl with | [_, _], _ => rfl
 have D_root := D3 (ps := ["context", "one"]) (st := C0f) X G J4s J2d J4u J1s fun _ _ _ _ _ _ us hl => match us, hl with | [_, _], _ => rfl
 have D8p := D3 (ps := ["name"]) (st := A8n) X G D9y D4d D6f D7c fun _ _ _ _ _ _ us hl => match us, hl with | [_], _ => rfl
 have D_bounded := D3 (ps := ["thing", "least", "most"]) (st := A2c) X G B7f B7e B7d B6y fun _ _ _ _ _ _ us hl => match us, hl with | [_, _, _], _ => rfl
 have J9x := D3 (ps := ["names"]) (st := B2u) X G D7s D7n D9j D8j fun _ _ _ _ _ _ us hl => match us, hl with | [_], _ => rfl
 have J9z := D3 (ps := ["names"]) (st := B2w) X G D4b D9e D8t D8m fun _ _ _ _ _ _ us hl => match us, hl with | [_], _ => rfl
 have D_times := D3 (ps := ["context", "one", "other"]) (st := B2v) X G D6p D7x D4t D4q fun _ _ _ _ _ _ us hl => match us, hl with | [_, _, _], _ => rfl
 have J4k := D3 (ps := ["number"]) (st := A4a) X G B3f B3e B3d B3b fun _ _ _ _ _ _ us hl => match us, hl with | [_], _ => rfl
 have G5g := D3 (ps := ["one", "other"]) (st := A5e) X G C6r C5u C4w C6v fun _ _ _ _ _ _ us hl => match us, hl with | [_, _], _ => rfl
 have D_product := D3 (ps := ["one", "other"]) (st := A1s) X G B9b B9j B6j B7b fun _ _ _ _ _ _ us hl => match us, hl with | [_, _], _ => rfl
 have V4d := D3 (ps := ["_law_script", "_law_k"]) (st := C2c) X G J4n J7h J1y J6g fun _ _ _ _ _ _ us hl => match us, hl with | [_, _], _ => rfl
 have G0f := D3 (ps := ["_law_cell", "_law_k"]) (st := A8g) X G D5w D5t D6q D9v fun _ _ _ _ _ _ us hl => match us, hl with | [_, _], _ => rfl
 have D7t := D3 (ps := ["_law_count"]) (st := B4s) X G J6q J4r J4d J7n fun _ _ _ _ _ _ us hl => match us, hl with | [_], _ => rfl
 have J4e := D3 (ps := ["_law_cell", "_law_most"]) (st := A2t) X G J3v J6d J5t J6b fun _ _ _ _ _ _ us hl => match us, hl with | [_, _], _ => rfl
 have G7d := D3 (ps := ["_law_cell"]) (st := A4y) X G C3w C4z C3g C4y fun _ _ _ _ _ _ us hl => match us, hl with | [_], _ => rfl
 have G4c := D3 (ps := ["_law_figures_here", "_law_power", "_law_room"]) (st := A4q) X G C6y C3x C5h C6p fun _ _ _ _ _ _ us hl => match us, hl with | [_, _, _], _ => rfl
 have G4d := D3 (ps := ["_law_found", "_law_room"]) (st := A5f) X G C3k C5t C6b C4v fun _ _ _ _ _ _ us hl => match us, hl with | [_, _], _ => rfl
 have G6v := D3 (ps := ["_law_figures_here", "_law_power", "_law_room"]) (st := A4w) X G C5f C3p C5a C6c fun _ _ _ _ _ _ us hl => match us, hl with | [_, _, _], _ => rfl
 have A0ab := D3 (ps := ["_law_script"]) (st := D2t) X G U0a Y3h Y2b V9s fun _ _ _ _ _ _ us hl => match us, hl with | [_], _ => rfl
 have O : Own mg := ⟨mg_none_of X G A7e, mg_none_of X G V6x, mg_none_of X G J6m, mg_none_of X G V9t, mg_none_of X G J4h, mg_none_of X G G1p, mg_none_of X G J7k, mg_none_of X G Y2h, mg_none_of X G G2e, mg_none_of X G V8s, mg_none_of X G Y3p, mg_none_of X G Y0s, mg_none_of X G V7v, mg_none_of X G V5f, mg_none_of X G V3m, mg_none_of X G J5h, mg_none_of X G A9u, mg_none_of X G B3v, mg_none_of X G V6g, mg_none_of X G C5k, mg_none_of X G C5d, mg_none_of X G Y0b, mg_none_of X G A6s⟩
 have T : Kit K := ⟨B4a, A9r, B3x, A9d, A6u, B1d, A8y, A5s, B0d, A6y, A3w, A6n, B3m, B0p, B4f, A8w, A6e, A9e, B0w, A7j, A9w, A6r, A3r, A6j, A6a, A3t, A5w, A3u, A2m, A3s, B0a, A7q, A9h, A6x, A3v, A6b, A1b, A0f, A1a, A0e, Z1, A0b⟩
 have A0aw : Cls K W0 := ⟨V6b, V7n, V7h, Y3u⟩
 have Z9v : Mk0 K W0 := ⟨V5e, Y4f, Y0p⟩
 have F_name_W0 := D9 (st := sN0) B8w B9f B1w
 have U5b := F_name_W0.binds (ps := ["self"]) fun _ _ _ _ _ _ us hl => match us, hl with | [_], _ => rfl
 have J5f : Meth K W0 "name" A4n := ⟨B8q, B9p, B1w⟩
 have WC0 : WayC K mg "Down" W0 CW := ⟨mg_of X G Z5q, A0aw, Z9v, V6z, sn, tk, V5y, V5d⟩
 have Z9p : Cls K W1 := ⟨V3r, V4r, Y1c, V3c⟩
 have Z9m : Mk0 K W1 := ⟨V1t, Y2y, V1x⟩
 have F_name_W1 := D9 (st := sN1) B9r B8d B1y
 have U4j := F_name_W1.binds (ps := ["self"]) fun _ _ _ _ _ _ us hl => match us, hl with | [_], _ => rfl
 have J3r : Meth K W1 "name" A4k := ⟨B9e, B7r, B1y⟩
 have WC1 : WayC K mg "Up" W1 CW := ⟨mg_of X G Z5w, Z9p, Z9m, V5v, sn, tk, V3h, V1j⟩
 have Z9u : Cls K W2 := ⟨Y1b, V2d, Y0n, V9r⟩
 have Z9y : Mk0 K W2 := ⟨Y1q, V6r, Y3c⟩
 have F_name_W2 := D9 (st := sN2) B9m B7c B2a
 have U7f := F_name_W2.binds (ps := ["self"]) fun _ _ _ _ _ _ us hl => match us, hl with | [_], _ => rfl
 have J3x : Meth K W2 "name" A4g := ⟨B8b, B6n, B2a⟩
 have WC2 : WayC K mg "Floor" W2 CW := ⟨mg_of X G Z5y, Z9u, Z9y, V1u, sn, tk, Y3b, V1y⟩
 have A0am : Cls K W3 := ⟨V8q, V3g, Y3j, Y2a⟩
 have Z9t : Mk0 K W3 := ⟨Y4g, V7a, Y1z⟩
 have F_name_W3 := D9 (st := sN3) B7p B7s B1u
 have U6d := F_name_W3.binds (ps := ["self"]) fun _ _ _ _ _ _ us hl => match us, hl with | [_], _ => rfl
 have J1w : Meth K W3 "name" A4j := ⟨B9g, B9n, B1u⟩
 have WC3 : WayC K mg "Ceiling" W3 CW := ⟨mg_of X G Z3u, A0am, Z9t, V4h, sn, tk, Y4c, V1m⟩
 have A0ax : Cls K W4 := ⟨V1q, V7b, V3t, V7t⟩
 have A0aj : Mk0 K W4 := ⟨Y3x, Y1g, Y0x⟩
 have F_name_W4 := D9 (st := sN4) B6v B9q B1x
 have U7j := F_name_W4.binds (ps := ["self"]) fun _ _ _ _ _ _ us hl => match us, hl with | [_], _ => rfl
 have J6a : Meth K W4 "name" A4h := ⟨B6z, B9x, B1x⟩
 have WC4 : WayC K mg "HalfUp" W4 CW := ⟨mg_of X G Z5z, A0ax, A0aj, V9g, sn, tk, V8p, Y1s⟩
 have A0aq : Cls K W5 := ⟨Y3e, V7r, V9y, V4m⟩
 have Z9s : Mk0 K W5 := ⟨V8m, V9a, V2c⟩
 have F_name_W5 := D9 (st := sN5) B9w B8s B1t
 have U6j := F_name_W5.binds (ps := ["self"]) fun _ _ _ _ _ _ us hl => match us, hl with | [_], _ => rfl
 have J5d : Meth K W5 "name" A4f := ⟨B6p, B9d, B1t⟩
 have WC5 : WayC K mg "HalfDown" W5 CW := ⟨mg_of X G Z4y, A0aq, Z9s, V8t, sn, tk, V9q, Y1d⟩
 have Z9z : Cls K W6 := ⟨V1s, Y2q, V4g, V7j⟩
 have Z9r : Mk0 K W6 := ⟨V4w, V8u, V7q⟩
 have F_name_W6 := D9 (st := sN6) B8t B9c B1z
 have U6u := F_name_W6.binds (ps := ["self"]) fun _ _ _ _ _ _ us hl => match us, hl with | [_], _ => rfl
 have J1k : Meth K W6 "name" A4e := ⟨B6q, B8f, B1z⟩
 have WC6 : WayC K mg "HalfEven" W6 CW := ⟨mg_of X G Z4j, Z9z, Z9r, Y1v, sn, tk, Y2k, V3y⟩
 have A0ah : Cls K W7 := ⟨V8c, V6s, Y3d, V7w⟩
 have Z9n : Mk0 K W7 := ⟨V4j, Y0f, V9h⟩
 have F_name_W7 := D9 (st := sN7) B6t B7v B2b
 have U7b := F_name_W7.binds (ps := ["self"]) fun _ _ _ _ _ _ us hl => match us, hl with | [_], _ => rfl
 have J7f : Meth K W7 "name" A4m := ⟨B6x, B8r, B2b⟩
 have WC7 : WayC K mg "FiveUp" W7 CW := ⟨mg_of X G Z4w, A0ah, Z9n, Y1f, sn, tk, V4x, Y4m⟩
 let cw : Wy -> Addr := fun y => match y with | .down => W0 | .up => W1 | .floor => W2 | .ceiling => W3 | .halfUp => W4 | .halfDown => W5 | .halfEven => W6 | .fiveUp => W7
 have W : ∀ y : Wy, WayC K mg y.cls (cw y) CW := fun y => match y with | .down => WC0 | .up => WC1 | .floor => WC2 | .ceiling => WC3 | .halfUp => WC4 | .halfDown => WC5 | .halfEven => WC6 | .fiveUp => WC7
 have Z9x : Cls K CN := ⟨V4u, Y1n, V4e, V1n⟩
 have FI_CN := D9 (st := D1c) V7z V2k V7s
 have A0as := FI_CN.binds (ps := ["self", "kind", "sign", "figures", "power"]) fun _ _ _ _ _ _ us hl => match us, hl with | [_, _, _, _, _], _ => rfl
 have M_CN : Mk K CN D1r := ⟨Y0a, V9p, V8y, Y2w⟩
 have N : Num K mg CN := ⟨mg_of X G Z4h, Z9x, B8e, B8g, A5u, B3r, V3w, sn, tk, Y3g, D9t⟩
 have F_goes_up_W0 := D9 (st := sU0) A6c A6m A1n
 have D4h := F_goes_up_W0.binds (ps := ["self", "sign", "last", "part"]) fun _ _ _ _ _ _ us hl => match us, hl with | [_, _, _, _], _ => rfl
 have C9v : Meth K W0 "goes_up" Z2 := ⟨A6f, A5t, A1n⟩
 have F_to_end_W0 := D9 (st := sT0) B0s B0h A3c
 have G6s := F_to_end_W0.binds (ps := ["self", "sign"]) fun _ _ _ _ _ _ us hl => match us, hl with | [_, _], _ => rfl
 have G1v : Meth K W0 "to_end" A0t := ⟨B0t, B0j, A3c⟩
 have F_goes_up_W1 := D9 (st := sU1) A6g A7g A1g
 have D9r := F_goes_up_W1.binds (ps := ["self", "sign", "last", "part"]) fun _ _ _ _ _ _ us hl => match us, hl with | [_, _, _, _], _ => rfl
 have C8f : Meth K W1 "goes_up" Y6 := ⟨A5y, A5k, A1g⟩
 have F_to_end_W1 := D9 (st := sT1) B1c A9b A2z
 have G5d := F_to_end_W1.binds (ps := ["self", "sign"]) fun _ _ _ _ _ _ us hl => match us, hl with | [_, _], _ => rfl
 have D5u : Meth K W1 "to_end" A0r := ⟨B0z, A9m, A2z⟩
 have F_goes_up_W2 := D9 (st := sU2) A7d A6w A1k
 have D9p := F_goes_up_W2.binds (ps := ["self", "sign", "last", "part"]) fun _ _ _ _ _ _ us hl => match us, hl with | [_, _, _, _], _ => rfl
 have C9c : Meth K W2 "goes_up" Y9 := ⟨A5r, A7a, A1k⟩
 have F_to_end_W2 := D9 (st := sT2) B0x A8s A3f
 have G7e := F_to_end_W2.binds (ps := ["self", "sign"]) fun _ _ _ _ _ _ us hl => match us, hl with | [_, _], _ => rfl
 have G1w : Meth K W2 "to_end" A0u := ⟨B0m, B0g, A3f⟩
 have F_goes_up_W3 := D9 (st := sU3) A7r A7m A1j
 have D7y := F_goes_up_W3.binds (ps := ["self", "sign", "last", "part"]) fun _ _ _ _ _ _ us hl => match us, hl with | [_, _, _, _], _ => rfl
 have C9h : Meth K W3 "goes_up" Z0 := ⟨A7k, A7c, A1j⟩
 have F_to_end_W3 := D9 (st := sT3) B0v B0b A3h
 have G4z := F_to_end_W3.binds (ps := ["self", "sign"]) fun _ _ _ _ _ _ us hl => match us, hl with | [_, _], _ => rfl
 have D4z : Meth K W3 "to_end" A0n := ⟨A9k, B0q, A3h⟩
 have F_goes_up_W4 := D9 (st := sU4) A7b A6t A1m
 have G0d := F_goes_up_W4.binds (ps := ["self", "sign", "last", "part"]) fun _ _ _ _ _ _ us hl => match us, hl with | [_, _, _, _], _ => rfl
 have C9u : Meth K W4 "goes_up" Y8 := ⟨A6q, A5m, A1m⟩
 have F_to_end_W4 := D9 (st := sT4) A9n A9t A3d
 have G6w := F_to_end_W4.binds (ps := ["self", "sign"]) fun _ _ _ _ _ _ us hl => match us, hl with | [_, _], _ => rfl
 have D6g : Meth K W4 "to_end" A0x := ⟨B0c, A9p, A3d⟩
 have F_goes_up_W5 := D9 (st := sU5) A6z A7n A1h
 have D5q := F_goes_up_W5.binds (ps := ["self", "sign", "last", "part"]) fun _ _ _ _ _ _ us hl => match us, hl with | [_, _, _, _], _ => rfl
 have C8b : Meth K W5 "goes_up" Y7 := ⟨A5q, A6k, A1h⟩
 have F_to_end_W5 := D9 (st := sT5) B1h A9x A3b
 have G7h := F_to_end_W5.binds (ps := ["self", "sign"]) fun _ _ _ _ _ _ us hl => match us, hl with | [_, _], _ => rfl
 have G0j : Meth K W5 "to_end" A0p := ⟨A9a, A9c, A3b⟩
 have F_goes_up_W6 := D9 (st := sU6) A7p A7h A1p
 have G1n := F_goes_up_W6.binds (ps := ["self", "sign", "last", "part"]) fun _ _ _ _ _ _ us hl => match us, hl with | [_, _, _, _], _ => rfl
 have D0h : Meth K W6 "goes_up" Y5 := ⟨A5n, A6v, A1p⟩
 have F_to_end_W6 := D9 (st := sT6) A9f A8q A3g
 have G6k := F_to_end_W6.binds (ps := ["self", "sign"]) fun _ _ _ _ _ _ us hl => match us, hl with | [_, _], _ => rfl
 have D5r : Meth K W6 "to_end" A0v := ⟨B1j, A9z, A3g⟩
 have F_goes_up_W7 := D9 (st := sU7) A7f A5x A1f
 have G1y := F_goes_up_W7.binds (ps := ["self", "sign", "last", "part"]) fun _ _ _ _ _ _ us hl => match us, hl with | [_, _, _, _], _ => rfl
 have C8m : Meth K W7 "goes_up" Y4 := ⟨A6p, A5v, A1f⟩
 have F_to_end_W7 := D9 (st := sT7) A9j B0n A3a
 have G5p := F_to_end_W7.binds (ps := ["self", "sign"]) fun _ _ _ _ _ _ us hl => match us, hl with | [_, _], _ => rfl
 have D9m : Meth K W7 "to_end" A0w := ⟨B1e, B0r, A3a⟩
 have A0av : Cls K CC := ⟨V5q, V1r, Y1p, Y0u⟩
 have A0bf := D3c (st := U2) V7x V5j V2q
 have M_CC : Mk K CC C4a := ⟨V7c, Y3w, Y2u, Y2x⟩
 have F_flags_CC := D9 (st := A1r) B3t B3z A5z
 have G9y := F_flags_CC.binds (ps := ["self"]) fun _ _ _ _ _ _ us hl => match us, hl with | [_], _ => rfl
 have G5x : Meth K CC "flags" A2n := ⟨B2z, B3p, A5z⟩
 have F_lowest_CC := D9 (st := B1m) B0k B0e A3e
 have G5t := F_lowest_CC.binds (ps := ["self"]) fun _ _ _ _ _ _ us hl => match us, hl with | [_], _ => rfl
 have D5g : Meth K CC "lowest" A0q := ⟨B1b, B1f, A3e⟩
 have F_way_CC := D9 (st := B1s) C5x C4u B5g
 have V5h := F_way_CC.binds (ps := ["self"]) fun _ _ _ _ _ _ us hl => match us, hl with | [_], _ => rfl
 have U5m : Meth K CC "way" A8u := ⟨C5n, C5m, B5g⟩
 have F_raised_CC := D9 (st := A0a) B0u A9s A2y
 have G5b := F_raised_CC.binds (ps := ["self", "names"]) fun _ _ _ _ _ _ us hl => match us, hl with | [_, _], _ => rfl
 have G2c : Meth K CC "raised" A0s := ⟨B1g, B0f, A2y⟩
 have A0be : Cls K CQ := ⟨Y4a, V3d, V4b, V8n⟩
 have A0ad := D3c (st := A5a) V7y Y2c Y2z
 have M_CQ : Mk K CQ D2a := ⟨V5n, V3j, V9k, V3q⟩
 have F_first_CQ := D9 (st := A1t) B3c B2x A6h
 have J1a := F_first_CQ.binds (ps := ["self"]) fun _ _ _ _ _ _ us hl => match us, hl with | [_], _ => rfl
 have G6c : Meth K CQ "first" A0d := ⟨B3y, B3w, A6h⟩
 have F_at_CQ := D9 (st := C1h) D4r D9k C1c
 have J9q := F_at_CQ.binds (ps := ["self", "power"]) fun _ _ _ _ _ _ us hl => match us, hl with | [_, _], _ => rfl
 have G4g : Meth K CQ "at" B2c := ⟨D9d, G2a, C1c⟩
 have xk3 : ExcK K C3 := ⟨xga3, xgh3, xca3, sn, tk, xob3, xbe3, by rw [xcl3]; rfl⟩
 have nkT : nsOkIn K NT = true := by unfold nsOkIn; rw [lN]; exact alN
 have tlT : tailIn K J9a bmT = true := by
   have z := q1
   unfold excIn at z
   rw [lT1] at z
   simp only [excClassObj, Bool.and_eq_true] at z
   exact z.1.1.2
 have F_iT := D9 (st := B1q) Z0a Z6h Z4v
 have b_iT := F_iT.binds (ps := ["self", "signal"]) fun _ _ _ _ _ _ us hl => match us, hl with | [_, _], _ => rfl
 have XI3 : ExcI K C3 fX := ⟨⟨_, _, _, _, _, _, _, _, _, _, _, _, _, _, _, lT, nkT, niT, tlT⟩, ⟨_, Z0a, fcT⟩, saT, xob3⟩
 have SG : SigK K mg aS := ⟨mg_of X G a_S, ⟨_, lS, rfl⟩, fun H => .inr ⟨_, _, _, lS, rfl, rfl, D7 (by show 7 <= 1000; decide), .cons ⟨_, rfl⟩ (.cons ⟨_, rfl⟩ (.cons ⟨_, rfl⟩ (.cons ⟨_, rfl⟩ (.cons ⟨_, rfl⟩ (.cons ⟨_, rfl⟩ (.cons ⟨_, rfl⟩ (.nil)))))))⟩⟩
 have Z9q : Cls K RO := ⟨V2h, V9n, V9x, V2u⟩
 have A0ba := D3c (st := A4u) Y0g V2x Y0k
 have M_RO : Mk K RO D1s := ⟨Y1j, Y2d, Y0y, Y2n⟩
 have F_first_RO := D9 (st := A2k) B3j B3n A6d
 have J2p := F_first_RO.binds (ps := ["self"]) fun _ _ _ _ _ _ us hl => match us, hl with | [_], _ => rfl
 have G5e : Meth K RO "first" A0c := ⟨B3h, B2y, A6d⟩
 have F_at_RO := D9 (st := C2x) G1b D7a C1e
 have Y9v := F_at_RO.binds (ps := ["self", "power"]) fun _ _ _ _ _ _ us hl => match us, hl with | [_, _], _ => rfl
 have Y1r : Meth K RO "at" B1v := ⟨D8x, D5s, C1e⟩
 have C : CtxC K mg CC := ⟨mg_of X G Z5c, A0av, B7x, B7t, B3a, B9a, B3q, A5p⟩
 have B1 : Err K mg "BadContext" C1 := ⟨mg_of X G Z6c, q1⟩
 have B2 : Err K mg "BadNumber" C2 := ⟨mg_of X G Z4q, q2⟩
 have R : RatC K mg CQ CE := ⟨mg_of X G Z5h, mg_of X G Y8n, A0be, C4r, A9v, B3k, V9v, sn, tk, Y1h, V8x⟩
 have b4 := B6d (fd := fnOf "__init__" "Context.__init__" (A9 U2) (A8 U2) (A1 U2) (.ref J9r) J7v J4g J5e G9p D5m J3w) (ps := ["self", "room", "way", "least", "most"]) (ds := []) rfl J9y rfl fun us hl => by obtain ⟨a, b, c, d, e, rfl⟩ := len5 (G2w hl); exact ⟨_, rfl, rfl⟩
 refine ⟨fnOf "law" "law" (A9 D2t) (A8 D2t) (A1 D2t) .none Y4h Y3v V4k V2b J1c V6y, fun s v => .of_eq rfl, fun base _ _ => ?_⟩
 have WN : ∀ y : Wy, Z7x l.prog w K mg base (cw y) y.name := fun y => match y with | .down => ⟨_, _, J5f, Z8c F_name_W0, U5b⟩ | .up => ⟨_, _, J3r, Z6r F_name_W1, U4j⟩ | .floor => ⟨_, _, J3x, Z7d F_name_W2, U7f⟩ | .ceiling => ⟨_, _, J1w, Z8y F_name_W3, U6d⟩ | .halfUp => ⟨_, _, J6a, Z8f F_name_W4, U7j⟩ | .halfDown => ⟨_, _, J5d, Z8m F_name_W5, U6j⟩ | .halfEven => ⟨_, _, J1k, Z6m F_name_W6, U6u⟩ | .fiveUp => ⟨_, _, J7f, Z6q F_name_W7, U7b⟩
 have U : ∀ y : Wy, Z8d l.prog w K mg base (cw y) y := fun y => match y with | .down => ⟨_, _, C9v, Z6s F_goes_up_W0, D4h⟩ | .up => ⟨_, _, C8f, Z8k F_goes_up_W1, D9r⟩ | .floor => ⟨_, _, C9c, Z8x F_goes_up_W2, D9p⟩ | .ceiling => ⟨_, _, C9h, Z7y F_goes_up_W3, D7y⟩ | .halfUp => ⟨_, _, C9u, Z7z F_goes_up_W4, G0d⟩ | .halfDown => ⟨_, _, C8b, Z9c F_goes_up_W5, D5q⟩ | .halfEven => ⟨_, _, D0h, Z7k F_goes_up_W6, G1n⟩ | .fiveUp => ⟨_, _, C8m, Z6n F_goes_up_W7, G1y⟩
 have E2 : ∀ y : Wy, Z7m l.prog w K mg base (cw y) y := fun y => match y with | .down => ⟨_, _, G1v, Z9h F_to_end_W0, G6s⟩ | .up => ⟨_, _, D5u, Z7t F_to_end_W1, G5d⟩ | .floor => ⟨_, _, G1w, Z8z F_to_end_W2, G7e⟩ | .ceiling => ⟨_, _, D4z, Z7s F_to_end_W3, G4z⟩ | .halfUp => ⟨_, _, D6g, Z9d F_to_end_W4, G6w⟩ | .halfDown => ⟨_, _, G0j, Z7f F_to_end_W5, G7h⟩ | .halfEven => ⟨_, _, D5r, Z9g F_to_end_W6, G6k⟩ | .fiveUp => ⟨_, _, D9m, Z7n F_to_end_W7, G5p⟩
 have Gb := G8z (P := l.prog) (w := w) (base := base) D_bounded V2j O T B1
 have Gw := U9h (P := l.prog) (w := w) (base := base) D8p O T B1 W
 have MC : MakeC l.prog w K mg base CC C1 C4a _ := ⟨M_CC, G9k A0bf D_bounded D8p Gb Gw C W WN⟩
 have MR : MakeR l.prog w K mg base CQ D2a (fnOf "__init__" "Ratio.__init__" (A9 A5a) (A8 A5a) (A1 A5a) (.ref V4t) V3e V8z V3b Y2t J5j Y2m) (.int 0 Z0y) (fun us ws => match ws with | [a] => us ++ [a] | _ => []) (fun us ws => match ws with | [a] => us ++ [a] | _ => []) :=
   { m := M_CQ
     g := U8t A0ad R
     b3 := B6d rfl G7f rfl fun us hl => by obtain ⟨a, b, c, d, rfl⟩ := len4 (G2w hl); exact ⟨_, rfl, rfl⟩
     b2 := B6d rfl G7f rfl fun us hl => by obtain ⟨a, b, c, rfl⟩ := Y7a (G2w hl); exact ⟨_, rfl, rfl⟩
     r0 := ⟨_, rfl⟩
     kP := ⟨(fun s us ws XK hl => by
         rcases ws with _ | ⟨p, _ | ⟨q, t⟩⟩
         . cases hl
         . obtain ⟨a, b, c, rfl⟩ := Y7a (G2w hl)
           exact binds_K XK rfl G7f rfl rfl rfl
         . cases hl), fun r z => match z with
       | .cons a .nil => r.append (.cons a .nil)
       | .nil => .nil
       | .cons _ (.cons _ _) => .nil⟩
     eP := fun _ _ _ _ => rfl }
 have M : MakeN l.prog w K mg base CN D1r _ := ⟨M_CN, Y5f FI_CN N, A0as⟩
 have Gn := V0u (P := l.prog) (w := w) (base := base) J9x O T B1 SG
 have Go := U8m (P := l.prog) (w := w) (base := base) J9z SG
 have GX := U2p (P := l.prog) (w := w) (mg := mg) (base := base) F_iT XI3 nsg3
 have MF : Has l.prog w K mg base CC "flags" 1 ["self"] (A4v CC) := ⟨_, _, G5x, G3q F_flags_CC C O, G9y⟩
 have ML : Has l.prog w K mg base CC "lowest" 1 ["self"] (C1g CC) := ⟨_, _, D5g, U1r F_lowest_CC C, G5t⟩
 have MW : Has l.prog w K mg base CC "way" 2 ["self"] (C1p CC cw) := ⟨_, _, U5m, U0u F_way_CC D8p Gw C, V5h⟩
 have MD : Has l.prog w K mg base CC "raised" 3 ["self", "names"] (C2f K CC C1 C3) := ⟨_, _, G2c, U0g F_raised_CC J9x Gn J9z Go C (mg_of X G Z6a) XI3 GX b_iT, G5b⟩
 have CM : CtxM l.prog w K mg base CC C1 C3 CW cw := ⟨C, MW, ML, MD, W, U, E2⟩
 have Gneedn := G2r (P := l.prog) (w := w) (base := base) B5s O T B2 N
 have Gtold := Y7m (P := l.prog) (w := w) (base := base) D_told B5s O T B2 N
 have Gplain := V1f (P := l.prog) (w := w) (base := base) D_plain D2e V2j O T B2 N M
 have Gend := Z1r (P := l.prog) (w := w) (base := base) D_end D2e V2j O T B2 N M
 have Gnothing := G9h (P := l.prog) (w := w) (base := base) D_nothing N M
 have Glead := Y6z (P := l.prog) (w := w) (base := base) V5t O N
 have Gto := V1g (P := l.prog) (w := w) (base := base) A7s C0m (D2u C0m)
 have Gpart := U0h (P := l.prog) (w := w) (base := base) C6e
 have Gwl := U9v (P := l.prog) (w := w) (base := base) C1b A7s Gto
 have Gat := Z2y (P := l.prog) (w := w) (base := base) F_at_CQ A7s Gto C6e Gpart R O
 have RM : RatM l.prog w K mg base CQ A0d B2c _ _ := ⟨G6c, U0r F_first_CQ C1b Gwl G4g Gat J9q R, J1a, G4g, Gat, J9q⟩
 have Gnea := G8v (P := l.prog) (w := w) (base := base) B9t N M
 have Gnei := D2n (P := l.prog) (w := w) (base := base) D_neighbour CM
 have Gwit := U1x (P := l.prog) (w := w) (base := base) C3m A7s Gto CM N M
 have Gbey := U2e (P := l.prog) (w := w) (base := base) C3s V5t Glead CM N
 have Gnin := U9d (P := l.prog) (w := w) (base := base) D_nines A7s Gto CM N M
 have Gbur := V0j (P := l.prog) (w := w) (base := base) D_burst D_nines Gnin D_end Gend CM
 have Gsr := G7z (P := l.prog) (w := w) (base := base) B7n
 have Gsl := G9m (P := l.prog) (w := w) (base := base) B6m CM
 have Gnou := U2b (P := l.prog) (w := w) (base := base) D_nought CM N M O
 have RQ : RooC K mg RO CE := ⟨mg_of X G Z5n, mg_of X G Y8n, Z9q, C3n, B3u, V7p, sn, tk, Y0j, Y1m⟩
 have MQ : MakeQ l.prog w K mg base RO D1s (fnOf "__init__" "Root.__init__" (A9 A4u) (A8 A4u) (A1 A4u) (.ref V6u) V6w V8g Y3a V2s J5k Y1k) (.int 0 Z1a) (fun us ws => match ws with | [a] => us ++ [a] | _ => []) (fun us ws => match ws with | [a] => us ++ [a] | _ => []) :=
   { m := M_RO
     g := V0g A0ba RQ
     b3 := B6d rfl G5r rfl fun us hl => by obtain ⟨a, b, c, rfl⟩ := Y7a (G2w hl); exact ⟨_, rfl, rfl⟩
     b2 := B6d rfl G5r rfl fun us hl => by obtain ⟨a, b, rfl⟩ := Z7c (G2w hl); exact ⟨_, rfl, rfl⟩
     r0 := ⟨_, rfl⟩
     kP := ⟨(fun s us ws XK hl => by
         rcases ws with _ | ⟨p, _ | ⟨q, t⟩⟩
         . cases hl
         . obtain ⟨a, b, rfl⟩ := Z7c (G2w hl)
           exact binds_K XK rfl G5r rfl rfl rfl
         . cases hl), fun r z => match z with
       | .cons a .nil => r.append (.cons a .nil)
       | .nil => .nil
       | .cons _ (.cons _ _) => .nil⟩
     eP := fun _ _ _ => rfl }
 have QM : RooM l.prog w K mg base RO A0c B1v _ _ := ⟨G5e, U1k F_first_RO C1b Gwl RQ, J2p, Y1r, Z2m F_at_RO A7s Gto C6e Gpart J9p (U8y J9p A7s Gto C1b Gwl) RQ O, Y9v⟩
 have XR := ratM RM R
 have XQ := rooM QM RQ
 have GsR := C0b (CE := CE) (P := l.prog) (w := w) (base := base) D_settled B5f (C2h (CE := CE) B5f CM XR O) B9t Gnea D_neighbour Gnei C3m Gwit C3s Gbey D_burst Gbur B7n Gsr B6m Gsl CM XR N
 have GsQ := C0b (CE := CE) (P := l.prog) (w := w) (base := base) D_settled B5f (C2h (CE := CE) B5f CM XQ O) B9t Gnea D_neighbour Gnei C3m Gwit C3s Gbey D_burst Gbur B7n Gsr B6m Gsl CM XQ N
 have Gset : FnOk l.prog w K mg base (CX1 l.prog w) 6 A4d _ ["context", "sign", "exact", "ideal"] (B5z CN CC C3 CQ) := FnOk.weak (fun _ _ _ _ h => G3y h) GsR
 have Gset2 : FnOk l.prog w K mg base (CX1 l.prog w) 6 A4d _ ["context", "sign", "exact", "ideal"] (C1f CN CC C3 CQ RO) := FnOk.both GsR GsQ
 have Gneedns := U2k (P := l.prog) (w := w) (base := base) C4b B5s Gneedn
 have Gsomek := U8b (P := l.prog) (w := w) (base := base) C1d O N
 have Gun := U1t (P := l.prog) (w := w) (base := base) G6q N
 have Gvo := Y6x (P := l.prog) (w := w) (base := base) D_void D_nothing Gnothing CM
 have Groot := Y4u (P := l.prog) (w := w) (base := base) D_root B5s Gneedn D_nothing Gnothing D_nought Gnou D_void Gvo D_settled Gset2 N MQ RQ
 have Gebn := U2u (P := l.prog) (w := w) (base := base) G5g C1d Gsomek J4k
 have Gprd := Y5j (P := l.prog) (w := w) (base := base) D_product C1d Gsomek G6q Gun D_end Gend N M
 have Gro3 := U2h (CB := C1) (CW := CW) (cw := cw) (P := l.prog) (w := w) (base := base) D_rounded B5s Gneedn D_nought Gnou D_settled Gset MR R N
 have Gtimes := V0n (P := l.prog) (w := w) (base := base) D_times C4b Gneedns C1d Gsomek D_nothing Gnothing D_rounded Gro3 G5g Gebn D_product Gprd D_void
 have Gcell := Y4z (P := l.prog) (w := w) (base := base) V4d O
 have Gmix := U9b (P := l.prog) (w := w) (base := base) G0f
 have Glten := Y5q (P := l.prog) (w := w) (base := base) D7t O
 have Glfig := U1n (P := l.prog) (w := w) (base := base) J4e G0f Gmix D7t Glten
 have Gldr := U1m (P := l.prog) (w := w) (base := base) G7d G0f Gmix J4e Glfig O
 have Glro := U1a (P := l.prog) (w := w) (base := base) G4c D_plain Gplain D_root Groot D_told Gtold MC b4 C MF
 have Glki := U2j (P := l.prog) (w := w) (base := base) G4d D7t Glten
 have Glri := U0p (P := l.prog) (w := w) (base := base) G6v D7t Glten G4c Glro G4d Glki O
 have b2 := B6d (fd := fnOf "__init__" "Context.__init__" (A9 U2) (A8 U2) (A1 U2) (.ref J9r) J7v J4g J5e G9p D5m J3w) (ps := ["self", "room", "way", "least", "most"]) (ds := [.none, .int 60 Z0w]) rfl J9y rfl fun us hl => by obtain ⟨a, b, c, rfl⟩ := Y7a (G2w hl); exact ⟨_, rfl, rfl⟩
 have M24 : Made24 l.prog w K mg base CC C1 C4a _ _ := ⟨MC, b2, .cons rfl (.cons ⟨_, rfl⟩ .nil)⟩
 exact Z3r A0ab V4d Gcell G7d Gldr J4e Glfig G6v Glri D_plain Gplain D_root Groot D_times Gtimes D_told Gtold M24 C MF O
theorem walk {l : OpenLaw} {q : Program} {loose : List Str} {XP : (Str -> Option Value) -> Heap -> Prop} {YP : World -> Heap -> Prop} {d : DefRec} {K : Params -> Frag} (hn : l.most = some 63) (hdf : d.params.defaults = [])
   (hY : ∀ (w : World) (h : Heap), YP w h -> (K w.params).In h)
   (F : ∀ (w : World) (mg : Str -> Option Value) (fa : Addr) (h : Heap), (K w.params).In h -> h.Ns mainGlobals mg -> mg d.name = some (.ref fa) ->
     ∃ fd : FuncData, (∀ (s : Shared) (u : Value), BindsTo s fd ⟨[u], []⟩ [("_law_script", u)]) /\ ∀ base : Heap, (K w.params).In base -> base.Ns mainGlobals mg -> FnOk l.prog w (K w.params) mg base (CX1 l.prog w) 10 fa fd ["_law_script"] ((J9j (K w.params)))) :
   WalkO q loose XP YP l.row.toRowW d [] (fun f vs => PySem.call f vs) :=
 L2.walk_of (n := 63) (k := 10) (x := "_law_script") (CX := fun w => CX1 l.prog w) (sp := fun w => (J9j (K w.params))) hn (by decide) hdf ⟨rfl, by decide, by decide⟩ hY F (fun _ _ a ns hl _ hS => ⟨a, ns, rfl, hl, hS, fun _ => rfl⟩) fun _ _ _ _ _ z => by
   obtain ⟨_, _, _, _, _, _, _, _, _, _, z, _⟩ := z
   exact z
end TR
def PySem.W.Fast.tw8317422436769576078 : Unit := ()
def PySem.W.Fast.tw568656897177966977 : Unit := ()
def PySem.W.Fast.tw11923595657898983963 : Unit := ()
def PySem.W.Fast.tw18124324209444832065 : Unit := ()
def PySem.W.Fast.tw15743867963172376032 : Unit := ()
def PySem.W.Fast.tw5950080411698866180 : Unit := ()
def PySem.W.Fast.tw6208173695037355300 : Unit := ()
def PySem.W.Fast.tw18185184324006676674 : Unit := ()
def PySem.W.Fast.tw17555752100835248041 : Unit := ()
def PySem.W.Fast.tw17440196878494164668 : Unit := ()
def PySem.W.Fast.tw5984958290147487998 : Unit := ()
def PySem.W.Fast.tw5556472775099367068 : Unit := ()
def PySem.W.Fast.tw7963177487796639141 : Unit := ()
def PySem.W.Fast.tw13928401548116843961 : Unit := ()
def PySem.W.Fast.tw1140565744480527369 : Unit := ()
def PySem.W.Fast.tw11932026665604521895 : Unit := ()
def PySem.W.Fast.tw6750927871890288081 : Unit := ()
def PySem.W.Fast.tw6498729726247373922 : Unit := ()
def PySem.W.Fast.tw5923794994466185526 : Unit := ()
def PySem.W.Fast.tw12571341125879180129 : Unit := ()
def PySem.W.Fast.tw6749651574724298350 : Unit := ()
def PySem.W.Fast.tw13254632536666182557 : Unit := ()
def PySem.W.Fast.tw5148134456739313348 : Unit := ()
def PySem.W.Fast.tw216430367051056908 : Unit := ()
def PySem.W.Fast.tw619487797744021594 : Unit := ()
def PySem.W.Fast.tw1843768353907216443 : Unit := ()
def PySem.W.Fast.tw8869749771716084324 : Unit := ()
def PySem.W.Fast.tw1882715858276555534 : Unit := ()
def PySem.W.Fast.tw634241810656583681 : Unit := ()
def PySem.W.Fast.tw15633012594336597334 : Unit := ()
def PySem.W.Fast.tw7931915105649633934 : Unit := ()
def PySem.W.Fast.tw15045696005581687281 : Unit := ()
def PySem.W.Fast.tw98196025826103588 : Unit := ()
def PySem.W.Fast.tw9196972007103756606 : Unit := ()
def PySem.W.Fast.tw13981447260896760968 : Unit := ()
def PySem.W.Fast.tw13232110427008596734 : Unit := ()
def PySem.W.Fast.tw17851033032520953387 : Unit := ()
def PySem.W.Fast.tw6164459413560205263 : Unit := ()
def PySem.W.Fast.tw5119484330408731601 : Unit := ()
def PySem.W.Fast.tw9248991246038827426 : Unit := ()
def PySem.W.Fast.tw8670542261276880123 : Unit := ()
def PySem.W.Fast.tw459595483828645428 : Unit := ()
def PySem.W.Fast.tw10689886021342321845 : Unit := ()
def PySem.W.Fast.tw14709607973455632046 : Unit := ()
def PySem.W.Fast.tw16192259585082472655 : Unit := ()
def PySem.W.Fast.tw11775786629705549544 : Unit := ()
def PySem.W.Fast.tw15589101124843202323 : Unit := ()
def PySem.W.Fast.tw1393318943338154827 : Unit := ()
def PySem.W.Fast.tw10728758195880486294 : Unit := ()
def PySem.W.Fast.tw7378970089392054935 : Unit := ()
def PySem.W.Fast.tw4813878304501496677 : Unit := ()
def PySem.W.Fast.tw16990883861762285567 : Unit := ()
def PySem.W.Fast.tw215171163877481135 : Unit := ()
def PySem.W.Fast.tw912292252757563686 : Unit := ()
def PySem.W.Fast.tw14787695407403793533 : Unit := ()
def PySem.W.Fast.tw7445101222994331070 : Unit := ()
def PySem.W.Fast.tw12518219890044693079 : Unit := ()
def PySem.W.Fast.tw686661901711404961 : Unit := ()
def PySem.W.Fast.tw9472619899680395480 : Unit := ()
def PySem.W.Fast.tw1865663324814410201 : Unit := ()
def PySem.W.Fast.tw7146765293836361366 : Unit := ()
def PySem.W.Fast.tw10302355059709978972 : Unit := ()
def PySem.W.Fast.tw4473896965860849771 : Unit := ()
def PySem.W.Fast.tw2332155699740099465 : Unit := ()
def PySem.W.Fast.tw7133690787980667843 : Unit := ()
def PySem.W.Fast.tw15582704811773794079 : Unit := ()
def PySem.W.Fast.tw11309604785649621241 : Unit := ()
def PySem.W.Fast.tw13499962769824287169 : Unit := ()
def PySem.W.Fast.tw8188518602082413393 : Unit := ()
def PySem.W.Fast.tw14333764168816596581 : Unit := ()
def PySem.W.Fast.tw15407878467799587732 : Unit := ()
def PySem.W.Fast.tw17314025687795856667 : Unit := ()
def PySem.W.Fast.tw5680164028055383645 : Unit := ()
def PySem.W.Fast.tw10966205238776011428 : Unit := ()
def PySem.W.Fast.tw10888000398344595926 : Unit := ()
def PySem.W.Fast.tw6462192240102211712 : Unit := ()
def PySem.W.Fast.tw1714683937376518436 : Unit := ()
def PySem.W.Fast.tw6400364782920382280 : Unit := ()
def PySem.W.Fast.tw6122420370280856814 : Unit := ()
def PySem.W.Fast.tw17524597671106898172 : Unit := ()
def PySem.W.Fast.tw2798092999798831045 : Unit := ()
def PySem.W.Fast.tw5695878732483808666 : Unit := ()
def PySem.W.Fast.tw16670444423099653055 : Unit := ()
def PySem.W.Fast.tw8025496079172562742 : Unit := ()
def PySem.W.Fast.tw12156882991282770311 : Unit := ()
def PySem.W.Fast.tw1407241595322396667 : Unit := ()
def PySem.W.Fast.tw10021788506142108046 : Unit := ()
def PySem.W.Fast.tw1648301146597128207 : Unit := ()
def PySem.W.Fast.tw18318365910417395629 : Unit := ()
def PySem.W.Fast.tw14865350194447912792 : Unit := ()
def PySem.W.Fast.tw880117361510731836 : Unit := ()
def PySem.W.Fast.tw8511265065313085917 : Unit := ()
def PySem.W.Fast.tw14641120712953162877 : Unit := ()
def PySem.W.Fast.tw14851265682287932215 : Unit := ()
def PySem.W.Fast.tw4700328239703659389 : Unit := ()
def PySem.W.Fast.tw8900863554362597171 : Unit := ()
def PySem.W.Fast.tw14939254480727050359 : Unit := ()
def PySem.W.Fast.tw2563525902748738883 : Unit := ()
def PySem.W.Fast.tw10698253691980841680 : Unit := ()
def PySem.W.Fast.tw15209131811551970973 : Unit := ()
def PySem.W.Fast.tw2933110112132451280 : Unit := ()
def PySem.W.Fast.tw8174985347916082825 : Unit := ()
def PySem.W.Fast.tw3540763152491621817 : Unit := ()
def PySem.W.Fast.tw14876405512031032745 : Unit := ()
def PySem.W.Fast.tw6636371359743894020 : Unit := ()
def PySem.W.Fast.tw4629202603605136411 : Unit := ()
def PySem.W.Fast.tw8036633770868532016 : Unit := ()
def PySem.W.Fast.tw18075836689159298244 : Unit := ()
def PySem.W.Fast.tw2090698662563883230 : Unit := ()
def PySem.W.Fast.tw7028253406306984863 : Unit := ()
def PySem.W.Fast.tw6923903780896164668 : Unit := ()
def PySem.W.Fast.tw2188972934948686093 : Unit := ()
def PySem.W.Fast.tw15341667952893774804 : Unit := ()
def PySem.W.Fast.tw18051073838742140855 : Unit := ()
def PySem.W.Fast.tw2649470013499191756 : Unit := ()
def PySem.W.Fast.tw15142567905078066103 : Unit := ()
def PySem.W.Fast.tw16885315337678668512 : Unit := ()
def PySem.W.Fast.tw7273056827080579848 : Unit := ()
def PySem.W.Fast.tw16320393758393431702 : Unit := ()
def PySem.W.Fast.tw4387249754531424554 : Unit := ()
def PySem.W.Fast.tw8460486630805668272 : Unit := ()
def PySem.W.Fast.tw189182130071402831 : Unit := ()
def PySem.W.Fast.tw4226265038195872110 : Unit := ()
def PySem.W.Fast.tw4494238776987778695 : Unit := ()
def PySem.W.Fast.tw13275416444965090428 : Unit := ()
def PySem.W.Fast.tw2160039926194312703 : Unit := ()
def PySem.W.Fast.tw9898731995497161317 : Unit := ()
def PySem.W.Fast.tw12439119175631779691 : Unit := ()
def PySem.W.Fast.tw11257688928365357510 : Unit := ()
def PySem.W.Fast.tw15535145618191512013 : Unit := ()
def PySem.W.Fast.tw13100021183184156630 : Unit := ()
def PySem.W.Fast.tw12662599483404126984 : Unit := ()
def PySem.W.Fast.tw1750000137720863896 : Unit := ()
def PySem.W.Fast.tw6794719177889629968 : Unit := ()
def PySem.W.Fast.tw2873598799413759772 : Unit := ()
def PySem.W.Fast.tw17720685442514329821 : Unit := ()
def PySem.W.Fast.tw12134098079337706761 : Unit := ()
def PySem.W.Fast.tw12694566492760036605 : Unit := ()
def PySem.W.Fast.tw8845046323862460062 : Unit := ()
def PySem.W.Fast.tw1372666015760408995 : Unit := ()
def PySem.W.Fast.tw10977807552118264642 : Unit := ()
def PySem.W.Fast.tw1285239583911202068 : Unit := ()
def PySem.W.Fast.tw5023967714927181621 : Unit := ()
def PySem.W.Fast.tw4355042479108059700 : Unit := ()
def PySem.W.Fast.tw14028699568327864842 : Unit := ()
def PySem.W.Fast.tw13952389250044394249 : Unit := ()
def PySem.W.Fast.tw492127967886425697 : Unit := ()
def PySem.W.Fast.tw1122191062260420008 : Unit := ()
def PySem.W.Fast.tw12390774915110782587 : Unit := ()
def PySem.W.Fast.tw7470903371954942821 : Unit := ()
def PySem.W.Fast.tw16879372842561248331 : Unit := ()
def PySem.W.Fast.tw4174111809277513633 : Unit := ()
def PySem.W.Fast.tw812167888745252637 : Unit := ()
def PySem.W.Fast.tw2634152317700633354 : Unit := ()
def PySem.W.Fast.tw15210625458256371121 : Unit := ()
def PySem.W.Fast.tw4367299898677792835 : Unit := ()
def PySem.W.Fast.tw16651637785695063524 : Unit := ()
def PySem.W.Fast.tw13959554543424982286 : Unit := ()
def PySem.W.Fast.tw8537677656330280897 : Unit := ()
def PySem.W.Fast.tw16429994758767258378 : Unit := ()
def PySem.W.Fast.tw14876766274933394194 : Unit := ()
def PySem.W.Fast.tw1208225720429585453 : Unit := ()
def PySem.W.Fast.tw17648679043114442561 : Unit := ()
def PySem.W.Fast.tw3300842867611276955 : Unit := ()
def PySem.W.Fast.tw134508517210385287 : Unit := ()
def PySem.W.Fast.tw4684511009791653104 : Unit := ()
def PySem.W.Fast.tw5333845453118884667 : Unit := ()
def PySem.W.Fast.tw5311354405393310716 : Unit := ()
def PySem.W.Fast.tw17941840448626985177 : Unit := ()
def PySem.W.Fast.tw8532528252598955365 : Unit := ()
def PySem.W.Fast.tw13999302999211468659 : Unit := ()
def PySem.W.Fast.tw15263910285528030636 : Unit := ()
def PySem.W.Fast.tw9157626180538415642 : Unit := ()
def PySem.W.Fast.tw12382258669083676145 : Unit := ()
def PySem.W.Fast.tw18159762931794311298 : Unit := ()
def PySem.W.Fast.tw10936929211520034897 : Unit := ()
def PySem.W.Fast.tw16751390065196375479 : Unit := ()
def PySem.W.Fast.tw8919586975183763024 : Unit := ()
def PySem.W.Fast.tw465826031587513680 : Unit := ()
def PySem.W.Fast.tw1498447899256882493 : Unit := ()
def PySem.W.Fast.tw13362829785819462136 : Unit := ()
def PySem.W.Fast.tw12284508856184936547 : Unit := ()
open PySem PySem.W PyProof.Rows
set_option maxRecDepth 100000 in
set_option maxHeartbeats 0 in
theorem PySem.Challenge.cw_tenreckon_k24_whole_roots_by_squares_holds : PySem.Challenge.rw_tenreckon_k24_whole_roots_by_squares.Holds := by
 w_on; o_law; k_head; (case hw => w_witness2)
 k_fill
 refine TR.walk (l := PySem.Challenge.rw_tenreckon_k24_whole_roots_by_squares) rfl rfl (fun w h Y => PySem.W.kIn_of Y) ?F
 case F =>
   intro w mg fa h KX G hmg
   refine' TR.all_mk KX G hmg ?A8t ?A8z ?B0y ?A9y ?D7p ?D4j ?G0s ?G0k ?C6d ?C4n ?C5j ?C3h ?G0r ?G1e ?D5c ?D4c ?D7f ?D6n ?D6d ?D3x ?G0y ?G0g ?G1m ?D6b ?V8a ?V5g ?V4c ?Y2j ?B9h ?B7k ?B9z ?B7z ?J2j ?J2w ?J0m ?J6s ?J4j ?J4x ?J7d ?J2c ?D9h ?D7e ?D8e ?G1f ?B3g ?B4e ?B3s ?B4b ?D7g ?D6u ?D9b ?D5p ?C6t ?C5e ?C5c ?C4c ?V7d ?Y3m ?V5b ?V2m ?B7m ?B7u ?B6u ?B8x ?B9k ?B8j ?B8m ?B8c ?C6m ?C3r ?C3z ?C5y ?B8k ?B7a ?B7q ?B7y ?A8v ?A9g ?A9q ?A8r ?C5g ?C5s ?C3u ?C6j ?C3y ?C3v ?C6k ?C4q ?G1g ?D8b ?D6w ?D8y ?D7v ?D5j ?G1s ?D6a ?B8p ?B6s ?B6r ?B7h ?B8u ?B8z ?B8h ?B6w ?C4j ?C4s ?C4p ?C4x ?J1g ?J2y ?J7c ?J3p ?B8y ?B9s ?B9y ?B7j ?J4s ?J2d ?J4u ?J1s ?D9y ?D4d ?D6f ?D7c ?B7f ?B7e ?B7d ?B6y ?D7s ?D7n ?D9j ?D8j ?D4b ?D9e ?D8t ?D8m ?D6p ?D7x ?D4t ?D4q ?B3f ?B3e ?B3d ?B3b ?C6r ?C5u ?C4w ?C6v ?B9b ?B9j ?B6j ?B7b ?J4n ?J7h ?J1y ?J6g ?D5w ?D5t ?D6q ?D9v ?J6q ?J4r ?J4d ?J7n ?J3v ?J6d ?J5t ?J6b ?C3w ?C4z ?C3g ?C4y ?C6y ?C3x ?C5h ?C6p ?C3k ?C5t ?C6b ?C4v ?C5f ?C3p ?C5a ?C6c ?U0a ?Y3h ?Y2b ?V9s ?A7e ?V6x ?J6m ?V9t ?J4h ?G1p ?J7k ?Y2h ?G2e ?V8s ?Y3p ?Y0s ?V7v ?V5f ?V3m ?J5h ?A9u ?B3v ?V6g ?C5k ?C5d ?Y0b ?A6s ?B4a ?A9r ?B3x ?A9d ?A6u ?B1d ?A8y ?A5s ?B0d ?A6y ?A3w ?A6n ?B3m ?B0p ?B4f ?A8w ?A6e ?A9e ?B0w ?A7j ?A9w ?A6r ?A3r ?A6j ?A6a ?A3t ?A5w ?A3u ?A2m ?A3s ?B0a ?A7q ?A9h ?A6x ?A3v ?A6b ?A1b ?A0f ?A1a ?A0e ?Z1 ?A0b ?sn ?tk ?a_CW ?Z5q ?V6b ?V7n ?V7h ?Y3u ?V5e ?Y0p ?V6z ?V5y ?Y4f ?V5d ?B8q ?B9p ?B8w ?B9f ?B1w ?Z5w ?V3r ?V4r ?Y1c ?V3c ?V1t ?V1x ?V5v ?V3h ?Y2y ?V1j ?B9e ?B7r ?B9r ?B8d ?B1y ?Z5y ?Y1b ?V2d ?Y0n ?V9r ?Y1q ?Y3c ?V1u ?Y3b ?V6r ?V1y ?B8b ?B6n ?B9m ?B7c ?B2a ?Z3u ?V8q ?V3g ?Y3j ?Y2a ?Y4g ?Y1z ?V4h ?Y4c ?V7a ?V1m ?B9g ?B9n ?B7p ?B7s ?B1u ?Z5z ?V1q ?V7b ?V3t ?V7t ?Y3x ?Y0x ?V9g ?V8p ?Y1g ?Y1s ?B6z ?B9x ?B6v ?B9q ?B1x ?Z4y ?Y3e ?V7r ?V9y ?V4m ?V8m ?V2c ?V8t ?V9q ?V9a ?Y1d ?B6p ?B9d ?B9w ?B8s ?B1t ?Z4j ?V1s ?Y2q ?V4g ?V7j ?V4w ?V7q ?Y1v ?Y2k ?V8u ?V3y ?B6q ?B8f ?B8t ?B9c ?B1z ?Z4w ?V8c ?V6s ?Y3d ?V7w ?V4j ?V9h ?Y1f ?V4x ?Y0f ?Y4m ?B6x ?B8r ?B6t ?B7v ?B2b ?Z4h ?V4u ?Y1n ?V4e ?V1n ?Y0a ?Y2w ?V3w ?Y3g ?B8e ?B8g ?A5u ?B3r ?V9p ?V8y ?V7z ?V2k ?V7s ?D9t ?A6f ?A5t ?A6c ?A6m ?A1n ?B0t ?B0j ?B0s ?B0h ?A3c ?A5y ?A5k ?A6g ?A7g ?A1g ?B0z ?A9m ?B1c ?A9b ?A2z ?A5r ?A7a ?A7d ?A6w ?A1k ?B0m ?B0g ?B0x ?A8s ?A3f ?A7k ?A7c ?A7r ?A7m ?A1j ?A9k ?B0q ?B0v ?B0b ?A3h ?A6q ?A5m ?A7b ?A6t ?A1m ?B0c ?A9p ?A9n ?A9t ?A3d ?A5q ?A6k ?A6z ?A7n ?A1h ?A9a ?A9c ?B1h ?A9x ?A3b ?A5n ?A6v ?A7p ?A7h ?A1p ?B1j ?A9z ?A9f ?A8q ?A3g ?A6p ?A5v ?A7f ?A5x ?A1f ?B1e ?B0r ?A9j ?B0n ?A3a ?Z5c ?V5q ?V1r ?Y1p ?Y0u ?V7c ?Y2x ?B7x ?B7t ?B3a ?B9a ?B3q ?A5p ?Y3w ?Y2u ?V7x ?V5j ?V2q ?J9y ?B2z ?B3p ?B3t ?B3z ?A5z ?B1b ?B1f ?B0k ?B0e ?A3e ?C5n ?C5m ?C5x ?C4u ?B5g ?B1g ?B0f ?B0u ?A9s ?A2y ?Z5h ?Y4a ?V3d ?V4b ?V8n ?V5n ?V3q ?V9v ?Y1h ?C4r ?A9v ?B3k ?V3j ?V9k ?V7y ?Y2c ?Y2z ?G7f ?B3y ?B3w ?B3c ?B2x ?A6h ?D9d ?G2a ?D4r ?D9k ?C1c ?Y8n ?V8x ?Z6c ?Z4q ?Z6a ?a_CR ?cty ?ccl ?cex ?sub3 ?xga3 ?xgh3 ?xca3 ?xob3 ?xbe3 ?xcl3 ?h3_1 ?h3_2 ?h3_3 ?hv3 ?lT ?lN ?alN ?niT ?lT1 ?saT ?nsg3 ?Z0a ?Z6h ?Z4v ?fcT ?kTR ?q1 ?q2 ?a_S ?lS ?Z5n ?V2h ?V9n ?V9x ?V2u ?Y1j ?Y2n ?V7p ?Y0j ?C3n ?B3u ?Y2d ?Y0y ?Y0g ?V2x ?Y0k ?G5r ?B3h ?B2y ?B3j ?B3n ?A6d ?D8x ?D5s ?G1b ?D7a ?C1e ?Y1m
   case A8t|A8z|B0y|A9y|D7p|D4j|G0s|G0k|C6d|C4n|C5j|C3h|G0r|G1e|D5c|D4c|D7f|D6n|D6d|D3x|G0y|G0g|G1m|D6b|V8a|V5g|V4c|Y2j|B9h|B7k|B9z|B7z|J2j|J2w|J0m|J6s|J4j|J4x|J7d|J2c|D9h|D7e|D8e|G1f|B3g|B4e|B3s|B4b|D7g|D6u|D9b|D5p|C6t|C5e|C5c|C4c|V7d|Y3m|V5b|V2m => k_is
   case B7m|B7u|B6u|B8x|B9k|B8j|B8m|B8c|C6m|C3r|C3z|C5y|B8k|B7a|B7q|B7y|A8v|A9g|A9q|A8r|C5g|C5s|C3u|C6j|C3y|C3v|C6k|C4q|G1g|D8b|D6w|D8y|D7v|D5j|G1s|D6a|B8p|B6s|B6r|B7h|B8u|B8z|B8h|B6w|C4j|C4s|C4p|C4x|J1g|J2y|J7c|J3p|B8y|B9s|B9y|B7j|J4s|J2d|J4u|J1s => k_is
   case D9y|D4d|D6f|D7c|B7f|B7e|B7d|B6y|D7s|D7n|D9j|D8j|D4b|D9e|D8t|D8m|D6p|D7x|D4t|D4q|B3f|B3e|B3d|B3b|C6r|C5u|C4w|C6v|B9b|B9j|B6j|B7b|J4n|J7h|J1y|J6g|D5w|D5t|D6q|D9v|J6q|J4r|J4d|J7n|J3v|J6d|J5t|J6b|C3w|C4z|C3g|C4y|C6y|C3x|C5h|C6p|C3k|C5t|C6b|C4v => k_is
   case C5f|C3p|C5a|C6c|U0a|Y3h|Y2b|V9s|A7e|V6x|J6m|V9t|J4h|G1p|J7k|Y2h|G2e|V8s|Y3p|Y0s|V7v|V5f|V3m|J5h|A9u|B3v|V6g|C5k|C5d|Y0b|A6s => k_is
   case B4a|A9r|B3x|A9d|A6u|B1d|A8y|A5s|B0d|A6y|A3w|A6n|B3m|B0p|B4f|A8w|A6e|A9e|B0w|A7j|A9w|A6r|A3r|A6j|A6a|A3t|A5w|A3u|A2m|A3s|B0a|A7q|A9h|A6x|A3v|A6b|A1b|A0f|A1a|A0e|Z1|A0b => kit_is
   case sn|tk|a_CW|Z5q|V6b|V7n|V7h|Y3u|V5e|Y0p|V6z|V5y|Y4f => k_is
   case V5d => kit_is
   case B8q|B9p|B8w|B9f|B1w|Z5w|V3r|V4r|Y1c|V3c|V1t|V1x|V5v|V3h|Y2y => k_is
   case V1j => kit_is
   case B9e|B7r|B9r|B8d|B1y|Z5y|Y1b|V2d|Y0n|V9r|Y1q|Y3c|V1u|Y3b|V6r => k_is
   case V1y => kit_is
   case B8b|B6n|B9m|B7c|B2a|Z3u|V8q|V3g|Y3j|Y2a|Y4g|Y1z|V4h|Y4c|V7a => k_is
   case V1m => kit_is
   case B9g|B9n|B7p|B7s|B1u|Z5z|V1q|V7b|V3t|V7t|Y3x|Y0x|V9g|V8p|Y1g => k_is
   case Y1s => kit_is
   case B6z|B9x|B6v|B9q|B1x|Z4y|Y3e|V7r|V9y|V4m|V8m|V2c|V8t|V9q|V9a => k_is
   case Y1d => kit_is
   case B6p|B9d|B9w|B8s|B1t|Z4j|V1s|Y2q|V4g|V7j|V4w|V7q|Y1v|Y2k|V8u => k_is
   case V3y => kit_is
   case B6q|B8f|B8t|B9c|B1z|Z4w|V8c|V6s|Y3d|V7w|V4j|V9h|Y1f|V4x|Y0f => k_is
   case Y4m => kit_is
   case B6x|B8r|B6t|B7v|B2b|Z4h|V4u|Y1n|V4e|V1n|Y0a|Y2w|V3w|Y3g|B8e|B8g|A5u|B3r|V9p|V8y|V7z|V2k|V7s => k_is
   case D9t => kit_is
   case A6f|A5t|A6c|A6m|A1n|B0t|B0j|B0s|B0h|A3c|A5y|A5k|A6g|A7g|A1g|B0z|A9m|B1c|A9b|A2z|A5r|A7a|A7d|A6w|A1k|B0m|B0g|B0x|A8s|A3f|A7k|A7c|A7r|A7m|A1j|A9k|B0q|B0v|B0b|A3h|A6q|A5m|A7b|A6t|A1m|B0c|A9p|A9n|A9t|A3d|A5q|A6k|A6z|A7n|A1h|A9a|A9c|B1h|A9x|A3b => k_is
   case A5n|A6v|A7p|A7h|A1p|B1j|A9z|A9f|A8q|A3g|A6p|A5v|A7f|A5x|A1f|B1e|B0r|A9j|B0n|A3a|Z5c|V5q|V1r|Y1p|Y0u|V7c|Y2x|B7x|B7t|B3a|B9a|B3q|A5p|Y3w|Y2u|V7x|V5j|V2q|J9y|B2z|B3p|B3t|B3z|A5z|B1b|B1f|B0k|B0e|A3e|C5n|C5m|C5x|C4u|B5g|B1g|B0f|B0u|A9s|A2y|Z5h => k_is
   case Y4a|V3d|V4b|V8n|V5n|V3q|V9v|Y1h|C4r|A9v|B3k|V3j|V9k|V7y|Y2c|Y2z|G7f|B3y|B3w|B3c|B2x|A6h|D9d|G2a|D4r|D9k|C1c|Y8n => k_is
   case V8x => kit_is
   case Z6c|Z4q|Z6a|a_CR|cty|ccl|cex|sub3|xga3|xgh3|xca3|xob3|xbe3|xcl3 => k_is
   case h3_1|h3_2|h3_3|hv3 => kit_is
   case lT|lN => k_is
   case alN => simp
   case niT|lT1|saT|nsg3|Z0a|Z6h|Z4v => k_is
   case fcT => rfl
   case kTR => kit_is
   case q1|q2 => k_exc
   case a_S|lS|Z5n|V2h|V9n|V9x|V2u|Y1j|Y2n|V7p|Y0j|C3n|B3u|Y2d|Y0y|Y0g|V2x|Y0k|G5r|B3h|B2y|B3j|B3n|A6d|D8x|D5s|G1b|D7a|C1e => k_is
   case Y1m => kit_is

