import PyProof.Rows.All
import Wide.All
import OpenK.AllK
import Wide.FinOn
import Lean
import PyProof.EqAt
import PyProof.EqKinds
import PyProof.TupleCall
import PyProof.Rows.Catch
import PyProof.Rows.TupIter
import PyProof.TupleIter
import PyProof.Seq
import PyProof.ExcInit
import PyProof.ExcClass2
import KE.KIntText
import PyProof.StrOps2
import PyProof.ConsumeWalk
import PyProof.Rows.RuleM_int
import PyProof.ZipIter
import PyProof.EnumMake
import KE.KLam
import PyProof.StrWalks
import PyProof.Rows.TupAssign
import PySem.Challenge.RW_tenreckon_k37_whole_order_kept
set_option Elab.async false
set_option linter.all false
set_option maxRecDepth 100000
namespace L2
open PySem PySem.Spec PyProof.Rows
abbrev Key := Sum Int Str
def Y8z : Key -> Value -> Bool
 | .inl k, v => Value.isInt k v
 | .inr x, v => Value.isStrOf x v
def keyH (w : World) : Key -> Int
 | .inl k => hashInt k
 | .inr x => hashStr w x
theorem U2 : ∀ {k : Key} {v : Value}, Y8z k v = true -> (∃ i t, k = Sum.inl i /\ v = Value.int i t) \/ (∃ x t, k = Sum.inr x /\ v = Value.str x t)
 | .inl i, v, h => by
   obtain ⟨t, e⟩ := Value.isInt_shape (k := i) (v := v) h
   exact .inl ⟨i, t, rfl, e⟩
 | .inr x, v, h => by
   obtain ⟨t, e⟩ := Value.isStrOf_shape (x := x) (v := v) h
   exact .inr ⟨x, t, rfl, e⟩
theorem Z0z (a b : Int) : decide ((Sum.inl a : Key) = Sum.inl b) = (a == b) := by
 by_cases e : a = b
 . subst e; simp
 . have h : ¬ (Sum.inl a : Key) = Sum.inl b := fun q => e (Sum.inl.inj q)
   rw [decide_eq_false h]
   exact (beq_eq_false_iff_ne.mpr e).symm
theorem Y9m (a b : Str) : decide ((Sum.inr a : Key) = Sum.inr b) = decide (a = b) := by
 by_cases e : a = b
 . subst e; simp
 . have h : ¬ (Sum.inr a : Key) = Sum.inr b := fun q => e (Sum.inr.inj q)
   rw [decide_eq_false h, decide_eq_false e]
theorem Z1p (a : Int) (b : Str) : decide ((Sum.inl a : Key) = Sum.inr b) = false := decide_eq_false (fun q => nomatch q)
theorem Y9u (a : Str) (b : Int) : decide ((Sum.inr a : Key) = Sum.inl b) = false := decide_eq_false (fun q => nomatch q)
def J7y (prog : Program) (w : World) : PySem.KeyKind prog w Key where
 is := Y8z
 hash := keyH w
 inj := fun v a b ha hb => by
   rcases U2 ha with ⟨i, t, rfl, rfl⟩ | ⟨x, t, rfl, rfl⟩
   . rcases U2 hb with ⟨j, u, rfl, e⟩ | ⟨y, u, rfl, e⟩
     . injection e with e1 _; rw [e1]
     . exact nomatch e
   . rcases U2 hb with ⟨j, u, rfl, e⟩ | ⟨y, u, rfl, e⟩
     . exact nomatch e
     . injection e with e1 _; rw [e1]
 byValue := fun k v h => by
   rcases U2 h with ⟨i, t, rfl, rfl⟩ | ⟨x, t, rfl, rfl⟩ <;> rfl
 pyHash := fun hv h => by
   rcases U2 hv with ⟨i, t, rfl, rfl⟩ | ⟨x, t, rfl, rfl⟩
   . exact wpAny_pyHash_int h
   . exact wpAny_pyHash_str h
 eqBool := fun hu hv h => by
   rcases U2 hu with ⟨i, t, rfl, rfl⟩ | ⟨x, t, rfl, rfl⟩
   . rcases U2 hv with ⟨j, u, rfl, rfl⟩ | ⟨y, u, rfl, rfl⟩
     . rw [Z0z] at h; exact wpAny_eqBool_int h
     . rw [Z1p] at h; exact SeqAt.EqAt.int_str i t y u _ _ _ _ h
   . rcases U2 hv with ⟨j, u, rfl, rfl⟩ | ⟨y, u, rfl, rfl⟩
     . rw [Y9u] at h; exact SeqAt.EqAt.str_int x t j u _ _ _ _ h
     . rw [Y9m] at h; exact wpAny_eqBool_str h
 «strs» := fun k x t v h => by
   rcases U2 h with ⟨i, u, rfl, e⟩ | ⟨y, u, rfl, e⟩
   . exact nomatch e
   . injection e with e1 _
     subst e1
     cases v <;> rfl
inductive V where
 | non | bl (b : Bool) | int (i : Int) | str (x : Str) | byt (b : Array UInt8) | flt (b : UInt64) | ref (a : Addr) | ty (n : String)
 deriving DecidableEq
def RelV : V -> Value -> Prop
 | .non, u => u = Value.none
 | .bl b, u => u = Value.bool b
 | .int i, u => ∃ t, u = Value.int i t
 | .str x, u => ∃ t, u = Value.str x t
 | .byt b, u => ∃ t, u = Value.bytes b t
 | .flt b, u => ∃ t, u = Value.float b t
 | .ref a, u => u = Value.ref a
 | .ty n, u => u = Value.type n
abbrev Vals : List V -> List Value -> Prop := Paired RelV
theorem Vals.length {xs : List V} {us : List Value} (r : Vals xs us) : xs.length = us.length := Paired.length r
theorem Vals.get : ∀ {xs : List V} {us : List Value} {i : Nat} {x : V}, Vals xs us -> xs[i]? = some x -> ∃ u, us[i]? = some u /\ RelV x u
 | _, _, _, _, .nil, e => by simp at e
 | _, _, 0, _, .cons r _, e => by simp at e; subst e; exact ⟨_, rfl, r⟩
 | _, _, i + 1, x, .cons _ t, e => by
   obtain ⟨u, h1, h2⟩ := Vals.get (i := i) (x := x) t (by simpa using e)
   exact ⟨u, by simpa using h1, h2⟩
theorem Vals.set {x : V} {u : Value} (r : RelV x u) : ∀ {xs : List V} {us : List Value} (i : Nat), Vals xs us -> Vals (xs.set i x) (us.set i u)
 | _, _, _, .nil => .nil
 | _, _, 0, .cons _ t => .cons r t
 | _, _, i + 1, .cons q t => .cons q (Vals.set r i t)
theorem Vals.append : ∀ {xs ys : List V} {us ws : List Value}, Vals xs us -> Vals ys ws -> Vals (xs ++ ys) (us ++ ws)
 | _, _, _, _, .nil, s => s
 | _, _, _, _, .cons r t, s => .cons r (Vals.append t s)
def RelO : Option V -> Option Value -> Prop
 | some v, some u => RelV v u
 | none, none => True
 | _, _ => False
def KV {κ : Type} : List (κ × V) -> List (κ × Value) -> Prop := Paired fun (p : κ × V) (q : κ × Value) => p.1 = q.1 /\ RelV p.2 q.2
def kV : Key -> V
 | .inl i => .int i
 | .inr x => .str x
inductive HO where
 | lst (xs : List V)
 | tup (xs : List V)
 | dK (kvs : List (Key × V)) | dT (kvs : List (List Key × V))
 | set (S : Int -> Bool) (n : Nat)
 | ins (C dx : Addr) (fs : List (Str × V))
 | own (x : Addr)
 | xd (fs : List (Str × V))
 | met (f x : Addr)
 | rng (lo hi : Int)
 | frz (o : Obj) (u : HO)
 | tbl (ps : Array Value)
 | ext (φ : Heap -> Prop)
abbrev Hp := Addr -> Option HO
def upd (H : Hp) (a : Addr) (o : HO) : Hp := fun b => if b = a then some o else H b
theorem A9 {H : Hp} {a : Addr} {o : HO} : upd H a o a = some o := by unfold upd; rw [if_pos rfl]
theorem C8 {H : Hp} {a b : Addr} {o : HO} (h : b ≠ a) : upd H a o b = H b := by unfold upd; rw [if_neg h]
theorem Y4x {H : Hp} {a : Addr} {o u : HO} : upd (upd H a o) a u = upd H a u := by
 funext b; unfold upd; split <;> rfl
theorem A7m {H : Hp} {a b : Addr} {o u : HO} (h : H a = some o) (h' : H b = some u) (d : o ≠ u) : a ≠ b := by
 intro e; subst e; rw [h] at h'; exact d (Option.some.inj h')
theorem D0 {H : Hp} {a b : Addr} {o : HO} (h : H a = some o) (h' : H b = none) : a ≠ b := by
 intro e; subst e; rw [h] at h'; cases h'
section
variable (P : Program) (w : World)
def ObjOk (H : Hp) (h : Heap) (a : Addr) : HO -> Prop
 | .lst xs => xs.length <= sizeLine /\ ∃ (its : List Value) (n : Nat), Vals xs its /\ h.get? a = some { cls := .type "list", data := .seq its.toArray n }
 | .tup xs => xs.length <= sizeLine /\ ∃ its : List Value, Vals xs its /\ IsTup h a its.toArray
 | .dK kvs => kvs.length <= sizeLine /\ (a == sysModules) = false /\ ∃ vs, KV kvs vs /\ h.DictOf (J7y P w) a vs
 | .dT kvs => kvs.length <= sizeLine /\ (a == sysModules) = false /\ ∃ xs : List (List Key × Addr × Value),
     Paired (fun (p : List Key × V) (q : List Key × Addr × Value) => p.1 = q.1 /\ H q.2.1 = some (.tup (p.1.map kV)) /\ RelV p.2 q.2.2) kvs xs /\
     ∃ o es ep, h.get? a = some o /\ o.ExactDict /\ o.data = .dict es ep /\ es.toList = xs.map (entryOfKey (tupleKind (J7y P w))) /\ (xs.map (·.1)).Nodup
 | .set S n => h.SetOf (intKind P w) a S n
 | .ins C dx fs => H dx = some (.own a) /\ fs.length <= 1000 /\ dx ≠ a /\ h.get? a = some (PySem.W.instObj C dx) /\
     ∃ mA, h.Ns1 dx mA /\ (∀ f, RelO (fs.lookup f) (mA f)) /\ PySem.Within mA (fs.map (·.1))
 | .own _ => ∃ o, h.get? a = some o
 | .xd fs => ∃ mA, h.Ns1 a mA /\ ∀ f, RelO (fs.lookup f) (mA f)
 | .rng lo hi => ∃ t u v, h.get? a = some { cls := .type "range", data := .fields #[.int lo t, .int hi u, .int 1 v] }
 | .frz o u => h.get? a = some o /\ ObjOk H h a u
 | .tbl ps => h.get? a = some { cls := .none, data := .fields ps }
 | .met f x => h.get? a = some (PySem.W.methodObj (.ref f) (.ref x))
 | .ext φ => φ h /\ (∃ o, h.get? a = some o) /\ ∀ h1 h2 : Heap, φ h1 -> (∀ o, h1.get? a = some o -> h2.get? a = some o) -> φ h2
def HOk (H : Hp) (h : Heap) : Prop := ∀ a o, H a = some o -> ObjOk P w H h a o
end
section
variable {P : Program} {w : World} {H H' : Hp} {h h' : Heap} {a : Addr} {o : HO}
theorem ObjOk.lt (x : ObjOk P w H h a o) : a < h.objs.size := by
 cases o with
 | lst xs => obtain ⟨_, _, _, _, e⟩ := x; exact Heap.lt_size e
 | tup xs => obtain ⟨_, _, _, p⟩ := x; exact p.lt
 | dK kvs => obtain ⟨_, _, _, _, o, _, _, e, _⟩ := x; exact Heap.lt_size e
 | dT kvs => obtain ⟨_, _, _, _, o, _, _, e, _⟩ := x; exact Heap.lt_size e
 | set S n => obtain ⟨o, _, _, _, e, _⟩ := x; exact Heap.lt_size e
 | ins C dx fs => obtain ⟨_, _, _, e, _⟩ := x; exact Heap.lt_size e
 | own y => obtain ⟨_, e⟩ := x; exact Heap.lt_size e
 | xd fs => obtain ⟨_, ⟨_, _, _, e, _⟩, _⟩ := x; exact Heap.lt_size e
 | rng lo hi => obtain ⟨_, _, _, e⟩ := x; exact Heap.lt_size e
 | frz ob u => obtain ⟨e, _⟩ := x; exact Heap.lt_size e
 | tbl ps => exact Heap.lt_size (show h.get? a = some _ from x)
 | met f y => exact Heap.lt_size (show h.get? a = some _ from x)
 | ext φ => obtain ⟨_, ⟨_, e⟩, _⟩ := x; exact Heap.lt_size e
theorem Paired.mapP {α β : Type} {F G : α -> β -> Prop} : ∀ {l₁ : List α} {l₂ : List β}, Paired F l₁ l₂ -> (∀ a b, F a b -> G a b) -> Paired G l₁ l₂
 | _, _, .nil, _ => .nil
 | _, _, .cons r t, f => .cons (f _ _ r) (Paired.mapP t f)
theorem ObjOk.stay (x : ObjOk P w H h a o) (k : ∀ b u, (b = a \/ H b = some (.own a)) -> h.get? b = some u -> h'.get? b = some u)
   (ho : ∀ b, H b = some (.own a) -> H' b = some (.own a)) (ht : ∀ b xs, H b = some (.tup xs) -> H' b = some (.tup xs)) : ObjOk P w H' h' a o := by
 induction o with
 | lst xs => obtain ⟨z, its, n, r, e⟩ := x; exact ⟨z, its, n, r, k _ _ (.inl rfl) e⟩
 | tup xs => obtain ⟨z, its, r, ob, e, c⟩ := x; exact ⟨z, its, r, ob, k _ _ (.inl rfl) e, c⟩
 | dK kvs => obtain ⟨z, y, vs, r, ob, es, ep, e, c⟩ := x; exact ⟨z, y, vs, r, ob, es, ep, k _ _ (.inl rfl) e, c⟩
 | dT kvs =>
   obtain ⟨z, y, xs, r, ob, es, ep, e, c⟩ := x
   exact ⟨z, y, xs, Paired.mapP r fun p q z => ⟨z.1, ht _ _ z.2.1, z.2.2⟩, ob, es, ep, k _ _ (.inl rfl) e, c⟩
 | set S n => obtain ⟨ob, es, ep, t, e, c⟩ := x; exact ⟨ob, es, ep, t, k _ _ (.inl rfl) e, c⟩
 | ins C dx fs =>
   obtain ⟨d, z, ne, e, mA, ⟨od, es, ep, e2, c⟩, r⟩ := x
   exact ⟨ho _ d, z, ne, k _ _ (.inl rfl) e, mA, ⟨od, es, ep, k _ _ (.inr d) e2, c⟩, r⟩
 | own y => obtain ⟨ob, e⟩ := x; exact ⟨ob, k _ _ (.inl rfl) e⟩
 | xd fs => obtain ⟨mA, ⟨od, es, ep, e, c⟩, r⟩ := x; exact ⟨mA, ⟨od, es, ep, k _ _ (.inl rfl) e, c⟩, r⟩
 | rng lo hi => obtain ⟨t, u, v, e⟩ := x; exact ⟨t, u, v, k _ _ (.inl rfl) e⟩
 | frz ob u ih => obtain ⟨e, q⟩ := x; exact ⟨k _ _ (.inl rfl) e, ih q⟩
 | tbl ps =>
   have e : h.get? a = some { cls := .none, data := .fields ps } := x
   show h'.get? a = some { cls := .none, data := .fields ps }
   exact k a _ (.inl rfl) e
 | met f y =>
   have e : h.get? a = some (PySem.W.methodObj (.ref f) (.ref y)) := x
   show h'.get? a = some (PySem.W.methodObj (.ref f) (.ref y))
   exact k a _ (.inl rfl) e
 | ext φ => obtain ⟨p, ⟨o, e⟩, st⟩ := x; exact ⟨st _ _ p fun o q => k _ _ (.inl rfl) q, ⟨o, k _ _ (.inl rfl) e⟩, st⟩
theorem HOk.lt (x : HOk P w H h) (e : H a = some o) : a < h.objs.size := (x a o e).lt
theorem HOk.fresh (x : HOk P w H h) (e : h.objs.size <= a) : H a = none := by
 cases q : H a with
 | none => rfl
 | some u => exact absurd (Nat.lt_of_lt_of_le (x.lt q) e) (Nat.lt_irrefl _)
theorem HOk.kept (x : HOk P w H h) (k : ∀ b u, h.get? b = some u -> h'.get? b = some u) : HOk P w H h' := fun a o e =>
 (x a o e).stay (fun b u _ q => k b u q) (fun _ q => q) fun _ _ q => q
theorem HOk.laid (x : HOk P w H h) (k : ∀ b u, h.get? b = some u -> h'.get? b = some u) (hp : h.objs.size <= a) (new : ObjOk P w (upd H a o) h' a o) : HOk P w (upd H a o) h' := fun b u e => by
 have hn := x.fresh hp
 by_cases hb : b = a
 . subst hb; rw [A9] at e; cases e; exact new
 . rw [C8 hb] at e
   exact (x b u e).stay (fun c v _ q => k c v q) (fun c q => by rw [C8 (D0 q hn)]; exact q) fun c xs q => by rw [C8 (D0 q hn)]; exact q
end
def Rd (H : Hp) (a : Addr) (u : HO) : Prop := H a = some u \/ ∃ o, H a = some (.frz o u)
theorem Rd.ok {P : Program} {w : World} {H : Hp} {h : Heap} {a : Addr} {u : HO} (r : Rd H a u) (x : HOk P w H h) : ObjOk P w H h a u := by
 rcases r with r | ⟨o, r⟩
 . exact x a u r
 . obtain ⟨_, q⟩ := x a _ r
   exact q
def Mut : Option HO -> Prop
 | some (.lst _) => True
 | some (.dK _) => True
 | some (.dT _) => True
 | some (.set _ _) => True
 | some (.ins _ _ _) => True
 | some (.ext _) => True
 | _ => False
section
variable {P : Program} {w : World} {H : Hp} {h h' : Heap} {x e : Addr} {o' : HO}
theorem HOk.write (ok : HOk P w H h) (mu : Mut (H x)) (he : e = x \/ H e = some (.own x)) (k : ∀ b u, b ≠ e -> h.get? b = some u -> h'.get? b = some u) (heo : ∃ u, h'.get? e = some u)
   (new : ObjOk P w (upd H x o') h' x o') : HOk P w (upd H x o') h' := fun b u q => by
 have nown : ∀ c y, H c = some (.own y) -> c ≠ x := fun c y r z => by subst z; rw [r] at mu; exact mu
 have ntup : ∀ c xs, H c = some (.tup xs) -> c ≠ x := fun c xs r z => by subst z; rw [r] at mu; exact mu
 by_cases hb : b = x
 . subst hb; rw [A9] at q; cases q; exact new
 . rw [C8 hb] at q
   by_cases hbe : b = e
   . have q' : H b = some (.own x) := by
       rcases he with z | z
       . exact absurd (hbe.trans z) hb
       . rw [hbe]; exact z
     rw [q] at q'; cases q'
     obtain ⟨v, hv⟩ := heo
     exact ⟨v, by rw [hbe]; exact hv⟩
   . refine (ok b u q).stay (fun c v hc r => k c v ?_ r) (fun c r => by rw [C8 (nown c b r)]; exact r) fun c xs r => by rw [C8 (ntup c xs r)]; exact r
     rcases hc with rfl | hc
     . exact hbe
     . rintro rfl
       rcases he with z | z
       . exact nown c b hc z
       . rw [hc] at z; cases z; exact hb rfl
end
structure Un (fs ex : List Addr) (H H' : Hp) (h h' : Heap) : Prop where
 keep : ∀ b o, h.get? b = some o -> H b = none -> b ∉ fs -> b ∉ ex -> h'.get? b = some o
 slot : ∀ b o, h.get? b = some o -> H b = none -> b ∈ fs -> b ∉ ex -> ∃ sl, h'.get? b = some { o with slots := sl }
 free : ∀ b o, h.get? b = some o -> H b = none -> b ∉ ex -> H' b = none
 there : ∀ b o, h.get? b = some o -> b ∉ ex -> ∃ o', h'.get? b = some o'
 tups : ∀ b xs, H b = some (.tup xs) -> H' b = some (.tup xs)
 frzs : ∀ b o u, H b = some (.frz o u) -> H' b = some (.frz o u)
 tbls : ∀ b ps, H b = some (.tbl ps) -> ∃ more, H' b = some (.tbl (ps ++ more))
section
variable {fs fs' ex ex' : List Addr} {H H1 H2 : Hp} {h h1 h2 h' : Heap} {a x e : Addr} {o : HO}
theorem Un.any (u : Un fs ex H H1 h h1) {b : Addr} {ob : Obj} (q : h.get? b = some ob) (n : H b = none) (hx : b ∉ ex) : ∃ sl, h1.get? b = some { ob with slots := sl } := by
 by_cases hb : b ∈ fs
 . exact u.slot b ob q n hb hx
 . exact ⟨ob.slots, u.keep b ob q n hb hx⟩
theorem Un.kept (k : ∀ b u, h.get? b = some u -> h'.get? b = some u) : Un fs ex H H h h' :=
 ⟨fun b ob q _ _ _ => k b ob q, fun b ob q _ _ _ => ⟨ob.slots, k b ob q⟩, fun _ _ _ n _ => n, fun b ob q _ => ⟨ob, k b ob q⟩, fun _ _ q => q, fun _ _ _ q => q, fun _ ps q => ⟨#[], by rw [q]; simp⟩⟩
theorem Un.refl : Un fs ex H H h h := Un.kept fun _ _ q => q
theorem Un.laid (k : ∀ b u, h.get? b = some u -> h'.get? b = some u) (hp : h.objs.size <= a) (hn : H a = none) : Un fs ex H (upd H a o) h h' where
 keep := fun b u q _ _ _ => k b u q
 slot := fun b u q _ _ _ => ⟨u.slots, k b u q⟩
 free := fun b u q n _ => by rw [C8 (Nat.ne_of_lt (Nat.lt_of_lt_of_le (Heap.lt_size q) hp))]; exact n
 there := fun b u q _ => ⟨u, k b u q⟩
 tups := fun b xs q => by rw [C8 (D0 q hn)]; exact q
 frzs := fun b u xs q => by rw [C8 (D0 q hn)]; exact q
 tbls := fun b ps q => ⟨#[], by rw [C8 (D0 q hn), q]; simp⟩
theorem Un.write (mu : Mut (H x)) (he : e = x \/ H e = some (.own x)) (k : ∀ b u, b ≠ e -> h.get? b = some u -> h'.get? b = some u) (heo : ∃ u, h'.get? e = some u) : Un fs ex H (upd H x o) h h' := by
 have hx : ∀ b, H b = none -> b ≠ x := fun b n z => by subst z; rw [n] at mu; exact mu
 have hb : ∀ b, H b = none -> b ≠ e := fun b n z => by
   subst z
   rcases he with r | r
   . exact hx b n r
   . rw [n] at r; cases r
 have hm : ∀ b u, H b = some u -> ¬ Mut (some u) -> b ≠ x := fun b u q nm z => by subst z; rw [q] at mu; exact nm mu
 refine ⟨fun b u q n _ _ => k b u (hb b n) q, fun b u q n _ _ => ⟨u.slots, k b u (hb b n) q⟩, fun b u q n _ => by rw [C8 (hx b n)]; exact n, fun b u q _ => ?_,
   fun b xs q => by rw [C8 (hm b _ q fun z => z)]; exact q, fun b u xs q => by rw [C8 (hm b _ q fun z => z)]; exact q, fun b ps q => ⟨#[], by rw [C8 (hm b _ q fun z => z), q]; simp⟩⟩
 by_cases hbe : b = e
 . subst hbe; exact heo
 . exact ⟨u, k b u hbe q⟩
end
def trk (h : Heap) (H : Hp) : List Addr := (List.range h.objs.size).filter fun a => (H a).isSome
def D2g (h : Heap) (H : Hp) : Heap := PySem.W.hideAll h (trk h H)
theorem U0k (h : Heap) (H : Hp) : (D2g h H).objs.size = h.objs.size := PySem.W.hideAll_size _ _
theorem U8r {h : Heap} {H : Hp} {b : Addr} {o : Obj} (e : h.get? b = some o) (n : H b = none) : (D2g h H).get? b = some o :=
 PySem.W.hideAll_get _ e fun hm => by
   have q : (H b).isSome = true := (List.mem_filter.mp hm).2
   rw [n] at q; simp at q
theorem Y6f {h : Heap} {H : Hp} {b : Addr} {o : Obj} (e : (D2g h H).get? b = some o) : h.get? b = some o /\ H b = none := by
 have e' : h.get? b = some o := PySem.W.of_hideAll (trk h H) e
 refine ⟨e', ?_⟩
 cases q : H b with
 | none => rfl
 | some x =>
   have hm : b ∈ trk h H := List.mem_filter.mpr ⟨List.mem_range.mpr (Heap.lt_size e'), by simp [q]⟩
   have z : (D2g h H).get? b = none := PySem.W.hideAll_none (trk h H) hm
   rw [z] at e; cases e
structure Mod (K : PySem.W.Frag) (mg : Str -> Option Value) (base : Heap) : Prop where
 kin : K.In base
 glob : base.Ns mainGlobals mg
 blt : ∃ mb, base.Ns builtinsNs mb /\ ∀ x : Str, x ≠ "__name__" -> mb x = bootBuiltins x
 nolimit : base.NoLimit
structure Cx where
 prog : Program
 w : World
 K : PySem.W.Frag
 mg : Str -> Option Value
 base : Heap
 A : Around
 N : List Str
 s₀ : Shared
 H₀ : Hp
 env : Env
 outer : List Env
 stack : List Env
 ex : List Addr
 fn : Str -> Bool
 calm : Bool
 pn : List (Addr × Obj)
 xe : Value -> Shared -> Prop
def frs (l : List Env) : List Addr := l.filterMap (·.frame)
abbrev Cx.fs (X : Cx) : List Addr := frs X.outer
def Vis (sc : Scope) (x : Str) : Prop := sc.names.lookup x = some .local \/ sc.names.lookup x = some .cell \/ sc.names.lookup x = some .free
def Loc (sc : Scope) (x : Str) : Prop := sc.names.lookup x = some .local \/ sc.names.lookup x = some .cell
def Z6t (env : Env) (h : Heap) (m : Str -> Option Value) (x : Str) (u : Value) : Prop :=
 (env.kindOf x = some .local /\ m x = some u) \/ ((env.kindOf x = some .cell \/ env.kindOf x = some .free) /\ ∃ c, env.cells.lookup x = some c /\ h.IsCell c (some u))
structure Cx.Ok (X : Cx) : Prop where
 mod : Mod X.K X.mg X.base
 kind : X.env.scope.kind = .function
 glob : X.env.globals = mainGlobals
 blt : X.env.builtins = builtinsNs
 above : X.s₀.heap.objs.size <= X.env.locals
 inj : ∀ x y c, X.env.cells.lookup x = some c -> X.env.cells.lookup y = some c -> x = y
 has : ∀ x, (X.env.kindOf x = some .cell \/ X.env.kindOf x = some .free) -> ∃ c, X.env.cells.lookup x = some c
 cab : ∀ x c, X.fn x = true -> X.env.cells.lookup x = some c -> X.s₀.heap.objs.size <= c
 hd : X.calm = true -> X.A.handled = none
 frames : X.A.frames = some X.stack
 stk : X.stack = X.outer \/ (X.stack = X.env :: X.outer /\ X.env.frame = some X.env.locals)
 exf : ∀ b ∈ X.ex, b ≠ X.env.locals /\ ∀ x c, X.env.cells.lookup x = some c -> c ≠ b
 bs : ∀ b o, X.base.get? b = some o -> X.s₀.heap.get? b = some o /\ X.H₀ b = none
 bsz : X.base.objs.size <= X.s₀.heap.objs.size
 noex : ∀ b o, X.base.get? b = some o -> b ∉ X.ex
 exfs : ∀ b ∈ X.ex, b ∉ X.fs
 funs : X.s₀.heap.FunFrames X.base X.outer
 frf : ∀ b ∈ X.fs, X.H₀ b = none
structure Inv (X : Cx) (pins : List (Addr × Obj)) (σ : List (Option V)) (H : Hp) (s : Shared) : Prop where
 ok : X.Ok
 os : s.os = X.s₀.os
 bare : AllBare s.gens
 base : Un X.fs X.ex X.H₀ H X.s₀.heap s.heap
 loc : ∃ m, s.heap.Ns X.env.locals m /\ ∀ (i : Nat) (x : Str) (v : V), X.N[i]? = some x -> σ[i]? = some (some v) -> Vis X.env.scope x -> ∃ u, RelV v u /\ Z6t X.env s.heap m x u
 cell : ∀ x c, X.env.cells.lookup x = some c -> ∃ v, s.heap.IsCell c v
 free : H X.env.locals = none
 freeC : ∀ x c, X.env.cells.lookup x = some c -> H c = none
 pin : ∀ p ∈ X.pn ++ pins, s.heap.get? p.1 = some p.2 /\ H p.1 = none /\ p.1 ≠ X.env.locals /\ p.1 ∉ X.fs /\ ∀ v, p.2.data ≠ .cell v
 hok : HOk X.prog X.w H s.heap
 len : σ.length = X.N.length
section
variable {X : Cx} {pins : List (Addr × Obj)} {σ : List (Option V)} {H H' : Hp} {s : Shared} {h' : Heap}
theorem Cx.Ok.nofr (ok : X.Ok) {b : Addr} {o : Obj} (e : X.base.get? b = some o) : b ∉ X.fs := fun hb => by
 have := (ok.funs.mem hb).1
 rw [e] at this; cases this
theorem Inv.bs (I : Inv X pins σ H s) : ∀ b o, X.base.get? b = some o -> s.heap.get? b = some o /\ H b = none := fun b o e =>
 ⟨I.base.keep b o (I.ok.bs b o e).1 (I.ok.bs b o e).2 (I.ok.nofr e) (I.ok.noex b o e), I.base.free b o (I.ok.bs b o e).1 (I.ok.bs b o e).2 (I.ok.noex b o e)⟩
theorem Inv.bk (I : Inv X pins σ H s) : ∀ b o, X.base.get? b = some o -> s.heap.get? b = some o := fun b o e => (I.bs b o e).1
theorem Inv.mod (I : Inv X pins σ H s) : Mod X.K X.mg X.base := I.ok.mod
theorem Inv.kIn (I : Inv X pins σ H s) : X.K.In s.heap := I.ok.mod.kin.keeps I.bk
theorem Inv.lt (I : Inv X pins σ H s) : X.env.locals < s.heap.objs.size := let ⟨_, hn, _⟩ := I.loc; hn.lt
theorem Inv.sz (I : Inv X pins σ H s) : X.s₀.heap.objs.size <= s.heap.objs.size := Nat.le_trans I.ok.above (Nat.le_of_lt I.lt)
theorem Inv.nofs (I : Inv X pins σ H s) {a : Addr} (h : s.heap.objs.size <= a) : a ∉ X.fs := fun hb => by
 obtain ⟨_, o, ho, _⟩ := I.ok.funs.mem hb
 exact absurd (Nat.lt_of_lt_of_le (Heap.lt_size ho) (Nat.le_trans I.sz h)) (Nat.lt_irrefl _)
theorem Inv.cne (I : Inv X pins σ H s) : ∀ x c, X.env.cells.lookup x = some c -> c ≠ X.env.locals := fun x c e z => by
 obtain ⟨v, o, ho, hd⟩ := I.cell x c e
 obtain ⟨m, ⟨o', es, ep, ho', hd', _⟩, _⟩ := I.loc
 rw [z, ho'] at ho; cases ho; rw [hd'] at hd; cases hd
theorem Inv.funs (I : Inv X pins σ H s) : s.heap.FunFrames X.base X.outer := by
 have all : ∀ (l : List Env), (∀ b ∈ frs l, b ∈ X.fs) -> X.s₀.heap.FunFrames X.base l -> s.heap.FunFrames X.base l := by
   intro l
   induction l with
   | nil => intro _ _; trivial
   | cons env r ih =>
     intro hs hl
     obtain ⟨hk, ⟨L, o, hf, hn, ho, hd⟩, hr⟩ := hl
     have hL : L ∈ X.fs := hs L (by unfold frs; rw [List.filterMap_cons, hf]; exact List.mem_cons_self)
     obtain ⟨sl, e⟩ := I.base.slot L o ho (I.ok.frf L hL) hL fun z => I.ok.exfs L z hL
     exact ⟨hk, ⟨L, _, hf, hn, e, hd⟩, ih (fun b hb => hs b (by unfold frs; rw [List.filterMap_cons, hf]; exact List.mem_cons_of_mem _ hb)) hr⟩
 exact all X.outer (fun _ hb => hb) I.ok.funs
theorem Inv.stack (I : Inv X pins σ H s) : s.heap.FunFrames X.base X.stack := by
 rcases I.ok.stk with e | ⟨e, hf⟩
 . rw [e]; exact I.funs
 . rw [e]
   obtain ⟨m, hn, _⟩ := I.loc
   refine .cons (by rw [I.ok.kind]; decide) hf hn ?_ I.funs
   exact Heap.get?_none_of_le (Nat.le_trans I.ok.bsz I.ok.above)
theorem Inv.stkSub (I : Inv X pins σ H s) : ∀ b ∈ frs X.stack, b ∈ X.env.locals :: X.fs := fun b hb => by
 rcases I.ok.stk with e | ⟨e, hf⟩
 . rw [e] at hb; exact List.mem_cons_of_mem _ hb
 . rw [e] at hb
   unfold frs at hb
   rw [List.filterMap_cons, hf] at hb
   exact hb
theorem Inv.stkFree (I : Inv X pins σ H s) : ∀ b ∈ frs X.stack, H b = none := fun b hb => by
 rcases List.mem_cons.mp (I.stkSub b hb) with e | hb
 . rw [e]; exact I.free
 . obtain ⟨_, o, ho, _⟩ := I.ok.funs.mem hb
   exact I.base.free b o ho (I.ok.frf b hb) fun z => I.ok.exfs b z hb
theorem Inv.step {g' : Array GenState} {t' : Nat} {d' : Drawn} {ch : List Addr} (I : Inv X pins σ H s)
   (hch : ∀ b ∈ ch, (b ∈ X.ex \/ X.s₀.heap.objs.size <= b) /\ b ≠ X.env.locals /\ (∀ x c, X.env.cells.lookup x = some c -> c ≠ b) /\ ∀ p ∈ X.pn ++ pins, p.1 ≠ b)
   (keep : ∀ b o, b ≠ X.env.locals -> b ∉ X.fs -> b ∉ ch -> s.heap.get? b = some o -> H b = none -> h'.get? b = some o)
   (slot : ∀ b o, b ≠ X.env.locals -> b ∈ X.fs -> b ∉ ch -> s.heap.get? b = some o -> H b = none -> ∃ sl, h'.get? b = some { o with slots := sl }) (free : ∀ b o, b ∉ ch -> s.heap.get? b = some o -> H b = none -> H' b = none)
   (there : ∀ b o, b ∉ ch -> s.heap.get? b = some o -> ∃ o', h'.get? b = some o')
   (tups : ∀ b xs, H b = some (.tup xs) -> H' b = some (.tup xs)) (frzs : ∀ b o u, H b = some (.frz o u) -> H' b = some (.frz o u)) (tbls : ∀ b ps, H b = some (.tbl ps) -> ∃ more, H' b = some (.tbl (ps ++ more)))
   (ns : ∀ m, s.heap.Ns X.env.locals m -> h'.Ns X.env.locals m) (hok : HOk X.prog X.w H' h') (hg : AllBare g') :
   Inv X pins σ H' { s with heap := h', gens := g', drawn := d', toks := t' } := by
 have neL : ∀ b o, X.s₀.heap.get? b = some o -> b ≠ X.env.locals := fun b o e => Nat.ne_of_lt (Nat.lt_of_lt_of_le (Heap.lt_size e) I.ok.above)
 have neC : ∀ b o, X.s₀.heap.get? b = some o -> b ∉ X.ex -> b ∉ ch := fun b o e hx hb => by
   rcases (hch b hb).1 with z | z
   . exact hx z
   . exact absurd (Nat.lt_of_lt_of_le (Heap.lt_size e) z) (Nat.lt_irrefl _)
 have cellK : ∀ x c, X.env.cells.lookup x = some c -> ∀ v, s.heap.IsCell c v -> h'.IsCell c v := fun x c e v ⟨o, ho, hd⟩ => by
   have nch : c ∉ ch := fun z => (hch c z).2.2.1 x c e rfl
   by_cases hc : c ∈ X.fs
   . obtain ⟨sl, q⟩ := slot c o (I.cne x c e) hc nch ho (I.freeC x c e)
     exact ⟨_, q, hd⟩
   . exact ⟨o, keep c o (I.cne x c e) hc nch ho (I.freeC x c e), hd⟩
 refine ⟨I.ok, I.os, hg, ⟨fun b o e n hb hx => ?_, fun b o e n hb hx => ?_, fun b o e n hx => ?_, fun b o e hx => ?_, fun b xs e => tups b xs (I.base.tups b xs e), fun b o xs e => frzs b o xs (I.base.frzs b o xs e), fun b ps e => ?_⟩, ?_, fun x c e => ?_, ?_, fun x c e => ?_, fun p hp => ?_, hok, I.len⟩
 . exact keep b o (neL b o e) hb (neC b o e hx) (I.base.keep b o e n hb hx) (I.base.free b o e n hx)
 . obtain ⟨sl, e1⟩ := I.base.slot b o e n hb hx
   obtain ⟨sl', e2⟩ := slot b _ (neL b o e) hb (neC b o e hx) e1 (I.base.free b o e n hx)
   exact ⟨sl', e2⟩
 . obtain ⟨o', e1⟩ := I.base.there b o e hx
   exact free b o' (neC b o e hx) e1 (I.base.free b o e n hx)
 . obtain ⟨o', e1⟩ := I.base.there b o e hx
   exact there b o' (neC b o e hx) e1
 . obtain ⟨m1, e1⟩ := I.base.tbls b ps e
   obtain ⟨m2, e2⟩ := tbls b _ e1
   exact ⟨m1 ++ m2, by rw [e2, Array.append_assoc]⟩
 . obtain ⟨m, hn, hl⟩ := I.loc
   refine ⟨m, ns m hn, fun i x v e1 e2 e3 => ?_⟩
   obtain ⟨u, r, l⟩ := hl i x v e1 e2 e3
   refine ⟨u, r, ?_⟩
   rcases l with l | ⟨k, c, e, z⟩
   . exact .inl l
   . exact .inr ⟨k, c, e, cellK x c e _ z⟩
 . obtain ⟨v, z⟩ := I.cell x c e
   exact ⟨v, cellK x c e v z⟩
 . obtain ⟨m, ⟨o, _, _, ho, _⟩, _⟩ := I.loc
   exact free _ o (fun z => (hch _ z).2.1 rfl) ho I.free
 . obtain ⟨v, o, ho, hd⟩ := I.cell x c e
   exact free c o (fun z => (hch c z).2.2.1 x c e rfl) ho (I.freeC x c e)
 . obtain ⟨e, n, ne, nf, d⟩ := I.pin p hp
   have nch : p.1 ∉ ch := fun z => (hch p.1 z).2.2.2 p hp rfl
   exact ⟨keep p.1 p.2 ne nf nch e n, free p.1 p.2 nch e n, ne, nf, d⟩
theorem Inv.un {t' : Nat} (I : Inv X pins σ H s) (u : Un X.fs [] H H' s.heap h') (hok : HOk X.prog X.w H' h') : Inv X pins σ H' { s with heap := h', toks := t' } := by
 obtain ⟨m, ⟨o, es, ep, ho, r⟩, _⟩ := id I.loc
 obtain ⟨sl, hL⟩ := u.any ho I.free (by simp)
 exact I.step (g' := s.gens) (d' := s.drawn) (ch := []) (fun _ z => nomatch z) (fun b o _ hb _ e n => u.keep b o e n hb (by simp)) (fun b o _ hb _ e n => u.slot b o e n hb (by simp)) (fun b o _ e n => u.free b o e n (by simp)) (fun b o _ e => u.there b o e (by simp)) u.tups u.frzs u.tbls (fun m' hm => by
   obtain ⟨o', es', ep', ho', r'⟩ := hm
   rw [ho] at ho'; cases ho'
   exact ⟨_, es', ep', hL, r'⟩) hok I.bare
theorem Inv.call {g' : Array GenState} {t' : Nat} {d' : Drawn} {ch : List Addr} (I : Inv X pins σ H s) (u : Un (frs X.stack) ch H H' s.heap h') (hok : HOk X.prog X.w H' h') (hg : AllBare g')
   (hch : ∀ b ∈ ch, (b ∈ X.ex \/ X.s₀.heap.objs.size <= b) /\ b ≠ X.env.locals /\ (∀ x c, X.env.cells.lookup x = some c -> c ≠ b) /\ ∀ p ∈ X.pn ++ pins, p.1 ≠ b) :
   Inv X pins σ H' { s with heap := h', gens := g', drawn := d', toks := t' } := by
 obtain ⟨m, ⟨o, es, ep, ho, r⟩, _⟩ := id I.loc
 obtain ⟨sl, hL⟩ := u.any ho I.free fun z => (hch _ z).2.1 rfl
 exact I.step (ch := ch) hch (fun b o hL hb hc e n => u.keep b o e n (fun z => (List.mem_cons.mp (I.stkSub b z)).elim hL hb) hc) (fun b o _ _ hc e n => u.any e n hc) (fun b o hc e n => u.free b o e n hc) (fun b o hc e => u.there b o e hc) u.tups u.frzs u.tbls (fun m' hm => by
   obtain ⟨o', es', ep', ho', r'⟩ := hm
   rw [ho] at ho'; cases ho'
   exact ⟨_, es', ep', hL, r'⟩) hok hg
theorem Inv.turned {t' : Nat} {it : Addr} (I : Inv X pins σ H s) (k : ∀ b o, b ≠ it -> s.heap.get? b = some o -> h'.get? b = some o) (hn : H it = none) (hL : it ≠ X.env.locals)
   (h1 : it ∈ X.ex \/ X.s₀.heap.objs.size <= it) (h2 : ∀ x c, X.env.cells.lookup x = some c -> c ≠ it) (h3 : ∀ p ∈ X.pn ++ pins, p.1 ≠ it) : Inv X pins σ H { s with heap := h', toks := t' } := by
 have nit : ∀ b u, H b = some u -> b ≠ it := fun b u e z => by rw [z, hn] at e; cases e
 refine I.step (g' := s.gens) (d' := s.drawn) (ch := [it]) (fun b hb => ?_) (fun b o _ _ hc e _ => k b o (fun z => hc (by simp [z])) e) (fun b o _ _ hc e _ => ⟨o.slots, k b o (fun z => hc (by simp [z])) e⟩) (fun _ _ _ _ n => n)
   (fun b o hc e => ⟨o, k b o (fun z => hc (by simp [z])) e⟩) (fun _ _ e => e) (fun _ _ _ e => e) (fun b ps e => ⟨#[], by rw [e]; simp⟩) (fun m hm => ?_) (fun b u e => ?_) I.bare
 . have e : b = it := by simpa using hb
   subst e
   exact ⟨h1, hL, h2, h3⟩
 . obtain ⟨o, es, ep, ho, r⟩ := hm
   exact ⟨o, es, ep, k _ o (Ne.symm hL) ho, r⟩
 . refine (I.hok b u e).stay (fun c v hc q => k c v ?_ q) (fun _ q => q) fun _ _ q => q
   rcases hc with z | z
   . rw [z]; exact nit b u e
   . exact nit c _ z
theorem Inv.tok (I : Inv X pins σ H s) (t : Nat) : Inv X pins σ H { s with toks := t } := I.un (h' := s.heap) (t' := t) Un.refl I.hok
theorem Inv.kept {t' : Nat} (I : Inv X pins σ H s) (k : ∀ b u, s.heap.get? b = some u -> h'.get? b = some u) : Inv X pins σ H { s with heap := h', toks := t' } := I.un (Un.kept k) (I.hok.kept k)
theorem Inv.laid {a : Addr} {o : HO} {t' : Nat} (I : Inv X pins σ H s) (k : ∀ b u, s.heap.get? b = some u -> h'.get? b = some u) (hp : s.heap.objs.size <= a) (new : ObjOk X.prog X.w (upd H a o) h' a o) :
   Inv X pins σ (upd H a o) { s with heap := h', toks := t' } := I.un (Un.laid k hp (I.hok.fresh hp)) (I.hok.laid k hp new)
theorem Inv.write {x e : Addr} {o : HO} {t' : Nat} (I : Inv X pins σ H s) (mu : Mut (H x)) (he : e = x \/ H e = some (.own x)) (k : ∀ b u, b ≠ e -> s.heap.get? b = some u -> h'.get? b = some u) (heo : ∃ u, h'.get? e = some u)
   (new : ObjOk X.prog X.w (upd H x o) h' x o) : Inv X pins σ (upd H x o) { s with heap := h', toks := t' } := I.un (Un.write mu he k heo) (I.hok.write mu he k heo new)
theorem Inv.weak {σ' : List (Option V)} (I : Inv X pins σ H s) (hl : σ'.length = σ.length) (w : ∀ (i : Nat) v, σ'[i]? = some (some v) -> σ[i]? = some (some v)) : Inv X pins σ' H s :=
 ⟨I.ok, I.os, I.bare, I.base, let ⟨m, hn, hl'⟩ := I.loc; ⟨m, hn, fun i x v e1 e2 e3 => hl' i x v e1 (w i v e2) e3⟩, I.cell, I.free, I.freeC, I.pin, I.hok, hl.trans I.len⟩
theorem Inv.pins_of {pins' : List (Addr × Obj)} (I : Inv X pins σ H s) (h : ∀ p ∈ pins', s.heap.get? p.1 = some p.2 /\ H p.1 = none /\ p.1 ≠ X.env.locals /\ p.1 ∉ X.fs /\ ∀ v, p.2.data ≠ .cell v) : Inv X pins' σ H s :=
 ⟨I.ok, I.os, I.bare, I.base, I.loc, I.cell, I.free, I.freeC, fun p hp => (List.mem_append.mp hp).elim (fun z => I.pin p (List.mem_append_left _ z)) (h p), I.hok, I.len⟩
theorem G2b {N : List Str} (hN : N.Nodup) {i j : Nat} {x : Str} (a : N[i]? = some x) (b : N[j]? = some x) : i = j := by
 obtain ⟨h1, e1⟩ := List.getElem?_eq_some_iff.mp a
 obtain ⟨h2, e2⟩ := List.getElem?_eq_some_iff.mp b
 exact (List.getElem_inj hN).mp (e1.trans e2.symm)
theorem B5v {M : Model} {A : Around} {E : Value -> Shared -> Prop} {i : Nat} {x : Str} {v : V} {u : Value} {Q : Unit -> Shared -> Prop} (I : Inv X pins σ H s) (hN : X.N.Nodup) (hi : X.N[i]? = some x) (hx : Loc X.env.scope x) (r : RelV v u)
   (h : ∀ s', Inv X pins (σ.set i (some v)) H s' -> (∃ a, Heap.SameBut a s.heap s'.heap /\ (a = X.env.locals \/ X.env.cells.lookup x = some a)) -> Q () s') (hf : X.fn x = true \/ X.env.scope.names.lookup x = some .local := by first | exact .inl rfl | exact .inr rfl | assumption) : wpAny M A (storeName X.env x u) Q E s := by
 obtain ⟨m, hn, hl⟩ := id I.loc
 have hcls : (X.env.scope.kind == .class || (X.env.scope.kind == .module && X.env.locals != X.env.globals)) = false := by rw [I.ok.kind]; rfl
 have hiσ : i < σ.length := by rw [I.len]; exact (List.getElem?_eq_some_iff.mp hi).1
 have cne := I.cne
 have tracked : ∀ {a : Addr} {h' : Heap}, (∃ o, s.heap.get? a = some o /\ H a = none) -> Heap.SameBut a s.heap h' -> HOk X.prog X.w H h' := fun {a h'} ha hs b ob e => by
   obtain ⟨_, _, hfree⟩ := ha
   refine (I.hok b ob e).stay (fun c w' hc q => (hs.2 c ?_).trans q) (fun _ q => q) fun _ _ q => q
   rintro rfl
   rcases hc with rfl | hc
   . rw [hfree] at e; cases e
   . rw [hfree] at hc; cases hc
 rcases hx with hk | hk
 . refine wpAny_storeName_local hk hn (fun h' hn' hs => ?_) hcls
   obtain ⟨oL, _, _, hoL, _⟩ := id hn
   refine h _ ⟨I.ok, I.os, I.bare, ⟨fun b o e n hb hx => ?_, fun b o e n hb hx => ?_, I.base.free, fun b o e hx => ?_, I.base.tups, I.base.frzs, I.base.tbls⟩, ⟨_, hn', fun j y v' e1 e2 e3 => ?_⟩, fun y c e => ?_, I.free, I.freeC, fun p hp => ?_, tracked ⟨oL, hoL, I.free⟩ hs, by simpa using I.len⟩ ⟨_, hs, .inl rfl⟩
   . exact (hs.2 b (Nat.ne_of_lt (Nat.lt_of_lt_of_le (Heap.lt_size e) I.ok.above))).trans (I.base.keep b o e n hb hx)
   . obtain ⟨sl, e1⟩ := I.base.slot b o e n hb hx
     exact ⟨sl, (hs.2 b (Nat.ne_of_lt (Nat.lt_of_lt_of_le (Heap.lt_size e) I.ok.above))).trans e1⟩
   . obtain ⟨o', e1⟩ := I.base.there b o e hx
     exact ⟨o', (hs.2 b (Nat.ne_of_lt (Nat.lt_of_lt_of_le (Heap.lt_size e) I.ok.above))).trans e1⟩
   . by_cases hj : j = i
     . subst hj
       rw [hi] at e1; cases e1
       rw [List.getElem?_set_self hiσ] at e2
       cases e2
       exact ⟨u, r, .inl ⟨hk, by simp⟩⟩
     . rw [List.getElem?_set_ne (Ne.symm hj)] at e2
       obtain ⟨u', r', q⟩ := hl j y v' e1 e2 e3
       refine ⟨u', r', ?_⟩
       rcases q with ⟨k, e⟩ | ⟨k, c, e, z⟩
       . refine .inl ⟨k, ?_⟩
         have : y ≠ x := fun e => hj (G2b hN e1 (e ▸ hi))
         simp [this, e]
       . exact .inr ⟨k, c, e, z.sameBut hs (cne y c e)⟩
   . obtain ⟨w', z⟩ := I.cell y c e
     exact ⟨w', z.sameBut hs (cne y c e)⟩
   . obtain ⟨e, n, ne, nf, d⟩ := I.pin p hp
     exact ⟨(hs.2 p.1 ne).trans e, n, ne, nf, d⟩
 . have hfn : X.fn x = true := by
     rcases hf with z | z
     . exact z
     . rw [z] at hk; cases hk
   obtain ⟨c, hc⟩ := I.ok.has x (.inl hk)
   obtain ⟨w', z⟩ := I.cell x c hc
   refine wpAny_storeName_cell I.ok.kind hk hc z (fun h' hc' hs => ?_)
   obtain ⟨oc, hoc, hocd⟩ := id z
   refine h { s with heap := h' } ⟨I.ok, I.os, I.bare, ⟨fun b o e n hb hx => ?_, fun b o e n hb hx => ?_, I.base.free, fun b o e hx => ?_, I.base.tups, I.base.frzs, I.base.tbls⟩, ⟨m, hn.sameBut hs (Ne.symm (cne x c hc)), fun j y v' e1 e2 e3 => ?_⟩, fun y c' e => ?_, I.free, I.freeC, fun p hp => ?_, tracked ⟨oc, hoc, I.freeC x c hc⟩ hs, by simpa using I.len⟩ ⟨c, hs, .inr hc⟩
   . exact (hs.2 b (Nat.ne_of_lt (Nat.lt_of_lt_of_le (Heap.lt_size e) (I.ok.cab x c hfn hc)))).trans (I.base.keep b o e n hb hx)
   . obtain ⟨sl, e1⟩ := I.base.slot b o e n hb hx
     exact ⟨sl, (hs.2 b (Nat.ne_of_lt (Nat.lt_of_lt_of_le (Heap.lt_size e) (I.ok.cab x c hfn hc)))).trans e1⟩
   . obtain ⟨o', e1⟩ := I.base.there b o e hx
     exact ⟨o', (hs.2 b (Nat.ne_of_lt (Nat.lt_of_lt_of_le (Heap.lt_size e) (I.ok.cab x c hfn hc)))).trans e1⟩
   . by_cases hj : j = i
     . subst hj
       rw [hi] at e1; cases e1
       rw [List.getElem?_set_self hiσ] at e2
       cases e2
       exact ⟨u, r, .inr ⟨.inl hk, c, hc, hc'⟩⟩
     . rw [List.getElem?_set_ne (Ne.symm hj)] at e2
       obtain ⟨u', r', q⟩ := hl j y v' e1 e2 e3
       refine ⟨u', r', ?_⟩
       rcases q with q | ⟨k, c', e, z'⟩
       . exact .inl q
       . refine .inr ⟨k, c', e, z'.sameBut hs ?_⟩
         rintro rfl
         exact hj (G2b hN e1 (I.ok.inj _ _ _ e hc ▸ hi))
   . by_cases hcc : c' = c
     . subst hcc; exact ⟨_, hc'⟩
     . obtain ⟨w2, z2⟩ := I.cell y c' e
       exact ⟨w2, z2.sameBut hs hcc⟩
   . obtain ⟨e, n, ne, nf, d⟩ := I.pin p hp
     refine ⟨(hs.2 p.1 ?_).trans e, n, ne, nf, d⟩
     intro q
     rw [q, hoc] at e
     have q' : oc = p.2 := Option.some.inj e
     exact d w' (by rw [<- q']; exact hocd)
theorem C1h {M : Model} {A : Around} {E : Value -> Shared -> Prop} {i : Nat} {x : Str} {v : V} {u : Value} {Q : Unit -> Shared -> Prop} (I : Inv X pins σ H s) (hN : X.N.Nodup) (hi : X.N[i]? = some x) (hx : Loc X.env.scope x) (r : RelV v u)
   (h : ∀ s', Inv X pins (σ.set i (some v)) H s' -> Q () s') (hf : X.fn x = true \/ X.env.scope.names.lookup x = some .local := by first | exact .inl rfl | exact .inr rfl | assumption) : wpAny M A (storeName X.env x u) Q E s :=
 B5v I hN hi hx r (fun s' I' _ => h s' I') hf
theorem Inv.call' {s' : Shared} {ch : List Addr} (I : Inv X pins σ H s) (ho : s'.os = s.os) (u : Un (frs X.stack) ch H H' s.heap s'.heap) (hok : HOk X.prog X.w H' s'.heap) (hg : AllBare s'.gens)
   (hch : ∀ b ∈ ch, (b ∈ X.ex \/ X.s₀.heap.objs.size <= b) /\ b ≠ X.env.locals /\ (∀ x c, X.env.cells.lookup x = some c -> c ≠ b) /\ ∀ p ∈ X.pn ++ pins, p.1 ≠ b) : Inv X pins σ H' s' := by
 obtain ⟨h', g', d', t', o'⟩ := s'
 have e : o' = s.os := ho
 subst e
 exact I.call (g' := g') (t' := t') (d' := d') u hok hg hch
end
abbrev XK := Value -> Option Addr -> Hp -> Prop
abbrev St := List (Option V)
abbrev VK := V -> Hp -> Prop
abbrev TE := St -> Hp -> VK -> Prop
abbrev TT := St -> Hp -> (Bool -> Hp -> Prop) -> Prop
abbrev TA := St -> Hp -> (List V -> Hp -> Prop) -> Prop
structure Ends where
 nx : St -> Hp -> Prop
 rt : VK
 bk : St -> Hp -> Prop := fun _ _ => False
 ct : St -> Hp -> Prop := fun _ _ => False
abbrev TS := Ends -> St -> Hp -> Prop
def EP (X : Cx) (pins : List (Addr × Obj)) (σ : St) (Q : VK) (u : Value) (s' : Shared) : Prop := ∃ v H', Inv X pins σ H' s' /\ RelV v u /\ Q v H'
def TP (X : Cx) (pins : List (Addr × Obj)) (σ : St) (Q : Bool -> Hp -> Prop) (b : Bool) (s' : Shared) : Prop := ∃ H', Inv X pins σ H' s' /\ Q b H'
def AP (X : Cx) (pins : List (Addr × Obj)) (σ : St) (Q : List V -> Hp -> Prop) (us : List Value) (s' : Shared) : Prop := ∃ vs H', Inv X pins σ H' s' /\ Vals vs us /\ Q vs H'
def SP (X : Cx) (pins : List (Addr × Obj)) (D : Ends) (f : Flow) (s' : Shared) : Prop :=
 match f with
 | .next => ∃ σ' H', Inv X pins σ' H' s' /\ D.nx σ' H'
 | .brk => ∃ σ' H', Inv X pins σ' H' s' /\ D.bk σ' H'
 | .cont => ∃ σ' H', Inv X pins σ' H' s' /\ D.ct σ' H'
 | .ret u => ∃ v σ' H', Inv X pins σ' H' s' /\ RelV v u /\ D.rt v H'
def PE (X : Cx) (e : Expr) (t : TE) : Prop :=
 ∀ (pins : List (Addr × Obj)) (s : Shared) (σ : St) (H : Hp) (Q : VK), Inv X pins σ H s -> t σ H Q -> wpAny (model X.prog X.w) X.A (eval e X.env) (EP X pins σ Q) X.xe s
def PT (X : Cx) (e : Expr) (t : TT) : Prop :=
 ∀ (pins : List (Addr × Obj)) (s : Shared) (σ : St) (H : Hp) (Q : Bool -> Hp -> Prop), Inv X pins σ H s -> t σ H Q -> wpAny (model X.prog X.w) X.A (isTrue e X.env (eval e X.env)) (TP X pins σ Q) X.xe s
def PW (X : Cx) (e : Expr) (t : TT) : Prop :=
 ∀ (whole : Sem Value) (pins : List (Addr × Obj)) (s : Shared) (σ : St) (H : Hp) (Q : Bool -> Hp -> Prop), Inv X pins σ H s -> t σ H Q -> wpAny (model X.prog X.w) X.A (isTrue e X.env whole) (TP X pins σ Q) X.xe s
theorem PW.pt {X : Cx} {e : Expr} {t : TT} (h : PW X e t) : PT X e t := h _
def PA (X : Cx) (es : List Expr) (t : TA) : Prop :=
 ∀ (pos : Pos) (pins : List (Addr × Obj)) (s : Shared) (σ : St) (H : Hp) (Q : List V -> Hp -> Prop), Inv X pins σ H s -> t σ H Q -> wpAny (model X.prog X.w) X.A (spliced (backTo pos (starEach es X.env))) (AP X pins σ Q) X.xe s
def PS (X : Cx) (st : Stmt) (t : TS) : Prop :=
 ∀ (pins : List (Addr × Obj)) (s : Shared) (σ : St) (H : Hp) (D : Ends), Inv X pins σ H s -> t D σ H -> wpAny (model X.prog X.w) X.A (exec st X.env) (SP X pins D) X.xe s
def PSs (X : Cx) (st : List Stmt) (t : TS) : Prop :=
 ∀ (pins : List (Addr × Obj)) (s : Shared) (σ : St) (H : Hp) (D : Ends), Inv X pins σ H s -> t D σ H -> wpAny (model X.prog X.w) X.A (execs st X.env) (SP X pins D) X.xe s
theorem thn {α : Type} {t : Sem α} {Q Q' : α -> Shared -> Prop} {M : Model} {A : Around} {E : Value -> Shared -> Prop} {s : Shared} (h : wpAny M A t Q E s) (hQ : ∀ a s, Q a s -> Q' a s) : wpAny M A t Q' E s := wpAny_mono h hQ fun _ _ x => x
section
variable {X : Cx}
def Z5n (i : Nat) : TE := fun σ H Q => ∃ v, σ[i]? = some (some v) /\ Q v H
def tC (v : V) : TE := fun _ H Q => Q v H
theorem Y9q {i : Nat} {x : Str} {pos : Pos} (hN : X.N[i]? = some x) (hv : Vis X.env.scope x) (hd : (x == ("__debug__" : Str)) = false := by decide) (hcd : (x == ("__classdict__" : Str)) = false := by decide) : PE X (.Name x pos) (Z5n i) := by
 intro pins s σ H Q I h
 obtain ⟨v, e, h⟩ := h
 obtain ⟨m, hn, hl⟩ := I.loc
 obtain ⟨u, r, l⟩ := hl i x v hN e hv
 have fin : EP X pins σ Q u s := ⟨v, H, I, r, h⟩
 rcases l with ⟨hk, hm⟩ | ⟨hk, c, hc, hcell⟩
 . exact wpAny_Name (wpAny_loadName_local I.ok.kind hk hn hm fin) hd
 . rcases hk with hk | hk
   . exact wpAny_Name (wpAny_loadName_cell I.ok.kind hk hc hcell fin) hd
   . exact wpAny_Name (wpAny_loadName_free I.ok.kind hk hc hcell fin hcd) hd
theorem A2 {i j pos} : PE X (.Constant (.int i) j pos) (tC (.int i)) := fun _ _ _ H _ I h => wpAny_Constant_int ⟨.int i, H, I.tok _, ⟨_, rfl⟩, h⟩
theorem Y4 {b j pos} : PE X (.Constant (.bool b) j pos) (tC (.bl b)) := fun _ _ _ H _ I h => Constant_bool ⟨.bl b, H, I, rfl, h⟩
theorem U7e {j pos} : PE X (.Constant .none j pos) (tC .non) := fun _ _ _ H _ I h => Constant_none ⟨.non, H, I, rfl, h⟩
theorem C6 {x j pos} : PE X (.Constant (.str x) j pos) (tC (.str x)) := fun _ _ _ H _ I h => Calls.Constant_str ⟨.str x, H, I.tok _, ⟨_, rfl⟩, h⟩
def Gl (X : Cx) (x : Str) : Prop := X.env.kindOf x = some .globalImplicit
theorem A1p {E : Value -> Shared -> Prop} {pins : List (Addr × Obj)} {s : Shared} {σ : St} {H : Hp} {x : Str} {u : Value} {pos : Pos} {Q : Value -> Shared -> Prop} (I : Inv X pins σ H s) (hg : Gl X x) (hm : X.mg x = some u) (h : Q u s)
   (hd : (x == ("__debug__" : Str)) = false := by decide) : wpAny (model X.prog X.w) X.A (eval (.Name x pos) X.env) Q E s :=
 Calls.Name_function_global I.ok.kind hg (Calls.loadGlobal_global (by rw [I.ok.glob]; exact I.mod.glob.keeps I.bk) hm h) hd
theorem C2c {E : Value -> Shared -> Prop} {pins : List (Addr × Obj)} {s : Shared} {σ : St} {H : Hp} {x : Str} {u : Value} {pos : Pos} {Q : Value -> Shared -> Prop} (I : Inv X pins σ H s) (hg : Gl X x) (hm : X.mg x = none) (hv : bootBuiltins x = some u) (h : Q u s)
   (hn : x ≠ "__name__" := by decide) (hd : (x == ("__debug__" : Str)) = false := by decide) : wpAny (model X.prog X.w) X.A (eval (.Name x pos) X.env) Q E s := by
 obtain ⟨mb, h1, h2⟩ := I.mod.blt
 exact Calls.Name_function_global I.ok.kind hg (Calls.loadGlobal_builtin (by rw [I.ok.glob]; exact I.mod.glob.keeps I.bk) hm (by rw [I.ok.blt]; exact h1.keeps I.bk) ((h2 x hn).trans hv) h) hd
theorem Y5f {x : Str} {v : V} {u : Value} {pos : Pos} (hg : Gl X x) (hm : X.mg x = some u) (r : RelV v u) (hd : (x == ("__debug__" : Str)) = false := by decide) : PE X (.Name x pos) (tC v) :=
 fun _ _ _ H _ I h => A1p I hg hm ⟨v, H, I, r, h⟩ hd
theorem Y5y {x : Str} {v : V} {u : Value} {pos : Pos} (hg : Gl X x) (hm : X.mg x = none) (hv : bootBuiltins x = some u) (r : RelV v u) (hn : x ≠ "__name__" := by decide) (hd : (x == ("__debug__" : Str)) = false := by decide) : PE X (.Name x pos) (tC v) :=
 fun _ _ _ H _ I h => C2c I hg hm hv ⟨v, H, I, r, h⟩ hn hd
variable {a b : Expr} {ta tb : TE} {pos : Pos}
def tB (t : TE) : TT := fun σ H Q => t σ H fun x H1 => ∃ c, x = .bl c /\ Q c H1
theorem J5 {e : Expr} {t : TE} (h : PE X e t) (he : ∀ whole, isTrue e X.env whole = (do let v <- whole; standAt e.pos; holding [v] (truthy v)) := by intro _; rfl) : PT X e (tB t) := by
 intro pins s σ H Q I hw
 refine isTrue_plain (thn (h pins s σ H _ I hw) fun v s1 ⟨x, H1, I1, r1, q1⟩ => ?_) (he _)
 obtain ⟨d, rfl, q⟩ := q1
 cases r1
 exact wpAny_truthy_bool ⟨H1, I1, q⟩
variable {tA tB' : TT} {rest : List Expr}
def tAnd (t u : TT) : TT := fun σ H Q => t σ H fun c H1 => if c = true then u σ H1 Q else Q false H1
def tOr (t u : TT) : TT := fun σ H Q => t σ H fun c H1 => if c = true then Q true H1 else u σ H1 Q
def Z9e (t : TT) : TT := fun σ H Q => t σ H fun c H1 => Q (!c) H1
theorem Y7 (ha : PT X a tA) : PW X (.BoolOp .And [a] pos) tA := by
 intro wh pins s σ H Q I h
 refine isTrue_and (thn (ha pins s σ H Q I h) fun c s1 e => ?_)
 cases c with
 | true => exact isTrue_and_nil e
 | false => exact e
theorem G7j (ha : PT X a tA) : PW X (.BoolOp .Or [a] pos) tA := by
 intro wh pins s σ H Q I h
 refine isTrue_or (thn (ha pins s σ H Q I h) fun c s1 e => ?_)
 cases c with
 | false => exact isTrue_or_nil e
 | true => exact e
theorem A2r (ha : PT X a tA) (hb : PW X (.BoolOp .And (b :: rest) pos) tB') : PW X (.BoolOp .And (a :: b :: rest) pos) (tAnd tA tB') := by
 intro wh pins s σ H Q I h
 refine isTrue_and (thn (ha pins s σ H _ I h) fun c s1 ⟨H1, I1, q1⟩ => ?_)
 cases c with
 | true => exact hb wh pins s1 σ H1 Q I1 q1
 | false => exact ⟨H1, I1, q1⟩
theorem U7m (ha : PT X a tA) (hb : PW X (.BoolOp .Or (b :: rest) pos) tB') : PW X (.BoolOp .Or (a :: b :: rest) pos) (tOr tA tB') := by
 intro wh pins s σ H Q I h
 refine isTrue_or (thn (ha pins s σ H _ I h) fun c s1 ⟨H1, I1, q1⟩ => ?_)
 cases c with
 | true => exact ⟨H1, I1, q1⟩
 | false => exact hb wh pins s1 σ H1 Q I1 q1
theorem Y3 (ha : PT X a tA) : PT X (.UnaryOp .Not a pos) (Z9e tA) := by
 intro pins s σ H Q I h
 exact isTrue_not (ha pins s σ H (fun c H1 => Q (!c) H1) I h)
def Z5z (ta tb : TE) : TE := fun σ H Q => ta σ H fun x H1 => ∃ c, x = .bl c /\ if c = true then tb σ H1 Q else Q (.bl false) H1
def tOrV (ta tb : TE) : TE := fun σ H Q => ta σ H fun x H1 => ∃ c, x = .bl c /\ if c = true then Q (.bl true) H1 else tb σ H1 Q
theorem B6b {op} {t : TE} (h : PE X a t) : PE X (.BoolOp op [a] pos) t := fun pins s σ H Q I hw => BoolOp_one (h pins s σ H Q I hw)
theorem C2r (ha : PE X a ta) (hb : PE X (.BoolOp .And (b :: rest) pos) tb) : PE X (.BoolOp .And (a :: b :: rest) pos) (Z5z ta tb) := by
 intro pins s σ H Q I h
 refine BoolOp_and (thn (ha pins s σ H _ I h) fun v s1 ⟨x, H1, I1, r1, q1⟩ => ?_)
 obtain ⟨c, rfl, q1⟩ := q1
 cases r1
 refine wpAny_truthy_bool ?_
 cases c with
 | true => exact hb pins s1 σ H1 Q I1 q1
 | false => exact ⟨.bl false, H1, I1, rfl, q1⟩
theorem Y9d (ha : PE X a ta) (hb : PE X (.BoolOp .Or (b :: rest) pos) tb) : PE X (.BoolOp .Or (a :: b :: rest) pos) (tOrV ta tb) := by
 intro pins s σ H Q I h
 refine BoolOp_or (thn (ha pins s σ H _ I h) fun v s1 ⟨x, H1, I1, r1, q1⟩ => ?_)
 obtain ⟨c, rfl, q1⟩ := q1
 cases r1
 refine wpAny_truthy_bool ?_
 cases c with
 | false => exact hb pins s1 σ H1 Q I1 q1
 | true => exact ⟨.bl true, H1, I1, rfl, q1⟩
def tIf (t : TT) (ta tb : TE) : TE := fun σ H Q => t σ H fun c H1 => if c = true then ta σ H1 Q else tb σ H1 Q
theorem V3 {c : Expr} (hc : PT X c tA) (ha : PE X a ta) (hb : PE X b tb) : PE X (.IfExp c a b pos) (tIf tA ta tb) := by
 intro pins s σ H Q I h
 refine wpAny_IfExp (thn (hc pins s σ H _ I h) fun d s1 ⟨H1, I1, q1⟩ => ?_)
 cases d with
 | true => exact ha pins s1 σ H1 Q I1 q1
 | false => exact hb pins s1 σ H1 Q I1 q1
end
def SqL (K : PySem.W.Frag) (H : Hp) (a : Addr) (xs : List V) : Prop :=
 Rd H a (.lst xs) \/
   ∃ (o : Obj) (its : Array Value) (n : Nat), K.lookup a = some o /\ o.cls = .type "list" /\ o.dict = none /\ o.data = .seq its n /\ its.size <= sizeLine /\ Vals xs its.toList
def SqT (K : PySem.W.Frag) (H : Hp) (a : Addr) (xs : List V) : Prop :=
 Rd H a (.tup xs) \/
   ∃ (o : Obj) (its : Array Value) (n : Nat), K.lookup a = some o /\ o.cls = .type "tuple" /\ o.data = .seq its n /\ its.size <= sizeLine /\ Vals xs its.toList
def absV : Value -> Option V
 | .none => some .non
 | .bool b => some (.bl b)
 | .int i _ => some (.int i)
 | .str x _ => some (.str x)
 | .bytes b _ => some (.byt b)
 | .float b _ => some (.flt b)
 | .ref a => some (.ref a)
 | .type n => some (.ty n)
 | _ => none
theorem RelV.abs {x : V} {u : Value} (r : RelV x u) : absV u = some x := by
 cases x with
 | non => cases r; rfl
 | bl _ => cases r; rfl
 | int _ => obtain ⟨t, rfl⟩ := r; rfl
 | str _ => obtain ⟨t, rfl⟩ := r; rfl
 | byt _ => obtain ⟨t, rfl⟩ := r; rfl
 | flt _ => obtain ⟨t, rfl⟩ := r; rfl
 | ref _ => cases r; rfl
 | ty _ => cases r; rfl
theorem RelV.inj {x y : V} {u : Value} (r : RelV x u) (q : RelV y u) : x = y := Option.some.inj (r.abs.symm.trans q.abs)
theorem Vals.inj : ∀ {xs ys : List V} {us : List Value}, Vals xs us -> Vals ys us -> xs = ys
 | _, _, _, .nil, .nil => rfl
 | _, _, _, .cons r t, .cons r' t' => by rw [r.inj r', Vals.inj t t']
section
variable {X : Cx} {pins : List (Addr × Obj)} {σ : St} {H : Hp} {s : Shared} {a : Addr} {xs ys : List V}
theorem SqL.of {K : PySem.W.Frag} (h : H a = some (.lst xs)) : SqL K H a xs := .inl (.inl h)
theorem SqT.of {K : PySem.W.Frag} (h : H a = some (.tup xs)) : SqT K H a xs := .inl (.inl h)
theorem Inv.list (I : Inv X pins σ H s) (h : SqL X.K H a xs) : ∃ its : List Value, Vals xs its /\ PlainL s.heap a its.toArray /\ xs.length <= sizeLine := by
 rcases h with h | ⟨o, its, n, hk, hc, hd, hs, hz, r⟩
 . obtain ⟨z, its, n, r, e⟩ := h.ok I.hok
   exact ⟨its, r, ⟨_, n, e, rfl, rfl, rfl⟩, z⟩
 . refine ⟨its.toList, r, ⟨o, n, I.kIn a o hk, hc, hd, by simpa using hs⟩, ?_⟩
   have e := r.length
   simp only [Array.length_toList] at e
   omega
theorem Inv.tuple (I : Inv X pins σ H s) (h : SqT X.K H a xs) : ∃ its : List Value, Vals xs its /\ IsTup s.heap a its.toArray /\ xs.length <= sizeLine := by
 rcases h with h | ⟨o, its, n, hk, hc, hs, hz, r⟩
 . obtain ⟨z, its, r, p⟩ := h.ok I.hok
   exact ⟨its, r, p, z⟩
 . refine ⟨its.toList, r, ⟨o, I.kIn a o hk, hc, n, by simpa using hs⟩, ?_⟩
   have e := r.length
   simp only [Array.length_toList] at e
   omega
theorem Inv.list_inj (I : Inv X pins σ H s) (h : SqL X.K H a xs) (h' : SqL X.K H a ys) : xs = ys := by
 obtain ⟨its, r, ⟨o, n, e, _, _, d⟩, _⟩ := I.list h
 obtain ⟨its', r', ⟨o', n', e', _, _, d'⟩, _⟩ := I.list h'
 rw [e] at e'; cases e'
 rw [d] at d'
 injection d' with d1 _
 have : its = its' := by simpa using congrArg Array.toList d1
 subst this
 exact r.inj r'
theorem Inv.tuple_inj (I : Inv X pins σ H s) (h : SqT X.K H a xs) (h' : SqT X.K H a ys) : xs = ys := by
 obtain ⟨its, r, ⟨o, e, _, n, d⟩, _⟩ := I.tuple h
 obtain ⟨its', r', ⟨o', e', _, n', d'⟩, _⟩ := I.tuple h'
 rw [e] at e'; cases e'
 rw [d] at d'
 injection d' with d1 _
 have : its = its' := by simpa using congrArg Array.toList d1
 subst this
 exact r.inj r'
end
abbrev Cx.wish (X : Cx) (E : Value -> Shared -> Prop) : Cx := { X with xe := E }
abbrev Cx.nox (X : Cx) : Cx := X.wish fun _ _ => False
theorem Cx.Ok.wish {X : Cx} (ok : X.Ok) (E : Value -> Shared -> Prop) : (X.wish E).Ok :=
 ⟨ok.mod, ok.kind, ok.glob, ok.blt, ok.above, ok.inj, ok.has, ok.cab, ok.hd, ok.frames, ok.stk, ok.exf, ok.bs, ok.bsz, ok.noex, ok.exfs, ok.funs, ok.frf⟩
theorem Cx.Ok.unwish {X : Cx} {E : Value -> Shared -> Prop} (ok : (X.wish E).Ok) : X.Ok :=
 ⟨ok.mod, ok.kind, ok.glob, ok.blt, ok.above, ok.inj, ok.has, ok.cab, ok.hd, ok.frames, ok.stk, ok.exf, ok.bs, ok.bsz, ok.noex, ok.exfs, ok.funs, ok.frf⟩
section
variable {X : Cx} {pins : List (Addr × Obj)} {σ : St} {H : Hp} {s : Shared} {E : Value -> Shared -> Prop}
theorem Inv.wish (I : Inv X pins σ H s) (E : Value -> Shared -> Prop) : Inv (X.wish E) pins σ H s := ⟨I.ok.wish E, I.os, I.bare, I.base, I.loc, I.cell, I.free, I.freeC, I.pin, I.hok, I.len⟩
theorem Inv.unwish (I : Inv (X.wish E) pins σ H s) : Inv X pins σ H s := ⟨I.ok.unwish, I.os, I.bare, I.base, I.loc, I.cell, I.free, I.freeC, I.pin, I.hok, I.len⟩
theorem SP.unwish {D : Ends} {f : Flow} {s' : Shared} (h : SP (X.wish E) pins D f s') : SP X pins D f s' := by
 cases f with
 | next => obtain ⟨σ', H', I, q⟩ := h; exact ⟨σ', H', I.unwish, q⟩
 | brk => obtain ⟨σ', H', I, q⟩ := h; exact ⟨σ', H', I.unwish, q⟩
 | cont => obtain ⟨σ', H', I, q⟩ := h; exact ⟨σ', H', I.unwish, q⟩
 | ret u => obtain ⟨v, σ', H', I, r, q⟩ := h; exact ⟨v, σ', H', I.unwish, r, q⟩
theorem PSs.nox {st : List Stmt} {t : TS} (h : PSs X.nox st t) : PSs X st t := fun pins s σ H D I hw =>
 wpAny_mono (h pins s σ H D (I.wish _) hw) (fun _ _ q => q.unwish) fun _ _ z => False.elim z
end
section
variable {X : Cx} {st : Stmt} {rest : List Stmt} {t u : TS} {e : Expr} {te : TE} {pos : Pos}
def Z4v : TS := fun D σ H => D.nx σ H
def Z8y (t u : TS) : TS := fun D σ H => t { D with nx := u D } σ H
theorem C5 : PSs X [] Z4v := fun _ _ σ H _ I h => wpAny_execs_nil ⟨σ, H, I, h⟩
theorem A4 (h1 : PS X st t) (h2 : PSs X rest u) : PSs X (st :: rest) (Z8y t u) := by
 intro pins s σ H D I h
 refine wpAny_execs_cons (thn (h1 pins s σ H { D with nx := u D } I h) fun f s1 q => ?_)
 cases f with
 | next =>
   obtain ⟨σ', H', I', q⟩ := q
   exact h2 pins s1 σ' H' D I' q
 | ret v => exact q
 | brk => exact q
 | cont => exact q
theorem A5 (h1 : PS X st t) : PSs X [st] t := by
 intro pins s σ H D I h
 refine wpAny_execs_cons (thn (h1 pins s σ H D I h) fun f s1 q => ?_)
 cases f with
 | next => exact wpAny_execs_nil q
 | ret v => exact q
 | brk => exact q
 | cont => exact q
theorem Inv.quiet {pins : List (Addr × Obj)} {σ : St} {H : Hp} {s : Shared} (I : Inv X pins σ H s) : interactive X.env = false := by simp [interactive, I.ok.kind]
def Z5d (te : TE) : TS := fun D σ H => te σ H fun _ H1 => D.nx σ H1
theorem V7 (he : PE X e te) (hs : swapsWith e none pos.line X.env = pure false := by rfl) : PS X (.Expr e pos) (Z5d te) := by
 intro pins s σ H D I h
 exact wpAny_Expr_any (thn (he pins s σ H _ I h) fun v s1 ⟨x, H1, I1, r1, q1⟩ => ⟨σ, H1, I1, q1⟩) I.quiet hs
def Z9v (te : TE) : TS := fun D σ H => te σ H D.rt
theorem B0 (he : PE X e te) : PS X (.Return (some e) pos) (Z9v te) := by
 intro pins s σ H D I h
 exact wpAny_Return_some (thn (he pins s σ H _ I h) fun v s1 ⟨x, H1, I1, r1, q1⟩ => ⟨x, σ, H1, I1, r1, q1⟩)
def Z8u (c : TT) (t u : TS) : TS := fun D σ H => c σ H fun b H1 => if b = true then t D σ H1 else u D σ H1
theorem D9 {c : Expr} {a b : List Stmt} {tc : TT} (hc : PT X c tc) (ha : PSs X a t) (hb : PSs X b u) : PS X (.If c a b pos) (Z8u tc t u) := by
 intro pins s σ H D I h
 refine wpAny_If (thn (hc pins s σ H _ I h) fun d s1 ⟨H1, I1, q1⟩ => ?_)
 cases d with
 | true => exact ha pins s1 σ H1 D I1 q1
 | false => exact hb pins s1 σ H1 D I1 q1
end
abbrev TG := V -> St -> Hp -> (St -> Hp -> Prop) -> Prop
abbrev TGs := List V -> St -> Hp -> (St -> Hp -> Prop) -> Prop
def PG (X : Cx) (target : Expr) (t : TG) : Prop :=
 ∀ (pins : List (Addr × Obj)) (s : Shared) (σ : St) (H : Hp) (v : V) (u : Value) (Q : St -> Hp -> Prop), Inv X pins σ H s -> RelV v u -> t v σ H Q ->
   wpAny (model X.prog X.w) X.A (assign target X.env u) (fun _ s' => ∃ σ' H', Inv X pins σ' H' s' /\ Q σ' H') X.xe s
def PGs (X : Cx) (ts : List Expr) (t : TGs) : Prop :=
 ∀ (pins : List (Addr × Obj)) (s : Shared) (σ : St) (H : Hp) (vs : List V) (us : List Value) (Q : St -> Hp -> Prop), Inv X pins σ H s -> Vals vs us -> t vs σ H Q ->
   wpAny (model X.prog X.w) X.A (assignInOrder ((assignEach ts X.env).map (·.2)) us) (fun _ s' => ∃ σ' H', Inv X pins σ' H' s' /\ Q σ' H') X.xe s
abbrev Y9z := V -> V -> V -> Hp -> (Hp -> Prop) -> Prop
def Z4c (X : Cx) (t : Y9z) : Prop :=
 ∀ (pins : List (Addr × Obj)) (s : Shared) (σ : St) (H : Hp) (o i v : V) (ov iv u : Value) (Q : Hp -> Prop), Inv X pins σ H s -> RelV o ov -> RelV i iv -> RelV v u -> t o i v H Q ->
   wpAny (model X.prog X.w) X.A (setItem ov iv u) (fun _ s' => ∃ H', Inv X pins σ H' s' /\ Q H') X.xe s
abbrev TIp := V -> V -> Hp -> VK -> Prop
def PIp (X : Cx) (op : Operator) (t : TIp) : Prop :=
 ∀ (pins : List (Addr × Obj)) (s : Shared) (σ : St) (H : Hp) (x y : V) (v u : Value) (Q : VK), Inv X pins σ H s -> RelV x v -> RelV y u -> t x y H Q ->
   wpAny (model X.prog X.w) X.A (inplaceOp op v u) (EP X pins σ Q) X.xe s
section
variable {X : Cx} {pos : Pos}
def G3e (i : Nat) : TG := fun v σ H Q => Q (σ.set i (some v)) H
theorem U1 {i : Nat} {x : Str} (hN : X.N.Nodup) (hi : X.N[i]? = some x) (hx : Loc X.env.scope x) (hf : X.fn x = true \/ X.env.scope.names.lookup x = some .local := by first | exact .inl rfl | exact .inr rfl | assumption) : PG X (.Name x pos) (G3e i) := by
 intro pins s σ H v u Q I r h
 exact wpAny_assign_Name (C1h I hN hi hx r (fun s' I' => ⟨_, H, I', h⟩) hf)
def gNil : TGs := fun vs σ H Q => vs = [] /\ Q σ H
def Z5w (t : TG) (u : TGs) : TGs := fun vs σ H Q => ∃ v r, vs = v :: r /\ t v σ H fun σ' H' => u r σ' H' Q
theorem J7m : PGs X [] gNil := by
 intro pins s σ H vs us Q I r h
 obtain ⟨e, h⟩ := h
 subst e
 cases r
 exact assignInOrder_nil ⟨σ, H, I, h⟩
theorem A7x {e : Expr} {es : List Expr} {t : TG} {u : TGs} (h1 : PG X e t) (h2 : PGs X es u)
   (hs : (assignEach (e :: es) X.env).map (·.2) = assign e X.env :: (assignEach es X.env).map (·.2) := by rfl) : PGs X (e :: es) (Z5w t u) := by
 intro pins s σ H vs us Q I r h
 obtain ⟨v, vr, e1, h⟩ := h
 subst e1
 cases r with
 | cons r rr =>
   rw [hs]
   refine assignInOrder_cons (thn (h1 pins s σ H _ _ _ I r h) fun _ s1 ⟨σ1, H1, I1, q1⟩ => ?_)
   exact h2 pins s1 σ1 H1 _ _ Q I1 rr q1
def Z8t (K : PySem.W.Frag) (n : Nat) (t : TGs) : TG := fun v σ H Q => ∃ a xs, v = .ref a /\ SqT K H a xs /\ xs.length = n /\ t xs σ H Q
theorem U6n {es : List Expr} {k : Nat} {t : TGs} {n : Nat} (hc : X.calm = true) (h : PGs X es t)
   (hn : (assignEach es X.env).length = n := by rfl) (hst : (assignEach es X.env).findIdx? (·.1) = none := by rfl) : PG X (.Tuple es k pos) (Z8t X.K n t) := by
 intro pins s σ H v u Q I r hw
 obtain ⟨a, xs, e1, hq, hl, hw⟩ := hw
 subst e1
 cases r
 obtain ⟨its, rv, ht, hz⟩ := I.tuple hq
 refine assign_Tuple_tuple (I.ok.hd hc) ht (by simp [hn, <- hl, rv.length]) hst fun h' hx => ?_
 have I1 : Inv X pins σ H { s with heap := h' } := I.kept (t' := s.toks) fun b o e => hx b o (Nat.ne_of_lt (Heap.lt_size e)) e
 exact h pins _ σ H xs _ Q I1 (by simpa using rv) hw
def Z9q (to ti : TE) (t : Y9z) : TG := fun v σ H Q => to σ H fun o H1 => ti σ H1 fun i H2 => t o i v H2 fun H3 => Q σ H3
theorem Z1k {o i : Expr} {to ti : TE} {t : Y9z} (ho : PE X o to) (hi : PE X i ti) (hs : Z4c X t)
   (ha : ∀ v, assign (.Subscript o i pos) X.env v = (do
     let ov <- holding [v] (eval o X.env)
     let iv <- holding [v, ov] (eval i X.env)
     standAt pos
     holding [v, ov, iv] (setItem ov iv v)
     release [v, ov, iv] []) := by intro _; rfl) : PG X (.Subscript o i pos) (Z9q to ti t) := by
 intro pins s σ H v u Q I r h
 rw [ha]
 refine wpAny_bind (wpAny_holding (thn (ho pins s σ H _ I h) fun ov s1 ⟨x, H1, I1, r1, q1⟩ => ?_))
 refine wpAny_bind (wpAny_holding (thn (hi pins s1 σ H1 _ I1 q1) fun iv s2 ⟨y, H2, I2, r2, q2⟩ => ?_))
 refine wpAny_bind (wpAny_standAt (wpAny_bind (wpAny_holding (thn (hs pins s2 σ H2 x y v ov iv u _ I2 r1 r2 r q2) fun _ s3 ⟨H3, I3, q3⟩ => ?_))))
 exact wpAny_release ⟨σ, H3, I3, q3⟩
def Y4r (te : TE) (g : TG) : TS := fun D σ H => te σ H fun x H1 => g x σ H1 D.nx
theorem U6u {tg e : Expr} {te : TE} {g : TG} (he : PE X e te) (hg : PG X tg g) (hs : swapsWithSole [tg] e pos.line X.env = pure false := by rfl) (hw : swappedStores [tg] e X.env = pure none := by rfl)
   (h1 : (assignEach [tg] X.env).map (·.2) = [assign tg X.env] := by rfl) : PS X (.Assign [tg] e pos) (Y4r te g) := by
 intro pins s σ H D I h
 refine wpAny_Assign_stores (thn (he pins s σ H _ I h) fun v s1 ⟨x, H1, I1, r1, q1⟩ => ?_) hs hw
 rw [h1]
 exact thn (hg pins s1 σ H1 x v _ I1 r1 q1) fun _ s2 q => q
theorem C9 {i : Nat} {x : Str} {e : Expr} {te : TE} {pos' : Pos} (hN : X.N.Nodup) (hi : X.N[i]? = some x) (hx : Loc X.env.scope x) (he : PE X e te) (hs : swapsWith e (some (.Name x pos')) pos.line X.env = pure false := by rfl) (hf : X.fn x = true \/ X.env.scope.names.lookup x = some .local := by first | exact .inl rfl | exact .inr rfl | assumption) :
   PS X (.Assign [.Name x pos'] e pos) (Y4r te (G3e i)) := by
 intro pins s σ H D I h
 refine wpAny_Assign_Name (thn (he pins s σ H _ I h) fun v s1 ⟨y, H1, I1, r1, q1⟩ => ?_) hs
 exact C1h I1 hN hi hx r1 (fun s2 I2 => ⟨_, H1, I2, q1⟩) hf
def Z8z (i : Nat) (te : TE) (ti : TIp) : TS := fun D σ H => ∃ x, σ[i]? = some (some x) /\ te σ H fun y H1 => ti x y H1 fun z H2 => D.nx (σ.set i (some z)) H2
theorem Z0p {i : Nat} {x : Str} {e : Expr} {te : TE} {op : Operator} {ti : TIp} {pos' : Pos} (hN : X.N.Nodup) (hi : X.N[i]? = some x) (hx : Loc X.env.scope x) (he : PE X e te) (ho : PIp X op ti) (hf : X.fn x = true \/ X.env.scope.names.lookup x = some .local := by first | exact .inl rfl | exact .inr rfl | assumption) :
   PS X (.AugAssign (.Name x pos') op e pos) (Z8z i te ti) := by
 intro pins s σ H D I h
 obtain ⟨v, e1, h⟩ := h
 obtain ⟨m, hn, hl⟩ := I.loc
 have vis : Vis X.env.scope x := by rcases hx with k | k; exact .inl k; exact .inr (.inl k)
 obtain ⟨u, r, l⟩ := hl i x v hi e1 vis
 refine wpAny_AugAssign_Name ?_
 have go : wpAny (model X.prog X.w) X.A (eval e X.env) (fun w s₂ => wpAny (model X.prog X.w) X.A (inplaceOp op u w) (fun r s₃ => wpAny (model X.prog X.w) X.A (storeName X.env x r) (fun _ => SP X pins D .next) X.xe s₃) X.xe s₂) X.xe s := by
   refine thn (he pins s σ H _ I h) fun w s1 ⟨y, H1, I1, r1, q1⟩ => ?_
   refine thn (ho pins s1 σ H1 v y u w _ I1 r r1 q1) fun z s2 ⟨zv, H2, I2, r2, q2⟩ => ?_
   exact C1h I2 hN hi hx r2 (fun s3 I3 => ⟨_, H2, I3, q2⟩) hf
 rcases l with ⟨hk, hm⟩ | ⟨hk, c, hc, hcell⟩
 . exact wpAny_loadName_local I.ok.kind hk hn hm go
 . rcases hk with hk | hk
   . exact wpAny_loadName_cell I.ok.kind hk hc hcell go
   . rcases hx with k | k
     . have : X.env.scope.names.lookup x = some .free := hk
       rw [k] at this; cases this
     . have : X.env.scope.names.lookup x = some .free := hk
       rw [k] at this; cases this
def ipI (f : Int -> Int -> Int) : TIp := fun x y H Q => ∃ i j, x = .int i /\ y = .int j /\ Q (.int (f i j)) H
theorem Z1r : PIp X .Add (ipI fun i j => i + j) := by
 intro pins s σ H x y v u Q I r1 r2 h
 obtain ⟨i, j, e1, e2, q⟩ := h
 subst e1; subst e2
 obtain ⟨t, rfl⟩ := r1
 obtain ⟨t', rfl⟩ := r2
 exact iadd_int ⟨.int _, H, I.tok _, ⟨_, rfl⟩, q⟩
end
section
variable {X : Cx} {pos : Pos}
def U9e (c : TT) (tb : TS) : TS := fun D σ H => ∃ W : Nat -> St -> Hp -> Prop, (∃ m, W m σ H) /\ ∀ m σ H, W m σ H ->
 c σ H fun b H1 => if b = true then ∃ N : St -> Hp -> Prop, (∀ σ' H', N σ' H' -> ∃ m', m' < m /\ W m' σ' H') /\ tb { D with nx := N, ct := N, bk := D.nx } σ H1 else D.nx σ H1
theorem C2e {c : Expr} {body : List Stmt} {tc : TT} {tb : TS} (hp : PassesOwn (model X.prog X.w) X.A X.env X.xe) (hc : PT X c tc) (hb : PSs X body tb) : PS X (.While c body [] pos) (U9e tc tb) := by
 intro pins s σ H D I h
 obtain ⟨W, ⟨m0, w0⟩, turn⟩ := h
 refine wpAny_While (codeAny_whileLoop (fun n s' => ∃ σ' H', Inv X pins σ' H' s' /\ W n σ' H') ?_ m0 ⟨σ, H, I, w0⟩)
 rintro n s1 ⟨σ1, H1, I1, w1⟩
 refine wpAny_passesOwn hp (thn (hc pins s1 σ1 H1 _ I1 (turn n σ1 H1 w1)) fun b s2 ⟨H2, I2, q2⟩ => ?_)
 cases b with
 | true =>
   obtain ⟨N, hN, q2⟩ := q2
   rw [if_pos rfl]
   refine wpAny_passesOwn hp (thn (hb pins s2 σ1 H2 _ I2 q2) fun f s3 q3 => ?_)
   cases f with
   | next =>
     obtain ⟨σ3, H3, I3, n3⟩ := q3
     obtain ⟨m', hm, w3⟩ := hN σ3 H3 n3
     exact ⟨m', hm, σ3, H3, I3, w3⟩
   | cont =>
     obtain ⟨σ3, H3, I3, n3⟩ := q3
     obtain ⟨m', hm, w3⟩ := hN σ3 H3 n3
     exact ⟨m', hm, σ3, H3, I3, w3⟩
   | brk => exact q3
   | ret v => exact q3
 | false =>
   rw [if_neg Bool.false_ne_true]
   exact wpAny_execs_nil ⟨σ1, H2, I2, q2⟩
end
structure It where
 go : Nat -> Hp -> Prop
 yld : Nat -> Hp -> V -> Hp -> Prop
 stop : Nat -> Hp -> Prop
def A1q (X : Cx) (pins : List (Addr × Obj)) (H : Hp) (b : Addr) : Prop :=
 H b = none /\ b ≠ X.env.locals /\ b ∉ X.fs /\ (b ∈ X.ex \/ X.s₀.heap.objs.size <= b) /\ (∀ x c, X.env.cells.lookup x = some c -> c ≠ b) /\ ∀ p ∈ X.pn ++ pins, p.1 ≠ b
theorem Inv.fpOk {X : Cx} {pins : List (Addr × Obj)} {σ : St} {H H' : Hp} {s : Shared} {b : Addr} (I : Inv X pins σ H s) (hb : s.heap.objs.size <= b) (hn : H' b = none) : A1q X pins H' b := by
 refine ⟨hn, Nat.ne_of_gt (Nat.lt_of_lt_of_le I.lt hb), I.nofs hb, .inr (Nat.le_trans I.sz hb), fun x c e z => ?_, fun p hp z => ?_⟩
 . obtain ⟨v, q⟩ := I.cell x c e
   exact absurd (Nat.lt_of_lt_of_le q.lt (by rw [z]; exact hb)) (Nat.lt_irrefl _)
 . exact absurd (Nat.lt_of_lt_of_le (Heap.lt_size (I.pin p hp).1) (by rw [z]; exact hb)) (Nat.lt_irrefl _)
structure Turn (P : Program) (w : World) (K : PySem.W.Frag) (tg : Expr) (J : It) (fp : List Addr) (it : Addr) (tn : Nat -> Heap -> Prop) : Prop where
 mem : it ∈ fp
 obj : ∀ i h, tn i h -> ∀ b ∈ fp, ∃ o, h.get? b = some o /\ ∀ v, o.data ≠ .cell v
 keep : ∀ i h h', tn i h -> (∀ b ∈ fp, ∀ o, h.get? b = some o -> h'.get? b = some o) -> tn i h'
 item : ∀ (X : Cx), X.prog = P -> X.w = w -> X.K = K -> X.calm = true -> ∀ (i : Nat) (pins : List (Addr × Obj)) (s : Shared) (σ : St) (H : Hp) (E : Value -> Shared -> Prop), Inv X pins σ H s -> (∀ b ∈ fp, A1q X pins H b) -> tn i s.heap -> J.go i H ->
   wpAny (model P w) X.A (pyNext (.ref it)) (fun r s1 => ∃ u, r = some u /\
     wpAny (model P w) X.A (letOwnedTupleGo tg (.ref it) u) (fun _ s2 => ∃ x H', Inv X pins σ H' s2 /\ RelV x u /\ J.yld i H x H' /\ tn (i + 1) s2.heap /\ ∀ b ∈ fp, H' b = none) E s1) E s
 done : ∀ (X : Cx), X.prog = P -> X.w = w -> X.K = K -> X.calm = true -> ∀ (i : Nat) (pins : List (Addr × Obj)) (s : Shared) (σ : St) (H : Hp) (E : Value -> Shared -> Prop), Inv X pins σ H s -> (∀ b ∈ fp, A1q X pins H b) -> tn i s.heap -> J.stop i H ->
   wpAny (model P w) X.A (pyNext (.ref it)) (fun r s1 => r = none /\ Inv X pins σ H s1) E s
 self : ∀ (A : Around) (i : Nat) (s : Shared) (Q : Value -> Shared -> Prop) (E : Value -> Shared -> Prop), tn i s.heap -> Q (.ref it) s -> wpAny (model P w) A (pyIter (.ref it)) Q E s
abbrev TI := St -> Hp -> (It -> Hp -> Prop) -> Prop
def PIE (X : Cx) (pins : List (Addr × Obj)) (σ : St) (tg : Expr) (R : It -> Hp -> Prop) (itv : Value) (s2 : Shared) : Prop :=
 ∃ (it : Addr) (fp : List Addr) (tn : Nat -> Heap -> Prop) (J : It) (H' : Hp), itv = .ref it /\ Inv X pins σ H' s2 /\ Turn X.prog X.w X.K tg J fp it tn /\ tn 0 s2.heap /\ (∀ b ∈ fp, A1q X pins H' b) /\ R J H'
def PI (X : Cx) (tg iter : Expr) (wi : TI) : Prop :=
 ∀ (pins : List (Addr × Obj)) (s : Shared) (σ : St) (H : Hp) (R : It -> Hp -> Prop), Inv X pins σ H s -> wi σ H R ->
   wpAny (model X.prog X.w) X.A (eval iter X.env) (fun v s1 => wpAny (model X.prog X.w) X.A (pyIter v) (PIE X pins σ tg R) X.xe s1) X.xe s
theorem J8e {M : Model} {A : Around} {E : Value -> Shared -> Prop} {s : Shared} {tg : Expr} {it : Addr} {u : Value} {o : Obj} {n : String} {vs : Array Value} {Q : Unit -> Shared -> Prop} (ho : s.heap.get? it = some o) (hc : o.cls = .type n) (hd : o.data = .fields vs)
   (hn : ["enumerate", "zip", "dict_itemiterator", "dict_reverseitemiterator", "odict_iterator", "itertools.zip_longest", "itertools.pairwise"].contains n = false) (hQ : Q () s) : wpAny M A (letOwnedTupleGo tg (.ref it) u) Q E s := by
 unfold letOwnedTupleGo
 cases tg <;> first
   | exact wpAny_pure hQ
   | (cases u <;> first
       | exact wpAny_pure hQ
       | (refine wpAny_bind (wpAny_load ho ?_)
          rw [hc, hd]
          show wpAny M A (if (["enumerate", "zip", "dict_itemiterator", "dict_reverseitemiterator", "odict_iterator", "itertools.zip_longest", "itertools.pairwise"].contains n && vs[0]? == some (rawInt _)) = true then _ else _) Q E s
          rw [if_neg (by intro h; rw [hn, Bool.false_and] at h; cases h)]
          exact wpAny_pure hQ))
def Itl (K : PySem.W.Frag) (a : Addr) : It :=
 ⟨fun i H => ∃ xs x, SqL K H a xs /\ xs[i]? = some x, fun i H x H' => H' = H /\ ∀ xs, SqL K H a xs -> xs[i]? = some x, fun i H => ∃ xs, SqL K H a xs /\ xs.length <= i⟩
def Itt (K : PySem.W.Frag) (a : Addr) : It :=
 ⟨fun i H => ∃ xs x, SqT K H a xs /\ xs[i]? = some x, fun i H x H' => H' = H /\ ∀ xs, SqT K H a xs -> xs[i]? = some x, fun i H => ∃ xs, SqT K H a xs /\ xs.length <= i⟩
def Itr (lo : Int) (n : Nat) : It := ⟨fun i _ => i < n, fun i H x H' => H' = H /\ x = .int (lo + i), fun i _ => n <= i⟩
theorem U0h {P : Program} {w : World} {K : PySem.W.Frag} {tg : Expr} (a it : Addr) : Turn P w K tg (Itl K a) [it] it (fun i h => h.IsListIter it a i) where
 mem := by simp
 obj := fun i h st b hb => by
   have e : b = it := by simpa using hb
   subst e
   obtain ⟨o, e, c, d⟩ := st
   exact ⟨o, e, fun v z => by rw [d] at z; cases z⟩
 keep := fun i h h' st k => st.at fun o e => k it (by simp) o e
 item := by
   intro X hP hw hK hc i pins s σ H E I hf st hg
   subst hP hw hK
   obtain ⟨xs, x, hq, hx⟩ := hg
   obtain ⟨its, rv, p, hz⟩ := I.list hq
   obtain ⟨u, hu, ru⟩ := rv.get hx
   obtain ⟨f0, f1, f2, f3, f4, f5⟩ := hf it (by simp)
   refine wpAny_pyNext_list_item st p.isList (x := u) (by simpa using hu) fun h' st' sb => ?_
   have I1 : Inv X pins σ H { s with heap := h' } := I.turned (t' := s.toks) (fun b o hb e => (sb.2 b hb).trans e) f0 f1 f3 f4 f5
   obtain ⟨o, e, c, d⟩ := id st'
   exact ⟨u, rfl, J8e (s := { s with heap := h' }) e c d (by decide) ⟨x, H, I1, ru, ⟨rfl, fun ys hy => by rw [I.list_inj hy hq]; exact hx⟩, st', fun b hb => (hf b hb).1⟩⟩
 done := by
   intro X hP hw hK hc i pins s σ H E I hf st hg
   subst hP hw hK
   obtain ⟨xs, hq, hx⟩ := hg
   obtain ⟨its, rv, p, hz⟩ := I.list hq
   obtain ⟨f0, f1, f2, f3, f4, f5⟩ := hf it (by simp)
   have hl := rv.length
   exact wpAny_pyNext_list_end (I.ok.hd hc) st p.isList (by simp; omega) fun h' eb => ⟨rfl, I.turned (t' := s.toks) (fun b o hb e => eb b o hb e) f0 f1 f3 f4 f5⟩
 self := fun _ _ _ _ _ st h => wpAny_pyIter_listiter st h
theorem G7a {P : Program} {w : World} {K : PySem.W.Frag} {tg : Expr} (it : Addr) (lo : Int) (n : Nat) : Turn P w K tg (Itr lo n) [it] it (fun i h => IsRangeIter h it (lo + (i : Nat) * 1) ((n : Int) - (i : Nat)) 1) where
 mem := by simp
 obj := fun i h st b hb => by
   have e : b = it := by simpa using hb
   subst e
   exact ⟨_, st, fun v z => by
     have z' : Data.fields _ = Data.cell v := z
     cases z'⟩
 keep := fun i h h' st k => k it (by simp) _ st
 item := by
   intro X hP hw hK hc i pins s σ H E I hf st hg
   subst hP hw hK
   obtain ⟨f0, f1, f2, f3, f4, f5⟩ := hf it (by simp)
   have W := Walks.range (prog := X.prog) (w := X.w) (I.ok.hd hc) it lo 1 n
   refine W.item i s _ _ hg st fun v h' tk hv st' kk => ?_
   obtain ⟨t, rfl⟩ := hv
   have I1 : Inv X pins σ H { s with heap := h', toks := tk } := I.turned (fun b o hb e => kk b o (by simpa using hb) e) f0 f1 f3 f4 f5
   refine ⟨_, rfl, J8e (s := { s with heap := h', toks := tk }) (n := "range_iterator") st' rfl rfl (by decide) ⟨.int (lo + i), H, I1, ⟨t, ?_⟩, ⟨rfl, rfl⟩, st', fun b hb => (hf b hb).1⟩⟩
   rw [Int.mul_one]
 done := by
   intro X hP hw hK hc i pins s σ H E I hf st hg
   subst hP hw hK
   obtain ⟨f0, f1, f2, f3, f4, f5⟩ := hf it (by simp)
   exact wpAny_pyNext_range_end (I.ok.hd hc) st (by have : n <= i := hg; omega) fun h' eb => ⟨rfl, I.turned (t' := s.toks) (fun b o hb e => eb b o hb e) f0 f1 f3 f4 f5⟩
 self := fun _ _ _ _ _ st h => wpAny_pyIter_rangeiter st h
section
variable {X : Cx} {tg : Expr}
def Y8w (K : PySem.W.Frag) (tl : TE) : TI := fun σ H R => tl σ H fun x H1 => ∃ a, x = .ref a /\ (∃ xs, SqL K H1 a xs) /\ R (Itl K a) H1
def Z5m (K : PySem.W.Frag) (tl : TE) : TI := fun σ H R => tl σ H fun x H1 => ∃ a, x = .ref a /\ (∃ xs, SqT K H1 a xs) /\ R (Itt K a) H1
theorem D2q {l : Expr} {tl : TE} (hl : PE X l tl) : PI X tg l (Y8w X.K tl) := by
 intro pins s σ H R I h
 refine thn (hl pins s σ H _ I h) fun v s1 ⟨x, H1, I1, r1, q1⟩ => ?_
 obtain ⟨a, e, ⟨xs, hq⟩, q⟩ := q1
 subst e
 cases r1
 obtain ⟨its, rv, p, hz⟩ := I1.list hq
 refine wpAny_pyIter_list p.isList ?_
 refine ⟨s1.heap.objs.size, [s1.heap.objs.size], _, _, H1, rfl, I1.kept (t' := s1.toks) fun b o e => Heap.get?_push_of_some _ e, U0h a _, ⟨_, Heap.get?_push_size _ rfl, rfl, rfl⟩, fun b hb => ?_, q⟩
 have e : b = s1.heap.objs.size := by simpa using hb
 subst e
 exact I1.fpOk (Nat.le_refl _) (I1.hok.fresh (Nat.le_refl _))
theorem U9n {pins : List (Addr × Obj)} {σ : St} {H : Hp} {s : Shared} {R : It -> Hp -> Prop} {E : Value -> Shared -> Prop} {lo hi : Int} {t u v : Tok} {tk : Nat} (I : Inv X pins σ H s) (h1 : -(2 ^ 62) <= lo) (h2 : lo < 2 ^ 62) (h3 : -(2 ^ 62) <= hi) (h4 : hi < 2 ^ 62)
   (q : R (Itr lo (hi - lo).toNat) H) : wpAny (model X.prog X.w) X.A (pyIter (.ref s.heap.objs.size)) (PIE X pins σ tg R) E { s with heap := s.heap.push { cls := .type "range", data := .fields #[.int lo t, .int hi u, .int 1 v] }, toks := tk } := by
 refine wpAny_pyIter_range (IsRange.new ..) (small_one h1 h2 h3 h4) ?_
 have I1 : Inv X pins σ H { s with heap := s.heap.push { cls := .type "range", data := .fields #[.int lo t, .int hi u, .int 1 v] }, toks := tk } := I.kept fun b o e => Heap.get?_push_of_some _ e
 refine ⟨(s.heap.push { cls := .type "range", data := .fields #[.int lo t, .int hi u, .int 1 v] }).objs.size, [(s.heap.push { cls := .type "range", data := .fields #[.int lo t, .int hi u, .int 1 v] }).objs.size], _, _, H, rfl,
   I1.kept (t' := tk) fun b o e => Heap.get?_push_of_some _ e, G7a _ lo (hi - lo).toNat, ?_, fun b hb => ?_, q⟩
 . have e1 : lo + ((0 : Nat) : Int) * 1 = lo := by simp
   have e2 : (((hi - lo).toNat : Nat) : Int) - ((0 : Nat) : Int) = Builtin.Range.rangeSize lo hi 1 := by rw [rangeSize_one]; split <;> omega
   show IsRangeIter _ _ (lo + ((0 : Nat) : Int) * 1) ((((hi - lo).toNat : Nat) : Int) - ((0 : Nat) : Int)) 1
   rw [e1, e2]
   exact Heap.get?_push_size _ rfl
 . have e : b = (s.heap.push { cls := .type "range", data := .fields #[.int lo t, .int hi u, .int 1 v] }).objs.size := by simpa using hb
   subst e
   exact I1.fpOk (Nat.le_refl _) (I1.hok.fresh (Nat.le_refl _))
def Z6s (ta : TA) : TI := fun σ H R => ta σ H fun vs H1 => ∃ j : Int, vs = [.int j] /\ -(2 ^ 62) <= j /\ j < 2 ^ 62 /\ R (Itr 0 j.toNat) H1
theorem B5p {a : Expr} {ta : TA} {p pos : Pos} (hg : Gl X "range") (hm : X.mg "range" = none) (ha : PA X [a] ta) (hs : starEach [a] X.env = [(false, eval a X.env)] := by rfl) : PI X tg (.Call (.Name "range" p) [a] [] pos) (Z6s ta) := by
 intro pins s σ H R I h
 refine Call_ (C2c I hg hm boot_range (PyProof.Rows.callWith_type1 (thn (ha pos pins s σ H _ I h) fun us s1 ⟨vs, H1, I1, r1, q1⟩ => ?_) hs rfl))
 obtain ⟨j, e, q1, q2, q⟩ := q1
 subst e
 cases r1 with
 | cons r rr =>
   cases rr
   obtain ⟨t, rfl⟩ := r
   exact call_range_1 (U9n I1 (by omega) (by omega) q1 q2 (by simpa using q))
def Z9w (wi : TI) (g : TG) (tb : TS) : TS := fun D σ H => wi σ H fun J H1 => ∃ W : Nat -> Nat -> St -> Hp -> Prop, (∃ m, W 0 m σ H1) /\ ∀ i m σ H, W i m σ H ->
 (J.stop i H /\ D.nx σ H) \/ (J.go i H /\ ∃ N : St -> Hp -> Prop, (∀ σ' H', N σ' H' -> ∃ m', m' < m /\ W (i + 1) m' σ' H') /\ ∀ x H', J.yld i H x H' -> g x σ H' fun σ2 H2 => tb { D with nx := N, ct := N, bk := D.nx } σ2 H2)
def D2f (fp : List Addr) (h : Heap) : List (Addr × Obj) := fp.filterMap fun b => (h.get? b).map fun o => (b, o)
theorem C1m {fp : List Addr} {h : Heap} {b : Addr} {o : Obj} (hb : b ∈ fp) (e : h.get? b = some o) : (b, o) ∈ D2f fp h := List.mem_filterMap.mpr ⟨b, hb, by rw [e]; rfl⟩
theorem U0t {fp : List Addr} {h : Heap} {p : Addr × Obj} (hp : p ∈ D2f fp h) : p.1 ∈ fp /\ h.get? p.1 = some p.2 := by
 obtain ⟨b, hb, e⟩ := List.mem_filterMap.mp hp
 cases q : h.get? b with
 | none => rw [q] at e; cases e
 | some o =>
   rw [q] at e
   have e' : (b, o) = p := Option.some.inj e
   subst e'
   exact ⟨hb, q⟩
theorem Inv.pinned {pins : List (Addr × Obj)} {σ : St} {H : Hp} {s : Shared} {fp : List Addr} (I : Inv X pins σ H s) (hf : ∀ b ∈ fp, A1q X pins H b) (ho : ∀ b ∈ fp, ∃ o, s.heap.get? b = some o /\ ∀ v, o.data ≠ .cell v) : Inv X (pins ++ D2f fp s.heap) σ H s :=
 I.pins_of fun p hp => (List.mem_append.mp hp).elim (fun z => I.pin p (List.mem_append_right _ z)) fun z => by
   obtain ⟨hb, e⟩ := U0t z
   obtain ⟨f0, f1, f2, _⟩ := hf p.1 hb
   obtain ⟨o, e', d⟩ := ho p.1 hb
   rw [e] at e'; cases e'
   exact ⟨e, f0, f1, f2, d⟩
theorem Inv.unpinned {pins pl : List (Addr × Obj)} {σ : St} {H : Hp} {s : Shared} (I : Inv X (pins ++ pl) σ H s) : Inv X pins σ H s := I.pins_of fun p hp => I.pin p (List.mem_append_right _ (List.mem_append_left _ hp))
theorem B2z {iter : Expr} {body : List Stmt} {wi : TI} {g : TG} {tb : TS} {pos : Pos} (hp : PassesOwn (model X.prog X.w) X.A X.env X.xe) (hc : X.calm = true) (hi : PI X tg iter wi) (hg : PG X tg g) (hb : PSs X body tb)
   (hs : ∀ x, foldedSetIterable iter X.env x = pure x := by intro _; rfl) : PS X (.For tg iter body [] pos) (Z9w wi g tb) := by
 intro pins s σ H D I h
 refine wpAny_For (thn (hi pins s σ H _ I h) fun v s1 h1 => thn h1 fun itv s2 h2 => ?_) hs
 obtain ⟨it, fp, tn, J, H2, e, I2, T, st2, f2, W, ⟨m0, w0⟩, turn⟩ := h2
 subst e
 have stat : ∀ {H' : Hp}, (∀ b ∈ fp, H' b = none) -> ∀ b ∈ fp, A1q X pins H' b := fun hn b hb => ⟨hn b hb, (f2 b hb).2⟩
 refine codeAny_forLoop_any (fun n s' => ∃ i σ' H', Inv X pins σ' H' s' /\ tn i s'.heap /\ (∀ b ∈ fp, H' b = none) /\ W i n σ' H') ?_ m0 ⟨0, σ, H2, I2, st2, fun b hb => (f2 b hb).1, w0⟩
 rintro n s3 ⟨i, σ3, H3, I3, st3, fr3, w3⟩
 rcases turn i n σ3 H3 w3 with ⟨stop, qn⟩ | ⟨go, N, hN, step⟩
 . refine wpAny_passesOwn hp (thn (T.done X rfl rfl rfl hc i pins s3 σ3 H3 X.xe I3 (stat fr3) st3 stop) fun r s4 ⟨hr, I4⟩ => ?_)
   subst hr
   exact wpAny_execs_nil ⟨σ3, H3, I4, qn⟩
 . refine wpAny_passesOwn hp (thn (T.item X rfl rfl rfl hc i pins s3 σ3 H3 X.xe I3 (stat fr3) st3 go) fun r s4 ⟨u, hr, h4⟩ => ?_)
   subst hr
   refine wpAny_passesOwn hp (thn h4 fun _ s5 ⟨x, H5, I5, r5, y5, st5, fr5⟩ => ?_)
   have I5' := I5.pinned (stat fr5) (T.obj _ _ st5)
   refine wpAny_passesOwn hp (thn (hg _ s5 σ3 H5 x u _ I5' r5 (step x H5 y5)) fun _ s6 ⟨σ6, H6, I6, q6⟩ => ?_)
   refine wpAny_passesOwn hp (thn (hb _ s6 σ6 H6 _ I6 q6) fun f s7 q7 => ?_)
   have again : ∀ {σ7 : St} {H7 : Hp}, Inv X (pins ++ D2f fp s5.heap) σ7 H7 s7 -> N σ7 H7 -> ∃ m, m < n /\ ∃ i σ' H', Inv X pins σ' H' s7 /\ tn i s7.heap /\ (∀ b ∈ fp, H' b = none) /\ W i m σ' H' := fun {σ7 H7} I7 n7 => by
     obtain ⟨m', hm, w7⟩ := hN σ7 H7 n7
     refine ⟨m', hm, i + 1, σ7, H7, I7.unpinned, T.keep _ _ _ st5 fun b hb o e => (I7.pin (b, o) (List.mem_append_right _ (List.mem_append_right _ (C1m hb e)))).1, fun b hb => ?_, w7⟩
     obtain ⟨o, e, d⟩ := T.obj _ _ st5 b hb
     exact (I7.pin (b, o) (List.mem_append_right _ (List.mem_append_right _ (C1m hb e)))).2.1
   cases f with
   | next => obtain ⟨σ7, H7, I7, n7⟩ := q7; exact again I7 n7
   | cont => obtain ⟨σ7, H7, I7, n7⟩ := q7; exact again I7 n7
   | brk => obtain ⟨σ7, H7, I7, q7⟩ := q7; exact ⟨σ7, H7, I7.unpinned, q7⟩
   | ret v => obtain ⟨x7, σ7, H7, I7, r7, q7⟩ := q7; exact ⟨x7, σ7, H7, I7.unpinned, r7, q7⟩
end
theorem A8f {K : PySem.W.Frag} {a : Addr} {xs : List V} {g : TG} {tb : TS} {D : Ends} {σ : St} {H : Hp} (Pv : Nat -> St -> Hp -> Prop) (h0 : Pv 0 σ H) (hl : ∀ i σ H, i <= xs.length -> Pv i σ H -> SqL K H a xs)
   (hs : ∀ i x σ H, xs[i]? = some x -> Pv i σ H -> g x σ H fun σ2 H2 => tb { D with nx := Pv (i + 1), ct := Pv (i + 1), bk := D.nx } σ2 H2) (hd : ∀ σ H, Pv xs.length σ H -> D.nx σ H) :
   ∃ W : Nat -> Nat -> St -> Hp -> Prop, (∃ m, W 0 m σ H) /\ ∀ i m σ H, W i m σ H ->
     ((Itl K a).stop i H /\ D.nx σ H) \/ ((Itl K a).go i H /\ ∃ N : St -> Hp -> Prop, (∀ σ' H', N σ' H' -> ∃ m', m' < m /\ W (i + 1) m' σ' H') /\ ∀ x H', (Itl K a).yld i H x H' -> g x σ H' fun σ2 H2 => tb { D with nx := N, ct := N, bk := D.nx } σ2 H2) := by
 refine ⟨fun i m σ H => m = xs.length - i /\ i <= xs.length /\ Pv i σ H, ⟨xs.length, by simp, Nat.zero_le _, h0⟩, ?_⟩
 rintro i m σ H ⟨rfl, hi, p⟩
 have q := hl i σ H hi p
 by_cases hlt : i < xs.length
 . refine .inr ⟨⟨xs, xs[i], q, by simp [hlt]⟩, Pv (i + 1), fun σ' H' p' => ⟨xs.length - (i + 1), by omega, rfl, hlt, p'⟩, fun x H' y => ?_⟩
   obtain ⟨e, y⟩ := y
   subst e
   exact hs i x σ _ (y xs q) p
 . have e : i = xs.length := by omega
   subst e
   exact .inl ⟨⟨xs, q, Nat.le_refl _⟩, hd σ H p⟩
theorem B5t {lo : Int} {n : Nat} {g : TG} {tb : TS} {D : Ends} {σ : St} {H : Hp} (Pv : Nat -> St -> Hp -> Prop) (h0 : Pv 0 σ H)
   (hs : ∀ i σ H, i < n -> Pv i σ H -> g (.int (lo + i)) σ H fun σ2 H2 => tb { D with nx := Pv (i + 1), ct := Pv (i + 1), bk := D.nx } σ2 H2) (hd : ∀ σ H, Pv n σ H -> D.nx σ H) :
   ∃ W : Nat -> Nat -> St -> Hp -> Prop, (∃ m, W 0 m σ H) /\ ∀ i m σ H, W i m σ H ->
     ((Itr lo n).stop i H /\ D.nx σ H) \/ ((Itr lo n).go i H /\ ∃ N : St -> Hp -> Prop, (∀ σ' H', N σ' H' -> ∃ m', m' < m /\ W (i + 1) m' σ' H') /\ ∀ x H', (Itr lo n).yld i H x H' -> g x σ H' fun σ2 H2 => tb { D with nx := N, ct := N, bk := D.nx } σ2 H2) := by
 refine ⟨fun i m σ H => m = n - i /\ i <= n /\ Pv i σ H, ⟨n, by simp, Nat.zero_le _, h0⟩, ?_⟩
 rintro i m σ H ⟨rfl, hi, p⟩
 by_cases hlt : i < n
 . refine .inr ⟨hlt, Pv (i + 1), fun σ' H' p' => ⟨n - (i + 1), by omega, rfl, hlt, p'⟩, fun x H' y => ?_⟩
   obtain ⟨e, y⟩ := y
   subst e y
   exact hs i σ _ hlt p
 . have e : i = n := by omega
   subst e
   exact .inl ⟨Nat.le_refl _, hd σ H p⟩
theorem C2k {c : TT} {tb : TS} {D : Ends} {σ : St} {H : Hp} (Pv : St -> Hp -> Prop) (μ : St -> Hp -> Nat) (h0 : Pv σ H)
   (hs : ∀ σ H, Pv σ H -> c σ H fun b H1 => if b = true then tb { D with nx := fun σ' H' => Pv σ' H' /\ μ σ' H' < μ σ H, ct := fun σ' H' => Pv σ' H' /\ μ σ' H' < μ σ H, bk := D.nx } σ H1 else D.nx σ H1)
   (mono : ∀ σ H Q Q', (∀ b H1, Q b H1 -> Q' b H1) -> c σ H Q -> c σ H Q') : U9e c tb D σ H := by
 refine ⟨fun m σ H => m = μ σ H /\ Pv σ H, ⟨_, rfl, h0⟩, ?_⟩
 rintro m σ H ⟨rfl, p⟩
 refine mono σ H _ _ (fun b H1 q => ?_) (hs σ H p)
 cases b with
 | true => exact ⟨_, fun σ' H' ⟨p', l⟩ => ⟨_, l, rfl, p'⟩, q⟩
 | false => exact q
abbrev R2 := V -> V -> Hp -> VK -> Prop
def OpR (X : Cx) (f : Value -> Value -> Sem Value) (r : R2) : Prop :=
 ∀ (pins : List (Addr × Obj)) (s : Shared) (σ : St) (H : Hp) (x y : V) (v u : Value) (Q : VK), Inv X pins σ H s -> RelV x v -> RelV y u -> r x y H Q ->
   wpAny (model X.prog X.w) X.A (f v u) (EP X pins σ Q) X.xe s
def UnR (X : Cx) (f : Value -> Sem Value) (r : V -> Hp -> VK -> Prop) : Prop :=
 ∀ (pins : List (Addr × Obj)) (s : Shared) (σ : St) (H : Hp) (x : V) (v : Value) (Q : VK), Inv X pins σ H s -> RelV x v -> r x H Q ->
   wpAny (model X.prog X.w) X.A (f v) (EP X pins σ Q) X.xe s
def A7n (X : Cx) (f : Value) (r : List V -> Hp -> VK -> Prop) : Prop :=
 ∀ (pins : List (Addr × Obj)) (s : Shared) (σ : St) (H : Hp) (xs : List V) (us : List Value) (Q : VK), Inv X pins σ H s -> Vals xs us -> r xs H Q ->
   wpAny (model X.prog X.w) X.A (call f us) (EP X pins σ Q) X.xe s
def tOp (r : R2) (ta tb : TE) : TE := fun σ H Q => ta σ H fun x H1 => tb σ H1 fun y H2 => r x y H2 Q
def tUn (r : V -> Hp -> VK -> Prop) (ta : TE) : TE := fun σ H Q => ta σ H fun x H1 => r x H1 Q
def rI (C : Int -> Int -> Prop) (g : Int -> Int -> V) : R2 := fun x y H Q => ∃ i j, x = .int i /\ y = .int j /\ C i j /\ Q (g i j) H
def rI0 (g : Int -> Int -> V) : R2 := fun x y H Q => ∃ i j, x = .int i /\ y = .int j /\ Q (g i j) H
def rU (g : Int -> V) : V -> Hp -> VK -> Prop := fun x H Q => ∃ i, x = .int i /\ Q (g i) H
section
variable {X : Cx} {a b c : Expr} {ta tb tc : TE} {pos : Pos}
theorem Z1g (ha : PE X a ta) (hb : PE X b tb) {pins : List (Addr × Obj)} {s : Shared} {σ : St} {H : Hp} {R : V -> V -> Hp -> Prop} (I : Inv X pins σ H s)
   (h : ta σ H fun x H1 => tb σ H1 fun y H2 => R x y H2) {Q : Value -> Shared -> Prop} {f : Value -> Value -> Sem Value}
   (hf : ∀ v u s2 x y H2, Inv X pins σ H2 s2 -> RelV x v -> RelV y u -> R x y H2 -> wpAny (model X.prog X.w) X.A (f v u) Q X.xe s2) :
   wpAny (model X.prog X.w) X.A (eval a X.env) (fun v s₁ => wpAny (model X.prog X.w) X.A (eval b X.env) (fun u s₂ => wpAny (model X.prog X.w) X.A (f v u) Q X.xe s₂) X.xe s₁) X.xe s := by
 refine thn (ha pins s σ H _ I h) fun v s1 ⟨x, H1, I1, r1, q1⟩ => ?_
 refine thn (hb pins s1 σ H1 _ I1 q1) fun u s2 ⟨y, H2, I2, r2, q2⟩ => ?_
 exact hf v u s2 x y H2 I2 r1 r2 q2
theorem B3 {op : Operator} {r : R2} (ho : OpR X (binaryOp op) r) (ha : PE X a ta) (hb : PE X b tb) : PE X (.BinOp a op b pos) (tOp r ta tb) := by
 intro pins s σ H Q I h
 exact wpAny_BinOp (Z1g ha hb I h fun v u s2 x y H2 I2 rx ry q => ho pins s2 σ H2 x y v u Q I2 rx ry q)
theorem A0r {op : UnaryOp} {r : V -> Hp -> VK -> Prop} (ho : UnR X (unaryOp op) r) (ha : PE X a ta) : PE X (.UnaryOp op a pos) (tUn r ta) := by
 intro pins s σ H Q I h
 exact UnaryOp_ (thn (ha pins s σ H _ I h) fun v s1 ⟨x, H1, I1, r1, q1⟩ => ho pins s1 σ H1 x v Q I1 r1 q1)
theorem opI {f : Value -> Value -> Sem Value} {C : Int -> Int -> Prop} {g : Int -> Int -> Int}
   (rule : ∀ (i j : Int) (t u : Tok) (s : Shared) (Q : Value -> Shared -> Prop) (E : Value -> Shared -> Prop), C i j -> Q (.int (g i j) s.toks) { s with toks := s.toks + 1 } -> wpAny (model X.prog X.w) X.A (f (.int i t) (.int j u)) Q E s) :
   OpR X f (rI C fun i j => .int (g i j)) := by
 intro pins s σ H x y v u Q I rx ry h
 obtain ⟨i, j, rfl, rfl, hc, q⟩ := h
 obtain ⟨t, rfl⟩ := rx
 obtain ⟨t', rfl⟩ := ry
 exact rule i j t t' s _ _ hc ⟨.int (g i j), H, I.tok _, ⟨_, rfl⟩, q⟩
theorem Z5q {f : Value -> Value -> Sem Value} {g : Int -> Int -> Int}
   (rule : ∀ (i j : Int) (t u : Tok) (s : Shared) (Q : Value -> Shared -> Prop) (E : Value -> Shared -> Prop), Q (.int (g i j) s.toks) { s with toks := s.toks + 1 } -> wpAny (model X.prog X.w) X.A (f (.int i t) (.int j u)) Q E s) :
   OpR X f (rI0 fun i j => .int (g i j)) := by
 intro pins s σ H x y v u Q I rx ry h
 obtain ⟨i, j, rfl, rfl, q⟩ := h
 obtain ⟨t, rfl⟩ := rx
 obtain ⟨t', rfl⟩ := ry
 exact rule i j t t' s _ _ ⟨.int (g i j), H, I.tok _, ⟨_, rfl⟩, q⟩
theorem Y6a {f : Value -> Value -> Sem Value} {g : Int -> Int -> Bool}
   (rule : ∀ (i j : Int) (t u : Tok) (s : Shared) (Q : Value -> Shared -> Prop) (E : Value -> Shared -> Prop), Q (.bool (g i j)) s -> wpAny (model X.prog X.w) X.A (f (.int i t) (.int j u)) Q E s) :
   OpR X f (rI0 fun i j => .bl (g i j)) := by
 intro pins s σ H x y v u Q I rx ry h
 obtain ⟨i, j, rfl, rfl, q⟩ := h
 obtain ⟨t, rfl⟩ := rx
 obtain ⟨t', rfl⟩ := ry
 exact rule i j t t' s _ _ ⟨.bl (g i j), H, I, rfl, q⟩
def Z0q (i j : Int) : Prop := 0 <= j /\ j <= 1000000 /\ i.natAbs < 2 ^ 64
def CMul (i j : Int) : Prop := (-(2 ^ 64) < i /\ i < 2 ^ 64) \/ (-(2 ^ 64) < j /\ j < 2 ^ 64)
theorem CMul.ok {i j : Int} (h : CMul i j) : IntMulOk i j := by
 rcases h with ⟨h1, h2⟩ | ⟨h1, h2⟩
 . exact .of_left (intBits_le_64 h1 h2)
 . exact .of_right (intBits_le_64 h1 h2)
theorem U8 : OpR X (binaryOp .Add) (rI0 fun i j => .int (i + j)) := Z5q fun _ _ _ _ _ _ _ q => add_int q
theorem U0 : OpR X (binaryOp .Sub) (rI0 fun i j => .int (i - j)) := Z5q fun _ _ _ _ _ _ _ q => sub_int q
theorem G4 : OpR X (binaryOp .Mod) (rI (fun _ j => 0 < j) fun i j => .int (i % j)) := opI fun i j _ _ _ _ _ hc q => by
 have h1 : (0 : Int) < j := hc
 exact mod_int' (by omega) (by rw [Int.fmod_eq_emod_of_nonneg i (by omega)]; exact q)
theorem U8f : OpR X (binaryOp .Pow) (rI Z0q fun i j => .int (i ^ j.toNat)) := opI fun _ _ _ _ _ _ _ hc q => pow_int_small hc.1 hc.2.1 hc.2.2 q
theorem unI {f : Value -> Sem Value} {g : Int -> Int}
   (rule : ∀ (i : Int) (t : Tok) (s : Shared) (Q : Value -> Shared -> Prop) (E : Value -> Shared -> Prop), Q (.int (g i) s.toks) { s with toks := s.toks + 1 } -> wpAny (model X.prog X.w) X.A (f (.int i t)) Q E s) :
   UnR X f (rU fun i => .int (g i)) := by
 intro pins s σ H x v Q I rx h
 obtain ⟨i, rfl, q⟩ := h
 obtain ⟨t, rfl⟩ := rx
 exact rule i t s _ _ ⟨.int (g i), H, I.tok _, ⟨_, rfl⟩, q⟩
theorem V4 : UnR X (unaryOp .USub) (rU fun i => .int (-i)) := unI fun _ _ _ _ _ q => neg_int q
end
def Z5k : V -> V -> Bool
 | .non, .non => true | .non, .int _ => true | .int _, .non => true | .non, .bl _ => true | .bl _, .non => true | .non, .str _ => true | .str _, .non => true
 | .int _, .int _ => true | .bl _, .bl _ => true | .str _, .str _ => true | .byt _, .byt _ => true
 | .int _, .str _ => true | .str _, .int _ => true | .bl _, .str _ => true | .str _, .bl _ => true
 | _, _ => false
def rEq : R2 := fun x y H Q => Z5k x y = true /\ Q (.bl (decide (x = y))) H
def rNe : R2 := fun x y H Q => Z5k x y = true /\ Q (.bl (!decide (x = y))) H
theorem J7t {i j : Int} : decide (V.int i = V.int j) = (i == j) := by
 rw [Bool.eq_iff_iff]
 simp
theorem V0c {i j : Bool} : decide (V.bl i = V.bl j) = (i == j) := by
 rw [Bool.eq_iff_iff]
 simp
theorem dec_str {i j : Str} : decide (V.str i = V.str j) = (i == j) := by
 rw [Bool.eq_iff_iff]
 simp
theorem J7w {i j : Array UInt8} : decide (V.byt i = V.byt j) = (i.toList == j.toList) := by
 rw [Bool.eq_iff_iff]
 cases i
 cases j
 simp
section
variable {X : Cx} {a b c : Expr} {ta tb tc : TE} {pos : Pos}
theorem G6 {pins : List (Addr × Obj)} {σ : St} {H : Hp} {s : Shared} {Q : VK} {k k' : Bool} (I : Inv X pins σ H s) (q : Q (.bl k) H) (e : k = k') : EP X pins σ Q (.bool k') s := by
 subst e
 exact ⟨.bl k, H, I, rfl, q⟩
theorem G0 : OpR X (compareOp .Eq) rEq := by
 intro pins s σ H x y v u Q I rx ry h
 obtain ⟨hs, q⟩ := h
 cases x with
 | non =>
   cases rx
   cases y with
   | non => cases ry; exact PySem.EqNone.eq_none_none (G6 I q (by simp))
   | bl j => cases ry; exact PySem.EqNone.eq_none_bool (G6 I q (by simp))
   | int j => obtain ⟨t', rfl⟩ := ry; exact PySem.EqNone.eq_none_int (G6 I q (by simp))
   | str j => obtain ⟨t', rfl⟩ := ry; exact PySem.EqNone.eq_none_str (G6 I q (by simp))
   | _ => exact absurd (show false = true from hs) Bool.false_ne_true
 | bl i =>
   cases rx
   cases y with
   | non => cases ry; exact PySem.EqNone.eq_bool_none (G6 I q (by simp))
   | bl j => cases ry; exact eq_bool (G6 I q V0c)
   | str j => obtain ⟨t', rfl⟩ := ry; exact PySem.EqMixed.eq_bool_str (G6 I q (by simp))
   | _ => exact absurd (show false = true from hs) Bool.false_ne_true
 | int i =>
   obtain ⟨t, rfl⟩ := rx
   cases y with
   | non => cases ry; exact PySem.EqNone.eq_int_none (G6 I q (by simp))
   | int j => obtain ⟨t', rfl⟩ := ry; exact eq_int (G6 I q J7t)
   | str j => obtain ⟨t', rfl⟩ := ry; exact PySem.EqMixed.eq_int_str (G6 I q (by simp))
   | _ => exact absurd (show false = true from hs) Bool.false_ne_true
 | str i =>
   obtain ⟨t, rfl⟩ := rx
   cases y with
   | non => cases ry; exact PySem.EqNone.eq_str_none (G6 I q (by simp))
   | bl j => cases ry; exact PySem.EqMixed.eq_str_bool (G6 I q (by simp))
   | int j => obtain ⟨t', rfl⟩ := ry; exact PySem.EqMixed.eq_str_int (G6 I q (by simp))
   | str j => obtain ⟨t', rfl⟩ := ry; exact eq_str (G6 I q dec_str)
   | _ => exact absurd (show false = true from hs) Bool.false_ne_true
 | byt i =>
   obtain ⟨t, rfl⟩ := rx
   cases y with
   | byt j => obtain ⟨t', rfl⟩ := ry; exact PySem.W.eq_bytes (G6 I q J7w)
   | _ => exact absurd (show false = true from hs) Bool.false_ne_true
 | _ => cases y <;> exact absurd (show false = true from hs) Bool.false_ne_true
theorem C1y : OpR X (compareOp .NotEq) rNe := by
 intro pins s σ H x y v u Q I rx ry h
 obtain ⟨hs, q⟩ := h
 cases x with
 | non =>
   cases rx
   cases y with
   | non => cases ry; exact PySem.EqNone.ne_none_none (G6 I q (by simp))
   | bl j => cases ry; exact PySem.EqNone.ne_none_bool (G6 I q (by simp))
   | int j => obtain ⟨t', rfl⟩ := ry; exact PySem.EqNone.ne_none_int (G6 I q (by simp))
   | str j => obtain ⟨t', rfl⟩ := ry; exact PySem.EqNone.ne_none_str (G6 I q (by simp))
   | _ => exact absurd (show false = true from hs) Bool.false_ne_true
 | bl i =>
   cases rx
   cases y with
   | non => cases ry; exact PySem.EqNone.ne_bool_none (G6 I q (by simp))
   | bl j => cases ry; exact ne_bool (G6 I q (congrArg not V0c))
   | str j => obtain ⟨t', rfl⟩ := ry; exact PySem.EqMixed.ne_bool_str (G6 I q (by simp))
   | _ => exact absurd (show false = true from hs) Bool.false_ne_true
 | int i =>
   obtain ⟨t, rfl⟩ := rx
   cases y with
   | non => cases ry; exact PySem.EqNone.ne_int_none (G6 I q (by simp))
   | int j => obtain ⟨t', rfl⟩ := ry; exact ne_int (G6 I q (congrArg not J7t))
   | str j => obtain ⟨t', rfl⟩ := ry; exact PySem.EqMixed.ne_int_str (G6 I q (by simp))
   | _ => exact absurd (show false = true from hs) Bool.false_ne_true
 | str i =>
   obtain ⟨t, rfl⟩ := rx
   cases y with
   | non => cases ry; exact PySem.EqNone.ne_str_none (G6 I q (by simp))
   | bl j => cases ry; exact PySem.EqMixed.ne_str_bool (G6 I q (by simp))
   | int j => obtain ⟨t', rfl⟩ := ry; exact PySem.EqMixed.ne_str_int (G6 I q (by simp))
   | str j => obtain ⟨t', rfl⟩ := ry; exact ne_str (G6 I q (congrArg not dec_str))
   | _ => exact absurd (show false = true from hs) Bool.false_ne_true
 | byt i =>
   obtain ⟨t, rfl⟩ := rx
   cases y with
   | byt j => obtain ⟨t', rfl⟩ := ry; exact PySem.W.ne_bytes (G6 I q (congrArg not J7w))
   | _ => exact absurd (show false = true from hs) Bool.false_ne_true
 | _ => cases y <;> exact absurd (show false = true from hs) Bool.false_ne_true
theorem G1z : OpR X (compareOp .Lt) (rI0 fun i j => .bl (decide (i < j))) := Y6a fun _ _ _ _ _ _ _ q => lt_int q
theorem Y9b : OpR X (compareOp .LtE) (rI0 fun i j => .bl (decide (i <= j))) := Y6a fun _ _ _ _ _ _ _ q => le_int q
theorem C2a : OpR X (compareOp .Gt) (rI0 fun i j => .bl (decide (j < i))) := Y6a fun _ _ _ _ _ _ _ q => gt_int q
theorem U6r : OpR X (compareOp .GtE) (rI0 fun i j => .bl (decide (j <= i))) := Y6a fun _ _ _ _ _ _ _ q => ge_int q
theorem Y9y : OpR X (compareOp .Is) (fun x y H Q => y = .non /\ Q (.bl (decide (x = .non))) H) := by
 intro pins s σ H x y v u Q I rx ry h
 obtain ⟨rfl, q⟩ := h
 cases ry
 refine is_none_gen (G6 I q ?_)
 cases x <;> first
   | (cases rx; rfl)
   | (obtain ⟨t, rfl⟩ := rx; rfl)
theorem B8 (b : Expr) {op : CmpOp} (h : op ≠ .In := by decide) (h2 : op ≠ .NotIn := by decide) : behindInMarks op b = false := by
 have e1 : (op == CmpOp.In) = false := by cases op <;> first | rfl | exact absurd rfl h
 have e2 : (op == CmpOp.NotIn) = false := by cases op <;> first | rfl | exact absurd rfl h2
 cases b <;> simp [behindInMarks, e1, e2]
theorem G9 {op : CmpOp} {r : R2} (ho : OpR X (compareOp op) r) (ha : PE X a ta) (hb : PE X b tb) (hm : behindInMarks op b = false) : PE X (.Compare a [op] [b] pos) (tOp r ta tb) := by
 intro pins s σ H Q I h
 exact wpAny_Compare1 (Z1g ha hb I h fun v u s2 x y H2 I2 rx ry q => ho pins s2 σ H2 x y v u Q I2 rx ry q) hm
def Z6k (t : TE) : TT := fun σ H Q => t σ H fun x H' => ∃ k, x = .bl k /\ Q k H'
theorem B9 {op : CmpOp} {r : R2} (ho : OpR X (compareOp op) r) (ha : PE X a ta) (hb : PE X b tb) (hm : behindInMarks op b = false) : PT X (.Compare a [op] [b] pos) (Z6k (tOp r ta tb)) := by
 intro pins s σ H Q I h
 refine wpAny_isTrue_Compare1 (thn (ha pins s σ H _ I h) fun v s1 ⟨x, H1, I1, r1, q1⟩ => thn (hb pins s1 σ H1 _ I1 q1) fun u s2 ⟨y, H2, I2, r2, q2⟩ =>
   thn (ho pins s2 σ H2 x y v u _ I2 r1 r2 q2) fun c s3 ⟨z, H3, I3, r3, k, e, q3⟩ => ?_) hm
 subst e
 cases r3
 exact wpAny_truthy_bool ⟨H3, I3, q3⟩
theorem C1z : (sizeLine : Nat) < 2 ^ 63 := by rw [sizeLine_eq]; decide
theorem C2n {x : V} {us : List Value} (r : Vals [x] us) : ∃ u, us = [u] /\ RelV x u := by
 cases r with
 | cons r1 r2 => cases r2; exact ⟨_, rfl, r1⟩
theorem Y9a {x y : V} {us : List Value} (r : Vals [x, y] us) : ∃ u w', us = [u, w'] /\ RelV x u /\ RelV y w' := by
 cases r with
 | cons r1 r2 =>
   cases r2 with
   | cons r3 r4 => cases r4; exact ⟨_, _, rfl, r1, r3⟩
theorem U7w : A7n X (.builtin "abs") (fun xs H Q => ∃ i, xs = [.int i] /\ Q (.int (if i < 0 then -i else i)) H) := by
 intro pins s σ H xs us Q I r h
 obtain ⟨i, rfl, q⟩ := h
 obtain ⟨u, rfl, t, rfl⟩ := C2n r
 exact call_abs_int fun u tk => ⟨.int (if i < 0 then -i else i), H, I.tok _, ⟨_, rfl⟩, q⟩
theorem B1e (hc : X.calm = true) : A7n X (.builtin "max") (fun xs H Q => ∃ i j, xs = [.int i, .int j] /\ Q (.int (if j > i then j else i)) H) := by
 intro pins s σ H xs us Q I r h
 obtain ⟨i, j, rfl, q⟩ := h
 obtain ⟨u, w', rfl, ⟨t, rfl⟩, ⟨t', rfl⟩⟩ := Y9a r
 refine max_two_ints (I.ok.hd hc) fun h' tk k => ⟨_, H, I.kept k, ?_, q⟩
 by_cases hj : j > i
 . rw [if_pos hj, if_pos hj]; exact ⟨_, rfl⟩
 . rw [if_neg hj, if_neg hj]; exact ⟨_, rfl⟩
theorem B1g (hc : X.calm = true) : A7n X (.builtin "min") (fun xs H Q => ∃ i j, xs = [.int i, .int j] /\ Q (.int (if j < i then j else i)) H) := by
 intro pins s σ H xs us Q I r h
 obtain ⟨i, j, rfl, q⟩ := h
 obtain ⟨u, w', rfl, ⟨t, rfl⟩, ⟨t', rfl⟩⟩ := Y9a r
 refine min_two_ints (I.ok.hd hc) fun h' tk k => ⟨_, H, I.kept k, ?_, q⟩
 by_cases hj : j < i
 . rw [if_pos hj, if_pos hj]; exact ⟨_, rfl⟩
 . rw [if_neg hj, if_neg hj]; exact ⟨_, rfl⟩
theorem U1g : A7n X (.type "int") (fun xs H Q => (∃ i, xs = [.int i] /\ Q (.int i) H) \/ ∃ k, xs = [.bl k] /\ Q (.int (if k then 1 else 0)) H) := by
 intro pins s σ H xs us Q I r h
 rcases h with ⟨i, rfl, q⟩ | ⟨k, rfl, q⟩
 . obtain ⟨u, rfl, t, rfl⟩ := C2n r
   exact call_int_int ⟨.int i, H, I, ⟨_, rfl⟩, q⟩
 . obtain ⟨u, rfl, r1⟩ := C2n r
   cases r1
   exact call_int_bool ⟨.int (if k then 1 else 0), H, I.tok _, ⟨_, rfl⟩, q⟩
theorem D2k : A7n X (.type "str") (fun xs H Q => ∃ i, xs = [.int i] /\ i.natAbs.log2 < 1920 /\ Q (.str (toString i)) H) := by
 intro pins s σ H xs us Q I r h
 obtain ⟨i, rfl, hz, q⟩ := h
 obtain ⟨u, rfl, t, rfl⟩ := C2n r
 exact PySem.P.str_of_int hz ⟨.str _, H, I.tok _, ⟨_, rfl⟩, q⟩
end
structure ObjM (h : Heap) (x dx C : Addr) (mA : Str -> Option Value) : Prop where
 obj : h.get? x = some (PySem.W.instObj C dx)
 ns : h.Ns1 dx mA
 ne : dx ≠ x
theorem D0f {h : Heap} {dx : Addr} {mA : Str -> Option Value} (n : h.Ns1 dx mA) : ∃ od, h.get? dx = some od /\ ∀ name, PySem.W.lookIn name od = some (mA name) := by
 obtain ⟨o, es, ep, ho, hd, hk, _, hm⟩ := n
 refine ⟨o, ho, fun name => ?_⟩
 have e := hm name
 unfold nsFind findBy at e
 rw [<- Array.find?_toList] at e
 unfold PySem.W.lookIn
 rw [hd]
 dsimp only
 split
 . rename_i y q
   rw [q] at e
   exact congrArg some e
 . rename_i q
   rw [q] at e
   have a : es.toList.any (·.refKey) = false := by
     rw [List.any_eq_false]
     intro y hy
     obtain ⟨z, t, hkey⟩ := hk y (Array.mem_toList_iff.mp hy)
     simp [DictEntry.refKey, hkey]
   have a' : ¬ es.toList.any (·.refKey) = true := by rw [a]; exact Bool.false_ne_true
   rw [if_neg a']
   exact congrArg some e
theorem ObjM.look {h : Heap} {x dx C : Addr} {mA : Str -> Option Value} (I : ObjM h x dx C mA) : ∃ od, PySem.W.InstAt h x (PySem.W.instObj C dx) C (some od) /\ ∀ name, PySem.W.lookIn name od = some (mA name) :=
 let ⟨od, ho, hl⟩ := D0f I.ns
 ⟨od, ⟨I.obj, rfl, rfl, ho⟩, hl⟩
section
variable {prog : Program} {w : World} {A : Around} {E : Value -> Shared -> Prop} {s : Shared} {K : PySem.W.Frag} {x dx C f : Addr} {mA : Str -> Option Value} {name : Str} {v : Value}
theorem Y4h {expr : Bool} {Q : Value -> Shared -> Prop} (X : K.In s.heap) (I : ObjM s.heap x dx C mA) (hg : PySem.W.plainGet K C name = true) (hh : PySem.W.hasDictIn K C = true)
   (ha : PySem.W.findIn K (.ref C) name = some none) (hv : mA name = some v) (hv' : PySem.W.handedIn v = true) (h : Q v { s with toks := s.toks + 1 }) :
   wpAny (model prog w) A (getAttr (.ref x) name expr) Q E s := by
 obtain ⟨od, J, hl⟩ := I.look
 exact PySem.W.get_value X J (PySem.W.plainGet_of hg).1 (PySem.W.findObj_own hh ha rfl (by rw [hl, hv])) hv' h
theorem U6s {pl : Sem Bool} {Q : Value × List Value -> Shared -> Prop} (X : K.In s.heap) (I : ObjM s.heap x dx C mA) (hg : PySem.W.plainGet K C name = true)
   (hf : PySem.W.findIn K (.ref C) name = some (some (.ref f))) (ht : PySem.W.isFn K (.ref f) = true) (hv : mA name = none) (h : Q (.ref f, [.ref x]) s) :
   wpAny (model prog w) A (getMethod (.ref x) name pl) Q E s := by
 obtain ⟨od, J, hl⟩ := I.look
 exact PySem.W.method_fn X J (PySem.W.plainGet_of hg).1 (PySem.W.plainGet_of hg).2 hf (beq_iff_eq.mp ht) (by show (PySem.W.lookIn name od).map (·.isSome) = some false; rw [hl, hv]; rfl) h
theorem Y4e {ns : List Str} {Q : Unit -> Shared -> Prop} (X : K.In s.heap) (I : ObjM s.heap x dx C mA)
   (hs : PySem.W.findIn K (.ref C) "__setattr__" = some (some (.builtin "object.__setattr__"))) (hp : PySem.W.plainOver K C = true) (ht : PySem.W.takerIn K C name = some none) (hh : PySem.W.hasDictIn K C = true)
   (hw : PySem.Within mA ns) (hsz : ns.length <= sizeLine)
   (h : ∀ h', ObjM h' x dx C (fun y => if y = name then some v else mA y) -> Heap.SameBut dx s.heap h' -> Q () { s with heap := h', toks := s.toks + 2 }) :
   wpAny (model prog w) A (setAttr (.ref x) name v) Q E s := by
 obtain ⟨od, J, hl⟩ := I.look
 refine PySem.W.set_plain X J hs (PySem.W.osa_open (s := { s with toks := s.toks + 1 }) (r := none) X J hp ht fun b => ?_)
 obtain ⟨cd, hc, hd'⟩ := PySem.W.any_some hh
 have hx : s.heap.get? x = some ⟨.ref C, some dx, .plain, #[]⟩ := I.obj
 refine wpAny_bind (wpAny_pure (wpAny_bind (wpAny_bind (wpAny_loadPart hx (wpAny_bind (PySem.W.Looks.here (s := { s with toks := s.toks + 1 }) (PySem.W.looks_clsIn X hc) ?_))))))
 rw [hd']
 refine wpAny_pure (a := some dx) (wpAny_bind (wpAny_pure (wpAny_bind ?_)))
 refine wpAny_nsSet1 (s := { s with toks := s.toks + 1 }) I.ns fun h' hn2 hs2 => ?_
 obtain ⟨oD, esD, epD, hoD, hdD, hcD⟩ := hn2.count (PySem.Within.cons name v hw)
 refine wpAny_bind (wpAny_lookBehind hoD (by rw [hdD]; exact pastItsLine_dict (Nat.le_trans hcD (by rw [List.length_cons]; omega))) ?_)
 exact wpAny_pure (h _ ⟨(hs2.2 _ (Ne.symm I.ne)).trans I.obj, hn2, I.ne⟩ hs2)
theorem G1x {R : Result -> Shared -> Prop} {vs : List Value} {kw : List (Str × Value)} (X : K.In s.heap) (hm : PySem.W.makesIn K C = true)
   (hi : PySem.W.findIn K (.ref C) "__init__" = some (some (.ref f))) (hf : PySem.W.typeIn K (.ref f) = some (.type "function"))
   (h : codeAny (model prog w) (A.under (.builtin "type.__call__" ⟨.ref C :: vs, kw⟩)) (.call (.ref f) ⟨.ref (s.heap.objs.size + 1) :: vs, kw⟩) (PySem.W.InitBack (s.heap.objs.size + 1) R)
     { s with heap := (s.heap.push PySem.W.emptyDict).push (PySem.W.instObj C s.heap.objs.size) }) :
   codeAny (model prog w) A (.call (.ref C) ⟨vs, kw⟩) R s := by
 obtain ⟨hh, g, d, t, os⟩ := s
 exact PySem.W.make_core (PySem.W.makes_of X hm) (PySem.W.looks_findIn X hi) (fun self => PySem.W.bind_fn X self hf) (.inl rfl) h
theorem U1t {R : Result -> Shared -> Prop} (X : K.In s.heap) (hm : PySem.W.makesIn K C = true)
   (hi : PySem.W.findIn K (.ref C) "__init__" = some (some (.builtin "object.__init__")))
   (hb : ∀ self, PySem.W.Looks (model prog w) s.heap (bindSpecial (.builtin "object.__init__") self) (.builtin "object.__init__", [self]))
   (h : codeAny (model prog w) (A.under (.builtin "type.__call__" ⟨[.ref C], []⟩)) (.call (.builtin "object.__init__") ⟨[.ref (s.heap.objs.size + 1)], []⟩) (PySem.W.InitBack (s.heap.objs.size + 1) R)
     { s with heap := (s.heap.push PySem.W.emptyDict).push (PySem.W.instObj C s.heap.objs.size) }) :
   codeAny (model prog w) A (.call (.ref C) ⟨[], []⟩) R s := by
 obtain ⟨hh, g, d, t, os⟩ := s
 exact PySem.W.make_core (PySem.W.makes_of X hm) (PySem.W.looks_findIn X hi) hb (.inr ⟨rfl, rfl⟩) h
end
def J4 (f : Str) (v : V) : List (Str × V) -> List (Str × V)
 | [] => [(f, v)]
 | (g, x) :: r => if g = f then (g, v) :: r else (g, x) :: J4 f v r
theorem D3 (f g : Str) (v : V) : ∀ fs : List (Str × V), (J4 f v fs).lookup g = if g = f then some v else fs.lookup g
 | [] => by
   show List.lookup g [(f, v)] = _
   by_cases h : g = f
   . have hb : (g == f) = true := beq_iff_eq.mpr h
     simp only [List.lookup, hb, if_pos h]
   . have hb : (g == f) = false := beq_eq_false_iff_ne.mpr h
     simp only [List.lookup, hb, if_neg h]
 | (k, x) :: r => by
   have ih := D3 f g v r
   rw [show J4 f v ((k, x) :: r) = (if k = f then (k, v) :: r else (k, x) :: J4 f v r) from rfl]
   by_cases hk : k = f
   . rw [if_pos hk]
     by_cases h : g = k
     . have hb : (g == k) = true := beq_iff_eq.mpr h
       simp only [List.lookup, hb, if_pos (h.trans hk)]
     . have hb : (g == k) = false := beq_eq_false_iff_ne.mpr h
       simp only [List.lookup, hb, if_neg (fun e : g = f => h (e.trans hk.symm))]
   . rw [if_neg hk]
     by_cases h : g = k
     . have hb : (g == k) = true := beq_iff_eq.mpr h
       simp only [List.lookup, hb, if_neg (fun e : g = f => hk (h.symm.trans e))]
     . have hb : (g == k) = false := beq_eq_false_iff_ne.mpr h
       simp only [List.lookup, hb]
       exact ih
theorem B5y (f : Str) (v : V) : ∀ fs : List (Str × V), f ∈ (J4 f v fs).map (·.1) /\ ∀ g, g ∈ fs.map (·.1) -> g ∈ (J4 f v fs).map (·.1)
 | [] => ⟨by simp [J4], fun g h => by simp at h⟩
 | (k, x) :: r => by
   obtain ⟨i1, i2⟩ := B5y f v r
   rw [show J4 f v ((k, x) :: r) = (if k = f then (k, v) :: r else (k, x) :: J4 f v r) from rfl]
   by_cases hk : k = f
   . rw [if_pos hk]
     subst hk
     exact ⟨by simp, fun g h => by simpa using h⟩
   . rw [if_neg hk]
     refine ⟨?_, fun g h => ?_⟩
     . rw [List.map_cons]
       exact List.mem_cons_of_mem _ i1
     . rw [List.map_cons] at h ⊢
       rcases List.mem_cons.mp h with e | e
       . exact List.mem_cons.mpr (.inl e)
       . exact List.mem_cons_of_mem _ (i2 g e)
theorem A0n (f : Str) (v : V) : ∀ fs : List (Str × V), (J4 f v fs).length <= fs.length + 1
 | [] => by simp [J4]
 | (k, x) :: r => by
   have ih := A0n f v r
   rw [show J4 f v ((k, x) :: r) = (if k = f then (k, v) :: r else (k, x) :: J4 f v r) from rfl]
   by_cases hk : k = f
   . rw [if_pos hk, List.length_cons, List.length_cons]; omega
   . rw [if_neg hk, List.length_cons, List.length_cons]; omega
theorem RelO.some_of {v : V} {o : Option Value} (r : RelO (some v) o) : ∃ u, o = some u /\ RelV v u := by
 cases o with
 | none => exact (show False from r).elim
 | some u => exact ⟨u, rfl, r⟩
theorem RelO.none_of {o : Option Value} (r : RelO none o) : o = none := by
 cases o with
 | none => rfl
 | some u => exact (show False from r).elim
theorem J9x {v : V} {u : Value} (r : RelV v u) : PySem.W.handedIn u = true := by
 cases v with
 | non => cases (show u = Value.none from r); rfl
 | bl b => cases (show u = Value.bool b from r); rfl
 | int i => obtain ⟨t, e⟩ := (show ∃ t, u = Value.int i t from r); cases e; rfl
 | str x => obtain ⟨t, e⟩ := (show ∃ t, u = Value.str x t from r); cases e; rfl
 | byt b => obtain ⟨t, e⟩ := (show ∃ t, u = Value.bytes b t from r); cases e; rfl
 | flt b => obtain ⟨t, e⟩ := (show ∃ t, u = Value.float b t from r); cases e; rfl
 | ref a => cases (show u = Value.ref a from r); rfl
 | ty n => cases (show u = Value.type n from r); rfl
section
variable {P : Program} {w : World} {H H' : Hp} {h h' : Heap} {a C dx : Addr} {fs fs' : List (Str × V)}
theorem C0y (hok : HOk P w H h) (e : H a = some (.ins C dx fs)) : ∃ mA, ObjM h a dx C mA /\ (∀ f, RelO (fs.lookup f) (mA f)) /\ PySem.Within mA (fs.map (·.1)) /\ fs.length <= 1000 /\ H dx = some (.own a) := by
 obtain ⟨d, z, ne, ob, mA, n, r, q⟩ := (show ObjOk P w H h a (.ins C dx fs) from hok a _ e)
 exact ⟨mA, ⟨ob, n, ne⟩, r, q, z, d⟩
end
structure Cls (K : PySem.W.Frag) (C : Addr) : Prop where
 pg : PySem.W.plainGet K C Str.empty = true
 hd : PySem.W.hasDictIn K C = true
 po : PySem.W.plainOver K C = true
 sa : PySem.W.findIn K (.ref C) "__setattr__" = some (some (.builtin "object.__setattr__"))
theorem Cls.get {K : PySem.W.Frag} {C : Addr} (c : Cls K C) (f : Str) : PySem.W.plainGet K C f = true := c.pg
def NoAttr (K : PySem.W.Frag) (C : Addr) (f : Str) : Prop := PySem.W.findIn K (.ref C) f = some none
theorem NoAttr.taker {K : PySem.W.Frag} {C : Addr} {f : Str} (n : NoAttr K C f) : PySem.W.takerIn K C f = some none := by
 unfold PySem.W.takerIn
 rw [show PySem.W.findIn K (.ref C) f = some none from n]
 rfl
structure Meth (K : PySem.W.Frag) (C : Addr) (m : Str) (f : Addr) : Prop where
 at_ : PySem.W.findIn K (.ref C) m = some (some (.ref f))
 fn : PySem.W.isFn K (.ref f) = true
 kp : PySem.W.keepIn K (.ref f) = true
section
variable {X : Cx} {pins : List (Addr × Obj)} {σ : St} {H : Hp} {s : Shared} {a C dx : Addr} {fs : List (Str × V)} {f : Str} {v : V} {A : Around} {E : Value -> Shared -> Prop}
theorem G6h {b : Bool} {Q : Value -> Shared -> Prop} (I : Inv X pins σ H s) (e : H a = some (.ins C dx fs)) (c : Cls X.K C) (n : NoAttr X.K C f) (l : fs.lookup f = some v)
   (h : ∀ u s', Inv X pins σ H s' -> RelV v u -> Q u s') : wpAny (model X.prog X.w) A (getAttr (.ref a) f b) Q E s := by
 obtain ⟨mA, O, r, _, _, _⟩ := C0y I.hok e
 obtain ⟨u, hu, ru⟩ := RelO.some_of (v := v) (o := mA f) (by rw [<- l]; exact r f)
 exact Y4h I.kIn O (c.get f) c.hd n hu (J9x ru) (h u _ (I.tok _) ru)
theorem C2j {m : Str} {g : Addr} {pl : Sem Bool} {Q : Value × List Value -> Shared -> Prop} (I : Inv X pins σ H s) (e : H a = some (.ins C dx fs)) (c : Cls X.K C) (k : Meth X.K C m g) (l : fs.lookup m = none)
   (h : Q (.ref g, [.ref a]) s) : wpAny (model X.prog X.w) A (getMethod (.ref a) m pl) Q E s := by
 obtain ⟨mA, O, r, _, _, _⟩ := C0y I.hok e
 have hn : mA m = none := RelO.none_of (by rw [<- l]; exact r m)
 exact U6s I.kIn O (c.get m) k.at_ k.fn hn h
theorem G7s {y : V} {u : Value} {Q : Unit -> Shared -> Prop} (I : Inv X pins σ H s) (e : H a = some (.ins C dx fs)) (c : Cls X.K C) (n : NoAttr X.K C f) (hl : fs.length < 1000) (ry : RelV y u)
   (h : ∀ s', Inv X pins σ (upd H a (.ins C dx (J4 f y fs))) s' -> Q () s') : wpAny (model X.prog X.w) A (setAttr (.ref a) f u) Q E s := by
 obtain ⟨mA, O, r, wi, _, ho⟩ := C0y I.hok e
 have hz : (fs.map (·.1)).length <= sizeLine := by rw [List.length_map, sizeLine_eq]; omega
 refine Y4e I.kIn O c.sa c.po n.taker c.hd wi hz fun h' O' sb => h _ ?_
 have hd : ∃ o, h'.get? dx = some o := let ⟨o, _, _, e', _⟩ := O'.ns; ⟨o, e'⟩
 refine I.write (x := a) (e := dx) (by rw [e]; exact True.intro) (.inr ho) (fun b q hb z => (sb.2 b hb).trans z) hd ?_
 refine ⟨by rw [C8 O.ne]; exact ho, ?_, O.ne, O'.obj, _, O'.ns, fun g => ?_, fun g hg => ?_⟩
 . have := A0n f y fs; omega
 . show RelO ((J4 f y fs).lookup g) (if g = f then some u else mA g)
   rw [D3]
   by_cases q : g = f
   . rw [if_pos q, if_pos q]; exact ry
   . rw [if_neg q, if_neg q]; exact r g
 . by_cases q : g = f
   . rw [q]; exact (B5y f y fs).1
   . refine (B5y f y fs).2 g (wi g fun z => hg ?_)
     show (if g = f then some u else mA g) = none
     rw [if_neg q]; exact z
theorem Inv.made (I : Inv X pins σ H s) : Inv X pins σ (upd (upd H s.heap.objs.size (.own (s.heap.objs.size + 1))) (s.heap.objs.size + 1) (.ins C s.heap.objs.size []))
   { s with heap := (s.heap.push PySem.W.emptyDict).push (PySem.W.instObj C s.heap.objs.size) } := by
 have e1 : (s.heap.push PySem.W.emptyDict).get? s.heap.objs.size = some PySem.W.emptyDict := Heap.get?_push_size s.heap rfl
 have e2 : ((s.heap.push PySem.W.emptyDict).push (PySem.W.instObj C s.heap.objs.size)).get? (s.heap.objs.size + 1) = some (PySem.W.instObj C s.heap.objs.size) := by
   have := Heap.get?_push_size (s.heap.push PySem.W.emptyDict) (o := PySem.W.instObj C s.heap.objs.size) rfl
   rwa [Heap.size_push] at this
 have e3 : (s.heap.push PySem.W.emptyDict).Ns s.heap.objs.size (fun _ => none) := ⟨PySem.W.emptyDict, #[], _, e1, rfl, (fun e he => absurd he (by simp)), fun _ => rfl⟩
 have I1 := I.laid (a := s.heap.objs.size) (o := .own (s.heap.objs.size + 1)) (h' := s.heap.push PySem.W.emptyDict) (t' := s.toks) (fun b u q => Heap.get?_push_of_some _ q) (Nat.le_refl _) ⟨_, e1⟩
 refine I1.laid (a := s.heap.objs.size + 1) (o := .ins C s.heap.objs.size []) (t' := s.toks) (fun b u q => Heap.get?_push_of_some _ q) (Nat.le_of_eq (Heap.size_push _ _)) ?_
 have ne : s.heap.objs.size ≠ s.heap.objs.size + 1 := Nat.ne_of_lt (Nat.lt_succ_self _)
 refine ⟨by rw [C8 ne, A9], Nat.zero_le _, ne, e2, fun _ => none, (Heap.Ns1.of_empty e3).at fun o q => Heap.get?_push_of_some _ q, fun _ => True.intro, fun y hy => absurd rfl hy⟩
theorem Y4v {prog : Program} {w : World} {env : Env} {e : Expr} {f : Str} {pos : Pos} {s : Shared} {Q : Value -> Shared -> Prop} (hb : attributeBase e f env (eval e env) = eval e env)
   (h : wpAny (model prog w) A (eval e env) (fun o s₁ => wpAny (model prog w) A (getAttr o f true) Q E s₁) E s) : wpAny (model prog w) A (eval (.Attribute e f pos) env) Q E s :=
 Attribute_any_ h (by rw [arm_eval_Attribute, hb])
end
def Z6v (K : PySem.W.Frag) (ta : TE) (f : Str) : TE := fun σ H Q => ta σ H fun x H1 => ∃ a C dx fs v, x = .ref a /\ H1 a = some (.ins C dx fs) /\ Cls K C /\ NoAttr K C f /\ fs.lookup f = some v /\ Q v H1
def sFld (K : PySem.W.Frag) (ta tv : TE) (f : Str) : TS := fun D σ H => tv σ H fun y H1 => ta σ H1 fun x H2 => ∃ a C dx fs, x = .ref a /\ H2 a = some (.ins C dx fs) /\ Cls K C /\ NoAttr K C f /\ fs.length < 1000 /\
 D.nx σ (upd H2 a (.ins C dx (J4 f y fs)))
section
variable {X : Cx} {o e value : Expr} {f : Str} {pos pos' tpos : Pos} {ta tv : TE}
theorem C7 (he : PE X e ta) (hb : attributeBase e f X.env (eval e X.env) = eval e X.env) : PE X (.Attribute e f pos) (Z6v X.K ta f) := by
 intro pins s σ H Q I h
 refine Y4v hb (thn (he pins s σ H _ I h) fun u s1 ⟨x, H1, I1, rx, a, C, dx, fs, v, ex, ea, c, n, l, q⟩ => ?_)
 subst ex
 obtain rfl : u = Value.ref a := rx
 exact G6h I1 ea c n l fun u' s2 I2 ru => ⟨v, H1, I2, ru, q⟩
theorem Z0 (ha : PE X o ta) (hv : PE X value tv) (hs : swapsWith value (some (.Attribute o f pos')) pos.line X.env = pure false) : PS X (.Assign [.Attribute o f pos'] value pos) (sFld X.K ta tv f) := by
 intro pins s σ H D I h
 refine plainObj_wpAny_Assign_Attribute (thn (hv pins s σ H _ I h) fun u s1 ⟨y, H1, I1, ry, q⟩ => thn (ha pins s1 σ H1 _ I1 q) fun ov s2 ⟨x, H2, I2, rx, a, C, dx, fs, ex, ea, c, n, l, q2⟩ => ?_) hs
 subst ex
 obtain rfl : ov = Value.ref a := rx
 exact G7s I2 ea c n l ry fun s3 I3 => ⟨σ, _, I3, q2⟩
end
section
variable {X : Cx} {pins : List (Addr × Obj)} {σ : St} {H : Hp} {s : Shared} {A : Around} {E : Value -> Shared -> Prop} {Q : Value -> Shared -> Prop} {c : Value} {b : Bool}
inductive TyOf (K : PySem.W.Frag) (H : Hp) : V -> Value -> Prop where
 | non : TyOf K H .non (.type "NoneType")
 | bl (x : Bool) : TyOf K H (.bl x) (.type "bool")
 | int (i : Int) : TyOf K H (.int i) (.type "int")
 | str (x : Str) : TyOf K H (.str x) (.type "str")
 | flt (x : UInt64) : TyOf K H (.flt x) (.type "float")
 | lst {a : Addr} {xs : List V} (e : H a = some (.lst xs)) : TyOf K H (.ref a) (.type "list")
 | frz {a : Addr} {o : Obj} {xs : List V} (e : H a = some (.frz o (.lst xs))) : TyOf K H (.ref a) (.type "list")
 | tup {a : Addr} {xs : List V} (e : H a = some (.tup xs)) : TyOf K H (.ref a) (.type "tuple")
 | dK {a : Addr} {kvs : List (Key × V)} (e : H a = some (.dK kvs)) : TyOf K H (.ref a) (.type "dict")
 | dT {a : Addr} {kvs : List (List Key × V)} (e : H a = some (.dT kvs)) : TyOf K H (.ref a) (.type "dict")
 | ins {a C dx : Addr} {fs : List (Str × V)} (e : H a = some (.ins C dx fs)) (cl : Cls K C) (ha : PySem.W.findIn K (.ref C) "__class__" = some (some (.builtin "object.__class__")))
     (hn : PySem.W.specialIn K (.builtin "object.__class__") "__get__" = some (some (.builtin "getset_descriptor.__get__"))) (htk : PySem.W.takesIn K (.builtin "object.__class__") = some true)
     (hm : PySem.W.mroIn K C (.type "object") = some true) : TyOf K H (.ref a) (.ref C)
theorem U0e {x : V} {u t : Value} (I : Inv X pins σ H s) (rx : RelV x u) (ty : TyOf X.K H x t) (e : PySem.W.kitOne X.K t c = some b) (h : ∀ tk, Q (.bool b) { s with toks := tk }) :
   wpAny (model X.prog X.w) A (call (.builtin "isinstance") [u, c]) Q E s := by
 cases ty with
 | non => cases (show u = Value.none from rx); exact PySem.W.kia_one PySem.W.kitx_none I.kIn True.intro e (fun z => nomatch z) h
 | bl y => cases (show u = Value.bool y from rx); exact PySem.W.kia_one PySem.W.kitx_bool I.kIn True.intro e (fun z => nomatch z) h
 | int i => obtain ⟨t, q⟩ := (show ∃ t, u = Value.int i t from rx); cases q; exact PySem.W.kia_one PySem.W.kitx_int I.kIn True.intro e (fun z => nomatch z) h
 | str y => obtain ⟨t, q⟩ := (show ∃ t, u = Value.str y t from rx); cases q; exact PySem.W.kia_one PySem.W.kitx_str I.kIn True.intro e (fun z => nomatch z) h
 | flt y => obtain ⟨t, q⟩ := (show ∃ t, u = Value.float y t from rx); cases q; exact PySem.W.kia_one PySem.W.kitx_float I.kIn True.intro e (fun z => nomatch z) h
 | @lst a xs ea =>
   cases (show u = Value.ref a from rx)
   obtain ⟨_, _, n, _, h1⟩ := (show ObjOk X.prog X.w H s.heap a (.lst xs) from I.hok a _ ea)
   exact PySem.W.kia_one PySem.W.kitx_list I.kIn ⟨_, h1, rfl⟩ e (fun z => nomatch z) h
 | @frz a ob xs ea =>
   cases (show u = Value.ref a from rx)
   obtain ⟨_, _, _, n, _, h1⟩ := (show ObjOk X.prog X.w H s.heap a (.frz ob (.lst xs)) from I.hok a _ ea)
   exact PySem.W.kia_one PySem.W.kitx_list I.kIn ⟨_, h1, rfl⟩ e (fun z => nomatch z) h
 | @tup a xs ea =>
   cases (show u = Value.ref a from rx)
   obtain ⟨_, _, _, p⟩ := (show ObjOk X.prog X.w H s.heap a (.tup xs) from I.hok a _ ea)
   obtain ⟨o, h1, h2, _⟩ := p
   exact PySem.W.kia_one PySem.W.kitx_tuple I.kIn ⟨o, h1, h2⟩ e (fun z => nomatch z) h
 | @dK a kvs ea =>
   cases (show u = Value.ref a from rx)
   obtain ⟨_, _, vs, _, p⟩ := (show ObjOk X.prog X.w H s.heap a (.dK kvs) from I.hok a _ ea)
   obtain ⟨o, es, ep, h1, h2, _⟩ := p
   exact PySem.W.kia_one PySem.W.kitx_dict I.kIn ⟨o, h1, h2.1⟩ e (fun z => nomatch z) h
 | @dT a kvs ea =>
   cases (show u = Value.ref a from rx)
   obtain ⟨_, _, xs, _, o, es, ep, h1, h2, _⟩ := (show ObjOk X.prog X.w H s.heap a (.dT kvs) from I.hok a _ ea)
   exact PySem.W.kia_one PySem.W.kitx_dict I.kIn ⟨o, h1, h2.1⟩ e (fun z => nomatch z) h
 | @ins a C dx fs ea cl ha hn htk hm =>
   cases (show u = Value.ref a from rx)
   obtain ⟨mA, O, _⟩ := C0y I.hok ea
   obtain ⟨od, J, _⟩ := O.look
   exact PySem.W.kia_one (PySem.W.kitx_own (cl.get _) cl.hd ha hn htk hm) I.kIn J e (fun z => nomatch z) h
end
structure Room (k : Nat) (A : Around) : Prop where
 hd : A.handled = none
 dp : A.depth + 3 * k + 5 < recursionLimit
 un : A.units + 16 * k + 200 < cLine
theorem Room.mono {j k : Nat} {A : Around} (r : Room k A) (h : j <= k) : Room j A := ⟨r.hd, by have := r.dp; omega, by have := r.un; omega⟩
theorem Room.deeper {k : Nat} {A : Around} (r : Room (k + 1) A) (env : Env) : Room k (A.deeper env) :=
 ⟨r.hd, by have := r.dp; show A.depth + 1 + 3 * k + 5 < _; omega, by have := r.un; show A.units + 3 + 16 * k + 200 < _; omega⟩
theorem G7v {A : Around} {C : Addr} {us : List Value} {kw : List (Str × Value)} : (A.under (.builtin "type.__call__" ⟨.ref C :: us, kw⟩)).depth = A.depth + 1 := by
 first | rfl | simp [Around.under, Code.weight, Code.isCreation, Code.isGuard, Code.isCaller, Code.frames, Code.isFrame, guardIds]
theorem G7p {A : Around} {C : Addr} {us : List Value} {kw : List (Str × Value)} : (A.under (.builtin "type.__call__" ⟨.ref C :: us, kw⟩)).units = A.units + 1 := by
 first | rfl | simp [Around.under, Code.cUnits, Code.frames, Code.isFrame]
theorem Room.make {k : Nat} {A : Around} (r : Room (k + 1) A) (C : Addr) (us : List Value) (kw : List (Str × Value)) : Room k (A.under (.builtin "type.__call__" ⟨.ref C :: us, kw⟩)) :=
 ⟨r.hd, by have := r.dp; rw [G7v]; omega, by have := r.un; rw [G7p]; omega⟩
theorem Room.depth {k : Nat} {A : Around} (r : Room k A) : A.depth < recursionLimit := by have := r.dp; omega
theorem Room.units {k : Nat} {A : Around} (r : Room k A) : A.units + 64 < cLine := by have := r.un; omega
def V0e : TA := fun _ H Q => Q [] H
def U9z (ta : TE) (tr : TA) : TA := fun σ H Q => ta σ H fun x H1 => tr σ H1 fun xs H2 => Q (x :: xs) H2
section
variable {X : Cx} {e : Expr} {es : List Expr} {te : TE} {t : TA} {pos : Pos}
theorem A3 : PA X [] V0e := fun _ _ _ _ H Q I h => Calls.spliced_nil ⟨[], H, I, .nil, h⟩
theorem A0 (ha : PE X e te) (hr : PA X es t) (hs : starEach (e :: es) X.env = (false, eval e X.env) :: starEach es X.env := by rfl) : PA X (e :: es) (U9z te t) := by
 intro pos pins s σ H Q I h
 rw [hs]
 show wpAny _ _ (spliced ((false, eval e X.env) :: backTo pos (starEach es X.env))) _ _ s
 refine Calls.spliced_cons (thn (ha pins s σ H _ I h) fun u s1 ⟨x, H1, I1, r1, q1⟩ => ?_)
 exact thn (hr pos pins s1 σ H1 _ I1 q1) fun us s2 ⟨xs, H2, I2, r2, q2⟩ => ⟨x :: xs, H2, I2, .cons r1 r2, q2⟩
def Z9g (t : TA) : TE := fun σ H Q => t σ H fun xs H1 => xs.length <= sizeLine /\ ∀ p, H1 p = none -> Q (.ref p) (upd H1 p (.tup xs))
def tLst (t : TA) : TE := fun σ H Q => t σ H fun xs H1 => xs.length <= sizeLine /\ ∀ p, H1 p = none -> Q (.ref p) (upd H1 p (.lst xs))
theorem B2v {x1} (h : PA X es t) : PE X (.Tuple es x1 pos) (Z9g t) := by
 intro pins s σ H Q I hq
 refine wpAny_Tuple_spliced (thn (h pos pins s σ H _ I hq) fun us s1 ⟨xs, H1, I1, r, z, q⟩ => ⟨by rw [<- r.length]; exact z, ?_⟩)
 have hf : H1 s1.heap.objs.size = none := I1.hok.fresh (Nat.le_refl _)
 refine ⟨.ref s1.heap.objs.size, upd H1 s1.heap.objs.size (.tup xs), I1.laid (t' := s1.toks) (fun b u e => Heap.get?_push_of_some _ e) (Nat.le_refl _) ?_, rfl, q _ hf⟩
 exact ⟨z, us, r, ⟨_, Heap.get?_push_size _ rfl, rfl, _, rfl⟩⟩
theorem J9 (h : PA X es t) : PE X (.List es pos) (tLst t) := by
 intro pins s σ H Q I hq
 refine wpAny_List_spliced (thn (h pos pins s σ H _ I hq) fun us s1 ⟨xs, H1, I1, r, z, q⟩ => ⟨by rw [<- r.length]; exact z, ?_⟩)
 have hf : H1 s1.heap.objs.size = none := I1.hok.fresh (Nat.le_refl _)
 refine ⟨.ref s1.heap.objs.size, upd H1 s1.heap.objs.size (.lst xs), I1.laid (t' := s1.toks) (fun b u e => Heap.get?_push_of_some _ e) (Nat.le_refl _) ?_, rfl, q _ hf⟩
 exact ⟨z, us, 0, r, Heap.get?_push_size _ rfl⟩
end
abbrev Sp := List V -> Hp -> VK -> XK -> Prop
abbrev CXT := List Env -> Hp -> Shared -> XK -> Value -> Shared -> Prop
structure Env0 (P : Program) (w : World) (K : PySem.W.Frag) (mg : Str -> Option Value) (base : Heap) (A : Around) (outer : List Env) (s : Shared) (H : Hp) : Prop where
 frames : A.frames = some outer
 mod : Mod K mg base
 bs : ∀ b o, base.get? b = some o -> s.heap.get? b = some o /\ H b = none
 bsz : base.objs.size <= s.heap.objs.size
 funs : s.heap.FunFrames base outer
 frf : ∀ b ∈ frs outer, H b = none
 hok : HOk P w H s.heap
 bare : AllBare s.gens
def CE (outer : List Env) (P : Program) (w : World) (H : Hp) (s : Shared) (Q : VK) (u : Value) (s' : Shared) : Prop :=
 ∃ v H', s'.os = s.os /\ AllBare s'.gens /\ Un (frs outer) [] H H' s.heap s'.heap /\ HOk P w H' s'.heap /\ RelV v u /\ Q v H'
def CR (CX : CXT) (outer : List Env) (P : Program) (w : World) (H : Hp) (s : Shared) (Q : VK) (E : XK) (r : Result) (s' : Shared) : Prop :=
 match r with
 | .ok (.ret u) => CE outer P w H s Q u s'
 | .ok _ => False
 | .error e => CX outer H s E e s'
structure FnOk (P : Program) (w : World) (K : PySem.W.Frag) (mg : Str -> Option Value) (base : Heap) (CX : CXT) (k : Nat) (f : Addr) (fd : FuncData) (ps : List Str) (sp : Sp) : Prop where
 len : ∀ vs H Q E, sp vs H Q E -> vs.length = ps.length
 run : ∀ (A : Around) (outer : List Env) (s : Shared) (H : Hp) (args : Args) (us : List Value) (vs : List V) (Q : VK) (E : XK), Room k A -> Env0 P w K mg base A outer s H -> BindsTo s fd args (ps.zip us) -> Vals vs us -> sp vs H Q E ->
   codeAny (model P w) A (.call (.ref f) args) (CR CX outer P w H s Q E) s
theorem FnOk.mono {P : Program} {w : World} {K : PySem.W.Frag} {mg : Str -> Option Value} {base : Heap} {CX : CXT} {j k : Nat} {f : Addr} {fd : FuncData} {ps : List Str} {sp : Sp} (F : FnOk P w K mg base CX j f fd ps sp) (h : j <= k) :
   FnOk P w K mg base CX k f fd ps sp := ⟨F.len, fun A outer s H args us vs Q E hr => F.run A outer s H args us vs Q E (hr.mono h)⟩
theorem Env0.make {P : Program} {w : World} {K : PySem.W.Frag} {mg : Str -> Option Value} {base : Heap} {A : Around} {outer : List Env} {s : Shared} {H : Hp} (e : Env0 P w K mg base A outer s H) (C : Addr) (us : List Value) (kw : List (Str × Value)) :
   Env0 P w K mg base (A.under (.builtin "type.__call__" ⟨.ref C :: us, kw⟩)) outer s H := ⟨by first | exact e.frames | (simpa [Around.under, Code.envs, Code.isFrame, pushEnvs] using e.frames), e.mod, e.bs, e.bsz, e.funs, e.frf, e.hok, e.bare⟩
section
variable {X : Cx} {pins : List (Addr × Obj)} {σ : St} {H : Hp} {s s' : Shared}
theorem Inv.env0 (I : Inv X pins σ H s) : Env0 X.prog X.w X.K X.mg X.base X.A X.stack s H :=
 ⟨I.ok.frames, I.ok.mod, I.bs, Nat.le_trans I.ok.bsz I.sz, I.stack, I.stkFree, I.hok, I.bare⟩
theorem Inv.after {Q : VK} {u : Value} (I : Inv X pins σ H s) (h : CE X.stack X.prog X.w H s Q u s') : EP X pins σ Q u s' := by
 obtain ⟨v, H', os, bare, un, hok, r, q⟩ := h
 obtain ⟨hh, g, d, t, os'⟩ := s'
 obtain rfl : os' = s.os := os
 exact ⟨v, H', I.call (h' := hh) (g' := g) (d' := d) (t' := t) (ch := []) un hok bare (fun b z => absurd z (by simp)), r, q⟩
end
def Z6j (C : Addr) (sp : Sp) (dvs : List V) (E : XK) (t : TA) : TE := fun σ H Q => t σ H fun vs H1 => ∀ x dx, H1 x = none -> H1 dx = none -> dx ≠ x ->
 sp (.ref x :: (vs ++ dvs)) (upd (upd H1 dx (.own x)) x (.ins C dx [])) (fun v H2 => v = .non /\ Q (.ref x) H2) E
def Binds (K : PySem.W.Frag) (fd : FuncData) (ps : List Str) (ds : List Value) : Prop :=
 ∀ (s : Shared) (us : List Value), K.In s.heap -> (us ++ ds).length = ps.length -> BindsTo s fd ⟨us, []⟩ (ps.zip (us ++ ds))
theorem Binds.all {K : PySem.W.Frag} {fd : FuncData} {ps : List Str} (h : ∀ us : List Value, us.length = ps.length -> bindArgs fd ⟨us, []⟩ = pure (ps.zip us)) : Binds K fd ps [] := fun s us _ hl => by
 rw [List.append_nil] at hl ⊢
 exact .of_eq (h us hl)
def G8c (CX : CXT) (X : Cx) (E : XK) : Prop := ∀ (pins : List (Addr × Obj)) (σ : St) (H : Hp) (s : Shared) (e : Value) (s' : Shared), Inv X pins σ H s -> CX X.stack H s E e s' -> X.xe e s'
section
variable {X : Cx} {CX : CXT} {k : Nat} {f C : Addr} {fd : FuncData} {ps : List Str} {sp : Sp} {dvs : List V} {ds : List Value} {E : XK} {x m : Str} {p pos apos : Pos} {e o : Expr} {es : List Expr} {ta : TE} {t : TA}
structure Mk (K : PySem.W.Frag) (C f : Addr) : Prop where
 makes : PySem.W.makesIn K C = true
 init : PySem.W.findIn K (.ref C) "__init__" = some (some (.ref f))
 fn : PySem.W.isFn K (.ref f) = true
 kp : PySem.W.keepIn K (.ref C) = true
theorem V0g {pins : List (Addr × Obj)} {σ : St} {H : Hp} {s : Shared} {Q : VK} {us : List Value} {vs : List V} (M : Mk X.K C f) (F : FnOk X.prog X.w X.K X.mg X.base CX k f fd ps sp) (hr : Room (k + 1) X.A) (hb : Binds X.K fd ps ds) (hd : Vals dvs ds)
   (hx : G8c CX X E) (I : Inv X pins σ H s) (r : Vals vs us)
   (h : ∀ x dx, H x = none -> H dx = none -> dx ≠ x -> sp (.ref x :: (vs ++ dvs)) (upd (upd H dx (.own x)) x (.ins C dx [])) (fun v H2 => v = .non /\ Q (.ref x) H2) E) :
   wpAny (model X.prog X.w) X.A (call (.ref C) us) (EP X pins σ Q) X.xe s := by
 have hq := h (s.heap.objs.size + 1) s.heap.objs.size (I.hok.fresh (Nat.le_succ _)) (I.hok.fresh (Nat.le_refl _)) (Nat.ne_of_lt (Nat.lt_succ_self _))
 have I2 := Inv.made (C := C) I
 have r2 : Vals (V.ref (s.heap.objs.size + 1) :: (vs ++ dvs)) (Value.ref (s.heap.objs.size + 1) :: (us ++ ds)) := .cons rfl (r.append hd)
 have hl : (Value.ref (s.heap.objs.size + 1) :: us ++ ds).length = ps.length := by
   have e := r2.length
   rw [F.len _ _ _ _ hq] at e
   exact e.symm
 refine wpAny_call (G1x (f := f) I.kIn M.makes M.init (beq_iff_eq.mp M.fn) (codeAny_mono (F.run _ X.stack _ _ ⟨Value.ref (s.heap.objs.size + 1) :: us, []⟩ (Value.ref (s.heap.objs.size + 1) :: (us ++ ds)) _ _ E (hr.make C us [])
   (I2.env0.make C us []) (hb _ (Value.ref (s.heap.objs.size + 1) :: us) I2.kIn hl) r2 hq) fun r s' hq' => ?_))
 cases r with
 | error e => exact hx pins σ _ _ e s' I2 hq'
 | ok fl =>
   cases fl with
   | ret u =>
     obtain ⟨v, H', I3, rv, ev, q3⟩ := I2.after hq'
     subst ev
     exact ⟨rv, ⟨V.ref (s.heap.objs.size + 1), H', I3, rfl, q3⟩⟩
   | next => exact False.elim hq'
   | brk => exact False.elim hq'
   | cont => exact False.elim hq'
theorem D3a (M : Mk X.K C f) (F : FnOk X.prog X.w X.K X.mg X.base CX k f fd ps sp) (hr : Room (k + 1) X.A) (hg : Gl X x) (hm : X.mg x = some (.ref C)) (hb : Binds X.K fd ps ds) (hd : Vals dvs ds) (hx : G8c CX X E)
   (ha : PA X (e :: es) t) (hdb : (x == ("__debug__" : Str)) = false := by decide) (he : starEach (e :: es) X.env = (false, eval e X.env) :: starEach es X.env := by rfl) (hpl : (backTo pos (starEach es X.env)).any (·.1) = false := by rfl) :
   PE X (.Call (.Name x p) (e :: es) [] pos) (Z6j C sp dvs E t) := by
 intro pins s σ H Q I h
 refine wpAny_Call_Name_kw (A1p I hg hm ?_ hdb)
 refine PySem.W.callWith_K (h₀ := X.base) I.ok.mod.kin M.kp (thn (ha pos pins s σ H _ I h) fun us s1 ⟨vs, H1, I1, r, q⟩ => ⟨I1.kIn, ?_⟩) he hpl
 exact V0g M F hr hb hd hx I1 r q
end
section
variable {X : Cx} {CX : CXT} {k : Nat} {f C : Addr} {fd : FuncData} {ps ks : List Str} {sp : Sp} {E : XK} {x m : Str} {p pos apos kpos : Pos} {e o : Expr} {es : List Expr} {kws : List Keyword} {te ta : TE} {t tk : TA} {nm : Option Str}
structure KBinds (K : PySem.W.Frag) (fd : FuncData) (ps ks : List Str) (g : List Value -> List Value -> List Value) (gV : List V -> List V -> List V) : Prop where
 to : ∀ (s : Shared) (us ws : List Value), K.In s.heap -> (g us ws).length = ps.length -> BindsTo s fd ⟨us, ks.zip ws⟩ (ps.zip (g us ws))
 rel : ∀ {vs : List V} {us : List Value} {zs : List V} {ws : List Value}, Vals vs us -> Vals zs ws -> Vals (gV vs zs) (g us ws)
variable {g : List Value -> List Value -> List Value} {gV : List V -> List V -> List V}
end
structure FnScope (N P : List Str) (sc : Scope) : Prop where
 kind : sc.kind = .function
 co : sc.isCoroutine = false
 gen : sc.isGenerator = false
 nd : N.Nodup
 pre : N.take P.length = P
 par : ∀ x ∈ P, sc.names.lookup x = some .local \/ sc.names.lookup x = some .cell
 nofree : ∀ y ∈ sc.names, y.2 ≠ .free
theorem D0t {kindOf : Str -> Option NameKind} {x : Str} : ∀ {binds : List (Str × Value)} {m : Str -> Option Value}, (∀ v, (x, v) ∉ binds) -> bindL kindOf binds m x = m x
 | [], _, _ => rfl
 | (n, v) :: r, m, h => by
   unfold bindL
   rw [D0t fun w hw => h w (List.mem_cons_of_mem _ hw)]
   split
   . have : x ≠ n := by rintro rfl; exact h v List.mem_cons_self
     simp [this]
   . rfl
theorem D0w {kindOf : Str -> Option NameKind} {x : Str} : ∀ {binds : List (Str × Value)} {m : Str -> Option Value}, (∀ v, (x, v) ∉ binds) -> bindC kindOf binds m x = m x
 | [], _, _ => rfl
 | (n, v) :: r, m, h => by
   unfold bindC
   rw [D0w fun w hw => h w (List.mem_cons_of_mem _ hw)]
   split
   . rfl
   . have : x ≠ n := by rintro rfl; exact h v List.mem_cons_self
     simp [this]
theorem D0y {kindOf : Str -> Option NameKind} {x : Str} {v : Value} : ∀ {P : List Str} {vs : List Value} {i : Nat} {m : Str -> Option Value}, P.Nodup -> P[i]? = some x -> vs[i]? = some v -> kindOf x = some .local ->
   bindL kindOf (P.zip vs) m x = some v
 | [], _, _, _, _, h, _, _ => by simp at h
 | _ :: _, [], _, _, _, _, h, _ => by simp at h
 | p :: P, w :: vs, 0, m, nd, h1, h2, hk => by
   simp at h1 h2; subst h1; subst h2
   show bindL kindOf ((p, w) :: P.zip vs) m p = _
   unfold bindL
   rw [D0t fun v hv => (List.nodup_cons.mp nd).1 (List.of_mem_zip hv).1, if_pos hk]
   simp
 | p :: P, w :: vs, i + 1, m, nd, h1, h2, hk => by
   show bindL kindOf ((p, w) :: P.zip vs) m x = _
   unfold bindL
   exact D0y (i := i) (List.nodup_cons.mp nd).2 (by simpa using h1) (by simpa using h2) hk
theorem D0k {kindOf : Str -> Option NameKind} {x : Str} {v : Value} : ∀ {P : List Str} {vs : List Value} {i : Nat} {m : Str -> Option Value}, P.Nodup -> P[i]? = some x -> vs[i]? = some v -> kindOf x ≠ some .local ->
   bindC kindOf (P.zip vs) m x = some v
 | [], _, _, _, _, h, _, _ => by simp at h
 | _ :: _, [], _, _, _, _, h, _ => by simp at h
 | p :: P, w :: vs, 0, m, nd, h1, h2, hk => by
   simp at h1 h2; subst h1; subst h2
   show bindC kindOf ((p, w) :: P.zip vs) m p = _
   unfold bindC
   rw [D0w fun v hv => (List.nodup_cons.mp nd).1 (List.of_mem_zip hv).1, if_neg hk]
   simp
 | p :: P, w :: vs, i + 1, m, nd, h1, h2, hk => by
   show bindC kindOf ((p, w) :: P.zip vs) m x = _
   unfold bindC
   exact D0k (i := i) (List.nodup_cons.mp nd).2 (by simpa using h1) (by simpa using h2) hk
def B2b (N : List Str) (vs : List V) : St := vs.map some ++ List.replicate (N.length - vs.length) none
def A1j (CX : CXT) (P : Program) (w : World) (K : PySem.W.Frag) (mg : Str -> Option Value) (base : Heap) (N : List Str) (qual : Str) (scope : Scope) (f : Addr) (cd : Value) (A : Around) (outer : List Env) (s : Shared) (H : Hp) (E : XK) : Cx where
 prog := P
 w := w
 K := K
 mg := mg
 base := base
 A := A.deeper (envOfC qual scope s.heap.objs.size f cd)
 N := N
 s₀ := s
 H₀ := H
 env := envOfC qual scope s.heap.objs.size f cd
 outer := outer
 stack := envOfC qual scope s.heap.objs.size f cd :: outer
 ex := []
 calm := true
 fn := fun _ => true
 pn := []
 xe := fun e s' => wpAny (model P w) (A.deeper (envOfC qual scope s.heap.objs.size f cd)) (leaving (envOfC qual scope s.heap.objs.size f cd) e) (fun _ s'' => CX outer H s E e s'') (fun e' s'' => CX outer H s E e' s'') s'
theorem G2p {sc : Scope} {n : Nat} {x : Str} (h : sc.names.lookup x = some .cell) : ∃ c, (cellsFrom n sc.names []).lookup x = some c := by
 have q := PySem.W.cellsFrom_some sc.names n [] (.inl h)
 exact Option.isSome_iff_exists.mp q
theorem U1e {CX : CXT} {P : Program} {w : World} {K : PySem.W.Frag} {mg : Str -> Option Value} {base : Heap} {N ps : List Str} {qual : Str} {scope : Scope} {f : Addr} {cd : Value} {A : Around} {outer : List Env} {s s1 : Shared} {H : Hp} {E : XK} {us : List Value} {vs : List V}
   (S : FnScope N ps scope) (hd : A.handled = none) (e0 : Env0 P w K mg base A outer s H) (hl : vs.length = ps.length) (r : Vals vs us)
   (x : InCallC s s.heap.objs.size (bindL (envOfC qual scope s.heap.objs.size f cd).kindOf (ps.zip us) fun _ => none) (cellsFrom (s.heap.objs.size + 1) scope.names []) (bindC (envOfC qual scope s.heap.objs.size f cd).kindOf (ps.zip us) fun _ => none) s1) :
   Inv (A1j CX P w K mg base N qual scope f cd A outer s H E) [] (B2b N vs) H s1 := by
 have hpl : ps.length <= N.length := by have := congrArg List.length S.pre; rw [List.length_take] at this; omega
 obtain ⟨h1, tk, rfl, hk⟩ := x.done
 have noA : ∀ b : Addr, b ∉ (A1j CX P w K mg base N qual scope f cd A outer s H E).ex := fun b z => absurd (show b ∈ ([] : List Addr) from z) (by simp)
 refine ⟨⟨e0.mod, S.kind, rfl, rfl, Nat.le_refl _, fun y z c h1 h2 => ?_, fun y hy => ?_, fun y c _ h => ?_, fun _ => hd, Around.frames_deeper e0.frames, .inr ⟨rfl, rfl⟩, fun b z => absurd z (noA b), e0.bs, e0.bsz, fun b _ _ => noA b, fun b z => absurd z (noA b), e0.funs, e0.frf⟩,
   rfl, e0.bare, Un.kept hk, ⟨_, x.toInCall.ns, fun i y v h1 h2 h3 => ?_⟩, fun y c h => ⟨_, x.cell y c h⟩, e0.hok.fresh (Nat.le_refl _), fun y c h => ?_, fun p hp => absurd (show p ∈ ([] : List (Addr × Obj)) from hp) (by simp), e0.hok.kept hk, ?_⟩
 . exact name_of_addr x.apart (PySem.mem_of_lookup h1) (PySem.mem_of_lookup h2)
 . have hy : scope.names.lookup y = some .cell \/ scope.names.lookup y = some .free := hy
   rcases hy with hy | hy
   . exact G2p hy
   . exact absurd rfl (S.nofree _ (PySem.mem_of_lookup hy))
 . exact Nat.le_of_lt (x.above y c (PySem.mem_of_lookup h))
 . have hi : i < vs.length := by
     unfold B2b at h2
     by_cases hi : i < vs.length
     . exact hi
     . rw [List.getElem?_append_right (by simpa using hi)] at h2
       rw [List.getElem?_replicate] at h2
       split at h2 <;> cases h2
   have ha : vs[i]? = some v := by
     unfold B2b at h2
     rw [List.getElem?_append_left (by simpa using hi), List.getElem?_map] at h2
     cases e : vs[i]? with
     | none => rw [e] at h2; cases h2
     | some a => rw [e] at h2; cases h2; rfl
   obtain ⟨u, hu, rv⟩ := r.get ha
   have hp : ps[i]? = some y := by
     rw [<- S.pre, List.getElem?_take_of_lt (by omega)]; exact h1
   have ndP : ps.Nodup := by rw [<- S.pre]; exact S.nd.sublist (List.take_sublist _ _)
   refine ⟨u, rv, ?_⟩
   rcases S.par y (List.mem_of_getElem? hp) with k | k
   . exact .inl ⟨k, D0y ndP hp hu k⟩
   . obtain ⟨c, e⟩ := G2p (n := s.heap.objs.size + 1) k
     refine .inr ⟨.inl k, c, e, ?_⟩
     have q := x.cell y c e
     rw [D0k ndP hp hu (by show scope.names.lookup y ≠ _; rw [k]; decide)] at q
     exact q
 . exact e0.hok.fresh (Nat.le_of_lt (x.above y c (PySem.mem_of_lookup h)))
 . unfold B2b
   show _ = N.length
   rw [List.length_append, List.length_map, List.length_replicate]
   omega
theorem U9g {CX : CXT} {P : Program} {w : World} {K : PySem.W.Frag} {mg : Str -> Option Value} {base : Heap} {k : Nat} {f : Addr} {name qual : Str} {params : Arguments} {body : List Stmt} {scope : Scope} {dV kV doc pm cdv ct oc : Value} {an od : Option Addr}
   {osl : Array (Option Value)} {N ps : List Str} {sp : Sp} (lk : K.lookup f = some ⟨oc, od, .func (PySem.W.fnOf name qual params body scope dV kV doc pm an cdv ct), osl⟩) (hcd : PySem.W.codeIn K cdv qual = true) (S : FnScope N ps scope)
   (len : ∀ vs H Q E, sp vs H Q E -> vs.length = ps.length)
   (hbody : ∀ (A : Around) (outer : List Env) (s : Shared) (H : Hp) (vs : List V) (Q : VK) (E : XK), Room k (A.deeper (envOfC qual scope s.heap.objs.size f cdv)) -> sp vs H Q E ->
     ∃ t, PSs (A1j CX P w K mg base N qual scope f cdv A outer s H E) body t /\ t { nx := fun _ H' => Q .non H', rt := Q } (B2b N vs) H) :
   FnOk P w K mg base CX (k + 1) f (PySem.W.fnOf name qual params body scope dV kV doc pm an cdv ct) ps sp := by
 refine ⟨len, fun A outer s H args us vs Q E hr e0 hb r hsp => ?_⟩
 have hl := len _ _ _ _ hsp
 have KX : K.In s.heap := e0.mod.kin.keeps fun b o e => (e0.bs b o e).1
 have lim : s.heap.NoLimit := e0.mod.nolimit.keeps fun b o e => (e0.bs b o e).1
 have hkind : ∀ y ∈ ps.zip us, scope.names.lookup y.1 = some .local \/ (scope.names.lookup y.1 = some .cell /\ ((cellsFrom (s.heap.objs.size + 1) scope.names []).lookup y.1).isSome = true) := fun ⟨n, v⟩ hy => by
   rcases S.par n (List.of_mem_zip hy).1 with q | q
   . exact .inl q
   . exact .inr ⟨q, PySem.W.cellsFrom_some _ _ _ (.inl q)⟩
 refine codeAny_call_function hr.depth (KX _ _ lk) rfl S.co S.gen rfl (PySem.W.codeRec_of KX hcd) (hb _ _ _ _ ?_)
 refine wpAny_newFunctionEnv_cells S.kind hkind fun env he s1 x => ?_
 subst he
 refine ⟨lim.keeps x.toInCall.keep, codeAny_func ?_⟩
 obtain ⟨t, ht, hq⟩ := hbody A outer s H vs Q E (hr.deeper _) hsp
 have I : Inv (A1j CX P w K mg base N qual scope f cdv A outer s H E) [] (B2b N vs) H s1 := U1e S hr.hd e0 hl r x
 refine wpAny_mono (ht [] s1 (B2b N vs) H _ I hq) (fun fl s' hs => ?_) fun e s' hs => hs
 have fin : ∀ {σ' : St} {H' : Hp} {v : V} {u : Value}, Inv (A1j CX P w K mg base N qual scope f cdv A outer s H E) [] σ' H' s' -> RelV v u -> Q v H' -> CE outer P w H s Q u s' :=
   fun {σ' H' v u} J rv q => ⟨v, H', J.os, J.bare, J.base, J.hok, rv, q⟩
 cases fl with
 | ret u =>
   obtain ⟨v, σ', H', J, rv, q⟩ := hs
   exact fin J rv q
 | next =>
   obtain ⟨σ', H', J, q⟩ := hs
   exact fin (v := V.non) (u := Value.none) J rfl q
 | brk =>
   obtain ⟨_, _, _, q⟩ := hs
   exact False.elim q
 | cont =>
   obtain ⟨_, _, _, q⟩ := hs
   exact False.elim q
section
variable {X : Cx} {x : Str} {p pos : Pos} {e : Expr} {es : List Expr} {t : TA} {id T : String} {r : List V -> Hp -> VK -> Prop}
def tCB (r : List V -> Hp -> VK -> Prop) (t : TA) : TE := fun σ H Q => t σ H fun vs H1 => r vs H1 Q
theorem U7 (hc : A7n X (.builtin id) r) (hg : Gl X x) (hm : X.mg x = none) (hv : bootBuiltins x = some (.builtin id)) (ha : PA X (e :: es) t) (hn : x ≠ "__name__" := by decide) (hdb : (x == ("__debug__" : Str)) = false := by decide)
   (he : starEach (e :: es) X.env = (false, eval e X.env) :: starEach es X.env := by rfl) (hpl : (backTo pos (starEach es X.env)).any (·.1) = false := by rfl) : PE X (.Call (.Name x p) (e :: es) [] pos) (tCB r t) := by
 intro pins s σ H Q I h
 refine wpAny_Call_Name_kw (C2c I hg hm hv ?_ hn hdb)
 exact PyProof.Rows.callWith_builtin1 (thn (ha pos pins s σ H _ I h) fun us s1 ⟨vs, H1, I1, r1, q1⟩ => hc pins s1 σ H1 vs us Q I1 r1 q1) he hpl
theorem B5q (hc : A7n X (.type T) r) (hg : Gl X x) (hm : X.mg x = none) (hv : bootBuiltins x = some (.type T)) (ha : PA X (e :: es) t) (hn : x ≠ "__name__" := by decide) (hdb : (x == ("__debug__" : Str)) = false := by decide)
   (he : starEach (e :: es) X.env = (false, eval e X.env) :: starEach es X.env := by rfl) (hpl : (backTo pos (starEach es X.env)).any (·.1) = false := by rfl) : PE X (.Call (.Name x p) (e :: es) [] pos) (tCB r t) := by
 intro pins s σ H Q I h
 refine wpAny_Call_Name_kw (C2c I hg hm hv ?_ hn hdb)
 exact PyProof.Rows.callWith_type1 (thn (ha pos pins s σ H _ I h) fun us s1 ⟨vs, H1, I1, r1, q1⟩ => hc pins s1 σ H1 vs us Q I1 r1 q1) he hpl
end
end L2
namespace HT
open PySem PyProof.Rows
section
open PySem.SeqAt
open PySem.AutoSeq1 (wpAny_loadPart')
open PySem.MeetsSeq PySem.MeetsSeq2 PySem.MeetsSeq3
end
section
variable {prog : Program} {w : World} {A : Around} {E : Value -> Shared -> Prop} {s : Shared}
end
end HT
namespace L2
open PySem PySem.Spec PyProof.Rows
section
variable {X : Cx} {e : Expr} {te : TE} {lo hi : Option Expr} {tl th : TO} {pos p2 : Pos}
end
def ixN (n : Nat) (i : Int) : Option Nat := if 0 <= i then (if i < n then some i.toNat else none) else if -(n : Int) <= i then some (i + n).toNat else none
def atI {α : Type} (xs : List α) (i : Int) : Option α := (ixN xs.length i).bind fun j => xs[j]?
theorem J7x {n : Nat} {i : Int} {j : Nat} (h : ixN n i = some j) : seqIndex? i n = some j /\ j < n /\ -(n : Int) <= i /\ i < n := by
 unfold ixN at h
 by_cases h0 : 0 <= i
 . rw [if_pos h0] at h
   by_cases h1 : i < n
   . rw [if_pos h1] at h
     have e : i.toNat = j := Option.some.inj h
     exact ⟨by rw [seqIndex_of h0 h1, e], by omega, by omega, h1⟩
   . rw [if_neg h1] at h; cases h
 . rw [if_neg h0] at h
   by_cases h1 : -(n : Int) <= i
   . rw [if_pos h1] at h
     have e : (i + n).toNat = j := Option.some.inj h
     exact ⟨by rw [seqIndex_neg (by omega) h1, e], by omega, h1, by omega⟩
   . rw [if_neg h1] at h; cases h
theorem J7f {α : Type} {xs : List α} {i : Int} {v : α} (h : atI xs i = some v) : ∃ j, seqIndex? i xs.length = some j /\ xs[j]? = some v /\ j < xs.length /\ -(xs.length : Int) <= i /\ i < xs.length := by
 unfold atI at h
 cases e : ixN xs.length i with
 | none => rw [e] at h; cases h
 | some j =>
   rw [e] at h
   obtain ⟨h1, h2, h3, h4⟩ := J7x e
   exact ⟨j, h1, h, h2, h3, h4⟩
theorem C4 {α : Type} {xs : List α} {j : Nat} {v : α} (h : xs[j]? = some v) : atI xs (j : Int) = some v := by
 have hj : j < xs.length := (List.getElem?_eq_some_iff.mp h).1
 have e : ixN xs.length (j : Int) = some j := by
   unfold ixN
   rw [if_pos (by omega), if_pos (by omega)]; simp
 unfold atI; rw [e]; exact h
def Y6d (b : Expr) : Prop := ∀ o i, subscripted b false o i = operate [o, i] (getItem o i)
def IxR (X : Cx) (r : R2) : Prop :=
 ∀ (value slice : Expr) (pins : List (Addr × Obj)) (s : Shared) (σ : St) (H : Hp) (x y : V) (v u : Value) (Q : VK), Inv X pins σ H s -> RelV x v -> RelV y u -> r x y H Q ->
   subscripted slice false v u = operate [v, u] (getItem v u) -> wpAny (model X.prog X.w) X.A (subscriptTail value slice v u) (EP X pins σ Q) X.xe s
def MtR (X : Cx) (id : String) (r : V -> List V -> Hp -> VK -> Prop) : Prop :=
 ∀ (pins : List (Addr × Obj)) (s : Shared) (σ : St) (H : Hp) (x : V) (xs : List V) (v : Value) (us : List Value) (Q : VK), Inv X pins σ H s -> RelV x v -> Vals xs us -> r x xs H Q ->
   wpAny (model X.prog X.w) X.A (call (.builtin id) (v :: us)) (EP X pins σ Q) X.xe s
section
variable {X : Cx} {a b : Expr} {ta tb : TE} {pos : Pos}
theorem G7 {r : R2} (hr : IxR X r) (ha : PE X a ta) (hb : PE X b tb) (hs : Y6d b) : PE X (.Subscript a b pos) (tOp r ta tb) := by
 intro pins s σ H Q I h
 exact Subscript_ (Z1g ha hb I h fun v u s2 x y H2 I2 rx ry q => hr a b pins s2 σ H2 x y v u Q I2 rx ry q (hs _ _))
def Z9a (K : PySem.W.Frag) : R2 := fun x y H Q => ∃ p xs i v, x = .ref p /\ y = .int i /\ SqL K H p xs /\ atI xs i = some v /\ Q v H
def Z4d (K : PySem.W.Frag) : R2 := fun x y H Q => ∃ p xs i v, x = .ref p /\ y = .int i /\ SqT K H p xs /\ atI xs i = some v /\ Q v H
theorem U5 : IxR X (Z9a X.K) := by
 intro value slice pins s σ H x y v u Q I rx ry h hs
 obtain ⟨p, xs, i, z, rfl, rfl, hq, he, q⟩ := h
 cases rx
 obtain ⟨t, rfl⟩ := ry
 obtain ⟨its, r, pl, hz⟩ := I.list hq
 obtain ⟨j, h1, h2, h3, h4, h5⟩ := J7f he
 obtain ⟨w, ew, rw'⟩ := r.get h2
 have hl := r.length
 have hn := C1z
 have fin : EP X pins σ Q w s := ⟨z, H, I, rw', q⟩
 by_cases h0 : 0 <= i
 . have hj : i.toNat = j := by
     rw [seqIndex_of h0 h5] at h1
     exact Option.some.inj h1
   exact item_listR pl.isList h0 (by omega) (by rw [hj]; simpa using ew) fin hs
 . have hj : (i + (its.toArray.size : Int)).toNat = j := by
     rw [seqIndex_neg (by omega) h4] at h1
     rw [List.size_toArray, <- hl]
     exact Option.some.inj h1
   exact subscriptTail_builtinR (x := w) pl.isList.typeIs slot_list_getitem.lookup
     (wpAny_getItem_list_neg (Q := fun r s' => r = w /\ EP X pins σ Q r s') pl.isList (by omega) (by rw [List.size_toArray] <;> omega) (by omega) (by rw [hj]; simpa using ew) ⟨rfl, fin⟩) hs
theorem U9 : IxR X (Z4d X.K) := by
 intro value slice pins s σ H x y v u Q I rx ry h hs
 obtain ⟨p, xs, i, z, rfl, rfl, hq, he, q⟩ := h
 cases rx
 obtain ⟨t, rfl⟩ := ry
 obtain ⟨its, r, pl, hz⟩ := I.tuple hq
 obtain ⟨j, h1, h2, h3, h4, h5⟩ := J7f he
 obtain ⟨w, ew, rw'⟩ := r.get h2
 have hl := r.length
 have hn := C1z
 have fin : EP X pins σ Q w s := ⟨z, H, I, rw', q⟩
 exact subscriptTail_builtinR (x := w) pl.typeIs slot_tuple_getitem.lookup
   (getItem_tuple (j := j) (Q := fun r s' => r = w /\ EP X pins σ Q r s') pl (by omega) (by omega) (by rw [List.size_toArray, <- hl]; exact h1) (by simpa using ew) ⟨rfl, fin⟩) hs
theorem G7b (its : List Value) (n j : Nat) (u : Value) : Obj.mapSeq (·.setIfInBounds j u) { cls := .type "list", data := .seq its.toArray n } = { cls := .type "list", data := .seq (its.set j u).toArray n } := by
 simp [Obj.mapSeq]
theorem Inv.lst {pins : List (Addr × Obj)} {σ : St} {H : Hp} {s : Shared} {p : Addr} {xs : List V} (I : Inv X pins σ H s) (h : H p = some (.lst xs)) :
   ∃ (its : List Value) (n : Nat), Vals xs its /\ s.heap.get? p = some { cls := .type "list", data := .seq its.toArray n } /\ xs.length <= sizeLine := by
 obtain ⟨z, its, n, r, e⟩ := I.hok p _ h
 exact ⟨its, n, r, e, z⟩
theorem Inv.lstUpd {pins : List (Addr × Obj)} {σ : St} {H : Hp} {s : Shared} {p : Addr} {xs ys : List V} {its its' : List Value} {n n' : Nat} {f : Obj -> Obj} (I : Inv X pins σ H s) (h : H p = some (.lst xs))
   (ho : s.heap.get? p = some { cls := .type "list", data := .seq its.toArray n }) (hf : f { cls := .type "list", data := .seq its.toArray n } = { cls := .type "list", data := .seq its'.toArray n' }) (r : Vals ys its') (hz : ys.length <= sizeLine) (t : Nat) :
   Inv X pins σ (upd H p (.lst ys)) { s with heap := s.heap.update p f, toks := t } := by
 have e : (s.heap.update p f).get? p = some { cls := .type "list", data := .seq its'.toArray n' } := by
   rw [Heap.get?_update_self f ho (by rw [hf] <;> rfl), hf]
 refine I.write (x := p) (e := p) (by rw [h]; trivial) (.inl rfl) (fun b u hb q => (Heap.get?_update_other _ _ (Ne.symm hb)).trans q) ⟨_, e⟩ ?_
 exact ⟨hz, its', n', r, e⟩
def Z4p : V -> V -> V -> Hp -> (Hp -> Prop) -> Prop := fun o i v H Q => ∃ p xs k j, o = .ref p /\ i = .int k /\ H p = some (.lst xs) /\ ixN xs.length k = some j /\ Q (upd H p (.lst (xs.set j v)))
theorem U6m : Z4c X Z4p := by
 intro pins s σ H o i v ov iv u Q I ro ri rv h
 obtain ⟨p, xs, k, j, rfl, rfl, hp, hj, q⟩ := h
 cases ro
 obtain ⟨t, rfl⟩ := ri
 obtain ⟨its, n, r, ho, hz⟩ := I.lst hp
 obtain ⟨h1, h2, h3, h4⟩ := J7x hj
 have hl := r.length
 have hn := C1z
 have I' : Inv X pins σ (upd H p (.lst (xs.set j v))) { s with heap := s.heap.update p (Obj.mapSeq (·.setIfInBounds j u)) } :=
   I.lstUpd hp ho (G7b its n j u) (r.set rv j) (by rw [List.length_set]; exact hz) s.toks
 by_cases h0 : 0 <= k
 . have hk : k.toNat = j := by
     rw [seqIndex_of h0 h4] at h1
     exact Option.some.inj h1
   exact PySem.W.ki_setAt ho h0 (by omega) (by rw [List.size_toArray, <- hl]; exact h4) (by rw [hk]; exact ⟨_, I', q⟩)
 . have hk : (k + (its.toArray.size : Int)).toNat = j := by
     rw [seqIndex_neg (by omega) h3] at h1
     rw [List.size_toArray, <- hl]
     exact Option.some.inj h1
   exact PySem.W.ki_setBack ho (by omega) (by rw [List.size_toArray, <- hl]; exact h3) (by omega) (by rw [hk]; exact ⟨_, I', q⟩)
def B2d : V -> Bool
 | .non => true
 | .bl _ => true
 | .int _ => true
 | .str _ => true
 | _ => false
def eqV : V -> V -> Bool
 | .non, .non => true
 | .bl a, .bl b => a == b
 | .bl a, .int b => (if a then 1 else 0) == b
 | .int a, .bl b => a == (if b then 1 else 0)
 | .int a, .int b => a == b
 | .str a, .str b => a == b
 | _, _ => false
theorem Z1c {A : Around} {s : Shared} {y x : V} {u v : Value} (ry : RelV y u) (rx : RelV x v) (fy : B2d y = true) (fx : B2d x = true) : SeqAt.EqAt A s u v (eqV y x) := by
 cases y with
 | non =>
   cases ry
   cases x with
   | non => cases rx; exact SeqAt.EqAt.same _
   | bl b => cases rx; exact SeqAt.EqAt.none_bool b
   | int b => obtain ⟨t, rfl⟩ := rx; exact SeqAt.EqAt.none_int b t
   | str b => obtain ⟨t, rfl⟩ := rx; exact SeqAt.EqAt.none_str b t
   | _ => exact absurd (show false = true from fx) Bool.false_ne_true
 | bl a =>
   cases ry
   cases x with
   | non => cases rx; exact SeqAt.EqAt.bool_none a
   | bl b => cases rx; exact SeqAt.EqAt.bool_bool a b
   | int b => obtain ⟨t, rfl⟩ := rx; exact SeqAt.EqAt.bool_int a b t
   | str b => obtain ⟨t, rfl⟩ := rx; exact SeqAt.EqAt.bool_str a b t
   | _ => exact absurd (show false = true from fx) Bool.false_ne_true
 | int a =>
   obtain ⟨t', rfl⟩ := ry
   cases x with
   | non => cases rx; exact SeqAt.EqAt.int_none a t'
   | bl b => cases rx; exact SeqAt.EqAt.int_bool a t' b
   | int b => obtain ⟨t, rfl⟩ := rx; exact SeqAt.EqAt.int_int a t' b t
   | str b => obtain ⟨t, rfl⟩ := rx; exact SeqAt.EqAt.int_str a t' b t
   | _ => exact absurd (show false = true from fx) Bool.false_ne_true
 | str a =>
   obtain ⟨t', rfl⟩ := ry
   cases x with
   | non => cases rx; exact SeqAt.EqAt.str_none a t'
   | bl b => cases rx; exact SeqAt.EqAt.str_bool a t' b
   | int b => obtain ⟨t, rfl⟩ := rx; exact SeqAt.EqAt.str_int a t' b t
   | str b => obtain ⟨t, rfl⟩ := rx; exact SeqAt.EqAt.str_str a t' b t
   | _ => exact absurd (show false = true from fx) Bool.false_ne_true
 | _ => exact absurd (show false = true from fy) Bool.false_ne_true
def eqU (x : V) (u : Value) : Bool := match u with
 | .none => eqV .non x
 | .bool b => eqV (.bl b) x
 | .int i _ => eqV (.int i) x
 | .str z _ => eqV (.str z) x
 | _ => false
theorem U7c {x y : V} {u : Value} (r : RelV y u) (f : B2d y = true) : eqU x u = eqV y x := by
 cases y with
 | non => cases r; rfl
 | bl b => cases r; rfl
 | int i => obtain ⟨t, rfl⟩ := r; rfl
 | str z => obtain ⟨t, rfl⟩ := r; rfl
 | _ => exact absurd (show false = true from f) Bool.false_ne_true
theorem B4k {x : V} : ∀ {xs : List V} {us : List Value}, Vals xs us -> xs.all B2d = true -> us.any (eqU x) = xs.any fun y => eqV y x
 | _, _, .nil, _ => rfl
 | y :: xs, u :: us, .cons r t, f => by
   rw [List.all_cons, Bool.and_eq_true] at f
   rw [List.any_cons, List.any_cons, U7c r f.1, B4k t f.2]
theorem A7u {A : Around} {s : Shared} {x : V} {v : Value} (rx : RelV x v) (fx : B2d x = true) : ∀ {xs : List V} {us : List Value}, Vals xs us -> xs.all B2d = true -> ∀ u ∈ us, SeqAt.EqAt A s u v (eqU x u)
 | _, _, .nil, _ => fun u hu => by cases hu
 | y :: xs, u :: us, .cons r t, f => fun u' hu => by
   rw [List.all_cons, Bool.and_eq_true] at f
   rcases List.mem_cons.mp hu with rfl | hu
   . rw [U7c r f.1]; exact Z1c r rx f.1 fx
   . exact A7u rx fx t f.2 u' hu
def inV (x : V) (xs : List V) : Bool := xs.any fun y => eqV y x
def rIn (K : PySem.W.Frag) (neg : Bool) : R2 := fun x y H Q => ∃ p xs, y = .ref p /\ (SqL K H p xs \/ SqT K H p xs) /\ B2d x = true /\ xs.all B2d = true /\ Q (.bl (if neg then !inV x xs else inV x xs)) H
theorem B5u : OpR X (compareOp .In) (rIn X.K false) := by
 intro pins s σ H x y v u Q I rx ry h
 obtain ⟨p, xs, rfl, hq, fx, fs, q⟩ := h
 cases ry
 rcases hq with hq | hq
 . obtain ⟨its, r, pl, hz⟩ := I.list hq
   refine SeqAt.in_listAt (eqU x) pl.isList (fun w hw => A7u rx fx r fs w (by simpa using hw)) ⟨.bl _, H, I, rfl, ?_⟩
   rw [show its.toArray.any (eqU x) = its.any (eqU x) by simp, B4k r fs]
   exact q
 . obtain ⟨its, r, pl, hz⟩ := I.tuple hq
   refine SeqAt.in_tupleAt (eqU x) pl (fun w hw => A7u rx fx r fs w (by simpa using hw)) ⟨.bl _, H, I, rfl, ?_⟩
   rw [show its.toArray.any (eqU x) = its.any (eqU x) by simp, B4k r fs]
   exact q
theorem A4s : OpR X (compareOp .NotIn) (rIn X.K true) := by
 intro pins s σ H x y v u Q I rx ry h
 obtain ⟨p, xs, rfl, hq, fx, fs, q⟩ := h
 cases ry
 rcases hq with hq | hq
 . obtain ⟨its, r, pl, hz⟩ := I.list hq
   refine SeqAt.notIn_listAt (eqU x) pl.isList (fun w hw => A7u rx fx r fs w (by simpa using hw)) ⟨.bl _, H, I, rfl, ?_⟩
   rw [show its.toArray.any (eqU x) = its.any (eqU x) by simp, B4k r fs]
   exact q
 . obtain ⟨its, r, pl, hz⟩ := I.tuple hq
   refine SeqAt.notIn_tupleAt (eqU x) pl (fun w hw => A7u rx fx r fs w (by simpa using hw)) ⟨.bl _, H, I, rfl, ?_⟩
   rw [show its.toArray.any (eqU x) = its.any (eqU x) by simp, B4k r fs]
   exact q
theorem D2t : A7n X (.builtin "len") (fun xs H Q => ∃ p ys, xs = [.ref p] /\ (SqL X.K H p ys \/ SqT X.K H p ys) /\ Q (.int ys.length) H) := by
 intro pins s σ H xs us Q I r h
 obtain ⟨p, ys, rfl, hq, q⟩ := h
 obtain ⟨u, rfl, rx⟩ := C2n r
 cases rx
 have hn := C1z
 rcases hq with hq | hq
 . obtain ⟨its, r', pl, hz⟩ := I.list hq
   have hlen := r'.length
   exact Calls.call_len_list pl.isList (by simp only [List.size_toArray] <;> omega) ⟨.int ys.length, H, I.tok _, ⟨s.toks + 1, by rw [List.size_toArray, hlen]⟩, q⟩
 . obtain ⟨its, r', pl, hz⟩ := I.tuple hq
   have hlen := r'.length
   exact len_tuple pl (by simp only [List.size_toArray] <;> omega) ⟨.int ys.length, H, I.tok _, ⟨s.toks + 1, by rw [List.size_toArray, hlen]⟩, q⟩
theorem D2p : A7n X (.builtin "len") (fun xs H Q => ∃ z, xs = [.str z] /\ z.length <= sizeLine /\ Q (.int z.length) H) := by
 intro pins s σ H xs us Q I r h
 obtain ⟨z, rfl, hz, q⟩ := h
 obtain ⟨u, rfl, t, rfl⟩ := C2n r
 have hn := C1z
 exact len_str (by omega) ⟨.int z.length, H, I.tok _, ⟨_, rfl⟩, q⟩
theorem D2n : A7n X (.type "list") (fun xs H Q => ∃ p ys, xs = [.ref p] /\ (SqL X.K H p ys \/ SqT X.K H p ys) /\ ∀ l, H l = none -> Q (.ref l) (upd H l (.lst ys))) := by
 intro pins s σ H xs us Q I r h
 obtain ⟨p, ys, rfl, hq, q⟩ := h
 obtain ⟨u, rfl, rx⟩ := C2n r
 cases rx
 have fin : ∀ (its : List Value), Vals ys its -> ys.length <= sizeLine -> ∀ (h' : Heap) (c' : Nat), (∀ b o', s.heap.get? b = some o' -> h'.get? b = some o') ->
     h'.get? s.heap.objs.size = some { cls := .type "list", dict := none, data := .seq its.toArray c', slots := #[] } -> EP X pins σ Q (.ref s.heap.objs.size) { s with heap := h' } := fun its r' hz h' c' kp e =>
   ⟨.ref s.heap.objs.size, _, I.laid (t' := s.toks) kp (Nat.le_refl _) (show ObjOk X.prog X.w _ h' _ (.lst ys) from ⟨hz, its, c', r', e⟩), rfl, q _ (I.hok.fresh (Nat.le_refl _))⟩
 rcases hq with hq | hq
 . obtain ⟨its, r', pl, hz⟩ := I.list hq
   have hlen := r'.length
   obtain ⟨o, ho, hc, n, hd⟩ := pl.isList
   exact call_list_seq p (.inl rfl) ho hc hd (fun h' c' kp e => fin its r' hz h' c' kp e) (by simp only [List.size_toArray] <;> omega)
 . obtain ⟨its, r', pl, hz⟩ := I.tuple hq
   have hlen := r'.length
   obtain ⟨o, ho, hc, n, hd⟩ := pl
   exact call_list_seq p (.inr rfl) ho hc hd (fun h' c' kp e => fin its r' hz h' c' kp e) (by simp only [List.size_toArray] <;> omega)
def tyV (K : PySem.W.Frag) (T : String) (x : V) (H : Hp) : Prop := match x with
 | .str _ => T = "str"
 | .int _ => T = "int"
 | .ref p => (T = "list" /\ ∃ xs, SqL K H p xs) \/ (T = "tuple" /\ ∃ o, K.lookup p = some o /\ o.cls = .type "tuple" /\ o.dict = none) \/
     (T = "dict" /\ ((∃ kvs, H p = some (.dK kvs)) \/ ∃ kvs, H p = some (.dT kvs))) \/ (T = "set" /\ ∃ S n, H p = some (.set S n))
 | _ => False
theorem Z0b {pins : List (Addr × Obj)} {σ : St} {H : Hp} {s : Shared} {T : String} {x : V} {v : Value} (I : Inv X pins σ H s) (r : RelV x v) (ty : tyV X.K T x H) :
   s.TypeIs v T /\ ∀ a, v = .ref a -> ∃ ob, s.heap.get? a = some ob /\ ob.dict = none := by
 cases x with
 | str z =>
   obtain ⟨t, rfl⟩ := r
   cases (show T = "str" from ty)
   exact ⟨typeIs_str s z t, fun _ e => nomatch e⟩
 | int i =>
   obtain ⟨t, rfl⟩ := r
   cases (show T = "int" from ty)
   exact ⟨typeIs_int s i t, fun _ e => nomatch e⟩
 | ref p =>
   cases r
   rcases ty with ⟨rfl, xs, hq⟩ | ⟨rfl, o, hk, hc, hd⟩ | ⟨rfl, hk⟩ | ⟨rfl, S, n, hk⟩
   . obtain ⟨its, _, pl, _⟩ := I.list hq
     refine ⟨pl.isList.typeIs, fun a e => ?_⟩
     cases e
     obtain ⟨o, n, e, c, hd, _⟩ := pl
     exact ⟨o, e, hd⟩
   . refine ⟨⟨o, I.kIn p o hk, hc⟩, fun a e => ?_⟩
     cases e
     exact ⟨o, I.kIn _ o hk, hd⟩
   . have z : ∃ o, s.heap.get? p = some o /\ o.ExactDict := by
       rcases hk with ⟨kvs, hk⟩ | ⟨kvs, hk⟩
       . obtain ⟨_, _, _, _, o, _, _, e, ex, _⟩ := I.hok p _ hk
         exact ⟨o, e, ex⟩
       . obtain ⟨_, _, _, _, o, _, _, e, ex, _⟩ := I.hok p _ hk
         exact ⟨o, e, ex⟩
     obtain ⟨o, e, ex⟩ := z
     refine ⟨⟨o, e, ex.1⟩, fun a e2 => ?_⟩
     cases e2
     exact ⟨o, e, ex.2.1⟩
   . obtain ⟨o, _, _, _, e, ex, _⟩ := I.hok p _ hk
     refine ⟨⟨o, e, ex.1⟩, fun a e2 => ?_⟩
     cases e2
     exact ⟨o, e, ex.2.1⟩
 | _ => exact False.elim ty
def tBM0 (K : PySem.W.Frag) (T : String) (r : V -> List V -> Hp -> VK -> Prop) (to : TE) : TE := fun σ H Q => to σ H fun x H1 => tyV K T x H1 /\ r x [] H1 Q
variable {o e : Expr} {es : List Expr} {to : TE} {t : TA} {name : Str} {apos cpos : Pos} {T id : String} {r : V -> List V -> Hp -> VK -> Prop}
theorem Z0u (pa : PlainAttrs T) (slot : Slot T name id) (hty : typeOf (.builtin id) = pure (.type "method_descriptor")) (hm : MtR X id r) (ho : PE X o to)
   (hbase : attributeBase o name X.env (eval o X.env) = eval o X.env := by rfl) (hline : (apos.endLine == cpos.line) = true := by rfl) : PE X (.Call (.Attribute o name apos) [] [] cpos) (tBM0 X.K T r to) := by
 intro pins s σ H Q I h
 refine wpAny_Call_method0_late hbase hline (thn (ho pins s σ H _ I h) fun v s1 ⟨x, H1, I1, r1, ty, q1⟩ => ?_)
 obtain ⟨h1, h2⟩ := Z0b I1 r1 ty
 exact ⟨T, id, pa, slot, hty, h1, h2, Calls.callWith_builtin rfl (PySem.evalArgs_none (hm pins s1 σ H1 x [] v [] Q I1 r1 .nil q1))⟩
end
def MtM (X : Cx) (id : String) (r : V -> List V -> Hp -> VK -> Prop) : Prop :=
 ∀ (pins : List (Addr × Obj)) (s : Shared) (σ : St) (H : Hp) (x : V) (xs : List V) (v : Value) (us : List Value) (Q : VK), Inv X pins σ H s -> RelV x v -> Vals xs us -> r x xs H Q ->
   wpAny (model X.prog X.w) X.A (call (.builtin id) (v :: us)) (EP X pins σ Q) X.xe s
theorem Vals.one : ∀ {x : V} {us : List Value}, Vals [x] us -> ∃ u, us = [u] /\ RelV x u
 | _, _, .cons r .nil => ⟨_, rfl, r⟩
theorem Vals.two : ∀ {x y : V} {us : List Value}, Vals [x, y] us -> ∃ u v, us = [u, v] /\ RelV x u /\ RelV y v
 | _, _, _, .cons r (.cons q .nil) => ⟨_, _, rfl, r, q⟩
section
variable {X : Cx} {pins : List (Addr × Obj)} {σ : St} {H : Hp} {s : Shared} {l b : Addr} {xs ys zs : List V}
theorem Inv.lset {its its' : List Value} {n : Nat} {f : Array Value -> Array Value} {t' : Nat} (I : Inv X pins σ H s) (hH : H l = some (.lst xs))
   (e : s.heap.get? l = some { cls := .type "list", data := .seq its.toArray n }) (hf : f its.toArray = its'.toArray) (hv : Vals ys its') (hz : ys.length <= sizeLine) :
   Inv X pins σ (upd H l (.lst ys)) { s with heap := s.heap.update l (Obj.mapSeq f), toks := t' } := by
 have q := PySem.IsL.update e f
 rw [hf] at q
 refine I.write (x := l) (e := l) (by rw [hH]; exact trivial) (.inl rfl) (fun b' u hb hu => (Heap.get?_update_other s.heap (Obj.mapSeq f) (Ne.symm hb)).trans hu) ⟨_, q⟩ ?_
 exact ⟨hz, its', _, hv, q⟩
theorem Inv.lnew {its : List Value} {t' : Nat} (I : Inv X pins σ H s) (hv : Vals ys its) (hz : ys.length <= sizeLine) :
   Inv X pins σ (upd H s.heap.objs.size (.lst ys)) { s with heap := s.heap.push { cls := .type "list", data := .seq its.toArray }, toks := t' } :=
 I.laid (fun _ _ q => Heap.get?_push_of_some _ q) (Nat.le_refl _) ⟨hz, its, 0, hv, Heap.get?_push_size _ rfl⟩
theorem Inv.fresh (I : Inv X pins σ H s) : H s.heap.objs.size = none := I.hok.fresh (Nat.le_refl _)
theorem Inv.lstM (I : Inv X pins σ H s) (hH : H l = some (.lst xs)) : xs.length <= sizeLine /\ ∃ (its : List Value) (n : Nat), Vals xs its /\ xs.length = its.length /\ s.heap.get? l = some { cls := .type "list", data := .seq its.toArray n } := by
 obtain ⟨z, its, n, r, e⟩ := I.hok l _ hH
 exact ⟨z, its, n, r, r.length, e⟩
end
section
variable {X : Cx}
def Y5d : V -> List V -> Hp -> VK -> Prop := fun x vs H Q => ∃ l xs y, x = .ref l /\ vs = [y] /\ H l = some (.lst xs) /\ xs.length < sizeLine /\ Q .non (upd H l (.lst (xs ++ [y])))
theorem B5k : MtM X "list.append" Y5d := by
 intro pins s σ H x vs v us Q I rx rv h
 obtain ⟨l, xs, y, rfl, rfl, hH, hz, q⟩ := h
 cases rx
 obtain ⟨u, rfl, ru⟩ := rv.one
 obtain ⟨z, its, n, r, hl, e⟩ := I.lstM hH
 refine call_meets F.slot_list_append ⟨_, e, rfl⟩ F.entry_list_append (F.args_list_append_2 _ _) (PySem.list_append l its.toArray n u (by rw [List.size_toArray]; omega)) ⟨e, ?_⟩
 refine ⟨.non, _, I.lset (its' := its ++ [u]) hH e (by simp) (r.append (.cons ru .nil)) ?_, rfl, q⟩
 rw [List.length_append, List.length_singleton]
 omega
def Z9u : R2 := fun x y H Q => ∃ l b xs zs, x = .ref l /\ y = .ref b /\ H l = some (.lst xs) /\ H b = some (.lst zs) /\ xs.length + zs.length <= sizeLine /\ ∀ p, H p = none -> Q (.ref p) (upd H p (.lst (xs ++ zs)))
theorem U8u : OpR X (binaryOp .Add) Z9u := by
 intro pins s σ H x y v u Q I rx ry h
 obtain ⟨l, b, xs, zs, rfl, rfl, hH, hB, hz, q⟩ := h
 cases rx
 cases ry
 obtain ⟨z, its, n, r, hl, e⟩ := I.lstM hH
 obtain ⟨z2, its2, n2, r2, hl2, e2⟩ := I.lstM hB
 refine PySem.P.add_list e e2 ?_ (by rw [List.size_toArray, List.size_toArray]; omega)
 have ea : its.toArray ++ its2.toArray = (its ++ its2).toArray := by simp
 rw [ea]
 exact ⟨.ref _, _, I.lnew (t' := s.toks) (r.append r2) (by rw [List.length_append]; omega), rfl, q _ I.fresh⟩
end
section
variable {prog : Program} {w : World} {A : Around} {E : Value -> Shared -> Prop} {s : Shared}
end
section
variable {X : Cx}
end
end L2
namespace Att
open PySem PySem.W PySem.Calls PyProof.Rows
theorem C0t {P : Params} {h : Heap} : ∀ (ns : List Int) (vs : List Value), WellAll P h vs (ns.map WData.int) -> IntsAre vs ns := by
 intro ns
 induction ns with
 | nil =>
   intro vs w
   rw [List.map_nil] at w
   cases w
   exact .nil
 | cons n ns ih =>
   intro vs w
   rw [List.map_cons] at w
   cases w with
   | cons a b =>
     cases a
     exact .cons _ _ (ih _ b)
theorem U1f {l : OpenLaw} {n : Nat} (hn : l.most = some n) {P : Params} {h : Heap} {args : List WData} {vals : List Value}
   (hpre : l.row.toRowW.claim.pre args = true) (hwl : WellAll P h vals args) :
   ∃ a vs ns, vals = [Value.ref a] /\ args = [WData.list (ns.map WData.int)] /\ h.get? a = some { cls := .type "list", data := .seq vs.toArray } /\ IntsAre vs ns /\ ns.length <= n := by
 have hsh : WShape.hasAll [] args [.list .int] = true := (pre_splitW hpre).1
 have hc : l.pre.holds [] { args := args } = true := (pre_splitW hpre).2
 obtain ⟨d, r, rfl, h1, h2⟩ := hasAllW_cons hsh
 obtain rfl := hasAllW_nil h2
 obtain ⟨xs, rfl, h3⟩ := hasW_list h1
 obtain ⟨ns, rfl⟩ := items_int h3
 have hlen : ns.length <= n := by
   unfold OpenLaw.pre at hc
   have h4 : (WTm.not (.lt (.lit (.int (n : Int))) (.len (.arg 0)))).holds [] { args := [.list (ns.map .int)] } = true := by
     have h4 := (holds_andW hc).1
     rw [hn] at h4
     exact h4
   have h5 := condW_of h4 (w_not (w_lt w_lit (w_len_list (w_arg rfl))))
   rw [List.length_map] at h5
   refine Nat.le_of_not_lt fun q => ?_
   have q' : (n : Int) < ((ns.length : Nat) : Int) := by omega
   first
     | (rw [decide_eq_true q'] at h5; exact absurd h5 (by decide))
     | (simp at h5; omega)
 cases hwl with
 | cons w1 w2 =>
   cases w2
   cases w1 with
   | list ho hall => exact ⟨_, _, ns, rfl, rfl, ho, C0t ns _ hall, hlen⟩
theorem U1r (l : OpenLaw) (args : List WData) : l.row.toRowW.claim.post args (.bool true) args = true :=
 postW_of (r := l.row.toRowW) (X := (true == true))
   (show WShape.has [] (.bool true) .bool = true by first | rfl | decide | simp [WShape.has, WShape.arms, WShape.armsAll])
   (show (WTm.eq .res (.lit (.bool true))).value [] { args := args, res := some (.bool true), after := args } = some (.bool (true == true)) from w_eq_bool (w_res rfl) w_lit) rfl
theorem attach_call {l : OpenLaw} {n : Nat} {q : Program} {loose : List Str} {XP : (Str -> Option Value) -> Heap -> Prop} {YP : World -> Heap -> Prop} {d : DefRec}
   (hn : l.most = some n) (hdf : d.params.defaults = [])
   (call : ∀ (w : World) (s₀ s₁ : Shared) (mg mb : Str -> Option Value) (fa : Addr) (o : Obj) (pm cd doc : Value) (a : Addr) (vs : List Value) (ns : List Int),
     Ground q loose [] XP w s₀ mg mb s₁.heap -> YP w s₁.heap ->
     s₁.heap.get? fa = some o -> o.data = .func (docDef d.name d.params d.body d.scope pm cd doc) -> s₁.heap.CodeRec cd d.name -> mg d.name = some (.ref fa) ->
     s₁.heap.get? a = some { cls := .type "list", data := .seq vs.toArray } -> IntsAre vs ns -> ns.length <= n -> s₁.gens = #[] ->
     codeAny (model l.prog w) callerA (.call (.ref fa) ⟨[.ref a], []⟩) (fun r s' => r = .ok (.ret (.bool true)) /\ OldK s₁.heap s'.heap /\ s'.os = s₁.os /\ AllBare s'.gens) s₁) :
   WalkO q loose XP YP l.row.toRowW d [] (fun f vs => PySem.call f vs) := by
 intro w s₀ s₁ mg mb G Y fa o pm cd doc dV kV ho hd hcd hD hmg hg args vals as hpre hlay hrd hwl hlo
 obtain rfl : dV = .none := Dflts.none hD hdf
 obtain rfl : kV = .none := Dflts.noKw hD
 obtain ⟨a, vs, ns, rfl, rfl, hobj, hints, hlen⟩ := U1f hn hpre hwl
 refine enter_call (codeAny_mono (call w s₀ s₁ mg mb fa o pm cd doc a vs ns G Y ho (fd_plain hd) hcd hmg hobj hints hlen hg) fun r s' hq => ?_)
 obtain ⟨rfl, h2, h3, h4⟩ := hq
 exact ⟨.inl ⟨.bool true, .bool true, [], rfl, fun _ => rfl, .bool true, U1r l _, fun _ => ⟨List.Pairwise.nil, fun _ hm => (nomatch hm)⟩⟩, h2, h3, h4⟩
section
variable {prog : Program} {w : World} {A : Around} {E : Value -> Shared -> Prop} {s : Shared} {K : Frag}
end
end Att
namespace L2
open PySem PySem.Spec PyProof.Rows
theorem D0q : ∀ {vs : List Value} {ns : List Int}, IntsAre vs ns -> Vals (ns.map V.int) vs
 | _, _, .nil => .nil
 | _, _, .cons n t h => .cons ⟨t, rfl⟩ (D0q h)
def Z0h (H : Hp) : Prop := ∀ b, H b = none \/ ∃ o xs, H b = some (.frz o (.lst xs))
theorem V0b {P : Program} {w : World} {K : PySem.W.Frag} {mg mb : Str -> Option Value} {CX : CXT} {k : Nat} {fa a : Addr} {fd : FuncData} {x : Str} {sp : Sp} {s₁ : Shared} {vs : List Value} {ns : List Int}
   (KX : K.In s₁.heap) (hns : s₁.heap.Ns mainGlobals mg) (hb : s₁.heap.Ns builtinsNs mb) (hbb : ∀ x : Str, x ≠ "__name__" -> mb x = bootBuiltins x) (hlim : s₁.heap.NoLimit) (hg : s₁.gens = #[])
   (ha : s₁.heap.get? a = some { cls := .type "list", data := .seq vs.toArray }) (hi : IntsAre vs ns) (hl : ns.length <= sizeLine) (hr : Room k callerA)
   (F : ∀ base : Heap, K.In base -> base.Ns mainGlobals mg -> FnOk P w K mg base CX k fa fd [x] sp) (hbind : ∀ (s : Shared) (u : Value), BindsTo s fd ⟨[u], []⟩ [(x, u)])
   (hsp : ∀ H : Hp, Z0h H -> SqL K H a (ns.map V.int) -> sp [.ref a] H (fun v _ => v = .bl true) fun _ _ _ => False)
   (hCX : ∀ H e s', CX [] H s₁ (fun _ _ _ => False) e s' -> False) :
   codeAny (model P w) callerA (.call (.ref fa) ⟨[.ref a], []⟩) (fun r s' => r = .ok (.ret (.bool true)) /\ OldK s₁.heap s'.heap /\ s'.os = s₁.os /\ AllBare s'.gens) s₁ := by
 have rv := D0q hi
 have lenV := hi.length
 have core : ∀ H : Hp, Z0h H -> SqL K H a (ns.map V.int) -> HOk P w H s₁.heap -> (∀ b, H b ≠ none -> b = a) -> (H a ≠ none -> K.lookup a = none) ->
     codeAny (model P w) callerA (.call (.ref fa) ⟨[.ref a], []⟩) (fun r s' => r = .ok (.ret (.bool true)) /\ OldK s₁.heap s'.heap /\ s'.os = s₁.os /\ AllBare s'.gens) s₁ := by
   intro H hO hS hok hA hK
   have base_of : ∀ {b : Addr} {o : Obj}, s₁.heap.get? b = some o -> H b = none -> (D2g s₁.heap H).get? b = some o := fun e n => U8r e n
   have noA : ∀ {b : Addr} {o : Obj} {es : Array DictEntry} {ep : Nat}, s₁.heap.get? b = some o -> o.data = .dict es ep -> H b = none := fun {b o es ep} e d => by
     cases q : H b with
     | none => rfl
     | some u =>
       have e' : b = a := hA b (by rw [q]; simp)
       subst e'
       rw [ha] at e; cases e
       have d' : Data.seq vs.toArray _ = Data.dict es ep := d
       cases d'
   have nsK : ∀ {b : Addr} {m : Str -> Option Value}, s₁.heap.Ns b m -> (D2g s₁.heap H).Ns b m := fun {b m} ⟨o, es, ep, e, d, r⟩ => ⟨o, es, ep, base_of e (noA e d), d, r⟩
   have hKb : K.In (D2g s₁.heap H) := fun b o e => base_of (KX b o e) (by
     cases q : H b with
     | none => rfl
     | some u =>
       have e' : b = a := hA b (by rw [q]; simp)
       subst e'
       rw [hK (by rw [q]; simp)] at e; cases e)
   have hM : Mod K mg (D2g s₁.heap H) := ⟨hKb, nsK hns, ⟨mb, nsK hb, hbb⟩, let ⟨mc, h1, h2⟩ := hlim; ⟨mc, nsK h1, h2⟩⟩
   have e0 : Env0 P w K mg (D2g s₁.heap H) callerA [] s₁ H := ⟨rfl, hM, fun b o e => Y6f e, Nat.le_of_eq (U0k _ _), trivial, fun b hb => absurd (show b ∈ ([] : List Addr) from hb) (by simp), hok, .of_eq hg⟩
   refine codeAny_mono ((F _ hKb (nsK hns)).run callerA [] s₁ H ⟨[.ref a], []⟩ [.ref a] [.ref a] _ _ hr e0 (hbind s₁ (.ref a)) (.cons rfl .nil) (hsp H hO hS)) fun r s' h => ?_
   cases r with
   | error e => exact (hCX H e s' h).elim
   | ok fl =>
     cases fl with
     | next => exact False.elim h
     | brk => exact False.elim h
     | cont => exact False.elim h
     | ret u =>
       obtain ⟨v, H', os, bare, un, hok', r', q⟩ := h
       have q' : v = .bl true := q
       subst q'
       obtain rfl : u = Value.bool true := r'
       refine ⟨rfl, OldK.of_keep fun b o e => ?_, os, bare⟩
       cases q : H b with
       | none => exact un.keep b o e q (by intro z; exact absurd (show b ∈ ([] : List Addr) from z) (by simp)) (by simp)
       | some u =>
         rcases hO b with z | ⟨ob, xs, z⟩
         . rw [q] at z; cases z
         . have z2 := un.frzs b ob _ z
           obtain ⟨e1, _⟩ := hok b _ z
           obtain ⟨e2, _⟩ := hok' b _ z2
           rw [e] at e1; cases e1
           exact e2
 cases hk : K.lookup a with
 | some o =>
   have e := KX a o hk
   rw [ha] at e
   cases e
   refine core (fun _ => none) (fun _ => .inl rfl) (.inr ⟨_, vs.toArray, _, hk, rfl, rfl, rfl, by rw [List.size_toArray, lenV]; exact hl, by simpa using rv⟩) (fun b u z => by have z' : (none : Option HO) = some u := z; cases z') (fun b z => absurd rfl z) fun z => absurd rfl z
 | none =>
   refine core (fun b => if b = a then some (.frz { cls := .type "list", data := .seq vs.toArray } (.lst (ns.map V.int))) else none) (fun b => ?_) (.inl (.inr ⟨{ cls := .type "list", data := .seq vs.toArray }, if_pos rfl⟩)) (fun b u z => ?_) (fun b z => ?_) fun _ => hk
   . by_cases hb : b = a
     . exact .inr ⟨_, _, if_pos hb⟩
     . exact .inl (if_neg hb)
   . by_cases hb : b = a
     . have z' := (if_pos hb).symm.trans z
       cases z'
       subst hb
       exact ⟨ha, by rw [List.length_map]; exact hl, vs, _, rv, ha⟩
     . have z' := (if_neg hb).symm.trans z
       cases z'
   . by_cases hb : b = a
     . exact hb
     . exact absurd (if_neg hb) z
theorem walk_of {l : PySem.W.OpenLaw} {n k : Nat} {q : Program} {loose : List Str} {XP : (Str -> Option Value) -> Heap -> Prop} {YP : World -> Heap -> Prop} {d : DefRec} {K : Params -> PySem.W.Frag} {CX : World -> CXT} {sp : World -> Sp} {x : Str}
   (hn : l.most = some n) (hn2 : n <= sizeLine) (hdf : d.params.defaults = []) (hr : Room k callerA)
   (hY : ∀ (w : World) (h : Heap), YP w h -> (K w.params).In h)
   (F : ∀ (w : World) (mg : Str -> Option Value) (fa : Addr) (h : Heap), (K w.params).In h -> h.Ns mainGlobals mg -> mg d.name = some (.ref fa) ->
     ∃ fd : FuncData, (∀ (s : Shared) (u : Value), BindsTo s fd ⟨[u], []⟩ [(x, u)]) /\
       ∀ base : Heap, (K w.params).In base -> base.Ns mainGlobals mg -> FnOk l.prog w (K w.params) mg base (CX w) k fa fd [x] (sp w))
   (hsp : ∀ (w : World) (H : Hp) (a : Addr) (ns : List Int), ns.length <= n -> Z0h H -> SqL (K w.params) H a (ns.map V.int) -> sp w [.ref a] H (fun v _ => v = .bl true) fun _ _ _ => False)
   (hCX : ∀ (w : World) (H : Hp) (s : Shared) (e : Value) (s' : Shared), CX w [] H s (fun _ _ _ => False) e s' -> False) :
   PySem.W.WalkO q loose XP YP l.row.toRowW d [] (fun f vs => PySem.call f vs) := by
 refine Att.attach_call hn hdf fun w s₀ s₁ mg mb fa o pm cd doc a vs ns G Y ho hd hcd hmg hobj hints hlen hg => ?_
 have KX := hY w _ Y
 obtain ⟨fd, hb, hF⟩ := F w mg fa _ KX G.T.g hmg
 exact V0b KX G.T.g G.T.b G.T.builtins G.T.nolimit hg hobj hints (Nat.le_trans hlen hn2) hr hF hb (fun H hO hS => hsp w H a ns hlen hO hS) fun H e s' => hCX w H s₁ e s'
def D7 (s : Stmt) (j : Nat) : Stmt := match s with
 | .ClassDef _ _ _ body _ _ _ _ _ _ _ => body.getD j (.Pass ⟨0, 0, 0, 0⟩)
 | _ => .Pass ⟨0, 0, 0, 0⟩
def A8 (s : Stmt) : Arguments := match s with
 | .FunctionDef _ a _ _ _ _ _ _ _ _ => a
 | _ => { posonlyargs := [], args := [], vararg := none, kwonlyargs := [], kw_defaults := [], kwarg := none, defaults := [] }
def A7 (s : Stmt) : List Stmt := match s with
 | .FunctionDef _ _ b _ _ _ _ _ _ _ => b
 | _ => []
def A1 (s : Stmt) : Scope := match s with
 | .FunctionDef _ _ _ _ _ _ sc _ _ _ => sc
 | _ => { kind := .function, names := [], isGenerator := false, isCoroutine := false }
abbrev CX0 : CXT := fun _ _ _ _ _ _ => False
abbrev E0 : XK := fun _ _ _ => False
theorem U8p {X : Cx} : G8c CX0 X E0 := fun _ _ _ _ _ _ _ h => h.elim
structure Fun (K : PySem.W.Frag) (x qual : Str) (st : Stmt) (f : Addr) (fd : FuncData) : Prop where
 ex : ∃ (oc : Value) (od : Option Addr) (kV doc pm : Value) (an : Option Addr) (cdv ct : Value) (osl : Array (Option Value)),
   fd = PySem.W.fnOf x qual (A8 st) (A7 st) (A1 st) .none kV doc pm an cdv ct /\ K.lookup f = some ⟨oc, od, .func fd, osl⟩ /\ PySem.W.codeIn K cdv qual = true
 kp : PySem.W.keepIn K (.ref f) = true
section
variable {P : Program} {w : World} {K : PySem.W.Frag} {mg : Str -> Option Value} {base : Heap}
theorem Fun.ok {x qual : Str} {st : Stmt} {f : Addr} {fd : FuncData} {N ps : List Str} {k : Nat} {sp : Sp} (F : Fun K x qual st f fd) (S : FnScope N ps (A1 st)) (len : ∀ vs H Q E, sp vs H Q E -> vs.length = ps.length)
   (hbody : ∀ (cdv : Value) (A : Around) (outer : List Env) (s : Shared) (H : Hp) (vs : List V) (Q : VK) (E : XK), Room k (A.deeper (envOfC qual (A1 st) s.heap.objs.size f cdv)) -> sp vs H Q E ->
     ∃ t, PSs (A1j CX0 P w K mg base N qual (A1 st) f cdv A outer s H E).nox (A7 st) t /\ t { nx := fun _ H' => Q .non H', rt := Q } (B2b N vs) H) : FnOk P w K mg base CX0 (k + 1) f fd ps sp := by
 obtain ⟨oc, od, kV, doc, pm, an, cdv, ct, osl, rfl, lk, hcd⟩ := F.ex
 refine U9g lk hcd S len fun A outer s H vs Q E hr hsp => ?_
 obtain ⟨t, h, q⟩ := hbody cdv A outer s H vs Q E hr hsp
 exact ⟨t, h.nox, q⟩
theorem Fun.binds {x qual : Str} {st : Stmt} {f : Addr} {fd : FuncData} {ps : List Str} (F : Fun K x qual st f fd)
   (h : ∀ (kV doc pm : Value) (an : Option Addr) (cdv ct : Value) (us : List Value), us.length = ps.length -> bindArgs (PySem.W.fnOf x qual (A8 st) (A7 st) (A1 st) .none kV doc pm an cdv ct) ⟨us, []⟩ = pure (ps.zip us)) : Binds K fd ps [] := by
 obtain ⟨oc, od, kV, doc, pm, an, cdv, ct, osl, rfl, lk, hcd⟩ := F.ex
 exact .all (h kV doc pm an cdv ct)
theorem G3 {x qual : Str} {st : Stmt} {f : Addr} {oc : Value} {od an : Option Addr} {osl : Array (Option Value)} {kV doc pm cdv ct : Value} (l : K.lookup f = some ⟨oc, od, .func (PySem.W.fnOf x qual (A8 st) (A7 st) (A1 st) .none kV doc pm an cdv ct), osl⟩)
   (c : PySem.W.codeIn K cdv qual = true) (k : PySem.W.keepIn K (.ref f) = true) : Fun K x qual st f (PySem.W.fnOf x qual (A8 st) (A7 st) (A1 st) .none kV doc pm an cdv ct) := ⟨⟨oc, od, kV, doc, pm, an, cdv, ct, osl, rfl, l, c⟩, k⟩
end
theorem A0d {n : Nat} (h : n <= 1000) : n < sizeLine := Nat.lt_of_le_of_lt h (by decide)
section
variable {X : Cx}
theorem pv (i : Nat) {x : Str} {pos : Pos} (hN : X.N[i]? = some x := by rfl) (hv : Vis X.env.scope x := by first | exact Or.inl rfl | exact Or.inr (Or.inl rfl) | exact Or.inr (Or.inr rfl)) (hd : (x == ("__debug__" : Str)) = false := by decide)
   (hcd : (x == ("__classdict__" : Str)) = false := by decide) : PE X (.Name x pos) (Z5n i) := Y9q hN hv hd hcd
end
theorem U4 {A B : Prop} (h : B) : if false = true then A else B := by
 rw [if_neg Bool.false_ne_true]
 exact h
theorem Y5 {A B : Prop} (h : A) : if true = true then A else B := by
 rw [if_pos rfl]
 exact h
theorem J8p {c A B : Prop} [Decidable c] (hc : c) (h : B) : if (!decide c) = true then A else B := by
 rw [decide_eq_true hc]
 exact U4 h
def Same (H H' : Hp) : Prop := ∀ b o, H b = some o -> H' b = some o
theorem Same.refl (H : Hp) : Same H H := fun _ _ h => h
theorem Same.trans {H H1 H2 : Hp} (a : Same H H1) (b : Same H1 H2) : Same H H2 := fun c o h => b c o (a c o h)
theorem Same.free {H H' : Hp} (e : Same H H') {l : Addr} (h : H' l = Option.none) : H l = Option.none := by
 cases q : H l with
 | none => rfl
 | some o =>
   rw [e l o q] at h
   cases h
theorem Same.seq {K : PySem.W.Frag} {H H' : Hp} {a : Addr} {xs : List V} (e : Same H H') (h : SqL K H a xs) : SqL K H' a xs := by
 rcases h with (h | ⟨o, h⟩) | h
 . exact .inl (.inl (e _ _ h))
 . exact .inl (.inr ⟨o, e _ _ h⟩)
 . exact .inr h
end L2
set_option maxHeartbeats 4000000
namespace L2
open PySem PySem.Spec PyProof.Rows
abbrev A1f (C : Value) (t : Addr) (dd : Option Addr) (tb : Value) : Obj :=
 { cls := C, dict := dd, data := .fields #[.ref t, tb, .none, .none, .bool false, .none] }
structure Noted (fs : List Addr) (h h' : Heap) (a : Addr) (C : Value) (t : Addr) (dd : Option Addr) (T : Addr) (fl : Value) : Prop where
 keep : ∀ b o, b ∉ fs -> b ≠ a -> h.get? b = some o -> h'.get? b = some o
 slot : ∀ b o, b ≠ a -> h.get? b = some o -> ∃ sl, h'.get? b = some { o with slots := sl }
 new : h.get? T = none
 ne : T ≠ a
 exc : h'.get? a = some (A1f C t dd (.ref T))
 tbk : ∃ oT ts, h'.get? T = some oT /\ oT.data = .fields ts /\ ts[3]? = some fl
section
variable {M : Model} {A : Around} {E : Value -> Shared -> Prop} {s : Shared} {base : Heap} {env : Env} {outer : List Env} {L a t : Addr} {C : Value} {dd : Option Addr} {tb : Value} {Q : Unit -> Shared -> Prop}
theorem Y4w {oa : Obj} {vs : Array Value} {l : List Env} (hl : s.heap.FunFrames base l) (ha : s.heap.get? a = some oa) (hd : oa.data = .fields vs) : a ∉ l.filterMap (·.frame) := by
 intro hm
 obtain ⟨_, o, ho, hn⟩ := hl.mem hm
 rw [ha] at ho
 cases ho
 exact hn vs hd
theorem J8j {head : Value} {hn : Bool} (hfr : A.frames = some (env :: outer)) (hl : s.heap.FunFrames base (env :: outer)) (hf : env.frame = some L)
   (ha : s.heap.get? a = some (A1f C t dd tb))
   (h : ∀ h' T, Noted ((env :: outer).filterMap (·.frame)) s.heap h' a C t dd T (rawInt L) -> Q () { s with heap := h' }) :
   wpAny M A (do
     let x <- frameOf env
     let pl <- entryPlaceOf L hn
     let b <- EntryCells.newEntry head x .none (rawInt L) .none pl
     setField (.ref a) 1 b) Q E s := by
 have na := Y4w hl ha rfl
 refine wpAny_bind (wpAny_frameOf_fun hfr hl hf fun g hg => ?_)
 refine wpAny_bind (wpAny_entryPlaceOf fun pl hpl => ?_)
 unfold EntryCells.newEntry newFields
 refine wpAny_bind (wpAny_newObj_type ?_ (hpl.sizeOk5 _ _ _ _ _))
 have a1 : g.get? a = some (A1f C t dd tb) := (hg.2.1 a na).trans ha
 have a2 := fun (z : Obj) => Heap.get?_push_of_some (h := g) z a1
 have nT : g.objs.size ≠ a := Nat.ne_of_gt (Heap.lt_size a1)
 refine wpAny_setField (a2 _) rfl (by show 1 < 6; decide) (h _ g.objs.size ?_)
 have up : ∀ (z : Obj) (f : Obj -> Obj) b o, b ≠ a -> g.get? b = some o -> ((g.push z).update a f).get? b = some o := by
   intro z f b o hb e
   rw [Heap.get?_update_other _ _ (Ne.symm hb)]
   exact Heap.get?_push_of_some _ e
 refine ⟨fun b o hb hba e => up _ _ b o hba ((hg.2.1 b hb).trans e), fun b o hba e => ?_, ?_, nT, ?_, ?_⟩
 . obtain ⟨sl, e1⟩ := hg.2.2 b o e
   exact ⟨sl, up _ _ b _ hba e1⟩
 . refine Heap.get?_none_of_le ?_
   rw [hg.1]
   exact Nat.le_refl _
 . exact Heap.get?_update_self _ (a2 _) rfl
 . refine ⟨_, _, (Heap.get?_update_other _ _ (Ne.symm nT)).trans (Heap.get?_push_size _ rfl), rfl, ?_⟩
   first
     | (simp; done)
     | (rcases hpl with rfl | ⟨_, _, _, _, _, _, _, rfl⟩ <;> simp)
def Z0d (h : Heap) (a : Addr) (tb : Value) : Prop := tb = .none \/ ∃ T oT ts, tb = .ref T /\ T ≠ a /\ h.get? T = some oT /\ oT.data = .fields ts /\ ts[3]? = some .none
theorem Z0n (hfr : A.frames = some (env :: outer)) (hl : s.heap.FunFrames base (env :: outer)) (hf : env.frame = some L)
   (ha : s.heap.get? a = some (A1f C t dd tb)) (ht : Z0d s.heap a tb)
   (h : ∀ h' T, (∀ b o, b ∉ (env :: outer).filterMap (·.frame) -> b ≠ a -> tb ≠ .ref b -> s.heap.get? b = some o -> h'.get? b = some o) ->
     (∀ b o, b ≠ a -> tb ≠ .ref b -> s.heap.get? b = some o -> ∃ sl, h'.get? b = some { o with slots := sl }) -> s.heap.get? T = none -> T ≠ a ->
     h'.get? a = some (A1f C t dd (.ref T)) -> (∃ oT ts, h'.get? T = some oT /\ oT.data = .fields ts /\ ts[3]? = some (rawInt L)) -> Q () { s with heap := h' }) :
   wpAny M A (noteFrame (.ref a) env) Q E s := by
 unfold noteFrame
 simp only [hf]
 refine wpAny_bind (wpAny_field ha rfl (x := tb) rfl ?_)
 rcases ht with rfl | ⟨T, oT, ts, rfl, nT, hT, dT, h3⟩
 . rw [if_neg (by decide)]
   refine J8j hfr hl hf ha fun h' T N => ?_
   exact h h' T (fun b o hb hba _ e => N.keep b o hb hba e) (fun b o hba _ e => N.slot b o hba e) N.new N.ne N.exc N.tbk
 . rw [if_pos (show (Value.ref T != Value.none) = true by simp)]
   refine wpAny_bind (wpAny_field hT dT h3 ?_)
   rw [if_neg (show ¬ ((Value.none == rawInt L) = true) by simp [rawInt])]
   refine wpAny_bind (wpAny_setField hT dT (Array.getElem?_eq_some_iff.mp h3).1 ?_)
   have oth : ∀ (f : Obj -> Obj) b, b ≠ T -> (s.heap.update T f).get? b = s.heap.get? b := fun f b hb => Heap.get?_update_other _ _ (Ne.symm hb)
   have nrec : ∀ b o, s.heap.get? b = some o -> (∀ vs, o.data ≠ .fields vs) -> b ≠ T := by
     intro b o e hn q
     rw [q, hT] at e
     cases e
     exact hn ts dT
   refine J8j (s := { s with heap := _ }) hfr (hl.of_keeps fun b o e hn => ⟨o, (oth _ b (nrec b o e hn)).trans e, rfl⟩) hf ((oth _ a (Ne.symm nT)).trans ha) fun h' T' N => ?_
   have neb : ∀ b, Value.ref T ≠ Value.ref b -> b ≠ T := fun b q z => q (by rw [z])
   refine h h' T' (fun b o hb hba hbT e => N.keep b o hb hba ((oth _ b (neb b hbT)).trans e)) (fun b o hba hbT e => N.slot b o hba ((oth _ b (neb b hbT)).trans e)) ?_ N.ne N.exc N.tbk
   have nw := N.new
   by_cases q : T' = T
   . subst q
     have := Heap.get?_update_self (Obj.mapFields (·.setIfInBounds 3 Value.none)) hT (Obj.isFreed_of_fields (Obj.data_mapFields dT _))
     rw [nw] at this
     cases this
   . rw [oth _ T' q] at nw
     exact nw
theorem Z0j {T : Addr} {oT : Obj} {ts : Array Value} {fl : Value} (ha : s.heap.get? a = some (A1f C t dd (.ref T))) (nT : T ≠ a) (hT : s.heap.get? T = some oT) (dT : oT.data = .fields ts) (h3 : ts[3]? = some fl)
   (h : ∀ h', (∀ b o, b ≠ T -> s.heap.get? b = some o -> h'.get? b = some o) -> Z0d h' a (.ref T) -> Q () { s with heap := h' }) : wpAny M A (setFlight (.ref a) none) Q E s := by
 have sz : 3 < ts.size := (Array.getElem?_eq_some_iff.mp h3).1
 unfold setFlight
 refine wpAny_bind (wpAny_field ha rfl (x := .ref T) rfl ?_)
 rw [if_pos (show (Value.ref T != Value.none) = true by simp)]
 refine wpAny_setField hT dT sz (h _ (fun b o hb e => (Heap.get?_update_other _ _ (Ne.symm hb)).trans e) ?_)
 have d2 := Obj.data_mapFields dT (·.setIfInBounds 3 ((none : Option Addr).elim Value.none fun f => rawInt f))
 exact .inr ⟨T, _, _, rfl, nT, Heap.get?_update_self _ hT (Obj.isFreed_of_fields d2), d2, by simp [sz]⟩
end
def Hd (A : Around) (h : Heap) : Prop := A.handled = none \/ ∃ x ox vs, A.handled = some (.ref x) /\ h.get? x = some ox /\ ox.data = .fields vs /\ vs[2]? = some .none
theorem C6y : entryFor table "proto.unchain" = some Builtin.«proto.unchain» := entryFor_of_tree (by kernel_rfl)
section
variable {prog : Program} {w : World} {A : Around} {E : Value -> Shared -> Prop} {s : Shared}
theorem G3c {α : Type} {a : Addr} {oa : Obj} {ws : Array Value} {h₀ : Heap} {Q : α -> Shared -> Prop} (hd : Hd A h₀) (k : ∀ b o, h₀.get? b = some o -> s.heap.get? b = some o) (na : h₀.get? a = none)
   (ha : s.heap.get? a = some oa) (da : oa.data = .fields ws) (h2 : 2 < ws.size)
   (h : ∀ h', (∀ b o, b ≠ a -> s.heap.get? b = some o -> h'.get? b = some o) -> (∃ o', h'.get? a = some o' /\ o'.cls = oa.cls) -> E (.ref a) { s with heap := h' }) :
   wpAny (model prog w) A (raiseNew (.ref a) : Sem α) Q E s := by
 unfold raiseNew
 refine wpAny_bind (wpAny_handled ?_)
 rcases hd with z | ⟨x, ox, vs, z, e, d, n⟩
 . rw [z]
   exact wpAny_bind (wpAny_pure (wpAny_throw (h _ (fun b o _ e => e) ⟨_, ha, rfl⟩)))
 . rw [z]
   have nx : x ≠ a := by
     intro q
     rw [q, na] at e
     cases e
   dsimp only
   rw [if_pos (show (Value.ref x != Value.ref a) = true by simpa using nx)]
   refine wpAny_bind (wpAny_holding (wpAny_runValue (codeAny_builtin C6y ?_)))
   unfold Builtin.«proto.unchain»
   dsimp only
   refine wpAny_bind (wpAny_field (k x ox e) d n ?_)
   rw [if_pos (by decide)]
   refine wpAny_pure ?_
   dsimp only
   unfold updateField
   refine wpAny_bind (wpAny_bind (wpAny_load ha ?_))
   rw [da]
   dsimp only
   rw [if_pos h2]
   refine wpAny_update ha (wpAny_throw (h _ (fun b o hb e => (Heap.get?_update_other _ _ (Ne.symm hb)).trans e) ⟨_, Heap.get?_update_self _ ha (Obj.isFreed_of_fields (Obj.data_mapFields da _)), Obj.cls_mapFields _ _⟩))
theorem J8h {α : Type} {Q : α -> Shared -> Prop} (hd : Hd A s.heap)
   (h : ∀ h' e, (∀ b o, s.heap.get? b = some o -> h'.get? b = some o) -> ({ s with heap := h' } : Shared).TypeIs (.ref e) "StopIteration" -> E (.ref e) { s with heap := h' }) :
   wpAny (model prog w) A (newExc (.type "StopIteration") [] >>= fun e => (raiseNew e : Sem α)) Q E s := by
 refine wpAny_bind ?_
 simp only [newExc, newTuple]
 refine wpAny_bind (wpAny_newObj_type ?_ (by size_fits)); refine wpAny_bind (m := firstArgMember _ _) (wpAny_of_eq (a := Value.none) (by first | rfl | (simp only [firstArgMember]; rfl)) ?_)
 refine wpAny_newObj_type ?_ (by size_fits); dsimp only
 have k1 : ∀ (z : Obj) b o, s.heap.get? b = some o -> (s.heap.push z).get? b = some o := fun z b o e => Heap.get?_push_of_some _ e
 have k2 : ∀ (z y : Obj) b o, s.heap.get? b = some o -> ((s.heap.push z).push y).get? b = some o := fun z y b o e => Heap.get?_push_of_some _ (Heap.get?_push_of_some _ e)
 have nw : ∀ (z : Obj), s.heap.get? (s.heap.push z).objs.size = none := fun z => Heap.get?_none_of_le (by rw [Heap.size_push]; exact Nat.le_succ _)
 refine G3c (s := { s with heap := _ }) (h₀ := s.heap) hd (k2 _ _) (nw _) (Heap.get?_push_size _ rfl) rfl (by show 2 < 6; decide) fun h' k ⟨o', e', c'⟩ => h h' _ (fun b o e => ?_) ⟨o', e', c'⟩
 refine k b o ?_ (k2 _ _ b o e)
 intro q; rw [q, nw] at e; cases e
theorem B5r {it l : Addr} {i : Nat} {items : Array Value} {Q : Option Value -> Shared -> Prop} (hd : ∀ h' : Heap, Heap.ExtBut it s.heap h' -> Hd A h')
   (hit : s.heap.IsListIter it l i) (hl : s.heap.IsList l items) (hx : items[i]? = none)
   (hQ : ∀ h', Heap.ExtBut it s.heap h' -> Q none { s with heap := h' }) : wpAny (model prog w) A (pyNext (.ref it)) Q E s := by
 obtain ⟨o, ho, hc, dt⟩ := id hit
 obtain ⟨ol, hol, _, nl, dl⟩ := hl
 unfold pyNext
 refine wpAny_bind (wpAny_attempt (wpAny_callSpecial?_slot (name := Str.ofString "__next__") hit.typeIs slot_listiter_next (wpAny_call_entry slot_listiter_next hit.typeIs entry_listiter_next ?_ (args_listiter_next _))))
 show wpAny _ _ (field (.ref it) 0 >>= _) _ _ _; refine wpAny_bind (wpAny_field ho dt (x := .ref l) rfl ?_)
 show wpAny _ _ (if (Value.ref l == Value.none) = true then _ else _) _ _ _; rw [if_neg (show ¬ ((Value.ref l == Value.none) = true) by simp)]
 show wpAny _ _ (field (.ref it) 1 >>= _) _ _ _; refine wpAny_bind (wpAny_field ho dt (x := .int i 0) rfl ?_)
 show wpAny _ _ (seqItems? (.ref l) >>= _) _ _ _; refine wpAny_bind (wpAny_seqItems hol dl ?_)
 simp only [Int.toNat_natCast, hx]
 refine wpAny_bind (wpAny_rule (wpAny_bind (wpAny_setField ho dt (by simp) ?_)))
 have up := fun f => (Heap.SameBut.update (a := it) (h := s.heap) (f := f)).extBut
 refine J8h (s := { s with heap := _ }) (A := A.in1) (hd _ (up _)) fun h' e k ty => ?_
 refine wpAny_bind (wpAny_isInstance (T := "StopIteration") (b := true) ty isSubtype_stop ?_)
 exact wpAny_pure (hQ h' fun b o hb z => k b o (up _ b o hb z))
theorem C0s {it t : Addr} {i : Nat} {items : Array Value} {Q : Option Value -> Shared -> Prop} (hd : ∀ h' : Heap, Heap.ExtBut it s.heap h' -> Hd A h')
   (hit : IsTupIter s.heap it t i) (hl : IsTup s.heap t items) (hx : items[i]? = none)
   (hQ : ∀ h', Heap.ExtBut it s.heap h' -> Q none { s with heap := h' }) : wpAny (model prog w) A (pyNext (.ref it)) Q E s := by
 obtain ⟨o, ho, hc, dt⟩ := id hit
 obtain ⟨ol, hol, _, nl, dl⟩ := hl
 unfold pyNext
 refine wpAny_bind (wpAny_attempt (wpAny_callSpecial?_slot (name := Str.ofString "__next__") hit.typeIs slot_tupleiter_next (wpAny_call_entry slot_tupleiter_next hit.typeIs entry_tupleiter_next ?_ (args_tupleiter_next _))))
 show wpAny _ _ (field (.ref it) 0 >>= _) _ _ _; refine wpAny_bind (wpAny_field ho dt (x := .ref t) rfl ?_)
 show wpAny _ _ (if (Value.ref t == Value.none) = true then _ else _) _ _ _; rw [if_neg (show ¬ ((Value.ref t == Value.none) = true) by simp)]
 show wpAny _ _ (field (.ref it) 1 >>= _) _ _ _; refine wpAny_bind (wpAny_field ho dt (x := .int i 0) rfl ?_)
 show wpAny _ _ (seqItems? (.ref t) >>= _) _ _ _; refine wpAny_bind (wpAny_seqItems hol dl ?_)
 simp only [Int.toNat_natCast, hx]
 refine wpAny_bind (wpAny_rule (wpAny_bind (wpAny_setField ho dt (by simp) ?_)))
 have up := fun f => (Heap.SameBut.update (a := it) (h := s.heap) (f := f)).extBut
 refine J8h (s := { s with heap := _ }) (A := A.in1) (hd _ (up _)) fun h' e k ty => ?_
 refine wpAny_bind (wpAny_isInstance (T := "StopIteration") (b := true) ty isSubtype_stop ?_)
 exact wpAny_pure (hQ h' fun b o hb z => k b o (up _ b o hb z))
end
theorem ObjOk.there {P : Program} {w : World} {H : Hp} {h : Heap} {a : Addr} {o : HO} (x : ObjOk P w H h a o) : ∃ u, h.get? a = some u := by
 cases o with
 | lst xs => obtain ⟨_, _, _, _, e⟩ := x; exact ⟨_, e⟩
 | tup xs => obtain ⟨_, _, _, _, e, _⟩ := x; exact ⟨_, e⟩
 | dK kvs => obtain ⟨_, _, _, _, o, _, _, e, _⟩ := x; exact ⟨_, e⟩
 | dT kvs => obtain ⟨_, _, _, _, o, _, _, e, _⟩ := x; exact ⟨_, e⟩
 | set S n => obtain ⟨o, _, _, _, e, _⟩ := x; exact ⟨_, e⟩
 | ins C dx fs => obtain ⟨_, _, _, e, _⟩ := x; exact ⟨_, e⟩
 | own y => obtain ⟨_, e⟩ := x; exact ⟨_, e⟩
 | xd fs => obtain ⟨_, ⟨_, _, _, e, _⟩, _⟩ := x; exact ⟨_, e⟩
 | rng lo hi => obtain ⟨_, _, _, e⟩ := x; exact ⟨_, e⟩
 | frz ob u => obtain ⟨e, _⟩ := x; exact ⟨_, e⟩
 | tbl ps => exact ⟨_, show h.get? a = some _ from x⟩
 | met f y => exact ⟨_, show h.get? a = some _ from x⟩
 | ext φ => obtain ⟨_, e, _⟩ := x; exact e
theorem HOk.new {P : Program} {w : World} {H : Hp} {h : Heap} {a : Addr} (x : HOk P w H h) (e : h.get? a = none) : H a = none := by
 cases q : H a with
 | none => rfl
 | some u =>
   obtain ⟨o, z⟩ := (x a u q).there
   rw [e] at z
   cases z
structure Nw (X : Cx) (pins : List (Addr × Obj)) (H : Hp) (b : Addr) : Prop where
 un : H b = none
 loc : b ≠ X.env.locals
 fs : b ∉ X.fs
 old : X.s₀.heap.get? b = none
 cell : ∀ x c, X.env.cells.lookup x = some c -> c ≠ b
 pin : ∀ p ∈ X.pn ++ pins, p.1 ≠ b
section
variable {X : Cx} {pins : List (Addr × Obj)} {σ : St} {H H' : Hp} {s s' : Shared} {a b t : Addr} {C : Value} {dd : Option Addr}
theorem Inv.fsFree (I : Inv X pins σ H s) : ∀ b ∈ X.fs, H b = none := fun b hb => I.stkFree b (by
 rcases I.ok.stk with z | ⟨z, zf⟩
 . rw [z]; exact hb
 . rw [z]
   unfold frs
   rw [List.filterMap_cons, zf]
   exact List.mem_cons_of_mem _ hb)
theorem Inv.nw (I : Inv X pins σ H s) (hex : X.ex = []) (e : s.heap.get? b = none) (hu : H' b = none) : Nw X pins H' b := by
 refine ⟨hu, ?_, ?_, ?_, ?_, ?_⟩
 . rintro rfl
   obtain ⟨m, ⟨o, _, _, ho, _⟩, _⟩ := I.loc
   rw [e] at ho
   cases ho
 . intro hb
   obtain ⟨_, o, ho, _⟩ := I.funs.mem hb
   rw [e] at ho
   cases ho
 . cases q : X.s₀.heap.get? b with
   | none => rfl
   | some o =>
     obtain ⟨o', z⟩ := I.base.there b o q (by rw [hex]; simp)
     rw [e] at z
     cases z
 . rintro x c h rfl
   obtain ⟨v, o, ho, _⟩ := I.cell x c h
   rw [e] at ho
   cases ho
 . rintro p hp rfl
   obtain ⟨z, _⟩ := I.pin p hp
   rw [e] at z
   cases z
theorem Inv.stepN {h' : Heap} {ch : List Addr} (I : Inv X pins σ H s) (hch : ∀ b ∈ ch, Nw X pins H b)
   (keep : ∀ b o, b ≠ X.env.locals -> b ∉ X.fs -> b ∉ ch -> s.heap.get? b = some o -> h'.get? b = some o)
   (slot : ∀ b o, b ∉ ch -> s.heap.get? b = some o -> ∃ sl, h'.get? b = some { o with slots := sl }) : Inv X pins σ H { s with heap := h' } := by
 have neL : ∀ b o, X.s₀.heap.get? b = some o -> b ≠ X.env.locals := fun b o e => Nat.ne_of_lt (Nat.lt_of_lt_of_le (Heap.lt_size e) I.ok.above)
 have neC : ∀ b o, X.s₀.heap.get? b = some o -> b ∉ ch := fun b o e hb => by
   have z := (hch b hb).old
   rw [e] at z
   cases z
 have cellK : ∀ x c, X.env.cells.lookup x = some c -> ∀ v, s.heap.IsCell c v -> h'.IsCell c v := fun x c e v ⟨o, ho, hd⟩ => by
   have nch : c ∉ ch := fun z => (hch c z).cell x c e rfl
   obtain ⟨sl, q⟩ := slot c o nch ho
   exact ⟨_, q, hd⟩
 refine ⟨I.ok, I.os, I.bare, ⟨fun b o e n hb hx => ?_, fun b o e n hb hx => ?_, I.base.free, fun b o e hx => ?_, I.base.tups, I.base.frzs, I.base.tbls⟩, ?_, fun x c e => ?_, I.free, I.freeC, fun p hp => ?_, ?_, I.len⟩
 . exact keep b o (neL b o e) hb (neC b o e) (I.base.keep b o e n hb hx)
 . obtain ⟨sl, e1⟩ := I.base.slot b o e n hb hx
   obtain ⟨sl', e2⟩ := slot b _ (neC b o e) e1
   exact ⟨sl', e2⟩
 . obtain ⟨o', e1⟩ := I.base.there b o e hx
   obtain ⟨sl', e2⟩ := slot b _ (neC b o e) e1
   exact ⟨_, e2⟩
 . obtain ⟨m, hn, hl⟩ := I.loc
   refine ⟨m, ?_, fun i x v e1 e2 e3 => ?_⟩
   . obtain ⟨o, es, ep, ho, r⟩ := hn
     obtain ⟨sl, q⟩ := slot _ o (fun z => (hch _ z).loc rfl) ho
     exact ⟨_, es, ep, q, r⟩
   . obtain ⟨u, r, l⟩ := hl i x v e1 e2 e3
     refine ⟨u, r, ?_⟩
     rcases l with l | ⟨k, c, e, z⟩
     . exact .inl l
     . exact .inr ⟨k, c, e, cellK x c e _ z⟩
 . obtain ⟨v, z⟩ := I.cell x c e
   exact ⟨v, cellK x c e v z⟩
 . obtain ⟨e, n, ne, nf, d⟩ := I.pin p hp
   exact ⟨keep p.1 p.2 ne nf (fun z => (hch p.1 z).pin p hp rfl) e, n, ne, nf, d⟩
 . intro c o e
   have tr : ∀ b, H b ≠ none -> ∀ u, s.heap.get? b = some u -> h'.get? b = some u := fun b hb u q =>
     keep b u (fun z => hb (by rw [z]; exact I.free)) (fun z => hb (I.fsFree b z)) (fun z => hb (hch b z).un) q
   refine (I.hok c o e).stay (fun b u hb q => tr b ?_ u q) (fun _ q => q) fun _ _ q => q
   rcases hb with rfl | hb
   . rw [e]; simp
   . rw [hb]; simp
def Flt (X : Cx) (pins : List (Addr × Obj)) (H : Hp) (s : Shared) (a : Addr) (C : Value) (t : Addr) (dd : Option Addr) : Prop :=
 Nw X pins H a /\ ∃ tb, s.heap.get? a = some (A1f C t dd tb) /\ Z0d s.heap a tb /\ ∀ T, tb = .ref T -> Nw X pins H T
def FltAt (X : Cx) (pins : List (Addr × Obj)) (H : Hp) (s : Shared) (a : Addr) (C : Value) (t : Addr) (dd : Option Addr) (fl : Value) : Prop :=
 Nw X pins H a /\ ∃ T oT ts, s.heap.get? a = some (A1f C t dd (.ref T)) /\ T ≠ a /\ Nw X pins H T /\ s.heap.get? T = some oT /\ oT.data = .fields ts /\ ts[3]? = some fl
structure Body (X : Cx) : Prop where
 ex : X.ex = []
 st : X.stack = X.env :: X.outer
 fr : X.env.frame = some X.env.locals
theorem FltAt.flt (F : FltAt X pins H s a C t dd .none) : Flt X pins H s a C t dd := by
 obtain ⟨n, T, oT, ts, e, ne, nT, eT, dT, h3⟩ := F
 exact ⟨n, _, e, .inr ⟨T, oT, ts, rfl, ne, eT, dT, h3⟩, fun T' z => by cases z; exact nT⟩
def G6g : Value -> List Addr
 | .ref z => [z]
 | _ => []
theorem U6j {M : Model} {E : Value -> Shared -> Prop} {Q : Unit -> Shared -> Prop} (B : Body X) (I : Inv X pins σ H s) (F : Flt X pins H s a C t dd)
   (k : ∀ s', Inv X pins σ H s' -> FltAt X pins H s' a C t dd (rawInt X.env.locals) -> Q () s') : wpAny M X.A (noteFrame (.ref a) X.env) Q E s := by
 obtain ⟨na, tb, e, ht, nT⟩ := F
 have hfr := I.ok.frames
 rw [B.st] at hfr
 have hl := I.stack
 rw [B.st] at hl
 refine Z0n hfr hl B.fr e ht fun h' T k1 k2 k3 k4 k5 k6 => ?_
 have ch : ∀ b, b ∉ a :: G6g tb -> b ≠ a /\ tb ≠ .ref b := by
   intro b hb
   refine ⟨fun z => hb (by rw [z]; exact List.mem_cons_self), fun z => hb ?_⟩
   rw [z]
   exact List.mem_cons_of_mem _ (List.mem_singleton.mpr rfl)
 have I' : Inv X pins σ H { s with heap := h' } := by
   refine I.stepN (ch := a :: G6g tb) (fun b hb => ?_) (fun b o h1 h2 h3 q => k1 b o ?_ (ch b h3).1 (ch b h3).2 q) (fun b o h3 q => k2 b o (ch b h3).1 (ch b h3).2 q)
   . rcases List.mem_cons.mp hb with rfl | hb
     . exact na
     . cases tb <;> simp [G6g] at hb
       subst hb
       exact nT _ rfl
   . intro z
     rw [List.filterMap_cons, B.fr] at z
     rcases List.mem_cons.mp z with z | z
     . exact h1 z
     . exact h2 z
 obtain ⟨oT, ts, q1, q2, q3⟩ := k6
 exact k _ I' ⟨na, T, oT, ts, k5, k4, I.nw B.ex k3 (I.hok.new k3), q1, q2, q3⟩
theorem U7g {M : Model} {A : Around} {E : Value -> Shared -> Prop} {Q : Unit -> Shared -> Prop} {fl : Value} (I : Inv X pins σ H s) (F : FltAt X pins H s a C t dd fl)
   (k : ∀ s', Inv X pins σ H s' -> FltAt X pins H s' a C t dd .none -> Q () s') : wpAny M A (setFlight (.ref a) none) Q E s := by
 obtain ⟨na, T, oT, ts, e, ne, nT, eT, dT, h3⟩ := F
 refine Z0j e ne eT dT h3 fun h' k1 k2 => ?_
 have I' : Inv X pins σ H { s with heap := h' } := I.stepN (ch := [T]) (fun b hb => by
   have : b = T := by simpa using hb
   subst this
   exact nT) (fun b o _ _ hb q => k1 b o (fun z => hb (by simp [z])) q) (fun b o hb q => ⟨_, k1 b o (fun z => hb (by simp [z])) q⟩)
 rcases k2 with z | ⟨T', oT', ts', z, _, q1, q2, q3⟩
 . cases z
 . cases z
   exact k _ I' ⟨na, T, oT', ts', k1 a _ (Ne.symm ne) e, ne, nT, q1, q2, q3⟩
theorem U0x {M : Model} {E : Value -> Shared -> Prop} {Q : Unit -> Shared -> Prop} (B : Body X) (I : Inv X pins σ H s) (F : Flt X pins H s a C t dd)
   (k : ∀ s', Inv X pins σ H s' -> FltAt X pins H s' a C t dd .none -> Q () s') : wpAny M X.A (leaving X.env (.ref a)) Q E s := by
 unfold leaving
 exact wpAny_bind (U6j B I F fun s1 I1 F1 => U7g I1 F1 k)
end
abbrev EK := Value -> Option Addr -> St -> Hp -> Prop
def G2 (X : Cx) (EH : EK) : Prop := ∀ (pins : List (Addr × Obj)) (σ : St) (H : Hp) (s : Shared) (a t : Addr) (C : Value) (dd : Option Addr), Inv X pins σ H s -> Flt X pins H s a C t dd -> EH C dd σ H -> X.xe (.ref a) s
def CX1 (P : Program) (w : World) : CXT := fun outer H s E e s' => ∃ (a t : Addr) (C : Value) (dd : Option Addr) (H' : Hp), e = .ref a /\ s'.os = s.os /\ AllBare s'.gens /\ Un (frs outer) [] H H' s.heap s'.heap /\ HOk P w H' s'.heap /\ E C dd H' /\
 (s.heap.get? a = none /\ H' a = none) /\ ∃ T oT ts, s'.heap.get? a = some (A1f C t dd (.ref T)) /\ T ≠ a /\ (s.heap.get? T = none /\ H' T = none) /\ s'.heap.get? T = some oT /\ oT.data = .fields ts /\ ts[3]? = some .none
theorem C1x {P : Program} {w : World} {K : PySem.W.Frag} {mg : Str -> Option Value} {base : Heap} {N : List Str} {qual : Str} {scope : Scope} {f : Addr} {cd : Value} {A : Around} {outer : List Env} {s : Shared} {H : Hp} {E : XK} :
   G2 (A1j (CX1 P w) P w K mg base N qual scope f cd A outer s H E) (fun C dd _ H' => E C dd H') := by
 intro pins σ H' s' a t C dd I F h
 refine U0x (X := A1j (CX1 P w) P w K mg base N qual scope f cd A outer s H E) ⟨rfl, rfl, rfl⟩ I F fun s2 I2 F2 => ?_
 obtain ⟨na, T, oT, ts, e, ne, nT, eT, dT, h3⟩ := F2
 exact ⟨a, t, C, dd, H', rfl, I2.os, I2.bare, I2.base, I2.hok, h, ⟨na.old, na.un⟩, T, oT, ts, e, ne, ⟨nT.old, nT.un⟩, eT, dT, h3⟩
section
variable {X : Cx} {k : Nat} {f C : Addr} {fd : FuncData} {ps : List Str} {sp : Sp} {dvs : List V} {ds : List Value} {EH : EK} {x m : Str} {p pos apos : Pos} {e o : Expr} {es : List Expr} {ta : TE} {t : TA}
theorem Z5p {pins : List (Addr × Obj)} {σ : St} {H : Hp} {s : Shared} {e : Value} {s' : Shared} (hx : G2 X EH) (hex : X.ex = []) (I : Inv X pins σ H s)
   (h : CX1 X.prog X.w X.stack H s (fun C d H' => EH C d σ H') e s') : X.xe e s' := by
 obtain ⟨a, t, C, dd, H', rfl, os, bare, un, hok, hE, ⟨a1, a2⟩, T, oT, ts, z, ne, ⟨t1, t2⟩, eT, dT, h3⟩ := h
 have I' : Inv X pins σ H' s' := I.call' (ch := []) os un hok bare (fun b q => absurd q (by simp))
 exact hx pins σ H' s' a t C dd I' (FltAt.flt ⟨I.nw hex a1 a2, T, oT, ts, z, ne, I.nw hex t1 t2, eT, dT, h3⟩) hE
theorem C0x {pins : List (Addr × Obj)} {σ : St} {H : Hp} {s : Shared} {Q : VK} {us : List Value} {vs : List V} (F : FnOk X.prog X.w X.K X.mg X.base (CX1 X.prog X.w) k f fd ps sp) (hr : Room k X.A) (hb : Binds X.K fd ps ds) (hd : Vals dvs ds)
   (hx : G2 X EH) (hex : X.ex = []) (I : Inv X pins σ H s) (r : Vals vs us) (h : sp (vs ++ dvs) H Q (fun C d H' => EH C d σ H')) : wpAny (model X.prog X.w) X.A (call (.ref f) us) (EP X pins σ Q) X.xe s := by
 have r2 : Vals (vs ++ dvs) (us ++ ds) := r.append hd
 have hl : (us ++ ds).length = ps.length := by rw [<- r2.length]; exact F.len _ _ _ _ h
 refine wpAny_call (codeAny_mono (F.run X.A X.stack s H ⟨us, []⟩ (us ++ ds) (vs ++ dvs) Q _ hr I.env0 (hb s us I.kIn hl) r2 h) fun r s' hq => ?_)
 cases r with
 | error e => exact Z5p hx hex I hq
 | ok fl =>
   cases fl with
   | ret u => exact I.after hq
   | next => exact False.elim hq
   | brk => exact False.elim hq
   | cont => exact False.elim hq
def C1t (sp : Sp) (dvs : List V) (EH : EK) (t : TA) : TE := fun σ H Q => t σ H fun vs H1 => sp (vs ++ dvs) H1 Q (fun C d H' => EH C d σ H')
theorem U8n (F : FnOk X.prog X.w X.K X.mg X.base (CX1 X.prog X.w) k f fd ps sp) (hr : Room k X.A) (hg : Gl X x) (hm : X.mg x = some (.ref f)) (hk : PySem.W.keepIn X.K (.ref f) = true) (hb : Binds X.K fd ps ds) (hd : Vals dvs ds)
   (hx : G2 X EH) (ha : PA X (e :: es) t) (hex : X.ex = [] := by rfl) (hdb : (x == ("__debug__" : Str)) = false := by decide) (he : starEach (e :: es) X.env = (false, eval e X.env) :: starEach es X.env := by rfl)
   (hpl : (backTo pos (starEach es X.env)).any (·.1) = false := by rfl) : PE X (.Call (.Name x p) (e :: es) [] pos) (C1t sp dvs EH t) := by
 intro pins s σ H Q I h
 refine wpAny_Call_Name_kw (A1p I hg hm ?_ hdb)
 refine PySem.W.callWith_K (h₀ := X.base) I.ok.mod.kin hk (thn (ha pos pins s σ H _ I h) fun us s1 ⟨vs, H1, I1, r, q⟩ => ⟨I1.kIn, ?_⟩) he hpl
 exact C0x F hr hb hd hx hex I1 r q
theorem J9z (F : FnOk X.prog X.w X.K X.mg X.base (CX1 X.prog X.w) k f fd ps sp) (hr : Room k X.A) (hg : Gl X x) (hm : X.mg x = some (.ref f)) (hk : PySem.W.keepIn X.K (.ref f) = true) (hb : Binds X.K fd ps ds) (hd : Vals dvs ds)
   (hx : G2 X EH) (hex : X.ex = [] := by rfl) (hdb : (x == ("__debug__" : Str)) = false := by decide) : PE X (.Call (.Name x p) [] [] pos) (C1t sp dvs EH V0e) := by
 intro pins s σ H Q I h
 refine wpAny_Call_Name_kw (A1p I hg hm ?_ hdb)
 exact PySem.W.callWith_K0 I.kIn hk (C0x (us := []) F hr hb hd hx hex I .nil h)
end
section
variable {P : Program} {w : World} {K : PySem.W.Frag} {mg : Str -> Option Value} {base : Heap}
theorem Fun.okE {x qual : Str} {st : Stmt} {f : Addr} {fd : FuncData} {N ps : List Str} {k : Nat} {sp : Sp} (F : Fun K x qual st f fd) (S : FnScope N ps (A1 st)) (len : ∀ vs H Q E, sp vs H Q E -> vs.length = ps.length)
   (hbody : ∀ (X : Cx) (cdv : Value) (A : Around) (outer : List Env) (s : Shared) (H : Hp) (vs : List V) (Q : VK) (E : XK), X = A1j (CX1 P w) P w K mg base N qual (A1 st) f cdv A outer s H E -> Room k X.A -> G2 X (fun C dd _ H' => E C dd H') -> sp vs H Q E ->
     ∃ t, PSs (A1j (CX1 P w) P w K mg base N qual (A1 st) f cdv A outer s H E) (A7 st) t /\ t { nx := fun _ H' => Q .non H', rt := Q } (B2b N vs) H) : FnOk P w K mg base (CX1 P w) (k + 1) f fd ps sp := by
 obtain ⟨oc, od, kV, doc, pm, an, cdv, ct, osl, rfl, lk, hc⟩ := F.ex
 exact U9g lk hc S len fun A outer s H vs Q E hr h => hbody _ cdv A outer s H vs Q E rfl hr C1x h
theorem FnOk.up {k : Nat} {f : Addr} {fd : FuncData} {ps : List Str} {sp : Sp} (F : FnOk P w K mg base CX0 k f fd ps sp) : FnOk P w K mg base (CX1 P w) k f fd ps sp := by
 refine ⟨F.len, fun A outer s H args us vs Q E hr e0 hb r h => codeAny_mono (F.run A outer s H args us vs Q E hr e0 hb r h) fun r s' q => ?_⟩
 cases r with
 | error e => exact False.elim q
 | ok fl => cases fl <;> exact q
end
end L2
namespace L2
open PySem PySem.Spec PyProof.Rows PySem.W
theorem Y3z {K : Frag} {h : Heap} {C : Addr} {bmB : List Value} {newId : String} (X : K.In h) (q : excIn K C bmB newId = true) :
   ∃ (bm : List Value) (N : Addr) (nm qn : Str) (bs : List Value) (hd : Bool) (sn : List Str) (sub : List Value) (ab : Bool) (col : Option Bool) (dd : Option Addr) (k0 k1 k2 k3 k5 : Option Value) (mN : Str -> Option Value),
     h.get? C = some (excClassObj nm qn C N bs bm hd sn sub ab col dd k0 k1 k2 k3 k5 newId) /\ h.Ns N mN /\ mN "__init__" = none /\ OwnTail h bmB bm := by
 unfold excIn at q
 split at q
 . rename_i dd cd sl ho
   split at q
   . rename_i C' bm k0 k1 k2 k3 n k5 hm hs
     simp only [Bool.and_eq_true, beq_iff_eq, Bool.not_eq_true'] at q
     obtain ⟨⟨⟨⟨⟨r1, r2⟩, r3⟩, r4⟩, r5⟩, r6⟩ := q
     subst r1 r2
     obtain ⟨a1, a2, a3, a4, a5, a6, a7, a8, a9, a10, a11⟩ := cd
     dsimp only at hm r3 r5 r6
     subst hm r3
     have hsl : sl = #[k0, k1, k2, k3, some (.builtin n), k5] := by
       obtain ⟨l⟩ := sl
       simp only at hs
       rw [hs]
     subst hsl
     exact ⟨bm, a4, a1, a5, a2, a6, a7, a8, a9, a10, dd, k0, k1, k2, k3, k5, _, X _ _ ho, .of_isNs (isNs_of_in X r5), nsMap_none_of_in X r5 r6, tail_of_in X r4⟩
   . cases q
 . cases q
section
variable {X : Cx} {x : Str} {p cpos pos : Pos} {e : Expr} {es : List Expr} {t : TA} {C : Addr} {bmB : List Value} {B newId initId : String} {EH : EK}
def Y9v (C : Addr) (EH : EK) (t : TA) : TS := fun _ σ H => t σ H fun vs H1 => vs.length <= sizeLine /\ EH (.ref C) none σ H1
theorem A2q (hg : Gl X x) (hm : X.mg x = some (.ref C)) (q : excIn X.K C bmB newId = true) (FB : ExcBaseFacts B newId initId bmB) (hh : X.A.handled = none) (hx : G2 X EH) (ha : PA X (e :: es) t) (hex : X.ex = [] := by rfl)
   (hdb : (x == ("__debug__" : Str)) = false := by decide) (he : starEach (e :: es) X.env = (false, eval e X.env) :: starEach es X.env := by rfl) (hpl : (backTo cpos (starEach es X.env)).any (·.1) = false := by rfl) :
   PS X (.Raise (some (.Call (.Name x p) (e :: es) [] cpos)) none pos) (Y9v C EH t) := by
 intro pins s σ H D I h
 obtain ⟨bm, N, nm, qn, bs, hd, sn, sub, ab, col, dd, k0, k1, k2, k3, k5, mN, hC, hN, hni, T⟩ := Y3z I.ok.mod.kin q
 refine wpAny_Raise_call_subT (C := C) (nm := nm) (q := qn) (N := N) (bs := bs) (bm := bm) (hdct := hd) (sn := sn) (sub := sub) (ab := ab) (col := col) (dd := dd) (k0 := k0) (k1 := k1) (k2 := k2) (k3 := k3) (k5 := k5) FB (mN := mN) (T.hasType FB.hasBase) hh
   (by rw [he]; show (false || (backTo cpos (starEach es X.env)).any (·.1)) = false; rw [hpl]; rfl) hni (A1p I hg hm ⟨rfl, ?_⟩ hdb)
 have ha' := ha cpos pins s σ H _ I h
 rw [he] at ha' ⊢
 refine Calls.evalArgs_plain (wpAny_mono ha' (fun us s2 ⟨vs, H1, I1, r, z, q⟩ => ⟨rfl, by rw [<- r.length]; exact z, I1.bk _ _ hC, hN.keeps I1.bk, T.keeps I1.bk, fun h' a m => ?_⟩) fun _ _ y => y)
 have I2 : Inv X pins σ H1 { s2 with heap := h' } := I1.kept (t' := s2.toks) m.keeps
 obtain ⟨t', e1, tn, e2⟩ := m.there
 exact hx pins σ H1 _ a t' (.ref C) none I2 ⟨I1.nw hex m.new (I1.hok.new m.new), .none, e1, .inl rfl, fun T z => nomatch z⟩ q
end
section
variable {X : Cx} {pins : List (Addr × Obj)} {σ : St} {H : Hp} {s : Shared}
end
section
variable {X : Cx} {pins pins' : List (Addr × Obj)} {σ : St} {H : Hp} {s : Shared} {a : Addr} {E : Value -> Shared -> Prop}
end
theorem B4r {K : Frag} {M : Model} {h : Heap} {R : Addr} (X : K.In h) (c : (clsIn K R).isSome = true) : Looks M h (isType (.ref R)) true := by
 unfold clsIn at c
 split at c
 . rename_i ho
   intro A' Q' E' s' k q
   unfold isType loadHead
   exact wpAny_bind (wpAny_loadPart (k _ _ (X _ _ ho)) (wpAny_pure q))
 . cases c
section
variable {X : Cx} {x n : Str} {np hpos pos : Pos} {R : Addr} {i : Nat} {body suite : List Stmt} {b₀ : Stmt} {tb : EK -> TS} {ts : Addr -> TS}
end
structure ExcK (K : Frag) (C : Addr) : Prop where
 ga : findIn K (.ref C) "__getattribute__" = some (some (.builtin "BaseException.__getattribute__"))
 gh : findIn K (.ref C) "__getattr__" = some none
 ca : findIn K (.ref C) "__class__" = some (some (.builtin "object.__class__"))
 sn : specialIn K (.builtin "object.__class__") "__get__" = some (some (.builtin "getset_descriptor.__get__"))
 tk : takesIn K (.builtin "object.__class__") = some true
 ob : mroIn K C (.type "object") = some true
 be : subIn K (.ref C) (.type "BaseException") = some true
 cl : (clsIn K C).isSome = true
theorem A7y {prog : Program} {w : World} {A : Around} {E : Value -> Shared -> Prop} {s : Shared} {K : Frag} {a C : Addr} {oa : Obj} {od : Option Obj} {Q : Option Value -> Shared -> Prop} (F : ExcK K C) (X : K.In s.heap) (I : PySem.W.InstAt s.heap a oa C od)
   (h : Q (some (.ref C)) { s with toks := s.toks + 1 }) : wpAny (model prog w) A (getAttr? (.ref a) "__class__") Q E s := by
 obtain ⟨hp, g, d, t, os⟩ := s
 have L0 := I.type (M := model prog w)
 have L1 := looks_findIn (M := model prog w) X F.ga
 have L2 := looks_findIn (M := model prog w) X F.gh
 have L3 : Looks (model prog w) hp (isInstance (.ref a) (.type "BaseException")) true := L0.andThen (looks_subIn X F.be)
 have hf : findObj K C od "__class__" = some (.bind (.builtin "getset_descriptor.__get__") (.builtin "object.__class__")) := by
   obtain ⟨cd, hc⟩ := Option.isSome_iff_exists.mp F.cl
   unfold findObj
   rw [hc, Option.bind_some, F.ca, Option.bind_some]
   simp [F.sn, F.tk]
 have L4 := looks_find (M := model prog w) X I hf
 have hk : builtinKind "BaseException.__getattribute__" = some .slot := by decide +kernel
 have hsplit : splitId "BaseException.__getattribute__" = some ("BaseException", "__getattribute__") := by decide +kernel
 have hargs := PySem.F.args_bexc_ga (.ref a) (.str "__class__" t)
 have hb := PySem.F.attr_ValueError.ga.bind (.ref a)
 unfold getAttr? getAttrBy? getAttrBy
 refine wpAny_bind (wpAny_mkText (wpAny_bind (wpAny_attempt (wpAny_holding (wpAny_bind (L0.at (wpAny_bind (L1.at ?_))))))))
 dsimp only
 rw [if_neg (show ¬ ((onTheHeap (Value.ref C) && Value.builtin "BaseException.__getattribute__" == Value.builtin "object.__getattribute__") = true) by
   rw [show (Value.builtin "BaseException.__getattribute__" == Value.builtin "object.__getattribute__") = false by decide +kernel, Bool.and_false]; exact Bool.false_ne_true)]
 unfold getAttrByItsOwn
 refine wpAny_bind (m := hookBefore (.ref C)) (L2.at ?_)
 refine wpAny_bind (wpAny_attempt (wpAny_holding ?_))
 unfold callGetattribute
 rw [if_neg (by decide)]
 unfold boundAndCalled
 rw [hb]
 refine wpAny_bind (wpAny_pure ?_)
 refine wpAny_call (codeAny_call_builtin PySem.F.attr_ValueError.ga.plain PySem.F.entry_bexc_ga ?_)
 have chk : ∀ {A' : Around} {Q' : Unit -> Shared -> Prop} {E' : Value -> Shared -> Prop}, Q' () ⟨hp, g, d, t + 1, os⟩ -> wpAny (model prog w) A' (checkBuiltinCall "BaseException.__getattribute__" ⟨[.ref a, .str "__class__" t], []⟩) Q' E' ⟨hp, g, d, t + 1, os⟩ := by
   intro A' Q' E' hq
   simp only [checkBuiltinCall, hk, hsplit]
   refine wpAny_bind ?_
   refine L3.at ?_
   repeat (first | assumption | wp_step)
 refine chk ?_
 show wpAny _ _ (Builtin.«object.__getattribute__» ⟨[.ref a, .str "__class__" t], []⟩) _ _ _
 unfold Builtin.«object.__getattribute__»
 refine wpAny_bind (wpAny_pure ?_)
 refine wpAny_bind (wpAny_pure ?_)
 refine wpAny_bind (L0.at (wpAny_bind (L4.at ?_)))
 dsimp only
 show wpAny _ _ (holding [Value.builtin "object.__class__"] (call (.builtin "getset_descriptor.__get__") [.builtin "object.__class__", .ref a, .ref C]) >>= ret) _ _ _
 refine wpAny_bind (wpAny_holding (wpAny_call (class_get (s := ⟨hp, g, d, t + 1, os⟩) X I F.ob (wpAny_pure ?_))))
 exact handed_on rfl (wpAny_pure h)
def Y1 (X : Cx) : Prop := X.A.handled = none \/ ∃ x o u vs, X.A.handled = some (.ref x) /\ X.H₀ x = some (.frz o u) /\ o.data = .fields vs /\ vs[2]? = some .none
section
variable {X : Cx} {pins : List (Addr × Obj)} {σ : St} {H : Hp} {s : Shared}
theorem Inv.hdB {it : Addr} (I : Inv X pins σ H s) (h : Y1 X) (hn : H it = none) : ∀ h' : Heap, Heap.ExtBut it s.heap h' -> Hd X.A h' := by
 intro h' k
 rcases h with z | ⟨x, o, u, vs, z, e, d, n⟩
 . exact .inl z
 . have q := I.base.frzs x o u e
   exact .inr ⟨x, o, vs, z, k x o (fun w => by rw [w, hn] at q; cases q) (I.hok x _ q).1, d, n⟩
end
structure TurnH (P : Program) (w : World) (K : Frag) (tg : Expr) (J : It) (it : Addr) (tn : Nat -> Heap -> Prop) : Prop where
 obj : ∀ i h, tn i h -> ∃ o, h.get? it = some o /\ ∀ v, o.data ≠ .cell v
 keep : ∀ i h h', tn i h -> (∀ o, h.get? it = some o -> h'.get? it = some o) -> tn i h'
 item : ∀ (X : Cx), X.prog = P -> X.w = w -> X.K = K -> Y1 X -> ∀ (i : Nat) (pins : List (Addr × Obj)) (s : Shared) (σ : St) (H : Hp) (E : Value -> Shared -> Prop), Inv X pins σ H s -> A1q X pins H it -> tn i s.heap -> J.go i H ->
   wpAny (model P w) X.A (pyNext (.ref it)) (fun r s1 => ∃ u, r = some u /\
     wpAny (model P w) X.A (letOwnedTupleGo tg (.ref it) u) (fun _ s2 => ∃ x, Inv X pins σ H s2 /\ RelV x u /\ J.yld i H x H /\ tn (i + 1) s2.heap) E s1) E s
 done : ∀ (X : Cx), X.prog = P -> X.w = w -> X.K = K -> Y1 X -> ∀ (i : Nat) (pins : List (Addr × Obj)) (s : Shared) (σ : St) (H : Hp) (E : Value -> Shared -> Prop), Inv X pins σ H s -> A1q X pins H it -> tn i s.heap -> J.stop i H ->
   wpAny (model P w) X.A (pyNext (.ref it)) (fun r s1 => r = none /\ Inv X pins σ H s1) E s
 self : ∀ (A : Around) (i : Nat) (s : Shared) (Q : Value -> Shared -> Prop) (E : Value -> Shared -> Prop), tn i s.heap -> Q (.ref it) s -> wpAny (model P w) A (pyIter (.ref it)) Q E s
theorem G8b {P : Program} {w : World} {K : Frag} {tg : Expr} (a it : Addr) : TurnH P w K tg (Itl K a) it (fun i h => h.IsListIter it a i) where
 obj := fun i h ⟨o, e, c, d⟩ => ⟨o, e, fun v z => by rw [d] at z; cases z⟩
 keep := fun i h h' st k => st.at fun o e => k o e
 item := by
   intro X hP hw hK hc i pins s σ H E I hf st hg
   subst hP hw hK
   obtain ⟨xs, x, hq, hx⟩ := hg
   obtain ⟨its, rv, p, hz⟩ := I.list hq
   obtain ⟨u, hu, ru⟩ := rv.get hx
   obtain ⟨f0, f1, f2, f3, f4, f5⟩ := hf
   refine wpAny_pyNext_list_item st p.isList (x := u) (by simpa using hu) fun h' st' sb => ?_
   have I1 : Inv X pins σ H { s with heap := h' } := I.turned (t' := s.toks) (fun b o hb e => (sb.2 b hb).trans e) f0 f1 f3 f4 f5
   obtain ⟨o, e, c, d⟩ := id st'
   exact ⟨u, rfl, J8e (s := { s with heap := h' }) e c d (by decide) ⟨x, I1, ru, ⟨rfl, fun ys hy => by rw [I.list_inj hy hq]; exact hx⟩, st'⟩⟩
 done := by
   intro X hP hw hK hc i pins s σ H E I hf st hg
   subst hP hw hK
   obtain ⟨xs, hq, hx⟩ := hg
   obtain ⟨its, rv, p, hz⟩ := I.list hq
   obtain ⟨f0, f1, f2, f3, f4, f5⟩ := hf
   have hl := rv.length
   exact B5r (I.hdB hc f0) st p.isList (by simp; omega) fun h' eb => ⟨rfl, I.turned (t' := s.toks) (fun b o hb e => eb b o hb e) f0 f1 f3 f4 f5⟩
 self := fun _ _ _ _ _ st h => wpAny_pyIter_listiter st h
theorem U1d {P : Program} {w : World} {K : Frag} {tg : Expr} (a it : Addr) : TurnH P w K tg (Itt K a) it (fun i h => h.IsTupleIter it a i) where
 obj := fun i h ⟨o, e, c, d⟩ => ⟨o, e, fun v z => by rw [d] at z; cases z⟩
 keep := fun i h h' st k => st.at fun o e => k o e
 item := by
   intro X hP hw hK hc i pins s σ H E I hf st hg
   subst hP hw hK
   obtain ⟨xs, x, hq, hx⟩ := hg
   obtain ⟨its, rv, p, hz⟩ := I.tuple hq
   obtain ⟨u, hu, ru⟩ := rv.get hx
   obtain ⟨f0, f1, f2, f3, f4, f5⟩ := hf
   refine wpAny_pyNext_tuple_item st (show s.heap.IsTuple a its.toArray from p) (x := u) (by simpa using hu) fun h' st' sb => ?_
   have I1 : Inv X pins σ H { s with heap := h' } := I.turned (t' := s.toks) (fun b o hb e => (sb.2 b hb).trans e) f0 f1 f3 f4 f5
   obtain ⟨o, e, c, d⟩ := id st'
   exact ⟨u, rfl, J8e (s := { s with heap := h' }) e c d (by decide) ⟨x, I1, ru, ⟨rfl, fun ys hy => by rw [I.tuple_inj hy hq]; exact hx⟩, st'⟩⟩
 done := by
   intro X hP hw hK hc i pins s σ H E I hf st hg
   subst hP hw hK
   obtain ⟨xs, hq, hx⟩ := hg
   obtain ⟨its, rv, p, hz⟩ := I.tuple hq
   obtain ⟨f0, f1, f2, f3, f4, f5⟩ := hf
   have hl := rv.length
   exact C0s (I.hdB hc f0) st p (by simp; omega) fun h' eb => ⟨rfl, I.turned (t' := s.toks) (fun b o hb e => eb b o hb e) f0 f1 f3 f4 f5⟩
 self := fun _ _ _ _ _ st h => wpAny_pyIter_tupleiter st h
def PIH (X : Cx) (tg iter : Expr) (wi : TI) : Prop :=
 ∀ (pins : List (Addr × Obj)) (s : Shared) (σ : St) (H : Hp) (R : It -> Hp -> Prop), Inv X pins σ H s -> wi σ H R ->
   wpAny (model X.prog X.w) X.A (eval iter X.env) (fun v s1 => wpAny (model X.prog X.w) X.A (pyIter v) (fun itv s2 => ∃ (it : Addr) (tn : Nat -> Heap -> Prop) (J : It) (H' : Hp), itv = .ref it /\ Inv X pins σ H' s2 /\ TurnH X.prog X.w X.K tg J it tn /\ tn 0 s2.heap /\
     A1q X pins H' it /\ R J H') X.xe s1) X.xe s
section
variable {X : Cx} {tg : Expr}
theorem A8e {l : Expr} {tl : TE} (hl : PE X l tl) : PIH X tg l (Y8w X.K tl) := by
 intro pins s σ H R I h
 refine thn (hl pins s σ H _ I h) fun v s1 ⟨x, H1, I1, r1, q1⟩ => ?_
 obtain ⟨a, e, ⟨xs, hq⟩, q⟩ := q1
 subst e
 cases r1
 obtain ⟨its, rv, p, hz⟩ := I1.list hq
 exact wpAny_pyIter_list p.isList ⟨s1.heap.objs.size, _, _, H1, rfl, I1.kept (t' := s1.toks) fun b o e => Heap.get?_push_of_some _ e, G8b a _, ⟨_, Heap.get?_push_size _ rfl, rfl, rfl⟩, I1.fpOk (Nat.le_refl _) (I1.hok.fresh (Nat.le_refl _)), q⟩
theorem Y4y {l : Expr} {tl : TE} (hl : PE X l tl) : PIH X tg l (Z5m X.K tl) := by
 intro pins s σ H R I h
 refine thn (hl pins s σ H _ I h) fun v s1 ⟨x, H1, I1, r1, q1⟩ => ?_
 obtain ⟨a, e, ⟨xs, hq⟩, q⟩ := q1
 subst e
 cases r1
 obtain ⟨its, rv, p, hz⟩ := I1.tuple hq
 exact wpAny_pyIter_tuple (show s1.heap.IsTuple a its.toArray from p) ⟨s1.heap.objs.size, _, _, H1, rfl, I1.kept (t' := s1.toks) fun b o e => Heap.get?_push_of_some _ e, U1d a _, ⟨_, Heap.get?_push_size _ rfl, rfl, rfl⟩, I1.fpOk (Nat.le_refl _) (I1.hok.fresh (Nat.le_refl _)), q⟩
end
abbrev Cx.comp (X : Cx) (scope : Scope) (N : List Str) (C : Addr) (s₀ : Shared) (H₀ : Hp) (ex : List Addr) (pins : List (Addr × Obj)) : Cx :=
 { X with N := N, s₀ := s₀, H₀ := H₀, env := compEnv scope C X.env, outer := X.stack, ex := ex, fn := fun _ => false, pn := pins, xe := fun _ _ => False }
structure CompScope (N : List Str) (sc : Scope) : Prop where
 kind : sc.kind = .function
 free : ∀ y ∈ sc.names, y.2 ≠ .free
 cell : ∀ y ∈ sc.names, y.2 ≠ .cell
 loc : ∀ y ∈ sc.names, y.2 = .local -> sc.names.lookup y.1 = some .local
 nd : N.Nodup
def G6q (n : Nat) (wi : TI) (g : TG) (te : TE) : TE := fun σ H Q => wi σ H fun J H1 => ∀ D, H1 D = none ->
 ∃ (m : Nat) (W : Nat -> List V -> Hp -> Prop), W 0 [] (upd H1 D (.lst [])) /\ ∀ i ys H2, W i ys H2 -> i <= m /\ H2 D = some (.lst ys) /\ ((J.stop i H2 /\ Q (.ref D) H2) \/ (i < m /\ J.go i H2 /\ ∀ x H3, J.yld i H2 x H3 ->
   g x (List.replicate n none) H3 fun σ4 H4 => te σ4 H4 fun y H6 => H6 D = some (.lst ys) /\ ys.length < sizeLine /\ W (i + 1) (ys ++ [y]) (upd H6 D (.lst (ys ++ [y])))))
theorem G2a {prog : Program} {w : World} {A : Around} {s : Shared} {elt target iter : Expr} {scope : Scope} {pos : Pos} {it acc : Value} {env : Env} {R : Result -> Shared -> Prop} (I : Nat -> Shared -> Prop)
   (turn : ∀ n s, I n s -> wpAny (model prog w) A (pyNext it) (fun r s₁ => match r with
     | none => R (.ok .next) s₁
     | some v => wpAny (model prog w) A (letOwnedTupleGo target it v) (fun _ s₀ => wpAny (model prog w) A (assign target env v) (fun _ s₂ => wpAny (model prog w) A (eval elt env) (fun x s₄ =>
         wpAny (model prog w) A (call (.builtin "list.append") [acc, x]) (fun _ s₅ => ∃ m, m < n /\ I m s₅) (notedBy (model prog w) A env fun e s' => R (.error e) s') s₄) (notedBy (model prog w) A env fun e s' => R (.error e) s') s₂)
         (notedBy (model prog w) A env fun e s' => R (.error e) s') s₀) (notedBy (model prog w) A env fun e s' => R (.error e) s') s₁) (notedBy (model prog w) A env fun e s' => R (.error e) s') s)
   (n : Nat) (h : I n s) : codeAny (model prog w) A (.compLoop (.ListComp elt [⟨target, iter, [], 0⟩] scope pos) 0 it acc env) R s := by
 refine codeAny_loop rfl I (fun n s hI => ?_) n h
 show wpAny _ A ((compTurn (.ListComp elt [⟨target, iter, [], 0⟩] scope pos) 0 it acc env).onRaise (fun x => do noteFrame x env; theTreesLotGoes x)) _ _ s
 refine wpAny_noted ?_; rw [compTurn_list1]
 refine wpAny_bind (wpAny_standAt (wpAny_bind (wpAny_mono (turn n s hI) (fun r s₁ h₁ => ?_) fun _ _ z => z)))
 cases r with
 | none => exact wpAny_pure h₁
 | some v =>
   refine wpAny_bind (wpAny_mono h₁ (fun _ s₀ q₀ => ?_) fun _ _ z => z)
   refine wpAny_bind (wpAny_mono q₀ (fun _ s₂ q₂ => ?_) fun _ _ z => z)
   exact wpAny_bind (wpAny_bind (wpAny_mono q₂ (fun x s₄ q₄ => wpAny_bind (wpAny_mono q₄ (fun _ s₅ q₅ => wpAny_pure (wpAny_pure ⟨rfl, q₅⟩)) fun _ _ z => z)) fun _ _ z => z))
section
variable {X : Cx}
theorem U9p {pins : List (Addr × Obj)} {σ : St} {H : Hp} {s : Shared} {scope : Scope} {N : List Str} {it : Addr} {h' : Heap} (S : CompScope N scope) (I : Inv X pins σ H s) (hf : A1q X pins H it) (hit : ∃ o, s.heap.get? it = some o) (hnb : X.base.get? it = none)
   (hns : h'.Ns s.heap.objs.size (fun _ => none)) (hsb : ∀ b o, s.heap.get? b = some o -> h'.get? b = some o) {tk : Nat} :
   Inv (X.comp scope N s.heap.objs.size s H [it] (X.pn ++ pins)) [] (List.replicate N.length none) H { s with heap := h', toks := tk } := by
 obtain ⟨f0, f1, f2, f3, f4, f5⟩ := hf
 obtain ⟨oi, ei⟩ := hit
 have lt : it < s.heap.objs.size := Heap.lt_size ei
 have nc : ∀ x c, (compEnv scope s.heap.objs.size X.env).cells.lookup x = some c -> False := fun x c z => by cases z
 have nk : ∀ x, ¬ ((compEnv scope s.heap.objs.size X.env).kindOf x = some .cell \/ (compEnv scope s.heap.objs.size X.env).kindOf x = some .free) := by
   intro x z
   have z : scope.names.lookup x = some .cell \/ scope.names.lookup x = some .free := z
   rcases z with z | z
   . exact S.cell _ (PySem.mem_of_lookup z) rfl
   . exact S.free _ (PySem.mem_of_lookup z) rfl
 refine ⟨⟨I.ok.mod, S.kind, I.ok.glob, I.ok.blt, Nat.le_refl _, fun x y c z => (nc x c z).elim, fun x z => (nk x z).elim, fun x c _ z => (nc x c z).elim, I.ok.hd, I.ok.frames, .inl rfl, fun b hb => ?_, I.bs, Nat.le_trans I.ok.bsz I.sz, fun b o e hb => ?_, fun b hb hfs => ?_, I.stack, I.stkFree⟩,
   rfl, I.bare, Un.kept hsb, ⟨_, hns, fun i x v e1 e2 e3 => ?_⟩, fun x c z => (nc x c z).elim, I.hok.fresh (Nat.le_refl _), fun x c z => (nc x c z).elim, fun p hp => ?_, I.hok.kept hsb, by simp⟩
 . have e : b = it := by simpa using hb
   subst e
   exact ⟨Nat.ne_of_lt lt, fun x c z => (nc x c z).elim⟩
 . have e' : b = it := by simpa using hb
   subst e'
   rw [hnb] at e
   cases e
 . have e' : b = it := by simpa using hb
   subst e'
   rcases List.mem_cons.mp (I.stkSub b hfs) with z | z
   . exact f1 z
   . exact f2 z
 . rw [List.getElem?_replicate] at e2
   split at e2 <;> cases e2
 . have hp' : p ∈ X.pn ++ pins := by simpa using hp
   obtain ⟨q1, q2, q3, q4, q5⟩ := I.pin p hp'
   refine ⟨hsb _ _ q1, q2, Nat.ne_of_lt (Heap.lt_size q1), fun z => ?_, q5⟩
   rcases List.mem_cons.mp (I.stkSub p.1 z) with z | z
   . exact q3 z
   . exact q4 z
theorem C2s {elt target iter : Expr} {scope : Scope} {pos : Pos} {N : List Str} {wi : TI} {g : TG} {te : TE} (S : CompScope N scope) (hd : Y1 X) (hi : PIH X target iter wi) (hex : X.ex = [])
   (hg : ∀ C s₀ H₀ ex pn, Y1 (X.comp scope N C s₀ H₀ ex pn) -> PG (X.comp scope N C s₀ H₀ ex pn) target g)
   (he : ∀ C s₀ H₀ ex pn, Y1 (X.comp scope N C s₀ H₀ ex pn) -> PE (X.comp scope N C s₀ H₀ ex pn) elt te)
   {pins : List (Addr × Obj)} {s : Shared} {σ : St} {H : Hp} {Q : VK} {RR : Value -> Env -> Result -> Shared -> Prop} (I : Inv X pins σ H s) (h : (G6q N.length wi g te) σ H Q)
   (hRR : ∀ (D C : Addr) (s6 : Shared) (H5 : Hp) (mm : Str -> Option Value), Inv X pins σ H5 s6 -> s6.heap.Ns C mm -> A1q X pins H5 C -> Q (.ref D) H5 -> RR (.ref D) (compEnv scope C X.env) (.ok .next) s6) :
   wpAny (model X.prog X.w) X.A (eval iter X.env) (fun v s1 => wpAny (model X.prog X.w) X.A (pyIter v) (fun itv s2 => wpAny (model X.prog X.w) X.A (newList []) (fun acc s3 => wpAny (model X.prog X.w) X.A (newFunctionEnv scope X.env.globals [] [] X.env.qual none .none (some X.env)) (fun cenv s4 =>
     codeAny (model X.prog X.w) X.A (.compStart (.ListComp elt [⟨target, iter, [], 0⟩] scope pos) 0 itv acc { cenv with scope := scope }) (RR acc { cenv with scope := scope }) s4) X.xe s3) X.xe s2) X.xe s1) X.xe s := by
 refine thn (hi pins s σ H _ I h) fun v s1 h1 => thn h1 fun itv s2 h2 => ?_
 obtain ⟨it, tn, J, H2, rfl, I2, T, st2, f2, R⟩ := h2
 obtain ⟨oi, ei, di⟩ := T.obj _ _ st2
 have hf2 := I2.hok.fresh (Nat.le_refl _)
 refine wpAny_newObj_type ?_
 have I3 : Inv X pins σ (upd H2 s2.heap.objs.size (.lst [])) { s2 with heap := s2.heap.push { cls := .type "list", dict := none, data := .seq ([] : List Value).toArray } } := Inv.lnew (t' := s2.toks) I2 .nil (Nat.zero_le _)
 refine wpAny_newFunctionEnv S.cell (by intro y hy; simp at hy) (fun h4 hns hsb => ?_) S.kind
 dsimp only at hns hsb ⊢
 generalize hG : s2.heap.push { cls := .type "list", dict := none, data := .seq ([] : List Value).toArray } = G at I3 hns hsb ⊢
 generalize hD : s2.heap.objs.size = D at I3 hf2
 have nD : it ≠ D := by rw [<- hD]; exact Nat.ne_of_lt (Heap.lt_size ei)
 have eiG : G.get? it = some oi := by rw [<- hG]; exact Heap.get?_push_of_some _ ei
 have kp : ∀ b o, G.get? b = some o -> h4.get? b = some o := fun b o e => hsb.extBut b o (Nat.ne_of_lt (Heap.lt_size e)) (Heap.get?_push_of_some _ e)
 have f3 : A1q X pins (upd H2 D (.lst [])) it := ⟨by rw [C8 nD]; exact f2.1, f2.2⟩
 have nb : X.base.get? it = none := by
   cases q : X.base.get? it with
   | none => rfl
   | some o =>
     have := (I.ok.bs it o q).1
     rcases f2.2.2.2.1 with z | z
     . rw [hex] at z; simp at z
     . exact absurd (Nat.lt_of_lt_of_le (Heap.lt_size this) z) (Nat.lt_irrefl _)
 have hns' : h4.Ns G.objs.size (fun _ => none) := by
   obtain ⟨o, es, ep, q1, q2, q3, q4⟩ := hns
   exact ⟨o, es, ep, q1, q2, q3, fun x => by rw [q4]; rfl⟩
 have I4 := U9p (tk := s2.toks + ([] : List (Str × Value)).length) S I3 f3 ⟨oi, eiG⟩ nb hns' kp
 have hdc : Y1 (X.comp scope N G.objs.size { s2 with heap := G } (upd H2 D (.lst [])) [it] (X.pn ++ pins)) := by
   rcases hd with z | ⟨x, o, u, vs, z, e, d, n⟩
   . exact .inl z
   . refine .inr ⟨x, o, u, vs, z, ?_, d, n⟩
     have q := I2.base.frzs x o u e
     show upd H2 D (.lst []) x = _
     rw [C8 fun w => by rw [w, hf2] at q; cases q]
     exact q
 obtain ⟨m, W, w0, turn⟩ := R D hf2
 have gg := hg _ _ _ _ _ hdc
 have ee := he _ _ _ _ _ hdc
 have fpc : ∀ {H' : Hp} {σ' : St} {s' : Shared} {pl : List (Addr × Obj)}, Inv (X.comp scope N G.objs.size { s2 with heap := G } (upd H2 D (.lst [])) [it] (X.pn ++ pins)) pl σ' H' s' -> H' it = none -> (∀ p ∈ pl, p.1 ≠ it) -> A1q (X.comp scope N G.objs.size { s2 with heap := G } (upd H2 D (.lst [])) [it] (X.pn ++ pins)) pl H' it := by
   intro H' σ' s' pl J' hn hp
   refine ⟨hn, Nat.ne_of_lt (Heap.lt_size eiG), ?_, .inl (List.mem_singleton.mpr rfl), (fun x c z => nomatch z), fun p hpp => ?_⟩
   . intro z
     rcases List.mem_cons.mp (I.stkSub it z) with z | z
     . exact f2.2.1 z
     . exact f2.2.2.1 z
   . rcases List.mem_append.mp hpp with z | z
     . exact f2.2.2.2.2.2 p z
     . exact hp p z
 have loop : codeAny (model X.prog X.w) X.A (.compLoop (.ListComp elt [⟨target, iter, [], 0⟩] scope pos) 0 (.ref it) (.ref D) (compEnv scope G.objs.size X.env))
     (RR (.ref D) (compEnv scope G.objs.size X.env))
     { s2 with heap := h4, toks := s2.toks + ([] : List (Str × Value)).length } := by
   refine G2a (fun k s' => ∃ i ys H', k = m + 1 - i /\ Inv (X.comp scope N G.objs.size { s2 with heap := G } (upd H2 D (.lst [])) [it] (X.pn ++ pins)) [] (List.replicate N.length none) H' s' /\ tn i s'.heap /\ H' it = none /\ W i ys H') ?_ (m + 1)
     ⟨0, [], _, rfl, I4, T.keep _ _ _ st2 fun o e => kp it o (by rw [<- hG]; exact Heap.get?_push_of_some _ e), f3.1, w0⟩
   rintro k s5 ⟨i, ys, H5, rfl, I5, st5, n5, w5⟩
   obtain ⟨hi5, hD5, w5⟩ := turn i ys H5 w5
   rcases w5 with ⟨stop, q⟩ | ⟨lt5, go, step⟩
   . refine wpAny_mono (T.done (X.comp scope N G.objs.size { s2 with heap := G } (upd H2 D (.lst [])) [it] (X.pn ++ pins)) rfl rfl rfl hdc i [] s5 _ H5 (fun _ _ => False) I5 (fpc I5 n5 (by simp)) st5 stop) (fun r s6 z => ?_) (fun _ _ z => z.elim)
     obtain ⟨rfl, I6⟩ := z
     obtain ⟨mm, hn6, _⟩ := I6.loc
     have B6 := I6.base
     have J6 : Inv X pins σ H5 s6 := by
       refine I3.call' (ch := [it]) I6.os ⟨B6.keep, B6.slot, B6.free, B6.there, B6.tups, B6.frzs, B6.tbls⟩ I6.hok I6.bare (fun b hb => ?_)
       have e : b = it := by simpa using hb
       subst e
       exact ⟨f2.2.2.2.1, f2.2.1, f2.2.2.2.2.1, f2.2.2.2.2.2⟩
     have szG : X.s₀.heap.objs.size <= G.objs.size := I3.sz
     refine hRR D G.objs.size s6 H5 mm J6 hn6 ⟨I6.free, ?_, ?_, .inr szG, ?_, ?_⟩ q
     . exact Nat.ne_of_gt I3.lt
     . intro z
       obtain ⟨_, o, ho, _⟩ := I3.funs.mem z
       exact Nat.lt_irrefl _ (Heap.lt_size ho)
     . rintro x c z rfl
       obtain ⟨v', o, ho, _⟩ := I3.cell x _ z
       exact Nat.lt_irrefl _ (Heap.lt_size ho)
     . rintro p hp z
       have zz := (I3.pin p hp).1
       rw [z] at zz
       exact Nat.lt_irrefl _ (Heap.lt_size zz)
   . refine wpAny_mono (T.item (X.comp scope N G.objs.size { s2 with heap := G } (upd H2 D (.lst [])) [it] (X.pn ++ pins)) rfl rfl rfl hdc i [] s5 _ H5 (fun _ _ => False) I5 (fpc I5 n5 (by simp)) st5 go) (fun r s6 z => ?_) (fun _ _ z => z.elim)
     obtain ⟨u, rfl, z⟩ := z
     refine wpAny_mono z (fun _ s7 z => ?_) (fun _ _ z => z.elim)
     obtain ⟨x, I7, rx, yl, st7⟩ := z
     obtain ⟨o7, e7, d7⟩ := T.obj _ _ st7
     obtain ⟨p0, p1, p2, _⟩ := fpc I7 n5 (by simp)
     have I7' : Inv (X.comp scope N G.objs.size { s2 with heap := G } (upd H2 D (.lst [])) [it] (X.pn ++ pins)) [(it, o7)] (List.replicate N.length none) H5 s7 := I7.pins_of fun p hp => by
       have e : p = (it, o7) := by simpa using hp
       subst e
       exact ⟨e7, p0, p1, p2, d7⟩
     have back : ∀ {i' : Nat} {ys' : List V} {H' : Hp} {σ' : St} {s' : Shared}, i' = i + 1 -> Inv (X.comp scope N G.objs.size { s2 with heap := G } (upd H2 D (.lst [])) [it] (X.pn ++ pins)) [(it, o7)] σ' H' s' -> W i' ys' H' ->
         ∃ k', k' < m + 1 - i /\ ∃ i ys H', k' = m + 1 - i /\ Inv (X.comp scope N G.objs.size { s2 with heap := G } (upd H2 D (.lst [])) [it] (X.pn ++ pins)) [] (List.replicate N.length none) H' s' /\ tn i s'.heap /\ H' it = none /\ W i ys H' := by
       rintro i' ys' H' σ' s' rfl J' w'
       obtain ⟨q1, q2, _⟩ := J'.pin (it, o7) (List.mem_append_right _ (List.mem_singleton.mpr rfl))
       have jl : σ'.length = N.length := J'.len
       refine ⟨m + 1 - (i + 1), by omega, i + 1, ys', H', rfl, Inv.weak (J'.pins_of fun p hp => absurd hp (by simp)) (by rw [jl]; simp) (fun j v z => ?_), T.keep _ _ _ st7 fun o z => ?_, q2, w'⟩
       . rw [List.getElem?_replicate] at z
         split at z <;> cases z
       . rw [e7] at z
         cases z
         exact q1
     refine wpAny_mono (gg [(it, o7)] s7 _ H5 x u _ I7' rx (step x H5 yl)) (fun _ s8 z => ?_) (fun _ _ z => z.elim)
     obtain ⟨σ8, H8, I8, q8⟩ := z
     refine wpAny_mono (ee [(it, o7)] s8 σ8 H8 _ I8 q8) (fun y s10 z => ?_) (fun _ _ z => z.elim)
     obtain ⟨yv, H10, I10, ry, hD10, hz10, w10⟩ := z
     refine wpAny_mono (B5k (X := X.comp scope N G.objs.size { s2 with heap := G } (upd H2 D (.lst [])) [it] (X.pn ++ pins)) [(it, o7)] s10 σ8 H10 (.ref D) [yv] (.ref D) [y] (fun _ H11 => W (i + 1) (ys ++ [yv]) H11) I10 rfl (.cons ry .nil) ⟨D, ys, yv, rfl, rfl, hD10, hz10, w10⟩) (fun _ s11 z => ?_) (fun _ _ z => z.elim)
     obtain ⟨_, H11, I11, _, w11⟩ := z
     exact back rfl I11 w11
 exact codeAny_compStart_list loop (T.self _ 0 _ _ _ (T.keep _ _ _ st2 fun o e => kp it o (by rw [<- hG]; exact Heap.get?_push_of_some _ e)) loop)
theorem G2h {pins : List (Addr × Obj)} {σ : St} {H : Hp} {s : Shared} {C : Addr} {h' : Heap} (I : Inv X pins σ H s) (f : A1q X pins H C) (sb : Heap.SameBut C s.heap h') : Inv X pins σ H { s with heap := h' } :=
 I.turned (t' := s.toks) (fun b o hb e => (sb.2 b hb).trans e) f.1 f.2.1 f.2.2.2.1 f.2.2.2.2.1 f.2.2.2.2.2
theorem G2t {elt target iter : Expr} {scope : Scope} {pos : Pos} {N : List Str} {wi : TI} {g : TG} {te : TE} (S : CompScope N scope) (hd : Y1 X) (hi : PIH X target iter wi) (hex : X.ex = [])
   (hg : ∀ C s₀ H₀ ex pn, Y1 (X.comp scope N C s₀ H₀ ex pn) -> PG (X.comp scope N C s₀ H₀ ex pn) target g)
   (he : ∀ C s₀ H₀ ex pn, Y1 (X.comp scope N C s₀ H₀ ex pn) -> PE (X.comp scope N C s₀ H₀ ex pn) elt te)
   (hs : ∀ x, foldedSetIterable iter X.env x = pure x := by intro _; rfl) : PE X (.ListComp elt [⟨target, iter, [], 0⟩] scope pos) (G6q N.length wi g te) := by
 intro pins s σ H Q I h
 refine wpAny_ListComp S.free S.kind S.loc (C2s S hd hi hex hg he I h (RR := fun acc ce r s' => ∃ m, s'.heap.Ns ce.locals m /\ ∀ h', Heap.SameBut ce.locals s'.heap h' -> match r with
   | .ok _ => EP X pins σ Q acc { s' with heap := h' }
   | .error x => wpAny (model X.prog X.w) X.A (passOn "comprehension.variables-let-go" x ce) (EP X pins σ Q) X.xe { s' with heap := h' }) ?_) hs
 intro D C s6 H5 mm I6 n6 f6 q
 exact ⟨mm, n6, fun h' sb => ⟨.ref D, H5, G2h I6 f6 sb, rfl, q⟩⟩
theorem V0m {i : Nat} {y : Str} {py spos : Pos} {elt target iter : Expr} {scope : Scope} {pos : Pos} {N : List Str} {wi : TI} {g : TG} {te : TE} (S : CompScope N scope) (hd : Y1 X) (hi : PIH X target iter wi) (hex : X.ex = [])
   (hg : ∀ C s₀ H₀ ex pn, Y1 (X.comp scope N C s₀ H₀ ex pn) -> PG (X.comp scope N C s₀ H₀ ex pn) target g)
   (he : ∀ C s₀ H₀ ex pn, Y1 (X.comp scope N C s₀ H₀ ex pn) -> PE (X.comp scope N C s₀ H₀ ex pn) elt te) (hN : X.N.Nodup) (hi' : X.N[i]? = some y) (hy : X.env.scope.names.lookup y = some .local)
   (hsw : swapsWith (.ListComp elt [⟨target, iter, [], 0⟩] scope pos) (some (.Name y py)) spos.line X.env = pure true := by rfl)
   (hs : ∀ x, foldedSetIterable iter X.env x = pure x := by intro _; rfl) : PS X (.Assign [.Name y py] (.ListComp elt [⟨target, iter, [], 0⟩] scope pos) spos) (Y4r (G6q N.length wi g te) (G3e i)) := by
 intro pins s σ H D I h
 rw [exec_Assign_Name_used _ _ _ _ hsw]
 refine wpAny_bind (wpAny_standAt (wpAny_bind ?_))
 show wpAny _ X.A (do let _ <- comprehension (.ListComp elt [⟨target, iter, [], 0⟩] scope pos) scope X.env _ (newList []) false (eval iter X.env) (some (assign (.Name y py) X.env))) _ _ s
 refine wpAny_bind (wpAny_mono (wpAny_comprehension_use (Q := fun _ s' => SP X pins D .next s') rfl hs S.free S.kind S.loc (C2s S hd hi hex hg he I h (RR := fun acc ce r s' => match r with
     | .ok _ => wpAny (model X.prog X.w) X.A (assign (.Name y py) X.env acc) (fun _ s'' => ∃ m, s''.heap.Ns ce.locals m /\ ∀ h', Heap.SameBut ce.locals s''.heap h' -> SP X pins D .next { s'' with heap := h' }) X.xe s'
     | .error x => ∃ m, s'.heap.Ns ce.locals m /\ ∀ h', Heap.SameBut ce.locals s'.heap h' -> wpAny (model X.prog X.w) X.A (passOn "comprehension.variables-let-go" x ce) (fun _ s' => SP X pins D .next s') X.xe { s' with heap := h' }) ?_))
   (fun _ s' hq => wpAny_pure (wpAny_pure hq)) fun _ _ e => e)
 intro D' C s6 H5 mm I6 n6 f6 q
 refine wpAny_assign_Name (B5v (v := .ref D') I6 hN hi' (.inl hy) rfl (fun s7 I7 st => ?_) (.inr hy))
 obtain ⟨a, sb, ha⟩ := st
 have na : C ≠ a := by
   rcases ha with rfl | ha
   . exact f6.2.1
   . exact (f6.2.2.2.2.1 y a ha).symm
 exact ⟨mm, n6.sameBut sb na, fun h' sb' => ⟨_, _, G2h I7 f6 sb', q⟩⟩
end
section
variable {X : Cx} {a b c : Expr} {ta tb tc : TE} {pos : Pos}
theorem J7 : OpR X (binaryOp .Mult) (rI IntMulOk fun i j => .int (i * j)) := opI fun _ _ _ _ _ _ _ hc q => mul_int q hc
theorem D8 : OpR X (binaryOp .FloorDiv) (rI (fun _ j => 0 < j /\ j.natAbs.log2 < 9000) fun i j => .int (i / j)) := opI fun i j _ _ _ _ _ hc q => by
 have h1 : (0 : Int) < j := hc.1
 exact floordiv_int (by omega) (by rw [Int.fdiv_eq_ediv_of_nonneg i (by omega)]; exact q) (.inl (PyProof.noPylong_of_log2 hc.2))
theorem C1r {i : Int} {k : Nat} (h : i.natAbs < 2 ^ k) (hk : 0 < k) : i.natAbs.log2 < k := by
 by_cases z : i.natAbs = 0
 . rw [z]; simpa using hk
 . exact (Nat.log2_lt z).mpr h
inductive TyE (K : Frag) (H : Hp) : V -> Value -> Prop where
 | of {x : V} {t : Value} (h : TyOf K H x t) : TyE K H x t
 | exc {a C t : Addr} {T : Value} {u : HO} (e : H a = some (.frz (A1f (.ref C) t none T) u)) (k : ExcK K C) : TyE K H (.ref a) (.ref C)
 | excD {a C t : Addr} {T : Value} {d : Addr} {u : HO} {fs : List (Str × V)} (e : H a = some (.frz (A1f (.ref C) t (some d) T) u)) (hd : H d = some (.xd fs)) (k : ExcK K C) : TyE K H (.ref a) (.ref C)
 | tupK {a : Addr} {o : Obj} (l : K.lookup a = some o) (c : o.cls = .type "tuple") : TyE K H (.ref a) (.type "tuple")
theorem G7y {pins : List (Addr × Obj)} {σ : St} {H : Hp} {s : Shared} {A : Around} {E : Value -> Shared -> Prop} {Q : Value -> Shared -> Prop} {c : Value} {b : Bool} {x : V} {u t : Value} (I : Inv X pins σ H s) (rx : RelV x u) (ty : TyE X.K H x t)
   (e : kitOne X.K t c = some b) (h : ∀ tk, Q (.bool b) { s with toks := tk }) : wpAny (model X.prog X.w) A (call (.builtin "isinstance") [u, c]) Q E s := by
 cases ty with
 | of h' => exact U0e I rx h' e h
 | exc ea k =>
   cases rx
   rename_i a C t0 T u0
   have o1 : s.heap.get? a = some (A1f (.ref C) t0 none T) := (I.hok a _ ea).1
   refine kia_one (H := fun h => PySem.W.InstAt h a (A1f (.ref C) t0 none T) C none) ?_ I.kIn ⟨o1, rfl, rfl, trivial⟩ e (fun z => nomatch z) h
   refine ⟨fun M h _ J => J.type, fun M h K _ => B4r K k.cl, fun h tp dd its n sl K htp => ?_, fun K J q => A7y k K J q⟩
   refine Bool.eq_false_iff.mpr fun q => ?_
   have e : C = tp := Value.ref.inj (beq_iff_eq.mp q)
   subst e
   have z := k.cl
   unfold clsIn at z
   split at z
   . rename_i ho
     have y := (K _ _ ho).symm.trans htp
     cases y
   . cases z
 | tupK l c =>
   cases rx
   exact PySem.W.kia_one PySem.W.kitx_tuple I.kIn ⟨_, I.kIn _ _ l, c⟩ e (fun z => nomatch z) h
 | excD ea hd k =>
   cases rx
   rename_i a C t0 T d u0 fs
   have o1 : s.heap.get? a = some (A1f (.ref C) t0 (some d) T) := (I.hok a _ ea).1
   obtain ⟨mA, nA, _⟩ := (show ∃ mA, s.heap.Ns1 d mA /\ ∀ f, RelO (fs.lookup f) (mA f) from I.hok d _ hd)
   obtain ⟨od, o2, _⟩ := D0f nA
   refine kia_one (H := fun h => PySem.W.InstAt h a (A1f (.ref C) t0 (some d) T) C (some od)) ?_ I.kIn ⟨o1, rfl, rfl, o2⟩ e (fun z => nomatch z) h
   refine ⟨fun M h _ J => J.type, fun M h K _ => B4r K k.cl, fun h tp dd its n sl K htp => ?_, fun K J q => A7y k K J q⟩
   refine Bool.eq_false_iff.mpr fun q => ?_
   have e : C = tp := Value.ref.inj (beq_iff_eq.mp q)
   subst e
   have z := k.cl
   unfold clsIn at z
   split at z
   . rename_i ho
     have y := (K _ _ ho).symm.trans htp
     cases y
   . cases z
def Z1f : V -> Option Value
 | .ty n => some (.type n)
 | .ref a => some (.ref a)
 | _ => none
theorem G3a : A7n X (.builtin "isinstance") (fun xs H Q => ∃ x c cv t b, xs = [x, c] /\ Z1f c = some cv /\ TyE X.K H x t /\ kitOne X.K t cv = some b /\ Q (.bl b) H) := by
 intro pins s σ H xs us Q I r h
 obtain ⟨x, c, cv, t, b, rfl, hc, ty, e, q⟩ := h
 obtain ⟨u, v, rfl, ru, rv⟩ := Vals.two r
 have : v = cv := by
   cases c <;> simp only [Z1f] at hc <;> first | (cases hc; exact rv) | cases hc
 subst this
 exact G7y I ru ty e fun tk => ⟨.bl b, H, I.tok tk, rfl, q⟩
mutual
inductive RdD (K : Frag) (H : Hp) : V -> PyData -> Prop where
 | non : RdD K H .non .none
 | bl (b : Bool) : RdD K H (.bl b) (.bool b)
 | int (i : Int) : RdD K H (.int i) (.int i)
 | str (x : Str) : RdD K H (.str x) (.str x)
 | tup {a : Addr} {xs : List V} {ds : List PyData} (h : SqT K H a xs) (r : RdDs K H xs ds) : RdD K H (.ref a) (.tuple ds)
 | lst {a : Addr} {xs : List V} {ds : List PyData} (h : SqL K H a xs) (r : RdDs K H xs ds) : RdD K H (.ref a) (.list ds)
inductive RdDs (K : Frag) (H : Hp) : List V -> List PyData -> Prop where
 | nil : RdDs K H [] []
 | cons {x : V} {xs : List V} {d : PyData} {ds : List PyData} (h : RdD K H x d) (r : RdDs K H xs ds) : RdDs K H (x :: xs) (d :: ds)
end
mutual
theorem RdD.reads {pins : List (Addr × Obj)} {σ : St} {H : Hp} {s : Shared} (I : Inv X pins σ H s) : ∀ {x : V} {d : PyData} {u : Value}, RdD X.K H x d -> RelV x u -> ∃ as, Reads s.heap u d as
 | _, _, _, .non, r => by cases r; exact ⟨_, .none⟩
 | _, _, _, .bl b, r => by cases r; exact ⟨_, .bool b⟩
 | _, _, _, .int i, r => by obtain ⟨t, rfl⟩ := r; exact ⟨_, .int i t⟩
 | _, _, _, .str x, r => by obtain ⟨t, rfl⟩ := r; exact ⟨_, .str x t⟩
 | _, _, _, .tup h q, r => by
   cases r
   obtain ⟨its, rv, ⟨o, e, c, n, d⟩, _⟩ := I.tuple h
   obtain ⟨as, z⟩ := RdDs.reads I q rv
   exact ⟨_, reads_tuple_at e c d (by simpa using z)⟩
 | _, _, _, .lst h q, r => by
   cases r
   obtain ⟨its, rv, p, _⟩ := I.list h
   obtain ⟨o, e, c, n, d⟩ := p.isList
   obtain ⟨as, z⟩ := RdDs.reads I q rv
   exact ⟨_, reads_list_at e c d (by simpa using z)⟩
theorem RdDs.reads {pins : List (Addr × Obj)} {σ : St} {H : Hp} {s : Shared} (I : Inv X pins σ H s) : ∀ {xs : List V} {ds : List PyData} {us : List Value}, RdDs X.K H xs ds -> Vals xs us -> ∃ as, ReadsAll s.heap us ds as
 | _, _, _, .nil, r => by cases r; exact ⟨_, .nil⟩
 | _, _, _, .cons h q, r => by
   cases r with
   | cons r1 r2 =>
     obtain ⟨as, z⟩ := RdD.reads I h r1
     obtain ⟨bs, y⟩ := RdDs.reads I q r2
     exact ⟨_, .cons z y⟩
end
def Z8x (K : Frag) (n : Bool) : R2 := fun x y H Q => ∃ d e, RdD K H x d /\ RdD K H y e /\ SeqAt.shaped d = true /\ SeqAt.shaped e = true /\ Q (.bl (if n then !PyData.eqv d e else PyData.eqv d e)) H
theorem G6f (hu : X.A.units + 64 < cLine) : OpR X (compareOp .Eq) (Z8x X.K false) := by
 intro pins s σ H x y v u Q I rx ry q
 obtain ⟨d, e, hx, hy, sd, se, q⟩ := q
 obtain ⟨as, z⟩ := hx.reads I rx
 obtain ⟨bs, z'⟩ := hy.reads I ry
 exact eq_dataH z z' sd se hu ⟨.bl (PyData.eqv d e), H, I, rfl, q⟩
theorem V0a (hc : X.A.handled = none) : A7n X (.builtin "any") (fun xs H Q => ∃ (l : Addr) (bs : List Bool), xs = [.ref l] /\ SqL X.K H l (bs.map V.bl) /\ Q (.bl (bs.any id)) H) := by
 intro pins s σ H xs us Q I r h
 obtain ⟨l, bs, rfl, hl, q⟩ := h
 obtain ⟨u, rfl, ru⟩ := Vals.one r
 cases ru
 obtain ⟨its, rv, p, hz⟩ := I.list hl
 obtain ⟨o, e, _⟩ := id p.isList
 have hlt : l < s.heap.objs.size := Heap.lt_size e
 have hlen : its.length = bs.length := by rw [<- rv.length, List.length_map]
 refine call_any_walk (wpAny_pyIter_list p.isList ?_)
 refine ⟨s.heap.objs.size, [s.heap.objs.size, l], [s.heap.objs.size], its.toArray.size, _, _, fun i => (bs[i]?).getD false, rfl, Walks.list (A := X.A.in1) hc _ l (Nat.ne_of_lt hlt) its.toArray, ⟨⟨_, Heap.get?_push_size _ rfl, rfl, rfl⟩, p.isList.push _⟩, fun i v s' Q' E' hP hQ => ?_, fun h' tk hk => ?_⟩
 . have hP : its[i]? = some v := by simpa using hP
   have hi : i < bs.length := by rw [<- hlen]; exact (List.getElem?_eq_some_iff.mp hP).1
   obtain ⟨u', hu', ru'⟩ := rv.get (i := i) (x := V.bl bs[i]) (by simp [hi])
   rw [hP] at hu'
   cases hu'
   cases ru'
   have z : (bs[i]?).getD false = bs[i] := by simp [hi]
   dsimp only at hQ
   rw [z] at hQ
   exact wpAny_truthy_bool hQ
 . have z : ((List.range its.toArray.size).any fun i => (bs[i]?).getD false) = bs.any id := by
     rw [List.size_toArray, hlen]
     exact LSm.range_any bs
   rw [z]
   exact ⟨.bl (bs.any id), H, I.kept fun b x e => hk b x (fun hm => by rw [List.mem_singleton.mp hm] at e; exact Nat.lt_irrefl _ (Heap.lt_size e)) (Heap.get?_push_of_some _ e), rfl, q⟩
inductive FPart (X : Cx) : Expr -> TE -> Prop where
 | lit {x : Str} {j : Nat} {pos : Pos} : FPart X (.Constant (.str x) j pos) (tC (.str x))
 | int {v : Expr} {tv : TE} {pos : Pos} (h : PE X v tv) : FPart X (.FormattedValue v (-1) none pos) (fun σ H Q => tv σ H fun y H1 => ∃ i, y = .int i /\ i.natAbs.log2 < 1920 /\ Q (.str (toString i)) H1)
theorem FPart.pe {e : Expr} {t : TE} (h : FPart X e t) : PE X e t := by
 cases h with
 | lit => exact C6
 | int h =>
   intro pins s σ H Q I q
   refine FormattedValue_plain (thn (h pins s σ H _ I q) fun u s1 ⟨y, H1, I1, r, i, e, l, q⟩ => ?_)
   subst e
   obtain ⟨t, rfl⟩ := r
   exact formatField_int_small l ⟨.str (toString i), H1, I1.tok _, ⟨_, rfl⟩, q⟩
inductive FParts (X : Cx) : List Expr -> (Str -> TE) -> Prop where
 | nil : FParts X [] (fun out _ H Q => out.length <= sizeLine /\ Q (.str out) H)
 | cons {e : Expr} {es : List Expr} {t : TE} {r : Str -> TE} (h : FPart X e t) (hr : FParts X es r) : FParts X (e :: es) (fun out σ H Q => t σ H fun x H1 => ∃ y, x = .str y /\ (out ++ y).length <= sizeLine /\ r (out ++ y) σ H1 Q)
theorem FParts.run {es : List Expr} {t : Str -> TE} (h : FParts X es t) : ∀ (out : Str) (pins : List (Addr × Obj)) (s : Shared) (σ : St) (H : Hp) (Q : VK), Inv X pins σ H s -> t out σ H Q ->
   wpAny (model X.prog X.w) X.A (joinParts out (evalEach es X.env)) (EP X pins σ Q) X.xe s := by
 induction h with
 | nil =>
   intro out pins s σ H Q I q
   exact joinParts_nil ⟨.str out, H, I.tok _, ⟨_, rfl⟩, q.2⟩ q.1
 | @cons e es t r h hr ih =>
   intro out pins s σ H Q I q
   show wpAny _ _ (joinParts out (eval e X.env :: evalEach es X.env)) _ _ _
   refine joinParts_cons (thn (h.pe pins s σ H _ I q) fun u s1 ⟨x, H1, I1, rx, y, ey, z, q⟩ => ?_)
   subst ey
   obtain ⟨t', rfl⟩ := rx
   exact ⟨z, ih _ pins s1 σ H1 Q I1 q⟩
theorem J7q {e1 e2 : Expr} {es : List Expr} {t : Str -> TE} {pos : Pos} (h : FParts X (e1 :: e2 :: es) t) : PE X (.JoinedStr (e1 :: e2 :: es) pos) (t Str.empty) := by
 intro pins s σ H Q I q
 exact JoinedStr_many (h.run _ pins s σ H Q I q)
end
section
variable {P : Program} {w : World} {K : Frag} {mg : Str -> Option Value} {base : Heap}
end
section
variable {X : Cx} {k : Nat} {f : Addr} {fd : FuncData} {ps : List Str} {sp : Sp} {x : Str} {p pos : Pos} {e : Expr} {es : List Expr} {t : TA}
end
abbrev EKF : EK := fun _ _ _ _ => False
theorem V0 {X : Cx} : G2 X EKF := fun _ _ _ _ _ _ _ _ _ _ h => h.elim
structure Def (K : Frag) (mg : Str -> Option Value) (x : Str) (ps : List Str) (st : Stmt) (f : Addr) (fd : FuncData) : Prop where
 F : Fun K x x st f fd
 g : mg x = some (.ref f)
 b : Binds K fd ps []
theorem D4 {K : Frag} {h : Heap} {mg : Str -> Option Value} {x : Str} {ps : List Str} {st : Stmt} {f : Addr} {oc : Value} {od an : Option Addr} {osl : Array (Option Value)} {kV doc pm cdv ct : Value} (X : K.In h) (G : h.Ns mainGlobals mg)
   (a : nsIn K mainGlobals x = some (some (.ref f))) (l : K.lookup f = some ⟨oc, od, .func (fnOf x x (A8 st) (A7 st) (A1 st) .none kV doc pm an cdv ct), osl⟩) (c : codeIn K cdv x = true) (k : keepIn K (.ref f) = true)
   (hb : ∀ (kV doc pm : Value) (an : Option Addr) (cdv ct : Value) (us : List Value), us.length = ps.length -> bindArgs (fnOf x x (A8 st) (A7 st) (A1 st) .none kV doc pm an cdv ct) ⟨us, []⟩ = pure (ps.zip us)) :
   Def K mg x ps st f (fnOf x x (A8 st) (A7 st) (A1 st) .none kV doc pm an cdv ct) :=
 ⟨G3 (st := st) l c k, mg_of X G a, (G3 (st := st) l c k).binds hb⟩
theorem G3d {c A B : Prop} [Decidable c] (h : ¬ c) (b : B) : if decide c = true then A else B := by rw [decide_eq_false h]; exact U4 b
theorem G2v {c A B : Prop} [Decidable c] (h : c) (a : A) : if decide c = true then A else B := by rw [decide_eq_true h]; exact Y5 a
theorem G8 {c A B : Prop} [Decidable c] (a : c -> A) (b : ¬ c -> B) : if decide c = true then A else B := by
 by_cases h : c
 . exact G2v h (a h)
 . exact G3d h (b h)
def Z6c (t : TS) : TS := fun D σ H => ∃ J : St -> Hp -> Prop, t { D with nx := J } σ H /\ ∀ σ' H', J σ' H' -> D.nx σ' H'
theorem B7 {X : Cx} {st : Stmt} {t : TS} (h : PS X st t) : PS X st (Z6c t) := by
 intro pins s σ H D I q
 obtain ⟨J, q, k⟩ := q
 refine thn (h pins s σ H _ I q) fun f s' z => ?_
 cases f with
 | next => obtain ⟨σ', H', I', y⟩ := z; exact ⟨σ', H', I', k _ _ y⟩
 | brk => exact z
 | cont => exact z
 | ret u => exact z
theorem Same.upd {H : Hp} {p : Addr} {o : HO} (h : H p = none) : Same H (L2.upd H p o) := fun b u e => by rw [C8 (D0 e h)]; exact e
theorem D6 {n : Nat} (h : n <= 1000) : n <= sizeLine := Nat.le_of_lt (A0d h)
section
variable {X : Cx} {k j : Nat} {f : Addr} {fd : FuncData} {ps : List Str} {sp : Sp} {EH : EK} {x : Str} {st : Stmt} {p pos : Pos} {e : Expr} {es : List Expr} {t : TA}
theorem B5 (D : Def X.K X.mg x ps st f fd) (F : FnOk X.prog X.w X.K X.mg X.base (CX1 X.prog X.w) j f fd ps sp) (hr : Room k X.A) (hx : G2 X EH) (ha : PA X (e :: es) t) (hj : j <= k := by decide) (hg : Gl X x := by rfl) (hex : X.ex = [] := by rfl) (hdb : (x == ("__debug__" : Str)) = false := by decide)
   (he : starEach (e :: es) X.env = (false, eval e X.env) :: starEach es X.env := by rfl) (hpl : (backTo pos (starEach es X.env)).any (·.1) = false := by rfl) : PE X (.Call (.Name x p) (e :: es) [] pos) (C1t sp [] EH t) :=
 U8n (F.mono hj) hr hg D.g D.F.kp D.b .nil hx ha hex hdb he hpl
theorem Y9r (D : Def X.K X.mg x ps st f fd) (F : FnOk X.prog X.w X.K X.mg X.base (CX1 X.prog X.w) j f fd ps sp) (hr : Room k X.A) (hx : G2 X EH) (hj : j <= k := by decide) (hg : Gl X x := by rfl) (hex : X.ex = [] := by rfl) (hdb : (x == ("__debug__" : Str)) = false := by decide) :
   PE X (.Call (.Name x p) [] [] pos) (C1t sp [] EH V0e) :=
 J9z (F.mono hj) hr hg D.g D.F.kp D.b .nil hx hex hdb
theorem pty {n : Str} {T : String} (hm : X.mg n = none) (hv : bootBuiltins n = some (.type T)) (hg : Gl X n := by rfl) (hn : n ≠ "__name__" := by decide) (hdb : (n == ("__debug__" : Str)) = false := by decide) : PE X (.Name n pos) (tC (.ty T)) := Y5y hg hm hv rfl hn hdb
theorem Z1b {n : Str} {C : Addr} (hm : X.mg n = some (.ref C)) (hg : Gl X n := by rfl) (hdb : (n == ("__debug__" : Str)) = false := by decide) : PE X (.Name n pos) (tC (.ref C)) := Y5f hg hm rfl hdb
theorem U0c {a b : Expr} {ta tb : TE} (hm : X.mg "isinstance" = none) (ha : PE X a ta) (hb : PE X b tb) (hg : Gl X "isinstance" := by rfl)
   (h1 : starEach [a, b] X.env = (false, eval a X.env) :: starEach [b] X.env := by rfl) (h2 : starEach [b] X.env = (false, eval b X.env) :: starEach [] X.env := by rfl) (h3 : (backTo pos (starEach [b] X.env)).any (·.1) = false := by rfl) :
   PE X (.Call (.Name "isinstance" p) [a, b] [] pos) (tCB (fun xs H Q => ∃ x c cv t b, xs = [x, c] /\ Z1f c = some cv /\ TyE X.K H x t /\ kitOne X.K t cv = some b /\ Q (.bl b) H) (U9z ta (U9z tb V0e))) :=
 U7 G3a hg hm boot_isinstance (A0 ha (A0 hb A3 h2) h1) (he := h1) (hpl := h3)
end
section
variable {X : Cx} {k j : Nat} {f : Addr} {fd : FuncData} {ps : List Str} {sp : Sp} {x : Str} {st : Stmt} {p pos : Pos} {e : Expr} {es : List Expr} {t : TA}
end
structure Mk0 (K : Frag) (C : Addr) : Prop where
 makes : makesIn K C = true
 init : findIn K (.ref C) "__init__" = some (some (.builtin "object.__init__"))
 kp : keepIn K (.ref C) = true
section
variable {X : Cx} {k j : Nat} {f C : Addr} {fd : FuncData} {ps : List Str} {sp : Sp} {dvs : List V} {ds : List Value} {EH : EK} {x m : Str} {p pos apos : Pos} {e o : Expr} {es : List Expr} {ta : TE} {t : TA}
def Z1m (C : Addr) : TE := fun _ H Q => ∀ x dx, H x = none -> H dx = none -> dx ≠ x -> Q (.ref x) (upd (upd H dx (.own x)) x (.ins C dx []))
theorem Y5p {pins : List (Addr × Obj)} {σ : St} {H : Hp} {s : Shared} {Q : VK} (M : Mk0 X.K C) (I : Inv X pins σ H s) (h : Z1m C σ H Q) : wpAny (model X.prog X.w) X.A (call (.ref C) []) (EP X pins σ Q) X.xe s := by
 have hq := h (s.heap.objs.size + 1) s.heap.objs.size (I.hok.fresh (Nat.le_succ _)) (I.hok.fresh (Nat.le_refl _)) (Nat.ne_of_lt (Nat.lt_succ_self _))
 have I2 := Inv.made (C := C) I
 have Y := makes_of (M := model X.prog X.w) I.kIn M.makes
 refine wpAny_call (U1t I.kIn M.makes M.init (fun self => Looks.of_pure (oi_bind self)) ?_)
 have e2 : ((s.heap.push emptyDict).push (instObj C s.heap.objs.size)).get? (s.heap.objs.size + 1) = some (instObj C s.heap.objs.size) := by
   have := Heap.get?_push_size (s.heap.push emptyDict) (o := instObj C s.heap.objs.size) rfl
   rwa [Heap.size_push] at this
 have t1 : Looks (model X.prog X.w) ((s.heap.push emptyDict).push (instObj C s.heap.objs.size)) (typeOf (.ref (s.heap.objs.size + 1))) (.ref C) := (Looks.ld e2).andThen .now
 have t2 : Looks (model X.prog X.w) ((s.heap.push emptyDict).push (instObj C s.heap.objs.size)) (isInstance (.ref (s.heap.objs.size + 1)) (.type "object")) true := t1.andThen (Y.top.keeps fun b o e => Heap.get?_push_of_some _ (Heap.get?_push_of_some _ e))
 refine codeAny_call_builtin oi_plain entry_oi (@check_slot (model X.prog X.w) _ _ _ "object.__init__" "object" "__init__" (.ref (s.heap.objs.size + 1)) [] [] _ oi_kind oi_split t2 (oi_args (.ref (s.heap.objs.size + 1))) ?_)
 rw [oi_run]
 exact wpAny_pure (And.intro rfl ⟨V.ref (s.heap.objs.size + 1), _, I2, rfl, hq⟩)
theorem A7w (M : Mk0 X.K C) (hg : Gl X x) (hm : X.mg x = some (.ref C)) (hdb : (x == ("__debug__" : Str)) = false := by decide) : PE X (.Call (.Name x p) [] [] pos) (Z1m C) := by
 intro pins s σ H Q I h
 refine wpAny_Call_Name_kw (A1p I hg hm ?_ hdb)
 exact callWith_K0 I.kIn M.kp (Y5p M I h)
def U8b (C : Addr) (m : Str) (sp : Sp) (dvs : List V) (EH : EK) (ta : TE) (t : TA) : TE := fun σ H Q => ta σ H fun x H1 => ∃ a dx fs, x = .ref a /\ H1 a = some (.ins C dx fs) /\ fs.lookup m = none /\
 t σ H1 fun vs H2 => sp (x :: (vs ++ dvs)) H2 Q (fun C d H' => EH C d σ H')
theorem C0d {pl : Sem Bool} (he : PE X o ta) (c : Cls X.K C) (hm : Meth X.K C m f) (F : FnOk X.prog X.w X.K X.mg X.base (CX1 X.prog X.w) j f fd ps sp) (hr : Room k X.A) (hb : Binds X.K fd ps ds) (hd : Vals dvs ds) (hx : G2 X EH) (ha : PA X (e :: es) t)
   (hj : j <= k := by decide) (hex : X.ex = [] := by rfl)
   (hst : starEach (e :: es) X.env = (false, eval e X.env) :: starEach es X.env := by rfl) (hpl : (backTo pos (starEach es X.env)).any (·.1) = false := by rfl)
   (ht : eval (.Call (.Attribute o m apos) (e :: es) [] pos) X.env = (do
     let ov <- eval o X.env
     standAt apos.atName
     let (f, first) <- holding [ov] (getMethod ov m pl)
     callWith pos f first (backTo pos (starEach (e :: es) X.env)) (backToKw pos (keywordEach [] X.env))) := by rfl) :
   PE X (.Call (.Attribute o m apos) (e :: es) [] pos) (U8b C m sp dvs EH ta t) := by
 intro pins s σ H Q I h
 refine methodCall_KW (pl := pl) (thn (he pins s σ H _ I h) fun u s1 ⟨x, H1, I1, rx, a, dx, fs, ex, ea, l, q⟩ => ?_) ht
 subst ex
 obtain rfl : u = Value.ref a := rx
 refine C2j I1 ea c hm l ?_
 refine callWith_K (first := [.ref a]) (h₀ := X.base) I.ok.mod.kin hm.kp (thn (ha pos pins s1 σ H1 _ I1 q) fun us s2 ⟨vs, H2, I2, r, q2⟩ => ⟨I2.kIn, ?_⟩) hst hpl
 exact C0x (us := .ref a :: us) (vs := .ref a :: vs) (F.mono hj) hr hb hd hx hex I2 (.cons rfl r) q2
theorem A1h {pl : Sem Bool} (he : PE X o ta) (c : Cls X.K C) (hm : Meth X.K C m f) (F : FnOk X.prog X.w X.K X.mg X.base (CX1 X.prog X.w) j f fd ps sp) (hr : Room k X.A) (hb : Binds X.K fd ps ds) (hd : Vals dvs ds) (hx : G2 X EH)
   (hj : j <= k := by decide) (hex : X.ex = [] := by rfl)
   (ht : eval (.Call (.Attribute o m apos) [] [] pos) X.env = (do
     let ov <- eval o X.env
     standAt apos.atName
     let (f, first) <- holding [ov] (getMethod ov m pl)
     callWith pos f first (backTo pos (starEach [] X.env)) (backToKw pos (keywordEach [] X.env))) := by rfl) :
   PE X (.Call (.Attribute o m apos) [] [] pos) (U8b C m sp dvs EH ta V0e) := by
 intro pins s σ H Q I h
 refine methodCall_KW (pl := pl) (thn (he pins s σ H _ I h) fun u s1 ⟨x, H1, I1, rx, a, dx, fs, ex, ea, l, q⟩ => ?_) ht
 subst ex
 obtain rfl : u = Value.ref a := rx
 refine C2j I1 ea c hm l ?_
 exact callWith_K0 (first := [.ref a]) I1.kIn hm.kp (C0x (us := [.ref a]) (vs := [.ref a]) (F.mono hj) hr hb hd hx hex I1 (.cons rfl .nil) q)
def Z0x (C : Addr) (sp : Sp) (dvs : List V) (EH : EK) (t : TA) : TE := fun σ H Q => t σ H fun vs H1 => ∀ x dx, H1 x = none -> H1 dx = none -> dx ≠ x ->
 sp (.ref x :: (vs ++ dvs)) (upd (upd H1 dx (.own x)) x (.ins C dx [])) (fun v H2 => v = .non /\ Q (.ref x) H2) (fun C d H' => EH C d σ H')
theorem U0n {pins : List (Addr × Obj)} {σ : St} {H : Hp} {s : Shared} {Q : VK} {us : List Value} {vs : List V} (M : Mk X.K C f) (F : FnOk X.prog X.w X.K X.mg X.base (CX1 X.prog X.w) k f fd ps sp) (hr : Room (k + 1) X.A) (hb : Binds X.K fd ps ds) (hd : Vals dvs ds)
   (hx : G2 X EH) (hex : X.ex = []) (I : Inv X pins σ H s) (r : Vals vs us)
   (h : ∀ x dx, H x = none -> H dx = none -> dx ≠ x -> sp (.ref x :: (vs ++ dvs)) (upd (upd H dx (.own x)) x (.ins C dx [])) (fun v H2 => v = .non /\ Q (.ref x) H2) (fun C d H' => EH C d σ H')) :
   wpAny (model X.prog X.w) X.A (call (.ref C) us) (EP X pins σ Q) X.xe s := by
 have hq := h (s.heap.objs.size + 1) s.heap.objs.size (I.hok.fresh (Nat.le_succ _)) (I.hok.fresh (Nat.le_refl _)) (Nat.ne_of_lt (Nat.lt_succ_self _))
 have I2 := Inv.made (C := C) I
 have r2 : Vals (V.ref (s.heap.objs.size + 1) :: (vs ++ dvs)) (Value.ref (s.heap.objs.size + 1) :: (us ++ ds)) := .cons rfl (r.append hd)
 have hl : (Value.ref (s.heap.objs.size + 1) :: us ++ ds).length = ps.length := by
   have e := r2.length
   rw [F.len _ _ _ _ hq] at e
   exact e.symm
 refine wpAny_call (G1x (f := f) I.kIn M.makes M.init (beq_iff_eq.mp M.fn) (codeAny_mono (F.run _ X.stack _ _ ⟨Value.ref (s.heap.objs.size + 1) :: us, []⟩ (Value.ref (s.heap.objs.size + 1) :: (us ++ ds)) _ _ _ (hr.make C us [])
   (I2.env0.make C us []) (hb _ (Value.ref (s.heap.objs.size + 1) :: us) I2.kIn hl) r2 hq) fun r s' hq' => ?_))
 cases r with
 | error e => exact Z5p hx hex I2 hq'
 | ok fl =>
   cases fl with
   | ret u =>
     obtain ⟨v, H', I3, rv, ev, q3⟩ := I2.after hq'
     subst ev
     exact ⟨rv, ⟨V.ref (s.heap.objs.size + 1), H', I3, rfl, q3⟩⟩
   | next => exact False.elim hq'
   | brk => exact False.elim hq'
   | cont => exact False.elim hq'
theorem A7q (M : Mk X.K C f) (F : FnOk X.prog X.w X.K X.mg X.base (CX1 X.prog X.w) j f fd ps sp) (hr : Room k X.A) (hm : X.mg x = some (.ref C)) (hb : Binds X.K fd ps ds) (hd : Vals dvs ds) (hx : G2 X EH)
   (ha : PA X (e :: es) t) (hj : j + 1 <= k := by decide) (hg : Gl X x := by rfl) (hex : X.ex = [] := by rfl) (hdb : (x == ("__debug__" : Str)) = false := by decide) (he : starEach (e :: es) X.env = (false, eval e X.env) :: starEach es X.env := by rfl) (hpl : (backTo pos (starEach es X.env)).any (·.1) = false := by rfl) :
   PE X (.Call (.Name x p) (e :: es) [] pos) (Z0x C sp dvs EH t) := by
 intro pins s σ H Q I h
 refine wpAny_Call_Name_kw (A1p I hg hm ?_ hdb)
 refine callWith_K (h₀ := X.base) I.ok.mod.kin M.kp (thn (ha pos pins s σ H _ I h) fun us s1 ⟨vs, H1, I1, r, q⟩ => ⟨I1.kIn, ?_⟩) he hpl
 exact U0n M F (hr.mono hj) hb hd hx hex I1 r q
end
section
variable {X : Cx}
end
structure FunD (K : Frag) (x qual : Str) (st : Stmt) (dV : Value) (f : Addr) (fd : FuncData) : Prop where
 ex : ∃ (oc : Value) (od : Option Addr) (kV doc pm : Value) (an : Option Addr) (cdv ct : Value) (osl : Array (Option Value)),
   fd = fnOf x qual (A8 st) (A7 st) (A1 st) dV kV doc pm an cdv ct /\ K.lookup f = some ⟨oc, od, .func fd, osl⟩ /\ codeIn K cdv qual = true
 kp : keepIn K (.ref f) = true
section
variable {P : Program} {w : World} {K : Frag} {mg : Str -> Option Value} {base : Heap}
theorem FunD.okE {x qual : Str} {st : Stmt} {dV : Value} {f : Addr} {fd : FuncData} {N ps : List Str} {k : Nat} {sp : Sp} (F : FunD K x qual st dV f fd) (S : FnScope N ps (A1 st)) (len : ∀ vs H Q E, sp vs H Q E -> vs.length = ps.length)
   (hbody : ∀ (X : Cx) (cdv : Value) (A : Around) (outer : List Env) (s : Shared) (H : Hp) (vs : List V) (Q : VK) (E : XK), X = A1j (CX1 P w) P w K mg base N qual (A1 st) f cdv A outer s H E -> Room k X.A -> G2 X (fun C dd _ H' => E C dd H') -> sp vs H Q E ->
     ∃ t, PSs (A1j (CX1 P w) P w K mg base N qual (A1 st) f cdv A outer s H E) (A7 st) t /\ t { nx := fun _ H' => Q .non H', rt := Q } (B2b N vs) H) : FnOk P w K mg base (CX1 P w) (k + 1) f fd ps sp := by
 obtain ⟨oc, od, kV, doc, pm, an, cdv, ct, osl, rfl, lk, hc⟩ := F.ex
 exact U9g lk hc S len fun A outer s H vs Q E hr h => hbody _ cdv A outer s H vs Q E rfl hr C1x h
theorem J7v {x qual : Str} {st : Stmt} {dV : Value} {f : Addr} {oc : Value} {od an : Option Addr} {osl : Array (Option Value)} {kV doc pm cdv ct : Value} (l : K.lookup f = some ⟨oc, od, .func (fnOf x qual (A8 st) (A7 st) (A1 st) dV kV doc pm an cdv ct), osl⟩)
   (c : codeIn K cdv qual = true) (k : keepIn K (.ref f) = true) : FunD K x qual st dV f (fnOf x qual (A8 st) (A7 st) (A1 st) dV kV doc pm an cdv ct) := ⟨⟨oc, od, kV, doc, pm, an, cdv, ct, osl, rfl, l, c⟩, k⟩
theorem G7m {fd : FuncData} {ps : List Str} {ds : List Value} {T : Addr} {o : Obj} {items : Array Value} {n : Nat} (hd : fd.defaults = .ref T) (ho : K.lookup T = some o) (hs : o.data = .seq items n)
   (h : ∀ us : List Value, (us ++ ds).length = ps.length -> ∃ k, bindArgs fd ⟨us, []⟩ = seqItems? fd.defaults >>= k /\ k (some items) = pure (ps.zip (us ++ ds))) : Binds K fd ps ds := fun s us X hl => by
 obtain ⟨k, h1, h2⟩ := h us hl
 exact binds_K X hd ho hs h1 h2
end
section
variable {X : Cx} {k j : Nat} {f C : Addr} {fd : FuncData} {ps ks : List Str} {sp : Sp} {EH : EK} {x m : Str} {p pos apos : Pos} {e o : Expr} {es : List Expr} {kws : List Keyword} {ta : TE} {t tk : TA} {g : List Value -> List Value -> List Value} {gV : List V -> List V -> List V}
end
section
variable {X : Cx} {K : Frag} {e : Expr} {f : Str} {pos : Pos} {ta : TE}
theorem B1f (h : X.K = K) : IxR X (Z4d K) := by subst h; exact U9
theorem Y5b (h : X.K = K) (he : PE X e ta) (hb : attributeBase e f X.env (eval e X.env) = eval e X.env) : PE X (.Attribute e f pos) (Z6v K ta f) := by subst h; exact C7 he hb
theorem G6m (h : X.K = K) : OpR X (compareOp .In) (rIn K false) := by subst h; exact B5u
end
end L2
namespace TR
open PySem L2 PySem.W PyProof.Rows
structure Own (mg : Str -> Option Value) : Prop where
 isi : mg "isinstance" = none
 int_ : mg "int" = none
 bool_ : mg "bool" = none
 str_ : mg "str" = none
 list_ : mg "list" = none
 tuple_ : mg "tuple" = none
 dict_ : mg "dict" = none
 len_ : mg "len" = none
 range_ : mg "range" = none
 min_ : mg "min" = none
 max_ : mg "max" = none
 abs_ : mg "abs" = none
 any_ : mg "any" = none
 all_ : mg "all" = none
 sum_ : mg "sum" = none
 repr_ : mg "repr" = none
 enumerate_ : mg "enumerate" = none
 reversed_ : mg "reversed" = none
 zip_ : mg "zip" = none
 sorted_ : mg "sorted" = none
 divmod_ : mg "divmod" = none
 set_ : mg "set" = none
 ValueError_ : mg "ValueError" = none
structure Kit (K : Frag) : Prop where
 int_int : kitOne K (.type "int") (.type "int") = some true
 int_bool : kitOne K (.type "int") (.type "bool") = some false
 int_str : kitOne K (.type "int") (.type "str") = some false
 int_list : kitOne K (.type "int") (.type "list") = some false
 int_tuple : kitOne K (.type "int") (.type "tuple") = some false
 int_dict : kitOne K (.type "int") (.type "dict") = some false
 bool_int : kitOne K (.type "bool") (.type "int") = some true
 bool_bool : kitOne K (.type "bool") (.type "bool") = some true
 bool_str : kitOne K (.type "bool") (.type "str") = some false
 bool_list : kitOne K (.type "bool") (.type "list") = some false
 bool_tuple : kitOne K (.type "bool") (.type "tuple") = some false
 bool_dict : kitOne K (.type "bool") (.type "dict") = some false
 str_int : kitOne K (.type "str") (.type "int") = some false
 str_bool : kitOne K (.type "str") (.type "bool") = some false
 str_str : kitOne K (.type "str") (.type "str") = some true
 str_list : kitOne K (.type "str") (.type "list") = some false
 str_tuple : kitOne K (.type "str") (.type "tuple") = some false
 str_dict : kitOne K (.type "str") (.type "dict") = some false
 list_int : kitOne K (.type "list") (.type "int") = some false
 list_bool : kitOne K (.type "list") (.type "bool") = some false
 list_str : kitOne K (.type "list") (.type "str") = some false
 list_list : kitOne K (.type "list") (.type "list") = some true
 list_tuple : kitOne K (.type "list") (.type "tuple") = some false
 list_dict : kitOne K (.type "list") (.type "dict") = some false
 tuple_int : kitOne K (.type "tuple") (.type "int") = some false
 tuple_bool : kitOne K (.type "tuple") (.type "bool") = some false
 tuple_str : kitOne K (.type "tuple") (.type "str") = some false
 tuple_list : kitOne K (.type "tuple") (.type "list") = some false
 tuple_tuple : kitOne K (.type "tuple") (.type "tuple") = some true
 tuple_dict : kitOne K (.type "tuple") (.type "dict") = some false
 dict_int : kitOne K (.type "dict") (.type "int") = some false
 dict_bool : kitOne K (.type "dict") (.type "bool") = some false
 dict_str : kitOne K (.type "dict") (.type "str") = some false
 dict_list : kitOne K (.type "dict") (.type "list") = some false
 dict_tuple : kitOne K (.type "dict") (.type "tuple") = some false
 dict_dict : kitOne K (.type "dict") (.type "dict") = some true
 NoneType_int : kitOne K (.type "NoneType") (.type "int") = some false
 NoneType_bool : kitOne K (.type "NoneType") (.type "bool") = some false
 NoneType_str : kitOne K (.type "NoneType") (.type "str") = some false
 NoneType_list : kitOne K (.type "NoneType") (.type "list") = some false
 NoneType_tuple : kitOne K (.type "NoneType") (.type "tuple") = some false
 NoneType_dict : kitOne K (.type "NoneType") (.type "dict") = some false
theorem scK {N P : List Str} {sc : Scope} (a : sc.kind = .function := by rfl) (b : sc.isCoroutine = false := by rfl) (c : sc.isGenerator = false := by rfl) (d : N.Nodup := by decide +kernel) (e : N.take P.length = P := by rfl) (f : ∀ x ∈ P, sc.names.lookup x = some .local \/ sc.names.lookup x = some .cell := by decide +kernel) (g : ∀ y ∈ sc.names, y.2 ≠ .free := by decide +kernel) : FnScope N P sc := ⟨a, b, c, d, e, f, g⟩
theorem Y9f {K : Frag} {H : Hp} (i : Int) : TyE K H (.int i) (.type "int") := .of (.int i)
theorem U6p {K : Frag} {H : Hp} (z : Str) : TyE K H (.str z) (.type "str") := .of (.str z)
theorem Y9g {K : Frag} {H : Hp} {a : Addr} {xs : List V} (h : H a = some (.lst xs)) : TyE K H (.ref a) (.type "list") := .of (.lst h)
theorem TyOf.same {K : Frag} {H H' : Hp} {x : V} {t : Value} (h : TyOf K H x t) (e : Same H H') : TyOf K H' x t := by
 cases h with
 | non => exact .non
 | bl x => exact .bl x
 | int i => exact .int i
 | str x => exact .str x
 | flt x => exact .flt x
 | lst z => exact .lst (e _ _ z)
 | frz z => exact .frz (e _ _ z)
 | tup z => exact .tup (e _ _ z)
 | dK z => exact .dK (e _ _ z)
 | dT z => exact .dT (e _ _ z)
 | ins z a b c d f => exact .ins (e _ _ z) a b c d f
theorem TyE.same {K : Frag} {H H' : Hp} {x : V} {t : Value} (h : TyE K H x t) (e : Same H H') : TyE K H' x t := by
 cases h with
 | of h => exact .of (TyOf.same h e)
 | exc z k => exact .exc (e _ _ z) k
 | excD z d k => exact .excD (e _ _ z) (e _ _ d) k
 | tupK l c => exact .tupK l c
def B2c (lo hi : Int) (v : V) : Prop := ∃ i, v = .int i /\ lo <= i /\ i <= hi
def C6s (K : Frag) (H : Hp) (lo hi : Int) (v : V) : Prop := ∃ t b1 b2, TyE K H v t /\ kitOne K t (.type "int") = some b1 /\ kitOne K t (.type "bool") = some b2 /\ ((b1 && !b2) = false \/ ∃ i, v = .int i /\ (i < lo \/ hi < i))
section
variable {K : Frag} {H : Hp} {lo hi : Int}
end
def Exc (p : Addr) (H H' : Hp) : Prop := ∀ b o, H b = some o -> b ≠ p -> H' b = some o
theorem Exc.refl (p : Addr) (H : Hp) : Exc p H H := fun _ _ h _ => h
theorem Exc.trans {p : Addr} {H H1 H2 : Hp} (a : Exc p H H1) (b : Exc p H1 H2) : Exc p H H2 := fun c o h n => b c o (a c o h n) n
theorem Exc.upd {p : Addr} {H : Hp} {o : HO} : Exc p H (L2.upd H p o) := fun b u e n => by rw [C8 n]; exact e
theorem Exc.of {p : Addr} {H H' : Hp} (s : Same H H') : Exc p H H' := fun b o h _ => s b o h
def Has (P : Program) (w : World) (K : Frag) (mg : Str -> Option Value) (base : Heap) (C : Addr) (m : Str) (k : Nat) (ps : List Str) (sp : Sp) : Prop := ∃ f fd, Meth K C m f /\ FnOk P w K mg base (CX1 P w) k f fd ps sp /\ Binds K fd ps []
theorem Z5v : ∀ {us : List Value}, us.length = 3 -> ∃ a b c, us = [a, b, c]
 | [a, b, c], _ => ⟨a, b, c, rfl⟩
theorem len4 : ∀ {us : List Value}, us.length = 4 -> ∃ a b c d, us = [a, b, c, d]
 | [a, b, c, d], _ => ⟨a, b, c, d, rfl⟩
theorem Z9c : ∀ {us : List Value}, us.length = 5 -> ∃ a b c d e, us = [a, b, c, d, e]
 | [a, b, c, d, e], _ => ⟨a, b, c, d, e, rfl⟩
theorem Y5t {us ds : List Value} {n : Nat} (h : (us ++ ds).length = n) : us.length = n - ds.length := by rw [List.length_append] at h; omega
end TR
namespace L2
open PySem PySem.Spec PyProof.Rows
section
variable {κ : Type} [DecidableEq κ]
end
section
variable {P : Program} {w : World} {H : Hp} {h : Heap} {a : Addr}
end
section
variable {X : Cx} {pins : List (Addr × Obj)} {σ : St} {H : Hp} {s : Shared} {a : Addr} {y v : V} {u r : Value} {o : Option V} {A : Around} {E : Value -> Shared -> Prop}
end
section
variable {X : Cx} {pins : List (Addr × Obj)} {σ : St} {H : Hp} {s : Shared} {a : Addr} {kvs : List (Key × V)} {k : Key} {u : Value} {A : Around} {E : Value -> Shared -> Prop}
end
section
variable {X : Cx} {o i e value : Expr} {pos pos' tpos : Pos} {td ty tv : TE}
end
section
variable {X : Cx} {pos : Pos}
end
end L2
namespace L2
open PySem PySem.Spec PyProof.Rows PySem.W
def A4k (F : List Str) (env : Env) : List (Str × Addr) := F.map fun x => (x, (env.cells.lookup x).getD 0)
def B3a (js : List Nat) (σ : St) : St := js.map fun j => (σ[j]?).getD none
abbrev Cx.compF (X : Cx) (scope : Scope) (N F : List Str) (C : Addr) (s₀ : Shared) (H₀ : Hp) (ex : List Addr) (pins : List (Addr × Obj)) : Cx :=
 { X with N := N ++ F, s₀ := s₀, H₀ := H₀, env := compEnvC scope (A4k F X.env) C X.env, outer := X.stack, ex := ex, fn := fun _ => false, pn := pins, xe := fun _ _ => False }
structure CompScopeF (N F : List Str) (js : List Nat) (sc : Scope) (XN : List Str) (env : Env) : Prop where
 kind : sc.kind = .function
 cell : ∀ y ∈ sc.names, y.2 ≠ .cell
 loc : ∀ y ∈ sc.names, y.2 = .local -> sc.names.lookup y.1 = some .local
 nd : (N ++ F).Nodup
 clos : closureFor sc env = pure (A4k F env)
 fr : ∀ y ∈ (relabel sc env).names, y.2 = .cell \/ y.2 = .free -> y.1 ∈ F
 at_ : ∀ (k : Nat) (x : Str), F[k]? = some x -> (∃ j : Nat, js[k]? = some j /\ XN[j]? = some x) /\ (∃ c, env.cells.lookup x = some c) /\ env.kindOf x = some .cell /\ (relabel sc env).names.lookup x = some .cell
 jl : js.length = F.length
def G7d (n : Nat) (js : List Nat) (wi : TI) (g : TG) (tc : TT) (te : TE) : TE := fun σ H Q => wi σ H fun J H1 => ∀ D, H1 D = none ->
 ∃ (m : Nat) (W : Nat -> List V -> Hp -> Prop), W 0 [] (upd H1 D (.lst [])) /\ ∀ i ys H2, W i ys H2 -> i <= m /\ H2 D = some (.lst ys) /\ ((J.stop i H2 /\ Q (.ref D) H2) \/ (i < m /\ J.go i H2 /\ ∀ x H3, J.yld i H2 x H3 ->
   g x (List.replicate n none ++ B3a js σ) H3 fun σ4 H4 => tc σ4 H4 fun b H5 => if b = true then te σ4 H5 fun y H6 => H6 D = some (.lst ys) /\ ys.length < sizeLine /\ W (i + 1) (ys ++ [y]) (upd H6 D (.lst (ys ++ [y]))) else W (i + 1) ys H5))
def D2z (n : Nat) (js : List Nat) (wi : TI) (g : TG) (te : TE) : TE := fun σ H Q => wi σ H fun J H1 => ∀ D, H1 D = none ->
 ∃ (m : Nat) (W : Nat -> List V -> Hp -> Prop), W 0 [] (upd H1 D (.lst [])) /\ ∀ i ys H2, W i ys H2 -> i <= m /\ H2 D = some (.lst ys) /\ ((J.stop i H2 /\ Q (.ref D) H2) \/ (i < m /\ J.go i H2 /\ ∀ x H3, J.yld i H2 x H3 ->
   g x (List.replicate n none ++ B3a js σ) H3 fun σ4 H4 => te σ4 H4 fun y H6 => H6 D = some (.lst ys) /\ ys.length < sizeLine /\ W (i + 1) (ys ++ [y]) (upd H6 D (.lst (ys ++ [y])))))
theorem Z0w {F : List Str} {env : Env} {x : Str} {c : Addr} (h : (A4k F env).lookup x = some c) : x ∈ F /\ c = (env.cells.lookup x).getD 0 := by
 have := PySem.mem_of_lookup h
 obtain ⟨y, hy, e⟩ := List.mem_map.mp this
 cases e
 exact ⟨hy, rfl⟩
theorem U7f {env : Env} {x : Str} : ∀ {F : List Str}, x ∈ F -> (A4k F env).lookup x = some ((env.cells.lookup x).getD 0)
 | y :: F, h => by
   show List.lookup x ((y, (env.cells.lookup y).getD 0) :: A4k F env) = _
   by_cases e : x = y
   . subst e; simp [List.lookup]
   . have hb : (x == y) = false := beq_eq_false_iff_ne.mpr e
     rw [List.lookup_cons, hb]
     exact U7f (by rcases List.mem_cons.mp h with z | z; exact absurd z e; exact z)
section
variable {X : Cx} {N F : List Str} {js : List Nat} {scope : Scope}
theorem CompScopeF.sub (S : CompScopeF N F js scope X.N X.env) : ∀ x c, (A4k F X.env).lookup x = some c -> X.env.cells.lookup x = some c := fun x c z => by
 obtain ⟨hx, rfl⟩ := Z0w z
 obtain ⟨k, hk⟩ := List.mem_iff_getElem?.mp hx
 obtain ⟨_, ⟨c, hc⟩, _⟩ := S.at_ k x hk
 rw [hc]; rfl
theorem CompScopeF.has (S : CompScopeF N F js scope X.N X.env) {x : Str} (hx : x ∈ F) : ∃ c, (A4k F X.env).lookup x = some c /\ X.env.cells.lookup x = some c :=
 ⟨_, U7f hx, S.sub _ _ (U7f hx)⟩
theorem D0g {pins : List (Addr × Obj)} {σ : St} {H : Hp} {s : Shared} (S : CompScopeF N F js scope X.N X.env) (I : Inv X pins σ H s) {h' : Heap} {m : Str -> Option Value} {C : Addr} (hc : ∀ x c v, X.env.cells.lookup x = some c -> s.heap.IsCell c v -> h'.IsCell c v) :
   ∀ (i : Nat) (x : Str) (v : V), (N ++ F)[i]? = some x -> (List.replicate N.length none ++ B3a js σ)[i]? = some (some v) -> ∃ u, RelV v u /\ Z6t (compEnvC scope (A4k F X.env) C X.env) h' m x u := by
 intro i x v e1 e2
 by_cases hi : i < N.length
 . rw [List.getElem?_append_left (by simpa using hi), List.getElem?_replicate] at e2
   split at e2 <;> cases e2
 . rw [List.getElem?_append_right (by omega)] at e1
   rw [List.getElem?_append_right (by simp; omega)] at e2
   rw [List.length_replicate] at e2
   obtain ⟨⟨j, hj, hx⟩, ⟨c, hcc⟩, kx, kr⟩ := S.at_ _ x e1
   unfold B3a at e2
   rw [List.getElem?_map, hj] at e2
   have e2 : (σ[j]?).getD none = some v := Option.some.inj e2
   have e3 : σ[j]? = some (some v) := by
     cases q : σ[j]? with
     | none => rw [q] at e2; cases e2
     | some o => rw [q] at e2; exact congrArg some e2
   obtain ⟨m0, _, hl⟩ := I.loc
   obtain ⟨u, r, l⟩ := hl j x v hx e3 (.inr (.inl kx))
   refine ⟨u, r, .inr ⟨.inl kr, c, ?_, ?_⟩⟩
   . obtain ⟨c', h1, h2⟩ := S.has (List.mem_of_getElem? e1)
     rw [hcc] at h2
     cases h2
     exact h1
   . rcases l with ⟨k, _⟩ | ⟨_, c', h1, h2⟩
     . rw [kx] at k; cases k
     . rw [hcc] at h1
       cases h1
       exact hc x c _ hcc h2
theorem U6y (S : CompScopeF N F js scope X.N X.env) (σ : St) : (List.replicate N.length none ++ B3a js σ : St).length = (N ++ F).length := by
 unfold B3a
 rw [List.length_append, List.length_replicate, List.length_map, S.jl, List.length_append]
theorem D0h {pins : List (Addr × Obj)} {σ : St} {H : Hp} {s : Shared} {it : Addr} {h' : Heap} (S : CompScopeF N F js scope X.N X.env) (I : Inv X pins σ H s) (hf : A1q X pins H it) (hit : ∃ o, s.heap.get? it = some o) (hnb : X.base.get? it = none)
   (hns : h'.Ns s.heap.objs.size (fun _ => none)) (hsb : ∀ b o, s.heap.get? b = some o -> h'.get? b = some o) {tk : Nat} :
   Inv (X.compF scope N F s.heap.objs.size s H [it] (X.pn ++ pins)) [] (List.replicate N.length none ++ B3a js σ) H { s with heap := h', toks := tk } := by
 obtain ⟨f0, f1, f2, f3, f4, f5⟩ := hf
 obtain ⟨oi, ei⟩ := hit
 have lt : it < s.heap.objs.size := Heap.lt_size ei
 have ck : ∀ c v, s.heap.IsCell c v -> h'.IsCell c v := fun c v ⟨o, e, d⟩ => ⟨o, hsb _ _ e, d⟩
 have inF : ∀ x, ((compEnvC scope (A4k F X.env) s.heap.objs.size X.env).kindOf x = some .cell \/ (compEnvC scope (A4k F X.env) s.heap.objs.size X.env).kindOf x = some .free) -> x ∈ F := by
   intro x z
   have z : (relabel scope X.env).names.lookup x = some .cell \/ (relabel scope X.env).names.lookup x = some .free := z
   rcases z with z | z
   . exact S.fr _ (PySem.mem_of_lookup z) (.inl rfl)
   . exact S.fr _ (PySem.mem_of_lookup z) (.inr rfl)
 refine ⟨⟨I.ok.mod, S.kind, I.ok.glob, I.ok.blt, Nat.le_refl _, fun x y c z z' => I.ok.inj x y c (S.sub x c z) (S.sub y c z'), fun x z => ?_, fun x c z _ => (nomatch z), I.ok.hd, I.ok.frames, .inl rfl, fun b hb => ?_, I.bs, Nat.le_trans I.ok.bsz I.sz, fun b o e hb => ?_, fun b hb hfs => ?_, I.stack, I.stkFree⟩,
   rfl, I.bare, Un.kept hsb, ⟨_, hns, fun i x v e1 e2 e3 => D0g S I (fun x c v _ z => ck c v z) i x v e1 e2⟩, fun x c z => ?_, I.hok.fresh (Nat.le_refl _), fun x c z => I.freeC x c (S.sub x c z), fun p hp => ?_, I.hok.kept hsb, U6y S σ⟩
 . obtain ⟨c, h1, _⟩ := S.has (inF x z)
   exact ⟨c, h1⟩
 . have e : b = it := by simpa using hb
   subst e
   exact ⟨Nat.ne_of_lt lt, fun x c z => f4 x c (S.sub x c z)⟩
 . have e' : b = it := by simpa using hb
   subst e'
   rw [hnb] at e
   cases e
 . have e' : b = it := by simpa using hb
   subst e'
   rcases List.mem_cons.mp (I.stkSub b hfs) with z | z
   . exact f1 z
   . exact f2 z
 . obtain ⟨v, z'⟩ := I.cell x c (S.sub x c z)
   exact ⟨v, ck c v z'⟩
 . have hp' : p ∈ X.pn ++ pins := by simpa using hp
   obtain ⟨q1, q2, q3, q4, q5⟩ := I.pin p hp'
   refine ⟨hsb _ _ q1, q2, Nat.ne_of_lt (Heap.lt_size q1), fun z => ?_, q5⟩
   rcases List.mem_cons.mp (I.stkSub p.1 z) with z | z
   . exact q3 z
   . exact q4 z
theorem D0p {pins pl : List (Addr × Obj)} {σ σ' : St} {H H' : Hp} {s s' : Shared} {it : Addr} (S : CompScopeF N F js scope X.N X.env) (I : Inv X pins σ H s) (hf : A1q X pins H it) (J : Inv (X.compF scope N F s.heap.objs.size s H [it] (X.pn ++ pins)) pl σ' H' s') :
   Inv (X.compF scope N F s.heap.objs.size s H [it] (X.pn ++ pins)) [] (List.replicate N.length none ++ B3a js σ) H' s' := by
 obtain ⟨m, hn, _⟩ := J.loc
 refine ⟨J.ok, J.os, J.bare, J.base, ⟨m, hn, fun i x v e1 e2 e3 => D0g S I (fun x c v z q => ?_) i x v e1 e2⟩, J.cell, J.free, J.freeC, fun p hp => J.pin p (by
   have hp : p ∈ (X.pn ++ pins) ++ [] := hp
   rw [List.append_nil] at hp
   exact List.mem_append_left _ hp), J.hok, U6y S σ⟩
 obtain ⟨o, e, d⟩ := q
 have ne : c ∉ [it] := fun w => hf.2.2.2.2.1 x c z (by simpa using w)
 obtain ⟨sl, q⟩ := J.base.any e (I.freeC x c z) ne
 exact ⟨_, q, d⟩
theorem G7h {elt target iter c : Expr} {scope : Scope} {pos : Pos} {N F : List Str} {js : List Nat} {wi : TI} {g : TG} {tc : TT} {te : TE} (S : CompScopeF N F js scope X.N X.env) (hd : Y1 X) (hi : PIH X target iter wi) (hex : X.ex = [])
   (hg : ∀ C s₀ H₀ ex pn, Y1 (X.compF scope N F C s₀ H₀ ex pn) -> PG (X.compF scope N F C s₀ H₀ ex pn) target g)
   (hc : ∀ C s₀ H₀ ex pn, Y1 (X.compF scope N F C s₀ H₀ ex pn) -> PT (X.compF scope N F C s₀ H₀ ex pn) c tc)
   (he : ∀ C s₀ H₀ ex pn, Y1 (X.compF scope N F C s₀ H₀ ex pn) -> PE (X.compF scope N F C s₀ H₀ ex pn) elt te)
   {pins : List (Addr × Obj)} {s : Shared} {σ : St} {H : Hp} {Q : VK} {RR : Value -> Env -> Result -> Shared -> Prop} (I : Inv X pins σ H s) (h : (G7d N.length js wi g tc te) σ H Q)
   (hRR : ∀ (D C : Addr) (s6 : Shared) (H5 : Hp) (mm : Str -> Option Value), Inv X pins σ H5 s6 -> s6.heap.Ns C mm -> A1q X pins H5 C -> Q (.ref D) H5 -> RR (.ref D) (compEnvC scope (A4k F X.env) C X.env) (.ok .next) s6) :
   wpAny (model X.prog X.w) X.A (eval iter X.env) (fun v s1 => wpAny (model X.prog X.w) X.A (pyIter v) (fun itv s2 => wpAny (model X.prog X.w) X.A (newList []) (fun acc s3 => wpAny (model X.prog X.w) X.A (newFunctionEnv scope X.env.globals (A4k F X.env) [] X.env.qual none .none (some X.env)) (fun cenv s4 =>
     codeAny (model X.prog X.w) X.A (.compStart (.ListComp elt [⟨target, iter, [c], 0⟩] scope pos) 0 itv acc { cenv with scope := relabel scope X.env }) (RR acc { cenv with scope := relabel scope X.env }) s4) X.xe s3) X.xe s2) X.xe s1) X.xe s := by
 refine thn (hi pins s σ H _ I h) fun v s1 h1 => thn h1 fun itv s2 h2 => ?_
 obtain ⟨it, tn, J, H2, rfl, I2, T, st2, f2, R⟩ := h2
 obtain ⟨oi, ei, di⟩ := T.obj _ _ st2
 have hf2 := I2.hok.fresh (Nat.le_refl _)
 refine wpAny_newObj_type ?_
 have I3 : Inv X pins σ (upd H2 s2.heap.objs.size (.lst [])) { s2 with heap := s2.heap.push { cls := .type "list", dict := none, data := .seq ([] : List Value).toArray } } := Inv.lnew (t' := s2.toks) I2 .nil (Nat.zero_le _)
 refine wpAny_newFunctionEnv S.cell (by intro y hy; simp at hy) (fun h4 hns hsb => ?_) S.kind
 dsimp only at hns hsb ⊢
 generalize hG : s2.heap.push { cls := .type "list", dict := none, data := .seq ([] : List Value).toArray } = G at I3 hns hsb ⊢
 generalize hD : s2.heap.objs.size = D at I3 hf2
 have nD : it ≠ D := by rw [<- hD]; exact Nat.ne_of_lt (Heap.lt_size ei)
 have eiG : G.get? it = some oi := by rw [<- hG]; exact Heap.get?_push_of_some _ ei
 have kp : ∀ b o, G.get? b = some o -> h4.get? b = some o := fun b o e => hsb.extBut b o (Nat.ne_of_lt (Heap.lt_size e)) (Heap.get?_push_of_some _ e)
 have f3 : A1q X pins (upd H2 D (.lst [])) it := ⟨by rw [C8 nD]; exact f2.1, f2.2⟩
 have nb : X.base.get? it = none := by
   cases q : X.base.get? it with
   | none => rfl
   | some o =>
     have := (I.ok.bs it o q).1
     rcases f2.2.2.2.1 with z | z
     . rw [hex] at z; simp at z
     . exact absurd (Nat.lt_of_lt_of_le (Heap.lt_size this) z) (Nat.lt_irrefl _)
 have hns' : h4.Ns G.objs.size (fun _ => none) := by
   obtain ⟨o, es, ep, q1, q2, q3, q4⟩ := hns
   exact ⟨o, es, ep, q1, q2, q3, fun x => by rw [q4]; rfl⟩
 have I4 := D0h (tk := s2.toks + ([] : List (Str × Value)).length) S I3 f3 ⟨oi, eiG⟩ nb hns' kp
 have hdc : Y1 (X.compF scope N F G.objs.size { s2 with heap := G } (upd H2 D (.lst [])) [it] (X.pn ++ pins)) := by
   rcases hd with z | ⟨x, o, u, vs, z, e, d, n⟩
   . exact .inl z
   . refine .inr ⟨x, o, u, vs, z, ?_, d, n⟩
     have q := I2.base.frzs x o u e
     show upd H2 D (.lst []) x = _
     rw [C8 fun w => by rw [w, hf2] at q; cases q]
     exact q
 obtain ⟨m, W, w0, turn⟩ := R D hf2
 have gg := hg _ _ _ _ _ hdc
 have cc := hc _ _ _ _ _ hdc
 have ee := he _ _ _ _ _ hdc
 have fpc : ∀ {H' : Hp} {σ' : St} {s' : Shared} {pl : List (Addr × Obj)}, Inv (X.compF scope N F G.objs.size { s2 with heap := G } (upd H2 D (.lst [])) [it] (X.pn ++ pins)) pl σ' H' s' -> H' it = none -> (∀ p ∈ pl, p.1 ≠ it) -> A1q (X.compF scope N F G.objs.size { s2 with heap := G } (upd H2 D (.lst [])) [it] (X.pn ++ pins)) pl H' it := by
   intro H' σ' s' pl J' hn hp
   refine ⟨hn, Nat.ne_of_lt (Heap.lt_size eiG), ?_, .inl (List.mem_singleton.mpr rfl), (fun x c z => f2.2.2.2.2.1 x c (S.sub x c z)), fun p hpp => ?_⟩
   . intro z
     rcases List.mem_cons.mp (I.stkSub it z) with z | z
     . exact f2.2.1 z
     . exact f2.2.2.1 z
   . rcases List.mem_append.mp hpp with z | z
     . exact f2.2.2.2.2.2 p z
     . exact hp p z
 have loop : codeAny (model X.prog X.w) X.A (.compLoop (.ListComp elt [⟨target, iter, [c], 0⟩] scope pos) 0 (.ref it) (.ref D) (compEnvC scope (A4k F X.env) G.objs.size X.env))
     (RR (.ref D) (compEnvC scope (A4k F X.env) G.objs.size X.env))
     { s2 with heap := h4, toks := s2.toks + ([] : List (Str × Value)).length } := by
   refine kct_loop (fun k s' => ∃ i ys H', k = m + 1 - i /\ Inv (X.compF scope N F G.objs.size { s2 with heap := G } (upd H2 D (.lst [])) [it] (X.pn ++ pins)) [] (List.replicate N.length none ++ B3a js σ) H' s' /\ tn i s'.heap /\ H' it = none /\ W i ys H') ?_ (m + 1)
     ⟨0, [], _, rfl, I4, T.keep _ _ _ st2 fun o e => kp it o (by rw [<- hG]; exact Heap.get?_push_of_some _ e), f3.1, w0⟩
   rintro k s5 ⟨i, ys, H5, rfl, I5, st5, n5, w5⟩
   obtain ⟨hi5, hD5, w5⟩ := turn i ys H5 w5
   rcases w5 with ⟨stop, q⟩ | ⟨lt5, go, step⟩
   . refine wpAny_mono (T.done (X.compF scope N F G.objs.size { s2 with heap := G } (upd H2 D (.lst [])) [it] (X.pn ++ pins)) rfl rfl rfl hdc i [] s5 _ H5 (fun _ _ => False) I5 (fpc I5 n5 (by simp)) st5 stop) (fun r s6 z => ?_) (fun _ _ z => z.elim)
     obtain ⟨rfl, I6⟩ := z
     obtain ⟨mm, hn6, _⟩ := I6.loc
     have B6 := I6.base
     have J6 : Inv X pins σ H5 s6 := by
       refine I3.call' (ch := [it]) I6.os ⟨B6.keep, B6.slot, B6.free, B6.there, B6.tups, B6.frzs, B6.tbls⟩ I6.hok I6.bare (fun b hb => ?_)
       have e : b = it := by simpa using hb
       subst e
       exact ⟨f2.2.2.2.1, f2.2.1, f2.2.2.2.2.1, f2.2.2.2.2.2⟩
     have szG : X.s₀.heap.objs.size <= G.objs.size := I3.sz
     refine hRR D G.objs.size s6 H5 mm J6 hn6 ⟨I6.free, ?_, ?_, .inr szG, ?_, ?_⟩ q
     . exact Nat.ne_of_gt I3.lt
     . intro z
       obtain ⟨_, o, ho, _⟩ := I3.funs.mem z
       exact Nat.lt_irrefl _ (Heap.lt_size ho)
     . rintro x c z rfl
       obtain ⟨v', o, ho, _⟩ := I3.cell x _ z
       exact Nat.lt_irrefl _ (Heap.lt_size ho)
     . rintro p hp z
       have zz := (I3.pin p hp).1
       rw [z] at zz
       exact Nat.lt_irrefl _ (Heap.lt_size zz)
   . refine wpAny_mono (T.item (X.compF scope N F G.objs.size { s2 with heap := G } (upd H2 D (.lst [])) [it] (X.pn ++ pins)) rfl rfl rfl hdc i [] s5 _ H5 (fun _ _ => False) I5 (fpc I5 n5 (by simp)) st5 go) (fun r s6 z => ?_) (fun _ _ z => z.elim)
     obtain ⟨u, rfl, z⟩ := z
     refine wpAny_mono z (fun _ s7 z => ?_) (fun _ _ z => z.elim)
     obtain ⟨x, I7, rx, yl, st7⟩ := z
     obtain ⟨o7, e7, d7⟩ := T.obj _ _ st7
     obtain ⟨p0, p1, p2, _⟩ := fpc I7 n5 (by simp)
     have I7' : Inv (X.compF scope N F G.objs.size { s2 with heap := G } (upd H2 D (.lst [])) [it] (X.pn ++ pins)) [(it, o7)] (List.replicate N.length none ++ B3a js σ) H5 s7 := I7.pins_of fun p hp => by
       have e : p = (it, o7) := by simpa using hp
       subst e
       exact ⟨e7, p0, p1, p2, d7⟩
     have back : ∀ {i' : Nat} {ys' : List V} {H' : Hp} {σ' : St} {s' : Shared}, i' = i + 1 -> Inv (X.compF scope N F G.objs.size { s2 with heap := G } (upd H2 D (.lst [])) [it] (X.pn ++ pins)) [(it, o7)] σ' H' s' -> W i' ys' H' ->
         ∃ k', k' < m + 1 - i /\ ∃ i ys H', k' = m + 1 - i /\ Inv (X.compF scope N F G.objs.size { s2 with heap := G } (upd H2 D (.lst [])) [it] (X.pn ++ pins)) [] (List.replicate N.length none ++ B3a js σ) H' s' /\ tn i s'.heap /\ H' it = none /\ W i ys H' := by
       rintro i' ys' H' σ' s' rfl J' w'
       obtain ⟨q1, q2, _⟩ := J'.pin (it, o7) (List.mem_append_right _ (List.mem_singleton.mpr rfl))
       refine ⟨m + 1 - (i + 1), by omega, i + 1, ys', H', rfl, D0p S I3 f3 J', T.keep _ _ _ st7 fun o z => ?_, q2, w'⟩
       rw [e7] at z
       cases z
       exact q1
     refine wpAny_mono (gg [(it, o7)] s7 _ H5 x u _ I7' rx (step x H5 yl)) (fun _ s8 z => ?_) (fun _ _ z => z.elim)
     obtain ⟨σ8, H8, I8, q8⟩ := z
     refine wpAny_mono (cc [(it, o7)] s8 σ8 H8 _ I8 q8) (fun b s9 z => ?_) (fun _ _ z => z.elim)
     obtain ⟨H9, I9, q9⟩ := z
     cases b with
     | false =>
       simp only [Bool.false_eq_true, if_false] at q9 ⊢
       exact back rfl I9 q9
     | true =>
       simp only [if_true] at q9 ⊢
       refine wpAny_mono (ee [(it, o7)] s9 σ8 H9 _ I9 q9) (fun y s10 z => ?_) (fun _ _ z => z.elim)
       obtain ⟨yv, H10, I10, ry, hD10, hz10, w10⟩ := z
       refine wpAny_mono (B5k (X := X.compF scope N F G.objs.size { s2 with heap := G } (upd H2 D (.lst [])) [it] (X.pn ++ pins)) [(it, o7)] s10 σ8 H10 (.ref D) [yv] (.ref D) [y] (fun _ H11 => W (i + 1) (ys ++ [yv]) H11) I10 rfl (.cons ry .nil) ⟨D, ys, yv, rfl, rfl, hD10, hz10, w10⟩) (fun _ s11 z => ?_) (fun _ _ z => z.elim)
       obtain ⟨_, H11, I11, _, w11⟩ := z
       exact back rfl I11 w11
 exact codeAny_compStart_list loop (T.self _ 0 _ _ _ (T.keep _ _ _ st2 fun o e => kp it o (by rw [<- hG]; exact Heap.get?_push_of_some _ e)) loop)
theorem C0g {elt target iter : Expr} {scope : Scope} {pos : Pos} {N F : List Str} {js : List Nat} {wi : TI} {g : TG} {te : TE} (S : CompScopeF N F js scope X.N X.env) (hd : Y1 X) (hi : PIH X target iter wi) (hex : X.ex = [])
   (hg : ∀ C s₀ H₀ ex pn, Y1 (X.compF scope N F C s₀ H₀ ex pn) -> PG (X.compF scope N F C s₀ H₀ ex pn) target g)
   (he : ∀ C s₀ H₀ ex pn, Y1 (X.compF scope N F C s₀ H₀ ex pn) -> PE (X.compF scope N F C s₀ H₀ ex pn) elt te)
   {pins : List (Addr × Obj)} {s : Shared} {σ : St} {H : Hp} {Q : VK} {RR : Value -> Env -> Result -> Shared -> Prop} (I : Inv X pins σ H s) (h : (D2z N.length js wi g te) σ H Q)
   (hRR : ∀ (D C : Addr) (s6 : Shared) (H5 : Hp) (mm : Str -> Option Value), Inv X pins σ H5 s6 -> s6.heap.Ns C mm -> A1q X pins H5 C -> Q (.ref D) H5 -> RR (.ref D) (compEnvC scope (A4k F X.env) C X.env) (.ok .next) s6) :
   wpAny (model X.prog X.w) X.A (eval iter X.env) (fun v s1 => wpAny (model X.prog X.w) X.A (pyIter v) (fun itv s2 => wpAny (model X.prog X.w) X.A (newList []) (fun acc s3 => wpAny (model X.prog X.w) X.A (newFunctionEnv scope X.env.globals (A4k F X.env) [] X.env.qual none .none (some X.env)) (fun cenv s4 =>
     codeAny (model X.prog X.w) X.A (.compStart (.ListComp elt [⟨target, iter, [], 0⟩] scope pos) 0 itv acc { cenv with scope := relabel scope X.env }) (RR acc { cenv with scope := relabel scope X.env }) s4) X.xe s3) X.xe s2) X.xe s1) X.xe s := by
 refine thn (hi pins s σ H _ I h) fun v s1 h1 => thn h1 fun itv s2 h2 => ?_
 obtain ⟨it, tn, J, H2, rfl, I2, T, st2, f2, R⟩ := h2
 obtain ⟨oi, ei, di⟩ := T.obj _ _ st2
 have hf2 := I2.hok.fresh (Nat.le_refl _)
 refine wpAny_newObj_type ?_
 have I3 : Inv X pins σ (upd H2 s2.heap.objs.size (.lst [])) { s2 with heap := s2.heap.push { cls := .type "list", dict := none, data := .seq ([] : List Value).toArray } } := Inv.lnew (t' := s2.toks) I2 .nil (Nat.zero_le _)
 refine wpAny_newFunctionEnv S.cell (by intro y hy; simp at hy) (fun h4 hns hsb => ?_) S.kind
 dsimp only at hns hsb ⊢
 generalize hG : s2.heap.push { cls := .type "list", dict := none, data := .seq ([] : List Value).toArray } = G at I3 hns hsb ⊢
 generalize hD : s2.heap.objs.size = D at I3 hf2
 have nD : it ≠ D := by rw [<- hD]; exact Nat.ne_of_lt (Heap.lt_size ei)
 have eiG : G.get? it = some oi := by rw [<- hG]; exact Heap.get?_push_of_some _ ei
 have kp : ∀ b o, G.get? b = some o -> h4.get? b = some o := fun b o e => hsb.extBut b o (Nat.ne_of_lt (Heap.lt_size e)) (Heap.get?_push_of_some _ e)
 have f3 : A1q X pins (upd H2 D (.lst [])) it := ⟨by rw [C8 nD]; exact f2.1, f2.2⟩
 have nb : X.base.get? it = none := by
   cases q : X.base.get? it with
   | none => rfl
   | some o =>
     have := (I.ok.bs it o q).1
     rcases f2.2.2.2.1 with z | z
     . rw [hex] at z; simp at z
     . exact absurd (Nat.lt_of_lt_of_le (Heap.lt_size this) z) (Nat.lt_irrefl _)
 have hns' : h4.Ns G.objs.size (fun _ => none) := by
   obtain ⟨o, es, ep, q1, q2, q3, q4⟩ := hns
   exact ⟨o, es, ep, q1, q2, q3, fun x => by rw [q4]; rfl⟩
 have I4 := D0h (tk := s2.toks + ([] : List (Str × Value)).length) S I3 f3 ⟨oi, eiG⟩ nb hns' kp
 have hdc : Y1 (X.compF scope N F G.objs.size { s2 with heap := G } (upd H2 D (.lst [])) [it] (X.pn ++ pins)) := by
   rcases hd with z | ⟨x, o, u, vs, z, e, d, n⟩
   . exact .inl z
   . refine .inr ⟨x, o, u, vs, z, ?_, d, n⟩
     have q := I2.base.frzs x o u e
     show upd H2 D (.lst []) x = _
     rw [C8 fun w => by rw [w, hf2] at q; cases q]
     exact q
 obtain ⟨m, W, w0, turn⟩ := R D hf2
 have gg := hg _ _ _ _ _ hdc
 have ee := he _ _ _ _ _ hdc
 have fpc : ∀ {H' : Hp} {σ' : St} {s' : Shared} {pl : List (Addr × Obj)}, Inv (X.compF scope N F G.objs.size { s2 with heap := G } (upd H2 D (.lst [])) [it] (X.pn ++ pins)) pl σ' H' s' -> H' it = none -> (∀ p ∈ pl, p.1 ≠ it) -> A1q (X.compF scope N F G.objs.size { s2 with heap := G } (upd H2 D (.lst [])) [it] (X.pn ++ pins)) pl H' it := by
   intro H' σ' s' pl J' hn hp
   refine ⟨hn, Nat.ne_of_lt (Heap.lt_size eiG), ?_, .inl (List.mem_singleton.mpr rfl), (fun x c z => f2.2.2.2.2.1 x c (S.sub x c z)), fun p hpp => ?_⟩
   . intro z
     rcases List.mem_cons.mp (I.stkSub it z) with z | z
     . exact f2.2.1 z
     . exact f2.2.2.1 z
   . rcases List.mem_append.mp hpp with z | z
     . exact f2.2.2.2.2.2 p z
     . exact hp p z
 have loop : codeAny (model X.prog X.w) X.A (.compLoop (.ListComp elt [⟨target, iter, [], 0⟩] scope pos) 0 (.ref it) (.ref D) (compEnvC scope (A4k F X.env) G.objs.size X.env))
     (RR (.ref D) (compEnvC scope (A4k F X.env) G.objs.size X.env))
     { s2 with heap := h4, toks := s2.toks + ([] : List (Str × Value)).length } := by
   refine G2a (fun k s' => ∃ i ys H', k = m + 1 - i /\ Inv (X.compF scope N F G.objs.size { s2 with heap := G } (upd H2 D (.lst [])) [it] (X.pn ++ pins)) [] (List.replicate N.length none ++ B3a js σ) H' s' /\ tn i s'.heap /\ H' it = none /\ W i ys H') ?_ (m + 1)
     ⟨0, [], _, rfl, I4, T.keep _ _ _ st2 fun o e => kp it o (by rw [<- hG]; exact Heap.get?_push_of_some _ e), f3.1, w0⟩
   rintro k s5 ⟨i, ys, H5, rfl, I5, st5, n5, w5⟩
   obtain ⟨hi5, hD5, w5⟩ := turn i ys H5 w5
   rcases w5 with ⟨stop, q⟩ | ⟨lt5, go, step⟩
   . refine wpAny_mono (T.done (X.compF scope N F G.objs.size { s2 with heap := G } (upd H2 D (.lst [])) [it] (X.pn ++ pins)) rfl rfl rfl hdc i [] s5 _ H5 (fun _ _ => False) I5 (fpc I5 n5 (by simp)) st5 stop) (fun r s6 z => ?_) (fun _ _ z => z.elim)
     obtain ⟨rfl, I6⟩ := z
     obtain ⟨mm, hn6, _⟩ := I6.loc
     have B6 := I6.base
     have J6 : Inv X pins σ H5 s6 := by
       refine I3.call' (ch := [it]) I6.os ⟨B6.keep, B6.slot, B6.free, B6.there, B6.tups, B6.frzs, B6.tbls⟩ I6.hok I6.bare (fun b hb => ?_)
       have e : b = it := by simpa using hb
       subst e
       exact ⟨f2.2.2.2.1, f2.2.1, f2.2.2.2.2.1, f2.2.2.2.2.2⟩
     have szG : X.s₀.heap.objs.size <= G.objs.size := I3.sz
     refine hRR D G.objs.size s6 H5 mm J6 hn6 ⟨I6.free, ?_, ?_, .inr szG, ?_, ?_⟩ q
     . exact Nat.ne_of_gt I3.lt
     . intro z
       obtain ⟨_, o, ho, _⟩ := I3.funs.mem z
       exact Nat.lt_irrefl _ (Heap.lt_size ho)
     . rintro x c z rfl
       obtain ⟨v', o, ho, _⟩ := I3.cell x _ z
       exact Nat.lt_irrefl _ (Heap.lt_size ho)
     . rintro p hp z
       have zz := (I3.pin p hp).1
       rw [z] at zz
       exact Nat.lt_irrefl _ (Heap.lt_size zz)
   . refine wpAny_mono (T.item (X.compF scope N F G.objs.size { s2 with heap := G } (upd H2 D (.lst [])) [it] (X.pn ++ pins)) rfl rfl rfl hdc i [] s5 _ H5 (fun _ _ => False) I5 (fpc I5 n5 (by simp)) st5 go) (fun r s6 z => ?_) (fun _ _ z => z.elim)
     obtain ⟨u, rfl, z⟩ := z
     refine wpAny_mono z (fun _ s7 z => ?_) (fun _ _ z => z.elim)
     obtain ⟨x, I7, rx, yl, st7⟩ := z
     obtain ⟨o7, e7, d7⟩ := T.obj _ _ st7
     obtain ⟨p0, p1, p2, _⟩ := fpc I7 n5 (by simp)
     have I7' : Inv (X.compF scope N F G.objs.size { s2 with heap := G } (upd H2 D (.lst [])) [it] (X.pn ++ pins)) [(it, o7)] (List.replicate N.length none ++ B3a js σ) H5 s7 := I7.pins_of fun p hp => by
       have e : p = (it, o7) := by simpa using hp
       subst e
       exact ⟨e7, p0, p1, p2, d7⟩
     have back : ∀ {i' : Nat} {ys' : List V} {H' : Hp} {σ' : St} {s' : Shared}, i' = i + 1 -> Inv (X.compF scope N F G.objs.size { s2 with heap := G } (upd H2 D (.lst [])) [it] (X.pn ++ pins)) [(it, o7)] σ' H' s' -> W i' ys' H' ->
         ∃ k', k' < m + 1 - i /\ ∃ i ys H', k' = m + 1 - i /\ Inv (X.compF scope N F G.objs.size { s2 with heap := G } (upd H2 D (.lst [])) [it] (X.pn ++ pins)) [] (List.replicate N.length none ++ B3a js σ) H' s' /\ tn i s'.heap /\ H' it = none /\ W i ys H' := by
       rintro i' ys' H' σ' s' rfl J' w'
       obtain ⟨q1, q2, _⟩ := J'.pin (it, o7) (List.mem_append_right _ (List.mem_singleton.mpr rfl))
       refine ⟨m + 1 - (i + 1), by omega, i + 1, ys', H', rfl, D0p S I3 f3 J', T.keep _ _ _ st7 fun o z => ?_, q2, w'⟩
       rw [e7] at z
       cases z
       exact q1
     refine wpAny_mono (gg [(it, o7)] s7 _ H5 x u _ I7' rx (step x H5 yl)) (fun _ s8 z => ?_) (fun _ _ z => z.elim)
     obtain ⟨σ8, H8, I8, q8⟩ := z
     refine wpAny_mono (ee [(it, o7)] s8 σ8 H8 _ I8 q8) (fun y s10 z => ?_) (fun _ _ z => z.elim)
     obtain ⟨yv, H10, I10, ry, hD10, hz10, w10⟩ := z
     refine wpAny_mono (B5k (X := X.compF scope N F G.objs.size { s2 with heap := G } (upd H2 D (.lst [])) [it] (X.pn ++ pins)) [(it, o7)] s10 σ8 H10 (.ref D) [yv] (.ref D) [y] (fun _ H11 => W (i + 1) (ys ++ [yv]) H11) I10 rfl (.cons ry .nil) ⟨D, ys, yv, rfl, rfl, hD10, hz10, w10⟩) (fun _ s11 z => ?_) (fun _ _ z => z.elim)
     obtain ⟨_, H11, I11, _, w11⟩ := z
     exact back rfl I11 w11
 exact codeAny_compStart_list loop (T.self _ 0 _ _ _ (T.keep _ _ _ st2 fun o e => kp it o (by rw [<- hG]; exact Heap.get?_push_of_some _ e)) loop)
theorem U8z {elt target iter : Expr} {c : Expr} {tc : TT} {pos : Pos} {wi : TI} {g : TG} {te : TE} (S : CompScopeF N F js scope X.N X.env) (hd : Y1 X) (hi : PIH X target iter wi) (hex : X.ex = [])
   (hg : ∀ C s₀ H₀ ex pn, Y1 (X.compF scope N F C s₀ H₀ ex pn) -> PG (X.compF scope N F C s₀ H₀ ex pn) target g)
   (hc : ∀ C s₀ H₀ ex pn, Y1 (X.compF scope N F C s₀ H₀ ex pn) -> PT (X.compF scope N F C s₀ H₀ ex pn) c tc)
   (he : ∀ C s₀ H₀ ex pn, Y1 (X.compF scope N F C s₀ H₀ ex pn) -> PE (X.compF scope N F C s₀ H₀ ex pn) elt te)
   (hs : ∀ x, foldedSetIterable iter X.env x = pure x := by intro _; rfl) : PE X (.ListComp elt [⟨target, iter, [c], 0⟩] scope pos) (G7d N.length js wi g tc te) := by
 intro pins s σ H Q I h
 rw [eval_ListComp]
 refine wpAny_comprehension_free (use := none) rfl hs S.clos S.kind S.loc (G7h S hd hi hex hg hc he I h (RR := fun acc ce r s' => compPost (model X.prog X.w) X.A X.xe none (EP X pins σ Q) acc ce.locals r s') ?_)
 intro D C s6 H5 mm I6 n6 f6 q
 exact ⟨mm, n6, fun h' sb => ⟨.ref D, H5, G2h I6 f6 sb, rfl, q⟩⟩
theorem U0r {elt target iter : Expr} {pos : Pos} {wi : TI} {g : TG} {te : TE} (S : CompScopeF N F js scope X.N X.env) (hd : Y1 X) (hi : PIH X target iter wi) (hex : X.ex = [])
   (hg : ∀ C s₀ H₀ ex pn, Y1 (X.compF scope N F C s₀ H₀ ex pn) -> PG (X.compF scope N F C s₀ H₀ ex pn) target g)
   (he : ∀ C s₀ H₀ ex pn, Y1 (X.compF scope N F C s₀ H₀ ex pn) -> PE (X.compF scope N F C s₀ H₀ ex pn) elt te)
   (hs : ∀ x, foldedSetIterable iter X.env x = pure x := by intro _; rfl) : PE X (.ListComp elt [⟨target, iter, [], 0⟩] scope pos) (D2z N.length js wi g te) := by
 intro pins s σ H Q I h
 rw [eval_ListComp]
 refine wpAny_comprehension_free (use := none) rfl hs S.clos S.kind S.loc (C0g S hd hi hex hg he I h (RR := fun acc ce r s' => compPost (model X.prog X.w) X.A X.xe none (EP X pins σ Q) acc ce.locals r s') ?_)
 intro D C s6 H5 mm I6 n6 f6 q
 exact ⟨mm, n6, fun h' sb => ⟨.ref D, H5, G2h I6 f6 sb, rfl, q⟩⟩
end
structure CompS (N F : List Str) (sc : Scope) : Prop where
 kind : sc.kind = .function
 cell : ∀ y ∈ sc.names, y.2 ≠ .cell
 loc : ∀ y ∈ sc.names, y.2 = .local -> sc.names.lookup y.1 = some .local
 fr : ∀ y ∈ sc.names, y.2 = .free -> y.1 ∈ F
 nd : (N ++ F).Nodup
theorem G6z {sc : Scope} {env : Env} {F : List Str} (cell : ∀ y ∈ sc.names, y.2 ≠ .cell) (fr : ∀ y ∈ sc.names, y.2 = .free -> y.1 ∈ F) : ∀ y ∈ (relabel sc env).names, y.2 = .cell \/ y.2 = .free -> y.1 ∈ F := by
 intro y hy h
 obtain ⟨⟨n, k⟩, hm, e⟩ := List.mem_map.mp hy
 dsimp only at e
 split at e
 . rename_i hc
   subst e
   simp only [Bool.and_eq_true] at hc
   exact fr (n, k) hm (by simpa using hc.1.1)
 . subst e
   rcases h with h | h
   . exact absurd h (cell (n, k) hm)
   . exact fr (n, k) hm h
theorem CompScopeF.of1 {N : List Str} {x : Str} {j : Nat} {sc : Scope} {XN : List Str} {env : Env} (S : CompS N [x] sc) (clos : closureFor sc env = pure (A4k [x] env)) (hj : XN[j]? = some x) (hc : ∃ c, env.cells.lookup x = some c) (hk : env.kindOf x = some .cell)
   (hr : (relabel sc env).names.lookup x = some .cell) : CompScopeF N [x] [j] sc XN env :=
 ⟨S.kind, S.cell, S.loc, S.nd, clos, G6z S.cell S.fr, fun k y h => match k, h with
   | 0, h => by cases h; exact ⟨⟨j, rfl, hj⟩, hc, hk, hr⟩
   | k + 1, h => by simp at h, rfl⟩
theorem A1r (z : Str) : ∀ zs : List Str, inV (.str z) (zs.map V.str) = zs.contains z
 | [] => rfl
 | y :: zs => by
   show (eqV (.str y) (.str z) || inV (.str z) (zs.map V.str)) = _
   rw [A1r z zs, List.contains_cons]
   show ((y == z) || _) = _
   rw [BEq.comm]
theorem flat_strs : ∀ zs : List Str, (zs.map V.str).all B2d = true
 | [] => rfl
 | _ :: zs => flat_strs zs
theorem U8h {K : Frag} {H : Hp} {σ σf : L2.St} {a : Addr} {zs : List Str} {f : Str -> Bool} {tc : TT} {te : TE} {Q : VK} (hl : ∀ H, SqT K H a (zs.map V.str)) (hz : zs.length <= 100)
   (ht : ∀ (z : Str) (H' : Hp) (Qb : Bool -> Hp -> Prop), Same H H' -> Qb (f z) H' -> tc (some (.str z) :: σf) H' Qb) (he : ∀ (z : Str) (H' : Hp) (Qv : VK), Qv (.str z) H' -> te (some (.str z) :: σf) H' Qv)
   (k : ∀ D H', Same H H' -> H D = none -> H' D = some (.lst ((zs.filter f).map V.str)) -> Q (.ref D) H') {js : List Nat} (hj : B3a js σ = σf) : G7d 1 js (Z5m K (tC (.ref a))) (G3e 0) tc te σ H Q := by
 refine ⟨a, rfl, ⟨_, hl H⟩, fun D hD => ⟨zs.length, fun i ys H2 => i <= zs.length /\ ys = ((zs.take i).filter f).map V.str /\ H2 = upd H D (.lst ys), ⟨Nat.zero_le _, rfl, rfl⟩, ?_⟩⟩
 rintro i ys H2 ⟨hi, rfl, rfl⟩
 refine ⟨hi, A9, ?_⟩
 have sm : Same H (upd H D (.lst (((zs.take i).filter f).map V.str))) := Same.upd hD
 have lz : (((zs.take i).filter f).map V.str).length <= 100 := by
   rw [List.length_map]
   exact Nat.le_trans (List.length_filter_le _ _) (by rw [List.length_take]; omega)
 by_cases hlt : i < zs.length
 . refine .inr ⟨hlt, ⟨_, V.str zs[i], hl _, by simp [hlt]⟩, fun x H3 y => ?_⟩
   obtain ⟨rfl, y⟩ := y
   have ex : x = V.str zs[i] := by
     have := y _ (hl _)
     simp [hlt] at this
     exact this.symm
   subst ex
   rw [hj]
   show tc (some (.str zs[i]) :: σf) _ _
   refine ht _ _ _ sm ?_
   have et : (zs.take (i + 1)).filter f = (zs.take i).filter f ++ (if f zs[i] then [zs[i]] else []) := by
     rw [List.take_succ_eq_append_getElem hlt, List.filter_append]
     congr 1
     cases hb : f zs[i] <;> simp [hb]
   cases hb : f zs[i] with
   | false =>
     refine U4 ⟨hlt, ?_, rfl⟩
     rw [et, hb]; simp
   | true =>
     refine Y5 (he _ _ _ ⟨A9, Nat.lt_of_le_of_lt lz (A0d (by decide)), hlt, ?_, ?_⟩)
     . rw [et, hb]; simp
     . rw [Y4x]
 . have e : i = zs.length := by omega
   subst e
   refine .inl ⟨⟨_, hl _, by simp⟩, k D _ sm hD ?_⟩
   rw [List.take_length]
   exact A9
end L2
namespace L2
open PySem
section
variable {prog : Program} {w : World} {A : Around} {E : Value -> Shared -> Prop} {h : Heap} {g : Array GenState} {d : Drawn} {t : Nat} {os : OsState}
variable {nm q : Str} {C N : Addr} {bs bm bmB : List Value} {hdct : Bool} {sn : List Str} {sub : List Value} {ab : Bool} {col : Option Bool} {dd : Option Addr} {k0 k1 k2 k3 k5 : Option Value} {B newId initId : String}
theorem B1y (F : ExcBaseFacts B newId initId bmB) (T : OwnTail h bmB bm) {mN : Str -> Option Value} {rest : List Value} {fI : Addr} {oI : Obj} {Q : Fin -> Shared -> Prop}
   (hC : h.get? C = some (excClassObj nm q C N bs bm hdct sn sub ab col dd k0 k1 k2 k3 k5 newId)) (hn : h.Ns N mN) (hi : mN "__init__" = some (.ref fI))
   (hfI : h.get? fI = some oI) (hfc : oI.cls = .type "function")
   (hq : ∀ h' e, Heap.MadeExcOf h h' e (.ref C) rest ->
     wpAny (model prog w) A (call (.ref fI) (.ref e :: rest)) (fun r s' => r = .none /\ Q (.done (.ret (.ref e))) s') E ⟨h', g, d, t, os⟩) (hrest : rest.length <= sizeLine) :
   wpAny (model prog w) A (Builtin.«type.__call__» ⟨.ref C :: rest, []⟩) Q E ⟨h, g, d, t, os⟩ := by
 repeat (first | with_reducible refine wpAny_loadPart_at hC ?_ | with_reducible refine wpAny_madeBy_exc hC ?_ | wp_step)
 refine codeAny_call_builtin_code (Code.quiet_builtin _ F.quiet) (wpAny_check_new_subT F T hC ?_)
 refine codeAny_exc_new_subT F T hC ?_ hrest
 show wpAny _ _ _ _ _ _
 have hC₁ := Heap.get?_push_of_some { cls := .ref C, data := .fields #[.ref h.objs.size, .none, .none, .none, .bool false, .none] }
   (Heap.get?_push_of_some { cls := .type "tuple", data := .seq rest.toArray } hC)
 have hfI₁ := Heap.get?_push_of_some { cls := .ref C, data := .fields #[.ref h.objs.size, .none, .none, .none, .bool false, .none] }
   (Heap.get?_push_of_some { cls := .type "tuple", data := .seq rest.toArray } hfI)
 have hn₁ : ((h.push { cls := .type "tuple", data := .seq rest.toArray }).push { cls := .ref C, data := .fields #[.ref h.objs.size, .none, .none, .none, .bool false, .none] }).Ns N mN :=
   let ⟨o, es, ep, e, r⟩ := hn; ⟨o, es, ep, Heap.get?_push_of_some _ (Heap.get?_push_of_some _ e), r⟩
 have hget : ((h.push { cls := .type "tuple", data := .seq rest.toArray }).push
     { cls := .ref C, data := .fields #[.ref h.objs.size, .none, .none, .none, .bool false, .none] }).get? (h.objs.size + 1) = some
     { cls := .ref C, data := .fields #[.ref h.objs.size, .none, .none, .none, .bool false, .none] } := by heap_get
 have hcC : (Value.ref C :: bm).contains (.ref C) = true := by simp
 have T₁ := T.keeps (h' := (h.push { cls := .type "tuple", data := .seq rest.toArray }).push { cls := .ref C, data := .fields #[.ref h.objs.size, .none, .none, .none, .bool false, .none] })
   fun b o e => Heap.get?_push_of_some _ (Heap.get?_push_of_some _ e)
 unfold isInstance
 repeat (first | with_reducible refine wpAny_loadPart_at hget ?_ | (with_reducible refine wpAny_isSubtype_exc hC₁ ?_; rw [hcC]) | wp_step)
 show wpAny _ _ (typeLookup (.ref C) _) _ _ _
 refine wpAny_typeLookup_tail hC₁ hn₁ T₁ F.mroIs F.init.lookup ?_
 rw [hi]
 refine wpAny_holding (wpAny_bind ?_)
 unfold bindSpecial
 refine wpAny_bind (wpAny_typeOf (T := "function") ⟨_, hfI₁, hfc⟩ ?_)
 rw [if_pos (by decide)]
 refine wpAny_pure (wpAny_bind (wpAny_mono (hq _ (h.objs.size + 1) ⟨fun b o hb => Heap.get?_push_of_some _ (Heap.get?_push_of_some _ hb), Heap.get?_none_of_le (Nat.le_succ _), h.objs.size, hget, Heap.get?_none_of_le (Nat.le_refl _), ?_⟩) (fun r s' hr => ?_) fun _ _ x => x))
 . exact Heap.get?_push_of_some _ (Heap.get?_push_at rfl rfl)
 . obtain ⟨rfl, hQ⟩ := hr
   wp_walk
   exact hQ
theorem C2v (F : ExcBaseFacts B newId initId bmB) (T : OwnTail h bmB bm) {mN : Str -> Option Value} {rest : List Value} {fI : Addr} {oI : Obj} {Q : Value -> Shared -> Prop}
   (hC : h.get? C = some (excClassObj nm q C N bs bm hdct sn sub ab col dd k0 k1 k2 k3 k5 newId)) (hn : h.Ns N mN) (hi : mN "__init__" = some (.ref fI))
   (hfI : h.get? fI = some oI) (hfc : oI.cls = .type "function")
   (hq : ∀ h' e, Heap.MadeExcOf h h' e (.ref C) rest ->
     wpAny (model prog w) (A.under (.builtin "type.__call__" ⟨.ref C :: rest, []⟩)) (call (.ref fI) (.ref e :: rest)) (fun r s' => r = .none /\ Q (.ref e) s') E ⟨h', g, d, t, os⟩) (hrest : rest.length <= sizeLine) :
   wpAny (model prog w) A (call (.ref C) rest) Q E ⟨h, g, d, t, os⟩ := by
 have f1 := tc_lookup
 have f2 := tc_bind (.ref C)
 have hT : (⟨h, g, d, t, os⟩ : Shared).TypeIs (.ref C) "type" := ⟨_, hC, rfl⟩
 refine wpAny_call (codeAny_of_tree ?_)
 show wpAny _ _ (callAny (.ref C) _) _ _ _
 repeat (any_goals (first | assumption | with_reducible refine wpAny_loadPart_at hC ?_ | wp_step))
 refine ⟨rfl, ?_⟩
 refine codeAny_call_builtin_at (Code.quiet_builtin _ (by decide +kernel)) entry_typeCall (wpAny_check_type_call_sub hC (B1y (hrest := hrest) F T hC hn hi hfI hfc fun h' e hm => ?_))
 exact hq h' e hm
end
section
variable {M : Model} {prog : Program} {w : World} {A : Around} {E : Value -> Shared -> Prop} {s : Shared} {env : Env}
variable {nm q : Str} {C N : Addr} {bs bm bmB : List Value} {hdct : Bool} {sn : List Str} {sub : List Value} {ab : Bool} {col : Option Bool} {dd : Option Addr} {k0 k1 k2 k3 k5 : Option Value} {B newId initId : String}
theorem A8d {x : Sem Value} {Q : Flow -> Shared -> Prop} (hbase : bm.contains (.type "BaseException") = true) (hh : A.handled = none)
   (h : wpAny M A x (fun v s₁ => ∃ e t de, v = .ref e /\ s₁.heap.get? C = some (excClassObj nm q C N bs bm hdct sn sub ab col dd k0 k1 k2 k3 k5 newId) /\
     s₁.heap.get? e = some { cls := .ref C, dict := de, data := .fields #[.ref t, .none, .none, .none, .bool false, .none] } /\ E (.ref e) s₁) E s) :
   wpAny M A (raiseStmt env (some x) none) Q E s := by
 have hcB : (Value.ref C :: bm).contains (.type "BaseException") = true := by rw [List.contains_cons, hbase, Bool.or_true]
 unfold raiseStmt
 refine wpAny_bind (wpAny_mono h (fun v s₁ h₁ => ?_) fun _ _ x => x)
 obtain ⟨e, t, de, rfl, hC, he, hE⟩ := h₁
 obtain ⟨hp, g, d, tk, os⟩ := s₁
 repeat (first | with_reducible refine wpAny_loadPart_at he ?_ | with_reducible refine wpAny_loadPart_at hC ?_ | (with_reducible refine wpAny_isSubtype_exc hC ?_; rw [hcB]) | wp_step)
 exact wpAny_raiseNew_none hh hE
theorem B5w (F : ExcBaseFacts B newId initId bmB) {mN : Str -> Option Value} {x : Str} {np cpos pos : Pos} {args : List Expr} {Q : Flow -> Shared -> Prop} {fI : Addr} {oI : Obj}
   (hbase : bm.contains (.type "BaseException") = true) (hh : A.handled = none) (hplain : (backTo cpos (starEach args env)).any (·.1) = false) (hi : mN "__init__" = some (.ref fI)) (hfc : oI.cls = .type "function")
   (h : wpAny (model prog w) A (eval (.Name x np) env) (fun f s₁ => f = .ref C /\ wpAny (model prog w) A (evalArgs (.ref C) true (backTo cpos (starEach args env)) [])
     (fun a s₂ => a.kw = [] /\ a.pos.length <= sizeLine /\ s₂.heap.get? C = some (excClassObj nm q C N bs bm hdct sn sub ab col dd k0 k1 k2 k3 k5 newId) /\ s₂.heap.Ns N mN /\ OwnTail s₂.heap bmB bm /\ s₂.heap.get? fI = some oI /\
       ∀ h' e, Heap.MadeExcOf s₂.heap h' e (.ref C) a.pos -> wpAny (model prog w) (A.under (.builtin "type.__call__" ⟨.ref C :: a.pos, []⟩)) (call (.ref fI) (.ref e :: a.pos))
         (fun r s₃ => r = .none /\ s₃.heap.get? C = some (excClassObj nm q C N bs bm hdct sn sub ab col dd k0 k1 k2 k3 k5 newId) /\ (∃ t de, s₃.heap.get? e = some { cls := .ref C, dict := de, data := .fields #[.ref t, .none, .none, .none, .bool false, .none] }) /\ E (.ref e) s₃) E { s₂ with heap := h' }) E s₁) E s) :
   wpAny (model prog w) A (exec (.Raise (some (.Call (.Name x np) args [] cpos)) none pos) env) Q E s := by
 rw [arm_exec_Raise]
 first
   | refine wpAny_bind (wpAny_standAt (A8d (C := C) (nm := nm) (q := q) (N := N) (bs := bs) (bm := bm) (hdct := hdct) (sn := sn) (sub := sub) (ab := ab) (col := col) (dd := dd) (k0 := k0) (k1 := k1) (k2 := k2) (k3 := k3) (k5 := k5) (newId := newId) hbase hh (wpAny_bind (wpAny_mono (wpAny_Call_ofName (wpAny_mono h (fun f s₁ h₁ => ?_) fun _ _ x => x)) (fun v s₃ h₃ => wpAny_bind (wpAny_standAt (wpAny_pure h₃))) fun _ _ x => x))))
   | (simp only [evalOpt, Option.map]; refine wpAny_bind (wpAny_standAt (A8d (C := C) (nm := nm) (q := q) (N := N) (bs := bs) (bm := bm) (hdct := hdct) (sn := sn) (sub := sub) (ab := ab) (col := col) (dd := dd) (k0 := k0) (k1 := k1) (k2 := k2) (k3 := k3) (k5 := k5) (newId := newId) hbase hh (wpAny_bind (wpAny_mono (wpAny_Call_ofName (wpAny_mono h (fun f s₁ h₁ => ?_) fun _ _ x => x)) (fun v s₃ h₃ => wpAny_bind (wpAny_standAt (wpAny_pure h₃))) fun _ _ x => x)))))
 obtain ⟨rfl, h₁⟩ := h₁
 unfold callWith
 refine wpAny_bind (wpAny_holding (wpAny_mono h₁ (fun a s₂ h₂ => wpAny_bind (wpAny_standAt ?_)) fun _ _ x => x))
 obtain ⟨apos, akw⟩ := a
 obtain ⟨hkw, hlen, hC, hn, T, hf, h₂⟩ := h₂
 obtain rfl : akw = [] := hkw
 obtain ⟨hp, g, d, tk, os⟩ := s₂
 simp only [hplain]
 refine wpAny_bind (wpAny_keeperOf_exc hC ?_)
 refine wpAny_bind (C2v F T hC hn hi hf hfc (fun h' e hm => wpAny_mono (h₂ h' e hm) (fun r s₃ z => ⟨z.1, wpAny_bind (wpAny_holding (wpAny_point (wpAny_pure ?_)))⟩) fun _ _ x => x) hlen)
 obtain ⟨_, hC3, ⟨t, de, he⟩, hE⟩ := z
 exact ⟨e, t, de, rfl, hC3, he, hE⟩
end
end L2
namespace L2
open PySem PySem.Spec PyProof.Rows PySem.W
abbrev J7z : List Value := [.type "ValueError", .type "Exception", .type "BaseException", .type "object"]
structure ExcI (K : Frag) (C fI : Addr) : Prop where
 cls : ∃ nm q N bs bm sn sub ab col dd k0 k1 k2 k3 k5, K.lookup C = some (excClassObj nm q C N bs bm true sn sub ab col dd k0 k1 k2 k3 k5 "ValueError.__new__") /\ nsOkIn K N = true /\ nsIn K N "__init__" = some (some (.ref fI)) /\ tailIn K J7z bm = true
 fn : ∃ o, K.lookup fI = some o /\ o.cls = .type "function"
 sa : findIn K (.ref C) "__setattr__" = some (some (.builtin "object.__setattr__"))
 ob : mroIn K C (.type "object") = some true
theorem G7c {K : Frag} {h : Heap} {N : Addr} {mg : Str -> Option Value} {n : Str} {v : Value} (X : K.In h) (G : h.Ns N mg) (e : nsIn K N n = some (some v)) : mg n = some v := by
 obtain ⟨o, es, ep, ho, hd, _, hf⟩ := G
 unfold nsIn at e
 split at e
 . rename_i c d es' n' sl q
   have := X _ _ q
   rw [ho] at this
   cases this
   cases hd
   split at e
   . rename_i en he
     cases e
     rw [<- hf]
     unfold nsFind findBy
     rw [<- Array.find?_toList, he]
     rfl
   . split at e <;> cases e
 . cases e
theorem C0j {h : Heap} (self : Value) : ∀ {l : List Value}, OwnTail h J7z l -> refuseLoop self "__setattr__" l = pure ()
 | _, .base => PySem.F.store_ValueError.passes self
 | _, .own _ _ _ t => by rw [refuseLoop_ref]; exact C0j self t
section
variable {prog : Program} {w : World} {A : Around} {s : Shared} {K : Frag} {C e fI : Addr} {t : Addr} {R : Result -> Shared -> Prop} {name : Str} {tk : Tok} {v : Value}
theorem Y5j (X : K.In s.heap) (F : ExcI K C fI) (he : s.heap.get? e = some (A1f (.ref C) t none .none)) (ht : findIn K (.ref C) name = some none)
   (h : ∀ h' tk' d, (∀ b ob, b ≠ e -> s.heap.get? b = some ob -> h'.get? b = some ob) -> h'.get? e = some (A1f (.ref C) t (some d) .none) -> h'.Ns1 d (fun y => if y = name then some v else none) -> s.heap.get? d = none -> d ≠ e ->
     R (.ok (.ret .none)) { s with heap := h', toks := tk' }) :
   codeAny (model prog w) A (.call (.builtin "object.__setattr__") ⟨[.ref e, .str name tk, v], []⟩) R s := by
 have SF := PySem.F.store_object
 obtain ⟨nm, q, N, bs, bm, sn, sub, ab, col, dd, k0, k1, k2, k3, k5, lC, nO, nI, tl⟩ := F.cls
 have hC := X _ _ lC
 have I : PySem.W.InstAt s.heap e (A1f (.ref C) t none .none) C none := ⟨he, rfl, rfl, trivial⟩
 have hc : clsIn K C = some { name := nm, bases := bs, mro := .ref C :: bm, ns := N, qualname := q, hasDict := true, slotNames := sn, subclasses := sub, abstract := ab, collection := col, hasDel := false } := by
   unfold clsIn
   rw [lC]
 have sub' : Looks (model prog w) s.heap (isInstance (.ref e) (.type "object")) true := I.type.andThen (looks_mroIn X F.ob)
 refine codeAny_call_builtin SF.slot.plain SF.entry (@check_slot (model prog w) _ _ s "object.__setattr__" "object" "__setattr__" (.ref e) [.str name tk, v] [] _ SF.kind SF.split sub' (SF.args (.ref e) (.str name tk) v) ?_)
 have hm : Looks (model prog w) s.heap (mroOf (.ref C)) (.ref C :: bm) := (looks_clsIn X hc).andThen .now
 have L3 : Looks (model prog w) s.heap (Builtin.ObjectAttr.storeTaker? none) none := .now
 rw [osa_eq, refuse_eq]
 refine wpAny_bind (wpAny_bind (I.type.here (wpAny_bind (hm.here ?_))))
 rw [refuseLoop_ref, C0j _ (tail_of_in X tl)]
 refine wpAny_pure (wpAny_bind (I.type.here (wpAny_bind ((looks_findIn X ht).here (wpAny_bind (L3.here ?_))))))
 dsimp only
 refine wpAny_bind (wpAny_pure (wpAny_bind (wpAny_bind (wpAny_loadPart he (wpAny_bind (PySem.W.Looks.here (PySem.W.looks_clsIn X hc) ?_))))))
 have hx₁ : (s.heap.push { cls := .type "dict", data := .dict #[] }).get? e = some (A1f (.ref C) t none .none) := Heap.get?_push_of_some _ he
 have hxs : e ≠ s.heap.objs.size := Nat.ne_of_lt (Heap.lt_size he)
 show wpAny (model prog w) A.in1 (do
     let d <- alloc { cls := Value.type "dict", data := Data.dict #[] }
     update e fun o => { cls := o.cls, dict := some d, data := o.data, slots := o.slots }
     pure (some d)) _ _ _
 refine wpAny_bind (wpAny_alloc' ?_)
 refine wpAny_bind (wpAny_update' hx₁ ?_)
 refine wpAny_pure ?_
 have hgd : ((s.heap.push { cls := .type "dict", data := .dict #[] }).update e fun o => { cls := o.cls, dict := some s.heap.objs.size, data := o.data, slots := o.slots }).get? s.heap.objs.size
     = some { cls := .type "dict", data := .dict #[] } :=
   (Heap.get?_update_ne _ _ _ _ hxs.symm).trans (Heap.get?_push_at rfl rfl)
 have hnd : ((s.heap.push { cls := .type "dict", data := .dict #[] }).update e fun o => { cls := o.cls, dict := some s.heap.objs.size, data := o.data, slots := o.slots }).Ns s.heap.objs.size (fun _ => none) :=
   ⟨_, #[], _, hgd, rfl, fun e he => absurd he (by simp), fun _ => rfl⟩
 show wpAny _ _ (Builtin.ObjectAttr.storeInDict s.heap.objs.size (.str name tk) name v) _ _ _
 unfold Builtin.ObjectAttr.storeInDict Builtin.ObjectAttr.newKeyGuard
 refine wpAny_bind (wpAny_pure (wpAny_bind (wpAny_nsSet1 (Heap.Ns1.of_empty hnd) fun h' hn' hs => ?_)))
 obtain ⟨oD, esD, epD, hoD, hdD, hcD⟩ := hn'.count (Within.cons name v Within.nil)
 refine wpAny_bind (wpAny_lookBehind hoD (by rw [hdD]; exact pastItsLine_dict (Nat.le_trans hcD (by rw [List.length_cons, List.length_nil, sizeLine_eq]; omega))) ?_)
 have hx' : h'.get? e = some (A1f (.ref C) t (some s.heap.objs.size) .none) := (hs.2 e hxs).trans (Heap.get?_update_self _ hx₁ rfl)
 refine wpAny_pure (h h' _ s.heap.objs.size (fun b ob hbx hb => ?_) hx' hn' (Heap.get?_none_of_le (Nat.le_refl _)) hxs.symm)
 exact (hs.2 b (Nat.ne_of_lt (Heap.lt_size hb))).trans ((Heap.get?_update_ne _ _ _ _ hbx).trans (Heap.get?_push_of_some _ hb))
end
def A2y (e C t : Addr) (d : Option Addr) : Heap -> Prop := fun h => h.get? e = some (A1f (.ref C) t d .none)
theorem U8a {P : Program} {w : World} {H : Hp} {h : Heap} {e C t : Addr} {d : Option Addr} (q : h.get? e = some (A1f (.ref C) t d .none)) : ObjOk P w H h e (.ext (A2y e C t d)) :=
 ⟨q, ⟨_, q⟩, fun _ _ z k => k _ z⟩
section
variable {X : Cx} {pins : List (Addr × Obj)} {σ : St} {H : Hp} {s : Shared}
theorem Inv.trackO {a : Addr} {ho : HO} (I : Inv X pins σ H s) (n : Nw X pins H a) (ok : ObjOk X.prog X.w (upd H a ho) s.heap a ho) : Inv X pins σ (upd H a ho) s := by
 have ne : ∀ b u, H b = some u -> b ≠ a := fun b u z q => by rw [q, n.un] at z; cases z
 have up : ∀ b, b ≠ a -> upd H a ho b = H b := fun b hb => C8 hb
 refine ⟨I.ok, I.os, I.bare, ⟨I.base.keep, I.base.slot, fun b u z m hx => ?_, I.base.there, fun b xs z => ?_, fun b u v z => ?_, fun b ps z => ?_⟩, I.loc, I.cell, ?_, fun x c z => ?_, fun p hp => ?_, fun b u z => ?_, I.len⟩
 . rw [up b fun q => by rw [q, n.old] at z; cases z]
   exact I.base.free b u z m hx
 . have := I.base.tups b xs z
   rw [up b (ne b _ this)]; exact this
 . have := I.base.frzs b u v z
   rw [up b (ne b _ this)]; exact this
 . obtain ⟨more, this⟩ := I.base.tbls b ps z
   exact ⟨more, by rw [up b (ne b _ this)]; exact this⟩
 . rw [up _ (Ne.symm n.loc)]; exact I.free
 . rw [up _ (n.cell x c z)]; exact I.freeC x c z
 . obtain ⟨q1, q2, q3⟩ := I.pin p hp
   exact ⟨q1, by rw [up _ (n.pin p hp)]; exact q2, q3⟩
 . by_cases hb : b = a
   . subst hb
     rw [A9] at z
     cases z
     exact ok
   . rw [up b hb] at z
     exact (I.hok b u z).stay (fun _ _ _ q => q) (fun c q => by rw [up c (ne c _ q)]; exact q) (fun c xs q => by rw [up c (ne c _ q)]; exact q)
def rem (H : Hp) (a : Addr) : Hp := fun b => if b = a then none else H b
theorem C2w {a : Addr} : rem H a a = none := by unfold rem; rw [if_pos rfl]
theorem A4u {a b : Addr} (h : b ≠ a) : rem H a b = H b := by unfold rem; rw [if_neg h]
theorem Inv.forget {a : Addr} {φ : Heap -> Prop} (I : Inv X pins σ H s) (e : H a = some (.ext φ)) : Inv X pins σ (rem H a) s := by
 have ne : ∀ b u, H b = some u -> (∀ φ, u ≠ .ext φ) -> b ≠ a := fun b u z q w => by rw [w, e] at z; cases z; exact q _ rfl
 have non : ∀ b, H b = none -> rem H a b = none := fun b z => by
   by_cases q : b = a
   . rw [q]; exact C2w
   . rw [A4u q]; exact z
 refine ⟨I.ok, I.os, I.bare, ⟨I.base.keep, I.base.slot, fun b u z m hx => non b (I.base.free b u z m hx), I.base.there, fun b xs z => ?_, fun b u v z => ?_, fun b ps z => ?_⟩, I.loc, I.cell, non _ I.free, fun x c z => non _ (I.freeC x c z), fun p hp => ?_, fun b u z => ?_, I.len⟩
 . have := I.base.tups b xs z
   rw [A4u (ne b _ this (fun _ q => nomatch q))]; exact this
 . have := I.base.frzs b u v z
   rw [A4u (ne b _ this (fun _ q => nomatch q))]; exact this
 . obtain ⟨more, this⟩ := I.base.tbls b ps z
   exact ⟨more, by rw [A4u (ne b _ this (fun _ q => nomatch q))]; exact this⟩
 . obtain ⟨q1, q2, q3⟩ := I.pin p hp
   exact ⟨q1, non _ q2, q3⟩
 . have hb : b ≠ a := fun q => by rw [q, C2w] at z; cases z
   rw [A4u hb] at z
   exact (I.hok b u z).stay (fun _ _ _ q => q) (fun c q => by rw [A4u (ne c _ q (fun _ w => nomatch w))]; exact q) (fun c xs q => by rw [A4u (ne c _ q (fun _ w => nomatch w))]; exact q)
end
def Z5a (C : Addr) (ta tv : TE) (f : Str) : TS := fun D σ H => tv σ H fun y H1 => ta σ H1 fun x H2 => ∃ e t, x = .ref e /\ H2 e = some (.ext (A2y e C t none)) /\
 ∀ d, H2 d = none -> d ≠ e -> D.nx σ (upd (upd H2 e (.ext (A2y e C t (some d)))) d (.xd [(f, y)]))
section
variable {X : Cx} {o value : Expr} {f : Str} {pos pos' : Pos} {ta tv : TE} {C fI : Addr}
theorem Y4u (F : ExcI X.K C fI) (hf : findIn X.K (.ref C) f = some none) (ha : PE X o ta) (hv : PE X value tv) (hs : swapsWith value (some (.Attribute o f pos')) pos.line X.env = pure false) (hex : X.ex = [] := by rfl) :
   PS X (.Assign [.Attribute o f pos'] value pos) (Z5a C ta tv f) := by
 intro pins s σ H D I h
 refine plainObj_wpAny_Assign_Attribute (thn (hv pins s σ H _ I h) fun u s1 ⟨y, H1, I1, ry, q⟩ => thn (ha pins s1 σ H1 _ I1 q) fun ov s2 ⟨x, H2, I2, rx, e, t, ex, ea, q2⟩ => ?_) hs
 subst ex
 obtain rfl : ov = Value.ref e := rx
 have he : s2.heap.get? e = some (A1f (.ref C) t none .none) := (I2.hok e _ ea).1
 refine set_plain I2.kIn (⟨he, rfl, rfl, trivial⟩ : PySem.W.InstAt s2.heap e (A1f (.ref C) t none .none) C none) F.sa (Y5j (s := { s2 with toks := s2.toks + 1 }) I2.kIn F he hf fun h' tk' d k1 k2 k3 k4 k5 => ?_)
 have nd : H2 d = none := I2.hok.new k4
 have I3 : Inv X pins σ (upd H2 e (.ext (A2y e C t (some d)))) { s2 with heap := h', toks := tk' } :=
   I2.write (x := e) (e := e) (by rw [ea]; exact trivial) (.inl rfl) (fun b u hb z => k1 b u hb z) ⟨_, k2⟩ (U8a k2)
 have nw : Nw X pins (upd H2 e (.ext (A2y e C t (some d)))) d := I2.nw hex k4 (by rw [C8 k5]; exact nd)
 refine ⟨σ, _, I3.trackO (ho := .xd [(f, y)]) nw ⟨_, k3, fun g => ?_⟩, q2 d nd k5⟩
 show RelO (List.lookup g [(f, y)]) (if g = f then some u else none)
 by_cases z : g = f
 . rw [if_pos z, z]
   have : List.lookup f [(f, y)] = some y := by simp [List.lookup]
   rw [this]; exact ry
 . rw [if_neg z]
   have : List.lookup g [(f, y)] = none := by
     have hb : (g == f) = false := beq_eq_false_iff_ne.mpr z
     simp [List.lookup, hb]
   rw [this]; exact trivial
end
def D2w (C : Addr) (f : Str) : Sp := fun vs H Q _ => ∃ e t v, vs = [.ref e, v] /\ H e = some (.ext (A2y e C t none)) /\ ∀ d, H d = none -> d ≠ e -> Q .non (upd (upd H e (.ext (A2y e C t (some d)))) d (.xd [(f, v)]))
def Y5h (C : Addr) (f : Str) (EH : EK) (t : TA) : TS := fun _ σ H => t σ H fun vs H1 => ∃ v, vs = [v] /\ ∀ d H2, Same H1 H2 -> H1 d = none -> H2 d = some (.xd [(f, v)]) -> EH (.ref C) (some d) σ H2
section
variable {X : Cx} {x f : Str} {p cpos pos : Pos} {e : Expr} {t : TA} {C fI : Addr} {fdI : FuncData} {ps : List Str} {EH : EK} {j k : Nat}
theorem U1h (hm : X.mg x = some (.ref C)) (F : ExcI X.K C fI) (G : FnOk X.prog X.w X.K X.mg X.base CX0 j fI fdI ps (D2w C f)) (bI : Binds X.K fdI ps []) (hr : Room k X.A) (hx : G2 X EH) (ha : PA X [e] t) (hj : j + 1 <= k := by decide) (hg : Gl X x := by rfl) (hex : X.ex = [] := by rfl)
   (hdb : (x == ("__debug__" : Str)) = false := by decide) (he : starEach [e] X.env = (false, eval e X.env) :: starEach [] X.env := by rfl) (hpl : (backTo cpos (starEach [] X.env)).any (·.1) = false := by rfl) :
   PS X (.Raise (some (.Call (.Name x p) [e] [] cpos)) none pos) (Y5h C f EH t) := by
 intro pins s σ H D I h
 obtain ⟨nm, q, N, bs, bm, sn, sub, ab, col, dd, k0, k1, k2, k3, k5, lC, nO, nI, tl⟩ := F.cls
 obtain ⟨oI, lI, cI⟩ := F.fn
 have T0 : OwnTail X.base J7z bm := tail_of_in I.ok.mod.kin tl
 have hN0 : X.base.Ns N (X.base.nsMap N) := .of_isNs (isNs_of_in I.ok.mod.kin nO)
 have hi0 : X.base.nsMap N "__init__" = some (.ref fI) := G7c I.ok.mod.kin hN0 nI
 refine B5w (C := C) (nm := nm) (q := q) (N := N) (bs := bs) (bm := bm) (hdct := true) (sn := sn) (sub := sub) (ab := ab) (col := col) (dd := dd) (k0 := k0) (k1 := k1) (k2 := k2) (k3 := k3) (k5 := k5) (oI := oI) PySem.F.excBase_ValueError (mN := X.base.nsMap N) (T0.hasType PySem.F.excBase_ValueError.hasBase) hr.hd
   (by rw [he]; show (false || (backTo cpos (starEach [] X.env)).any (·.1)) = false; rw [hpl]; rfl) hi0 cI (A1p I hg hm ⟨rfl, ?_⟩ hdb)
 have ha' := ha cpos pins s σ H _ I h
 rw [he] at ha' ⊢
 refine Calls.evalArgs_plain (wpAny_mono ha' (fun us s2 ⟨vs, H1, I1, r, v, ev, z⟩ => ?_) fun _ _ y => y)
 subst ev
 obtain ⟨u, rfl, ru⟩ := r.one
 refine ⟨rfl, D6 (by show 1 <= 1000; decide), I1.kIn _ _ lC, hN0.keeps I1.bk, T0.keeps I1.bk, I1.kIn _ _ lI, fun h' a m => ?_⟩
 obtain ⟨t', e1, tn, e2⟩ := m.there
 have I2 : Inv X pins σ H1 { s2 with heap := h' } := I1.kept (t' := s2.toks) m.keeps
 have na : H1 a = none := I1.hok.new m.new
 have I3 := I2.trackO (ho := .ext (A2y a C t' none)) (I1.nw hex m.new na) (U8a e1)
 have sp0 : D2w C f [.ref a, v] (upd H1 a (.ext (A2y a C t' none))) (fun v0 H' => v0 = .non /\ ∃ d, H1 d = none /\ d ≠ a /\ H' = upd (upd (upd H1 a (.ext (A2y a C t' none))) a (.ext (A2y a C t' (some d)))) d (.xd [(f, v)])) E0 :=
   ⟨a, t', v, rfl, A9, fun d nd nda => ⟨rfl, d, by rw [C8 nda] at nd; exact nd, nda, rfl⟩⟩
 have rr : Vals [.ref a, v] [.ref a, u] := .cons rfl (.cons ru .nil)
 have hl : ([Value.ref a, u] ++ []).length = ps.length := by
   have := G.len _ _ _ _ sp0
   rw [<- this]; rfl
 refine wpAny_call (codeAny_mono (G.run _ X.stack _ _ ⟨[.ref a, u], []⟩ ([.ref a, u] ++ []) [.ref a, v] _ E0 ((hr.mono hj).make C [u] []) (I3.env0.make C [u] []) (bI _ [.ref a, u] I3.kIn hl) rr sp0) fun r s' hq => ?_)
 cases r with
 | error e => exact hq.elim
 | ok fl =>
   cases fl with
   | ret u0 =>
     obtain ⟨v0, H', I4, rv, ev, d, nd, nda, eH⟩ := I3.after hq
     subst ev eH
     have ea : (upd (upd (upd H1 a (.ext (A2y a C t' none))) a (.ext (A2y a C t' (some d)))) d (.xd [(f, v)])) a = some (.ext (A2y a C t' (some d))) := by
       rw [C8 (Ne.symm nda), A9]
     have g1 : s'.heap.get? a = some (A1f (.ref C) t' (some d) .none) := (I4.hok a _ ea).1
     refine ⟨rv, I4.kIn _ _ lC, ⟨t', some d, g1⟩, ?_⟩
     refine hx pins σ _ s' a t' (.ref C) (some d) (I4.forget ea) ⟨I1.nw hex m.new C2w, .none, g1, .inl rfl, fun T z => nomatch z⟩ (z d _ (fun b ob q => ?_) nd ?_)
     . have nb : b ≠ a := D0 q na
       have nbd : b ≠ d := D0 q nd
       rw [A4u nb, C8 nbd, C8 nb, C8 nb]
       exact q
     . rw [A4u nda, A9]
   | next => exact hq.elim
   | brk => exact hq.elim
   | cont => exact hq.elim
end
section
variable {X : Cx} {e : Expr} {f : Str} {pos : Pos} {ta : TE}
end
section
variable {X : Cx}
end
section
variable {X : Cx}
def Z4t : V -> List V -> Hp -> VK -> Prop := fun x vs H Q => ∃ i, x = .int i /\ vs = [] /\ Q (.int ((Builtin.Int.intBits i : Nat) : Int)) H
theorem C6t : MtR X "int.bit_length" Z4t := by
 intro pins s σ H x xs v us Q I rx rs h
 obtain ⟨i, rfl, rfl, q⟩ := h
 obtain ⟨t, rfl⟩ := rx
 cases rs
 exact call_int_bit_length ⟨.int _, H, I.tok _, ⟨_, rfl⟩, q⟩
end
section
variable {X : Cx} {a b : Expr} {rest : List Expr} {pos : Pos} {ta tb : TE}
end
section
variable {X : Cx} {j k : Nat} {f C : Addr} {fd : FuncData} {ps : List Str} {sp : Sp} {dvs : List V} {ds : List Value} {x m : Str} {p pos apos : Pos} {e o : Expr} {es : List Expr} {ta : TE} {t : TA} {st : Stmt}
theorem Y3y {pins : List (Addr × Obj)} {σ : St} {H : Hp} {s : Shared} {Q : VK} {us : List Value} {vs : List V} (F : FnOk X.prog X.w X.K X.mg X.base (CX1 X.prog X.w) k f fd ps sp) (hr : Room k X.A) (hb : Binds X.K fd ps ds) (hd : Vals dvs ds)
   (I : Inv X pins σ H s) (r : Vals vs us) (h : sp (vs ++ dvs) H Q (fun C d H' => EKF C d σ H')) : wpAny (model X.prog X.w) X.A (call (.ref f) us) (EP X pins σ Q) X.xe s := by
 have r2 : Vals (vs ++ dvs) (us ++ ds) := r.append hd
 have hl : (us ++ ds).length = ps.length := by rw [<- r2.length]; exact F.len _ _ _ _ h
 refine wpAny_call (codeAny_mono (F.run X.A X.stack s H ⟨us, []⟩ (us ++ ds) (vs ++ dvs) Q _ hr I.env0 (hb s us I.kIn hl) r2 h) fun r s' hq => ?_)
 cases r with
 | error e =>
   obtain ⟨a, t, C, dd, H', _, _, _, _, _, hE, _⟩ := hq
   exact False.elim hE
 | ok fl =>
   cases fl with
   | ret u => exact I.after hq
   | next => exact False.elim hq
   | brk => exact False.elim hq
   | cont => exact False.elim hq
theorem G6t (D : Def X.K X.mg x ps st f fd) (F : FnOk X.prog X.w X.K X.mg X.base (CX1 X.prog X.w) j f fd ps sp) (hr : Room k X.A) (ha : PA X (e :: es) t) (hj : j <= k := by decide) (hg : Gl X x := by rfl) (hdb : (x == ("__debug__" : Str)) = false := by decide)
   (he : starEach (e :: es) X.env = (false, eval e X.env) :: starEach es X.env := by rfl) (hpl : (backTo pos (starEach es X.env)).any (·.1) = false := by rfl) : PE X (.Call (.Name x p) (e :: es) [] pos) (C1t sp [] EKF t) := by
 intro pins s σ H Q I h
 refine wpAny_Call_Name_kw (A1p I hg D.g ?_ hdb)
 refine PySem.W.callWith_K (h₀ := X.base) I.ok.mod.kin D.F.kp (thn (ha pos pins s σ H _ I h) fun us s1 ⟨vs, H1, I1, r, q⟩ => ⟨I1.kIn, ?_⟩) he hpl
 exact Y3y (F.mono hj) hr D.b .nil I1 r q
end
section
variable {X : Cx} {N F : List Str} {js : List Nat} {scope : Scope}
end
theorem U6t : bootBuiltins "zip" = some (.type "zip") := by decide +kernel
section
variable {X : Cx} {pins : List (Addr × Obj)} {σ : St} {H : Hp} {s : Shared} {h' : Heap}
theorem Inv.turnedL {t' : Nat} {fp : List Addr} (I : Inv X pins σ H s) (k : ∀ b o, b ∉ fp -> s.heap.get? b = some o -> h'.get? b = some o) (hf : ∀ b ∈ fp, A1q X pins H b) : Inv X pins σ H { s with heap := h', toks := t' } := by
 have nit : ∀ b u, H b = some u -> b ∉ fp := fun b u e z => by rw [(hf b z).1] at e; cases e
 refine I.step (g' := s.gens) (d' := s.drawn) (ch := fp) (fun b hb => ?_) (fun b o _ _ hc e _ => k b o hc e) (fun b o _ _ hc e _ => ⟨o.slots, k b o hc e⟩) (fun _ _ _ _ n => n)
   (fun b o hc e => ⟨o, k b o hc e⟩) (fun _ _ e => e) (fun _ _ _ e => e) (fun b ps e => ⟨#[], by rw [e]; simp⟩) (fun m hm => ?_) (fun b u e => ?_) I.bare
 . obtain ⟨_, f1, _, f3, f4, f5⟩ := hf b hb
   exact ⟨f3, f1, f4, f5⟩
 . obtain ⟨o, es, ep, ho, r⟩ := hm
   exact ⟨o, es, ep, k _ o (fun z => (hf _ z).2.1 rfl) ho, r⟩
 . refine (I.hok b u e).stay (fun c v hc q => k c v ?_ q) (fun _ q => q) fun _ _ q => q
   rcases hc with z | z
   . rw [z]; exact nit b u e
   . exact nit c _ z
theorem Inv.paired {t' : Nat} {fp : List Addr} {x y : V} {u v : Value} (I : Inv X pins σ H s) (rx : RelV x u) (ry : RelV y v) (hf : ∀ b ∈ fp, A1q X pins H b) (hl : ∀ b ∈ fp, b < s.heap.objs.size)
   (k : ∀ b o, b ∉ fp -> s.heap.get? b = some o -> h'.get? b = some o) (hT : h'.get? s.heap.objs.size = some { cls := .type "tuple", data := .seq #[u, v] }) :
   Inv X pins σ (upd H s.heap.objs.size (.tup [x, y])) { s with heap := h', toks := t' } /\ ∀ b ∈ fp, upd H s.heap.objs.size (.tup [x, y]) b = none := by
 have hn : ∀ b ∈ fp, upd H s.heap.objs.size (.tup [x, y]) b = none := fun b hb => by rw [C8 (Nat.ne_of_lt (hl b hb))]; exact (hf b hb).1
 have I1 : Inv X pins σ (upd H s.heap.objs.size (.tup [x, y])) { s with heap := s.heap.push { cls := .type "tuple", data := .seq #[u, v] }, toks := t' } :=
   I.laid (fun b o z => Heap.get?_push_of_some _ z) (Nat.le_refl _) ⟨D6 (by show 2 <= 1000; decide), [u, v], .cons rx (.cons ry .nil), ⟨_, Heap.get?_push_size _ rfl, rfl, _, rfl⟩⟩
 have I2 : Inv X pins σ (upd H s.heap.objs.size (.tup [x, y])) { heap := h', gens := s.gens, drawn := s.drawn, toks := t', os := s.os } := Inv.turnedL (s := { heap := s.heap.push { cls := .type "tuple", data := .seq #[u, v] }, gens := s.gens, drawn := s.drawn, toks := t', os := s.os }) (h' := h') (t' := t') (fp := fp) I1 (fun b o hb z => ?_) (fun b hb => ⟨hn b hb, (hf b hb).2⟩)
 . exact ⟨I2, hn⟩
 rcases Heap.get?_push_cases z with ⟨rfl, rfl⟩ | z
 . exact hT
 . exact k b o hb z
end
def Itz (K : Frag) (a b : Addr) : It :=
 ⟨fun i H => ∃ xs ys x y, SqL K H a xs /\ SqL K H b ys /\ xs[i]? = some x /\ ys[i]? = some y,
  fun i H x H' => ∃ t u v, x = .ref t /\ H t = none /\ H' = upd H t (.tup [u, v]) /\ (∀ xs, SqL K H a xs -> xs[i]? = some u) /\ ∀ ys, SqL K H b ys -> ys[i]? = some v,
  fun i H => ∃ xs ys, SqL K H a xs /\ SqL K H b ys /\ (xs.length <= i \/ ys.length <= i)⟩
theorem V0d {P : Program} {w : World} {K : Frag} {es : List Expr} {k : Nat} {pos : Pos} (a b z TI TO i1 i2 : Addr) (D : ZipApart z TI TO i1 i2 a b) :
   Turn P w K (.Tuple es k pos) (Itz K a b) [z, TI, TO, i1, i2] z (fun i h => IsZip h z TI TO .none /\ IsPair h TI (.ref i1) (.ref i2) /\ (∃ u v, IsPair h TO u v) /\ h.IsListIter i1 a i /\ h.IsListIter i2 b i) where
 mem := by simp
 obj := fun i h st c hc => by
   obtain ⟨hz, hTI, ⟨u, v, hTO⟩, ⟨o1, e1, c1, d1⟩, o2, e2, c2, d2⟩ := st
   rcases (by simpa using hc : c = z \/ c = TI \/ c = TO \/ c = i1 \/ c = i2) with rfl | rfl | rfl | rfl | rfl
   . exact ⟨_, hz, fun v z => by
       have z' : Data.fields _ = Data.cell v := z
       cases z'⟩
   . exact ⟨_, hTI, fun v z => by
       have z' : Data.seq _ _ = Data.cell v := z
       cases z'⟩
   . exact ⟨_, hTO, fun v z => by
       have z' : Data.seq _ _ = Data.cell v := z
       cases z'⟩
   . exact ⟨o1, e1, fun v z => by rw [d1] at z; cases z⟩
   . exact ⟨o2, e2, fun v z => by rw [d2] at z; cases z⟩
 keep := fun i h h' st k => by
   obtain ⟨hz, hTI, ⟨u, v, hTO⟩, h1, h2⟩ := st
   exact ⟨k z (by simp) _ hz, k TI (by simp) _ hTI, ⟨u, v, k TO (by simp) _ hTO⟩, h1.at fun o x => k i1 (by simp) o x, h2.at fun o x => k i2 (by simp) o x⟩
 item := by
   intro X hP hw hK hc i pins s σ H E I hf st hg
   subst hP hw hK
   obtain ⟨xs, ys, x, y, hq, hr, hx, hy⟩ := hg
   obtain ⟨its, rv, p, _⟩ := I.list hq
   obtain ⟨jts, rw', p', _⟩ := I.list hr
   obtain ⟨u, hu, ru⟩ := rv.get hx
   obtain ⟨v, hv, rv'⟩ := rw'.get hy
   obtain ⟨hz, hTI, ⟨c0, c1, hTO⟩, h1, h2⟩ := st
   have zlt : z < s.heap.objs.size := Heap.lt_size hz
   have lts : ∀ c ∈ [z, TI, TO, i1, i2], c < s.heap.objs.size := fun c hc => by
     obtain ⟨o1, e1, _⟩ := id h1
     obtain ⟨o2, e2, _⟩ := id h2
     rcases (by simpa using hc : c = z \/ c = TI \/ c = TO \/ c = i1 \/ c = i2) with rfl | rfl | rfl | rfl | rfl
     . exact zlt
     . exact Heap.lt_size hTI
     . exact Heap.lt_size hTO
     . exact Heap.lt_size e1
     . exact Heap.lt_size e2
   refine wpAny_pyNext_zip_item D hz hTI hTO h1 h2 p.isList p'.isList (x := u) (y := v) (by simpa using hu) (by simpa using hv) fun g1 ho hTO1 h11 h21 hT hsz hk => ?_
   refine ⟨_, rfl, wpAny_letOwnedTupleGo_zip ho fun g2 hz2 hs2 => ?_⟩
   have hs2 : Heap.SameBut z g1 g2 := hs2
   obtain ⟨I2, hn⟩ := I.paired (h' := g2) (t' := s.toks) (fp := [z, TI, TO, i1, i2]) ru rv' hf lts
     (fun c o hb q => (hs2.2 c (fun w => hb (by simp [w]))).trans (hk c o (fun w => hb (by simp [w])) (fun w => hb (by simp [w])) (fun w => hb (by simp [w])) (fun w => hb (by simp [w])) q)) ((hs2.2 _ (Nat.ne_of_gt zlt)).trans hT)
   refine ⟨.ref s.heap.objs.size, _, I2, rfl, ⟨_, x, y, rfl, I.hok.fresh (Nat.le_refl _), rfl, fun ws hw => by rw [I.list_inj hw hq]; exact hx, fun ws hw => by rw [I.list_inj hw hr]; exact hy⟩, ⟨hz2, ?_, ⟨u, v, ?_⟩, ?_, ?_⟩, hn⟩
   . exact (hs2.2 _ D.TIz).trans (hk TI _ D.TIz D.TITO D.TIi1 D.TIi2 hTI)
   . exact (hs2.2 _ D.TOz).trans hTO1
   . exact h11.at fun o q => (hs2.2 _ D.i1z).trans q
   . exact h21.at fun o q => (hs2.2 _ D.i2z).trans q
 done := by
   intro X hP hw hK hc i pins s σ H E I hf st hg
   subst hP hw hK
   obtain ⟨xs, ys, hq, hr, hx⟩ := hg
   obtain ⟨its, rv, p, _⟩ := I.list hq
   obtain ⟨jts, rw', p', _⟩ := I.list hr
   obtain ⟨hz, hTI, ⟨c0, c1, hTO⟩, h1, h2⟩ := st
   have hl := rv.length
   have hl' := rw'.length
   refine wpAny_pyNext_zip_end (I.ok.hd hc) D hz hTI hTO h1 h2 p.isList p'.isList ?_ fun h' eb => ⟨rfl, I.turnedL (t' := s.toks) (fp := [z, TI, TO, i1, i2]) (fun c o hb q => eb c o (fun w => hb (by simp [w])) (fun w => hb (by simp [w])) (fun w => hb (by simp [w])) (fun w => hb (by simp [w])) q) hf⟩
   rcases hx with hx | hx
   . exact .inl (by simp; omega)
   . exact .inr (by simp; omega)
 self := fun _ _ _ _ _ st h => wpAny_pyIter_zip st.1 h
theorem U1n (n l l' : Nat) (h1 : l < n) (h2 : l' < n) : ZipApart (n + 4) (n + 2) (n + 3) n (n + 1) l l' := by
 constructor <;> (show @Ne Nat _ _; omega)
section
variable {X : Cx} {es : List Expr} {k : Nat} {tp : Pos}
def Z9m (K : Frag) (ta : TA) : TI := fun σ H R => ta σ H fun vs H1 => ∃ a b, vs = [.ref a, .ref b] /\ (∃ xs, SqL K H1 a xs) /\ (∃ ys, SqL K H1 b ys) /\ R (Itz K a b) H1
theorem Y9t {a b : Expr} {ta : TA} {p pos : Pos} (hg : Gl X "zip") (hm : X.mg "zip" = none) (ha : PA X [a, b] ta) (hs : starEach [a, b] X.env = [(false, eval a X.env), (false, eval b X.env)] := by rfl) (hs2 : starEach [b] X.env = [(false, eval b X.env)] := by rfl) :
   PI X (.Tuple es k tp) (.Call (.Name "zip" p) [a, b] [] pos) (Z9m X.K ta) := by
 intro pins s σ H R I h
 refine Call_ (C2c I hg hm U6t (PyProof.Rows.callWith_type1 (thn (ha pos pins s σ H _ I h) fun us s1 ⟨vs, H1, I1, r1, q1⟩ => ?_) (by rw [hs, hs2]) (by rw [hs2]; rfl)))
 obtain ⟨l, l', e, ⟨xs, hq⟩, ⟨ys, hr⟩, q⟩ := q1
 subst e
 cases r1 with
 | cons r rr =>
   cases rr with
   | cons r' rr =>
     cases rr
     cases r
     cases r'
     obtain ⟨its, rv, pl, _⟩ := I1.list hq
     obtain ⟨jts, rw', pl', _⟩ := I1.list hr
     obtain ⟨o1, e1, _⟩ := id pl.isList
     obtain ⟨o2, e2, _⟩ := id pl'.isList
     have l1 := Heap.lt_size e1
     have l2 := Heap.lt_size e2
     refine call_zip_2 pl.isList pl'.isList fun h' hz hTI hTO h1 h2 hsz hk => wpAny_pyIter_zip hz ?_
     have I2 : Inv X pins σ H1 { s1 with heap := h' } := I1.kept (t' := s1.toks) hk
     have D : ZipApart (s1.heap.objs.size + 4) (s1.heap.objs.size + 2) (s1.heap.objs.size + 3) s1.heap.objs.size (s1.heap.objs.size + 1) l l' := U1n _ _ _ l1 l2
     refine ⟨s1.heap.objs.size + 4, [s1.heap.objs.size + 4, s1.heap.objs.size + 2, s1.heap.objs.size + 3, s1.heap.objs.size, s1.heap.objs.size + 1], _, _, H1, rfl, I2, V0d l l' _ _ _ _ _ D, ⟨hz, hTI, ⟨_, _, hTO⟩, h1, h2⟩, fun b hb => ?_, q⟩
     have hb : b = s1.heap.objs.size + 4 \/ b = s1.heap.objs.size + 2 \/ b = s1.heap.objs.size + 3 \/ b = s1.heap.objs.size \/ b = s1.heap.objs.size + 1 := by simpa using hb
     have ge : s1.heap.objs.size <= b := by
       rcases hb with rfl | rfl | rfl | rfl | rfl
       . exact Nat.le_add_right _ _
       . exact Nat.le_add_right _ _
       . exact Nat.le_add_right _ _
       . exact Nat.le_refl _
       . exact Nat.le_add_right _ _
     exact I1.fpOk ge (I1.hok.fresh ge)
end
def G6n (D : Addr) (H H' : Hp) : Prop := ∀ b o, H b = some o -> b ≠ D -> H' b = some o
theorem B1m {J : It} {g : TG} {te : TE} {σ0 : St} {H1 : Hp} {QD : Addr -> Hp -> Prop} {n : Nat} (R : Nat -> V -> Hp -> Prop) (hn : n <= 1000)
   (mono : ∀ i y H' H'' D l, R i y H' -> H' D = some (.lst l) -> G6n D H' H'' -> R i y H'')
   (step : ∀ i H2 Qy, i < n -> Same H1 H2 -> (∀ y H6, Same H2 H6 -> R i y H6 -> Qy y H6) -> J.go i H2 /\ ∀ x H3, J.yld i H2 x H3 -> g x σ0 H3 fun σ4 H4 => te σ4 H4 Qy)
   (stop : ∀ H2, Same H1 H2 -> J.stop n H2)
   (k : ∀ D H' ys, Same H1 H' -> H1 D = none -> H' D = some (.lst ys) -> ys.length = n -> (∀ i y, ys[i]? = some y -> R i y H') -> QD D H') : ∀ D, H1 D = none ->
   ∃ (m : Nat) (W : Nat -> List V -> Hp -> Prop), W 0 [] (upd H1 D (.lst [])) /\ ∀ i ys H2, W i ys H2 -> i <= m /\ H2 D = some (.lst ys) /\ ((J.stop i H2 /\ QD D H2) \/ (i < m /\ J.go i H2 /\ ∀ x H3, J.yld i H2 x H3 ->
     g x σ0 H3 fun σ4 H4 => te σ4 H4 fun y H6 => H6 D = some (.lst ys) /\ ys.length < sizeLine /\ W (i + 1) (ys ++ [y]) (upd H6 D (.lst (ys ++ [y]))))) := by
 intro D hD
 refine ⟨n, fun i ys H2 => i <= n /\ ys.length = i /\ H2 D = some (.lst ys) /\ Same H1 H2 /\ ∀ j y, ys[j]? = some y -> R j y H2, ⟨Nat.zero_le _, rfl, A9, Same.upd hD, fun j y h => by simp at h⟩, ?_⟩
 rintro i ys H2 ⟨hi, hl, hd, sm, hR⟩
 refine ⟨hi, hd, ?_⟩
 by_cases hlt : i < n
 . refine .inr ⟨hlt, step i H2 _ hlt sm fun y H6 s6 r6 => ?_⟩
   have d6 : H6 D = some (.lst ys) := s6 _ _ hd
   have ex : G6n D H6 (upd H6 D (.lst (ys ++ [y]))) := fun b o e hb => by rw [C8 hb]; exact e
   refine ⟨d6, Nat.lt_of_le_of_lt (by omega : ys.length <= 1000) (A0d (Nat.le_refl _)), hlt, by simp [hl], A9, fun b o e => ?_, fun j z hj => ?_⟩
   . rw [C8 (D0 e hD)]
     exact s6 _ _ (sm _ _ e)
   . by_cases hj' : j < ys.length
     . rw [List.getElem?_append_left hj'] at hj
       exact mono j z H6 _ D ys (mono j z H2 H6 D ys (hR j z hj) hd fun b o e _ => s6 _ _ e) d6 ex
     . rw [List.getElem?_append_right (by omega)] at hj
       have e0 : j - ys.length = 0 := by
         apply Classical.byContradiction
         intro q
         rw [List.getElem?_eq_none (by simp; omega)] at hj
         cases hj
       rw [e0] at hj
       have ej : j = i := by omega
       subst ej
       cases hj
       exact mono _ _ H6 _ D ys r6 d6 ex
 . have e : i = n := by omega
   subst e
   exact .inl ⟨stop H2 sm, k D H2 ys sm hD hd hl hR⟩
open AutoSeq1 (wpAny_loadPart')
section
variable {prog : Program} {w : World} {A : Around} {E : Value -> Shared -> Prop} {s : Shared}
end
section
variable {X : Cx} {es : List Expr} {k : Nat} {tp : Pos}
end
end L2
namespace L2
open PySem PySem.Spec PyProof.Rows PySem.W
section
variable {X : Cx}
end
end L2
namespace L2
open PySem PySem.W PyProof.Rows
section
variable {X : Cx} {o e : Expr} {ta : TE} {m : Str} {apos pos : Pos} {j k : Nat} {ps : List Str} {ι : Type} {cw f : ι -> Addr} {fd : ι -> FuncData} {sp : ι -> Sp} {EH : EK}
end
section
variable {X : Cx} {a b e o : Expr} {es : List Expr} {ta tb te to : TE} {t : TA} {pos : Pos} {st : Stmt} {rest : List Stmt} {ts u : TS}
end
end L2
namespace L2
open PySem PySem.Spec PyProof.Rows PySem.W
section
variable {X : Cx} {x f : Str} {p cpos pos : Pos} {e : Expr} {t : TA} {C fI : Addr} {fdI : FuncData} {ps : List Str} {j k : Nat}
end
section
variable {X : Cx} {x y : Str} {e : Expr} {t : TE} {p q : Pos} {pos pos2 : Pos}
end
end L2
namespace L2
open PySem PySem.Spec PyProof.Rows
end L2
namespace L2
open PySem PySem.Spec PyProof.Rows PySem.W
mutual
inductive RdR (H : Hp) : V -> PyData -> Prop where
 | non : RdR H .non .none
 | bl (b : Bool) : RdR H (.bl b) (.bool b)
 | int (i : Int) : RdR H (.int i) (.int i)
 | str (x : Str) : RdR H (.str x) (.str x)
 | tup {a : Addr} {xs : List V} {ds : List PyData} (h : H a = some (.tup xs)) (r : RdRs H xs ds) : RdR H (.ref a) (.tuple ds)
 | lst {a : Addr} {xs : List V} {ds : List PyData} (h : H a = some (.lst xs)) (n : a ≠ sysModules) (r : RdRs H xs ds) : RdR H (.ref a) (.list ds)
 | dct0 {a : Addr} (h : H a = some (.dK [])) : RdR H (.ref a) (.dict [])
 | dct1 {a : Addr} {z : Str} {b : Bool} (h : H a = some (.dK [(.inr z, .bl b)])) : RdR H (.ref a) (.dict [(.str z, .bool b)])
inductive RdRs (H : Hp) : List V -> List PyData -> Prop where
 | nil : RdRs H [] []
 | cons {x : V} {xs : List V} {d : PyData} {ds : List PyData} (h : RdR H x d) (r : RdRs H xs ds) : RdRs H (x :: xs) (d :: ds)
end
mutual
theorem RdR.same {H H' : Hp} (s : ∀ b o, H b = some o -> H' b = some o) : ∀ {x : V} {d : PyData}, RdR H x d -> RdR H' x d
 | _, _, .non => .non
 | _, _, .bl b => .bl b
 | _, _, .int i => .int i
 | _, _, .str x => .str x
 | _, _, .tup h r => .tup (s _ _ h) (RdRs.same s r)
 | _, _, .lst h n r => .lst (s _ _ h) n (RdRs.same s r)
 | _, _, .dct0 h => .dct0 (s _ _ h)
 | _, _, .dct1 h => .dct1 (s _ _ h)
theorem RdRs.same {H H' : Hp} (s : ∀ b o, H b = some o -> H' b = some o) : ∀ {x : List V} {d : List PyData}, RdRs H x d -> RdRs H' x d
 | _, _, .nil => .nil
 | _, _, .cons h r => .cons (RdR.same s h) (RdRs.same s r)
end
section
variable {X : Cx}
mutual
theorem RdR.reads {pins : List (Addr × Obj)} {σ : St} {H : Hp} {s : Shared} (I : Inv X pins σ H s) : ∀ {x : V} {d : PyData} {u : Value}, RdR H x d -> RelV x u -> ∃ as, Reads s.heap u d as /\ sysModules ∉ as
 | _, _, _, .non, r => by cases r; exact ⟨_, .none, by simp⟩
 | _, _, _, .bl b, r => by cases r; exact ⟨_, .bool b, by simp⟩
 | _, _, _, .int i, r => by obtain ⟨t, rfl⟩ := r; exact ⟨_, .int i t, by simp⟩
 | _, _, _, .str x, r => by obtain ⟨t, rfl⟩ := r; exact ⟨_, .str x t, by simp⟩
 | _, _, _, .tup h q, r => by
   cases r
   obtain ⟨_, its, rv, o, e, c, n, d⟩ := I.hok _ _ h
   obtain ⟨as, z, y⟩ := RdRs.reads I q rv
   exact ⟨_, .tuple e c d (by simpa using z), y⟩
 | _, _, _, .lst (a := a) h nn q, r => by
   cases r
   obtain ⟨_, its, n, rv, e⟩ := I.hok _ _ h
   obtain ⟨as, z, y⟩ := RdRs.reads I q rv
   refine ⟨_, .list e rfl rfl (by simpa using z), fun hm => ?_⟩
   rcases List.mem_cons.mp hm with hm | hm
   . exact nn hm.symm
   . exact y hm
 | _, _, _, .dct0 (a := a) h, r => by
   cases r
   obtain ⟨_, nS, vs, kv, o, es, ep, e, c, d, _, ps, _⟩ := I.hok _ _ h
   cases kv
   cases hp : es.toList with
   | cons _ _ => rw [hp] at ps; cases ps
   | nil =>
     refine ⟨_, .dict (kvs := []) e c.1 d (by rw [hp]; exact .nil) (by rw [hp]; exact .nil), fun hm => ?_⟩
     exact beq_eq_false_iff_ne.mp nS (by simpa using hm : sysModules = a).symm
 | _, _, _, .dct1 (a := a) (z := z) (b := b) h, r => by
   cases r
   obtain ⟨_, nS, vs, kv, o, es, ep, e, c, d, _, ps, _⟩ := I.hok _ _ h
   cases kv with
   | cons k1 k2 =>
     cases k2
     obtain ⟨k1a, k1b⟩ := k1
     cases ps' : es.toList with
     | nil => rw [ps'] at ps; cases ps
     | cons en rest =>
       rw [ps'] at ps
       cases ps with
       | cons p1 p2 p3 =>
         cases p3
         have hk : ∃ t, en.key = .str z t := by
           rw [<- k1a] at p1
           have p1 : Value.isStrOf z en.key = true := p1
           cases hk : en.key <;> rw [hk] at p1 <;> simp [Value.isStrOf] at p1
           subst p1
           exact ⟨_, rfl⟩
         obtain ⟨t, hk⟩ := hk
         have hv : en.val = .bool b := p2.trans k1b
         refine ⟨_, .dict (kvs := [(.str z, .bool b)]) e c.1 d (by rw [ps']; show ReadsAll s.heap [en.key] [.str z] _; rw [hk]; exact .cons (.str z t) .nil) (by rw [ps']; show ReadsAll s.heap [en.val] [.bool b] _; rw [hv]; exact .cons (.bool b) .nil), fun hm => ?_⟩
         exact beq_eq_false_iff_ne.mp nS (by simpa using hm : sysModules = a).symm
theorem RdRs.reads {pins : List (Addr × Obj)} {σ : St} {H : Hp} {s : Shared} (I : Inv X pins σ H s) : ∀ {xs : List V} {ds : List PyData} {us : List Value}, RdRs H xs ds -> Vals xs us -> ∃ as, ReadsAll s.heap us ds as /\ sysModules ∉ as
 | _, _, _, .nil, r => by cases r; exact ⟨_, .nil, by simp⟩
 | _, _, _, .cons h q, r => by
   cases r with
   | cons r1 r2 =>
     obtain ⟨as, z, n1⟩ := RdR.reads I h r1
     obtain ⟨bs, y, n2⟩ := RdRs.reads I q r2
     exact ⟨_, .cons z y, by simp [n1, n2]⟩
end
end
section
variable {X : Cx} {j k : Nat} {f C : Addr} {fd : FuncData} {ps : List Str} {sp : Sp} {dvs : List V} {ds : List Value} {x m : Str} {p pos apos : Pos} {e o : Expr} {es : List Expr} {ta : TE} {t : TA} {st : Stmt}
end
section
variable {cs : List Addr} {H H' H2 : Hp} {b : Addr} {P : Program} {w : World} {h h' : Heap} {fs : List Addr}
end
section
variable {X : Cx} {j k : Nat} {f : Addr} {fd : FuncData} {ps : List Str} {sp : Sp} {ds : List Value} {EH : EK} {x : Str} {p pos : Pos} {e : Expr} {es : List Expr} {t : TA} {st : Stmt}
end
section
variable {X : Cx}
end
section
variable {X : Cx} {tg : Expr}
end
section
variable {X : Cx}
end
section
variable {prog : Program} {w : World} {A : Around} {E : Value -> Shared -> Prop} {s : Shared}
end
section
variable {X : Cx} {pos : Pos}
end
section
variable {X : Cx} {pos tpos pa pb : Pos}
end
section
variable {X : Cx} {N F : List Str} {js : List Nat} {scope : Scope}
theorem J9t {i : Nat} {y : Str} {py spos : Pos} {elt target iter : Expr} {pos : Pos} {wi : TI} {g : TG} {te : TE} (S : CompScopeF N F js scope X.N X.env) (hd : Y1 X) (hi : PIH X target iter wi) (hex : X.ex = [])
   (hg : ∀ C s₀ H₀ ex pn, Y1 (X.compF scope N F C s₀ H₀ ex pn) -> PG (X.compF scope N F C s₀ H₀ ex pn) target g)
   (he : ∀ C s₀ H₀ ex pn, Y1 (X.compF scope N F C s₀ H₀ ex pn) -> PE (X.compF scope N F C s₀ H₀ ex pn) elt te) (hN : X.N.Nodup) (hi' : X.N[i]? = some y) (hy : Loc X.env.scope y)
   (hf : X.fn y = true \/ X.env.scope.names.lookup y = some .local := by first | exact .inl rfl | exact .inr rfl | assumption)
   (hsw : swapsWith (.ListComp elt [⟨target, iter, [], 0⟩] scope pos) (some (.Name y py)) spos.line X.env = pure true := by rfl)
   (hs : ∀ x, foldedSetIterable iter X.env x = pure x := by intro _; rfl) : PS X (.Assign [.Name y py] (.ListComp elt [⟨target, iter, [], 0⟩] scope pos) spos) (Y4r (D2z N.length js wi g te) (G3e i)) := by
 intro pins s σ H D I h
 rw [exec_Assign_Name_used _ _ _ _ hsw]
 refine wpAny_bind (wpAny_standAt (wpAny_bind ?_))
 show wpAny _ X.A (do let _ <- comprehension (.ListComp elt [⟨target, iter, [], 0⟩] scope pos) scope X.env _ (newList []) false (eval iter X.env) (some (assign (.Name y py) X.env))) _ _ s
 refine wpAny_bind (wpAny_mono (wpAny_comprehension_free (Q := fun _ s' => SP X pins D .next s') rfl hs S.clos S.kind S.loc (C0g S hd hi hex hg he I h (RR := fun acc ce r s' => compPost (model X.prog X.w) X.A X.xe (some (assign (.Name y py) X.env)) (fun _ s' => SP X pins D .next s') acc ce.locals r s') ?_))
   (fun _ s' hq => wpAny_pure (wpAny_pure hq)) fun _ _ e => e)
 intro D' C s6 H5 mm I6 n6 f6 q
 refine wpAny_assign_Name (B5v (v := .ref D') I6 hN hi' hy rfl (fun s7 I7 st => ?_) hf)
 obtain ⟨a, sb, ha⟩ := st
 have na : C ≠ a := by
   rcases ha with rfl | ha
   . exact f6.2.1
   . exact (f6.2.2.2.2.1 y a ha).symm
 exact ⟨mm, n6.sameBut sb na, fun h' sb' => ⟨_, _, G2h I7 f6 sb', q⟩⟩
end
end L2
namespace TR
open PySem L2 PySem.W PyProof.Rows
seal PE PS PSs PA PT PW PG PGs PI
def top (i : Nat) : Stmt := PySem.Challenge.pw_tenreckon_k37_whole_order_kept.main.body.getD i (.Pass ⟨0, 0, 0, 0⟩)
abbrev C6w : Stmt := (top 25)
section
variable {P : Program} {w : World} {K : Frag} {mg : Str -> Option Value} {base : Heap}
def Z6u (K : Frag) : Sp := fun vs H Q _ => ∃ v lo hi, vs = [v, .int lo, .int hi] /\ ((B2c lo hi v /\ Q (.bl true) H) \/ (C6s K H lo hi v /\ Q (.bl false) H))
theorem Z6f : FnScope ["thing", "least", "most"] ["thing", "least", "most"] (A1 C6w) := scK
theorem U9a {f : Addr} {fd : FuncData} (D : Def K mg "is_between" ["thing", "least", "most"] C6w f fd) (O : Own mg) (T : Kit K) : FnOk P w K mg base (CX1 P w) 1 f fd ["thing", "least", "most"] (Z6u K) := by
 refine FnOk.up (D.F.ok Z6f (fun vs H Q E h => ?_) (fun cdv A outer s H vs Q E hr h => ?_))
 . obtain ⟨v, lo, hi, rfl, _⟩ := h
   rfl
 . obtain ⟨v, lo, hi, rfl, h⟩ := h
   refine ⟨_, (A4 (D9 (PW.pt (U7m (Y3 (J5 (U0c O.isi (pv 0) (pty O.int_ boot_int)))) (G7j (J5 (U0c O.isi (pv 0) (pty O.bool_ boot_bool)))))) (A5 (B0 Y4)) C5)
     (A5 (B0 (C2r (G9 U6r (pv 0) (pv 1) (B8 _)) (B6b (G9 Y9b (pv 0) (pv 2) (B8 _))))))), ?_⟩
   rcases h with ⟨⟨i, rfl, h1, h2⟩, k⟩ | ⟨⟨t, b1, b2, ty, k1, k2, bad⟩, k⟩
   . refine ⟨_, rfl, _, _, _, _, true, rfl, rfl, Y9f i, T.int_int, _, rfl, U4 ?_⟩
     refine ⟨_, rfl, _, _, _, _, false, rfl, rfl, Y9f i, T.int_bool, _, rfl, U4 ?_⟩
     refine ⟨_, rfl, _, rfl, _, _, rfl, rfl, _, rfl, G2v h1 ?_⟩
     refine ⟨_, rfl, _, rfl, _, _, rfl, rfl, ?_⟩
     show Q (.bl (decide (i <= hi))) H
     rw [decide_eq_true h2]
     exact k
   . refine ⟨_, rfl, _, _, _, _, b1, rfl, rfl, ty, k1, _, rfl, ?_⟩
     cases b1 with
     | false => exact Y5 (Y5 k)
     | true =>
       refine U4 ⟨_, rfl, _, _, _, _, b2, rfl, rfl, ty, k2, _, rfl, ?_⟩
       cases b2 with
       | true => exact Y5 k
       | false =>
         obtain ⟨i, rfl, out⟩ := bad.resolve_left (by decide)
         refine U4 ⟨_, rfl, _, rfl, _, _, rfl, rfl, _, rfl, G8 (fun h1 => ?_) (fun h1 => ?_)⟩
         . refine ⟨_, rfl, _, rfl, _, _, rfl, rfl, ?_⟩
           show Q (.bl (decide (i <= hi))) H
           rw [decide_eq_false (by omega : ¬ i <= hi)]
           exact k
         . exact k
end
structure Err (K : Frag) (mg : Str -> Option Value) (x : Str) (CB : Addr) : Prop where
 g : mg x = some (.ref CB)
 q : excIn K CB [.type "ValueError", .type "Exception", .type "BaseException", .type "object"] "ValueError.__new__" = true
def B4p (lo hi : Int) : Prop := lo.natAbs.log2 < 1920 /\ hi.natAbs.log2 < 1920 /\ (Str.ofString (toString lo)).length <= 100 /\ (Str.ofString (toString hi)).length <= 100
abbrev A2e : Stmt := (top 58)
section
variable {P : Program} {w : World} {K : Frag} {mg : Str -> Option Value} {base : Heap}
def D0s (K : Frag) (CB : Addr) : Sp := fun vs H Q E => ∃ v lo hi, vs = [v, .int lo, .int hi] /\ B4p lo hi /\ ((B2c lo hi v /\ Q v H) \/ (C6s K H lo hi v /\ E (.ref CB) none H))
theorem U0f : FnScope ["thing", "least", "most"] ["thing", "least", "most"] (A1 A2e) := scK
theorem G7z {f f1 CB : Addr} {fd fd1 : FuncData} (D : Def K mg "bounded" ["thing", "least", "most"] A2e f fd) (D1 : Def K mg "is_between" ["thing", "least", "most"] C6w f1 fd1) (O : Own mg) (T : Kit K) (B : Err K mg "BadContext" CB) :
   FnOk P w K mg base (CX1 P w) 2 f fd ["thing", "least", "most"] (D0s K CB) := by
 have G1 := U9a (P := P) (w := w) (base := base) D1 O T
 refine D.F.okE U0f (fun vs H Q E h => ?_) (fun X cdv A outer s H vs Q E hX hr hx h => ?_)
 . obtain ⟨v, lo, hi, rfl, _⟩ := h
   rfl
 . subst hX
   obtain ⟨v, lo, hi, rfl, ⟨l1, l2, l3, l4⟩, h⟩ := h
   refine ⟨_, (A4 (D9 (Y3 (J5 (B5 D1 G1 hr hx (A0 (pv 0) (A0 (pv 1) (A0 (pv 2) A3))))))
     (A5 (A2q (by rfl) B.g B.q PySem.F.excBase_ValueError hr.hd hx (A0 (J7q (.cons .lit (.cons (.int (pv 1)) (.cons .lit (.cons (.int (pv 2)) .nil))))) A3))) C5)
     (A5 (B0 (pv 0)))), ?_⟩
   rcases h with ⟨g, k⟩ | ⟨bad, k⟩
   . exact ⟨_, rfl, _, rfl, _, rfl, _, _, _, rfl, .inl ⟨g, _, rfl, U4 ⟨_, rfl, k⟩⟩⟩
   . have a0 : Str.empty.length = 0 := rfl
     have a1 : (Str.ofString "not a whole number from ").length = 24 := by decide +kernel
     have a2 : (Str.ofString " to ").length = 4 := by decide +kernel
     have sz : ∀ {n : Nat}, n <= 1000 -> n <= sizeLine := fun h => Nat.le_of_lt (A0d h)
     refine ⟨_, rfl, _, rfl, _, rfl, _, _, _, rfl, .inr ⟨bad, _, rfl, Y5 ?_⟩⟩
     exact ⟨_, rfl, sz (by rw [strLen_append]; omega), _, rfl, _, rfl, l1, _, rfl, sz (by rw [strLen_append, strLen_append]; omega), _, rfl, sz (by rw [strLen_append, strLen_append, strLen_append]; omega), _, rfl, _, rfl, l2, _, rfl, sz (by rw [strLen_append, strLen_append, strLen_append, strLen_append]; omega), sz (by rw [strLen_append, strLen_append, strLen_append, strLen_append]; omega), sz (by show 1 <= 1000; decide), k⟩
end
abbrev A0t : Stmt := (top 26)
section
variable {P : Program} {w : World} {K : Frag} {mg : Str -> Option Value} {base : Heap}
def U0y (K : Frag) (CB : Addr) : Sp := fun vs H Q E => ∃ v lo hi, vs = [v, .int lo, .int hi] /\ B4p lo hi /\
 ((B2c lo hi v /\ Q .non H) \/ (C6s K H lo hi v /\ E (.ref CB) none H))
theorem U0b : FnScope ["thing", "least", "most"] ["thing", "least", "most"] (A1 A0t) := scK
theorem C1p {f f1 CB : Addr} {fd fd1 : FuncData} (D : Def K mg "need_between" ["thing", "least", "most"] A0t f fd) (D1 : Def K mg "is_between" ["thing", "least", "most"] C6w f1 fd1) (O : Own mg) (T : Kit K) (B : Err K mg "BadNumber" CB) :
   FnOk P w K mg base (CX1 P w) 2 f fd ["thing", "least", "most"] (U0y K CB) := by
 have G1 := U9a (P := P) (w := w) (base := base) D1 O T
 refine D.F.okE U0b (fun vs H Q E h => ?_) (fun X cdv A outer s H vs Q E hX hr hx h => ?_)
 . obtain ⟨v, lo, hi, rfl, _⟩ := h
   rfl
 . subst hX
   obtain ⟨v, lo, hi, rfl, ⟨l1, l2, l3, l4⟩, h⟩ := h
   refine ⟨_, (A5 (D9 (Y3 (J5 (B5 D1 G1 hr hx (A0 (pv 0) (A0 (pv 1) (A0 (pv 2) A3))))))
     (A5 (A2q (by rfl) B.g B.q PySem.F.excBase_ValueError hr.hd hx (A0 (J7q (.cons .lit (.cons (.int (pv 1)) (.cons .lit (.cons (.int (pv 2)) .nil))))) A3))) C5)), ?_⟩
   rcases h with ⟨g, k⟩ | ⟨bad, k⟩
   . exact ⟨_, rfl, _, rfl, _, rfl, _, _, _, rfl, .inl ⟨g, _, rfl, U4 k⟩⟩
   . have a0 : Str.empty.length = 0 := rfl
     have a1 : (Str.ofString "not a whole number from ").length = 24 := by decide +kernel
     have a2 : (Str.ofString " to ").length = 4 := by decide +kernel
     have sz : ∀ {n : Nat}, n <= 1000 -> n <= sizeLine := fun h => Nat.le_of_lt (A0d h)
     refine ⟨_, rfl, _, rfl, _, rfl, _, _, _, rfl, .inr ⟨bad, _, rfl, Y5 ?_⟩⟩
     exact ⟨_, rfl, sz (by rw [strLen_append]; omega), _, rfl, _, rfl, l1, _, rfl, sz (by rw [strLen_append, strLen_append]; omega), _, rfl, sz (by rw [strLen_append, strLen_append, strLen_append]; omega), _, rfl, _, rfl, l2, _, rfl, sz (by rw [strLen_append, strLen_append, strLen_append, strLen_append]; omega), sz (by rw [strLen_append, strLen_append, strLen_append, strLen_append]; omega), sz (by show 1 <= 1000; decide), k⟩
end
abbrev D0v : Stmt := (D7 (top 15) 0)
abbrev C0h : Stmt := (top 19)
abbrev A2m : Stmt := (top 21)
structure Num (K : Frag) (mg : Str -> Option Value) (CN : Addr) : Prop where
 g : mg "Number" = some (.ref CN)
 cl : Cls K CN
 n1 : NoAttr K CN "kind"
 n2 : NoAttr K CN "sign"
 n3 : NoAttr K CN "figures"
 n4 : NoAttr K CN "power"
 ca : findIn K (.ref CN) "__class__" = some (some (.builtin "object.__class__"))
 sn : specialIn K (.builtin "object.__class__") "__get__" = some (some (.builtin "getset_descriptor.__get__"))
 tk : takesIn K (.builtin "object.__class__") = some true
 ob : mroIn K CN (.type "object") = some true
 self : kitOne K (.ref CN) (.ref CN) = some true
def C0r (k s f p : V) : List (Str × V) := J4 "power" p (J4 "figures" f (J4 "sign" s (J4 "kind" k [])))
theorem e12 : ¬ (("kind" : Str) = "sign") := by decide +kernel
theorem e13 : ¬ (("kind" : Str) = "figures") := by decide +kernel
theorem e14 : ¬ (("kind" : Str) = "power") := by decide +kernel
theorem e23 : ¬ (("sign" : Str) = "figures") := by decide +kernel
theorem e24 : ¬ (("sign" : Str) = "power") := by decide +kernel
theorem e34 : ¬ (("figures" : Str) = "power") := by decide +kernel
theorem C2f (k s f p : V) : (C0r k s f p).lookup ("kind" : Str) = some k := by unfold C0r; rw [D3, if_neg e14, D3, if_neg e13, D3, if_neg e12, D3, if_pos rfl]
theorem C6x (k s f p : V) : (C0r k s f p).lookup ("sign" : Str) = some s := by unfold C0r; rw [D3, if_neg e24, D3, if_neg e23, D3, if_pos rfl]
theorem G2f (k s f p : V) : (C0r k s f p).lookup ("figures" : Str) = some f := by unfold C0r; rw [D3, if_neg e34, D3, if_pos rfl]
theorem C6z (k s f p : V) : (C0r k s f p).lookup ("power" : Str) = some p := by unfold C0r; rw [D3, if_pos rfl]
def NumAt (CN : Addr) (H : Hp) (n : Addr) (k s f p : V) : Prop := ∃ dx, H n = some (.ins CN dx (C0r k s f p))
theorem NumAt.same {CN : Addr} {H H' : Hp} {n : Addr} {k s f p : V} (h : NumAt CN H n k s f p) (e : Same H H') : NumAt CN H' n k s f p := by
 obtain ⟨dx, z⟩ := h
 exact ⟨dx, e _ _ z⟩
theorem Num.ty {K : Frag} {mg : Str -> Option Value} {CN : Addr} (N : Num K mg CN) {H : Hp} {n : Addr} {k s f p : V} (h : NumAt CN H n k s f p) : TyE K H (.ref n) (.ref CN) := by
 obtain ⟨dx, z⟩ := h
 exact .of (.ins z N.cl N.ca N.sn N.tk N.ob)
section
variable {P : Program} {w : World} {K : Frag} {mg : Str -> Option Value} {base : Heap}
def D2r (CN : Addr) : Sp := fun vs H Q _ => ∃ (p dx : Addr) (k s f pw : V), vs = [.ref p, k, s, f, pw] /\ H p = some (.ins CN dx []) /\ ∀ H', H' p = some (.ins CN dx (C0r k s f pw)) -> (∀ b o, H b = some o -> b ≠ p -> H' b = some o) -> Q .non H'
theorem Z0v : FnScope ["self", "kind", "sign", "figures", "power"] ["self", "kind", "sign", "figures", "power"] (A1 D0v) := scK
theorem Y4s {f CN : Addr} {fd : FuncData} (F : Fun K "__init__" "Number.__init__" D0v f fd) (N : Num K mg CN) : FnOk P w K mg base CX0 1 f fd ["self", "kind", "sign", "figures", "power"] (D2r CN) := by
 refine F.ok Z0v (fun vs H Q E h => ?_) (fun cdv A outer s H vs Q E hr h => ?_)
 . obtain ⟨p, dx, a, b, c, d, rfl, _⟩ := h
   rfl
 . obtain ⟨p, dx, a, b, c, d, rfl, hp, k⟩ := h
   refine ⟨_, A4 (Z0 (pv 0) (pv 1) rfl) (A4 (Z0 (pv 0) (pv 2) rfl) (A4 (Z0 (pv 0) (pv 3) rfl) (A5 (Z0 (pv 0) (pv 4) rfl)))), ?_⟩
   have l : ∀ (fs : List (Str × V)) (f : Str) (v : V) (n : Nat), fs.length <= n -> (J4 f v fs).length <= n + 1 := fun fs f v n h => Nat.le_trans (A0n f v fs) (Nat.succ_le_succ h)
   refine ⟨_, rfl, _, rfl, p, CN, dx, [], rfl, hp, N.cl, N.n1, (by show 0 < 1000; decide), ?_⟩
   refine ⟨_, rfl, _, rfl, p, CN, dx, _, rfl, A9, N.cl, N.n2, Nat.lt_of_le_of_lt (l _ _ _ 0 (Nat.le_refl _)) (by decide), ?_⟩
   refine ⟨_, rfl, _, rfl, p, CN, dx, _, rfl, A9, N.cl, N.n3, Nat.lt_of_le_of_lt (l _ _ _ 1 (l _ _ _ 0 (Nat.le_refl _))) (by decide), ?_⟩
   refine ⟨_, rfl, _, rfl, p, CN, dx, _, rfl, A9, N.cl, N.n4, Nat.lt_of_le_of_lt (l _ _ _ 2 (l _ _ _ 1 (l _ _ _ 0 (Nat.le_refl _)))) (by decide), ?_⟩
   refine k _ A9 fun b o e hb => ?_
   rw [C8 hb, C8 hb, C8 hb, C8 hb]
   exact e
structure MakeN (P : Program) (w : World) (K : Frag) (mg : Str -> Option Value) (base : Heap) (CN fI : Addr) (fdI : FuncData) : Prop where
 m : Mk K CN fI
 g : FnOk P w K mg base CX0 1 fI fdI ["self", "kind", "sign", "figures", "power"] (D2r CN)
 b : Binds K fdI ["self", "kind", "sign", "figures", "power"] []
theorem made {CN : Addr} {H : Hp} {Q : VK} {k s f p : V} (h : ∀ n H', H n = none -> Same H H' -> NumAt CN H' n k s f p -> Q (.ref n) H') :
   ∀ x dx, H x = none -> H dx = none -> dx ≠ x -> D2r CN (.ref x :: ([k, s, f, p] ++ [])) (upd (upd H dx (.own x)) x (.ins CN dx [])) (fun v H2 => v = .non /\ Q (.ref x) H2) E0 := by
 intro x dx nx nd ne
 refine ⟨x, dx, k, s, f, p, rfl, A9, fun H' e kp => ⟨rfl, h x H' nx (fun b o z => ?_) ⟨dx, e⟩⟩⟩
 refine kp b o ?_ (D0 z nx)
 rw [C8 (D0 z nx), C8 (D0 z nd)]
 exact z
def NotNum (K : Frag) (CN : Addr) (H : Hp) (v : V) : Prop := ∃ t, TyE K H v t /\ kitOne K t (.ref CN) = some false
def B4j (K : Frag) (CN CB : Addr) : Sp := fun vs H Q E => ∃ v, vs = [v] /\ ((∃ n k s f p, v = .ref n /\ NumAt CN H n k s f p /\ Q v H) \/ (NotNum K CN H v /\ E (.ref CB) none H))
theorem Y6e : FnScope ["thing"] ["thing"] (A1 A2m) := scK
theorem G2r {f CN CB : Addr} {fd : FuncData} (D : Def K mg "need_number" ["thing"] A2m f fd) (O : Own mg) (T : Kit K) (B : Err K mg "BadNumber" CB) (N : Num K mg CN) : FnOk P w K mg base (CX1 P w) 1 f fd ["thing"] (B4j K CN CB) := by
 refine D.F.okE Y6e (fun vs H Q E h => ?_) (fun X cdv A outer s H vs Q E hX hr hx h => ?_)
 . obtain ⟨v, rfl, _⟩ := h
   rfl
 . subst hX
   obtain ⟨v, rfl, h⟩ := h
   refine ⟨_, (A4 (D9 (Y3 (J5 (U0c O.isi (pv 0) (Z1b N.g)))) (A5 (A2q (by rfl) B.g B.q PySem.F.excBase_ValueError hr.hd hx (A0 C6 A3))) C5)
     (A5 (B0 (pv 0)))), ?_⟩
   rcases h with ⟨n, a, b, c, d, rfl, hn, k⟩ | ⟨⟨t, ty, k1⟩, k⟩
   . exact ⟨_, rfl, _, _, _, _, true, rfl, rfl, N.ty hn, N.self, _, rfl, U4 ⟨_, rfl, k⟩⟩
   . exact ⟨_, rfl, _, _, _, t, false, rfl, rfl, ty, k1, _, rfl, Y5 ⟨Nat.le_of_lt (A0d (by show 1 <= 1000; decide)), k⟩⟩
def G8e (K : Frag) (CN CB : Addr) : Sp := fun vs H Q E => ∃ v, vs = [v] /\ ((∃ n k s f p, v = .ref n /\ NumAt CN H n k s f p /\ ∀ t, H t = none -> Q (.ref t) (upd H t (.tup [k, s, f, p]))) \/ (NotNum K CN H v /\ E (.ref CB) none H))
theorem Z1h : FnScope ["number"] ["number"] (A1 C0h) := scK
theorem Y5m {f f1 CN CB : Addr} {fd fd1 : FuncData} (D : Def K mg "told" ["number"] C0h f fd) (D_need_number : Def K mg "need_number" ["thing"] A2m f1 fd1) (O : Own mg) (T : Kit K) (B : Err K mg "BadNumber" CB) (N : Num K mg CN) :
   FnOk P w K mg base (CX1 P w) 2 f fd ["number"] (G8e K CN CB) := by
 have G_need_number := G2r (P := P) (w := w) (base := base) D_need_number O T B N
 refine D.F.okE Z1h (fun vs H Q E h => ?_) (fun X cdv A outer s H vs Q E hX hr hx h => ?_)
 . obtain ⟨v, rfl, _⟩ := h
   rfl
 . subst hX
   obtain ⟨v, rfl, h⟩ := h
   refine ⟨_, (A4 (V7 (B5 D_need_number G_need_number hr hx (A0 (pv 0) A3)))
     (A5 (B0 (B2v (A0 (C7 (pv 0) rfl) (A0 (C7 (pv 0) rfl) (A0 (C7 (pv 0) rfl) (A0 (C7 (pv 0) rfl) A3)))))))), ?_⟩
   rcases h with ⟨n, a, b, c, d, rfl, hn, k⟩ | ⟨bad, k⟩
   . refine ⟨_, rfl, _, rfl, .inl ⟨n, a, b, c, d, rfl, hn, ?_⟩⟩
     obtain ⟨dx, e⟩ := hn
     exact ⟨_, rfl, n, CN, dx, _, _, rfl, e, N.cl, N.n1, C2f _ _ _ _, _, rfl, n, CN, dx, _, _, rfl, e, N.cl, N.n2, C6x _ _ _ _, _, rfl, n, CN, dx, _, _, rfl, e, N.cl, N.n3, G2f _ _ _ _, _, rfl, n, CN, dx, _, _, rfl, e, N.cl, N.n4, C6z _ _ _ _,
       Nat.le_of_lt (A0d (by show 4 <= 1000; decide)), k⟩
   . exact ⟨_, rfl, _, rfl, .inr ⟨bad, k⟩⟩
end
abbrev B2p : Stmt := (top 16)
abbrev G2j : Stmt := (top 17)
abbrev A2g : Stmt := (top 18)
section
variable {P : Program} {w : World} {K : Frag} {mg : Str -> Option Value} {base : Heap}
def J8g (K : Frag) (CN CB : Addr) : Sp := fun vs H Q E => ∃ x y z, vs = [x, y, z] /\
 ((B2c 0 1 x /\ B2c 0 (10 ^ 60 - 1) y /\ B2c (-200) 200 z /\ ∀ n H', H n = none -> Same H H' -> NumAt CN H' n (.str "plain") x y z -> Q (.ref n) H') \/
  ((C6s K H 0 1 x \/ (B2c 0 1 x /\ (C6s K H 0 (10 ^ 60 - 1) y \/ (B2c 0 (10 ^ 60 - 1) y /\ C6s K H (-200) 200 z)))) /\ E (.ref CB) none H))
theorem Y5v : FnScope ["sign", "figures", "power"] ["sign", "figures", "power"] (A1 B2p) := scK
theorem b01 : B4p 0 1 := by unfold B4p; decide +kernel
theorem b60 : B4p 0 (10 ^ 60 - 1) := by unfold B4p; decide +kernel
theorem Z4f : B4p (-200) 200 := by unfold B4p; decide +kernel
theorem U9u {f f1 f2 fI CN CB : Addr} {fd fd1 fd2 fdI : FuncData} (D : Def K mg "plain" ["sign", "figures", "power"] B2p f fd) (D_need_between : Def K mg "need_between" ["thing", "least", "most"] A0t f1 fd1) (D2 : Def K mg "is_between" ["thing", "least", "most"] C6w f2 fd2)
   (O : Own mg) (T : Kit K) (B : Err K mg "BadNumber" CB) (N : Num K mg CN) (M : MakeN P w K mg base CN fI fdI) : FnOk P w K mg base (CX1 P w) 3 f fd ["sign", "figures", "power"] (J8g K CN CB) := by
 have G_need_between := C1p (P := P) (w := w) (base := base) D_need_between D2 O T B
 refine D.F.okE Y5v (fun vs H Q E h => ?_) (fun X cdv A outer s H vs Q E hX hr hx h => ?_)
 . obtain ⟨x, y, z, rfl, _⟩ := h
   rfl
 . subst hX
   obtain ⟨x, y, z, rfl, h⟩ := h
   refine ⟨_, (A4 (V7 (B5 D_need_between G_need_between hr hx (A0 (pv 0) (A0 A2 (A0 A2 A3)))))
     (A4 (V7 (B5 D_need_between G_need_between hr hx (A0 (pv 1) (A0 A2 (A0 (B3 U0 (B3 U8f A2 A2) A2) A3)))))
     (A4 (V7 (B5 D_need_between G_need_between hr hx (A0 (pv 2) (A0 (A0r V4 A2) (A0 A2 A3)))))
     (A5 (B0 (D3a M.m M.g hr rfl N.g M.b .nil U8p (A0 C6 (A0 (pv 0) (A0 (pv 1) (A0 (pv 2) A3)))))))))), ?_⟩
   have pw : Z0q 10 60 := ⟨by decide, by decide, by decide⟩
   rcases h with ⟨⟨i1, rfl, l1, u1⟩, ⟨i2, rfl, l2, u2⟩, ⟨i3, rfl, l3, u3⟩, k⟩ | ⟨bad, k⟩
   . refine ⟨_, rfl, _, _, _, rfl, b01, .inl ⟨⟨i1, rfl, l1, u1⟩, ?_⟩⟩
     refine ⟨_, rfl, _, _, rfl, rfl, pw, _, _, rfl, rfl, _, _, _, rfl, b60, .inl ⟨⟨i2, rfl, l2, u2⟩, ?_⟩⟩
     refine ⟨_, rfl, _, rfl, _, _, _, rfl, Z4f, .inl ⟨⟨i3, rfl, l3, u3⟩, ?_⟩⟩
     exact ⟨_, rfl, _, rfl, _, rfl, made k⟩
   . rcases bad with bad | ⟨⟨i1, rfl, l1, u1⟩, bad | ⟨⟨i2, rfl, l2, u2⟩, bad⟩⟩
     . exact ⟨_, rfl, _, _, _, rfl, b01, .inr ⟨bad, k⟩⟩
     . refine ⟨_, rfl, _, _, _, rfl, b01, .inl ⟨⟨i1, rfl, l1, u1⟩, ?_⟩⟩
       exact ⟨_, rfl, _, _, rfl, rfl, pw, _, _, rfl, rfl, _, _, _, rfl, b60, .inr ⟨bad, k⟩⟩
     . refine ⟨_, rfl, _, _, _, rfl, b01, .inl ⟨⟨i1, rfl, l1, u1⟩, ?_⟩⟩
       refine ⟨_, rfl, _, _, rfl, rfl, pw, _, _, rfl, rfl, _, _, _, rfl, b60, .inl ⟨⟨i2, rfl, l2, u2⟩, ?_⟩⟩
       exact ⟨_, rfl, _, rfl, _, _, _, rfl, Z4f, .inr ⟨bad, k⟩⟩
def U7t (K : Frag) (CN CB : Addr) : Sp := fun vs H Q E => ∃ x, vs = [x] /\ ((B2c 0 1 x /\ ∀ n H', H n = none -> Same H H' -> NumAt CN H' n (.str "end") x (.int 0) (.int 0) -> Q (.ref n) H') \/ (C6s K H 0 1 x /\ E (.ref CB) none H))
theorem Z6h : FnScope ["sign"] ["sign"] (A1 G2j) := scK
theorem Z0m {f f1 f2 fI CN CB : Addr} {fd fd1 fd2 fdI : FuncData} (D : Def K mg "end" ["sign"] G2j f fd) (D_need_between : Def K mg "need_between" ["thing", "least", "most"] A0t f1 fd1) (D2 : Def K mg "is_between" ["thing", "least", "most"] C6w f2 fd2)
   (O : Own mg) (T : Kit K) (B : Err K mg "BadNumber" CB) (N : Num K mg CN) (M : MakeN P w K mg base CN fI fdI) : FnOk P w K mg base (CX1 P w) 3 f fd ["sign"] (U7t K CN CB) := by
 have G_need_between := C1p (P := P) (w := w) (base := base) D_need_between D2 O T B
 refine D.F.okE Z6h (fun vs H Q E h => ?_) (fun X cdv A outer s H vs Q E hX hr hx h => ?_)
 . obtain ⟨x, rfl, _⟩ := h
   rfl
 . subst hX
   obtain ⟨x, rfl, h⟩ := h
   refine ⟨_, (A4 (V7 (B5 D_need_between G_need_between hr hx (A0 (pv 0) (A0 A2 (A0 A2 A3)))))
     (A5 (B0 (D3a M.m M.g hr rfl N.g M.b .nil U8p (A0 C6 (A0 (pv 0) (A0 A2 (A0 A2 A3)))))))), ?_⟩
   rcases h with ⟨⟨i1, rfl, l1, u1⟩, k⟩ | ⟨bad, k⟩
   . refine ⟨_, rfl, _, _, _, rfl, b01, .inl ⟨⟨i1, rfl, l1, u1⟩, ?_⟩⟩
     exact ⟨_, rfl, made k⟩
   . exact ⟨_, rfl, _, _, _, rfl, b01, .inr ⟨bad, k⟩⟩
def D0m (CN : Addr) : Sp := fun vs H Q _ => vs = [] /\ ∀ n H', H n = none -> Same H H' -> NumAt CN H' n (.str "none") (.int 0) (.int 0) (.int 0) -> Q (.ref n) H'
theorem J9s : FnScope [] [] (A1 A2g) := scK
theorem G7t {f fI CN : Addr} {fd fdI : FuncData} (D : Def K mg "nothing" [] A2g f fd) (N : Num K mg CN) (M : MakeN P w K mg base CN fI fdI) : FnOk P w K mg base (CX1 P w) 3 f fd [] (D0m CN) := by
 refine D.F.okE J9s (fun vs H Q E h => ?_) (fun X cdv A outer s H vs Q E hX hr hx h => ?_)
 . obtain ⟨rfl, _⟩ := h
   rfl
 . subst hX
   obtain ⟨rfl, k⟩ := h
   refine ⟨_, (A5 (B0 (D3a M.m M.g hr rfl N.g M.b .nil U8p (A0 C6 (A0 A2 (A0 A2 (A0 A2 A3))))))), ?_⟩
   exact made k
end
abbrev C1j : Stmt := (top 20)
section
variable {P : Program} {w : World} {K : Frag} {mg : Str -> Option Value} {base : Heap}
def V0j (CN : Addr) : Sp := fun vs H Q _ => ∃ n k s f p, vs = [.ref n] /\ NumAt CN H n k s (.int f) (.int p) /\ f.natAbs < 2 ^ 300 /\ Q (.int (p + ((Str.ofString (toString f)).length : Nat) - 1)) H
theorem Z1d : FnScope ["number"] ["number"] (A1 C1j) := scK
theorem Y6c {f CN : Addr} {fd : FuncData} (D : Def K mg "lead_of" ["number"] C1j f fd) (O : Own mg) (N : Num K mg CN) : FnOk P w K mg base (CX1 P w) 1 f fd ["number"] (V0j CN) := by
 refine D.F.okE Z1d (fun vs H Q E h => ?_) (fun X cdv A outer s H vs Q E hX hr hx h => ?_)
 . obtain ⟨n, a, b, c, d, rfl, _⟩ := h
   rfl
 . subst hX
   obtain ⟨n, a, b, fg, pw, rfl, ⟨dx, e⟩, hf, k⟩ := h
   refine ⟨_, (A5 (B0 (B3 U0 (B3 U8 (C7 (pv 0) rfl) (U7 D2p (by rfl) O.len_ PySem.boot_len (A0 (B5q D2k (by rfl) O.str_ boot_str (A0 (C7 (pv 0) rfl) A3)) A3))) A2))), ?_⟩
   have lg : fg.natAbs.log2 < 1920 := Nat.lt_trans (C1r hf (by decide)) (by decide)
   exact ⟨_, rfl, n, CN, dx, _, _, rfl, e, N.cl, N.n4, C6z _ _ _ _, _, rfl, n, CN, dx, _, _, rfl, e, N.cl, N.n3, G2f _ _ _ _, _, rfl, lg, _, rfl, int_text_fits lg, _, _, rfl, rfl, _, _, rfl, rfl, k⟩
end
abbrev Y2 : Stmt := (top 2)
abbrev A0c : Stmt := (top 3)
theorem B4h {x k : Nat} (h : x < 2 ^ k) (hk : k <= 1048576) : Builtin.Int.intBits (x : Int) <= 2 ^ 20 := by
 unfold Builtin.Int.intBits
 split
 . exact Nat.zero_le _
 . have z : (x : Int).natAbs ≠ 0 := by
     intro z
     rename_i hz
     exact hz (by simpa using z)
   have : (x : Int).natAbs.log2 < k := (Nat.log2_lt z).mpr h
   have e : (2 : Nat) ^ 20 = 1048576 := by decide
   omega
theorem C1f {b s j n : Nat} (hb : b < 2 ^ s) (hj : j <= n) (hn : n * s < 1048576) : Builtin.Int.intBits ((b ^ j : Nat) : Int) <= 2 ^ 20 := by
 refine B4h (k := n * s + 1) ?_ hn
 have a : b ^ j <= (2 ^ s) ^ j := Nat.pow_le_pow_left (Nat.le_of_lt hb) j
 have c : (2 ^ s) ^ j <= 2 ^ (n * s) := by
   rw [<- Nat.pow_mul, Nat.mul_comm n s]
   exact Nat.pow_le_pow_right (by decide) (Nat.mul_le_mul_left s hj)
 have d : 2 ^ (n * s) < 2 ^ (n * s + 1) := Nat.pow_lt_pow_right (by decide) (by omega)
 exact Nat.lt_of_le_of_lt a (Nat.lt_of_le_of_lt c d)
theorem B5z {b s i j n : Nat} (hb : b < 2 ^ s) (hi : i <= n) (hj : j <= n) (hn : n * s < 1048576) : IntMulOk ((b ^ i : Nat) : Int) ((b ^ j : Nat) : Int) := IntMulOk.of_bits (C1f hb hi hn) (C1f hb hj hn)
section
variable {P : Program} {w : World} {K : Frag} {mg : Str -> Option Value} {base : Heap}
def C0c : Sp := fun vs H Q _ => ∃ b n s : Nat, vs = [.int (b : Int), .int (n : Int)] /\ b < 2 ^ s /\ n * s < 1048576 /\ Q (.int ((b ^ n : Nat) : Int)) H
theorem scProductOf : FnScope ["whole", "count", "product"] ["whole", "count"] (A1 Y2) := scK
theorem D2y {f : Addr} {fd : FuncData} (D : Def K mg "product_of" ["whole", "count"] Y2 f fd) : FnOk P w K mg base (CX1 P w) 1 f fd ["whole", "count"] C0c := by
 refine FnOk.up (D.F.ok scProductOf (fun vs H Q E h => ?_) (fun cdv A outer s H vs Q E hr h => ?_))
 . obtain ⟨b, n, z, rfl, _⟩ := h
   rfl
 . obtain ⟨b, n, z, rfl, hb, hn, k⟩ := h
   refine ⟨_, (A4 (C9 (i := 2) scProductOf.nd rfl (Or.inl rfl) A2)
     (A4 (C2e PassesOwn.never (B9 C2a (pv 1) A2 (B8 _)) (A4 (D9 (B9 G0 (B3 G4 (pv 1) A2) A2 (B8 _)) (A5 (C9 (i := 2) scProductOf.nd rfl (Or.inl rfl) (B3 J7 (pv 2) (pv 0)))) C5)
     (A4 (C9 (i := 0) scProductOf.nd rfl (Or.inl rfl) (B3 J7 (pv 0) (pv 0)))
     (A5 (C9 (i := 1) scProductOf.nd rfl (Or.inl rfl) (B3 D8 (pv 1) A2))))))
     (A5 (B0 (pv 2))))), ?_⟩
   have d2 : (0 : Int) < 2 /\ (2 : Int).natAbs.log2 < 9000 := ⟨by decide, by decide +kernel⟩
   refine C2k (fun σ H2 => H2 = H /\ ∃ i m c : Nat, m + i * c = n /\ σ = [some (.int ((b ^ i : Nat) : Int)), some (.int (c : Int)), some (.int ((b ^ m : Nat) : Int))]) (fun σ _ => match σ with | [_, some (.int c), _] => c.toNat | _ => 0) ?_ ?_ ?_
   . exact ⟨rfl, 1, 0, n, by omega, by rw [Nat.pow_one]; rfl⟩
   . rintro σ H2 ⟨rfl, i, m, c, hc, rfl⟩
     refine ⟨_, rfl, _, _, rfl, rfl, _, rfl, G8 (fun h0 => ?_) (fun h0 => ?_)⟩
     . have c1 : 1 <= c := by
         have : (0 : Int) < c := h0
         omega
       have hi : i <= n := Nat.le_trans (Nat.le_mul_of_pos_right i c1) (by omega)
       have hm : m <= n := by omega
       have sq : ((b ^ i : Nat) : Int) * ((b ^ i : Nat) : Int) = ((b ^ (2 * i) : Nat) : Int) := by rw [Nat.two_mul, Nat.pow_add]; rfl
       have lt : ((c : Int) / 2).toNat < (c : Int).toNat := by omega
       refine ⟨_, rfl, _, _, rfl, rfl, d2.1, rfl, _, rfl, G8 (fun ho => ?_) (fun he => ?_)⟩
       . have ho : (c : Int) % 2 = 1 := by injection ho
         have mu : ((b ^ m : Nat) : Int) * ((b ^ i : Nat) : Int) = ((b ^ (m + i) : Nat) : Int) := by rw [Nat.pow_add]; rfl
         refine ⟨_, rfl, _, rfl, _, _, rfl, rfl, B5z hb hm hi hn, _, rfl, _, rfl, _, _, rfl, rfl, B5z hb hi hi hn, _, rfl, _, _, rfl, rfl, d2, ⟨rfl, 2 * i, m + i, c / 2, ?_, ?_⟩, lt⟩
         . have e : i * c = i * (2 * (c / 2) + 1) := congrArg (i * ·) (by omega)
           rw [Nat.mul_add, Nat.mul_one, <- Nat.mul_assoc, Nat.mul_comm i 2] at e
           omega
         . show [some (V.int (((b ^ i : Nat) : Int) * ((b ^ i : Nat) : Int))), some (V.int ((c : Int) / 2)), some (V.int (((b ^ m : Nat) : Int) * ((b ^ i : Nat) : Int)))] = _
           rw [sq, mu]
           rfl
       . have he : ¬ (c : Int) % 2 = 1 := fun z => he (congrArg V.int z)
         refine ⟨_, rfl, _, rfl, _, _, rfl, rfl, B5z hb hi hi hn, _, rfl, _, _, rfl, rfl, d2, ⟨rfl, 2 * i, m, c / 2, ?_, ?_⟩, lt⟩
         . have e : i * c = i * (2 * (c / 2)) := congrArg (i * ·) (by omega)
           rw [<- Nat.mul_assoc, Nat.mul_comm i 2] at e
           omega
         . show [some (V.int (((b ^ i : Nat) : Int) * ((b ^ i : Nat) : Int))), some (V.int ((c : Int) / 2)), some (V.int ((b ^ m : Nat) : Int))] = _
           rw [sq]
           rfl
     . have c0 : c = 0 := by
         have : ¬ (0 : Int) < c := h0
         omega
       subst c0
       have hm : m = n := by omega
       subst hm
       exact ⟨_, rfl, k⟩
   . rintro σ H2 Q1 Q2 hQ ⟨v, e, i, j, e1, e2, b, e3, q⟩
     exact ⟨v, e, i, j, e1, e2, b, e3, hQ _ _ q⟩
def A5b : Sp := fun vs H Q _ => ∃ n : Nat, vs = [.int (n : Int)] /\ n <= 4000 /\ Q (.int ((10 ^ n : Nat) : Int)) H
theorem Y4d : FnScope ["count"] ["count"] (A1 A0c) := scK
theorem U8c {f f1 : Addr} {fd fd1 : FuncData} (D : Def K mg "ten_to" ["count"] A0c f fd) (D_product_of : Def K mg "product_of" ["whole", "count"] Y2 f1 fd1) (G_product_of : FnOk P w K mg base (CX1 P w) 1 f1 fd1 ["whole", "count"] C0c) : FnOk P w K mg base (CX1 P w) 2 f fd ["count"] A5b := by
 refine FnOk.up (D.F.ok Y4d (fun vs H Q E h => ?_) (fun cdv A outer s H vs Q E hr h => ?_))
 . obtain ⟨n, rfl, _⟩ := h
   rfl
 . obtain ⟨n, rfl, hn, k⟩ := h
   have hx : G2 (A1j CX0 P w K mg base ["count"] "ten_to" (A1 A0c) f cdv A outer s H E).nox EKF := V0
   refine ⟨_, (A5 (B0 (B5 D_product_of G_product_of hr hx (A0 A2 (A0 (pv 0) A3))))), ?_⟩
   exact ⟨_, rfl, 10, n, 4, rfl, by decide, by omega, k⟩
end
inductive Kd where
 | plain | end_ | none
def Kd.str : Kd -> Str
 | .plain => "plain"
 | .end_ => "end"
 | .none => "none"
theorem Kd.str_inj {a b : Kd} (h : a.str = b.str) : a = b := by
 cases a <;> cases b <;> first | rfl | exact absurd h (by decide +kernel)
structure Nm where
 k : Kd
 s : Int
 f : Int
 p : Int
def Nm.vs (x : Nm) : List V := [.str x.k.str, .int x.s, .int x.f, .int x.p]
structure Nm.Ok (x : Nm) : Prop where
 s0 : 0 <= x.s
 s1 : x.s <= 1
 f0 : 0 <= x.f
 f1 : x.f <= 10 ^ 60 - 1
 p0 : -200 <= x.p
 p1 : x.p <= 200
def NumIs (CN : Addr) (H : Hp) (n : Addr) (x : Nm) : Prop := NumAt CN H n (.str x.k.str) (.int x.s) (.int x.f) (.int x.p)
theorem NumIs.same {CN : Addr} {H H' : Hp} {n : Addr} {x : Nm} (h : NumIs CN H n x) (e : Same H H') : NumIs CN H' n x := NumAt.same h e
theorem NumIs.exc {CN : Addr} {H H' : Hp} {n D : Addr} {l : List V} {x : Nm} (h : NumIs CN H n x) (hD : H D = some (.lst l)) (e : G6n D H H') : NumIs CN H' n x := by
 obtain ⟨dx, z⟩ := h
 exact ⟨dx, e _ _ z fun q => by rw [q, hD] at z; cases z⟩
theorem NotNum.same {K : Frag} {CN : Addr} {H H' : Hp} {v : V} (h : NotNum K CN H v) (e : Same H H') : NotNum K CN H' v := by
 obtain ⟨t, ty, r⟩ := h
 exact ⟨t, TyE.same ty e, r⟩
structure NumsAt (CN : Addr) (H : Hp) (l : Addr) (ns : List (Addr × Nm)) : Prop where
 l : H l = some (.lst (ns.map fun p => V.ref p.1))
 n : ∀ p ∈ ns, NumIs CN H p.1 p.2
def A6 (n : Int) : Int := ((10 ^ n.toNat : Nat) : Int)
theorem D5 (n : Int) : 0 < A6 n := Int.natCast_pos.mpr (Nat.pow_pos (by decide))
theorem neS {a b : Kd} (h : ¬ V.str a.str = V.str b.str) : a ≠ b := fun q => h (by rw [q])
theorem eqS {a b : Kd} (h : V.str a.str = V.str b.str) : a = b := Kd.str_inj (by injection h)
abbrev A4n : Stmt := (top 22)
abbrev B2y : Stmt := (top 23)
abbrev A0p : Stmt := (top 24)
section
variable {P : Program} {w : World} {K : Frag} {mg : Str -> Option Value} {base : Heap}
def G2w (K : Frag) (CN CB : Addr) : Sp := fun vs H Q E => ∃ l ns, vs = [.ref l] /\ (∀ p ∈ (ns : List (Addr × Nm)), NumIs CN H p.1 p.2) /\
 ((H l = some (.lst (ns.map fun p => V.ref p.1)) /\ Q .non H) \/ (∃ v r, H l = some (.lst ((ns.map fun p => V.ref p.1) ++ v :: r)) /\ NotNum K CN H v /\ E (.ref CB) none H))
theorem scNeedNs : FnScope ["things", "thing"] ["things"] (A1 A4n) := scK
theorem U1q {f f1 CN CB : Addr} {fd fd1 : FuncData} (D : Def K mg "need_numbers" ["things"] A4n f fd) (D_need_number : Def K mg "need_number" ["thing"] A2m f1 fd1) (G_need_number : FnOk P w K mg base (CX1 P w) 1 f1 fd1 ["thing"] (B4j K CN CB)) : FnOk P w K mg base (CX1 P w) 2 f fd ["things"] (G2w K CN CB) := by
 refine D.F.okE scNeedNs (fun vs H Q E h => ?_) (fun X cdv A outer s H vs Q E hX hr hx h => ?_)
 . obtain ⟨l, ns, rfl, _⟩ := h
   rfl
 . subst hX
   obtain ⟨l, ns, rfl, hn, h⟩ := h
   refine ⟨_, (A5 (B2z PassesOwn.leaving rfl (D2q (pv 0)) (U1 (i := 1) scNeedNs.nd rfl (Or.inl rfl)) (A5 (V7 (B5 D_need_number G_need_number hr hx (A0 (pv 1) A3)))))), ?_⟩
   rcases h with ⟨hl, k⟩ | ⟨v, r, hl, nv, k⟩
   . refine ⟨_, rfl, l, rfl, ⟨_, SqL.of hl⟩, A8f (xs := ns.map fun p => V.ref p.1) (fun i σ H' => H' = H /\ ∃ v, σ = [some (.ref l), v]) ⟨rfl, none, rfl⟩ ?_ ?_ ?_⟩
     . rintro i σ H' _ ⟨rfl, _⟩
       exact SqL.of hl
     . rintro i x σ H' hi ⟨rfl, v, rfl⟩
       obtain ⟨p, hp, rfl⟩ := List.mem_map.mp (List.mem_of_getElem? hi)
       exact ⟨_, rfl, _, rfl, .inl ⟨p.1, _, _, _, _, rfl, hn p hp, rfl, _, rfl⟩⟩
     . rintro σ H' ⟨rfl, v, rfl⟩
       exact k
   . refine ⟨_, rfl, l, rfl, ⟨_, SqL.of hl⟩, A8f (xs := (ns.map fun p => V.ref p.1) ++ v :: r) (fun i σ H' => H' = H /\ i <= ns.length /\ ∃ v, σ = [some (.ref l), v]) ⟨rfl, Nat.zero_le _, none, rfl⟩ ?_ ?_ ?_⟩
     . rintro i σ H' _ ⟨rfl, _⟩
       exact SqL.of hl
     . rintro i x σ H' hi ⟨rfl, hle, u, rfl⟩
       by_cases hlt : i < ns.length
       . rw [List.getElem?_append_left (by simpa using hlt)] at hi
         obtain ⟨p, hp, rfl⟩ := List.mem_map.mp (List.mem_of_getElem? hi)
         exact ⟨_, rfl, _, rfl, .inl ⟨p.1, _, _, _, _, rfl, hn p hp, rfl, by omega, _, rfl⟩⟩
       . have e : i = ns.length := by omega
         subst e
         rw [List.getElem?_append_right (by simp)] at hi
         simp at hi
         subst hi
         exact ⟨_, rfl, _, rfl, .inr ⟨nv, k⟩⟩
     . rintro σ H' ⟨rfl, hle, _⟩
       exfalso
       rw [List.length_append, List.length_map, List.length_cons] at hle
       omega
def J8s (CN : Addr) : Sp := fun vs H Q _ => ∃ l ns z, vs = [.ref l, .str z] /\ NumsAt CN H l ns /\ ns.length <= 1000 /\ ∀ H', Same H H' -> Q (.bl (ns.any fun p => decide (p.2.k.str = z))) H'
theorem Y6b : FnScope ["numbers", "kind"] ["numbers", "kind"] (A1 B2y) := scK
theorem Y9p (ns : List (Addr × Nm)) (z : Str) : (ns.map fun p => decide (p.2.k.str = z)).any id = ns.any fun p => decide (p.2.k.str = z) := by rw [List.any_map]; rfl
theorem dec_str {a b : Str} : decide (V.str a = V.str b) = decide (a = b) := by
 by_cases h : a = b
 . rw [decide_eq_true h, decide_eq_true (congrArg V.str h)]
 . rw [decide_eq_false h, decide_eq_false fun q => h (by injection q)]
theorem U8y {f CN : Addr} {fd : FuncData} (D : Def K mg "some_of_kind" ["numbers", "kind"] B2y f fd) (O : Own mg) (N : Num K mg CN) : FnOk P w K mg base (CX1 P w) 1 f fd ["numbers", "kind"] (J8s CN) := by
 refine FnOk.up (D.F.ok Y6b (fun vs H Q E h => ?_) (fun cdv A outer s H vs Q E hr h => ?_))
 . obtain ⟨l, ns, z, rfl, _⟩ := h
   rfl
 . obtain ⟨l, ns, z, rfl, ⟨hl, hn⟩, hz, k⟩ := h
   refine ⟨_, (A5 (B0 (U7 (V0a hr.hd) (by rfl) O.any_ boot_any (A0 (U0r (N := ["number"]) (F := ["kind"]) (js := [1]) (CompScopeF.of1 ⟨rfl, by decide +kernel, by decide +kernel, by decide +kernel, by decide +kernel⟩ (by rfl) (by rfl) ⟨_, by rfl⟩ (by rfl) (by rfl)) (.inl hr.hd) (A8e (pv 0)) rfl (fun C s₀ H₀ ex pn h => U1 (i := 0) (by decide +kernel : (["number", "kind"] : List Str).Nodup) rfl (Or.inl rfl)) (fun C s₀ H₀ ex pn h => (G9 G0 (Y5b (K := K) rfl (pv 0) rfl) (pv 1) (B8 _)))) A3)))), ?_⟩
   refine ⟨_, rfl, l, rfl, ⟨_, SqL.of hl⟩, B1m (J := Itl K l) (n := ns.length) (fun i y _ => ∃ p, ns[i]? = some p /\ y = .bl (decide (p.2.k.str = z))) hz (fun _ _ _ _ _ _ h _ _ => h) (fun i H2 Qy hi sm hy => ⟨⟨_, V.ref ns[i].1, SqL.of (sm _ _ hl), by simp [hi]⟩, fun x H3 yl => ?_⟩) (fun H2 sm => ⟨_, SqL.of (sm _ _ hl), by simp⟩) (fun D H' ys sm nD eD hlen hR => ?_)⟩
   . obtain ⟨rfl, yl⟩ := yl
     have ex : x = V.ref ns[i].1 := by
       have := yl _ (SqL.of (sm _ _ hl))
       simp [hi] at this
       exact this.symm
     subst ex
     obtain ⟨dx, e⟩ := (hn _ (List.getElem_mem hi)).same sm
     refine ⟨_, rfl, ns[i].1, CN, dx, _, _, rfl, e, N.cl, N.n1, C2f _ _ _ _, _, rfl, rfl, hy _ _ (Same.refl _) ⟨ns[i], by simp [hi], ?_⟩⟩
     rw [dec_str]
   . have ey : ys = (ns.map fun p => decide (p.2.k.str = z)).map V.bl := by
       apply List.ext_getElem?
       intro i
       by_cases hi : i < ns.length
       . obtain ⟨p, hp, hy⟩ := hR i ys[i] (by simp [hlen, hi])
         rw [List.getElem?_eq_getElem (by omega), hy]
         simp [hp]
       . rw [List.getElem?_eq_none (by omega), List.getElem?_eq_none (by simp; omega)]
     subst ey
     refine ⟨D, _, rfl, SqL.of eD, ?_⟩
     rw [Y9p]
     exact k H' sm
def Nm.wh (x : Nm) (q : Int) : Int := if x.s = 1 then -(x.f * A6 (x.p - q)) else x.f * A6 (x.p - q)
def D1d (CN : Addr) : Sp := fun vs H Q _ => ∃ n x q, vs = [.ref n, .int q] /\ NumIs CN H n x /\ x.Ok /\ 0 <= x.p - q /\ x.p - q <= 1000 /\ Q (.int (x.wh q)) H
theorem scWholeAt : FnScope ["number", "power", "size"] ["number", "power"] (A1 A0p) := scK
theorem Nm.Ok.bits {x : Nm} (h : x.Ok) : Builtin.Int.intBits x.f <= 2 ^ 20 := by
 obtain ⟨n, hn⟩ := Int.eq_ofNat_of_zero_le h.f0
 rw [hn]
 refine B4h (k := 200) ?_ (by decide)
 have := h.f1
 have e : ((10 ^ 60 : Nat) : Int) = 10 ^ 60 := by decide +kernel
 have : n < 10 ^ 60 := by omega
 exact Nat.lt_trans this (by decide +kernel)
theorem B5s {d : Int} (h : d <= 4000) : Builtin.Int.intBits (A6 d) <= 2 ^ 20 := C1f (b := 10) (s := 4) (n := 4000) (by decide) (by omega) (by decide)
theorem G6u {f f1 CN : Addr} {fd fd1 : FuncData} (D : Def K mg "whole_at" ["number", "power"] A0p f fd) (D_ten_to : Def K mg "ten_to" ["count"] A0c f1 fd1) (G_ten_to : FnOk P w K mg base (CX1 P w) 2 f1 fd1 ["count"] A5b) (N : Num K mg CN) : FnOk P w K mg base (CX1 P w) 3 f fd ["number", "power"] (D1d CN) := by
 refine FnOk.up (D.F.ok scWholeAt (fun vs H Q E h => ?_) (fun cdv A outer s H vs Q E hr h => ?_))
 . obtain ⟨n, x, q, rfl, _⟩ := h
   rfl
 . obtain ⟨n, x, q, rfl, ⟨dx, e⟩, ok, h0, h1, k⟩ := h
   have hx : G2 (A1j CX0 P w K mg base ["number", "power", "size"] "whole_at" (A1 A0p) f cdv A outer s H E).nox EKF := V0
   refine ⟨_, (A4 (C9 (i := 2) scWholeAt.nd rfl (Or.inl rfl) (B3 J7 (C7 (pv 0) rfl) (B5 D_ten_to G_ten_to hr hx (A0 (B3 U0 (C7 (pv 0) rfl) (pv 1)) A3))))
     (A5 (B0 (V3 (B9 G0 (C7 (pv 0) rfl) A2 (B8 _)) (A0r V4 (pv 2)) (pv 2))))), ?_⟩
   have mu : IntMulOk x.f (A6 (x.p - q)) := IntMulOk.of_bits ok.bits (B5s (by omega))
   refine ⟨_, rfl, n, CN, dx, _, _, rfl, e, N.cl, N.n3, G2f _ _ _ _, _, rfl, n, CN, dx, _, _, rfl, e, N.cl, N.n4, C6z _ _ _ _, _, rfl, _, _, rfl, rfl, (x.p - q).toNat, (by rw [Int.toNat_of_nonneg h0]; rfl), by omega, _, _, rfl, rfl, mu, ?_⟩
   refine ⟨_, rfl, n, CN, dx, _, _, rfl, e, N.cl, N.n2, C6x _ _ _ _, rfl, _, rfl, ?_⟩
   unfold Nm.wh at k
   refine G8 (fun h => ?_) (fun h => ?_)
   . rw [if_pos (by injection h)] at k
     exact ⟨_, rfl, _, rfl, k⟩
   . rw [if_neg fun q => h (congrArg V.int q)] at k
     exact ⟨_, rfl, k⟩
end
abbrev C1u : Stmt := (top 42)
abbrev B2w : Stmt := (top 43)
abbrev V8 : Stmt := (top 41)
def Nm.side (x : Nm) : Int := match x.k with
 | .plain => 0
 | _ => if x.s = 1 then -1 else 1
def U3 (a b : Int) : Int := if a = b then 0 else if a < b then -1 else 1
def Kd.isN : Kd -> Bool
 | .none => true
 | _ => false
def Kd.isE : Kd -> Bool
 | .end_ => true
 | _ => false
def C7a (x y : Nm) : Option Int :=
 if (x.k.isN || y.k.isN) = true then none else if (x.k.isE || y.k.isE) = true then some (U3 x.side y.side) else some (U3 (x.wh (if y.p < x.p then y.p else x.p)) (y.wh (if y.p < x.p then y.p else x.p)))
def Z9x : Option Int -> V
 | none => .non
 | some i => .int i
theorem J8f (k : Kd) : decide (k.str = ("none" : Str)) = k.isN := by cases k <;> decide +kernel
theorem J8m (k : Kd) : decide (k.str = ("end" : Str)) = k.isE := by cases k <;> decide +kernel
section
variable {P : Program} {w : World} {K : Frag} {mg : Str -> Option Value} {base : Heap}
def U7j (CN : Addr) : Sp := fun vs H Q _ => ∃ n x, vs = [.ref n] /\ NumIs CN H n x /\ Q (.int x.side) H
theorem Y9x : FnScope ["number"] ["number"] (A1 C1u) := scK
theorem Y5z {f CN : Addr} {fd : FuncData} (D : Def K mg "side_of" ["number"] C1u f fd) (N : Num K mg CN) : FnOk P w K mg base (CX1 P w) 1 f fd ["number"] (U7j CN) := by
 refine FnOk.up (D.F.ok Y9x (fun vs H Q E h => ?_) (fun cdv A outer s H vs Q E hr h => ?_))
 . obtain ⟨n, x, rfl, _⟩ := h
   rfl
 . obtain ⟨n, x, rfl, ⟨dx, e⟩, k⟩ := h
   refine ⟨_, (A4 (D9 (B9 G0 (C7 (pv 0) rfl) C6 (B8 _)) (A5 (B0 A2)) C5)
     (A5 (B0 (V3 (B9 G0 (C7 (pv 0) rfl) A2 (B8 _)) (A0r V4 A2) A2)))), ?_⟩
   refine ⟨_, rfl, n, CN, dx, _, _, rfl, e, N.cl, N.n1, C2f _ _ _ _, rfl, _, rfl, G8 (fun h => ?_) (fun h => ?_)⟩
   . have hk : x.k = .plain := eqS (b := .plain) h
     unfold Nm.side at k
     rw [hk] at k
     exact k
   . have hk : x.k ≠ .plain := neS (b := .plain) h
     have es : x.side = if x.s = 1 then -1 else 1 := by
       unfold Nm.side
       split
       . rename_i q; exact absurd q hk
       . rfl
     rw [es] at k
     refine ⟨_, rfl, n, CN, dx, _, _, rfl, e, N.cl, N.n2, C6x _ _ _ _, rfl, _, rfl, G8 (fun h => ?_) (fun h => ?_)⟩
     . rw [if_pos (by injection h)] at k
       exact ⟨_, rfl, k⟩
     . rw [if_neg fun q => h (congrArg V.int q)] at k
       exact k
def J8d : Sp := fun vs H Q _ => ∃ a b, vs = [.int a, .int b] /\ Q (.int (U3 a b)) H
theorem Y6g : FnScope ["one", "other"] ["one", "other"] (A1 B2w) := scK
theorem U9j {f : Addr} {fd : FuncData} (D : Def K mg "order_of" ["one", "other"] B2w f fd) : FnOk P w K mg base (CX1 P w) 1 f fd ["one", "other"] J8d := by
 refine FnOk.up (D.F.ok Y6g (fun vs H Q E h => ?_) (fun cdv A outer s H vs Q E hr h => ?_))
 . obtain ⟨a, b, rfl, _⟩ := h
   rfl
 . obtain ⟨a, b, rfl, k⟩ := h
   refine ⟨_, (A4 (D9 (B9 G0 (pv 0) (pv 1) (B8 _)) (A5 (B0 A2)) C5)
     (A5 (B0 (V3 (B9 G1z (pv 0) (pv 1) (B8 _)) (A0r V4 A2) A2)))), ?_⟩
   unfold U3 at k
   refine ⟨_, rfl, _, rfl, rfl, _, rfl, G8 (fun h => ?_) (fun h => ?_)⟩
   . rw [if_pos (by injection h)] at k
     exact k
   . rw [if_neg fun q => h (congrArg V.int q)] at k
     refine ⟨_, rfl, _, rfl, _, _, rfl, rfl, _, rfl, G8 (fun h => ?_) (fun h => ?_)⟩
     . rw [if_pos h] at k
       exact ⟨_, rfl, k⟩
     . rw [if_neg h] at k
       exact k
def A4y (K : Frag) (CN CB : Addr) : Sp := fun vs H Q E => ∃ v u, vs = [v, u] /\ ((∃ n m x y, v = .ref n /\ u = .ref m /\ NumIs CN H n x /\ NumIs CN H m y /\ x.Ok /\ y.Ok /\ ∀ H', Same H H' -> Q (Z9x (C7a x y)) H') \/
 ((NotNum K CN H v \/ ∃ n x, v = .ref n /\ NumIs CN H n x /\ NotNum K CN H u) /\ ∀ H', Same H H' -> E (.ref CB) none H'))
theorem scCompared : FnScope ["one", "other", "low"] ["one", "other"] (A1 V8) := scK
theorem G2u {f f1 f2 f3 f4 f5 CN CB : Addr} {fd fd1 fd2 fd3 fd4 fd5 : FuncData} (D : Def K mg "compared" ["one", "other"] V8 f fd) (D_need_numbers : Def K mg "need_numbers" ["things"] A4n f1 fd1) (G_need_numbers : FnOk P w K mg base (CX1 P w) 2 f1 fd1 ["things"] (G2w K CN CB))
   (D_some_of_kind : Def K mg "some_of_kind" ["numbers", "kind"] B2y f2 fd2) (G_some_of_kind : FnOk P w K mg base (CX1 P w) 1 f2 fd2 ["numbers", "kind"] (J8s CN)) (D_side_of : Def K mg "side_of" ["number"] C1u f3 fd3) (G_side_of : FnOk P w K mg base (CX1 P w) 1 f3 fd3 ["number"] (U7j CN))
   (D_order_of : Def K mg "order_of" ["one", "other"] B2w f4 fd4) (G_order_of : FnOk P w K mg base (CX1 P w) 1 f4 fd4 ["one", "other"] J8d) (D_whole_at : Def K mg "whole_at" ["number", "power"] A0p f5 fd5) (G_whole_at : FnOk P w K mg base (CX1 P w) 3 f5 fd5 ["number", "power"] (D1d CN)) (O : Own mg) (N : Num K mg CN) :
   FnOk P w K mg base (CX1 P w) 4 f fd ["one", "other"] (A4y K CN CB) := by
 refine D.F.okE scCompared (fun vs H Q E h => ?_) (fun X cdv A outer s H vs Q E hX hr hx h => ?_)
 . obtain ⟨v, u, rfl, _⟩ := h
   rfl
 . subst hX
   obtain ⟨v, u, rfl, h⟩ := h
   refine ⟨_, (A4 (V7 (B5 D_need_numbers G_need_numbers hr hx (A0 (J9 (A0 (pv 0) (A0 (pv 1) A3))) A3)))
     (A4 (D9 (J5 (B5 D_some_of_kind G_some_of_kind hr hx (A0 (J9 (A0 (pv 0) (A0 (pv 1) A3))) (A0 C6 A3)))) (A5 (B0 U7e)) C5)
     (A4 (D9 (J5 (B5 D_some_of_kind G_some_of_kind hr hx (A0 (J9 (A0 (pv 0) (A0 (pv 1) A3))) (A0 C6 A3)))) (A5 (B0 (B5 D_order_of G_order_of hr hx (A0 (B5 D_side_of G_side_of hr hx (A0 (pv 0) A3)) (A0 (B5 D_side_of G_side_of hr hx (A0 (pv 1) A3)) A3))))) C5)
     (A4 (C9 (i := 2) scCompared.nd rfl (Or.inl rfl) (U7 (B1g rfl) (by rfl) O.min_ boot_min (A0 (C7 (pv 0) rfl) (A0 (C7 (pv 1) rfl) A3))))
     (A5 (B0 (B5 D_order_of G_order_of hr hx (A0 (B5 D_whole_at G_whole_at hr hx (A0 (pv 0) (A0 (pv 2) A3))) (A0 (B5 D_whole_at G_whole_at hr hx (A0 (pv 1) (A0 (pv 2) A3))) A3))))))))), ?_⟩
   have z2 : 2 <= sizeLine := D6 (by decide)
   rcases h with ⟨n, m, x, y, rfl, rfl, hn, hm, ox, oy, k⟩ | ⟨bad, k⟩
   . refine ⟨_, rfl, _, rfl, z2, fun l nl => ⟨l, [(n, x), (m, y)], rfl, ?_, .inl ⟨A9, ?_⟩⟩⟩
     . intro p hp
       rcases (by simpa using hp : p = (n, x) \/ p = (m, y)) with rfl | rfl
       . exact hn.same (Same.upd nl)
       . exact hm.same (Same.upd nl)
     have s1 := Same.upd (o := .lst [.ref n, .ref m]) nl
     generalize upd H l (.lst [.ref n, .ref m]) = H1 at s1
     have both : ∀ {H' : Hp} {l : Addr}, Same H1 H' -> H' l = none -> NumsAt CN (upd H' l (.lst [.ref n, .ref m])) l [(n, x), (m, y)] := fun s' nl => ⟨A9, fun p hp => by
       rcases (by simpa using hp : p = (n, x) \/ p = (m, y)) with rfl | rfl
       . exact hn.same (s1.trans (s'.trans (Same.upd nl)))
       . exact hm.same (s1.trans (s'.trans (Same.upd nl)))⟩
     refine ⟨_, rfl, _, rfl, z2, fun l2 nl2 => ⟨l2, _, "none", rfl, both (Same.refl _) nl2, (by decide : 2 <= 1000), fun H2 s2 => ?_⟩⟩
     have s2 : Same H1 H2 := (Same.upd nl2).trans s2
     have an : ([(n, x), (m, y)].any fun p => decide (p.2.k.str = ("none" : Str))) = (x.k.isN || y.k.isN) := by
       show (decide (x.k.str = ("none" : Str)) || (decide (y.k.str = ("none" : Str)) || false)) = _
       rw [J8f, J8f, Bool.or_false]
     rw [an]
     unfold C7a at k
     refine ⟨_, rfl, ?_⟩
     cases eN : (x.k.isN || y.k.isN) with
     | true =>
       rw [eN, if_pos rfl] at k
       exact Y5 (k H2 (s1.trans s2))
     | false =>
       rw [eN, if_neg Bool.false_ne_true] at k
       refine U4 ⟨_, rfl, _, rfl, z2, fun l3 nl3 => ⟨l3, _, "end", rfl, both s2 nl3, (by decide : 2 <= 1000), fun H3 s3 => ?_⟩⟩
       have s3 : Same H1 H3 := s2.trans ((Same.upd nl3).trans s3)
       have ae : ([(n, x), (m, y)].any fun p => decide (p.2.k.str = ("end" : Str))) = (x.k.isE || y.k.isE) := by
         show (decide (x.k.str = ("end" : Str)) || (decide (y.k.str = ("end" : Str)) || false)) = _
         rw [J8m, J8m, Bool.or_false]
       rw [ae]
       have hn3 := hn.same (s1.trans s3)
       have hm3 := hm.same (s1.trans s3)
       refine ⟨_, rfl, ?_⟩
       cases eE : (x.k.isE || y.k.isE) with
       | true =>
         rw [eE, if_pos rfl] at k
         exact Y5 ⟨_, rfl, n, x, rfl, hn3, _, rfl, m, y, rfl, hm3, _, _, rfl, k H3 (s1.trans s3)⟩
       | false =>
         rw [eE, if_neg Bool.false_ne_true] at k
         obtain ⟨dx, e⟩ := id hn3
         obtain ⟨dy, e'⟩ := id hm3
         refine U4 ⟨_, rfl, n, CN, dx, _, _, rfl, e, N.cl, N.n4, C6z _ _ _ _, _, rfl, m, CN, dy, _, _, rfl, e', N.cl, N.n4, C6z _ _ _ _, _, _, rfl, ?_⟩
         have := ox.p0; have := ox.p1; have := oy.p0; have := oy.p1
         have lo : ∃ q, (if y.p < x.p then y.p else x.p) = q /\ q <= x.p /\ q <= y.p /\ -200 <= q := by
           by_cases hq : y.p < x.p
           . exact ⟨y.p, if_pos hq, by omega, by omega, by omega⟩
           . exact ⟨x.p, if_neg hq, by omega, by omega, by omega⟩
         obtain ⟨q, eq, q1, q2, q3⟩ := lo
         rw [eq] at k ⊢
         exact ⟨_, rfl, _, rfl, n, x, q, rfl, hn3, ox, by omega, by omega, _, rfl, _, rfl, m, y, q, rfl, hm3, oy, by omega, by omega, _, _, rfl, k H3 (s1.trans s3)⟩
   . refine ⟨_, rfl, _, rfl, z2, fun l nl => ?_⟩
     have s1 := Same.upd (o := .lst [v, u]) nl
     rcases bad with bad | ⟨n, x, rfl, hn, bad⟩
     . exact ⟨l, [], rfl, fun p hp => by simp at hp, .inr ⟨v, [u], A9, bad.same s1, k _ s1⟩⟩
     . refine ⟨l, [(n, x)], rfl, fun p hp => ?_, .inr ⟨u, [], A9, bad.same s1, k _ s1⟩⟩
       have e : p = (n, x) := by simpa using hp
       subst e
       exact hn.same s1
end
def U6 (left low : Int) : Int := (if decide (0 < left) = true then 1 else 0) + (if decide (low <= 2 * left) = true then 1 else 0) + (if decide (low < 2 * left) = true then 1 else 0)
theorem Z4n (s : Int) : (if (0 : Int) > s then 0 else s) = ((s.toNat : Nat) : Int) := by
 by_cases h : (0 : Int) > s
 . rw [if_pos h]; omega
 . rw [if_neg h]; omega
def Y9 (t b s : Int) : Prop := b * A6 (-s) <= t * A6 s /\ t * A6 s < 10 * (b * A6 (-s))
theorem C1n {s r : Int} (h : s <= r) : A6 r * A6 (-s) = A6 s * A6 (-r) * A6 (r - s) := by
 unfold A6
 rw [<- Int.natCast_mul, <- Int.natCast_mul, <- Int.natCast_mul, <- Nat.pow_add, <- Nat.pow_add, <- Nat.pow_add]
 congr 2
 omega
theorem Y5w {d : Int} (h : 1 <= d) : 10 <= A6 d := by
 unfold A6
 have : 10 ^ 1 <= 10 ^ d.toNat := Nat.pow_le_pow_right (by decide) (by omega)
 omega
theorem V2 {a b : Int} (h : a <= b) : A6 a <= A6 b := by
 unfold A6
 exact Int.ofNat_le.mpr (Nat.pow_le_pow_right (by decide) (by omega))
theorem J8r {t b s r : Int} (hb : 0 < b) (h1 : Y9 t b s) (h2 : Y9 t b r) : r <= s := by
 apply Classical.byContradiction
 intro h
 have hs : s <= r := by omega
 have c := C1n hs
 have g := Y5w (d := r - s) (by omega)
 have p1 := D5 (-s)
 have p2 := D5 (-r)
 have l1 : 0 < b * A6 (-s) := Int.mul_pos hb p1
 have l2 : 0 < b * A6 (-r) := Int.mul_pos hb p2
 have e : t * A6 r * (b * A6 (-s)) = t * A6 s * (b * A6 (-r)) * A6 (r - s) := by
   calc t * A6 r * (b * A6 (-s)) = t * b * (A6 r * A6 (-s)) := by ac_rfl
     _ = t * b * (A6 s * A6 (-r) * A6 (r - s)) := by rw [c]
     _ = t * A6 s * (b * A6 (-r)) * A6 (r - s) := by ac_rfl
 have a1 : t * A6 r * (b * A6 (-s)) < 10 * (b * A6 (-r)) * (b * A6 (-s)) := Int.mul_lt_mul_of_pos_right h2.2 l1
 have hp : 0 < t * A6 s := Int.lt_of_lt_of_le l1 h1.1
 have a2 : t * A6 s * (b * A6 (-r)) * 10 <= t * A6 s * (b * A6 (-r)) * A6 (r - s) := Int.mul_le_mul_of_nonneg_left g (Int.le_of_lt (Int.mul_pos hp l2))
 have a3 : b * A6 (-s) * (b * A6 (-r)) <= t * A6 s * (b * A6 (-r)) := Int.mul_le_mul_of_nonneg_right h1.1 (Int.le_of_lt l2)
 have e2 : 10 * (b * A6 (-r)) * (b * A6 (-s)) = b * A6 (-s) * (b * A6 (-r)) * 10 := by ac_rfl
 have a4 : b * A6 (-s) * (b * A6 (-r)) * 10 <= t * A6 s * (b * A6 (-r)) * 10 := Int.mul_le_mul_of_nonneg_right a3 (by decide)
 rw [e] at a1
 rw [e2] at a1
 exact absurd (Int.lt_of_lt_of_le a1 (Int.le_trans a4 a2)) (Int.lt_irrefl _)
theorem D2s {t b s r : Int} (hb : 0 < b) (h1 : Y9 t b s) (h2 : Y9 t b r) : s = r := Int.le_antisymm (J8r hb h2 h1) (J8r hb h1 h2)
def Sz (t : Int) : Prop := 1 <= t /\ t < A6 1000
theorem J8k (n : Nat) : 10 ^ n <= 2 ^ (4 * n) := by
 rw [Nat.pow_mul]
 exact Nat.pow_le_pow_left (by decide) n
theorem U7q (n : Nat) : 10 ^ (3 * n) <= 2 ^ (10 * n) := by
 rw [Nat.pow_mul, Nat.pow_mul]
 exact Nat.pow_le_pow_left (by decide) n
theorem Sz.nat {t : Int} (h : Sz t) : ∃ n : Nat, t = (n : Int) /\ 1 <= n /\ n < 10 ^ 1000 := by
 obtain ⟨n, rfl⟩ := Int.eq_ofNat_of_zero_le (show 0 <= t by have := h.1; omega)
 exact ⟨n, rfl, Int.ofNat_le.mp h.1, Int.ofNat_lt.mp h.2⟩
theorem D2c {t s : Int} (ht : Sz t) (h : s <= 1500) : ∃ n : Nat, t * A6 s = (n : Int) /\ n < 10 ^ 2502 := by
 obtain ⟨n, rfl, _, hn⟩ := ht.nat
 refine ⟨n * 10 ^ s.toNat, rfl, ?_⟩
 have a : 10 ^ s.toNat <= 10 ^ 1502 := Nat.pow_le_pow_right (by decide) (by omega)
 calc n * 10 ^ s.toNat <= n * 10 ^ 1502 := Nat.mul_le_mul_left n a
   _ < 10 ^ 1000 * 10 ^ 1502 := Nat.mul_lt_mul_of_pos_right hn (Nat.pow_pos (by decide))
   _ = 10 ^ 2502 := by rw [<- Nat.pow_add]
theorem G3g {n : Nat} (h : n < 10 ^ 2502) : Builtin.Int.intBits (n : Int) <= 2 ^ 20 := B4h (k := 4 * 2502) (Nat.lt_of_lt_of_le h (J8k 2502)) (by decide)
theorem Y5n {t : Int} (h : Sz t) : Builtin.Int.intBits t <= 2 ^ 20 := by
 obtain ⟨n, rfl, _, hn⟩ := h.nat
 exact B4h (k := 4 * 1000) (Nat.lt_of_lt_of_le hn (J8k 1000)) (by decide)
theorem U9f {t s : Int} (ht : Sz t) (h : s <= 1500) : IntMulOk t (A6 s) := IntMulOk.of_bits (Y5n ht) (B5s (by omega))
theorem U7p {b s : Int} (hb : Sz b) (h : s <= 1500) : (b * A6 s).natAbs.log2 < 9000 := by
 obtain ⟨n, e, hn⟩ := D2c hb h
 rw [e]
 have : n < 2 ^ 8340 := Nat.lt_of_lt_of_le hn (U7q 834)
 exact Nat.lt_trans (C1r (i := (n : Int)) (k := 8340) (by rw [Int.natAbs_natCast]; exact this) (by decide)) (by decide)
def whI (t b s : Int) : Int := t * A6 s / (b * A6 (-s))
def ptI (t b s : Int) : Int := U6 (t * A6 s - whI t b s * (b * A6 (-s))) (b * A6 (-s))
theorem Y4n {t b s : Int} (hb : 0 < b) : 0 <= t * A6 s - whI t b s * (b * A6 (-s)) /\ t * A6 s - whI t b s * (b * A6 (-s)) < b * A6 (-s) := by
 have l := Int.mul_pos hb (D5 (-s))
 have e := Int.emod_add_mul_ediv (t * A6 s) (b * A6 (-s))
 have a := Int.emod_nonneg (t * A6 s) (Int.ne_of_gt l)
 have c := Int.emod_lt_of_pos (t * A6 s) l
 have e2 : whI t b s * (b * A6 (-s)) = b * A6 (-s) * (t * A6 s / (b * A6 (-s))) := Int.mul_comm _ _
 omega
theorem Z4e {t b s : Int} (ht : Sz t) (hb : Sz b) (h1 : -1500 <= s) (h2 : s <= 1500) : IntMulOk (whI t b s) (b * A6 (-s)) := by
 obtain ⟨n, e, hn⟩ := D2c hb (s := -s) (by omega)
 obtain ⟨k, e', hk⟩ := D2c ht h2
 unfold whI
 rw [e, e']
 exact IntMulOk.of_bits (G3g (Nat.lt_of_le_of_lt (Nat.div_le_self k n) hk)) (G3g hn)
abbrev A4t : Stmt := (D7 (top 6) 0)
structure RatC (K : Frag) (mg : Str -> Option Value) (CR CE : Addr) : Prop where
 g : mg "Ratio" = some (.ref CR)
 ge : mg "Exact" = some (.ref CE)
 cl : Cls K CR
 n_top : NoAttr K CR "top"
 n_bottom : NoAttr K CR "bottom"
 n_power : NoAttr K CR "power"
 ca : findIn K (.ref CR) "__class__" = some (some (.builtin "object.__class__"))
 sn : specialIn K (.builtin "object.__class__") "__get__" = some (some (.builtin "getset_descriptor.__get__"))
 tk : takesIn K (.builtin "object.__class__") = some true
 ob : mroIn K CR (.type "object") = some true
 up : kitOne K (.ref CR) (.ref CE) = some true
def D2v (t b n : V) : List (Str × V) := J4 "power" n (J4 "bottom" b (J4 "top" t []))
theorem C2m (t b n : V) (x : Str) : (D2v t b n).lookup x = if x = "power" then some n else if x = "bottom" then some b else if x = "top" then some t else none := by
 unfold D2v
 rw [D3, D3, D3]
 rfl
theorem J8t (t b n : V) : (D2v t b n).lookup ("top" : Str) = some t := by rw [C2m, if_neg (by decide +kernel), if_neg (by decide +kernel), if_pos rfl]
theorem C1s (t b n : V) : (D2v t b n).lookup ("bottom" : Str) = some b := by rw [C2m, if_neg (by decide +kernel), if_pos rfl]
theorem D0n (t b n : V) : (D2v t b n).lookup ("power" : Str) = some n := by rw [C2m, if_pos rfl]
theorem A4z (t b n : V) : (D2v t b n).lookup ("first" : Str) = none := by rw [C2m, if_neg (by decide +kernel), if_neg (by decide +kernel), if_neg (by decide +kernel)]
theorem B1d (t b n : V) : (D2v t b n).lookup ("at" : Str) = none := by rw [C2m, if_neg (by decide +kernel), if_neg (by decide +kernel), if_neg (by decide +kernel)]
def RatAt (CR : Addr) (H : Hp) (x : Addr) (t b n : Int) : Prop := ∃ dx, H x = some (.ins CR dx (D2v (.int t) (.int b) (.int n)))
theorem RatAt.same {CR : Addr} {H H' : Hp} {x : Addr} {t b n : Int} (h : RatAt CR H x t b n) (s : Same H H') : RatAt CR H' x t b n := by
 obtain ⟨dx, e⟩ := h
 exact ⟨dx, s _ _ e⟩
section
variable {P : Program} {w : World} {K : Frag} {mg : Str -> Option Value} {base : Heap}
def D2h (CR : Addr) : Sp := fun vs H Q _ => ∃ (p dx : Addr) (t b n : V), vs = [.ref p, t, b, n] /\ H p = some (.ins CR dx []) /\ ∀ H', H' p = some (.ins CR dx (D2v t b n)) -> Exc p H H' -> Q .non H'
theorem Y5c : FnScope ["self", "top", "bottom", "power"] ["self", "top", "bottom", "power"] (A1 A4t) := scK
theorem U8d {f CR CE : Addr} {fd : FuncData} {dV : Value} (F : FunD K "__init__" "Ratio.__init__" A4t dV f fd) (R : RatC K mg CR CE) : FnOk P w K mg base (CX1 P w) 1 f fd ["self", "top", "bottom", "power"] (D2h CR) := by
 refine F.okE Y5c (fun vs H Q E h => ?_) (fun X cdv A outer s H vs Q E hX hr hx h => ?_)
 . obtain ⟨p, dx, a, b, c, rfl, _⟩ := h
   rfl
 . subst hX
   obtain ⟨p, dx, a, b, c, rfl, hp, k⟩ := h
   refine ⟨_, (A4 (Z0 (pv 0) (pv 1) rfl)
     (A4 (Z0 (pv 0) (pv 2) rfl)
     (A5 (Z0 (pv 0) (pv 3) rfl)))), ?_⟩
   have l : ∀ (fs : List (Str × V)) (f : Str) (v : V) (n : Nat), fs.length <= n -> (J4 f v fs).length <= n + 1 := fun fs f v n h => Nat.le_trans (A0n f v fs) (Nat.succ_le_succ h)
   refine ⟨_, rfl, _, rfl, p, CR, dx, [], rfl, hp, R.cl, R.n_top, (by show 0 < 1000; decide), ?_⟩
   refine ⟨_, rfl, _, rfl, p, CR, dx, _, rfl, A9, R.cl, R.n_bottom, Nat.lt_of_le_of_lt (l _ _ _ 0 (Nat.le_refl _)) (by decide), ?_⟩
   refine ⟨_, rfl, _, rfl, p, CR, dx, _, rfl, A9, R.cl, R.n_power, Nat.lt_of_le_of_lt (l _ _ _ 1 (l _ _ _ 0 (Nat.le_refl _))) (by decide), ?_⟩
   refine k _ A9 fun b o e hb => ?_
   rw [C8 hb, C8 hb, C8 hb]
   exact e
def G2x (CR : Addr) : Sp := fun vs H Q _ => ∃ x t b n, vs = [.ref x] /\ RatAt CR H x t b n /\ Sz t /\ Sz b /\ ∀ f H', Same H H' -> Y9 t b (n - f) -> Q (.int f) H'
def U6z (CR : Addr) : Sp := fun vs H Q _ => ∃ x t b n p, vs = [.ref x, .int p] /\ RatAt CR H x t b n /\ Sz t /\ Sz b /\ -1500 <= n - p /\ n - p <= 1500 /\
 ∀ q H', Same H H' -> H q = none -> H' q = some (.tup [.int (whI t b (n - p)), .int (ptI t b (n - p))]) -> Q (.ref q) H'
structure MakeR (P : Program) (w : World) (K : Frag) (mg : Str -> Option Value) (base : Heap) (CR fI : Addr) (fdI : FuncData) (d0 : Value) (gP : List Value -> List Value -> List Value) (vP : List V -> List V -> List V) : Prop where
 m : Mk K CR fI
 g : FnOk P w K mg base (CX1 P w) 1 fI fdI ["self", "top", "bottom", "power"] (D2h CR)
 b3 : Binds K fdI ["self", "top", "bottom", "power"] []
 b2 : Binds K fdI ["self", "top", "bottom", "power"] [d0]
 r0 : RelV (.int 0) d0
 kP : KBinds K fdI ["self", "top", "bottom", "power"] ["power"] gP vP
 eP : ∀ x a b c, vP [x, a, b] [c] = [x, a, b, c]
structure RatM (P : Program) (w : World) (K : Frag) (mg : Str -> Option Value) (base : Heap) (CR f1 f2 : Addr) (fd1 fd2 : FuncData) : Prop where
 m1 : Meth K CR "first" f1
 g1 : FnOk P w K mg base (CX1 P w) 4 f1 fd1 ["self"] (G2x CR)
 b1 : Binds K fd1 ["self"] []
 m2 : Meth K CR "at" f2
 g2 : FnOk P w K mg base (CX1 P w) 3 f2 fd2 ["self", "power"] (U6z CR)
 b2 : Binds K fd2 ["self", "power"] []
theorem Y9c {CR x dx : Addr} {H : Hp} {Q : VK} {E : XK} {t b n : Int} (n1 : H x = none) (n2 : H dx = none) (ne : dx ≠ x) (k : ∀ H', Same H H' -> RatAt CR H' x t b n -> Q .non H') :
   D2h CR [.ref x, .int t, .int b, .int n] (upd (upd H dx (.own x)) x (.ins CR dx [])) Q E :=
 ⟨x, dx, _, _, _, rfl, A9, fun H' e s => k H' (fun c o z => s c o (by rw [C8 (D0 z n1), C8 (D0 z n2)]; exact z) (D0 z n1)) ⟨dx, e⟩⟩
end
abbrev A4m : Stmt := (top 7)
section
variable {P : Program} {w : World} {K : Frag} {mg : Str -> Option Value} {base : Heap}
def G3b : Sp := fun vs H Q _ => ∃ l m : Int, vs = [.int (2 * l), .int m] /\ 0 <= l /\ 0 < m /\ Q (.int (U6 l m)) H
theorem U7d : FnScope ["size", "middle"] ["size", "middle"] (A1 A4m) := scK
theorem Y5x {m : Int} (hm : 0 < m) : U6 0 m = 0 := by
 unfold U6
 rw [decide_eq_false (by omega : ¬ (0 : Int) < 0), decide_eq_false (by omega : ¬ m <= 2 * 0), decide_eq_false (by omega : ¬ m < 2 * 0)]
 rfl
theorem Y4t {l m : Int} (hl : 0 < l) (h : 2 * l < m) : U6 l m = 1 := by
 unfold U6
 rw [decide_eq_true hl, decide_eq_false (by omega : ¬ m <= 2 * l), decide_eq_false (by omega : ¬ m < 2 * l)]
 rfl
theorem Y3w {l m : Int} (hl : 0 < l) (h : 2 * l = m) : U6 l m = 2 := by
 unfold U6
 rw [decide_eq_true hl, decide_eq_true (by omega : m <= 2 * l), decide_eq_false (by omega : ¬ m < 2 * l)]
 rfl
theorem Y5k {l m : Int} (hl : 0 < l) (h : m < 2 * l) : U6 l m = 3 := by
 unfold U6
 rw [decide_eq_true hl, decide_eq_true (by omega : m <= 2 * l), decide_eq_true h]
 rfl
theorem J9v {f : Addr} {fd : FuncData} (D : Def K mg "part_of" ["size", "middle"] A4m f fd) : FnOk P w K mg base (CX1 P w) 1 f fd ["size", "middle"] G3b := by
 refine FnOk.up (D.F.ok U7d (fun vs H Q E h => ?_) (fun cdv A outer s H vs Q E hr h => ?_))
 . obtain ⟨l, m, rfl, _⟩ := h
   rfl
 . obtain ⟨l, m, rfl, hl, hm, k⟩ := h
   refine ⟨_, (A4 (D9 (B9 G0 (pv 0) A2 (B8 _)) (A5 (B0 A2)) C5)
     (A4 (D9 (B9 G1z (pv 0) (pv 1) (B8 _)) (A5 (B0 A2)) C5)
     (A5 (B0 (V3 (B9 G0 (pv 0) (pv 1) (B8 _)) A2 A2))))), ?_⟩
   refine ⟨_, rfl, rfl, _, rfl, G8 (fun h0 => ?_) (fun h0 => ?_)⟩
   . have e : l = 0 := by
       have : 2 * l = 0 := by injection h0
       omega
     subst e
     rw [Y5x hm] at k
     exact k
   . have hl' : 0 < l := by
       apply Classical.byContradiction
       intro z
       exact h0 (by rw [show l = 0 by omega]; rfl)
     refine ⟨_, rfl, _, rfl, _, _, rfl, rfl, _, rfl, G8 (fun h1 => ?_) (fun h1 => ?_)⟩
     . rw [Y4t hl' h1] at k
       exact k
     . refine ⟨_, rfl, _, rfl, rfl, _, rfl, G8 (fun h2 => ?_) (fun h2 => ?_)⟩
       . rw [Y3w hl' (by injection h2)] at k
         exact k
       . rw [Y5k hl' (by
           have : 2 * l ≠ m := fun z => h2 (by rw [z])
           omega)] at k
         exact k
end
abbrev A7z : Stmt := (top 8)
theorem G7n (k : Nat) : 10 ^ (k * 301029995 / 10 ^ 9) <= 2 ^ k := by
 have hm : k * 301029995 / 10 ^ 9 * 28738 <= k * 8651 := by
   have : k * 301029995 / 10 ^ 9 * 10 ^ 9 <= k * 301029995 := Nat.div_mul_le_self _ _
   omega
 generalize k * 301029995 / 10 ^ 9 = m at hm
 have c : (10 : Nat) ^ 8651 <= 2 ^ 28738 := by decide +kernel
 have a : (10 ^ m) ^ 8651 <= (2 ^ k) ^ 8651 := by
   calc (10 ^ m) ^ 8651 = (10 ^ 8651) ^ m := by rw [<- Nat.pow_mul, <- Nat.pow_mul, Nat.mul_comm]
     _ <= (2 ^ 28738) ^ m := Nat.pow_le_pow_left c m
     _ = 2 ^ (m * 28738) := by rw [<- Nat.pow_mul, Nat.mul_comm]
     _ <= 2 ^ (k * 8651) := Nat.pow_le_pow_right (by decide) hm
     _ = (2 ^ k) ^ 8651 := by rw [<- Nat.pow_mul]
 exact (Nat.pow_le_pow_iff_left (by decide)).mp a
section
variable {P : Program} {w : World} {K : Frag} {mg : Str -> Option Value} {base : Heap}
def J8b : Sp := fun vs H Q _ => ∃ n : Nat, vs = [.int (n : Int)] /\ 1 <= n /\ n < 10 ^ 3000 /\ ∀ L : Nat, 10 ^ L <= n -> n < 10 ^ (L + 1) -> Q (.int (L : Int)) H
theorem scWLead : FnScope ["whole", "lead", "beyond"] ["whole"] (A1 A7z) := scK
theorem U7u {f f1 : Addr} {fd fd1 : FuncData} (D : Def K mg "whole_lead" ["whole"] A7z f fd) (D_ten_to : Def K mg "ten_to" ["count"] A0c f1 fd1) (G_ten_to : FnOk P w K mg base (CX1 P w) 2 f1 fd1 ["count"] A5b) : FnOk P w K mg base (CX1 P w) 3 f fd ["whole"] J8b := by
 refine FnOk.up (D.F.ok scWLead (fun vs H Q E h => ?_) (fun cdv A outer s H vs Q E hr h => ?_))
 . obtain ⟨n, rfl, _⟩ := h
   rfl
 . obtain ⟨n, rfl, n1, n2, k⟩ := h
   have hx : G2 (A1j CX0 P w K mg base ["whole", "lead", "beyond"] "whole_lead" (A1 A7z) f cdv A outer s H E).nox EKF := V0
   refine ⟨_, (A4 (B7 (C9 (i := 1) scWLead.nd rfl (Or.inl rfl) (B3 D8 (B3 J7 (B3 U0 (Z0u PySem.F.plainAttrs_int PySem.F.slot_int_bit_length PySem.F.type_int_bit_length C6t (pv 0)) A2) A2) (B3 U8f A2 A2))))
     (A4 (B7 (C9 (i := 2) scWLead.nd rfl (Or.inl rfl) (B5 D_ten_to G_ten_to hr hx (A0 (B3 U8 (pv 1) A2) A3))))
     (A4 (B7 (C2e PassesOwn.never (B9 Y9b (pv 2) (pv 0) (B8 _)) (A4 (Z0p (i := 1) scWLead.nd rfl (Or.inl rfl) A2 Z1r)
     (A5 (C9 (i := 2) scWLead.nd rfl (Or.inl rfl) (B3 J7 (pv 2) A2))))))
     (A5 (B0 (pv 1)))))), ?_⟩
   have mC : ∀ z n : Int, -(2 ^ 64) < n -> n < 2 ^ 64 -> IntMulOk z n := fun z n a b => CMul.ok (.inr ⟨a, b⟩)
   have pw : Z0q 10 9 := ⟨by decide, by decide, by decide⟩
   have l3 : ∀ {L : Nat}, 10 ^ L <= n -> L < 3000 := fun hL => (Nat.pow_lt_pow_iff_right (by decide : 1 < 10)).mp (Nat.lt_of_le_of_lt hL n2)
   refine ⟨fun σ H' => H' = H /\ ∃ L : Nat, 10 ^ L <= n /\ σ = [some (.int (n : Int)), some (.int (L : Int)), none], ?_, ?_⟩
   . refine ⟨_, rfl, rfl, _, rfl, rfl, _, _, rfl, rfl, _, _, rfl, rfl, mC _ _ (by decide) (by decide), _, _, rfl, rfl, pw, _, _, rfl, rfl, ⟨by decide, by decide +kernel⟩, rfl, n.log2 * 301029995 / 10 ^ 9, ?_, ?_⟩
     . exact Nat.le_trans (G7n _) (Nat.log2_self_le (by omega))
     . have e : (Builtin.Int.intBits (n : Int) : Nat) = n.log2 + 1 := by
         unfold Builtin.Int.intBits
         rw [if_neg (by simp; omega)]
         rfl
       show [some (V.int (n : Int)), some (V.int ((((Builtin.Int.intBits (n : Int) : Nat) : Int) - 1) * 301029995 / (10 ^ Int.toNat 9 : Int))), none] = _
       rw [e, show ((n.log2 + 1 : Nat) : Int) - 1 = (n.log2 : Int) by omega]
       rfl
   rintro σ H' ⟨rfl, L0, hL0, rfl⟩
   refine ⟨fun σ H2 => H2 = H' /\ ∃ L : Nat, 10 ^ L <= n /\ σ = [some (.int (n : Int)), some (.int (L : Int)), some (.int ((10 ^ (L + 1) : Nat) : Int))], ?_, ?_⟩
   . have := l3 hL0
     exact ⟨_, rfl, _, _, rfl, rfl, L0 + 1, rfl, by omega, rfl, L0, hL0, rfl⟩
   rintro σ H2 ⟨rfl, L1, hL1, rfl⟩
   refine ⟨fun σ H3 => H3 = H2 /\ ∃ L : Nat, 10 ^ L <= n /\ n < 10 ^ (L + 1) /\ σ = [some (.int (n : Int)), some (.int (L : Int)), some (.int ((10 ^ (L + 1) : Nat) : Int))], ?_, ?_⟩
   . refine C2k (fun σ H3 => H3 = H2 /\ ∃ L : Nat, 10 ^ L <= n /\ σ = [some (.int (n : Int)), some (.int (L : Int)), some (.int ((10 ^ (L + 1) : Nat) : Int))]) (fun σ _ => match σ with | [_, some (.int c), _] => n - c.toNat | _ => 0) ?_ ?_ ?_
     . exact ⟨rfl, L1, hL1, rfl⟩
     . rintro σ H3 ⟨rfl, L, hL, rfl⟩
       refine ⟨_, rfl, _, rfl, _, _, rfl, rfl, _, rfl, G8 (fun hle => ?_) (fun hgt => ?_)⟩
       . have hle : 10 ^ (L + 1) <= n := Int.ofNat_le.mp hle
         refine ⟨_, rfl, _, _, rfl, rfl, _, rfl, _, _, rfl, rfl, mC _ _ (by decide) (by decide), ⟨rfl, L + 1, hle, ?_⟩, ?_⟩
         . show [some (V.int (n : Int)), some (V.int ((L : Int) + 1)), some (V.int (((10 ^ (L + 1) : Nat) : Int) * 10))] = _
           rw [show ((10 ^ (L + 1) : Nat) : Int) * 10 = ((10 ^ (L + 1 + 1) : Nat) : Int) by rw [Nat.pow_succ 10 (L + 1)]; rfl]
           rfl
         have lt : L + 1 < 10 ^ (L + 1) := Nat.lt_pow_self (by decide)
         show n - ((L : Int) + 1).toNat < n - (L : Int).toNat
         omega
       . have hgt : ¬ 10 ^ (L + 1) <= n := fun z => hgt (Int.ofNat_le.mpr z)
         exact ⟨rfl, L, hL, by omega, rfl⟩
     . rintro σ H2 Q1 Q2 hQ ⟨v, e, v2, e4, i2, j2, e5, e6, b, e7, q⟩
       exact ⟨v, e, v2, e4, i2, j2, e5, e6, b, e7, hQ _ _ q⟩
   rintro σ H3 ⟨rfl, L, h1, h2, rfl⟩
   exact ⟨_, rfl, k L h1 h2⟩
end
abbrev C1q : Stmt := (D7 (top 6) 2)
abbrev A2t : Stmt := (D7 (top 6) 1)
section
variable {P : Program} {w : World} {K : Frag} {mg : Str -> Option Value} {base : Heap}
theorem scRAt : FnScope ["self", "power", "shift", "top", "bottom", "whole"] ["self", "power"] (A1 C1q) := scK
theorem Z0a {f f1 f2 CR CE : Addr} {fd fd1 fd2 : FuncData} (F : Fun K "at" "Ratio.at" C1q f fd) (D_ten_to : Def K mg "ten_to" ["count"] A0c f1 fd1) (G_ten_to : FnOk P w K mg base (CX1 P w) 2 f1 fd1 ["count"] A5b)
   (D_part_of : Def K mg "part_of" ["size", "middle"] A4m f2 fd2) (G_part_of : FnOk P w K mg base (CX1 P w) 1 f2 fd2 ["size", "middle"] G3b) (R : RatC K mg CR CE) (O : Own mg) : FnOk P w K mg base (CX1 P w) 3 f fd ["self", "power"] (U6z CR) := by
 refine FnOk.up (F.ok scRAt (fun vs H Q E h => ?_) (fun cdv A outer s H vs Q E hr h => ?_))
 . obtain ⟨x, t, b, n, p, rfl, _⟩ := h
   rfl
 . obtain ⟨x, t, b, n, p, rfl, ⟨dx, e⟩, ht, hb, h1, h2, k⟩ := h
   have hx : G2 (A1j CX0 P w K mg base ["self", "power", "shift", "top", "bottom", "whole"] "Ratio.at" (A1 C1q) f cdv A outer s H E).nox EKF := V0
   refine ⟨_, (A4 (C9 (i := 2) scRAt.nd rfl (Or.inl rfl) (B3 U0 (C7 (pv 0) rfl) (pv 1)))
     (A4 (C9 (i := 3) scRAt.nd rfl (Or.inl rfl) (B3 J7 (C7 (pv 0) rfl) (B5 D_ten_to G_ten_to hr hx (A0 (U7 (B1e rfl) (by rfl) O.max_ boot_max (A0 (pv 2) (A0 A2 A3))) A3))))
     (A4 (C9 (i := 4) scRAt.nd rfl (Or.inl rfl) (B3 J7 (C7 (pv 0) rfl) (B5 D_ten_to G_ten_to hr hx (A0 (U7 (B1e rfl) (by rfl) O.max_ boot_max (A0 (A0r V4 (pv 2)) (A0 A2 A3))) A3))))
     (A4 (C9 (i := 5) scRAt.nd rfl (Or.inl rfl) (B3 D8 (pv 3) (pv 4)))
     (A5 (B0 (B2v (A0 (pv 5) (A0 (B5 D_part_of G_part_of hr hx (A0 (B3 J7 A2 (B3 U0 (pv 3) (B3 J7 (pv 5) (pv 4)))) (A0 (pv 4) A3))) A3))))))))), ?_⟩
   have z2 : 2 <= sizeLine := D6 (by decide)
   have mC' : ∀ z n : Int, -(2 ^ 64) < n -> n < 2 ^ 64 -> IntMulOk n z := fun z n a b => CMul.ok (.inl ⟨a, b⟩)
   have hb0 : 0 < b := by have := hb.1; omega
   refine ⟨_, rfl, x, CR, dx, _, _, rfl, e, R.cl, R.n_power, D0n _ _ _, _, rfl, _, _, rfl, rfl, ?_⟩
   refine ⟨_, rfl, x, CR, dx, _, _, rfl, e, R.cl, R.n_top, J8t _ _ _, _, rfl, _, _, rfl, (n - p).toNat, congrArg (fun z => [V.int z]) (Z4n (n - p)), by omega, _, _, rfl, rfl, U9f ht h2, ?_⟩
   refine ⟨_, rfl, x, CR, dx, _, _, rfl, e, R.cl, R.n_bottom, C1s _ _ _, _, rfl, _, rfl, _, _, rfl, (-(n - p)).toNat, congrArg (fun z => [V.int z]) (Z4n (-(n - p))), by omega, _, _, rfl, rfl, U9f hb (by omega), ?_⟩
   have lp : 0 < b * A6 (-(n - p)) := Int.mul_pos hb0 (D5 _)
   have ll : (b * A6 (-(n - p))).natAbs.log2 < 9000 := U7p hb (by omega)
   refine ⟨_, rfl, _, rfl, _, _, rfl, rfl, ⟨lp, ll⟩, ?_⟩
   have lf := Y4n (t := t) (s := n - p) hb0
   refine ⟨_, rfl, _, rfl, _, rfl, _, rfl, _, _, rfl, rfl, Z4e ht hb h1 h2, _, _, rfl, rfl, _, _, rfl, rfl, mC' _ _ (by decide) (by decide), _, rfl, _, _, rfl, lf.1, lp, z2, fun q nq => k q _ (Same.upd nq) nq A9⟩
end
theorem Z0y {t b L M u v : Nat} (h : L + u = M + v) (t2 : t < 10 ^ (L + 1)) (b1 : 10 ^ M <= b) : t * 10 ^ u < 10 * (b * 10 ^ v) := by
 have p : 0 < 10 ^ u := Nat.pow_pos (by decide)
 calc t * 10 ^ u < 10 ^ (L + 1) * 10 ^ u := Nat.mul_lt_mul_of_pos_right t2 p
   _ = 10 * (10 ^ M * 10 ^ v) := by rw [<- Nat.pow_add, <- Nat.pow_add, <- h, show L + 1 + u = (L + u) + 1 by omega, Nat.pow_succ, Nat.mul_comm]
   _ <= 10 * (b * 10 ^ v) := Nat.mul_le_mul_left 10 (Nat.mul_le_mul_right _ b1)
theorem Z0k {t b L M u v : Nat} (h : L + u = M + 1 + v) (t1 : 10 ^ L <= t) (b2 : b < 10 ^ (M + 1)) : b * 10 ^ v <= t * 10 ^ u := by
 calc b * 10 ^ v <= 10 ^ (M + 1) * 10 ^ v := Nat.mul_le_mul_right _ (Nat.le_of_lt b2)
   _ = 10 ^ L * 10 ^ u := by rw [<- Nat.pow_add, <- Nat.pow_add, h]
   _ <= t * 10 ^ u := Nat.mul_le_mul_right _ t1
theorem U0s {t b L M : Nat} (t1 : 10 ^ L <= t) (t2 : t < 10 ^ (L + 1)) (b1 : 10 ^ M <= b) (b2 : b < 10 ^ (M + 1)) (h : (b : Int) * A6 (-((M : Int) - L)) <= (t : Int) * A6 ((M : Int) - L)) : Y9 t b ((M : Int) - L) := by
 refine ⟨h, ?_⟩
 unfold A6
 have := Z0y (t := t) (b := b) (L := L) (M := M) (u := ((M : Int) - L).toNat) (v := (-((M : Int) - L)).toNat) (by omega) t2 b1
 exact Int.ofNat_lt.mpr this
theorem G6w {t b L M : Nat} (t1 : 10 ^ L <= t) (t2 : t < 10 ^ (L + 1)) (b1 : 10 ^ M <= b) (b2 : b < 10 ^ (M + 1)) (h : (t : Int) * A6 ((M : Int) - L) < (b : Int) * A6 (-((M : Int) - L))) : Y9 t b ((M : Int) - L + 1) := by
 refine ⟨?_, ?_⟩
 . unfold A6
   have := Z0k (t := t) (b := b) (L := L) (M := M) (u := ((M : Int) - L + 1).toNat) (v := (-((M : Int) - L + 1)).toNat) (by omega) t1 b2
   exact Int.ofNat_le.mpr this
 . have hb : 0 < (b : Int) := by
     have : 0 < 10 ^ M := Nat.pow_pos (by decide)
     omega
   generalize (M : Int) - L = s at h
   have c := C1n (s := s) (r := s + 1) (by omega)
   have e1 : A6 (s + 1 - s) = 10 := by rw [show s + 1 - s = 1 by omega]; rfl
   rw [e1] at c
   have l := Int.mul_pos hb (D5 (-s))
   have l' := Int.mul_pos hb (D5 (-(s + 1)))
   have e : (t : Int) * A6 (s + 1) * ((b : Int) * A6 (-s)) = (t : Int) * A6 s * ((b : Int) * A6 (-(s + 1))) * 10 := by
     calc (t : Int) * A6 (s + 1) * ((b : Int) * A6 (-s)) = t * b * (A6 (s + 1) * A6 (-s)) := by ac_rfl
       _ = t * b * (A6 s * A6 (-(s + 1)) * 10) := by rw [c]
       _ = (t : Int) * A6 s * ((b : Int) * A6 (-(s + 1))) * 10 := by ac_rfl
   have a : (t : Int) * A6 s * ((b : Int) * A6 (-(s + 1))) < (b : Int) * A6 (-s) * ((b : Int) * A6 (-(s + 1))) := Int.mul_lt_mul_of_pos_right h l'
   have a2 : (t : Int) * A6 (s + 1) * ((b : Int) * A6 (-s)) < 10 * ((b : Int) * A6 (-(s + 1))) * ((b : Int) * A6 (-s)) := by
     rw [e, show 10 * ((b : Int) * A6 (-(s + 1))) * ((b : Int) * A6 (-s)) = (b : Int) * A6 (-s) * ((b : Int) * A6 (-(s + 1))) * 10 by ac_rfl]
     exact Int.mul_lt_mul_of_pos_right a (by decide)
   exact Int.lt_of_mul_lt_mul_right a2 (Int.le_of_lt l)
section
variable {P : Program} {w : World} {K : Frag} {mg : Str -> Option Value} {base : Heap}
theorem scRFirst : FnScope ["self", "guess"] ["self"] (A1 A2t) := scK
theorem U0a {f f1 f2 CR CE : Addr} {fd fd1 fd2 : FuncData} (F : Fun K "first" "Ratio.first" A2t f fd) (D_whole_lead : Def K mg "whole_lead" ["whole"] A7z f1 fd1) (G_whole_lead : FnOk P w K mg base (CX1 P w) 3 f1 fd1 ["whole"] J8b)
   (MA : Meth K CR "at" f2) (GA : FnOk P w K mg base (CX1 P w) 3 f2 fd2 ["self", "power"] (U6z CR)) (BA : Binds K fd2 ["self", "power"] []) (R : RatC K mg CR CE) : FnOk P w K mg base (CX1 P w) 4 f fd ["self"] (G2x CR) := by
 refine FnOk.up (F.ok scRFirst (fun vs H Q E h => ?_) (fun cdv A outer s H vs Q E hr h => ?_))
 . obtain ⟨x, t, b, n, rfl, _⟩ := h
   rfl
 . obtain ⟨x, t, b, n, rfl, ra, ht, hb, k⟩ := h
   have hx : G2 (A1j CX0 P w K mg base ["self", "guess"] "Ratio.first" (A1 A2t) f cdv A outer s H E).nox EKF := V0
   refine ⟨_, (A4 (C9 (i := 1) scRFirst.nd rfl (Or.inl rfl) (B3 U8 (B3 U0 (B5 D_whole_lead G_whole_lead hr hx (A0 (C7 (pv 0) rfl) A3)) (B5 D_whole_lead G_whole_lead hr hx (A0 (C7 (pv 0) rfl) A3))) (C7 (pv 0) rfl)))
     (A5 (B0 (V3 (B9 C2a (G7 U9 (C0d (pv 0) R.cl MA GA hr BA .nil hx (A0 (pv 1) A3)) A2 (fun _ _ => rfl)) A2 (B8 _)) (pv 1) (B3 U0 (pv 1) A2))))), ?_⟩
   obtain ⟨tn, rfl, ta, tb⟩ := ht.nat
   obtain ⟨bn, rfl, ba, bb⟩ := hb.nat
   obtain ⟨dx, e⟩ := id ra
   have p30 : (10 : Nat) ^ 1000 < 10 ^ 3000 := Nat.pow_lt_pow_right (by decide) (by decide)
   have p30' : ∀ {L m : Nat}, 10 ^ L <= m -> m < 10 ^ 1000 -> L < 1000 := fun h1 h2 => (Nat.pow_lt_pow_iff_right (by decide : 1 < 10)).mp (Nat.lt_of_le_of_lt h1 h2)
   refine ⟨_, rfl, x, CR, dx, _, _, rfl, e, R.cl, R.n_top, J8t _ _ _, tn, rfl, ta, Nat.lt_trans tb p30, fun L L1 L2 => ?_⟩
   refine ⟨_, rfl, x, CR, dx, _, _, rfl, e, R.cl, R.n_bottom, C1s _ _ _, bn, rfl, ba, Nat.lt_trans bb p30, fun M' M1 M2 => ?_⟩
   have l30 := p30' L1 tb
   have m30 := p30' M1 bb
   refine ⟨_, _, rfl, rfl, _, rfl, x, CR, dx, _, _, rfl, e, R.cl, R.n_power, D0n _ _ _, _, _, rfl, rfl, ?_⟩
   have es : n - ((L : Int) - M' + n) = (M' : Int) - L := by omega
   refine ⟨_, rfl, x, dx, _, rfl, e, B1d _ _ _, _, rfl, x, tn, bn, n, _, rfl, ra, ht, hb, by omega, by omega, fun q H1 s1 nq hq => ?_⟩
   rw [es] at hq
   refine ⟨q, _, 0, _, rfl, rfl, SqT.of hq, C4 (j := 0) rfl, _, _, rfl, rfl, _, rfl, ?_⟩
   have lp : 0 < (bn : Int) * A6 (-((M' : Int) - L)) := Int.mul_pos (by omega) (D5 _)
   refine G8 (fun hg => ?_) (fun hg => ?_)
   . have hle : (bn : Int) * A6 (-((M' : Int) - L)) <= (tn : Int) * A6 ((M' : Int) - L) := by
       have := (Int.le_ediv_iff_mul_le lp).mp (show (1 : Int) <= (tn : Int) * A6 ((M' : Int) - L) / ((bn : Int) * A6 (-((M' : Int) - L))) from hg)
       omega
     refine ⟨_, rfl, k _ H1 s1 ?_⟩
     rw [es]
     exact U0s L1 L2 M1 M2 hle
   . have hlt : (tn : Int) * A6 ((M' : Int) - L) < (bn : Int) * A6 (-((M' : Int) - L)) := by
       apply Classical.byContradiction
       intro z
       exact hg ((Int.le_ediv_iff_mul_le lp).mpr (by omega))
     refine ⟨_, rfl, _, _, rfl, rfl, k _ H1 s1 ?_⟩
     rw [show n - ((L : Int) - M' + n - 1) = (M' : Int) - L + 1 by omega]
     exact G6w L1 L2 M1 M2 hlt
end
inductive Wy where
 | down
 | up
 | floor
 | ceiling
 | halfUp
 | halfDown
 | halfEven
 | fiveUp
def Wy.name : Wy -> Str
 | .down => "down"
 | .up => "up"
 | .floor => "floor"
 | .ceiling => "ceiling"
 | .halfUp => "half up"
 | .halfDown => "half down"
 | .halfEven => "half even"
 | .fiveUp => "five up"
def Wy.cls : Wy -> Str
 | .down => "Down"
 | .up => "Up"
 | .floor => "Floor"
 | .ceiling => "Ceiling"
 | .halfUp => "HalfUp"
 | .halfDown => "HalfDown"
 | .halfEven => "HalfEven"
 | .fiveUp => "FiveUp"
theorem Wy.inj {a b : Wy} (h : a.name = b.name) : a = b := by
 cases a <;> cases b <;> first | rfl | exact absurd h (by decide +kernel)
structure WayC (K : Frag) (mg : Str -> Option Value) (x : Str) (C CW : Addr) : Prop where
 g : mg x = some (.ref C)
 cl : Cls K C
 mk0 : Mk0 K C
 ca : findIn K (.ref C) "__class__" = some (some (.builtin "object.__class__"))
 sn : specialIn K (.builtin "object.__class__") "__get__" = some (some (.builtin "getset_descriptor.__get__"))
 tk : takesIn K (.builtin "object.__class__") = some true
 ob : mroIn K C (.type "object") = some true
 up : kitOne K (.ref C) (.ref CW) = some true
section
variable {P : Program} {w : World} {K : Frag} {mg : Str -> Option Value} {base : Heap}
def A4w (s : Str) : Sp := fun vs H Q _ => ∃ p, vs = [.ref p] /\ Q (.str s) H
def Z5b (P : Program) (w : World) (K : Frag) (mg : Str -> Option Value) (base : Heap) (C : Addr) (s : Str) : Prop := Has P w K mg base C "name" 1 ["self"] (A4w s)
abbrev sN0 : Stmt := (D7 (top 46) 0)
theorem Z8r : FnScope ["self"] ["self"] (A1 sN0) := scK
theorem Z4w {f : Addr} {fd : FuncData} (F : Fun K "name" "Down.name" sN0 f fd) : FnOk P w K mg base (CX1 P w) 1 f fd ["self"] (A4w "down") := by
 refine FnOk.up (F.ok Z8r (fun vs H Q E h => ?_) (fun cdv A outer s H vs Q E hr h => ?_))
 . obtain ⟨p, rfl, _⟩ := h
   rfl
 . obtain ⟨p, rfl, k⟩ := h
   exact ⟨_, A5 (B0 C6), k⟩
abbrev sN1 : Stmt := (D7 (top 47) 0)
theorem scN1 : FnScope ["self"] ["self"] (A1 sN1) := scK
theorem Z5c {f : Addr} {fd : FuncData} (F : Fun K "name" "Up.name" sN1 f fd) : FnOk P w K mg base (CX1 P w) 1 f fd ["self"] (A4w "up") := by
 refine FnOk.up (F.ok scN1 (fun vs H Q E h => ?_) (fun cdv A outer s H vs Q E hr h => ?_))
 . obtain ⟨p, rfl, _⟩ := h
   rfl
 . obtain ⟨p, rfl, k⟩ := h
   exact ⟨_, A5 (B0 C6), k⟩
abbrev sN2 : Stmt := (D7 (top 48) 0)
theorem scN2 : FnScope ["self"] ["self"] (A1 sN2) := scK
theorem Z5g {f : Addr} {fd : FuncData} (F : Fun K "name" "Floor.name" sN2 f fd) : FnOk P w K mg base (CX1 P w) 1 f fd ["self"] (A4w "floor") := by
 refine FnOk.up (F.ok scN2 (fun vs H Q E h => ?_) (fun cdv A outer s H vs Q E hr h => ?_))
 . obtain ⟨p, rfl, _⟩ := h
   rfl
 . obtain ⟨p, rfl, k⟩ := h
   exact ⟨_, A5 (B0 C6), k⟩
abbrev sN3 : Stmt := (D7 (top 49) 0)
theorem scN3 : FnScope ["self"] ["self"] (A1 sN3) := scK
theorem Z5x {f : Addr} {fd : FuncData} (F : Fun K "name" "Ceiling.name" sN3 f fd) : FnOk P w K mg base (CX1 P w) 1 f fd ["self"] (A4w "ceiling") := by
 refine FnOk.up (F.ok scN3 (fun vs H Q E h => ?_) (fun cdv A outer s H vs Q E hr h => ?_))
 . obtain ⟨p, rfl, _⟩ := h
   rfl
 . obtain ⟨p, rfl, k⟩ := h
   exact ⟨_, A5 (B0 C6), k⟩
abbrev sN4 : Stmt := (D7 (top 50) 0)
theorem Z9r : FnScope ["self"] ["self"] (A1 sN4) := scK
theorem Z6b {f : Addr} {fd : FuncData} (F : Fun K "name" "HalfUp.name" sN4 f fd) : FnOk P w K mg base (CX1 P w) 1 f fd ["self"] (A4w "half up") := by
 refine FnOk.up (F.ok Z9r (fun vs H Q E h => ?_) (fun cdv A outer s H vs Q E hr h => ?_))
 . obtain ⟨p, rfl, _⟩ := h
   rfl
 . obtain ⟨p, rfl, k⟩ := h
   exact ⟨_, A5 (B0 C6), k⟩
abbrev sN5 : Stmt := (D7 (top 51) 0)
theorem Z9j : FnScope ["self"] ["self"] (A1 sN5) := scK
theorem Z6g {f : Addr} {fd : FuncData} (F : Fun K "name" "HalfDown.name" sN5 f fd) : FnOk P w K mg base (CX1 P w) 1 f fd ["self"] (A4w "half down") := by
 refine FnOk.up (F.ok Z9j (fun vs H Q E h => ?_) (fun cdv A outer s H vs Q E hr h => ?_))
 . obtain ⟨p, rfl, _⟩ := h
   rfl
 . obtain ⟨p, rfl, k⟩ := h
   exact ⟨_, A5 (B0 C6), k⟩
abbrev sN6 : Stmt := (D7 (top 52) 0)
theorem scN6 : FnScope ["self"] ["self"] (A1 sN6) := scK
theorem Z4q {f : Addr} {fd : FuncData} (F : Fun K "name" "HalfEven.name" sN6 f fd) : FnOk P w K mg base (CX1 P w) 1 f fd ["self"] (A4w "half even") := by
 refine FnOk.up (F.ok scN6 (fun vs H Q E h => ?_) (fun cdv A outer s H vs Q E hr h => ?_))
 . obtain ⟨p, rfl, _⟩ := h
   rfl
 . obtain ⟨p, rfl, k⟩ := h
   exact ⟨_, A5 (B0 C6), k⟩
abbrev sN7 : Stmt := (D7 (top 53) 0)
theorem Z9b : FnScope ["self"] ["self"] (A1 sN7) := scK
theorem Z6m {f : Addr} {fd : FuncData} (F : Fun K "name" "FiveUp.name" sN7 f fd) : FnOk P w K mg base (CX1 P w) 1 f fd ["self"] (A4w "five up") := by
 refine FnOk.up (F.ok Z9b (fun vs H Q E h => ?_) (fun cdv A outer s H vs Q E hr h => ?_))
 . obtain ⟨p, rfl, _⟩ := h
   rfl
 . obtain ⟨p, rfl, k⟩ := h
   exact ⟨_, A5 (B0 C6), k⟩
def Y8y (K : Frag) (H : Hp) (v : V) : Prop := ∃ t b, TyE K H v t /\ kitOne K t (.type "str") = some b /\ (b = false \/ ∃ z, v = .str z /\ ∀ y : Wy, z ≠ y.name)
theorem A7s {C : Addr} {σ : L2.St} {H : Hp} {Q : VK} (k : ∀ p dx H', H p = none -> Same H H' -> H' p = some (.ins C dx []) -> Q (.ref p) H') : Z1m C σ H Q := fun x dx n1 n2 ne =>
 k x dx _ n1 ((Same.upd n2).trans (Same.upd (by rw [C8 (Ne.symm ne)]; exact n1))) A9
abbrev A8a : Stmt := (top 54)
def D2j (K : Frag) (CB : Addr) (cw : Wy -> Addr) : Sp := fun vs H Q E => ∃ v, vs = [v] /\ ((∃ y : Wy, v = .str y.name /\ ∀ p dx H', H p = none -> Same H H' -> H' p = some (.ins (cw y) dx []) -> Q (.ref p) H') \/ (Y8y K H v /\ E (.ref CB) none H))
theorem Y5q : FnScope ["name"] ["name"] (A1 A8a) := scK
theorem U8x {f CB CW : Addr} {cw : Wy -> Addr} {fd : FuncData} (D : Def K mg "way_of" ["name"] A8a f fd) (O : Own mg) (T : Kit K) (B : Err K mg "BadContext" CB) (W : ∀ y : Wy, WayC K mg y.cls (cw y) CW) :
   FnOk P w K mg base (CX1 P w) 1 f fd ["name"] (D2j K CB cw) := by
 refine D.F.okE Y5q (fun vs H Q E h => ?_) (fun X cdv A outer s H vs Q E hX hr hx h => ?_)
 . obtain ⟨v, rfl, _⟩ := h
   rfl
 . subst hX
   obtain ⟨v, rfl, h⟩ := h
   refine ⟨_, (A4 (D9 (Y3 (J5 (U0c O.isi (pv 0) (pty O.str_ boot_str)))) (A5 (A2q (by rfl) B.g B.q PySem.F.excBase_ValueError hr.hd hx (A0 C6 A3))) C5)
     (A4 (D9 (B9 G0 (pv 0) C6 (B8 _)) (A5 (B0 (A7w (W .down).mk0 rfl (W .down).g))) C5)
     (A4 (D9 (B9 G0 (pv 0) C6 (B8 _)) (A5 (B0 (A7w (W .up).mk0 rfl (W .up).g))) C5)
     (A4 (D9 (B9 G0 (pv 0) C6 (B8 _)) (A5 (B0 (A7w (W .floor).mk0 rfl (W .floor).g))) C5)
     (A4 (D9 (B9 G0 (pv 0) C6 (B8 _)) (A5 (B0 (A7w (W .ceiling).mk0 rfl (W .ceiling).g))) C5)
     (A4 (D9 (B9 G0 (pv 0) C6 (B8 _)) (A5 (B0 (A7w (W .halfUp).mk0 rfl (W .halfUp).g))) C5)
     (A4 (D9 (B9 G0 (pv 0) C6 (B8 _)) (A5 (B0 (A7w (W .halfDown).mk0 rfl (W .halfDown).g))) C5)
     (A4 (D9 (B9 G0 (pv 0) C6 (B8 _)) (A5 (B0 (A7w (W .halfEven).mk0 rfl (W .halfEven).g))) C5)
     (A4 (D9 (B9 G0 (pv 0) C6 (B8 _)) (A5 (B0 (A7w (W .fiveUp).mk0 rfl (W .fiveUp).g))) C5)
     (A5 (A2q (by rfl) B.g B.q PySem.F.excBase_ValueError hr.hd hx (A0 C6 A3)))))))))))), ?_⟩
   have z1 : 1 <= sizeLine := D6 (by decide)
   rcases h with ⟨y, rfl, k⟩ | ⟨⟨t, b, ty, kk, bad⟩, k⟩
   . refine ⟨_, rfl, _, _, _, _, true, rfl, rfl, U6p _, T.str_str, _, rfl, U4 ?_⟩
     refine ⟨_, rfl, rfl, _, rfl, G8 (fun e => ?_) (fun n0 => ?_)⟩
     . have q : y = .down := Wy.inj (V.str.inj (e : V.str y.name = V.str (Wy.name .down)))
       subst q
       exact A7s k
     refine ⟨_, rfl, rfl, _, rfl, G8 (fun e => ?_) (fun n1 => ?_)⟩
     . have q : y = .up := Wy.inj (V.str.inj (e : V.str y.name = V.str (Wy.name .up)))
       subst q
       exact A7s k
     refine ⟨_, rfl, rfl, _, rfl, G8 (fun e => ?_) (fun n2 => ?_)⟩
     . have q : y = .floor := Wy.inj (V.str.inj (e : V.str y.name = V.str (Wy.name .floor)))
       subst q
       exact A7s k
     refine ⟨_, rfl, rfl, _, rfl, G8 (fun e => ?_) (fun n3 => ?_)⟩
     . have q : y = .ceiling := Wy.inj (V.str.inj (e : V.str y.name = V.str (Wy.name .ceiling)))
       subst q
       exact A7s k
     refine ⟨_, rfl, rfl, _, rfl, G8 (fun e => ?_) (fun n4 => ?_)⟩
     . have q : y = .halfUp := Wy.inj (V.str.inj (e : V.str y.name = V.str (Wy.name .halfUp)))
       subst q
       exact A7s k
     refine ⟨_, rfl, rfl, _, rfl, G8 (fun e => ?_) (fun n5 => ?_)⟩
     . have q : y = .halfDown := Wy.inj (V.str.inj (e : V.str y.name = V.str (Wy.name .halfDown)))
       subst q
       exact A7s k
     refine ⟨_, rfl, rfl, _, rfl, G8 (fun e => ?_) (fun n6 => ?_)⟩
     . have q : y = .halfEven := Wy.inj (V.str.inj (e : V.str y.name = V.str (Wy.name .halfEven)))
       subst q
       exact A7s k
     refine ⟨_, rfl, rfl, _, rfl, G8 (fun e => ?_) (fun n7 => ?_)⟩
     . have q : y = .fiveUp := Wy.inj (V.str.inj (e : V.str y.name = V.str (Wy.name .fiveUp)))
       subst q
       exact A7s k
     cases y with
     | down => exact absurd rfl n0
     | up => exact absurd rfl n1
     | floor => exact absurd rfl n2
     | ceiling => exact absurd rfl n3
     | halfUp => exact absurd rfl n4
     | halfDown => exact absurd rfl n5
     | halfEven => exact absurd rfl n6
     | fiveUp => exact absurd rfl n7
   . refine ⟨_, rfl, _, _, _, _, b, rfl, rfl, ty, kk, _, rfl, ?_⟩
     cases b with
     | false => exact Y5 ⟨z1, k⟩
     | true =>
       obtain ⟨z, rfl, nz⟩ := bad.resolve_left (by decide)
       refine U4 ?_
       refine ⟨_, rfl, rfl, _, rfl, G8 (fun e => absurd (V.str.inj e) (nz .down)) (fun n0 => ?_)⟩
       refine ⟨_, rfl, rfl, _, rfl, G8 (fun e => absurd (V.str.inj e) (nz .up)) (fun n1 => ?_)⟩
       refine ⟨_, rfl, rfl, _, rfl, G8 (fun e => absurd (V.str.inj e) (nz .floor)) (fun n2 => ?_)⟩
       refine ⟨_, rfl, rfl, _, rfl, G8 (fun e => absurd (V.str.inj e) (nz .ceiling)) (fun n3 => ?_)⟩
       refine ⟨_, rfl, rfl, _, rfl, G8 (fun e => absurd (V.str.inj e) (nz .halfUp)) (fun n4 => ?_)⟩
       refine ⟨_, rfl, rfl, _, rfl, G8 (fun e => absurd (V.str.inj e) (nz .halfDown)) (fun n5 => ?_)⟩
       refine ⟨_, rfl, rfl, _, rfl, G8 (fun e => absurd (V.str.inj e) (nz .halfEven)) (fun n6 => ?_)⟩
       refine ⟨_, rfl, rfl, _, rfl, G8 (fun e => absurd (V.str.inj e) (nz .fiveUp)) (fun n7 => ?_)⟩
       exact ⟨z1, k⟩
end
def sigS : List Str := ["void", "split", "burst", "sunk", "faint", "off", "cut"]
def G7q : List V := sigS.map V.str
structure SigK (K : Frag) (mg : Str -> Option Value) (aS : Addr) : Prop where
 g : mg "SIGNALS" = some (.ref aS)
 ty : ∃ o, K.lookup aS = some o /\ o.cls = .type "tuple"
 sq : ∀ H, SqT K H aS G7q
abbrev B2q : Stmt := (top 59)
section
variable {P : Program} {w : World} {K : Frag} {mg : Str -> Option Value} {base : Heap}
def BadS (K : Frag) (H : Hp) (x : V) : Prop := ∃ t b, TyE K H x t /\ kitOne K t (.type "str") = some b /\ (b = false \/ ∃ z, x = .str z /\ z ∉ sigS)
def U6v (K : Frag) (H : Hp) (v : V) : Prop := (∃ t, TyE K H v t /\ kitOne K t (.type "list") = some false) \/ (∃ (p : Addr) (zs : List Str) (x : V) (r : List V), v = .ref p /\ H p = some (.lst (zs.map V.str ++ x :: r)) /\ (∀ z ∈ zs, z ∈ sigS) /\ BadS K H x)
def J8u (K : Frag) (CB : Addr) : Sp := fun vs H Q E => ∃ v, vs = [v] /\ ((∃ (p : Addr) (zs : List Str), v = .ref p /\ H p = some (.lst (zs.map V.str)) /\ (∀ z ∈ zs, z ∈ sigS) /\ Q .non H) \/ (U6v K H v /\ E (.ref CB) none H))
theorem scNeedS : FnScope ["names", "name"] ["names"] (A1 B2q) := scK
theorem U9y {f CB aS : Addr} {fd : FuncData} (D : Def K mg "need_signals" ["names"] B2q f fd) (O : Own mg) (T : Kit K) (B : Err K mg "BadContext" CB) (SG : SigK K mg aS) : FnOk P w K mg base (CX1 P w) 1 f fd ["names"] (J8u K CB) := by
 refine D.F.okE scNeedS (fun vs H Q E h => ?_) (fun X cdv A outer s H vs Q E hX hr hx h => ?_)
 . obtain ⟨v, rfl, _⟩ := h
   rfl
 . subst hX
   obtain ⟨v, rfl, h⟩ := h
   refine ⟨_, (A4 (D9 (Y3 (J5 (U0c O.isi (pv 0) (pty O.list_ boot_list)))) (A5 (A2q (by rfl) B.g B.q PySem.F.excBase_ValueError hr.hd hx (A0 C6 A3))) C5)
     (A5 (B2z PassesOwn.leaving rfl (D2q (pv 0)) (U1 (i := 1) scNeedS.nd rfl (Or.inl rfl)) (A5 (D9 (PW.pt (U7m (Y3 (J5 (U0c O.isi (pv 1) (pty O.str_ boot_str)))) (G7j (B9 A4s (pv 1) (Z1b SG.g) (by rfl))))) (A5 (A2q (by rfl) B.g B.q PySem.F.excBase_ValueError hr.hd hx (A0 C6 A3))) C5))))), ?_⟩
   have z1 : 1 <= sizeLine := D6 (by decide)
   rcases h with ⟨p, zs, rfl, hp, hz, k⟩ | ⟨(⟨t, ty, kk⟩ | ⟨p, zs, x, r, rfl, hp, hz, t, b, ty, kk, bad⟩), k⟩
   . refine ⟨_, rfl, _, _, _, _, true, rfl, rfl, Y9g hp, T.list_list, _, rfl, U4 ?_⟩
     refine ⟨_, rfl, p, rfl, ⟨_, SqL.of hp⟩, A8f (xs := zs.map V.str) (fun i σ H' => H' = H /\ ∃ v, σ = [some (.ref p), v]) ⟨rfl, none, rfl⟩ ?_ ?_ ?_⟩
     . rintro i σ H' _ ⟨rfl, _⟩
       exact SqL.of hp
     . rintro i x σ H' hi ⟨rfl, v, rfl⟩
       obtain ⟨z, hzm, rfl⟩ := List.mem_map.mp (List.mem_of_getElem? hi)
       refine ⟨_, rfl, _, _, _, _, true, rfl, rfl, U6p _, T.str_str, _, rfl, U4 ?_⟩
       refine ⟨_, rfl, aS, G7q, rfl, .inr (SG.sq _), rfl, flat_strs _, _, rfl, ?_⟩
       have e : inV (.str z) G7q = true := by
         show inV (.str z) (sigS.map V.str) = true
         rw [A1r]
         simpa using hz z hzm
       rw [e]
       exact U4 ⟨rfl, _, rfl⟩
     . rintro σ H' ⟨rfl, v, rfl⟩
       exact k
   . exact ⟨_, rfl, _, _, _, _, false, rfl, rfl, ty, kk, _, rfl, Y5 ⟨z1, k⟩⟩
   . refine ⟨_, rfl, _, _, _, _, true, rfl, rfl, Y9g hp, T.list_list, _, rfl, U4 ?_⟩
     refine ⟨_, rfl, p, rfl, ⟨_, SqL.of hp⟩, A8f (xs := zs.map V.str ++ x :: r) (fun i σ H' => H' = H /\ i <= zs.length /\ ∃ v, σ = [some (.ref p), v]) ⟨rfl, Nat.zero_le _, none, rfl⟩ ?_ ?_ ?_⟩
     . rintro i σ H' _ ⟨rfl, _⟩
       exact SqL.of hp
     . rintro i y σ H' hi ⟨rfl, hl, v, rfl⟩
       by_cases hlt : i < zs.length
       . rw [List.getElem?_append_left (by simpa using hlt)] at hi
         obtain ⟨z, hzm, rfl⟩ := List.mem_map.mp (List.mem_of_getElem? hi)
         refine ⟨_, rfl, _, _, _, _, true, rfl, rfl, U6p _, T.str_str, _, rfl, U4 ?_⟩
         refine ⟨_, rfl, aS, G7q, rfl, .inr (SG.sq _), rfl, flat_strs _, _, rfl, ?_⟩
         have e : inV (.str z) G7q = true := by
           show inV (.str z) (sigS.map V.str) = true
           rw [A1r]
           simpa using hz z hzm
         rw [e]
         exact U4 ⟨rfl, by omega, _, rfl⟩
       . have e : i = zs.length := by omega
         subst e
         rw [List.getElem?_append_right (by simp)] at hi
         simp at hi
         subst hi
         refine ⟨_, rfl, _, _, _, _, b, rfl, rfl, ty, kk, _, rfl, ?_⟩
         cases b with
         | false => exact Y5 (Y5 ⟨z1, k⟩)
         | true =>
           obtain ⟨z, rfl, nz⟩ := bad.resolve_left (by decide)
           refine U4 ⟨_, rfl, aS, G7q, rfl, .inr (SG.sq _), rfl, flat_strs _, _, rfl, ?_⟩
           have e : inV (.str z) G7q = false := by
             show inV (.str z) (sigS.map V.str) = false
             rw [A1r]
             simpa using nz
           rw [e]
           exact Y5 ⟨z1, k⟩
     . rintro σ H' ⟨rfl, hl, _⟩
       exfalso
       rw [List.length_append, List.length_map, List.length_cons] at hl
       omega
end
abbrev B3b : Stmt := (top 60)
section
variable {P : Program} {w : World} {K : Frag} {mg : Str -> Option Value} {base : Heap}
def A3z (zs : List Str) : List Str := sigS.filter fun z => zs.contains z
def J7p (K : Frag) : Sp := fun vs H Q _ => ∃ (p : Addr) (zs : List Str), vs = [.ref p] /\ SqL K H p (zs.map V.str) /\ ∀ l H', Same H H' -> H l = none -> H' l = some (.lst ((A3z zs).map V.str)) -> Q (.ref l) H'
theorem Y4p : FnScope ["names"] ["names"] (A1 B3b) := scK
theorem U7v {f aS : Addr} {fd : FuncData} (D : Def K mg "in_order" ["names"] B3b f fd) (SG : SigK K mg aS) : FnOk P w K mg base (CX1 P w) 1 f fd ["names"] (J7p K) := by
 refine FnOk.up (D.F.ok Y4p (fun vs H Q E h => ?_) (fun cdv A outer s H vs Q E hr h => ?_))
 . obtain ⟨p, zs, rfl, _⟩ := h
   rfl
 . obtain ⟨p, zs, rfl, hp, k⟩ := h
   refine ⟨_, (A5 (B0 (U8z (N := ["name"]) (F := ["names"]) (js := [0]) (CompScopeF.of1 ⟨rfl, by decide +kernel, by decide +kernel, by decide +kernel, by decide +kernel⟩ (by rfl) (by rfl) ⟨_, by rfl⟩ (by rfl) (by rfl)) (.inl hr.hd) (Y4y (Z1b SG.g)) rfl (fun C s₀ H₀ ex pn h => U1 (i := 0) (by decide +kernel : (["name", "names"] : List Str).Nodup) rfl (Or.inl rfl)) (fun C s₀ H₀ ex pn h => (B9 (G6m (K := K) rfl) (pv 0) (pv 1) (by rfl))) (fun C s₀ H₀ ex pn h => (pv 0))))), ?_⟩
   refine U8h (zs := sigS) (f := fun z => zs.contains z) (σf := [some (.ref p)]) SG.sq (by decide) (fun z H' Qb sm q => ?_) (fun z H' Qv q => ⟨_, rfl, q⟩) (fun D H' sm nd e => k D H' sm nd e) rfl
   refine ⟨_, rfl, _, rfl, p, _, rfl, .inl (sm.seq hp), rfl, flat_strs _, _, rfl, ?_⟩
   show Qb (inV (.str z) (zs.map V.str)) H'
   rw [A1r]
   exact q
end
structure CtxC (K : Frag) (mg : Str -> Option Value) (CC : Addr) : Prop where
 g : mg "Context" = some (.ref CC)
 cl : Cls K CC
 n_room : NoAttr K CC "room"
 n_rule : NoAttr K CC "rule"
 n_least : NoAttr K CC "least"
 n_most : NoAttr K CC "most"
 n_risen : NoAttr K CC "risen"
 n_trapped : NoAttr K CC "trapped"
def A2w (r s l m a b : V) : List (Str × V) := J4 "trapped" b (J4 "risen" a (J4 "most" m (J4 "least" l (J4 "rule" s (J4 "room" r [])))))
theorem A3p (r s l m a b : V) (n : Str) : (A2w r s l m a b).lookup n = if n = "trapped" then some b else if n = "risen" then some a else if n = "most" then some m else if n = "least" then some l else if n = "rule" then some s else if n = "room" then some r else none := by
 unfold A2w
 rw [D3, D3, D3, D3, D3, D3]
 rfl
theorem A2d (r s l m a b : V) : (A2w r s l m a b).lookup ("room" : Str) = some r := by rw [A3p, if_neg (by decide +kernel), if_neg (by decide +kernel), if_neg (by decide +kernel), if_neg (by decide +kernel), if_neg (by decide +kernel), if_pos rfl]
theorem U9b (r s l m a b : V) : (A2w r s l m a b).lookup ("rule" : Str) = some s := by rw [A3p, if_neg (by decide +kernel), if_neg (by decide +kernel), if_neg (by decide +kernel), if_neg (by decide +kernel), if_pos rfl]
theorem D0x (r s l m a b : V) : (A2w r s l m a b).lookup ("least" : Str) = some l := by rw [A3p, if_neg (by decide +kernel), if_neg (by decide +kernel), if_neg (by decide +kernel), if_pos rfl]
theorem B4q (r s l m a b : V) : (A2w r s l m a b).lookup ("most" : Str) = some m := by rw [A3p, if_neg (by decide +kernel), if_neg (by decide +kernel), if_pos rfl]
theorem A3x (r s l m a b : V) : (A2w r s l m a b).lookup ("risen" : Str) = some a := by rw [A3p, if_neg (by decide +kernel), if_pos rfl]
theorem G2y (r s l m a b : V) : (A2w r s l m a b).lookup ("trapped" : Str) = some b := by rw [A3p, if_pos rfl]
theorem C2p (r s l m a b : V) : (A2w r s l m a b).lookup ("way" : Str) = none := by rw [A3p, if_neg (by decide +kernel), if_neg (by decide +kernel), if_neg (by decide +kernel), if_neg (by decide +kernel), if_neg (by decide +kernel), if_neg (by decide +kernel)]
theorem A0m (r s l m a b : V) : (A2w r s l m a b).lookup ("lowest" : Str) = none := by rw [A3p, if_neg (by decide +kernel), if_neg (by decide +kernel), if_neg (by decide +kernel), if_neg (by decide +kernel), if_neg (by decide +kernel), if_neg (by decide +kernel)]
theorem B4s (r s l m a b : V) : (A2w r s l m a b).lookup ("flags" : Str) = none := by rw [A3p, if_neg (by decide +kernel), if_neg (by decide +kernel), if_neg (by decide +kernel), if_neg (by decide +kernel), if_neg (by decide +kernel), if_neg (by decide +kernel)]
theorem B1z (r s l m a b : V) : (A2w r s l m a b).lookup ("raised" : Str) = none := by rw [A3p, if_neg (by decide +kernel), if_neg (by decide +kernel), if_neg (by decide +kernel), if_neg (by decide +kernel), if_neg (by decide +kernel), if_neg (by decide +kernel)]
structure CtxAt (CC : Addr) (H : Hp) (c : Addr) (r : Int) (y : Wy) (l m : Int) (a b : Addr) (xs ys : List V) : Prop where
 ins : ∃ dx, H c = some (.ins CC dx (A2w (.int r) (.str y.name) (.int l) (.int m) (.ref a) (.ref b)))
 ha : H a = some (.lst xs)
 hb : H b = some (.lst ys)
theorem CtxAt.same {CC : Addr} {H H' : Hp} {c : Addr} {r : Int} {y : Wy} {l m : Int} {a b : Addr} {xs ys : List V} (h : CtxAt CC H c r y l m a b xs ys) (e : Same H H') : CtxAt CC H' c r y l m a b xs ys := by
 obtain ⟨⟨dx, z⟩, z1, z2⟩ := h
 exact ⟨⟨dx, e _ _ z⟩, e _ _ z1, e _ _ z2⟩
section
variable {P : Program} {w : World} {K : Frag} {mg : Str -> Option Value} {base : Heap}
abbrev Y8 : Stmt := (D7 (top 57) 0)
abbrev B1h : Stmt := (D7 (top 57) 1)
abbrev B1j : Stmt := (D7 (top 57) 2)
abbrev A2c : Stmt := (D7 (top 57) 3)
def G8d (l : Int) (v : V) : Prop := (v = .non /\ l = -60) \/ (v = .int l /\ -60 <= l /\ l <= 0)
def Y9s (K : Frag) (S : Hp -> Prop) (v1 v2 v3 v4 : V) : Prop := (∀ H', S H' -> C6s K H' 1 24 v1) \/ (B2c 1 24 v1 /\ ((∀ H', S H' -> Y8y K H' v2) \/ ((∃ y : Wy, v2 = .str y.name) /\ ((v3 ≠ .non /\ ∀ H', S H' -> C6s K H' (-60) 0 v3) \/ ((∃ l, G8d l v3) /\ ∀ H', S H' -> C6s K H' 0 60 v4)))))
theorem Exc.none {p a : Addr} {H H' : Hp} {o : HO} (x : Exc p H H') (hp : H' p = some o) (n : H' a = none) : H a = none := by
 cases q : H a with
 | none => rfl
 | some u =>
   have := x a u q (fun e => by rw [e, hp] at n; cases n)
   rw [n] at this
   cases this
def B5n (K : Frag) (CC CB : Addr) : Sp := fun vs H Q E => ∃ p dx v1 v2 v3 v4, vs = [.ref p, v1, v2, v3, v4] /\ H p = some (.ins CC dx []) /\
 ((∃ r y l m, v1 = .int r /\ 1 <= r /\ r <= 24 /\ v2 = .str (Wy.name y) /\ G8d l v3 /\ v4 = .int m /\ 0 <= m /\ m <= 60 /\ ∀ a b H', Exc p H H' -> H a = none -> H b = none -> CtxAt CC H' p r y l m a b [] [] -> Q .non H') \/
  (Y9s K (Exc p H) v1 v2 v3 v4 /\ ∀ H', Exc p H H' -> E (.ref CB) none H'))
theorem U0v : FnScope ["self", "room", "way", "least", "most"] ["self", "room", "way", "least", "most"] (A1 Y8) := scK
theorem U7r : B4p 1 24 := by unfold B4p; decide +kernel
theorem G6r : B4p (-60) 0 := by unfold B4p; decide +kernel
theorem U7z : B4p 0 60 := by unfold B4p; decide +kernel
theorem G8a {f fB fW CC CB CW : Addr} {dV : Value} {cw : Wy -> Addr} {fd fdB fdW : FuncData} (F : FunD K "__init__" "Context.__init__" Y8 dV f fd) (D_bounded : Def K mg "bounded" ["thing", "least", "most"] A2e fB fdB) (D_way_of : Def K mg "way_of" ["name"] A8a fW fdW)
   (G_bounded : FnOk P w K mg base (CX1 P w) 2 fB fdB ["thing", "least", "most"] (D0s K CB)) (G_way_of : FnOk P w K mg base (CX1 P w) 1 fW fdW ["name"] (D2j K CB cw)) (C : CtxC K mg CC)
   (W : ∀ y : Wy, WayC K mg y.cls (cw y) CW) (N : ∀ y : Wy, Z5b P w K mg base (cw y) y.name) : FnOk P w K mg base (CX1 P w) 3 f fd ["self", "room", "way", "least", "most"] (B5n K CC CB) := by
 refine F.okE U0v (fun vs H Q E h => ?_) (fun X cdv A outer s H vs Q E hX hr hx h => ?_)
 . obtain ⟨p, dx, v1, v2, v3, v4, rfl, _⟩ := h
   rfl
 . subst hX
   obtain ⟨p, dx, v1, v2, v3, v4, rfl, hp, h⟩ := h
   obtain ⟨y, hy⟩ : ∃ y : Wy, ∀ z : Wy, v2 = .str z.name -> z = y := by
     by_cases q : ∃ z : Wy, v2 = .str z.name
     . obtain ⟨z, rfl⟩ := q
       exact ⟨z, fun u e => Wy.inj (V.str.inj e.symm)⟩
     . exact ⟨.down, fun z e => absurd ⟨z, e⟩ q⟩
   obtain ⟨fN, fdN, mN, gN, bN⟩ := N y
   refine ⟨_, (A4 (Z0 (pv 0) (B5 D_bounded G_bounded hr hx (A0 (pv 1) (A0 A2 (A0 A2 A3)))) rfl)
     (A4 (Z0 (pv 0) (A1h (B5 D_way_of G_way_of hr hx (A0 (pv 2) A3)) (W y).cl mN gN hr bN .nil hx) rfl)
     (A4 (B7 (Z0 (pv 0) (V3 (B9 Y9y (pv 3) U7e (B8 _)) (A0r V4 A2) (B5 D_bounded G_bounded hr hx (A0 (pv 3) (A0 (A0r V4 A2) (A0 A2 A3))))) rfl))
     (A4 (Z0 (pv 0) (B5 D_bounded G_bounded hr hx (A0 (pv 4) (A0 A2 (A0 A2 A3)))) rfl)
     (A4 (Z0 (pv 0) (J9 A3) rfl)
     (A5 (Z0 (pv 0) (J9 A3) rfl))))))), ?_⟩
   have lz : ∀ (fs : List (Str × V)) (f : Str) (v : V) (n : Nat), fs.length <= n -> (J4 f v fs).length <= n + 1 := fun fs f v n h => Nat.le_trans (A0n f v fs) (Nat.succ_le_succ h)
   have q0 : (([] : List (Str × V))).length <= 0 := Nat.le_refl _
   have z0 : 0 <= sizeLine := Nat.zero_le _
   rcases h with ⟨r, y', l, m, rfl, r1, r2, rfl, hl, rfl, m1, m2, k⟩ | ⟨bad, k⟩
   . obtain rfl := hy _ rfl
     refine ⟨_, rfl, _, _, _, rfl, U7r, .inl ⟨⟨r, rfl, r1, r2⟩, ?_⟩⟩
     refine ⟨_, rfl, p, CC, dx, [], rfl, hp, C.cl, C.n_room, by show 0 < 1000; decide, ?_⟩
     refine ⟨_, rfl, _, rfl, .inl ⟨_, rfl, fun q dq H2 nq s2 eq => ⟨q, dq, [], rfl, eq, rfl, _, rfl, ?_⟩⟩⟩
     have hp2 := s2 _ _ (A9 (H := H) (a := p) (o := .ins CC dx (J4 "room" (.int r) [])))
     have x2 : Exc p H H2 := (Exc.upd (H := H) (o := .ins CC dx (J4 "room" (.int r) []))).trans (.of s2)
     refine ⟨_, rfl, p, CC, dx, _, rfl, hp2, C.cl, C.n_rule, Nat.lt_of_le_of_lt (lz _ _ _ 0 q0) (by decide), ?_⟩
     refine ⟨fun σ' H' => σ' = [some (.ref p), some (.int r), some (.str y'.name), some v3, some (.int m)] /\ Exc p H H' /\ H' p = some (.ins CC dx (J4 "least" (.int l) (J4 "rule" (.str y'.name) (J4 "room" (.int r) [])))), ?_, ?_⟩
     . refine ⟨_, rfl, rfl, _, rfl, ?_⟩
       rcases hl with ⟨rfl, rfl⟩ | ⟨rfl, l1, l2⟩
       . refine G2v rfl ⟨_, rfl, ?_⟩
         exact ⟨_, rfl, p, CC, dx, _, rfl, A9, C.cl, C.n_least, Nat.lt_of_le_of_lt (lz _ _ _ 1 (lz _ _ _ 0 q0)) (by decide), rfl, (x2.trans Exc.upd).trans Exc.upd, A9⟩
       . refine G3d (by intro z; cases z) ⟨_, rfl, _, rfl, _, _, _, rfl, G6r, .inl ⟨⟨l, rfl, l1, l2⟩, ?_⟩⟩
         exact ⟨_, rfl, p, CC, dx, _, rfl, A9, C.cl, C.n_least, Nat.lt_of_le_of_lt (lz _ _ _ 1 (lz _ _ _ 0 q0)) (by decide), rfl, (x2.trans Exc.upd).trans Exc.upd, A9⟩
     rintro σ' H4 ⟨rfl, x4, hp4⟩
     refine ⟨_, rfl, _, _, _, rfl, U7z, .inl ⟨⟨m, rfl, m1, m2⟩, ?_⟩⟩
     refine ⟨_, rfl, p, CC, dx, _, rfl, hp4, C.cl, C.n_most, Nat.lt_of_le_of_lt (lz _ _ _ 2 (lz _ _ _ 1 (lz _ _ _ 0 q0))) (by decide), ?_⟩
     refine ⟨z0, fun a na => ?_⟩
     refine ⟨_, rfl, p, CC, dx, _, rfl, Same.upd na _ _ A9, C.cl, C.n_risen, Nat.lt_of_le_of_lt (lz _ _ _ 3 (lz _ _ _ 2 (lz _ _ _ 1 (lz _ _ _ 0 q0)))) (by decide), ?_⟩
     refine ⟨z0, fun b nb => ?_⟩
     refine ⟨_, rfl, p, CC, dx, _, rfl, Same.upd nb _ _ A9, C.cl, C.n_trapped, Nat.lt_of_le_of_lt (lz _ _ _ 4 (lz _ _ _ 3 (lz _ _ _ 2 (lz _ _ _ 1 (lz _ _ _ 0 q0))))) (by decide), ?_⟩
     have x5 := x4.trans (Exc.upd (H := H4) (o := .ins CC dx (J4 "most" (.int m) (J4 "least" (.int l) (J4 "rule" (.str y'.name) (J4 "room" (.int r) []))))))
     have nap : a ≠ p := fun e => by rw [e, A9] at na; cases na
     have nbp : b ≠ p := fun e => by rw [e, A9] at nb; cases nb
     have x6 := (x5.trans (.of (Same.upd (o := .lst []) na))).trans (Exc.upd (o := .ins CC dx (J4 "risen" (.ref a) (J4 "most" (.int m) (J4 "least" (.int l) (J4 "rule" (.str y'.name) (J4 "room" (.int r) [])))))))
     have x7 := (x6.trans (.of (Same.upd (o := .lst []) nb))).trans (Exc.upd (o := .ins CC dx (A2w (.int r) (.str y'.name) (.int l) (.int m) (.ref a) (.ref b))))
     refine k a b _ x7 (x5.none A9 na) (x6.none A9 nb) ⟨⟨dx, A9⟩, ?_, ?_⟩
     . rw [C8 nap]
       refine Same.upd nb _ _ ?_
       rw [C8 nap]
       exact A9
     . rw [C8 nbp]
       exact A9
   . rcases bad with b1 | ⟨⟨r, rfl, r1, r2⟩, bad⟩
     . exact ⟨_, rfl, _, _, _, rfl, U7r, .inr ⟨b1 _ (Exc.refl p H), k _ (Exc.refl p H)⟩⟩
     refine ⟨_, rfl, _, _, _, rfl, U7r, .inl ⟨⟨r, rfl, r1, r2⟩, ?_⟩⟩
     refine ⟨_, rfl, p, CC, dx, [], rfl, hp, C.cl, C.n_room, by show 0 < 1000; decide, ?_⟩
     have x1 : Exc p H (upd H p (.ins CC dx (J4 "room" (.int r) []))) := Exc.upd
     rcases bad with b2 | ⟨⟨y', rfl⟩, bad⟩
     . exact ⟨_, rfl, _, rfl, .inr ⟨b2 _ x1, k _ x1⟩⟩
     obtain rfl := hy _ rfl
     refine ⟨_, rfl, _, rfl, .inl ⟨_, rfl, fun q dq H2 nq s2 eq => ⟨q, dq, [], rfl, eq, rfl, _, rfl, ?_⟩⟩⟩
     have hp2 := s2 _ _ (A9 (H := H) (a := p) (o := .ins CC dx (J4 "room" (.int r) [])))
     have x2 : Exc p H H2 := x1.trans (.of s2)
     refine ⟨_, rfl, p, CC, dx, _, rfl, hp2, C.cl, C.n_rule, Nat.lt_of_le_of_lt (lz _ _ _ 0 q0) (by decide), ?_⟩
     rcases bad with ⟨n3, b3⟩ | ⟨⟨l, hl⟩, b4⟩
     . refine ⟨fun _ _ => False, ?_, fun _ _ z => z.elim⟩
       refine ⟨_, rfl, rfl, _, rfl, G3d n3 ?_⟩
       exact ⟨_, rfl, _, rfl, _, _, _, rfl, G6r, .inr ⟨b3 _ (x2.trans Exc.upd), k _ (x2.trans Exc.upd)⟩⟩
     refine ⟨fun σ' H' => σ' = [some (.ref p), some (.int r), some (.str y'.name), some v3, some v4] /\ Exc p H H', ?_, ?_⟩
     . refine ⟨_, rfl, rfl, _, rfl, ?_⟩
       rcases hl with ⟨rfl, rfl⟩ | ⟨rfl, l1, l2⟩
       . refine G2v rfl ⟨_, rfl, ?_⟩
         exact ⟨_, rfl, p, CC, dx, _, rfl, A9, C.cl, C.n_least, Nat.lt_of_le_of_lt (lz _ _ _ 1 (lz _ _ _ 0 q0)) (by decide), rfl, (x2.trans Exc.upd).trans Exc.upd⟩
       . refine G3d (by intro z; cases z) ⟨_, rfl, _, rfl, _, _, _, rfl, G6r, .inl ⟨⟨l, rfl, l1, l2⟩, ?_⟩⟩
         exact ⟨_, rfl, p, CC, dx, _, rfl, A9, C.cl, C.n_least, Nat.lt_of_le_of_lt (lz _ _ _ 1 (lz _ _ _ 0 q0)) (by decide), rfl, (x2.trans Exc.upd).trans Exc.upd⟩
     rintro σ' H4 ⟨rfl, x4⟩
     exact ⟨_, rfl, _, _, _, rfl, U7z, .inr ⟨b4 _ x4, k _ x4⟩⟩
end
section
variable {P : Program} {w : World} {K : Frag} {mg : Str -> Option Value} {base : Heap}
def C1k (CC : Addr) (cw : Wy -> Addr) : Sp := fun vs H Q _ => ∃ c r y l m a b xs ys, vs = [.ref c] /\ CtxAt CC H c r y l m a b xs ys /\ ∀ p dx H', H p = none -> Same H H' -> H' p = some (.ins (cw y) dx []) -> Q (.ref p) H'
theorem U9k : FnScope ["self"] ["self"] (A1 B1h) := scK
theorem U1a {f fW CC CB : Addr} {cw : Wy -> Addr} {fd fdW : FuncData} (F : Fun K "way" "Context.way" B1h f fd) (D_way_of : Def K mg "way_of" ["name"] A8a fW fdW) (G_way_of : FnOk P w K mg base (CX1 P w) 1 fW fdW ["name"] (D2j K CB cw)) (C : CtxC K mg CC) :
   FnOk P w K mg base (CX1 P w) 2 f fd ["self"] (C1k CC cw) := by
 refine F.okE U9k (fun vs H Q E h => ?_) (fun X cdv A outer s H vs Q E hX hr hx h => ?_)
 . obtain ⟨c, r, y, l, m, a, b, xs, ys, rfl, _⟩ := h
   rfl
 . subst hX
   obtain ⟨c, r, y, l, m, a, b, xs, ys, rfl, ⟨⟨dx, e⟩, _, _⟩, k⟩ := h
   refine ⟨_, (A5 (B0 (B5 D_way_of G_way_of hr hx (A0 (C7 (pv 0) rfl) A3)))), ?_⟩
   exact ⟨_, rfl, c, CC, dx, _, _, rfl, e, C.cl, C.n_rule, U9b _ _ _ _ _ _, _, rfl, .inl ⟨y, rfl, k⟩⟩
def B4t (CC : Addr) : Sp := fun vs H Q _ => ∃ c r y l m a b xs ys, vs = [.ref c] /\ CtxAt CC H c r y l m a b xs ys /\ Q (.int (l - r + 1)) H
theorem U8m : FnScope ["self"] ["self"] (A1 B1j) := scK
theorem U0p {f CC : Addr} {fd : FuncData} (F : Fun K "lowest" "Context.lowest" B1j f fd) (C : CtxC K mg CC) : FnOk P w K mg base (CX1 P w) 1 f fd ["self"] (B4t CC) := by
 refine FnOk.up (F.ok U8m (fun vs H Q E h => ?_) (fun cdv A outer s H vs Q E hr h => ?_))
 . obtain ⟨c, r, y, l, m, a, b, xs, ys, rfl, _⟩ := h
   rfl
 . obtain ⟨c, r, y, l, m, a, b, xs, ys, rfl, ⟨⟨dx, e⟩, _, _⟩, k⟩ := h
   refine ⟨_, (A5 (B0 (B3 U8 (B3 U0 (C7 (pv 0) rfl) (C7 (pv 0) rfl)) A2))), ?_⟩
   exact ⟨_, rfl, c, CC, dx, _, _, rfl, e, C.cl, C.n_least, D0x _ _ _ _ _ _, _, rfl, c, CC, dx, _, _, rfl, e, C.cl, C.n_room, A2d _ _ _ _ _ _, _, _, rfl, rfl, _, _, rfl, rfl, k⟩
def A4x (CC : Addr) : Sp := fun vs H Q _ => ∃ c r y l m a b xs ys, vs = [.ref c] /\ CtxAt CC H c r y l m a b xs ys /\ ∀ p, H p = none -> Q (.ref p) (upd H p (.lst xs))
theorem G7f : FnScope ["self"] ["self"] (A1 A2c) := scK
theorem G2m {f CC : Addr} {fd : FuncData} (F : Fun K "flags" "Context.flags" A2c f fd) (C : CtxC K mg CC) (O : Own mg) : FnOk P w K mg base (CX1 P w) 1 f fd ["self"] (A4x CC) := by
 refine FnOk.up (F.ok G7f (fun vs H Q E h => ?_) (fun cdv A outer s H vs Q E hr h => ?_))
 . obtain ⟨c, r, y, l, m, a, b, xs, ys, rfl, _⟩ := h
   rfl
 . obtain ⟨c, r, y, l, m, a, b, xs, ys, rfl, ⟨⟨dx, e⟩, ha, _⟩, k⟩ := h
   refine ⟨_, (A5 (B0 (B5q D2n (by rfl) O.list_ boot_list (A0 (C7 (pv 0) rfl) A3)))), ?_⟩
   exact ⟨_, rfl, c, CC, dx, _, _, rfl, e, C.cl, C.n_risen, A3x _ _ _ _ _ _, a, xs, rfl, .inl (SqL.of ha), k⟩
structure MakeC (P : Program) (w : World) (K : Frag) (mg : Str -> Option Value) (base : Heap) (CC CB fI : Addr) (fdI : FuncData) : Prop where
 m : Mk K CC fI
 g : FnOk P w K mg base (CX1 P w) 3 fI fdI ["self", "room", "way", "least", "most"] (B5n K CC CB)
theorem Y5r {C x dx : Addr} {H H' : Hp} (n1 : H x = none) (n2 : H dx = none) (ne : dx ≠ x) (e : Exc x (upd (upd H dx (.own x)) x (.ins C dx [])) H') : Same H H' := fun b o h =>
 e b o (by rw [C8 (D0 h n1), C8 (D0 h n2)]; exact h) (D0 h n1)
theorem Z5f {CC CB x dx : Addr} {H : Hp} {Q : VK} {E : XK} {v1 v2 v3 v4 : V} {r : Int} {y : Wy} {l m : Int} (n1 : H x = none) (n2 : H dx = none) (ne : dx ≠ x) (h1 : v1 = .int r) (r1 : 1 <= r) (r2 : r <= 24) (h2 : v2 = .str y.name) (h3 : G8d l v3) (h4 : v4 = .int m) (m1 : 0 <= m) (m2 : m <= 60)
   (k : ∀ a b H', Same H H' -> CtxAt CC H' x r y l m a b [] [] -> Q .non H') : B5n K CC CB [.ref x, v1, v2, v3, v4] (upd (upd H dx (.own x)) x (.ins CC dx [])) Q E :=
 ⟨x, dx, v1, v2, v3, v4, rfl, A9, .inl ⟨r, y, l, m, h1, r1, r2, h2, h3, h4, m1, m2, fun a b H' e _ _ c => k a b H' (Y5r n1 n2 ne e) c⟩⟩
end
abbrev B1k : Stmt := (D7 (top 13) 0)
section
variable {P : Program} {w : World} {K : Frag} {mg : Str -> Option Value} {base : Heap}
theorem U6h : FnScope ["self", "signal"] ["self", "signal"] (A1 B1k) := scK
theorem U1s {f CT fI : Addr} {fd : FuncData} (F : Fun K "__init__" "Trapped.__init__" B1k f fd) (XI : ExcI K CT fI) (hn : findIn K (.ref CT) "signal" = some none) : FnOk P w K mg base CX0 1 f fd ["self", "signal"] (D2w CT "signal") := by
 refine F.ok U6h (fun vs H Q E h => ?_) (fun cdv A outer s H vs Q E hr h => ?_)
 . obtain ⟨e, t, v, rfl, _⟩ := h
   rfl
 . obtain ⟨e, t, v, rfl, he, k⟩ := h
   refine ⟨_, (A5 (Y4u XI hn (pv 0) (pv 1) rfl)), ?_⟩
   exact ⟨_, rfl, _, rfl, e, t, rfl, he, fun d nd ne => k d nd ne⟩
end
abbrev A0b : Stmt := (D7 (top 57) 7)
theorem U7n (r s l m a b : V) : (A2w r s l m a b).length = 6 := rfl
theorem G8f (r s l m a b v : V) : J4 "risen" v (A2w r s l m a b) = A2w r s l m v b := rfl
section
variable {P : Program} {w : World} {K : Frag} {mg : Str -> Option Value} {base : Heap}
def hit (ys zs : List Str) : Option Str := ys.find? fun t => zs.contains t
def C2t (K : Frag) (CC CB CT : Addr) : Sp := fun vs H Q E => ∃ c r y l m a b, ∃ (xs ys : List Str) (v : V), vs = [.ref c, v] /\ CtxAt CC H c r y l m a b (xs.map V.str) (ys.map V.str) /\ xs.length + 100 <= 1000 /\
 ((∃ (p : Addr) (zs : List Str), v = .ref p /\ H p = some (.lst (zs.map V.str)) /\ zs.length <= 100 /\ (∀ z ∈ zs, z ∈ sigS) /\
     (hit ys zs = none -> ∀ a' H', Exc c H H' -> H a' = none -> CtxAt CC H' c r y l m a' b ((A3z (xs ++ zs)).map V.str) (ys.map V.str) -> Q .non H') /\
     (∀ t, hit ys zs = some t -> ∀ a' d H', Exc c H H' -> H a' = none -> CtxAt CC H' c r y l m a' b ((A3z (xs ++ zs)).map V.str) (ys.map V.str) -> H d = none -> H' d = some (.xd [("signal", .str t)]) -> E (.ref CT) (some d) H')) \/
  (U6v K H v /\ E (.ref CB) none H))
theorem scRaised : FnScope ["self", "names", "name"] ["self", "names"] (A1 A0b) := scK
theorem U1c {f f1 f2 fX CC CB CT : Addr} {fd fd1 fd2 fdX : FuncData} (F : Fun K "raised" "Context.raised" A0b f fd) (D_need_signals : Def K mg "need_signals" ["names"] B2q f1 fd1) (G_need_signals : FnOk P w K mg base (CX1 P w) 1 f1 fd1 ["names"] (J8u K CB))
   (D_in_order : Def K mg "in_order" ["names"] B3b f2 fd2) (G_in_order : FnOk P w K mg base (CX1 P w) 1 f2 fd2 ["names"] (J7p K)) (C : CtxC K mg CC)
   (gT : mg "Trapped" = some (.ref CT)) (XI : ExcI K CT fX) (GX : FnOk P w K mg base CX0 1 fX fdX ["self", "signal"] (D2w CT "signal")) (BX : Binds K fdX ["self", "signal"] []) : FnOk P w K mg base (CX1 P w) 3 f fd ["self", "names"] (C2t K CC CB CT) := by
 refine F.okE scRaised (fun vs H Q E h => ?_) (fun X cdv A outer s H vs Q E hX hr hx h => ?_)
 . obtain ⟨c, r, y, l, m, a, b, xs, ys, v, rfl, _⟩ := h
   rfl
 . subst hX
   obtain ⟨c, r, y, l, m, a, b, xs, ys, v, rfl, ⟨⟨dx, e⟩, ha, hb⟩, lx, h⟩ := h
   refine ⟨_, (A4 (V7 (B5 D_need_signals G_need_signals hr hx (A0 (pv 1) A3)))
     (A4 (Z0 (pv 0) (B5 D_in_order G_in_order hr hx (A0 (B3 U8u (C7 (pv 0) rfl) (pv 1)) A3)) rfl)
     (A5 (B2z PassesOwn.leaving rfl (D2q (C7 (pv 0) rfl)) (U1 (i := 2) scRaised.nd rfl (Or.inl rfl)) (A5 (D9 (B9 B5u (pv 2) (pv 1) (by rfl)) (A5 (U1h gT XI GX BX hr hx (A0 (pv 2) A3))) C5)))))), ?_⟩
   rcases h with ⟨p, zs, rfl, hp, lz, hz, k1, k2⟩ | ⟨bad, k⟩
   . refine ⟨_, rfl, _, rfl, .inl ⟨p, zs, rfl, hp, hz, ?_⟩⟩
     refine ⟨_, rfl, c, CC, dx, _, _, rfl, e, C.cl, C.n_risen, A3x _ _ _ _ _ _, _, rfl, a, p, _, _, rfl, rfl, ha, hp, D6 (by rw [List.length_map, List.length_map]; omega), fun q nq => ?_⟩
     have u1 := Same.upd (o := .lst (xs.map V.str ++ zs.map V.str)) nq
     refine ⟨q, xs ++ zs, rfl, SqL.of (by rw [A9, List.map_append]), fun a' H1 s1 n1 e1 => ?_⟩
     have s2 := u1.trans s1
     refine ⟨_, rfl, c, CC, dx, _, rfl, s2 _ _ e, C.cl, C.n_risen, by rw [U7n]; decide, ?_⟩
     rw [G8f]
     have nbc : b ≠ c := A7m hb e (by intro z; cases z)
     have npc : p ≠ c := A7m hp e (by intro z; cases z)
     have nac : a' ≠ c := A7m e1 (s2 _ _ e) (by intro z; cases z)
     have x2 : Exc c H (upd H1 c (.ins CC dx (A2w (.int r) (.str y.name) (.int l) (.int m) (.ref a') (.ref b)))) := (Exc.of s2).trans Exc.upd
     have hb2 : (upd H1 c (.ins CC dx (A2w (.int r) (.str y.name) (.int l) (.int m) (.ref a') (.ref b)))) b = some (.lst (ys.map V.str)) := by rw [C8 nbc]; exact s2 _ _ hb
     have hp2 : (upd H1 c (.ins CC dx (A2w (.int r) (.str y.name) (.int l) (.int m) (.ref a') (.ref b)))) p = some (.lst (zs.map V.str)) := by rw [C8 npc]; exact s2 _ _ hp
     have ct : CtxAt CC (upd H1 c (.ins CC dx (A2w (.int r) (.str y.name) (.int l) (.int m) (.ref a') (.ref b)))) c r y l m a' b ((A3z (xs ++ zs)).map V.str) (ys.map V.str) := ⟨⟨dx, A9⟩, by rw [C8 nac]; exact e1, hb2⟩
     refine ⟨_, rfl, c, CC, dx, _, _, rfl, A9, C.cl, C.n_trapped, G2y _ _ _ _ _ _, b, rfl, ⟨_, SqL.of hb2⟩, ?_⟩
     generalize upd H1 c (.ins CC dx (A2w (.int r) (.str y.name) (.int l) (.int m) (.ref a') (.ref b))) = H3 at x2 hb2 hp2 ct ⊢
     refine A8f (xs := ys.map V.str) (fun i σ H' => H' = H3 /\ (∀ t ∈ ys.take i, zs.contains t = false) /\ ∃ v, σ = [some (.ref c), some (.ref p), v]) ⟨rfl, by simp, none, rfl⟩ ?_ ?_ ?_
     . rintro i σ H' _ ⟨rfl, _⟩
       exact SqL.of hb2
     . rintro i x σ H' hi ⟨rfl, ht, v, rfl⟩
       rw [List.getElem?_map] at hi
       obtain ⟨t, hti, rfl⟩ := Option.map_eq_some_iff.mp hi
       refine ⟨_, rfl, _, rfl, p, _, rfl, .inl (SqL.of hp2), rfl, flat_strs _, _, rfl, ?_⟩
       have hlt : i < ys.length := (List.getElem?_eq_some_iff.mp hti).1
       have et : ys.take (i + 1) = ys.take i ++ [t] := by
         rw [List.take_succ_eq_append_getElem hlt, (List.getElem?_eq_some_iff.mp hti).2]
       cases hc : zs.contains t with
       | false =>
         rw [show (if false = true then !inV (V.str t) (zs.map V.str) else inV (V.str t) (zs.map V.str)) = false by rw [if_neg Bool.false_ne_true, A1r, hc]]
         refine U4 ⟨rfl, fun t' h' => ?_, _, rfl⟩
         rw [et] at h'
         rcases List.mem_append.mp h' with h' | h'
         . exact ht t' h'
         . rw [List.mem_singleton.mp h']; exact hc
       | true =>
         rw [show (if false = true then !inV (V.str t) (zs.map V.str) else inV (V.str t) (zs.map V.str)) = true by rw [if_neg Bool.false_ne_true, A1r, hc]]
         obtain ⟨dx', hc3⟩ := ct.ins
         refine Y5 ⟨_, rfl, _, rfl, fun d H4 s4 nd e4 => ?_⟩
         refine k2 t ?_ a' d H4 (x2.trans (.of s4)) ((u1.free n1)) (ct.same s4) (x2.none hc3 nd) e4
         unfold hit
         rw [List.find?_eq_some_iff_append]
         refine ⟨hc, ys.take i, ys.drop (i + 1), ?_, fun t' h' => by rw [ht t' h']; rfl⟩
         have := List.take_append_drop (i + 1) ys
         rw [et] at this
         rw [List.append_assoc] at this
         exact this.symm
     . rintro σ H' ⟨rfl, ht, v, rfl⟩
       refine k1 ?_ a' _ x2 (u1.free n1) ct
       unfold hit
       rw [List.find?_eq_none]
       rw [List.length_map, List.take_length] at ht
       intro t hm
       rw [ht t hm]
       exact Bool.false_ne_true
   . exact ⟨_, rfl, _, rfl, .inr ⟨bad, k⟩⟩
end
def Wy.goes (y : Wy) (s last part : Int) : Bool := match y with
 | .down => false
 | .up => true
 | .floor => decide (V.int s = V.int 1)
 | .ceiling => decide (V.int s = V.int 0)
 | .halfUp => decide (part >= 2)
 | .halfDown => decide (V.int part = V.int 3)
 | .halfEven => if decide (V.int part = V.int 3) = true then true else if decide (V.int part = V.int 2) = true then decide (V.int (last % 2) = V.int 1) else false
 | .fiveUp => inV (.int last) [.int 0, .int 5]
def Wy.toEnd (y : Wy) (s : Int) : Bool := match y with
 | .down => false
 | .up => true
 | .floor => decide (V.int s = V.int 1)
 | .ceiling => decide (V.int s = V.int 0)
 | .halfUp => true
 | .halfDown => true
 | .halfEven => true
 | .fiveUp => false
section
variable {P : Program} {w : World} {K : Frag} {mg : Str -> Option Value} {base : Heap}
def A4r (y : Wy) : Sp := fun vs H Q _ => ∃ p s l t, vs = [.ref p, .int s, .int l, .int t] /\ ∀ H', Same H H' -> Q (.bl (y.goes s l t)) H'
def A1t (y : Wy) : Sp := fun vs H Q _ => ∃ p s, vs = [.ref p, .int s] /\ ∀ H', Same H H' -> Q (.bl (y.toEnd s)) H'
def Z5u (P : Program) (w : World) (K : Frag) (mg : Str -> Option Value) (base : Heap) (C : Addr) (y : Wy) : Prop := Has P w K mg base C "goes_up" 1 ["self", "sign", "last", "part"] (A4r y)
def Z6r (P : Program) (w : World) (K : Frag) (mg : Str -> Option Value) (base : Heap) (C : Addr) (y : Wy) : Prop := Has P w K mg base C "to_end" 1 ["self", "sign"] (A1t y)
abbrev sU0 : Stmt := (D7 (top 46) 1)
theorem Z9k : FnScope ["self", "sign", "last", "part"] ["self", "sign", "last", "part"] (A1 sU0) := scK
theorem Z6q {f : Addr} {fd : FuncData} (F : Fun K "goes_up" "Down.goes_up" sU0 f fd) : FnOk P w K mg base (CX1 P w) 1 f fd ["self", "sign", "last", "part"] (A4r .down) := by
 refine FnOk.up (F.ok Z9k (fun vs H Q E h => ?_) (fun cdv A outer s H vs Q E hr h => ?_))
 . obtain ⟨p, z, l, t, rfl, _⟩ := h
   rfl
 . obtain ⟨p, z, l, t, rfl, k⟩ := h
   refine ⟨_, (A5 (B0 Y4)), ?_⟩
   exact k H (Same.refl H)
abbrev sT0 : Stmt := (D7 (top 46) 2)
theorem scT0 : FnScope ["self", "sign"] ["self", "sign"] (A1 sT0) := scK
theorem Z4j {f : Addr} {fd : FuncData} (F : Fun K "to_end" "Down.to_end" sT0 f fd) : FnOk P w K mg base (CX1 P w) 1 f fd ["self", "sign"] (A1t .down) := by
 refine FnOk.up (F.ok scT0 (fun vs H Q E h => ?_) (fun cdv A outer s H vs Q E hr h => ?_))
 . obtain ⟨p, z, rfl, _⟩ := h
   rfl
 . obtain ⟨p, z, rfl, k⟩ := h
   refine ⟨_, (A5 (B0 Y4)), ?_⟩
   exact k H (Same.refl H)
abbrev sU1 : Stmt := (D7 (top 47) 1)
theorem Z9h : FnScope ["self", "sign", "last", "part"] ["self", "sign", "last", "part"] (A1 sU1) := scK
theorem Z4h {f : Addr} {fd : FuncData} (F : Fun K "goes_up" "Up.goes_up" sU1 f fd) : FnOk P w K mg base (CX1 P w) 1 f fd ["self", "sign", "last", "part"] (A4r .up) := by
 refine FnOk.up (F.ok Z9h (fun vs H Q E h => ?_) (fun cdv A outer s H vs Q E hr h => ?_))
 . obtain ⟨p, z, l, t, rfl, _⟩ := h
   rfl
 . obtain ⟨p, z, l, t, rfl, k⟩ := h
   refine ⟨_, (A5 (B0 Y4)), ?_⟩
   exact k H (Same.refl H)
abbrev sT1 : Stmt := (D7 (top 47) 2)
theorem scT1 : FnScope ["self", "sign"] ["self", "sign"] (A1 sT1) := scK
theorem Z6d {f : Addr} {fd : FuncData} (F : Fun K "to_end" "Up.to_end" sT1 f fd) : FnOk P w K mg base (CX1 P w) 1 f fd ["self", "sign"] (A1t .up) := by
 refine FnOk.up (F.ok scT1 (fun vs H Q E h => ?_) (fun cdv A outer s H vs Q E hr h => ?_))
 . obtain ⟨p, z, rfl, _⟩ := h
   rfl
 . obtain ⟨p, z, rfl, k⟩ := h
   refine ⟨_, (A5 (B0 Y4)), ?_⟩
   exact k H (Same.refl H)
abbrev sU2 : Stmt := (D7 (top 48) 1)
theorem Z9y : FnScope ["self", "sign", "last", "part"] ["self", "sign", "last", "part"] (A1 sU2) := scK
theorem Z6n {f : Addr} {fd : FuncData} (F : Fun K "goes_up" "Floor.goes_up" sU2 f fd) : FnOk P w K mg base (CX1 P w) 1 f fd ["self", "sign", "last", "part"] (A4r .floor) := by
 refine FnOk.up (F.ok Z9y (fun vs H Q E h => ?_) (fun cdv A outer s H vs Q E hr h => ?_))
 . obtain ⟨p, z, l, t, rfl, _⟩ := h
   rfl
 . obtain ⟨p, z, l, t, rfl, k⟩ := h
   refine ⟨_, (A5 (B0 (G9 G0 (pv 1) A2 (B8 _)))), ?_⟩
   exact ⟨_, rfl, rfl, k H (Same.refl H)⟩
abbrev sT2 : Stmt := (D7 (top 48) 2)
theorem Z8s : FnScope ["self", "sign"] ["self", "sign"] (A1 sT2) := scK
theorem Z5e {f : Addr} {fd : FuncData} (F : Fun K "to_end" "Floor.to_end" sT2 f fd) : FnOk P w K mg base (CX1 P w) 1 f fd ["self", "sign"] (A1t .floor) := by
 refine FnOk.up (F.ok Z8s (fun vs H Q E h => ?_) (fun cdv A outer s H vs Q E hr h => ?_))
 . obtain ⟨p, z, rfl, _⟩ := h
   rfl
 . obtain ⟨p, z, rfl, k⟩ := h
   refine ⟨_, (A5 (B0 (G9 G0 (pv 1) A2 (B8 _)))), ?_⟩
   exact ⟨_, rfl, rfl, k H (Same.refl H)⟩
abbrev sU3 : Stmt := (D7 (top 49) 1)
theorem Z9d : FnScope ["self", "sign", "last", "part"] ["self", "sign", "last", "part"] (A1 sU3) := scK
theorem Z5y {f : Addr} {fd : FuncData} (F : Fun K "goes_up" "Ceiling.goes_up" sU3 f fd) : FnOk P w K mg base (CX1 P w) 1 f fd ["self", "sign", "last", "part"] (A4r .ceiling) := by
 refine FnOk.up (F.ok Z9d (fun vs H Q E h => ?_) (fun cdv A outer s H vs Q E hr h => ?_))
 . obtain ⟨p, z, l, t, rfl, _⟩ := h
   rfl
 . obtain ⟨p, z, l, t, rfl, k⟩ := h
   refine ⟨_, (A5 (B0 (G9 G0 (pv 1) A2 (B8 _)))), ?_⟩
   exact ⟨_, rfl, rfl, k H (Same.refl H)⟩
abbrev sT3 : Stmt := (D7 (top 49) 2)
theorem Z9z : FnScope ["self", "sign"] ["self", "sign"] (A1 sT3) := scK
theorem Z4k {f : Addr} {fd : FuncData} (F : Fun K "to_end" "Ceiling.to_end" sT3 f fd) : FnOk P w K mg base (CX1 P w) 1 f fd ["self", "sign"] (A1t .ceiling) := by
 refine FnOk.up (F.ok Z9z (fun vs H Q E h => ?_) (fun cdv A outer s H vs Q E hr h => ?_))
 . obtain ⟨p, z, rfl, _⟩ := h
   rfl
 . obtain ⟨p, z, rfl, k⟩ := h
   refine ⟨_, (A5 (B0 (G9 G0 (pv 1) A2 (B8 _)))), ?_⟩
   exact ⟨_, rfl, rfl, k H (Same.refl H)⟩
abbrev sU4 : Stmt := (D7 (top 50) 1)
theorem Z9f : FnScope ["self", "sign", "last", "part"] ["self", "sign", "last", "part"] (A1 sU4) := scK
theorem Z4g {f : Addr} {fd : FuncData} (F : Fun K "goes_up" "HalfUp.goes_up" sU4 f fd) : FnOk P w K mg base (CX1 P w) 1 f fd ["self", "sign", "last", "part"] (A4r .halfUp) := by
 refine FnOk.up (F.ok Z9f (fun vs H Q E h => ?_) (fun cdv A outer s H vs Q E hr h => ?_))
 . obtain ⟨p, z, l, t, rfl, _⟩ := h
   rfl
 . obtain ⟨p, z, l, t, rfl, k⟩ := h
   refine ⟨_, (A5 (B0 (G9 U6r (pv 3) A2 (B8 _)))), ?_⟩
   exact ⟨_, rfl, _, _, rfl, rfl, k H (Same.refl H)⟩
abbrev sT4 : Stmt := (D7 (top 50) 2)
theorem Z9p : FnScope ["self", "sign"] ["self", "sign"] (A1 sT4) := scK
theorem Z4m {f : Addr} {fd : FuncData} (F : Fun K "to_end" "HalfUp.to_end" sT4 f fd) : FnOk P w K mg base (CX1 P w) 1 f fd ["self", "sign"] (A1t .halfUp) := by
 refine FnOk.up (F.ok Z9p (fun vs H Q E h => ?_) (fun cdv A outer s H vs Q E hr h => ?_))
 . obtain ⟨p, z, rfl, _⟩ := h
   rfl
 . obtain ⟨p, z, rfl, k⟩ := h
   refine ⟨_, (A5 (B0 Y4)), ?_⟩
   exact k H (Same.refl H)
abbrev sU5 : Stmt := (D7 (top 51) 1)
theorem Z9n : FnScope ["self", "sign", "last", "part"] ["self", "sign", "last", "part"] (A1 sU5) := scK
theorem Z4r {f : Addr} {fd : FuncData} (F : Fun K "goes_up" "HalfDown.goes_up" sU5 f fd) : FnOk P w K mg base (CX1 P w) 1 f fd ["self", "sign", "last", "part"] (A4r .halfDown) := by
 refine FnOk.up (F.ok Z9n (fun vs H Q E h => ?_) (fun cdv A outer s H vs Q E hr h => ?_))
 . obtain ⟨p, z, l, t, rfl, _⟩ := h
   rfl
 . obtain ⟨p, z, l, t, rfl, k⟩ := h
   refine ⟨_, (A5 (B0 (G9 G0 (pv 3) A2 (B8 _)))), ?_⟩
   exact ⟨_, rfl, rfl, k H (Same.refl H)⟩
abbrev sT5 : Stmt := (D7 (top 51) 2)
theorem Z8w : FnScope ["self", "sign"] ["self", "sign"] (A1 sT5) := scK
theorem Z5r {f : Addr} {fd : FuncData} (F : Fun K "to_end" "HalfDown.to_end" sT5 f fd) : FnOk P w K mg base (CX1 P w) 1 f fd ["self", "sign"] (A1t .halfDown) := by
 refine FnOk.up (F.ok Z8w (fun vs H Q E h => ?_) (fun cdv A outer s H vs Q E hr h => ?_))
 . obtain ⟨p, z, rfl, _⟩ := h
   rfl
 . obtain ⟨p, z, rfl, k⟩ := h
   refine ⟨_, (A5 (B0 Y4)), ?_⟩
   exact k H (Same.refl H)
abbrev sU6 : Stmt := (D7 (top 52) 1)
theorem scU6 : FnScope ["self", "sign", "last", "part"] ["self", "sign", "last", "part"] (A1 sU6) := scK
theorem Z6p {f : Addr} {fd : FuncData} (F : Fun K "goes_up" "HalfEven.goes_up" sU6 f fd) : FnOk P w K mg base (CX1 P w) 1 f fd ["self", "sign", "last", "part"] (A4r .halfEven) := by
 refine FnOk.up (F.ok scU6 (fun vs H Q E h => ?_) (fun cdv A outer s H vs Q E hr h => ?_))
 . obtain ⟨p, z, l, t, rfl, _⟩ := h
   rfl
 . obtain ⟨p, z, l, t, rfl, k⟩ := h
   refine ⟨_, (A5 (B0 (Y9d (G9 G0 (pv 3) A2 (B8 _)) (B6b (C2r (G9 G0 (pv 3) A2 (B8 _)) (B6b (G9 G0 (B3 G4 (pv 2) A2) A2 (B8 _)))))))), ?_⟩
   have k := k H (Same.refl H)
   unfold Wy.goes at k
   refine ⟨_, rfl, rfl, _, rfl, ?_⟩
   cases e : decide (V.int t = V.int 3) with
   | true => rw [e] at k; exact Y5 k
   | false =>
     rw [e] at k
     refine U4 ⟨_, rfl, rfl, _, rfl, ?_⟩
     cases e2 : decide (V.int t = V.int 2) with
     | true => rw [e2] at k; exact Y5 ⟨_, rfl, _, _, rfl, rfl, (by decide : (0 : Int) < 2), rfl, k⟩
     | false => rw [e2] at k; exact U4 k
abbrev sT6 : Stmt := (D7 (top 52) 2)
theorem scT6 : FnScope ["self", "sign"] ["self", "sign"] (A1 sT6) := scK
theorem Z6e {f : Addr} {fd : FuncData} (F : Fun K "to_end" "HalfEven.to_end" sT6 f fd) : FnOk P w K mg base (CX1 P w) 1 f fd ["self", "sign"] (A1t .halfEven) := by
 refine FnOk.up (F.ok scT6 (fun vs H Q E h => ?_) (fun cdv A outer s H vs Q E hr h => ?_))
 . obtain ⟨p, z, rfl, _⟩ := h
   rfl
 . obtain ⟨p, z, rfl, k⟩ := h
   refine ⟨_, (A5 (B0 Y4)), ?_⟩
   exact k H (Same.refl H)
abbrev sU7 : Stmt := (D7 (top 53) 1)
theorem Z8v : FnScope ["self", "sign", "last", "part"] ["self", "sign", "last", "part"] (A1 sU7) := scK
theorem Z5t {f : Addr} {fd : FuncData} (F : Fun K "goes_up" "FiveUp.goes_up" sU7 f fd) : FnOk P w K mg base (CX1 P w) 1 f fd ["self", "sign", "last", "part"] (A4r .fiveUp) := by
 refine FnOk.up (F.ok Z8v (fun vs H Q E h => ?_) (fun cdv A outer s H vs Q E hr h => ?_))
 . obtain ⟨p, z, l, t, rfl, _⟩ := h
   rfl
 . obtain ⟨p, z, l, t, rfl, k⟩ := h
   refine ⟨_, (A5 (B0 (G9 B5u (pv 2) (B2v (A0 A2 (A0 A2 A3))) (by rfl)))), ?_⟩
   exact ⟨_, rfl, D6 (by decide), fun q nq => ⟨q, _, rfl, .inr (SqT.of A9), rfl, rfl, k _ (Same.upd nq)⟩⟩
abbrev sT7 : Stmt := (D7 (top 53) 2)
theorem Z9s : FnScope ["self", "sign"] ["self", "sign"] (A1 sT7) := scK
theorem Z6a {f : Addr} {fd : FuncData} (F : Fun K "to_end" "FiveUp.to_end" sT7 f fd) : FnOk P w K mg base (CX1 P w) 1 f fd ["self", "sign"] (A1t .fiveUp) := by
 refine FnOk.up (F.ok Z9s (fun vs H Q E h => ?_) (fun cdv A outer s H vs Q E hr h => ?_))
 . obtain ⟨p, z, rfl, _⟩ := h
   rfl
 . obtain ⟨p, z, rfl, k⟩ := h
   refine ⟨_, (A5 (B0 Y4)), ?_⟩
   exact k H (Same.refl H)
end
abbrev A0j : Stmt := (top 29)
abbrev A0s : Stmt := (top 30)
abbrev V5 : Stmt := (top 31)
abbrev A1s : Stmt := (top 32)
abbrev A1n : Stmt := (top 33)
abbrev A7v : Stmt := (top 34)
abbrev A3n : Stmt := (top 35)
abbrev A2f : Stmt := (top 36)
abbrev A2h : Stmt := (top 37)
abbrev A3a : Stmt := (top 38)
structure Cv where
 r : Int
 y : Wy
 l : Int
 m : Int
structure Cv.Ok (c : Cv) : Prop where
 r1 : 1 <= c.r
 r2 : c.r <= 24
 l1 : -60 <= c.l
 l2 : c.l <= 0
 m1 : 0 <= c.m
 m2 : c.m <= 60
def V9 (ideal : Int) : Nat -> Int -> Int -> Int × Int
 | 0, f, p => (f, p)
 | n + 1, f, p => if f % 10 = 0 then V9 ideal n (f / 10) (p + 1) else (f, p)
def A1g (ideal f p : Int) : Int × Int := V9 ideal (ideal - p).toNat f p
theorem G7e {ideal f p : Int} (h : p < ideal) (z : f % 10 = 0) : A1g ideal f p = A1g ideal (f / 10) (p + 1) := by
 unfold A1g
 obtain ⟨n, hn⟩ : ∃ n, (ideal - p).toNat = n + 1 := ⟨(ideal - p).toNat - 1, by omega⟩
 rw [hn, show (ideal - (p + 1)).toNat = n by omega]
 show (if f % 10 = 0 then V9 ideal n (f / 10) (p + 1) else (f, p)) = _
 rw [if_pos z]
theorem G6p {ideal f p : Int} (h : ¬ (p < ideal /\ f % 10 = 0)) : A1g ideal f p = (f, p) := by
 unfold A1g
 by_cases q : p < ideal
 . obtain ⟨n, hn⟩ : ∃ n, (ideal - p).toNat = n + 1 := ⟨(ideal - p).toNat - 1, by omega⟩
   rw [hn]
   show (if f % 10 = 0 then V9 ideal n (f / 10) (p + 1) else (f, p)) = _
   rw [if_neg fun z => h ⟨q, z⟩]
 . rw [show (ideal - p).toNat = 0 by omega]
   rfl
def A2n (f : Int) : Int := ((Str.ofString (toString f)).length : Nat)
def upI (y : Wy) (s wh pt : Int) : Int := if (if pt = 0 then false else y.goes s (wh % 10) pt) = true then wh + 1 else wh
def J8 (r f q : Int) : Int × Int := if f = A6 r then (f / 10, q + 1) else (f, q)
def J0 (c : Cv) (s wh pt q ideal : Int) : Int × Int := if pt = 0 then A1g ideal wh q else J8 c.r (upI c.y s wh pt) q
def V6 (m f p : Int) : Bool := if f = 0 then false else decide (p + A2n f - 1 > m)
def D2b (c : Cv) (s : Int) : Nm := if c.y.toEnd s = true then ⟨.end_, s, 0, 0⟩ else ⟨.plain, s, A6 c.r - 1, c.m - c.r + 1⟩
def A2j (pt : Int) (cut : Bool) : List Str := if pt = 0 then (if cut = true then ["cut"] else []) else ["off", "cut"]
def A0a (l L pt : Int) : List Str := if L >= l then [] else if pt = 0 then ["faint"] else ["sunk", "faint"]
def C0v (c : Cv) (s wh pt L q ideal : Int) : Nm × List Str :=
 if V6 c.m (J0 c s wh pt q ideal).1 (J0 c s wh pt q ideal).2 = true then (D2b c s, ["burst", "off", "cut"])
 else (⟨.plain, s, (J0 c s wh pt q ideal).1, (J0 c s wh pt q ideal).2⟩, A2j pt (decide ((J0 c s wh pt q ideal).2 > ideal)) ++ A0a c.l L pt)
def A2p (a b : Int) : Int := if b > a then b else a
def A7r (a b : Int) : Int := if b < a then b else a
def CtxV (CC : Addr) (H : Hp) (c : Addr) (v : Cv) (a b : Addr) (xs ys : List Str) : Prop := CtxAt CC H c v.r v.y v.l v.m a b (xs.map V.str) (ys.map V.str)
theorem CtxV.same {CC : Addr} {H H' : Hp} {c : Addr} {v : Cv} {a b : Addr} {xs ys : List Str} (h : CtxV CC H c v a b xs ys) (e : Same H H') : CtxV CC H' c v a b xs ys := CtxAt.same h e
theorem A8b {CN : Addr} {H : Hp} {Q : VK} {E : XK} {k s f p : V} (h : ∀ n H', H n = none -> Same H H' -> NumAt CN H' n k s f p -> Q (.ref n) H') :
   ∀ x dx, H x = none -> H dx = none -> dx ≠ x -> D2r CN (.ref x :: ([k, s, f, p] ++ [])) (upd (upd H dx (.own x)) x (.ins CN dx [])) (fun v H2 => v = .non /\ Q (.ref x) H2) E := by
 intro x dx nx nd ne
 refine ⟨x, dx, k, s, f, p, rfl, A9, fun H' e kp => ⟨rfl, h x H' nx (fun b o z => ?_) ⟨dx, e⟩⟩⟩
 refine kp b o ?_ (D0 z nx)
 rw [C8 (D0 z nx), C8 (D0 z nd)]
 exact z
section
variable {P : Program} {w : World} {K : Frag} {mg : Str -> Option Value} {base : Heap}
structure CtxM (P : Program) (w : World) (K : Frag) (mg : Str -> Option Value) (base : Heap) (CC CB CT CW : Addr) (cw : Wy -> Addr) : Prop where
 c : CtxC K mg CC
 way : Has P w K mg base CC "way" 2 ["self"] (C1k CC cw)
 low : Has P w K mg base CC "lowest" 1 ["self"] (B4t CC)
 raised : Has P w K mg base CC "raised" 3 ["self", "names"] (C2t K CC CB CT)
 wc : ∀ y : Wy, WayC K mg y.cls (cw y) CW
 u : ∀ y : Wy, Z5u P w K mg base (cw y) y
 e : ∀ y : Wy, Z6r P w K mg base (cw y) y
def D1b (CN : Addr) : Sp := fun vs H Q _ => ∃ i s f p : Int, vs = [.int i, .int s, .int f, .int p] /\ ∀ n H', H n = none -> Same H H' -> NumIs CN H' n ⟨.plain, s, (A1g i f p).1, (A1g i f p).2⟩ -> Q (.ref n) H'
theorem scNearest : FnScope ["ideal", "sign", "figures", "power"] ["ideal", "sign", "figures", "power"] (A1 A0s) := scK
theorem G7w {f fI CN : Addr} {fd fdI : FuncData} (D : Def K mg "nearest_to" ["ideal", "sign", "figures", "power"] A0s f fd) (N : Num K mg CN) (M : MakeN P w K mg base CN fI fdI) : FnOk P w K mg base (CX1 P w) 3 f fd ["ideal", "sign", "figures", "power"] (D1b CN) := by
 refine FnOk.up (D.F.ok scNearest (fun vs H Q E h => ?_) (fun cdv A outer s H vs Q E hr h => ?_))
 . obtain ⟨i, s, f, p, rfl, _⟩ := h
   rfl
 . obtain ⟨i, sg, fg, pw, rfl, k⟩ := h
   have hx : G2 (A1j CX0 P w K mg base ["ideal", "sign", "figures", "power"] "nearest_to" (A1 A0s) f cdv A outer s H E).nox EKF := V0
   refine ⟨_, (A4 (C2e PassesOwn.never (PW.pt (A2r (B9 G1z (pv 3) (pv 0) (B8 _)) (Y7 (B9 G0 (B3 G4 (pv 2) A2) A2 (B8 _))))) (A4 (C9 (i := 2) scNearest.nd rfl (Or.inl rfl) (B3 D8 (pv 2) A2))
     (A5 (C9 (i := 3) scNearest.nd rfl (Or.inl rfl) (B3 U8 (pv 3) A2)))))
     (A5 (B0 (A7q M.m (FnOk.up M.g) hr N.g M.b .nil hx (A0 C6 (A0 (pv 1) (A0 (pv 2) (A0 (pv 3) A3)))))))), ?_⟩
   have d10 : (0 : Int) < 10 /\ (10 : Int).natAbs.log2 < 9000 := ⟨by decide, by decide +kernel⟩
   refine C2k (fun σ H2 => H2 = H /\ ∃ f p : Int, A1g i f p = A1g i fg pw /\ σ = [some (.int i), some (.int sg), some (.int f), some (.int p)]) (fun σ _ => match σ with | [_, _, _, some (.int p)] => (i - p).toNat | _ => 0) ?_ ?_ ?_
   . exact ⟨rfl, fg, pw, rfl, rfl⟩
   . rintro σ H2 ⟨rfl, f, p, e, rfl⟩
     have stop : ¬ (p < i /\ f % 10 = 0) -> ∀ n H', H2 n = none -> Same H2 H' -> NumAt CN H' n (.str "plain") (.int sg) (.int f) (.int p) -> Q (.ref n) H' := fun h n H' nn sm num => by
       refine k n H' nn sm ?_
       rw [<- e, G6p h]
       exact num
     refine ⟨_, rfl, _, rfl, _, _, rfl, rfl, _, rfl, G8 (fun h1 => ?_) (fun h1 => U4 ⟨_, rfl, _, rfl, _, rfl, A8b (stop fun q => h1 q.1)⟩)⟩
     refine ⟨_, rfl, _, _, rfl, rfl, d10.1, rfl, _, rfl, G8 (fun h2 => ?_) (fun h2 => ⟨_, rfl, _, rfl, _, rfl, A8b (stop fun q => h2 (congrArg V.int q.2))⟩)⟩
     have h1 : p < i := h1
     have h2 : f % 10 = 0 := by injection h2
     refine ⟨_, rfl, _, _, rfl, rfl, d10, _, rfl, _, _, rfl, rfl, ⟨rfl, f / 10, p + 1, (G7e h1 h2).symm.trans e, rfl⟩, ?_⟩
     show (i - (p + 1)).toNat < (i - p).toNat
     omega
   . rintro σ H2 Q1 Q2 hQ ⟨v, e, v2, e2, a, b, e3, e4, c, e5, q⟩
     refine ⟨v, e, v2, e2, a, b, e3, e4, c, e5, ?_⟩
     cases c with
     | false => exact U4 (hQ _ _ (by simpa using q))
     | true =>
       have q : _ := q
       rw [if_pos rfl] at q ⊢
       obtain ⟨v3, e6, a2, b2, e7, e8, e9, e10, e11, e12, q⟩ := q
       exact ⟨v3, e6, a2, b2, e7, e8, e9, e10, e11, e12, hQ _ _ q⟩
def C0f (CC : Addr) : Sp := fun vs H Q _ => ∃ c v a b xs ys p, ∃ s wh pt : Int, vs = [.ref c, .int s, .ref p] /\ CtxV CC H c v a b xs ys /\ H p = some (.tup [.int wh, .int pt]) /\ ∀ H', Same H H' -> Q (.int (upI v.y s wh pt)) H'
theorem G2d : FnScope ["context", "sign", "pair"] ["context", "sign", "pair"] (A1 V5) := scK
theorem D2u {f CC CB CT CW : Addr} {cw : Wy -> Addr} {fd : FuncData} (D : Def K mg "neighbour" ["context", "sign", "pair"] V5 f fd) (C : CtxM P w K mg base CC CB CT CW cw) : FnOk P w K mg base (CX1 P w) 3 f fd ["context", "sign", "pair"] (C0f CC) := by
 refine FnOk.up (D.F.ok G2d (fun vs H Q E h => ?_) (fun cdv A outer s H vs Q E hr h => ?_))
 . obtain ⟨c, v, a, b, xs, ys, p, sg, wh, pt, rfl, _⟩ := h
   rfl
 . obtain ⟨c, v, a, b, xs, ys, p, sg, wh, pt, rfl, hc, hp, k⟩ := h
   have hx : G2 (A1j CX0 P w K mg base ["context", "sign", "pair"] "neighbour" (A1 V5) f cdv A outer s H E).nox EKF := V0
   obtain ⟨fW, fdW, mW, gW, bW⟩ := C.way
   obtain ⟨fU, fdU, mU, gU, bU⟩ := C.u v.y
   refine ⟨_, (A4 (D9 (PW.pt (A2r (B9 C1y (G7 U9 (pv 2) A2 (fun _ _ => rfl)) A2 (B8 _)) (Y7 (J5 (C0d (A1h (pv 0) C.c.cl mW gW hr bW .nil hx) (C.wc v.y).cl mU gU hr bU .nil hx (A0 (pv 1) (A0 (B3 G4 (G7 U9 (pv 2) A2 (fun _ _ => rfl)) A2) (A0 (G7 U9 (pv 2) A2 (fun _ _ => rfl)) A3)))))))) (A5 (B0 (B3 U8 (G7 U9 (pv 2) A2 (fun _ _ => rfl)) A2))) C5)
     (A5 (B0 (G7 U9 (pv 2) A2 (fun _ _ => rfl))))), ?_⟩
   obtain ⟨⟨dx, e⟩, _, _⟩ := id hc
   unfold upI at k
   refine ⟨_, rfl, p, _, _, _, rfl, rfl, SqT.of hp, C4 (j := 1) rfl, rfl, _, rfl, ?_⟩
   by_cases h0 : pt = 0
   . subst h0
     rw [if_pos rfl, if_neg Bool.false_ne_true] at k
     exact J8p rfl (U4 ⟨_, rfl, p, _, _, _, rfl, rfl, SqT.of hp, C4 (j := 0) rfl, k H (Same.refl H)⟩)
   . rw [if_neg h0] at k
     rw [decide_eq_false (fun q => h0 (by injection q) : ¬ V.int pt = V.int 0)]
     refine Y5 ⟨_, rfl, c, dx, _, rfl, e, C2p _ _ _ _ _ _, c, v.r, v.y, v.l, v.m, a, b, _, _, rfl, hc, fun q dq H1 nq s1 eq => ?_⟩
     refine ⟨q, dq, _, rfl, eq, rfl, _, rfl, _, rfl, p, _, _, _, rfl, rfl, SqT.of (s1 _ _ hp), C4 (j := 0) rfl, _, _, rfl, rfl, (by decide : (0 : Int) < 10), _, rfl, p, _, _, _, rfl, rfl, SqT.of (s1 _ _ hp), C4 (j := 1) rfl, q, sg, wh % 10, pt, rfl, fun H2 s2 => ⟨_, rfl, ?_⟩⟩
     have s3 := s1.trans s2
     cases g : v.y.goes sg (wh % 10) pt with
     | true =>
       rw [g, if_pos rfl] at k
       exact Y5 ⟨_, rfl, p, _, _, _, rfl, rfl, SqT.of (s3 _ _ hp), C4 (j := 0) rfl, _, _, rfl, rfl, k H2 s3⟩
     | false =>
       rw [g, if_neg Bool.false_ne_true] at k
       exact U4 ⟨_, rfl, p, _, _, _, rfl, rfl, SqT.of (s3 _ _ hp), C4 (j := 0) rfl, k H2 s3⟩
def C2g (CN CC : Addr) : Sp := fun vs H Q _ => ∃ c v a b xs ys, ∃ s f q : Int, vs = [.ref c, .int s, .int f, .int q] /\ CtxV CC H c v a b xs ys /\ v.Ok /\ ∀ n H', H n = none -> Same H H' -> NumIs CN H' n ⟨.plain, s, (J8 v.r f q).1, (J8 v.r f q).2⟩ -> Q (.ref n) H'
theorem U9h : FnScope ["context", "sign", "figures", "power"] ["context", "sign", "figures", "power"] (A1 A1s) := scK
theorem U0d {f f1 fI CN CC CB CT CW : Addr} {cw : Wy -> Addr} {fd fd1 fdI : FuncData} (D : Def K mg "within_room" ["context", "sign", "figures", "power"] A1s f fd) (D_ten_to : Def K mg "ten_to" ["count"] A0c f1 fd1) (G_ten_to : FnOk P w K mg base (CX1 P w) 2 f1 fd1 ["count"] A5b) (C : CtxM P w K mg base CC CB CT CW cw) (N : Num K mg CN) (M : MakeN P w K mg base CN fI fdI) :
   FnOk P w K mg base (CX1 P w) 3 f fd ["context", "sign", "figures", "power"] (C2g CN CC) := by
 refine FnOk.up (D.F.ok U9h (fun vs H Q E h => ?_) (fun cdv A outer s H vs Q E hr h => ?_))
 . obtain ⟨c, v, a, b, xs, ys, sg, f, q, rfl, _⟩ := h
   rfl
 . obtain ⟨c, v, a, b, xs, ys, sg, fg, q, rfl, hc, ok, k⟩ := h
   have hx : G2 (A1j CX0 P w K mg base ["context", "sign", "figures", "power"] "within_room" (A1 A1s) f cdv A outer s H E).nox EKF := V0
   refine ⟨_, (A4 (D9 (B9 G0 (pv 2) (B5 D_ten_to G_ten_to hr hx (A0 (C7 (pv 0) rfl) A3)) (B8 _)) (A5 (B0 (A7q M.m (FnOk.up M.g) hr N.g M.b .nil hx (A0 C6 (A0 (pv 1) (A0 (B3 D8 (pv 2) A2) (A0 (B3 U8 (pv 3) A2) A3))))))) C5)
     (A5 (B0 (A7q M.m (FnOk.up M.g) hr N.g M.b .nil hx (A0 C6 (A0 (pv 1) (A0 (pv 2) (A0 (pv 3) A3)))))))), ?_⟩
   have d10 : (0 : Int) < 10 /\ (10 : Int).natAbs.log2 < 9000 := ⟨by decide, by decide +kernel⟩
   obtain ⟨⟨dx, e⟩, _, _⟩ := id hc
   have r1 := ok.r1; have r2 := ok.r2
   refine ⟨_, rfl, _, rfl, c, CC, dx, _, _, rfl, e, C.c.cl, C.c.n_room, A2d _ _ _ _ _ _, v.r.toNat, (by rw [Int.toNat_of_nonneg (by omega)]; rfl), by omega, rfl, _, rfl, ?_⟩
   unfold J8 at k
   refine G8 (fun h => ?_) (fun h => ?_)
   . have h : fg = A6 v.r := by injection h
     rw [if_pos h] at k
     exact ⟨_, rfl, _, rfl, _, _, rfl, rfl, d10, _, rfl, _, _, rfl, rfl, A8b k⟩
   . have h : ¬ fg = A6 v.r := fun z => h (congrArg V.int z)
     rw [if_neg h] at k
     exact ⟨_, rfl, _, rfl, _, rfl, A8b k⟩
def C2h (CN CC : Addr) : Sp := fun vs H Q _ => ∃ c v a b xs ys n x, vs = [.ref c, .ref n] /\ CtxV CC H c v a b xs ys /\ NumIs CN H n x /\ x.f.natAbs < 2 ^ 300 /\ Q (.bl (V6 v.m x.f x.p)) H
theorem U8e : FnScope ["context", "number"] ["context", "number"] (A1 A1n) := scK
theorem U0q {f f1 CN CC CB CT CW : Addr} {cw : Wy -> Addr} {fd fd1 : FuncData} (D : Def K mg "is_beyond" ["context", "number"] A1n f fd) (D_lead_of : Def K mg "lead_of" ["number"] C1j f1 fd1) (G_lead_of : FnOk P w K mg base (CX1 P w) 1 f1 fd1 ["number"] (V0j CN)) (C : CtxM P w K mg base CC CB CT CW cw) (N : Num K mg CN) :
   FnOk P w K mg base (CX1 P w) 2 f fd ["context", "number"] (C2h CN CC) := by
 refine FnOk.up (D.F.ok U8e (fun vs H Q E h => ?_) (fun cdv A outer s H vs Q E hr h => ?_))
 . obtain ⟨c, v, a, b, xs, ys, n, x, rfl, _⟩ := h
   rfl
 . obtain ⟨c, v, a, b, xs, ys, n, x, rfl, hc, hn, hf, k⟩ := h
   have hx : G2 (A1j CX0 P w K mg base ["context", "number"] "is_beyond" (A1 A1n) f cdv A outer s H E).nox EKF := V0
   refine ⟨_, (A5 (B0 (C2r (G9 C1y (C7 (pv 1) rfl) A2 (B8 _)) (B6b (G9 C2a (B5 D_lead_of G_lead_of hr hx (A0 (pv 1) A3)) (C7 (pv 0) rfl) (B8 _)))))), ?_⟩
   obtain ⟨⟨dx, e⟩, _, _⟩ := id hc
   obtain ⟨dn, en⟩ := id hn
   unfold V6 at k
   refine ⟨_, rfl, n, CN, dn, _, _, rfl, en, N.cl, N.n3, G2f _ _ _ _, rfl, _, rfl, ?_⟩
   by_cases h0 : x.f = 0
   . rw [if_pos h0] at k
     rw [decide_eq_true (congrArg V.int h0)]
     exact U4 k
   . rw [if_neg h0] at k
     rw [decide_eq_false (fun q => h0 (by injection q) : ¬ V.int x.f = V.int 0)]
     exact Y5 ⟨_, rfl, n, _, _, _, _, rfl, hn, hf, _, rfl, c, CC, dx, _, _, rfl, e, C.c.cl, C.c.n_most, B4q _ _ _ _ _ _, _, _, rfl, rfl, k⟩
def C1b (CN CC : Addr) : Sp := fun vs H Q _ => ∃ c v a b xs ys, ∃ s : Int, vs = [.ref c, .int s] /\ CtxV CC H c v a b xs ys /\ v.Ok /\ ∀ n H', H n = none -> Same H H' -> NumIs CN H' n ⟨.plain, s, A6 v.r - 1, v.m - v.r + 1⟩ -> Q (.ref n) H'
theorem Y4g : FnScope ["context", "sign"] ["context", "sign"] (A1 A3n) := scK
theorem U8g {f f1 fI CN CC CB CT CW : Addr} {cw : Wy -> Addr} {fd fd1 fdI : FuncData} (D : Def K mg "nines" ["context", "sign"] A3n f fd) (D_ten_to : Def K mg "ten_to" ["count"] A0c f1 fd1) (G_ten_to : FnOk P w K mg base (CX1 P w) 2 f1 fd1 ["count"] A5b) (C : CtxM P w K mg base CC CB CT CW cw) (N : Num K mg CN) (M : MakeN P w K mg base CN fI fdI) :
   FnOk P w K mg base (CX1 P w) 3 f fd ["context", "sign"] (C1b CN CC) := by
 refine FnOk.up (D.F.ok Y4g (fun vs H Q E h => ?_) (fun cdv A outer s H vs Q E hr h => ?_))
 . obtain ⟨c, v, a, b, xs, ys, sg, rfl, _⟩ := h
   rfl
 . obtain ⟨c, v, a, b, xs, ys, sg, rfl, hc, ok, k⟩ := h
   have hx : G2 (A1j CX0 P w K mg base ["context", "sign"] "nines" (A1 A3n) f cdv A outer s H E).nox EKF := V0
   refine ⟨_, (A5 (B0 (A7q M.m (FnOk.up M.g) hr N.g M.b .nil hx (A0 C6 (A0 (pv 1) (A0 (B3 U0 (B5 D_ten_to G_ten_to hr hx (A0 (C7 (pv 0) rfl) A3)) A2) (A0 (B3 U8 (B3 U0 (C7 (pv 0) rfl) (C7 (pv 0) rfl)) A2) A3))))))), ?_⟩
   obtain ⟨⟨dx, e⟩, _, _⟩ := id hc
   have r1 := ok.r1; have r2 := ok.r2
   exact ⟨_, rfl, _, rfl, c, CC, dx, _, _, rfl, e, C.c.cl, C.c.n_room, A2d _ _ _ _ _ _, v.r.toNat, (by rw [Int.toNat_of_nonneg (by omega)]; rfl), by omega, _, _, rfl, rfl, _, rfl, c, CC, dx, _, _, rfl, e, C.c.cl, C.c.n_most, B4q _ _ _ _ _ _, _, rfl, c, CC, dx, _, _, rfl, e, C.c.cl, C.c.n_room, A2d _ _ _ _ _ _, _, _, rfl, rfl, _, _, rfl, rfl, A8b k⟩
def J7g (CN CC : Addr) : Sp := fun vs H Q _ => ∃ c v a b xs ys, ∃ s : Int, vs = [.ref c, .int s] /\ CtxV CC H c v a b xs ys /\ v.Ok /\ 0 <= s /\ s <= 1 /\ ∀ n H', Same H H' -> NumIs CN H' n (D2b v s) -> Q (.ref n) H'
theorem Y3v : FnScope ["context", "sign"] ["context", "sign"] (A1 A7v) := scK
theorem U7k {f f1 f2 CN CN' CC CB CT CW : Addr} {cw : Wy -> Addr} {fd fd1 fd2 : FuncData} (D : Def K mg "burst" ["context", "sign"] A7v f fd) (D_nines : Def K mg "nines" ["context", "sign"] A3n f1 fd1) (G_nines : FnOk P w K mg base (CX1 P w) 3 f1 fd1 ["context", "sign"] (C1b CN CC)) (D_end : Def K mg "end" ["sign"] G2j f2 fd2) (G_end : FnOk P w K mg base (CX1 P w) 3 f2 fd2 ["sign"] (U7t K CN CN')) (C : CtxM P w K mg base CC CB CT CW cw) :
   FnOk P w K mg base (CX1 P w) 4 f fd ["context", "sign"] (J7g CN CC) := by
 refine FnOk.up (D.F.ok Y3v (fun vs H Q E h => ?_) (fun cdv A outer s H vs Q E hr h => ?_))
 . obtain ⟨c, v, a, b, xs, ys, sg, rfl, _⟩ := h
   rfl
 . obtain ⟨c, v, a, b, xs, ys, sg, rfl, hc, ok, s0, s1, k⟩ := h
   have hx : G2 (A1j CX0 P w K mg base ["context", "sign"] "burst" (A1 A7v) f cdv A outer s H E).nox EKF := V0
   obtain ⟨fW, fdW, mW, gW, bW⟩ := C.way
   obtain ⟨fU, fdU, mU, gU, bU⟩ := C.e v.y
   refine ⟨_, (A5 (B0 (V3 (J5 (C0d (A1h (pv 0) C.c.cl mW gW hr bW .nil hx) (C.wc v.y).cl mU gU hr bU .nil hx (A0 (pv 1) A3))) (B5 D_end G_end hr hx (A0 (pv 1) A3)) (B5 D_nines G_nines hr hx (A0 (pv 0) (A0 (pv 1) A3)))))), ?_⟩
   obtain ⟨⟨dx, e⟩, _, _⟩ := id hc
   unfold D2b at k
   refine ⟨_, rfl, c, dx, _, rfl, e, C2p _ _ _ _ _ _, c, v.r, v.y, v.l, v.m, a, b, _, _, rfl, hc, fun q dq H1 nq t1 eq => ?_⟩
   refine ⟨q, dq, _, rfl, eq, rfl, _, rfl, q, sg, rfl, fun H2 t2 => ⟨_, rfl, ?_⟩⟩
   have t3 := t1.trans t2
   cases g : v.y.toEnd sg with
   | true =>
     rw [g, if_pos rfl] at k
     exact Y5 ⟨_, rfl, _, rfl, .inl ⟨⟨sg, rfl, s0, s1⟩, fun n H' _ sm num => k n H' (t3.trans sm) num⟩⟩
   | false =>
     rw [g, if_neg Bool.false_ne_true] at k
     exact U4 ⟨_, rfl, _, rfl, c, v, a, b, xs, ys, sg, rfl, hc.same t3, ok, fun n H' _ sm num => k n H' (t3.trans sm) num⟩
def D1c : Sp := fun vs H Q _ => ∃ (pt : Int) (cut : Bool), vs = [.int pt, .bl cut] /\ ∀ l, H l = none -> Q (.ref l) (upd H l (.lst ((A2j pt cut).map V.str)))
theorem J9u : FnScope ["part", "is_cut"] ["part", "is_cut"] (A1 A2f) := scK
theorem G6v {f : Addr} {fd : FuncData} (D : Def K mg "signals_of_rest" ["part", "is_cut"] A2f f fd) : FnOk P w K mg base (CX1 P w) 1 f fd ["part", "is_cut"] D1c := by
 refine FnOk.up (D.F.ok J9u (fun vs H Q E h => ?_) (fun cdv A outer s H vs Q E hr h => ?_))
 . obtain ⟨pt, cut, rfl, _⟩ := h
   rfl
 . obtain ⟨pt, cut, rfl, k⟩ := h
   refine ⟨_, (A4 (D9 (B9 C1y (pv 0) A2 (B8 _)) (A5 (B0 (J9 (A0 C6 (A0 C6 A3))))) C5)
     (A5 (B0 (V3 (J5 (pv 1)) (J9 (A0 C6 A3)) (J9 A3))))), ?_⟩
   unfold A2j at k
   refine ⟨_, rfl, rfl, _, rfl, ?_⟩
   by_cases h0 : pt = 0
   . subst h0
     rw [if_pos rfl] at k
     refine J8p rfl ⟨_, rfl, _, rfl, ?_⟩
     cases cut with
     | true => exact Y5 ⟨D6 (by decide), k⟩
     | false => exact U4 ⟨D6 (by decide), k⟩
   . rw [if_neg h0] at k
     rw [decide_eq_false (fun q => h0 (by injection q) : ¬ V.int pt = V.int 0)]
     exact Y5 ⟨D6 (by decide), k⟩
def D0z (CC : Addr) : Sp := fun vs H Q _ => ∃ c v a b xs ys, ∃ L pt : Int, vs = [.ref c, .int L, .int pt] /\ CtxV CC H c v a b xs ys /\ ∀ l, H l = none -> Q (.ref l) (upd H l (.lst ((A0a v.l L pt).map V.str)))
theorem U0z : FnScope ["context", "lead", "part"] ["context", "lead", "part"] (A1 A2h) := scK
theorem G6x {f CC CB CT CW : Addr} {cw : Wy -> Addr} {fd : FuncData} (D : Def K mg "signals_of_lead" ["context", "lead", "part"] A2h f fd) (C : CtxM P w K mg base CC CB CT CW cw) : FnOk P w K mg base (CX1 P w) 1 f fd ["context", "lead", "part"] (D0z CC) := by
 refine FnOk.up (D.F.ok U0z (fun vs H Q E h => ?_) (fun cdv A outer s H vs Q E hr h => ?_))
 . obtain ⟨c, v, a, b, xs, ys, L, pt, rfl, _⟩ := h
   rfl
 . obtain ⟨c, v, a, b, xs, ys, L, pt, rfl, hc, k⟩ := h
   refine ⟨_, (A4 (D9 (B9 U6r (pv 1) (C7 (pv 0) rfl) (B8 _)) (A5 (B0 (J9 A3))) C5)
     (A5 (B0 (V3 (B9 G0 (pv 2) A2 (B8 _)) (J9 (A0 C6 A3)) (J9 (A0 C6 (A0 C6 A3))))))), ?_⟩
   obtain ⟨⟨dx, e⟩, _, _⟩ := id hc
   unfold A0a at k
   refine ⟨_, rfl, _, rfl, c, CC, dx, _, _, rfl, e, C.c.cl, C.c.n_least, D0x _ _ _ _ _ _, _, _, rfl, rfl, _, rfl, G8 (fun h => ?_) (fun h => ?_)⟩
   . rw [if_pos h] at k
     exact ⟨D6 (by decide), k⟩
   . rw [if_neg h] at k
     refine ⟨_, rfl, rfl, _, rfl, G8 (fun h => ?_) (fun h => ?_)⟩
     . rw [if_pos (by injection h)] at k
       exact ⟨D6 (by decide), k⟩
     . rw [if_neg fun q => h (congrArg V.int q)] at k
       exact ⟨D6 (by decide), k⟩
def G2n (CN CC : Addr) : Sp := fun vs H Q _ => ∃ c v a b xs ys, ∃ s i : Int, vs = [.ref c, .int s, .int i] /\ CtxV CC H c v a b xs ys /\ ∀ n H', H n = none -> Same H H' -> NumIs CN H' n ⟨.plain, s, 0, A7r (A2p i (v.l - v.r + 1)) v.m⟩ -> Q (.ref n) H'
theorem U7b : FnScope ["context", "sign", "ideal"] ["context", "sign", "ideal"] (A1 A3a) := scK
theorem U1p {f fI CN CC CB CT CW : Addr} {cw : Wy -> Addr} {fd fdI : FuncData} (D : Def K mg "nought" ["context", "sign", "ideal"] A3a f fd) (C : CtxM P w K mg base CC CB CT CW cw) (N : Num K mg CN) (M : MakeN P w K mg base CN fI fdI) (O : Own mg) : FnOk P w K mg base (CX1 P w) 3 f fd ["context", "sign", "ideal"] (G2n CN CC) := by
 refine FnOk.up (D.F.ok U7b (fun vs H Q E h => ?_) (fun cdv A outer s H vs Q E hr h => ?_))
 . obtain ⟨c, v, a, b, xs, ys, sg, i, rfl, _⟩ := h
   rfl
 . obtain ⟨c, v, a, b, xs, ys, sg, i, rfl, hc, k⟩ := h
   have hx : G2 (A1j CX0 P w K mg base ["context", "sign", "ideal"] "nought" (A1 A3a) f cdv A outer s H E).nox EKF := V0
   obtain ⟨fL, fdL, mL, gL, bL⟩ := C.low
   refine ⟨_, (A5 (B0 (A7q M.m (FnOk.up M.g) hr N.g M.b .nil hx (A0 C6 (A0 (pv 1) (A0 A2 (A0 (U7 (B1g rfl) (by rfl) O.min_ boot_min (A0 (U7 (B1e rfl) (by rfl) O.max_ boot_max (A0 (pv 2) (A0 (A1h (pv 0) C.c.cl mL gL hr bL .nil hx) A3))) (A0 (C7 (pv 0) rfl) A3))) A3))))))), ?_⟩
   obtain ⟨⟨dx, e⟩, _, _⟩ := id hc
   exact ⟨_, rfl, _, rfl, _, rfl, c, dx, _, rfl, e, A0m _ _ _ _ _ _, c, v.r, v.y, v.l, v.m, a, b, _, _, rfl, hc, _, _, rfl, _, rfl, c, CC, dx, _, _, rfl, e, C.c.cl, C.c.n_most, B4q _ _ _ _ _ _, _, _, rfl, A8b k⟩
end
abbrev A2k : Stmt := (top 28)
abbrev A0u : Stmt := (top 39)
theorem G2k (i : Int) : ∀ (n : Nat) (f p : Int), 0 <= f -> 0 <= (V9 i n f p).1 /\ (V9 i n f p).1 <= f
 | 0, f, p, h => ⟨h, Int.le_refl _⟩
 | n + 1, f, p, h => by
   show 0 <= (if f % 10 = 0 then V9 i n (f / 10) (p + 1) else (f, p)).1 /\ (if f % 10 = 0 then V9 i n (f / 10) (p + 1) else (f, p)).1 <= f
   by_cases z : f % 10 = 0
   . rw [if_pos z]
     have := G2k i n (f / 10) (p + 1) (by omega)
     omega
   . rw [if_neg z]
     exact ⟨h, Int.le_refl _⟩
theorem U7s {t b u1 v1 u2 v2 d : Nat} (h : t * 10 ^ u1 < 10 * (b * 10 ^ v1)) (e : u2 + v1 <= u1 + v2 + d) : t * 10 ^ u2 < 10 ^ (d + 1) * (b * 10 ^ v2) := by
 have p : 0 < 10 ^ v1 := Nat.pow_pos (by decide)
 apply Nat.lt_of_mul_lt_mul_right (a := 10 ^ v1)
 calc t * 10 ^ u2 * 10 ^ v1 = t * 10 ^ (u2 + v1) := by rw [Nat.mul_assoc, <- Nat.pow_add]
   _ <= t * 10 ^ (u1 + v2 + d) := Nat.mul_le_mul_left t (Nat.pow_le_pow_right (by decide) e)
   _ = t * 10 ^ u1 * (10 ^ v2 * 10 ^ d) := by rw [Nat.mul_assoc, <- Nat.pow_add, <- Nat.pow_add, Nat.add_assoc]
   _ < 10 * (b * 10 ^ v1) * (10 ^ v2 * 10 ^ d) := Nat.mul_lt_mul_of_pos_right h (Nat.mul_pos (Nat.pow_pos (by decide)) (Nat.pow_pos (by decide)))
   _ = 10 ^ (d + 1) * (b * 10 ^ v2) * 10 ^ v1 := by rw [Nat.pow_succ]; ac_rfl
theorem J7e {t b s1 s2 r : Int} (ht : Sz t) (hb : Sz b) (h : Y9 t b s1) (hr : 1 <= r) (e : s2 <= s1 + (r - 1)) : 0 <= whI t b s2 /\ whI t b s2 < A6 r := by
 obtain ⟨tn, rfl, _, _⟩ := ht.nat
 obtain ⟨bn, rfl, b1, _⟩ := hb.nat
 have lp : 0 < (bn : Int) * A6 (-s2) := Int.mul_pos (by omega) (D5 _)
 refine ⟨Int.ediv_nonneg (Int.mul_nonneg (by omega) (Int.le_of_lt (D5 _))) (Int.le_of_lt lp), ?_⟩
 refine Int.ediv_lt_of_lt_mul lp ?_
 have a : tn * 10 ^ s1.toNat < 10 * (bn * 10 ^ (-s1).toNat) := Int.ofNat_lt.mp h.2
 have c := U7s (u2 := s2.toNat) (v2 := (-s2).toNat) (d := (r - 1).toNat) a (by omega)
 rw [show (r - 1).toNat + 1 = r.toNat by omega] at c
 exact Int.ofNat_lt.mpr c
theorem J8q {r : Int} (h : r <= 24) : A6 r <= 10 ^ 24 := by
 unfold A6
 have : 10 ^ r.toNat <= 10 ^ 24 := Nat.pow_le_pow_right (by decide) (by omega)
 exact Int.ofNat_le.mpr this
theorem G6k {c : Cv} {s wh pt q i : Int} (ok : c.Ok) (h0 : 0 <= wh) (h1 : wh < A6 c.r) : (J0 c s wh pt q i).1.natAbs < 2 ^ 300 := by
 have t := J8q ok.r2
 have big : ((10 ^ 24 : Nat) : Int) = 10 ^ 24 := by decide +kernel
 have lt : ∀ z : Int, 0 <= z -> z <= 10 ^ 24 -> z.natAbs < 2 ^ 300 := fun z a b => Nat.lt_of_le_of_lt (show z.natAbs <= 10 ^ 24 by omega) (by decide +kernel)
 unfold J0
 split
 . have := G2k i (i - q).toNat wh q h0
   exact lt _ this.1 (by unfold A1g; omega)
 . have hu : 0 <= upI c.y s wh pt /\ upI c.y s wh pt <= A6 c.r := by
     have e : upI c.y s wh pt = wh + 1 \/ upI c.y s wh pt = wh := by
       unfold upI
       generalize (if pt = 0 then false else c.y.goes s (wh % 10) pt) = g
       cases g with
       | true => exact .inl rfl
       | false => exact .inr rfl
     omega
   generalize upI c.y s wh pt = u at hu
   unfold J8
   split
   . exact lt (u / 10) (by omega) (by omega)
   . exact lt u (by omega) (by omega)
section
variable {P : Program} {w : World} {K : Frag} {mg : Str -> Option Value} {base : Heap}
def B4n (CC CR : Addr) : Sp := fun vs H Q _ => ∃ c v a b xs ys x, ∃ t bo n L : Int, vs = [.ref c, .ref x] /\ CtxV CC H c v a b xs ys /\ RatAt CR H x t bo n /\ Sz t /\ Sz bo /\ Y9 t bo (n - L) /\ ∀ H', Same H H' -> Q (.int (A2p (L - v.r + 1) (v.l - v.r + 1))) H'
theorem U9m : FnScope ["context", "exact"] ["context", "exact"] (A1 A0j) := scK
theorem J9r {f CC CB CT CW CR CE g1 g2 : Addr} {cw : Wy -> Addr} {fd gd1 gd2 : FuncData} (D : Def K mg "finest_power" ["context", "exact"] A0j f fd) (C : CtxM P w K mg base CC CB CT CW cw) (RM : RatM P w K mg base CR g1 g2 gd1 gd2) (R : RatC K mg CR CE) (O : Own mg) : FnOk P w K mg base (CX1 P w) 5 f fd ["context", "exact"] (B4n CC CR) := by
 refine FnOk.up (D.F.ok U9m (fun vs H Q E h => ?_) (fun cdv A outer s H vs Q E hr h => ?_))
 . obtain ⟨c, v, a, b, xs, ys, x, t, bo, n, L, rfl, _⟩ := h
   rfl
 . obtain ⟨c, v, a, b, xs, ys, x, t, bo, n, L, rfl, hc, ra, ht, hb, hL, k⟩ := h
   have hx : G2 (A1j CX0 P w K mg base ["context", "exact"] "finest_power" (A1 A0j) f cdv A outer s H E).nox EKF := V0
   obtain ⟨fL, fdL, mL, gL, bL⟩ := C.low
   refine ⟨_, (A5 (B0 (U7 (B1e rfl) (by rfl) O.max_ boot_max (A0 (B3 U8 (B3 U0 (A1h (pv 1) R.cl RM.m1 RM.g1 hr RM.b1 .nil hx) (C7 (pv 0) rfl)) A2) (A0 (A1h (pv 0) C.c.cl mL gL hr bL .nil hx) A3))))), ?_⟩
   obtain ⟨dr, er⟩ := id ra
   refine ⟨_, rfl, x, dr, _, rfl, er, A4z _ _ _, x, t, bo, n, rfl, ra, ht, hb, fun f H1 s1 ld => ?_⟩
   have ef : f = L := by
     have := D2s (show 0 < bo by have := hb.1; omega) ld hL
     omega
   subst ef
   have hc1 := hc.same s1
   obtain ⟨⟨dx, e⟩, _, _⟩ := id hc1
   exact ⟨_, rfl, c, CC, dx, _, _, rfl, e, C.c.cl, C.c.n_room, A2d _ _ _ _ _ _, _, _, rfl, rfl, _, _, rfl, rfl, _, rfl, c, dx, _, rfl, e, A0m _ _ _ _ _ _, c, v.r, v.y, v.l, v.m, a, b, _, _, rfl, hc1, _, _, rfl, k H1 s1⟩
def Cv.fin (v : Cv) (L : Int) : Int := A2p (L - v.r + 1) (v.l - v.r + 1)
def J3 (v : Cv) (s t bo n L i : Int) : Nm × List Str := C0v v s (whI t bo (n - v.fin L)) (ptI t bo (n - v.fin L)) L (v.fin L) i
def U9q (CC : Addr) (H : Hp) (c : Addr) (v : Cv) (b : Addr) (xs ys : List Str) (a' : Addr) : Prop := ∀ z, H z ≠ none -> (∀ a0, CtxV CC H c v a0 b xs ys -> a0 ≠ z) -> a' ≠ z
theorem Z5h {CC : Addr} {H : Hp} {c : Addr} {v : Cv} {b : Addr} {xs ys : List Str} {a' : Addr} (h : H a' = none) : U9q CC H c v b xs ys a' := fun z hz _ e => hz (e ▸ h)
theorem Y9n {CC : Addr} {H : Hp} {c : Addr} {v : Cv} {b : Addr} {xs ys : List Str} {a : Addr} (h : CtxV CC H c v a b xs ys) : U9q CC H c v b xs ys a := fun _ _ q => q a h
theorem CtxV.uniq {CC : Addr} {H : Hp} {c : Addr} {v : Cv} {a a0 b : Addr} {xs ys xs0 ys0 : List Str} (h : CtxV CC H c v a b xs ys) (h0 : CtxV CC H c v a0 b xs0 ys0) : a0 = a := by
 obtain ⟨⟨dx, e⟩, _, _⟩ := h
 obtain ⟨⟨d0, e0⟩, _, _⟩ := h0
 rw [e] at e0
 injection e0 with e0
 injection e0 with _ _ e0
 have q := A3x (.int v.r) (.str v.y.name) (.int v.l) (.int v.m) (.ref a) (.ref b)
 rw [e0, A3x] at q
 injection q with q
 injection q with q
theorem Z4x {CC : Addr} {H H1 : Hp} {c : Addr} {v : Cv} {a b : Addr} {xs ys : List Str} {a' : Addr} (h : CtxV CC H c v a b xs ys) (s : Same H H1) (n : U9q CC H1 c v b xs ys a') : U9q CC H c v b xs ys a' := fun z hz q => n z (fun e => hz (s.free e)) fun a0 h0 => by rw [(h.same s).uniq h0]; exact q a h
def J7n (CN CC CT : Addr) (H : Hp) (c : Addr) (v : Cv) (b : Addr) (xs ys : List Str) (res : Nm × List Str) (Q : VK) (E : XK) : Prop :=
 (hit ys res.2 = none -> ∀ m a' H', U9q CC H c v b xs ys a' -> Exc c H H' -> CtxV CC H' c v a' b (A3z (xs ++ res.2)) ys -> NumIs CN H' m res.1 -> Q (.ref m) H') /\
 (∀ z, hit ys res.2 = some z -> ∀ a' d H', Exc c H H' -> CtxV CC H' c v a' b (A3z (xs ++ res.2)) ys -> H' d = some (.xd [("signal", .str z)]) -> E (.ref CT) (some d) H')
def D0u (CN CC CT CR : Addr) : Sp := fun vs H Q E => ∃ c v a b xs ys x, ∃ t bo n L s i : Int, vs = [.ref c, .int s, .ref x, .int i] /\ CtxV CC H c v a b xs ys /\ v.Ok /\ xs.length <= 900 /\ RatAt CR H x t bo n /\ Sz t /\ Sz bo /\ Y9 t bo (n - L) /\ -1500 <= n - v.fin L /\ n - v.fin L <= 1500 /\ 0 <= s /\ s <= 1 /\
 J7n CN CC CT H c v b xs ys (J3 v s t bo n L i) Q E
theorem scSettled : FnScope ["context", "sign", "exact", "ideal", "finest", "pair", "number", "names"] ["context", "sign", "exact", "ideal"] (A1 A2k) := scK
theorem J9y : ∀ z ∈ (["burst", "off", "cut"] : List Str), z ∈ sigS := by decide +kernel
theorem U8k {pt : Int} {cut : Bool} {l L : Int} : ∀ z ∈ A2j pt cut ++ A0a l L pt, z ∈ sigS := by
 have r : ∀ z ∈ A2j pt cut, z ∈ sigS := by
   unfold A2j
   split
   . split
     . decide +kernel
     . decide +kernel
   . decide +kernel
 have d : ∀ z ∈ A0a l L pt, z ∈ sigS := by
   unfold A0a
   split
   . decide +kernel
   . split
     . decide +kernel
     . decide +kernel
 intro z hz
 rcases List.mem_append.mp hz with h | h
 . exact r z h
 . exact d z h
theorem U8s {pt : Int} {cut : Bool} {l L : Int} : (A2j pt cut ++ A0a l L pt).length <= 4 := by
 have r : (A2j pt cut).length <= 2 := by
   unfold A2j
   split
   . split <;> decide
   . decide
 have d : (A0a l L pt).length <= 2 := by
   unfold A0a
   split
   . decide
   . split <;> decide
 rw [List.length_append]
 omega
theorem G6s {f f1 f2 f3 f4 f5 f6 f7 f8 CN CC CB CT CW CR CE g1 g2 : Addr} {cw : Wy -> Addr} {fd fd1 fd2 fd3 fd4 fd5 fd6 fd7 fd8 gd1 gd2 : FuncData} (D : Def K mg "settled" ["context", "sign", "exact", "ideal"] A2k f fd)
   (D_finest_power : Def K mg "finest_power" ["context", "exact"] A0j f1 fd1) (G_finest_power : FnOk P w K mg base (CX1 P w) 5 f1 fd1 ["context", "exact"] (B4n CC CR)) (D_nearest_to : Def K mg "nearest_to" ["ideal", "sign", "figures", "power"] A0s f2 fd2) (G_nearest_to : FnOk P w K mg base (CX1 P w) 3 f2 fd2 ["ideal", "sign", "figures", "power"] (D1b CN))
   (D_neighbour : Def K mg "neighbour" ["context", "sign", "pair"] V5 f3 fd3) (G_neighbour : FnOk P w K mg base (CX1 P w) 3 f3 fd3 ["context", "sign", "pair"] (C0f CC)) (D_within_room : Def K mg "within_room" ["context", "sign", "figures", "power"] A1s f4 fd4) (G_within_room : FnOk P w K mg base (CX1 P w) 3 f4 fd4 ["context", "sign", "figures", "power"] (C2g CN CC))
   (D_is_beyond : Def K mg "is_beyond" ["context", "number"] A1n f5 fd5) (G_is_beyond : FnOk P w K mg base (CX1 P w) 2 f5 fd5 ["context", "number"] (C2h CN CC)) (D_burst : Def K mg "burst" ["context", "sign"] A7v f6 fd6) (G_burst : FnOk P w K mg base (CX1 P w) 4 f6 fd6 ["context", "sign"] (J7g CN CC))
   (D_signals_of_rest : Def K mg "signals_of_rest" ["part", "is_cut"] A2f f7 fd7) (G_signals_of_rest : FnOk P w K mg base (CX1 P w) 1 f7 fd7 ["part", "is_cut"] D1c) (D_signals_of_lead : Def K mg "signals_of_lead" ["context", "lead", "part"] A2h f8 fd8) (G_signals_of_lead : FnOk P w K mg base (CX1 P w) 1 f8 fd8 ["context", "lead", "part"] (D0z CC))
   (C : CtxM P w K mg base CC CB CT CW cw) (RM : RatM P w K mg base CR g1 g2 gd1 gd2) (R : RatC K mg CR CE) (N : Num K mg CN) : FnOk P w K mg base (CX1 P w) 6 f fd ["context", "sign", "exact", "ideal"] (D0u CN CC CT CR) := by
 refine D.F.okE scSettled (fun vs H Q E h => ?_) (fun X cdv A outer s H vs Q E hX hr hx h => ?_)
 . obtain ⟨c, v, a, b, xs, ys, x, t, bo, n, L, sg, i, rfl, _⟩ := h
   rfl
 . subst hX
   obtain ⟨c, v, a, b, xs, ys, x, t, bo, n, L, sg, i, rfl, hc, ok, lx, ra, ht, hb, hL, q0, q1, s0, s1, k⟩ := h
   obtain ⟨fR, fdR, mR, gR, bR⟩ := C.raised
   refine ⟨_, (A4 (B7 (C9 (i := 4) scSettled.nd rfl (Or.inl rfl) (B5 D_finest_power G_finest_power hr hx (A0 (pv 0) (A0 (pv 2) A3)))))
     (A4 (B7 (C9 (i := 5) scSettled.nd rfl (Or.inl rfl) (C0d (pv 2) R.cl RM.m2 RM.g2 hr RM.b2 .nil hx (A0 (pv 4) A3))))
     (A4 (B7 (D9 (B9 G0 (G7 U9 (pv 5) A2 (fun _ _ => rfl)) A2 (B8 _)) (A5 (C9 (i := 6) scSettled.nd rfl (Or.inl rfl) (B5 D_nearest_to G_nearest_to hr hx (A0 (pv 3) (A0 (pv 1) (A0 (G7 U9 (pv 5) A2 (fun _ _ => rfl)) (A0 (pv 4) A3))))))) (A5 (C9 (i := 6) scSettled.nd rfl (Or.inl rfl) (B5 D_within_room G_within_room hr hx (A0 (pv 0) (A0 (pv 1) (A0 (B5 D_neighbour G_neighbour hr hx (A0 (pv 0) (A0 (pv 1) (A0 (pv 5) A3)))) (A0 (pv 4) A3)))))))))
     (A4 (B7 (D9 (J5 (B5 D_is_beyond G_is_beyond hr hx (A0 (pv 0) (A0 (pv 6) A3)))) (A4 (V7 (C0d (pv 0) C.c.cl mR gR hr bR .nil hx (A0 (J9 (A0 C6 (A0 C6 (A0 C6 A3)))) A3)))
     (A5 (B0 (B5 D_burst G_burst hr hx (A0 (pv 0) (A0 (pv 1) A3)))))) C5))
     (A4 (B7 (C9 (i := 7) scSettled.nd rfl (Or.inl rfl) (B5 D_signals_of_rest G_signals_of_rest hr hx (A0 (G7 U9 (pv 5) A2 (fun _ _ => rfl)) (A0 (G9 C2a (C7 (pv 6) rfl) (pv 3) (B8 _)) A3)))))
     (A4 (B7 (V7 (C0d (pv 0) C.c.cl mR gR hr bR .nil hx (A0 (B3 U8u (pv 7) (B5 D_signals_of_lead G_signals_of_lead hr hx (A0 (pv 0) (A0 (A1h (pv 2) R.cl RM.m1 RM.g1 hr RM.b1 .nil hx) (A0 (G7 U9 (pv 5) A2 (fun _ _ => rfl)) A3))))) A3))))
     (A5 (B0 (pv 6))))))))), ?_⟩
   have b0 : 0 < bo := by have := hb.1; omega
   have wr := J7e (s2 := n - v.fin L) ht hb hL ok.r1 (by
     unfold Cv.fin A2p
     split <;> omega)
   unfold J3 C0v at k
   refine ⟨fun σ' H' => Same H H' /\ σ' = [some (.ref c), some (.int sg), some (.ref x), some (.int i), some (.int (v.fin L)), none, none, none], ?_, ?_⟩
   . exact ⟨_, rfl, _, rfl, c, v, a, b, xs, ys, x, t, bo, n, L, rfl, hc, ra, ht, hb, hL, fun H' s' => ⟨s', rfl⟩⟩
   rintro σ' H1 ⟨t1, rfl⟩
   have hc1 := hc.same t1
   have ra1 := ra.same t1
   generalize v.fin L = q at *
   generalize hwh : whI t bo (n - q) = wh at *
   generalize hpt : ptI t bo (n - q) = pt at *
   refine ⟨fun σ' H' => ∃ p, Same H1 H' /\ H' p = some (.tup [.int wh, .int pt]) /\ σ' = [some (.ref c), some (.int sg), some (.ref x), some (.int i), some (.int q), some (.ref p), none, none], ?_, ?_⟩
   . obtain ⟨dr, er⟩ := id ra1
     refine ⟨_, rfl, x, dr, _, rfl, er, B1d _ _ _, _, rfl, x, t, bo, n, q, rfl, ra1, ht, hb, q0, q1, fun p H' s' np ep => ⟨p, s', ?_, rfl⟩⟩
     rw [hwh, hpt] at ep
     exact ep
   rintro σ' H2 ⟨p, t2, hp, rfl⟩
   have hc2 := hc1.same t2
   have sm := G6k (s := sg) (pt := pt) (q := q) (i := i) ok wr.1 wr.2
   refine ⟨fun σ' H' => ∃ m, Same H2 H' /\ H2 m = none /\ NumIs CN H' m ⟨.plain, sg, (J0 v sg wh pt q i).1, (J0 v sg wh pt q i).2⟩ /\ σ' = [some (.ref c), some (.int sg), some (.ref x), some (.int i), some (.int q), some (.ref p), some (.ref m), none], ?_, ?_⟩
   . refine ⟨_, rfl, p, _, _, _, rfl, rfl, SqT.of hp, C4 (j := 1) rfl, rfl, _, rfl, G8 (fun h => ?_) (fun h => ?_)⟩
     . have h : pt = 0 := by injection h
       refine ⟨_, rfl, _, rfl, _, rfl, p, _, _, _, rfl, rfl, SqT.of hp, C4 (j := 0) rfl, _, rfl, i, sg, wh, q, rfl, fun m H' nm s' num => ⟨m, s', nm, ?_, rfl⟩⟩
       unfold J0
       rw [if_pos h]
       exact num
     . have h : ¬ pt = 0 := fun z => h (congrArg V.int z)
       refine ⟨_, rfl, _, rfl, _, rfl, _, rfl, _, rfl, c, v, a, b, xs, ys, p, sg, wh, pt, rfl, hc2, hp, fun H3 s3 => ?_⟩
       refine ⟨_, rfl, c, v, a, b, xs, ys, sg, _, q, rfl, hc2.same s3, ok, fun m H' nm s' num => ⟨m, s3.trans s', s3.free nm, ?_, rfl⟩⟩
       unfold J0
       rw [if_neg h]
       exact num
   rintro σ' H3 ⟨m, t3, nm, num, rfl⟩
   have hc3 := hc2.same t3
   have tA := (t1.trans t2).trans t3
   have nmc : m ≠ c := fun z => by
     obtain ⟨⟨dx, e⟩, _, _⟩ := hc2
     rw [z, e] at nm
     cases nm
   obtain ⟨⟨dx, e3⟩, _, _⟩ := id hc3
   generalize hf : (J0 v sg wh pt q i).1 = fg at *
   generalize hg : (J0 v sg wh pt q i).2 = pw at *
   refine ⟨fun σ' H' => H' = H3 /\ V6 v.m fg pw = false /\ σ' = [some (.ref c), some (.int sg), some (.ref x), some (.int i), some (.int q), some (.ref p), some (.ref m), none], ?_, ?_⟩
   . refine ⟨_, rfl, _, rfl, c, v, a, b, xs, ys, m, _, rfl, hc3, num, sm, _, rfl, ?_⟩
     cases e : V6 v.m fg pw with
     | false => exact U4 ⟨rfl, rfl, rfl⟩
     | true =>
       rw [e, if_pos rfl] at k
       refine Y5 ⟨_, rfl, c, dx, _, rfl, e3, B1z _ _ _ _ _ _, D6 (by decide), fun l nl => ?_⟩
       have u := Same.upd (o := .lst [.str "burst", .str "off", .str "cut"]) nl
       refine ⟨c, v.r, v.y, v.l, v.m, a, b, xs, ys, .ref l, rfl, hc3.same u, by omega, .inl ⟨l, ["burst", "off", "cut"], rfl, A9, by decide, J9y, fun hn a' H4 x4 na ct => ?_, fun z hz a' d H4 x4 na ct nd ed => ?_⟩⟩
       . refine ⟨_, rfl, _, rfl, c, v, a', b, _, ys, sg, rfl, ct, ok, s0, s1, fun m' H5 s5 num5 => k.1 hn m' a' H5 (Z5h ((tA.trans u).free na)) (((Exc.of (tA.trans u)).trans x4).trans (.of s5)) (CtxV.same ct s5) num5⟩
       . exact k.2 z hz a' d H4 ((Exc.of (tA.trans u)).trans x4) ct ed
   rintro σ' H4 ⟨rfl, e, rfl⟩
   rw [e, if_neg Bool.false_ne_true] at k
   refine ⟨fun σ' H' => ∃ l, Same H4 H' /\ H' l = some (.lst ((A2j pt (decide (pw > i))).map V.str)) /\ σ' = [some (.ref c), some (.int sg), some (.ref x), some (.int i), some (.int q), some (.ref p), some (.ref m), some (.ref l)], ?_, ?_⟩
   . obtain ⟨dn, en⟩ := id num
     exact ⟨_, rfl, p, _, _, _, rfl, rfl, SqT.of (t3 _ _ hp), C4 (j := 1) rfl, _, rfl, m, CN, dn, _, _, rfl, en, N.cl, N.n4, C6z _ _ _ _, _, rfl, _, _, rfl, rfl, pt, _, rfl, fun l nl => ⟨l, Same.upd nl, A9, rfl⟩⟩
   rintro σ' H5 ⟨l, t5, hl, rfl⟩
   refine ⟨fun σ' H' => hit ys (A2j pt (decide (pw > i)) ++ A0a v.l L pt) = none /\ ∃ a', H a' = none /\ Exc c H H' /\ CtxV CC H' c v a' b (A3z (xs ++ (A2j pt (decide (pw > i)) ++ A0a v.l L pt))) ys /\ NumIs CN H' m ⟨.plain, sg, fg, pw⟩ /\ σ' = [some (.ref c), some (.int sg), some (.ref x), some (.int i), some (.int q), some (.ref p), some (.ref m), some (.ref l)], ?_, ?_⟩
   . have ra5 := ((ra1.same t2).same t3).same t5
     obtain ⟨dr, er⟩ := id ra5
     have hc5 := hc3.same t5
     refine ⟨_, rfl, c, dx, _, rfl, t5 _ _ e3, B1z _ _ _ _ _ _, _, rfl, _, rfl, _, rfl, x, dr, _, rfl, er, A4z _ _ _, x, t, bo, n, rfl, ra5, ht, hb, fun f H6 t6 ld => ?_⟩
     have ef : f = L := by
       have := D2s b0 ld hL
       omega
     subst ef
     refine ⟨_, rfl, p, _, _, _, rfl, rfl, SqT.of ((t5.trans t6) _ _ (t3 _ _ hp)), C4 (j := 1) rfl, c, v, a, b, xs, ys, f, pt, rfl, hc5.same t6, fun l2 nl2 => ?_⟩
     have u2 := Same.upd (o := .lst ((A0a v.l f pt).map V.str)) nl2
     have rl := U8s (pt := pt) (cut := decide (pw > i)) (l := v.l) (L := f)
     rw [List.length_append] at rl
     refine ⟨l, l2, _, _, rfl, rfl, (t6.trans u2) _ _ hl, A9, D6 (by rw [List.length_map, List.length_map]; omega), fun l3 nl3 => ?_⟩
     have u3 := Same.upd (o := .lst ((A2j pt (decide (pw > i))).map V.str ++ (A0a v.l f pt).map V.str)) nl3
     have tB := (t6.trans u2).trans u3
     have num7 := (num.same t5).same tB
     obtain ⟨dn7, en7⟩ := id num7
     have keep : ∀ {H' : Hp}, Exc c _ H' -> NumIs CN H' m ⟨.plain, sg, fg, pw⟩ := fun x7 => ⟨dn7, x7 _ _ en7 nmc⟩
     refine ⟨c, v.r, v.y, v.l, v.m, a, b, xs, ys, .ref l3, rfl, (hc5.same tB), by omega, .inl ⟨l3, A2j pt (decide (pw > i)) ++ A0a v.l f pt, rfl, by rw [A9, List.map_append], by rw [List.length_append]; omega, U8k, fun hn a' H8 x8 na ct => ?_, fun z hz a' d H8 x8 na ct nd ed => ?_⟩⟩
     . exact ⟨hn, a', (tA.trans (t5.trans tB)).free na, (Exc.of (tA.trans (t5.trans tB))).trans x8, ct, keep x8, rfl⟩
     . exact k.2 z hz a' d H8 ((Exc.of (tA.trans (t5.trans tB))).trans x8) ct ed
   rintro σ' H6 ⟨hn, a', na6, x6, ct, num6, rfl⟩
   exact ⟨_, rfl, k.1 hn m a' H6 (Z5h na6) x6 ct num6⟩
def B2s (v : Cv) (x : Nm) (L : Int) : Nm × List Str := match x.k with
 | .plain => if x.f = 0 then (⟨.plain, x.s, 0, A7r (A2p x.p (v.l - v.r + 1)) v.m⟩, []) else J3 v x.s x.f 1 x.p L x.p
 | _ => (x, [])
def B6a (K : Frag) (CN CC CB' CT : Addr) : Sp := fun vs H Q E => ∃ c v a b xs ys u, vs = [.ref c, u] /\ CtxV CC H c v a b xs ys /\ v.Ok /\ xs.length <= 900 /\ A3z xs = xs /\
 ((∃ n x L, u = .ref n /\ NumIs CN H n x /\ x.Ok /\ (x.k = .plain -> x.f ≠ 0 -> Y9 x.f 1 (x.p - L)) /\ J7n CN CC CT H c v b xs ys (B2s v x L) Q E) \/ (NotNum K CN H u /\ E (.ref CB') none H))
end
section
variable {P : Program} {w : World} {K : Frag} {mg : Str -> Option Value} {base : Heap}
theorem U1b : FnScope ["context", "number"] ["context", "number"] (A1 A0u) := scK
theorem G2z {v : Cv} {L n : Int} (ok : v.Ok) (h1 : -1000 <= n - L) (h2 : n - L <= 1000) (n1 : -400 <= n) (n2 : n <= 400) : -1500 <= n - v.fin L /\ n - v.fin L <= 1500 := by
 have := ok.r1; have := ok.r2; have := ok.l1; have := ok.l2
 unfold Cv.fin A2p
 split <;> omega
theorem C1g {t b s : Int} (ht : Sz t) (hb : Sz b) (h : Y9 t b s) : -1000 <= s /\ s <= 1000 := by
 have e := D5 1000
 refine ⟨?_, ?_⟩
 . apply Classical.byContradiction
   intro hs
   have z : A6 s = 1 := by unfold A6; rw [show s.toNat = 0 by omega]; rfl
   have g : A6 1000 <= A6 (-s) := V2 (by omega)
   have a := h.1
   rw [z, Int.mul_one] at a
   have : 1 * A6 (-s) <= b * A6 (-s) := Int.mul_le_mul_of_nonneg_right hb.1 (Int.le_of_lt (D5 _))
   have := ht.2
   omega
 . apply Classical.byContradiction
   intro hs
   have z : A6 (-s) = 1 := by unfold A6; rw [show (-s).toNat = 0 by omega]; rfl
   have g : A6 1001 <= A6 s := V2 (by omega)
   have e1 : A6 1001 = 10 * A6 1000 := by
     unfold A6
     rw [show (1001 : Int).toNat = (1000 : Int).toNat + 1 by decide, Nat.pow_succ, Nat.mul_comm]
     rfl
   have a := h.2
   rw [z, Int.mul_one] at a
   have : 1 * A6 s <= t * A6 s := Int.mul_le_mul_of_nonneg_right ht.1 (Int.le_of_lt (D5 _))
   have := hb.2
   omega
theorem A3q : Sz 1 := ⟨by decide, by
 have : A6 1 <= A6 1000 := V2 (by decide)
 have e : A6 1 = 10 := rfl
 omega⟩
theorem U7y {f : Int} (h0 : 0 <= f) (h : f ≠ 0) (h1 : f <= 10 ^ 60 - 1) : Sz f := by
 refine ⟨by omega, ?_⟩
 have : A6 60 <= A6 1000 := V2 (by decide)
 have e : A6 60 = 10 ^ 60 := by decide +kernel
 omega
theorem G7r {f f1 f2 f3 fI CN CC CB CB' CT CW CR CE : Addr} {cw : Wy -> Addr} {fd fd1 fd2 fd3 fdI : FuncData} {d0 : Value} {gP : List Value -> List Value -> List Value} {vP : List V -> List V -> List V} (D : Def K mg "rounded" ["context", "number"] A0u f fd)
   (D_need_number : Def K mg "need_number" ["thing"] A2m f1 fd1) (G_need_number : FnOk P w K mg base (CX1 P w) 1 f1 fd1 ["thing"] (B4j K CN CB')) (D_nought : Def K mg "nought" ["context", "sign", "ideal"] A3a f2 fd2) (G_nought : FnOk P w K mg base (CX1 P w) 3 f2 fd2 ["context", "sign", "ideal"] (G2n CN CC))
   (D_settled : Def K mg "settled" ["context", "sign", "exact", "ideal"] A2k f3 fd3) (G_settled : FnOk P w K mg base (CX1 P w) 6 f3 fd3 ["context", "sign", "exact", "ideal"] (D0u CN CC CT CR)) (C : CtxM P w K mg base CC CB CT CW cw) (MR : MakeR P w K mg base CR fI fdI d0 gP vP) (R : RatC K mg CR CE) (N : Num K mg CN) :
   FnOk P w K mg base (CX1 P w) 7 f fd ["context", "number"] (B6a K CN CC CB' CT) := by
 refine D.F.okE U1b (fun vs H Q E h => ?_) (fun X cdv A outer s H vs Q E hX hr hx h => ?_)
 . obtain ⟨c, v, a, b, xs, ys, u, rfl, _⟩ := h
   rfl
 . subst hX
   obtain ⟨c, v, a, b, xs, ys, u, rfl, hc, ok, lx, ox, h⟩ := h
   refine ⟨_, (A4 (V7 (B5 D_need_number G_need_number hr hx (A0 (pv 1) A3)))
     (A4 (D9 (B9 C1y (C7 (pv 1) rfl) C6 (B8 _)) (A5 (B0 (pv 1))) C5)
     (A4 (D9 (B9 G0 (C7 (pv 1) rfl) A2 (B8 _)) (A5 (B0 (B5 D_nought G_nought hr hx (A0 (pv 0) (A0 (C7 (pv 1) rfl) (A0 (C7 (pv 1) rfl) A3)))))) C5)
     (A5 (B0 (B5 D_settled G_settled hr hx (A0 (pv 0) (A0 (C7 (pv 1) rfl) (A0 (A7q MR.m MR.g hr R.g MR.b3 .nil hx (A0 (C7 (pv 1) rfl) (A0 A2 (A0 (C7 (pv 1) rfl) A3)))) (A0 (C7 (pv 1) rfl) A3)))))))))), ?_⟩
   rcases h with ⟨n, x, L, rfl, hn, okx, hL, k⟩ | ⟨bad, k⟩
   . refine ⟨_, rfl, _, rfl, .inl ⟨n, _, _, _, _, rfl, hn, ?_⟩⟩
     obtain ⟨dx, e⟩ := id hn
     have none : (hit ys [] = none) := by unfold hit; rw [List.find?_eq_none]; intro t _; simp
     have same : A3z (xs ++ []) = xs := by rw [List.append_nil]; exact ox
     unfold B2s at k
     refine ⟨_, rfl, n, CN, dx, _, _, rfl, e, N.cl, N.n1, C2f _ _ _ _, rfl, _, rfl, ?_⟩
     cases hk : x.k with
     | end_ =>
       rw [hk] at k
       have k := k.1 none n a H (Y9n hc) (Exc.refl c H) (by rw [same]; exact hc) hn
       exact Y5 ⟨_, rfl, k⟩
     | none =>
       rw [hk] at k
       have k := k.1 none n a H (Y9n hc) (Exc.refl c H) (by rw [same]; exact hc) hn
       exact Y5 ⟨_, rfl, k⟩
     | plain =>
       rw [hk] at k
       refine J8p rfl ⟨_, rfl, n, CN, dx, _, _, rfl, e, N.cl, N.n3, G2f _ _ _ _, rfl, _, rfl, G8 (fun h0 => ?_) (fun h0 => ?_)⟩
       . have h0 : x.f = 0 := by injection h0
         have k : J7n CN CC CT H c v b xs ys (if x.f = 0 then (⟨.plain, x.s, 0, A7r (A2p x.p (v.l - v.r + 1)) v.m⟩, []) else J3 v x.s x.f 1 x.p L x.p) Q E := k
         rw [if_pos h0] at k
         refine ⟨_, rfl, _, rfl, n, CN, dx, _, _, rfl, e, N.cl, N.n2, C6x _ _ _ _, _, rfl, n, CN, dx, _, _, rfl, e, N.cl, N.n4, C6z _ _ _ _, c, v, a, b, xs, ys, x.s, x.p, rfl, hc, fun m H' nm sm num => ?_⟩
         exact k.1 none m a H' (Y9n hc) (.of sm) (by rw [same]; exact hc.same sm) num
       . have h0 : ¬ x.f = 0 := fun z => h0 (congrArg V.int z)
         have k : J7n CN CC CT H c v b xs ys (if x.f = 0 then (⟨.plain, x.s, 0, A7r (A2p x.p (v.l - v.r + 1)) v.m⟩, []) else J3 v x.s x.f 1 x.p L x.p) Q E := k
         rw [if_neg h0] at k
         have hL := hL hk h0
         have hf := U7y okx.f0 h0 okx.f1
         have lb := C1g hf A3q hL
         have p0 := okx.p0; have p1 := okx.p1
         have fb := G2z (v := v) (L := L) (n := x.p) ok lb.1 lb.2 (by omega) (by omega)
         refine ⟨_, rfl, _, rfl, n, CN, dx, _, _, rfl, e, N.cl, N.n2, C6x _ _ _ _, _, rfl, n, CN, dx, _, _, rfl, e, N.cl, N.n3, G2f _ _ _ _, _, rfl, n, CN, dx, _, _, rfl, e, N.cl, N.n4, C6z _ _ _ _, fun q dq m1 m2 me => Y9c m1 m2 me fun H1 s1 ra => ⟨rfl, ?_⟩⟩
         refine ⟨_, rfl, n, CN, dx, _, _, rfl, s1 _ _ e, N.cl, N.n4, C6z _ _ _ _, c, v, a, b, xs, ys, q, x.f, 1, x.p, L, x.s, x.p, rfl, hc.same s1, ok, lx, ra, hf, A3q, hL, fb.1, fb.2, okx.s0, okx.s1, ?_, ?_⟩
         . exact fun hn m a' H2 nw x2 ct num => k.1 hn m a' H2 (Z4x hc s1 nw) ((Exc.of s1).trans x2) ct num
         . exact fun z hz a' d H2 x2 ct ed => k.2 z hz a' d H2 ((Exc.of s1).trans x2) ct ed
   . exact ⟨_, rfl, _, rfl, .inr ⟨bad, k⟩⟩
end
structure CtxL (P : Program) (w : World) (K : Frag) (mg : Str -> Option Value) (base : Heap) (CC : Addr) : Prop where
 c : CtxC K mg CC
 low : Has P w K mg base CC "lowest" 1 ["self"] (B4t CC)
abbrev A2z : Stmt := (top 62)
abbrev A2x : Stmt := (top 63)
abbrev A0q : Stmt := (top 64)
abbrev A2s : Stmt := (top 65)
abbrev A5a : Stmt := (top 66)
def U1j (v : Cv) (s f p L : Int) : Nm :=
 if V6 v.m (J8 v.r (whI f 1 (p - v.fin L) + 1) (v.fin L)).1 (J8 v.r (whI f 1 (p - v.fin L) + 1) (v.fin L)).2 = true then ⟨.end_, s, 0, 0⟩
 else ⟨.plain, s, (J8 v.r (whI f 1 (p - v.fin L) + 1) (v.fin L)).1, (J8 v.r (whI f 1 (p - v.fin L) + 1) (v.fin L)).2⟩
def D0r (v : Cv) (s f p L : Int) : Nm :=
 if L > v.m then ⟨.plain, s, A6 v.r - 1, v.m - v.r + 1⟩
 else if ptI f 1 (p - v.fin L) = 0 then
   (if whI f 1 (p - v.fin L) = A6 (v.r - 1) /\ v.fin L > v.l - v.r + 1 then ⟨.plain, s, A6 v.r - 1, v.fin L - 1⟩ else ⟨.plain, s, whI f 1 (p - v.fin L) - 1, v.fin L⟩)
 else ⟨.plain, s, whI f 1 (p - v.fin L), v.fin L⟩
def stepN (v : Cv) (x : Nm) (g L : Int) : Nm :=
 match x.k with
 | .none => ⟨.none, 0, 0, 0⟩
 | .end_ => if x.s = g then x else ⟨.plain, x.s, A6 v.r - 1, v.m - v.r + 1⟩
 | .plain => if x.f = 0 then ⟨.plain, g, 1, v.l - v.r + 1⟩ else if x.s = g then U1j v x.s x.f x.p L else D0r v x.s x.f x.p L
theorem U6q {v : Cv} {f p L : Int} (ok : v.Ok) (hf : Sz f) (h : Y9 f 1 (p - L)) : 0 <= whI f 1 (p - v.fin L) /\ whI f 1 (p - v.fin L) < A6 v.r := by
 refine J7e hf A3q h ok.r1 ?_
 unfold Cv.fin A2p
 split <;> omega
section
variable {P : Program} {w : World} {K : Frag} {mg : Str -> Option Value} {base : Heap}
def Z4u (CN CC CR : Addr) (vs : List V) (H : Hp) (Q : VK) (res : Cv -> Int -> Int -> Int -> Int -> Nm) : Prop := ∃ c v a b xs ys x, ∃ s f p L : Int, vs = [.ref c, .int s, .ref x] /\ CtxV CC H c v a b xs ys /\ v.Ok /\ RatAt CR H x f 1 p /\ Sz f /\ Y9 f 1 (p - L) /\ -1500 <= p - v.fin L /\ p - v.fin L <= 1500 /\ 0 <= s /\ s <= 1 /\
 ∀ n H', Same H H' -> NumIs CN H' n (res v s f p L) -> Q (.ref n) H'
def Y8x (CN CC CR : Addr) : Sp := fun vs H Q _ => Z4u CN CC CR vs H Q U1j
def U7x (CN CC CR : Addr) : Sp := fun vs H Q _ => Z4u CN CC CR vs H Q D0r
theorem scFar : FnScope ["context", "sign", "exact", "finest", "number"] ["context", "sign", "exact"] (A1 A2s) := scK
theorem scNear : FnScope ["context", "sign", "exact", "finest", "pair"] ["context", "sign", "exact"] (A1 A5a) := scK
theorem Z0r {f f1 f2 f3 f4 CN CC CR CE CB g1 g2 : Addr} {fd fd1 fd2 fd3 fd4 gd1 gd2 : FuncData} (D : Def K mg "farther" ["context", "sign", "exact"] A2s f fd) (D_finest_power : Def K mg "finest_power" ["context", "exact"] A0j f1 fd1) (G_finest_power : FnOk P w K mg base (CX1 P w) 5 f1 fd1 ["context", "exact"] (B4n CC CR))
   (D_within_room : Def K mg "within_room" ["context", "sign", "figures", "power"] A1s f2 fd2) (G_within_room : FnOk P w K mg base (CX1 P w) 3 f2 fd2 ["context", "sign", "figures", "power"] (C2g CN CC)) (D_is_beyond : Def K mg "is_beyond" ["context", "number"] A1n f3 fd3) (G_is_beyond : FnOk P w K mg base (CX1 P w) 2 f3 fd3 ["context", "number"] (C2h CN CC))
   (D_end : Def K mg "end" ["sign"] G2j f4 fd4) (G_end : FnOk P w K mg base (CX1 P w) 3 f4 fd4 ["sign"] (U7t K CN CB)) (C : CtxL P w K mg base CC) (RM : RatM P w K mg base CR g1 g2 gd1 gd2) (R : RatC K mg CR CE) : FnOk P w K mg base (CX1 P w) 6 f fd ["context", "sign", "exact"] (Y8x CN CC CR) := by
 refine D.F.okE scFar (fun vs H Q E h => ?_) (fun X cdv A outer s H vs Q E hX hr hx h => ?_)
 . obtain ⟨c, v, a, b, xs, ys, x, sg, fg, p, L, rfl, _⟩ := h
   rfl
 . subst hX
   obtain ⟨c, v, a, b, xs, ys, x, sg, fg, p, L, rfl, hc, ok, ra, hf, hL, b1, b2, s0, s1, k⟩ := h
   refine ⟨_, (A4 (C9 (i := 3) scFar.nd rfl (Or.inl rfl) (B5 D_finest_power G_finest_power hr hx (A0 (pv 0) (A0 (pv 2) A3))))
     (A4 (C9 (i := 4) scFar.nd rfl (Or.inl rfl) (B5 D_within_room G_within_room hr hx (A0 (pv 0) (A0 (pv 1) (A0 (B3 U8 (G7 U9 (C0d (pv 2) R.cl RM.m2 RM.g2 hr RM.b2 .nil hx (A0 (pv 3) A3)) A2 (fun _ _ => rfl)) A2) (A0 (pv 3) A3))))))
     (A5 (B0 (V3 (J5 (B5 D_is_beyond G_is_beyond hr hx (A0 (pv 0) (A0 (pv 4) A3)))) (B5 D_end G_end hr hx (A0 (pv 1) A3)) (pv 4)))))), ?_⟩
   have wf := U6q ok hf hL
   refine ⟨_, rfl, _, rfl, c, v, a, b, xs, ys, x, fg, 1, p, L, rfl, hc, ra, hf, A3q, hL, fun H1 e1 => ?_⟩
   show _
   have ra1 := ra.same e1
   have hc1 := hc.same e1
   obtain ⟨dr, er⟩ := id ra1
   refine ⟨_, rfl, _, rfl, _, rfl, x, dr, _, rfl, er, B1d _ _ _, _, rfl, x, fg, 1, p, _, rfl, ra1, hf, A3q, b1, b2, fun q H2 e2 nq eq => ?_⟩
   refine ⟨q, _, _, _, rfl, rfl, SqT.of eq, rfl, _, _, rfl, rfl, _, rfl, c, v, a, b, xs, ys, sg, _, _, rfl, hc1.same e2, ok, fun n H3 nn e3 num => ?_⟩
   have t24 := J8q ok.r2
   have small : (J8 v.r (whI fg 1 (p - v.fin L) + 1) (v.fin L)).1.natAbs < 2 ^ 300 := by
     have lt : ∀ z : Int, 0 <= z -> z <= 10 ^ 24 -> z.natAbs < 2 ^ 300 := fun z a b => Nat.lt_of_le_of_lt (show z.natAbs <= 10 ^ 24 by omega) (by decide +kernel)
     have big : ((10 ^ 24 : Nat) : Int) = 10 ^ 24 := by decide +kernel
     unfold J8
     split
     . exact lt _ (by show 0 <= (whI fg 1 (p - v.fin L) + 1) / 10; omega) (by show (whI fg 1 (p - v.fin L) + 1) / 10 <= 10 ^ 24; omega)
     . exact lt _ (by show 0 <= whI fg 1 (p - v.fin L) + 1; omega) (by show whI fg 1 (p - v.fin L) + 1 <= 10 ^ 24; omega)
   refine ⟨_, rfl, _, rfl, c, v, a, b, xs, ys, n, _, rfl, (hc1.same e2).same e3, num, small, _, rfl, ?_⟩
   have e13 := (e1.trans e2).trans e3
   show if V6 v.m (J8 v.r (whI fg 1 (p - v.fin L) + 1) (v.fin L)).1 (J8 v.r (whI fg 1 (p - v.fin L) + 1) (v.fin L)).2 = true then _ else _
   unfold U1j at k
   by_cases hb : V6 v.m (J8 v.r (whI fg 1 (p - v.fin L) + 1) (v.fin L)).1 (J8 v.r (whI fg 1 (p - v.fin L) + 1) (v.fin L)).2 = true
   . rw [if_pos hb] at k ⊢
     exact ⟨_, rfl, _, rfl, .inl ⟨⟨sg, rfl, s0, s1⟩, fun m H4 _ e4 nm => k m H4 (e13.trans e4) nm⟩⟩
   . rw [if_neg hb] at k ⊢
     exact ⟨_, rfl, k n H3 e13 num⟩
end
theorem Z5s {c A B : Prop} [Decidable c] (h : ¬ c) (a : A) : if (!decide c) = true then A else B := by rw [decide_eq_false h]; exact Y5 a
section
variable {P : Program} {w : World} {K : Frag} {mg : Str -> Option Value} {base : Heap}
theorem Y3x {f f1 f2 f3 fI CN CC CR CE g1 g2 : Addr} {fd fd1 fd2 fd3 fdI gd1 gd2 : FuncData} (D : Def K mg "nearer" ["context", "sign", "exact"] A5a f fd) (D_finest_power : Def K mg "finest_power" ["context", "exact"] A0j f1 fd1) (G_finest_power : FnOk P w K mg base (CX1 P w) 5 f1 fd1 ["context", "exact"] (B4n CC CR))
   (D_nines : Def K mg "nines" ["context", "sign"] A3n f2 fd2) (G_nines : FnOk P w K mg base (CX1 P w) 3 f2 fd2 ["context", "sign"] (C1b CN CC)) (D_ten_to : Def K mg "ten_to" ["count"] A0c f3 fd3) (G_ten_to : FnOk P w K mg base (CX1 P w) 2 f3 fd3 ["count"] A5b)
   (N : Num K mg CN) (M : MakeN P w K mg base CN fI fdI) (C : CtxL P w K mg base CC) (RM : RatM P w K mg base CR g1 g2 gd1 gd2) (R : RatC K mg CR CE) : FnOk P w K mg base (CX1 P w) 6 f fd ["context", "sign", "exact"] (U7x CN CC CR) := by
 refine D.F.okE scNear (fun vs H Q E h => ?_) (fun X cdv A outer s H vs Q E hX hr hx h => ?_)
 . obtain ⟨c, v, a, b, xs, ys, x, sg, fg, p, L, rfl, _⟩ := h
   rfl
 . subst hX
   obtain ⟨c, v, a, b, xs, ys, x, sg, fg, p, L, rfl, hc, ok, ra, hf, hL, b1, b2, s0, s1, k⟩ := h
   obtain ⟨fL, fdL, mL, gL, bL⟩ := C.low
   refine ⟨_, (A4 (D9 (B9 C2a (A1h (pv 2) R.cl RM.m1 RM.g1 hr RM.b1 .nil hx) (C7 (pv 0) rfl) (B8 _)) (A5 (B0 (B5 D_nines G_nines hr hx (A0 (pv 0) (A0 (pv 1) A3))))) C5)
     (A4 (C9 (i := 3) scNear.nd rfl (Or.inl rfl) (B5 D_finest_power G_finest_power hr hx (A0 (pv 0) (A0 (pv 2) A3))))
     (A4 (C9 (i := 4) scNear.nd rfl (Or.inl rfl) (C0d (pv 2) R.cl RM.m2 RM.g2 hr RM.b2 .nil hx (A0 (pv 3) A3)))
     (A4 (D9 (B9 C1y (G7 U9 (pv 4) A2 (fun _ _ => rfl)) A2 (B8 _)) (A5 (B0 (A7q M.m (FnOk.up M.g) hr N.g M.b .nil hx (A0 C6 (A0 (pv 1) (A0 (G7 U9 (pv 4) A2 (fun _ _ => rfl)) (A0 (pv 3) A3))))))) C5)
     (A4 (D9 (PW.pt (A2r (B9 G0 (G7 U9 (pv 4) A2 (fun _ _ => rfl)) (B5 D_ten_to G_ten_to hr hx (A0 (B3 U0 (C7 (pv 0) rfl) A2) A3)) (B8 _)) (Y7 (B9 C2a (pv 3) (A1h (pv 0) C.c.cl mL gL hr bL .nil hx) (B8 _))))) (A5 (B0 (A7q M.m (FnOk.up M.g) hr N.g M.b .nil hx (A0 C6 (A0 (pv 1) (A0 (B3 U0 (B5 D_ten_to G_ten_to hr hx (A0 (C7 (pv 0) rfl) A3)) A2) (A0 (B3 U0 (pv 3) A2) A3))))))) C5)
     (A5 (B0 (A7q M.m (FnOk.up M.g) hr N.g M.b .nil hx (A0 C6 (A0 (pv 1) (A0 (B3 U0 (G7 U9 (pv 4) A2 (fun _ _ => rfl)) A2) (A0 (pv 3) A3)))))))))))), ?_⟩
   have wf := U6q ok hf hL
   have r1 := ok.r1; have r2 := ok.r2
   obtain ⟨dr, er⟩ := id ra
   refine ⟨_, rfl, x, dr, _, rfl, er, A4z _ _ _, x, fg, 1, p, rfl, ra, hf, A3q, fun L' H1 e1 ld => ?_⟩
   have ef : L' = L := by
     have := D2s (by decide) ld hL
     omega
   subst ef
   have hc1 := hc.same e1
   have ra1 := ra.same e1
   obtain ⟨⟨dx, e⟩, _, _⟩ := id hc1
   unfold D0r at k
   refine ⟨_, rfl, c, CC, dx, _, _, rfl, e, C.c.cl, C.c.n_most, B4q _ _ _ _ _ _, _, _, rfl, rfl, _, rfl, G8 (fun h => ?_) (fun h => ?_)⟩
   . rw [if_pos h] at k
     exact ⟨_, rfl, _, rfl, c, v, a, b, xs, ys, sg, rfl, hc1, ok, fun n H2 _ e2 num => k n H2 (e1.trans e2) num⟩
   rw [if_neg h] at k
   refine ⟨_, rfl, _, rfl, c, v, a, b, xs, ys, x, fg, 1, p, L', rfl, hc1, ra1, hf, A3q, hL, fun H2 e2 => ?_⟩
   have hc2 := hc1.same e2
   have ra2 := ra1.same e2
   obtain ⟨dr2, er2⟩ := id ra2
   refine ⟨_, rfl, x, dr2, _, rfl, er2, B1d _ _ _, _, rfl, x, fg, 1, p, _, rfl, ra2, hf, A3q, b1, b2, fun q H3 e3 nq eq => ?_⟩
   have hc3 := hc2.same e3
   have e13 := (e1.trans e2).trans e3
   obtain ⟨⟨dx3, ec3⟩, _, _⟩ := id hc3
   refine ⟨_, rfl, q, _, _, _, rfl, rfl, SqT.of eq, rfl, rfl, _, rfl, ?_⟩
   by_cases hp : ptI fg 1 (p - v.fin L') = 0
   . rw [if_pos hp] at k
     refine J8p (congrArg V.int hp) ?_
     refine ⟨_, rfl, q, _, _, _, rfl, rfl, SqT.of eq, rfl, _, rfl, c, CC, dx3, _, _, rfl, ec3, C.c.cl, C.c.n_room, A2d _ _ _ _ _ _, _, _, rfl, rfl, (v.r - 1).toNat, (by rw [Int.toNat_of_nonneg (by omega)]; rfl), by omega, rfl, _, rfl, ?_⟩
     by_cases hw : whI fg 1 (p - v.fin L') = A6 (v.r - 1)
     . refine G2v (congrArg V.int hw) ?_
       refine ⟨_, rfl, _, rfl, c, dx3, _, rfl, ec3, A0m _ _ _ _ _ _, c, v.r, v.y, v.l, v.m, a, b, _, _, rfl, hc3, _, _, rfl, rfl, _, rfl, G8 (fun h2 => ?_) (fun h2 => ?_)⟩
       . have h2 : v.fin L' > v.l - v.r + 1 := h2
         rw [if_pos ⟨hw, h2⟩] at k
         exact ⟨_, rfl, _, rfl, c, CC, dx3, _, _, rfl, ec3, C.c.cl, C.c.n_room, A2d _ _ _ _ _ _, v.r.toNat, (by rw [Int.toNat_of_nonneg (by omega)]; rfl), by omega, _, _, rfl, rfl, _, rfl, _, _, rfl, rfl, A8b fun n H4 _ e4 num => k n H4 (e13.trans e4) num⟩
       . have h2 : ¬ v.fin L' > v.l - v.r + 1 := h2
         rw [if_neg fun z => h2 z.2] at k
         exact ⟨_, rfl, _, rfl, q, _, _, _, rfl, rfl, SqT.of eq, rfl, _, _, rfl, rfl, _, rfl, A8b fun n H4 _ e4 num => k n H4 (e13.trans e4) num⟩
     . rw [if_neg fun z => hw z.1] at k
       refine G3d (fun z => hw (by injection z)) ?_
       exact U4 ⟨_, rfl, _, rfl, q, _, _, _, rfl, rfl, SqT.of eq, rfl, _, _, rfl, rfl, _, rfl, A8b fun n H4 _ e4 num => k n H4 (e13.trans e4) num⟩
   . rw [if_neg hp] at k
     exact Z5s (fun z => hp (by injection z)) ⟨_, rfl, _, rfl, q, _, _, _, rfl, rfl, SqT.of eq, rfl, _, rfl, A8b fun n H4 _ e4 num => k n H4 (e13.trans e4) num⟩
def G7x (CN CC : Addr) : Sp := fun vs H Q _ => ∃ c v a b xs ys n x, ∃ g L : Int, vs = [.ref c, .ref n, .int g] /\ CtxV CC H c v a b xs ys /\ v.Ok /\ NumIs CN H n x /\ x.Ok /\ (x.k = .plain -> x.f ≠ 0 -> Y9 x.f 1 (x.p - L)) /\
 ∀ n' H', Same H H' -> NumIs CN H' n' (stepN v x g L) -> Q (.ref n') H'
theorem scStepped : FnScope ["context", "one", "goal", "exact"] ["context", "one", "goal"] (A1 A0q) := scK
theorem G7u {f f1 f2 f3 f4 fI fR CN CC CR : Addr} {fd fd1 fd2 fd3 fd4 fdI fdR : FuncData} {d0 : Value} {gP : List Value -> List Value -> List Value} {vP : List V -> List V -> List V} {CE : Addr} (D : Def K mg "stepped" ["context", "one", "goal"] A0q f fd)
   (D_nothing : Def K mg "nothing" [] A2g f1 fd1) (G_nothing : FnOk P w K mg base (CX1 P w) 3 f1 fd1 [] (D0m CN)) (D_nines : Def K mg "nines" ["context", "sign"] A3n f2 fd2) (G_nines : FnOk P w K mg base (CX1 P w) 3 f2 fd2 ["context", "sign"] (C1b CN CC))
   (D_farther : Def K mg "farther" ["context", "sign", "exact"] A2s f3 fd3) (G_farther : FnOk P w K mg base (CX1 P w) 6 f3 fd3 ["context", "sign", "exact"] (Y8x CN CC CR)) (D_nearer : Def K mg "nearer" ["context", "sign", "exact"] A5a f4 fd4) (G_nearer : FnOk P w K mg base (CX1 P w) 6 f4 fd4 ["context", "sign", "exact"] (U7x CN CC CR))
   (N : Num K mg CN) (M : MakeN P w K mg base CN fI fdI) (C : CtxL P w K mg base CC) (MR : MakeR P w K mg base CR fR fdR d0 gP vP) (R : RatC K mg CR CE) : FnOk P w K mg base (CX1 P w) 7 f fd ["context", "one", "goal"] (G7x CN CC) := by
 refine D.F.okE scStepped (fun vs H Q E h => ?_) (fun X cdv A outer s H vs Q E hX hr hx h => ?_)
 . obtain ⟨c, v, a, b, xs, ys, n, x, g, L, rfl, _⟩ := h
   rfl
 . subst hX
   obtain ⟨c, v, a, b, xs, ys, n, x, g, L, rfl, hc, ok, hn, xo, hL, k⟩ := h
   obtain ⟨fL, fdL, mL, gL, bL⟩ := C.low
   refine ⟨_, (A4 (D9 (B9 G0 (C7 (pv 1) rfl) C6 (B8 _)) (A5 (B0 (Y9r D_nothing G_nothing hr hx))) C5)
     (A4 (D9 (B9 G0 (C7 (pv 1) rfl) C6 (B8 _)) (A5 (B0 (V3 (B9 G0 (C7 (pv 1) rfl) (pv 2) (B8 _)) (pv 1) (B5 D_nines G_nines hr hx (A0 (pv 0) (A0 (C7 (pv 1) rfl) A3)))))) C5)
     (A4 (D9 (B9 G0 (C7 (pv 1) rfl) A2 (B8 _)) (A5 (B0 (A7q M.m (FnOk.up M.g) hr N.g M.b .nil hx (A0 C6 (A0 (pv 2) (A0 A2 (A0 (A1h (pv 0) C.c.cl mL gL hr bL .nil hx) A3))))))) C5)
     (A4 (C9 (i := 3) scStepped.nd rfl (Or.inl rfl) (A7q MR.m MR.g hr R.g MR.b3 .nil hx (A0 (C7 (pv 1) rfl) (A0 A2 (A0 (C7 (pv 1) rfl) A3)))))
     (A5 (B0 (V3 (B9 G0 (C7 (pv 1) rfl) (pv 2) (B8 _)) (B5 D_farther G_farther hr hx (A0 (pv 0) (A0 (C7 (pv 1) rfl) (A0 (pv 3) A3)))) (B5 D_nearer G_nearer hr hx (A0 (pv 0) (A0 (C7 (pv 1) rfl) (A0 (pv 3) A3))))))))))), ?_⟩
   obtain ⟨dn, en⟩ := id hn
   obtain ⟨⟨dx, ec⟩, _, _⟩ := id hc
   have d1 : ∀ {z : Str} {Z : Prop}, ¬ V.str z = V.str z -> Z := fun h => absurd rfl h
   refine ⟨_, rfl, n, CN, dn, _, _, rfl, en, N.cl, N.n1, C2f _ _ _ _, rfl, _, rfl, G8 (fun h => ?_) (fun h => ?_)⟩
   . have hk : x.k = .none := eqS (b := .none) h
     unfold stepN at k
     rw [hk] at k
     dsimp only at k
     exact ⟨rfl, fun m H1 _ e1 num => k m H1 e1 num⟩
   have nk0 : x.k ≠ .none := neS (b := .none) h
   refine ⟨_, rfl, n, CN, dn, _, _, rfl, en, N.cl, N.n1, C2f _ _ _ _, rfl, _, rfl, G8 (fun h => ?_) (fun h => ?_)⟩
   . have hk : x.k = .end_ := eqS (b := .end_) h
     unfold stepN at k
     rw [hk] at k
     dsimp only at k
     refine ⟨_, rfl, n, CN, dn, _, _, rfl, en, N.cl, N.n2, C6x _ _ _ _, _, rfl, rfl, _, rfl, G8 (fun h2 => ?_) (fun h2 => ?_)⟩
     . have h2 : x.s = g := by injection h2
       rw [if_pos h2] at k
       exact ⟨_, rfl, k n H (Same.refl _) hn⟩
     . have h2 : ¬ x.s = g := fun z => h2 (congrArg V.int z)
       rw [if_neg h2] at k
       exact ⟨_, rfl, _, rfl, n, CN, dn, _, _, rfl, en, N.cl, N.n2, C6x _ _ _ _, c, v, a, b, xs, ys, x.s, rfl, hc, ok, fun m H1 _ e1 num => k m H1 e1 num⟩
   have nk1 : x.k ≠ .end_ := neS (b := .end_) h
   have hk : x.k = .plain := by
     cases hk : x.k with
     | plain => rfl
     | end_ => exact absurd hk nk1
     | none => exact absurd hk nk0
   unfold stepN at k
   rw [hk] at k
   dsimp only at k
   refine ⟨_, rfl, n, CN, dn, _, _, rfl, en, N.cl, N.n3, G2f _ _ _ _, rfl, _, rfl, G8 (fun h => ?_) (fun h => ?_)⟩
   . have h : x.f = 0 := by injection h
     rw [if_pos h] at k
     exact ⟨_, rfl, _, rfl, c, dx, _, rfl, ec, A0m _ _ _ _ _ _, c, v.r, v.y, v.l, v.m, a, b, _, _, rfl, hc, A8b fun m H1 _ e1 num => k m H1 e1 num⟩
   have hf0 : ¬ x.f = 0 := fun z => h (congrArg V.int z)
   rw [if_neg hf0] at k
   have sz := U7y xo.f0 hf0 xo.f1
   have ld := hL hk hf0
   have sh := C1g sz A3q ld
   have := xo.p0; have := xo.p1
   have fn := G2z (v := v) ok sh.1 sh.2 (by omega) (by omega)
   refine ⟨_, rfl, n, CN, dn, _, _, rfl, en, N.cl, N.n3, G2f _ _ _ _, _, rfl, n, CN, dn, _, _, rfl, en, N.cl, N.n4, C6z _ _ _ _, fun x1 dx1 n1 n2 ne => Y9c n1 n2 ne fun H1 e1 ra => ⟨rfl, ?_⟩⟩
   have hn1 := hn.same e1
   have hc1 := hc.same e1
   obtain ⟨dn1, en1⟩ := id hn1
   refine ⟨_, rfl, n, CN, dn1, _, _, rfl, en1, N.cl, N.n2, C6x _ _ _ _, _, rfl, rfl, _, rfl, G8 (fun h2 => ?_) (fun h2 => ?_)⟩
   . have h2 : x.s = g := by injection h2
     rw [if_pos h2] at k
     exact ⟨_, rfl, _, rfl, n, CN, dn1, _, _, rfl, en1, N.cl, N.n2, C6x _ _ _ _, _, rfl, c, v, a, b, xs, ys, x1, x.s, x.f, x.p, L, rfl, hc1, ok, ra, sz, ld, fn.1, fn.2, xo.s0, xo.s1, fun m H2 e2 num => k m H2 (e1.trans e2) num⟩
   . have h2 : ¬ x.s = g := fun z => h2 (congrArg V.int z)
     rw [if_neg h2] at k
     exact ⟨_, rfl, _, rfl, n, CN, dn1, _, _, rfl, en1, N.cl, N.n2, C6x _ _ _ _, _, rfl, c, v, a, b, xs, ys, x1, x.s, x.f, x.p, L, rfl, hc1, ok, ra, sz, ld, fn.1, fn.2, xo.s0, xo.s1, fun m H2 e2 num => k m H2 (e1.trans e2) num⟩
def B5x (CN CC : Addr) (g : Int) : Sp := fun vs H Q _ => ∃ c v a b xs ys n x, ∃ L : Int, vs = [.ref c, .ref n] /\ CtxV CC H c v a b xs ys /\ v.Ok /\ NumIs CN H n x /\ x.Ok /\ (x.k = .plain -> x.f ≠ 0 -> Y9 x.f 1 (x.p - L)) /\
 ∀ n' H', Same H H' -> NumIs CN H' n' (stepN v x g L) -> Q (.ref n') H'
theorem V0k : FnScope ["context", "one"] ["context", "one"] (A1 A2z) := scK
theorem U9s : FnScope ["context", "one"] ["context", "one"] (A1 A2x) := scK
theorem U0u {f f1 f2 CN CC CB : Addr} {fd fd1 fd2 : FuncData} (D : Def K mg "next_up" ["context", "one"] A2z f fd) (D_need_number : Def K mg "need_number" ["thing"] A2m f1 fd1) (G_need_number : FnOk P w K mg base (CX1 P w) 1 f1 fd1 ["thing"] (B4j K CN CB))
   (D_stepped : Def K mg "stepped" ["context", "one", "goal"] A0q f2 fd2) (G_stepped : FnOk P w K mg base (CX1 P w) 7 f2 fd2 ["context", "one", "goal"] (G7x CN CC)) : FnOk P w K mg base (CX1 P w) 8 f fd ["context", "one"] (B5x CN CC 0) := by
 refine D.F.okE V0k (fun vs H Q E h => ?_) (fun X cdv A outer s H vs Q E hX hr hx h => ?_)
 . obtain ⟨c, v, a, b, xs, ys, n, x, L, rfl, _⟩ := h
   rfl
 . subst hX
   obtain ⟨c, v, a, b, xs, ys, n, x, L, rfl, hc, ok, hn, xo, hL, k⟩ := h
   refine ⟨_, (A4 (V7 (B5 D_need_number G_need_number hr hx (A0 (pv 1) A3)))
     (A5 (B0 (B5 D_stepped G_stepped hr hx (A0 (pv 0) (A0 (pv 1) (A0 A2 A3))))))), ?_⟩
   exact ⟨_, rfl, _, rfl, .inl ⟨n, _, _, _, _, rfl, hn, _, rfl, _, rfl, c, v, a, b, xs, ys, n, x, 0, L, rfl, hc, ok, hn, xo, hL, k⟩⟩
theorem J9q {f f1 f2 CN CC CB : Addr} {fd fd1 fd2 : FuncData} (D : Def K mg "next_down" ["context", "one"] A2x f fd) (D_need_number : Def K mg "need_number" ["thing"] A2m f1 fd1) (G_need_number : FnOk P w K mg base (CX1 P w) 1 f1 fd1 ["thing"] (B4j K CN CB))
   (D_stepped : Def K mg "stepped" ["context", "one", "goal"] A0q f2 fd2) (G_stepped : FnOk P w K mg base (CX1 P w) 7 f2 fd2 ["context", "one", "goal"] (G7x CN CC)) : FnOk P w K mg base (CX1 P w) 8 f fd ["context", "one"] (B5x CN CC 1) := by
 refine D.F.okE U9s (fun vs H Q E h => ?_) (fun X cdv A outer s H vs Q E hX hr hx h => ?_)
 . obtain ⟨c, v, a, b, xs, ys, n, x, L, rfl, _⟩ := h
   rfl
 . subst hX
   obtain ⟨c, v, a, b, xs, ys, n, x, L, rfl, hc, ok, hn, xo, hL, k⟩ := h
   refine ⟨_, (A4 (V7 (B5 D_need_number G_need_number hr hx (A0 (pv 1) A3)))
     (A5 (B0 (B5 D_stepped G_stepped hr hx (A0 (pv 0) (A0 (pv 1) (A0 A2 A3))))))), ?_⟩
   exact ⟨_, rfl, _, rfl, .inl ⟨n, _, _, _, _, rfl, hn, _, rfl, _, rfl, c, v, a, b, xs, ys, n, x, 1, L, rfl, hc, ok, hn, xo, hL, k⟩⟩
end
theorem J7s (n : Nat) (h : 1 <= n) : ∃ L : Nat, 10 ^ L <= n /\ n < 10 ^ (L + 1) := by
 induction n using Nat.strongRecOn with
 | ind n ih =>
   by_cases h10 : n < 10
   . exact ⟨0, by simpa using h, by simpa using h10⟩
   . obtain ⟨L, a, b⟩ := ih (n / 10) (by omega) (by omega)
     refine ⟨L + 1, ?_, ?_⟩
     . rw [Nat.pow_succ]; omega
     . rw [Nat.pow_succ]; omega
theorem J7j {n j : Nat} (h1 : n < 10 ^ (j + 1)) (h2 : 10 ^ j <= n) : A2n (n : Int) = (j : Int) + 1 := by
 unfold A2n
 have e : (Str.ofString (toString (n : Int))).length = (Nat.toDigits 10 n).length := by
   have := congrArg List.length (KIN.signs_num n)
   rw [List.length_map] at this
   rw [<- this]; rfl
 rw [e]
 have a : (Nat.toDigits 10 n).length <= j + 1 := digits10_le (by omega) h1
 have b : j + 1 <= (Nat.toDigits 10 n).length := digits10_ge h2
 omega
abbrev C2b : Stmt := (top 68)
section
variable {P : Program} {w : World} {K : Frag} {mg : Str -> Option Value} {base : Heap}
def U8t (K : Frag) : Sp := fun vs H Q _ => ∃ a ns k, vs = [.ref a, .int k] /\ SqL K H a ((ns : List Int).map V.int) /\ 0 <= k /\ ∀ i, Q (.int i) H
theorem Z1a : FnScope ["_law_script", "_law_k"] ["_law_script", "_law_k"] (A1 C2b) := scK
theorem Y4q {f : Addr} {fd : FuncData} (D : Def K mg "_law_cell_at" ["_law_script", "_law_k"] C2b f fd) (O : Own mg) : FnOk P w K mg base (CX1 P w) 1 f fd ["_law_script", "_law_k"] (U8t K) := by
 refine FnOk.up (D.F.ok Z1a (fun vs H Q E h => ?_) (fun cdv A outer s H vs Q E hr h => ?_))
 . obtain ⟨a, ns, k, rfl, _⟩ := h
   rfl
 . obtain ⟨a, ns, i, rfl, hs, h0, k⟩ := h
   refine ⟨_, (A4 (D9 (B9 G1z (pv 1) (U7 D2t (by rfl) O.len_ PySem.boot_len (A0 (pv 0) A3)) (B8 _)) (A5 (B0 (G7 U5 (pv 0) (pv 1) (fun _ _ => rfl)))) C5)
     (A5 (B0 A2))), ?_⟩
   refine ⟨_, rfl, _, rfl, a, _, rfl, .inl hs, _, _, rfl, rfl, _, rfl, ?_⟩
   refine G8 (fun hlt => ?_) (fun _ => k 0)
   rw [List.length_map] at hlt
   obtain ⟨j, rfl⟩ := Int.eq_ofNat_of_zero_le h0
   have hj : j < ns.length := by omega
   exact ⟨_, rfl, _, rfl, a, _, _, _, rfl, rfl, hs, C4 (v := V.int ns[j]) (by simp [hj]), k _⟩
end
abbrev A5c : Stmt := (top 69)
section
variable {P : Program} {w : World} {K : Frag} {mg : Str -> Option Value} {base : Heap}
def C0w : Sp := fun vs H Q _ => ∃ c k, vs = [.int c, .int k] /\ 0 <= k /\ k <= 100 /\ ∀ m, 0 <= m -> m < 2147483629 -> Q (.int m) H
theorem Y4a : FnScope ["_law_cell", "_law_k"] ["_law_cell", "_law_k"] (A1 A5c) := scK
theorem U9d {f : Addr} {fd : FuncData} (D : Def K mg "_law_mixed" ["_law_cell", "_law_k"] A5c f fd) : FnOk P w K mg base (CX1 P w) 1 f fd ["_law_cell", "_law_k"] C0w := by
 refine FnOk.up (D.F.ok Y4a (fun vs H Q E h => ?_) (fun cdv A outer s H vs Q E hr h => ?_))
 . obtain ⟨c, k, rfl, _⟩ := h
   rfl
 . obtain ⟨c, i, rfl, h0, h1, k⟩ := h
   refine ⟨_, (A5 (B0 (B3 G4 (B3 J7 (B3 G4 (B3 U8 (B3 U8 (B3 J7 (pv 0) (B3 U8 A2 (B3 J7 (B3 J7 A2 (pv 1)) (pv 1)))) (B3 J7 A2 (pv 1))) A2) A2) A2) A2))), ?_⟩
   have q0 : (0 : Int) <= 2 * i * i := Int.mul_nonneg (by omega) h0
   have q1 : 2 * i * i <= 200 * 100 := Int.mul_le_mul (by omega) h1 h0 (by decide)
   have m1 : IntMulOk 2 i := CMul.ok (.inl ⟨by decide, by decide⟩)
   have m2 : IntMulOk (2 * i) i := CMul.ok (.inr ⟨by omega, by omega⟩)
   have m3 : IntMulOk c (48271 + 2 * i * i) := CMul.ok (.inr ⟨by omega, by omega⟩)
   have m4 : IntMulOk 69621 i := CMul.ok (.inl ⟨by decide, by decide⟩)
   have m5 : ∀ z : Int, IntMulOk z 69621 := fun z => CMul.ok (.inr ⟨by decide, by decide⟩)
   refine ⟨_, rfl, _, rfl, _, _, rfl, rfl, m1, _, rfl, _, _, rfl, rfl, m2, _, _, rfl, rfl, _, _, rfl, rfl, m3, _, rfl, _, _, rfl, rfl, m4, _, _, rfl, rfl, _, _, rfl, rfl, _, _, rfl, rfl, (by show (0 : Int) < 2147483647; decide), _, _, rfl, rfl, m5 _, _, _, rfl, rfl, (by show (0 : Int) < 2147483629; decide), ?_⟩
   exact k _ (Int.emod_nonneg _ (by decide)) (Int.emod_lt_of_pos _ (by decide))
end
abbrev C0e : Stmt := (top 70)
abbrev C1e : Stmt := (top 71)
abbrev A4p : Stmt := (top 72)
abbrev B2a : Stmt := (top 73)
abbrev A4q : Stmt := (top 74)
theorem dv {n : Int} (h : 0 < n) (h2 : n.natAbs.log2 < 9000) : (0 : Int) < n /\ n.natAbs.log2 < 9000 := ⟨h, h2⟩
structure FrameOk (r l m : Int) : Prop where
 r1 : 1 <= r
 r2 : r <= 24
 l1 : -60 <= l
 l2 : l <= 0
 m1 : 0 <= m
 m2 : m <= 60
theorem at3 (a b c n : Int) : ∃ v, (v = a \/ v = b \/ v = c) /\ atI ([.int a, .int b, .int c] : List V) (n % 3) = some (.int v) := by
 rcases (by omega : n % 3 = 0 \/ n % 3 = 1 \/ n % 3 = 2) with h | h | h
 . exact ⟨a, .inl rfl, by rw [h]; exact C4 (j := 0) rfl⟩
 . exact ⟨b, .inr (.inl rfl), by rw [h]; exact C4 (j := 1) rfl⟩
 . exact ⟨c, .inr (.inr rfl), by rw [h]; exact C4 (j := 2) rfl⟩
theorem at4 (a b c d n : Int) : ∃ v, (v = a \/ v = b \/ v = c \/ v = d) /\ atI ([.int a, .int b, .int c, .int d] : List V) (n % 8 / 2) = some (.int v) := by
 rcases (by omega : n % 8 / 2 = 0 \/ n % 8 / 2 = 1 \/ n % 8 / 2 = 2 \/ n % 8 / 2 = 3) with h | h | h | h
 . exact ⟨a, .inl rfl, by rw [h]; exact C4 (j := 0) rfl⟩
 . exact ⟨b, .inr (.inl rfl), by rw [h]; exact C4 (j := 1) rfl⟩
 . exact ⟨c, .inr (.inr (.inl rfl)), by rw [h]; exact C4 (j := 2) rfl⟩
 . exact ⟨d, .inr (.inr (.inr rfl)), by rw [h]; exact C4 (j := 3) rfl⟩
theorem at8 (n : Int) : ∃ y : Wy, atI ([.str "down", .str "up", .str "floor", .str "ceiling", .str "half up", .str "half down", .str "half even", .str "five up"] : List V) (n % 8) = some (.str y.name) := by
 rcases (by omega : n % 8 = 0 \/ n % 8 = 1 \/ n % 8 = 2 \/ n % 8 = 3 \/ n % 8 = 4 \/ n % 8 = 5 \/ n % 8 = 6 \/ n % 8 = 7) with h | h | h | h | h | h | h | h <;> rw [h]
 . exact ⟨.down, C4 (j := 0) rfl⟩
 . exact ⟨.up, C4 (j := 1) rfl⟩
 . exact ⟨.floor, C4 (j := 2) rfl⟩
 . exact ⟨.ceiling, C4 (j := 3) rfl⟩
 . exact ⟨.halfUp, C4 (j := 4) rfl⟩
 . exact ⟨.halfDown, C4 (j := 5) rfl⟩
 . exact ⟨.halfEven, C4 (j := 6) rfl⟩
 . exact ⟨.fiveUp, C4 (j := 7) rfl⟩
theorem Z1q {a b : Int} (h : a < b) (h0 : 0 <= a) : A6 a < A6 b := by
 unfold A6
 exact Int.ofNat_lt.mpr ((Nat.pow_lt_pow_iff_right (by decide)).mpr (by omega))
theorem Y6h {e : Int} (h : e <= 1500) : (0 : Int) < A6 e /\ (A6 e).natAbs.log2 < 9000 := by
 have := U7p A3q h
 rw [Int.one_mul] at this
 exact ⟨D5 e, this⟩
theorem Z0g {f : Int} (h0 : 0 <= f) (h : f < A6 60) : Builtin.Int.intBits f <= 2 ^ 20 := by
 obtain ⟨n, rfl⟩ := Int.eq_ofNat_of_zero_le h0
 refine B4h (k := 200) ?_ (by decide)
 have : n < 10 ^ 60 := Int.ofNat_lt.mp h
 exact Nat.lt_trans this (by decide +kernel)
section
variable {P : Program} {w : World} {K : Frag} {mg : Str -> Option Value} {base : Heap}
def G7g : Sp := fun vs H Q _ => ∃ p : Int, vs = [.int p] /\ -(2 ^ 62) <= p /\ p < 2 ^ 62 /\ Q (.int (A6 p)) H
theorem scLTen : FnScope ["_law_power", "_law_found", "_law_turn"] ["_law_power"] (A1 C0e) := scK
theorem Y4m {f : Addr} {fd : FuncData} (D : Def K mg "_law_ten" ["_law_power"] C0e f fd) (O : Own mg) : FnOk P w K mg base (CX1 P w) 1 f fd ["_law_power"] G7g := by
 refine D.F.okE scLTen (fun vs H Q E h => ?_) (fun X cdv A outer s H vs Q E hX hr hx h => ?_)
 . obtain ⟨p, rfl, _⟩ := h
   rfl
 . subst hX
   obtain ⟨p, rfl, p0, p1, k⟩ := h
   refine ⟨_, (A4 (B7 (C9 (i := 1) scLTen.nd rfl (Or.inl rfl) A2))
     (A4 (B7 (B2z PassesOwn.leaving rfl (B5p rfl O.range_ (A0 (pv 0) A3)) (U1 (i := 2) scLTen.nd rfl (Or.inl rfl)) (A5 (B7 (C9 (i := 1) scLTen.nd rfl (Or.inl rfl) (B3 J7 (pv 1) A2))))))
     (A5 (B0 (pv 1))))), ?_⟩
   refine ⟨fun σ' H' => H' = H /\ σ' = [some (.int p), some (.int 1), none], ⟨rfl, rfl⟩, ?_⟩
   rintro σ' H1 ⟨rfl, rfl⟩
   refine ⟨fun σ' H' => H' = H1 /\ ∃ v, σ' = [some (.int p), some (.int (A6 p)), v], ?_, ?_⟩
   . refine ⟨_, rfl, p, rfl, p0, p1, B5t (n := p.toNat) (fun i σ' H' => H' = H1 /\ ∃ v, σ' = [some (.int p), some (.int ((10 ^ i : Nat) : Int)), v]) ⟨rfl, none, rfl⟩ ?_ ?_⟩
     . rintro i σ' H' hi ⟨rfl, v, rfl⟩
       refine ⟨_, ?_, fun _ _ h => h⟩
       refine ⟨_, rfl, _, _, rfl, rfl, CMul.ok (.inr ⟨by decide, by decide⟩), rfl, some (.int (0 + (i : Int))), ?_⟩
       rw [Nat.pow_succ, Int.natCast_mul]
       rfl
     . rintro σ' H' ⟨rfl, v, rfl⟩
       exact ⟨rfl, v, rfl⟩
   rintro σ' H2 ⟨rfl, v, rfl⟩
   exact ⟨_, rfl, k⟩
def U6x : Sp := fun vs H Q _ => ∃ c m : Int, vs = [.int c, .int m] /\ 1 <= m /\ m <= 60 /\ ∀ f H', 0 <= f -> f < A6 m -> Same H H' -> Q (.int f) H'
theorem scLFig : FnScope ["_law_cell", "_law_most", "_law_number", "_law_j", "_law_more", "_law_many", "_law_figures_here", "_law_way", "_law_behind"] ["_law_cell", "_law_most"] (A1 C1e) := scK
theorem Y4b {f f1 f2 : Addr} {fd fd1 fd2 : FuncData} (D : Def K mg "_law_figures" ["_law_cell", "_law_most"] C1e f fd) (D_l_mixed : Def K mg "_law_mixed" ["_law_cell", "_law_k"] A5c f1 fd1) (G_l_mixed : FnOk P w K mg base (CX1 P w) 1 f1 fd1 ["_law_cell", "_law_k"] C0w)
   (D_l_ten : Def K mg "_law_ten" ["_law_power"] C0e f2 fd2) (G_l_ten : FnOk P w K mg base (CX1 P w) 1 f2 fd2 ["_law_power"] G7g) (O : Own mg) : FnOk P w K mg base (CX1 P w) 2 f fd ["_law_cell", "_law_most"] U6x := by
 refine D.F.okE scLFig (fun vs H Q E h => ?_) (fun X cdv A outer s H vs Q E hX hr hx h => ?_)
 . obtain ⟨c, m, rfl, _⟩ := h
   rfl
 . subst hX
   obtain ⟨c, mo, rfl, o1, o2, k⟩ := h
   refine ⟨_, (A4 (B7 (C9 (i := 2) scLFig.nd rfl (Or.inl rfl) A2))
     (A4 (B7 (B2z PassesOwn.leaving rfl (B5p rfl O.range_ (A0 A2 A3)) (U1 (i := 3) scLFig.nd rfl (Or.inl rfl)) (A5 (B7 (C9 (i := 2) scLFig.nd rfl (Or.inl rfl) (B3 U8 (B3 J7 (pv 2) A2) (B5 D_l_mixed G_l_mixed hr hx (A0 (pv 0) (A0 (pv 3) A3)))))))))
     (A4 (B7 (C9 (i := 4) scLFig.nd rfl (Or.inl rfl) (B5 D_l_mixed G_l_mixed hr hx (A0 (pv 0) (A0 A2 A3)))))
     (A4 (B7 (C9 (i := 5) scLFig.nd rfl (Or.inl rfl) (G7 U5 (J9 (A0 (B3 U8 A2 (B3 G4 (B3 D8 (pv 4) A2) (pv 1))) (A0 (B3 U8 A2 (B3 G4 (B3 D8 (pv 4) A2) (U7 (B1g rfl) (by rfl) O.min_ boot_min (A0 A2 (A0 (pv 1) A3))))) (A0 (pv 1) A3)))) (B3 G4 (pv 4) A2) (fun _ _ => rfl))))
     (A4 (B7 (C9 (i := 6) scLFig.nd rfl (Or.inl rfl) (B3 G4 (pv 2) (B5 D_l_ten G_l_ten hr hx (A0 (pv 5) A3)))))
     (A4 (B7 (C9 (i := 7) scLFig.nd rfl (Or.inl rfl) (B3 G4 (B3 D8 (pv 4) A2) A2)))
     (A4 (B7 (D9 (B9 G0 (pv 7) A2 (B8 _)) (A5 (B7 (C9 (i := 6) scLFig.nd rfl (Or.inl rfl) (B3 U0 (B5 D_l_ten G_l_ten hr hx (A0 (pv 5) A3)) A2)))) C5))
     (A4 (B7 (D9 (B9 G0 (pv 7) A2 (B8 _)) (A4 (B7 (C9 (i := 8) scLFig.nd rfl (Or.inl rfl) (B5 D_l_ten G_l_ten hr hx (A0 (B3 G4 (B3 D8 (pv 4) A2) (pv 5)) A3))))
     (A5 (B7 (C9 (i := 6) scLFig.nd rfl (Or.inl rfl) (B3 J7 (B3 D8 (pv 6) (pv 8)) (pv 8)))))) C5))
     (A4 (B7 (D9 (B9 G0 (pv 7) A2 (B8 _)) (A5 (B7 (C9 (i := 6) scLFig.nd rfl (Or.inl rfl) (B5 D_l_ten G_l_ten hr hx (A0 (B3 G4 (B3 D8 (pv 4) A2) (pv 5)) A3))))) C5))
     (A5 (B0 (G7 U5 (J9 (A0 (pv 6) (A0 (pv 6) (A0 A2 A3)))) (B3 J7 (B5q U1g (by rfl) O.int_ boot_int (A0 (G9 G0 (pv 7) A2 (B8 _)) A3)) A2) (fun _ _ => rfl))))))))))))), ?_⟩
   have z3 : 3 <= sizeLine := D6 (by decide)
   have mC : ∀ z n : Int, -(2 ^ 64) < n -> n < 2 ^ 64 -> IntMulOk z n := fun z n a b => CMul.ok (.inr ⟨a, b⟩)
   refine ⟨fun σ' H' => H' = H /\ σ' = [some (.int c), some (.int mo), some (.int 0), none, none, none, none, none, none], ⟨rfl, rfl⟩, ?_⟩
   rintro σ' H1 ⟨rfl, rfl⟩
   refine ⟨fun σ' H' => H' = H1 /\ ∃ (n : Int) (v : Option V), σ' = [some (.int c), some (.int mo), some (.int n), v, none, none, none, none, none], ⟨7, rfl, by decide, by decide, B5t (n := 7) (fun i σ' H' => H' = H1 /\ ∃ (n : Int) (v : Option V), σ' = [some (.int c), some (.int mo), some (.int n), v, none, none, none, none, none]) ⟨rfl, 0, none, rfl⟩ ?_ (fun σ' H' h => h)⟩, ?_⟩
   . rintro i σ' H3 hi ⟨rfl, n, v, rfl⟩
     refine ⟨_, ?_, fun _ _ h => h⟩
     exact ⟨_, rfl, _, _, rfl, rfl, mC _ _ (by decide) (by decide), _, rfl, _, rfl, c, _, rfl, (by show (0 : Int) <= 0 + (i : Int); omega), (by show 0 + (i : Int) <= 100; omega), fun m' _ _ => ⟨_, _, rfl, rfl, rfl, _, _, rfl⟩⟩
   rintro σ' H2 ⟨rfl, n, v, rfl⟩
   refine ⟨fun σ' H' => ∃ m : Int, H' = H2 /\ 0 <= m /\ σ' = [some (.int c), some (.int mo), some (.int n), v, some (.int m), none, none, none, none], ⟨_, rfl, c, 7, rfl, by decide, by decide, fun m m0 _ => ⟨m, rfl, m0, rfl⟩⟩, ?_⟩
   rintro σ' H3 ⟨m, rfl, m0, rfl⟩
   refine ⟨fun σ' H' => ∃ y : Int, Same H3 H' /\ 1 <= y /\ y <= mo /\ σ' = [some (.int c), some (.int mo), some (.int n), v, some (.int m), some (.int y), none, none, none], ?_, ?_⟩
   . have mb : 0 < (if mo < 4 then mo else 4) /\ (if mo < 4 then mo else 4) <= mo := by split <;> omega
     obtain ⟨y, hy, ix⟩ := at3 (1 + m / 8 % mo) (1 + m / 8 % (if mo < 4 then mo else 4)) mo m
     have a0 := Int.emod_nonneg (m / 8) (show mo ≠ 0 by omega)
     have a1 := Int.emod_lt_of_pos (m / 8) (show 0 < mo by omega)
     have b0 := Int.emod_nonneg (m / 8) (show (if mo < 4 then mo else 4) ≠ 0 by omega)
     have b1 := Int.emod_lt_of_pos (m / 8) mb.1
     refine ⟨_, rfl, _, _, rfl, rfl, dv (n := 8) (by decide) (by decide +kernel), _, rfl, _, _, rfl, rfl, (show 0 < mo by omega), _, _, rfl, rfl, _, rfl, _, _, rfl, rfl, dv (n := 8) (by decide) (by decide +kernel), _, rfl, _, _, rfl, _, _, rfl, rfl, mb.1, _, _, rfl, rfl, _, rfl, z3, fun p np => ⟨_, rfl, _, _, rfl, rfl, (by decide : (0 : Int) < 3), p, _, _, _, rfl, rfl, SqL.of A9, ix, y, Same.upd np, ?_, ?_, rfl⟩⟩
     . rcases hy with rfl | rfl | rfl <;> omega
     . rcases hy with rfl | rfl | rfl <;> omega
   rintro σ' H4 ⟨y, s4, y1, y2, rfl⟩
   have tl : A6 y <= A6 mo := V2 y2
   refine ⟨fun σ' H' => ∃ g : Int, H' = H4 /\ 0 <= g /\ g < A6 mo /\ σ' = [some (.int c), some (.int mo), some (.int n), v, some (.int m), some (.int y), some (.int g), none, none], ?_, ?_⟩
   . exact ⟨_, rfl, _, rfl, y, rfl, by omega, by omega, _, _, rfl, rfl, D5 _, _, rfl, Int.emod_nonneg _ (Int.ne_of_gt (D5 _)), Int.lt_of_lt_of_le (Int.emod_lt_of_pos _ (D5 _)) tl, rfl⟩
   rintro σ' H5 ⟨g, rfl, g0, g1, rfl⟩
   refine ⟨fun σ' H' => ∃ w : Int, H' = H5 /\ σ' = [some (.int c), some (.int mo), some (.int n), v, some (.int m), some (.int y), some (.int g), some (.int w), none], ⟨_, rfl, _, _, rfl, rfl, dv (n := 480) (by decide) (by decide +kernel), _, _, rfl, rfl, (by decide : (0 : Int) < 9), _, rfl, rfl⟩, ?_⟩
   rintro σ' H6 ⟨wy, rfl, rfl⟩
   refine ⟨fun σ' H' => ∃ g : Int, H' = H6 /\ 0 <= g /\ g < A6 mo /\ σ' = [some (.int c), some (.int mo), some (.int n), v, some (.int m), some (.int y), some (.int g), some (.int wy), none], ?_, ?_⟩
   . refine ⟨_, rfl, rfl, _, rfl, G8 (fun h => ?_) (fun h => ⟨g, rfl, g0, g1, rfl⟩)⟩
     refine ⟨_, ?_, fun _ _ h => h⟩
     have tp := D5 y
     exact ⟨_, rfl, y, rfl, by omega, by omega, _, _, rfl, rfl, A6 y - 1, rfl, by omega, by omega, rfl⟩
   clear g0 g1
   rintro σ' H7 ⟨g, rfl, g0, g1, rfl⟩
   have e0 := Int.emod_nonneg (m / 4320) (show y ≠ 0 by omega)
   have e1 := Int.emod_lt_of_pos (m / 4320) (show 0 < y by omega)
   refine ⟨fun σ' H' => ∃ (g : Int) (u : Option V), H' = H7 /\ 0 <= g /\ g < A6 mo /\ σ' = [some (.int c), some (.int mo), some (.int n), v, some (.int m), some (.int y), some (.int g), some (.int wy), u], ?_, ?_⟩
   . refine ⟨_, rfl, rfl, _, rfl, G8 (fun h => ?_) (fun h => ⟨g, none, rfl, g0, g1, rfl⟩)⟩
     refine ⟨fun σ' H' => H' = H7 /\ σ' = [some (.int c), some (.int mo), some (.int n), v, some (.int m), some (.int y), some (.int g), some (.int wy), some (.int (A6 (m / 4320 % y)))], ⟨_, rfl, _, _, rfl, rfl, dv (n := 4320) (by decide) (by decide +kernel), _, rfl, _, _, rfl, rfl, (show 0 < y by omega), m / 4320 % y, rfl, by omega, by omega, rfl, rfl⟩, ?_⟩
     rintro σ' H8 ⟨rfl, rfl⟩
     refine ⟨_, ?_, fun _ _ h => h⟩
     have tp := D5 (m / 4320 % y)
     have q0 : 0 <= g / A6 (m / 4320 % y) := Int.ediv_nonneg g0 (Int.le_of_lt tp)
     have q1 : g / A6 (m / 4320 % y) * A6 (m / 4320 % y) <= g := Int.ediv_mul_le _ (Int.ne_of_gt tp)
     have q2 : g / A6 (m / 4320 % y) <= g := Int.ediv_le_self _ g0
     have t60 : A6 mo <= A6 60 := V2 o2
     refine ⟨_, rfl, _, rfl, _, _, rfl, rfl, Y6h (by omega), _, rfl, _, _, rfl, rfl, IntMulOk.of_bits (Z0g q0 (by omega)) (B5s (by omega)), _, _, rfl, Int.mul_nonneg q0 (Int.le_of_lt tp), Int.lt_of_le_of_lt q1 g1, rfl⟩
   clear g0 g1
   rintro σ' H8 ⟨g, u, rfl, g0, g1, rfl⟩
   refine ⟨fun σ' H' => ∃ g : Int, H' = H8 /\ 0 <= g /\ g < A6 mo /\ σ' = [some (.int c), some (.int mo), some (.int n), v, some (.int m), some (.int y), some (.int g), some (.int wy), u], ?_, ?_⟩
   . refine ⟨_, rfl, rfl, _, rfl, G8 (fun h => ?_) (fun h => ⟨g, rfl, g0, g1, rfl⟩)⟩
     refine ⟨_, ?_, fun _ _ h => h⟩
     exact ⟨_, rfl, _, _, rfl, rfl, dv (n := 4320) (by decide) (by decide +kernel), _, rfl, _, _, rfl, rfl, (show 0 < y by omega), m / 4320 % y, rfl, by omega, by omega, _, rfl, Int.le_of_lt (D5 _), Z1q (by omega) e0, rfl⟩
   clear g0 g1
   rintro σ' H9 ⟨g, rfl, g0, g1, rfl⟩
   refine ⟨_, rfl, _, rfl, z3, fun p np => ⟨_, rfl, rfl, .inr ⟨_, rfl, _, _, rfl, rfl, mC _ _ (by decide) (by decide), ?_⟩⟩⟩
   have s9 : Same H3 (upd H9 p (.lst [.int g, .int g, .int 0])) := s4.trans (Same.upd np)
   cases decide (V.int wy = V.int 4) with
   | true => exact ⟨p, _, _, _, rfl, rfl, SqL.of A9, C4 (j := 2) rfl, k 0 _ (Int.le_refl _) (D5 _) s9⟩
   | false => exact ⟨p, _, _, _, rfl, rfl, SqL.of A9, C4 (j := 0) rfl, k g _ g0 g1 s9⟩
def frV (r : Int) (y : Wy) (l m : Int) : List V := [.int r, .str y.name, .int l, .int m]
def G2q : Sp := fun vs H Q _ => ∃ c : Int, vs = [.int c] /\ 0 <= c /\ ∀ r y l m q H', FrameOk r l m -> Same H H' -> H' q = some (.tup (frV r y l m)) -> Q (.ref q) H'
theorem scLFrame : FnScope ["_law_cell", "_law_names", "_law_room", "_law_least", "_law_most"] ["_law_cell"] (A1 A4p) := scK
theorem U1k {f : Addr} {fd : FuncData} (D : Def K mg "_law_frame" ["_law_cell"] A4p f fd) : FnOk P w K mg base (CX1 P w) 1 f fd ["_law_cell"] G2q := by
 refine D.F.okE scLFrame (fun vs H Q E h => ?_) (fun X cdv A outer s H vs Q E hX hr hx h => ?_)
 . obtain ⟨c, rfl, _⟩ := h
   rfl
 . subst hX
   obtain ⟨c, rfl, c0, k⟩ := h
   refine ⟨_, (A4 (B7 (C9 (i := 1) scLFrame.nd rfl (Or.inl rfl) (J9 (A0 C6 (A0 C6 (A0 C6 (A0 C6 (A0 C6 (A0 C6 (A0 C6 (A0 C6 A3)))))))))))
     (A4 (B7 (C9 (i := 2) scLFrame.nd rfl (Or.inl rfl) (G7 U5 (J9 (A0 (B3 U8 A2 (B3 G4 (B3 D8 (pv 0) A2) A2)) (A0 (B3 U8 A2 (B3 G4 (B3 D8 (pv 0) A2) A2)) (A0 A2 A3)))) (B3 G4 (pv 0) A2) (fun _ _ => rfl))))
     (A4 (B7 (C9 (i := 3) scLFrame.nd rfl (Or.inl rfl) (G7 U5 (J9 (A0 (A0r V4 A2) (A0 (A0r V4 (B3 G4 (B3 D8 (pv 0) A2) A2)) (A0 (A0r V4 (B3 G4 (B3 D8 (pv 0) A2) A2)) A3)))) (B3 G4 (B3 D8 (pv 0) A2) A2) (fun _ _ => rfl))))
     (A4 (B7 (C9 (i := 4) scLFrame.nd rfl (Or.inl rfl) (G7 U5 (J9 (A0 A2 (A0 (B3 G4 (B3 D8 (pv 0) A2) A2) (A0 (B3 G4 (B3 D8 (pv 0) A2) A2) A3)))) (B3 G4 (B3 D8 (pv 0) A2) A2) (fun _ _ => rfl))))
     (A5 (B0 (B2v (A0 (pv 2) (A0 (G7 U5 (pv 1) (B3 G4 (B3 D8 (pv 0) A2) A2) (fun _ _ => rfl)) (A0 (pv 3) (A0 (pv 4) A3))))))))))), ?_⟩
   have z8 : 8 <= sizeLine := D6 (by decide)
   have z4 : 4 <= sizeLine := D6 (by decide)
   have z3 : 3 <= sizeLine := D6 (by decide)
   refine ⟨fun σ' H' => ∃ a, Same H H' /\ H' a = some (.lst [.str "down", .str "up", .str "floor", .str "ceiling", .str "half up", .str "half down", .str "half even", .str "five up"]) /\ σ' = [some (.int c), some (.ref a), none, none, none], ⟨z8, fun a n => ⟨a, Same.upd n, A9, rfl⟩⟩, ?_⟩
   rintro σ' H1 ⟨a, s1, ea, rfl⟩
   refine ⟨fun σ' H' => ∃ r : Int, Same H1 H' /\ 1 <= r /\ r <= 24 /\ σ' = [some (.int c), some (.ref a), some (.int r), none, none], ?_, ?_⟩
   . obtain ⟨r, hr, ix⟩ := at3 (1 + c / 3 % 4) (1 + c / 3 % 24) 5 c
     refine ⟨_, rfl, _, _, rfl, rfl, dv (n := 3) (by decide) (by decide +kernel), _, _, rfl, rfl, (by decide : (0 : Int) < 4), _, _, rfl, rfl, _, rfl, _, _, rfl, rfl, dv (n := 3) (by decide) (by decide +kernel), _, _, rfl, rfl, (by decide : (0 : Int) < 24), _, _, rfl, rfl, z3, fun p np => ⟨_, rfl, _, _, rfl, rfl, (by decide : (0 : Int) < 3), p, _, _, _, rfl, rfl, SqL.of A9, ix, r, Same.upd np, ?_, ?_, rfl⟩⟩
     . rcases hr with rfl | rfl | rfl <;> omega
     . rcases hr with rfl | rfl | rfl <;> omega
   rintro σ' H2 ⟨r, s2, r1, r2, rfl⟩
   refine ⟨fun σ' H' => ∃ l : Int, Same H1 H' /\ -60 <= l /\ l <= 0 /\ σ' = [some (.int c), some (.ref a), some (.int r), some (.int l), none], ?_, ?_⟩
   . obtain ⟨l, hl, ix⟩ := at3 (-60) (-(c / 72 % 61)) (-(c / 72 % 6)) (c / 576)
     refine ⟨_, rfl, _, rfl, _, _, rfl, rfl, dv (n := 72) (by decide) (by decide +kernel), _, _, rfl, rfl, (by decide : (0 : Int) < 61), _, rfl, _, rfl, _, _, rfl, rfl, dv (n := 72) (by decide) (by decide +kernel), _, _, rfl, rfl, (by decide : (0 : Int) < 6), _, rfl, z3, fun p np => ⟨_, rfl, _, _, rfl, rfl, dv (n := 576) (by decide) (by decide +kernel), _, _, rfl, rfl, (by decide : (0 : Int) < 3), p, _, _, _, rfl, rfl, SqL.of A9, ix, l, s2.trans (Same.upd np), ?_, ?_, rfl⟩⟩
     . rcases hl with rfl | rfl | rfl <;> omega
     . rcases hl with rfl | rfl | rfl <;> omega
   rintro σ' H3 ⟨l, s3, l1, l2, rfl⟩
   refine ⟨fun σ' H' => ∃ m : Int, Same H1 H' /\ 0 <= m /\ m <= 60 /\ σ' = [some (.int c), some (.ref a), some (.int r), some (.int l), some (.int m)], ?_, ?_⟩
   . obtain ⟨m, hm, ix⟩ := at3 60 (c / 1728 % 61) (c / 1728 % 6) (c / 105408)
     refine ⟨_, rfl, _, _, rfl, rfl, dv (n := 1728) (by decide) (by decide +kernel), _, _, rfl, rfl, (by decide : (0 : Int) < 61), _, rfl, _, _, rfl, rfl, dv (n := 1728) (by decide) (by decide +kernel), _, _, rfl, rfl, (by decide : (0 : Int) < 6), z3, fun p np => ⟨_, rfl, _, _, rfl, rfl, dv (n := 105408) (by decide) (by decide +kernel), _, _, rfl, rfl, (by decide : (0 : Int) < 3), p, _, _, _, rfl, rfl, SqL.of A9, ix, m, s3.trans (Same.upd np), ?_, ?_, rfl⟩⟩
     . rcases hm with rfl | rfl | rfl <;> omega
     . rcases hm with rfl | rfl | rfl <;> omega
   rintro σ' H4 ⟨m, s4, m1, m2, rfl⟩
   obtain ⟨y, ix⟩ := at8 (c / 72)
   refine ⟨_, rfl, _, rfl, _, rfl, _, _, rfl, rfl, dv (n := 72) (by decide) (by decide +kernel), _, _, rfl, rfl, (by decide : (0 : Int) < 8), a, _, _, _, rfl, rfl, SqL.of (s4 _ _ ea), ix, _, rfl, _, rfl, z4, fun q nq => ?_⟩
   exact k r y l m q _ ⟨r1, r2, l1, l2, m1, m2⟩ (s1.trans (s4.trans (Same.upd nq))) A9
def C1v (CC : Addr) : Sp := fun vs H Q _ => ∃ q r y l m, vs = [.ref q] /\ H q = some (.tup (frV r y l m)) /\ FrameOk r l m /\ ∀ c a b H', H c = none -> Same H H' -> CtxV CC H' c ⟨r, y, l, m⟩ a b [] [] -> Q (.ref c) H'
theorem Z1e : FnScope ["_law_frame_here"] ["_law_frame_here"] (A1 B2a) := scK
theorem Y5a {f fI CC CB : Addr} {fd fdI : FuncData} (D : Def K mg "_law_context" ["_law_frame_here"] B2a f fd) (MC : MakeC P w K mg base CC CB fI fdI) (B4 : L2.Binds K fdI ["self", "room", "way", "least", "most"] []) (C : CtxC K mg CC) : FnOk P w K mg base (CX1 P w) 5 f fd ["_law_frame_here"] (C1v CC) := by
 refine D.F.okE Z1e (fun vs H Q E h => ?_) (fun X cdv A outer s H vs Q E hX hr hx h => ?_)
 . obtain ⟨q, r, y, l, m, rfl, _⟩ := h
   rfl
 . subst hX
   obtain ⟨q, r, y, l, m, rfl, eq, fr, k⟩ := h
   refine ⟨_, (A5 (B0 (A7q MC.m MC.g hr C.g B4 .nil hx (A0 (G7 U9 (pv 0) A2 (fun _ _ => rfl)) (A0 (G7 U9 (pv 0) A2 (fun _ _ => rfl)) (A0 (G7 U9 (pv 0) A2 (fun _ _ => rfl)) (A0 (G7 U9 (pv 0) A2 (fun _ _ => rfl)) A3))))))), ?_⟩
   refine ⟨_, rfl, q, _, _, _, rfl, rfl, SqT.of eq, C4 (j := 0) rfl, _, rfl, q, _, _, _, rfl, rfl, SqT.of eq, C4 (j := 1) rfl, _, rfl, q, _, _, _, rfl, rfl, SqT.of eq, C4 (j := 2) rfl, _, rfl, q, _, _, _, rfl, rfl, SqT.of eq, C4 (j := 3) rfl, fun x dx n1 n2 ne => ?_⟩
   exact Z5f n1 n2 ne rfl fr.r1 fr.r2 rfl (.inr ⟨rfl, fr.l1, fr.l2⟩) rfl fr.m1 fr.m2 fun a b H4 s4 hc => ⟨rfl, k x a b H4 n1 s4 hc⟩
def Nm.pv (x : Nm) : List V := [.int x.s, .int x.f, .int x.p]
def G3f : Sp := fun vs H Q _ => ∃ c m : Int, vs = [.int c, .int m] /\ 1 <= m /\ m <= 60 /\ ∀ (x : Nm) q H', x.k = .plain -> x.Ok -> x.f < A6 m -> Same H H' -> H' q = some (.tup x.pv) -> Q (.ref q) H'
theorem scLPlain : FnScope ["_law_cell", "_law_most", "_law_more", "_law_power"] ["_law_cell", "_law_most"] (A1 A4q) := scK
theorem U0w {f f1 f2 : Addr} {fd fd1 fd2 : FuncData} (D : Def K mg "_law_plain" ["_law_cell", "_law_most"] A4q f fd) (D_l_mixed : Def K mg "_law_mixed" ["_law_cell", "_law_k"] A5c f1 fd1) (G_l_mixed : FnOk P w K mg base (CX1 P w) 1 f1 fd1 ["_law_cell", "_law_k"] C0w)
   (D_l_figures : Def K mg "_law_figures" ["_law_cell", "_law_most"] C1e f2 fd2) (G_l_figures : FnOk P w K mg base (CX1 P w) 2 f2 fd2 ["_law_cell", "_law_most"] U6x) : FnOk P w K mg base (CX1 P w) 3 f fd ["_law_cell", "_law_most"] G3f := by
 refine D.F.okE scLPlain (fun vs H Q E h => ?_) (fun X cdv A outer s H vs Q E hX hr hx h => ?_)
 . obtain ⟨c, m, rfl, _⟩ := h
   rfl
 . subst hX
   obtain ⟨c, mo, rfl, o1, o2, k⟩ := h
   refine ⟨_, (A4 (B7 (C9 (i := 2) scLPlain.nd rfl (Or.inl rfl) (B5 D_l_mixed G_l_mixed hr hx (A0 (pv 0) (A0 A2 A3)))))
     (A4 (B7 (C9 (i := 3) scLPlain.nd rfl (Or.inl rfl) (G7 U5 (J9 (A0 (B3 U0 (B3 G4 (B3 D8 (pv 2) A2) A2) A2) (A0 (B3 U0 (B3 G4 (B3 D8 (pv 2) A2) A2) A2) (A0 (B3 U0 (B3 G4 (B3 D8 (pv 2) A2) A2) A2) (A0 (B3 U0 (B3 G4 (B3 D8 (pv 2) A2) A2) A2) A3))))) (B3 D8 (B3 G4 (B3 D8 (pv 2) A2) A2) A2) (fun _ _ => rfl))))
     (A5 (B0 (B2v (A0 (B3 G4 (pv 2) A2) (A0 (B5 D_l_figures G_l_figures hr hx (A0 (pv 0) (A0 (pv 1) A3))) (A0 (pv 3) A3)))))))), ?_⟩
   have z4 : 4 <= sizeLine := D6 (by decide)
   have z3 : 3 <= sizeLine := D6 (by decide)
   have d2 := dv (n := 2) (by decide) (by decide +kernel)
   refine ⟨fun σ' H' => ∃ m : Int, H' = H /\ 0 <= m /\ σ' = [some (.int c), some (.int mo), some (.int m), none], ⟨_, rfl, c, 9, rfl, by decide, by decide, fun m m0 _ => ⟨m, rfl, m0, rfl⟩⟩, ?_⟩
   rintro σ' H1 ⟨m, rfl, m0, rfl⟩
   refine ⟨fun σ' H' => ∃ p : Int, Same H1 H' /\ -200 <= p /\ p <= 200 /\ σ' = [some (.int c), some (.int mo), some (.int m), some (.int p)], ?_, ?_⟩
   . obtain ⟨p, hp, ix⟩ := at4 (m / 2 % 13 - 6) (m / 2 % 61 - 30) (m / 2 % 401 - 200) (m / 2 % 3 - 1) (m / 802)
     refine ⟨_, rfl, _, _, rfl, rfl, d2, _, _, rfl, rfl, (by decide : (0 : Int) < 13), _, _, rfl, rfl, _, rfl, _, _, rfl, rfl, d2, _, _, rfl, rfl, (by decide : (0 : Int) < 61), _, _, rfl, rfl, _, rfl, _, _, rfl, rfl, d2, _, _, rfl, rfl, (by decide : (0 : Int) < 401), _, _, rfl, rfl, _, rfl, _, _, rfl, rfl, d2, _, _, rfl, rfl, (by decide : (0 : Int) < 3), _, _, rfl, rfl, z4, fun q nq => ⟨_, rfl, _, _, rfl, rfl, dv (n := 802) (by decide) (by decide +kernel), _, _, rfl, rfl, (by decide : (0 : Int) < 8), _, _, rfl, rfl, d2, q, _, _, _, rfl, rfl, SqL.of A9, ix, p, Same.upd nq, ?_, ?_, rfl⟩⟩
     . rcases hp with rfl | rfl | rfl | rfl <;> omega
     . rcases hp with rfl | rfl | rfl | rfl <;> omega
   rintro σ' H2 ⟨p, s2, p0, p1, rfl⟩
   have a0 := Int.emod_nonneg m (by decide : (2 : Int) ≠ 0)
   have a1 := Int.emod_lt_of_pos m (by decide : (0 : Int) < 2)
   have t60 : A6 mo <= A6 60 := V2 o2
   have e60 : A6 60 = 10 ^ 60 := by decide +kernel
   refine ⟨_, rfl, _, _, rfl, rfl, (by decide : (0 : Int) < 2), _, rfl, _, rfl, c, mo, rfl, o1, o2, fun f H' f0 f1 s' => ⟨_, rfl, z3, fun q nq => ?_⟩⟩
   exact k ⟨.plain, m % 2, f, p⟩ q _ rfl ⟨a0, by show m % 2 <= 1; omega, f0, by show f <= 10 ^ 60 - 1; omega, p0, p1⟩ f1 (s2.trans (s'.trans (Same.upd nq))) A9
end
def tq (a : Int) : Int := A6 (a + 600)
theorem G5 (a : Int) : 0 < tq a := D5 _
theorem A7p {a b : Int} (h : a <= b) : tq a <= tq b := V2 (by omega)
theorem J2 {a b : Int} (ha : -600 <= a) (hb : 0 <= b) : tq (a + b) = A6 b * tq a := by
 unfold tq A6
 rw [show (a + b + 600).toNat = b.toNat + (a + 600).toNat by omega, Nat.pow_add]
 exact Int.natCast_mul _ _
theorem B4m {a b M : Int} (h1 : tq a <= M) (h2 : M < tq b) : a < b := by
 by_cases h : a < b
 . exact h
 . have := A7p (show b <= a by omega)
   omega
theorem Y6 (v : Cv) (L : Int) : v.fin L >= L - v.r + 1 /\ v.fin L >= v.l - v.r + 1 /\ (v.fin L = L - v.r + 1 \/ v.fin L = v.l - v.r + 1) := by
 unfold Cv.fin A2p
 split <;> omega
structure Lq (v : Cv) (M L : Int) : Prop where
 ok : v.Ok
 lo : tq L <= M
 hi : M < tq (L + 1)
def uq (v : Cv) (L : Int) : Int := tq (v.fin L)
def pq (v : Cv) (M L : Int) : Int := U6 (M % uq v L) (uq v L)
def rq (v : Cv) (s M L : Int) : Int := upI v.y s (M / uq v L) (pq v M L) * uq v L
def nin (v : Cv) : Int := (A6 v.r - 1) * tq (v.m - v.r + 1)
def rm (v : Cv) (s M L : Int) : Int := if tq (v.m + 1) <= rq v s M L then (if v.y.toEnd s = true then tq 900 else nin v) else rq v s M L
def fm (v : Cv) (M L : Int) : Int := if tq (v.m + 1) <= (M / uq v L + 1) * uq v L then tq 900 else (M / uq v L + 1) * uq v L
def nm (v : Cv) (M L : Int) : Int := if L > v.m then nin v else if M % uq v L = 0 then (if M / uq v L = A6 (v.r - 1) /\ v.fin L > v.l - v.r + 1 then (A6 v.r - 1) * tq (v.fin L - 1) else (M / uq v L - 1) * uq v L) else M / uq v L * uq v L
theorem J1 (v : Cv) (L : Int) : 0 < uq v L := G5 _
theorem V1 {v : Cv} (ok : v.Ok) (L : Int) : -100 <= v.fin L := by
 have := (Y6 v L).2.1
 have := ok.l1; have := ok.r2
 omega
theorem Lq.wq {v : Cv} {M L : Int} (h : Lq v M L) : 0 <= M / uq v L /\ M / uq v L < A6 v.r := by
 have u := J1 v L
 have m0 : 0 <= M := Int.le_trans (Int.le_of_lt (G5 L)) h.lo
 refine ⟨Int.ediv_nonneg m0 (Int.le_of_lt u), Int.ediv_lt_of_lt_mul u ?_⟩
 have a := Y6 v L
 have b := A7p (a := L + 1) (b := v.fin L + v.r) (by omega)
 rw [J2 (a := v.fin L) (b := v.r) (by have := V1 h.ok L; omega) (by have := h.ok.r1; omega)] at b
 exact Int.lt_of_lt_of_le h.hi b
theorem B2x (y : Wy) (s W p : Int) : W <= upI y s W p /\ upI y s W p <= W + 1 /\ (p = 0 -> upI y s W p = W) := by
 unfold upI
 refine ⟨by split <;> omega, by split <;> omega, fun h => ?_⟩
 rw [if_pos h]
 rfl
theorem A3y {a b u : Int} (ha : 0 <= a) (h : a <= b) (hu : 0 < u) : U6 a u <= U6 b u /\ 0 <= U6 a u /\ U6 b u <= 3 /\ (U6 a u = 0 ↔ a = 0) := by
 unfold U6
 simp only [decide_eq_true_eq]
 refine ⟨?_, ?_, ?_, ?_⟩ <;> (repeat' split) <;> omega
theorem U1m {y : Wy} {s d p q : Int} (h1 : 1 <= p) (h : p <= q) (h3 : q <= 3) (g : y.goes s d p = true) : y.goes s d q = true := by
 rcases (show p = 1 \/ p = 2 \/ p = 3 by omega) with rfl | rfl | rfl <;> rcases (show q = 1 \/ q = 2 \/ q = 3 by omega) with rfl | rfl | rfl <;> first | exact g | omega | (cases y <;> simp [Wy.goes] at g ⊢ <;> first | exact g | omega)
theorem Y5s {y : Wy} {s W p q : Int} (h0 : 0 <= p) (h : p <= q) (h3 : q <= 3) : upI y s W p <= upI y s W q := by
 by_cases p0 : p = 0
 . rw [(B2x y s W p).2.2 p0]
   exact (B2x y s W q).1
 . have q0 : ¬ q = 0 := by omega
   unfold upI
   rw [if_neg p0, if_neg q0]
   by_cases g : y.goes s (W % 10) p = true
   . rw [if_pos g, if_pos (U1m (by omega) h h3 g)]
     exact Int.le_refl _
   . rw [if_neg g]
     split <;> omega
theorem C2q (v : Cv) (s M L : Int) : M / uq v L * uq v L <= rq v s M L /\ rq v s M L <= (M / uq v L + 1) * uq v L /\ (rq v s M L = M / uq v L * uq v L \/ (rq v s M L = (M / uq v L + 1) * uq v L /\ M % uq v L ≠ 0)) := by
 have u := J1 v L
 have t := B2x v.y s (M / uq v L) (pq v M L)
 unfold rq
 refine ⟨Int.mul_le_mul_of_nonneg_right t.1 (Int.le_of_lt u), Int.mul_le_mul_of_nonneg_right t.2.1 (Int.le_of_lt u), ?_⟩
 by_cases e : upI v.y s (M / uq v L) (pq v M L) = M / uq v L
 . rw [e]; exact .inl rfl
 . have : upI v.y s (M / uq v L) (pq v M L) = M / uq v L + 1 := by omega
   rw [this]
   refine .inr ⟨rfl, fun z => e (t.2.2 ?_)⟩
   unfold pq
   rw [z]
   exact ((A3y (Int.le_refl 0) (Int.le_refl 0) u).2.2.2).mpr rfl
theorem A0k {M u : Int} (hu : 0 < u) : M / u * u <= M /\ M < (M / u + 1) * u /\ M = M / u * u + M % u /\ 0 <= M % u := by
 have a := Int.emod_add_mul_ediv M u
 have b := Int.emod_nonneg M (Int.ne_of_gt hu)
 have c := Int.emod_lt_of_pos M hu
 have d : (M / u + 1) * u = M / u * u + u := by rw [Int.add_mul, Int.one_mul]
 have e : u * (M / u) = M / u * u := Int.mul_comm _ _
 omega
theorem Y5u {v : Cv} {s M N L K : Int} (h : Lq v M L) (k : Lq v N K) (hl : M <= N) : rq v s M L <= rq v s N K := by
 have u := J1 v L
 have hLK : L <= K := by have := B4m h.lo (Int.lt_of_le_of_lt hl k.hi); omega
 have f1 := Y6 v L
 have f2 := Y6 v K
 have r1 := h.ok.r1
 by_cases e : v.fin L = v.fin K
 . have eu : uq v K = uq v L := by unfold uq; rw [e]
   unfold rq pq
   rw [eu]
   refine Int.mul_le_mul_of_nonneg_right ?_ (Int.le_of_lt u)
   have w : M / uq v L <= N / uq v L := Int.ediv_le_ediv u hl
   by_cases w2 : M / uq v L = N / uq v L
   . have a := A0k (M := M) u
     have b := A0k (M := N) u
     rw [w2] at a ⊢
     have pm := A3y a.2.2.2 (show M % uq v L <= N % uq v L by omega) u
     exact Y5s pm.2.1 pm.1 pm.2.2.1
   . have a := B2x v.y s (M / uq v L) (U6 (M % uq v L) (uq v L))
     have b := B2x v.y s (N / uq v L) (U6 (N % uq v L) (uq v L))
     omega
 . have a := (C2q v s M L).2.1
   have b := (C2q v s N K).1
   have c : (M / uq v L + 1) * uq v L <= A6 v.r * uq v L := Int.mul_le_mul_of_nonneg_right (by have := h.wq.2; omega) (Int.le_of_lt u)
   have d : A6 v.r * uq v L = tq (v.fin L + v.r) := (J2 (by have := V1 h.ok L; omega) (by omega)).symm
   have g : tq (v.fin L + v.r) <= tq K := A7p (by omega)
   have i : tq K = A6 (v.r - 1) * uq v K := by
     unfold uq
     rw [<- J2 (by have := V1 h.ok K; omega) (by omega), show v.fin K + (v.r - 1) = K by omega]
   have j : A6 (v.r - 1) <= N / uq v K := (Int.le_ediv_iff_mul_le (J1 v K)).mpr (by rw [<- i]; exact k.lo)
   have m : A6 (v.r - 1) * uq v K <= N / uq v K * uq v K := Int.mul_le_mul_of_nonneg_right j (Int.le_of_lt (J1 v K))
   omega
theorem Y0 {r : Int} (h : 1 <= r) : A6 r = 10 * A6 (r - 1) := by
 unfold A6
 rw [show r.toNat = (r - 1).toNat + 1 by omega, Nat.pow_succ]
 omega
theorem A8g {v : Cv} (ok : v.Ok) : nin v = tq (v.m + 1) - tq (v.m - v.r + 1) /\ tq v.m <= nin v /\ nin v < tq (v.m + 1) := by
 have := ok.r1; have := ok.r2; have := ok.m1
 have a : tq (v.m + 1) = A6 v.r * tq (v.m - v.r + 1) := by rw [<- J2 (by omega) (by omega), show v.m - v.r + 1 + v.r = v.m + 1 by omega]
 have b : tq v.m = A6 (v.r - 1) * tq (v.m - v.r + 1) := by rw [<- J2 (by omega) (by omega), show v.m - v.r + 1 + (v.r - 1) = v.m by omega]
 have c := G5 (v.m - v.r + 1)
 have d := Y0 (r := v.r) (by omega)
 have e := D5 (v.r - 1)
 have f : A6 (v.r - 1) * tq (v.m - v.r + 1) <= (A6 v.r - 1) * tq (v.m - v.r + 1) := Int.mul_le_mul_of_nonneg_right (by omega) (Int.le_of_lt c)
 have g : (A6 v.r - 1) * tq (v.m - v.r + 1) = A6 v.r * tq (v.m - v.r + 1) - tq (v.m - v.r + 1) := by rw [Int.sub_mul, Int.one_mul]
 unfold nin
 omega
theorem Y5g {v : Cv} {k e : Int} (ok : v.Ok) (he : -600 <= e) (h2 : k <= A6 v.r) (h : k * tq e < tq (v.m + 1)) : k * tq e <= nin v := by
 have r1 := ok.r1; have := ok.r2; have := ok.m1
 have n := A8g ok
 by_cases c : v.m - v.r + 1 <= e
 . have a : tq e = A6 (e - (v.m - v.r + 1)) * tq (v.m - v.r + 1) := by rw [<- J2 (by omega) (by omega), show v.m - v.r + 1 + (e - (v.m - v.r + 1)) = e by omega]
   have b : tq (v.m + 1) = A6 v.r * tq (v.m - v.r + 1) := by rw [<- J2 (by omega) (by omega), show v.m - v.r + 1 + v.r = v.m + 1 by omega]
   rw [a, <- Int.mul_assoc] at h ⊢
   rw [b] at h
   have := Int.lt_of_mul_lt_mul_right h (Int.le_of_lt (G5 _))
   exact Int.mul_le_mul_of_nonneg_right (by omega) (Int.le_of_lt (G5 _))
 . have a : k * tq e <= A6 v.r * tq e := Int.mul_le_mul_of_nonneg_right h2 (Int.le_of_lt (G5 e))
   have b : A6 v.r * tq e = tq (e + v.r) := (J2 he (by omega)).symm
   have d := A7p (show e + v.r <= v.m by omega)
   omega
theorem Z1n {v : Cv} {s M L : Int} (h : Lq v M L) (c : rq v s M L < tq (v.m + 1)) : rq v s M L <= nin v := by
 have t := B2x v.y s (M / uq v L) (pq v M L)
 have w := h.wq
 exact Y5g (k := upI v.y s (M / uq v L) (pq v M L)) h.ok (by have := V1 h.ok L; omega) (by omega) c
theorem U6k {v : Cv} (ok : v.Ok) : nin v < tq 900 := by
 have a := A8g ok
 have := ok.m2
 have := A7p (show v.m + 1 <= 900 by omega)
 omega
theorem Y4c {v : Cv} {s M N L K : Int} (h : Lq v M L) (k : Lq v N K) (hl : M <= N) : rm v s M L <= rm v s N K := by
 have a := Y5u (s := s) h k hl
 have n := U6k h.ok
 unfold rm
 by_cases c : tq (v.m + 1) <= rq v s M L
 . rw [if_pos c, if_pos (Int.le_trans c a)]
   exact Int.le_refl _
 . rw [if_neg c]
   have b := Z1n (s := s) h (by omega)
   split
   . split <;> omega
   . exact a
theorem Z0t {v : Cv} {s M L : Int} (h : Lq v M L) : 0 <= rm v s M L := by
 have := G5 900
 have a := A8g h.ok
 have b := G5 v.m
 have c := (C2q v s M L).1
 have d : 0 <= M / uq v L * uq v L := Int.mul_nonneg h.wq.1 (Int.le_of_lt (J1 v L))
 unfold rm
 split
 . split <;> omega
 . omega
theorem Z4s {v : Cv} {M L : Int} (h : Lq v M L) (c : M < tq 900) : M < fm v M L := by
 have a := A0k (M := M) (J1 v L)
 unfold fm
 split <;> omega
theorem Y9e {v : Cv} {M L : Int} (h : Lq v M L) : nm v M L < M /\ 0 <= nm v M L := by
 have a := A0k (M := M) (J1 v L)
 have u := J1 v L
 have n := A8g h.ok
 have p := G5 v.m
 have w := h.wq
 have r1 := h.ok.r1
 have m0 : 0 < M := Int.lt_of_lt_of_le (G5 L) h.lo
 unfold nm
 split
 . rename_i c
   have := A7p (show v.m + 1 <= L by omega)
   have := h.lo
   omega
 . split
   . rename_i z
     split
     . rename_i q
       have e : M = A6 v.r * tq (v.fin L - 1) := by
         have f : uq v L = A6 1 * tq (v.fin L - 1) := by unfold uq; rw [<- J2 (by have := V1 h.ok L; omega) (by omega), show v.fin L - 1 + 1 = v.fin L by omega]
         have g := Y0 r1
         have t1 : A6 1 = 10 := rfl
         rw [z, Int.add_zero] at a
         rw [a.2.2.1, q.1, f, t1, g, <- Int.mul_assoc, Int.mul_comm (A6 (v.r - 1)) 10]
       have t := G5 (v.fin L - 1)
       have g : (A6 v.r - 1) * tq (v.fin L - 1) = A6 v.r * tq (v.fin L - 1) - tq (v.fin L - 1) := by rw [Int.sub_mul, Int.one_mul]
       have i : 0 <= (A6 v.r - 1) * tq (v.fin L - 1) := Int.mul_nonneg (by have := D5 v.r; omega) (Int.le_of_lt t)
       omega
     . have g : (M / uq v L - 1) * uq v L = M / uq v L * uq v L - uq v L := by rw [Int.sub_mul, Int.one_mul]
       have w1 : 1 <= M / uq v L := by
         by_cases c : M / uq v L = 0
         . rw [c] at a; omega
         . omega
       have i : 0 <= (M / uq v L - 1) * uq v L := Int.mul_nonneg (by omega) (Int.le_of_lt u)
       omega
   . rename_i z
     have i : 0 <= M / uq v L * uq v L := Int.mul_nonneg w.1 (Int.le_of_lt u)
     omega
theorem B5m {v : Cv} {M L : Int} (h : Lq v M L) (hL : L <= v.m) (c : tq (v.m + 1) <= (M / uq v L + 1) * uq v L) : M / uq v L * uq v L = nin v := by
 have f := Y6 v L
 have r1 := h.ok.r1; have l2 := h.ok.l2; have m1 := h.ok.m1
 have w := h.wq
 have u := J1 v L
 have d : (M / uq v L + 1) * uq v L <= A6 v.r * uq v L := Int.mul_le_mul_of_nonneg_right (by omega) (Int.le_of_lt u)
 have e : A6 v.r * uq v L = tq (v.fin L + v.r) := (J2 (by have := V1 h.ok L; omega) (by omega)).symm
 have g : v.fin L = v.m - v.r + 1 := by
   have := B4m (a := v.m) (b := v.fin L + v.r) (M := tq (v.m + 1) - 1) (by have := A8g h.ok; omega) (by omega)
   omega
 have i : uq v L = tq (v.m - v.r + 1) := by unfold uq; rw [g]
 have j : tq (v.m + 1) = A6 v.r * uq v L := by rw [e, g, show v.m - v.r + 1 + v.r = v.m + 1 by omega]
 rw [j] at c
 have := Int.le_of_mul_le_mul_right c u
 have k : M / uq v L = A6 v.r - 1 := by omega
 unfold nin
 rw [k, i]
theorem Z5j {v : Cv} {s M L : Int} (h : Lq v M L) (c : M < rm v s M L) : rm v s M L = fm v M L := by
 have a := A0k (M := M) (J1 v L)
 have t := C2q v s M L
 unfold rm at c ⊢
 unfold fm
 by_cases b : tq (v.m + 1) <= rq v s M L
 . rw [if_pos b] at c ⊢
   rw [if_pos (Int.le_trans b t.2.1)]
   by_cases e : v.y.toEnd s = true
   . rw [if_pos e]
   . rw [if_neg e] at c
     exfalso
     have n := A8g h.ok
     have hL : L <= v.m := by have := B4m h.lo (show M < tq (v.m + 1) by omega); omega
     have := B5m h hL (Int.le_trans b t.2.1)
     omega
 . rw [if_neg b] at c ⊢
   rcases t.2.2 with q | ⟨q, _⟩
   . omega
   . rw [q] at b ⊢
     rw [if_neg b]
theorem Z4y {v : Cv} {s M L : Int} (h : Lq v M L) (h9 : M < tq 900) (c : rm v s M L < M) : rm v s M L = nm v M L := by
 have a := A0k (M := M) (J1 v L)
 have t := C2q v s M L
 have n := A8g h.ok
 have f := Y6 v L
 have r1 := h.ok.r1; have l2 := h.ok.l2; have m1 := h.ok.m1
 unfold rm at c ⊢
 unfold nm
 by_cases b : tq (v.m + 1) <= rq v s M L
 . rw [if_pos b] at c ⊢
   by_cases e : v.y.toEnd s = true
   . rw [if_pos e] at c; omega
   . rw [if_neg e] at c ⊢
     by_cases hL : L > v.m
     . rw [if_pos hL]
     . rw [if_neg hL]
       have d := B5m h (by omega) (Int.le_trans b t.2.1)
       have z : ¬ M % uq v L = 0 := by
         intro z
         omega
       rw [if_neg z, d]
 . rw [if_neg b] at c ⊢
   have e : rq v s M L = M / uq v L * uq v L := by
     rcases t.2.2 with q | ⟨q, _⟩
     . exact q
     . omega
   have z : ¬ M % uq v L = 0 := by intro z; omega
   have hL : ¬ L > v.m := by
     intro hL
     have i : tq (v.m + 1) <= tq L := A7p (by omega)
     have j : tq L = A6 (v.r - 1) * uq v L := by
       unfold uq
       rw [<- J2 (by have := V1 h.ok L; omega) (by omega), show v.fin L + (v.r - 1) = L by omega]
     have k : A6 (v.r - 1) <= M / uq v L := (Int.le_ediv_iff_mul_le (J1 v L)).mpr (by rw [<- j]; exact h.lo)
     have m : A6 (v.r - 1) * uq v L <= M / uq v L * uq v L := Int.mul_le_mul_of_nonneg_right k (Int.le_of_lt (J1 v L))
     omega
   rw [if_neg hL, if_neg z, e]
theorem C2d {v : Cv} {N K k e : Int} (h : Lq v N K) (eN : N = k * tq e) (k2 : k < A6 v.r) (he : v.l - v.r + 1 <= e) (c : e = v.l - v.r + 1 \/ A6 (v.r - 1) <= k) : v.fin K = e /\ N / uq v K = k /\ N % uq v K = 0 /\ uq v K = tq e := by
 have r1 := h.ok.r1; have := h.ok.r2; have := h.ok.l1
 have t := G5 e
 have a : N < tq (e + v.r) := by
   rw [J2 (a := e) (b := v.r) (by omega) (by omega), eN]
   exact Int.mul_lt_mul_of_pos_right k2 t
 have b := B4m h.lo a
 have f := Y6 v K
 have e1 : v.fin K = e := by
   rcases c with c | c
   . omega
   . have d : tq (e + (v.r - 1)) <= N := by
       rw [J2 (a := e) (b := v.r - 1) (by omega) (by omega), eN]
       exact Int.mul_le_mul_of_nonneg_right c (Int.le_of_lt t)
     have := B4m d h.hi
     omega
 have e2 : uq v K = tq e := by unfold uq; rw [e1]
 refine ⟨e1, ?_, ?_, e2⟩
 . rw [e2, eN]; exact Int.mul_ediv_cancel k (Int.ne_of_gt t)
 . rw [e2, eN]; exact Int.mul_emod_left k (tq e)
theorem Lq.full {v : Cv} {M L : Int} (h : Lq v M L) (c : v.fin L ≠ v.l - v.r + 1) : A6 (v.r - 1) <= M / uq v L := by
 have f := Y6 v L
 have r1 := h.ok.r1
 refine (Int.le_ediv_iff_mul_le (J1 v L)).mpr ?_
 unfold uq
 rw [<- J2 (by have := V1 h.ok L; omega) (by omega), show v.fin L + (v.r - 1) = L by omega]
 exact h.lo
theorem C1w {v : Cv} (ok : v.Ok) {e : Int} (he : -600 <= e) : A6 v.r * tq e = A6 (v.r - 1) * tq (e + 1) := by
 have r1 := ok.r1
 rw [J2 (a := e) (b := 1) he (by omega), Y0 r1, show A6 1 = 10 from rfl, <- Int.mul_assoc, Int.mul_comm 10]
theorem Y4k {v : Cv} {M L : Int} (h : Lq v M L) (z : M % uq v L = 0) (hL : L <= v.m) : (tq (v.m + 1) <= (M / uq v L + 1) * uq v L -> M = nin v) /\ (¬ tq (v.m + 1) <= (M / uq v L + 1) * uq v L -> ∀ K, Lq v ((M / uq v L + 1) * uq v L) K -> nm v ((M / uq v L + 1) * uq v L) K = M) := by
 have a := A0k (M := M) (J1 v L)
 have w := h.wq
 have r1 := h.ok.r1
 have f := Y6 v L
 have lo := V1 h.ok L
 refine ⟨fun c => ?_, fun c K k => ?_⟩
 . have := B5m h hL c
   omega
 . have hK : ¬ K > v.m := by
     have := B4m k.lo (show (M / uq v L + 1) * uq v L < tq (v.m + 1) by omega)
     omega
   by_cases q : M / uq v L + 1 = A6 v.r
   . have e := C1w h.ok (e := v.fin L) (by omega)
     have g := C2d k (k := A6 (v.r - 1)) (e := v.fin L + 1) (by rw [q]; exact e) (by have := Y0 r1; have := D5 (v.r - 1); omega) (by omega) (.inr (Int.le_refl _))
     unfold nm
     rw [if_neg hK, if_pos g.2.2.1, if_pos ⟨g.2.1, by omega⟩, g.1, show v.fin L + 1 - 1 = v.fin L by omega]
     have i : A6 v.r - 1 = M / uq v L := by omega
     rw [i]
     show M / uq v L * uq v L = M
     omega
   . have j : v.fin L = v.l - v.r + 1 \/ A6 (v.r - 1) <= M / uq v L := by
       by_cases c : v.fin L = v.l - v.r + 1
       . exact .inl c
       . exact .inr (h.full c)
     have g := C2d k (k := M / uq v L + 1) (e := v.fin L) rfl (by omega) (by omega) (by omega)
     unfold nm
     rw [if_neg hK, if_pos g.2.2.1, if_neg (by rw [g.2.1, g.1]; omega), g.2.1, g.2.2.2, show M / uq v L + 1 - 1 = M / uq v L by omega]
     show M / uq v L * uq v L = M
     omega
theorem J9w {v : Cv} {M L : Int} (h : Lq v M L) (z : M % uq v L = 0) (hL : L <= v.m) (hM : M < tq (v.m + 1)) : (nm v M L = 0 /\ M = tq (v.l - v.r + 1)) \/ (0 < nm v M L /\ ∀ K, Lq v (nm v M L) K -> fm v (nm v M L) K = M) := by
 have a := A0k (M := M) (J1 v L)
 have w := h.wq
 have r1 := h.ok.r1
 have f := Y6 v L
 have lo := V1 h.ok L
 have u := J1 v L
 have m0 : 0 < M := Int.lt_of_lt_of_le (G5 L) h.lo
 have p := D5 (v.r - 1)
 have eM : M = M / uq v L * uq v L := by omega
 have w1 : 1 <= M / uq v L := by
   by_cases c : M / uq v L = 0
   . rw [c] at eM; omega
   . omega
 have en : nm v M L = if M / uq v L = A6 (v.r - 1) /\ v.fin L > v.l - v.r + 1 then (A6 v.r - 1) * tq (v.fin L - 1) else (M / uq v L - 1) * uq v L := by
   unfold nm
   rw [if_neg (by omega), if_pos z]
 by_cases c : M / uq v L = A6 (v.r - 1) /\ v.fin L > v.l - v.r + 1
 . rw [if_pos c] at en
   right
   have t := Y0 r1
   rw [en]
   refine ⟨Int.mul_pos (by omega) (G5 _), fun K k => ?_⟩
   have g := C2d k (k := A6 v.r - 1) (e := v.fin L - 1) rfl (by omega) (by omega) (.inr (by omega))
   have e : (A6 v.r - 1 + 1) * tq (v.fin L - 1) = M := by
     have n := C1w h.ok (e := v.fin L - 1) (by omega)
     rw [show v.fin L - 1 + 1 = v.fin L by omega] at n
     rw [show A6 v.r - 1 + 1 = A6 v.r by omega, n, <- c.1]
     exact eM.symm
   unfold fm
   rw [g.2.1, g.2.2.2, e, if_neg (by omega)]
 . rw [if_neg c] at en
   by_cases q : M / uq v L = 1
   . left
     refine ⟨by rw [en, q]; exact Int.zero_mul _, ?_⟩
     have e : v.fin L = v.l - v.r + 1 := by
       by_cases d : v.fin L = v.l - v.r + 1
       . exact d
       . have := h.full d
         exact absurd ⟨by omega, by omega⟩ c
     rw [eM, q, Int.one_mul, <- e]
     rfl
   . right
     rw [en]
     refine ⟨Int.mul_pos (by omega) u, fun K k => ?_⟩
     have j : v.fin L = v.l - v.r + 1 \/ A6 (v.r - 1) <= M / uq v L - 1 := by
       by_cases d : v.fin L = v.l - v.r + 1
       . exact .inl d
       . have := h.full d
         right
         by_cases d2 : M / uq v L = A6 (v.r - 1)
         . exact absurd ⟨d2, by omega⟩ c
         . omega
     have g := C2d k (k := M / uq v L - 1) (e := v.fin L) rfl (by omega) (by omega) j
     unfold fm
     rw [g.2.1, g.2.2.2, show M / uq v L - 1 + 1 = M / uq v L by omega]
     show (if tq (v.m + 1) <= M / uq v L * uq v L then tq 900 else M / uq v L * uq v L) = M
     rw [<- eM, if_neg (by omega)]
theorem G1y {v : Cv} {K : Int} (h : Lq v (tq (v.l - v.r + 1)) K) : nm v (tq (v.l - v.r + 1)) K = 0 := by
 have r1 := h.ok.r1; have := h.ok.l2; have := h.ok.m1
 have t1 := Y0 r1
 have p := D5 (v.r - 1)
 have g := C2d h (k := 1) (e := v.l - v.r + 1) (Int.one_mul _).symm (by omega) (by omega) (.inl rfl)
 have hK : ¬ K > v.m := by
   intro c
   have a := A7p (show v.l - v.r + 1 + 1 <= K by omega)
   have b := h.lo
   rw [J2 (a := v.l - v.r + 1) (b := 1) (by have := h.ok.l1; have := h.ok.r2; omega) (by omega), show A6 1 = 10 from rfl] at a
   have := G5 (v.l - v.r + 1)
   omega
 unfold nm
 rw [if_neg hK, if_pos g.2.2.1, if_neg (by rw [g.1]; omega), g.2.1]
 exact Int.zero_mul _
theorem U7h {t : Int} (h : Sz t) : A6 (A2n t - 1) <= t /\ t < A6 (A2n t) /\ 1 <= A2n t := by
 obtain ⟨n, rfl, h1, _⟩ := h.nat
 obtain ⟨j, a, b⟩ := J7s n h1
 rw [J7j b a]
 have e1 : A6 ((j : Int) + 1 - 1) = ((10 ^ j : Nat) : Int) := by unfold A6; rw [show ((j : Int) + 1 - 1).toNat = j by omega]
 have e2 : A6 ((j : Int) + 1) = ((10 ^ (j + 1) : Nat) : Int) := by unfold A6; rw [show ((j : Int) + 1).toNat = j + 1 by omega]
 rw [e1, e2]
 exact ⟨Int.ofNat_le.mpr a, Int.ofNat_lt.mpr b, by omega⟩
theorem U8j {a d k : Int} (hk : 0 < k) : U6 (a * k) (d * k) = U6 a d := by
 have e1 : 0 < a * k ↔ 0 < a := by
   constructor
   . intro h; exact Int.lt_of_mul_lt_mul_right (by rw [Int.zero_mul]; exact h) (Int.le_of_lt hk)
   . intro h; exact Int.mul_pos h hk
 have e : 2 * (a * k) = 2 * a * k := by rw [Int.mul_assoc]
 have e2 : d * k <= 2 * (a * k) ↔ d <= 2 * a := by
   rw [e]
   exact ⟨fun h => Int.le_of_mul_le_mul_right h hk, fun h => Int.mul_le_mul_of_nonneg_right h (Int.le_of_lt hk)⟩
 have e3 : d * k < 2 * (a * k) ↔ d < 2 * a := by
   rw [e]
   exact ⟨fun h => Int.lt_of_mul_lt_mul_right h (Int.le_of_lt hk), fun h => Int.mul_lt_mul_of_pos_right h hk⟩
 unfold U6
 simp only [e1, e2, e3]
theorem C1a {u : Int} (hu : 0 < u) : U6 0 u = 0 := ((A3y (Int.le_refl 0) (Int.le_refl 0) hu).2.2.2).mpr rfl
theorem J8c {f p e : Int} (hp : -600 <= p) (he : -600 <= e) : whI f 1 (p - e) = f * tq p / tq e /\ ptI f 1 (p - e) = U6 (f * tq p % tq e) (tq e) := by
 have te := G5 e
 unfold ptI whI
 by_cases c : e <= p
 . have a : tq p = A6 (p - e) * tq e := by rw [<- J2 he (by omega), show e + (p - e) = p by omega]
   have b : A6 (-(p - e)) = 1 := by unfold A6; rw [show (-(p - e)).toNat = 0 by omega]; rfl
   have d : f * tq p = f * A6 (p - e) * tq e := by rw [a, Int.mul_assoc]
   rw [d, b, Int.mul_ediv_cancel _ (Int.ne_of_gt te), Int.mul_emod_left, Int.mul_one, Int.ediv_one, Int.mul_one, Int.sub_self, C1a te]
   exact ⟨rfl, C1a (by decide)⟩
 . have a : tq e = A6 (e - p) * tq p := by rw [<- J2 hp (by omega), show p + (e - p) = e by omega]
   have b : A6 (p - e) = 1 := by unfold A6; rw [show (p - e).toNat = 0 by omega]; rfl
   have tp := G5 p
   have m : f * tq p % (A6 (e - p) * tq p) = f % A6 (e - p) * tq p := by rw [Int.mul_comm f, Int.mul_comm (A6 (e - p)), Int.mul_emod_mul_of_pos _ _ tp, Int.mul_comm]
   have d : f * tq p / (A6 (e - p) * tq p) = f / A6 (e - p) := Int.mul_ediv_mul_of_pos_left _ _ tp
   rw [a, m, d, b, U8j tp, show -(p - e) = e - p by omega, Int.one_mul, Int.mul_one, Int.emod_def, Int.mul_comm (A6 (e - p)) (f / _)]
   exact ⟨rfl, rfl⟩
theorem Y4j {f p : Int} (h : Sz f) : Y9 f 1 (p - (p + A2n f - 1)) := by
 obtain ⟨n, rfl, h1, _⟩ := h.nat
 obtain ⟨j, a, b⟩ := J7s n h1
 rw [J7j b a, show p - (p + ((j : Int) + 1) - 1) = -(j : Int) by omega]
 unfold Y9
 have e1 : A6 (-(j : Int)) = 1 := by unfold A6; rw [show (-(j : Int)).toNat = 0 by omega]; rfl
 have e2 : A6 (-(-(j : Int))) = ((10 ^ j : Nat) : Int) := by unfold A6; rw [Int.neg_neg, Int.toNat_natCast]
 rw [e1, e2]
 rw [Nat.pow_succ] at b
 constructor <;> omega
theorem D1a (i : Int) : ∀ (n : Nat) (f p : Int), -600 <= p -> (V9 i n f p).1 * tq (V9 i n f p).2 = f * tq p /\ p <= (V9 i n f p).2 /\ (1 <= f -> 1 <= (V9 i n f p).1 /\ (V9 i n f p).1 <= f)
 | 0, f, p, _ => ⟨rfl, Int.le_refl _, fun h => ⟨h, Int.le_refl _⟩⟩
 | n + 1, f, p, hp => by
   have e : V9 i (n + 1) f p = if f % 10 = 0 then V9 i n (f / 10) (p + 1) else (f, p) := rfl
   rw [e]
   by_cases c : f % 10 = 0
   . rw [if_pos c]
     have t := D1a i n (f / 10) (p + 1) (by omega)
     refine ⟨t.1.trans ?_, by omega, fun h => ?_⟩
     . rw [J2 (a := p) (b := 1) hp (by omega), show A6 1 = 10 from rfl, <- Int.mul_assoc, show f / 10 * 10 = f by omega]
     . have := t.2.2 (by omega)
       omega
   . rw [if_neg c]
     exact ⟨rfl, Int.le_refl _, fun h => ⟨h, Int.le_refl _⟩⟩
theorem G2c {v : Cv} {f q : Int} (ok : v.Ok) (hq : -600 <= q) (h0 : 0 <= f) (h1 : f <= A6 v.r) : (J8 v.r f q).1 * tq (J8 v.r f q).2 = f * tq q /\ q <= (J8 v.r f q).2 /\ 0 <= (J8 v.r f q).1 /\ (J8 v.r f q).1 < A6 v.r /\ ((J8 v.r f q).1 = 0 -> (J8 v.r f q).2 = q) := by
 have t := Y0 ok.r1
 have p := D5 (v.r - 1)
 unfold J8
 by_cases c : f = A6 v.r
 . rw [if_pos c]
   have e : f / 10 = A6 (v.r - 1) := by omega
   have n := C1w ok hq
   refine ⟨?_, ?_, ?_, ?_, ?_⟩
   . show f / 10 * tq (q + 1) = _
     rw [e, c, n]
   . show q <= q + 1; omega
   . show 0 <= f / 10; omega
   . show f / 10 < A6 v.r; omega
   . intro z
     have z : f / 10 = 0 := z
     omega
 . rw [if_neg c]
   exact ⟨rfl, Int.le_refl _, h0, by show f < A6 v.r; omega, fun _ => rfl⟩
theorem U6w {v : Cv} {f p : Int} (ok : v.Ok) (h : Sz f) (hp : -600 <= p) : Lq v (f * tq p) (p + A2n f - 1) := by
 have b := U7h h
 refine ⟨ok, ?_, ?_⟩
 . rw [show p + A2n f - 1 = p + (A2n f - 1) by omega, J2 hp (by omega)]
   exact Int.mul_le_mul_of_nonneg_right b.1 (Int.le_of_lt (G5 p))
 . rw [show p + A2n f - 1 + 1 = p + A2n f by omega, J2 hp (by omega)]
   exact Int.mul_lt_mul_of_pos_right b.2.1 (G5 p)
theorem B2t {v : Cv} {m f p : Int} (ok : v.Ok) (h0 : 0 <= f) (h1 : f < A6 1000) (hp : -600 <= p) : V6 m f p = true ↔ tq (m + 1) <= f * tq p := by
 unfold V6
 by_cases c : f = 0
 . rw [if_pos c, c, Int.zero_mul]
   have := G5 (m + 1)
   exact ⟨fun h => (nomatch h), fun h => by omega⟩
 . rw [if_neg c]
   have l := U6w (v := v) (f := f) (p := p) ok ⟨by omega, h1⟩ hp
   constructor
   . intro h
     have h : p + A2n f - 1 > m := of_decide_eq_true h
     exact Int.le_trans (A7p (by omega)) l.lo
   . intro h
     refine decide_eq_true ?_
     have := B4m h l.hi
     omega
def sgI (s : Int) : Int := if s = 1 then -1 else 1
def sv (x : Nm) : Int := match x.k with
 | .plain => sgI x.s * (x.f * tq x.p)
 | .end_ => sgI x.s * tq 900
 | .none => 0
structure Gr (v : Cv) (x : Nm) : Prop where
 k : x.k = .plain
 s0 : 0 <= x.s
 s1 : x.s <= 1
 f0 : 0 <= x.f
 f1 : x.f < A6 v.r
 p0 : v.l - v.r + 1 <= x.p
 p1 : x.f = 0 -> x.p <= v.m
 m : x.f * tq x.p < tq (v.m + 1)
theorem G2g {v : Cv} (ok : v.Ok) : A6 v.r <= A6 60 /\ A6 v.r < A6 1000 := by
 have := ok.r2
 exact ⟨V2 (by omega), Int.lt_of_le_of_lt (V2 (show v.r <= 24 by omega)) (by decide +kernel)⟩
theorem Gr.nines {v : Cv} {s : Int} (ok : v.Ok) (h0 : 0 <= s) (h1 : s <= 1) : Gr v ⟨.plain, s, A6 v.r - 1, v.m - v.r + 1⟩ := by
 have t := D5 v.r
 have t2 := Y0 ok.r1
 have t3 := D5 (v.r - 1)
 have := ok.l2; have := ok.m1
 exact ⟨rfl, h0, h1, by show 0 <= A6 v.r - 1; omega, by show A6 v.r - 1 < A6 v.r; omega, by show v.l - v.r + 1 <= v.m - v.r + 1; omega, fun h => by have h : A6 v.r - 1 = 0 := h; omega, (A8g ok).2.2⟩
theorem U0m {v : Cv} {s f p i : Int} (ok : v.Ok) (h0 : 0 <= s) (h1 : s <= 1) (h : Sz f) (hp : -600 <= p) : sv (J3 v s f 1 p (p + A2n f - 1) i).1 = sgI s * rm v s (f * tq p) (p + A2n f - 1) /\
   (Gr v (J3 v s f 1 p (p + A2n f - 1) i).1 \/ (J3 v s f 1 p (p + A2n f - 1) i).1 = ⟨.end_, s, 0, 0⟩) /\ (J3 v s f 1 p (p + A2n f - 1) i).1.s = s := by
 have lq := U6w (v := v) ok h hp
 generalize eL : p + A2n f - 1 = L at lq ⊢
 have lo := V1 ok L
 have wt := J8c (f := f) (p := p) (e := v.fin L) hp (by omega)
 have w := lq.wq
 have t0 := G2g ok
 have r1 := ok.r1
 have two := B2x v.y s (f * tq p / uq v L) (pq v (f * tq p) L)
 have fg := Y6 v L
 have nv : (J0 v s (whI f 1 (p - v.fin L)) (ptI f 1 (p - v.fin L)) (v.fin L) i).1 * tq (J0 v s (whI f 1 (p - v.fin L)) (ptI f 1 (p - v.fin L)) (v.fin L) i).2 = rq v s (f * tq p) L /\ v.fin L <= (J0 v s (whI f 1 (p - v.fin L)) (ptI f 1 (p - v.fin L)) (v.fin L) i).2 /\ 0 <= (J0 v s (whI f 1 (p - v.fin L)) (ptI f 1 (p - v.fin L)) (v.fin L) i).1 /\ (J0 v s (whI f 1 (p - v.fin L)) (ptI f 1 (p - v.fin L)) (v.fin L) i).1 < A6 v.r /\ ((J0 v s (whI f 1 (p - v.fin L)) (ptI f 1 (p - v.fin L)) (v.fin L) i).1 = 0 -> (J0 v s (whI f 1 (p - v.fin L)) (ptI f 1 (p - v.fin L)) (v.fin L) i).2 = v.fin L /\ v.fin L = v.l - v.r + 1) := by
   rw [wt.1, wt.2]
   show (J0 v s (f * tq p / uq v L) (pq v (f * tq p) L) (v.fin L) i).1 * tq (J0 v s (f * tq p / uq v L) (pq v (f * tq p) L) (v.fin L) i).2 = rq v s (f * tq p) L /\ v.fin L <= (J0 v s (f * tq p / uq v L) (pq v (f * tq p) L) (v.fin L) i).2 /\ 0 <= (J0 v s (f * tq p / uq v L) (pq v (f * tq p) L) (v.fin L) i).1 /\ (J0 v s (f * tq p / uq v L) (pq v (f * tq p) L) (v.fin L) i).1 < A6 v.r /\ ((J0 v s (f * tq p / uq v L) (pq v (f * tq p) L) (v.fin L) i).1 = 0 -> (J0 v s (f * tq p / uq v L) (pq v (f * tq p) L) (v.fin L) i).2 = v.fin L /\ v.fin L = v.l - v.r + 1)
   unfold J0
   by_cases c : pq v (f * tq p) L = 0
   . rw [if_pos c]
     have md := A0k (M := f * tq p) (J1 v L)
     have pm := A3y md.2.2.2 (Int.le_refl _) (J1 v L)
     have z : f * tq p % uq v L = 0 := pm.2.2.2.mp c
     have m0 : 0 < f * tq p := Int.lt_of_lt_of_le (G5 L) lq.lo
     have w1 : 1 <= f * tq p / uq v L := by
       by_cases q : f * tq p / uq v L = 0
       . rw [q] at md; omega
       . omega
     have st := D1a i (i - v.fin L).toNat (f * tq p / uq v L) (v.fin L) (by omega)
     have s2 := st.2.2 w1
     refine ⟨st.1.trans ?_, st.2.1, by show 0 <= (V9 i _ _ _).1; omega, by show (V9 i _ _ _).1 < A6 v.r; omega, fun q => by have q : (V9 i (i - v.fin L).toNat (f * tq p / uq v L) (v.fin L)).1 = 0 := q; omega⟩
     unfold rq
     rw [two.2.2 c]
     rfl
   . rw [if_neg c]
     have ro := G2c (q := v.fin L) ok (by omega) (show 0 <= upI v.y s (f * tq p / uq v L) (pq v (f * tq p) L) by omega) (by omega)
     refine ⟨ro.1, ro.2.1, ro.2.2.1, ro.2.2.2.1, fun q => ⟨ro.2.2.2.2 q, ?_⟩⟩
     by_cases d : v.fin L = v.l - v.r + 1
     . exact d
     . have fu := lq.full d
       have tp := D5 (v.r - 1)
       have e2 := ro.2.2.2.2 q
       have e1 := ro.1
       rw [q, Int.zero_mul] at e1
       have : 0 < upI v.y s (f * tq p / uq v L) (pq v (f * tq p) L) * tq (v.fin L) := Int.mul_pos (by omega) (G5 _)
       omega
 have be := B2t (m := v.m) ok nv.2.2.1 (by omega) (show -600 <= (J0 v s (whI f 1 (p - v.fin L)) (ptI f 1 (p - v.fin L)) (v.fin L) i).2 by omega)
 rw [nv.1] at be
 unfold J3 C0v
 by_cases c : tq (v.m + 1) <= rq v s (f * tq p) L
 . rw [if_pos (be.mpr c)]
   unfold rm D2b
   rw [if_pos c]
   by_cases d : v.y.toEnd s = true
   . rw [if_pos d, if_pos d]
     exact ⟨rfl, .inr rfl, rfl⟩
   . rw [if_neg d, if_neg d]
     exact ⟨rfl, .inl (Gr.nines ok h0 h1), rfl⟩
 . rw [if_neg fun q => c (be.mp q)]
   unfold rm
   rw [if_neg c]
   refine ⟨?_, .inl ⟨rfl, h0, h1, nv.2.2.1, nv.2.2.2.1, ?_, fun q => ?_, ?_⟩, rfl⟩
   . show sgI s * _ = _
     rw [nv.1]
   . show v.l - v.r + 1 <= (J0 v s (whI f 1 (p - v.fin L)) (ptI f 1 (p - v.fin L)) (v.fin L) i).2
     omega
   . have := nv.2.2.2.2 q
     have := ok.l2; have := ok.m1
     show (J0 v s (whI f 1 (p - v.fin L)) (ptI f 1 (p - v.fin L)) (v.fin L) i).2 <= v.m
     omega
   . show (J0 v s (whI f 1 (p - v.fin L)) (ptI f 1 (p - v.fin L)) (v.fin L) i).1 * tq (J0 v s (whI f 1 (p - v.fin L)) (ptI f 1 (p - v.fin L)) (v.fin L) i).2 < _
     rw [nv.1]
     omega
def ldN (x : Nm) : Int := x.p + A2n x.f - 1
def rdR (v : Cv) (x : Nm) : Nm × List Str := B2s v x (ldN x)
def stN (v : Cv) (x : Nm) (g : Int) : Nm := stepN v x g (ldN x)
def mgN (x : Nm) : Int := x.f * tq x.p
structure Pl (x : Nm) : Prop where
 k : x.k = .plain
 s0 : 0 <= x.s
 s1 : x.s <= 1
 f0 : 0 <= x.f
 f1 : x.f < A6 120
 p0 : -400 <= x.p
 p1 : x.p <= 400
theorem Pl.sz {x : Nm} (h : Pl x) (hf : x.f ≠ 0) : Sz x.f := ⟨by have := h.f0; omega, Int.lt_of_lt_of_le h.f1 (V2 (by decide))⟩
theorem Gr.p_le {v : Cv} {x : Nm} (h : Gr v x) : x.p <= v.m := by
 by_cases c : x.f = 0
 . exact h.p1 c
 . have f0 := h.f0
   have a : 1 * tq x.p <= x.f * tq x.p := Int.mul_le_mul_of_nonneg_right (by omega) (Int.le_of_lt (G5 _))
   rw [Int.one_mul] at a
   have := B4m a h.m
   omega
theorem Gr.pl {v : Cv} {x : Nm} (ok : v.Ok) (h : Gr v x) : Pl x := by
 have a := h.p_le; have b := h.p0
 have := ok.l1; have := ok.r2; have := ok.m2
 have t : A6 v.r <= A6 120 := V2 (by omega)
 have := h.f1
 exact ⟨h.k, h.s0, h.s1, h.f0, by omega, by omega, by omega⟩
theorem Gr.okN {v : Cv} {x : Nm} (ok : v.Ok) (h : Gr v x) : x.Ok := by
 have a := h.p_le; have b := h.p0
 have := ok.l1; have := ok.r2; have := ok.m2
 have t : A6 v.r <= A6 60 := V2 (by omega)
 have e : A6 60 = 10 ^ 60 := by decide +kernel
 have := h.f1
 exact ⟨h.s0, h.s1, h.f0, by omega, by omega, by omega⟩
theorem Nm.Ok.pl {x : Nm} (h : x.Ok) (k : x.k = .plain) : Pl x := by
 have := h.f1; have := h.p0; have := h.p1
 have t : A6 60 <= A6 120 := V2 (by decide)
 have e : A6 60 = 10 ^ 60 := by decide +kernel
 exact ⟨k, h.s0, h.s1, h.f0, by omega, by omega, by omega⟩
theorem Pl.lq {v : Cv} {x : Nm} (ok : v.Ok) (h : Pl x) (hf : x.f ≠ 0) : Lq v (mgN x) (ldN x) := U6w ok (h.sz hf) (by have := h.p0; omega)
theorem Pl.sv {x : Nm} (h : Pl x) : sv x = sgI x.s * mgN x := by
 unfold TR.sv
 rw [h.k]
 rfl
theorem Pl.lt9 {x : Nm} (h : Pl x) : 0 <= mgN x /\ mgN x < tq 900 := by
 have t := G5 x.p
 have := h.p1; have := h.p0
 have a : x.f * tq x.p < A6 120 * tq x.p := Int.mul_lt_mul_of_pos_right h.f1 t
 have b : A6 120 * tq x.p = tq (x.p + 120) := (J2 (by omega) (by decide)).symm
 have c : tq (x.p + 120) <= tq 900 := A7p (by omega)
 unfold mgN
 exact ⟨Int.mul_nonneg h.f0 (Int.le_of_lt t), by omega⟩
theorem U9t (s : Int) (M : Int) : sgI s * M = M \/ sgI s * M = -M := by
 unfold sgI
 split
 . right; omega
 . left; omega
theorem D0e {a b k : Int} (hk : 0 < k) : U3 (a * k) (b * k) = U3 a b := by
 unfold U3
 by_cases e : a = b
 . rw [if_pos e, if_pos (by rw [e])]
 . rw [if_neg e, if_neg fun q => e (Int.eq_of_mul_eq_mul_right (Int.ne_of_gt hk) q)]
   by_cases c : a < b
   . rw [if_pos c, if_pos (Int.mul_lt_mul_of_pos_right c hk)]
   . rw [if_neg c, if_neg fun q => c (Int.lt_of_mul_lt_mul_right q (Int.le_of_lt hk))]
theorem J7r {x : Nm} (h : Pl x) {q : Int} (h0 : -600 <= q) (hq : q <= x.p) : sv x = x.wh q * tq q := by
 have e : tq x.p = A6 (x.p - q) * tq q := by rw [<- J2 h0 (by omega), show q + (x.p - q) = x.p by omega]
 rw [h.sv]
 unfold Nm.wh mgN sgI
 rw [e, <- Int.mul_assoc]
 split
 . simp only [Int.neg_mul, Int.one_mul, Int.mul_assoc]
 . simp only [Int.one_mul, Int.mul_assoc]
def PE9 (x : Nm) : Prop := Pl x \/ (x.k = .end_ /\ 0 <= x.s /\ x.s <= 1)
theorem A5d {x y : Nm} (hx : PE9 x) (hy : PE9 y) : C7a x y = some (U3 (sv x) (sv y)) := by
 have t := G5 900
 rcases hx with hx | ⟨kx, sx, sx1⟩
 . rcases hy with hy | ⟨ky, sy, sy1⟩
   . unfold C7a
     rw [hx.k, hy.k]
     show some (U3 _ _) = _
     have := hx.p0; have := hy.p0
     by_cases c : y.p < x.p
     . rw [if_pos c, J7r hx (q := y.p) (by omega) (by omega), J7r hy (q := y.p) (by omega) (by omega), D0e (G5 _)]
     . rw [if_neg c, J7r hx (q := x.p) (by omega) (by omega), J7r hy (q := x.p) (by omega) (by omega), D0e (G5 _)]
   . have e : C7a x y = some (U3 x.side y.side) := by unfold C7a; rw [hx.k, ky]; rfl
     have l := hx.lt9
     have g := U9t x.s (mgN x)
     rw [e, hx.sv]
     unfold Nm.side TR.sv
     rw [hx.k, ky]
     show some (U3 0 (if y.s = 1 then -1 else 1)) = some (U3 _ (sgI y.s * tq 900))
     generalize sgI x.s * mgN x = a at g ⊢
     unfold U3 sgI
     congr 1
     (repeat' split) <;> omega
 . rcases hy with hy | ⟨ky, sy, sy1⟩
   . have e : C7a x y = some (U3 x.side y.side) := by unfold C7a; rw [hy.k, kx]; rfl
     have l := hy.lt9
     have g := U9t y.s (mgN y)
     rw [e, hy.sv]
     unfold Nm.side TR.sv
     rw [hy.k, kx]
     show some (U3 (if x.s = 1 then -1 else 1) 0) = some (U3 (sgI x.s * tq 900) _)
     generalize sgI y.s * mgN y = a at g ⊢
     unfold U3 sgI
     congr 1
     (repeat' split) <;> omega
   . have e : C7a x y = some (U3 x.side y.side) := by unfold C7a; rw [ky, kx]; rfl
     rw [e]
     unfold Nm.side TR.sv
     rw [ky, kx]
     show some (U3 (if x.s = 1 then -1 else 1) (if y.s = 1 then -1 else 1)) = some (U3 (sgI x.s * tq 900) (sgI y.s * tq 900))
     unfold U3 sgI
     congr 1
     (repeat' split) <;> omega
def rz (v : Cv) (x : Nm) : Int := if x.f = 0 then 0 else rm v x.s (mgN x) (ldN x)
theorem C2u {v : Cv} {x : Nm} (ok : v.Ok) (h : Pl x) : sv (rdR v x).1 = sgI x.s * rz v x /\ (Gr v (rdR v x).1 \/ (rdR v x).1 = ⟨.end_, x.s, 0, 0⟩) /\ (rdR v x).1.s = x.s := by
 unfold rdR B2s rz
 rw [h.k]
 by_cases c : x.f = 0
 . have e : (if x.f = 0 then ((⟨.plain, x.s, 0, A7r (A2p x.p (v.l - v.r + 1)) v.m⟩ : Nm), ([] : List Str)) else J3 v x.s x.f 1 x.p (ldN x) x.p) = (⟨.plain, x.s, 0, A7r (A2p x.p (v.l - v.r + 1)) v.m⟩, []) := if_pos c
   show sv (if x.f = 0 then ((⟨.plain, x.s, 0, A7r (A2p x.p (v.l - v.r + 1)) v.m⟩ : Nm), ([] : List Str)) else J3 v x.s x.f 1 x.p (ldN x) x.p).1 = _ /\ (Gr v (if x.f = 0 then ((⟨.plain, x.s, 0, A7r (A2p x.p (v.l - v.r + 1)) v.m⟩ : Nm), ([] : List Str)) else J3 v x.s x.f 1 x.p (ldN x) x.p).1 \/ _ = _) /\ _ = _
   rw [e, if_pos c]
   have := ok.r1; have := ok.l2; have := ok.m1
   refine ⟨?_, .inl ⟨rfl, h.s0, h.s1, Int.le_refl _, D5 _, ?_, fun _ => ?_, ?_⟩, rfl⟩
   . show sgI x.s * (0 * tq _) = _
     rw [Int.zero_mul]
   . show v.l - v.r + 1 <= A7r (A2p x.p (v.l - v.r + 1)) v.m
     unfold A7r A2p
     (repeat' split) <;> omega
   . show A7r (A2p x.p (v.l - v.r + 1)) v.m <= v.m
     unfold A7r
     split <;> omega
   . show 0 * tq _ < _
     rw [Int.zero_mul]
     exact G5 _
 . have e : (if x.f = 0 then ((⟨.plain, x.s, 0, A7r (A2p x.p (v.l - v.r + 1)) v.m⟩ : Nm), ([] : List Str)) else J3 v x.s x.f 1 x.p (ldN x) x.p) = J3 v x.s x.f 1 x.p (ldN x) x.p := if_neg c
   show sv (if x.f = 0 then ((⟨.plain, x.s, 0, A7r (A2p x.p (v.l - v.r + 1)) v.m⟩ : Nm), ([] : List Str)) else J3 v x.s x.f 1 x.p (ldN x) x.p).1 = _ /\ (Gr v (if x.f = 0 then ((⟨.plain, x.s, 0, A7r (A2p x.p (v.l - v.r + 1)) v.m⟩ : Nm), ([] : List Str)) else J3 v x.s x.f 1 x.p (ldN x) x.p).1 \/ _ = _) /\ _ = _
   rw [e, if_neg c]
   exact U0m ok h.s0 h.s1 (h.sz c) (by have := h.p0; omega)
theorem G7k {v : Cv} {x : Nm} (ok : v.Ok) (h : Pl x) : 0 <= rz v x := by
 unfold rz
 split
 . exact Int.le_refl _
 . rename_i c
   exact Z0t (h.lq ok c)
theorem D2m {x : Nm} (h : Pl x) : mgN x = 0 ↔ x.f = 0 := by
 have t := G5 x.p
 unfold mgN
 constructor
 . intro e
   rcases Int.mul_eq_zero.mp e with e | e
   . exact e
   . omega
 . intro e
   rw [e, Int.zero_mul]
theorem J8a {v : Cv} {x y : Nm} (ok : v.Ok) (hx : Pl x) (hy : Pl y) (e : x.s = y.s) (h : mgN x <= mgN y) : rz v x <= rz v y := by
 by_cases c : x.f = 0
 . have : rz v x = 0 := by unfold rz; rw [if_pos c]
   rw [this]
   exact G7k ok hy
 . have d : ¬ y.f = 0 := by
     intro d
     have a := (D2m hy).mpr d
     have b := hx.lt9
     exact c ((D2m hx).mp (by omega))
   unfold rz
   rw [if_neg c, if_neg d, e]
   exact Y4c (hx.lq ok c) (hy.lq ok d) h
theorem D2e {v : Cv} {x y : Nm} (ok : v.Ok) (hx : Pl x) (hy : Pl y) (h : sv x <= sv y) : sv (rdR v x).1 <= sv (rdR v y).1 := by
 rw [(C2u ok hx).1, (C2u ok hy).1]
 rw [hx.sv, hy.sv] at h
 have a := G7k ok hx
 have b := G7k ok hy
 have m1 := hx.lt9; have m2 := hy.lt9
 have := hx.s0; have := hx.s1; have := hy.s0; have := hy.s1
 rcases (show x.s = 0 \/ x.s = 1 by omega) with e | e <;> rcases (show y.s = 0 \/ y.s = 1 by omega) with f | f
 . rw [e, f] at h ⊢
   have h : 1 * mgN x <= 1 * mgN y := h
   have := J8a ok hx hy (e.trans f.symm) (by omega)
   show 1 * rz v x <= 1 * rz v y
   omega
 . rw [e, f] at h ⊢
   have h : 1 * mgN x <= -1 * mgN y := h
   have zx : rz v x = 0 := by unfold rz; rw [if_pos ((D2m hx).mp (by omega))]
   have zy : rz v y = 0 := by unfold rz; rw [if_pos ((D2m hy).mp (by omega))]
   rw [zx, zy]
   decide
 . rw [e, f]
   show -1 * rz v x <= 1 * rz v y
   omega
 . rw [e, f] at h ⊢
   have h : -1 * mgN x <= -1 * mgN y := h
   have := J8a ok hy hx (f.trans e.symm) (by omega)
   show -1 * rz v x <= -1 * rz v y
   omega
theorem G2e {i : Int} : ∀ (k : Nat) (F q : Int), V9 i k (F * ((10 ^ k : Nat) : Int)) q = (F, q + k)
 | 0, F, q => by
   show (F * ((10 ^ 0 : Nat) : Int), q) = (F, q + ((0 : Nat) : Int))
   rw [show F * ((10 ^ 0 : Nat) : Int) = F by simp, show q + ((0 : Nat) : Int) = q by simp]
 | k + 1, F, q => by
   have e : F * ((10 ^ (k + 1) : Nat) : Int) = F * ((10 ^ k : Nat) : Int) * 10 := by
     rw [Nat.pow_succ, Int.natCast_mul, <- Int.mul_assoc]
     rfl
   show (if F * ((10 ^ (k + 1) : Nat) : Int) % 10 = 0 then V9 i k (F * ((10 ^ (k + 1) : Nat) : Int) / 10) (q + 1) else _) = _
   rw [e, if_pos (by omega), show F * ((10 ^ k : Nat) : Int) * 10 / 10 = F * ((10 ^ k : Nat) : Int) by omega, G2e k F (q + 1)]
   rw [show q + 1 + (k : Int) = q + ((k + 1 : Nat) : Int) by omega]
theorem Gr.at {v : Cv} {x : Nm} (ok : v.Ok) (h : Gr v x) (hf : x.f ≠ 0) : v.fin (ldN x) <= x.p /\ mgN x / uq v (ldN x) = x.f * A6 (x.p - v.fin (ldN x)) /\ mgN x % uq v (ldN x) = 0 /\ ldN x <= v.m := by
 have pl := h.pl ok
 have lq := pl.lq ok hf
 have b := U7h (pl.sz hf)
 have lo := V1 ok (ldN x)
 have g := Y6 v (ldN x)
 have c : A2n x.f - 1 < v.r := by
   by_cases c : A2n x.f - 1 < v.r
   . exact c
   . have := V2 (show v.r <= A2n x.f - 1 by omega)
     have := h.f1
     omega
 have d : v.fin (ldN x) <= x.p := by
   have := h.p0
   unfold ldN at g ⊢
   omega
 have e : mgN x = x.f * A6 (x.p - v.fin (ldN x)) * uq v (ldN x) := by
   unfold mgN uq
   rw [Int.mul_assoc, <- J2 (by omega) (by omega), show v.fin (ldN x) + (x.p - v.fin (ldN x)) = x.p by omega]
 refine ⟨d, ?_, ?_, ?_⟩
 . rw [e]; exact Int.mul_ediv_cancel _ (Int.ne_of_gt (J1 v _))
 . rw [e]; exact Int.mul_emod_left _ _
 . have := B4m lq.lo h.m
   omega
theorem U9w {v : Cv} {x : Nm} (ok : v.Ok) (h : Gr v x) : (rdR v x).1 = x /\ ¬ ("off" : Str) ∈ (rdR v x).2 /\ ¬ ("burst" : Str) ∈ (rdR v x).2 := by
 by_cases c : x.f = 0
 . have e : rdR v x = (x, []) := by
     have p0 := h.p0; have p1 := h.p1 c
     unfold rdR B2s
     rw [h.k]
     show (if x.f = 0 then ((⟨.plain, x.s, 0, A7r (A2p x.p (v.l - v.r + 1)) v.m⟩ : Nm), ([] : List Str)) else _) = _
     rw [if_pos c]
     have e : A7r (A2p x.p (v.l - v.r + 1)) v.m = x.p := by
       unfold A7r A2p
       (repeat' split) <;> omega
     rw [e]
     have k := h.k
     obtain ⟨k', s, f, p⟩ := x
     dsimp only at k c ⊢
     rw [k, c]
   rw [e]
   exact ⟨rfl, List.not_mem_nil, List.not_mem_nil⟩
 . have pl := h.pl ok
   have a := h.at ok c
   have lo := V1 ok (ldN x)
   have wt := J8c (f := x.f) (p := x.p) (e := v.fin (ldN x)) (by have := pl.p0; omega) (by omega)
   have n : J0 v x.s (whI x.f 1 (x.p - v.fin (ldN x))) (ptI x.f 1 (x.p - v.fin (ldN x))) (v.fin (ldN x)) x.p = (x.f, x.p) := by
     rw [wt.1, wt.2]
     show J0 v x.s (mgN x / uq v (ldN x)) (U6 (mgN x % uq v (ldN x)) (uq v (ldN x))) (v.fin (ldN x)) x.p = _
     rw [a.2.1, a.2.2.1, C1a (J1 v _)]
     unfold J0 A1g
     rw [if_pos rfl]
     have := G2e (i := x.p) (x.p - v.fin (ldN x)).toNat x.f (v.fin (ldN x))
     show V9 x.p (x.p - v.fin (ldN x)).toNat (x.f * ((10 ^ (x.p - v.fin (ldN x)).toNat : Nat) : Int)) (v.fin (ldN x)) = _
     rw [this, show v.fin (ldN x) + ((x.p - v.fin (ldN x)).toNat : Int) = x.p by omega]
   have pt : ptI x.f 1 (x.p - v.fin (ldN x)) = 0 := by
     rw [wt.2]
     show U6 (mgN x % uq v (ldN x)) (uq v (ldN x)) = 0
     rw [a.2.2.1, C1a (J1 v _)]
   have b : ¬ V6 v.m x.f x.p = true := by
     rw [B2t ok h.f0 (pl.sz c).2 (by have := pl.p0; omega)]
     have := h.m
     omega
   have e : rdR v x = (⟨.plain, x.s, x.f, x.p⟩, A0a v.l (ldN x) 0) := by
     unfold rdR B2s
     rw [h.k]
     show (if x.f = 0 then _ else J3 v x.s x.f 1 x.p (ldN x) x.p) = _
     rw [if_neg c]
     unfold J3 C0v
     rw [n, pt]
     show (if V6 v.m x.f x.p = true then _ else ((⟨.plain, x.s, x.f, x.p⟩ : Nm), A2j 0 (decide (x.p > x.p)) ++ A0a v.l (ldN x) 0)) = _
     rw [if_neg b, decide_eq_false (by omega)]
     rfl
   rw [e]
   refine ⟨?_, ?_, ?_⟩
   . have k := h.k
     obtain ⟨k', s, f, p⟩ := x
     dsimp only at k ⊢
     rw [k]
   . unfold A0a
     split
     . exact List.not_mem_nil
     . show ¬ _ ∈ [("faint" : Str)]
       decide +kernel
   . unfold A0a
     split
     . exact List.not_mem_nil
     . show ¬ _ ∈ [("faint" : Str)]
       decide +kernel
theorem G6y {v : Cv} {x : Nm} {g : Int} (ok : v.Ok) (h : Pl x) (hf : x.f ≠ 0) (e : x.s = g) : sv (stN v x g) = sgI x.s * fm v (mgN x) (ldN x) /\ (stN v x g).s = x.s /\
   ((tq (v.m + 1) <= (mgN x / uq v (ldN x) + 1) * uq v (ldN x) /\ stN v x g = ⟨.end_, x.s, 0, 0⟩) \/ (¬ tq (v.m + 1) <= (mgN x / uq v (ldN x) + 1) * uq v (ldN x) /\ Gr v (stN v x g) /\ mgN (stN v x g) = (mgN x / uq v (ldN x) + 1) * uq v (ldN x))) := by
 have lq := h.lq ok hf
 have w := lq.wq
 have lo := V1 ok (ldN x)
 have u := J1 v (ldN x)
 have wt := (J8c (f := x.f) (p := x.p) (e := v.fin (ldN x)) (by have := h.p0; omega) (by omega)).1
 have e1 : stN v x g = U1j v x.s x.f x.p (ldN x) := by
   unfold stN stepN
   rw [h.k]
   show (if x.f = 0 then _ else if x.s = g then U1j v x.s x.f x.p (ldN x) else _) = _
   rw [if_neg hf, if_pos e]
 have wt : whI x.f 1 (x.p - v.fin (ldN x)) = mgN x / uq v (ldN x) := wt
 have ro := G2c (q := v.fin (ldN x)) ok (by omega) (show 0 <= mgN x / uq v (ldN x) + 1 by omega) (by omega)
 have be := B2t (m := v.m) ok ro.2.2.1 (by have := (G2g ok).2; omega) (show -600 <= (J8 v.r (mgN x / uq v (ldN x) + 1) (v.fin (ldN x))).2 by omega)
 rw [ro.1] at be
 have be : V6 v.m (J8 v.r (mgN x / uq v (ldN x) + 1) (v.fin (ldN x))).1 (J8 v.r (mgN x / uq v (ldN x) + 1) (v.fin (ldN x))).2 = true ↔ tq (v.m + 1) <= (mgN x / uq v (ldN x) + 1) * uq v (ldN x) := be
 have n0 : 0 < (mgN x / uq v (ldN x) + 1) * uq v (ldN x) := Int.mul_pos (by omega) u
 rw [e1]
 unfold U1j
 rw [wt]
 by_cases c : tq (v.m + 1) <= (mgN x / uq v (ldN x) + 1) * uq v (ldN x)
 . rw [if_pos (be.mpr c)]
   unfold fm
   rw [if_pos c]
   exact ⟨rfl, rfl, .inl ⟨c, rfl⟩⟩
 . rw [if_neg fun q => c (be.mp q)]
   unfold fm
   rw [if_neg c]
   have fg := Y6 v (ldN x)
   refine ⟨?_, rfl, .inr ⟨c, ⟨rfl, h.s0, h.s1, ro.2.2.1, ro.2.2.2.1, ?_, fun q => ?_, ?_⟩, ro.1⟩⟩
   . show sgI x.s * ((J8 v.r (mgN x / uq v (ldN x) + 1) (v.fin (ldN x))).1 * tq _) = _
     rw [ro.1]
     rfl
   . show v.l - v.r + 1 <= (J8 v.r (mgN x / uq v (ldN x) + 1) (v.fin (ldN x))).2
     omega
   . have q : (J8 v.r (mgN x / uq v (ldN x) + 1) (v.fin (ldN x))).1 = 0 := q
     have r := ro.1
     rw [q, Int.zero_mul] at r
     have r : 0 = (mgN x / uq v (ldN x) + 1) * uq v (ldN x) := r
     omega
   . show (J8 v.r (mgN x / uq v (ldN x) + 1) (v.fin (ldN x))).1 * tq _ < _
     rw [ro.1]
     show (mgN x / uq v (ldN x) + 1) * uq v (ldN x) < _
     omega
theorem C0z {v : Cv} {x : Nm} {g : Int} (ok : v.Ok) (h : Pl x) (hf : x.f ≠ 0) (e : x.s ≠ g) : Gr v (stN v x g) /\ (stN v x g).s = x.s /\ mgN (stN v x g) = nm v (mgN x) (ldN x) := by
 have lq := h.lq ok hf
 have w := lq.wq
 have lo := V1 ok (ldN x)
 have u := J1 v (ldN x)
 have wt := J8c (f := x.f) (p := x.p) (e := v.fin (ldN x)) (by have := h.p0; omega) (by omega)
 have e1 : stN v x g = D0r v x.s x.f x.p (ldN x) := by
   unfold stN stepN
   rw [h.k]
   show (if x.f = 0 then _ else if x.s = g then _ else D0r v x.s x.f x.p (ldN x)) = _
   rw [if_neg hf, if_neg e]
 have w1 : whI x.f 1 (x.p - v.fin (ldN x)) = mgN x / uq v (ldN x) := wt.1
 have w2 : ptI x.f 1 (x.p - v.fin (ldN x)) = U6 (mgN x % uq v (ldN x)) (uq v (ldN x)) := wt.2
 have md := A0k (M := mgN x) u
 have pm := A3y md.2.2.2 (Int.le_refl _) u
 have nl := Y9e lq
 have m0 : 0 < mgN x := Int.lt_of_lt_of_le (G5 _) lq.lo
 have fg := Y6 v (ldN x)
 have := ok.l2; have := ok.m1
 rw [e1]
 unfold D0r
 rw [w1, w2]
 by_cases c : ldN x > v.m
 . rw [if_pos c]
   refine ⟨Gr.nines ok h.s0 h.s1, rfl, ?_⟩
   unfold nm
   rw [if_pos c]
   rfl
 . rw [if_neg c]
   have mt : mgN x < tq (v.m + 1) := Int.lt_of_lt_of_le lq.hi (A7p (by omega))
   have r1 := ok.r1
   have t := Y0 r1
   have t1 := D5 (v.r - 1)
   unfold nm at nl ⊢
   rw [if_neg c] at nl ⊢
   by_cases z : mgN x % uq v (ldN x) = 0
   . rw [if_pos (pm.2.2.2.mpr z)]
     rw [if_pos z] at nl ⊢
     by_cases q : mgN x / uq v (ldN x) = A6 (v.r - 1) /\ v.fin (ldN x) > v.l - v.r + 1
     . rw [if_pos q] at nl ⊢
       rw [if_pos q]
       refine ⟨⟨rfl, h.s0, h.s1, ?_, ?_, ?_, fun y => ?_, ?_⟩, rfl, rfl⟩
       . show 0 <= A6 v.r - 1; omega
       . show A6 v.r - 1 < A6 v.r; omega
       . show v.l - v.r + 1 <= v.fin (ldN x) - 1; omega
       . have y : A6 v.r - 1 = 0 := y
         omega
       . show (A6 v.r - 1) * tq (v.fin (ldN x) - 1) < _
         omega
     . rw [if_neg q] at nl ⊢
       rw [if_neg q]
       have w3 : 1 <= mgN x / uq v (ldN x) := by
         by_cases y : mgN x / uq v (ldN x) = 0
         . rw [y] at md; omega
         . omega
       refine ⟨⟨rfl, h.s0, h.s1, ?_, ?_, ?_, fun y => ?_, ?_⟩, rfl, rfl⟩
       . show 0 <= mgN x / uq v (ldN x) - 1; omega
       . show mgN x / uq v (ldN x) - 1 < A6 v.r; omega
       . show v.l - v.r + 1 <= v.fin (ldN x); omega
       . have y : mgN x / uq v (ldN x) - 1 = 0 := y
         show v.fin (ldN x) <= v.m
         by_cases d : v.fin (ldN x) = v.l - v.r + 1
         . omega
         . have := lq.full d
           exact absurd ⟨by omega, by omega⟩ q
       . show (mgN x / uq v (ldN x) - 1) * uq v (ldN x) < _
         omega
   . rw [if_neg fun y => z (pm.2.2.2.mp y)]
     rw [if_neg z] at nl ⊢
     refine ⟨⟨rfl, h.s0, h.s1, w.1, w.2, ?_, fun y => ?_, ?_⟩, rfl, rfl⟩
     . show v.l - v.r + 1 <= v.fin (ldN x); omega
     . have y : mgN x / uq v (ldN x) = 0 := y
       show v.fin (ldN x) <= v.m
       by_cases d : v.fin (ldN x) = v.l - v.r + 1
       . omega
       . have := lq.full d
         omega
     . show mgN x / uq v (ldN x) * uq v (ldN x) < _
       omega
theorem B5j {v : Cv} {x : Nm} {g : Int} (ok : v.Ok) (h : Pl x) (hf : x.f = 0) (g0 : 0 <= g) (g1 : g <= 1) : Gr v (stN v x g) /\ (stN v x g).s = g /\ mgN (stN v x g) = tq (v.l - v.r + 1) /\ (stN v x g).f ≠ 0 := by
 have e1 : stN v x g = ⟨.plain, g, 1, v.l - v.r + 1⟩ := by
   unfold stN stepN
   rw [h.k]
   show (if x.f = 0 then _ else _) = _
   rw [if_pos hf]
 rw [e1]
 have r1 := ok.r1; have := ok.l2; have := ok.m1
 have t := Y0 r1
 have t1 := D5 (v.r - 1)
 refine ⟨⟨rfl, g0, g1, (by decide : (0 : Int) <= 1), ?_, Int.le_refl _, fun y => absurd y (by decide : ¬ (1 : Int) = 0), ?_⟩, rfl, Int.one_mul _, (by decide : (1 : Int) ≠ 0)⟩
 . show 1 < A6 v.r; omega
 . show 1 * tq (v.l - v.r + 1) < tq (v.m + 1)
   rw [Int.one_mul]
   have a := A7p (show v.l - v.r + 1 + 1 <= v.m + 1 by omega)
   rw [J2 (a := v.l - v.r + 1) (b := 1) (by have := ok.l1; have := ok.r2; omega) (by omega), show A6 1 = 10 from rfl] at a
   have := G5 (v.l - v.r + 1)
   omega
theorem A4a {v : Cv} {x : Nm} {g : Int} (ok : v.Ok) (h : Pl x) (g0 : 0 <= g) (g1 : g <= 1) : (Gr v (stN v x g) \/ stN v x g = ⟨.end_, x.s, 0, 0⟩) /\
   (g = 0 -> sv x < sv (stN v x g) /\ (sv (rdR v x).1 > sv x -> sv (rdR v x).1 = sv (stN v x g))) /\
   (g = 1 -> sv (stN v x g) < sv x /\ (sv (rdR v x).1 < sv x -> sv (rdR v x).1 = sv (stN v x g))) := by
 have rs := (C2u ok h).1
 have xs := h.sv
 have l9 := h.lt9
 have s0 := h.s0; have s1 := h.s1
 rw [rs, xs]
 by_cases c : x.f = 0
 . have n := B5j (g := g) ok h c g0 g1
   have z : rz v x = 0 := by unfold rz; rw [if_pos c]
   have m := (D2m h).mpr c
   have t := G5 (v.l - v.r + 1)
   rw [(n.1.pl ok).sv, n.2.1, n.2.2.1, z, m, Int.mul_zero]
   refine ⟨.inl n.1, fun e => ?_, fun e => ?_⟩
   . rw [e]
     exact ⟨by show 0 < 1 * _; omega, fun q => absurd q (by omega)⟩
   . rw [e]
     exact ⟨by show -1 * _ < 0; omega, fun q => absurd q (by omega)⟩
 . have lq := h.lq ok c
   have ez : rz v x = rm v x.s (mgN x) (ldN x) := by unfold rz; rw [if_neg c]
   rw [ez]
   by_cases e : x.s = g
   . have f := G6y ok h c e
     have gt := Z4s lq l9.2
     have eq := Z5j (s := x.s) lq
     rw [f.1]
     refine ⟨f.2.2.elim (fun q => .inr q.2) fun q => .inl q.2.1, fun z => ?_, fun z => ?_⟩
     . rw [show x.s = 0 by omega] at eq ⊢
       show 1 * mgN x < 1 * fm v (mgN x) (ldN x) /\ (1 * rm v 0 (mgN x) (ldN x) > 1 * mgN x -> 1 * rm v 0 (mgN x) (ldN x) = 1 * fm v (mgN x) (ldN x))
       exact ⟨by omega, fun q => by rw [eq (by omega)]⟩
     . rw [show x.s = 1 by omega] at eq ⊢
       show -1 * fm v (mgN x) (ldN x) < -1 * mgN x /\ (-1 * rm v 1 (mgN x) (ldN x) < -1 * mgN x -> -1 * rm v 1 (mgN x) (ldN x) = -1 * fm v (mgN x) (ldN x))
       exact ⟨by omega, fun q => by rw [eq (by omega)]⟩
   . have f := C0z ok h c e
     have lt := Y9e lq
     have eq := Z4y (s := x.s) lq l9.2
     rw [(f.1.pl ok).sv, f.2.1, f.2.2]
     refine ⟨.inl f.1, fun z => ?_, fun z => ?_⟩
     . rw [show x.s = 1 by omega] at eq ⊢
       show -1 * mgN x < -1 * nm v (mgN x) (ldN x) /\ (-1 * rm v 1 (mgN x) (ldN x) > -1 * mgN x -> -1 * rm v 1 (mgN x) (ldN x) = -1 * nm v (mgN x) (ldN x))
       exact ⟨by omega, fun q => by rw [eq (by omega)]⟩
     . rw [show x.s = 0 by omega] at eq ⊢
       show 1 * nm v (mgN x) (ldN x) < 1 * mgN x /\ (1 * rm v 0 (mgN x) (ldN x) < 1 * mgN x -> 1 * rm v 0 (mgN x) (ldN x) = 1 * nm v (mgN x) (ldN x))
       exact ⟨by omega, fun q => by rw [eq (by omega)]⟩
theorem Z0f {v : Cv} {s g : Int} (e : s ≠ g) : stN v ⟨.end_, s, 0, 0⟩ g = ⟨.plain, s, A6 v.r - 1, v.m - v.r + 1⟩ := by
 unfold stN stepN
 show (if s = g then _ else _) = _
 rw [if_neg e]
theorem D0j {v : Cv} {x : Nm} {g g' : Int} (ok : v.Ok) (h : Gr v x) (g0 : 0 <= g) (g1 : g <= 1) (e' : g' = 1 - g) : sv (stN v (stN v x g) g') = sv x /\ (Gr v (stN v (stN v x g) g') \/ stN v (stN v x g) g' = ⟨.end_, x.s, 0, 0⟩) := by
 have pl := h.pl ok
 have s0 := h.s0; have s1 := h.s1
 have ng := A4a (g := g) ok pl g0 g1
 by_cases c : x.f = 0
 . have n := B5j (g := g) ok pl c g0 g1
   have p2 := n.1.pl ok
   have f := C0z (g := g') ok p2 n.2.2.2 (by rw [n.2.1]; omega)
   have lq := p2.lq ok n.2.2.2
   rw [n.2.2.1] at lq
   have b := G1y lq
   refine ⟨?_, .inl f.1⟩
   rw [(f.1.pl ok).sv, f.2.2, n.2.2.1, b, pl.sv, (D2m pl).mpr c, Int.mul_zero, Int.mul_zero]
 . have lq := pl.lq ok c
   have a := h.at ok c
   by_cases e : x.s = g
   . have f := G6y ok pl c e
     have bu := Y4k lq a.2.2.1 a.2.2.2
     rcases f.2.2 with ⟨q, r⟩ | ⟨q, r, r2⟩
     . rw [r, Z0f (show x.s ≠ g' by omega)]
       have gn := Gr.nines (s := x.s) ok s0 s1
       refine ⟨?_, .inl gn⟩
       rw [(gn.pl ok).sv, pl.sv, bu.1 q]
       rfl
     . have p2 := r.pl ok
       have u := J1 v (ldN x)
       have n0 : (stN v x g).f ≠ 0 := by
         intro z
         have := (D2m p2).mpr z
         have : 0 < (mgN x / uq v (ldN x) + 1) * uq v (ldN x) := Int.mul_pos (by have := lq.wq.1; omega) u
         omega
       have l2 := p2.lq ok n0
       have nr := C0z (g := g') ok p2 n0 (by rw [f.2.1]; omega)
       rw [r2] at l2
       have b := bu.2 q _ l2
       refine ⟨?_, .inl nr.1⟩
       rw [(nr.1.pl ok).sv, nr.2.1, nr.2.2, r2, b, f.2.1, pl.sv]
   . have f := C0z ok pl c e
     have p2 := f.1.pl ok
     have bd := J9w lq a.2.2.1 a.2.2.2 h.m
     rcases bd with ⟨z, m⟩ | ⟨z, m⟩
     . have n := B5j (g := g') ok p2 ((D2m p2).mp (by rw [f.2.2]; exact z)) (by omega) (by omega)
       refine ⟨?_, .inl n.1⟩
       rw [(n.1.pl ok).sv, n.2.1, n.2.2.1, pl.sv, m, show x.s = g' by omega]
     . have n0 : (stN v x g).f ≠ 0 := by
         intro q
         have := (D2m p2).mpr q
         omega
       have l2 := p2.lq ok n0
       have f2 := G6y (g := g') ok p2 n0 (by rw [f.2.1]; omega)
       rw [f.2.2] at l2
       have b := m _ l2
       refine ⟨?_, f2.2.2.elim (fun q => .inr (by rw [q.2, f.2.1])) fun q => .inl q.2.1⟩
       rw [f2.1, f.2.1, f.2.2, b, pl.sv]
def rdS (zs : List Str) : PyData := .list (zs.map PyData.str)
def OkL (zs : List Str) : Prop := zs.length <= 100 /\ ∀ z ∈ zs, PyData.strOk z = true
theorem Z6w : ∀ {zs : List Str}, (∀ z ∈ zs, PyData.strOk z = true) -> PyData.canLayAll0 (zs.map PyData.str) = true /\ PyData.depthAll (zs.map PyData.str) <= 1
 | [], _ => by simp [PyData.canLayAll0, PyData.depthAll]
 | z :: zs, h => by
   obtain ⟨a, b⟩ := Z6w (zs := zs) fun z' h' => h z' (List.mem_cons_of_mem _ h')
   have c := h z List.mem_cons_self
   constructor
   . simp [PyData.canLayAll0, PyData.canLay0, c, a]
   . simp only [List.map_cons, PyData.depthAll, PyData.depth]
     omega
theorem shS {zs : List Str} (h : OkL zs) : SeqAt.shaped (rdS zs) = true := by
 obtain ⟨a, b⟩ := Z6w h.2
 unfold SeqAt.shaped rdS
 simp only [PyData.canLay0, PyData.depth, a, Bool.and_true, Bool.and_eq_true, decide_eq_true_eq, List.length_map]
 exact ⟨trivial, decide_eq_true (by omega)⟩
theorem Z9t : ∀ zs : List Str, PyData.eqv (rdS zs) (rdS zs) = true := by
 have h : ∀ zs : List Str, PyData.eqvAll (zs.map PyData.str) (zs.map PyData.str) = true := fun zs => by
   induction zs with
   | nil => simp [PyData.eqvAll]
   | cons z zs ih => simp [PyData.eqvAll, PyData.eqv, ih]
 intro zs
 simp [rdS, PyData.eqv, h]
theorem Z4z {K : Frag} {H : Hp} : ∀ zs : List Str, RdDs K H (zs.map V.str) (zs.map PyData.str)
 | [] => .nil
 | z :: zs => .cons (.str z) (Z4z zs)
theorem U9x {K : Frag} {H : Hp} {p : Addr} {zs : List Str} (h : H p = some (.lst (zs.map V.str))) : RdD K H (.ref p) (rdS zs) := .lst (SqL.of h) (Z4z zs)
def C0u (k : Str) (s f p : Int) : PyData := .tuple [.str k, .int s, .int f, .int p]
theorem shD {k : Str} (s f p : Int) (h : PyData.strOk k = true) : SeqAt.shaped (C0u k s f p) = true := by
 unfold SeqAt.shaped C0u
 simp [PyData.canLay0, PyData.canLayAll0, PyData.depth, PyData.depthAll, h]
theorem eqD (k : Str) (s f p : Int) : PyData.eqv (C0u k s f p) (C0u k s f p) = true := by
 simp [C0u, PyData.eqv, PyData.eqvAll]
theorem rdD {K : Frag} {H : Hp} {d : Addr} {k : Str} {s f p : Int} (h : H d = some (.tup [.str k, .int s, .int f, .int p])) : RdD K H (.ref d) (C0u k s f p) := .tup (SqT.of h) (.cons (.str _) (.cons (.int _) (.cons (.int _) (.cons (.int _) .nil))))
theorem okK (k : Kd) : PyData.strOk k.str = true := by cases k <;> decide +kernel
abbrev B3c : Stmt := (top 75)
abbrev A7t : Stmt := (top 76)
abbrev A4v : Stmt := (top 79)
abbrev B2u : Stmt := (top 78)
abbrev B2r : Stmt := (top 77)
structure PartQ (H : Hp) (q : Addr) (x : Nm) : Prop where
 e : H q = some (.tup x.pv)
 k : x.k = .plain
 ok : x.Ok
theorem PartQ.same {H H' : Hp} {q : Addr} {x : Nm} (h : PartQ H q x) (s : Same H H') : PartQ H' q x := ⟨s _ _ h.e, h.k, h.ok⟩
structure FrAt (H : Hp) (q : Addr) (v : Cv) : Prop where
 e : H q = some (.tup (frV v.r v.y v.l v.m))
 ok : FrameOk v.r v.l v.m
theorem FrAt.same {H H' : Hp} {q : Addr} {v : Cv} (h : FrAt H q v) (s : Same H H') : FrAt H' q v := ⟨s _ _ h.e, h.ok⟩
theorem FrAt.cv {H : Hp} {q : Addr} {v : Cv} (h : FrAt H q v) : v.Ok := ⟨h.ok.r1, h.ok.r2, h.ok.l1, h.ok.l2, h.ok.m1, h.ok.m2⟩
def Set9 (v : Cv) (x : Nm) : Prop := Gr v x \/ (x = ⟨.end_, x.s, 0, 0⟩ /\ 0 <= x.s /\ x.s <= 1)
theorem Set9.okN {v : Cv} {x : Nm} (ok : v.Ok) (h : Set9 v x) : x.Ok := by
 rcases h with h | ⟨h, s0, s1⟩
 . exact h.okN ok
 . rw [h]
   exact ⟨s0, s1, (by decide : (0 : Int) <= 0), by show (0 : Int) <= 10 ^ 60 - 1; decide +kernel, (by decide : (-200 : Int) <= 0), (by decide : (0 : Int) <= 200)⟩
theorem Set9.pe {v : Cv} {x : Nm} (ok : v.Ok) (h : Set9 v x) : PE9 x := by
 rcases h with h | ⟨h, s0, s1⟩
 . exact .inl (h.pl ok)
 . exact .inr ⟨by rw [h], s0, s1⟩
theorem C6v {v : Cv} {x : Nm} {s : Int} (h0 : 0 <= s) (h1 : s <= 1) (h : Gr v x \/ x = ⟨.end_, s, 0, 0⟩) : Set9 v x := by
 rcases h with h | h
 . exact .inl h
 . subst h
   exact .inr ⟨rfl, h0, h1⟩
theorem A8c {x : Nm} (ok : x.Ok) : x.k = .plain -> x.f ≠ 0 -> Y9 x.f 1 (x.p - ldN x) := fun k hf => Y4j ((ok.pl k).sz hf)
theorem Y4z (a b : Int) : decide (V.int (U3 a b) = V.int 0) = decide (a = b) := by
 unfold U3
 by_cases e : a = b
 . rw [if_pos e, decide_eq_true e]; rfl
 . rw [if_neg e, decide_eq_false e]
   split <;> rfl
section
variable {P : Program} {w : World} {K : Frag} {mg : Str -> Option Value} {base : Heap}
def D2x (CN : Addr) : Sp := fun vs H Q _ => ∃ n m x y, vs = [.ref n, .ref m] /\ NumIs CN H n x /\ NumIs CN H m y /\ x.Ok /\ y.Ok /\ PE9 x /\ PE9 y /\ ∀ H', Same H H' -> Q (.bl (decide (sv x = sv y))) H'
theorem Y5e : FnScope ["_law_one", "_law_other"] ["_law_one", "_law_other"] (A1 A7t) := scK
theorem U9v {f f1 CN CB : Addr} {fd fd1 : FuncData} (D : Def K mg "_law_like" ["_law_one", "_law_other"] A7t f fd) (D_compared : Def K mg "compared" ["one", "other"] V8 f1 fd1) (G_compared : FnOk P w K mg base (CX1 P w) 4 f1 fd1 ["one", "other"] (A4y K CN CB)) : FnOk P w K mg base (CX1 P w) 5 f fd ["_law_one", "_law_other"] (D2x CN) := by
 refine D.F.okE Y5e (fun vs H Q E h => ?_) (fun X cdv A outer s H vs Q E hX hr hx h => ?_)
 . obtain ⟨n, m, x, y, rfl, _⟩ := h
   rfl
 . subst hX
   obtain ⟨n, m, x, y, rfl, hx', hy, ox, oy, px, py, k⟩ := h
   refine ⟨_, (A5 (B0 (G9 G0 (B5 D_compared G_compared hr hx (A0 (pv 0) (A0 (pv 1) A3))) A2 (B8 _)))), ?_⟩
   refine ⟨_, rfl, _, rfl, _, _, rfl, .inl ⟨n, m, x, y, rfl, rfl, hx', hy, ox, oy, fun H' s' => ?_⟩⟩
   rw [A5d px py]
   refine ⟨rfl, ?_⟩
   show Q (.bl (decide (V.int (U3 (sv x) (sv y)) = V.int 0))) H'
   rw [Y4z]
   exact k H' s'
def J8v : Sp := fun vs H Q _ => ∃ q x, ∃ c : Int, vs = [.ref q, .int c] /\ PartQ H q x /\ 0 <= c /\ ∀ z q' H', Same H H' -> PartQ H' q' z -> Q (.ref q') H'
theorem scLNear : FnScope ["_law_part", "_law_cell", "_law_sign", "_law_figures_here", "_law_power"] ["_law_part", "_law_cell"] (A1 B3c) := scK
theorem at6 (a : Int) : ∃ e : Int, -51 <= e /\ e <= 51 /\ atI [V.int 1, V.int (-1), V.int 5, V.int (-5), V.int 49, V.int 51] (a % 6) = some (.int e) := by
 have b0 := Int.emod_nonneg a (by decide : (6 : Int) ≠ 0)
 have b1 := Int.emod_lt_of_pos a (by decide : (0 : Int) < 6)
 rcases (by omega : a % 6 = 0 \/ a % 6 = 1 \/ a % 6 = 2 \/ a % 6 = 3 \/ a % 6 = 4 \/ a % 6 = 5) with e | e | e | e | e | e <;> rw [e]
 . exact ⟨1, by decide, by decide, rfl⟩
 . exact ⟨-1, by decide, by decide, rfl⟩
 . exact ⟨5, by decide, by decide, rfl⟩
 . exact ⟨-5, by decide, by decide, rfl⟩
 . exact ⟨49, by decide, by decide, rfl⟩
 . exact ⟨51, by decide, by decide, rfl⟩
theorem U7a {f f1 : Addr} {fd fd1 : FuncData} (D : Def K mg "_law_near" ["_law_part", "_law_cell"] B3c f fd) (D_l_ten : Def K mg "_law_ten" ["_law_power"] C0e f1 fd1) (G_l_ten : FnOk P w K mg base (CX1 P w) 1 f1 fd1 ["_law_power"] G7g) (O : Own mg) : FnOk P w K mg base (CX1 P w) 2 f fd ["_law_part", "_law_cell"] J8v := by
 refine D.F.okE scLNear (fun vs H Q E h => ?_) (fun X cdv A outer s H vs Q E hX hr hx h => ?_)
 . obtain ⟨q, x, c, rfl, _⟩ := h
   rfl
 . subst hX
   obtain ⟨q, x, c, rfl, pa, c0, k⟩ := h
   refine ⟨_, (A4 (B7 (U6u (pv 0) (U6n rfl (A7x (U1 (i := 2) scLNear.nd rfl (Or.inl rfl)) (A7x (U1 (i := 3) scLNear.nd rfl (Or.inl rfl)) (A7x (U1 (i := 4) scLNear.nd rfl (Or.inl rfl)) J7m))))))
     (A4 (B7 (C9 (i := 3) scLNear.nd rfl (Or.inl rfl) (U7 U7w (by rfl) O.abs_ boot_abs (A0 (B3 U8 (pv 3) (G7 U5 (J9 (A0 A2 (A0 (A0r V4 A2) (A0 A2 (A0 (A0r V4 A2) (A0 A2 (A0 A2 A3))))))) (B3 G4 (pv 1) A2) (fun _ _ => rfl))) A3))))
     (A5 (B0 (B2v (A0 (pv 2) (A0 (U7 (B1g rfl) (by rfl) O.min_ boot_min (A0 (pv 3) (A0 (B3 U0 (B5 D_l_ten G_l_ten hr hx (A0 A2 A3)) A2) A3))) (A0 (pv 4) A3)))))))), ?_⟩
   have z6 : 6 <= sizeLine := D6 (by decide)
   have z3 : 3 <= sizeLine := D6 (by decide)
   refine ⟨fun σ' H' => H' = H /\ σ' = [some (.ref q), some (.int c), some (.int x.s), some (.int x.f), some (.int x.p)], ?_, ?_⟩
   . exact ⟨_, rfl, q, _, rfl, SqT.of pa.e, rfl, _, _, rfl, _, _, rfl, _, _, rfl, rfl, rfl, rfl⟩
   rintro σ' H1 ⟨rfl, rfl⟩
   have f0 := pa.ok.f0
   refine ⟨fun σ' H' => ∃ g : Int, Same H1 H' /\ 0 <= g /\ σ' = [some (.ref q), some (.int c), some (.int x.s), some (.int g), some (.int x.p)], ?_, ?_⟩
   . obtain ⟨e, e0, e1, ix⟩ := at6 c
     refine ⟨_, rfl, _, rfl, _, rfl, z6, fun l nl => ⟨_, rfl, _, _, rfl, rfl, (by decide : (0 : Int) < 6), l, _, _, _, rfl, rfl, SqL.of A9, ix, _, _, rfl, rfl, _, rfl, _, Same.upd nl, ?_, rfl⟩⟩
     show 0 <= (if x.f + e < 0 then -(x.f + e) else x.f + e)
     split <;> omega
   rintro σ' H2 ⟨g, s2, g0, rfl⟩
   have e60 : A6 60 = 10 ^ 60 := by decide +kernel
   refine ⟨_, rfl, _, rfl, 60, rfl, by decide, by decide, _, _, rfl, rfl, _, _, rfl, _, rfl, z3, fun t nt => ?_⟩
   refine k ⟨.plain, x.s, (if A6 60 - 1 < g then A6 60 - 1 else g), x.p⟩ t _ (s2.trans (Same.upd nt)) ⟨A9, rfl, pa.ok.s0, pa.ok.s1, ?_, ?_, pa.ok.p0, pa.ok.p1⟩
   . show 0 <= (if A6 60 - 1 < g then A6 60 - 1 else g)
     have := D5 60
     split <;> omega
   . show (if A6 60 - 1 < g then A6 60 - 1 else g) <= 10 ^ 60 - 1
     split <;> omega
def G2s (CN : Addr) : Sp := fun vs H Q _ => ∃ fq n v x, vs = [.ref fq, .ref n] /\ FrAt H fq v /\ NumIs CN H n x /\ Set9 v x /\ ∀ H', Same H H' -> Q (.bl true) H'
theorem scLAgain : FnScope ["_law_frame_here", "_law_settled_one", "_law_context_here", "_law_found", "_law_flags"] ["_law_frame_here", "_law_settled_one"] (A1 A4v) := scK
theorem Z1j {v : Cv} {x : Nm} (ok : v.Ok) (h : Set9 v x) : (rdR v x).1 = x /\ ¬ ("off" : Str) ∈ (rdR v x).2 /\ ¬ ("burst" : Str) ∈ (rdR v x).2 := by
 rcases h with h | ⟨h, _⟩
 . exact U9w ok h
 . rw [h]
   exact ⟨rfl, List.not_mem_nil, List.not_mem_nil⟩
theorem flat_strs (zs : List Str) : (zs.map V.str).all B2d = true := by
 rw [List.all_eq_true]
 intro v hv
 obtain ⟨z, _, rfl⟩ := List.mem_map.mp hv
 rfl
theorem J8n {z : Str} {zs : List Str} (h : ¬ z ∈ zs) : (A3z zs).contains z = false := by
 have : ¬ z ∈ A3z zs := fun q => h (by
   have := (List.mem_filter.mp q).2
   simpa using this)
 simpa using this
theorem U0j {f f1 f2 f3 CN CC CB CT : Addr} {fd fd1 fd2 fd3 : FuncData} (D : Def K mg "_law_again" ["_law_frame_here", "_law_settled_one"] A4v f fd) (D_l_context : Def K mg "_law_context" ["_law_frame_here"] B2a f1 fd1) (G_l_context : FnOk P w K mg base (CX1 P w) 5 f1 fd1 ["_law_frame_here"] (C1v CC))
   (D_rounded : Def K mg "rounded" ["context", "number"] A0u f2 fd2) (G_rounded : FnOk P w K mg base (CX1 P w) 7 f2 fd2 ["context", "number"] (B6a K CN CC CB CT)) (D_told : Def K mg "told" ["number"] C0h f3 fd3) (G_told : FnOk P w K mg base (CX1 P w) 2 f3 fd3 ["number"] (G8e K CN CB))
   (C : CtxC K mg CC) (MF : Has P w K mg base CC "flags" 1 ["self"] (A4x CC)) : FnOk P w K mg base (CX1 P w) 8 f fd ["_law_frame_here", "_law_settled_one"] (G2s CN) := by
 refine D.F.okE scLAgain (fun vs H Q E h => ?_) (fun X cdv A outer s H vs Q E hX hr hx h => ?_)
 . obtain ⟨fq, n, v, x, rfl, _⟩ := h
   rfl
 . subst hX
   obtain ⟨fq, n, v, x, rfl, fr, hn, st, k⟩ := h
   obtain ⟨ff, fdf, mf, gf, bf⟩ := MF
   have ok := fr.cv
   have xo := st.okN ok
   have ag := Z1j ok st
   refine ⟨_, (A4 (B7 (C9 (i := 2) scLAgain.nd rfl (Or.inl rfl) (B5 D_l_context G_l_context hr hx (A0 (pv 0) A3))))
     (A4 (B7 (C9 (i := 3) scLAgain.nd rfl (Or.inl rfl) (B5 D_rounded G_rounded hr hx (A0 (pv 2) (A0 (pv 1) A3)))))
     (A4 (B7 (C9 (i := 4) scLAgain.nd rfl (Or.inl rfl) (A1h (pv 2) C.cl mf gf hr bf .nil hx)))
     (A5 (B0 (C2r (G9 (G6f hr.units) (B5 D_told G_told hr hx (A0 (pv 3) A3)) (B5 D_told G_told hr hx (A0 (pv 1) A3)) (B8 _)) (C2r (G9 A4s C6 (pv 4) (by rfl)) (B6b (G9 A4s C6 (pv 4) (by rfl)))))))))), ?_⟩
   refine ⟨fun σ' H' => ∃ c a b, H c = none /\ Same H H' /\ CtxV CC H' c v a b [] [] /\ σ' = [some (.ref fq), some (.ref n), some (.ref c), none, none], ?_, ?_⟩
   . exact ⟨_, rfl, fq, v.r, v.y, v.l, v.m, rfl, fr.e, fr.ok, fun c a b H' nc s' hc => ⟨c, a, b, nc, s', hc, rfl⟩⟩
   rintro σ' H1 ⟨c, a, b, nc, s1, hc, rfl⟩
   have ncn : n ≠ c := by obtain ⟨dx, e⟩ := hn; exact D0 e nc
   refine ⟨fun σ' H' => ∃ a' m, Same H H' /\ NumIs CN H' n x /\ NumIs CN H' m x /\ CtxV CC H' c v a' b (A3z (rdR v x).2) [] /\ σ' = [some (.ref fq), some (.ref n), some (.ref c), some (.ref m), none], ?_, ?_⟩
   . refine ⟨_, rfl, _, rfl, c, v, a, b, [], [], .ref n, rfl, hc, ok, Nat.zero_le _, by decide +kernel, .inl ⟨n, x, ldN x, rfl, hn.same s1, xo, A8c xo, fun _ m a' H' _ x' ct nm => ?_, fun z hz => nomatch hz⟩⟩
     have sH : Same H H' := fun b' o hb => x' _ _ (s1 _ _ hb) (D0 hb nc)
     rw [show (B2s v x (ldN x)).1 = x from ag.1] at nm
     exact ⟨a', m, sH, hn.same sH, nm, ct, rfl⟩
   rintro σ' H2 ⟨a', m, s2, hn2, hm2, hc2, rfl⟩
   obtain ⟨dx, ec⟩ := hc2.ins
   refine ⟨fun σ' H' => ∃ l, Same H2 H' /\ H' l = some (.lst ((A3z (rdR v x).2).map V.str)) /\ σ' = [some (.ref fq), some (.ref n), some (.ref c), some (.ref m), some (.ref l)], ?_, ?_⟩
   . exact ⟨_, rfl, c, dx, _, rfl, ec, B4s _ _ _ _ _ _, c, v.r, v.y, v.l, v.m, a', b, _, _, rfl, hc2, fun l nl => ⟨l, Same.upd nl, A9, rfl⟩⟩
   rintro σ' H3 ⟨l, s3, el, rfl⟩
   refine ⟨_, rfl, _, rfl, .inl ⟨m, _, _, _, _, rfl, hm2.same s3, fun z nz => ⟨_, rfl, _, rfl, .inl ⟨n, _, _, _, _, rfl, (hn2.same s3).same (Same.upd nz), fun y ny => ?_⟩⟩⟩⟩
   have u1 := Same.upd (o := .tup x.vs) nz
   have u2 := Same.upd (o := .tup x.vs) ny
   refine ⟨C0u x.k.str x.s x.f x.p, C0u x.k.str x.s x.f x.p, rdD (u2 _ _ A9), rdD A9, shD _ _ _ (okK _), shD _ _ _ (okK _), true, (by show V.bl (PyData.eqv _ _) = _; rw [eqD]), Y5 ?_⟩
   have el2 := u2 _ _ (u1 _ _ el)
   refine ⟨_, rfl, l, _, rfl, .inl (SqL.of el2), rfl, flat_strs _, true, ?_, Y5 ?_⟩
   . show V.bl (!inV (.str "off") ((A3z (rdR v x).2).map V.str)) = _
     rw [A1r, J8n ag.2.1]
     rfl
   refine ⟨_, rfl, l, _, rfl, .inl (SqL.of el2), rfl, flat_strs _, ?_⟩
   show Q (.bl (!inV (.str "burst") ((A3z (rdR v x).2).map V.str))) _
   rw [A1r, J8n ag.2.2]
   exact k _ (s2.trans (s3.trans (u1.trans u2)))
end
theorem U9r {a b : Int} (h : a < b) : U3 a b = -1 := by
 unfold U3
 rw [if_neg (by omega), if_pos h]
theorem ord_gt {a b : Int} : U3 a b = 1 ↔ a > b := by
 unfold U3
 split
 . exact ⟨fun h => absurd h (by decide), fun h => by omega⟩
 . split
   . exact ⟨fun h => absurd h (by decide), fun h => by omega⟩
   . exact ⟨fun h => by omega, fun h => rfl⟩
theorem ord_m1 {a b : Int} : U3 a b = -1 ↔ a < b := by
 unfold U3
 split
 . exact ⟨fun h => absurd h (by decide), fun h => by omega⟩
 . split
   . exact ⟨fun h => by omega, fun h => rfl⟩
   . exact ⟨fun h => absurd h (by decide), fun h => by omega⟩
section
variable {P : Program} {w : World} {K : Frag} {mg : Str -> Option Value} {base : Heap}
def J7h (CN : Addr) : Sp := fun vs H Q _ => ∃ fq n v x, vs = [.ref fq, .ref n] /\ FrAt H fq v /\ NumIs CN H n x /\ Gr v x /\ ∀ H', Same H H' -> Q (.bl true) H'
theorem scLBack : FnScope ["_law_frame_here", "_law_settled_one", "_law_context_here", "_law_up", "_law_down"] ["_law_frame_here", "_law_settled_one"] (A1 B2u) := scK
theorem U8w {f f1 f2 f3 f4 CN CC : Addr} {fd fd1 fd2 fd3 fd4 : FuncData} (D : Def K mg "_law_back" ["_law_frame_here", "_law_settled_one"] B2u f fd) (D_l_context : Def K mg "_law_context" ["_law_frame_here"] B2a f1 fd1) (G_l_context : FnOk P w K mg base (CX1 P w) 5 f1 fd1 ["_law_frame_here"] (C1v CC))
   (D_next_up : Def K mg "next_up" ["context", "one"] A2z f2 fd2) (G_next_up : FnOk P w K mg base (CX1 P w) 8 f2 fd2 ["context", "one"] (B5x CN CC 0)) (D_next_down : Def K mg "next_down" ["context", "one"] A2x f3 fd3) (G_next_down : FnOk P w K mg base (CX1 P w) 8 f3 fd3 ["context", "one"] (B5x CN CC 1))
   (D_l_like : Def K mg "_law_like" ["_law_one", "_law_other"] A7t f4 fd4) (G_l_like : FnOk P w K mg base (CX1 P w) 5 f4 fd4 ["_law_one", "_law_other"] (D2x CN)) (N : Num K mg CN) : FnOk P w K mg base (CX1 P w) 9 f fd ["_law_frame_here", "_law_settled_one"] (J7h CN) := by
 refine D.F.okE scLBack (fun vs H Q E h => ?_) (fun X cdv A outer s H vs Q E hX hr hx h => ?_)
 . obtain ⟨fq, n, v, x, rfl, _⟩ := h
   rfl
 . subst hX
   obtain ⟨fq, n, v, x, rfl, fr, hn, gr, k⟩ := h
   have ok := fr.cv
   have pl := gr.pl ok
   have xo := gr.okN ok
   have xp : PE9 x := .inl pl
   have u9 := C6v gr.s0 gr.s1 (A4a (g := 0) ok pl (by decide) (by decide)).1
   have d9 := C6v gr.s0 gr.s1 (A4a (g := 1) ok pl (by decide) (by decide)).1
   have ub := D0j (g := 0) (g' := 1) ok gr (by decide) (by decide) rfl
   have db := D0j (g := 1) (g' := 0) ok gr (by decide) (by decide) rfl
   have ub9 := C6v gr.s0 gr.s1 ub.2
   have db9 := C6v gr.s0 gr.s1 db.2
   generalize hu : stN v x 0 = u at *
   generalize hd : stN v x 1 = d at *
   refine ⟨_, (A4 (B7 (C9 (i := 2) scLBack.nd rfl (Or.inl rfl) (B5 D_l_context G_l_context hr hx (A0 (pv 0) A3))))
     (A4 (B7 (C9 (i := 3) scLBack.nd rfl (Or.inl rfl) (B5 D_next_up G_next_up hr hx (A0 (pv 2) (A0 (pv 1) A3)))))
     (A4 (B7 (C9 (i := 4) scLBack.nd rfl (Or.inl rfl) (B5 D_next_down G_next_down hr hx (A0 (pv 2) (A0 (pv 1) A3)))))
     (A4 (B7 (D9 (PW.pt (A2r (B9 G0 (C7 (pv 3) rfl) C6 (B8 _)) (Y7 (Y3 (J5 (B5 D_l_like G_l_like hr hx (A0 (B5 D_next_down G_next_down hr hx (A0 (pv 2) (A0 (pv 3) A3))) (A0 (pv 1) A3)))))))) (A5 (B0 Y4)) C5))
     (A4 (B7 (D9 (PW.pt (A2r (B9 G0 (C7 (pv 4) rfl) C6 (B8 _)) (Y7 (Y3 (J5 (B5 D_l_like G_l_like hr hx (A0 (B5 D_next_up G_next_up hr hx (A0 (pv 2) (A0 (pv 4) A3))) (A0 (pv 1) A3)))))))) (A5 (B0 Y4)) C5))
     (A4 (B7 (D9 (PW.pt (A2r (B9 G0 (C7 (pv 3) rfl) C6 (B8 _)) (Y7 (Y3 (J5 (B5 D_l_like G_l_like hr hx (A0 (B5 D_next_down G_next_down hr hx (A0 (pv 2) (A0 (pv 3) A3))) (A0 (pv 1) A3)))))))) (A5 (B0 Y4)) C5))
     (A5 (B0 (Y9d (G9 G0 (C7 (pv 4) rfl) C6 (B8 _)) (B6b (B5 D_l_like G_l_like hr hx (A0 (B5 D_next_up G_next_up hr hx (A0 (pv 2) (A0 (pv 4) A3))) (A0 (pv 1) A3))))))))))))), ?_⟩
   refine ⟨fun σ' H' => ∃ c a b, Same H H' /\ CtxV CC H' c v a b [] [] /\ σ' = [some (.ref fq), some (.ref n), some (.ref c), none, none], ?_, ?_⟩
   . exact ⟨_, rfl, fq, v.r, v.y, v.l, v.m, rfl, fr.e, fr.ok, fun c a b H' nc s' hc => ⟨c, a, b, s', hc, rfl⟩⟩
   rintro σ' H1 ⟨c, a, b, s1, hc, rfl⟩
   refine ⟨fun σ' H' => ∃ nu, Same H1 H' /\ NumIs CN H' nu u /\ σ' = [some (.ref fq), some (.ref n), some (.ref c), some (.ref nu), none], ?_, ?_⟩
   . exact ⟨_, rfl, _, rfl, c, v, a, b, [], [], n, x, ldN x, rfl, hc, ok, hn.same s1, xo, A8c xo, fun n' H' s' h' => ⟨n', s', by rw [<- hu]; exact h', rfl⟩⟩
   rintro σ' H2 ⟨nu, s2, nuI, rfl⟩
   refine ⟨fun σ' H' => ∃ nd, Same H2 H' /\ NumIs CN H' nd d /\ σ' = [some (.ref fq), some (.ref n), some (.ref c), some (.ref nu), some (.ref nd)], ?_, ?_⟩
   . exact ⟨_, rfl, _, rfl, c, v, a, b, [], [], n, x, ldN x, rfl, hc.same s2, ok, (hn.same s1).same s2, xo, A8c xo, fun n' H' s' h' => ⟨n', s', by rw [<- hd]; exact h', rfl⟩⟩
   rintro σ' H3 ⟨nd, s3, ndI, rfl⟩
   have hn3 := ((hn.same s1).same s2).same s3
   have hc3 := (hc.same s2).same s3
   have nu3 := nuI.same s3
   have sH3 := s1.trans (s2.trans s3)
   clear hn hc nuI s1 s2 s3 fr
   have s3 : Same H3 H3 := fun _ _ q => q
   refine ⟨fun σ' H' => Same H3 H' /\ σ' = [some (.ref fq), some (.ref n), some (.ref c), some (.ref nu), some (.ref nd)], ?_, ?_⟩
   . obtain ⟨dx, e⟩ := nu3.same s3
     refine ⟨_, rfl, nu, CN, dx, _, _, rfl, e, N.cl, N.n1, C2f _ _ _ _, rfl, _, rfl, G8 (fun h => ?_) (fun h => ⟨s3, rfl⟩)⟩
     refine ⟨_, rfl, _, rfl, c, v, a, b, [], [], nu, u, ldN u, rfl, hc3.same s3, ok, nu3.same s3, u9.okN ok, A8c (u9.okN ok), fun n' H' s' h' => ⟨_, rfl, n', n, _, _, rfl, h', (hn3.same s3).same s', ub9.okN ok, xo, ub9.pe ok, xp, fun H'' s'' => ?_⟩⟩
     rw [show sv (stepN v u 1 (ldN u)) = sv x from ub.1, decide_eq_true rfl]
     exact ⟨_, rfl, U4 ⟨s3.trans (s'.trans s''), rfl⟩⟩
   rintro σ' H4 ⟨s4, rfl⟩
   refine ⟨fun σ' H' => Same H3 H' /\ σ' = [some (.ref fq), some (.ref n), some (.ref c), some (.ref nu), some (.ref nd)], ?_, ?_⟩
   . obtain ⟨dx, e⟩ := ndI.same s4
     refine ⟨_, rfl, nd, CN, dx, _, _, rfl, e, N.cl, N.n1, C2f _ _ _ _, rfl, _, rfl, G8 (fun h => ?_) (fun h => ⟨s4, rfl⟩)⟩
     refine ⟨_, rfl, _, rfl, c, v, a, b, [], [], nd, d, ldN d, rfl, hc3.same s4, ok, ndI.same s4, d9.okN ok, A8c (d9.okN ok), fun n' H' s' h' => ⟨_, rfl, n', n, _, _, rfl, h', (hn3.same s4).same s', db9.okN ok, xo, db9.pe ok, xp, fun H'' s'' => ?_⟩⟩
     rw [show sv (stepN v d 0 (ldN d)) = sv x from db.1, decide_eq_true rfl]
     exact ⟨_, rfl, U4 ⟨s4.trans (s'.trans s''), rfl⟩⟩
   rintro σ' H5 ⟨s5, rfl⟩
   refine ⟨fun σ' H' => Same H3 H' /\ σ' = [some (.ref fq), some (.ref n), some (.ref c), some (.ref nu), some (.ref nd)], ?_, ?_⟩
   . obtain ⟨dx, e⟩ := nu3.same s5
     refine ⟨_, rfl, nu, CN, dx, _, _, rfl, e, N.cl, N.n1, C2f _ _ _ _, rfl, _, rfl, G8 (fun h => ?_) (fun h => ⟨s5, rfl⟩)⟩
     refine ⟨_, rfl, _, rfl, c, v, a, b, [], [], nu, u, ldN u, rfl, hc3.same s5, ok, nu3.same s5, u9.okN ok, A8c (u9.okN ok), fun n' H' s' h' => ⟨_, rfl, n', n, _, _, rfl, h', (hn3.same s5).same s', ub9.okN ok, xo, ub9.pe ok, xp, fun H'' s'' => ?_⟩⟩
     rw [show sv (stepN v u 1 (ldN u)) = sv x from ub.1, decide_eq_true rfl]
     exact ⟨_, rfl, U4 ⟨s5.trans (s'.trans s''), rfl⟩⟩
   rintro σ' H6 ⟨s6, rfl⟩
   obtain ⟨dx, e⟩ := ndI.same s6
   refine ⟨_, rfl, nd, CN, dx, _, _, rfl, e, N.cl, N.n1, C2f _ _ _ _, rfl, _, rfl, G8 (fun h => ?_) (fun h => ?_)⟩
   . exact k _ (sH3.trans s6)
   refine ⟨_, rfl, _, rfl, c, v, a, b, [], [], nd, d, ldN d, rfl, hc3.same s6, ok, ndI.same s6, d9.okN ok, A8c (d9.okN ok), fun n' H' s' h' => ⟨_, rfl, n', n, _, _, rfl, h', (hn3.same s6).same s', db9.okN ok, xo, db9.pe ok, xp, fun H'' s'' => ?_⟩⟩
   rw [show sv (stepN v d 0 (ldN d)) = sv x from db.1, decide_eq_true rfl]
   exact k _ (sH3.trans (s6.trans (s'.trans s'')))
def J7u (CN : Addr) : Sp := fun vs H Q _ => ∃ fq n m v x, ∃ i : Int, vs = [.ref fq, .ref n, .ref m, .int i] /\ FrAt H fq v /\ NumIs CN H n x /\ NumIs CN H m (rdR v x).1 /\ x.k = .plain /\ x.Ok /\ ∀ H', Same H H' -> Q (.bl true) H'
theorem scLGood : FnScope ["_law_frame_here", "_law_number", "_law_settled_one", "_law_first", "_law_context_here", "_law_turn", "_law_above", "_law_below"] ["_law_frame_here", "_law_number", "_law_settled_one", "_law_first"] (A1 B2r) := scK
theorem V0h {f f1 f2 f3 f4 f5 CN CC CB : Addr} {fd fd1 fd2 fd3 fd4 fd5 : FuncData} (D : Def K mg "_law_neighbours_good" ["_law_frame_here", "_law_number", "_law_settled_one", "_law_first"] B2r f fd) (D_l_context : Def K mg "_law_context" ["_law_frame_here"] B2a f1 fd1) (G_l_context : FnOk P w K mg base (CX1 P w) 5 f1 fd1 ["_law_frame_here"] (C1v CC))
   (D_next_up : Def K mg "next_up" ["context", "one"] A2z f2 fd2) (G_next_up : FnOk P w K mg base (CX1 P w) 8 f2 fd2 ["context", "one"] (B5x CN CC 0)) (D_next_down : Def K mg "next_down" ["context", "one"] A2x f3 fd3) (G_next_down : FnOk P w K mg base (CX1 P w) 8 f3 fd3 ["context", "one"] (B5x CN CC 1))
   (D_l_like : Def K mg "_law_like" ["_law_one", "_law_other"] A7t f4 fd4) (G_l_like : FnOk P w K mg base (CX1 P w) 5 f4 fd4 ["_law_one", "_law_other"] (D2x CN)) (D_compared : Def K mg "compared" ["one", "other"] V8 f5 fd5) (G_compared : FnOk P w K mg base (CX1 P w) 4 f5 fd5 ["one", "other"] (A4y K CN CB)) (C : CtxC K mg CC) (MF : Has P w K mg base CC "flags" 1 ["self"] (A4x CC)) (O : Own mg) : FnOk P w K mg base (CX1 P w) 9 f fd ["_law_frame_here", "_law_number", "_law_settled_one", "_law_first"] (J7u CN) := by
 refine D.F.okE scLGood (fun vs H Q E h => ?_) (fun X cdv A outer s H vs Q E hX hr hx h => ?_)
 . obtain ⟨fq, n, m, v, x, i, rfl, _⟩ := h
   rfl
 . subst hX
   obtain ⟨fq, n, m, v, x, i, rfl, fr, hn, hm, xk, xo, k⟩ := h
   obtain ⟨ff, fdf, mf, gf, bf⟩ := MF
   have ok := fr.cv
   have pl := xo.pl xk
   have xp : PE9 x := .inl pl
   have rd := C2u ok pl
   have r9 := C6v pl.s0 pl.s1 rd.2.1
   have ng := A4a (g := 0) ok pl (by decide) (by decide)
   have nd := A4a (g := 1) ok pl (by decide) (by decide)
   have u9 := C6v pl.s0 pl.s1 ng.1
   have d9 := C6v pl.s0 pl.s1 nd.1
   have ng := ng.2.1 rfl
   have nd := nd.2.2 rfl
   generalize hr' : (rdR v x).1 = r at *
   generalize hu : stN v x 0 = u at *
   generalize hd : stN v x 1 = d at *
   refine ⟨_, (A4 (B7 (C9 (i := 4) scLGood.nd rfl (Or.inl rfl) (B5 D_l_context G_l_context hr hx (A0 (pv 0) A3))))
     (A4 (B7 (B2z PassesOwn.leaving rfl (B5p rfl O.range_ (A0 A2 A3)) (U1 (i := 5) scLGood.nd rfl (Or.inl rfl)) (A5 (B7 (D9 (B9 G0 (B3 G4 (B3 U8 (pv 5) (pv 3)) A2) A2 (B8 _)) (A4 (B7 (C9 (i := 6) scLGood.nd rfl (Or.inl rfl) (B5 D_next_up G_next_up hr hx (A0 (pv 4) (A0 (pv 1) A3)))))
     (A4 (B7 (D9 (B9 C1y (B5 D_compared G_compared hr hx (A0 (pv 1) (A0 (pv 6) A3))) (A0r V4 A2) (B8 _)) (A5 (B0 Y4)) C5))
     (A5 (B7 (D9 (PW.pt (A2r (B9 G0 (B5 D_compared G_compared hr hx (A0 (pv 2) (A0 (pv 1) A3))) A2 (B8 _)) (Y7 (Y3 (J5 (B5 D_l_like G_l_like hr hx (A0 (pv 2) (A0 (pv 6) A3)))))))) (A5 (B0 Y4)) C5))))) (A4 (B7 (C9 (i := 7) scLGood.nd rfl (Or.inl rfl) (B5 D_next_down G_next_down hr hx (A0 (pv 4) (A0 (pv 1) A3)))))
     (A4 (B7 (D9 (B9 C1y (B5 D_compared G_compared hr hx (A0 (pv 7) (A0 (pv 1) A3))) (A0r V4 A2) (B8 _)) (A5 (B0 Y4)) C5))
     (A5 (B7 (D9 (PW.pt (A2r (B9 G0 (B5 D_compared G_compared hr hx (A0 (pv 2) (A0 (pv 1) A3))) (A0r V4 A2) (B8 _)) (Y7 (Y3 (J5 (B5 D_l_like G_l_like hr hx (A0 (pv 2) (A0 (pv 7) A3)))))))) (A5 (B0 Y4)) C5))))))))))
     (A5 (B0 (G9 (G6f hr.units) (A1h (pv 4) C.cl mf gf hr bf .nil hx) (J9 A3) (B8 _)))))), ?_⟩
   refine ⟨fun σ' H' => ∃ c a b, Same H H' /\ CtxV CC H' c v a b [] [] /\ σ' = [some (.ref fq), some (.ref n), some (.ref m), some (.int i), some (.ref c), none, none, none], ?_, ?_⟩
   . exact ⟨_, rfl, fq, v.r, v.y, v.l, v.m, rfl, fr.e, fr.ok, fun c a b H' nc s' hc => ⟨c, a, b, s', hc, rfl⟩⟩
   rintro σ' H1 ⟨c, a, b, s1, hc, rfl⟩
   have hn1 := hn.same s1
   have hm1 := hm.same s1
   refine ⟨fun σ' H' => ∃ v5 v6 v7, Same H1 H' /\ σ' = [some (.ref fq), some (.ref n), some (.ref m), some (.int i), some (.ref c), v5, v6, v7], ?_, ?_⟩
   . refine ⟨2, rfl, by decide, by decide, B5t (n := 2) (fun j σ' H' => ∃ v5 v6 v7, Same H1 H' /\ σ' = [some (.ref fq), some (.ref n), some (.ref m), some (.int i), some (.ref c), v5, v6, v7]) ⟨none, none, none, fun _ _ q => q, rfl⟩ ?_ (fun _ _ q => q)⟩
     rintro j σ' H2 hj ⟨v5, v6, v7, s2, rfl⟩
     refine ⟨fun σ' H' => ∃ v5 v6 v7, Same H1 H' /\ σ' = [some (.ref fq), some (.ref n), some (.ref m), some (.int i), some (.ref c), v5, v6, v7], ?_, fun _ _ q => q⟩
     refine ⟨_, rfl, _, rfl, _, _, rfl, rfl, _, _, rfl, rfl, (by decide : (0 : Int) < 2), rfl, _, rfl, G8 (fun h => ?_) (fun h => ?_)⟩
     . refine ⟨fun σ' H' => ∃ q, Same H2 H' /\ NumIs CN H' q u /\ σ' = [some (.ref fq), some (.ref n), some (.ref m), some (.int i), some (.ref c), some (.int (0 + (j : Int))), some (.ref q), v7], ?_, ?_⟩
       . exact ⟨_, rfl, _, rfl, c, v, a, b, [], [], n, x, ldN x, rfl, hc.same s2, ok, hn1.same s2, xo, A8c xo, fun n' H' s' h' => ⟨n', s', by rw [<- hu]; exact h', rfl⟩⟩
       rintro σ' H3 ⟨q, s3, nq3, rfl⟩
       have hn3 := (hn1.same s2).same s3
       have hm3 := (hm1.same s2).same s3
       refine ⟨fun σ' H' => Same H3 H' /\ σ' = [some (.ref fq), some (.ref n), some (.ref m), some (.int i), some (.ref c), some (.int (0 + (j : Int))), some (.ref q), v7], ?_, ?_⟩
       . refine ⟨_, rfl, _, rfl, _, _, rfl, .inl ⟨n, q, x, u, rfl, rfl, hn3, nq3, xo, u9.okN ok, fun H' s' => ?_⟩⟩
         rw [A5d xp (u9.pe ok), U9r ng.1]
         exact ⟨_, rfl, rfl, _, rfl, U4 ⟨s', rfl⟩⟩
       rintro σ' H4 ⟨s4, rfl⟩
       refine ⟨_, ?_, fun _ _ q => q⟩
       refine ⟨_, rfl, _, rfl, _, _, rfl, .inl ⟨m, n, r, x, rfl, rfl, hm3.same s4, hn3.same s4, r9.okN ok, xo, fun H5 s5 => ?_⟩⟩
       rw [A5d (r9.pe ok) xp]
       refine ⟨rfl, _, rfl, G8 (fun h => ?_) (fun h => ⟨_, _, _, s2.trans (s3.trans (s4.trans s5)), rfl⟩)⟩
       refine ⟨_, rfl, _, rfl, m, q, r, u, rfl, (hm3.same s4).same s5, (nq3.same s4).same s5, r9.okN ok, u9.okN ok, r9.pe ok, u9.pe ok, fun H6 s6 => ?_⟩
       rw [ng.2 (ord_gt.mp (V.int.inj h)), decide_eq_true rfl]
       exact ⟨_, rfl, U4 ⟨_, _, _, s2.trans (s3.trans (s4.trans (s5.trans s6))), rfl⟩⟩
     . refine ⟨fun σ' H' => ∃ q, Same H2 H' /\ NumIs CN H' q d /\ σ' = [some (.ref fq), some (.ref n), some (.ref m), some (.int i), some (.ref c), some (.int (0 + (j : Int))), v6, some (.ref q)], ?_, ?_⟩
       . exact ⟨_, rfl, _, rfl, c, v, a, b, [], [], n, x, ldN x, rfl, hc.same s2, ok, hn1.same s2, xo, A8c xo, fun n' H' s' h' => ⟨n', s', by rw [<- hd]; exact h', rfl⟩⟩
       rintro σ' H3 ⟨q, s3, nq3, rfl⟩
       have hn3 := (hn1.same s2).same s3
       have hm3 := (hm1.same s2).same s3
       refine ⟨fun σ' H' => Same H3 H' /\ σ' = [some (.ref fq), some (.ref n), some (.ref m), some (.int i), some (.ref c), some (.int (0 + (j : Int))), v6, some (.ref q)], ?_, ?_⟩
       . refine ⟨_, rfl, _, rfl, _, _, rfl, .inl ⟨q, n, d, x, rfl, rfl, nq3, hn3, d9.okN ok, xo, fun H' s' => ?_⟩⟩
         rw [A5d (d9.pe ok) xp, U9r nd.1]
         exact ⟨_, rfl, rfl, _, rfl, U4 ⟨s', rfl⟩⟩
       rintro σ' H4 ⟨s4, rfl⟩
       refine ⟨_, ?_, fun _ _ q => q⟩
       refine ⟨_, rfl, _, rfl, _, _, rfl, .inl ⟨m, n, r, x, rfl, rfl, hm3.same s4, hn3.same s4, r9.okN ok, xo, fun H5 s5 => ?_⟩⟩
       rw [A5d (r9.pe ok) xp]
       refine ⟨_, rfl, rfl, _, rfl, G8 (fun h => ?_) (fun h => ⟨_, _, _, s2.trans (s3.trans (s4.trans s5)), rfl⟩)⟩
       refine ⟨_, rfl, _, rfl, m, q, r, d, rfl, (hm3.same s4).same s5, (nq3.same s4).same s5, r9.okN ok, d9.okN ok, r9.pe ok, d9.pe ok, fun H6 s6 => ?_⟩
       rw [nd.2 (ord_m1.mp (V.int.inj h)), decide_eq_true rfl]
       exact ⟨_, rfl, U4 ⟨_, _, _, s2.trans (s3.trans (s4.trans (s5.trans s6))), rfl⟩⟩
   rintro σ' H2 ⟨v5, v6, v7, s2, rfl⟩
   have hc2 := hc.same s2
   obtain ⟨dx, ec⟩ := hc2.ins
   refine ⟨_, rfl, c, dx, _, rfl, ec, B4s _ _ _ _ _ _, c, v.r, v.y, v.l, v.m, a, b, _, _, rfl, hc2, fun l nl => ?_⟩
   have z0 : 0 <= sizeLine := D6 (by decide)
   have u1 := Same.upd (o := .lst (([] : List Str).map V.str)) nl
   have okN : OkL [] := ⟨Nat.zero_le _, fun z hz => nomatch hz⟩
   refine ⟨z0, fun l2 n2 => ⟨rdS [], rdS [], U9x ((Same.upd n2) _ _ A9), U9x A9, shS okN, shS okN, ?_⟩⟩
   show Q (.bl (PyData.eqv (rdS []) (rdS []))) _
   rw [Z9t]
   exact k _ (s1.trans (s2.trans (u1.trans (Same.upd n2))))
end
abbrev D2d : Stmt := (top 80)
theorem Y4f {K : PySem.W.Frag} {a b : Addr} {xs ys : List V} {g : TG} {tb : TS} {D : Ends} {σ : L2.St} {H : Hp} (Pv : Nat -> L2.St -> Hp -> Prop) (h0 : Pv 0 σ H) (he : xs.length = ys.length) (hl : ∀ i σ H, i <= xs.length -> Pv i σ H -> SqL K H a xs /\ SqL K H b ys)
   (hs : ∀ i y z σ H t, xs[i]? = some y -> ys[i]? = some z -> Pv i σ H -> H t = none -> g (.ref t) σ (upd H t (.tup [y, z])) fun σ2 H2 => tb { D with nx := Pv (i + 1), ct := Pv (i + 1), bk := D.nx } σ2 H2) (hd : ∀ σ H, Pv xs.length σ H -> D.nx σ H) :
   ∃ W : Nat -> Nat -> L2.St -> Hp -> Prop, (∃ m, W 0 m σ H) /\ ∀ i m σ H, W i m σ H ->
     ((Itz K a b).stop i H /\ D.nx σ H) \/ ((Itz K a b).go i H /\ ∃ N : L2.St -> Hp -> Prop, (∀ σ' H', N σ' H' -> ∃ m', m' < m /\ W (i + 1) m' σ' H') /\ ∀ x H', (Itz K a b).yld i H x H' -> g x σ H' fun σ2 H2 => tb { D with nx := N, ct := N, bk := D.nx } σ2 H2) := by
 refine ⟨fun i m σ H => m = xs.length - i /\ i <= xs.length /\ Pv i σ H, ⟨xs.length, by simp, Nat.zero_le _, h0⟩, ?_⟩
 rintro i m σ H ⟨rfl, hi, p⟩
 have q := hl i σ H hi p
 by_cases hlt : i < xs.length
 . refine .inr ⟨⟨xs, ys, xs[i], ys[i], q.1, q.2, by simp [hlt], by simp [he ▸ hlt]⟩, Pv (i + 1), fun σ' H' p' => ⟨xs.length - (i + 1), by omega, rfl, hlt, p'⟩, fun x H' y => ?_⟩
   obtain ⟨t, u, z, rfl, nt, rfl, hu, hz⟩ := y
   exact hs i u z σ H t (hu xs q.1) (hz ys q.2) p nt
 . have e : i = xs.length := by omega
   subst e
   exact .inl ⟨⟨xs, ys, q.1, q.2, .inl (Nat.le_refl _)⟩, hd σ H p⟩
theorem U0g (k s f p : V) : (C0r k s f p).lookup ("risen" : Str) = none := by
 unfold C0r
 rw [D3, if_neg (by decide +kernel), D3, if_neg (by decide +kernel), D3, if_neg (by decide +kernel), D3, if_neg (by decide +kernel)]
 rfl
theorem Z0c {CN CC : Addr} {H : Hp} {n c : Addr} {x : Nm} {v : Cv} {a b : Addr} {xs ys : List Str} (h : NumIs CN H n x) (hc : CtxV CC H c v a b xs ys) : n ≠ c := by
 rintro rfl
 obtain ⟨dx, e⟩ := h
 obtain ⟨⟨d0, e0⟩, _, _⟩ := hc
 rw [e] at e0
 injection e0 with e0
 injection e0 with _ _ e0
 have q := U0g (.str x.k.str) (.int x.s) (.int x.f) (.int x.p)
 rw [e0, A3x] at q
 cases q
structure Base37 (CN : Addr) (H : Hp) (fq pq lq q1 q2 n1 n2 : Addr) (v : Cv) (x1 x2 : Nm) : Prop where
 fr : FrAt H fq v
 ep : H pq = some (.lst [.ref q1, .ref q2])
 a1 : PartQ H q1 x1
 a2 : PartQ H q2 x2
 el : H lq = some (.lst [.ref n1, .ref n2])
 m1 : NumIs CN H n1 x1
 m2 : NumIs CN H n2 x2
theorem Base37.same {CN : Addr} {H H' : Hp} {fq pq lq q1 q2 n1 n2 : Addr} {v : Cv} {x1 x2 : Nm} (h : Base37 CN H fq pq lq q1 q2 n1 n2 v x1 x2) (s : Same H H') : Base37 CN H' fq pq lq q1 q2 n1 n2 v x1 x2 :=
 ⟨h.fr.same s, s _ _ h.ep, h.a1.same s, h.a2.same s, s _ _ h.el, h.m1.same s, h.m2.same s⟩
theorem Base37.exc {CN : Addr} {H H' : Hp} {fq pq lq q1 q2 n1 n2 c C0 d0 : Addr} {v : Cv} {x1 x2 : Nm} {F : List (Str × V)} (h : Base37 CN H fq pq lq q1 q2 n1 n2 v x1 x2) (s : Exc c H H') (ec : H c = some (.ins C0 d0 F)) (c1 : n1 ≠ c) (c2 : n2 ≠ c) : Base37 CN H' fq pq lq q1 q2 n1 n2 v x1 x2 := by
 have tp : ∀ {q : Addr} {xs : List V}, H q = some (.tup xs) -> H' q = some (.tup xs) := fun e => s _ _ e (A7m e ec (by intro z; cases z))
 have ls : ∀ {q : Addr} {xs : List V}, H q = some (.lst xs) -> H' q = some (.lst xs) := fun e => s _ _ e (A7m e ec (by intro z; cases z))
 have nu : ∀ {n x}, n ≠ c -> NumIs CN H n x -> NumIs CN H' n x := fun ne ⟨dx, z⟩ => ⟨dx, s _ _ z ne⟩
 exact ⟨⟨tp h.fr.e, h.fr.ok⟩, ls h.ep, ⟨tp h.a1.e, h.a1.k, h.a1.ok⟩, ⟨tp h.a2.e, h.a2.k, h.a2.ok⟩, ls h.el, nu c1 h.m1, nu c2 h.m2⟩
theorem Base37.list {CN : Addr} {H H' : Hp} {fq pq lq q1 q2 n1 n2 D : Addr} {v : Cv} {x1 x2 : Nm} {l : List V} (h : Base37 CN H fq pq lq q1 q2 n1 n2 v x1 x2) (hD : H D = some (.lst l)) (s : G6n D H H') (c1 : pq ≠ D) (c2 : lq ≠ D) : Base37 CN H' fq pq lq q1 q2 n1 n2 v x1 x2 := by
 have tp : ∀ {q : Addr} {xs : List V}, H q = some (.tup xs) -> H' q = some (.tup xs) := fun e => s _ _ e (A7m e hD (by intro z; cases z))
 exact ⟨⟨tp h.fr.e, h.fr.ok⟩, s _ _ h.ep c1, ⟨tp h.a1.e, h.a1.k, h.a1.ok⟩, ⟨tp h.a2.e, h.a2.k, h.a2.ok⟩, s _ _ h.el c2, h.m1.exc hD s, h.m2.exc hD s⟩
theorem CtxV.list {CC : Addr} {H H' : Hp} {c D : Addr} {v : Cv} {a b : Addr} {xs ys : List Str} {l : List V} (h : CtxV CC H c v a b xs ys) (hD : H D = some (.lst l)) (s : G6n D H H') (na : a ≠ D) (nb : b ≠ D) : CtxV CC H' c v a b xs ys := by
 obtain ⟨⟨dx, e⟩, h1, h2⟩ := h
 exact ⟨⟨dx, s _ _ e (A7m e hD (by intro z; cases z))⟩, s _ _ h1 na, s _ _ h2 nb⟩
theorem Z0s {ys : List V} (h : ys.length = 2) : ∃ a b, ys = [a, b] := by
 match ys, h with
 | [a, b], _ => exact ⟨a, b, rfl⟩
theorem U8q (zs : List Str) : A3z (A3z zs) = A3z zs := by
 unfold A3z
 apply List.filter_congr
 intro z hz
 rw [Bool.eq_iff_iff]
 simp only [List.contains_iff_mem, List.mem_filter]
 exact ⟨fun h => h.2, fun h => ⟨hz, h⟩⟩
theorem Y9w {a b : Int} (h : U3 a b < 1) : a <= b := by
 unfold U3 at h
 split at h
 . omega
 . split at h <;> omega
theorem U8v {a b : Int} (h : -1 < U3 a b) : b <= a := by
 unfold U3 at h
 split at h
 . omega
 . split at h <;> omega
def C6u (x1 x2 : Nm) : PyData := .list [C0u x1.k.str x1.s x1.f x1.p, C0u x2.k.str x2.s x2.f x2.p]
theorem sh2 (x1 x2 : Nm) : SeqAt.shaped (C6u x1 x2) = true := by
 unfold SeqAt.shaped C6u C0u
 simp [PyData.canLay0, PyData.canLayAll0, PyData.depth, PyData.depthAll, okK]
theorem eq2 (x1 x2 : Nm) : PyData.eqv (C6u x1 x2) (C6u x1 x2) = true := by
 simp [C6u, C0u, PyData.eqv, PyData.eqvAll]
theorem rd2 {K : Frag} {H : Hp} {d t1 t2 : Addr} {x1 x2 : Nm} (h : H d = some (.lst [.ref t1, .ref t2])) (h1 : H t1 = some (.tup x1.vs)) (h2 : H t2 = some (.tup x2.vs)) : RdD K H (.ref d) (C6u x1 x2) :=
 .lst (SqL.of h) (.cons (rdD h1) (.cons (rdD h2) .nil))
def U9c {α : Type} (a b : α) : Nat -> α
 | 0 => a
 | _ => b
theorem G6j {a b x : V} {i : Nat} (h : [a, b][i]? = some x) : i < 2 /\ x = U9c a b i := by
 rcases i with _ | _ | i
 . cases h; exact ⟨by decide, rfl⟩
 . cases h; exact ⟨by decide, rfl⟩
 . cases h
theorem V0f {a b : V} {i : Nat} (h : i < 2) : [a, b][i]? = some (U9c a b i) := by
 rcases (by omega : i = 0 \/ i = 1) with rfl | rfl <;> rfl
section
variable {P : Program} {w : World} {K : Frag} {mg : Str -> Option Value} {base : Heap}
def J7k (K : Frag) : Sp := fun vs H Q _ => ∃ a ns, vs = [.ref a] /\ (ns : List Int).length <= 63 /\ SqL K H a (ns.map V.int) /\ ∀ H', Q (.bl true) H'
theorem scLaw : FnScope ["_law_script", "_law_frame_here", "_law_more", "_law_parts", "_law_numbers", "_law_context_here", "_law_found", "_law_order", "_law_number", "_law_settled_one"] ["_law_script"] (A1 D2d) := scK
theorem Z0e {f f1 f2 f3 f4 f5 f6 f7 f8 f9 g1 g2 g3 CC CN CB CT : Addr} {fd fd1 fd2 fd3 fd4 fd5 fd6 fd7 fd8 fd9 gd1 gd2 gd3 : FuncData} (D : Def K mg "law" ["_law_script"] D2d f fd)
   (D_l_cell_at : Def K mg "_law_cell_at" ["_law_script", "_law_k"] C2b f1 fd1) (G_l_cell_at : FnOk P w K mg base (CX1 P w) 1 f1 fd1 ["_law_script", "_law_k"] (U8t K)) (D_l_mixed : Def K mg "_law_mixed" ["_law_cell", "_law_k"] A5c f2 fd2) (G_l_mixed : FnOk P w K mg base (CX1 P w) 1 f2 fd2 ["_law_cell", "_law_k"] C0w)
   (D_l_frame : Def K mg "_law_frame" ["_law_cell"] A4p f3 fd3) (G_l_frame : FnOk P w K mg base (CX1 P w) 1 f3 fd3 ["_law_cell"] G2q) (D_l_plain : Def K mg "_law_plain" ["_law_cell", "_law_most"] A4q f4 fd4) (G_l_plain : FnOk P w K mg base (CX1 P w) 3 f4 fd4 ["_law_cell", "_law_most"] G3f)
   (D_l_context : Def K mg "_law_context" ["_law_frame_here"] B2a f5 fd5) (G_l_context : FnOk P w K mg base (CX1 P w) 5 f5 fd5 ["_law_frame_here"] (C1v CC)) (D_l_near : Def K mg "_law_near" ["_law_part", "_law_cell"] B3c f6 fd6) (G_l_near : FnOk P w K mg base (CX1 P w) 2 f6 fd6 ["_law_part", "_law_cell"] J8v)
   (D_l_again : Def K mg "_law_again" ["_law_frame_here", "_law_settled_one"] A4v f7 fd7) (G_l_again : FnOk P w K mg base (CX1 P w) 8 f7 fd7 ["_law_frame_here", "_law_settled_one"] (G2s CN)) (D_l_back : Def K mg "_law_back" ["_law_frame_here", "_law_settled_one"] B2u g1 gd1) (G_l_back : FnOk P w K mg base (CX1 P w) 9 g1 gd1 ["_law_frame_here", "_law_settled_one"] (J7h CN))
   (D_l_neighbours_good : Def K mg "_law_neighbours_good" ["_law_frame_here", "_law_number", "_law_settled_one", "_law_first"] B2r g2 gd2) (G_l_neighbours_good : FnOk P w K mg base (CX1 P w) 9 g2 gd2 ["_law_frame_here", "_law_number", "_law_settled_one", "_law_first"] (J7u CN)) (D_compared : Def K mg "compared" ["one", "other"] V8 g3 gd3) (G_compared : FnOk P w K mg base (CX1 P w) 4 g3 gd3 ["one", "other"] (A4y K CN CB))
   {g4 : Addr} {gd4 : FuncData} (D_rounded : Def K mg "rounded" ["context", "number"] A0u g4 gd4) (G_rounded : FnOk P w K mg base (CX1 P w) 7 g4 gd4 ["context", "number"] (B6a K CN CC CB CT))
   (D_plain : Def K mg "plain" ["sign", "figures", "power"] B2p f8 fd8) (G_plain : FnOk P w K mg base (CX1 P w) 3 f8 fd8 ["sign", "figures", "power"] (J8g K CN CB)) (D_told : Def K mg "told" ["number"] C0h f9 fd9) (G_told : FnOk P w K mg base (CX1 P w) 2 f9 fd9 ["number"] (G8e K CN CB))
   (N : Num K mg CN) (O : Own mg) : FnOk P w K mg base (CX1 P w) 10 f fd ["_law_script"] (J7k K) := by
 refine D.F.okE scLaw (fun vs H Q E h => ?_) (fun X cdv A outer s H vs Q E hX hr hx h => ?_)
 . obtain ⟨a, ns, rfl, _⟩ := h
   rfl
 . subst hX
   obtain ⟨sc, ns, rfl, n63, hS, kk⟩ := h
   refine ⟨_, (A4 (B7 (C9 (i := 1) scLaw.nd rfl (Or.inl rfl) (B5 D_l_frame G_l_frame hr hx (A0 (B5 D_l_mixed G_l_mixed hr hx (A0 (B5 D_l_cell_at G_l_cell_at hr hx (A0 (pv 0) (A0 A2 A3))) (A0 A2 A3))) A3))))
     (A4 (B7 (C9 (i := 2) scLaw.nd rfl (Or.inl rfl) (B5 D_l_mixed G_l_mixed hr hx (A0 (B5 D_l_cell_at G_l_cell_at hr hx (A0 (pv 0) (A0 A2 A3))) (A0 A2 A3)))))
     (A4 (B7 (C9 (i := 3) scLaw.nd rfl (Or.inl rfl) (J9 (A0 (B5 D_l_plain G_l_plain hr hx (A0 (B5 D_l_cell_at G_l_cell_at hr hx (A0 (pv 0) (A0 A2 A3))) (A0 A2 A3))) (A0 (B5 D_l_plain G_l_plain hr hx (A0 (B5 D_l_cell_at G_l_cell_at hr hx (A0 (pv 0) (A0 A2 A3))) (A0 A2 A3))) A3)))))
     (A4 (B7 (D9 (B9 G0 (B3 G4 (pv 2) A2) A2 (B8 _)) (A5 (B7 (U6u (B5 D_l_near G_l_near hr hx (A0 (G7 U5 (pv 3) A2 (fun _ _ => rfl)) (A0 (B3 D8 (pv 2) A2) A3))) (Z1k (pv 3) A2 U6m)))) C5))
     (A4 (B7 (V0m (i := 4) (N := ["_law_part"]) ⟨rfl, by decide +kernel, by decide +kernel, by decide +kernel, by decide +kernel⟩ (.inl hr.hd) (A8e (pv 3)) rfl (fun C s₀ H₀ ex pn h => U1 (i := 0) (by decide +kernel : (["_law_part"] : List Str).Nodup) rfl (Or.inl rfl)) (fun C s₀ H₀ ex pn h => (G6t D_plain G_plain hr (A0 (G7 (B1f (K := K) rfl) (pv 0) A2 (fun _ _ => rfl)) (A0 (G7 (B1f (K := K) rfl) (pv 0) A2 (fun _ _ => rfl)) (A0 (G7 (B1f (K := K) rfl) (pv 0) A2 (fun _ _ => rfl)) A3))))) scLaw.nd rfl rfl))
     (A4 (B7 (C9 (i := 5) scLaw.nd rfl (Or.inr rfl) (B5 D_l_context G_l_context hr hx (A0 (pv 1) A3))))
     (A4 (B7 (J9t (i := 6) (N := ["_law_number"]) (F := ["_law_context_here"]) (js := [5]) (CompScopeF.of1 ⟨rfl, by decide +kernel, by decide +kernel, by decide +kernel, by decide +kernel⟩ (by rfl) (by rfl) ⟨_, by rfl⟩ (by rfl) (by rfl)) (.inl hr.hd) (A8e (pv 4)) rfl (fun C s₀ H₀ ex pn h => U1 (i := 0) (by decide +kernel : (["_law_number", "_law_context_here"] : List Str).Nodup) rfl (Or.inl rfl)) (fun C s₀ H₀ ex pn h => (G6t D_rounded G_rounded hr (A0 (pv 1) (A0 (pv 0) A3)))) scLaw.nd rfl (Or.inl rfl)))
     (A4 (B7 (C9 (i := 7) scLaw.nd rfl (Or.inl rfl) (B5 D_compared G_compared hr hx (A0 (G7 U5 (pv 4) A2 (fun _ _ => rfl)) (A0 (G7 U5 (pv 4) A2 (fun _ _ => rfl)) A3)))))
     (A4 (B7 (D9 (PW.pt (U7m (PW.pt (A2r (B9 G1z (pv 7) A2 (B8 _)) (Y7 (B9 G0 (B5 D_compared G_compared hr hx (A0 (G7 U5 (pv 6) A2 (fun _ _ => rfl)) (A0 (G7 U5 (pv 6) A2 (fun _ _ => rfl)) A3))) A2 (B8 _))))) (G7j (PW.pt (A2r (B9 C2a (pv 7) (A0r V4 A2) (B8 _)) (Y7 (B9 G0 (B5 D_compared G_compared hr hx (A0 (G7 U5 (pv 6) A2 (fun _ _ => rfl)) (A0 (G7 U5 (pv 6) A2 (fun _ _ => rfl)) A3))) (A0r V4 A2) (B8 _)))))))) (A5 (B0 Y4)) C5))
     (A4 (B7 (B2z PassesOwn.leaving rfl (Y9t rfl O.zip_ (A0 (pv 4) (A0 (pv 6) A3))) (U6n rfl (A7x (U1 (i := 8) scLaw.nd rfl (Or.inl rfl)) (A7x (U1 (i := 9) scLaw.nd rfl (Or.inl rfl)) J7m))) (A4 (B7 (D9 (Y3 (J5 (B5 D_l_again G_l_again hr hx (A0 (pv 1) (A0 (pv 9) A3))))) (A5 (B0 Y4)) C5))
     (A4 (B7 (D9 (PW.pt (A2r (B9 G0 (C7 (pv 9) rfl) C6 (B8 _)) (Y7 (Y3 (J5 (B5 D_l_back G_l_back hr hx (A0 (pv 1) (A0 (pv 9) A3)))))))) (A5 (B0 Y4)) C5))
     (A5 (B7 (D9 (Y3 (J5 (B5 D_l_neighbours_good G_l_neighbours_good hr hx (A0 (pv 1) (A0 (pv 8) (A0 (pv 9) (A0 (B3 D8 (pv 2) A2) A3))))))) (A5 (B0 Y4)) C5)))))))
     (A5 (B0 (G9 (G6f hr.units) (G2t (N := ["_law_number"]) ⟨rfl, by decide +kernel, by decide +kernel, by decide +kernel, by decide +kernel⟩ (.inl hr.hd) (A8e (pv 4)) rfl (fun C s₀ H₀ ex pn h => U1 (i := 0) (by decide +kernel : (["_law_number"] : List Str).Nodup) rfl (Or.inl rfl)) (fun C s₀ H₀ ex pn h => (G6t D_told G_told hr (A0 (pv 0) A3)))) (G2t (N := ["_law_part"]) ⟨rfl, by decide +kernel, by decide +kernel, by decide +kernel, by decide +kernel⟩ (.inl hr.hd) (A8e (pv 3)) rfl (fun C s₀ H₀ ex pn h => U1 (i := 0) (by decide +kernel : (["_law_part"] : List Str).Nodup) rfl (Or.inl rfl)) (fun C s₀ H₀ ex pn h => (B2v (A0 C6 (A0 (G7 (B1f (K := K) rfl) (pv 0) A2 (fun _ _ => rfl)) (A0 (G7 (B1f (K := K) rfl) (pv 0) A2 (fun _ _ => rfl)) (A0 (G7 (B1f (K := K) rfl) (pv 0) A2 (fun _ _ => rfl)) A3))))))) (B8 _)))))))))))))), ?_⟩
   have z2 : 2 <= sizeLine := D6 (by decide)
   have z3 : 3 <= sizeLine := D6 (by decide)
   have z4 : 4 <= sizeLine := D6 (by decide)
   refine ⟨fun σ' H' => ∃ fq v, Same H H' /\ FrAt H' fq v /\ σ' = [some (.ref sc), some (.ref fq), none, none, none, none, none, none, none, none], ?_, ?_⟩
   . exact ⟨_, rfl, sc, ns, 0, rfl, hS, by decide, fun c0 => ⟨c0, 0, rfl, by decide, by decide, fun m m0 _ => ⟨m, rfl, m0, fun r y l m q H' fo s' e => ⟨q, ⟨r, y, l, m⟩, s', ⟨e, fo⟩, rfl⟩⟩⟩⟩
   rintro σ' H1 ⟨fq, v, s1, fr, rfl⟩
   refine ⟨fun σ' H' => ∃ m : Int, H' = H1 /\ 0 <= m /\ σ' = [some (.ref sc), some (.ref fq), some (.int m), none, none, none, none, none, none, none], ⟨_, rfl, sc, ns, 3, rfl, s1.seq hS, by decide, fun c0 => ⟨c0, 3, rfl, by decide, by decide, fun m m0 _ => ⟨m, rfl, m0, rfl⟩⟩⟩, ?_⟩
   rintro σ' H2 ⟨m, rfl, m0, rfl⟩
   refine ⟨fun σ' H' => ∃ pq q1 q2 x1 x2, FrAt H' fq v /\ H' pq = some (.lst [.ref q1, .ref q2]) /\ PartQ H' q1 x1 /\ PartQ H' q2 x2 /\ σ' = [some (.ref sc), some (.ref fq), some (.int m), some (.ref pq), none, none, none, none, none, none], ?_, ?_⟩
   . exact ⟨_, rfl, sc, ns, 1, rfl, s1.seq hS, by decide, fun c1 => ⟨c1, 60, rfl, by decide, by decide, fun x1 q1 H3 k1 o1 _ s3 e1 => ⟨_, rfl, sc, ns, 2, rfl, (s1.trans s3).seq hS, by decide, fun c2 => ⟨c2, 60, rfl, by decide, by decide, fun x2 q2 H4 k2 o2 _ s4 e2 => ⟨z2, fun pq np => ⟨pq, q1, q2, x1, x2, (fr.same (s3.trans s4)).same (Same.upd np), A9, ⟨(s4.trans (Same.upd np)) _ _ e1, k1, o1⟩, ⟨(Same.upd np) _ _ e2, k2, o2⟩, rfl⟩⟩⟩⟩⟩⟩
   clear s1 hS fr
   rintro σ' H3 ⟨pq, q1, q2, x1, x2, fr, ep, p1, p2, rfl⟩
   refine ⟨fun σ' H' => ∃ q2 x2, FrAt H' fq v /\ H' pq = some (.lst [.ref q1, .ref q2]) /\ PartQ H' q1 x1 /\ PartQ H' q2 x2 /\ σ' = [some (.ref sc), some (.ref fq), some (.int m), some (.ref pq), none, none, none, none, none, none], ?_, ?_⟩
   . refine ⟨_, rfl, _, _, rfl, rfl, (by decide : (0 : Int) < 3), rfl, _, rfl, G8 (fun h => ?_) (fun h => ⟨q2, x2, fr, ep, p1, p2, rfl⟩)⟩
     refine ⟨_, ?_, fun _ _ h => h⟩
     refine ⟨_, rfl, pq, _, _, _, rfl, rfl, SqL.of ep, C4 (j := 0) rfl, _, rfl, _, _, rfl, rfl, dv (n := 3) (by decide) (by decide +kernel), q1, x1, m / 3, rfl, p1, Int.ediv_nonneg m0 (by decide), fun z q H' s' pz => ?_⟩
     have ep' := s' _ _ ep
     have tp : ∀ {b : Addr} {xs : List V}, H' b = some (.tup xs) -> (upd H' pq (.lst [.ref q1, .ref q])) b = some (.tup xs) := fun e' => by rw [C8 (A7m e' ep' (by intro z; cases z))]; exact e'
     exact ⟨_, rfl, pq, _, 1, 1, rfl, rfl, ep', rfl, q, z, ⟨tp (s' _ _ fr.e), fr.ok⟩, A9, ⟨tp (s' _ _ p1.e), p1.k, p1.ok⟩, ⟨tp pz.e, pz.k, pz.ok⟩, rfl⟩
   clear fr ep p1 p2 x2
   rintro σ' H4 ⟨q2, x2, fr, ep, p1, p2, rfl⟩
   have o1 := p1.ok; have o2 := p2.ok; have k1 := p1.k; have k2 := p2.k
   refine ⟨fun σ' H' => ∃ lq n1 n2, Base37 CN H' fq pq lq q1 q2 n1 n2 v x1 x2 /\ σ' = [some (.ref sc), some (.ref fq), some (.int m), some (.ref pq), some (.ref lq), none, none, none, none, none], ?_, ?_⟩
   . refine ⟨_, rfl, pq, rfl, ⟨_, SqL.of ep⟩, B1m (J := Itl K pq) (n := 2) (fun i y H' => ∃ n, y = .ref n /\ NumIs CN H' n (U9c x1 x2 i)) (by decide) (fun i y H1 H2 D l h hD e => ?_) (fun i H3 Qy hi sm hy => ⟨⟨_, _, SqL.of (sm _ _ ep), V0f hi⟩, fun x H4 yl => ?_⟩) (fun H3 sm => ⟨_, SqL.of (sm _ _ ep), Nat.le_refl _⟩) (fun D H' ys sm nD eD hlen hR => ?_)⟩
     . obtain ⟨n, rfl, hn⟩ := h
       exact ⟨n, rfl, hn.exc hD e⟩
     . obtain ⟨rfl, yl⟩ := yl
       have ex := (G6j (yl _ (SqL.of (sm _ _ ep)))).2
       subst ex
       rcases (by omega : i = 0 \/ i = 1) with rfl | rfl
       . have e := sm _ _ p1.e
         exact ⟨_, rfl, q1, _, _, _, rfl, rfl, SqT.of e, C4 (j := 0) rfl, _, rfl, q1, _, _, _, rfl, rfl, SqT.of e, C4 (j := 1) rfl, _, rfl, q1, _, _, _, rfl, rfl, SqT.of e, C4 (j := 2) rfl, _, _, _, rfl, .inl ⟨⟨_, rfl, o1.s0, o1.s1⟩, ⟨_, rfl, o1.f0, o1.f1⟩, ⟨_, rfl, o1.p0, o1.p1⟩, fun n H' nn s' num => hy _ _ s' ⟨n, rfl, by show NumIs CN H' n x1; unfold NumIs; rw [k1]; exact num⟩⟩⟩
       . have e := sm _ _ p2.e
         exact ⟨_, rfl, q2, _, _, _, rfl, rfl, SqT.of e, C4 (j := 0) rfl, _, rfl, q2, _, _, _, rfl, rfl, SqT.of e, C4 (j := 1) rfl, _, rfl, q2, _, _, _, rfl, rfl, SqT.of e, C4 (j := 2) rfl, _, _, _, rfl, .inl ⟨⟨_, rfl, o2.s0, o2.s1⟩, ⟨_, rfl, o2.f0, o2.f1⟩, ⟨_, rfl, o2.p0, o2.p1⟩, fun n H' nn s' num => hy _ _ s' ⟨n, rfl, by show NumIs CN H' n x2; unfold NumIs; rw [k2]; exact num⟩⟩⟩
     . obtain ⟨y1, y2, rfl⟩ := Z0s hlen
       obtain ⟨n1, rfl, h1⟩ := hR 0 _ rfl
       obtain ⟨n2, rfl, h2⟩ := hR 1 _ rfl
       exact ⟨D, n1, n2, ⟨fr.same sm, sm _ _ ep, p1.same sm, p2.same sm, eD, h1, h2⟩, rfl⟩
   clear fr ep p1 p2
   rintro σ' H5 ⟨lq, n1, n2, b5, rfl⟩
   have ok := b5.fr.cv
   have pl1 := o1.pl k1
   have pl2 := o2.pl k2
   refine ⟨fun σ' H' => ∃ c a b, Base37 CN H' fq pq lq q1 q2 n1 n2 v x1 x2 /\ CtxV CC H' c v a b [] [] /\ n1 ≠ c /\ n2 ≠ c /\ σ' = [some (.ref sc), some (.ref fq), some (.int m), some (.ref pq), some (.ref lq), some (.ref c), none, none, none, none], ?_, ?_⟩
   . refine ⟨_, rfl, fq, v.r, v.y, v.l, v.m, rfl, b5.fr.e, b5.fr.ok, fun c a b H' nc s' hc => ⟨c, a, b, b5.same s', hc, ?_, ?_, rfl⟩⟩
     . obtain ⟨dx, e⟩ := b5.m1; exact D0 e nc
     . obtain ⟨dx, e⟩ := b5.m2; exact D0 e nc
   clear b5
   rintro σ' H6 ⟨c, a, b, b6, hc6, nc1, nc2, rfl⟩
   refine ⟨fun σ' H' => ∃ dq f1 f2, Base37 CN H' fq pq lq q1 q2 n1 n2 v x1 x2 /\ H' dq = some (.lst [.ref f1, .ref f2]) /\ NumIs CN H' f1 (rdR v x1).1 /\ NumIs CN H' f2 (rdR v x2).1 /\ σ' = [some (.ref sc), some (.ref fq), some (.int m), some (.ref pq), some (.ref lq), some (.ref c), some (.ref dq), none, none, none], ?_, ?_⟩
   . refine ⟨_, rfl, lq, rfl, ⟨_, SqL.of b6.el⟩, fun D nD => ?_⟩
     have Dp : pq ≠ D := D0 b6.ep nD
     have Dl : lq ≠ D := D0 b6.el nD
     have Db : b ≠ D := D0 hc6.hb nD
     refine ⟨2, fun i ys H' => Base37 CN H' fq pq lq q1 q2 n1 n2 v x1 x2 /\ H' D = some (.lst ys) /\ ((i = 0 /\ ys = [] /\ ∃ a, a ≠ D /\ CtxV CC H' c v a b [] []) \/ (i = 1 /\ ∃ f1 a xs, ys = [.ref f1] /\ NumIs CN H' f1 (rdR v x1).1 /\ f1 ≠ c /\ a ≠ D /\ xs.length <= 900 /\ A3z xs = xs /\ CtxV CC H' c v a b xs []) \/ (i = 2 /\ ∃ f1 f2, ys = [.ref f1, .ref f2] /\ NumIs CN H' f1 (rdR v x1).1 /\ NumIs CN H' f2 (rdR v x2).1)), ?_, ?_⟩
     . exact ⟨b6.same (Same.upd nD), A9, .inl ⟨rfl, rfl, a, D0 hc6.ha nD, hc6.same (Same.upd nD)⟩⟩
     . have one1 : 1 < sizeLine := D6 (by decide)
       rintro i ys H' ⟨b', eD, h⟩
       rcases h with ⟨rfl, rfl, a0, nad, hc'⟩ | ⟨rfl, f1', a0, xs, rfl, r1, nf, nad, lx, ox, hc'⟩ | ⟨rfl, f1', f2', rfl, r1, r2⟩
       . obtain ⟨dx, ec⟩ := hc'.ins
         refine ⟨by decide, eD, .inr ⟨by decide, ⟨_, _, SqL.of b'.el, V0f (by decide)⟩, fun x H3 yl => ?_⟩⟩
         obtain ⟨rfl, yl⟩ := yl
         have ex := (G6j (yl _ (SqL.of b'.el))).2
         subst ex
         refine ⟨_, rfl, _, rfl, c, v, a0, b, [], [], .ref n1, rfl, hc', ok, Nat.zero_le _, by decide +kernel, .inl ⟨n1, x1, ldN x1, rfl, b'.m1, o1, A8c o1, fun _ fm a' H6 nw x' ct nm => ?_, fun z hz => nomatch hz⟩⟩
         have e6 := x' _ _ eD (A7m eD ec (by intro z; cases z))
         have ex1 : G6n D H6 (upd H6 D (.lst ([] ++ [.ref fm]))) := fun b o e hb => by rw [C8 hb]; exact e
         have nA : a' ≠ D := nw D (by rw [eD]; intro z; cases z) fun a9 h9 => by rw [hc'.uniq h9]; exact nad
         exact ⟨e6, D6 (by decide), (b'.exc x' ec nc1 nc2).list e6 ex1 Dp Dl, A9, .inr (.inl ⟨rfl, fm, a', _, rfl, nm.exc e6 ex1, Z0c nm ct, nA, Nat.le_trans (List.length_filter_le _ _) (by decide +kernel), U8q _, ct.list e6 ex1 nA Db⟩)⟩
       . obtain ⟨dx, ec⟩ := hc'.ins
         refine ⟨by decide, eD, .inr ⟨by decide, ⟨_, _, SqL.of b'.el, V0f (by decide)⟩, fun x H3 yl => ?_⟩⟩
         obtain ⟨rfl, yl⟩ := yl
         have ex := (G6j (yl _ (SqL.of b'.el))).2
         subst ex
         refine ⟨_, rfl, _, rfl, c, v, a0, b, xs, [], .ref n2, rfl, hc', ok, lx, ox, .inl ⟨n2, x2, ldN x2, rfl, b'.m2, o2, A8c o2, fun _ fm a' H6 nw x' ct nm => ?_, fun z hz => nomatch hz⟩⟩
         have e6 := x' _ _ eD (A7m eD ec (by intro z; cases z))
         have ex1 : G6n D H6 (upd H6 D (.lst ([.ref f1'] ++ [.ref fm]))) := fun b o e hb => by rw [C8 hb]; exact e
         have r6 : NumIs CN H6 f1' (rdR v x1).1 := by obtain ⟨d1, e1⟩ := r1; exact ⟨d1, x' _ _ e1 nf⟩
         exact ⟨e6, one1, (b'.exc x' ec nc1 nc2).list e6 ex1 Dp Dl, A9, .inr (.inr ⟨rfl, f1', fm, rfl, r6.exc e6 ex1, nm.exc e6 ex1⟩)⟩
       . exact ⟨by decide, eD, .inl ⟨⟨_, SqL.of b'.el, Nat.le_refl _⟩, D, f1', f2', b', eD, r1, r2, rfl⟩⟩
   clear b6 hc6
   rintro σ' H7 ⟨dq, f1', f2', b7, ed, r1, r2, rfl⟩
   have d1 := C2u ok pl1
   have d2 := C2u ok pl2
   have r91 := C6v pl1.s0 pl1.s1 d1.2.1
   have r92 := C6v pl2.s0 pl2.s1 d2.2.1
   refine ⟨fun σ' H' => Same H7 H' /\ σ' = [some (.ref sc), some (.ref fq), some (.int m), some (.ref pq), some (.ref lq), some (.ref c), some (.ref dq), some (.int (U3 (sv x1) (sv x2))), none, none], ?_, ?_⟩
   . refine ⟨_, rfl, lq, _, _, _, rfl, rfl, SqL.of b7.el, C4 (j := 0) rfl, _, rfl, lq, _, _, _, rfl, rfl, SqL.of b7.el, C4 (j := 1) rfl, _, _, rfl, .inl ⟨n1, n2, x1, x2, rfl, rfl, b7.m1, b7.m2, o1, o2, fun H' s' => ?_⟩⟩
     rw [A5d (.inl pl1) (.inl pl2)]
     exact ⟨s', rfl⟩
   rintro σ' H8 ⟨s8, rfl⟩
   have b8 := b7.same s8
   have ed8 := s8 _ _ ed
   have r18 := r1.same s8
   have r28 := r2.same s8
   refine ⟨fun σ' H' => Same H8 H' /\ σ' = [some (.ref sc), some (.ref fq), some (.int m), some (.ref pq), some (.ref lq), some (.ref c), some (.ref dq), some (.int (U3 (sv x1) (sv x2))), none, none], ?_, ?_⟩
   . have s0 : Same H8 H8 := fun _ _ q => q
     refine ⟨_, rfl, _, _, rfl, rfl, _, rfl, G8 (fun h1 => ?_) (fun h1 => ?_)⟩
     . have h1 : U3 (sv x1) (sv x2) < 1 := h1
       refine ⟨_, rfl, dq, _, _, _, rfl, rfl, SqL.of ed8, C4 (j := 0) rfl, _, rfl, dq, _, _, _, rfl, rfl, SqL.of ed8, C4 (j := 1) rfl, _, _, rfl, .inl ⟨f1', f2', _, _, rfl, rfl, r18, r28, r91.okN ok, r92.okN ok, fun H' s' => ?_⟩⟩
       rw [A5d (r91.pe ok) (r92.pe ok)]
       refine ⟨rfl, _, rfl, G8 (fun h3 => ?_) (fun h3 => ?_)⟩
       . exact absurd (ord_gt.mp (V.int.inj h3)) (by have := D2e ok pl1 pl2 (Y9w h1); omega)
       . refine ⟨_, rfl, _, rfl, _, _, rfl, rfl, _, rfl, G8 (fun h2 => ?_) (fun h2 => ⟨s', rfl⟩)⟩
         have h2 : -1 < U3 (sv x1) (sv x2) := h2
         refine ⟨_, rfl, dq, _, _, _, rfl, rfl, SqL.of (s' _ _ ed8), C4 (j := 0) rfl, _, rfl, dq, _, _, _, rfl, rfl, SqL.of (s' _ _ ed8), C4 (j := 1) rfl, _, _, rfl, .inl ⟨f1', f2', _, _, rfl, rfl, r18.same s', r28.same s', r91.okN ok, r92.okN ok, fun H'' s'' => ?_⟩⟩
         rw [A5d (r91.pe ok) (r92.pe ok)]
         refine ⟨_, rfl, rfl, _, rfl, G8 (fun h3 => ?_) (fun h3 => ⟨s'.trans s'', rfl⟩)⟩
         exact absurd (ord_m1.mp (V.int.inj h3)) (by have := D2e ok pl2 pl1 (U8v h2); omega)
     . refine ⟨_, rfl, _, rfl, _, _, rfl, rfl, _, rfl, G8 (fun h2 => ?_) (fun h2 => ⟨s0, rfl⟩)⟩
       have h2 : -1 < U3 (sv x1) (sv x2) := h2
       refine ⟨_, rfl, dq, _, _, _, rfl, rfl, SqL.of (s0 _ _ ed8), C4 (j := 0) rfl, _, rfl, dq, _, _, _, rfl, rfl, SqL.of (s0 _ _ ed8), C4 (j := 1) rfl, _, _, rfl, .inl ⟨f1', f2', _, _, rfl, rfl, r18.same s0, r28.same s0, r91.okN ok, r92.okN ok, fun H'' s'' => ?_⟩⟩
       rw [A5d (r91.pe ok) (r92.pe ok)]
       refine ⟨_, rfl, rfl, _, rfl, G8 (fun h3 => ?_) (fun h3 => ⟨s0.trans s'', rfl⟩)⟩
       exact absurd (ord_m1.mp (V.int.inj h3)) (by have := D2e ok pl2 pl1 (U8v h2); omega)
   rintro σ' H9 ⟨s9, rfl⟩
   have b9 := b8.same s9
   have ed9 := s9 _ _ ed8
   have r19 := r18.same s9
   have r29 := r28.same s9
   clear b7 b8 ed ed8 r1 r2 r18 r28 s8 s9
   refine ⟨fun σ' H' => ∃ v8 v9, Same H9 H' /\ σ' = [some (.ref sc), some (.ref fq), some (.int m), some (.ref pq), some (.ref lq), some (.ref c), some (.ref dq), some (.int (U3 (sv x1) (sv x2))), v8, v9], ?_, ?_⟩
   . refine ⟨_, rfl, _, rfl, lq, dq, rfl, ⟨_, SqL.of b9.el⟩, ⟨_, SqL.of ed9⟩, Y4f (xs := [.ref n1, .ref n2]) (ys := [.ref f1', .ref f2']) (fun i σ' H' => ∃ v8 v9, Same H9 H' /\ σ' = [some (.ref sc), some (.ref fq), some (.int m), some (.ref pq), some (.ref lq), some (.ref c), some (.ref dq), some (.int (U3 (sv x1) (sv x2))), v8, v9]) ⟨none, none, fun _ _ q => q, rfl⟩ rfl ?_ ?_ (fun _ _ q => q)⟩
     . rintro i σ' H' _ ⟨v8, v9, s', rfl⟩
       exact ⟨SqL.of (s' _ _ b9.el), SqL.of (s' _ _ ed9)⟩
     . rintro i y z σ' H10 t hy hz ⟨v8, v9, s10, rfl⟩ nt
       obtain ⟨n, fm, x, rfl, rfl, hn, hf, xk, xo⟩ : ∃ n fm x, y = .ref n /\ z = .ref fm /\ NumIs CN H9 n x /\ NumIs CN H9 fm (rdR v x).1 /\ x.k = .plain /\ x.Ok := by
         have gy := G6j hy
         have gz := G6j hz
         rcases (by omega : i = 0 \/ i = 1) with rfl | rfl
         . exact ⟨n1, f1', x1, gy.2, gz.2, b9.m1, r19, k1, o1⟩
         . exact ⟨n2, f2', x2, gy.2, gz.2, b9.m2, r29, k2, o2⟩
       have pl := xo.pl xk
       have x9 := C6v pl.s0 pl.s1 (C2u ok pl).2.1
       have s11 := s10.trans (Same.upd (o := .tup [.ref n, .ref fm]) nt)
       have et : upd H10 t (.tup [.ref n, .ref fm]) t = some (.tup [.ref n, .ref fm]) := A9
       generalize upd H10 t (.tup [.ref n, .ref fm]) = H11 at s11 et ⊢
       refine ⟨t, _, rfl, SqT.of et, rfl, _, _, rfl, _, _, rfl, rfl, ?_⟩
       refine ⟨fun σ' H' => Same H11 H' /\ σ' = [some (.ref sc), some (.ref fq), some (.int m), some (.ref pq), some (.ref lq), some (.ref c), some (.ref dq), some (.int (U3 (sv x1) (sv x2))), some (.ref n), some (.ref fm)], ?_, ?_⟩
       . exact ⟨_, rfl, _, rfl, fq, fm, v, _, rfl, b9.fr.same s11, hf.same s11, x9, fun H' s' => ⟨_, rfl, U4 ⟨s', rfl⟩⟩⟩
       rintro σ' H12 ⟨s12, rfl⟩
       have s12 := s11.trans s12
       refine ⟨fun σ' H' => Same H12 H' /\ σ' = [some (.ref sc), some (.ref fq), some (.int m), some (.ref pq), some (.ref lq), some (.ref c), some (.ref dq), some (.int (U3 (sv x1) (sv x2))), some (.ref n), some (.ref fm)], ?_, ?_⟩
       . obtain ⟨dx, e⟩ := hf.same s12
         refine ⟨_, rfl, fm, CN, dx, _, _, rfl, e, N.cl, N.n1, C2f _ _ _ _, rfl, _, rfl, G8 (fun h => ?_) (fun h => ⟨fun _ _ q => q, rfl⟩)⟩
         have gr : Gr v (rdR v x).1 := by
           rcases x9 with g | ⟨g, _⟩
           . exact g
           . rw [g] at h
             have h : V.str (Kd.str .end_) = V.str "plain" := h
             exact absurd h (by decide +kernel)
         exact ⟨_, rfl, _, rfl, fq, fm, v, _, rfl, b9.fr.same s12, hf.same s12, gr, fun H' s' => ⟨_, rfl, U4 ⟨s', rfl⟩⟩⟩
       rintro σ' H13 ⟨s13, rfl⟩
       have s13 := s12.trans s13
       refine ⟨_, ?_, fun _ _ h => h⟩
       exact ⟨_, rfl, _, rfl, _, rfl, _, rfl, _, _, rfl, rfl, dv (n := 18) (by decide) (by decide +kernel), fq, n, fm, v, x, m / 18, rfl, b9.fr.same s13, hn.same s13, hf.same s13, xk, xo, fun H' s' => ⟨_, rfl, U4 ⟨_, _, s13.trans s', rfl⟩⟩⟩
   rintro σ' H10 ⟨v8, v9, s10, rfl⟩
   have b14 := b9.same s10
   refine ⟨_, rfl, lq, rfl, ⟨_, SqL.of b14.el⟩, B1m (J := Itl K lq) (n := 2) (fun i y H' => ∃ t, y = .ref t /\ H' t = some (.tup (U9c x1 x2 i).vs)) (by decide) (fun i y H1 H2 D l h hD e => ?_) (fun i H3 Qy hi sm hy => ⟨⟨_, _, SqL.of (sm _ _ b14.el), V0f hi⟩, fun x H4 yl => ?_⟩) (fun H3 sm => ⟨_, SqL.of (sm _ _ b14.el), Nat.le_refl _⟩) (fun D H' ys sm nD eD hlen hR => ?_)⟩
   . obtain ⟨t, rfl, hn⟩ := h
     exact ⟨t, rfl, e _ _ hn (A7m hn hD (by intro z; cases z))⟩
   . obtain ⟨rfl, yl⟩ := yl
     have ex := (G6j (yl _ (SqL.of (sm _ _ b14.el)))).2
     subst ex
     rcases (by omega : i = 0 \/ i = 1) with rfl | rfl
     . exact ⟨_, rfl, _, rfl, .inl ⟨n1, _, _, _, _, rfl, b14.m1.same sm, fun t nt => hy _ _ (Same.upd nt) ⟨t, rfl, A9⟩⟩⟩
     . exact ⟨_, rfl, _, rfl, .inl ⟨n2, _, _, _, _, rfl, b14.m2.same sm, fun t nt => hy _ _ (Same.upd nt) ⟨t, rfl, A9⟩⟩⟩
   obtain ⟨y1, y2, rfl⟩ := Z0s hlen
   obtain ⟨t1', rfl, g1⟩ := hR 0 _ rfl
   obtain ⟨t2', rfl, g2⟩ := hR 1 _ rfl
   have b15 := b14.same sm
   clear hR
   refine ⟨_, rfl, pq, rfl, ⟨_, SqL.of b15.ep⟩, B1m (J := Itl K pq) (n := 2) (fun i y H' => ∃ t, y = .ref t /\ H' t = some (.tup (U9c x1 x2 i).vs)) (by decide) (fun i y H1 H2 D l h hD e => ?_) (fun i H3 Qy hi sm hy => ⟨⟨_, _, SqL.of (sm _ _ b15.ep), V0f hi⟩, fun x H4 yl => ?_⟩) (fun H3 sm => ⟨_, SqL.of (sm _ _ b15.ep), Nat.le_refl _⟩) (fun D2 H2 ys sm2 nD2 eD2 hlen2 hR => ?_)⟩
   . obtain ⟨t, rfl, hn⟩ := h
     exact ⟨t, rfl, e _ _ hn (A7m hn hD (by intro z; cases z))⟩
   . obtain ⟨rfl, yl⟩ := yl
     have ex := (G6j (yl _ (SqL.of (sm _ _ b15.ep)))).2
     subst ex
     rcases (by omega : i = 0 \/ i = 1) with rfl | rfl
     . have e := sm _ _ b15.a1.e
       exact ⟨_, rfl, q1, _, _, _, rfl, rfl, SqT.of e, C4 (j := 0) rfl, _, rfl, q1, _, _, _, rfl, rfl, SqT.of e, C4 (j := 1) rfl, _, rfl, q1, _, _, _, rfl, rfl, SqT.of e, C4 (j := 2) rfl, z4, fun t nt => hy _ _ (Same.upd nt) ⟨t, rfl, by show upd H4 t _ t = some (.tup x1.vs); unfold Nm.vs; rw [k1]; exact A9⟩⟩
     . have e := sm _ _ b15.a2.e
       exact ⟨_, rfl, q2, _, _, _, rfl, rfl, SqT.of e, C4 (j := 0) rfl, _, rfl, q2, _, _, _, rfl, rfl, SqT.of e, C4 (j := 1) rfl, _, rfl, q2, _, _, _, rfl, rfl, SqT.of e, C4 (j := 2) rfl, z4, fun t nt => hy _ _ (Same.upd nt) ⟨t, rfl, by show upd H4 t _ t = some (.tup x2.vs); unfold Nm.vs; rw [k2]; exact A9⟩⟩
   obtain ⟨y1, y2, rfl⟩ := Z0s hlen2
   obtain ⟨u1, rfl, e1⟩ := hR 0 _ rfl
   obtain ⟨u2, rfl, e2⟩ := hR 1 _ rfl
   refine ⟨C6u x1 x2, C6u x1 x2, rd2 (sm2 _ _ eD) (sm2 _ _ g1) (sm2 _ _ g2), rd2 eD2 e1 e2, sh2 _ _, sh2 _ _, ?_⟩
   show Q (.bl (PyData.eqv (C6u x1 x2) (C6u x1 x2))) _
   rw [eq2]
   exact kk _
end
end TR
namespace TR
open PySem L2 PySem.W PyProof.Rows
theorem all_mk {l : OpenLaw} {w : World} {K : Frag} {h : Heap} {mg : Str -> Option Value} {fa CW W0 A4f W1 A4h W2 A4d W3 A4j W4 A4b W5 A4c W6 A4g W7 A4e CN D1h Z2 A0z Z5 A1d Z9 A1b Z3 A1a Z1 A0v Z8 A0y Z4 A1c Z6 A0w CC D1q Y0c A2u A1e A9j A0x CQ D1n V7c A0e B1p CE C1 C2 C3 CR fX aS A9h D6a C3j D5z D3v Y2x B6p J3z J0r D9y B4d D4y B7x V7q B7b B9p C4g B8q B0q C6n C4u D7x D6d B9b B9t C4h B9c B4e G8u G1c D7s B6f G1g D8f C4e C5u B7j B6c C5c J3u D5p J3x J5x C5r G8v C4j D3c D4z D9e G1p C5d V5m : Addr} (X : K.In h) (G : h.Ns mainGlobals mg) (hfa : mg "law" = some (.ref fa))
   {G1w G1h : Option Addr} {D8a : Array (Option Value)} {D5v D8n D5r G0c B4z D4f : Value}
   (A9u : nsIn K mainGlobals "product_of" = some (some (.ref A9h))) (A9d : K.lookup A9h = some ⟨D5v, G1w, .func (fnOf "product_of" "product_of" (A8 Y2) (A7 Y2) (A1 Y2) .none D8n D5r G0c G1h B4z D4f), D8a⟩) (A8k : codeIn K B4z "product_of" = true) (A8t : keepIn K (.ref A9h) = true)
   {V5y Y1n : Option Addr} {V5q : Array (Option Value)} {V2c V0p V7z V5r G3y V8q : Value}
   (D6z : nsIn K mainGlobals "ten_to" = some (some (.ref D6a))) (D5g : K.lookup D6a = some ⟨V2c, V5y, .func (fnOf "ten_to" "ten_to" (A8 A0c) (A7 A0c) (A1 A0c) .none V0p V7z V5r Y1n G3y V8q), V5q⟩) (D9a : codeIn K G3y "ten_to" = true) (D8r : keepIn K (.ref D6a) = true)
   {U5t U3m : Option Addr} {U3c : Array (Option Value)} {U2b U4b U6f U6a D1v U2e : Value}
   (C3q : nsIn K mainGlobals "part_of" = some (some (.ref C3j))) (C4q : K.lookup C3j = some ⟨U2b, U5t, .func (fnOf "part_of" "part_of" (A8 A4m) (A7 A4m) (A1 A4m) .none U4b U6f U6a U3m D1v U2e), U3c⟩) (C6b : codeIn K D1v "part_of" = true) (C5b : keepIn K (.ref C3j) = true)
   {V9g Y0b : Option Addr} {V8a : Array (Option Value)} {V8u V1u Y1v Y3s G4n Y2t : Value}
   (G1j : nsIn K mainGlobals "whole_lead" = some (some (.ref D5z))) (D6h : K.lookup D5z = some ⟨V8u, V9g, .func (fnOf "whole_lead" "whole_lead" (A8 A7z) (A7 A7z) (A1 A7z) .none V1u Y1v Y3s Y0b G4n Y2t), V8a⟩) (D4r : codeIn K G4n "whole_lead" = true) (D9k : keepIn K (.ref D5z) = true)
   {V8v Y2h : Option Addr} {V4u : Array (Option Value)} {V6x V7g V7w V3w G3x V1j : Value}
   (D9m : nsIn K mainGlobals "plain" = some (some (.ref D3v))) (D4v : K.lookup D3v = some ⟨V6x, V8v, .func (fnOf "plain" "plain" (A8 B2p) (A7 B2p) (A1 B2p) .none V7g V7w V3w Y2h G3x V1j), V4u⟩) (D5c : codeIn K G3x "plain" = true) (D9n : keepIn K (.ref D3v) = true)
   {Z2k Z3r : Option Addr} {Z3h : Array (Option Value)} {Z3b Z3q Z3e Z4b Y2n Z1y : Value}
   (V3e : nsIn K mainGlobals "end" = some (some (.ref Y2x))) (V6v : K.lookup Y2x = some ⟨Z3b, Z2k, .func (fnOf "end" "end" (A8 G2j) (A7 G2j) (A1 G2j) .none Z3q Z3e Z4b Z3r Y2n Z1y), Z3h⟩) (V9m : codeIn K Y2n "end" = true) (Y0d : keepIn K (.ref Y2x) = true)
   {J6c J0b : Option Addr} {G8s : Array (Option Value)} {J2f G9j J4c J4j C3k G8g : Value}
   (C0a : nsIn K mainGlobals "nothing" = some (some (.ref B6p))) (B7s : K.lookup B6p = some ⟨J2f, J6c, .func (fnOf "nothing" "nothing" (A8 A2g) (A7 A2g) (A1 A2g) .none G9j J4c J4j J0b C3k G8g), G8s⟩) (B8f : codeIn K C3k "nothing" = true) (B7c : keepIn K (.ref B6p) = true)
   {Y8r Y6r : Option Addr} {Y7f : Array (Option Value)} {Y7p Y8f Y7r Y7j J8x Y8v : Value}
   (J2c : nsIn K mainGlobals "told" = some (some (.ref J3z))) (J2z : K.lookup J3z = some ⟨Y7p, Y8r, .func (fnOf "told" "told" (A8 C0h) (A7 C0h) (A1 C0h) .none Y8f Y7r Y7j Y6r J8x Y8v), Y7f⟩) (G9n : codeIn K J8x "told" = true) (J1t : keepIn K (.ref J3z) = true)
   {Y8d Y8p : Option Addr} {Y8b : Array (Option Value)} {Y8e Y7a Y6u Y8q J9d Y7t : Value}
   (J3q : nsIn K mainGlobals "lead_of" = some (some (.ref J0r))) (J5h : K.lookup J0r = some ⟨Y8e, Y8d, .func (fnOf "lead_of" "lead_of" (A8 C1j) (A7 C1j) (A1 C1j) .none Y7a Y6u Y8q Y8p J9d Y7t), Y8b⟩) (J6n : codeIn K J9d "lead_of" = true) (G9t : keepIn K (.ref J0r) = true)
   {V3s Y2u : Option Addr} {Y2e : Array (Option Value)} {V9a V5j V1h Y2v G5d Y0r : Value}
   (D7u : nsIn K mainGlobals "need_number" = some (some (.ref D9y))) (D3n : K.lookup D9y = some ⟨V9a, V3s, .func (fnOf "need_number" "need_number" (A8 A2m) (A7 A2m) (A1 A2m) .none V5j V1h Y2v Y2u G5d Y0r), Y2e⟩) (D7y : codeIn K G5d "need_number" = true) (D8q : keepIn K (.ref D9y) = true)
   {G5k G5v : Option Addr} {G6d : Array (Option Value)} {G3v G5m G4c G3t C0m G5p : Value}
   (B3j : nsIn K mainGlobals "need_numbers" = some (some (.ref B4d))) (B3x : K.lookup B4d = some ⟨G3v, G5k, .func (fnOf "need_numbers" "need_numbers" (A8 A4n) (A7 A4n) (A1 A4n) .none G5m G4c G3t G5v C0m G5p), G6d⟩) (B3r : codeIn K C0m "need_numbers" = true) (B4g : keepIn K (.ref B4d) = true)
   {V7f Y1w : Option Addr} {V3z : Array (Option Value)} {Y2q Y1h V2v V1d G3r V6u : Value}
   (D7p : nsIn K mainGlobals "some_of_kind" = some (some (.ref D4y))) (D9g : K.lookup D4y = some ⟨Y2q, V7f, .func (fnOf "some_of_kind" "some_of_kind" (A8 B2y) (A7 B2y) (A1 B2y) .none Y1h V2v V1d Y1w G3r V6u), V3z⟩) (D7v : codeIn K G3r "some_of_kind" = true) (D8e : keepIn K (.ref D4y) = true)
   {J3w J0t : Option Addr} {J5u : Array (Option Value)} {J7b J3r J1r J1x C3m J3a : Value}
   (B6s : nsIn K mainGlobals "whole_at" = some (some (.ref B7x))) (B6g : K.lookup B7x = some ⟨J7b, J3w, .func (fnOf "whole_at" "whole_at" (A8 A0p) (A7 A0p) (A1 A0p) .none J3r J1r J1x J0t C3m J3a), J5u⟩) (B8p : codeIn K C3m "whole_at" = true) (B8x : keepIn K (.ref B7x) = true)
   {Z1u Z3v : Option Addr} {Z2z : Array (Option Value)} {Z3m Z2h Z2e Z2j V6f Z3z : Value}
   (Y0s : nsIn K mainGlobals "is_between" = some (some (.ref V7q))) (V9d : K.lookup V7q = some ⟨Z3m, Z1u, .func (fnOf "is_between" "is_between" (A8 C6w) (A7 C6w) (A1 C6w) .none Z2h Z2e Z2j Z3v V6f Z3z), Z2z⟩) (V4v : codeIn K V6f "is_between" = true) (V5w : keepIn K (.ref V7q) = true)
   {J5g J4h : Option Addr} {J6y : Array (Option Value)} {G8n G8y J1m J0d C3d G8w : Value}
   (B9j : nsIn K mainGlobals "need_between" = some (some (.ref B7b))) (B7z : K.lookup B7b = some ⟨G8n, J5g, .func (fnOf "need_between" "need_between" (A8 A0t) (A7 A0t) (A1 A0t) .none G8y J1m J0d J4h C3d G8w), J6y⟩) (B8g : codeIn K C3d "need_between" = true) (B9v : keepIn K (.ref B7b) = true)
   {J1a J3s : Option Addr} {J0v : Array (Option Value)} {J1f G9c J5r J5t C5x J3e : Value}
   (B8v : nsIn K mainGlobals "settled" = some (some (.ref B9p))) (B6e : K.lookup B9p = some ⟨J1f, J1a, .func (fnOf "settled" "settled" (A8 A2k) (A7 A2k) (A1 A2k) .none G9c J5r J5t J3s C5x J3e), J0v⟩) (B8t : codeIn K C5x "settled" = true) (B7m : keepIn K (.ref B9p) = true)
   {U2d U5e : Option Addr} {U4q : Array (Option Value)} {U5r U4c U5p U3k D1k U2j : Value}
   (C6q : nsIn K mainGlobals "finest_power" = some (some (.ref C4g))) (C3y : K.lookup C4g = some ⟨U5r, U2d, .func (fnOf "finest_power" "finest_power" (A8 A0j) (A7 A0j) (A1 A0j) .none U4c U5p U3k U5e D1k U2j), U4q⟩) (C3x : codeIn K D1k "finest_power" = true) (C4k : keepIn K (.ref C4g) = true)
   {J4e G9w : Option Addr} {J6k : Array (Option Value)} {J4m J0j G9b J3n C4r G8j : Value}
   (B7v : nsIn K mainGlobals "nearest_to" = some (some (.ref B8q))) (B7g : K.lookup B8q = some ⟨J4m, J4e, .func (fnOf "nearest_to" "nearest_to" (A8 A0s) (A7 A0s) (A1 A0s) .none J0j G9b J3n G9w C4r G8j), J6k⟩) (B9u : codeIn K C4r "nearest_to" = true) (B9x : keepIn K (.ref B8q) = true)
   {G0v G0d : Option Addr} {D4n : Array (Option Value)} {D6f G0s D4e D6r B5d D9q : Value}
   (A9k : nsIn K mainGlobals "neighbour" = some (some (.ref B0q))) (A9g : K.lookup B0q = some ⟨D6f, G0v, .func (fnOf "neighbour" "neighbour" (A8 V5) (A7 V5) (A1 V5) .none G0s D4e D6r G0d B5d D9q), D4n⟩) (A9n : codeIn K B5d "neighbour" = true) (B0n : keepIn K (.ref B0q) = true)
   {U5x U2v : Option Addr} {U5w : Array (Option Value)} {U3w U3q U1v U2s D2a U2w : Value}
   (C4n : nsIn K mainGlobals "within_room" = some (some (.ref C6n))) (C4s : K.lookup C6n = some ⟨U3w, U5x, .func (fnOf "within_room" "within_room" (A8 A1s) (A7 A1s) (A1 A1s) .none U3q U1v U2s U2v D2a U2w), U5w⟩) (C3g : codeIn K D2a "within_room" = true) (C2z : keepIn K (.ref C6n) = true)
   {U2q U5f : Option Addr} {U1w : Array (Option Value)} {U2m U3x U3t U2y D1g U1y : Value}
   (C6k : nsIn K mainGlobals "is_beyond" = some (some (.ref C4u))) (C3n : K.lookup C4u = some ⟨U2m, U2q, .func (fnOf "is_beyond" "is_beyond" (A8 A1n) (A7 A1n) (A1 A1n) .none U3x U3t U2y U5f D1g U1y), U1w⟩) (C6h : codeIn K D1g "is_beyond" = true) (C5w : keepIn K (.ref C4u) = true)
   {V9v V0x : Option Addr} {Y1z : Array (Option Value)} {Y2b V2u Y3r V7b G4h V3j : Value}
   (D8u : nsIn K mainGlobals "burst" = some (some (.ref D7x))) (D8d : K.lookup D7x = some ⟨Y2b, V9v, .func (fnOf "burst" "burst" (A8 A7v) (A7 A7v) (A1 A7v) .none V2u Y3r V7b V0x G4h V3j), Y1z⟩) (D8x : codeIn K G4h "burst" = true) (D8w : keepIn K (.ref D7x) = true)
   {V3h V9f : Option Addr} {V6a : Array (Option Value)} {V0y V9j V1v Y3m G6b Y1r : Value}
   (G0z : nsIn K mainGlobals "nines" = some (some (.ref D6d))) (G1a : K.lookup D6d = some ⟨V0y, V3h, .func (fnOf "nines" "nines" (A8 A3n) (A7 A3n) (A1 A3n) .none V9j V1v Y3m V9f G6b Y1r), V6a⟩) (D4c : codeIn K G6b "nines" = true) (D7q : keepIn K (.ref D6d) = true)
   {J4n G8m : Option Addr} {J6z : Array (Option Value)} {J0c J2v J5e J0f C4c J0g : Value}
   (B7y : nsIn K mainGlobals "signals_of_rest" = some (some (.ref B9b))) (B6m : K.lookup B9b = some ⟨J0c, J4n, .func (fnOf "signals_of_rest" "signals_of_rest" (A8 A2f) (A7 A2f) (A1 A2f) .none J2v J5e J0f G8m C4c J0g), J6z⟩) (B9s : codeIn K C4c "signals_of_rest" = true) (B8m : keepIn K (.ref B9b) = true)
   {J1w J2j : Option Addr} {J0e : Array (Option Value)} {J2e J2u J1z J2n C6e J1k : Value}
   (B7t : nsIn K mainGlobals "signals_of_lead" = some (some (.ref B9t))) (B9y : K.lookup B9t = some ⟨J2e, J1w, .func (fnOf "signals_of_lead" "signals_of_lead" (A8 A2h) (A7 A2h) (A1 A2h) .none J2u J1z J2n J2j C6e J1k), J0e⟩) (B8y : codeIn K C6e "signals_of_lead" = true) (B6n : keepIn K (.ref B9t) = true)
   {U3z U6e : Option Addr} {U3s : Array (Option Value)} {U1z U3h U4f U6c D1s U3p : Value}
   (C4b : nsIn K mainGlobals "nought" = some (some (.ref C4h))) (C6m : K.lookup C4h = some ⟨U1z, U3z, .func (fnOf "nought" "nought" (A8 A3a) (A7 A3a) (A1 A3a) .none U3h U4f U6c U6e D1s U3p), U3s⟩) (C6f : codeIn K D1s "nought" = true) (C4f : keepIn K (.ref C4h) = true)
   {J4g J1n : Option Addr} {J6w : Array (Option Value)} {J7c J3g J5v G8h C5k J4d : Value}
   (B6v : nsIn K mainGlobals "rounded" = some (some (.ref B9c))) (B6q : K.lookup B9c = some ⟨J7c, J4g, .func (fnOf "rounded" "rounded" (A8 A0u) (A7 A0u) (A1 A0u) .none J3g J5v G8h J1n C5k J4d), J6w⟩) (B6w : codeIn K C5k "rounded" = true) (B9n : keepIn K (.ref B9c) = true)
   {G4v G3z : Option Addr} {G6e : Array (Option Value)} {G5c G3s G4k G4b C0p G5q : Value}
   (B3v : nsIn K mainGlobals "compared" = some (some (.ref B4e))) (B3f : K.lookup B4e = some ⟨G5c, G4v, .func (fnOf "compared" "compared" (A8 V8) (A7 V8) (A1 V8) .none G3s G4k G4b G3z C0p G5q), G6e⟩) (B3q : codeIn K C0p "compared" = true) (B3e : keepIn K (.ref B4e) = true)
   {Y6k Y6t : Option Addr} {Y7w : Array (Option Value)} {Y7z Y6j Y8a Y7q J9k Y7n : Value}
   (J3m : nsIn K mainGlobals "side_of" = some (some (.ref G8u))) (J5z : K.lookup G8u = some ⟨Y7z, Y6k, .func (fnOf "side_of" "side_of" (A8 C1u) (A7 C1u) (A1 C1u) .none Y6j Y8a Y7q Y6t J9k Y7n), Y7w⟩) (J1q : codeIn K J9k "side_of" = true) (J5q : keepIn K (.ref G8u) = true)
   {V5p Y0j : Option Addr} {V8g : Array (Option Value)} {V7p Y2w V9b Y0q G5e Y1u : Value}
   (D6y : nsIn K mainGlobals "order_of" = some (some (.ref G1c))) (D9f : K.lookup G1c = some ⟨V7p, V5p, .func (fnOf "order_of" "order_of" (A8 B2w) (A7 B2w) (A1 B2w) .none Y2w V9b Y0q Y0j G5e Y1u), V8g⟩) (G1d : codeIn K G5e "order_of" = true) (G1e : keepIn K (.ref G1c) = true)
   {V7a V0s : Option Addr} {V0u : Array (Option Value)} {Y1m Y1q V9u V1t G5f V3f : Value}
   (D3u : nsIn K mainGlobals "way_of" = some (some (.ref D7s))) (D4s : K.lookup D7s = some ⟨Y1m, V7a, .func (fnOf "way_of" "way_of" (A8 A8a) (A7 A8a) (A1 A8a) .none Y1q V9u V1t V0s G5f V3f), V0u⟩) (D3j : codeIn K G5f "way_of" = true) (D4b : keepIn K (.ref D7s) = true)
   {J6q J4t : Option Addr} {J6f : Array (Option Value)} {G8t J4r J3f J4v C4y J6x : Value}
   (B9e : nsIn K mainGlobals "bounded" = some (some (.ref B6f))) (B8b : K.lookup B6f = some ⟨G8t, J6q, .func (fnOf "bounded" "bounded" (A8 A2e) (A7 A2e) (A1 A2e) .none J4r J3f J4v J4t C4y J6x), J6f⟩) (B7k : codeIn K C4y "bounded" = true) (B8e : keepIn K (.ref B6f) = true)
   {V9k V2x : Option Addr} {V6b : Array (Option Value)} {Y2k Y2g V9h Y2s G3q V1g : Value}
   (D5u : nsIn K mainGlobals "need_signals" = some (some (.ref G1g))) (D5x : K.lookup G1g = some ⟨Y2k, V9k, .func (fnOf "need_signals" "need_signals" (A8 B2q) (A7 B2q) (A1 B2q) .none Y2g V9h Y2s V2x G3q V1g), V6b⟩) (D7c : codeIn K G3q "need_signals" = true) (D8b : keepIn K (.ref G1g) = true)
   {Y1e Y0t : Option Addr} {V4s : Array (Option Value)} {V0r V1m V9s Y0w G4d V5x : Value}
   (G0g : nsIn K mainGlobals "in_order" = some (some (.ref D8f))) (D8y : K.lookup D8f = some ⟨V0r, Y1e, .func (fnOf "in_order" "in_order" (A8 B3b) (A7 B3b) (A1 B3b) .none V1m V9s Y0w Y0t G4d V5x), V4s⟩) (G0n : codeIn K G4d "in_order" = true) (D7w : keepIn K (.ref D8f) = true)
   {U3d U2h : Option Addr} {U5g : Array (Option Value)} {U4u U5u U2g U5s D1r U3b : Value}
   (C4x : nsIn K mainGlobals "next_up" = some (some (.ref C4e))) (C3v : K.lookup C4e = some ⟨U4u, U3d, .func (fnOf "next_up" "next_up" (A8 A2z) (A7 A2z) (A1 A2z) .none U5u U2g U5s U2h D1r U3b), U5g⟩) (C5p : codeIn K D1r "next_up" = true) (C5t : keepIn K (.ref C4e) = true)
   {U4v U5b : Option Addr} {U5y : Array (Option Value)} {U5c U6b U3j U2u D1u U5h : Value}
   (C6p : nsIn K mainGlobals "next_down" = some (some (.ref C5u))) (C4d : K.lookup C5u = some ⟨U5c, U4v, .func (fnOf "next_down" "next_down" (A8 A2x) (A7 A2x) (A1 A2x) .none U6b U3j U2u U5b D1u U5h), U5y⟩) (C3p : codeIn K D1u "next_down" = true) (C4m : keepIn K (.ref C5u) = true)
   {G9m J0s : Option Addr} {J5c : Array (Option Value)} {J6e G9x J4z J5a C4t J3b : Value}
   (B6t : nsIn K mainGlobals "stepped" = some (some (.ref B7j))) (B8a : K.lookup B7j = some ⟨J6e, G9m, .func (fnOf "stepped" "stepped" (A8 A0q) (A7 A0q) (A1 A0q) .none G9x J4z J5a J0s C4t J3b), J5c⟩) (B9d : codeIn K C4t "stepped" = true) (B6u : keepIn K (.ref B7j) = true)
   {J2g J6p : Option Addr} {J4x : Array (Option Value)} {J5p J4p J5w J3y C3z G8p : Value}
   (B7w : nsIn K mainGlobals "farther" = some (some (.ref B6c))) (B7a : K.lookup B6c = some ⟨J5p, J2g, .func (fnOf "farther" "farther" (A8 A2s) (A7 A2s) (A1 A2s) .none J4p J5w J3y J6p C3z G8p), J4x⟩) (C0b : codeIn K C3z "farther" = true) (B9k : keepIn K (.ref B6c) = true)
   {U2p U4y : Option Addr} {U5z : Array (Option Value)} {U4d U5v U3n U3v D1e U4g : Value}
   (C5v : nsIn K mainGlobals "nearer" = some (some (.ref C5c))) (C3e : K.lookup C5c = some ⟨U4d, U2p, .func (fnOf "nearer" "nearer" (A8 A5a) (A7 A5a) (A1 A5a) .none U5v U3n U3v U4y D1e U4g), U5z⟩) (C2y : codeIn K D1e "nearer" = true) (C4z : keepIn K (.ref C5c) = true)
   {Y7g Y8k : Option Addr} {Y6v : Array (Option Value)} {Y8u Y7e Y7c Y8h J9p Y7v : Value}
   (J1g : nsIn K mainGlobals "_law_cell_at" = some (some (.ref J3u))) (J4f : K.lookup J3u = some ⟨Y8u, Y7g, .func (fnOf "_law_cell_at" "_law_cell_at" (A8 C2b) (A7 C2b) (A1 C2b) .none Y7e Y7c Y8h Y8k J9p Y7v), Y6v⟩) (J3p : codeIn K J9p "_law_cell_at" = true) (J7d : keepIn K (.ref J3u) = true)
   {Y0v V0w : Option Addr} {Y1k : Array (Option Value)} {V8d V5n V7k Y0y G4r V0n : Value}
   (D5k : nsIn K mainGlobals "_law_mixed" = some (some (.ref D5p))) (D5b : K.lookup D5p = some ⟨V8d, Y0v, .func (fnOf "_law_mixed" "_law_mixed" (A8 A5c) (A7 A5c) (A1 A5c) .none V5n V7k Y0y V0w G4r V0n), Y1k⟩) (D3m : codeIn K G4r "_law_mixed" = true) (D3t : keepIn K (.ref D5p) = true)
   {Y8m Y7s : Option Addr} {Y7y : Array (Option Value)} {Y7d Y7u Y6y Y7k J9b Y7m : Value}
   (J1c : nsIn K mainGlobals "_law_ten" = some (some (.ref J3x))) (J0a : K.lookup J3x = some ⟨Y7d, Y8m, .func (fnOf "_law_ten" "_law_ten" (A8 C0e) (A7 C0e) (A1 C0e) .none Y7u Y6y Y7k Y7s J9b Y7m), Y7y⟩) (J1y : codeIn K J9b "_law_ten" = true) (J3j : keepIn K (.ref J3x) = true)
   {Y8t Y6n : Option Addr} {Y6m : Array (Option Value)} {Y7x Y7b Y8j Y6x J8z Y6p : Value}
   (G9y : nsIn K mainGlobals "_law_figures" = some (some (.ref J5x))) (J2h : K.lookup J5x = some ⟨Y7x, Y8t, .func (fnOf "_law_figures" "_law_figures" (A8 C1e) (A7 C1e) (A1 C1e) .none Y7b Y8j Y6x Y6n J8z Y6p), Y6m⟩) (G9v : codeIn K J8z "_law_figures" = true) (J0h : keepIn K (.ref J5x) = true)
   {U6d U3e : Option Addr} {U3u : Array (Option Value)} {U2k U2n U3y U4h D1x U5n : Value}
   (C3c : nsIn K mainGlobals "_law_frame" = some (some (.ref C5r))) (C5h : K.lookup C5r = some ⟨U2k, U6d, .func (fnOf "_law_frame" "_law_frame" (A8 A4p) (A7 A4p) (A1 A4p) .none U2n U3y U4h U3e D1x U5n), U3u⟩) (C6c : codeIn K D1x "_law_frame" = true) (C6d : keepIn K (.ref C5r) = true)
   {Y6q Y6w : Option Addr} {Y8g : Array (Option Value)} {Y8s Y7h Y8c Y8n J9f Y6s : Value}
   (J2x : nsIn K mainGlobals "_law_context" = some (some (.ref G8v))) (J0u : K.lookup G8v = some ⟨Y8s, Y6q, .func (fnOf "_law_context" "_law_context" (A8 B2a) (A7 B2a) (A1 B2a) .none Y7h Y8c Y8n Y6w J9f Y6s), Y8g⟩) (J2m : codeIn K J9f "_law_context" = true) (G8x : keepIn K (.ref G8v) = true)
   {U4p U2f : Option Addr} {U4a : Array (Option Value)} {U4n U4k U4r U3f D1y U2a : Value}
   (C3t : nsIn K mainGlobals "_law_plain" = some (some (.ref C4j))) (C3a : K.lookup C4j = some ⟨U4n, U4p, .func (fnOf "_law_plain" "_law_plain" (A8 A4q) (A7 A4q) (A1 A4q) .none U4k U4r U3f U2f D1y U2a), U4a⟩) (C4a : codeIn K D1y "_law_plain" = true) (C5z : keepIn K (.ref C4j) = true)
   {V9x V3b : Option Addr} {Y3t : Array (Option Value)} {Y2j V4n V9t V9p G4w Y1a : Value}
   (D4p : nsIn K mainGlobals "_law_near" = some (some (.ref D3c))) (D4g : K.lookup D3c = some ⟨Y2j, V9x, .func (fnOf "_law_near" "_law_near" (A8 B3c) (A7 B3c) (A1 B3c) .none V4n V9t V9p V3b G4w Y1a), Y3t⟩) (D6m : codeIn K G4w "_law_near" = true) (D6v : keepIn K (.ref D3c) = true)
   {V2m V9z : Option Addr} {V1r : Array (Option Value)} {Y2c V6w Y3g V8z G4g V1b : Value}
   (D5w : nsIn K mainGlobals "_law_like" = some (some (.ref D4z))) (G0b : K.lookup D4z = some ⟨Y2c, V2m, .func (fnOf "_law_like" "_law_like" (A8 A7t) (A7 A7t) (A1 A7t) .none V6w Y3g V8z V9z G4g V1b), V1r⟩) (G1k : codeIn K G4g "_law_like" = true) (D9x : keepIn K (.ref D4z) = true)
   {Y3a Y3j : Option Addr} {V6m : Array (Option Value)} {V6q V5f V5t V0q G4y V2h : Value}
   (D5t : nsIn K mainGlobals "_law_neighbours_good" = some (some (.ref D9e))) (G1m : K.lookup D9e = some ⟨V6q, Y3a, .func (fnOf "_law_neighbours_good" "_law_neighbours_good" (A8 B2r) (A7 B2r) (A1 B2r) .none V5f V5t V0q Y3j G4y V2h), V6m⟩) (G0a : codeIn K G4y "_law_neighbours_good" = true) (D8p : keepIn K (.ref D9e) = true)
   {Y0z V8t : Option Addr} {V9c : Array (Option Value)} {V4w V1e V8j Y1x G3w V2f : Value}
   (D3p : nsIn K mainGlobals "_law_back" = some (some (.ref G1p))) (D9z : K.lookup G1p = some ⟨V4w, Y0z, .func (fnOf "_law_back" "_law_back" (A8 B2u) (A7 B2u) (A1 B2u) .none V1e V8j Y1x V8t G3w V2f), V9c⟩) (G0x : codeIn K G3w "_law_back" = true) (D4k : keepIn K (.ref G1p) = true)
   {U3r U2z : Option Addr} {U2x : Array (Option Value)} {U5k U3g U4j U4x D1t U4z : Value}
   (C4v : nsIn K mainGlobals "_law_again" = some (some (.ref C5d))) (C4w : K.lookup C5d = some ⟨U5k, U3r, .func (fnOf "_law_again" "_law_again" (A8 A4v) (A7 A4v) (A1 A4v) .none U3g U4j U4x U2z D1t U4z), U2x⟩) (C6j : codeIn K D1t "_law_again" = true) (C5q : keepIn K (.ref C5d) = true)
   {Z1v V2z : Option Addr} {Z4a : Array (Option Value)} {Z1z V9e V4m V8h J6b V7r : Value}
   (J8w : nsIn K mainGlobals "law" = some (some (.ref V5m))) (V4r : K.lookup V5m = some ⟨Z1z, Z1v, .func (fnOf "law" "law" (A8 D2d) (A7 D2d) (A1 D2d) .none V9e V4m V8h V2z J6b V7r), Z4a⟩) (Y2a : codeIn K J6b "law" = true) (V3u : keepIn K (.ref V5m) = true)
   (A6y : nsIn K mainGlobals "isinstance" = some none)
   (V9y : nsIn K mainGlobals "int" = some none)
   (G9a : nsIn K mainGlobals "bool" = some none)
   (V1y : nsIn K mainGlobals "str" = some none)
   (J5k : nsIn K mainGlobals "list" = some none)
   (G0j : nsIn K mainGlobals "tuple" = some none)
   (J4b : nsIn K mainGlobals "dict" = some none)
   (V3r : nsIn K mainGlobals "len" = some none)
   (D7n : nsIn K mainGlobals "range" = some none)
   (V2n : nsIn K mainGlobals "min" = some none)
   (V8w : nsIn K mainGlobals "max" = some none)
   (V5e : nsIn K mainGlobals "abs" = some none)
   (Y2r : nsIn K mainGlobals "any" = some none)
   (V8k : nsIn K mainGlobals "all" = some none)
   (V2p : nsIn K mainGlobals "sum" = some none)
   (J5m : nsIn K mainGlobals "repr" = some none)
   (B0s : nsIn K mainGlobals "enumerate" = some none)
   (B3y : nsIn K mainGlobals "reversed" = some none)
   (Y0h : nsIn K mainGlobals "zip" = some none)
   (C3r : nsIn K mainGlobals "sorted" = some none)
   (C3f : nsIn K mainGlobals "divmod" = some none)
   (V3a : nsIn K mainGlobals "set" = some none)
   (A5z : nsIn K mainGlobals "ValueError" = some none)
   (B3m : kitOne K (.type "int") (.type "int") = some true)
   (A9p : kitOne K (.type "int") (.type "bool") = some false)
   (B3n : kitOne K (.type "int") (.type "str") = some false)
   (A8j : kitOne K (.type "int") (.type "list") = some false)
   (A5x : kitOne K (.type "int") (.type "tuple") = some false)
   (B1b : kitOne K (.type "int") (.type "dict") = some false)
   (A9q : kitOne K (.type "bool") (.type "int") = some true)
   (A6w : kitOne K (.type "bool") (.type "bool") = some true)
   (B0c : kitOne K (.type "bool") (.type "str") = some false)
   (A5h : kitOne K (.type "bool") (.type "list") = some false)
   (A3s : kitOne K (.type "bool") (.type "tuple") = some false)
   (A6a : kitOne K (.type "bool") (.type "dict") = some false)
   (B3t : kitOne K (.type "str") (.type "int") = some false)
   (A9f : kitOne K (.type "str") (.type "bool") = some false)
   (B4b : kitOne K (.type "str") (.type "str") = some true)
   (B0v : kitOne K (.type "str") (.type "list") = some false)
   (A5s : kitOne K (.type "str") (.type "tuple") = some false)
   (A9w : kitOne K (.type "str") (.type "dict") = some false)
   (B0y : kitOne K (.type "list") (.type "int") = some false)
   (A6m : kitOne K (.type "list") (.type "bool") = some false)
   (B0z : kitOne K (.type "list") (.type "str") = some false)
   (A7e : kitOne K (.type "list") (.type "list") = some true)
   (A3u : kitOne K (.type "list") (.type "tuple") = some false)
   (A6z : kitOne K (.type "list") (.type "dict") = some false)
   (A5k : kitOne K (.type "tuple") (.type "int") = some false)
   (A3r : kitOne K (.type "tuple") (.type "bool") = some false)
   (A6b : kitOne K (.type "tuple") (.type "str") = some false)
   (A3w : kitOne K (.type "tuple") (.type "list") = some false)
   (A2v : kitOne K (.type "tuple") (.type "tuple") = some true)
   (A3v : kitOne K (.type "tuple") (.type "dict") = some false)
   (A8n : kitOne K (.type "dict") (.type "int") = some false)
   (A7b : kitOne K (.type "dict") (.type "bool") = some false)
   (A8p : kitOne K (.type "dict") (.type "str") = some false)
   (A6v : kitOne K (.type "dict") (.type "list") = some false)
   (A3t : kitOne K (.type "dict") (.type "tuple") = some false)
   (A6h : kitOne K (.type "dict") (.type "dict") = some true)
   (A1k : kitOne K (.type "NoneType") (.type "int") = some false)
   (A0f : kitOne K (.type "NoneType") (.type "bool") = some false)
   (A1m : kitOne K (.type "NoneType") (.type "str") = some false)
   (A0g : kitOne K (.type "NoneType") (.type "list") = some false)
   (Z7 : kitOne K (.type "NoneType") (.type "tuple") = some false)
   (A0h : kitOne K (.type "NoneType") (.type "dict") = some false)
   (sn : specialIn K (.builtin "object.__class__") "__get__" = some (some (.builtin "getset_descriptor.__get__")))
   (tk : takesIn K (.builtin "object.__class__") = some true)
   (Z8h : nsIn K mainGlobals "Way" = some (some (.ref CW)))
   (Z3p : nsIn K mainGlobals "Down" = some (some (.ref W0)))
   (V8r : plainGet K W0 Str.empty = true)
   (Y0p : hasDictIn K W0 = true)
   (V0v : plainOver K W0 = true)
   (Y1p : findIn K (.ref W0) "__setattr__" = some (some (.builtin "object.__setattr__")))
   (V8n : makesIn K W0 = true)
   (V7d : keepIn K (.ref W0) = true)
   (V6c : findIn K (.ref W0) "__class__" = some (some (.builtin "object.__class__")))
   (V2g : mroIn K W0 (.type "object") = some true)
   (V8y : findIn K (.ref W0) "__init__" = some (some (.builtin "object.__init__")))
   (V8m : kitOne K (.ref W0) (.ref CW) = some true)
   (B9r : findIn K (.ref W0) "name" = some (some (.ref A4f)))
   (B7q : isFn K (.ref A4f) = true)
   {J2r J6r : Option Addr} {J6a : Array (Option Value)} {J5f J3t G9g J0q C5m J3d : Value} (B6j : K.lookup A4f = some ⟨J5f, J2r, .func (fnOf "name" "Down.name" (A8 sN0) (A7 sN0) (A1 sN0) .none J3t G9g J0q J6r C5m J3d), J6a⟩)
   (B6x : codeIn K C5m "Down.name" = true)
   (B1w : keepIn K (.ref A4f) = true)
   (Z2v : nsIn K mainGlobals "Up" = some (some (.ref W1)))
   (V5u : plainGet K W1 Str.empty = true)
   (Y3d : hasDictIn K W1 = true)
   (V2y : plainOver K W1 = true)
   (V5a : findIn K (.ref W1) "__setattr__" = some (some (.builtin "object.__setattr__")))
   (V8e : makesIn K W1 = true)
   (V5k : keepIn K (.ref W1) = true)
   (V9n : findIn K (.ref W1) "__class__" = some (some (.builtin "object.__class__")))
   (V4g : mroIn K W1 (.type "object") = some true)
   (V5s : findIn K (.ref W1) "__init__" = some (some (.builtin "object.__init__")))
   (Y3u : kitOne K (.ref W1) (.ref CW) = some true)
   (B6k : findIn K (.ref W1) "name" = some (some (.ref A4h)))
   (B7d : isFn K (.ref A4h) = true)
   {G8q J4y : Option Addr} {J2p : Array (Option Value)} {J5n J6h J6s J0w C6r J5d : Value} (B9z : K.lookup A4h = some ⟨J5n, G8q, .func (fnOf "name" "Up.name" (A8 sN1) (A7 sN1) (A1 sN1) .none J6h J6s J0w J4y C6r J5d), J2p⟩)
   (B8w : codeIn K C6r "Up.name" = true)
   (B1q : keepIn K (.ref A4h) = true)
   (Z2w : nsIn K mainGlobals "Floor" = some (some (.ref W2)))
   (Y1b : plainGet K W2 Str.empty = true)
   (V3t : hasDictIn K W2 = true)
   (V3c : plainOver K W2 = true)
   (V3v : findIn K (.ref W2) "__setattr__" = some (some (.builtin "object.__setattr__")))
   (V4a : makesIn K W2 = true)
   (V1q : keepIn K (.ref W2) = true)
   (V4d : findIn K (.ref W2) "__class__" = some (some (.builtin "object.__class__")))
   (V3x : mroIn K W2 (.type "object") = some true)
   (V1p : findIn K (.ref W2) "__init__" = some (some (.builtin "object.__init__")))
   (Y0m : kitOne K (.ref W2) (.ref CW) = some true)
   (B8u : findIn K (.ref W2) "name" = some (some (.ref A4d)))
   (B8s : isFn K (.ref A4d) = true)
   {G9e J1d : Option Addr} {J1p : Array (Option Value)} {J2s J0m J3v J1u C3h G9k : Value} (B6z : K.lookup A4d = some ⟨J2s, G9e, .func (fnOf "name" "Floor.name" (A8 sN2) (A7 sN2) (A1 sN2) .none J0m J3v J1u J1d C3h G9k), J1p⟩)
   (B8r : codeIn K C3h "Floor.name" = true)
   (B1t : keepIn K (.ref A4d) = true)
   (Z1s : nsIn K mainGlobals "Ceiling" = some (some (.ref W3)))
   (V0t : plainGet K W3 Str.empty = true)
   (V7s : hasDictIn K W3 = true)
   (Y3k : plainOver K W3 = true)
   (Y2d : findIn K (.ref W3) "__setattr__" = some (some (.builtin "object.__setattr__")))
   (V7e : makesIn K W3 = true)
   (Y2z : keepIn K (.ref W3) = true)
   (V8s : findIn K (.ref W3) "__class__" = some (some (.builtin "object.__class__")))
   (V1z : mroIn K W3 (.type "object") = some true)
   (V4k : findIn K (.ref W3) "__init__" = some (some (.builtin "object.__init__")))
   (V2t : kitOne K (.ref W3) (.ref CW) = some true)
   (B9w : findIn K (.ref W3) "name" = some (some (.ref A4j)))
   (B7e : isFn K (.ref A4j) = true)
   {J0k J2k : Option Addr} {J6j : Array (Option Value)} {G9d J2t J3k J1j C5y J5y : Value} (B8h : K.lookup A4j = some ⟨G9d, J0k, .func (fnOf "name" "Ceiling.name" (A8 sN3) (A7 sN3) (A1 sN3) .none J2t J3k J1j J2k C5y J5y), J6j⟩)
   (B6h : codeIn K C5y "Ceiling.name" = true)
   (B1u : keepIn K (.ref A4j) = true)
   (Z1t : nsIn K mainGlobals "HalfUp" = some (some (.ref W4)))
   (Y0f : plainGet K W4 Str.empty = true)
   (V5v : hasDictIn K W4 = true)
   (V2e : plainOver K W4 = true)
   (Y1s : findIn K (.ref W4) "__setattr__" = some (some (.builtin "object.__setattr__")))
   (V6n : makesIn K W4 = true)
   (V0z : keepIn K (.ref W4) = true)
   (V3p : findIn K (.ref W4) "__class__" = some (some (.builtin "object.__class__")))
   (V2b : mroIn K W4 (.type "object") = some true)
   (Y0x : findIn K (.ref W4) "__init__" = some (some (.builtin "object.__init__")))
   (V5d : kitOne K (.ref W4) (.ref CW) = some true)
   (B7f : findIn K (.ref W4) "name" = some (some (.ref A4b)))
   (B7n : isFn K (.ref A4b) = true)
   {J4k G9q : Option Addr} {G9z : Array (Option Value)} {J6d J0n J2d J0y C4p G8k : Value} (B9q : K.lookup A4b = some ⟨J6d, J4k, .func (fnOf "name" "HalfUp.name" (A8 sN4) (A7 sN4) (A1 sN4) .none J0n J2d J0y G9q C4p G8k), G9z⟩)
   (B8c : codeIn K C4p "HalfUp.name" = true)
   (B1v : keepIn K (.ref A4b) = true)
   (Z1x : nsIn K mainGlobals "HalfDown" = some (some (.ref W5)))
   (V8b : plainGet K W5 Str.empty = true)
   (Y3q : hasDictIn K W5 = true)
   (V6d : plainOver K W5 = true)
   (V2k : findIn K (.ref W5) "__setattr__" = some (some (.builtin "object.__setattr__")))
   (Y2f : makesIn K W5 = true)
   (V4x : keepIn K (.ref W5) = true)
   (V6p : findIn K (.ref W5) "__class__" = some (some (.builtin "object.__class__")))
   (V3n : mroIn K W5 (.type "object") = some true)
   (V2r : findIn K (.ref W5) "__init__" = some (some (.builtin "object.__init__")))
   (V8x : kitOne K (.ref W5) (.ref CW) = some true)
   (B9m : findIn K (.ref W5) "name" = some (some (.ref A4c)))
   (B9a : isFn K (.ref A4c) = true)
   {J6t J5s : Option Addr} {J0x : Array (Option Value)} {G8z J1b J2b G9h C3b J4s : Value} (B8j : K.lookup A4c = some ⟨G8z, J6t, .func (fnOf "name" "HalfDown.name" (A8 sN5) (A7 sN5) (A1 sN5) .none J1b J2b G9h J5s C3b J4s), J0x⟩)
   (B9h : codeIn K C3b "HalfDown.name" = true)
   (B1r : keepIn K (.ref A4c) = true)
   (Z2u : nsIn K mainGlobals "HalfEven" = some (some (.ref W6)))
   (V6y : plainGet K W6 Str.empty = true)
   (Y2p : hasDictIn K W6 = true)
   (V9r : plainOver K W6 = true)
   (V4p : findIn K (.ref W6) "__setattr__" = some (some (.builtin "object.__setattr__")))
   (V1a : makesIn K W6 = true)
   (V5c : keepIn K (.ref W6) = true)
   (Y3f : findIn K (.ref W6) "__class__" = some (some (.builtin "object.__class__")))
   (V3y : mroIn K W6 (.type "object") = some true)
   (V4y : findIn K (.ref W6) "__init__" = some (some (.builtin "object.__init__")))
   (Y0e : kitOne K (.ref W6) (.ref CW) = some true)
   (B8d : findIn K (.ref W6) "name" = some (some (.ref A4g)))
   (B6r : isFn K (.ref A4g) = true)
   {J2a J4q : Option Addr} {J2y : Array (Option Value)} {J0p G9s J2w J6m C2x J5j : Value} (B8z : K.lookup A4g = some ⟨J0p, J2a, .func (fnOf "name" "HalfEven.name" (A8 sN6) (A7 sN6) (A1 sN6) .none G9s J2w J6m J4q C2x J5j), J2y⟩)
   (B9g : codeIn K C2x "HalfEven.name" = true)
   (B1s : keepIn K (.ref A4g) = true)
   (Z3w : nsIn K mainGlobals "FiveUp" = some (some (.ref W7)))
   (V5b : plainGet K W7 Str.empty = true)
   (V6t : hasDictIn K W7 = true)
   (Y3h : plainOver K W7 = true)
   (V2s : findIn K (.ref W7) "__setattr__" = some (some (.builtin "object.__setattr__")))
   (V9q : makesIn K W7 = true)
   (V9w : keepIn K (.ref W7) = true)
   (Y1j : findIn K (.ref W7) "__class__" = some (some (.builtin "object.__class__")))
   (V1f : mroIn K W7 (.type "object") = some true)
   (V1n : findIn K (.ref W7) "__init__" = some (some (.builtin "object.__init__")))
   (V6e : kitOne K (.ref W7) (.ref CW) = some true)
   (B6y : findIn K (.ref W7) "name" = some (some (.ref A4e)))
   (B9f : isFn K (.ref A4e) = true)
   {J4u J1h : Option Addr} {J2q : Array (Option Value)} {G9r J3h J6v J1e C5f J0z : Value} (B7h : K.lookup A4e = some ⟨G9r, J4u, .func (fnOf "name" "FiveUp.name" (A8 sN7) (A7 sN7) (A1 sN7) .none J3h J6v J1e J1h C5f J0z), J2q⟩)
   (B7u : codeIn K C5f "FiveUp.name" = true)
   (B1x : keepIn K (.ref A4e) = true)
   (Z2d : nsIn K mainGlobals "Number" = some (some (.ref CN)))
   (V6z : plainGet K CN Str.empty = true)
   (V4f : hasDictIn K CN = true)
   (V1k : plainOver K CN = true)
   (Y0a : findIn K (.ref CN) "__setattr__" = some (some (.builtin "object.__setattr__")))
   (V4b : makesIn K CN = true)
   (V6j : keepIn K (.ref CN) = true)
   (V7t : findIn K (.ref CN) "__class__" = some (some (.builtin "object.__class__")))
   (V2d : mroIn K CN (.type "object") = some true)
   (B8n : findIn K (.ref CN) "kind" = some none)
   (B7p : findIn K (.ref CN) "sign" = some none)
   (A6q : findIn K (.ref CN) "figures" = some none)
   (B4c : findIn K (.ref CN) "power" = some none)
   (Y1g : findIn K (.ref CN) "__init__" = some (some (.ref D1h)))
   (Y1t : isFn K (.ref D1h) = true)
   {Z3s Z2g : Option Addr} {Z3c : Array (Option Value)} {Z2m Z1w Z3x Z3t V2a Z3y : Value} (Y1f : K.lookup D1h = some ⟨Z2m, Z3s, .func (fnOf "__init__" "Number.__init__" (A8 D0v) (A7 D0v) (A1 D0v) .none Z1w Z3x Z3t Z2g V2a Z3y), Z3c⟩)
   (Y3e : codeIn K V2a "Number.__init__" = true)
   (V4q : keepIn K (.ref D1h) = true)
   (D6b : kitOne K (.ref CN) (.ref CN) = some true)
   (A5n : findIn K (.ref W0) "goes_up" = some (some (.ref Z2)))
   (A7h : isFn K (.ref Z2) = true)
   {C8x C8u : Option Addr} {C8a : Array (Option Value)} {C7w C7p C9c C9s B2h C9z : Value} (A7k : K.lookup Z2 = some ⟨C7w, C8x, .func (fnOf "goes_up" "Down.goes_up" (A8 sU0) (A7 sU0) (A1 sU0) .none C7p C9c C9s C8u B2h C9z), C8a⟩)
   (A5f : codeIn K B2h "Down.goes_up" = true)
   (A1v : keepIn K (.ref Z2) = true)
   (A8w : findIn K (.ref W0) "to_end" = some (some (.ref A0z)))
   (A9r : isFn K (.ref A0z) = true)
   {D8t D6k : Option Addr} {D6g : Array (Option Value)} {G0r D5f D8c D4m B5g D7k : Value} (A9a : K.lookup A0z = some ⟨G0r, D8t, .func (fnOf "to_end" "Down.to_end" (A8 sT0) (A7 sT0) (A1 sT0) .none D5f D8c D4m D6k B5g D7k), D6g⟩)
   (B0x : codeIn K B5g "Down.to_end" = true)
   (A3m : keepIn K (.ref A0z) = true)
   (A6x : findIn K (.ref W1) "goes_up" = some (some (.ref Z5)))
   (A6e : isFn K (.ref Z5) = true)
   {C8s C9k : Option Addr} {D0c : Array (Option Value)} {C8c C7g C7t C7e B2m C7b : Value} (A7f : K.lookup Z5 = some ⟨C8c, C8s, .func (fnOf "goes_up" "Up.goes_up" (A8 sU1) (A7 sU1) (A1 sU1) .none C7g C7t C7e C9k B2m C7b), D0c⟩)
   (A5y : codeIn K B2m "Up.goes_up" = true)
   (A1x : keepIn K (.ref Z5) = true)
   (B0p : findIn K (.ref W1) "to_end" = some (some (.ref A1d)))
   (A9v : isFn K (.ref A1d) = true)
   {D7b G0h : Option Addr} {D5d : Array (Option Value)} {G0t D9d D4h D8m B5f D7z : Value} (B1a : K.lookup A1d = some ⟨G0t, D7b, .func (fnOf "to_end" "Up.to_end" (A8 sT1) (A7 sT1) (A1 sT1) .none D9d D4h D8m G0h B5f D7z), D5d⟩)
   (A9x : codeIn K B5f "Up.to_end" = true)
   (A3d : keepIn K (.ref A1d) = true)
   (A5j : findIn K (.ref W2) "goes_up" = some (some (.ref Z9)))
   (A6r : isFn K (.ref Z9) = true)
   {C7c C9n : Option Addr} {C8v : Array (Option Value)} {C9e C8q C7h C9j B2g C8f : Value} (A5q : K.lookup Z9 = some ⟨C9e, C7c, .func (fnOf "goes_up" "Floor.goes_up" (A8 sU2) (A7 sU2) (A1 sU2) .none C8q C7h C9j C9n B2g C8f), C8v⟩)
   (A6p : codeIn K B2g "Floor.goes_up" = true)
   (A1z : keepIn K (.ref Z9) = true)
   (B0f : findIn K (.ref W2) "to_end" = some (some (.ref A1b)))
   (A8x : isFn K (.ref A1b) = true)
   {D3f G0e : Option Addr} {D5j : Array (Option Value)} {D7d D3x D6u G1b B5c D4u : Value} (A8r : K.lookup A1b = some ⟨D7d, D3f, .func (fnOf "to_end" "Floor.to_end" (A8 sT2) (A7 sT2) (A1 sT2) .none D3x D6u G1b G0e B5c D4u), D5j⟩)
   (A8q : codeIn K B5c "Floor.to_end" = true)
   (A3f : keepIn K (.ref A1b) = true)
   (A6g : findIn K (.ref W3) "goes_up" = some (some (.ref Z3)))
   (A6c : isFn K (.ref Z3) = true)
   {C7s C9h : Option Addr} {C8z : Array (Option Value)} {C8j C9w C7u C8g B2k C7m : Value} (A7g : K.lookup Z3 = some ⟨C8j, C7s, .func (fnOf "goes_up" "Ceiling.goes_up" (A8 sU3) (A7 sU3) (A1 sU3) .none C9w C7u C8g C9h B2k C7m), C8z⟩)
   (A7d : codeIn K B2k "Ceiling.goes_up" = true)
   (A2a : keepIn K (.ref Z3) = true)
   (A8z : findIn K (.ref W3) "to_end" = some (some (.ref A1a)))
   (A9c : isFn K (.ref A1a) = true)
   {G0u D8g : Option Addr} {D5h : Array (Option Value)} {D9c G0y D3r D8j B5b D9w : Value} (B0k : K.lookup A1a = some ⟨D9c, G0u, .func (fnOf "to_end" "Ceiling.to_end" (A8 sT3) (A7 sT3) (A1 sT3) .none G0y D3r D8j D8g B5b D9w), D5h⟩)
   (B0b : codeIn K B5b "Ceiling.to_end" = true)
   (A3b : keepIn K (.ref A1a) = true)
   (A5g : findIn K (.ref W4) "goes_up" = some (some (.ref Z1)))
   (A5v : isFn K (.ref Z1) = true)
   {C7f D0b : Option Addr} {C9f : Array (Option Value)} {C9x D0d C9b C8k B2n C8e : Value} (A5t : K.lookup Z1 = some ⟨C9x, C7f, .func (fnOf "goes_up" "HalfUp.goes_up" (A8 sU4) (A7 sU4) (A1 sU4) .none D0d C9b C8k D0b B2n C8e), C9f⟩)
   (A5w : codeIn K B2n "HalfUp.goes_up" = true)
   (A2b : keepIn K (.ref Z1) = true)
   (A9m : findIn K (.ref W4) "to_end" = some (some (.ref A0v)))
   (A8s : isFn K (.ref A0v) = true)
   {D6e D5n : Option Addr} {D9b : Array (Option Value)} {D3k D9t G1s D6p B5a D3b : Value} (B0h : K.lookup A0v = some ⟨D3k, D6e, .func (fnOf "to_end" "HalfUp.to_end" (A8 sT4) (A7 sT4) (A1 sT4) .none D9t G1s D6p D5n B5a D3b), D9b⟩)
   (B0e : codeIn K B5a "HalfUp.to_end" = true)
   (A3k : keepIn K (.ref A0v) = true)
   (A5r : findIn K (.ref W5) "goes_up" = some (some (.ref Z8)))
   (A6f : isFn K (.ref Z8) = true)
   {C7n C9a : Option Addr} {D0a : Array (Option Value)} {C7v C7d C8r C9m B2f C7q : Value} (A7j : K.lookup Z8 = some ⟨C7v, C7n, .func (fnOf "goes_up" "HalfDown.goes_up" (A8 sU5) (A7 sU5) (A1 sU5) .none C7d C8r C9m C9a B2f C7q), D0a⟩)
   (A6u : codeIn K B2f "HalfDown.goes_up" = true)
   (A1y : keepIn K (.ref Z8) = true)
   (A9y : findIn K (.ref W5) "to_end" = some (some (.ref A0y)))
   (B0m : isFn K (.ref A0y) = true)
   {G1n D8z : Option Addr} {D3z : Array (Option Value)} {D6q D7a D8h D3h B4v D4x : Value} (A8y : K.lookup A0y = some ⟨D6q, G1n, .func (fnOf "to_end" "HalfDown.to_end" (A8 sT5) (A7 sT5) (A1 sT5) .none D7a D8h D3h D8z B4v D4x), D3z⟩)
   (B0w : codeIn K B4v "HalfDown.to_end" = true)
   (A3c : keepIn K (.ref A0y) = true)
   (A6t : findIn K (.ref W6) "goes_up" = some (some (.ref Z4)))
   (A6s : isFn K (.ref Z4) = true)
   {C9q C8t : Option Addr} {C8b : Array (Option Value)} {C9t C7y C9v C8m B2e C8p : Value} (A5e : K.lookup Z4 = some ⟨C9t, C9q, .func (fnOf "goes_up" "HalfEven.goes_up" (A8 sU6) (A7 sU6) (A1 sU6) .none C7y C9v C8m C8t B2e C8p), C8b⟩)
   (A6k : codeIn K B2e "HalfEven.goes_up" = true)
   (A1u : keepIn K (.ref Z4) = true)
   (A8h : findIn K (.ref W6) "to_end" = some (some (.ref A1c)))
   (B0r : isFn K (.ref A1c) = true)
   {G0k D3s : Option Addr} {D8s : Array (Option Value)} {G1u G1f D7g D9r B4y D5s : Value} (B0j : K.lookup A1c = some ⟨G1u, G0k, .func (fnOf "to_end" "HalfEven.to_end" (A8 sT6) (A7 sT6) (A1 sT6) .none G1f D7g D9r D3s B4y D5s), D8s⟩)
   (B0g : codeIn K B4y "HalfEven.to_end" = true)
   (A3j : keepIn K (.ref A1c) = true)
   (A6j : findIn K (.ref W7) "goes_up" = some (some (.ref Z6)))
   (A7c : isFn K (.ref Z6) = true)
   {C8w C9u : Option Addr} {C9r : Array (Option Value)} {C9d C8h C7x C8d B2j C8y : Value} (A6d : K.lookup Z6 = some ⟨C9d, C8w, .func (fnOf "goes_up" "FiveUp.goes_up" (A8 sU7) (A7 sU7) (A1 sU7) .none C8h C7x C8d C9u B2j C8y), C9r⟩)
   (A6n : codeIn K B2j "FiveUp.goes_up" = true)
   (A1w : keepIn K (.ref Z6) = true)
   (B0a : findIn K (.ref W7) "to_end" = some (some (.ref A0w)))
   (A9b : isFn K (.ref A0w) = true)
   {G0m D7m : Option Addr} {D3q : Array (Option Value)} {D4w D5e D6n G0w B4w D7h : Value} (B0d : K.lookup A0w = some ⟨D4w, G0m, .func (fnOf "to_end" "FiveUp.to_end" (A8 sT7) (A7 sT7) (A1 sT7) .none D5e D6n G0w D7m B4w D7h), D3q⟩)
   (A9z : codeIn K B4w "FiveUp.to_end" = true)
   (A3g : keepIn K (.ref A0w) = true)
   (Z3f : nsIn K mainGlobals "Context" = some (some (.ref CC)))
   (V2w : plainGet K CC Str.empty = true)
   (V4e : hasDictIn K CC = true)
   (V5h : plainOver K CC = true)
   (V7h : findIn K (.ref CC) "__setattr__" = some (some (.builtin "object.__setattr__")))
   (Y3n : makesIn K CC = true)
   (V6s : keepIn K (.ref CC) = true)
   (B7r : findIn K (.ref CC) "room" = some none)
   (B8k : findIn K (.ref CC) "rule" = some none)
   (B3h : findIn K (.ref CC) "least" = some none)
   (B6d : findIn K (.ref CC) "most" = some none)
   (B3u : findIn K (.ref CC) "risen" = some none)
   (A5p : findIn K (.ref CC) "trapped" = some none)
   (V3m : findIn K (.ref CC) "__init__" = some (some (.ref D1q)))
   (V4j : isFn K (.ref D1q) = true)
   {Z2t V6k : Option Addr} {Z2r : Array (Option Value)} {Z3u V7j V6h V3d J5b V1s : Value} (V3k : K.lookup D1q = some ⟨Z3u, Z2t, .func (fnOf "__init__" "Context.__init__" (A8 Y8) (A7 Y8) (A1 Y8) (.ref Y0c) V7j V6h V3d V6k J5b V1s), Z2r⟩)
   (V7x : codeIn K J5b "Context.__init__" = true)
   (Y0k : keepIn K (.ref D1q) = true)
   {Z6x Z8e Z8b : Tok} {Z8q : Nat} {Z2b : Option Addr} {Z2n : Value} {Z3a : Array (Option Value)} (V5g : K.lookup Y0c = some ⟨Z2n, Z2b, .seq #[.int 9 Z6x, .str "half even" Z8e, .none, .int 60 Z8b] Z8q, Z3a⟩)
   (B3d : findIn K (.ref CC) "flags" = some (some (.ref A2u)))
   (B3g : isFn K (.ref A2u) = true)
   {G4z G4q : Option Addr} {G5g : Array (Option Value)} {G5w G4a G3j G4s C0q G5z : Value} (B3z : K.lookup A2u = some ⟨G5w, G4z, .func (fnOf "flags" "Context.flags" (A8 A2c) (A7 A2c) (A1 A2c) .none G4a G3j G4s G4q C0q G5z), G5g⟩)
   (B4a : codeIn K C0q "Context.flags" = true)
   (A5m : keepIn K (.ref A2u) = true)
   (A8m : findIn K (.ref CC) "lowest" = some (some (.ref A1e)))
   (A8u : isFn K (.ref A1e) = true)
   {D8v D9j : Option Addr} {D9h : Array (Option Value)} {D9p D7j G1v D6x B4x D3g : Value} (B0u : K.lookup A1e = some ⟨D9p, D8v, .func (fnOf "lowest" "Context.lowest" (A8 B1j) (A7 B1j) (A1 B1j) .none D7j G1v D6x D9j B4x D3g), D9h⟩)
   (A8v : codeIn K B4x "Context.lowest" = true)
   (A3h : keepIn K (.ref A1e) = true)
   (C5n : findIn K (.ref CC) "way" = some (some (.ref A9j)))
   (C3u : isFn K (.ref A9j) = true)
   {U4w U2c : Option Addr} {U4e : Array (Option Value)} {U3a U1x U4s U5q D1f U2t : Value} (C6a : K.lookup A9j = some ⟨U3a, U4w, .func (fnOf "way" "Context.way" (A8 B1h) (A7 B1h) (A1 B1h) .none U1x U4s U5q U2c D1f U2t), U4e⟩)
   (C5e : codeIn K D1f "Context.way" = true)
   (B5h : keepIn K (.ref A9j) = true)
   (B1c : findIn K (.ref CC) "raised" = some (some (.ref A0x)))
   (A9e : isFn K (.ref A0x) = true)
   {D5m D4t : Option Addr} {G0q : Array (Option Value)} {D3w D5q D7f D3y B5e D4a : Value} (A9s : K.lookup A0x = some ⟨D3w, D5m, .func (fnOf "raised" "Context.raised" (A8 A0b) (A7 A0b) (A1 A0b) .none D5q D7f D3y D4t B5e D4a), G0q⟩)
   (A9t : codeIn K B5e "Context.raised" = true)
   (A3e : keepIn K (.ref A0x) = true)
   (Z2y : nsIn K mainGlobals "Ratio" = some (some (.ref CQ)))
   (V7m : plainGet K CQ Str.empty = true)
   (Y0u : hasDictIn K CQ = true)
   (Y3p : plainOver K CQ = true)
   (V4c : findIn K (.ref CQ) "__setattr__" = some (some (.builtin "object.__setattr__")))
   (V4z : makesIn K CQ = true)
   (Y3c : keepIn K (.ref CQ) = true)
   (V7n : findIn K (.ref CQ) "__class__" = some (some (.builtin "object.__class__")))
   (V5z : mroIn K CQ (.type "object") = some true)
   (C5a : findIn K (.ref CQ) "top" = some none)
   (B0t : findIn K (.ref CQ) "bottom" = some none)
   (B4f : findIn K (.ref CQ) "power" = some none)
   (V8c : findIn K (.ref CQ) "__init__" = some (some (.ref D1n)))
   (V2j : isFn K (.ref D1n) = true)
   {Z3n V2q : Option Addr} {Z3g : Array (Option Value)} {Z2p V4t V7u V4h J4w Y1y : Value} (Y3b : K.lookup D1n = some ⟨Z2p, Z3n, .func (fnOf "__init__" "Ratio.__init__" (A8 A4t) (A7 A4t) (A1 A4t) (.ref V7c) V4t V7u V4h V2q J4w Y1y), Z3g⟩)
   (V6g : codeIn K J4w "Ratio.__init__" = true)
   (V3g : keepIn K (.ref D1n) = true)
   {Y9k : Tok} {Z7k : Nat} {Z2c : Option Addr} {Z2a : Value} {Z2s : Array (Option Value)} (G3p : K.lookup V7c = some ⟨Z2a, Z2c, .seq #[.int 0 Y9k] Z7k, Z2s⟩)
   (B3k : findIn K (.ref CQ) "first" = some (some (.ref A0e)))
   (B3s : isFn K (.ref A0e) = true)
   {G5x G5a : Option Addr} {G5u : Array (Option Value)} {G4f G5t G4p G4j C0n G5s : Value} (B3w : K.lookup A0e = some ⟨G4f, G5x, .func (fnOf "first" "Ratio.first" (A8 A2t) (A7 A2t) (A1 A2t) .none G5t G4p G4j G5a C0n G5s), G5u⟩)
   (B3p : codeIn K C0n "Ratio.first" = true)
   (A5u : keepIn K (.ref A0e) = true)
   (D7t : findIn K (.ref CQ) "at" = some (some (.ref B1p)))
   (D7r : isFn K (.ref B1p) = true)
   {V1x Y1c : Option Addr} {V7v : Array (Option Value)} {Y2m Y1d V3q V8f G6a V7y : Value} (D6s : K.lookup B1p = some ⟨Y2m, V1x, .func (fnOf "at" "Ratio.at" (A8 C1q) (A7 C1q) (A1 C1q) .none Y1d V3q V8f Y1c G6a V7y), V7v⟩)
   (D9v : codeIn K G6a "Ratio.at" = true)
   (C1c : keepIn K (.ref B1p) = true)
   (Z2f : nsIn K mainGlobals "Exact" = some (some (.ref CE)))
   (Y0n : kitOne K (.ref CQ) (.ref CE) = some true)
   (Z3d : nsIn K mainGlobals "BadContext" = some (some (.ref C1)))
   (Z3j : nsIn K mainGlobals "BadNumber" = some (some (.ref C2)))
   (Z2x : nsIn K mainGlobals "Trapped" = some (some (.ref C3)))
   (Z6y : nsIn K mainGlobals "ReckonError" = some (some (.ref CR)))
   (cty : typeIn K (.ref CR) = some (.type "type"))
   {dR : ClassData} (ccl : clsIn K CR = some dR)
   (cex : subIn K (.ref CR) (.type "BaseException") = some true)
   (sub3 : subIn K (.ref C3) (.ref CR) = some true)
   (xga3 : findIn K (.ref C3) "__getattribute__" = some (some (.builtin "BaseException.__getattribute__")))
   (xgh3 : findIn K (.ref C3) "__getattr__" = some none)
   (xca3 : findIn K (.ref C3) "__class__" = some (some (.builtin "object.__class__")))
   (xob3 : mroIn K C3 (.type "object") = some true)
   (xbe3 : subIn K (.ref C3) (.type "BaseException") = some true)
   {d3 : ClassData} (xcl3 : clsIn K C3 = some d3)
   (Z7e : kitOne K (.ref C3) (.ref C1) = some false)
   (Z7f : kitOne K (.ref C3) (.ref C2) = some false)
   (Z8m : kitOne K (.ref C3) (.ref C3) = some true)
   (hv3 : kitOne K (.ref C3) (.type "ValueError") = some true)
   {nmT qT : Str} {NT : Addr} {bsT bmT : List Value} {snT : List Str} {suT : List Value} {abT : Bool} {coT : Option Bool} {ddT : Option Addr} {kT0 kT1 kT2 kT3 kT5 : Option Value} (lT : K.lookup C3 = some (excClassObj nmT qT C3 NT bsT bmT true snT suT abT coT ddT kT0 kT1 kT2 kT3 kT5 "ValueError.__new__"))
   {ocN : Value} {odN : Option Addr} {esN : Array DictEntry} {epN : Nat} {slN : Array (Option Value)} (lN : K.lookup NT = some ⟨ocN, odN, .dict esN epN, slN⟩)
   (alN : (esN.all fun e => match e.key with | .str _ _ => true | _ => false) = true)
   (niT : nsIn K NT "__init__" = some (some (.ref fX)))
   {nmU qU : Str} {NU : Addr} {bsU : List Value} {snU : List Str} {suU : List Value} {abU : Bool} {coU : Option Bool} {ddU : Option Addr} {kU0 kU1 kU2 kU3 kU5 : Option Value} (lT1 : K.lookup C1 = some (excClassObj nmU qU C1 NU bsU bmT true snU suU abU coU ddU kU0 kU1 kU2 kU3 kU5 "ValueError.__new__"))
   (saT : findIn K (.ref C3) "__setattr__" = some (some (.builtin "object.__setattr__")))
   (nsg3 : findIn K (.ref C3) "signal" = some none)
   {Z7b Z7r : Option Addr} {Z7v : Array (Option Value)} {Y9h Z7g Z8p Z8g Y9j Z7w : Value} (Y6z : K.lookup fX = some ⟨Y9h, Z7b, .func (fnOf "__init__" "Trapped.__init__" (A8 B1k) (A7 B1k) (A1 B1k) .none Z7g Z8p Z8g Z7r Y9j Z7w), Z7v⟩)
   (Z2q : codeIn K Y9j "Trapped.__init__" = true)
   (Z3k : keepIn K (.ref fX) = true)
   (fcT : Y9h = .type "function")
   (kTR : kitOne K (.ref C3) (.ref CR) = some true)
   (q1 : excIn K C1 [.type "ValueError", .type "Exception", .type "BaseException", .type "object"] "ValueError.__new__" = true)
   (q2 : excIn K C2 [.type "ValueError", .type "Exception", .type "BaseException", .type "object"] "ValueError.__new__" = true)
   (a_S : nsIn K mainGlobals "SIGNALS" = some (some (.ref aS)))
   {u0 u1 u2 u3 u4 u5 u6 : Tok} {nS : Nat} {odS : Option Addr} {slS : Array (Option Value)} (lS : K.lookup aS = some ⟨.type "tuple", odS, .seq #[.str "void" u0, .str "split" u1, .str "burst" u2, .str "sunk" u3, .str "faint" u4, .str "off" u5, .str "cut" u6] nS, slS⟩) :
   ∃ fd : FuncData, (∀ (s : Shared) (v : Value), BindsTo s fd ⟨[v], []⟩ [("_law_script", v)]) /\ ∀ base : Heap, K.In base -> base.Ns mainGlobals mg -> FnOk l.prog w K mg base (CX1 l.prog w) 10 fa fd ["_law_script"] (J7k K) := by
 have e := hfa.symm.trans (mg_of X G J8w)
 cases e
 have C0k := D4 (ps := ["whole", "count"]) (st := Y2) X G A9u A9d A8k A8t fun _ _ _ _ _ _ us hl => match us, hl with | [_, _], _ => rfl
 have A7a := D4 (ps := ["count"]) (st := A0c) X G D6z D5g D9a D8r fun _ _ _ _ _ _ us hl => match us, hl with | [_], _ => rfl
 have G3m := D4 (ps := ["size", "middle"]) (st := A4m) X G C3q C4q C6b C5b fun _ _ _ _ _ _ us hl => match us, hl with | [_, _], _ => rfl
 have J9j := D4 (ps := ["whole"]) (st := A7z) X G G1j D6h D4r D9k fun _ _ _ _ _ _ us hl => match us, hl with | [_], _ => rfl
 have D_plain := D4 (ps := ["sign", "figures", "power"]) (st := B2p) X G D9m D4v D5c D9n fun _ _ _ _ _ _ us hl => match us, hl with | [_, _, _], _ => rfl
 have D_end := D4 (ps := ["sign"]) (st := G2j) X G V3e V6v V9m Y0d fun _ _ _ _ _ _ us hl => match us, hl with | [_], _ => rfl
 have D_nothing := D4 (ps := []) (st := A2g) X G C0a B7s B8f B7c fun _ _ _ _ _ _ us hl => match us, hl with | [], _ => rfl
 have D_told := D4 (ps := ["number"]) (st := C0h) X G J2c J2z G9n J1t fun _ _ _ _ _ _ us hl => match us, hl with | [_], _ => rfl
 have Y2y := D4 (ps := ["number"]) (st := C1j) X G J3q J5h J6n G9t fun _ _ _ _ _ _ us hl => match us, hl with | [_], _ => rfl
 have B1n := D4 (ps := ["thing"]) (st := A2m) X G D7u D3n D7y D8q fun _ _ _ _ _ _ us hl => match us, hl with | [_], _ => rfl
 have C5j := D4 (ps := ["things"]) (st := A4n) X G B3j B3x B3r B4g fun _ _ _ _ _ _ us hl => match us, hl with | [_], _ => rfl
 have J9a := D4 (ps := ["numbers", "kind"]) (st := B2y) X G D7p D9g D7v D8e fun _ _ _ _ _ _ us hl => match us, hl with | [_, _], _ => rfl
 have D1m := D4 (ps := ["number", "power"]) (st := A0p) X G B6s B6g B8p B8x fun _ _ _ _ _ _ us hl => match us, hl with | [_, _], _ => rfl
 have V8p := D4 (ps := ["thing", "least", "most"]) (st := C6w) X G Y0s V9d V4v V5w fun _ _ _ _ _ _ us hl => match us, hl with | [_, _, _], _ => rfl
 have D1p := D4 (ps := ["thing", "least", "most"]) (st := A0t) X G B9j B7z B8g B9v fun _ _ _ _ _ _ us hl => match us, hl with | [_, _, _], _ => rfl
 have D_settled := D4 (ps := ["context", "sign", "exact", "ideal"]) (st := A2k) X G B8v B6e B8t B7m fun _ _ _ _ _ _ us hl => match us, hl with | [_, _, _, _], _ => rfl
 have B4u := D4 (ps := ["context", "exact"]) (st := A0j) X G C6q C3y C3x C4k fun _ _ _ _ _ _ us hl => match us, hl with | [_, _], _ => rfl
 have D1z := D4 (ps := ["ideal", "sign", "figures", "power"]) (st := A0s) X G B7v B7g B9u B9x fun _ _ _ _ _ _ us hl => match us, hl with | [_, _, _, _], _ => rfl
 have D_neighbour := D4 (ps := ["context", "sign", "pair"]) (st := V5) X G A9k A9g A9n B0n fun _ _ _ _ _ _ us hl => match us, hl with | [_, _, _], _ => rfl
 have C5g := D4 (ps := ["context", "sign", "figures", "power"]) (st := A1s) X G C4n C4s C3g C2z fun _ _ _ _ _ _ us hl => match us, hl with | [_, _, _, _], _ => rfl
 have C5s := D4 (ps := ["context", "number"]) (st := A1n) X G C6k C3n C6h C5w fun _ _ _ _ _ _ us hl => match us, hl with | [_, _], _ => rfl
 have D_burst := D4 (ps := ["context", "sign"]) (st := A7v) X G D8u D8d D8x D8w fun _ _ _ _ _ _ us hl => match us, hl with | [_, _], _ => rfl
 have D_nines := D4 (ps := ["context", "sign"]) (st := A3n) X G G0z G1a D4c D7q fun _ _ _ _ _ _ us hl => match us, hl with | [_, _], _ => rfl
 have D1j := D4 (ps := ["part", "is_cut"]) (st := A2f) X G B7y B6m B9s B8m fun _ _ _ _ _ _ us hl => match us, hl with | [_, _], _ => rfl
 have D1w := D4 (ps := ["context", "lead", "part"]) (st := A2h) X G B7t B9y B8y B6n fun _ _ _ _ _ _ us hl => match us, hl with | [_, _, _], _ => rfl
 have D_nought := D4 (ps := ["context", "sign", "ideal"]) (st := A3a) X G C4b C6m C6f C4f fun _ _ _ _ _ _ us hl => match us, hl with | [_, _, _], _ => rfl
 have D_rounded := D4 (ps := ["context", "number"]) (st := A0u) X G B6v B6q B6w B9n fun _ _ _ _ _ _ us hl => match us, hl with | [_, _], _ => rfl
 have D_compared := D4 (ps := ["one", "other"]) (st := V8) X G B3v B3f B3q B3e fun _ _ _ _ _ _ us hl => match us, hl with | [_, _], _ => rfl
 have V6r := D4 (ps := ["number"]) (st := C1u) X G J3m J5z J1q J5q fun _ _ _ _ _ _ us hl => match us, hl with | [_], _ => rfl
 have J9n := D4 (ps := ["one", "other"]) (st := B2w) X G D6y D9f G1d G1e fun _ _ _ _ _ _ us hl => match us, hl with | [_, _], _ => rfl
 have D5a := D4 (ps := ["name"]) (st := A8a) X G D3u D4s D3j D4b fun _ _ _ _ _ _ us hl => match us, hl with | [_], _ => rfl
 have D_bounded := D4 (ps := ["thing", "least", "most"]) (st := A2e) X G B9e B8b B7k B8e fun _ _ _ _ _ _ us hl => match us, hl with | [_, _, _], _ => rfl
 have J8y := D4 (ps := ["names"]) (st := B2q) X G D5u D5x D7c D8b fun _ _ _ _ _ _ us hl => match us, hl with | [_], _ => rfl
 have J9g := D4 (ps := ["names"]) (st := B3b) X G G0g D8y G0n D7w fun _ _ _ _ _ _ us hl => match us, hl with | [_], _ => rfl
 have C3w := D4 (ps := ["context", "one"]) (st := A2z) X G C4x C3v C5p C5t fun _ _ _ _ _ _ us hl => match us, hl with | [_, _], _ => rfl
 have C6g := D4 (ps := ["context", "one"]) (st := A2x) X G C6p C4d C3p C4m fun _ _ _ _ _ _ us hl => match us, hl with | [_, _], _ => rfl
 have D_stepped := D4 (ps := ["context", "one", "goal"]) (st := A0q) X G B6t B8a B9d B6u fun _ _ _ _ _ _ us hl => match us, hl with | [_, _, _], _ => rfl
 have D_farther := D4 (ps := ["context", "sign", "exact"]) (st := A2s) X G B7w B7a C0b B9k fun _ _ _ _ _ _ us hl => match us, hl with | [_, _, _], _ => rfl
 have D_nearer := D4 (ps := ["context", "sign", "exact"]) (st := A5a) X G C5v C3e C2y C4z fun _ _ _ _ _ _ us hl => match us, hl with | [_, _, _], _ => rfl
 have V1w := D4 (ps := ["_law_script", "_law_k"]) (st := C2b) X G J1g J4f J3p J7d fun _ _ _ _ _ _ us hl => match us, hl with | [_, _], _ => rfl
 have C1d := D4 (ps := ["_law_cell", "_law_k"]) (st := A5c) X G D5k D5b D3m D3t fun _ _ _ _ _ _ us hl => match us, hl with | [_, _], _ => rfl
 have J7a := D4 (ps := ["_law_power"]) (st := C0e) X G J1c J0a J1y J3j fun _ _ _ _ _ _ us hl => match us, hl with | [_], _ => rfl
 have V1c := D4 (ps := ["_law_cell", "_law_most"]) (st := C1e) X G G9y J2h G9v J0h fun _ _ _ _ _ _ us hl => match us, hl with | [_, _], _ => rfl
 have G5r := D4 (ps := ["_law_cell"]) (st := A4p) X G C3c C5h C6c C6d fun _ _ _ _ _ _ us hl => match us, hl with | [_], _ => rfl
 have C3s := D4 (ps := ["_law_frame_here"]) (st := B2a) X G J2x J0u J2m G8x fun _ _ _ _ _ _ us hl => match us, hl with | [_], _ => rfl
 have G5n := D4 (ps := ["_law_cell", "_law_most"]) (st := A4q) X G C3t C3a C4a C5z fun _ _ _ _ _ _ us hl => match us, hl with | [_, _], _ => rfl
 have J9h := D4 (ps := ["_law_part", "_law_cell"]) (st := B3c) X G D4p D4g D6m D6v fun _ _ _ _ _ _ us hl => match us, hl with | [_, _], _ => rfl
 have D8k := D4 (ps := ["_law_one", "_law_other"]) (st := A7t) X G D5w G0b G1k D9x fun _ _ _ _ _ _ us hl => match us, hl with | [_, _], _ => rfl
 have J9m := D4 (ps := ["_law_frame_here", "_law_number", "_law_settled_one", "_law_first"]) (st := B2r) X G D5t G1m G0a D8p fun _ _ _ _ _ _ us hl => match us, hl with | [_, _, _, _], _ => rfl
 have J9e := D4 (ps := ["_law_frame_here", "_law_settled_one"]) (st := B2u) X G D3p D9z G0x D4k fun _ _ _ _ _ _ us hl => match us, hl with | [_, _], _ => rfl
 have G5y := D4 (ps := ["_law_frame_here", "_law_settled_one"]) (st := A4v) X G C4v C4w C6j C5q fun _ _ _ _ _ _ us hl => match us, hl with | [_, _], _ => rfl
 have Z8a := D4 (ps := ["_law_script"]) (st := D2d) X G J8w V4r Y2a V3u fun _ _ _ _ _ _ us hl => match us, hl with | [_], _ => rfl
 have O : Own mg := ⟨mg_none_of X G A6y, mg_none_of X G V9y, mg_none_of X G G9a, mg_none_of X G V1y, mg_none_of X G J5k, mg_none_of X G G0j, mg_none_of X G J4b, mg_none_of X G V3r, mg_none_of X G D7n, mg_none_of X G V2n, mg_none_of X G V8w, mg_none_of X G V5e, mg_none_of X G Y2r, mg_none_of X G V8k, mg_none_of X G V2p, mg_none_of X G J5m, mg_none_of X G B0s, mg_none_of X G B3y, mg_none_of X G Y0h, mg_none_of X G C3r, mg_none_of X G C3f, mg_none_of X G V3a, mg_none_of X G A5z⟩
 have T : Kit K := ⟨B3m, A9p, B3n, A8j, A5x, B1b, A9q, A6w, B0c, A5h, A3s, A6a, B3t, A9f, B4b, B0v, A5s, A9w, B0y, A6m, B0z, A7e, A3u, A6z, A5k, A3r, A6b, A3w, A2v, A3v, A8n, A7b, A8p, A6v, A3t, A6h, A1k, A0f, A1m, A0g, Z7, A0h⟩
 have Z8f : Cls K W0 := ⟨V8r, Y0p, V0v, Y1p⟩
 have Z8n : Mk0 K W0 := ⟨V8n, V8y, V7d⟩
 have F_name_W0 := G3 (st := sN0) B6j B6x B1w
 have U4m := F_name_W0.binds (ps := ["self"]) fun _ _ _ _ _ _ us hl => match us, hl with | [_], _ => rfl
 have G9f : Meth K W0 "name" A4f := ⟨B9r, B7q, B1w⟩
 have WC0 : WayC K mg "Down" W0 CW := ⟨mg_of X G Z3p, Z8f, Z8n, V6c, sn, tk, V2g, V8m⟩
 have Z7p : Cls K W1 := ⟨V5u, Y3d, V2y, V5a⟩
 have Z8k : Mk0 K W1 := ⟨V8e, V5s, V5k⟩
 have F_name_W1 := G3 (st := sN1) B9z B8w B1q
 have U5j := F_name_W1.binds (ps := ["self"]) fun _ _ _ _ _ _ us hl => match us, hl with | [_], _ => rfl
 have J6u : Meth K W1 "name" A4h := ⟨B6k, B7d, B1q⟩
 have WC1 : WayC K mg "Up" W1 CW := ⟨mg_of X G Z2v, Z7p, Z8k, V9n, sn, tk, V4g, Y3u⟩
 have Z7t : Cls K W2 := ⟨Y1b, V3t, V3c, V3v⟩
 have Z7h : Mk0 K W2 := ⟨V4a, V1p, V1q⟩
 have F_name_W2 := G3 (st := sN2) B6z B8r B1t
 have U6g := F_name_W2.binds (ps := ["self"]) fun _ _ _ _ _ _ us hl => match us, hl with | [_], _ => rfl
 have J4a : Meth K W2 "name" A4d := ⟨B8u, B8s, B1t⟩
 have WC2 : WayC K mg "Floor" W2 CW := ⟨mg_of X G Z2w, Z7t, Z7h, V4d, sn, tk, V3x, Y0m⟩
 have Z8j : Cls K W3 := ⟨V0t, V7s, Y3k, Y2d⟩
 have Z7y : Mk0 K W3 := ⟨V7e, V4k, Y2z⟩
 have F_name_W3 := G3 (st := sN3) B8h B6h B1u
 have U5a := F_name_W3.binds (ps := ["self"]) fun _ _ _ _ _ _ us hl => match us, hl with | [_], _ => rfl
 have G9p : Meth K W3 "name" A4j := ⟨B9w, B7e, B1u⟩
 have WC3 : WayC K mg "Ceiling" W3 CW := ⟨mg_of X G Z1s, Z8j, Z7y, V8s, sn, tk, V1z, V2t⟩
 have Z7q : Cls K W4 := ⟨Y0f, V5v, V2e, Y1s⟩
 have Z7n : Mk0 K W4 := ⟨V6n, Y0x, V0z⟩
 have F_name_W4 := G3 (st := sN4) B9q B8c B1v
 have U2r := F_name_W4.binds (ps := ["self"]) fun _ _ _ _ _ _ us hl => match us, hl with | [_], _ => rfl
 have J6g : Meth K W4 "name" A4b := ⟨B7f, B7n, B1v⟩
 have WC4 : WayC K mg "HalfUp" W4 CW := ⟨mg_of X G Z1t, Z7q, Z7n, V3p, sn, tk, V2b, V5d⟩
 have Z6z : Cls K W5 := ⟨V8b, Y3q, V6d, V2k⟩
 have Z8c : Mk0 K W5 := ⟨Y2f, V2r, V4x⟩
 have F_name_W5 := G3 (st := sN5) B8j B9h B1r
 have U1u := F_name_W5.binds (ps := ["self"]) fun _ _ _ _ _ _ us hl => match us, hl with | [_], _ => rfl
 have G9u : Meth K W5 "name" A4c := ⟨B9m, B9a, B1r⟩
 have WC5 : WayC K mg "HalfDown" W5 CW := ⟨mg_of X G Z1x, Z6z, Z8c, V6p, sn, tk, V3n, V8x⟩
 have Z7s : Cls K W6 := ⟨V6y, Y2p, V9r, V4p⟩
 have Z7m : Mk0 K W6 := ⟨V1a, V4y, V5c⟩
 have F_name_W6 := G3 (st := sN6) B8z B9g B1s
 have U5d := F_name_W6.binds (ps := ["self"]) fun _ _ _ _ _ _ us hl => match us, hl with | [_], _ => rfl
 have J1v : Meth K W6 "name" A4g := ⟨B8d, B6r, B1s⟩
 have WC6 : WayC K mg "HalfEven" W6 CW := ⟨mg_of X G Z2u, Z7s, Z7m, Y3f, sn, tk, V3y, Y0e⟩
 have Z7d : Cls K W7 := ⟨V5b, V6t, Y3h, V2s⟩
 have Z8d : Mk0 K W7 := ⟨V9q, V1n, V9w⟩
 have F_name_W7 := G3 (st := sN7) B7h B7u B1x
 have U4t := F_name_W7.binds (ps := ["self"]) fun _ _ _ _ _ _ us hl => match us, hl with | [_], _ => rfl
 have J1s : Meth K W7 "name" A4e := ⟨B6y, B9f, B1x⟩
 have WC7 : WayC K mg "FiveUp" W7 CW := ⟨mg_of X G Z3w, Z7d, Z8d, Y1j, sn, tk, V1f, V6e⟩
 let cw : Wy -> Addr := fun y => match y with | .down => W0 | .up => W1 | .floor => W2 | .ceiling => W3 | .halfUp => W4 | .halfDown => W5 | .halfEven => W6 | .fiveUp => W7
 have W : ∀ y : Wy, WayC K mg y.cls (cw y) CW := fun y => match y with | .down => WC0 | .up => WC1 | .floor => WC2 | .ceiling => WC3 | .halfUp => WC4 | .halfDown => WC5 | .halfEven => WC6 | .fiveUp => WC7
 have Z7c : Cls K CN := ⟨V6z, V4f, V1k, Y0a⟩
 have FI_CN := G3 (st := D0v) Y1f Y3e V4q
 have Z7a := FI_CN.binds (ps := ["self", "kind", "sign", "figures", "power"]) fun _ _ _ _ _ _ us hl => match us, hl with | [_, _, _, _, _], _ => rfl
 have M_CN : Mk K CN D1h := ⟨V4b, Y1g, Y1t, V6j⟩
 have N : Num K mg CN := ⟨mg_of X G Z2d, Z7c, B8n, B7p, A6q, B4c, V7t, sn, tk, V2d, D6b⟩
 have F_goes_up_W0 := G3 (st := sU0) A7k A5f A1v
 have G1q := F_goes_up_W0.binds (ps := ["self", "sign", "last", "part"]) fun _ _ _ _ _ _ us hl => match us, hl with | [_, _, _, _], _ => rfl
 have C9p : Meth K W0 "goes_up" Z2 := ⟨A5n, A7h, A1v⟩
 have F_to_end_W0 := G3 (st := sT0) A9a B0x A3m
 have G3u := F_to_end_W0.binds (ps := ["self", "sign"]) fun _ _ _ _ _ _ us hl => match us, hl with | [_, _], _ => rfl
 have D3e : Meth K W0 "to_end" A0z := ⟨A8w, A9r, A3m⟩
 have F_goes_up_W1 := G3 (st := sU1) A7f A5y A1x
 have G1r := F_goes_up_W1.binds (ps := ["self", "sign", "last", "part"]) fun _ _ _ _ _ _ us hl => match us, hl with | [_, _, _, _], _ => rfl
 have C7j : Meth K W1 "goes_up" Z5 := ⟨A6x, A6e, A1x⟩
 have F_to_end_W1 := G3 (st := sT1) B1a A9x A3d
 have G5h := F_to_end_W1.binds (ps := ["self", "sign"]) fun _ _ _ _ _ _ us hl => match us, hl with | [_, _], _ => rfl
 have G1t : Meth K W1 "to_end" A1d := ⟨B0p, A9v, A3d⟩
 have F_goes_up_W2 := G3 (st := sU2) A5q A6p A1z
 have D9u := F_goes_up_W2.binds (ps := ["self", "sign", "last", "part"]) fun _ _ _ _ _ _ us hl => match us, hl with | [_, _, _, _], _ => rfl
 have C7r : Meth K W2 "goes_up" Z9 := ⟨A5j, A6r, A1z⟩
 have F_to_end_W2 := G3 (st := sT2) A8r A8q A3f
 have G4e := F_to_end_W2.binds (ps := ["self", "sign"]) fun _ _ _ _ _ _ us hl => match us, hl with | [_, _], _ => rfl
 have D4q : Meth K W2 "to_end" A1b := ⟨B0f, A8x, A3f⟩
 have F_goes_up_W3 := G3 (st := sU3) A7g A7d A2a
 have D3d := F_goes_up_W3.binds (ps := ["self", "sign", "last", "part"]) fun _ _ _ _ _ _ us hl => match us, hl with | [_, _, _, _], _ => rfl
 have C9y : Meth K W3 "goes_up" Z3 := ⟨A6g, A6c, A2a⟩
 have F_to_end_W3 := G3 (st := sT3) B0k B0b A3b
 have G3n := F_to_end_W3.binds (ps := ["self", "sign"]) fun _ _ _ _ _ _ us hl => match us, hl with | [_, _], _ => rfl
 have D6c : Meth K W3 "to_end" A1a := ⟨A8z, A9c, A3b⟩
 have F_goes_up_W4 := G3 (st := sU4) A5t A5w A2b
 have D7e := F_goes_up_W4.binds (ps := ["self", "sign", "last", "part"]) fun _ _ _ _ _ _ us hl => match us, hl with | [_, _, _, _], _ => rfl
 have C7z : Meth K W4 "goes_up" Z1 := ⟨A5g, A5v, A2b⟩
 have F_to_end_W4 := G3 (st := sT4) B0h B0e A3k
 have G3k := F_to_end_W4.binds (ps := ["self", "sign"]) fun _ _ _ _ _ _ us hl => match us, hl with | [_, _], _ => rfl
 have D4d : Meth K W4 "to_end" A0v := ⟨A9m, A8s, A3k⟩
 have F_goes_up_W5 := G3 (st := sU5) A7j A6u A1y
 have G0p := F_goes_up_W5.binds (ps := ["self", "sign", "last", "part"]) fun _ _ _ _ _ _ us hl => match us, hl with | [_, _, _, _], _ => rfl
 have C9g : Meth K W5 "goes_up" Z8 := ⟨A5r, A6f, A1y⟩
 have F_to_end_W5 := G3 (st := sT5) A8y B0w A3c
 have G6c := F_to_end_W5.binds (ps := ["self", "sign"]) fun _ _ _ _ _ _ us hl => match us, hl with | [_, _], _ => rfl
 have D5y : Meth K W5 "to_end" A0y := ⟨A9y, B0m, A3c⟩
 have F_goes_up_W6 := G3 (st := sU6) A5e A6k A1u
 have G0f := F_goes_up_W6.binds (ps := ["self", "sign", "last", "part"]) fun _ _ _ _ _ _ us hl => match us, hl with | [_, _, _, _], _ => rfl
 have C8n : Meth K W6 "goes_up" Z4 := ⟨A6t, A6s, A1u⟩
 have F_to_end_W6 := G3 (st := sT6) B0j B0g A3j
 have G3h := F_to_end_W6.binds (ps := ["self", "sign"]) fun _ _ _ _ _ _ us hl => match us, hl with | [_, _], _ => rfl
 have D6w : Meth K W6 "to_end" A1c := ⟨A8h, B0r, A3j⟩
 have F_goes_up_W7 := G3 (st := sU7) A6d A6n A1w
 have D9s := F_goes_up_W7.binds (ps := ["self", "sign", "last", "part"]) fun _ _ _ _ _ _ us hl => match us, hl with | [_, _, _, _], _ => rfl
 have C7k : Meth K W7 "goes_up" Z6 := ⟨A6j, A7c, A1w⟩
 have F_to_end_W7 := G3 (st := sT7) B0d A9z A3g
 have G4x := F_to_end_W7.binds (ps := ["self", "sign"]) fun _ _ _ _ _ _ us hl => match us, hl with | [_, _], _ => rfl
 have D4j : Meth K W7 "to_end" A0w := ⟨B0a, A9b, A3g⟩
 have Z7j : Cls K CC := ⟨V2w, V4e, V5h, V7h⟩
 have Z7x := J7v (st := Y8) V3k V7x Y0k
 have M_CC : Mk K CC D1q := ⟨Y3n, V3m, V4j, V6s⟩
 have F_flags_CC := G3 (st := A2c) B3z B4a A5m
 have G8r := F_flags_CC.binds (ps := ["self"]) fun _ _ _ _ _ _ us hl => match us, hl with | [_], _ => rfl
 have G5j : Meth K CC "flags" A2u := ⟨B3d, B3g, A5m⟩
 have F_lowest_CC := G3 (st := B1j) B0u A8v A3h
 have G4u := F_lowest_CC.binds (ps := ["self"]) fun _ _ _ _ _ _ us hl => match us, hl with | [_], _ => rfl
 have D6t : Meth K CC "lowest" A1e := ⟨A8m, A8u, A3h⟩
 have F_way_CC := G3 (st := B1h) C6a C5e B5h
 have Y0g := F_way_CC.binds (ps := ["self"]) fun _ _ _ _ _ _ us hl => match us, hl with | [_], _ => rfl
 have U5m : Meth K CC "way" A9j := ⟨C5n, C3u, B5h⟩
 have F_raised_CC := G3 (st := A0b) A9s A9t A3e
 have G4m := F_raised_CC.binds (ps := ["self", "names"]) fun _ _ _ _ _ _ us hl => match us, hl with | [_, _], _ => rfl
 have D6j : Meth K CC "raised" A0x := ⟨B1c, A9e, A3e⟩
 have Z7u : Cls K CQ := ⟨V7m, Y0u, Y3p, V4c⟩
 have Z7z := J7v (st := A4t) Y3b V6g V3g
 have M_CQ : Mk K CQ D1n := ⟨V4z, V8c, V2j, Y3c⟩
 have F_first_CQ := G3 (st := A2t) B3w B3p A5u
 have J3c := F_first_CQ.binds (ps := ["self"]) fun _ _ _ _ _ _ us hl => match us, hl with | [_], _ => rfl
 have G5b : Meth K CQ "first" A0e := ⟨B3k, B3s, A5u⟩
 have F_at_CQ := G3 (st := C1q) D6s D9v C1c
 have J9c := F_at_CQ.binds (ps := ["self", "power"]) fun _ _ _ _ _ _ us hl => match us, hl with | [_, _], _ => rfl
 have G4t : Meth K CQ "at" B1p := ⟨D7t, D7r, C1c⟩
 have xk3 : ExcK K C3 := ⟨xga3, xgh3, xca3, sn, tk, xob3, xbe3, by rw [xcl3]; rfl⟩
 have nkT : nsOkIn K NT = true := by unfold nsOkIn; rw [lN]; exact alN
 have tlT : tailIn K J7z bmT = true := by
   have z := q1
   unfold excIn at z
   rw [lT1] at z
   simp only [excClassObj, Bool.and_eq_true] at z
   exact z.1.1.2
 have F_iT := G3 (st := B1k) Y6z Z2q Z3k
 have b_iT := F_iT.binds (ps := ["self", "signal"]) fun _ _ _ _ _ _ us hl => match us, hl with | [_, _], _ => rfl
 have XI3 : ExcI K C3 fX := ⟨⟨_, _, _, _, _, _, _, _, _, _, _, _, _, _, _, lT, nkT, niT, tlT⟩, ⟨_, Y6z, fcT⟩, saT, xob3⟩
 have SG : SigK K mg aS := ⟨mg_of X G a_S, ⟨_, lS, rfl⟩, fun H => .inr ⟨_, _, _, lS, rfl, rfl, D6 (by show 7 <= 1000; decide), .cons ⟨_, rfl⟩ (.cons ⟨_, rfl⟩ (.cons ⟨_, rfl⟩ (.cons ⟨_, rfl⟩ (.cons ⟨_, rfl⟩ (.cons ⟨_, rfl⟩ (.cons ⟨_, rfl⟩ (.nil)))))))⟩⟩
 have C : CtxC K mg CC := ⟨mg_of X G Z3f, Z7j, B7r, B8k, B3h, B6d, B3u, A5p⟩
 have B1 : Err K mg "BadContext" C1 := ⟨mg_of X G Z3d, q1⟩
 have B2 : Err K mg "BadNumber" C2 := ⟨mg_of X G Z3j, q2⟩
 have R : RatC K mg CQ CE := ⟨mg_of X G Z2y, mg_of X G Z2f, Z7u, C5a, B0t, B4f, V7n, sn, tk, V5z, Y0n⟩
 have b4 := G7m (fd := fnOf "__init__" "Context.__init__" (A8 Y8) (A7 Y8) (A1 Y8) (.ref Y0c) V7j V6h V3d V6k J5b V1s) (ps := ["self", "room", "way", "least", "most"]) (ds := []) rfl V5g rfl fun us hl => by obtain ⟨a, b, c, d, e, rfl⟩ := Z9c (Y5t hl); exact ⟨_, rfl, rfl⟩
 refine ⟨fnOf "law" "law" (A8 D2d) (A7 D2d) (A1 D2d) .none V9e V4m V8h V2z J6b V7r, fun s v => .of_eq rfl, fun base _ _ => ?_⟩
 have WN : ∀ y : Wy, Z5b l.prog w K mg base (cw y) y.name := fun y => match y with | .down => ⟨_, _, G9f, Z4w F_name_W0, U4m⟩ | .up => ⟨_, _, J6u, Z5c F_name_W1, U5j⟩ | .floor => ⟨_, _, J4a, Z5g F_name_W2, U6g⟩ | .ceiling => ⟨_, _, G9p, Z5x F_name_W3, U5a⟩ | .halfUp => ⟨_, _, J6g, Z6b F_name_W4, U2r⟩ | .halfDown => ⟨_, _, G9u, Z6g F_name_W5, U1u⟩ | .halfEven => ⟨_, _, J1v, Z4q F_name_W6, U5d⟩ | .fiveUp => ⟨_, _, J1s, Z6m F_name_W7, U4t⟩
 have U : ∀ y : Wy, Z5u l.prog w K mg base (cw y) y := fun y => match y with | .down => ⟨_, _, C9p, Z6q F_goes_up_W0, G1q⟩ | .up => ⟨_, _, C7j, Z4h F_goes_up_W1, G1r⟩ | .floor => ⟨_, _, C7r, Z6n F_goes_up_W2, D9u⟩ | .ceiling => ⟨_, _, C9y, Z5y F_goes_up_W3, D3d⟩ | .halfUp => ⟨_, _, C7z, Z4g F_goes_up_W4, D7e⟩ | .halfDown => ⟨_, _, C9g, Z4r F_goes_up_W5, G0p⟩ | .halfEven => ⟨_, _, C8n, Z6p F_goes_up_W6, G0f⟩ | .fiveUp => ⟨_, _, C7k, Z5t F_goes_up_W7, D9s⟩
 have E2 : ∀ y : Wy, Z6r l.prog w K mg base (cw y) y := fun y => match y with | .down => ⟨_, _, D3e, Z4j F_to_end_W0, G3u⟩ | .up => ⟨_, _, G1t, Z6d F_to_end_W1, G5h⟩ | .floor => ⟨_, _, D4q, Z5e F_to_end_W2, G4e⟩ | .ceiling => ⟨_, _, D6c, Z4k F_to_end_W3, G3n⟩ | .halfUp => ⟨_, _, D4d, Z4m F_to_end_W4, G3k⟩ | .halfDown => ⟨_, _, D5y, Z5r F_to_end_W5, G6c⟩ | .halfEven => ⟨_, _, D6w, Z6e F_to_end_W6, G3h⟩ | .fiveUp => ⟨_, _, D4j, Z6a F_to_end_W7, G4x⟩
 have Gb := G7z (P := l.prog) (w := w) (base := base) D_bounded V8p O T B1
 have Gw := U8x (P := l.prog) (w := w) (base := base) D5a O T B1 W
 have MC : MakeC l.prog w K mg base CC C1 D1q _ := ⟨M_CC, G8a Z7x D_bounded D5a Gb Gw C W WN⟩
 have MR : MakeR l.prog w K mg base CQ D1n (fnOf "__init__" "Ratio.__init__" (A8 A4t) (A7 A4t) (A1 A4t) (.ref V7c) V4t V7u V4h V2q J4w Y1y) (.int 0 Y9k) (fun us ws => match ws with | [a] => us ++ [a] | _ => []) (fun us ws => match ws with | [a] => us ++ [a] | _ => []) :=
   { m := M_CQ
     g := U8d Z7z R
     b3 := G7m rfl G3p rfl fun us hl => by obtain ⟨a, b, c, d, rfl⟩ := len4 (Y5t hl); exact ⟨_, rfl, rfl⟩
     b2 := G7m rfl G3p rfl fun us hl => by obtain ⟨a, b, c, rfl⟩ := Z5v (Y5t hl); exact ⟨_, rfl, rfl⟩
     r0 := ⟨_, rfl⟩
     kP := ⟨(fun s us ws XK hl => by
         rcases ws with _ | ⟨p, _ | ⟨q, t⟩⟩
         . cases hl
         . obtain ⟨a, b, c, rfl⟩ := Z5v (Y5t hl)
           exact binds_K XK rfl G3p rfl rfl rfl
         . cases hl), fun r z => match z with
       | .cons a .nil => r.append (.cons a .nil)
       | .nil => .nil
       | .cons _ (.cons _ _) => .nil⟩
     eP := fun _ _ _ _ => rfl }
 have M : MakeN l.prog w K mg base CN D1h _ := ⟨M_CN, Y4s FI_CN N, Z7a⟩
 have Gn := U9y (P := l.prog) (w := w) (base := base) J8y O T B1 SG
 have Go := U7v (P := l.prog) (w := w) (base := base) J9g SG
 have GX := U1s (P := l.prog) (w := w) (mg := mg) (base := base) F_iT XI3 nsg3
 have MF : Has l.prog w K mg base CC "flags" 1 ["self"] (A4x CC) := ⟨_, _, G5j, G2m F_flags_CC C O, G8r⟩
 have ML : Has l.prog w K mg base CC "lowest" 1 ["self"] (B4t CC) := ⟨_, _, D6t, U0p F_lowest_CC C, G4u⟩
 have MW : Has l.prog w K mg base CC "way" 2 ["self"] (C1k CC cw) := ⟨_, _, U5m, U1a F_way_CC D5a Gw C, Y0g⟩
 have MD : Has l.prog w K mg base CC "raised" 3 ["self", "names"] (C2t K CC C1 C3) := ⟨_, _, D6j, U1c F_raised_CC J8y Gn J9g Go C (mg_of X G Z2x) XI3 GX b_iT, G4m⟩
 have CM : CtxM l.prog w K mg base CC C1 C3 CW cw := ⟨C, MW, ML, MD, W, U, E2⟩
 have Gneedn := G2r (P := l.prog) (w := w) (base := base) B1n O T B2 N
 have Gtold := Y5m (P := l.prog) (w := w) (base := base) D_told B1n O T B2 N
 have Gplain := U9u (P := l.prog) (w := w) (base := base) D_plain D1p V8p O T B2 N M
 have Gend := Z0m (P := l.prog) (w := w) (base := base) D_end D1p V8p O T B2 N M
 have Gnothing := G7t (P := l.prog) (w := w) (base := base) D_nothing N M
 have Glead := Y6c (P := l.prog) (w := w) (base := base) Y2y O N
 have Gto := U8c (P := l.prog) (w := w) (base := base) A7a C0k (D2y C0k)
 have Gpart := J9v (P := l.prog) (w := w) (base := base) G3m
 have Gwl := U7u (P := l.prog) (w := w) (base := base) J9j A7a Gto
 have Gat := Z0a (P := l.prog) (w := w) (base := base) F_at_CQ A7a Gto G3m Gpart R O
 have RM : RatM l.prog w K mg base CQ A0e B1p _ _ := ⟨G5b, U0a F_first_CQ J9j Gwl G4t Gat J9c R, J3c, G4t, Gat, J9c⟩
 have Gnea := G7w (P := l.prog) (w := w) (base := base) D1z N M
 have Gnei := D2u (P := l.prog) (w := w) (base := base) D_neighbour CM
 have Gwit := U0d (P := l.prog) (w := w) (base := base) C5g A7a Gto CM N M
 have Gbey := U0q (P := l.prog) (w := w) (base := base) C5s Y2y Glead CM N
 have Gnin := U8g (P := l.prog) (w := w) (base := base) D_nines A7a Gto CM N M
 have Gbur := U7k (P := l.prog) (w := w) (base := base) D_burst D_nines Gnin D_end Gend CM
 have Gsr := G6v (P := l.prog) (w := w) (base := base) D1j
 have Gsl := G6x (P := l.prog) (w := w) (base := base) D1w CM
 have Gnou := U1p (P := l.prog) (w := w) (base := base) D_nought CM N M O
 have Gfin := J9r (P := l.prog) (w := w) (base := base) B4u CM RM R O
 have Gset := G6s (P := l.prog) (w := w) (base := base) D_settled B4u Gfin D1z Gnea D_neighbour Gnei C5g Gwit C5s Gbey D_burst Gbur D1j Gsr D1w Gsl CM RM R N
 have Gneedns := U1q (P := l.prog) (w := w) (base := base) C5j B1n Gneedn
 have Gsomek := U8y (P := l.prog) (w := w) (base := base) J9a O N
 have Gwa := G6u (P := l.prog) (w := w) (base := base) D1m A7a Gto N
 have Gcmp := G2u (P := l.prog) (w := w) (base := base) D_compared C5j Gneedns J9a Gsomek V6r (Y5z V6r N) J9n (U9j J9n) D1m Gwa O N
 have Gro := G7r (P := l.prog) (w := w) (base := base) D_rounded B1n Gneedn D_nought Gnou D_settled Gset CM MR R N
 have CL : CtxL l.prog w K mg base CC := ⟨C, ML⟩
 have Gfar := Z0r (P := l.prog) (w := w) (base := base) D_farther B4u Gfin C5g Gwit C5s Gbey D_end Gend CL RM R
 have Gner := Y3x (P := l.prog) (w := w) (base := base) D_nearer B4u Gfin D_nines Gnin A7a Gto N M CL RM R
 have Gst := G7u (P := l.prog) (w := w) (base := base) D_stepped D_nothing Gnothing D_nines Gnin D_farther Gfar D_nearer Gner N M CL MR R
 have Gup := U0u (P := l.prog) (w := w) (base := base) C3w B1n Gneedn D_stepped Gst
 have Gdn := J9q (P := l.prog) (w := w) (base := base) C6g B1n Gneedn D_stepped Gst
 have Gcell := Y4q (P := l.prog) (w := w) (base := base) V1w O
 have Gmix := U9d (P := l.prog) (w := w) (base := base) C1d
 have Glten := Y4m (P := l.prog) (w := w) (base := base) J7a O
 have Glfig := Y4b (P := l.prog) (w := w) (base := base) V1c C1d Gmix J7a Glten O
 have Glfr := U1k (P := l.prog) (w := w) (base := base) G5r
 have Glpl := U0w (P := l.prog) (w := w) (base := base) G5n C1d Gmix V1c Glfig
 have Glcx := Y5a (P := l.prog) (w := w) (base := base) C3s MC b4 C
 have Glli := U9v (P := l.prog) (w := w) (base := base) D8k D_compared Gcmp
 have Glnr := U7a (P := l.prog) (w := w) (base := base) J9h J7a Glten O
 have Glag := U0j (P := l.prog) (w := w) (base := base) G5y C3s Glcx D_rounded Gro D_told Gtold C MF
 have Glba := U8w (P := l.prog) (w := w) (base := base) J9e C3s Glcx C3w Gup C6g Gdn D8k Glli N
 have Glgo := V0h (P := l.prog) (w := w) (base := base) J9m C3s Glcx C3w Gup C6g Gdn D8k Glli D_compared Gcmp C MF O
 exact Z0e Z8a V1w Gcell C1d Gmix G5r Glfr G5n Glpl C3s Glcx J9h Glnr G5y Glag J9e Glba J9m Glgo D_compared Gcmp D_rounded Gro D_plain Gplain D_told Gtold N O
theorem walk {l : OpenLaw} {q : Program} {loose : List Str} {XP : (Str -> Option Value) -> Heap -> Prop} {YP : World -> Heap -> Prop} {d : DefRec} {K : Params -> Frag} (hn : l.most = some 63) (hdf : d.params.defaults = [])
   (hY : ∀ (w : World) (h : Heap), YP w h -> (K w.params).In h)
   (F : ∀ (w : World) (mg : Str -> Option Value) (fa : Addr) (h : Heap), (K w.params).In h -> h.Ns mainGlobals mg -> mg d.name = some (.ref fa) ->
     ∃ fd : FuncData, (∀ (s : Shared) (u : Value), BindsTo s fd ⟨[u], []⟩ [("_law_script", u)]) /\ ∀ base : Heap, (K w.params).In base -> base.Ns mainGlobals mg -> FnOk l.prog w (K w.params) mg base (CX1 l.prog w) 10 fa fd ["_law_script"] ((J7k (K w.params)))) :
   WalkO q loose XP YP l.row.toRowW d [] (fun f vs => PySem.call f vs) :=
 L2.walk_of (n := 63) (k := 10) (x := "_law_script") (CX := fun w => CX1 l.prog w) (sp := fun w => (J7k (K w.params))) hn (by decide) hdf ⟨rfl, by decide, by decide⟩ hY F (fun _ _ a ns hl _ hS => ⟨a, ns, rfl, hl, hS, fun _ => rfl⟩) fun _ _ _ _ _ z => by
   obtain ⟨_, _, _, _, _, _, _, _, _, _, z, _⟩ := z
   exact z
end TR
def PySem.W.Fast.tw10883063914662189183 : Unit := ()
def PySem.W.Fast.tw14639466786478914575 : Unit := ()
def PySem.W.Fast.tw15057312694703597941 : Unit := ()
def PySem.W.Fast.tw2234744796505463437 : Unit := ()
def PySem.W.Fast.tw8059967368048308461 : Unit := ()
def PySem.W.Fast.tw15976619999812041081 : Unit := ()
def PySem.W.Fast.tw15342197828869876323 : Unit := ()
def PySem.W.Fast.tw10970855675762507171 : Unit := ()
def PySem.W.Fast.tw2859583222928619464 : Unit := ()
def PySem.W.Fast.tw18372397761251954987 : Unit := ()
def PySem.W.Fast.tw14833377210425542494 : Unit := ()
def PySem.W.Fast.tw9180516596850816773 : Unit := ()
def PySem.W.Fast.tw15170079984427496120 : Unit := ()
def PySem.W.Fast.tw15841018765109432428 : Unit := ()
def PySem.W.Fast.tw18216864303401508429 : Unit := ()
def PySem.W.Fast.tw208816241193189879 : Unit := ()
def PySem.W.Fast.tw11137242841468059315 : Unit := ()
def PySem.W.Fast.tw7879341623822437623 : Unit := ()
def PySem.W.Fast.tw7219622608576720696 : Unit := ()
def PySem.W.Fast.tw13354066235990875635 : Unit := ()
def PySem.W.Fast.tw15370772221005787316 : Unit := ()
def PySem.W.Fast.tw1973034178720896862 : Unit := ()
def PySem.W.Fast.tw11349532606356979638 : Unit := ()
def PySem.W.Fast.tw8649523508647242678 : Unit := ()
def PySem.W.Fast.tw4653847317221675310 : Unit := ()
def PySem.W.Fast.tw8826167031963226903 : Unit := ()
def PySem.W.Fast.tw5366308613174379786 : Unit := ()
def PySem.W.Fast.tw11293646736998217112 : Unit := ()
def PySem.W.Fast.tw4257733141360663279 : Unit := ()
def PySem.W.Fast.tw10551861132887017995 : Unit := ()
def PySem.W.Fast.tw343970541112924306 : Unit := ()
def PySem.W.Fast.tw7822982751795546168 : Unit := ()
def PySem.W.Fast.tw12615159511249989819 : Unit := ()
def PySem.W.Fast.tw8964120985250387152 : Unit := ()
def PySem.W.Fast.tw14732745033485408759 : Unit := ()
def PySem.W.Fast.tw8140465017842028061 : Unit := ()
def PySem.W.Fast.tw7098301962368519751 : Unit := ()
def PySem.W.Fast.tw1884750444450506843 : Unit := ()
def PySem.W.Fast.tw9471833903673257011 : Unit := ()
def PySem.W.Fast.tw11959351480975558379 : Unit := ()
def PySem.W.Fast.tw15362886954871897585 : Unit := ()
def PySem.W.Fast.tw13600051647316954 : Unit := ()
def PySem.W.Fast.tw9343665952696651393 : Unit := ()
def PySem.W.Fast.tw11644992156939918751 : Unit := ()
def PySem.W.Fast.tw6679647067299655668 : Unit := ()
def PySem.W.Fast.tw16774507002035698131 : Unit := ()
def PySem.W.Fast.tw4790526236360333483 : Unit := ()
def PySem.W.Fast.tw18347897869009218197 : Unit := ()
def PySem.W.Fast.tw5780869539907582379 : Unit := ()
def PySem.W.Fast.tw3479586043815145770 : Unit := ()
def PySem.W.Fast.tw2712759271386242261 : Unit := ()
def PySem.W.Fast.tw10347253448640322334 : Unit := ()
def PySem.W.Fast.tw5757117021117149861 : Unit := ()
def PySem.W.Fast.tw16095208434563912572 : Unit := ()
def PySem.W.Fast.tw10617893753334469778 : Unit := ()
def PySem.W.Fast.tw14461715608501890908 : Unit := ()
def PySem.W.Fast.tw14027788000934145240 : Unit := ()
def PySem.W.Fast.tw2647637495231609046 : Unit := ()
def PySem.W.Fast.tw15223687322096687074 : Unit := ()
def PySem.W.Fast.tw16009380966479016885 : Unit := ()
def PySem.W.Fast.tw6796497458699420269 : Unit := ()
def PySem.W.Fast.tw7145032223004528588 : Unit := ()
def PySem.W.Fast.tw17663205870247310454 : Unit := ()
def PySem.W.Fast.tw13734296827359467319 : Unit := ()
def PySem.W.Fast.tw15847871700685860372 : Unit := ()
def PySem.W.Fast.tw13757614535301617955 : Unit := ()
def PySem.W.Fast.tw15514292343236699028 : Unit := ()
def PySem.W.Fast.tw18334294826554747925 : Unit := ()
def PySem.W.Fast.tw13382300891102842157 : Unit := ()
def PySem.W.Fast.tw16567486313360449262 : Unit := ()
def PySem.W.Fast.tw6542514426853089909 : Unit := ()
def PySem.W.Fast.tw8642466020636859860 : Unit := ()
def PySem.W.Fast.tw11525759200970027991 : Unit := ()
def PySem.W.Fast.tw10487539935905110126 : Unit := ()
def PySem.W.Fast.tw5509892881337980695 : Unit := ()
def PySem.W.Fast.tw9734104040156354823 : Unit := ()
def PySem.W.Fast.tw17754028592167773761 : Unit := ()
def PySem.W.Fast.tw10967731066270571206 : Unit := ()
def PySem.W.Fast.tw9523127451595291042 : Unit := ()
def PySem.W.Fast.tw8978920905174632645 : Unit := ()
def PySem.W.Fast.tw2346975735694881150 : Unit := ()
def PySem.W.Fast.tw6343017132766273930 : Unit := ()
def PySem.W.Fast.tw6185951395754164355 : Unit := ()
def PySem.W.Fast.tw1121932461301722308 : Unit := ()
def PySem.W.Fast.tw18033783065042874819 : Unit := ()
def PySem.W.Fast.tw11755515146272564782 : Unit := ()
def PySem.W.Fast.tw6431353622266078754 : Unit := ()
open PySem PySem.W PyProof.Rows
set_option maxRecDepth 100000 in
set_option maxHeartbeats 0 in
theorem PySem.Challenge.cw_tenreckon_k37_whole_order_kept_holds : PySem.Challenge.rw_tenreckon_k37_whole_order_kept.Holds := by
 w_on; o_law; k_head; (case hw => w_witness2)
 k_fill
 refine TR.walk (l := PySem.Challenge.rw_tenreckon_k37_whole_order_kept) rfl rfl (fun w h Y => PySem.W.kIn_of Y) ?F
 case F =>
   intro w mg fa h KX G hmg
   refine' TR.all_mk KX G hmg ?A9u ?A9d ?A8k ?A8t ?D6z ?D5g ?D9a ?D8r ?C3q ?C4q ?C6b ?C5b ?G1j ?D6h ?D4r ?D9k ?D9m ?D4v ?D5c ?D9n ?V3e ?V6v ?V9m ?Y0d ?C0a ?B7s ?B8f ?B7c ?J2c ?J2z ?G9n ?J1t ?J3q ?J5h ?J6n ?G9t ?D7u ?D3n ?D7y ?D8q ?B3j ?B3x ?B3r ?B4g ?D7p ?D9g ?D7v ?D8e ?B6s ?B6g ?B8p ?B8x ?Y0s ?V9d ?V4v ?V5w ?B9j ?B7z ?B8g ?B9v ?B8v ?B6e ?B8t ?B7m ?C6q ?C3y ?C3x ?C4k ?B7v ?B7g ?B9u ?B9x ?A9k ?A9g ?A9n ?B0n ?C4n ?C4s ?C3g ?C2z ?C6k ?C3n ?C6h ?C5w ?D8u ?D8d ?D8x ?D8w ?G0z ?G1a ?D4c ?D7q ?B7y ?B6m ?B9s ?B8m ?B7t ?B9y ?B8y ?B6n ?C4b ?C6m ?C6f ?C4f ?B6v ?B6q ?B6w ?B9n ?B3v ?B3f ?B3q ?B3e ?J3m ?J5z ?J1q ?J5q ?D6y ?D9f ?G1d ?G1e ?D3u ?D4s ?D3j ?D4b ?B9e ?B8b ?B7k ?B8e ?D5u ?D5x ?D7c ?D8b ?G0g ?D8y ?G0n ?D7w ?C4x ?C3v ?C5p ?C5t ?C6p ?C4d ?C3p ?C4m ?B6t ?B8a ?B9d ?B6u ?B7w ?B7a ?C0b ?B9k ?C5v ?C3e ?C2y ?C4z ?J1g ?J4f ?J3p ?J7d ?D5k ?D5b ?D3m ?D3t ?J1c ?J0a ?J1y ?J3j ?G9y ?J2h ?G9v ?J0h ?C3c ?C5h ?C6c ?C6d ?J2x ?J0u ?J2m ?G8x ?C3t ?C3a ?C4a ?C5z ?D4p ?D4g ?D6m ?D6v ?D5w ?G0b ?G1k ?D9x ?D5t ?G1m ?G0a ?D8p ?D3p ?D9z ?G0x ?D4k ?C4v ?C4w ?C6j ?C5q ?J8w ?V4r ?Y2a ?V3u ?A6y ?V9y ?G9a ?V1y ?J5k ?G0j ?J4b ?V3r ?D7n ?V2n ?V8w ?V5e ?Y2r ?V8k ?V2p ?J5m ?B0s ?B3y ?Y0h ?C3r ?C3f ?V3a ?A5z ?B3m ?A9p ?B3n ?A8j ?A5x ?B1b ?A9q ?A6w ?B0c ?A5h ?A3s ?A6a ?B3t ?A9f ?B4b ?B0v ?A5s ?A9w ?B0y ?A6m ?B0z ?A7e ?A3u ?A6z ?A5k ?A3r ?A6b ?A3w ?A2v ?A3v ?A8n ?A7b ?A8p ?A6v ?A3t ?A6h ?A1k ?A0f ?A1m ?A0g ?Z7 ?A0h ?sn ?tk ?Z8h ?Z3p ?V8r ?Y0p ?V0v ?Y1p ?V8n ?V7d ?V6c ?V2g ?V8y ?V8m ?B9r ?B7q ?B6j ?B6x ?B1w ?Z2v ?V5u ?Y3d ?V2y ?V5a ?V8e ?V5k ?V9n ?V4g ?V5s ?Y3u ?B6k ?B7d ?B9z ?B8w ?B1q ?Z2w ?Y1b ?V3t ?V3c ?V3v ?V4a ?V1q ?V4d ?V3x ?V1p ?Y0m ?B8u ?B8s ?B6z ?B8r ?B1t ?Z1s ?V0t ?V7s ?Y3k ?Y2d ?V7e ?Y2z ?V8s ?V1z ?V4k ?V2t ?B9w ?B7e ?B8h ?B6h ?B1u ?Z1t ?Y0f ?V5v ?V2e ?Y1s ?V6n ?V0z ?V3p ?V2b ?Y0x ?V5d ?B7f ?B7n ?B9q ?B8c ?B1v ?Z1x ?V8b ?Y3q ?V6d ?V2k ?Y2f ?V4x ?V6p ?V3n ?V2r ?V8x ?B9m ?B9a ?B8j ?B9h ?B1r ?Z2u ?V6y ?Y2p ?V9r ?V4p ?V1a ?V5c ?Y3f ?V3y ?V4y ?Y0e ?B8d ?B6r ?B8z ?B9g ?B1s ?Z3w ?V5b ?V6t ?Y3h ?V2s ?V9q ?V9w ?Y1j ?V1f ?V1n ?V6e ?B6y ?B9f ?B7h ?B7u ?B1x ?Z2d ?V6z ?V4f ?V1k ?Y0a ?V4b ?V6j ?V7t ?V2d ?B8n ?B7p ?A6q ?B4c ?Y1g ?Y1t ?Y1f ?Y3e ?V4q ?D6b ?A5n ?A7h ?A7k ?A5f ?A1v ?A8w ?A9r ?A9a ?B0x ?A3m ?A6x ?A6e ?A7f ?A5y ?A1x ?B0p ?A9v ?B1a ?A9x ?A3d ?A5j ?A6r ?A5q ?A6p ?A1z ?B0f ?A8x ?A8r ?A8q ?A3f ?A6g ?A6c ?A7g ?A7d ?A2a ?A8z ?A9c ?B0k ?B0b ?A3b ?A5g ?A5v ?A5t ?A5w ?A2b ?A9m ?A8s ?B0h ?B0e ?A3k ?A5r ?A6f ?A7j ?A6u ?A1y ?A9y ?B0m ?A8y ?B0w ?A3c ?A6t ?A6s ?A5e ?A6k ?A1u ?A8h ?B0r ?B0j ?B0g ?A3j ?A6j ?A7c ?A6d ?A6n ?A1w ?B0a ?A9b ?B0d ?A9z ?A3g ?Z3f ?V2w ?V4e ?V5h ?V7h ?Y3n ?V6s ?B7r ?B8k ?B3h ?B6d ?B3u ?A5p ?V3m ?V4j ?V3k ?V7x ?Y0k ?V5g ?B3d ?B3g ?B3z ?B4a ?A5m ?A8m ?A8u ?B0u ?A8v ?A3h ?C5n ?C3u ?C6a ?C5e ?B5h ?B1c ?A9e ?A9s ?A9t ?A3e ?Z2y ?V7m ?Y0u ?Y3p ?V4c ?V4z ?Y3c ?V7n ?V5z ?C5a ?B0t ?B4f ?V8c ?V2j ?Y3b ?V6g ?V3g ?G3p ?B3k ?B3s ?B3w ?B3p ?A5u ?D7t ?D7r ?D6s ?D9v ?C1c ?Z2f ?Y0n ?Z3d ?Z3j ?Z2x ?Z6y ?cty ?ccl ?cex ?sub3 ?xga3 ?xgh3 ?xca3 ?xob3 ?xbe3 ?xcl3 ?Z7e ?Z7f ?Z8m ?hv3 ?lT ?lN ?alN ?niT ?lT1 ?saT ?nsg3 ?Y6z ?Z2q ?Z3k ?fcT ?kTR ?q1 ?q2 ?a_S ?lS
   case A9u|A9d|A8k|A8t|D6z|D5g|D9a|D8r|C3q|C4q|C6b|C5b|G1j|D6h|D4r|D9k|D9m|D4v|D5c|D9n|V3e|V6v|V9m|Y0d|C0a|B7s|B8f|B7c|J2c|J2z|G9n|J1t|J3q|J5h|J6n|G9t|D7u|D3n|D7y|D8q|B3j|B3x|B3r|B4g|D7p|D9g|D7v|D8e|B6s|B6g|B8p|B8x|Y0s|V9d|V4v|V5w|B9j|B7z|B8g|B9v => k_is
   case B8v|B6e|B8t|B7m|C6q|C3y|C3x|C4k|B7v|B7g|B9u|B9x|A9k|A9g|A9n|B0n|C4n|C4s|C3g|C2z|C6k|C3n|C6h|C5w|D8u|D8d|D8x|D8w|G0z|G1a|D4c|D7q|B7y|B6m|B9s|B8m|B7t|B9y|B8y|B6n|C4b|C6m|C6f|C4f|B6v|B6q|B6w|B9n|B3v|B3f|B3q|B3e|J3m|J5z|J1q|J5q|D6y|D9f|G1d|G1e => k_is
   case D3u|D4s|D3j|D4b|B9e|B8b|B7k|B8e|D5u|D5x|D7c|D8b|G0g|D8y|G0n|D7w|C4x|C3v|C5p|C5t|C6p|C4d|C3p|C4m|B6t|B8a|B9d|B6u|B7w|B7a|C0b|B9k|C5v|C3e|C2y|C4z|J1g|J4f|J3p|J7d|D5k|D5b|D3m|D3t|J1c|J0a|J1y|J3j|G9y|J2h|G9v|J0h|C3c|C5h|C6c|C6d|J2x|J0u|J2m|G8x => k_is
   case C3t|C3a|C4a|C5z|D4p|D4g|D6m|D6v|D5w|G0b|G1k|D9x|D5t|G1m|G0a|D8p|D3p|D9z|G0x|D4k|C4v|C4w|C6j|C5q|J8w|V4r|Y2a|V3u|A6y|V9y|G9a|V1y|J5k|G0j|J4b|V3r|D7n|V2n|V8w|V5e|Y2r|V8k|V2p|J5m|B0s|B3y|Y0h|C3r|C3f|V3a|A5z => k_is
   case B3m|A9p|B3n|A8j|A5x|B1b|A9q|A6w|B0c|A5h|A3s|A6a|B3t|A9f|B4b|B0v|A5s|A9w|B0y|A6m|B0z|A7e|A3u|A6z|A5k|A3r|A6b|A3w|A2v|A3v|A8n|A7b|A8p|A6v|A3t|A6h|A1k|A0f|A1m|A0g|Z7|A0h => kit_is
   case sn|tk|Z8h|Z3p|V8r|Y0p|V0v|Y1p|V8n|V7d|V6c|V2g|V8y => k_is
   case V8m => kit_is
   case B9r|B7q|B6j|B6x|B1w|Z2v|V5u|Y3d|V2y|V5a|V8e|V5k|V9n|V4g|V5s => k_is
   case Y3u => kit_is
   case B6k|B7d|B9z|B8w|B1q|Z2w|Y1b|V3t|V3c|V3v|V4a|V1q|V4d|V3x|V1p => k_is
   case Y0m => kit_is
   case B8u|B8s|B6z|B8r|B1t|Z1s|V0t|V7s|Y3k|Y2d|V7e|Y2z|V8s|V1z|V4k => k_is
   case V2t => kit_is
   case B9w|B7e|B8h|B6h|B1u|Z1t|Y0f|V5v|V2e|Y1s|V6n|V0z|V3p|V2b|Y0x => k_is
   case V5d => kit_is
   case B7f|B7n|B9q|B8c|B1v|Z1x|V8b|Y3q|V6d|V2k|Y2f|V4x|V6p|V3n|V2r => k_is
   case V8x => kit_is
   case B9m|B9a|B8j|B9h|B1r|Z2u|V6y|Y2p|V9r|V4p|V1a|V5c|Y3f|V3y|V4y => k_is
   case Y0e => kit_is
   case B8d|B6r|B8z|B9g|B1s|Z3w|V5b|V6t|Y3h|V2s|V9q|V9w|Y1j|V1f|V1n => k_is
   case V6e => kit_is
   case B6y|B9f|B7h|B7u|B1x|Z2d|V6z|V4f|V1k|Y0a|V4b|V6j|V7t|V2d|B8n|B7p|A6q|B4c|Y1g|Y1t|Y1f|Y3e|V4q => k_is
   case D6b => kit_is
   case A5n|A7h|A7k|A5f|A1v|A8w|A9r|A9a|B0x|A3m|A6x|A6e|A7f|A5y|A1x|B0p|A9v|B1a|A9x|A3d|A5j|A6r|A5q|A6p|A1z|B0f|A8x|A8r|A8q|A3f|A6g|A6c|A7g|A7d|A2a|A8z|A9c|B0k|B0b|A3b|A5g|A5v|A5t|A5w|A2b|A9m|A8s|B0h|B0e|A3k|A5r|A6f|A7j|A6u|A1y|A9y|B0m|A8y|B0w|A3c => k_is
   case A6t|A6s|A5e|A6k|A1u|A8h|B0r|B0j|B0g|A3j|A6j|A7c|A6d|A6n|A1w|B0a|A9b|B0d|A9z|A3g|Z3f|V2w|V4e|V5h|V7h|Y3n|V6s|B7r|B8k|B3h|B6d|B3u|A5p|V3m|V4j|V3k|V7x|Y0k|V5g|B3d|B3g|B3z|B4a|A5m|A8m|A8u|B0u|A8v|A3h|C5n|C3u|C6a|C5e|B5h|B1c|A9e|A9s|A9t|A3e|Z2y => k_is
   case V7m|Y0u|Y3p|V4c|V4z|Y3c|V7n|V5z|C5a|B0t|B4f|V8c|V2j|Y3b|V6g|V3g|G3p|B3k|B3s|B3w|B3p|A5u|D7t|D7r|D6s|D9v|C1c|Z2f => k_is
   case Y0n => kit_is
   case Z3d|Z3j|Z2x|Z6y|cty|ccl|cex|sub3|xga3|xgh3|xca3|xob3|xbe3|xcl3 => k_is
   case Z7e|Z7f|Z8m|hv3 => kit_is
   case lT|lN => k_is
   case alN => simp
   case niT|lT1|saT|nsg3|Y6z|Z2q|Z3k => k_is
   case fcT => rfl
   case kTR => kit_is
   case q1|q2 => k_exc
   case a_S|lS => k_is

