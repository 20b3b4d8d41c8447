import PyProof.Rows.All
import Wide.All
import OpenK.AllK
import Wide.FinOn
import Lean
import PyProof.EqAt
import PyProof.EqKinds
import PyProof.TupleCall
import PyProof.Rows.Catch
import PyProof.Rows.TupIter
import PyProof.TupleIter
import PyProof.Seq
import PyProof.ExcInit
import PyProof.ExcClass2
import KE.KIntText
import PyProof.StrOps2
import PyProof.ConsumeWalk
import PyProof.Rows.RuleM_int
import PyProof.ZipIter
import PyProof.EnumMake
import KE.KLam
import PyProof.StrWalks
import PySem.Challenge.RW_tenreckon_k20_whole_over
set_option Elab.async false
set_option linter.all false
set_option maxRecDepth 100000
namespace L2
open PySem PySem.Spec PyProof.Rows
abbrev Key := Sum Int Str
def D6n : Key -> Value -> Bool
 | .inl k, v => Value.isInt k v
 | .inr x, v => Value.isStrOf x v
def keyH (w : World) : Key -> Int
 | .inl k => hashInt k
 | .inr x => hashStr w x
theorem Z0 : ∀ {k : Key} {v : Value}, D6n k v = true -> (∃ i t, k = Sum.inl i /\ v = Value.int i t) \/ (∃ x t, k = Sum.inr x /\ v = Value.str x t)
 | .inl i, v, h => by
   obtain ⟨t, e⟩ := Value.isInt_shape (k := i) (v := v) h
   exact .inl ⟨i, t, rfl, e⟩
 | .inr x, v, h => by
   obtain ⟨t, e⟩ := Value.isStrOf_shape (x := x) (v := v) h
   exact .inr ⟨x, t, rfl, e⟩
theorem V1g (i : Int) (t : Tok) : D6n (.inl i) (.int i t) = true := by simp [D6n, Value.isInt]
theorem V2f (x : Str) (t : Tok) : D6n (.inr x) (.str x t) = true := by simp [D6n, Value.isStrOf]
theorem A0dx (a b : Int) : decide ((Sum.inl a : Key) = Sum.inl b) = (a == b) := by
 by_cases e : a = b
 . subst e; simp
 have h : ¬ (Sum.inl a : Key) = Sum.inl b := fun q => e (Sum.inl.inj q)
 rw [decide_eq_false h]
 exact (beq_eq_false_iff_ne.mpr e).symm
theorem A0dy (a b : Str) : decide ((Sum.inr a : Key) = Sum.inr b) = decide (a = b) := by
 by_cases e : a = b
 . subst e; simp
 have h : ¬ (Sum.inr a : Key) = Sum.inr b := fun q => e (Sum.inr.inj q)
 rw [decide_eq_false h, decide_eq_false e]
theorem A0em (a : Int) (b : Str) : decide ((Sum.inl a : Key) = Sum.inr b) = false := decide_eq_false (fun q => nomatch q)
theorem A0dz (a : Str) (b : Int) : decide ((Sum.inr a : Key) = Sum.inl b) = false := decide_eq_false (fun q => nomatch q)
def Z4 (prog : Program) (w : World) : PySem.KeyKind prog w Key where
 is := D6n
 hash := keyH w
 inj := fun v a b ha hb => by
   rcases Z0 ha with ⟨i, t, rfl, rfl⟩ | ⟨x, t, rfl, rfl⟩
   . rcases Z0 hb with ⟨j, u, rfl, e⟩ | ⟨y, u, rfl, e⟩
     . injection e with e1 _; rw [e1]
     . exact nomatch e
   . rcases Z0 hb with ⟨j, u, rfl, e⟩ | ⟨y, u, rfl, e⟩
     . exact nomatch e
     . injection e with e1 _; rw [e1]
 byValue := fun k v h => by
   rcases Z0 h with ⟨i, t, rfl, rfl⟩ | ⟨x, t, rfl, rfl⟩ <;> rfl
 pyHash := fun hv h => by
   rcases Z0 hv with ⟨i, t, rfl, rfl⟩ | ⟨x, t, rfl, rfl⟩
   . exact wpAny_pyHash_int h
   . exact wpAny_pyHash_str h
 eqBool := fun hu hv h => by
   rcases Z0 hu with ⟨i, t, rfl, rfl⟩ | ⟨x, t, rfl, rfl⟩
   . rcases Z0 hv with ⟨j, u, rfl, rfl⟩ | ⟨y, u, rfl, rfl⟩
     . rw [A0dx] at h; exact wpAny_eqBool_int h
     . rw [A0em] at h; exact SeqAt.EqAt.int_str i t y u _ _ _ _ h
   . rcases Z0 hv with ⟨j, u, rfl, rfl⟩ | ⟨y, u, rfl, rfl⟩
     . rw [A0dz] at h; exact SeqAt.EqAt.str_int x t j u _ _ _ _ h
     . rw [A0dy] at h; exact wpAny_eqBool_str h
 «strs» := fun k x t v h => by
   rcases Z0 h with ⟨i, u, rfl, e⟩ | ⟨y, u, rfl, e⟩
   . exact nomatch e
   . injection e with e1 _
     subst e1
     cases v <;> rfl
theorem J0h (prog : Program) (w : World) (i : Int) (t : Tok) : (Z4 prog w).is (.inl i) (.int i t) = true := V1g i t
theorem J0e (prog : Program) (w : World) (x : Str) (t : Tok) : (Z4 prog w).is (.inr x) (.str x t) = true := V2f x t
inductive V where
 | non | bl (b : Bool) | int (i : Int) | str (x : Str) | byt (b : Array UInt8) | flt (b : UInt64) | ref (a : Addr) | ty (n : String)
 deriving DecidableEq
def U5 : V -> Value -> Prop
 | .non, u => u = Value.none
 | .bl b, u => u = Value.bool b
 | .int i, u => ∃ t, u = Value.int i t
 | .str x, u => ∃ t, u = Value.str x t
 | .byt b, u => ∃ t, u = Value.bytes b t
 | .flt b, u => ∃ t, u = Value.float b t
 | .ref a, u => u = Value.ref a
 | .ty n, u => u = Value.type n
abbrev U0 : List V -> List Value -> Prop := Paired U5
theorem U0.length {xs : List V} {us : List Value} (r : U0 xs us) : xs.length = us.length := Paired.length r
theorem U0.get : ∀ {xs : List V} {us : List Value} {i : Nat} {x : V}, U0 xs us -> xs[i]? = some x -> ∃ u, us[i]? = some u /\ U5 x u
 | _, _, _, _, .nil, e => by simp at e
 | _, _, 0, _, .cons r _, e => by simp at e; subst e; exact ⟨_, rfl, r⟩
 | _, _, i + 1, x, .cons _ t, e => by
   obtain ⟨u, h1, h2⟩ := U0.get (i := i) (x := x) t (by simpa using e)
   exact ⟨u, by simpa using h1, h2⟩
theorem U0.append : ∀ {xs ys : List V} {us ws : List Value}, U0 xs us -> U0 ys ws -> U0 (xs ++ ys) (us ++ ws)
 | _, _, _, _, .nil, s => s
 | _, _, _, _, .cons r t, s => .cons r (U0.append t s)
def A6q : Option V -> Option Value -> Prop
 | some v, some u => U5 v u
 | none, none => True
 | _, _ => False
def KV {κ : Type} : List (κ × V) -> List (κ × Value) -> Prop := Paired fun (p : κ × V) (q : κ × Value) => p.1 = q.1 /\ U5 p.2 q.2
def kV : Key -> V
 | .inl i => .int i
 | .inr x => .str x
inductive HO where
 | lst (xs : List V)
 | tup (xs : List V)
 | dK (kvs : List (Key × V)) | dT (kvs : List (List Key × V))
 | set (S : Int -> Bool) (n : Nat)
 | ins (C dx : Addr) (fs : List (Str × V))
 | own (x : Addr)
 | xd (fs : List (Str × V))
 | met (f x : Addr)
 | rng (lo hi : Int)
 | frz (o : Obj) (u : HO)
 | tbl (ps : Array Value)
 | ext (φ : Heap -> Prop)
abbrev Hp := Addr -> Option HO
def upd (H : Hp) (a : Addr) (o : HO) : Hp := fun b => if b = a then some o else H b
theorem A8 {H : Hp} {a : Addr} {o : HO} : upd H a o a = some o := by unfold upd; rw [if_pos rfl]
theorem C8 {H : Hp} {a b : Addr} {o : HO} (h : b ≠ a) : upd H a o b = H b := by unfold upd; rw [if_neg h]
theorem U8j {H : Hp} {a : Addr} {o u : HO} : upd (upd H a o) a u = upd H a u := by
 funext b; unfold upd; split <;> rfl
theorem V8 {H : Hp} {a b : Addr} {o u : HO} (h : H a = some o) (h' : H b = some u) (d : o ≠ u) : a ≠ b := by
 intro e; subst e; rw [h] at h'; exact d (Option.some.inj h')
theorem D5 {H : Hp} {a b : Addr} {o : HO} (h : H a = some o) (h' : H b = none) : a ≠ b := by
 intro e; subst e; rw [h] at h'; cases h'
section
variable (P : Program) (w : World)
def Y9 (H : Hp) (h : Heap) (a : Addr) : HO -> Prop
 | .lst xs => xs.length <= sizeLine /\ ∃ (its : List Value) (n : Nat), U0 xs its /\ h.get? a = some { cls := .type "list", data := .seq its.toArray n }
 | .tup xs => xs.length <= sizeLine /\ ∃ its : List Value, U0 xs its /\ IsTup h a its.toArray
 | .dK kvs => kvs.length <= sizeLine /\ (a == sysModules) = false /\ ∃ vs, KV kvs vs /\ h.DictOf (Z4 P w) a vs
 | .dT kvs => kvs.length <= sizeLine /\ (a == sysModules) = false /\ ∃ xs : List (List Key × Addr × Value),
     Paired (fun (p : List Key × V) (q : List Key × Addr × Value) => p.1 = q.1 /\ H q.2.1 = some (.tup (p.1.map kV)) /\ U5 p.2 q.2.2) kvs xs /\
     ∃ o es ep, h.get? a = some o /\ o.ExactDict /\ o.data = .dict es ep /\ es.toList = xs.map (entryOfKey (tupleKind (Z4 P w))) /\ (xs.map (·.1)).Nodup
 | .set S n => h.SetOf (intKind P w) a S n
 | .ins C dx fs => H dx = some (.own a) /\ fs.length <= 1000 /\ dx ≠ a /\ h.get? a = some (PySem.W.instObj C dx) /\
     ∃ mA, h.Ns1 dx mA /\ (∀ f, A6q (fs.lookup f) (mA f)) /\ PySem.Within mA (fs.map (·.1))
 | .own _ => ∃ o, h.get? a = some o
 | .xd fs => ∃ mA, h.Ns1 a mA /\ ∀ f, A6q (fs.lookup f) (mA f)
 | .rng lo hi => ∃ t u v, h.get? a = some { cls := .type "range", data := .fields #[.int lo t, .int hi u, .int 1 v] }
 | .frz o u => h.get? a = some o /\ Y9 H h a u
 | .tbl ps => h.get? a = some { cls := .none, data := .fields ps }
 | .met f x => h.get? a = some (PySem.W.methodObj (.ref f) (.ref x))
 | .ext φ => φ h /\ (∃ o, h.get? a = some o) /\ ∀ h1 h2 : Heap, φ h1 -> (∀ o, h1.get? a = some o -> h2.get? a = some o) -> φ h2
def HOk (H : Hp) (h : Heap) : Prop := ∀ a o, H a = some o -> Y9 P w H h a o
end
section
variable {P : Program} {w : World} {H H' : Hp} {h h' : Heap} {a : Addr} {o : HO}
theorem Y9.lt (x : Y9 P w H h a o) : a < h.objs.size := by
 cases o with
 | lst xs => obtain ⟨_, _, _, _, e⟩ := x; exact Heap.lt_size e
 | tup xs => obtain ⟨_, _, _, p⟩ := x; exact p.lt
 | dK kvs => obtain ⟨_, _, _, _, o, _, _, e, _⟩ := x; exact Heap.lt_size e
 | dT kvs => obtain ⟨_, _, _, _, o, _, _, e, _⟩ := x; exact Heap.lt_size e
 | set S n => obtain ⟨o, _, _, _, e, _⟩ := x; exact Heap.lt_size e
 | ins C dx fs => obtain ⟨_, _, _, e, _⟩ := x; exact Heap.lt_size e
 | own y => obtain ⟨_, e⟩ := x; exact Heap.lt_size e
 | xd fs => obtain ⟨_, ⟨_, _, _, e, _⟩, _⟩ := x; exact Heap.lt_size e
 | rng lo hi => obtain ⟨_, _, _, e⟩ := x; exact Heap.lt_size e
 | frz ob u => obtain ⟨e, _⟩ := x; exact Heap.lt_size e
 | tbl ps => exact Heap.lt_size (show h.get? a = some _ from x)
 | met f y => exact Heap.lt_size (show h.get? a = some _ from x)
 | ext φ => obtain ⟨_, ⟨_, e⟩, _⟩ := x; exact Heap.lt_size e
theorem Paired.mapP {α β : Type} {F G : α -> β -> Prop} : ∀ {l₁ : List α} {l₂ : List β}, Paired F l₁ l₂ -> (∀ a b, F a b -> G a b) -> Paired G l₁ l₂
 | _, _, .nil, _ => .nil
 | _, _, .cons r t, f => .cons (f _ _ r) (Paired.mapP t f)
theorem Y9.stay (x : Y9 P w H h a o) (k : ∀ b u, (b = a \/ H b = some (.own a)) -> h.get? b = some u -> h'.get? b = some u)
   (ho : ∀ b, H b = some (.own a) -> H' b = some (.own a)) (ht : ∀ b xs, H b = some (.tup xs) -> H' b = some (.tup xs)) : Y9 P w H' h' a o := by
 induction o with
 | lst xs => obtain ⟨z, its, n, r, e⟩ := x; exact ⟨z, its, n, r, k _ _ (.inl rfl) e⟩
 | tup xs => obtain ⟨z, its, r, ob, e, c⟩ := x; exact ⟨z, its, r, ob, k _ _ (.inl rfl) e, c⟩
 | dK kvs => obtain ⟨z, y, vs, r, ob, es, ep, e, c⟩ := x; exact ⟨z, y, vs, r, ob, es, ep, k _ _ (.inl rfl) e, c⟩
 | dT kvs =>
   obtain ⟨z, y, xs, r, ob, es, ep, e, c⟩ := x
   exact ⟨z, y, xs, Paired.mapP r fun p q z => ⟨z.1, ht _ _ z.2.1, z.2.2⟩, ob, es, ep, k _ _ (.inl rfl) e, c⟩
 | set S n => obtain ⟨ob, es, ep, t, e, c⟩ := x; exact ⟨ob, es, ep, t, k _ _ (.inl rfl) e, c⟩
 | ins C dx fs =>
   obtain ⟨d, z, ne, e, mA, ⟨od, es, ep, e2, c⟩, r⟩ := x
   exact ⟨ho _ d, z, ne, k _ _ (.inl rfl) e, mA, ⟨od, es, ep, k _ _ (.inr d) e2, c⟩, r⟩
 | own y => obtain ⟨ob, e⟩ := x; exact ⟨ob, k _ _ (.inl rfl) e⟩
 | xd fs => obtain ⟨mA, ⟨od, es, ep, e, c⟩, r⟩ := x; exact ⟨mA, ⟨od, es, ep, k _ _ (.inl rfl) e, c⟩, r⟩
 | rng lo hi => obtain ⟨t, u, v, e⟩ := x; exact ⟨t, u, v, k _ _ (.inl rfl) e⟩
 | frz ob u ih => obtain ⟨e, q⟩ := x; exact ⟨k _ _ (.inl rfl) e, ih q⟩
 | tbl ps =>
   have e : h.get? a = some { cls := .none, data := .fields ps } := x
   show h'.get? a = some { cls := .none, data := .fields ps }
   exact k a _ (.inl rfl) e
 | met f y =>
   have e : h.get? a = some (PySem.W.methodObj (.ref f) (.ref y)) := x
   show h'.get? a = some (PySem.W.methodObj (.ref f) (.ref y))
   exact k a _ (.inl rfl) e
 | ext φ => obtain ⟨p, ⟨o, e⟩, st⟩ := x; exact ⟨st _ _ p fun o q => k _ _ (.inl rfl) q, ⟨o, k _ _ (.inl rfl) e⟩, st⟩
theorem HOk.lt (x : HOk P w H h) (e : H a = some o) : a < h.objs.size := (x a o e).lt
theorem HOk.fresh (x : HOk P w H h) (e : h.objs.size <= a) : H a = none := by
 cases q : H a with
 | none => rfl
 | some u => exact absurd (Nat.lt_of_lt_of_le (x.lt q) e) (Nat.lt_irrefl _)
theorem HOk.kept (x : HOk P w H h) (k : ∀ b u, h.get? b = some u -> h'.get? b = some u) : HOk P w H h' := fun a o e =>
 (x a o e).stay (fun b u _ q => k b u q) (fun _ q => q) fun _ _ q => q
theorem HOk.laid (x : HOk P w H h) (k : ∀ b u, h.get? b = some u -> h'.get? b = some u) (hp : h.objs.size <= a) (new : Y9 P w (upd H a o) h' a o) : HOk P w (upd H a o) h' := fun b u e => by
 have hn := x.fresh hp
 by_cases hb : b = a
 . subst hb; rw [A8] at e; cases e; exact new
 . rw [C8 hb] at e
   exact (x b u e).stay (fun c v _ q => k c v q) (fun c q => by rw [C8 (D5 q hn)]; exact q) fun c xs q => by rw [C8 (D5 q hn)]; exact q
end
def Rd (H : Hp) (a : Addr) (u : HO) : Prop := H a = some u \/ ∃ o, H a = some (.frz o u)
theorem Rd.ok {P : Program} {w : World} {H : Hp} {h : Heap} {a : Addr} {u : HO} (r : Rd H a u) (x : HOk P w H h) : Y9 P w H h a u := by
 rcases r with r | ⟨o, r⟩
 . exact x a u r
 obtain ⟨_, q⟩ := x a _ r
 exact q
def Mut : Option HO -> Prop
 | some (.lst _) => True
 | some (.dK _) => True
 | some (.dT _) => True
 | some (.set _ _) => True
 | some (.ins _ _ _) => True
 | some (.ext _) => True
 | _ => False
section
variable {P : Program} {w : World} {H : Hp} {h h' : Heap} {x e : Addr} {o' : HO}
theorem HOk.write (ok : HOk P w H h) (mu : Mut (H x)) (he : e = x \/ H e = some (.own x)) (k : ∀ b u, b ≠ e -> h.get? b = some u -> h'.get? b = some u) (heo : ∃ u, h'.get? e = some u)
   (new : Y9 P w (upd H x o') h' x o') : HOk P w (upd H x o') h' := fun b u q => by
 have nown : ∀ c y, H c = some (.own y) -> c ≠ x := fun c y r z => by subst z; rw [r] at mu; exact mu
 have ntup : ∀ c xs, H c = some (.tup xs) -> c ≠ x := fun c xs r z => by subst z; rw [r] at mu; exact mu
 by_cases hb : b = x
 . subst hb; rw [A8] at q; cases q; exact new
 . rw [C8 hb] at q
   by_cases hbe : b = e
   . have q' : H b = some (.own x) := by
       rcases he with z | z
       . exact absurd (hbe.trans z) hb
       . rw [hbe]; exact z
     rw [q] at q'; cases q'
     obtain ⟨v, hv⟩ := heo
     exact ⟨v, by rw [hbe]; exact hv⟩
   . refine (ok b u q).stay (fun c v hc r => k c v ?_ r) (fun c r => by rw [C8 (nown c b r)]; exact r) fun c xs r => by rw [C8 (ntup c xs r)]; exact r
     rcases hc with rfl | hc
     . exact hbe
     . rintro rfl
       rcases he with z | z
       . exact nown c b hc z
       . rw [hc] at z; cases z; exact hb rfl
end
structure Un (fs ex : List Addr) (H H' : Hp) (h h' : Heap) : Prop where
 keep : ∀ b o, h.get? b = some o -> H b = none -> b ∉ fs -> b ∉ ex -> h'.get? b = some o
 slot : ∀ b o, h.get? b = some o -> H b = none -> b ∈ fs -> b ∉ ex -> ∃ sl, h'.get? b = some { o with slots := sl }
 free : ∀ b o, h.get? b = some o -> H b = none -> b ∉ ex -> H' b = none
 there : ∀ b o, h.get? b = some o -> b ∉ ex -> ∃ o', h'.get? b = some o'
 tups : ∀ b xs, H b = some (.tup xs) -> H' b = some (.tup xs)
 frzs : ∀ b o u, H b = some (.frz o u) -> H' b = some (.frz o u)
 tbls : ∀ b ps, H b = some (.tbl ps) -> ∃ more, H' b = some (.tbl (ps ++ more))
section
variable {fs fs' ex ex' : List Addr} {H H1 H2 : Hp} {h h1 h2 h' : Heap} {a x e : Addr} {o : HO}
theorem Un.any (u : Un fs ex H H1 h h1) {b : Addr} {ob : Obj} (q : h.get? b = some ob) (n : H b = none) (hx : b ∉ ex) : ∃ sl, h1.get? b = some { ob with slots := sl } := by
 by_cases hb : b ∈ fs
 . exact u.slot b ob q n hb hx
 exact ⟨ob.slots, u.keep b ob q n hb hx⟩
theorem Un.kept (k : ∀ b u, h.get? b = some u -> h'.get? b = some u) : Un fs ex H H h h' :=
 ⟨fun b ob q _ _ _ => k b ob q, fun b ob q _ _ _ => ⟨ob.slots, k b ob q⟩, fun _ _ _ n _ => n, fun b ob q _ => ⟨ob, k b ob q⟩, fun _ _ q => q, fun _ _ _ q => q, fun _ ps q => ⟨#[], by rw [q]; simp⟩⟩
theorem Un.refl : Un fs ex H H h h := Un.kept fun _ _ q => q
theorem Un.laid (k : ∀ b u, h.get? b = some u -> h'.get? b = some u) (hp : h.objs.size <= a) (hn : H a = none) : Un fs ex H (upd H a o) h h' where
 keep := fun b u q _ _ _ => k b u q
 slot := fun b u q _ _ _ => ⟨u.slots, k b u q⟩
 free := fun b u q n _ => by rw [C8 (Nat.ne_of_lt (Nat.lt_of_lt_of_le (Heap.lt_size q) hp))]; exact n
 there := fun b u q _ => ⟨u, k b u q⟩
 tups := fun b xs q => by rw [C8 (D5 q hn)]; exact q
 frzs := fun b u xs q => by rw [C8 (D5 q hn)]; exact q
 tbls := fun b ps q => ⟨#[], by rw [C8 (D5 q hn), q]; simp⟩
theorem Un.write (mu : Mut (H x)) (he : e = x \/ H e = some (.own x)) (k : ∀ b u, b ≠ e -> h.get? b = some u -> h'.get? b = some u) (heo : ∃ u, h'.get? e = some u) : Un fs ex H (upd H x o) h h' := by
 have hx : ∀ b, H b = none -> b ≠ x := fun b n z => by subst z; rw [n] at mu; exact mu
 have hb : ∀ b, H b = none -> b ≠ e := fun b n z => by
   subst z
   rcases he with r | r
   . exact hx b n r
   . rw [n] at r; cases r
 have hm : ∀ b u, H b = some u -> ¬ Mut (some u) -> b ≠ x := fun b u q nm z => by subst z; rw [q] at mu; exact nm mu
 refine ⟨fun b u q n _ _ => k b u (hb b n) q, fun b u q n _ _ => ⟨u.slots, k b u (hb b n) q⟩, fun b u q n _ => by rw [C8 (hx b n)]; exact n, fun b u q _ => ?_,
   fun b xs q => by rw [C8 (hm b _ q fun z => z)]; exact q, fun b u xs q => by rw [C8 (hm b _ q fun z => z)]; exact q, fun b ps q => ⟨#[], by rw [C8 (hm b _ q fun z => z), q]; simp⟩⟩
 by_cases hbe : b = e
 . subst hbe; exact heo
 exact ⟨u, k b u hbe q⟩
end
def trk (h : Heap) (H : Hp) : List Addr := (List.range h.objs.size).filter fun a => (H a).isSome
def D2t (h : Heap) (H : Hp) : Heap := PySem.W.hideAll h (trk h H)
theorem V2w (h : Heap) (H : Hp) : (D2t h H).objs.size = h.objs.size := PySem.W.hideAll_size _ _
theorem V9x {h : Heap} {H : Hp} {b : Addr} {o : Obj} (e : h.get? b = some o) (n : H b = none) : (D2t h H).get? b = some o :=
 PySem.W.hideAll_get _ e fun hm => by
   have q : (H b).isSome = true := (List.mem_filter.mp hm).2
   rw [n] at q; simp at q
theorem Z5y {h : Heap} {H : Hp} {b : Addr} {o : Obj} (e : (D2t h H).get? b = some o) : h.get? b = some o /\ H b = none := by
 have e' : h.get? b = some o := PySem.W.of_hideAll (trk h H) e
 refine ⟨e', ?_⟩
 cases q : H b with
 | none => rfl
 | some x =>
   have hm : b ∈ trk h H := List.mem_filter.mpr ⟨List.mem_range.mpr (Heap.lt_size e'), by simp [q]⟩
   have z : (D2t h H).get? b = none := PySem.W.hideAll_none (trk h H) hm
   rw [z] at e; cases e
structure Mod (K : PySem.W.Frag) (mg : Str -> Option Value) (base : Heap) : Prop where
 kin : K.In base
 glob : base.Ns mainGlobals mg
 blt : ∃ mb, base.Ns builtinsNs mb /\ ∀ x : Str, x ≠ "__name__" -> mb x = bootBuiltins x
 nolimit : base.NoLimit
structure Cx where
 prog : Program
 w : World
 K : PySem.W.Frag
 mg : Str -> Option Value
 base : Heap
 A : Around
 N : List Str
 s₀ : Shared
 H₀ : Hp
 env : Env
 outer : List Env
 stack : List Env
 ex : List Addr
 fn : Str -> Bool
 calm : Bool
 pn : List (Addr × Obj)
 xe : Value -> Shared -> Prop
def frs (l : List Env) : List Addr := l.filterMap (·.frame)
abbrev Cx.fs (X : Cx) : List Addr := frs X.outer
def Vis (sc : Scope) (x : Str) : Prop := sc.names.lookup x = some .local \/ sc.names.lookup x = some .cell \/ sc.names.lookup x = some .free
def Loc (sc : Scope) (x : Str) : Prop := sc.names.lookup x = some .local \/ sc.names.lookup x = some .cell
def Look (env : Env) (h : Heap) (m : Str -> Option Value) (x : Str) (u : Value) : Prop :=
 (env.kindOf x = some .local /\ m x = some u) \/ ((env.kindOf x = some .cell \/ env.kindOf x = some .free) /\ ∃ c, env.cells.lookup x = some c /\ h.IsCell c (some u))
structure Cx.Ok (X : Cx) : Prop where
 mod : Mod X.K X.mg X.base
 kind : X.env.scope.kind = .function
 glob : X.env.globals = mainGlobals
 blt : X.env.builtins = builtinsNs
 above : X.s₀.heap.objs.size <= X.env.locals
 inj : ∀ x y c, X.env.cells.lookup x = some c -> X.env.cells.lookup y = some c -> x = y
 has : ∀ x, (X.env.kindOf x = some .cell \/ X.env.kindOf x = some .free) -> ∃ c, X.env.cells.lookup x = some c
 cab : ∀ x c, X.fn x = true -> X.env.cells.lookup x = some c -> X.s₀.heap.objs.size <= c
 hd : X.calm = true -> X.A.handled = none
 frames : X.A.frames = some X.stack
 stk : X.stack = X.outer \/ (X.stack = X.env :: X.outer /\ X.env.frame = some X.env.locals)
 exf : ∀ b ∈ X.ex, b ≠ X.env.locals /\ ∀ x c, X.env.cells.lookup x = some c -> c ≠ b
 bs : ∀ b o, X.base.get? b = some o -> X.s₀.heap.get? b = some o /\ X.H₀ b = none
 bsz : X.base.objs.size <= X.s₀.heap.objs.size
 noex : ∀ b o, X.base.get? b = some o -> b ∉ X.ex
 exfs : ∀ b ∈ X.ex, b ∉ X.fs
 funs : X.s₀.heap.FunFrames X.base X.outer
 frf : ∀ b ∈ X.fs, X.H₀ b = none
structure Inv (X : Cx) (pins : List (Addr × Obj)) (σ : List (Option V)) (H : Hp) (s : Shared) : Prop where
 ok : X.Ok
 os : s.os = X.s₀.os
 bare : AllBare s.gens
 base : Un X.fs X.ex X.H₀ H X.s₀.heap s.heap
 loc : ∃ m, s.heap.Ns X.env.locals m /\ ∀ (i : Nat) (x : Str) (v : V), X.N[i]? = some x -> σ[i]? = some (some v) -> Vis X.env.scope x -> ∃ u, U5 v u /\ Look X.env s.heap m x u
 cell : ∀ x c, X.env.cells.lookup x = some c -> ∃ v, s.heap.IsCell c v
 free : H X.env.locals = none
 freeC : ∀ x c, X.env.cells.lookup x = some c -> H c = none
 pin : ∀ p ∈ X.pn ++ pins, s.heap.get? p.1 = some p.2 /\ H p.1 = none /\ p.1 ≠ X.env.locals /\ p.1 ∉ X.fs /\ ∀ v, p.2.data ≠ .cell v
 hok : HOk X.prog X.w H s.heap
 len : σ.length = X.N.length
section
variable {X : Cx} {pins : List (Addr × Obj)} {σ : List (Option V)} {H H' : Hp} {s : Shared} {h' : Heap}
theorem Cx.Ok.nofr (ok : X.Ok) {b : Addr} {o : Obj} (e : X.base.get? b = some o) : b ∉ X.fs := fun hb => by
 have := (ok.funs.mem hb).1
 rw [e] at this; cases this
theorem Inv.bs (I : Inv X pins σ H s) : ∀ b o, X.base.get? b = some o -> s.heap.get? b = some o /\ H b = none := fun b o e =>
 ⟨I.base.keep b o (I.ok.bs b o e).1 (I.ok.bs b o e).2 (I.ok.nofr e) (I.ok.noex b o e), I.base.free b o (I.ok.bs b o e).1 (I.ok.bs b o e).2 (I.ok.noex b o e)⟩
theorem Inv.bk (I : Inv X pins σ H s) : ∀ b o, X.base.get? b = some o -> s.heap.get? b = some o := fun b o e => (I.bs b o e).1
theorem Inv.mod (I : Inv X pins σ H s) : Mod X.K X.mg X.base := I.ok.mod
theorem Inv.kIn (I : Inv X pins σ H s) : X.K.In s.heap := I.ok.mod.kin.keeps I.bk
theorem Inv.lt (I : Inv X pins σ H s) : X.env.locals < s.heap.objs.size := let ⟨_, hn, _⟩ := I.loc; hn.lt
theorem Inv.sz (I : Inv X pins σ H s) : X.s₀.heap.objs.size <= s.heap.objs.size := Nat.le_trans I.ok.above (Nat.le_of_lt I.lt)
theorem Inv.nofs (I : Inv X pins σ H s) {a : Addr} (h : s.heap.objs.size <= a) : a ∉ X.fs := fun hb => by
 obtain ⟨_, o, ho, _⟩ := I.ok.funs.mem hb
 exact absurd (Nat.lt_of_lt_of_le (Heap.lt_size ho) (Nat.le_trans I.sz h)) (Nat.lt_irrefl _)
theorem Inv.cne (I : Inv X pins σ H s) : ∀ x c, X.env.cells.lookup x = some c -> c ≠ X.env.locals := fun x c e z => by
 obtain ⟨v, o, ho, hd⟩ := I.cell x c e
 obtain ⟨m, ⟨o', es, ep, ho', hd', _⟩, _⟩ := I.loc
 rw [z, ho'] at ho; cases ho; rw [hd'] at hd; cases hd
theorem Inv.funs (I : Inv X pins σ H s) : s.heap.FunFrames X.base X.outer := by
 have all : ∀ (l : List Env), (∀ b ∈ frs l, b ∈ X.fs) -> X.s₀.heap.FunFrames X.base l -> s.heap.FunFrames X.base l := by
   intro l
   induction l with
   | nil => intro _ _; trivial
   | cons env r ih =>
     intro hs hl
     obtain ⟨hk, ⟨L, o, hf, hn, ho, hd⟩, hr⟩ := hl
     have hL : L ∈ X.fs := hs L (by unfold frs; rw [List.filterMap_cons, hf]; exact List.mem_cons_self)
     obtain ⟨sl, e⟩ := I.base.slot L o ho (I.ok.frf L hL) hL fun z => I.ok.exfs L z hL
     exact ⟨hk, ⟨L, _, hf, hn, e, hd⟩, ih (fun b hb => hs b (by unfold frs; rw [List.filterMap_cons, hf]; exact List.mem_cons_of_mem _ hb)) hr⟩
 exact all X.outer (fun _ hb => hb) I.ok.funs
theorem Inv.stack (I : Inv X pins σ H s) : s.heap.FunFrames X.base X.stack := by
 rcases I.ok.stk with e | ⟨e, hf⟩
 . rw [e]; exact I.funs
 rw [e]
 obtain ⟨m, hn, _⟩ := I.loc
 refine .cons (by rw [I.ok.kind]; decide) hf hn ?_ I.funs
 exact Heap.get?_none_of_le (Nat.le_trans I.ok.bsz I.ok.above)
theorem Inv.stkSub (I : Inv X pins σ H s) : ∀ b ∈ frs X.stack, b ∈ X.env.locals :: X.fs := fun b hb => by
 rcases I.ok.stk with e | ⟨e, hf⟩
 . rw [e] at hb; exact List.mem_cons_of_mem _ hb
 . rw [e] at hb
   unfold frs at hb
   rw [List.filterMap_cons, hf] at hb
   exact hb
theorem Inv.stkFree (I : Inv X pins σ H s) : ∀ b ∈ frs X.stack, H b = none := fun b hb => by
 rcases List.mem_cons.mp (I.stkSub b hb) with e | hb
 . rw [e]; exact I.free
 . obtain ⟨_, o, ho, _⟩ := I.ok.funs.mem hb
   exact I.base.free b o ho (I.ok.frf b hb) fun z => I.ok.exfs b z hb
theorem Inv.step {g' : Array GenState} {t' : Nat} {d' : Drawn} {ch : List Addr} (I : Inv X pins σ H s)
   (hch : ∀ b ∈ ch, (b ∈ X.ex \/ X.s₀.heap.objs.size <= b) /\ b ≠ X.env.locals /\ (∀ x c, X.env.cells.lookup x = some c -> c ≠ b) /\ ∀ p ∈ X.pn ++ pins, p.1 ≠ b)
   (keep : ∀ b o, b ≠ X.env.locals -> b ∉ X.fs -> b ∉ ch -> s.heap.get? b = some o -> H b = none -> h'.get? b = some o)
   (slot : ∀ b o, b ≠ X.env.locals -> b ∈ X.fs -> b ∉ ch -> s.heap.get? b = some o -> H b = none -> ∃ sl, h'.get? b = some { o with slots := sl }) (free : ∀ b o, b ∉ ch -> s.heap.get? b = some o -> H b = none -> H' b = none)
   (there : ∀ b o, b ∉ ch -> s.heap.get? b = some o -> ∃ o', h'.get? b = some o')
   (tups : ∀ b xs, H b = some (.tup xs) -> H' b = some (.tup xs)) (frzs : ∀ b o u, H b = some (.frz o u) -> H' b = some (.frz o u)) (tbls : ∀ b ps, H b = some (.tbl ps) -> ∃ more, H' b = some (.tbl (ps ++ more)))
   (ns : ∀ m, s.heap.Ns X.env.locals m -> h'.Ns X.env.locals m) (hok : HOk X.prog X.w H' h') (hg : AllBare g') :
   Inv X pins σ H' { s with heap := h', gens := g', drawn := d', toks := t' } := by
 have neL : ∀ b o, X.s₀.heap.get? b = some o -> b ≠ X.env.locals := fun b o e => Nat.ne_of_lt (Nat.lt_of_lt_of_le (Heap.lt_size e) I.ok.above)
 have neC : ∀ b o, X.s₀.heap.get? b = some o -> b ∉ X.ex -> b ∉ ch := fun b o e hx hb => by
   rcases (hch b hb).1 with z | z
   . exact hx z
   . exact absurd (Nat.lt_of_lt_of_le (Heap.lt_size e) z) (Nat.lt_irrefl _)
 have cellK : ∀ x c, X.env.cells.lookup x = some c -> ∀ v, s.heap.IsCell c v -> h'.IsCell c v := fun x c e v ⟨o, ho, hd⟩ => by
   have nch : c ∉ ch := fun z => (hch c z).2.2.1 x c e rfl
   by_cases hc : c ∈ X.fs
   . obtain ⟨sl, q⟩ := slot c o (I.cne x c e) hc nch ho (I.freeC x c e)
     exact ⟨_, q, hd⟩
   . exact ⟨o, keep c o (I.cne x c e) hc nch ho (I.freeC x c e), hd⟩
 refine ⟨I.ok, I.os, hg, ⟨fun b o e n hb hx => ?_, fun b o e n hb hx => ?_, fun b o e n hx => ?_, fun b o e hx => ?_, fun b xs e => tups b xs (I.base.tups b xs e), fun b o xs e => frzs b o xs (I.base.frzs b o xs e), fun b ps e => ?_⟩, ?_, fun x c e => ?_, ?_, fun x c e => ?_, fun p hp => ?_, hok, I.len⟩
 . exact keep b o (neL b o e) hb (neC b o e hx) (I.base.keep b o e n hb hx) (I.base.free b o e n hx)
 . obtain ⟨sl, e1⟩ := I.base.slot b o e n hb hx
   obtain ⟨sl', e2⟩ := slot b _ (neL b o e) hb (neC b o e hx) e1 (I.base.free b o e n hx)
   exact ⟨sl', e2⟩
 . obtain ⟨o', e1⟩ := I.base.there b o e hx
   exact free b o' (neC b o e hx) e1 (I.base.free b o e n hx)
 . obtain ⟨o', e1⟩ := I.base.there b o e hx
   exact there b o' (neC b o e hx) e1
 . obtain ⟨m1, e1⟩ := I.base.tbls b ps e
   obtain ⟨m2, e2⟩ := tbls b _ e1
   exact ⟨m1 ++ m2, by rw [e2, Array.append_assoc]⟩
 . obtain ⟨m, hn, hl⟩ := I.loc
   refine ⟨m, ns m hn, fun i x v e1 e2 e3 => ?_⟩
   obtain ⟨u, r, l⟩ := hl i x v e1 e2 e3
   refine ⟨u, r, ?_⟩
   rcases l with l | ⟨k, c, e, z⟩
   . exact .inl l
   . exact .inr ⟨k, c, e, cellK x c e _ z⟩
 . obtain ⟨v, z⟩ := I.cell x c e
   exact ⟨v, cellK x c e v z⟩
 . obtain ⟨m, ⟨o, _, _, ho, _⟩, _⟩ := I.loc
   exact free _ o (fun z => (hch _ z).2.1 rfl) ho I.free
 . obtain ⟨v, o, ho, hd⟩ := I.cell x c e
   exact free c o (fun z => (hch c z).2.2.1 x c e rfl) ho (I.freeC x c e)
 obtain ⟨e, n, ne, nf, d⟩ := I.pin p hp
 have nch : p.1 ∉ ch := fun z => (hch p.1 z).2.2.2 p hp rfl
 exact ⟨keep p.1 p.2 ne nf nch e n, free p.1 p.2 nch e n, ne, nf, d⟩
theorem Inv.un {t' : Nat} (I : Inv X pins σ H s) (u : Un X.fs [] H H' s.heap h') (hok : HOk X.prog X.w H' h') : Inv X pins σ H' { s with heap := h', toks := t' } := by
 obtain ⟨m, ⟨o, es, ep, ho, r⟩, _⟩ := id I.loc
 obtain ⟨sl, hL⟩ := u.any ho I.free (by simp)
 exact I.step (g' := s.gens) (d' := s.drawn) (ch := []) (fun _ z => nomatch z) (fun b o _ hb _ e n => u.keep b o e n hb (by simp)) (fun b o _ hb _ e n => u.slot b o e n hb (by simp)) (fun b o _ e n => u.free b o e n (by simp)) (fun b o _ e => u.there b o e (by simp)) u.tups u.frzs u.tbls (fun m' hm => by
   obtain ⟨o', es', ep', ho', r'⟩ := hm
   rw [ho] at ho'; cases ho'
   exact ⟨_, es', ep', hL, r'⟩) hok I.bare
theorem Inv.call {g' : Array GenState} {t' : Nat} {d' : Drawn} {ch : List Addr} (I : Inv X pins σ H s) (u : Un (frs X.stack) ch H H' s.heap h') (hok : HOk X.prog X.w H' h') (hg : AllBare g')
   (hch : ∀ b ∈ ch, (b ∈ X.ex \/ X.s₀.heap.objs.size <= b) /\ b ≠ X.env.locals /\ (∀ x c, X.env.cells.lookup x = some c -> c ≠ b) /\ ∀ p ∈ X.pn ++ pins, p.1 ≠ b) :
   Inv X pins σ H' { s with heap := h', gens := g', drawn := d', toks := t' } := by
 obtain ⟨m, ⟨o, es, ep, ho, r⟩, _⟩ := id I.loc
 obtain ⟨sl, hL⟩ := u.any ho I.free fun z => (hch _ z).2.1 rfl
 exact I.step (ch := ch) hch (fun b o hL hb hc e n => u.keep b o e n (fun z => (List.mem_cons.mp (I.stkSub b z)).elim hL hb) hc) (fun b o _ _ hc e n => u.any e n hc) (fun b o hc e n => u.free b o e n hc) (fun b o hc e => u.there b o e hc) u.tups u.frzs u.tbls (fun m' hm => by
   obtain ⟨o', es', ep', ho', r'⟩ := hm
   rw [ho] at ho'; cases ho'
   exact ⟨_, es', ep', hL, r'⟩) hok hg
theorem Inv.turned {t' : Nat} {it : Addr} (I : Inv X pins σ H s) (k : ∀ b o, b ≠ it -> s.heap.get? b = some o -> h'.get? b = some o) (hn : H it = none) (hL : it ≠ X.env.locals)
   (h1 : it ∈ X.ex \/ X.s₀.heap.objs.size <= it) (h2 : ∀ x c, X.env.cells.lookup x = some c -> c ≠ it) (h3 : ∀ p ∈ X.pn ++ pins, p.1 ≠ it) : Inv X pins σ H { s with heap := h', toks := t' } := by
 have nit : ∀ b u, H b = some u -> b ≠ it := fun b u e z => by rw [z, hn] at e; cases e
 refine I.step (g' := s.gens) (d' := s.drawn) (ch := [it]) (fun b hb => ?_) (fun b o _ _ hc e _ => k b o (fun z => hc (by simp [z])) e) (fun b o _ _ hc e _ => ⟨o.slots, k b o (fun z => hc (by simp [z])) e⟩) (fun _ _ _ _ n => n)
   (fun b o hc e => ⟨o, k b o (fun z => hc (by simp [z])) e⟩) (fun _ _ e => e) (fun _ _ _ e => e) (fun b ps e => ⟨#[], by rw [e]; simp⟩) (fun m hm => ?_) (fun b u e => ?_) I.bare
 . have e : b = it := by simpa using hb
   subst e
   exact ⟨h1, hL, h2, h3⟩
 . obtain ⟨o, es, ep, ho, r⟩ := hm
   exact ⟨o, es, ep, k _ o (Ne.symm hL) ho, r⟩
 refine (I.hok b u e).stay (fun c v hc q => k c v ?_ q) (fun _ q => q) fun _ _ q => q
 rcases hc with z | z
 . rw [z]; exact nit b u e
 exact nit c _ z
theorem Inv.tok (I : Inv X pins σ H s) (t : Nat) : Inv X pins σ H { s with toks := t } := I.un (h' := s.heap) (t' := t) Un.refl I.hok
theorem Inv.kept {t' : Nat} (I : Inv X pins σ H s) (k : ∀ b u, s.heap.get? b = some u -> h'.get? b = some u) : Inv X pins σ H { s with heap := h', toks := t' } := I.un (Un.kept k) (I.hok.kept k)
theorem Inv.laid {a : Addr} {o : HO} {t' : Nat} (I : Inv X pins σ H s) (k : ∀ b u, s.heap.get? b = some u -> h'.get? b = some u) (hp : s.heap.objs.size <= a) (new : Y9 X.prog X.w (upd H a o) h' a o) :
   Inv X pins σ (upd H a o) { s with heap := h', toks := t' } := I.un (Un.laid k hp (I.hok.fresh hp)) (I.hok.laid k hp new)
theorem Inv.write {x e : Addr} {o : HO} {t' : Nat} (I : Inv X pins σ H s) (mu : Mut (H x)) (he : e = x \/ H e = some (.own x)) (k : ∀ b u, b ≠ e -> s.heap.get? b = some u -> h'.get? b = some u) (heo : ∃ u, h'.get? e = some u)
   (new : Y9 X.prog X.w (upd H x o) h' x o) : Inv X pins σ (upd H x o) { s with heap := h', toks := t' } := I.un (Un.write mu he k heo) (I.hok.write mu he k heo new)
theorem Inv.pins_of {pins' : List (Addr × Obj)} (I : Inv X pins σ H s) (h : ∀ p ∈ pins', s.heap.get? p.1 = some p.2 /\ H p.1 = none /\ p.1 ≠ X.env.locals /\ p.1 ∉ X.fs /\ ∀ v, p.2.data ≠ .cell v) : Inv X pins' σ H s :=
 ⟨I.ok, I.os, I.bare, I.base, I.loc, I.cell, I.free, I.freeC, fun p hp => (List.mem_append.mp hp).elim (fun z => I.pin p (List.mem_append_left _ z)) (h p), I.hok, I.len⟩
theorem C8n {N : List Str} (hN : N.Nodup) {i j : Nat} {x : Str} (a : N[i]? = some x) (b : N[j]? = some x) : i = j := by
 obtain ⟨h1, e1⟩ := List.getElem?_eq_some_iff.mp a
 obtain ⟨h2, e2⟩ := List.getElem?_eq_some_iff.mp b
 exact (List.getElem_inj hN).mp (e1.trans e2.symm)
theorem D7p {M : Model} {A : Around} {E : Value -> Shared -> Prop} {i : Nat} {x : Str} {v : V} {u : Value} {Q : Unit -> Shared -> Prop} (I : Inv X pins σ H s) (hN : X.N.Nodup) (hi : X.N[i]? = some x) (hx : Loc X.env.scope x) (r : U5 v u)
   (h : ∀ s', Inv X pins (σ.set i (some v)) H s' -> (∃ a, Heap.SameBut a s.heap s'.heap /\ (a = X.env.locals \/ X.env.cells.lookup x = some a)) -> Q () s') (hf : X.fn x = true \/ X.env.scope.names.lookup x = some .local := by first | exact .inl rfl | exact .inr rfl | assumption) : wpAny M A (storeName X.env x u) Q E s := by
 obtain ⟨m, hn, hl⟩ := id I.loc
 have hcls : (X.env.scope.kind == .class || (X.env.scope.kind == .module && X.env.locals != X.env.globals)) = false := by rw [I.ok.kind]; rfl
 have hiσ : i < σ.length := by rw [I.len]; exact (List.getElem?_eq_some_iff.mp hi).1
 have cne := I.cne
 have tracked : ∀ {a : Addr} {h' : Heap}, (∃ o, s.heap.get? a = some o /\ H a = none) -> Heap.SameBut a s.heap h' -> HOk X.prog X.w H h' := fun {a h'} ha hs b ob e => by
   obtain ⟨_, _, hfree⟩ := ha
   refine (I.hok b ob e).stay (fun c w' hc q => (hs.2 c ?_).trans q) (fun _ q => q) fun _ _ q => q
   rintro rfl
   rcases hc with rfl | hc
   . rw [hfree] at e; cases e
   . rw [hfree] at hc; cases hc
 rcases hx with hk | hk
 . refine wpAny_storeName_local hk hn (fun h' hn' hs => ?_) hcls
   obtain ⟨oL, _, _, hoL, _⟩ := id hn
   refine h _ ⟨I.ok, I.os, I.bare, ⟨fun b o e n hb hx => ?_, fun b o e n hb hx => ?_, I.base.free, fun b o e hx => ?_, I.base.tups, I.base.frzs, I.base.tbls⟩, ⟨_, hn', fun j y v' e1 e2 e3 => ?_⟩, fun y c e => ?_, I.free, I.freeC, fun p hp => ?_, tracked ⟨oL, hoL, I.free⟩ hs, by simpa using I.len⟩ ⟨_, hs, .inl rfl⟩
   . exact (hs.2 b (Nat.ne_of_lt (Nat.lt_of_lt_of_le (Heap.lt_size e) I.ok.above))).trans (I.base.keep b o e n hb hx)
   . obtain ⟨sl, e1⟩ := I.base.slot b o e n hb hx
     exact ⟨sl, (hs.2 b (Nat.ne_of_lt (Nat.lt_of_lt_of_le (Heap.lt_size e) I.ok.above))).trans e1⟩
   . obtain ⟨o', e1⟩ := I.base.there b o e hx
     exact ⟨o', (hs.2 b (Nat.ne_of_lt (Nat.lt_of_lt_of_le (Heap.lt_size e) I.ok.above))).trans e1⟩
   . by_cases hj : j = i
     . subst hj
       rw [hi] at e1; cases e1
       rw [List.getElem?_set_self hiσ] at e2
       cases e2
       exact ⟨u, r, .inl ⟨hk, by simp⟩⟩
     . rw [List.getElem?_set_ne (Ne.symm hj)] at e2
       obtain ⟨u', r', q⟩ := hl j y v' e1 e2 e3
       refine ⟨u', r', ?_⟩
       rcases q with ⟨k, e⟩ | ⟨k, c, e, z⟩
       . refine .inl ⟨k, ?_⟩
         have : y ≠ x := fun e => hj (C8n hN e1 (e ▸ hi))
         simp [this, e]
       . exact .inr ⟨k, c, e, z.sameBut hs (cne y c e)⟩
   . obtain ⟨w', z⟩ := I.cell y c e
     exact ⟨w', z.sameBut hs (cne y c e)⟩
   . obtain ⟨e, n, ne, nf, d⟩ := I.pin p hp
     exact ⟨(hs.2 p.1 ne).trans e, n, ne, nf, d⟩
 have hfn : X.fn x = true := by
   rcases hf with z | z
   . exact z
   . rw [z] at hk; cases hk
 obtain ⟨c, hc⟩ := I.ok.has x (.inl hk)
 obtain ⟨w', z⟩ := I.cell x c hc
 refine wpAny_storeName_cell I.ok.kind hk hc z (fun h' hc' hs => ?_)
 obtain ⟨oc, hoc, hocd⟩ := id z
 refine h { s with heap := h' } ⟨I.ok, I.os, I.bare, ⟨fun b o e n hb hx => ?_, fun b o e n hb hx => ?_, I.base.free, fun b o e hx => ?_, I.base.tups, I.base.frzs, I.base.tbls⟩, ⟨m, hn.sameBut hs (Ne.symm (cne x c hc)), fun j y v' e1 e2 e3 => ?_⟩, fun y c' e => ?_, I.free, I.freeC, fun p hp => ?_, tracked ⟨oc, hoc, I.freeC x c hc⟩ hs, by simpa using I.len⟩ ⟨c, hs, .inr hc⟩
 . exact (hs.2 b (Nat.ne_of_lt (Nat.lt_of_lt_of_le (Heap.lt_size e) (I.ok.cab x c hfn hc)))).trans (I.base.keep b o e n hb hx)
 . obtain ⟨sl, e1⟩ := I.base.slot b o e n hb hx
   exact ⟨sl, (hs.2 b (Nat.ne_of_lt (Nat.lt_of_lt_of_le (Heap.lt_size e) (I.ok.cab x c hfn hc)))).trans e1⟩
 . obtain ⟨o', e1⟩ := I.base.there b o e hx
   exact ⟨o', (hs.2 b (Nat.ne_of_lt (Nat.lt_of_lt_of_le (Heap.lt_size e) (I.ok.cab x c hfn hc)))).trans e1⟩
 . by_cases hj : j = i
   . subst hj
     rw [hi] at e1; cases e1
     rw [List.getElem?_set_self hiσ] at e2
     cases e2
     exact ⟨u, r, .inr ⟨.inl hk, c, hc, hc'⟩⟩
   . rw [List.getElem?_set_ne (Ne.symm hj)] at e2
     obtain ⟨u', r', q⟩ := hl j y v' e1 e2 e3
     refine ⟨u', r', ?_⟩
     rcases q with q | ⟨k, c', e, z'⟩
     . exact .inl q
     . refine .inr ⟨k, c', e, z'.sameBut hs ?_⟩
       rintro rfl
       exact hj (C8n hN e1 (I.ok.inj _ _ _ e hc ▸ hi))
 . by_cases hcc : c' = c
   . subst hcc; exact ⟨_, hc'⟩
   . obtain ⟨w2, z2⟩ := I.cell y c' e
     exact ⟨w2, z2.sameBut hs hcc⟩
 obtain ⟨e, n, ne, nf, d⟩ := I.pin p hp
 refine ⟨(hs.2 p.1 ?_).trans e, n, ne, nf, d⟩
 intro q
 rw [q, hoc] at e
 have q' : oc = p.2 := Option.some.inj e
 exact d w' (by rw [<- q']; exact hocd)
theorem B1f {M : Model} {A : Around} {E : Value -> Shared -> Prop} {i : Nat} {x : Str} {v : V} {u : Value} {Q : Unit -> Shared -> Prop} (I : Inv X pins σ H s) (hN : X.N.Nodup) (hi : X.N[i]? = some x) (hx : Loc X.env.scope x) (r : U5 v u)
   (h : ∀ s', Inv X pins (σ.set i (some v)) H s' -> Q () s') (hf : X.fn x = true \/ X.env.scope.names.lookup x = some .local := by first | exact .inl rfl | exact .inr rfl | assumption) : wpAny M A (storeName X.env x u) Q E s :=
 D7p I hN hi hx r (fun s' I' _ => h s' I') hf
theorem Inv.call' {s' : Shared} {ch : List Addr} (I : Inv X pins σ H s) (ho : s'.os = s.os) (u : Un (frs X.stack) ch H H' s.heap s'.heap) (hok : HOk X.prog X.w H' s'.heap) (hg : AllBare s'.gens)
   (hch : ∀ b ∈ ch, (b ∈ X.ex \/ X.s₀.heap.objs.size <= b) /\ b ≠ X.env.locals /\ (∀ x c, X.env.cells.lookup x = some c -> c ≠ b) /\ ∀ p ∈ X.pn ++ pins, p.1 ≠ b) : Inv X pins σ H' s' := by
 obtain ⟨h', g', d', t', o'⟩ := s'
 have e : o' = s.os := ho
 subst e
 exact I.call (g' := g') (t' := t') (d' := d') u hok hg hch
end
abbrev XK := Value -> Option Addr -> Hp -> Prop
abbrev St := List (Option V)
abbrev VK := V -> Hp -> Prop
abbrev TE := St -> Hp -> VK -> Prop
abbrev TT := St -> Hp -> (Bool -> Hp -> Prop) -> Prop
abbrev TA := St -> Hp -> (List V -> Hp -> Prop) -> Prop
structure D2y where
 nx : St -> Hp -> Prop
 rt : VK
 bk : St -> Hp -> Prop := fun _ _ => False
 ct : St -> Hp -> Prop := fun _ _ => False
abbrev TS := D2y -> St -> Hp -> Prop
def EP (X : Cx) (pins : List (Addr × Obj)) (σ : St) (Q : VK) (u : Value) (s' : Shared) : Prop := ∃ v H', Inv X pins σ H' s' /\ U5 v u /\ Q v H'
def TP (X : Cx) (pins : List (Addr × Obj)) (σ : St) (Q : Bool -> Hp -> Prop) (b : Bool) (s' : Shared) : Prop := ∃ H', Inv X pins σ H' s' /\ Q b H'
def AP (X : Cx) (pins : List (Addr × Obj)) (σ : St) (Q : List V -> Hp -> Prop) (us : List Value) (s' : Shared) : Prop := ∃ vs H', Inv X pins σ H' s' /\ U0 vs us /\ Q vs H'
def SP (X : Cx) (pins : List (Addr × Obj)) (D : D2y) (f : Flow) (s' : Shared) : Prop :=
 match f with
 | .next => ∃ σ' H', Inv X pins σ' H' s' /\ D.nx σ' H'
 | .brk => ∃ σ' H', Inv X pins σ' H' s' /\ D.bk σ' H'
 | .cont => ∃ σ' H', Inv X pins σ' H' s' /\ D.ct σ' H'
 | .ret u => ∃ v σ' H', Inv X pins σ' H' s' /\ U5 v u /\ D.rt v H'
def PE (X : Cx) (e : Expr) (t : TE) : Prop :=
 ∀ (pins : List (Addr × Obj)) (s : Shared) (σ : St) (H : Hp) (Q : VK), Inv X pins σ H s -> t σ H Q -> wpAny (model X.prog X.w) X.A (eval e X.env) (EP X pins σ Q) X.xe s
def PT (X : Cx) (e : Expr) (t : TT) : Prop :=
 ∀ (pins : List (Addr × Obj)) (s : Shared) (σ : St) (H : Hp) (Q : Bool -> Hp -> Prop), Inv X pins σ H s -> t σ H Q -> wpAny (model X.prog X.w) X.A (isTrue e X.env (eval e X.env)) (TP X pins σ Q) X.xe s
def PW (X : Cx) (e : Expr) (t : TT) : Prop :=
 ∀ (whole : Sem Value) (pins : List (Addr × Obj)) (s : Shared) (σ : St) (H : Hp) (Q : Bool -> Hp -> Prop), Inv X pins σ H s -> t σ H Q -> wpAny (model X.prog X.w) X.A (isTrue e X.env whole) (TP X pins σ Q) X.xe s
theorem PW.pt {X : Cx} {e : Expr} {t : TT} (h : PW X e t) : PT X e t := h _
def PA (X : Cx) (es : List Expr) (t : TA) : Prop :=
 ∀ (pos : Pos) (pins : List (Addr × Obj)) (s : Shared) (σ : St) (H : Hp) (Q : List V -> Hp -> Prop), Inv X pins σ H s -> t σ H Q -> wpAny (model X.prog X.w) X.A (spliced (backTo pos (starEach es X.env))) (AP X pins σ Q) X.xe s
def PS (X : Cx) (st : Stmt) (t : TS) : Prop :=
 ∀ (pins : List (Addr × Obj)) (s : Shared) (σ : St) (H : Hp) (D : D2y), Inv X pins σ H s -> t D σ H -> wpAny (model X.prog X.w) X.A (exec st X.env) (SP X pins D) X.xe s
def PSs (X : Cx) (st : List Stmt) (t : TS) : Prop :=
 ∀ (pins : List (Addr × Obj)) (s : Shared) (σ : St) (H : Hp) (D : D2y), Inv X pins σ H s -> t D σ H -> wpAny (model X.prog X.w) X.A (execs st X.env) (SP X pins D) X.xe s
theorem thn {α : Type} {t : Sem α} {Q Q' : α -> Shared -> Prop} {M : Model} {A : Around} {E : Value -> Shared -> Prop} {s : Shared} (h : wpAny M A t Q E s) (hQ : ∀ a s, Q a s -> Q' a s) : wpAny M A t Q' E s := wpAny_mono h hQ fun _ _ x => x
section
variable {X : Cx}
def tVar (i : Nat) : TE := fun σ H Q => ∃ v, σ[i]? = some (some v) /\ Q v H
def tC (v : V) : TE := fun _ H Q => Q v H
theorem V9s {i : Nat} {x : Str} {pos : Pos} (hN : X.N[i]? = some x) (hv : Vis X.env.scope x) (hd : (x == ("__debug__" : Str)) = false := by decide) (hcd : (x == ("__classdict__" : Str)) = false := by decide) : PE X (.Name x pos) (tVar i) := by
 intro pins s σ H Q I h
 obtain ⟨v, e, h⟩ := h
 obtain ⟨m, hn, hl⟩ := I.loc
 obtain ⟨u, r, l⟩ := hl i x v hN e hv
 have fin : EP X pins σ Q u s := ⟨v, H, I, r, h⟩
 rcases l with ⟨hk, hm⟩ | ⟨hk, c, hc, hcell⟩
 . exact wpAny_Name (wpAny_loadName_local I.ok.kind hk hn hm fin) hd
 rcases hk with hk | hk
 . exact wpAny_Name (wpAny_loadName_cell I.ok.kind hk hc hcell fin) hd
 exact wpAny_Name (wpAny_loadName_free I.ok.kind hk hc hcell fin hcd) hd
theorem A3 {i j pos} : PE X (.Constant (.int i) j pos) (tC (.int i)) := fun _ _ _ H _ I h => wpAny_Constant_int ⟨.int i, H, I.tok _, ⟨_, rfl⟩, h⟩
theorem B1h {b j pos} : PE X (.Constant (.bool b) j pos) (tC (.bl b)) := fun _ _ _ H _ I h => Constant_bool ⟨.bl b, H, I, rfl, h⟩
theorem J6k {j pos} : PE X (.Constant .none j pos) (tC .non) := fun _ _ _ H _ I h => Constant_none ⟨.non, H, I, rfl, h⟩
theorem B0 {x j pos} : PE X (.Constant (.str x) j pos) (tC (.str x)) := fun _ _ _ H _ I h => Calls.Constant_str ⟨.str x, H, I.tok _, ⟨_, rfl⟩, h⟩
def Gl (X : Cx) (x : Str) : Prop := X.env.kindOf x = some .globalImplicit
theorem A2j {E : Value -> Shared -> Prop} {pins : List (Addr × Obj)} {s : Shared} {σ : St} {H : Hp} {x : Str} {u : Value} {pos : Pos} {Q : Value -> Shared -> Prop} (I : Inv X pins σ H s) (hg : Gl X x) (hm : X.mg x = some u) (h : Q u s)
   (hd : (x == ("__debug__" : Str)) = false := by decide) : wpAny (model X.prog X.w) X.A (eval (.Name x pos) X.env) Q E s :=
 Calls.Name_function_global I.ok.kind hg (Calls.loadGlobal_global (by rw [I.ok.glob]; exact I.mod.glob.keeps I.bk) hm h) hd
theorem D8t {E : Value -> Shared -> Prop} {pins : List (Addr × Obj)} {s : Shared} {σ : St} {H : Hp} {x : Str} {u : Value} {pos : Pos} {Q : Value -> Shared -> Prop} (I : Inv X pins σ H s) (hg : Gl X x) (hm : X.mg x = none) (hv : bootBuiltins x = some u) (h : Q u s)
   (hn : x ≠ "__name__" := by decide) (hd : (x == ("__debug__" : Str)) = false := by decide) : wpAny (model X.prog X.w) X.A (eval (.Name x pos) X.env) Q E s := by
 obtain ⟨mb, h1, h2⟩ := I.mod.blt
 exact Calls.Name_function_global I.ok.kind hg (Calls.loadGlobal_builtin (by rw [I.ok.glob]; exact I.mod.glob.keeps I.bk) hm (by rw [I.ok.blt]; exact h1.keeps I.bk) ((h2 x hn).trans hv) h) hd
theorem Z8s {x : Str} {v : V} {u : Value} {pos : Pos} (hg : Gl X x) (hm : X.mg x = some u) (r : U5 v u) (hd : (x == ("__debug__" : Str)) = false := by decide) : PE X (.Name x pos) (tC v) :=
 fun _ _ _ H _ I h => A2j I hg hm ⟨v, H, I, r, h⟩ hd
theorem Z6h {x : Str} {v : V} {u : Value} {pos : Pos} (hg : Gl X x) (hm : X.mg x = none) (hv : bootBuiltins x = some u) (r : U5 v u) (hn : x ≠ "__name__" := by decide) (hd : (x == ("__debug__" : Str)) = false := by decide) : PE X (.Name x pos) (tC v) :=
 fun _ _ _ H _ I h => D8t I hg hm hv ⟨v, H, I, r, h⟩ hn hd
variable {a b : Expr} {ta tb : TE} {pos : Pos}
def tB (t : TE) : TT := fun σ H Q => t σ H fun x H1 => ∃ c, x = .bl c /\ Q c H1
theorem A0g {e : Expr} {t : TE} (h : PE X e t) (he : ∀ whole, isTrue e X.env whole = (do let v <- whole; standAt e.pos; holding [v] (truthy v)) := by intro _; rfl) : PT X e (tB t) := by
 intro pins s σ H Q I hw
 refine isTrue_plain (thn (h pins s σ H _ I hw) fun v s1 ⟨x, H1, I1, r1, q1⟩ => ?_) (he _)
 obtain ⟨d, rfl, q⟩ := q1
 cases r1
 exact wpAny_truthy_bool ⟨H1, I1, q⟩
variable {tA tB' : TT} {rest : List Expr}
def tAnd (t u : TT) : TT := fun σ H Q => t σ H fun c H1 => if c = true then u σ H1 Q else Q false H1
def tOr (t u : TT) : TT := fun σ H Q => t σ H fun c H1 => if c = true then Q true H1 else u σ H1 Q
def tNot (t : TT) : TT := fun σ H Q => t σ H fun c H1 => Q (!c) H1
theorem A1e (ha : PT X a tA) : PW X (.BoolOp .And [a] pos) tA := by
 intro wh pins s σ H Q I h
 refine isTrue_and (thn (ha pins s σ H Q I h) fun c s1 e => ?_)
 cases c with
 | true => exact isTrue_and_nil e
 | false => exact e
theorem B0t (ha : PT X a tA) : PW X (.BoolOp .Or [a] pos) tA := by
 intro wh pins s σ H Q I h
 refine isTrue_or (thn (ha pins s σ H Q I h) fun c s1 e => ?_)
 cases c with
 | false => exact isTrue_or_nil e
 | true => exact e
theorem A1h (ha : PT X a tA) (hb : PW X (.BoolOp .And (b :: rest) pos) tB') : PW X (.BoolOp .And (a :: b :: rest) pos) (tAnd tA tB') := by
 intro wh pins s σ H Q I h
 refine isTrue_and (thn (ha pins s σ H _ I h) fun c s1 ⟨H1, I1, q1⟩ => ?_)
 cases c with
 | true => exact hb wh pins s1 σ H1 Q I1 q1
 | false => exact ⟨H1, I1, q1⟩
theorem C5a (ha : PT X a tA) (hb : PW X (.BoolOp .Or (b :: rest) pos) tB') : PW X (.BoolOp .Or (a :: b :: rest) pos) (tOr tA tB') := by
 intro wh pins s σ H Q I h
 refine isTrue_or (thn (ha pins s σ H _ I h) fun c s1 ⟨H1, I1, q1⟩ => ?_)
 cases c with
 | true => exact ⟨H1, I1, q1⟩
 | false => exact hb wh pins s1 σ H1 Q I1 q1
theorem A7s (ha : PT X a tA) : PT X (.UnaryOp .Not a pos) (tNot tA) := by
 intro pins s σ H Q I h
 exact isTrue_not (ha pins s σ H (fun c H1 => Q (!c) H1) I h)
def A0nz (ta tb : TE) : TE := fun σ H Q => ta σ H fun x H1 => ∃ c, x = .bl c /\ if c = true then tb σ H1 Q else Q (.bl false) H1
def tOrV (ta tb : TE) : TE := fun σ H Q => ta σ H fun x H1 => ∃ c, x = .bl c /\ if c = true then Q (.bl true) H1 else tb σ H1 Q
theorem A2a {op} {t : TE} (h : PE X a t) : PE X (.BoolOp op [a] pos) t := fun pins s σ H Q I hw => BoolOp_one (h pins s σ H Q I hw)
theorem A4n (ha : PE X a ta) (hb : PE X (.BoolOp .And (b :: rest) pos) tb) : PE X (.BoolOp .And (a :: b :: rest) pos) (A0nz ta tb) := by
 intro pins s σ H Q I h
 refine BoolOp_and (thn (ha pins s σ H _ I h) fun v s1 ⟨x, H1, I1, r1, q1⟩ => ?_)
 obtain ⟨c, rfl, q1⟩ := q1
 cases r1
 refine wpAny_truthy_bool ?_
 cases c with
 | true => exact hb pins s1 σ H1 Q I1 q1
 | false => exact ⟨.bl false, H1, I1, rfl, q1⟩
theorem J1j (ha : PE X a ta) (hb : PE X (.BoolOp .Or (b :: rest) pos) tb) : PE X (.BoolOp .Or (a :: b :: rest) pos) (tOrV ta tb) := by
 intro pins s σ H Q I h
 refine BoolOp_or (thn (ha pins s σ H _ I h) fun v s1 ⟨x, H1, I1, r1, q1⟩ => ?_)
 obtain ⟨c, rfl, q1⟩ := q1
 cases r1
 refine wpAny_truthy_bool ?_
 cases c with
 | false => exact hb pins s1 σ H1 Q I1 q1
 | true => exact ⟨.bl true, H1, I1, rfl, q1⟩
def tIf (t : TT) (ta tb : TE) : TE := fun σ H Q => t σ H fun c H1 => if c = true then ta σ H1 Q else tb σ H1 Q
theorem A0f {c : Expr} (hc : PT X c tA) (ha : PE X a ta) (hb : PE X b tb) : PE X (.IfExp c a b pos) (tIf tA ta tb) := by
 intro pins s σ H Q I h
 refine wpAny_IfExp (thn (hc pins s σ H _ I h) fun d s1 ⟨H1, I1, q1⟩ => ?_)
 cases d with
 | true => exact ha pins s1 σ H1 Q I1 q1
 | false => exact hb pins s1 σ H1 Q I1 q1
end
def SqL (K : PySem.W.Frag) (H : Hp) (a : Addr) (xs : List V) : Prop :=
 Rd H a (.lst xs) \/
   ∃ (o : Obj) (its : Array Value) (n : Nat), K.lookup a = some o /\ o.cls = .type "list" /\ o.dict = none /\ o.data = .seq its n /\ its.size <= sizeLine /\ U0 xs its.toList
def SqT (K : PySem.W.Frag) (H : Hp) (a : Addr) (xs : List V) : Prop :=
 Rd H a (.tup xs) \/
   ∃ (o : Obj) (its : Array Value) (n : Nat), K.lookup a = some o /\ o.cls = .type "tuple" /\ o.data = .seq its n /\ its.size <= sizeLine /\ U0 xs its.toList
def absV : Value -> Option V
 | .none => some .non
 | .bool b => some (.bl b)
 | .int i _ => some (.int i)
 | .str x _ => some (.str x)
 | .bytes b _ => some (.byt b)
 | .float b _ => some (.flt b)
 | .ref a => some (.ref a)
 | .type n => some (.ty n)
 | _ => none
theorem U5.abs {x : V} {u : Value} (r : U5 x u) : absV u = some x := by
 cases x with
 | non => cases r; rfl
 | bl _ => cases r; rfl
 | int _ => obtain ⟨t, rfl⟩ := r; rfl
 | str _ => obtain ⟨t, rfl⟩ := r; rfl
 | byt _ => obtain ⟨t, rfl⟩ := r; rfl
 | flt _ => obtain ⟨t, rfl⟩ := r; rfl
 | ref _ => cases r; rfl
 | ty _ => cases r; rfl
theorem U5.inj {x y : V} {u : Value} (r : U5 x u) (q : U5 y u) : x = y := Option.some.inj (r.abs.symm.trans q.abs)
theorem U0.inj : ∀ {xs ys : List V} {us : List Value}, U0 xs us -> U0 ys us -> xs = ys
 | _, _, _, .nil, .nil => rfl
 | _, _, _, .cons r t, .cons r' t' => by rw [r.inj r', U0.inj t t']
section
variable {X : Cx} {pins : List (Addr × Obj)} {σ : St} {H : Hp} {s : Shared} {a : Addr} {xs ys : List V}
theorem SqL.of {K : PySem.W.Frag} (h : H a = some (.lst xs)) : SqL K H a xs := .inl (.inl h)
theorem SqT.of {K : PySem.W.Frag} (h : H a = some (.tup xs)) : SqT K H a xs := .inl (.inl h)
theorem Inv.list (I : Inv X pins σ H s) (h : SqL X.K H a xs) : ∃ its : List Value, U0 xs its /\ PlainL s.heap a its.toArray /\ xs.length <= sizeLine := by
 rcases h with h | ⟨o, its, n, hk, hc, hd, hs, hz, r⟩
 . obtain ⟨z, its, n, r, e⟩ := h.ok I.hok
   exact ⟨its, r, ⟨_, n, e, rfl, rfl, rfl⟩, z⟩
 refine ⟨its.toList, r, ⟨o, n, I.kIn a o hk, hc, hd, by simpa using hs⟩, ?_⟩
 have e := r.length
 simp only [Array.length_toList] at e
 omega
theorem Inv.tuple (I : Inv X pins σ H s) (h : SqT X.K H a xs) : ∃ its : List Value, U0 xs its /\ IsTup s.heap a its.toArray /\ xs.length <= sizeLine := by
 rcases h with h | ⟨o, its, n, hk, hc, hs, hz, r⟩
 . obtain ⟨z, its, r, p⟩ := h.ok I.hok
   exact ⟨its, r, p, z⟩
 refine ⟨its.toList, r, ⟨o, I.kIn a o hk, hc, n, by simpa using hs⟩, ?_⟩
 have e := r.length
 simp only [Array.length_toList] at e
 omega
theorem Inv.list_inj (I : Inv X pins σ H s) (h : SqL X.K H a xs) (h' : SqL X.K H a ys) : xs = ys := by
 obtain ⟨its, r, ⟨o, n, e, _, _, d⟩, _⟩ := I.list h
 obtain ⟨its', r', ⟨o', n', e', _, _, d'⟩, _⟩ := I.list h'
 rw [e] at e'; cases e'
 rw [d] at d'
 injection d' with d1 _
 have : its = its' := by simpa using congrArg Array.toList d1
 subst this
 exact r.inj r'
theorem Inv.tuple_inj (I : Inv X pins σ H s) (h : SqT X.K H a xs) (h' : SqT X.K H a ys) : xs = ys := by
 obtain ⟨its, r, ⟨o, e, _, n, d⟩, _⟩ := I.tuple h
 obtain ⟨its', r', ⟨o', e', _, n', d'⟩, _⟩ := I.tuple h'
 rw [e] at e'; cases e'
 rw [d] at d'
 injection d' with d1 _
 have : its = its' := by simpa using congrArg Array.toList d1
 subst this
 exact r.inj r'
end
abbrev Cx.wish (X : Cx) (E : Value -> Shared -> Prop) : Cx := { X with xe := E }
abbrev Cx.nox (X : Cx) : Cx := X.wish fun _ _ => False
theorem Cx.Ok.wish {X : Cx} (ok : X.Ok) (E : Value -> Shared -> Prop) : (X.wish E).Ok :=
 ⟨ok.mod, ok.kind, ok.glob, ok.blt, ok.above, ok.inj, ok.has, ok.cab, ok.hd, ok.frames, ok.stk, ok.exf, ok.bs, ok.bsz, ok.noex, ok.exfs, ok.funs, ok.frf⟩
theorem Cx.Ok.unwish {X : Cx} {E : Value -> Shared -> Prop} (ok : (X.wish E).Ok) : X.Ok :=
 ⟨ok.mod, ok.kind, ok.glob, ok.blt, ok.above, ok.inj, ok.has, ok.cab, ok.hd, ok.frames, ok.stk, ok.exf, ok.bs, ok.bsz, ok.noex, ok.exfs, ok.funs, ok.frf⟩
section
variable {X : Cx} {pins : List (Addr × Obj)} {σ : St} {H : Hp} {s : Shared} {E : Value -> Shared -> Prop}
theorem Inv.wish (I : Inv X pins σ H s) (E : Value -> Shared -> Prop) : Inv (X.wish E) pins σ H s := ⟨I.ok.wish E, I.os, I.bare, I.base, I.loc, I.cell, I.free, I.freeC, I.pin, I.hok, I.len⟩
theorem Inv.unwish (I : Inv (X.wish E) pins σ H s) : Inv X pins σ H s := ⟨I.ok.unwish, I.os, I.bare, I.base, I.loc, I.cell, I.free, I.freeC, I.pin, I.hok, I.len⟩
theorem SP.unwish {D : D2y} {f : Flow} {s' : Shared} (h : SP (X.wish E) pins D f s') : SP X pins D f s' := by
 cases f with
 | next => obtain ⟨σ', H', I, q⟩ := h; exact ⟨σ', H', I.unwish, q⟩
 | brk => obtain ⟨σ', H', I, q⟩ := h; exact ⟨σ', H', I.unwish, q⟩
 | cont => obtain ⟨σ', H', I, q⟩ := h; exact ⟨σ', H', I.unwish, q⟩
 | ret u => obtain ⟨v, σ', H', I, r, q⟩ := h; exact ⟨v, σ', H', I.unwish, r, q⟩
theorem PSs.nox {st : List Stmt} {t : TS} (h : PSs X.nox st t) : PSs X st t := fun pins s σ H D I hw =>
 wpAny_mono (h pins s σ H D (I.wish _) hw) (fun _ _ q => q.unwish) fun _ _ z => False.elim z
end
section
variable {X : Cx} {st : Stmt} {rest : List Stmt} {t u : TS} {e : Expr} {te : TE} {pos : Pos}
def A0nh : TS := fun D σ H => D.nx σ H
def tSeq (t u : TS) : TS := fun D σ H => t { D with nx := u D } σ H
theorem D3 : PSs X [] A0nh := fun _ _ σ H _ I h => wpAny_execs_nil ⟨σ, H, I, h⟩
theorem A7 (h1 : PS X st t) (h2 : PSs X rest u) : PSs X (st :: rest) (tSeq t u) := by
 intro pins s σ H D I h
 refine wpAny_execs_cons (thn (h1 pins s σ H { D with nx := u D } I h) fun f s1 q => ?_)
 cases f with
 | next =>
   obtain ⟨σ', H', I', q⟩ := q
   exact h2 pins s1 σ' H' D I' q
 | ret v => exact q
 | brk => exact q
 | cont => exact q
theorem A9 (h1 : PS X st t) : PSs X [st] t := by
 intro pins s σ H D I h
 refine wpAny_execs_cons (thn (h1 pins s σ H D I h) fun f s1 q => ?_)
 cases f with
 | next => exact wpAny_execs_nil q
 | ret v => exact q
 | brk => exact q
 | cont => exact q
theorem Inv.quiet {pins : List (Addr × Obj)} {σ : St} {H : Hp} {s : Shared} (I : Inv X pins σ H s) : interactive X.env = false := by simp [interactive, I.ok.kind]
def A0mu (te : TE) : TS := fun D σ H => te σ H fun _ H1 => D.nx σ H1
theorem Z5 (he : PE X e te) (hs : swapsWith e none pos.line X.env = pure false := by rfl) : PS X (.Expr e pos) (A0mu te) := by
 intro pins s σ H D I h
 exact wpAny_Expr_any (thn (he pins s σ H _ I h) fun v s1 ⟨x, H1, I1, r1, q1⟩ => ⟨σ, H1, I1, q1⟩) I.quiet hs
def tRet (te : TE) : TS := fun D σ H => te σ H D.rt
theorem B8 (he : PE X e te) : PS X (.Return (some e) pos) (tRet te) := by
 intro pins s σ H D I h
 exact wpAny_Return_some (thn (he pins s σ H _ I h) fun v s1 ⟨x, H1, I1, r1, q1⟩ => ⟨x, σ, H1, I1, r1, q1⟩)
def tIfS (c : TT) (t u : TS) : TS := fun D σ H => c σ H fun b H1 => if b = true then t D σ H1 else u D σ H1
theorem G4 {c : Expr} {a b : List Stmt} {tc : TT} (hc : PT X c tc) (ha : PSs X a t) (hb : PSs X b u) : PS X (.If c a b pos) (tIfS tc t u) := by
 intro pins s σ H D I h
 refine wpAny_If (thn (hc pins s σ H _ I h) fun d s1 ⟨H1, I1, q1⟩ => ?_)
 cases d with
 | true => exact ha pins s1 σ H1 D I1 q1
 | false => exact hb pins s1 σ H1 D I1 q1
end
abbrev TG := V -> St -> Hp -> (St -> Hp -> Prop) -> Prop
abbrev TGs := List V -> St -> Hp -> (St -> Hp -> Prop) -> Prop
def PG (X : Cx) (target : Expr) (t : TG) : Prop :=
 ∀ (pins : List (Addr × Obj)) (s : Shared) (σ : St) (H : Hp) (v : V) (u : Value) (Q : St -> Hp -> Prop), Inv X pins σ H s -> U5 v u -> t v σ H Q ->
   wpAny (model X.prog X.w) X.A (assign target X.env u) (fun _ s' => ∃ σ' H', Inv X pins σ' H' s' /\ Q σ' H') X.xe s
def PGs (X : Cx) (ts : List Expr) (t : TGs) : Prop :=
 ∀ (pins : List (Addr × Obj)) (s : Shared) (σ : St) (H : Hp) (vs : List V) (us : List Value) (Q : St -> Hp -> Prop), Inv X pins σ H s -> U0 vs us -> t vs σ H Q ->
   wpAny (model X.prog X.w) X.A (assignInOrder ((assignEach ts X.env).map (·.2)) us) (fun _ s' => ∃ σ' H', Inv X pins σ' H' s' /\ Q σ' H') X.xe s
abbrev TIp := V -> V -> Hp -> VK -> Prop
def PIp (X : Cx) (op : Operator) (t : TIp) : Prop :=
 ∀ (pins : List (Addr × Obj)) (s : Shared) (σ : St) (H : Hp) (x y : V) (v u : Value) (Q : VK), Inv X pins σ H s -> U5 x v -> U5 y u -> t x y H Q ->
   wpAny (model X.prog X.w) X.A (inplaceOp op v u) (EP X pins σ Q) X.xe s
section
variable {X : Cx} {pos : Pos}
def D6u (i : Nat) : TG := fun v σ H Q => Q (σ.set i (some v)) H
theorem Y3 {i : Nat} {x : Str} (hN : X.N.Nodup) (hi : X.N[i]? = some x) (hx : Loc X.env.scope x) (hf : X.fn x = true \/ X.env.scope.names.lookup x = some .local := by first | exact .inl rfl | exact .inr rfl | assumption) : PG X (.Name x pos) (D6u i) := by
 intro pins s σ H v u Q I r h
 exact wpAny_assign_Name (B1f I hN hi hx r (fun s' I' => ⟨_, H, I', h⟩) hf)
def gNil : TGs := fun vs σ H Q => vs = [] /\ Q σ H
def A0mz (t : TG) (u : TGs) : TGs := fun vs σ H Q => ∃ v r, vs = v :: r /\ t v σ H fun σ' H' => u r σ' H' Q
theorem C6e : PGs X [] gNil := by
 intro pins s σ H vs us Q I r h
 obtain ⟨e, h⟩ := h
 subst e
 cases r
 exact assignInOrder_nil ⟨σ, H, I, h⟩
theorem A2q {e : Expr} {es : List Expr} {t : TG} {u : TGs} (h1 : PG X e t) (h2 : PGs X es u)
   (hs : (assignEach (e :: es) X.env).map (·.2) = assign e X.env :: (assignEach es X.env).map (·.2) := by rfl) : PGs X (e :: es) (A0mz t u) := by
 intro pins s σ H vs us Q I r h
 obtain ⟨v, vr, e1, h⟩ := h
 subst e1
 cases r with
 | cons r rr =>
   rw [hs]
   refine assignInOrder_cons (thn (h1 pins s σ H _ _ _ I r h) fun _ s1 ⟨σ1, H1, I1, q1⟩ => ?_)
   exact h2 pins s1 σ1 H1 _ _ Q I1 rr q1
def gTup (K : PySem.W.Frag) (n : Nat) (t : TGs) : TG := fun v σ H Q => ∃ a xs, v = .ref a /\ SqT K H a xs /\ xs.length = n /\ t xs σ H Q
theorem D9k {es : List Expr} {k : Nat} {t : TGs} {n : Nat} (hc : X.calm = true) (h : PGs X es t)
   (hn : (assignEach es X.env).length = n := by rfl) (hst : (assignEach es X.env).findIdx? (·.1) = none := by rfl) : PG X (.Tuple es k pos) (gTup X.K n t) := by
 intro pins s σ H v u Q I r hw
 obtain ⟨a, xs, e1, hq, hl, hw⟩ := hw
 subst e1
 cases r
 obtain ⟨its, rv, ht, hz⟩ := I.tuple hq
 refine assign_Tuple_tuple (I.ok.hd hc) ht (by simp [hn, <- hl, rv.length]) hst fun h' hx => ?_
 have I1 : Inv X pins σ H { s with heap := h' } := I.kept (t' := s.toks) fun b o e => hx b o (Nat.ne_of_lt (Heap.lt_size e)) e
 exact h pins _ σ H xs _ Q I1 (by simpa using rv) hw
def tAsg (te : TE) (g : TG) : TS := fun D σ H => te σ H fun x H1 => g x σ H1 D.nx
theorem D9a {tg e : Expr} {te : TE} {g : TG} (he : PE X e te) (hg : PG X tg g) (hs : swapsWithSole [tg] e pos.line X.env = pure false := by rfl) (hw : swappedStores [tg] e X.env = pure none := by rfl)
   (h1 : (assignEach [tg] X.env).map (·.2) = [assign tg X.env] := by rfl) : PS X (.Assign [tg] e pos) (tAsg te g) := by
 intro pins s σ H D I h
 refine wpAny_Assign_stores (thn (he pins s σ H _ I h) fun v s1 ⟨x, H1, I1, r1, q1⟩ => ?_) hs hw
 rw [h1]
 exact thn (hg pins s1 σ H1 x v _ I1 r1 q1) fun _ s2 q => q
theorem D0 {i : Nat} {x : Str} {e : Expr} {te : TE} {pos' : Pos} (hN : X.N.Nodup) (hi : X.N[i]? = some x) (hx : Loc X.env.scope x) (he : PE X e te) (hs : swapsWith e (some (.Name x pos')) pos.line X.env = pure false := by rfl) (hf : X.fn x = true \/ X.env.scope.names.lookup x = some .local := by first | exact .inl rfl | exact .inr rfl | assumption) :
   PS X (.Assign [.Name x pos'] e pos) (tAsg te (D6u i)) := by
 intro pins s σ H D I h
 refine wpAny_Assign_Name (thn (he pins s σ H _ I h) fun v s1 ⟨y, H1, I1, r1, q1⟩ => ?_) hs
 exact B1f I1 hN hi hx r1 (fun s2 I2 => ⟨_, H1, I2, q1⟩) hf
def tAug (i : Nat) (te : TE) (ti : TIp) : TS := fun D σ H => ∃ x, σ[i]? = some (some x) /\ te σ H fun y H1 => ti x y H1 fun z H2 => D.nx (σ.set i (some z)) H2
theorem A0ex {i : Nat} {x : Str} {e : Expr} {te : TE} {op : Operator} {ti : TIp} {pos' : Pos} (hN : X.N.Nodup) (hi : X.N[i]? = some x) (hx : Loc X.env.scope x) (he : PE X e te) (ho : PIp X op ti) (hf : X.fn x = true \/ X.env.scope.names.lookup x = some .local := by first | exact .inl rfl | exact .inr rfl | assumption) :
   PS X (.AugAssign (.Name x pos') op e pos) (tAug i te ti) := by
 intro pins s σ H D I h
 obtain ⟨v, e1, h⟩ := h
 obtain ⟨m, hn, hl⟩ := I.loc
 have vis : Vis X.env.scope x := by rcases hx with k | k; exact .inl k; exact .inr (.inl k)
 obtain ⟨u, r, l⟩ := hl i x v hi e1 vis
 refine wpAny_AugAssign_Name ?_
 have go : wpAny (model X.prog X.w) X.A (eval e X.env) (fun w s₂ => wpAny (model X.prog X.w) X.A (inplaceOp op u w) (fun r s₃ => wpAny (model X.prog X.w) X.A (storeName X.env x r) (fun _ => SP X pins D .next) X.xe s₃) X.xe s₂) X.xe s := by
   refine thn (he pins s σ H _ I h) fun w s1 ⟨y, H1, I1, r1, q1⟩ => ?_
   refine thn (ho pins s1 σ H1 v y u w _ I1 r r1 q1) fun z s2 ⟨zv, H2, I2, r2, q2⟩ => ?_
   exact B1f I2 hN hi hx r2 (fun s3 I3 => ⟨_, H2, I3, q2⟩) hf
 rcases l with ⟨hk, hm⟩ | ⟨hk, c, hc, hcell⟩
 . exact wpAny_loadName_local I.ok.kind hk hn hm go
 rcases hk with hk | hk
 . exact wpAny_loadName_cell I.ok.kind hk hc hcell go
 rcases hx with k | k
 . have : X.env.scope.names.lookup x = some .free := hk
   rw [k] at this; cases this
 have : X.env.scope.names.lookup x = some .free := hk
 rw [k] at this; cases this
def ipI (f : Int -> Int -> Int) : TIp := fun x y H Q => ∃ i j, x = .int i /\ y = .int j /\ Q (.int (f i j)) H
theorem A0fr : PIp X .Add (ipI fun i j => i + j) := by
 intro pins s σ H x y v u Q I r1 r2 h
 obtain ⟨i, j, e1, e2, q⟩ := h
 subst e1; subst e2
 obtain ⟨t, rfl⟩ := r1
 obtain ⟨t', rfl⟩ := r2
 exact iadd_int ⟨.int _, H, I.tok _, ⟨_, rfl⟩, q⟩
end
section
variable {X : Cx} {pos : Pos}
def Y1h (c : TT) (tb : TS) : TS := fun D σ H => ∃ W : Nat -> St -> Hp -> Prop, (∃ m, W m σ H) /\ ∀ m σ H, W m σ H ->
 c σ H fun b H1 => if b = true then ∃ N : St -> Hp -> Prop, (∀ σ' H', N σ' H' -> ∃ m', m' < m /\ W m' σ' H') /\ tb { D with nx := N, ct := N, bk := D.nx } σ H1 else D.nx σ H1
theorem B0h {c : Expr} {body : List Stmt} {tc : TT} {tb : TS} (hp : PassesOwn (model X.prog X.w) X.A X.env X.xe) (hc : PT X c tc) (hb : PSs X body tb) : PS X (.While c body [] pos) (Y1h tc tb) := by
 intro pins s σ H D I h
 obtain ⟨W, ⟨m0, w0⟩, turn⟩ := h
 refine wpAny_While (codeAny_whileLoop (fun n s' => ∃ σ' H', Inv X pins σ' H' s' /\ W n σ' H') ?_ m0 ⟨σ, H, I, w0⟩)
 rintro n s1 ⟨σ1, H1, I1, w1⟩
 refine wpAny_passesOwn hp (thn (hc pins s1 σ1 H1 _ I1 (turn n σ1 H1 w1)) fun b s2 ⟨H2, I2, q2⟩ => ?_)
 cases b with
 | true =>
   obtain ⟨N, hN, q2⟩ := q2
   rw [if_pos rfl]
   refine wpAny_passesOwn hp (thn (hb pins s2 σ1 H2 _ I2 q2) fun f s3 q3 => ?_)
   cases f with
   | next =>
     obtain ⟨σ3, H3, I3, n3⟩ := q3
     obtain ⟨m', hm, w3⟩ := hN σ3 H3 n3
     exact ⟨m', hm, σ3, H3, I3, w3⟩
   | cont =>
     obtain ⟨σ3, H3, I3, n3⟩ := q3
     obtain ⟨m', hm, w3⟩ := hN σ3 H3 n3
     exact ⟨m', hm, σ3, H3, I3, w3⟩
   | brk => exact q3
   | ret v => exact q3
 | false =>
   rw [if_neg Bool.false_ne_true]
   exact wpAny_execs_nil ⟨σ1, H2, I2, q2⟩
end
structure It where
 go : Nat -> Hp -> Prop
 yld : Nat -> Hp -> V -> Hp -> Prop
 stop : Nat -> Hp -> Prop
def A4f (X : Cx) (pins : List (Addr × Obj)) (H : Hp) (b : Addr) : Prop :=
 H b = none /\ b ≠ X.env.locals /\ b ∉ X.fs /\ (b ∈ X.ex \/ X.s₀.heap.objs.size <= b) /\ (∀ x c, X.env.cells.lookup x = some c -> c ≠ b) /\ ∀ p ∈ X.pn ++ pins, p.1 ≠ b
theorem Inv.fpOk {X : Cx} {pins : List (Addr × Obj)} {σ : St} {H H' : Hp} {s : Shared} {b : Addr} (I : Inv X pins σ H s) (hb : s.heap.objs.size <= b) (hn : H' b = none) : A4f X pins H' b := by
 refine ⟨hn, Nat.ne_of_gt (Nat.lt_of_lt_of_le I.lt hb), I.nofs hb, .inr (Nat.le_trans I.sz hb), fun x c e z => ?_, fun p hp z => ?_⟩
 . obtain ⟨v, q⟩ := I.cell x c e
   exact absurd (Nat.lt_of_lt_of_le q.lt (by rw [z]; exact hb)) (Nat.lt_irrefl _)
 exact absurd (Nat.lt_of_lt_of_le (Heap.lt_size (I.pin p hp).1) (by rw [z]; exact hb)) (Nat.lt_irrefl _)
structure Z9k (P : Program) (w : World) (K : PySem.W.Frag) (tg : Expr) (J : It) (fp : List Addr) (it : Addr) (tn : Nat -> Heap -> Prop) : Prop where
 mem : it ∈ fp
 obj : ∀ i h, tn i h -> ∀ b ∈ fp, ∃ o, h.get? b = some o /\ ∀ v, o.data ≠ .cell v
 keep : ∀ i h h', tn i h -> (∀ b ∈ fp, ∀ o, h.get? b = some o -> h'.get? b = some o) -> tn i h'
 item : ∀ (X : Cx), X.prog = P -> X.w = w -> X.K = K -> X.calm = true -> ∀ (i : Nat) (pins : List (Addr × Obj)) (s : Shared) (σ : St) (H : Hp) (E : Value -> Shared -> Prop), Inv X pins σ H s -> (∀ b ∈ fp, A4f X pins H b) -> tn i s.heap -> J.go i H ->
   wpAny (model P w) X.A (pyNext (.ref it)) (fun r s1 => ∃ u, r = some u /\
     wpAny (model P w) X.A (letOwnedTupleGo tg (.ref it) u) (fun _ s2 => ∃ x H', Inv X pins σ H' s2 /\ U5 x u /\ J.yld i H x H' /\ tn (i + 1) s2.heap /\ ∀ b ∈ fp, H' b = none) E s1) E s
 done : ∀ (X : Cx), X.prog = P -> X.w = w -> X.K = K -> X.calm = true -> ∀ (i : Nat) (pins : List (Addr × Obj)) (s : Shared) (σ : St) (H : Hp) (E : Value -> Shared -> Prop), Inv X pins σ H s -> (∀ b ∈ fp, A4f X pins H b) -> tn i s.heap -> J.stop i H ->
   wpAny (model P w) X.A (pyNext (.ref it)) (fun r s1 => r = none /\ Inv X pins σ H s1) E s
 self : ∀ (A : Around) (i : Nat) (s : Shared) (Q : Value -> Shared -> Prop) (E : Value -> Shared -> Prop), tn i s.heap -> Q (.ref it) s -> wpAny (model P w) A (pyIter (.ref it)) Q E s
abbrev TI := St -> Hp -> (It -> Hp -> Prop) -> Prop
def PIE (X : Cx) (pins : List (Addr × Obj)) (σ : St) (tg : Expr) (R : It -> Hp -> Prop) (itv : Value) (s2 : Shared) : Prop :=
 ∃ (it : Addr) (fp : List Addr) (tn : Nat -> Heap -> Prop) (J : It) (H' : Hp), itv = .ref it /\ Inv X pins σ H' s2 /\ Z9k X.prog X.w X.K tg J fp it tn /\ tn 0 s2.heap /\ (∀ b ∈ fp, A4f X pins H' b) /\ R J H'
def PI (X : Cx) (tg iter : Expr) (wi : TI) : Prop :=
 ∀ (pins : List (Addr × Obj)) (s : Shared) (σ : St) (H : Hp) (R : It -> Hp -> Prop), Inv X pins σ H s -> wi σ H R ->
   wpAny (model X.prog X.w) X.A (eval iter X.env) (fun v s1 => wpAny (model X.prog X.w) X.A (pyIter v) (PIE X pins σ tg R) X.xe s1) X.xe s
theorem J1t {M : Model} {A : Around} {E : Value -> Shared -> Prop} {s : Shared} {tg : Expr} {it : Addr} {u : Value} {o : Obj} {n : String} {vs : Array Value} {Q : Unit -> Shared -> Prop} (ho : s.heap.get? it = some o) (hc : o.cls = .type n) (hd : o.data = .fields vs)
   (hn : ["enumerate", "zip", "dict_itemiterator", "dict_reverseitemiterator", "odict_iterator", "itertools.zip_longest", "itertools.pairwise"].contains n = false) (hQ : Q () s) : wpAny M A (letOwnedTupleGo tg (.ref it) u) Q E s := by
 unfold letOwnedTupleGo
 cases tg <;> first
   | exact wpAny_pure hQ
   | (cases u <;> first
       | exact wpAny_pure hQ
       | (refine wpAny_bind (wpAny_load ho ?_)
          rw [hc, hd]
          show wpAny M A (if (["enumerate", "zip", "dict_itemiterator", "dict_reverseitemiterator", "odict_iterator", "itertools.zip_longest", "itertools.pairwise"].contains n && vs[0]? == some (rawInt _)) = true then _ else _) Q E s
          rw [if_neg (by intro h; rw [hn, Bool.false_and] at h; cases h)]
          exact wpAny_pure hQ))
def Itl (K : PySem.W.Frag) (a : Addr) : It :=
 ⟨fun i H => ∃ xs x, SqL K H a xs /\ xs[i]? = some x, fun i H x H' => H' = H /\ ∀ xs, SqL K H a xs -> xs[i]? = some x, fun i H => ∃ xs, SqL K H a xs /\ xs.length <= i⟩
def Itt (K : PySem.W.Frag) (a : Addr) : It :=
 ⟨fun i H => ∃ xs x, SqT K H a xs /\ xs[i]? = some x, fun i H x H' => H' = H /\ ∀ xs, SqT K H a xs -> xs[i]? = some x, fun i H => ∃ xs, SqT K H a xs /\ xs.length <= i⟩
def Itr (lo : Int) (n : Nat) : It := ⟨fun i _ => i < n, fun i H x H' => H' = H /\ x = .int (lo + i), fun i _ => n <= i⟩
theorem V2n {P : Program} {w : World} {K : PySem.W.Frag} {tg : Expr} (a it : Addr) : Z9k P w K tg (Itl K a) [it] it (fun i h => h.IsListIter it a i) where
 mem := by simp
 obj := fun i h st b hb => by
   have e : b = it := by simpa using hb
   subst e
   obtain ⟨o, e, c, d⟩ := st
   exact ⟨o, e, fun v z => by rw [d] at z; cases z⟩
 keep := fun i h h' st k => st.at fun o e => k it (by simp) o e
 item := by
   intro X hP hw hK hc i pins s σ H E I hf st hg
   subst hP hw hK
   obtain ⟨xs, x, hq, hx⟩ := hg
   obtain ⟨its, rv, p, hz⟩ := I.list hq
   obtain ⟨u, hu, ru⟩ := rv.get hx
   obtain ⟨f0, f1, f2, f3, f4, f5⟩ := hf it (by simp)
   refine wpAny_pyNext_list_item st p.isList (x := u) (by simpa using hu) fun h' st' sb => ?_
   have I1 : Inv X pins σ H { s with heap := h' } := I.turned (t' := s.toks) (fun b o hb e => (sb.2 b hb).trans e) f0 f1 f3 f4 f5
   obtain ⟨o, e, c, d⟩ := id st'
   exact ⟨u, rfl, J1t (s := { s with heap := h' }) e c d (by decide) ⟨x, H, I1, ru, ⟨rfl, fun ys hy => by rw [I.list_inj hy hq]; exact hx⟩, st', fun b hb => (hf b hb).1⟩⟩
 done := by
   intro X hP hw hK hc i pins s σ H E I hf st hg
   subst hP hw hK
   obtain ⟨xs, hq, hx⟩ := hg
   obtain ⟨its, rv, p, hz⟩ := I.list hq
   obtain ⟨f0, f1, f2, f3, f4, f5⟩ := hf it (by simp)
   have hl := rv.length
   exact wpAny_pyNext_list_end (I.ok.hd hc) st p.isList (by simp; omega) fun h' eb => ⟨rfl, I.turned (t' := s.toks) (fun b o hb e => eb b o hb e) f0 f1 f3 f4 f5⟩
 self := fun _ _ _ _ _ st h => wpAny_pyIter_listiter st h
theorem J6q {P : Program} {w : World} {K : PySem.W.Frag} {tg : Expr} (it : Addr) (lo : Int) (n : Nat) : Z9k P w K tg (Itr lo n) [it] it (fun i h => IsRangeIter h it (lo + (i : Nat) * 1) ((n : Int) - (i : Nat)) 1) where
 mem := by simp
 obj := fun i h st b hb => by
   have e : b = it := by simpa using hb
   subst e
   exact ⟨_, st, fun v z => by
     have z' : Data.fields _ = Data.cell v := z
     cases z'⟩
 keep := fun i h h' st k => k it (by simp) _ st
 item := by
   intro X hP hw hK hc i pins s σ H E I hf st hg
   subst hP hw hK
   obtain ⟨f0, f1, f2, f3, f4, f5⟩ := hf it (by simp)
   have W := Walks.range (prog := X.prog) (w := X.w) (I.ok.hd hc) it lo 1 n
   refine W.item i s _ _ hg st fun v h' tk hv st' kk => ?_
   obtain ⟨t, rfl⟩ := hv
   have I1 : Inv X pins σ H { s with heap := h', toks := tk } := I.turned (fun b o hb e => kk b o (by simpa using hb) e) f0 f1 f3 f4 f5
   refine ⟨_, rfl, J1t (s := { s with heap := h', toks := tk }) (n := "range_iterator") st' rfl rfl (by decide) ⟨.int (lo + i), H, I1, ⟨t, ?_⟩, ⟨rfl, rfl⟩, st', fun b hb => (hf b hb).1⟩⟩
   rw [Int.mul_one]
 done := by
   intro X hP hw hK hc i pins s σ H E I hf st hg
   subst hP hw hK
   obtain ⟨f0, f1, f2, f3, f4, f5⟩ := hf it (by simp)
   exact wpAny_pyNext_range_end (I.ok.hd hc) st (by have : n <= i := hg; omega) fun h' eb => ⟨rfl, I.turned (t' := s.toks) (fun b o hb e => eb b o hb e) f0 f1 f3 f4 f5⟩
 self := fun _ _ _ _ _ st h => wpAny_pyIter_rangeiter st h
section
variable {X : Cx} {tg : Expr}
def U8x (K : PySem.W.Frag) (tl : TE) : TI := fun σ H R => tl σ H fun x H1 => ∃ a, x = .ref a /\ (∃ xs, SqL K H1 a xs) /\ R (Itl K a) H1
def iTup (K : PySem.W.Frag) (tl : TE) : TI := fun σ H R => tl σ H fun x H1 => ∃ a, x = .ref a /\ (∃ xs, SqT K H1 a xs) /\ R (Itt K a) H1
theorem C6g {l : Expr} {tl : TE} (hl : PE X l tl) : PI X tg l (U8x X.K tl) := by
 intro pins s σ H R I h
 refine thn (hl pins s σ H _ I h) fun v s1 ⟨x, H1, I1, r1, q1⟩ => ?_
 obtain ⟨a, e, ⟨xs, hq⟩, q⟩ := q1
 subst e
 cases r1
 obtain ⟨its, rv, p, hz⟩ := I1.list hq
 refine wpAny_pyIter_list p.isList ?_
 refine ⟨s1.heap.objs.size, [s1.heap.objs.size], _, _, H1, rfl, I1.kept (t' := s1.toks) fun b o e => Heap.get?_push_of_some _ e, V2n a _, ⟨_, Heap.get?_push_size _ rfl, rfl, rfl⟩, fun b hb => ?_, q⟩
 have e : b = s1.heap.objs.size := by simpa using hb
 subst e
 exact I1.fpOk (Nat.le_refl _) (I1.hok.fresh (Nat.le_refl _))
theorem Y0h {pins : List (Addr × Obj)} {σ : St} {H : Hp} {s : Shared} {R : It -> Hp -> Prop} {E : Value -> Shared -> Prop} {lo hi : Int} {t u v : Tok} {tk : Nat} (I : Inv X pins σ H s) (h1 : -(2 ^ 62) <= lo) (h2 : lo < 2 ^ 62) (h3 : -(2 ^ 62) <= hi) (h4 : hi < 2 ^ 62)
   (q : R (Itr lo (hi - lo).toNat) H) : wpAny (model X.prog X.w) X.A (pyIter (.ref s.heap.objs.size)) (PIE X pins σ tg R) E { s with heap := s.heap.push { cls := .type "range", data := .fields #[.int lo t, .int hi u, .int 1 v] }, toks := tk } := by
 refine wpAny_pyIter_range (IsRange.new ..) (small_one h1 h2 h3 h4) ?_
 have I1 : Inv X pins σ H { s with heap := s.heap.push { cls := .type "range", data := .fields #[.int lo t, .int hi u, .int 1 v] }, toks := tk } := I.kept fun b o e => Heap.get?_push_of_some _ e
 refine ⟨(s.heap.push { cls := .type "range", data := .fields #[.int lo t, .int hi u, .int 1 v] }).objs.size, [(s.heap.push { cls := .type "range", data := .fields #[.int lo t, .int hi u, .int 1 v] }).objs.size], _, _, H, rfl,
   I1.kept (t' := tk) fun b o e => Heap.get?_push_of_some _ e, J6q _ lo (hi - lo).toNat, ?_, fun b hb => ?_, q⟩
 . have e1 : lo + ((0 : Nat) : Int) * 1 = lo := by simp
   have e2 : (((hi - lo).toNat : Nat) : Int) - ((0 : Nat) : Int) = Builtin.Range.rangeSize lo hi 1 := by rw [rangeSize_one]; split <;> omega
   show IsRangeIter _ _ (lo + ((0 : Nat) : Int) * 1) ((((hi - lo).toNat : Nat) : Int) - ((0 : Nat) : Int)) 1
   rw [e1, e2]
   exact Heap.get?_push_size _ rfl
 have e : b = (s.heap.push { cls := .type "range", data := .fields #[.int lo t, .int hi u, .int 1 v] }).objs.size := by simpa using hb
 subst e
 exact I1.fpOk (Nat.le_refl _) (I1.hok.fresh (Nat.le_refl _))
def A0mf (ta : TA) : TI := fun σ H R => ta σ H fun vs H1 => ∃ j : Int, vs = [.int j] /\ -(2 ^ 62) <= j /\ j < 2 ^ 62 /\ R (Itr 0 j.toNat) H1
theorem C0c {a : Expr} {ta : TA} {p pos : Pos} (hg : Gl X "range") (hm : X.mg "range" = none) (ha : PA X [a] ta) (hs : starEach [a] X.env = [(false, eval a X.env)] := by rfl) : PI X tg (.Call (.Name "range" p) [a] [] pos) (A0mf ta) := by
 intro pins s σ H R I h
 refine Call_ (D8t I hg hm boot_range (PyProof.Rows.callWith_type1 (thn (ha pos pins s σ H _ I h) fun us s1 ⟨vs, H1, I1, r1, q1⟩ => ?_) hs rfl))
 obtain ⟨j, e, q1, q2, q⟩ := q1
 subst e
 cases r1 with
 | cons r rr =>
   cases rr
   obtain ⟨t, rfl⟩ := r
   exact call_range_1 (Y0h I1 (by omega) (by omega) q1 q2 (by simpa using q))
def tFor (wi : TI) (g : TG) (tb : TS) : TS := fun D σ H => wi σ H fun J H1 => ∃ W : Nat -> Nat -> St -> Hp -> Prop, (∃ m, W 0 m σ H1) /\ ∀ i m σ H, W i m σ H ->
 (J.stop i H /\ D.nx σ H) \/ (J.go i H /\ ∃ N : St -> Hp -> Prop, (∀ σ' H', N σ' H' -> ∃ m', m' < m /\ W (i + 1) m' σ' H') /\ ∀ x H', J.yld i H x H' -> g x σ H' fun σ2 H2 => tb { D with nx := N, ct := N, bk := D.nx } σ2 H2)
def A6a (fp : List Addr) (h : Heap) : List (Addr × Obj) := fp.filterMap fun b => (h.get? b).map fun o => (b, o)
theorem A7q {fp : List Addr} {h : Heap} {b : Addr} {o : Obj} (hb : b ∈ fp) (e : h.get? b = some o) : (b, o) ∈ A6a fp h := List.mem_filterMap.mpr ⟨b, hb, by rw [e]; rfl⟩
theorem V1e {fp : List Addr} {h : Heap} {p : Addr × Obj} (hp : p ∈ A6a fp h) : p.1 ∈ fp /\ h.get? p.1 = some p.2 := by
 obtain ⟨b, hb, e⟩ := List.mem_filterMap.mp hp
 cases q : h.get? b with
 | none => rw [q] at e; cases e
 | some o =>
   rw [q] at e
   have e' : (b, o) = p := Option.some.inj e
   subst e'
   exact ⟨hb, q⟩
theorem Inv.pinned {pins : List (Addr × Obj)} {σ : St} {H : Hp} {s : Shared} {fp : List Addr} (I : Inv X pins σ H s) (hf : ∀ b ∈ fp, A4f X pins H b) (ho : ∀ b ∈ fp, ∃ o, s.heap.get? b = some o /\ ∀ v, o.data ≠ .cell v) : Inv X (pins ++ A6a fp s.heap) σ H s :=
 I.pins_of fun p hp => (List.mem_append.mp hp).elim (fun z => I.pin p (List.mem_append_right _ z)) fun z => by
   obtain ⟨hb, e⟩ := V1e z
   obtain ⟨f0, f1, f2, _⟩ := hf p.1 hb
   obtain ⟨o, e', d⟩ := ho p.1 hb
   rw [e] at e'; cases e'
   exact ⟨e, f0, f1, f2, d⟩
theorem Inv.unpinned {pins pl : List (Addr × Obj)} {σ : St} {H : Hp} {s : Shared} (I : Inv X (pins ++ pl) σ H s) : Inv X pins σ H s := I.pins_of fun p hp => I.pin p (List.mem_append_right _ (List.mem_append_left _ hp))
theorem C0b {iter : Expr} {body : List Stmt} {wi : TI} {g : TG} {tb : TS} {pos : Pos} (hp : PassesOwn (model X.prog X.w) X.A X.env X.xe) (hc : X.calm = true) (hi : PI X tg iter wi) (hg : PG X tg g) (hb : PSs X body tb)
   (hs : ∀ x, foldedSetIterable iter X.env x = pure x := by intro _; rfl) : PS X (.For tg iter body [] pos) (tFor wi g tb) := by
 intro pins s σ H D I h
 refine wpAny_For (thn (hi pins s σ H _ I h) fun v s1 h1 => thn h1 fun itv s2 h2 => ?_) hs
 obtain ⟨it, fp, tn, J, H2, e, I2, T, st2, f2, W, ⟨m0, w0⟩, turn⟩ := h2
 subst e
 have stat : ∀ {H' : Hp}, (∀ b ∈ fp, H' b = none) -> ∀ b ∈ fp, A4f X pins H' b := fun hn b hb => ⟨hn b hb, (f2 b hb).2⟩
 refine codeAny_forLoop_any (fun n s' => ∃ i σ' H', Inv X pins σ' H' s' /\ tn i s'.heap /\ (∀ b ∈ fp, H' b = none) /\ W i n σ' H') ?_ m0 ⟨0, σ, H2, I2, st2, fun b hb => (f2 b hb).1, w0⟩
 rintro n s3 ⟨i, σ3, H3, I3, st3, fr3, w3⟩
 rcases turn i n σ3 H3 w3 with ⟨stop, qn⟩ | ⟨go, N, hN, step⟩
 . refine wpAny_passesOwn hp (thn (T.done X rfl rfl rfl hc i pins s3 σ3 H3 X.xe I3 (stat fr3) st3 stop) fun r s4 ⟨hr, I4⟩ => ?_)
   subst hr
   exact wpAny_execs_nil ⟨σ3, H3, I4, qn⟩
 refine wpAny_passesOwn hp (thn (T.item X rfl rfl rfl hc i pins s3 σ3 H3 X.xe I3 (stat fr3) st3 go) fun r s4 ⟨u, hr, h4⟩ => ?_)
 subst hr
 refine wpAny_passesOwn hp (thn h4 fun _ s5 ⟨x, H5, I5, r5, y5, st5, fr5⟩ => ?_)
 have I5' := I5.pinned (stat fr5) (T.obj _ _ st5)
 refine wpAny_passesOwn hp (thn (hg _ s5 σ3 H5 x u _ I5' r5 (step x H5 y5)) fun _ s6 ⟨σ6, H6, I6, q6⟩ => ?_)
 refine wpAny_passesOwn hp (thn (hb _ s6 σ6 H6 _ I6 q6) fun f s7 q7 => ?_)
 have again : ∀ {σ7 : St} {H7 : Hp}, Inv X (pins ++ A6a fp s5.heap) σ7 H7 s7 -> N σ7 H7 -> ∃ m, m < n /\ ∃ i σ' H', Inv X pins σ' H' s7 /\ tn i s7.heap /\ (∀ b ∈ fp, H' b = none) /\ W i m σ' H' := fun {σ7 H7} I7 n7 => by
   obtain ⟨m', hm, w7⟩ := hN σ7 H7 n7
   refine ⟨m', hm, i + 1, σ7, H7, I7.unpinned, T.keep _ _ _ st5 fun b hb o e => (I7.pin (b, o) (List.mem_append_right _ (List.mem_append_right _ (A7q hb e)))).1, fun b hb => ?_, w7⟩
   obtain ⟨o, e, d⟩ := T.obj _ _ st5 b hb
   exact (I7.pin (b, o) (List.mem_append_right _ (List.mem_append_right _ (A7q hb e)))).2.1
 cases f with
 | next => obtain ⟨σ7, H7, I7, n7⟩ := q7; exact again I7 n7
 | cont => obtain ⟨σ7, H7, I7, n7⟩ := q7; exact again I7 n7
 | brk => obtain ⟨σ7, H7, I7, q7⟩ := q7; exact ⟨σ7, H7, I7.unpinned, q7⟩
 | ret v => obtain ⟨x7, σ7, H7, I7, r7, q7⟩ := q7; exact ⟨x7, σ7, H7, I7.unpinned, r7, q7⟩
end
theorem A6n {K : PySem.W.Frag} {a : Addr} {xs : List V} {g : TG} {tb : TS} {D : D2y} {σ : St} {H : Hp} (Pv : Nat -> St -> Hp -> Prop) (h0 : Pv 0 σ H) (hl : ∀ i σ H, i <= xs.length -> Pv i σ H -> SqL K H a xs)
   (hs : ∀ i x σ H, xs[i]? = some x -> Pv i σ H -> g x σ H fun σ2 H2 => tb { D with nx := Pv (i + 1), ct := Pv (i + 1), bk := D.nx } σ2 H2) (hd : ∀ σ H, Pv xs.length σ H -> D.nx σ H) :
   ∃ W : Nat -> Nat -> St -> Hp -> Prop, (∃ m, W 0 m σ H) /\ ∀ i m σ H, W i m σ H ->
     ((Itl K a).stop i H /\ D.nx σ H) \/ ((Itl K a).go i H /\ ∃ N : St -> Hp -> Prop, (∀ σ' H', N σ' H' -> ∃ m', m' < m /\ W (i + 1) m' σ' H') /\ ∀ x H', (Itl K a).yld i H x H' -> g x σ H' fun σ2 H2 => tb { D with nx := N, ct := N, bk := D.nx } σ2 H2) := by
 refine ⟨fun i m σ H => m = xs.length - i /\ i <= xs.length /\ Pv i σ H, ⟨xs.length, by simp, Nat.zero_le _, h0⟩, ?_⟩
 rintro i m σ H ⟨rfl, hi, p⟩
 have q := hl i σ H hi p
 by_cases hlt : i < xs.length
 . refine .inr ⟨⟨xs, xs[i], q, by simp [hlt]⟩, Pv (i + 1), fun σ' H' p' => ⟨xs.length - (i + 1), by omega, rfl, hlt, p'⟩, fun x H' y => ?_⟩
   obtain ⟨e, y⟩ := y
   subst e
   exact hs i x σ _ (y xs q) p
 have e : i = xs.length := by omega
 subst e
 exact .inl ⟨⟨xs, q, Nat.le_refl _⟩, hd σ H p⟩
theorem D7q {lo : Int} {n : Nat} {g : TG} {tb : TS} {D : D2y} {σ : St} {H : Hp} (Pv : Nat -> St -> Hp -> Prop) (h0 : Pv 0 σ H)
   (hs : ∀ i σ H, i < n -> Pv i σ H -> g (.int (lo + i)) σ H fun σ2 H2 => tb { D with nx := Pv (i + 1), ct := Pv (i + 1), bk := D.nx } σ2 H2) (hd : ∀ σ H, Pv n σ H -> D.nx σ H) :
   ∃ W : Nat -> Nat -> St -> Hp -> Prop, (∃ m, W 0 m σ H) /\ ∀ i m σ H, W i m σ H ->
     ((Itr lo n).stop i H /\ D.nx σ H) \/ ((Itr lo n).go i H /\ ∃ N : St -> Hp -> Prop, (∀ σ' H', N σ' H' -> ∃ m', m' < m /\ W (i + 1) m' σ' H') /\ ∀ x H', (Itr lo n).yld i H x H' -> g x σ H' fun σ2 H2 => tb { D with nx := N, ct := N, bk := D.nx } σ2 H2) := by
 refine ⟨fun i m σ H => m = n - i /\ i <= n /\ Pv i σ H, ⟨n, by simp, Nat.zero_le _, h0⟩, ?_⟩
 rintro i m σ H ⟨rfl, hi, p⟩
 by_cases hlt : i < n
 . refine .inr ⟨hlt, Pv (i + 1), fun σ' H' p' => ⟨n - (i + 1), by omega, rfl, hlt, p'⟩, fun x H' y => ?_⟩
   obtain ⟨e, y⟩ := y
   subst e y
   exact hs i σ _ hlt p
 have e : i = n := by omega
 subst e
 exact .inl ⟨Nat.le_refl _, hd σ H p⟩
theorem B0u {c : TT} {tb : TS} {D : D2y} {σ : St} {H : Hp} (Pv : St -> Hp -> Prop) (μ : St -> Hp -> Nat) (h0 : Pv σ H)
   (hs : ∀ σ H, Pv σ H -> c σ H fun b H1 => if b = true then tb { D with nx := fun σ' H' => Pv σ' H' /\ μ σ' H' < μ σ H, ct := fun σ' H' => Pv σ' H' /\ μ σ' H' < μ σ H, bk := D.nx } σ H1 else D.nx σ H1)
   (mono : ∀ σ H Q Q', (∀ b H1, Q b H1 -> Q' b H1) -> c σ H Q -> c σ H Q') : Y1h c tb D σ H := by
 refine ⟨fun m σ H => m = μ σ H /\ Pv σ H, ⟨_, rfl, h0⟩, ?_⟩
 rintro m σ H ⟨rfl, p⟩
 refine mono σ H _ _ (fun b H1 q => ?_) (hs σ H p)
 cases b with
 | true => exact ⟨_, fun σ' H' ⟨p', l⟩ => ⟨_, l, rfl, p'⟩, q⟩
 | false => exact q
abbrev R2 := V -> V -> Hp -> VK -> Prop
def OpR (X : Cx) (f : Value -> Value -> Sem Value) (r : R2) : Prop :=
 ∀ (pins : List (Addr × Obj)) (s : Shared) (σ : St) (H : Hp) (x y : V) (v u : Value) (Q : VK), Inv X pins σ H s -> U5 x v -> U5 y u -> r x y H Q ->
   wpAny (model X.prog X.w) X.A (f v u) (EP X pins σ Q) X.xe s
def UnR (X : Cx) (f : Value -> Sem Value) (r : V -> Hp -> VK -> Prop) : Prop :=
 ∀ (pins : List (Addr × Obj)) (s : Shared) (σ : St) (H : Hp) (x : V) (v : Value) (Q : VK), Inv X pins σ H s -> U5 x v -> r x H Q ->
   wpAny (model X.prog X.w) X.A (f v) (EP X pins σ Q) X.xe s
def A4v (X : Cx) (f : Value) (r : List V -> Hp -> VK -> Prop) : Prop :=
 ∀ (pins : List (Addr × Obj)) (s : Shared) (σ : St) (H : Hp) (xs : List V) (us : List Value) (Q : VK), Inv X pins σ H s -> U0 xs us -> r xs H Q ->
   wpAny (model X.prog X.w) X.A (call f us) (EP X pins σ Q) X.xe s
def tOp (r : R2) (ta tb : TE) : TE := fun σ H Q => ta σ H fun x H1 => tb σ H1 fun y H2 => r x y H2 Q
def tUn (r : V -> Hp -> VK -> Prop) (ta : TE) : TE := fun σ H Q => ta σ H fun x H1 => r x H1 Q
def rI (C : Int -> Int -> Prop) (g : Int -> Int -> V) : R2 := fun x y H Q => ∃ i j, x = .int i /\ y = .int j /\ C i j /\ Q (g i j) H
def rI0 (g : Int -> Int -> V) : R2 := fun x y H Q => ∃ i j, x = .int i /\ y = .int j /\ Q (g i j) H
def rU (g : Int -> V) : V -> Hp -> VK -> Prop := fun x H Q => ∃ i, x = .int i /\ Q (g i) H
section
variable {X : Cx} {a b c : Expr} {ta tb tc : TE} {pos : Pos}
theorem binT (ha : PE X a ta) (hb : PE X b tb) {pins : List (Addr × Obj)} {s : Shared} {σ : St} {H : Hp} {R : V -> V -> Hp -> Prop} (I : Inv X pins σ H s)
   (h : ta σ H fun x H1 => tb σ H1 fun y H2 => R x y H2) {Q : Value -> Shared -> Prop} {f : Value -> Value -> Sem Value}
   (hf : ∀ v u s2 x y H2, Inv X pins σ H2 s2 -> U5 x v -> U5 y u -> R x y H2 -> wpAny (model X.prog X.w) X.A (f v u) Q X.xe s2) :
   wpAny (model X.prog X.w) X.A (eval a X.env) (fun v s₁ => wpAny (model X.prog X.w) X.A (eval b X.env) (fun u s₂ => wpAny (model X.prog X.w) X.A (f v u) Q X.xe s₂) X.xe s₁) X.xe s := by
 refine thn (ha pins s σ H _ I h) fun v s1 ⟨x, H1, I1, r1, q1⟩ => ?_
 refine thn (hb pins s1 σ H1 _ I1 q1) fun u s2 ⟨y, H2, I2, r2, q2⟩ => ?_
 exact hf v u s2 x y H2 I2 r1 r2 q2
theorem B3 {op : Operator} {r : R2} (ho : OpR X (binaryOp op) r) (ha : PE X a ta) (hb : PE X b tb) : PE X (.BinOp a op b pos) (tOp r ta tb) := by
 intro pins s σ H Q I h
 exact wpAny_BinOp (binT ha hb I h fun v u s2 x y H2 I2 rx ry q => ho pins s2 σ H2 x y v u Q I2 rx ry q)
theorem C7p {op : UnaryOp} {r : V -> Hp -> VK -> Prop} (ho : UnR X (unaryOp op) r) (ha : PE X a ta) : PE X (.UnaryOp op a pos) (tUn r ta) := by
 intro pins s σ H Q I h
 exact UnaryOp_ (thn (ha pins s σ H _ I h) fun v s1 ⟨x, H1, I1, r1, q1⟩ => ho pins s1 σ H1 x v Q I1 r1 q1)
theorem opI {f : Value -> Value -> Sem Value} {C : Int -> Int -> Prop} {g : Int -> Int -> Int}
   (rule : ∀ (i j : Int) (t u : Tok) (s : Shared) (Q : Value -> Shared -> Prop) (E : Value -> Shared -> Prop), C i j -> Q (.int (g i j) s.toks) { s with toks := s.toks + 1 } -> wpAny (model X.prog X.w) X.A (f (.int i t) (.int j u)) Q E s) :
   OpR X f (rI C fun i j => .int (g i j)) := by
 intro pins s σ H x y v u Q I rx ry h
 obtain ⟨i, j, rfl, rfl, hc, q⟩ := h
 obtain ⟨t, rfl⟩ := rx
 obtain ⟨t', rfl⟩ := ry
 exact rule i j t t' s _ _ hc ⟨.int (g i j), H, I.tok _, ⟨_, rfl⟩, q⟩
theorem opI0 {f : Value -> Value -> Sem Value} {g : Int -> Int -> Int}
   (rule : ∀ (i j : Int) (t u : Tok) (s : Shared) (Q : Value -> Shared -> Prop) (E : Value -> Shared -> Prop), Q (.int (g i j) s.toks) { s with toks := s.toks + 1 } -> wpAny (model X.prog X.w) X.A (f (.int i t) (.int j u)) Q E s) :
   OpR X f (rI0 fun i j => .int (g i j)) := by
 intro pins s σ H x y v u Q I rx ry h
 obtain ⟨i, j, rfl, rfl, q⟩ := h
 obtain ⟨t, rfl⟩ := rx
 obtain ⟨t', rfl⟩ := ry
 exact rule i j t t' s _ _ ⟨.int (g i j), H, I.tok _, ⟨_, rfl⟩, q⟩
theorem Z7q {f : Value -> Value -> Sem Value} {g : Int -> Int -> Bool}
   (rule : ∀ (i j : Int) (t u : Tok) (s : Shared) (Q : Value -> Shared -> Prop) (E : Value -> Shared -> Prop), Q (.bool (g i j)) s -> wpAny (model X.prog X.w) X.A (f (.int i t) (.int j u)) Q E s) :
   OpR X f (rI0 fun i j => .bl (g i j)) := by
 intro pins s σ H x y v u Q I rx ry h
 obtain ⟨i, j, rfl, rfl, q⟩ := h
 obtain ⟨t, rfl⟩ := rx
 obtain ⟨t', rfl⟩ := ry
 exact rule i j t t' s _ _ ⟨.bl (g i j), H, I, rfl, q⟩
def Z6m (i j : Int) : Prop := 0 <= j /\ j <= 1000000 /\ i.natAbs < 2 ^ 64
def B5n (i j : Int) : Prop := (-(2 ^ 64) < i /\ i < 2 ^ 64) \/ (-(2 ^ 64) < j /\ j < 2 ^ 64)
theorem B5n.ok {i j : Int} (h : B5n i j) : IntMulOk i j := by
 rcases h with ⟨h1, h2⟩ | ⟨h1, h2⟩
 . exact .of_left (intBits_le_64 h1 h2)
 exact .of_right (intBits_le_64 h1 h2)
theorem V6 : OpR X (binaryOp .Add) (rI0 fun i j => .int (i + j)) := opI0 fun _ _ _ _ _ _ _ q => add_int q
theorem V0 : OpR X (binaryOp .Sub) (rI0 fun i j => .int (i - j)) := opI0 fun _ _ _ _ _ _ _ q => sub_int q
theorem G2 : OpR X (binaryOp .Mod) (rI (fun _ j => 0 < j) fun i j => .int (i % j)) := opI fun i j _ _ _ _ _ hc q => by
 have h1 : (0 : Int) < j := hc
 exact mod_int' (by omega) (by rw [Int.fmod_eq_emod_of_nonneg i (by omega)]; exact q)
theorem J7g : OpR X (binaryOp .Pow) (rI Z6m fun i j => .int (i ^ j.toNat)) := opI fun _ _ _ _ _ _ _ hc q => pow_int_small hc.1 hc.2.1 hc.2.2 q
theorem Y0f : OpR X (binaryOp .LShift) (rI Z6m fun i j => .int (i * 2 ^ j.toNat)) := opI fun _ _ _ _ _ _ _ hc q => lshift_int_small hc.1 hc.2.1 hc.2.2 q
theorem unI {f : Value -> Sem Value} {g : Int -> Int}
   (rule : ∀ (i : Int) (t : Tok) (s : Shared) (Q : Value -> Shared -> Prop) (E : Value -> Shared -> Prop), Q (.int (g i) s.toks) { s with toks := s.toks + 1 } -> wpAny (model X.prog X.w) X.A (f (.int i t)) Q E s) :
   UnR X f (rU fun i => .int (g i)) := by
 intro pins s σ H x v Q I rx h
 obtain ⟨i, rfl, q⟩ := h
 obtain ⟨t, rfl⟩ := rx
 exact rule i t s _ _ ⟨.int (g i), H, I.tok _, ⟨_, rfl⟩, q⟩
theorem B6f : UnR X (unaryOp .USub) (rU fun i => .int (-i)) := unI fun _ _ _ _ _ q => neg_int q
end
def scal : V -> V -> Bool
 | .non, .non => true | .non, .int _ => true | .int _, .non => true | .non, .bl _ => true | .bl _, .non => true | .non, .str _ => true | .str _, .non => true
 | .int _, .int _ => true | .bl _, .bl _ => true | .str _, .str _ => true | .byt _, .byt _ => true
 | .int _, .str _ => true | .str _, .int _ => true | .bl _, .str _ => true | .str _, .bl _ => true
 | _, _ => false
def rEq : R2 := fun x y H Q => scal x y = true /\ Q (.bl (decide (x = y))) H
def rNe : R2 := fun x y H Q => scal x y = true /\ Q (.bl (!decide (x = y))) H
theorem U9e {i j : Int} : decide (V.int i = V.int j) = (i == j) := by
 rw [Bool.eq_iff_iff]
 simp
theorem Y1a {i j : Bool} : decide (V.bl i = V.bl j) = (i == j) := by
 rw [Bool.eq_iff_iff]
 simp
theorem C6m {i j : Str} : decide (V.str i = V.str j) = (i == j) := by
 rw [Bool.eq_iff_iff]
 simp
theorem U8k {i j : Array UInt8} : decide (V.byt i = V.byt j) = (i.toList == j.toList) := by
 rw [Bool.eq_iff_iff]
 cases i
 cases j
 simp
section
variable {X : Cx} {a b c : Expr} {ta tb tc : TE} {pos : Pos}
theorem V3 {pins : List (Addr × Obj)} {σ : St} {H : Hp} {s : Shared} {Q : VK} {k k' : Bool} (I : Inv X pins σ H s) (q : Q (.bl k) H) (e : k = k') : EP X pins σ Q (.bool k') s := by
 subst e
 exact ⟨.bl k, H, I, rfl, q⟩
theorem D6 : OpR X (compareOp .Eq) rEq := by
 intro pins s σ H x y v u Q I rx ry h
 obtain ⟨hs, q⟩ := h
 cases x with
 | non =>
   cases rx
   cases y with
   | non => cases ry; exact PySem.EqNone.eq_none_none (V3 I q (by simp))
   | bl j => cases ry; exact PySem.EqNone.eq_none_bool (V3 I q (by simp))
   | int j => obtain ⟨t', rfl⟩ := ry; exact PySem.EqNone.eq_none_int (V3 I q (by simp))
   | str j => obtain ⟨t', rfl⟩ := ry; exact PySem.EqNone.eq_none_str (V3 I q (by simp))
   | _ => exact absurd (show false = true from hs) Bool.false_ne_true
 | bl i =>
   cases rx
   cases y with
   | non => cases ry; exact PySem.EqNone.eq_bool_none (V3 I q (by simp))
   | bl j => cases ry; exact eq_bool (V3 I q Y1a)
   | str j => obtain ⟨t', rfl⟩ := ry; exact PySem.EqMixed.eq_bool_str (V3 I q (by simp))
   | _ => exact absurd (show false = true from hs) Bool.false_ne_true
 | int i =>
   obtain ⟨t, rfl⟩ := rx
   cases y with
   | non => cases ry; exact PySem.EqNone.eq_int_none (V3 I q (by simp))
   | int j => obtain ⟨t', rfl⟩ := ry; exact eq_int (V3 I q U9e)
   | str j => obtain ⟨t', rfl⟩ := ry; exact PySem.EqMixed.eq_int_str (V3 I q (by simp))
   | _ => exact absurd (show false = true from hs) Bool.false_ne_true
 | str i =>
   obtain ⟨t, rfl⟩ := rx
   cases y with
   | non => cases ry; exact PySem.EqNone.eq_str_none (V3 I q (by simp))
   | bl j => cases ry; exact PySem.EqMixed.eq_str_bool (V3 I q (by simp))
   | int j => obtain ⟨t', rfl⟩ := ry; exact PySem.EqMixed.eq_str_int (V3 I q (by simp))
   | str j => obtain ⟨t', rfl⟩ := ry; exact eq_str (V3 I q C6m)
   | _ => exact absurd (show false = true from hs) Bool.false_ne_true
 | byt i =>
   obtain ⟨t, rfl⟩ := rx
   cases y with
   | byt j => obtain ⟨t', rfl⟩ := ry; exact PySem.W.eq_bytes (V3 I q U8k)
   | _ => exact absurd (show false = true from hs) Bool.false_ne_true
 | _ => cases y <;> exact absurd (show false = true from hs) Bool.false_ne_true
theorem C5f : OpR X (compareOp .NotEq) rNe := by
 intro pins s σ H x y v u Q I rx ry h
 obtain ⟨hs, q⟩ := h
 cases x with
 | non =>
   cases rx
   cases y with
   | non => cases ry; exact PySem.EqNone.ne_none_none (V3 I q (by simp))
   | bl j => cases ry; exact PySem.EqNone.ne_none_bool (V3 I q (by simp))
   | int j => obtain ⟨t', rfl⟩ := ry; exact PySem.EqNone.ne_none_int (V3 I q (by simp))
   | str j => obtain ⟨t', rfl⟩ := ry; exact PySem.EqNone.ne_none_str (V3 I q (by simp))
   | _ => exact absurd (show false = true from hs) Bool.false_ne_true
 | bl i =>
   cases rx
   cases y with
   | non => cases ry; exact PySem.EqNone.ne_bool_none (V3 I q (by simp))
   | bl j => cases ry; exact ne_bool (V3 I q (congrArg not Y1a))
   | str j => obtain ⟨t', rfl⟩ := ry; exact PySem.EqMixed.ne_bool_str (V3 I q (by simp))
   | _ => exact absurd (show false = true from hs) Bool.false_ne_true
 | int i =>
   obtain ⟨t, rfl⟩ := rx
   cases y with
   | non => cases ry; exact PySem.EqNone.ne_int_none (V3 I q (by simp))
   | int j => obtain ⟨t', rfl⟩ := ry; exact ne_int (V3 I q (congrArg not U9e))
   | str j => obtain ⟨t', rfl⟩ := ry; exact PySem.EqMixed.ne_int_str (V3 I q (by simp))
   | _ => exact absurd (show false = true from hs) Bool.false_ne_true
 | str i =>
   obtain ⟨t, rfl⟩ := rx
   cases y with
   | non => cases ry; exact PySem.EqNone.ne_str_none (V3 I q (by simp))
   | bl j => cases ry; exact PySem.EqMixed.ne_str_bool (V3 I q (by simp))
   | int j => obtain ⟨t', rfl⟩ := ry; exact PySem.EqMixed.ne_str_int (V3 I q (by simp))
   | str j => obtain ⟨t', rfl⟩ := ry; exact ne_str (V3 I q (congrArg not C6m))
   | _ => exact absurd (show false = true from hs) Bool.false_ne_true
 | byt i =>
   obtain ⟨t, rfl⟩ := rx
   cases y with
   | byt j => obtain ⟨t', rfl⟩ := ry; exact PySem.W.ne_bytes (V3 I q (congrArg not U8k))
   | _ => exact absurd (show false = true from hs) Bool.false_ne_true
 | _ => cases y <;> exact absurd (show false = true from hs) Bool.false_ne_true
theorem C7d : OpR X (compareOp .Lt) (rI0 fun i j => .bl (decide (i < j))) := Z7q fun _ _ _ _ _ _ _ q => lt_int q
theorem A0cz : OpR X (compareOp .LtE) (rI0 fun i j => .bl (decide (i <= j))) := Z7q fun _ _ _ _ _ _ _ q => le_int q
theorem B5u : OpR X (compareOp .Gt) (rI0 fun i j => .bl (decide (j < i))) := Z7q fun _ _ _ _ _ _ _ q => gt_int q
theorem J1r : OpR X (compareOp .GtE) (rI0 fun i j => .bl (decide (j <= i))) := Z7q fun _ _ _ _ _ _ _ q => ge_int q
theorem A0ey : OpR X (compareOp .Is) (fun x y H Q => y = .non /\ Q (.bl (decide (x = .non))) H) := by
 intro pins s σ H x y v u Q I rx ry h
 obtain ⟨rfl, q⟩ := h
 cases ry
 refine is_none_gen (V3 I q ?_)
 cases x <;> first
   | (cases rx; rfl)
   | (obtain ⟨t, rfl⟩ := rx; rfl)
theorem Z8y : OpR X (compareOp .IsNot) (fun x y H Q => y = .non /\ Q (.bl (!decide (x = .non))) H) := by
 intro pins s σ H x y v u Q I rx ry h
 obtain ⟨rfl, q⟩ := h
 cases ry
 refine isnot_none_gen (V3 I q ?_)
 cases x <;> first
   | (cases rx; rfl)
   | (obtain ⟨t, rfl⟩ := rx; rfl)
theorem C5 (b : Expr) {op : CmpOp} (h : op ≠ .In := by decide) (h2 : op ≠ .NotIn := by decide) : behindInMarks op b = false := by
 have e1 : (op == CmpOp.In) = false := by cases op <;> first | rfl | exact absurd rfl h
 have e2 : (op == CmpOp.NotIn) = false := by cases op <;> first | rfl | exact absurd rfl h2
 cases b <;> simp [behindInMarks, e1, e2]
theorem D9 {op : CmpOp} {r : R2} (ho : OpR X (compareOp op) r) (ha : PE X a ta) (hb : PE X b tb) (hm : behindInMarks op b = false) : PE X (.Compare a [op] [b] pos) (tOp r ta tb) := by
 intro pins s σ H Q I h
 exact wpAny_Compare1 (binT ha hb I h fun v u s2 x y H2 I2 rx ry q => ho pins s2 σ H2 x y v u Q I2 rx ry q) hm
def A0nv (t : TE) : TT := fun σ H Q => t σ H fun x H' => ∃ k, x = .bl k /\ Q k H'
theorem C6 {op : CmpOp} {r : R2} (ho : OpR X (compareOp op) r) (ha : PE X a ta) (hb : PE X b tb) (hm : behindInMarks op b = false) : PT X (.Compare a [op] [b] pos) (A0nv (tOp r ta tb)) := by
 intro pins s σ H Q I h
 refine wpAny_isTrue_Compare1 (thn (ha pins s σ H _ I h) fun v s1 ⟨x, H1, I1, r1, q1⟩ => thn (hb pins s1 σ H1 _ I1 q1) fun u s2 ⟨y, H2, I2, r2, q2⟩ =>
   thn (ho pins s2 σ H2 x y v u _ I2 r1 r2 q2) fun c s3 ⟨z, H3, I3, r3, k, e, q3⟩ => ?_) hm
 subst e
 cases r3
 exact wpAny_truthy_bool ⟨H3, I3, q3⟩
theorem G0d : (sizeLine : Nat) < 2 ^ 63 := by rw [sizeLine_eq]; decide
theorem J7v : OpR X (binaryOp .Add) (fun x y H Q => ∃ i j, x = .str i /\ y = .str j /\ i.length + j.length <= sizeLine /\ Q (.str (i ++ j)) H) := by
 intro pins s σ H x y v u Q I rx ry h
 obtain ⟨i, j, rfl, rfl, hz, q⟩ := h
 obtain ⟨t, rfl⟩ := rx
 obtain ⟨t', rfl⟩ := ry
 exact add_str (fun t' tk => ⟨.str (i ++ j), H, I.tok _, ⟨_, rfl⟩, q⟩) hz
theorem C4u {x : V} {us : List Value} (r : U0 [x] us) : ∃ u, us = [u] /\ U5 x u := by
 cases r with
 | cons r1 r2 => cases r2; exact ⟨_, rfl, r1⟩
theorem V8e {x y : V} {us : List Value} (r : U0 [x, y] us) : ∃ u w', us = [u, w'] /\ U5 x u /\ U5 y w' := by
 cases r with
 | cons r1 r2 =>
   cases r2 with
   | cons r3 r4 => cases r4; exact ⟨_, _, rfl, r1, r3⟩
theorem J0m : A4v X (.builtin "abs") (fun xs H Q => ∃ i, xs = [.int i] /\ Q (.int (if i < 0 then -i else i)) H) := by
 intro pins s σ H xs us Q I r h
 obtain ⟨i, rfl, q⟩ := h
 obtain ⟨u, rfl, t, rfl⟩ := C4u r
 exact call_abs_int fun u tk => ⟨.int (if i < 0 then -i else i), H, I.tok _, ⟨_, rfl⟩, q⟩
theorem V9 (hc : X.calm = true) : A4v X (.builtin "max") (fun xs H Q => ∃ i j, xs = [.int i, .int j] /\ Q (.int (if j > i then j else i)) H) := by
 intro pins s σ H xs us Q I r h
 obtain ⟨i, j, rfl, q⟩ := h
 obtain ⟨u, w', rfl, ⟨t, rfl⟩, ⟨t', rfl⟩⟩ := V8e r
 refine max_two_ints (I.ok.hd hc) fun h' tk k => ⟨_, H, I.kept k, ?_, q⟩
 by_cases hj : j > i
 . rw [if_pos hj, if_pos hj]; exact ⟨_, rfl⟩
 rw [if_neg hj, if_neg hj]; exact ⟨_, rfl⟩
theorem C0h (hc : X.calm = true) : A4v X (.builtin "min") (fun xs H Q => ∃ i j, xs = [.int i, .int j] /\ Q (.int (if j < i then j else i)) H) := by
 intro pins s σ H xs us Q I r h
 obtain ⟨i, j, rfl, q⟩ := h
 obtain ⟨u, w', rfl, ⟨t, rfl⟩, ⟨t', rfl⟩⟩ := V8e r
 refine min_two_ints (I.ok.hd hc) fun h' tk k => ⟨_, H, I.kept k, ?_, q⟩
 by_cases hj : j < i
 . rw [if_pos hj, if_pos hj]; exact ⟨_, rfl⟩
 rw [if_neg hj, if_neg hj]; exact ⟨_, rfl⟩
theorem B4t : A4v X (.type "int") (fun xs H Q => (∃ i, xs = [.int i] /\ Q (.int i) H) \/ ∃ k, xs = [.bl k] /\ Q (.int (if k then 1 else 0)) H) := by
 intro pins s σ H xs us Q I r h
 rcases h with ⟨i, rfl, q⟩ | ⟨k, rfl, q⟩
 . obtain ⟨u, rfl, t, rfl⟩ := C4u r
   exact call_int_int ⟨.int i, H, I, ⟨_, rfl⟩, q⟩
 obtain ⟨u, rfl, r1⟩ := C4u r
 cases r1
 exact call_int_bool ⟨.int (if k then 1 else 0), H, I.tok _, ⟨_, rfl⟩, q⟩
theorem A0h : A4v X (.type "str") (fun xs H Q => ∃ i, xs = [.int i] /\ i.natAbs.log2 < 1920 /\ Q (.str (toString i)) H) := by
 intro pins s σ H xs us Q I r h
 obtain ⟨i, rfl, hz, q⟩ := h
 obtain ⟨u, rfl, t, rfl⟩ := C4u r
 exact PySem.P.str_of_int hz ⟨.str _, H, I.tok _, ⟨_, rfl⟩, q⟩
end
structure J8j (h : Heap) (x dx C : Addr) (mA : Str -> Option Value) : Prop where
 obj : h.get? x = some (PySem.W.instObj C dx)
 ns : h.Ns1 dx mA
 ne : dx ≠ x
theorem C0g {h : Heap} {dx : Addr} {mA : Str -> Option Value} (n : h.Ns1 dx mA) : ∃ od, h.get? dx = some od /\ ∀ name, PySem.W.lookIn name od = some (mA name) := by
 obtain ⟨o, es, ep, ho, hd, hk, _, hm⟩ := n
 refine ⟨o, ho, fun name => ?_⟩
 have e := hm name
 unfold nsFind findBy at e
 rw [<- Array.find?_toList] at e
 unfold PySem.W.lookIn
 rw [hd]
 dsimp only
 split
 . rename_i y q
   rw [q] at e
   exact congrArg some e
 rename_i q
 rw [q] at e
 have a : es.toList.any (·.refKey) = false := by
   rw [List.any_eq_false]
   intro y hy
   obtain ⟨z, t, hkey⟩ := hk y (Array.mem_toList_iff.mp hy)
   simp [DictEntry.refKey, hkey]
 have a' : ¬ es.toList.any (·.refKey) = true := by rw [a]; exact Bool.false_ne_true
 rw [if_neg a']
 exact congrArg some e
theorem J8j.look {h : Heap} {x dx C : Addr} {mA : Str -> Option Value} (I : J8j h x dx C mA) : ∃ od, PySem.W.InstAt h x (PySem.W.instObj C dx) C (some od) /\ ∀ name, PySem.W.lookIn name od = some (mA name) :=
 let ⟨od, ho, hl⟩ := C0g I.ns
 ⟨od, ⟨I.obj, rfl, rfl, ho⟩, hl⟩
section
variable {prog : Program} {w : World} {A : Around} {E : Value -> Shared -> Prop} {s : Shared} {K : PySem.W.Frag} {x dx C f : Addr} {mA : Str -> Option Value} {name : Str} {v : Value}
theorem Z9j {expr : Bool} {Q : Value -> Shared -> Prop} (X : K.In s.heap) (I : J8j s.heap x dx C mA) (hg : PySem.W.plainGet K C name = true) (hh : PySem.W.hasDictIn K C = true)
   (ha : PySem.W.findIn K (.ref C) name = some none) (hv : mA name = some v) (hv' : PySem.W.handedIn v = true) (h : Q v { s with toks := s.toks + 1 }) :
   wpAny (model prog w) A (getAttr (.ref x) name expr) Q E s := by
 obtain ⟨od, J, hl⟩ := I.look
 exact PySem.W.get_value X J (PySem.W.plainGet_of hg).1 (PySem.W.findObj_own hh ha rfl (by rw [hl, hv])) hv' h
theorem Y0u {pl : Sem Bool} {Q : Value × List Value -> Shared -> Prop} (X : K.In s.heap) (I : J8j s.heap x dx C mA) (hg : PySem.W.plainGet K C name = true)
   (hf : PySem.W.findIn K (.ref C) name = some (some (.ref f))) (ht : PySem.W.isFn K (.ref f) = true) (hv : mA name = none) (h : Q (.ref f, [.ref x]) s) :
   wpAny (model prog w) A (getMethod (.ref x) name pl) Q E s := by
 obtain ⟨od, J, hl⟩ := I.look
 exact PySem.W.method_fn X J (PySem.W.plainGet_of hg).1 (PySem.W.plainGet_of hg).2 hf (beq_iff_eq.mp ht) (by show (PySem.W.lookIn name od).map (·.isSome) = some false; rw [hl, hv]; rfl) h
theorem Z8r {ns : List Str} {Q : Unit -> Shared -> Prop} (X : K.In s.heap) (I : J8j s.heap x dx C mA)
   (hs : PySem.W.findIn K (.ref C) "__setattr__" = some (some (.builtin "object.__setattr__"))) (hp : PySem.W.plainOver K C = true) (ht : PySem.W.takerIn K C name = some none) (hh : PySem.W.hasDictIn K C = true)
   (hw : PySem.Within mA ns) (hsz : ns.length <= sizeLine)
   (h : ∀ h', J8j h' x dx C (fun y => if y = name then some v else mA y) -> Heap.SameBut dx s.heap h' -> Q () { s with heap := h', toks := s.toks + 2 }) :
   wpAny (model prog w) A (setAttr (.ref x) name v) Q E s := by
 obtain ⟨od, J, hl⟩ := I.look
 refine PySem.W.set_plain X J hs (PySem.W.osa_open (s := { s with toks := s.toks + 1 }) (r := none) X J hp ht fun b => ?_)
 obtain ⟨cd, hc, hd'⟩ := PySem.W.any_some hh
 have hx : s.heap.get? x = some ⟨.ref C, some dx, .plain, #[]⟩ := I.obj
 refine wpAny_bind (wpAny_pure (wpAny_bind (wpAny_bind (wpAny_loadPart hx (wpAny_bind (PySem.W.Looks.here (s := { s with toks := s.toks + 1 }) (PySem.W.looks_clsIn X hc) ?_))))))
 rw [hd']
 refine wpAny_pure (a := some dx) (wpAny_bind (wpAny_pure (wpAny_bind ?_)))
 refine wpAny_nsSet1 (s := { s with toks := s.toks + 1 }) I.ns fun h' hn2 hs2 => ?_
 obtain ⟨oD, esD, epD, hoD, hdD, hcD⟩ := hn2.count (PySem.Within.cons name v hw)
 refine wpAny_bind (wpAny_lookBehind hoD (by rw [hdD]; exact pastItsLine_dict (Nat.le_trans hcD (by rw [List.length_cons]; omega))) ?_)
 exact wpAny_pure (h _ ⟨(hs2.2 _ (Ne.symm I.ne)).trans I.obj, hn2, I.ne⟩ hs2)
theorem J0w {R : Result -> Shared -> Prop} {vs : List Value} {kw : List (Str × Value)} (X : K.In s.heap) (hm : PySem.W.makesIn K C = true)
   (hi : PySem.W.findIn K (.ref C) "__init__" = some (some (.ref f))) (hf : PySem.W.typeIn K (.ref f) = some (.type "function"))
   (h : codeAny (model prog w) (A.under (.builtin "type.__call__" ⟨.ref C :: vs, kw⟩)) (.call (.ref f) ⟨.ref (s.heap.objs.size + 1) :: vs, kw⟩) (PySem.W.InitBack (s.heap.objs.size + 1) R)
     { s with heap := (s.heap.push PySem.W.emptyDict).push (PySem.W.instObj C s.heap.objs.size) }) :
   codeAny (model prog w) A (.call (.ref C) ⟨vs, kw⟩) R s := by
 obtain ⟨hh, g, d, t, os⟩ := s
 exact PySem.W.make_core (PySem.W.makes_of X hm) (PySem.W.looks_findIn X hi) (fun self => PySem.W.bind_fn X self hf) (.inl rfl) h
theorem V0z {R : Result -> Shared -> Prop} (X : K.In s.heap) (hm : PySem.W.makesIn K C = true)
   (hi : PySem.W.findIn K (.ref C) "__init__" = some (some (.builtin "object.__init__")))
   (hb : ∀ self, PySem.W.Looks (model prog w) s.heap (bindSpecial (.builtin "object.__init__") self) (.builtin "object.__init__", [self]))
   (h : codeAny (model prog w) (A.under (.builtin "type.__call__" ⟨[.ref C], []⟩)) (.call (.builtin "object.__init__") ⟨[.ref (s.heap.objs.size + 1)], []⟩) (PySem.W.InitBack (s.heap.objs.size + 1) R)
     { s with heap := (s.heap.push PySem.W.emptyDict).push (PySem.W.instObj C s.heap.objs.size) }) :
   codeAny (model prog w) A (.call (.ref C) ⟨[], []⟩) R s := by
 obtain ⟨hh, g, d, t, os⟩ := s
 exact PySem.W.make_core (PySem.W.makes_of X hm) (PySem.W.looks_findIn X hi) hb (.inr ⟨rfl, rfl⟩) h
end
def Y6 (f : Str) (v : V) : List (Str × V) -> List (Str × V)
 | [] => [(f, v)]
 | (g, x) :: r => if g = f then (g, v) :: r else (g, x) :: Y6 f v r
theorem G0 (f g : Str) (v : V) : ∀ fs : List (Str × V), (Y6 f v fs).lookup g = if g = f then some v else fs.lookup g
 | [] => by
   show List.lookup g [(f, v)] = _
   by_cases h : g = f
   . have hb : (g == f) = true := beq_iff_eq.mpr h
     simp only [List.lookup, hb, if_pos h]
   . have hb : (g == f) = false := beq_eq_false_iff_ne.mpr h
     simp only [List.lookup, hb, if_neg h]
 | (k, x) :: r => by
   have ih := G0 f g v r
   rw [show Y6 f v ((k, x) :: r) = (if k = f then (k, v) :: r else (k, x) :: Y6 f v r) from rfl]
   by_cases hk : k = f
   . rw [if_pos hk]
     by_cases h : g = k
     . have hb : (g == k) = true := beq_iff_eq.mpr h
       simp only [List.lookup, hb, if_pos (h.trans hk)]
     . have hb : (g == k) = false := beq_eq_false_iff_ne.mpr h
       simp only [List.lookup, hb, if_neg (fun e : g = f => h (e.trans hk.symm))]
   . rw [if_neg hk]
     by_cases h : g = k
     . have hb : (g == k) = true := beq_iff_eq.mpr h
       simp only [List.lookup, hb, if_neg (fun e : g = f => hk (h.symm.trans e))]
     . have hb : (g == k) = false := beq_eq_false_iff_ne.mpr h
       simp only [List.lookup, hb]
       exact ih
theorem B9q (f : Str) (v : V) : ∀ fs : List (Str × V), f ∈ (Y6 f v fs).map (·.1) /\ ∀ g, g ∈ fs.map (·.1) -> g ∈ (Y6 f v fs).map (·.1)
 | [] => ⟨by simp [Y6], fun g h => by simp at h⟩
 | (k, x) :: r => by
   obtain ⟨i1, i2⟩ := B9q f v r
   rw [show Y6 f v ((k, x) :: r) = (if k = f then (k, v) :: r else (k, x) :: Y6 f v r) from rfl]
   by_cases hk : k = f
   . rw [if_pos hk]
     subst hk
     exact ⟨by simp, fun g h => by simpa using h⟩
   . rw [if_neg hk]
     refine ⟨?_, fun g h => ?_⟩
     . rw [List.map_cons]
       exact List.mem_cons_of_mem _ i1
     . rw [List.map_cons] at h ⊢
       rcases List.mem_cons.mp h with e | e
       . exact List.mem_cons.mpr (.inl e)
       . exact List.mem_cons_of_mem _ (i2 g e)
theorem A2p (f : Str) (v : V) : ∀ fs : List (Str × V), (Y6 f v fs).length <= fs.length + 1
 | [] => by simp [Y6]
 | (k, x) :: r => by
   have ih := A2p f v r
   rw [show Y6 f v ((k, x) :: r) = (if k = f then (k, v) :: r else (k, x) :: Y6 f v r) from rfl]
   by_cases hk : k = f
   . rw [if_pos hk, List.length_cons, List.length_cons]; omega
   . rw [if_neg hk, List.length_cons, List.length_cons]; omega
theorem A6q.some_of {v : V} {o : Option Value} (r : A6q (some v) o) : ∃ u, o = some u /\ U5 v u := by
 cases o with
 | none => exact (show False from r).elim
 | some u => exact ⟨u, rfl, r⟩
theorem A6q.none_of {o : Option Value} (r : A6q none o) : o = none := by
 cases o with
 | none => rfl
 | some u => exact (show False from r).elim
theorem D6f {v : V} {u : Value} (r : U5 v u) : PySem.W.handedIn u = true := by
 cases v with
 | non => cases (show u = Value.none from r); rfl
 | bl b => cases (show u = Value.bool b from r); rfl
 | int i => obtain ⟨t, e⟩ := (show ∃ t, u = Value.int i t from r); cases e; rfl
 | str x => obtain ⟨t, e⟩ := (show ∃ t, u = Value.str x t from r); cases e; rfl
 | byt b => obtain ⟨t, e⟩ := (show ∃ t, u = Value.bytes b t from r); cases e; rfl
 | flt b => obtain ⟨t, e⟩ := (show ∃ t, u = Value.float b t from r); cases e; rfl
 | ref a => cases (show u = Value.ref a from r); rfl
 | ty n => cases (show u = Value.type n from r); rfl
section
variable {P : Program} {w : World} {H H' : Hp} {h h' : Heap} {a C dx : Addr} {fs fs' : List (Str × V)}
theorem C6f (hok : HOk P w H h) (e : H a = some (.ins C dx fs)) : ∃ mA, J8j h a dx C mA /\ (∀ f, A6q (fs.lookup f) (mA f)) /\ PySem.Within mA (fs.map (·.1)) /\ fs.length <= 1000 /\ H dx = some (.own a) := by
 obtain ⟨d, z, ne, ob, mA, n, r, q⟩ := (show Y9 P w H h a (.ins C dx fs) from hok a _ e)
 exact ⟨mA, ⟨ob, n, ne⟩, r, q, z, d⟩
end
structure Cls (K : PySem.W.Frag) (C : Addr) : Prop where
 pg : PySem.W.plainGet K C Str.empty = true
 hd : PySem.W.hasDictIn K C = true
 po : PySem.W.plainOver K C = true
 sa : PySem.W.findIn K (.ref C) "__setattr__" = some (some (.builtin "object.__setattr__"))
theorem Cls.get {K : PySem.W.Frag} {C : Addr} (c : Cls K C) (f : Str) : PySem.W.plainGet K C f = true := c.pg
def Z8 (K : PySem.W.Frag) (C : Addr) (f : Str) : Prop := PySem.W.findIn K (.ref C) f = some none
theorem Z8.taker {K : PySem.W.Frag} {C : Addr} {f : Str} (n : Z8 K C f) : PySem.W.takerIn K C f = some none := by
 unfold PySem.W.takerIn
 rw [show PySem.W.findIn K (.ref C) f = some none from n]
 rfl
structure Z7 (K : PySem.W.Frag) (C : Addr) (m : Str) (f : Addr) : Prop where
 at_ : PySem.W.findIn K (.ref C) m = some (some (.ref f))
 fn : PySem.W.isFn K (.ref f) = true
 kp : PySem.W.keepIn K (.ref f) = true
section
variable {X : Cx} {pins : List (Addr × Obj)} {σ : St} {H : Hp} {s : Shared} {a C dx : Addr} {fs : List (Str × V)} {f : Str} {v : V} {A : Around} {E : Value -> Shared -> Prop}
theorem J6s {b : Bool} {Q : Value -> Shared -> Prop} (I : Inv X pins σ H s) (e : H a = some (.ins C dx fs)) (c : Cls X.K C) (n : Z8 X.K C f) (l : fs.lookup f = some v)
   (h : ∀ u s', Inv X pins σ H s' -> U5 v u -> Q u s') : wpAny (model X.prog X.w) A (getAttr (.ref a) f b) Q E s := by
 obtain ⟨mA, O, r, _, _, _⟩ := C6f I.hok e
 obtain ⟨u, hu, ru⟩ := A6q.some_of (v := v) (o := mA f) (by rw [<- l]; exact r f)
 exact Z9j I.kIn O (c.get f) c.hd n hu (D6f ru) (h u _ (I.tok _) ru)
theorem C7v {m : Str} {g : Addr} {pl : Sem Bool} {Q : Value × List Value -> Shared -> Prop} (I : Inv X pins σ H s) (e : H a = some (.ins C dx fs)) (c : Cls X.K C) (k : Z7 X.K C m g) (l : fs.lookup m = none)
   (h : Q (.ref g, [.ref a]) s) : wpAny (model X.prog X.w) A (getMethod (.ref a) m pl) Q E s := by
 obtain ⟨mA, O, r, _, _, _⟩ := C6f I.hok e
 have hn : mA m = none := A6q.none_of (by rw [<- l]; exact r m)
 exact Y0u I.kIn O (c.get m) k.at_ k.fn hn h
theorem J8b {y : V} {u : Value} {Q : Unit -> Shared -> Prop} (I : Inv X pins σ H s) (e : H a = some (.ins C dx fs)) (c : Cls X.K C) (n : Z8 X.K C f) (hl : fs.length < 1000) (ry : U5 y u)
   (h : ∀ s', Inv X pins σ (upd H a (.ins C dx (Y6 f y fs))) s' -> Q () s') : wpAny (model X.prog X.w) A (setAttr (.ref a) f u) Q E s := by
 obtain ⟨mA, O, r, wi, _, ho⟩ := C6f I.hok e
 have hz : (fs.map (·.1)).length <= sizeLine := by rw [List.length_map, sizeLine_eq]; omega
 refine Z8r I.kIn O c.sa c.po n.taker c.hd wi hz fun h' O' sb => h _ ?_
 have hd : ∃ o, h'.get? dx = some o := let ⟨o, _, _, e', _⟩ := O'.ns; ⟨o, e'⟩
 refine I.write (x := a) (e := dx) (by rw [e]; exact True.intro) (.inr ho) (fun b q hb z => (sb.2 b hb).trans z) hd ?_
 refine ⟨by rw [C8 O.ne]; exact ho, ?_, O.ne, O'.obj, _, O'.ns, fun g => ?_, fun g hg => ?_⟩
 . have := A2p f y fs; omega
 . show A6q ((Y6 f y fs).lookup g) (if g = f then some u else mA g)
   rw [G0]
   by_cases q : g = f
   . rw [if_pos q, if_pos q]; exact ry
   . rw [if_neg q, if_neg q]; exact r g
 by_cases q : g = f
 . rw [q]; exact (B9q f y fs).1
 refine (B9q f y fs).2 g (wi g fun z => hg ?_)
 show (if g = f then some u else mA g) = none
 rw [if_neg q]; exact z
theorem Inv.made (I : Inv X pins σ H s) : Inv X pins σ (upd (upd H s.heap.objs.size (.own (s.heap.objs.size + 1))) (s.heap.objs.size + 1) (.ins C s.heap.objs.size []))
   { s with heap := (s.heap.push PySem.W.emptyDict).push (PySem.W.instObj C s.heap.objs.size) } := by
 have e1 : (s.heap.push PySem.W.emptyDict).get? s.heap.objs.size = some PySem.W.emptyDict := Heap.get?_push_size s.heap rfl
 have e2 : ((s.heap.push PySem.W.emptyDict).push (PySem.W.instObj C s.heap.objs.size)).get? (s.heap.objs.size + 1) = some (PySem.W.instObj C s.heap.objs.size) := by
   have := Heap.get?_push_size (s.heap.push PySem.W.emptyDict) (o := PySem.W.instObj C s.heap.objs.size) rfl
   rwa [Heap.size_push] at this
 have e3 : (s.heap.push PySem.W.emptyDict).Ns s.heap.objs.size (fun _ => none) := ⟨PySem.W.emptyDict, #[], _, e1, rfl, (fun e he => absurd he (by simp)), fun _ => rfl⟩
 have I1 := I.laid (a := s.heap.objs.size) (o := .own (s.heap.objs.size + 1)) (h' := s.heap.push PySem.W.emptyDict) (t' := s.toks) (fun b u q => Heap.get?_push_of_some _ q) (Nat.le_refl _) ⟨_, e1⟩
 refine I1.laid (a := s.heap.objs.size + 1) (o := .ins C s.heap.objs.size []) (t' := s.toks) (fun b u q => Heap.get?_push_of_some _ q) (Nat.le_of_eq (Heap.size_push _ _)) ?_
 have ne : s.heap.objs.size ≠ s.heap.objs.size + 1 := Nat.ne_of_lt (Nat.lt_succ_self _)
 refine ⟨by rw [C8 ne, A8], Nat.zero_le _, ne, e2, fun _ => none, (Heap.Ns1.of_empty e3).at fun o q => Heap.get?_push_of_some _ q, fun _ => True.intro, fun y hy => absurd rfl hy⟩
theorem U9t {prog : Program} {w : World} {env : Env} {e : Expr} {f : Str} {pos : Pos} {s : Shared} {Q : Value -> Shared -> Prop} (hb : attributeBase e f env (eval e env) = eval e env)
   (h : wpAny (model prog w) A (eval e env) (fun o s₁ => wpAny (model prog w) A (getAttr o f true) Q E s₁) E s) : wpAny (model prog w) A (eval (.Attribute e f pos) env) Q E s :=
 Attribute_any_ h (by rw [arm_eval_Attribute, hb])
end
def tFld (K : PySem.W.Frag) (ta : TE) (f : Str) : TE := fun σ H Q => ta σ H fun x H1 => ∃ a C dx fs v, x = .ref a /\ H1 a = some (.ins C dx fs) /\ Cls K C /\ Z8 K C f /\ fs.lookup f = some v /\ Q v H1
def sFld (K : PySem.W.Frag) (ta tv : TE) (f : Str) : TS := fun D σ H => tv σ H fun y H1 => ta σ H1 fun x H2 => ∃ a C dx fs, x = .ref a /\ H2 a = some (.ins C dx fs) /\ Cls K C /\ Z8 K C f /\ fs.length < 1000 /\
 D.nx σ (upd H2 a (.ins C dx (Y6 f y fs)))
section
variable {X : Cx} {o e value : Expr} {f : Str} {pos pos' tpos : Pos} {ta tv : TE}
theorem G6 (he : PE X e ta) (hb : attributeBase e f X.env (eval e X.env) = eval e X.env) : PE X (.Attribute e f pos) (tFld X.K ta f) := by
 intro pins s σ H Q I h
 refine U9t hb (thn (he pins s σ H _ I h) fun u s1 ⟨x, H1, I1, rx, a, C, dx, fs, v, ex, ea, c, n, l, q⟩ => ?_)
 subst ex
 obtain rfl : u = Value.ref a := rx
 exact J6s I1 ea c n l fun u' s2 I2 ru => ⟨v, H1, I2, ru, q⟩
theorem A0u (ha : PE X o ta) (hv : PE X value tv) (hs : swapsWith value (some (.Attribute o f pos')) pos.line X.env = pure false) : PS X (.Assign [.Attribute o f pos'] value pos) (sFld X.K ta tv f) := by
 intro pins s σ H D I h
 refine plainObj_wpAny_Assign_Attribute (thn (hv pins s σ H _ I h) fun u s1 ⟨y, H1, I1, ry, q⟩ => thn (ha pins s1 σ H1 _ I1 q) fun ov s2 ⟨x, H2, I2, rx, a, C, dx, fs, ex, ea, c, n, l, q2⟩ => ?_) hs
 subst ex
 obtain rfl : ov = Value.ref a := rx
 exact J8b I2 ea c n l ry fun s3 I3 => ⟨σ, _, I3, q2⟩
end
section
variable {X : Cx} {pins : List (Addr × Obj)} {σ : St} {H : Hp} {s : Shared} {A : Around} {E : Value -> Shared -> Prop} {Q : Value -> Shared -> Prop} {c : Value} {b : Bool}
inductive C0m (K : PySem.W.Frag) (H : Hp) : V -> Value -> Prop where
 | non : C0m K H .non (.type "NoneType")
 | bl (x : Bool) : C0m K H (.bl x) (.type "bool")
 | int (i : Int) : C0m K H (.int i) (.type "int")
 | str (x : Str) : C0m K H (.str x) (.type "str")
 | flt (x : UInt64) : C0m K H (.flt x) (.type "float")
 | lst {a : Addr} {xs : List V} (e : H a = some (.lst xs)) : C0m K H (.ref a) (.type "list")
 | frz {a : Addr} {o : Obj} {xs : List V} (e : H a = some (.frz o (.lst xs))) : C0m K H (.ref a) (.type "list")
 | tup {a : Addr} {xs : List V} (e : H a = some (.tup xs)) : C0m K H (.ref a) (.type "tuple")
 | dK {a : Addr} {kvs : List (Key × V)} (e : H a = some (.dK kvs)) : C0m K H (.ref a) (.type "dict")
 | dT {a : Addr} {kvs : List (List Key × V)} (e : H a = some (.dT kvs)) : C0m K H (.ref a) (.type "dict")
 | ins {a C dx : Addr} {fs : List (Str × V)} (e : H a = some (.ins C dx fs)) (cl : Cls K C) (ha : PySem.W.findIn K (.ref C) "__class__" = some (some (.builtin "object.__class__")))
     (hn : PySem.W.specialIn K (.builtin "object.__class__") "__get__" = some (some (.builtin "getset_descriptor.__get__"))) (htk : PySem.W.takesIn K (.builtin "object.__class__") = some true)
     (hm : PySem.W.mroIn K C (.type "object") = some true) : C0m K H (.ref a) (.ref C)
theorem V1q {x : V} {u t : Value} (I : Inv X pins σ H s) (rx : U5 x u) (ty : C0m X.K H x t) (e : PySem.W.kitOne X.K t c = some b) (h : ∀ tk, Q (.bool b) { s with toks := tk }) :
   wpAny (model X.prog X.w) A (call (.builtin "isinstance") [u, c]) Q E s := by
 cases ty with
 | non => cases (show u = Value.none from rx); exact PySem.W.kia_one PySem.W.kitx_none I.kIn True.intro e (fun z => nomatch z) h
 | bl y => cases (show u = Value.bool y from rx); exact PySem.W.kia_one PySem.W.kitx_bool I.kIn True.intro e (fun z => nomatch z) h
 | int i => obtain ⟨t, q⟩ := (show ∃ t, u = Value.int i t from rx); cases q; exact PySem.W.kia_one PySem.W.kitx_int I.kIn True.intro e (fun z => nomatch z) h
 | str y => obtain ⟨t, q⟩ := (show ∃ t, u = Value.str y t from rx); cases q; exact PySem.W.kia_one PySem.W.kitx_str I.kIn True.intro e (fun z => nomatch z) h
 | flt y => obtain ⟨t, q⟩ := (show ∃ t, u = Value.float y t from rx); cases q; exact PySem.W.kia_one PySem.W.kitx_float I.kIn True.intro e (fun z => nomatch z) h
 | @lst a xs ea =>
   cases (show u = Value.ref a from rx)
   obtain ⟨_, _, n, _, h1⟩ := (show Y9 X.prog X.w H s.heap a (.lst xs) from I.hok a _ ea)
   exact PySem.W.kia_one PySem.W.kitx_list I.kIn ⟨_, h1, rfl⟩ e (fun z => nomatch z) h
 | @frz a ob xs ea =>
   cases (show u = Value.ref a from rx)
   obtain ⟨_, _, _, n, _, h1⟩ := (show Y9 X.prog X.w H s.heap a (.frz ob (.lst xs)) from I.hok a _ ea)
   exact PySem.W.kia_one PySem.W.kitx_list I.kIn ⟨_, h1, rfl⟩ e (fun z => nomatch z) h
 | @tup a xs ea =>
   cases (show u = Value.ref a from rx)
   obtain ⟨_, _, _, p⟩ := (show Y9 X.prog X.w H s.heap a (.tup xs) from I.hok a _ ea)
   obtain ⟨o, h1, h2, _⟩ := p
   exact PySem.W.kia_one PySem.W.kitx_tuple I.kIn ⟨o, h1, h2⟩ e (fun z => nomatch z) h
 | @dK a kvs ea =>
   cases (show u = Value.ref a from rx)
   obtain ⟨_, _, vs, _, p⟩ := (show Y9 X.prog X.w H s.heap a (.dK kvs) from I.hok a _ ea)
   obtain ⟨o, es, ep, h1, h2, _⟩ := p
   exact PySem.W.kia_one PySem.W.kitx_dict I.kIn ⟨o, h1, h2.1⟩ e (fun z => nomatch z) h
 | @dT a kvs ea =>
   cases (show u = Value.ref a from rx)
   obtain ⟨_, _, xs, _, o, es, ep, h1, h2, _⟩ := (show Y9 X.prog X.w H s.heap a (.dT kvs) from I.hok a _ ea)
   exact PySem.W.kia_one PySem.W.kitx_dict I.kIn ⟨o, h1, h2.1⟩ e (fun z => nomatch z) h
 | @ins a C dx fs ea cl ha hn htk hm =>
   cases (show u = Value.ref a from rx)
   obtain ⟨mA, O, _⟩ := C6f I.hok ea
   obtain ⟨od, J, _⟩ := O.look
   exact PySem.W.kia_one (PySem.W.kitx_own (cl.get _) cl.hd ha hn htk hm) I.kIn J e (fun z => nomatch z) h
end
structure Z1 (k : Nat) (A : Around) : Prop where
 hd : A.handled = none
 dp : A.depth + 3 * k + 5 < recursionLimit
 un : A.units + 16 * k + 200 < cLine
theorem Z1.mono {j k : Nat} {A : Around} (r : Z1 k A) (h : j <= k) : Z1 j A := ⟨r.hd, by have := r.dp; omega, by have := r.un; omega⟩
theorem Z1.deeper {k : Nat} {A : Around} (r : Z1 (k + 1) A) (env : Env) : Z1 k (A.deeper env) :=
 ⟨r.hd, by have := r.dp; show A.depth + 1 + 3 * k + 5 < _; omega, by have := r.un; show A.units + 3 + 16 * k + 200 < _; omega⟩
theorem J7a {A : Around} {C : Addr} {us : List Value} {kw : List (Str × Value)} : (A.under (.builtin "type.__call__" ⟨.ref C :: us, kw⟩)).depth = A.depth + 1 := by
 first | rfl | simp [Around.under, Code.weight, Code.isCreation, Code.isGuard, Code.isCaller, Code.frames, Code.isFrame, guardIds]
theorem J7c {A : Around} {C : Addr} {us : List Value} {kw : List (Str × Value)} : (A.under (.builtin "type.__call__" ⟨.ref C :: us, kw⟩)).units = A.units + 1 := by
 first | rfl | simp [Around.under, Code.cUnits, Code.frames, Code.isFrame]
theorem Z1.make {k : Nat} {A : Around} (r : Z1 (k + 1) A) (C : Addr) (us : List Value) (kw : List (Str × Value)) : Z1 k (A.under (.builtin "type.__call__" ⟨.ref C :: us, kw⟩)) :=
 ⟨r.hd, by have := r.dp; rw [J7a]; omega, by have := r.un; rw [J7c]; omega⟩
theorem Z1.depth {k : Nat} {A : Around} (r : Z1 k A) : A.depth < recursionLimit := by have := r.dp; omega
theorem Z1.units {k : Nat} {A : Around} (r : Z1 k A) : A.units + 64 < cLine := by have := r.un; omega
def V9r : TA := fun _ H Q => Q [] H
def V9m (ta : TE) (tr : TA) : TA := fun σ H Q => ta σ H fun x H1 => tr σ H1 fun xs H2 => Q (x :: xs) H2
section
variable {X : Cx} {e : Expr} {es : List Expr} {te : TE} {t : TA} {pos : Pos}
theorem A6 : PA X [] V9r := fun _ _ _ _ H Q I h => Calls.spliced_nil ⟨[], H, I, .nil, h⟩
theorem A0 (ha : PE X e te) (hr : PA X es t) (hs : starEach (e :: es) X.env = (false, eval e X.env) :: starEach es X.env := by rfl) : PA X (e :: es) (V9m te t) := by
 intro pos pins s σ H Q I h
 rw [hs]
 show wpAny _ _ (spliced ((false, eval e X.env) :: backTo pos (starEach es X.env))) _ _ s
 refine Calls.spliced_cons (thn (ha pins s σ H _ I h) fun u s1 ⟨x, H1, I1, r1, q1⟩ => ?_)
 exact thn (hr pos pins s1 σ H1 _ I1 q1) fun us s2 ⟨xs, H2, I2, r2, q2⟩ => ⟨x :: xs, H2, I2, .cons r1 r2, q2⟩
def tTup (t : TA) : TE := fun σ H Q => t σ H fun xs H1 => xs.length <= sizeLine /\ ∀ p, H1 p = none -> Q (.ref p) (upd H1 p (.tup xs))
def tLst (t : TA) : TE := fun σ H Q => t σ H fun xs H1 => xs.length <= sizeLine /\ ∀ p, H1 p = none -> Q (.ref p) (upd H1 p (.lst xs))
theorem U1 {x1} (h : PA X es t) : PE X (.Tuple es x1 pos) (tTup t) := by
 intro pins s σ H Q I hq
 refine wpAny_Tuple_spliced (thn (h pos pins s σ H _ I hq) fun us s1 ⟨xs, H1, I1, r, z, q⟩ => ⟨by rw [<- r.length]; exact z, ?_⟩)
 have hf : H1 s1.heap.objs.size = none := I1.hok.fresh (Nat.le_refl _)
 refine ⟨.ref s1.heap.objs.size, upd H1 s1.heap.objs.size (.tup xs), I1.laid (t' := s1.toks) (fun b u e => Heap.get?_push_of_some _ e) (Nat.le_refl _) ?_, rfl, q _ hf⟩
 exact ⟨z, us, r, ⟨_, Heap.get?_push_size _ rfl, rfl, _, rfl⟩⟩
theorem U7 (h : PA X es t) : PE X (.List es pos) (tLst t) := by
 intro pins s σ H Q I hq
 refine wpAny_List_spliced (thn (h pos pins s σ H _ I hq) fun us s1 ⟨xs, H1, I1, r, z, q⟩ => ⟨by rw [<- r.length]; exact z, ?_⟩)
 have hf : H1 s1.heap.objs.size = none := I1.hok.fresh (Nat.le_refl _)
 refine ⟨.ref s1.heap.objs.size, upd H1 s1.heap.objs.size (.lst xs), I1.laid (t' := s1.toks) (fun b u e => Heap.get?_push_of_some _ e) (Nat.le_refl _) ?_, rfl, q _ hf⟩
 exact ⟨z, us, 0, r, Heap.get?_push_size _ rfl⟩
end
abbrev Sp := List V -> Hp -> VK -> XK -> Prop
abbrev CXT := List Env -> Hp -> Shared -> XK -> Value -> Shared -> Prop
structure D2x (P : Program) (w : World) (K : PySem.W.Frag) (mg : Str -> Option Value) (base : Heap) (A : Around) (outer : List Env) (s : Shared) (H : Hp) : Prop where
 frames : A.frames = some outer
 mod : Mod K mg base
 bs : ∀ b o, base.get? b = some o -> s.heap.get? b = some o /\ H b = none
 bsz : base.objs.size <= s.heap.objs.size
 funs : s.heap.FunFrames base outer
 frf : ∀ b ∈ frs outer, H b = none
 hok : HOk P w H s.heap
 bare : AllBare s.gens
def CE (outer : List Env) (P : Program) (w : World) (H : Hp) (s : Shared) (Q : VK) (u : Value) (s' : Shared) : Prop :=
 ∃ v H', s'.os = s.os /\ AllBare s'.gens /\ Un (frs outer) [] H H' s.heap s'.heap /\ HOk P w H' s'.heap /\ U5 v u /\ Q v H'
def CR (CX : CXT) (outer : List Env) (P : Program) (w : World) (H : Hp) (s : Shared) (Q : VK) (E : XK) (r : Result) (s' : Shared) : Prop :=
 match r with
 | .ok (.ret u) => CE outer P w H s Q u s'
 | .ok _ => False
 | .error e => CX outer H s E e s'
structure C4 (P : Program) (w : World) (K : PySem.W.Frag) (mg : Str -> Option Value) (base : Heap) (CX : CXT) (k : Nat) (f : Addr) (fd : FuncData) (ps : List Str) (sp : Sp) : Prop where
 len : ∀ vs H Q E, sp vs H Q E -> vs.length = ps.length
 run : ∀ (A : Around) (outer : List Env) (s : Shared) (H : Hp) (args : Args) (us : List Value) (vs : List V) (Q : VK) (E : XK), Z1 k A -> D2x P w K mg base A outer s H -> BindsTo s fd args (ps.zip us) -> U0 vs us -> sp vs H Q E ->
   codeAny (model P w) A (.call (.ref f) args) (CR CX outer P w H s Q E) s
theorem C4.mono {P : Program} {w : World} {K : PySem.W.Frag} {mg : Str -> Option Value} {base : Heap} {CX : CXT} {j k : Nat} {f : Addr} {fd : FuncData} {ps : List Str} {sp : Sp} (F : C4 P w K mg base CX j f fd ps sp) (h : j <= k) :
   C4 P w K mg base CX k f fd ps sp := ⟨F.len, fun A outer s H args us vs Q E hr => F.run A outer s H args us vs Q E (hr.mono h)⟩
theorem D2x.make {P : Program} {w : World} {K : PySem.W.Frag} {mg : Str -> Option Value} {base : Heap} {A : Around} {outer : List Env} {s : Shared} {H : Hp} (e : D2x P w K mg base A outer s H) (C : Addr) (us : List Value) (kw : List (Str × Value)) :
   D2x P w K mg base (A.under (.builtin "type.__call__" ⟨.ref C :: us, kw⟩)) outer s H := ⟨by first | exact e.frames | (simpa [Around.under, Code.envs, Code.isFrame, pushEnvs] using e.frames), e.mod, e.bs, e.bsz, e.funs, e.frf, e.hok, e.bare⟩
section
variable {X : Cx} {pins : List (Addr × Obj)} {σ : St} {H : Hp} {s s' : Shared}
theorem Inv.env0 (I : Inv X pins σ H s) : D2x X.prog X.w X.K X.mg X.base X.A X.stack s H :=
 ⟨I.ok.frames, I.ok.mod, I.bs, Nat.le_trans I.ok.bsz I.sz, I.stack, I.stkFree, I.hok, I.bare⟩
theorem Inv.after {Q : VK} {u : Value} (I : Inv X pins σ H s) (h : CE X.stack X.prog X.w H s Q u s') : EP X pins σ Q u s' := by
 obtain ⟨v, H', os, bare, un, hok, r, q⟩ := h
 obtain ⟨hh, g, d, t, os'⟩ := s'
 obtain rfl : os' = s.os := os
 exact ⟨v, H', I.call (h' := hh) (g' := g) (d' := d) (t' := t) (ch := []) un hok bare (fun b z => absurd z (by simp)), r, q⟩
end
def A0mw (C : Addr) (sp : Sp) (dvs : List V) (E : XK) (t : TA) : TE := fun σ H Q => t σ H fun vs H1 => ∀ x dx, H1 x = none -> H1 dx = none -> dx ≠ x ->
 sp (.ref x :: (vs ++ dvs)) (upd (upd H1 dx (.own x)) x (.ins C dx [])) (fun v H2 => v = .non /\ Q (.ref x) H2) E
def A0c (K : PySem.W.Frag) (fd : FuncData) (ps : List Str) (ds : List Value) : Prop :=
 ∀ (s : Shared) (us : List Value), K.In s.heap -> (us ++ ds).length = ps.length -> BindsTo s fd ⟨us, []⟩ (ps.zip (us ++ ds))
theorem A0c.all {K : PySem.W.Frag} {fd : FuncData} {ps : List Str} (h : ∀ us : List Value, us.length = ps.length -> bindArgs fd ⟨us, []⟩ = pure (ps.zip us)) : A0c K fd ps [] := fun s us _ hl => by
 rw [List.append_nil] at hl ⊢
 exact .of_eq (h us hl)
def J7n (CX : CXT) (X : Cx) (E : XK) : Prop := ∀ (pins : List (Addr × Obj)) (σ : St) (H : Hp) (s : Shared) (e : Value) (s' : Shared), Inv X pins σ H s -> CX X.stack H s E e s' -> X.xe e s'
section
variable {X : Cx} {CX : CXT} {k : Nat} {f C : Addr} {fd : FuncData} {ps : List Str} {sp : Sp} {dvs : List V} {ds : List Value} {E : XK} {x m : Str} {p pos apos : Pos} {e o : Expr} {es : List Expr} {ta : TE} {t : TA}
structure Mk (K : PySem.W.Frag) (C f : Addr) : Prop where
 makes : PySem.W.makesIn K C = true
 init : PySem.W.findIn K (.ref C) "__init__" = some (some (.ref f))
 fn : PySem.W.isFn K (.ref f) = true
 kp : PySem.W.keepIn K (.ref C) = true
theorem V7t {pins : List (Addr × Obj)} {σ : St} {H : Hp} {s : Shared} {Q : VK} {us : List Value} {vs : List V} (M : Mk X.K C f) (F : C4 X.prog X.w X.K X.mg X.base CX k f fd ps sp) (hr : Z1 (k + 1) X.A) (hb : A0c X.K fd ps ds) (hd : U0 dvs ds)
   (hx : J7n CX X E) (I : Inv X pins σ H s) (r : U0 vs us)
   (h : ∀ x dx, H x = none -> H dx = none -> dx ≠ x -> sp (.ref x :: (vs ++ dvs)) (upd (upd H dx (.own x)) x (.ins C dx [])) (fun v H2 => v = .non /\ Q (.ref x) H2) E) :
   wpAny (model X.prog X.w) X.A (call (.ref C) us) (EP X pins σ Q) X.xe s := by
 have hq := h (s.heap.objs.size + 1) s.heap.objs.size (I.hok.fresh (Nat.le_succ _)) (I.hok.fresh (Nat.le_refl _)) (Nat.ne_of_lt (Nat.lt_succ_self _))
 have I2 := Inv.made (C := C) I
 have r2 : U0 (V.ref (s.heap.objs.size + 1) :: (vs ++ dvs)) (Value.ref (s.heap.objs.size + 1) :: (us ++ ds)) := .cons rfl (r.append hd)
 have hl : (Value.ref (s.heap.objs.size + 1) :: us ++ ds).length = ps.length := by
   have e := r2.length
   rw [F.len _ _ _ _ hq] at e
   exact e.symm
 refine wpAny_call (J0w (f := f) I.kIn M.makes M.init (beq_iff_eq.mp M.fn) (codeAny_mono (F.run _ X.stack _ _ ⟨Value.ref (s.heap.objs.size + 1) :: us, []⟩ (Value.ref (s.heap.objs.size + 1) :: (us ++ ds)) _ _ E (hr.make C us [])
   (I2.env0.make C us []) (hb _ (Value.ref (s.heap.objs.size + 1) :: us) I2.kIn hl) r2 hq) fun r s' hq' => ?_))
 cases r with
 | error e => exact hx pins σ _ _ e s' I2 hq'
 | ok fl =>
   cases fl with
   | ret u =>
     obtain ⟨v, H', I3, rv, ev, q3⟩ := I2.after hq'
     subst ev
     exact ⟨rv, ⟨V.ref (s.heap.objs.size + 1), H', I3, rfl, q3⟩⟩
   | next => exact False.elim hq'
   | brk => exact False.elim hq'
   | cont => exact False.elim hq'
theorem D9u (M : Mk X.K C f) (F : C4 X.prog X.w X.K X.mg X.base CX k f fd ps sp) (hr : Z1 (k + 1) X.A) (hg : Gl X x) (hm : X.mg x = some (.ref C)) (hb : A0c X.K fd ps ds) (hd : U0 dvs ds) (hx : J7n CX X E)
   (ha : PA X (e :: es) t) (hdb : (x == ("__debug__" : Str)) = false := by decide) (he : starEach (e :: es) X.env = (false, eval e X.env) :: starEach es X.env := by rfl) (hpl : (backTo pos (starEach es X.env)).any (·.1) = false := by rfl) :
   PE X (.Call (.Name x p) (e :: es) [] pos) (A0mw C sp dvs E t) := by
 intro pins s σ H Q I h
 refine wpAny_Call_Name_kw (A2j I hg hm ?_ hdb)
 refine PySem.W.callWith_K (h₀ := X.base) I.ok.mod.kin M.kp (thn (ha pos pins s σ H _ I h) fun us s1 ⟨vs, H1, I1, r, q⟩ => ⟨I1.kIn, ?_⟩) he hpl
 exact V7t M F hr hb hd hx I1 r q
end
section
variable {X : Cx} {CX : CXT} {k : Nat} {f C : Addr} {fd : FuncData} {ps ks : List Str} {sp : Sp} {E : XK} {x m : Str} {p pos apos kpos : Pos} {e o : Expr} {es : List Expr} {kws : List Keyword} {te ta : TE} {t tk : TA} {nm : Option Str}
structure A0gb (K : PySem.W.Frag) (fd : FuncData) (ps ks : List Str) (g : List Value -> List Value -> List Value) (gV : List V -> List V -> List V) : Prop where
 to : ∀ (s : Shared) (us ws : List Value), K.In s.heap -> (g us ws).length = ps.length -> BindsTo s fd ⟨us, ks.zip ws⟩ (ps.zip (g us ws))
 rel : ∀ {vs : List V} {us : List Value} {zs : List V} {ws : List Value}, U0 vs us -> U0 zs ws -> U0 (gV vs zs) (g us ws)
variable {g : List Value -> List Value -> List Value} {gV : List V -> List V -> List V}
end
structure B9 (N P : List Str) (sc : Scope) : Prop where
 kind : sc.kind = .function
 co : sc.isCoroutine = false
 gen : sc.isGenerator = false
 nd : N.Nodup
 pre : N.take P.length = P
 par : ∀ x ∈ P, sc.names.lookup x = some .local \/ sc.names.lookup x = some .cell
 nofree : ∀ y ∈ sc.names, y.2 ≠ .free
theorem D6c {kindOf : Str -> Option NameKind} {x : Str} : ∀ {binds : List (Str × Value)} {m : Str -> Option Value}, (∀ v, (x, v) ∉ binds) -> bindL kindOf binds m x = m x
 | [], _, _ => rfl
 | (n, v) :: r, m, h => by
   unfold bindL
   rw [D6c fun w hw => h w (List.mem_cons_of_mem _ hw)]
   split
   . have : x ≠ n := by rintro rfl; exact h v List.mem_cons_self
     simp [this]
   . rfl
theorem D6j {kindOf : Str -> Option NameKind} {x : Str} : ∀ {binds : List (Str × Value)} {m : Str -> Option Value}, (∀ v, (x, v) ∉ binds) -> bindC kindOf binds m x = m x
 | [], _, _ => rfl
 | (n, v) :: r, m, h => by
   unfold bindC
   rw [D6j fun w hw => h w (List.mem_cons_of_mem _ hw)]
   split
   . rfl
   . have : x ≠ n := by rintro rfl; exact h v List.mem_cons_self
     simp [this]
theorem D6v {kindOf : Str -> Option NameKind} {x : Str} {v : Value} : ∀ {P : List Str} {vs : List Value} {i : Nat} {m : Str -> Option Value}, P.Nodup -> P[i]? = some x -> vs[i]? = some v -> kindOf x = some .local ->
   bindL kindOf (P.zip vs) m x = some v
 | [], _, _, _, _, h, _, _ => by simp at h
 | _ :: _, [], _, _, _, _, h, _ => by simp at h
 | p :: P, w :: vs, 0, m, nd, h1, h2, hk => by
   simp at h1 h2; subst h1; subst h2
   show bindL kindOf ((p, w) :: P.zip vs) m p = _
   unfold bindL
   rw [D6c fun v hv => (List.nodup_cons.mp nd).1 (List.of_mem_zip hv).1, if_pos hk]
   simp
 | p :: P, w :: vs, i + 1, m, nd, h1, h2, hk => by
   show bindL kindOf ((p, w) :: P.zip vs) m x = _
   unfold bindL
   exact D6v (i := i) (List.nodup_cons.mp nd).2 (by simpa using h1) (by simpa using h2) hk
theorem D6r {kindOf : Str -> Option NameKind} {x : Str} {v : Value} : ∀ {P : List Str} {vs : List Value} {i : Nat} {m : Str -> Option Value}, P.Nodup -> P[i]? = some x -> vs[i]? = some v -> kindOf x ≠ some .local ->
   bindC kindOf (P.zip vs) m x = some v
 | [], _, _, _, _, h, _, _ => by simp at h
 | _ :: _, [], _, _, _, _, h, _ => by simp at h
 | p :: P, w :: vs, 0, m, nd, h1, h2, hk => by
   simp at h1 h2; subst h1; subst h2
   show bindC kindOf ((p, w) :: P.zip vs) m p = _
   unfold bindC
   rw [D6j fun v hv => (List.nodup_cons.mp nd).1 (List.of_mem_zip hv).1, if_neg hk]
   simp
 | p :: P, w :: vs, i + 1, m, nd, h1, h2, hk => by
   show bindC kindOf ((p, w) :: P.zip vs) m x = _
   unfold bindC
   exact D6r (i := i) (List.nodup_cons.mp nd).2 (by simpa using h1) (by simpa using h2) hk
def A4q (N : List Str) (vs : List V) : St := vs.map some ++ List.replicate (N.length - vs.length) none
def A0w (CX : CXT) (P : Program) (w : World) (K : PySem.W.Frag) (mg : Str -> Option Value) (base : Heap) (N : List Str) (qual : Str) (scope : Scope) (f : Addr) (cd : Value) (A : Around) (outer : List Env) (s : Shared) (H : Hp) (E : XK) : Cx where
 prog := P
 w := w
 K := K
 mg := mg
 base := base
 A := A.deeper (envOfC qual scope s.heap.objs.size f cd)
 N := N
 s₀ := s
 H₀ := H
 env := envOfC qual scope s.heap.objs.size f cd
 outer := outer
 stack := envOfC qual scope s.heap.objs.size f cd :: outer
 ex := []
 calm := true
 fn := fun _ => true
 pn := []
 xe := fun e s' => wpAny (model P w) (A.deeper (envOfC qual scope s.heap.objs.size f cd)) (leaving (envOfC qual scope s.heap.objs.size f cd) e) (fun _ s'' => CX outer H s E e s'') (fun e' s'' => CX outer H s E e' s'') s'
theorem J1w {sc : Scope} {n : Nat} {x : Str} (h : sc.names.lookup x = some .cell) : ∃ c, (cellsFrom n sc.names []).lookup x = some c := by
 have q := PySem.W.cellsFrom_some sc.names n [] (.inl h)
 exact Option.isSome_iff_exists.mp q
theorem D6y {CX : CXT} {P : Program} {w : World} {K : PySem.W.Frag} {mg : Str -> Option Value} {base : Heap} {N ps : List Str} {qual : Str} {scope : Scope} {f : Addr} {cd : Value} {A : Around} {outer : List Env} {s s1 : Shared} {H : Hp} {E : XK} {us : List Value} {vs : List V}
   (S : B9 N ps scope) (hd : A.handled = none) (e0 : D2x P w K mg base A outer s H) (hl : vs.length = ps.length) (r : U0 vs us)
   (x : InCallC s s.heap.objs.size (bindL (envOfC qual scope s.heap.objs.size f cd).kindOf (ps.zip us) fun _ => none) (cellsFrom (s.heap.objs.size + 1) scope.names []) (bindC (envOfC qual scope s.heap.objs.size f cd).kindOf (ps.zip us) fun _ => none) s1) :
   Inv (A0w CX P w K mg base N qual scope f cd A outer s H E) [] (A4q N vs) H s1 := by
 have hpl : ps.length <= N.length := by have := congrArg List.length S.pre; rw [List.length_take] at this; omega
 obtain ⟨h1, tk, rfl, hk⟩ := x.done
 have noA : ∀ b : Addr, b ∉ (A0w CX P w K mg base N qual scope f cd A outer s H E).ex := fun b z => absurd (show b ∈ ([] : List Addr) from z) (by simp)
 refine ⟨⟨e0.mod, S.kind, rfl, rfl, Nat.le_refl _, fun y z c h1 h2 => ?_, fun y hy => ?_, fun y c _ h => ?_, fun _ => hd, Around.frames_deeper e0.frames, .inr ⟨rfl, rfl⟩, fun b z => absurd z (noA b), e0.bs, e0.bsz, fun b _ _ => noA b, fun b z => absurd z (noA b), e0.funs, e0.frf⟩,
   rfl, e0.bare, Un.kept hk, ⟨_, x.toInCall.ns, fun i y v h1 h2 h3 => ?_⟩, fun y c h => ⟨_, x.cell y c h⟩, e0.hok.fresh (Nat.le_refl _), fun y c h => ?_, fun p hp => absurd (show p ∈ ([] : List (Addr × Obj)) from hp) (by simp), e0.hok.kept hk, ?_⟩
 . exact name_of_addr x.apart (PySem.mem_of_lookup h1) (PySem.mem_of_lookup h2)
 . have hy : scope.names.lookup y = some .cell \/ scope.names.lookup y = some .free := hy
   rcases hy with hy | hy
   . exact J1w hy
   . exact absurd rfl (S.nofree _ (PySem.mem_of_lookup hy))
 . exact Nat.le_of_lt (x.above y c (PySem.mem_of_lookup h))
 . have hi : i < vs.length := by
     unfold A4q at h2
     by_cases hi : i < vs.length
     . exact hi
     . rw [List.getElem?_append_right (by simpa using hi)] at h2
       rw [List.getElem?_replicate] at h2
       split at h2 <;> cases h2
   have ha : vs[i]? = some v := by
     unfold A4q at h2
     rw [List.getElem?_append_left (by simpa using hi), List.getElem?_map] at h2
     cases e : vs[i]? with
     | none => rw [e] at h2; cases h2
     | some a => rw [e] at h2; cases h2; rfl
   obtain ⟨u, hu, rv⟩ := r.get ha
   have hp : ps[i]? = some y := by
     rw [<- S.pre, List.getElem?_take_of_lt (by omega)]; exact h1
   have ndP : ps.Nodup := by rw [<- S.pre]; exact S.nd.sublist (List.take_sublist _ _)
   refine ⟨u, rv, ?_⟩
   rcases S.par y (List.mem_of_getElem? hp) with k | k
   . exact .inl ⟨k, D6v ndP hp hu k⟩
   . obtain ⟨c, e⟩ := J1w (n := s.heap.objs.size + 1) k
     refine .inr ⟨.inl k, c, e, ?_⟩
     have q := x.cell y c e
     rw [D6r ndP hp hu (by show scope.names.lookup y ≠ _; rw [k]; decide)] at q
     exact q
 . exact e0.hok.fresh (Nat.le_of_lt (x.above y c (PySem.mem_of_lookup h)))
 unfold A4q
 show _ = N.length
 rw [List.length_append, List.length_map, List.length_replicate]
 omega
theorem V8h {CX : CXT} {P : Program} {w : World} {K : PySem.W.Frag} {mg : Str -> Option Value} {base : Heap} {k : Nat} {f : Addr} {name qual : Str} {params : Arguments} {body : List Stmt} {scope : Scope} {dV kV doc pm cdv ct oc : Value} {an od : Option Addr}
   {osl : Array (Option Value)} {N ps : List Str} {sp : Sp} (lk : K.lookup f = some ⟨oc, od, .func (PySem.W.fnOf name qual params body scope dV kV doc pm an cdv ct), osl⟩) (hcd : PySem.W.codeIn K cdv qual = true) (S : B9 N ps scope)
   (len : ∀ vs H Q E, sp vs H Q E -> vs.length = ps.length)
   (hbody : ∀ (A : Around) (outer : List Env) (s : Shared) (H : Hp) (vs : List V) (Q : VK) (E : XK), Z1 k (A.deeper (envOfC qual scope s.heap.objs.size f cdv)) -> sp vs H Q E ->
     ∃ t, PSs (A0w CX P w K mg base N qual scope f cdv A outer s H E) body t /\ t { nx := fun _ H' => Q .non H', rt := Q } (A4q N vs) H) :
   C4 P w K mg base CX (k + 1) f (PySem.W.fnOf name qual params body scope dV kV doc pm an cdv ct) ps sp := by
 refine ⟨len, fun A outer s H args us vs Q E hr e0 hb r hsp => ?_⟩
 have hl := len _ _ _ _ hsp
 have KX : K.In s.heap := e0.mod.kin.keeps fun b o e => (e0.bs b o e).1
 have lim : s.heap.NoLimit := e0.mod.nolimit.keeps fun b o e => (e0.bs b o e).1
 have hkind : ∀ y ∈ ps.zip us, scope.names.lookup y.1 = some .local \/ (scope.names.lookup y.1 = some .cell /\ ((cellsFrom (s.heap.objs.size + 1) scope.names []).lookup y.1).isSome = true) := fun ⟨n, v⟩ hy => by
   rcases S.par n (List.of_mem_zip hy).1 with q | q
   . exact .inl q
   . exact .inr ⟨q, PySem.W.cellsFrom_some _ _ _ (.inl q)⟩
 refine codeAny_call_function hr.depth (KX _ _ lk) rfl S.co S.gen rfl (PySem.W.codeRec_of KX hcd) (hb _ _ _ _ ?_)
 refine wpAny_newFunctionEnv_cells S.kind hkind fun env he s1 x => ?_
 subst he
 refine ⟨lim.keeps x.toInCall.keep, codeAny_func ?_⟩
 obtain ⟨t, ht, hq⟩ := hbody A outer s H vs Q E (hr.deeper _) hsp
 have I : Inv (A0w CX P w K mg base N qual scope f cdv A outer s H E) [] (A4q N vs) H s1 := D6y S hr.hd e0 hl r x
 refine wpAny_mono (ht [] s1 (A4q N vs) H _ I hq) (fun fl s' hs => ?_) fun e s' hs => hs
 have fin : ∀ {σ' : St} {H' : Hp} {v : V} {u : Value}, Inv (A0w CX P w K mg base N qual scope f cdv A outer s H E) [] σ' H' s' -> U5 v u -> Q v H' -> CE outer P w H s Q u s' :=
   fun {σ' H' v u} J rv q => ⟨v, H', J.os, J.bare, J.base, J.hok, rv, q⟩
 cases fl with
 | ret u =>
   obtain ⟨v, σ', H', J, rv, q⟩ := hs
   exact fin J rv q
 | next =>
   obtain ⟨σ', H', J, q⟩ := hs
   exact fin (v := V.non) (u := Value.none) J rfl q
 | brk =>
   obtain ⟨_, _, _, q⟩ := hs
   exact False.elim q
 | cont =>
   obtain ⟨_, _, _, q⟩ := hs
   exact False.elim q
section
variable {X : Cx} {x : Str} {p pos : Pos} {e : Expr} {es : List Expr} {t : TA} {id T : String} {r : List V -> Hp -> VK -> Prop}
def tCB (r : List V -> Hp -> VK -> Prop) (t : TA) : TE := fun σ H Q => t σ H fun vs H1 => r vs H1 Q
theorem G5 (hc : A4v X (.builtin id) r) (hg : Gl X x) (hm : X.mg x = none) (hv : bootBuiltins x = some (.builtin id)) (ha : PA X (e :: es) t) (hn : x ≠ "__name__" := by decide) (hdb : (x == ("__debug__" : Str)) = false := by decide)
   (he : starEach (e :: es) X.env = (false, eval e X.env) :: starEach es X.env := by rfl) (hpl : (backTo pos (starEach es X.env)).any (·.1) = false := by rfl) : PE X (.Call (.Name x p) (e :: es) [] pos) (tCB r t) := by
 intro pins s σ H Q I h
 refine wpAny_Call_Name_kw (D8t I hg hm hv ?_ hn hdb)
 exact PyProof.Rows.callWith_builtin1 (thn (ha pos pins s σ H _ I h) fun us s1 ⟨vs, H1, I1, r1, q1⟩ => hc pins s1 σ H1 vs us Q I1 r1 q1) he hpl
theorem V5 (hc : A4v X (.type T) r) (hg : Gl X x) (hm : X.mg x = none) (hv : bootBuiltins x = some (.type T)) (ha : PA X (e :: es) t) (hn : x ≠ "__name__" := by decide) (hdb : (x == ("__debug__" : Str)) = false := by decide)
   (he : starEach (e :: es) X.env = (false, eval e X.env) :: starEach es X.env := by rfl) (hpl : (backTo pos (starEach es X.env)).any (·.1) = false := by rfl) : PE X (.Call (.Name x p) (e :: es) [] pos) (tCB r t) := by
 intro pins s σ H Q I h
 refine wpAny_Call_Name_kw (D8t I hg hm hv ?_ hn hdb)
 exact PyProof.Rows.callWith_type1 (thn (ha pos pins s σ H _ I h) fun us s1 ⟨vs, H1, I1, r1, q1⟩ => hc pins s1 σ H1 vs us Q I1 r1 q1) he hpl
end
end L2
namespace HT
open PySem PyProof.Rows
section
open PySem.SeqAt
open PySem.AutoSeq1 (wpAny_loadPart')
open PySem.MeetsSeq PySem.MeetsSeq2 PySem.MeetsSeq3
end
section
variable {prog : Program} {w : World} {A : Around} {E : Value -> Shared -> Prop} {s : Shared}
end
end HT
namespace L2
open PySem PySem.Spec PyProof.Rows
section
variable {X : Cx} {e : Expr} {te : TE} {lo hi : Option Expr} {tl th : TO} {pos p2 : Pos}
end
def ixN (n : Nat) (i : Int) : Option Nat := if 0 <= i then (if i < n then some i.toNat else none) else if -(n : Int) <= i then some (i + n).toNat else none
def atI {α : Type} (xs : List α) (i : Int) : Option α := (ixN xs.length i).bind fun j => xs[j]?
theorem Z8m {n : Nat} {i : Int} {j : Nat} (h : ixN n i = some j) : seqIndex? i n = some j /\ j < n /\ -(n : Int) <= i /\ i < n := by
 unfold ixN at h
 by_cases h0 : 0 <= i
 . rw [if_pos h0] at h
   by_cases h1 : i < n
   . rw [if_pos h1] at h
     have e : i.toNat = j := Option.some.inj h
     exact ⟨by rw [seqIndex_of h0 h1, e], by omega, by omega, h1⟩
   . rw [if_neg h1] at h; cases h
 rw [if_neg h0] at h
 by_cases h1 : -(n : Int) <= i
 . rw [if_pos h1] at h
   have e : (i + n).toNat = j := Option.some.inj h
   exact ⟨by rw [seqIndex_neg (by omega) h1, e], by omega, h1, by omega⟩
 rw [if_neg h1] at h; cases h
theorem U8f {α : Type} {xs : List α} {i : Int} {v : α} (h : atI xs i = some v) : ∃ j, seqIndex? i xs.length = some j /\ xs[j]? = some v /\ j < xs.length /\ -(xs.length : Int) <= i /\ i < xs.length := by
 unfold atI at h
 cases e : ixN xs.length i with
 | none => rw [e] at h; cases h
 | some j =>
   rw [e] at h
   obtain ⟨h1, h2, h3, h4⟩ := Z8m e
   exact ⟨j, h1, h, h2, h3, h4⟩
theorem J9 {α : Type} {xs : List α} {j : Nat} {v : α} (h : xs[j]? = some v) : atI xs (j : Int) = some v := by
 have hj : j < xs.length := (List.getElem?_eq_some_iff.mp h).1
 have e : ixN xs.length (j : Int) = some j := by
   unfold ixN
   rw [if_pos (by omega), if_pos (by omega)]; simp
 unfold atI; rw [e]; exact h
def Z6g (b : Expr) : Prop := ∀ o i, subscripted b false o i = operate [o, i] (getItem o i)
def IxR (X : Cx) (r : R2) : Prop :=
 ∀ (value slice : Expr) (pins : List (Addr × Obj)) (s : Shared) (σ : St) (H : Hp) (x y : V) (v u : Value) (Q : VK), Inv X pins σ H s -> U5 x v -> U5 y u -> r x y H Q ->
   subscripted slice false v u = operate [v, u] (getItem v u) -> wpAny (model X.prog X.w) X.A (subscriptTail value slice v u) (EP X pins σ Q) X.xe s
def MtR (X : Cx) (id : String) (r : V -> List V -> Hp -> VK -> Prop) : Prop :=
 ∀ (pins : List (Addr × Obj)) (s : Shared) (σ : St) (H : Hp) (x : V) (xs : List V) (v : Value) (us : List Value) (Q : VK), Inv X pins σ H s -> U5 x v -> U0 xs us -> r x xs H Q ->
   wpAny (model X.prog X.w) X.A (call (.builtin id) (v :: us)) (EP X pins σ Q) X.xe s
section
variable {X : Cx} {a b : Expr} {ta tb : TE} {pos : Pos}
theorem J1 {r : R2} (hr : IxR X r) (ha : PE X a ta) (hb : PE X b tb) (hs : Z6g b) : PE X (.Subscript a b pos) (tOp r ta tb) := by
 intro pins s σ H Q I h
 exact Subscript_ (binT ha hb I h fun v u s2 x y H2 I2 rx ry q => hr a b pins s2 σ H2 x y v u Q I2 rx ry q (hs _ _))
def rIxL (K : PySem.W.Frag) : R2 := fun x y H Q => ∃ p xs i v, x = .ref p /\ y = .int i /\ SqL K H p xs /\ atI xs i = some v /\ Q v H
def rIxT (K : PySem.W.Frag) : R2 := fun x y H Q => ∃ p xs i v, x = .ref p /\ y = .int i /\ SqT K H p xs /\ atI xs i = some v /\ Q v H
theorem A3p : IxR X (rIxL X.K) := by
 intro value slice pins s σ H x y v u Q I rx ry h hs
 obtain ⟨p, xs, i, z, rfl, rfl, hq, he, q⟩ := h
 cases rx
 obtain ⟨t, rfl⟩ := ry
 obtain ⟨its, r, pl, hz⟩ := I.list hq
 obtain ⟨j, h1, h2, h3, h4, h5⟩ := U8f he
 obtain ⟨w, ew, rw'⟩ := r.get h2
 have hl := r.length
 have hn := G0d
 have fin : EP X pins σ Q w s := ⟨z, H, I, rw', q⟩
 by_cases h0 : 0 <= i
 . have hj : i.toNat = j := by
     rw [seqIndex_of h0 h5] at h1
     exact Option.some.inj h1
   exact item_listR pl.isList h0 (by omega) (by rw [hj]; simpa using ew) fin hs
 have hj : (i + (its.toArray.size : Int)).toNat = j := by
   rw [seqIndex_neg (by omega) h4] at h1
   rw [List.size_toArray, <- hl]
   exact Option.some.inj h1
 exact subscriptTail_builtinR (x := w) pl.isList.typeIs slot_list_getitem.lookup
   (wpAny_getItem_list_neg (Q := fun r s' => r = w /\ EP X pins σ Q r s') pl.isList (by omega) (by rw [List.size_toArray] <;> omega) (by omega) (by rw [hj]; simpa using ew) ⟨rfl, fin⟩) hs
theorem G9 : IxR X (rIxT X.K) := by
 intro value slice pins s σ H x y v u Q I rx ry h hs
 obtain ⟨p, xs, i, z, rfl, rfl, hq, he, q⟩ := h
 cases rx
 obtain ⟨t, rfl⟩ := ry
 obtain ⟨its, r, pl, hz⟩ := I.tuple hq
 obtain ⟨j, h1, h2, h3, h4, h5⟩ := U8f he
 obtain ⟨w, ew, rw'⟩ := r.get h2
 have hl := r.length
 have hn := G0d
 have fin : EP X pins σ Q w s := ⟨z, H, I, rw', q⟩
 exact subscriptTail_builtinR (x := w) pl.typeIs slot_tuple_getitem.lookup
   (getItem_tuple (j := j) (Q := fun r s' => r = w /\ EP X pins σ Q r s') pl (by omega) (by omega) (by rw [List.size_toArray, <- hl]; exact h1) (by simpa using ew) ⟨rfl, fin⟩) hs
def B8p : V -> Bool
 | .non => true
 | .bl _ => true
 | .int _ => true
 | .str _ => true
 | _ => false
def eqV : V -> V -> Bool
 | .non, .non => true
 | .bl a, .bl b => a == b
 | .bl a, .int b => (if a then 1 else 0) == b
 | .int a, .bl b => a == (if b then 1 else 0)
 | .int a, .int b => a == b
 | .str a, .str b => a == b
 | _, _ => false
theorem A0ew {A : Around} {s : Shared} {y x : V} {u v : Value} (ry : U5 y u) (rx : U5 x v) (fy : B8p y = true) (fx : B8p x = true) : SeqAt.EqAt A s u v (eqV y x) := by
 cases y with
 | non =>
   cases ry
   cases x with
   | non => cases rx; exact SeqAt.EqAt.same _
   | bl b => cases rx; exact SeqAt.EqAt.none_bool b
   | int b => obtain ⟨t, rfl⟩ := rx; exact SeqAt.EqAt.none_int b t
   | str b => obtain ⟨t, rfl⟩ := rx; exact SeqAt.EqAt.none_str b t
   | _ => exact absurd (show false = true from fx) Bool.false_ne_true
 | bl a =>
   cases ry
   cases x with
   | non => cases rx; exact SeqAt.EqAt.bool_none a
   | bl b => cases rx; exact SeqAt.EqAt.bool_bool a b
   | int b => obtain ⟨t, rfl⟩ := rx; exact SeqAt.EqAt.bool_int a b t
   | str b => obtain ⟨t, rfl⟩ := rx; exact SeqAt.EqAt.bool_str a b t
   | _ => exact absurd (show false = true from fx) Bool.false_ne_true
 | int a =>
   obtain ⟨t', rfl⟩ := ry
   cases x with
   | non => cases rx; exact SeqAt.EqAt.int_none a t'
   | bl b => cases rx; exact SeqAt.EqAt.int_bool a t' b
   | int b => obtain ⟨t, rfl⟩ := rx; exact SeqAt.EqAt.int_int a t' b t
   | str b => obtain ⟨t, rfl⟩ := rx; exact SeqAt.EqAt.int_str a t' b t
   | _ => exact absurd (show false = true from fx) Bool.false_ne_true
 | str a =>
   obtain ⟨t', rfl⟩ := ry
   cases x with
   | non => cases rx; exact SeqAt.EqAt.str_none a t'
   | bl b => cases rx; exact SeqAt.EqAt.str_bool a t' b
   | int b => obtain ⟨t, rfl⟩ := rx; exact SeqAt.EqAt.str_int a t' b t
   | str b => obtain ⟨t, rfl⟩ := rx; exact SeqAt.EqAt.str_str a t' b t
   | _ => exact absurd (show false = true from fx) Bool.false_ne_true
 | _ => exact absurd (show false = true from fy) Bool.false_ne_true
def eqU (x : V) (u : Value) : Bool := match u with
 | .none => eqV .non x
 | .bool b => eqV (.bl b) x
 | .int i _ => eqV (.int i) x
 | .str z _ => eqV (.str z) x
 | _ => false
theorem V8c {x y : V} {u : Value} (r : U5 y u) (f : B8p y = true) : eqU x u = eqV y x := by
 cases y with
 | non => cases r; rfl
 | bl b => cases r; rfl
 | int i => obtain ⟨t, rfl⟩ := r; rfl
 | str z => obtain ⟨t, rfl⟩ := r; rfl
 | _ => exact absurd (show false = true from f) Bool.false_ne_true
theorem B8y {x : V} : ∀ {xs : List V} {us : List Value}, U0 xs us -> xs.all B8p = true -> us.any (eqU x) = xs.any fun y => eqV y x
 | _, _, .nil, _ => rfl
 | y :: xs, u :: us, .cons r t, f => by
   rw [List.all_cons, Bool.and_eq_true] at f
   rw [List.any_cons, List.any_cons, V8c r f.1, B8y t f.2]
theorem B0x {A : Around} {s : Shared} {x : V} {v : Value} (rx : U5 x v) (fx : B8p x = true) : ∀ {xs : List V} {us : List Value}, U0 xs us -> xs.all B8p = true -> ∀ u ∈ us, SeqAt.EqAt A s u v (eqU x u)
 | _, _, .nil, _ => fun u hu => by cases hu
 | y :: xs, u :: us, .cons r t, f => fun u' hu => by
   rw [List.all_cons, Bool.and_eq_true] at f
   rcases List.mem_cons.mp hu with rfl | hu
   . rw [V8c r f.1]; exact A0ew r rx f.1 fx
   . exact B0x rx fx t f.2 u' hu
def inV (x : V) (xs : List V) : Bool := xs.any fun y => eqV y x
def rIn (K : PySem.W.Frag) (neg : Bool) : R2 := fun x y H Q => ∃ p xs, y = .ref p /\ (SqL K H p xs \/ SqT K H p xs) /\ B8p x = true /\ xs.all B8p = true /\ Q (.bl (if neg then !inV x xs else inV x xs)) H
theorem A4c : OpR X (compareOp .In) (rIn X.K false) := by
 intro pins s σ H x y v u Q I rx ry h
 obtain ⟨p, xs, rfl, hq, fx, fs, q⟩ := h
 cases ry
 rcases hq with hq | hq
 . obtain ⟨its, r, pl, hz⟩ := I.list hq
   refine SeqAt.in_listAt (eqU x) pl.isList (fun w hw => B0x rx fx r fs w (by simpa using hw)) ⟨.bl _, H, I, rfl, ?_⟩
   rw [show its.toArray.any (eqU x) = its.any (eqU x) by simp, B8y r fs]
   exact q
 obtain ⟨its, r, pl, hz⟩ := I.tuple hq
 refine SeqAt.in_tupleAt (eqU x) pl (fun w hw => B0x rx fx r fs w (by simpa using hw)) ⟨.bl _, H, I, rfl, ?_⟩
 rw [show its.toArray.any (eqU x) = its.any (eqU x) by simp, B8y r fs]
 exact q
theorem D8z : OpR X (compareOp .NotIn) (rIn X.K true) := by
 intro pins s σ H x y v u Q I rx ry h
 obtain ⟨p, xs, rfl, hq, fx, fs, q⟩ := h
 cases ry
 rcases hq with hq | hq
 . obtain ⟨its, r, pl, hz⟩ := I.list hq
   refine SeqAt.notIn_listAt (eqU x) pl.isList (fun w hw => B0x rx fx r fs w (by simpa using hw)) ⟨.bl _, H, I, rfl, ?_⟩
   rw [show its.toArray.any (eqU x) = its.any (eqU x) by simp, B8y r fs]
   exact q
 obtain ⟨its, r, pl, hz⟩ := I.tuple hq
 refine SeqAt.notIn_tupleAt (eqU x) pl (fun w hw => B0x rx fx r fs w (by simpa using hw)) ⟨.bl _, H, I, rfl, ?_⟩
 rw [show its.toArray.any (eqU x) = its.any (eqU x) by simp, B8y r fs]
 exact q
theorem B8x : A4v X (.builtin "len") (fun xs H Q => ∃ p ys, xs = [.ref p] /\ (SqL X.K H p ys \/ SqT X.K H p ys) /\ Q (.int ys.length) H) := by
 intro pins s σ H xs us Q I r h
 obtain ⟨p, ys, rfl, hq, q⟩ := h
 obtain ⟨u, rfl, rx⟩ := C4u r
 cases rx
 have hn := G0d
 rcases hq with hq | hq
 . obtain ⟨its, r', pl, hz⟩ := I.list hq
   have hlen := r'.length
   exact Calls.call_len_list pl.isList (by simp only [List.size_toArray] <;> omega) ⟨.int ys.length, H, I.tok _, ⟨s.toks + 1, by rw [List.size_toArray, hlen]⟩, q⟩
 obtain ⟨its, r', pl, hz⟩ := I.tuple hq
 have hlen := r'.length
 exact len_tuple pl (by simp only [List.size_toArray] <;> omega) ⟨.int ys.length, H, I.tok _, ⟨s.toks + 1, by rw [List.size_toArray, hlen]⟩, q⟩
theorem A1f : A4v X (.builtin "len") (fun xs H Q => ∃ z, xs = [.str z] /\ z.length <= sizeLine /\ Q (.int z.length) H) := by
 intro pins s σ H xs us Q I r h
 obtain ⟨z, rfl, hz, q⟩ := h
 obtain ⟨u, rfl, t, rfl⟩ := C4u r
 have hn := G0d
 exact len_str (by omega) ⟨.int z.length, H, I.tok _, ⟨_, rfl⟩, q⟩
theorem A7r : A4v X (.type "list") (fun xs H Q => ∃ p ys, xs = [.ref p] /\ (SqL X.K H p ys \/ SqT X.K H p ys) /\ ∀ l, H l = none -> Q (.ref l) (upd H l (.lst ys))) := by
 intro pins s σ H xs us Q I r h
 obtain ⟨p, ys, rfl, hq, q⟩ := h
 obtain ⟨u, rfl, rx⟩ := C4u r
 cases rx
 have fin : ∀ (its : List Value), U0 ys its -> ys.length <= sizeLine -> ∀ (h' : Heap) (c' : Nat), (∀ b o', s.heap.get? b = some o' -> h'.get? b = some o') ->
     h'.get? s.heap.objs.size = some { cls := .type "list", dict := none, data := .seq its.toArray c', slots := #[] } -> EP X pins σ Q (.ref s.heap.objs.size) { s with heap := h' } := fun its r' hz h' c' kp e =>
   ⟨.ref s.heap.objs.size, _, I.laid (t' := s.toks) kp (Nat.le_refl _) (show Y9 X.prog X.w _ h' _ (.lst ys) from ⟨hz, its, c', r', e⟩), rfl, q _ (I.hok.fresh (Nat.le_refl _))⟩
 rcases hq with hq | hq
 . obtain ⟨its, r', pl, hz⟩ := I.list hq
   have hlen := r'.length
   obtain ⟨o, ho, hc, n, hd⟩ := pl.isList
   exact call_list_seq p (.inl rfl) ho hc hd (fun h' c' kp e => fin its r' hz h' c' kp e) (by simp only [List.size_toArray] <;> omega)
 obtain ⟨its, r', pl, hz⟩ := I.tuple hq
 have hlen := r'.length
 obtain ⟨o, ho, hc, n, hd⟩ := pl
 exact call_list_seq p (.inr rfl) ho hc hd (fun h' c' kp e => fin its r' hz h' c' kp e) (by simp only [List.size_toArray] <;> omega)
def tyV (K : PySem.W.Frag) (T : String) (x : V) (H : Hp) : Prop := match x with
 | .str _ => T = "str"
 | .int _ => T = "int"
 | .ref p => (T = "list" /\ ∃ xs, SqL K H p xs) \/ (T = "tuple" /\ ∃ o, K.lookup p = some o /\ o.cls = .type "tuple" /\ o.dict = none) \/
     (T = "dict" /\ ((∃ kvs, H p = some (.dK kvs)) \/ ∃ kvs, H p = some (.dT kvs))) \/ (T = "set" /\ ∃ S n, H p = some (.set S n))
 | _ => False
theorem A0fq {pins : List (Addr × Obj)} {σ : St} {H : Hp} {s : Shared} {T : String} {x : V} {v : Value} (I : Inv X pins σ H s) (r : U5 x v) (ty : tyV X.K T x H) :
   s.TypeIs v T /\ ∀ a, v = .ref a -> ∃ ob, s.heap.get? a = some ob /\ ob.dict = none := by
 cases x with
 | str z =>
   obtain ⟨t, rfl⟩ := r
   cases (show T = "str" from ty)
   exact ⟨typeIs_str s z t, fun _ e => nomatch e⟩
 | int i =>
   obtain ⟨t, rfl⟩ := r
   cases (show T = "int" from ty)
   exact ⟨typeIs_int s i t, fun _ e => nomatch e⟩
 | ref p =>
   cases r
   rcases ty with ⟨rfl, xs, hq⟩ | ⟨rfl, o, hk, hc, hd⟩ | ⟨rfl, hk⟩ | ⟨rfl, S, n, hk⟩
   . obtain ⟨its, _, pl, _⟩ := I.list hq
     refine ⟨pl.isList.typeIs, fun a e => ?_⟩
     cases e
     obtain ⟨o, n, e, c, hd, _⟩ := pl
     exact ⟨o, e, hd⟩
   . refine ⟨⟨o, I.kIn p o hk, hc⟩, fun a e => ?_⟩
     cases e
     exact ⟨o, I.kIn _ o hk, hd⟩
   . have z : ∃ o, s.heap.get? p = some o /\ o.ExactDict := by
       rcases hk with ⟨kvs, hk⟩ | ⟨kvs, hk⟩
       . obtain ⟨_, _, _, _, o, _, _, e, ex, _⟩ := I.hok p _ hk
         exact ⟨o, e, ex⟩
       . obtain ⟨_, _, _, _, o, _, _, e, ex, _⟩ := I.hok p _ hk
         exact ⟨o, e, ex⟩
     obtain ⟨o, e, ex⟩ := z
     refine ⟨⟨o, e, ex.1⟩, fun a e2 => ?_⟩
     cases e2
     exact ⟨o, e, ex.2.1⟩
   . obtain ⟨o, _, _, _, e, ex, _⟩ := I.hok p _ hk
     refine ⟨⟨o, e, ex.1⟩, fun a e2 => ?_⟩
     cases e2
     exact ⟨o, e, ex.2.1⟩
 | _ => exact False.elim ty
def tBM0 (K : PySem.W.Frag) (T : String) (r : V -> List V -> Hp -> VK -> Prop) (to : TE) : TE := fun σ H Q => to σ H fun x H1 => tyV K T x H1 /\ r x [] H1 Q
variable {o e : Expr} {es : List Expr} {to : TE} {t : TA} {name : Str} {apos cpos : Pos} {T id : String} {r : V -> List V -> Hp -> VK -> Prop}
theorem A0eu (pa : PlainAttrs T) (slot : Slot T name id) (hty : typeOf (.builtin id) = pure (.type "method_descriptor")) (hm : MtR X id r) (ho : PE X o to)
   (hbase : attributeBase o name X.env (eval o X.env) = eval o X.env := by rfl) (hline : (apos.endLine == cpos.line) = true := by rfl) : PE X (.Call (.Attribute o name apos) [] [] cpos) (tBM0 X.K T r to) := by
 intro pins s σ H Q I h
 refine wpAny_Call_method0_late hbase hline (thn (ho pins s σ H _ I h) fun v s1 ⟨x, H1, I1, r1, ty, q1⟩ => ?_)
 obtain ⟨h1, h2⟩ := A0fq I1 r1 ty
 exact ⟨T, id, pa, slot, hty, h1, h2, Calls.callWith_builtin rfl (PySem.evalArgs_none (hm pins s1 σ H1 x [] v [] Q I1 r1 .nil q1))⟩
end
def MtM (X : Cx) (id : String) (r : V -> List V -> Hp -> VK -> Prop) : Prop :=
 ∀ (pins : List (Addr × Obj)) (s : Shared) (σ : St) (H : Hp) (x : V) (xs : List V) (v : Value) (us : List Value) (Q : VK), Inv X pins σ H s -> U5 x v -> U0 xs us -> r x xs H Q ->
   wpAny (model X.prog X.w) X.A (call (.builtin id) (v :: us)) (EP X pins σ Q) X.xe s
theorem U0.one : ∀ {x : V} {us : List Value}, U0 [x] us -> ∃ u, us = [u] /\ U5 x u
 | _, _, .cons r .nil => ⟨_, rfl, r⟩
theorem U0.two : ∀ {x y : V} {us : List Value}, U0 [x, y] us -> ∃ u v, us = [u, v] /\ U5 x u /\ U5 y v
 | _, _, _, .cons r (.cons q .nil) => ⟨_, _, rfl, r, q⟩
theorem U0.reverse {xs : List V} {us : List Value} (h : U0 xs us) : U0 xs.reverse us.reverse := by
 induction h with
 | nil => exact .nil
 | cons r t ih => rw [List.reverse_cons, List.reverse_cons]; exact U0.append ih (.cons r .nil)
theorem U0.rep {xs : List V} {us : List Value} (h : U0 xs us) : ∀ k : Nat, U0 (List.replicate k xs).flatten (List.replicate k us).flatten
 | 0 => .nil
 | k + 1 => by
   rw [List.replicate_succ, List.replicate_succ, List.flatten_cons, List.flatten_cons]
   exact U0.append h (U0.rep h k)
theorem D6p (its : List Value) : ∀ (k : Nat) (acc : List Value),
   List.foldl (fun x1 x2 => x1 ++ x2) acc.toArray (List.replicate k its.toArray) = (acc ++ (List.replicate k its).flatten).toArray
 | 0, acc => by simp
 | k + 1, acc => by
   have e : acc.toArray ++ its.toArray = (acc ++ its).toArray := by simp
   have e2 : (acc ++ its) ++ (List.replicate k its).flatten = acc ++ (List.replicate (k + 1) its).flatten := by
     rw [List.replicate_succ, List.flatten_cons, List.append_assoc]
   rw [<- e2, <- D6p its k (acc ++ its), <- e, List.replicate_succ, List.foldl_cons]
section
variable {X : Cx} {pins : List (Addr × Obj)} {σ : St} {H : Hp} {s : Shared} {l b : Addr} {xs ys zs : List V}
theorem Inv.lset {its its' : List Value} {n : Nat} {f : Array Value -> Array Value} {t' : Nat} (I : Inv X pins σ H s) (hH : H l = some (.lst xs))
   (e : s.heap.get? l = some { cls := .type "list", data := .seq its.toArray n }) (hf : f its.toArray = its'.toArray) (hv : U0 ys its') (hz : ys.length <= sizeLine) :
   Inv X pins σ (upd H l (.lst ys)) { s with heap := s.heap.update l (Obj.mapSeq f), toks := t' } := by
 have q := PySem.IsL.update e f
 rw [hf] at q
 refine I.write (x := l) (e := l) (by rw [hH]; exact trivial) (.inl rfl) (fun b' u hb hu => (Heap.get?_update_other s.heap (Obj.mapSeq f) (Ne.symm hb)).trans hu) ⟨_, q⟩ ?_
 exact ⟨hz, its', _, hv, q⟩
theorem Inv.lnew {its : List Value} {t' : Nat} (I : Inv X pins σ H s) (hv : U0 ys its) (hz : ys.length <= sizeLine) :
   Inv X pins σ (upd H s.heap.objs.size (.lst ys)) { s with heap := s.heap.push { cls := .type "list", data := .seq its.toArray }, toks := t' } :=
 I.laid (fun _ _ q => Heap.get?_push_of_some _ q) (Nat.le_refl _) ⟨hz, its, 0, hv, Heap.get?_push_size _ rfl⟩
theorem Inv.fresh (I : Inv X pins σ H s) : H s.heap.objs.size = none := I.hok.fresh (Nat.le_refl _)
theorem Inv.lstM (I : Inv X pins σ H s) (hH : H l = some (.lst xs)) : xs.length <= sizeLine /\ ∃ (its : List Value) (n : Nat), U0 xs its /\ xs.length = its.length /\ s.heap.get? l = some { cls := .type "list", data := .seq its.toArray n } := by
 obtain ⟨z, its, n, r, e⟩ := I.hok l _ hH
 exact ⟨z, its, n, r, r.length, e⟩
theorem V9p {n : Nat} (h : n <= sizeLine) : Builtin.List.listTooLong n = false := by
 unfold Builtin.List.listTooLong
 exact decide_eq_false (by omega)
end
section
variable {X : Cx}
def Z7t : V -> List V -> Hp -> VK -> Prop := fun x vs H Q => ∃ l xs y, x = .ref l /\ vs = [y] /\ H l = some (.lst xs) /\ xs.length < sizeLine /\ Q .non (upd H l (.lst (xs ++ [y])))
theorem C0e : MtM X "list.append" Z7t := by
 intro pins s σ H x vs v us Q I rx rv h
 obtain ⟨l, xs, y, rfl, rfl, hH, hz, q⟩ := h
 cases rx
 obtain ⟨u, rfl, ru⟩ := rv.one
 obtain ⟨z, its, n, r, hl, e⟩ := I.lstM hH
 refine call_meets F.slot_list_append ⟨_, e, rfl⟩ F.entry_list_append (F.args_list_append_2 _ _) (PySem.list_append l its.toArray n u (by rw [List.size_toArray]; omega)) ⟨e, ?_⟩
 refine ⟨.non, _, I.lset (its' := its ++ [u]) hH e (by simp) (r.append (.cons ru .nil)) ?_, rfl, q⟩
 rw [List.length_append, List.length_singleton]
 omega
def rCat : R2 := fun x y H Q => ∃ l b xs zs, x = .ref l /\ y = .ref b /\ H l = some (.lst xs) /\ H b = some (.lst zs) /\ xs.length + zs.length <= sizeLine /\ ∀ p, H p = none -> Q (.ref p) (upd H p (.lst (xs ++ zs)))
theorem C8d : OpR X (binaryOp .Add) rCat := by
 intro pins s σ H x y v u Q I rx ry h
 obtain ⟨l, b, xs, zs, rfl, rfl, hH, hB, hz, q⟩ := h
 cases rx
 cases ry
 obtain ⟨z, its, n, r, hl, e⟩ := I.lstM hH
 obtain ⟨z2, its2, n2, r2, hl2, e2⟩ := I.lstM hB
 refine PySem.P.add_list e e2 ?_ (by rw [List.size_toArray, List.size_toArray]; omega)
 have ea : its.toArray ++ its2.toArray = (its ++ its2).toArray := by simp
 rw [ea]
 exact ⟨.ref _, _, I.lnew (t' := s.toks) (r.append r2) (by rw [List.length_append]; omega), rfl, q _ I.fresh⟩
def rRep : R2 := fun x y H Q => ∃ l k xs, x = .ref l /\ y = .int k /\ H l = some (.lst xs) /\ -(2 ^ 63) <= k /\ k < 2 ^ 63 /\ xs.length * k.toNat <= sizeLine /\
 ∀ p, H p = none -> Q (.ref p) (upd H p (.lst (List.replicate k.toNat xs).flatten))
theorem U9j {α : Type} (xs : List α) (k : Nat) : (List.replicate k xs).flatten.length = k * xs.length := by
 induction k with
 | zero => simp
 | succ k ih => rw [List.replicate_succ, List.flatten_cons, List.length_append, ih, Nat.succ_mul, Nat.add_comm]
theorem V9u : OpR X (binaryOp .Mult) rRep := by
 intro pins s σ H x y v u Q I rx ry h
 obtain ⟨l, k, xs, rfl, rfl, hH, h1, h2, hz, q⟩ := h
 cases rx
 obtain ⟨t, rfl⟩ := ry
 obtain ⟨z, its, n, r, hl, e⟩ := I.lstM hH
 have hlen : its.toArray.size * k.toNat <= sizeLine := by rw [List.size_toArray, <- hl]; exact hz
 have hcap : ¬ its.toArray.size * k.toNat > (2 ^ 63 - 1) / 8 := by
   have : (sizeLine : Nat) <= (2 ^ 63 - 1) / 8 := by decide
   omega
 have hfit : ¬ (!Builtin.List.listFitsIndex k) = true := by
   rw [fitsIndex_both h1 h2]
   exact Bool.false_ne_true
 have hlong : ¬ Builtin.List.listTooLong (its.toArray.size * k.toNat) = true := by
   rw [V9p hlen]
   exact Bool.false_ne_true
 have hnew : List.foldl (fun x1 x2 => x1 ++ x2) #[] (List.replicate (if its.toArray.isEmpty = true then 0 else k.toNat) its.toArray) = (List.replicate k.toNat its).flatten.toArray := by
   have f0 : ∀ m : Nat, List.foldl (fun x1 x2 => x1 ++ x2) #[] (List.replicate m its.toArray) = (List.replicate m its).flatten.toArray := fun m => by
     have := D6p its m []
     rw [List.nil_append] at this
     exact this
   rw [f0]
   cases its with
   | nil => simp
   | cons a r' => rw [if_neg (by simp)]
 refine wpAny_binaryOp_repeat_ref (T := "list") (U := "int") (by decide) ⟨_, e, rfl⟩ (fun s' => typeIs_int s' k t) noFill_list_mul F.fills_int_mul F.slot_int_rmul repeat_list F.slot_int_index.lookup
   (call_meets F.slot_int_rmul (typeIs_int s k t) F.entry_int_rmul (F.args_int_rmul_2 _ _) (int___rmul___int_list k t l its.toArray n)
     ⟨e, rfl, ⟨_, e, rfl⟩, call_meets F.slot_list_mul ⟨_, e, rfl⟩ F.entry_list_mul (F.args_list_mul_2 _ _) (AutoListH.list___mul___list_int_3 l its.toArray n k t hfit hcap hlong) ⟨e, ?_⟩⟩)
 rw [hnew]
 exact ⟨.ref _, _, I.lnew (t' := s.toks) (r.rep k.toNat) (by rw [U9j, Nat.mul_comm]; exact hz), rfl, q _ I.fresh⟩
end
section
variable {prog : Program} {w : World} {A : Around} {E : Value -> Shared -> Prop} {s : Shared}
end
section
variable {X : Cx}
end
end L2
namespace Att
open PySem PySem.W PySem.Calls PyProof.Rows
theorem C5y {P : Params} {h : Heap} : ∀ (ns : List Int) (vs : List Value), WellAll P h vs (ns.map WData.int) -> IntsAre vs ns := by
 intro ns
 induction ns with
 | nil =>
   intro vs w
   rw [List.map_nil] at w
   cases w
   exact .nil
 | cons n ns ih =>
   intro vs w
   rw [List.map_cons] at w
   cases w with
   | cons a b =>
     cases a
     exact .cons _ _ (ih _ b)
theorem V3a {l : OpenLaw} {n : Nat} (hn : l.most = some n) {P : Params} {h : Heap} {args : List WData} {vals : List Value}
   (hpre : l.row.toRowW.claim.pre args = true) (hwl : WellAll P h vals args) :
   ∃ a vs ns, vals = [Value.ref a] /\ args = [WData.list (ns.map WData.int)] /\ h.get? a = some { cls := .type "list", data := .seq vs.toArray } /\ IntsAre vs ns /\ ns.length <= n := by
 have hsh : WShape.hasAll [] args [.list .int] = true := (pre_splitW hpre).1
 have hc : l.pre.holds [] { args := args } = true := (pre_splitW hpre).2
 obtain ⟨d, r, rfl, h1, h2⟩ := hasAllW_cons hsh
 obtain rfl := hasAllW_nil h2
 obtain ⟨xs, rfl, h3⟩ := hasW_list h1
 obtain ⟨ns, rfl⟩ := items_int h3
 have hlen : ns.length <= n := by
   unfold OpenLaw.pre at hc
   have h4 : (WTm.not (.lt (.lit (.int (n : Int))) (.len (.arg 0)))).holds [] { args := [.list (ns.map .int)] } = true := by
     have h4 := (holds_andW hc).1
     rw [hn] at h4
     exact h4
   have h5 := condW_of h4 (w_not (w_lt w_lit (w_len_list (w_arg rfl))))
   rw [List.length_map] at h5
   refine Nat.le_of_not_lt fun q => ?_
   have q' : (n : Int) < ((ns.length : Nat) : Int) := by omega
   first
     | (rw [decide_eq_true q'] at h5; exact absurd h5 (by decide))
     | (simp at h5; omega)
 cases hwl with
 | cons w1 w2 =>
   cases w2
   cases w1 with
   | list ho hall => exact ⟨_, _, ns, rfl, rfl, ho, C5y ns _ hall, hlen⟩
theorem V1m (l : OpenLaw) (args : List WData) : l.row.toRowW.claim.post args (.bool true) args = true :=
 postW_of (r := l.row.toRowW) (X := (true == true))
   (show WShape.has [] (.bool true) .bool = true by first | rfl | decide | simp [WShape.has, WShape.arms, WShape.armsAll])
   (show (WTm.eq .res (.lit (.bool true))).value [] { args := args, res := some (.bool true), after := args } = some (.bool (true == true)) from w_eq_bool (w_res rfl) w_lit) rfl
theorem attach_call {l : OpenLaw} {n : Nat} {q : Program} {loose : List Str} {XP : (Str -> Option Value) -> Heap -> Prop} {YP : World -> Heap -> Prop} {d : DefRec}
   (hn : l.most = some n) (hdf : d.params.defaults = [])
   (call : ∀ (w : World) (s₀ s₁ : Shared) (mg mb : Str -> Option Value) (fa : Addr) (o : Obj) (pm cd doc : Value) (a : Addr) (vs : List Value) (ns : List Int),
     Ground q loose [] XP w s₀ mg mb s₁.heap -> YP w s₁.heap ->
     s₁.heap.get? fa = some o -> o.data = .func (docDef d.name d.params d.body d.scope pm cd doc) -> s₁.heap.CodeRec cd d.name -> mg d.name = some (.ref fa) ->
     s₁.heap.get? a = some { cls := .type "list", data := .seq vs.toArray } -> IntsAre vs ns -> ns.length <= n -> s₁.gens = #[] ->
     codeAny (model l.prog w) callerA (.call (.ref fa) ⟨[.ref a], []⟩) (fun r s' => r = .ok (.ret (.bool true)) /\ OldK s₁.heap s'.heap /\ s'.os = s₁.os /\ AllBare s'.gens) s₁) :
   WalkO q loose XP YP l.row.toRowW d [] (fun f vs => PySem.call f vs) := by
 intro w s₀ s₁ mg mb G Y fa o pm cd doc dV kV ho hd hcd hD hmg hg args vals as hpre hlay hrd hwl hlo
 obtain rfl : dV = .none := Dflts.none hD hdf
 obtain rfl : kV = .none := Dflts.noKw hD
 obtain ⟨a, vs, ns, rfl, rfl, hobj, hints, hlen⟩ := V3a hn hpre hwl
 refine enter_call (codeAny_mono (call w s₀ s₁ mg mb fa o pm cd doc a vs ns G Y ho (fd_plain hd) hcd hmg hobj hints hlen hg) fun r s' hq => ?_)
 obtain ⟨rfl, h2, h3, h4⟩ := hq
 exact ⟨.inl ⟨.bool true, .bool true, [], rfl, fun _ => rfl, .bool true, V1m l _, fun _ => ⟨List.Pairwise.nil, fun _ hm => (nomatch hm)⟩⟩, h2, h3, h4⟩
section
variable {prog : Program} {w : World} {A : Around} {E : Value -> Shared -> Prop} {s : Shared} {K : Frag}
end
end Att
namespace L2
open PySem PySem.Spec PyProof.Rows
theorem D7j : ∀ {vs : List Value} {ns : List Int}, IntsAre vs ns -> U0 (ns.map V.int) vs
 | _, _, .nil => .nil
 | _, _, .cons n t h => .cons ⟨t, rfl⟩ (D7j h)
def G8 (s : Stmt) (j : Nat) : Stmt := match s with
 | .ClassDef _ _ _ body _ _ _ _ _ _ _ => body.getD j (.Pass ⟨0, 0, 0, 0⟩)
 | _ => .Pass ⟨0, 0, 0, 0⟩
def B5 (s : Stmt) : Arguments := match s with
 | .FunctionDef _ a _ _ _ _ _ _ _ _ => a
 | _ => { posonlyargs := [], args := [], vararg := none, kwonlyargs := [], kw_defaults := [], kwarg := none, defaults := [] }
def B1 (s : Stmt) : List Stmt := match s with
 | .FunctionDef _ _ b _ _ _ _ _ _ _ => b
 | _ => []
def A1 (s : Stmt) : Scope := match s with
 | .FunctionDef _ _ _ _ _ _ sc _ _ _ => sc
 | _ => { kind := .function, names := [], isGenerator := false, isCoroutine := false }
abbrev CX0 : CXT := fun _ _ _ _ _ _ => False
abbrev E0 : XK := fun _ _ _ => False
theorem Y0y {X : Cx} : J7n CX0 X E0 := fun _ _ _ _ _ _ _ h => h.elim
structure Fun (K : PySem.W.Frag) (x qual : Str) (st : Stmt) (f : Addr) (fd : FuncData) : Prop where
 ex : ∃ (oc : Value) (od : Option Addr) (kV doc pm : Value) (an : Option Addr) (cdv ct : Value) (osl : Array (Option Value)),
   fd = PySem.W.fnOf x qual (B5 st) (B1 st) (A1 st) .none kV doc pm an cdv ct /\ K.lookup f = some ⟨oc, od, .func fd, osl⟩ /\ PySem.W.codeIn K cdv qual = true
 kp : PySem.W.keepIn K (.ref f) = true
section
variable {P : Program} {w : World} {K : PySem.W.Frag} {mg : Str -> Option Value} {base : Heap}
theorem Fun.ok {x qual : Str} {st : Stmt} {f : Addr} {fd : FuncData} {N ps : List Str} {k : Nat} {sp : Sp} (F : Fun K x qual st f fd) (S : B9 N ps (A1 st)) (len : ∀ vs H Q E, sp vs H Q E -> vs.length = ps.length)
   (hbody : ∀ (cdv : Value) (A : Around) (outer : List Env) (s : Shared) (H : Hp) (vs : List V) (Q : VK) (E : XK), Z1 k (A.deeper (envOfC qual (A1 st) s.heap.objs.size f cdv)) -> sp vs H Q E ->
     ∃ t, PSs (A0w CX0 P w K mg base N qual (A1 st) f cdv A outer s H E).nox (B1 st) t /\ t { nx := fun _ H' => Q .non H', rt := Q } (A4q N vs) H) : C4 P w K mg base CX0 (k + 1) f fd ps sp := by
 obtain ⟨oc, od, kV, doc, pm, an, cdv, ct, osl, rfl, lk, hcd⟩ := F.ex
 refine V8h lk hcd S len fun A outer s H vs Q E hr hsp => ?_
 obtain ⟨t, h, q⟩ := hbody cdv A outer s H vs Q E hr hsp
 exact ⟨t, h.nox, q⟩
theorem Fun.binds {x qual : Str} {st : Stmt} {f : Addr} {fd : FuncData} {ps : List Str} (F : Fun K x qual st f fd)
   (h : ∀ (kV doc pm : Value) (an : Option Addr) (cdv ct : Value) (us : List Value), us.length = ps.length -> bindArgs (PySem.W.fnOf x qual (B5 st) (B1 st) (A1 st) .none kV doc pm an cdv ct) ⟨us, []⟩ = pure (ps.zip us)) : A0c K fd ps [] := by
 obtain ⟨oc, od, kV, doc, pm, an, cdv, ct, osl, rfl, lk, hcd⟩ := F.ex
 exact .all (h kV doc pm an cdv ct)
theorem U3 {x qual : Str} {st : Stmt} {f : Addr} {oc : Value} {od an : Option Addr} {osl : Array (Option Value)} {kV doc pm cdv ct : Value} (l : K.lookup f = some ⟨oc, od, .func (PySem.W.fnOf x qual (B5 st) (B1 st) (A1 st) .none kV doc pm an cdv ct), osl⟩)
   (c : PySem.W.codeIn K cdv qual = true) (k : PySem.W.keepIn K (.ref f) = true) : Fun K x qual st f (PySem.W.fnOf x qual (B5 st) (B1 st) (A1 st) .none kV doc pm an cdv ct) := ⟨⟨oc, od, kV, doc, pm, an, cdv, ct, osl, rfl, l, c⟩, k⟩
end
theorem Y0 {n : Nat} (h : n <= 1000) : n < sizeLine := Nat.lt_of_le_of_lt h (by decide)
section
variable {X : Cx}
theorem pv (i : Nat) {x : Str} {pos : Pos} (hN : X.N[i]? = some x := by rfl) (hv : Vis X.env.scope x := by first | exact Or.inl rfl | exact Or.inr (Or.inl rfl) | exact Or.inr (Or.inr rfl)) (hd : (x == ("__debug__" : Str)) = false := by decide)
   (hcd : (x == ("__classdict__" : Str)) = false := by decide) : PE X (.Name x pos) (tVar i) := V9s hN hv hd hcd
end
theorem U2 {A B : Prop} (h : B) : if false = true then A else B := by
 rw [if_neg Bool.false_ne_true]
 exact h
theorem Z2 {A B : Prop} (h : A) : if true = true then A else B := by
 rw [if_pos rfl]
 exact h
theorem C7w {c A B : Prop} [Decidable c] (hc : c) (h : B) : if (!decide c) = true then A else B := by
 rw [decide_eq_true hc]
 exact U2 h
def B7 (H H' : Hp) : Prop := ∀ b o, H b = some o -> H' b = some o
theorem B7.refl (H : Hp) : B7 H H := fun _ _ h => h
theorem B7.trans {H H1 H2 : Hp} (a : B7 H H1) (b : B7 H1 H2) : B7 H H2 := fun c o h => b c o (a c o h)
theorem B7.free {H H' : Hp} (e : B7 H H') {l : Addr} (h : H' l = Option.none) : H l = Option.none := by
 cases q : H l with
 | none => rfl
 | some o =>
   rw [e l o q] at h
   cases h
theorem B7.seq {K : PySem.W.Frag} {H H' : Hp} {a : Addr} {xs : List V} (e : B7 H H') (h : SqL K H a xs) : SqL K H' a xs := by
 rcases h with (h | ⟨o, h⟩) | h
 . exact .inl (.inl (e _ _ h))
 . exact .inl (.inr ⟨o, e _ _ h⟩)
 exact .inr h
end L2
set_option maxHeartbeats 4000000
namespace L2
open PySem PySem.Spec PyProof.Rows
abbrev A0t (C : Value) (t : Addr) (dd : Option Addr) (tb : Value) : Obj :=
 { cls := C, dict := dd, data := .fields #[.ref t, tb, .none, .none, .bool false, .none] }
structure A0pg (fs : List Addr) (h h' : Heap) (a : Addr) (C : Value) (t : Addr) (dd : Option Addr) (T : Addr) (fl : Value) : Prop where
 keep : ∀ b o, b ∉ fs -> b ≠ a -> h.get? b = some o -> h'.get? b = some o
 slot : ∀ b o, b ≠ a -> h.get? b = some o -> ∃ sl, h'.get? b = some { o with slots := sl }
 new : h.get? T = none
 ne : T ≠ a
 exc : h'.get? a = some (A0t C t dd (.ref T))
 tbk : ∃ oT ts, h'.get? T = some oT /\ oT.data = .fields ts /\ ts[3]? = some fl
section
variable {M : Model} {A : Around} {E : Value -> Shared -> Prop} {s : Shared} {base : Heap} {env : Env} {outer : List Env} {L a t : Addr} {C : Value} {dd : Option Addr} {tb : Value} {Q : Unit -> Shared -> Prop}
theorem Z7y {oa : Obj} {vs : Array Value} {l : List Env} (hl : s.heap.FunFrames base l) (ha : s.heap.get? a = some oa) (hd : oa.data = .fields vs) : a ∉ l.filterMap (·.frame) := by
 intro hm
 obtain ⟨_, o, ho, hn⟩ := hl.mem hm
 rw [ha] at ho
 cases ho
 exact hn vs hd
theorem U9f {head : Value} {hn : Bool} (hfr : A.frames = some (env :: outer)) (hl : s.heap.FunFrames base (env :: outer)) (hf : env.frame = some L)
   (ha : s.heap.get? a = some (A0t C t dd tb))
   (h : ∀ h' T, A0pg ((env :: outer).filterMap (·.frame)) s.heap h' a C t dd T (rawInt L) -> Q () { s with heap := h' }) :
   wpAny M A (do
     let x <- frameOf env
     let pl <- entryPlaceOf L hn
     let b <- EntryCells.newEntry head x .none (rawInt L) .none pl
     setField (.ref a) 1 b) Q E s := by
 have na := Z7y hl ha rfl
 refine wpAny_bind (wpAny_frameOf_fun hfr hl hf fun g hg => ?_)
 refine wpAny_bind (wpAny_entryPlaceOf fun pl hpl => ?_)
 unfold EntryCells.newEntry newFields
 refine wpAny_bind (wpAny_newObj_type ?_ (hpl.sizeOk5 _ _ _ _ _))
 have a1 : g.get? a = some (A0t C t dd tb) := (hg.2.1 a na).trans ha
 have a2 := fun (z : Obj) => Heap.get?_push_of_some (h := g) z a1
 have nT : g.objs.size ≠ a := Nat.ne_of_gt (Heap.lt_size a1)
 refine wpAny_setField (a2 _) rfl (by show 1 < 6; decide) (h _ g.objs.size ?_)
 have up : ∀ (z : Obj) (f : Obj -> Obj) b o, b ≠ a -> g.get? b = some o -> ((g.push z).update a f).get? b = some o := by
   intro z f b o hb e
   rw [Heap.get?_update_other _ _ (Ne.symm hb)]
   exact Heap.get?_push_of_some _ e
 refine ⟨fun b o hb hba e => up _ _ b o hba ((hg.2.1 b hb).trans e), fun b o hba e => ?_, ?_, nT, ?_, ?_⟩
 . obtain ⟨sl, e1⟩ := hg.2.2 b o e
   exact ⟨sl, up _ _ b _ hba e1⟩
 . refine Heap.get?_none_of_le ?_
   rw [hg.1]
   exact Nat.le_refl _
 . exact Heap.get?_update_self _ (a2 _) rfl
 refine ⟨_, _, (Heap.get?_update_other _ _ (Ne.symm nT)).trans (Heap.get?_push_size _ rfl), rfl, ?_⟩
 first
   | (simp; done)
   | (rcases hpl with rfl | ⟨_, _, _, _, _, _, _, rfl⟩ <;> simp)
def TbOk (h : Heap) (a : Addr) (tb : Value) : Prop := tb = .none \/ ∃ T oT ts, tb = .ref T /\ T ≠ a /\ h.get? T = some oT /\ oT.data = .fields ts /\ ts[3]? = some .none
theorem A0fk (hfr : A.frames = some (env :: outer)) (hl : s.heap.FunFrames base (env :: outer)) (hf : env.frame = some L)
   (ha : s.heap.get? a = some (A0t C t dd tb)) (ht : TbOk s.heap a tb)
   (h : ∀ h' T, (∀ b o, b ∉ (env :: outer).filterMap (·.frame) -> b ≠ a -> tb ≠ .ref b -> s.heap.get? b = some o -> h'.get? b = some o) ->
     (∀ b o, b ≠ a -> tb ≠ .ref b -> s.heap.get? b = some o -> ∃ sl, h'.get? b = some { o with slots := sl }) -> s.heap.get? T = none -> T ≠ a ->
     h'.get? a = some (A0t C t dd (.ref T)) -> (∃ oT ts, h'.get? T = some oT /\ oT.data = .fields ts /\ ts[3]? = some (rawInt L)) -> Q () { s with heap := h' }) :
   wpAny M A (noteFrame (.ref a) env) Q E s := by
 unfold noteFrame
 simp only [hf]
 refine wpAny_bind (wpAny_field ha rfl (x := tb) rfl ?_)
 rcases ht with rfl | ⟨T, oT, ts, rfl, nT, hT, dT, h3⟩
 . rw [if_neg (by decide)]
   refine U9f hfr hl hf ha fun h' T N => ?_
   exact h h' T (fun b o hb hba _ e => N.keep b o hb hba e) (fun b o hba _ e => N.slot b o hba e) N.new N.ne N.exc N.tbk
 rw [if_pos (show (Value.ref T != Value.none) = true by simp)]
 refine wpAny_bind (wpAny_field hT dT h3 ?_)
 rw [if_neg (show ¬ ((Value.none == rawInt L) = true) by simp [rawInt])]
 refine wpAny_bind (wpAny_setField hT dT (Array.getElem?_eq_some_iff.mp h3).1 ?_)
 have oth : ∀ (f : Obj -> Obj) b, b ≠ T -> (s.heap.update T f).get? b = s.heap.get? b := fun f b hb => Heap.get?_update_other _ _ (Ne.symm hb)
 have nrec : ∀ b o, s.heap.get? b = some o -> (∀ vs, o.data ≠ .fields vs) -> b ≠ T := by
   intro b o e hn q
   rw [q, hT] at e
   cases e
   exact hn ts dT
 refine U9f (s := { s with heap := _ }) hfr (hl.of_keeps fun b o e hn => ⟨o, (oth _ b (nrec b o e hn)).trans e, rfl⟩) hf ((oth _ a (Ne.symm nT)).trans ha) fun h' T' N => ?_
 have neb : ∀ b, Value.ref T ≠ Value.ref b -> b ≠ T := fun b q z => q (by rw [z])
 refine h h' T' (fun b o hb hba hbT e => N.keep b o hb hba ((oth _ b (neb b hbT)).trans e)) (fun b o hba hbT e => N.slot b o hba ((oth _ b (neb b hbT)).trans e)) ?_ N.ne N.exc N.tbk
 have nw := N.new
 by_cases q : T' = T
 . subst q
   have := Heap.get?_update_self (Obj.mapFields (·.setIfInBounds 3 Value.none)) hT (Obj.isFreed_of_fields (Obj.data_mapFields dT _))
   rw [nw] at this
   cases this
 rw [oth _ T' q] at nw
 exact nw
theorem A0fe {T : Addr} {oT : Obj} {ts : Array Value} {fl : Value} (ha : s.heap.get? a = some (A0t C t dd (.ref T))) (nT : T ≠ a) (hT : s.heap.get? T = some oT) (dT : oT.data = .fields ts) (h3 : ts[3]? = some fl)
   (h : ∀ h', (∀ b o, b ≠ T -> s.heap.get? b = some o -> h'.get? b = some o) -> TbOk h' a (.ref T) -> Q () { s with heap := h' }) : wpAny M A (setFlight (.ref a) none) Q E s := by
 have sz : 3 < ts.size := (Array.getElem?_eq_some_iff.mp h3).1
 unfold setFlight
 refine wpAny_bind (wpAny_field ha rfl (x := .ref T) rfl ?_)
 rw [if_pos (show (Value.ref T != Value.none) = true by simp)]
 refine wpAny_setField hT dT sz (h _ (fun b o hb e => (Heap.get?_update_other _ _ (Ne.symm hb)).trans e) ?_)
 have d2 := Obj.data_mapFields dT (·.setIfInBounds 3 ((none : Option Addr).elim Value.none fun f => rawInt f))
 exact .inr ⟨T, _, _, rfl, nT, Heap.get?_update_self _ hT (Obj.isFreed_of_fields d2), d2, by simp [sz]⟩
end
def Hd (A : Around) (h : Heap) : Prop := A.handled = none \/ ∃ x ox vs, A.handled = some (.ref x) /\ h.get? x = some ox /\ ox.data = .fields vs /\ vs[2]? = some .none
theorem D2w : entryFor table "proto.unchain" = some Builtin.«proto.unchain» := entryFor_of_tree (by kernel_rfl)
section
variable {prog : Program} {w : World} {A : Around} {E : Value -> Shared -> Prop} {s : Shared}
theorem J1a {α : Type} {a : Addr} {oa : Obj} {ws : Array Value} {h₀ : Heap} {Q : α -> Shared -> Prop} (hd : Hd A h₀) (k : ∀ b o, h₀.get? b = some o -> s.heap.get? b = some o) (na : h₀.get? a = none)
   (ha : s.heap.get? a = some oa) (da : oa.data = .fields ws) (h2 : 2 < ws.size)
   (h : ∀ h', (∀ b o, b ≠ a -> s.heap.get? b = some o -> h'.get? b = some o) -> (∃ o', h'.get? a = some o' /\ o'.cls = oa.cls) -> E (.ref a) { s with heap := h' }) :
   wpAny (model prog w) A (raiseNew (.ref a) : Sem α) Q E s := by
 unfold raiseNew
 refine wpAny_bind (wpAny_handled ?_)
 rcases hd with z | ⟨x, ox, vs, z, e, d, n⟩
 . rw [z]
   exact wpAny_bind (wpAny_pure (wpAny_throw (h _ (fun b o _ e => e) ⟨_, ha, rfl⟩)))
 rw [z]
 have nx : x ≠ a := by
   intro q
   rw [q, na] at e
   cases e
 dsimp only
 rw [if_pos (show (Value.ref x != Value.ref a) = true by simpa using nx)]
 refine wpAny_bind (wpAny_holding (wpAny_runValue (codeAny_builtin D2w ?_)))
 unfold Builtin.«proto.unchain»
 dsimp only
 refine wpAny_bind (wpAny_field (k x ox e) d n ?_)
 rw [if_pos (by decide)]
 refine wpAny_pure ?_
 dsimp only
 unfold updateField
 refine wpAny_bind (wpAny_bind (wpAny_load ha ?_))
 rw [da]
 dsimp only
 rw [if_pos h2]
 refine wpAny_update ha (wpAny_throw (h _ (fun b o hb e => (Heap.get?_update_other _ _ (Ne.symm hb)).trans e) ⟨_, Heap.get?_update_self _ ha (Obj.isFreed_of_fields (Obj.data_mapFields da _)), Obj.cls_mapFields _ _⟩))
theorem U8v {α : Type} {Q : α -> Shared -> Prop} (hd : Hd A s.heap)
   (h : ∀ h' e, (∀ b o, s.heap.get? b = some o -> h'.get? b = some o) -> ({ s with heap := h' } : Shared).TypeIs (.ref e) "StopIteration" -> E (.ref e) { s with heap := h' }) :
   wpAny (model prog w) A (newExc (.type "StopIteration") [] >>= fun e => (raiseNew e : Sem α)) Q E s := by
 refine wpAny_bind ?_
 simp only [newExc, newTuple]
 refine wpAny_bind (wpAny_newObj_type ?_ (by size_fits)); refine wpAny_bind (m := firstArgMember _ _) (wpAny_of_eq (a := Value.none) (by first | rfl | (simp only [firstArgMember]; rfl)) ?_)
 refine wpAny_newObj_type ?_ (by size_fits); dsimp only
 have k1 : ∀ (z : Obj) b o, s.heap.get? b = some o -> (s.heap.push z).get? b = some o := fun z b o e => Heap.get?_push_of_some _ e
 have k2 : ∀ (z y : Obj) b o, s.heap.get? b = some o -> ((s.heap.push z).push y).get? b = some o := fun z y b o e => Heap.get?_push_of_some _ (Heap.get?_push_of_some _ e)
 have nw : ∀ (z : Obj), s.heap.get? (s.heap.push z).objs.size = none := fun z => Heap.get?_none_of_le (by rw [Heap.size_push]; exact Nat.le_succ _)
 refine J1a (s := { s with heap := _ }) (h₀ := s.heap) hd (k2 _ _) (nw _) (Heap.get?_push_size _ rfl) rfl (by show 2 < 6; decide) fun h' k ⟨o', e', c'⟩ => h h' _ (fun b o e => ?_) ⟨o', e', c'⟩
 refine k b o ?_ (k2 _ _ b o e)
 intro q; rw [q, nw] at e; cases e
theorem B9x {it l : Addr} {i : Nat} {items : Array Value} {Q : Option Value -> Shared -> Prop} (hd : ∀ h' : Heap, Heap.ExtBut it s.heap h' -> Hd A h')
   (hit : s.heap.IsListIter it l i) (hl : s.heap.IsList l items) (hx : items[i]? = none)
   (hQ : ∀ h', Heap.ExtBut it s.heap h' -> Q none { s with heap := h' }) : wpAny (model prog w) A (pyNext (.ref it)) Q E s := by
 obtain ⟨o, ho, hc, dt⟩ := id hit
 obtain ⟨ol, hol, _, nl, dl⟩ := hl
 unfold pyNext
 refine wpAny_bind (wpAny_attempt (wpAny_callSpecial?_slot (name := Str.ofString "__next__") hit.typeIs slot_listiter_next (wpAny_call_entry slot_listiter_next hit.typeIs entry_listiter_next ?_ (args_listiter_next _))))
 show wpAny _ _ (field (.ref it) 0 >>= _) _ _ _; refine wpAny_bind (wpAny_field ho dt (x := .ref l) rfl ?_)
 show wpAny _ _ (if (Value.ref l == Value.none) = true then _ else _) _ _ _; rw [if_neg (show ¬ ((Value.ref l == Value.none) = true) by simp)]
 show wpAny _ _ (field (.ref it) 1 >>= _) _ _ _; refine wpAny_bind (wpAny_field ho dt (x := .int i 0) rfl ?_)
 show wpAny _ _ (seqItems? (.ref l) >>= _) _ _ _; refine wpAny_bind (wpAny_seqItems hol dl ?_)
 simp only [Int.toNat_natCast, hx]
 refine wpAny_bind (wpAny_rule (wpAny_bind (wpAny_setField ho dt (by simp) ?_)))
 have up := fun f => (Heap.SameBut.update (a := it) (h := s.heap) (f := f)).extBut
 refine U8v (s := { s with heap := _ }) (A := A.in1) (hd _ (up _)) fun h' e k ty => ?_
 refine wpAny_bind (wpAny_isInstance (T := "StopIteration") (b := true) ty isSubtype_stop ?_)
 exact wpAny_pure (hQ h' fun b o hb z => k b o (up _ b o hb z))
theorem C6a {it t : Addr} {i : Nat} {items : Array Value} {Q : Option Value -> Shared -> Prop} (hd : ∀ h' : Heap, Heap.ExtBut it s.heap h' -> Hd A h')
   (hit : IsTupIter s.heap it t i) (hl : IsTup s.heap t items) (hx : items[i]? = none)
   (hQ : ∀ h', Heap.ExtBut it s.heap h' -> Q none { s with heap := h' }) : wpAny (model prog w) A (pyNext (.ref it)) Q E s := by
 obtain ⟨o, ho, hc, dt⟩ := id hit
 obtain ⟨ol, hol, _, nl, dl⟩ := hl
 unfold pyNext
 refine wpAny_bind (wpAny_attempt (wpAny_callSpecial?_slot (name := Str.ofString "__next__") hit.typeIs slot_tupleiter_next (wpAny_call_entry slot_tupleiter_next hit.typeIs entry_tupleiter_next ?_ (args_tupleiter_next _))))
 show wpAny _ _ (field (.ref it) 0 >>= _) _ _ _; refine wpAny_bind (wpAny_field ho dt (x := .ref t) rfl ?_)
 show wpAny _ _ (if (Value.ref t == Value.none) = true then _ else _) _ _ _; rw [if_neg (show ¬ ((Value.ref t == Value.none) = true) by simp)]
 show wpAny _ _ (field (.ref it) 1 >>= _) _ _ _; refine wpAny_bind (wpAny_field ho dt (x := .int i 0) rfl ?_)
 show wpAny _ _ (seqItems? (.ref t) >>= _) _ _ _; refine wpAny_bind (wpAny_seqItems hol dl ?_)
 simp only [Int.toNat_natCast, hx]
 refine wpAny_bind (wpAny_rule (wpAny_bind (wpAny_setField ho dt (by simp) ?_)))
 have up := fun f => (Heap.SameBut.update (a := it) (h := s.heap) (f := f)).extBut
 refine U8v (s := { s with heap := _ }) (A := A.in1) (hd _ (up _)) fun h' e k ty => ?_
 refine wpAny_bind (wpAny_isInstance (T := "StopIteration") (b := true) ty isSubtype_stop ?_)
 exact wpAny_pure (hQ h' fun b o hb z => k b o (up _ b o hb z))
end
theorem Y9.there {P : Program} {w : World} {H : Hp} {h : Heap} {a : Addr} {o : HO} (x : Y9 P w H h a o) : ∃ u, h.get? a = some u := by
 cases o with
 | lst xs => obtain ⟨_, _, _, _, e⟩ := x; exact ⟨_, e⟩
 | tup xs => obtain ⟨_, _, _, _, e, _⟩ := x; exact ⟨_, e⟩
 | dK kvs => obtain ⟨_, _, _, _, o, _, _, e, _⟩ := x; exact ⟨_, e⟩
 | dT kvs => obtain ⟨_, _, _, _, o, _, _, e, _⟩ := x; exact ⟨_, e⟩
 | set S n => obtain ⟨o, _, _, _, e, _⟩ := x; exact ⟨_, e⟩
 | ins C dx fs => obtain ⟨_, _, _, e, _⟩ := x; exact ⟨_, e⟩
 | own y => obtain ⟨_, e⟩ := x; exact ⟨_, e⟩
 | xd fs => obtain ⟨_, ⟨_, _, _, e, _⟩, _⟩ := x; exact ⟨_, e⟩
 | rng lo hi => obtain ⟨_, _, _, e⟩ := x; exact ⟨_, e⟩
 | frz ob u => obtain ⟨e, _⟩ := x; exact ⟨_, e⟩
 | tbl ps => exact ⟨_, show h.get? a = some _ from x⟩
 | met f y => exact ⟨_, show h.get? a = some _ from x⟩
 | ext φ => obtain ⟨_, e, _⟩ := x; exact e
theorem HOk.new {P : Program} {w : World} {H : Hp} {h : Heap} {a : Addr} (x : HOk P w H h) (e : h.get? a = none) : H a = none := by
 cases q : H a with
 | none => rfl
 | some u =>
   obtain ⟨o, z⟩ := (x a u q).there
   rw [e] at z
   cases z
structure Nw (X : Cx) (pins : List (Addr × Obj)) (H : Hp) (b : Addr) : Prop where
 un : H b = none
 loc : b ≠ X.env.locals
 fs : b ∉ X.fs
 old : X.s₀.heap.get? b = none
 cell : ∀ x c, X.env.cells.lookup x = some c -> c ≠ b
 pin : ∀ p ∈ X.pn ++ pins, p.1 ≠ b
section
variable {X : Cx} {pins : List (Addr × Obj)} {σ : St} {H H' : Hp} {s s' : Shared} {a b t : Addr} {C : Value} {dd : Option Addr}
theorem Inv.fsFree (I : Inv X pins σ H s) : ∀ b ∈ X.fs, H b = none := fun b hb => I.stkFree b (by
 rcases I.ok.stk with z | ⟨z, zf⟩
 . rw [z]; exact hb
 . rw [z]
   unfold frs
   rw [List.filterMap_cons, zf]
   exact List.mem_cons_of_mem _ hb)
theorem Inv.nw (I : Inv X pins σ H s) (hex : X.ex = []) (e : s.heap.get? b = none) (hu : H' b = none) : Nw X pins H' b := by
 refine ⟨hu, ?_, ?_, ?_, ?_, ?_⟩
 . rintro rfl
   obtain ⟨m, ⟨o, _, _, ho, _⟩, _⟩ := I.loc
   rw [e] at ho
   cases ho
 . intro hb
   obtain ⟨_, o, ho, _⟩ := I.funs.mem hb
   rw [e] at ho
   cases ho
 . cases q : X.s₀.heap.get? b with
   | none => rfl
   | some o =>
     obtain ⟨o', z⟩ := I.base.there b o q (by rw [hex]; simp)
     rw [e] at z
     cases z
 . rintro x c h rfl
   obtain ⟨v, o, ho, _⟩ := I.cell x c h
   rw [e] at ho
   cases ho
 rintro p hp rfl
 obtain ⟨z, _⟩ := I.pin p hp
 rw [e] at z
 cases z
theorem Inv.stepN {h' : Heap} {ch : List Addr} (I : Inv X pins σ H s) (hch : ∀ b ∈ ch, Nw X pins H b)
   (keep : ∀ b o, b ≠ X.env.locals -> b ∉ X.fs -> b ∉ ch -> s.heap.get? b = some o -> h'.get? b = some o)
   (slot : ∀ b o, b ∉ ch -> s.heap.get? b = some o -> ∃ sl, h'.get? b = some { o with slots := sl }) : Inv X pins σ H { s with heap := h' } := by
 have neL : ∀ b o, X.s₀.heap.get? b = some o -> b ≠ X.env.locals := fun b o e => Nat.ne_of_lt (Nat.lt_of_lt_of_le (Heap.lt_size e) I.ok.above)
 have neC : ∀ b o, X.s₀.heap.get? b = some o -> b ∉ ch := fun b o e hb => by
   have z := (hch b hb).old
   rw [e] at z
   cases z
 have cellK : ∀ x c, X.env.cells.lookup x = some c -> ∀ v, s.heap.IsCell c v -> h'.IsCell c v := fun x c e v ⟨o, ho, hd⟩ => by
   have nch : c ∉ ch := fun z => (hch c z).cell x c e rfl
   obtain ⟨sl, q⟩ := slot c o nch ho
   exact ⟨_, q, hd⟩
 refine ⟨I.ok, I.os, I.bare, ⟨fun b o e n hb hx => ?_, fun b o e n hb hx => ?_, I.base.free, fun b o e hx => ?_, I.base.tups, I.base.frzs, I.base.tbls⟩, ?_, fun x c e => ?_, I.free, I.freeC, fun p hp => ?_, ?_, I.len⟩
 . exact keep b o (neL b o e) hb (neC b o e) (I.base.keep b o e n hb hx)
 . obtain ⟨sl, e1⟩ := I.base.slot b o e n hb hx
   obtain ⟨sl', e2⟩ := slot b _ (neC b o e) e1
   exact ⟨sl', e2⟩
 . obtain ⟨o', e1⟩ := I.base.there b o e hx
   obtain ⟨sl', e2⟩ := slot b _ (neC b o e) e1
   exact ⟨_, e2⟩
 . obtain ⟨m, hn, hl⟩ := I.loc
   refine ⟨m, ?_, fun i x v e1 e2 e3 => ?_⟩
   . obtain ⟨o, es, ep, ho, r⟩ := hn
     obtain ⟨sl, q⟩ := slot _ o (fun z => (hch _ z).loc rfl) ho
     exact ⟨_, es, ep, q, r⟩
   . obtain ⟨u, r, l⟩ := hl i x v e1 e2 e3
     refine ⟨u, r, ?_⟩
     rcases l with l | ⟨k, c, e, z⟩
     . exact .inl l
     . exact .inr ⟨k, c, e, cellK x c e _ z⟩
 . obtain ⟨v, z⟩ := I.cell x c e
   exact ⟨v, cellK x c e v z⟩
 . obtain ⟨e, n, ne, nf, d⟩ := I.pin p hp
   exact ⟨keep p.1 p.2 ne nf (fun z => (hch p.1 z).pin p hp rfl) e, n, ne, nf, d⟩
 intro c o e
 have tr : ∀ b, H b ≠ none -> ∀ u, s.heap.get? b = some u -> h'.get? b = some u := fun b hb u q =>
   keep b u (fun z => hb (by rw [z]; exact I.free)) (fun z => hb (I.fsFree b z)) (fun z => hb (hch b z).un) q
 refine (I.hok c o e).stay (fun b u hb q => tr b ?_ u q) (fun _ q => q) fun _ _ q => q
 rcases hb with rfl | hb
 . rw [e]; simp
 rw [hb]; simp
def Flt (X : Cx) (pins : List (Addr × Obj)) (H : Hp) (s : Shared) (a : Addr) (C : Value) (t : Addr) (dd : Option Addr) : Prop :=
 Nw X pins H a /\ ∃ tb, s.heap.get? a = some (A0t C t dd tb) /\ TbOk s.heap a tb /\ ∀ T, tb = .ref T -> Nw X pins H T
def C8v (X : Cx) (pins : List (Addr × Obj)) (H : Hp) (s : Shared) (a : Addr) (C : Value) (t : Addr) (dd : Option Addr) (fl : Value) : Prop :=
 Nw X pins H a /\ ∃ T oT ts, s.heap.get? a = some (A0t C t dd (.ref T)) /\ T ≠ a /\ Nw X pins H T /\ s.heap.get? T = some oT /\ oT.data = .fields ts /\ ts[3]? = some fl
structure Body (X : Cx) : Prop where
 ex : X.ex = []
 st : X.stack = X.env :: X.outer
 fr : X.env.frame = some X.env.locals
theorem C8v.flt (F : C8v X pins H s a C t dd .none) : Flt X pins H s a C t dd := by
 obtain ⟨n, T, oT, ts, e, ne, nT, eT, dT, h3⟩ := F
 exact ⟨n, _, e, .inr ⟨T, oT, ts, rfl, ne, eT, dT, h3⟩, fun T' z => by cases z; exact nT⟩
def J7r : Value -> List Addr
 | .ref z => [z]
 | _ => []
theorem J0g {M : Model} {E : Value -> Shared -> Prop} {Q : Unit -> Shared -> Prop} (B : Body X) (I : Inv X pins σ H s) (F : Flt X pins H s a C t dd)
   (k : ∀ s', Inv X pins σ H s' -> C8v X pins H s' a C t dd (rawInt X.env.locals) -> Q () s') : wpAny M X.A (noteFrame (.ref a) X.env) Q E s := by
 obtain ⟨na, tb, e, ht, nT⟩ := F
 have hfr := I.ok.frames
 rw [B.st] at hfr
 have hl := I.stack
 rw [B.st] at hl
 refine A0fk hfr hl B.fr e ht fun h' T k1 k2 k3 k4 k5 k6 => ?_
 have ch : ∀ b, b ∉ a :: J7r tb -> b ≠ a /\ tb ≠ .ref b := by
   intro b hb
   refine ⟨fun z => hb (by rw [z]; exact List.mem_cons_self), fun z => hb ?_⟩
   rw [z]
   exact List.mem_cons_of_mem _ (List.mem_singleton.mpr rfl)
 have I' : Inv X pins σ H { s with heap := h' } := by
   refine I.stepN (ch := a :: J7r tb) (fun b hb => ?_) (fun b o h1 h2 h3 q => k1 b o ?_ (ch b h3).1 (ch b h3).2 q) (fun b o h3 q => k2 b o (ch b h3).1 (ch b h3).2 q)
   . rcases List.mem_cons.mp hb with rfl | hb
     . exact na
     . cases tb <;> simp [J7r] at hb
       subst hb
       exact nT _ rfl
   . intro z
     rw [List.filterMap_cons, B.fr] at z
     rcases List.mem_cons.mp z with z | z
     . exact h1 z
     . exact h2 z
 obtain ⟨oT, ts, q1, q2, q3⟩ := k6
 exact k _ I' ⟨na, T, oT, ts, k5, k4, I.nw B.ex k3 (I.hok.new k3), q1, q2, q3⟩
theorem C6s {M : Model} {A : Around} {E : Value -> Shared -> Prop} {Q : Unit -> Shared -> Prop} {fl : Value} (I : Inv X pins σ H s) (F : C8v X pins H s a C t dd fl)
   (k : ∀ s', Inv X pins σ H s' -> C8v X pins H s' a C t dd .none -> Q () s') : wpAny M A (setFlight (.ref a) none) Q E s := by
 obtain ⟨na, T, oT, ts, e, ne, nT, eT, dT, h3⟩ := F
 refine A0fe e ne eT dT h3 fun h' k1 k2 => ?_
 have I' : Inv X pins σ H { s with heap := h' } := I.stepN (ch := [T]) (fun b hb => by
   have : b = T := by simpa using hb
   subst this
   exact nT) (fun b o _ _ hb q => k1 b o (fun z => hb (by simp [z])) q) (fun b o hb q => ⟨_, k1 b o (fun z => hb (by simp [z])) q⟩)
 rcases k2 with z | ⟨T', oT', ts', z, _, q1, q2, q3⟩
 . cases z
 cases z
 exact k _ I' ⟨na, T, oT', ts', k1 a _ (Ne.symm ne) e, ne, nT, q1, q2, q3⟩
theorem D6h {M : Model} {E : Value -> Shared -> Prop} {Q : Unit -> Shared -> Prop} (B : Body X) (I : Inv X pins σ H s) (F : Flt X pins H s a C t dd)
   (k : ∀ s', Inv X pins σ H s' -> C8v X pins H s' a C t dd .none -> Q () s') : wpAny M X.A (leaving X.env (.ref a)) Q E s := by
 unfold leaving
 exact wpAny_bind (J0g B I F fun s1 I1 F1 => C6s I1 F1 k)
end
abbrev EK := Value -> Option Addr -> St -> Hp -> Prop
def G7 (X : Cx) (EH : EK) : Prop := ∀ (pins : List (Addr × Obj)) (σ : St) (H : Hp) (s : Shared) (a t : Addr) (C : Value) (dd : Option Addr), Inv X pins σ H s -> Flt X pins H s a C t dd -> EH C dd σ H -> X.xe (.ref a) s
def CX1 (P : Program) (w : World) : CXT := fun outer H s E e s' => ∃ (a t : Addr) (C : Value) (dd : Option Addr) (H' : Hp), e = .ref a /\ s'.os = s.os /\ AllBare s'.gens /\ Un (frs outer) [] H H' s.heap s'.heap /\ HOk P w H' s'.heap /\ E C dd H' /\
 (s.heap.get? a = none /\ H' a = none) /\ ∃ T oT ts, s'.heap.get? a = some (A0t C t dd (.ref T)) /\ T ≠ a /\ (s.heap.get? T = none /\ H' T = none) /\ s'.heap.get? T = some oT /\ oT.data = .fields ts /\ ts[3]? = some .none
theorem A7v {P : Program} {w : World} {K : PySem.W.Frag} {mg : Str -> Option Value} {base : Heap} {N : List Str} {qual : Str} {scope : Scope} {f : Addr} {cd : Value} {A : Around} {outer : List Env} {s : Shared} {H : Hp} {E : XK} :
   G7 (A0w (CX1 P w) P w K mg base N qual scope f cd A outer s H E) (fun C dd _ H' => E C dd H') := by
 intro pins σ H' s' a t C dd I F h
 refine D6h (X := A0w (CX1 P w) P w K mg base N qual scope f cd A outer s H E) ⟨rfl, rfl, rfl⟩ I F fun s2 I2 F2 => ?_
 obtain ⟨na, T, oT, ts, e, ne, nT, eT, dT, h3⟩ := F2
 exact ⟨a, t, C, dd, H', rfl, I2.os, I2.bare, I2.base, I2.hok, h, ⟨na.old, na.un⟩, T, oT, ts, e, ne, ⟨nT.old, nT.un⟩, eT, dT, h3⟩
section
variable {X : Cx} {k : Nat} {f C : Addr} {fd : FuncData} {ps : List Str} {sp : Sp} {dvs : List V} {ds : List Value} {EH : EK} {x m : Str} {p pos apos : Pos} {e o : Expr} {es : List Expr} {ta : TE} {t : TA}
theorem Z9d {pins : List (Addr × Obj)} {σ : St} {H : Hp} {s : Shared} {e : Value} {s' : Shared} (hx : G7 X EH) (hex : X.ex = []) (I : Inv X pins σ H s)
   (h : CX1 X.prog X.w X.stack H s (fun C d H' => EH C d σ H') e s') : X.xe e s' := by
 obtain ⟨a, t, C, dd, H', rfl, os, bare, un, hok, hE, ⟨a1, a2⟩, T, oT, ts, z, ne, ⟨t1, t2⟩, eT, dT, h3⟩ := h
 have I' : Inv X pins σ H' s' := I.call' (ch := []) os un hok bare (fun b q => absurd q (by simp))
 exact hx pins σ H' s' a t C dd I' (C8v.flt ⟨I.nw hex a1 a2, T, oT, ts, z, ne, I.nw hex t1 t2, eT, dT, h3⟩) hE
theorem C6k {pins : List (Addr × Obj)} {σ : St} {H : Hp} {s : Shared} {Q : VK} {us : List Value} {vs : List V} (F : C4 X.prog X.w X.K X.mg X.base (CX1 X.prog X.w) k f fd ps sp) (hr : Z1 k X.A) (hb : A0c X.K fd ps ds) (hd : U0 dvs ds)
   (hx : G7 X EH) (hex : X.ex = []) (I : Inv X pins σ H s) (r : U0 vs us) (h : sp (vs ++ dvs) H Q (fun C d H' => EH C d σ H')) : wpAny (model X.prog X.w) X.A (call (.ref f) us) (EP X pins σ Q) X.xe s := by
 have r2 : U0 (vs ++ dvs) (us ++ ds) := r.append hd
 have hl : (us ++ ds).length = ps.length := by rw [<- r2.length]; exact F.len _ _ _ _ h
 refine wpAny_call (codeAny_mono (F.run X.A X.stack s H ⟨us, []⟩ (us ++ ds) (vs ++ dvs) Q _ hr I.env0 (hb s us I.kIn hl) r2 h) fun r s' hq => ?_)
 cases r with
 | error e => exact Z9d hx hex I hq
 | ok fl =>
   cases fl with
   | ret u => exact I.after hq
   | next => exact False.elim hq
   | brk => exact False.elim hq
   | cont => exact False.elim hq
def D8s (sp : Sp) (dvs : List V) (EH : EK) (t : TA) : TE := fun σ H Q => t σ H fun vs H1 => sp (vs ++ dvs) H1 Q (fun C d H' => EH C d σ H')
theorem V7u (F : C4 X.prog X.w X.K X.mg X.base (CX1 X.prog X.w) k f fd ps sp) (hr : Z1 k X.A) (hg : Gl X x) (hm : X.mg x = some (.ref f)) (hk : PySem.W.keepIn X.K (.ref f) = true) (hb : A0c X.K fd ps ds) (hd : U0 dvs ds)
   (hx : G7 X EH) (ha : PA X (e :: es) t) (hex : X.ex = [] := by rfl) (hdb : (x == ("__debug__" : Str)) = false := by decide) (he : starEach (e :: es) X.env = (false, eval e X.env) :: starEach es X.env := by rfl)
   (hpl : (backTo pos (starEach es X.env)).any (·.1) = false := by rfl) : PE X (.Call (.Name x p) (e :: es) [] pos) (D8s sp dvs EH t) := by
 intro pins s σ H Q I h
 refine wpAny_Call_Name_kw (A2j I hg hm ?_ hdb)
 refine PySem.W.callWith_K (h₀ := X.base) I.ok.mod.kin hk (thn (ha pos pins s σ H _ I h) fun us s1 ⟨vs, H1, I1, r, q⟩ => ⟨I1.kIn, ?_⟩) he hpl
 exact C6k F hr hb hd hx hex I1 r q
theorem V1s (F : C4 X.prog X.w X.K X.mg X.base (CX1 X.prog X.w) k f fd ps sp) (hr : Z1 k X.A) (hg : Gl X x) (hm : X.mg x = some (.ref f)) (hk : PySem.W.keepIn X.K (.ref f) = true) (hb : A0c X.K fd ps ds) (hd : U0 dvs ds)
   (hx : G7 X EH) (hex : X.ex = [] := by rfl) (hdb : (x == ("__debug__" : Str)) = false := by decide) : PE X (.Call (.Name x p) [] [] pos) (D8s sp dvs EH V9r) := by
 intro pins s σ H Q I h
 refine wpAny_Call_Name_kw (A2j I hg hm ?_ hdb)
 exact PySem.W.callWith_K0 I.kIn hk (C6k (us := []) F hr hb hd hx hex I .nil h)
end
section
variable {P : Program} {w : World} {K : PySem.W.Frag} {mg : Str -> Option Value} {base : Heap}
theorem Fun.okE {x qual : Str} {st : Stmt} {f : Addr} {fd : FuncData} {N ps : List Str} {k : Nat} {sp : Sp} (F : Fun K x qual st f fd) (S : B9 N ps (A1 st)) (len : ∀ vs H Q E, sp vs H Q E -> vs.length = ps.length)
   (hbody : ∀ (X : Cx) (cdv : Value) (A : Around) (outer : List Env) (s : Shared) (H : Hp) (vs : List V) (Q : VK) (E : XK), X = A0w (CX1 P w) P w K mg base N qual (A1 st) f cdv A outer s H E -> Z1 k X.A -> G7 X (fun C dd _ H' => E C dd H') -> sp vs H Q E ->
     ∃ t, PSs (A0w (CX1 P w) P w K mg base N qual (A1 st) f cdv A outer s H E) (B1 st) t /\ t { nx := fun _ H' => Q .non H', rt := Q } (A4q N vs) H) : C4 P w K mg base (CX1 P w) (k + 1) f fd ps sp := by
 obtain ⟨oc, od, kV, doc, pm, an, cdv, ct, osl, rfl, lk, hc⟩ := F.ex
 exact V8h lk hc S len fun A outer s H vs Q E hr h => hbody _ cdv A outer s H vs Q E rfl hr A7v h
theorem C4.up {k : Nat} {f : Addr} {fd : FuncData} {ps : List Str} {sp : Sp} (F : C4 P w K mg base CX0 k f fd ps sp) : C4 P w K mg base (CX1 P w) k f fd ps sp := by
 refine ⟨F.len, fun A outer s H args us vs Q E hr e0 hb r h => codeAny_mono (F.run A outer s H args us vs Q E hr e0 hb r h) fun r s' q => ?_⟩
 cases r with
 | error e => exact False.elim q
 | ok fl => cases fl <;> exact q
end
end L2
namespace L2
open PySem PySem.Spec PyProof.Rows PySem.W
theorem Z8a {K : Frag} {h : Heap} {C : Addr} {bmB : List Value} {newId : String} (X : K.In h) (q : excIn K C bmB newId = true) :
   ∃ (bm : List Value) (N : Addr) (nm qn : Str) (bs : List Value) (hd : Bool) (sn : List Str) (sub : List Value) (ab : Bool) (col : Option Bool) (dd : Option Addr) (k0 k1 k2 k3 k5 : Option Value) (mN : Str -> Option Value),
     h.get? C = some (excClassObj nm qn C N bs bm hd sn sub ab col dd k0 k1 k2 k3 k5 newId) /\ h.Ns N mN /\ mN "__init__" = none /\ OwnTail h bmB bm := by
 unfold excIn at q
 split at q
 . rename_i dd cd sl ho
   split at q
   . rename_i C' bm k0 k1 k2 k3 n k5 hm hs
     simp only [Bool.and_eq_true, beq_iff_eq, Bool.not_eq_true'] at q
     obtain ⟨⟨⟨⟨⟨r1, r2⟩, r3⟩, r4⟩, r5⟩, r6⟩ := q
     subst r1 r2
     obtain ⟨a1, a2, a3, a4, a5, a6, a7, a8, a9, a10, a11⟩ := cd
     dsimp only at hm r3 r5 r6
     subst hm r3
     have hsl : sl = #[k0, k1, k2, k3, some (.builtin n), k5] := by
       obtain ⟨l⟩ := sl
       simp only at hs
       rw [hs]
     subst hsl
     exact ⟨bm, a4, a1, a5, a2, a6, a7, a8, a9, a10, dd, k0, k1, k2, k3, k5, _, X _ _ ho, .of_isNs (isNs_of_in X r5), nsMap_none_of_in X r5 r6, tail_of_in X r4⟩
   . cases q
 cases q
section
variable {X : Cx} {x : Str} {p cpos pos : Pos} {e : Expr} {es : List Expr} {t : TA} {C : Addr} {bmB : List Value} {B newId initId : String} {EH : EK}
def A0dq (C : Addr) (EH : EK) (t : TA) : TS := fun _ σ H => t σ H fun vs H1 => vs.length <= sizeLine /\ EH (.ref C) none σ H1
theorem A4r (hg : Gl X x) (hm : X.mg x = some (.ref C)) (q : excIn X.K C bmB newId = true) (FB : ExcBaseFacts B newId initId bmB) (hh : X.A.handled = none) (hx : G7 X EH) (ha : PA X (e :: es) t) (hex : X.ex = [] := by rfl)
   (hdb : (x == ("__debug__" : Str)) = false := by decide) (he : starEach (e :: es) X.env = (false, eval e X.env) :: starEach es X.env := by rfl) (hpl : (backTo cpos (starEach es X.env)).any (·.1) = false := by rfl) :
   PS X (.Raise (some (.Call (.Name x p) (e :: es) [] cpos)) none pos) (A0dq C EH t) := by
 intro pins s σ H D I h
 obtain ⟨bm, N, nm, qn, bs, hd, sn, sub, ab, col, dd, k0, k1, k2, k3, k5, mN, hC, hN, hni, T⟩ := Z8a I.ok.mod.kin q
 refine wpAny_Raise_call_subT (C := C) (nm := nm) (q := qn) (N := N) (bs := bs) (bm := bm) (hdct := hd) (sn := sn) (sub := sub) (ab := ab) (col := col) (dd := dd) (k0 := k0) (k1 := k1) (k2 := k2) (k3 := k3) (k5 := k5) FB (mN := mN) (T.hasType FB.hasBase) hh
   (by rw [he]; show (false || (backTo cpos (starEach es X.env)).any (·.1)) = false; rw [hpl]; rfl) hni (A2j I hg hm ⟨rfl, ?_⟩ hdb)
 have ha' := ha cpos pins s σ H _ I h
 rw [he] at ha' ⊢
 refine Calls.evalArgs_plain (wpAny_mono ha' (fun us s2 ⟨vs, H1, I1, r, z, q⟩ => ⟨rfl, by rw [<- r.length]; exact z, I1.bk _ _ hC, hN.keeps I1.bk, T.keeps I1.bk, fun h' a m => ?_⟩) fun _ _ y => y)
 have I2 : Inv X pins σ H1 { s2 with heap := h' } := I1.kept (t' := s2.toks) m.keeps
 obtain ⟨t', e1, tn, e2⟩ := m.there
 exact hx pins σ H1 _ a t' (.ref C) none I2 ⟨I1.nw hex m.new (I1.hok.new m.new), .none, e1, .inl rfl, fun T z => nomatch z⟩ q
end
section
variable {X : Cx} {pins : List (Addr × Obj)} {σ : St} {H : Hp} {s : Shared}
theorem Inv.track {a : Addr} {o : Obj} (I : Inv X pins σ H s) (n : Nw X pins H a) (e : s.heap.get? a = some o) : Inv X pins σ (upd H a (.frz o (.own a))) s := by
 have ne : ∀ b u, H b = some u -> b ≠ a := fun b u z q => by rw [q, n.un] at z; cases z
 have up : ∀ b, b ≠ a -> upd H a (.frz o (.own a)) b = H b := fun b hb => C8 hb
 refine ⟨I.ok, I.os, I.bare, ⟨I.base.keep, I.base.slot, fun b u z m hx => ?_, I.base.there, fun b xs z => ?_, fun b u v z => ?_, fun b ps z => ?_⟩, I.loc, I.cell, ?_, fun x c z => ?_, fun p hp => ?_, fun b u z => ?_, I.len⟩
 . rw [up b fun q => by rw [q, n.old] at z; cases z]
   exact I.base.free b u z m hx
 . have := I.base.tups b xs z
   rw [up b (ne b _ this)]; exact this
 . have := I.base.frzs b u v z
   rw [up b (ne b _ this)]; exact this
 . obtain ⟨more, this⟩ := I.base.tbls b ps z
   exact ⟨more, by rw [up b (ne b _ this)]; exact this⟩
 . rw [up _ (Ne.symm n.loc)]; exact I.free
 . rw [up _ (n.cell x c z)]; exact I.freeC x c z
 . obtain ⟨q1, q2, q3⟩ := I.pin p hp
   exact ⟨q1, by rw [up _ (n.pin p hp)]; exact q2, q3⟩
 by_cases hb : b = a
 . subst hb
   rw [A8] at z
   cases z
   exact ⟨e, _, e⟩
 rw [up b hb] at z
 exact (I.hok b u z).stay (fun _ _ _ q => q) (fun c q => by rw [up c (ne c _ q)]; exact q) (fun c xs q => by rw [up c (ne c _ q)]; exact q)
theorem V1w {M : Model} {A : Around} {E : Value -> Shared -> Prop} {i : Nat} {x : Str} {v : V} {Q : Unit -> Shared -> Prop} (I : Inv X pins σ H s) (hN : X.N.Nodup) (hi : X.N[i]? = some x) (hk : X.env.scope.names.lookup x = some .local) (hv : σ[i]? = some (some v))
   (k : ∀ s', Inv X pins (σ.set i none) H s' -> Q () s') : wpAny M A (unbindName X.env x) Q E s := by
 obtain ⟨m, hn, hl⟩ := id I.loc
 have hcls : (X.env.scope.kind == .class || (X.env.scope.kind == .module && X.env.locals != X.env.globals)) = false := by rw [I.ok.kind]; rfl
 obtain ⟨u, _, lk⟩ := hl i x v hi hv (.inl hk)
 have hm : m x = some u := by
   rcases lk with ⟨_, z⟩ | ⟨z, _⟩
   . exact z
   . have z : X.env.scope.names.lookup x = some .cell \/ X.env.scope.names.lookup x = some .free := z
     rw [hk] at z
     rcases z with z | z <;> cases z
 refine wpAny_unbindName_local hk hn hm hcls fun h' w' hn' hs => k _ ?_
 obtain ⟨oL, _, _, hoL, _⟩ := id hn
 have nl : ∀ b o, X.s₀.heap.get? b = some o -> b ≠ X.env.locals := fun b o e => Nat.ne_of_lt (Nat.lt_of_lt_of_le (Heap.lt_size e) I.ok.above)
 refine ⟨I.ok, I.os, I.bare, ⟨fun b o e n hb hx => ?_, fun b o e n hb hx => ?_, I.base.free, fun b o e hx => ?_, I.base.tups, I.base.frzs, I.base.tbls⟩, ⟨_, hn', fun j y v' e1 e2 e3 => ?_⟩, fun y c e => ?_, I.free, I.freeC, fun p hp => ?_, fun b u z => ?_, by simpa using I.len⟩
 . exact (hs.2 b (nl b o e)).trans (I.base.keep b o e n hb hx)
 . obtain ⟨sl, e1⟩ := I.base.slot b o e n hb hx
   exact ⟨sl, (hs.2 b (nl b o e)).trans e1⟩
 . obtain ⟨o', e1⟩ := I.base.there b o e hx
   exact ⟨o', (hs.2 b (nl b o e)).trans e1⟩
 . by_cases hj : j = i
   . subst hj
     have hlen : j < σ.length := (List.getElem?_eq_some_iff.mp hv).1
     rw [List.getElem?_set_self hlen] at e2
     cases e2
   . rw [List.getElem?_set_ne (Ne.symm hj)] at e2
     obtain ⟨u', r', q⟩ := hl j y v' e1 e2 e3
     refine ⟨u', r', ?_⟩
     rcases q with ⟨k1, e⟩ | ⟨k1, c, e, z⟩
     . have : y ≠ x := fun e => hj (C8n hN e1 (e ▸ hi))
       exact .inl ⟨k1, by simp [this, e]⟩
     . exact .inr ⟨k1, c, e, z.sameBut hs (I.cne y c e)⟩
 . obtain ⟨w2, z⟩ := I.cell y c e
   exact ⟨w2, z.sameBut hs (I.cne y c e)⟩
 . obtain ⟨e, n, ne, nf, d⟩ := I.pin p hp
   exact ⟨(hs.2 p.1 ne).trans e, n, ne, nf, d⟩
 refine (I.hok b u z).stay (fun c w2 hc q => (hs.2 c ?_).trans q) (fun _ q => q) fun _ _ q => q
 rintro rfl
 rcases hc with rfl | hc
 . rw [I.free] at z; cases z
 rw [I.free] at hc; cases hc
end
abbrev Cx.hold (X : Cx) (pins : List (Addr × Obj)) (E : Value -> Shared -> Prop) : Cx := { X with pn := X.pn ++ pins, xe := E }
abbrev Cx.hnd (X : Cx) (pins : List (Addr × Obj)) (a : Addr) : Cx := { X with A := X.A.mark (some (.ref a)), calm := false, pn := X.pn ++ pins, xe := fun _ _ => False }
section
variable {X : Cx} {pins pins' : List (Addr × Obj)} {σ : St} {H : Hp} {s : Shared} {a : Addr} {E : Value -> Shared -> Prop}
theorem Inv.hold (I : Inv X pins σ H s) : Inv (X.hold pins E) [] σ H s :=
 ⟨⟨I.ok.mod, I.ok.kind, I.ok.glob, I.ok.blt, I.ok.above, I.ok.inj, I.ok.has, I.ok.cab, I.ok.hd, I.ok.frames, I.ok.stk, I.ok.exf, I.ok.bs, I.ok.bsz, I.ok.noex, I.ok.exfs, I.ok.funs, I.ok.frf⟩,
   I.os, I.bare, I.base, I.loc, I.cell, I.free, I.freeC, fun p hp => I.pin p (by simpa using hp), I.hok, I.len⟩
theorem Inv.unhold (I : Inv (X.hold pins E) pins' σ H s) : Inv X pins σ H s :=
 ⟨⟨I.ok.mod, I.ok.kind, I.ok.glob, I.ok.blt, I.ok.above, I.ok.inj, I.ok.has, I.ok.cab, I.ok.hd, I.ok.frames, I.ok.stk, I.ok.exf, I.ok.bs, I.ok.bsz, I.ok.noex, I.ok.exfs, I.ok.funs, I.ok.frf⟩,
   I.os, I.bare, I.base, I.loc, I.cell, I.free, I.freeC, fun p hp => I.pin p (List.mem_append_left _ hp), I.hok, I.len⟩
theorem Inv.hnd (I : Inv X pins σ H s) : Inv (X.hnd pins a) [] σ H s :=
 ⟨⟨I.ok.mod, I.ok.kind, I.ok.glob, I.ok.blt, I.ok.above, I.ok.inj, I.ok.has, I.ok.cab, (fun z => nomatch z), I.ok.frames, I.ok.stk, I.ok.exf, I.ok.bs, I.ok.bsz, I.ok.noex, I.ok.exfs, I.ok.funs, I.ok.frf⟩,
   I.os, I.bare, I.base, I.loc, I.cell, I.free, I.freeC, fun p hp => I.pin p (by simpa using hp), I.hok, I.len⟩
theorem Inv.unhnd (ok : X.Ok) (I : Inv (X.hnd pins a) pins' σ H s) : Inv X pins σ H s :=
 ⟨ok, I.os, I.bare, I.base, I.loc, I.cell, I.free, I.freeC, fun p hp => I.pin p (List.mem_append_left _ hp), I.hok, I.len⟩
theorem Nw.unhold {b : Addr} (n : Nw (X.hold pins E) pins' H b) : Nw X pins H b := ⟨n.un, n.loc, n.fs, n.old, n.cell, fun p hp => n.pin p (List.mem_append_left _ hp)⟩
theorem Flt.unhold {t : Addr} {C : Value} {dd : Option Addr} (F : Flt (X.hold pins E) pins' H s a C t dd) : Flt X pins H s a C t dd := by
 obtain ⟨n, tb, e, ok, m⟩ := F
 exact ⟨n.unhold, tb, e, ok, fun T z => (m T z).unhold⟩
theorem SP.unhold {D : D2y} {f : Flow} {s' : Shared} (h : SP (X.hold pins E) pins' D f s') : SP X pins D f s' := by
 cases f with
 | next => obtain ⟨σ', H', I, q⟩ := h; exact ⟨σ', H', I.unhold, q⟩
 | brk => obtain ⟨σ', H', I, q⟩ := h; exact ⟨σ', H', I.unhold, q⟩
 | cont => obtain ⟨σ', H', I, q⟩ := h; exact ⟨σ', H', I.unhold, q⟩
 | ret u => obtain ⟨v, σ', H', I, r, q⟩ := h; exact ⟨v, σ', H', I.unhold, r, q⟩
end
structure J8n (K : Frag) (R : Addr) : Prop where
 ty : typeIn K (.ref R) = some (.type "type")
 cl : (clsIn K R).isSome = true
 ex : subIn K (.ref R) (.type "BaseException") = some true
theorem A7w {K : Frag} {M : Model} {h : Heap} {R : Addr} (X : K.In h) (c : (clsIn K R).isSome = true) : Looks M h (isType (.ref R)) true := by
 unfold clsIn at c
 split at c
 . rename_i ho
   intro A' Q' E' s' k q
   unfold isType loadHead
   exact wpAny_bind (wpAny_loadPart (k _ _ (X _ _ ho)) (wpAny_pure q))
 cases c
theorem V2a {K : Frag} {M : Model} {A : Around} {E : Value -> Shared -> Prop} {s : Shared} {a R : Addr} {C : Value} {oa : Obj} {b : Bool} {Q : Bool -> Shared -> Prop} (X : K.In s.heap) (ha : s.heap.get? a = some oa) (hc : oa.cls = C) (c : J8n K R)
   (m : subIn K C (.ref R) = some b) (h : Q b s) : wpAny M A (excMatches (.ref a) (.ref R)) Q E s := by
 obtain ⟨hp, g, d, tk, os⟩ := s
 have L1 : Looks M hp (typeOf (.ref R)) (.type "type") := looks_typeIn X c.ty
 have L2 : Looks M hp (isSubtype (.ref R) (.type "BaseException")) true := looks_subIn X c.ex
 have L3 : Looks M hp (isSubtype C (.ref R)) b := looks_subIn X m
 have L4 : Looks M hp (typeOf (.ref a)) C := hc ▸ (Looks.ld ha).andThen .now
 have L5 : Looks M hp (isType (.ref R)) true := A7w X c.cl
 unfold excMatches
 unfold isInstance
 refine wpAny_bind (wpAny_bind (L1.at ?_))
 rw [tc_notTuple]
 refine wpAny_pure ?_
 simp only [Bool.false_eq_true, if_false]
 refine wpAny_bind (wpAny_pure ?_)
 simp only [List.forIn_cons, List.forIn_nil]
 unfold isExcClass
 refine wpAny_bind (wpAny_bind (wpAny_bind (wpAny_bind (L5.at ?_))))
 simp only [if_true]
 refine L2.at ?_
 simp only [Bool.not_true, Bool.false_eq_true, if_false]
 refine wpAny_pure (wpAny_pure ?_)
 refine wpAny_bind (L4.at ?_)
 refine wpAny_bind (wpAny_bind (wpAny_bind (L3.at ?_)))
 cases b with
 | true => simp only [if_true]; exact wpAny_pure (wpAny_pure (wpAny_pure h))
 | false => simp only [Bool.false_eq_true, if_false]; exact wpAny_pure (wpAny_pure (wpAny_pure h))
def tTry (K : Frag) (R : Addr) (i : Nat) (tb : EK -> TS) (ts : Addr -> TS) : TS := fun D σ H =>
 tb (fun C dd σ' H' => subIn K C (.ref R) = some true /\ ∀ (a t T : Addr), H' a = none ->
   ts a { nx := fun σ2 H2 => D.nx (σ2.set i none) H2, rt := D.rt, bk := fun σ2 H2 => D.bk (σ2.set i none) H2, ct := fun σ2 H2 => D.ct (σ2.set i none) H2 }
     (σ'.set i (some (.ref a))) (upd H' a (.frz (A0t C t dd (.ref T)) (.own a)))) D σ H
section
variable {X : Cx} {x n : Str} {np hpos pos : Pos} {R : Addr} {i : Nat} {body suite : List Stmt} {b₀ : Stmt} {tb : EK -> TS} {ts : Addr -> TS}
theorem A0eb (B : Body X) (hg : Gl X x) (hm : X.mg x = some (.ref R)) (c : J8n X.K R) (hN : X.N.Nodup) (hi : X.N[i]? = some n) (hk : X.env.scope.names.lookup n = some .local)
   (hb : ∀ pins Ew EHb, G7 (X.hold pins Ew) EHb -> PSs (X.hold pins Ew) body (tb EHb)) (hs : ∀ pins a, PSs (X.hnd pins a) (b₀ :: suite) (ts a))
   (hdb : (x == ("__debug__" : Str)) = false := by decide) (hf : X.fn n = true \/ X.env.scope.names.lookup n = some .local := by first | exact .inl rfl | exact .inr rfl | assumption) :
   PS X (.Try body [.ExceptHandler (some (.Name x np)) (some n) (b₀ :: suite) hpos] [] [] pos) (tTry X.K R i tb ts) := by
 intro pins s σ H D I h
 refine wpAny_Try_except ?_
 refine wpAny_mono (hb pins _ _ ?cat [] s σ H D I.hold h) (fun f s1 hf1 => ?_) (fun e s1 he => he)
 case cat =>
   intro pins' σ' H' s' a t C dd I' F' hE
   obtain ⟨hsub, hE⟩ := hE
   show wpAny (model X.prog X.w) X.A (noteFrame (.ref a) X.env) _ X.xe s'
   have J := I'.unhold
   have F := F'.unhold
   refine J0g B J F fun s2 J2 F2 => C6s J2 F2 fun s3 J3 F3 => ?_
   obtain ⟨na, T, oT, ts', e3, ne3, nT3, eT3, dT3, h33⟩ := id F3
   refine wpAny_handleBy_cons (codeAny_handlers_test ?_) (by intro z; cases z)
   have K3 : Inv (X.hnd pins a) [] σ' H' s3 := J3.hnd
   refine A2j K3 hg hm ?_ hdb
   refine V2a J3.kIn e3 rfl c hsub ?_
   show codeAny _ _ _ _ _
   refine codeAny_handlers_suite_as ?_
   refine C6s J3 F3 fun s4 J4 F4 => ?_
   obtain ⟨na4, T4, oT4, ts4, e4, _⟩ := id F4
   have J5 := J4.track na4 e4
   refine B1f (v := .ref a) J5 hN hi (.inl hk) rfl (fun s5 J6 => ?_) hf
   refine wpAny_mono (hs pins a [] s5 _ _ _ J6.hnd (hE a t T4 na4.un)) (fun f s6 hf6 => ?_) (fun _ _ z => z.elim)
   have fin : ∀ {σ6 : St} {H6 : Hp} {Q6 : Unit -> Shared -> Prop}, Inv (X.hnd pins a) [] σ6 H6 s6 -> (∀ s7, Inv X pins (σ6.set i none) H6 s7 -> Q6 () s7) ->
       wpAny (model X.prog X.w) X.A (do bindName X.env n .none; unbindBehindTheSuite X.env n hpos) Q6 X.xe s6 := by
     intro σ6 H6 Q6 K6 k6
     have L6 := K6.unhnd J6.ok
     refine wpAny_bind (wpAny_bindName (B1f (v := .non) L6 hN hi (.inl hk) rfl (fun s7 J7 => ?_) hf))
     unfold unbindBehindTheSuite
     have hlen : i < σ6.length := by rw [L6.len]; exact (List.getElem?_eq_some_iff.mp hi).1
     refine wpAny_onRaise (V1w J7 hN hi hk (List.getElem?_set_self hlen) fun s8 J8 => k6 s8 ?_)
     rw [List.set_set] at J8
     exact J8
   cases f with
   | next => obtain ⟨σ6, H6, K6, q⟩ := hf6; exact fin K6 fun s7 J7 => ⟨_, _, J7, q⟩
   | brk => obtain ⟨σ6, H6, K6, q⟩ := hf6; exact fin K6 fun s7 J7 => ⟨_, _, J7, q⟩
   | cont => obtain ⟨σ6, H6, K6, q⟩ := hf6; exact fin K6 fun s7 J7 => ⟨_, _, J7, q⟩
   | ret u => obtain ⟨v, σ6, H6, K6, r, q⟩ := hf6; exact fin K6 fun s7 J7 => ⟨v, _, _, J7, r, q⟩
 cases f with
 | next => exact wpAny_execs_nil (SP.unhold hf1)
 | brk => exact SP.unhold hf1
 | cont => exact SP.unhold hf1
 | ret u => exact SP.unhold hf1
end
structure J8h (K : Frag) (C : Addr) : Prop where
 ga : findIn K (.ref C) "__getattribute__" = some (some (.builtin "BaseException.__getattribute__"))
 gh : findIn K (.ref C) "__getattr__" = some none
 ca : findIn K (.ref C) "__class__" = some (some (.builtin "object.__class__"))
 sn : specialIn K (.builtin "object.__class__") "__get__" = some (some (.builtin "getset_descriptor.__get__"))
 tk : takesIn K (.builtin "object.__class__") = some true
 ob : mroIn K C (.type "object") = some true
 be : subIn K (.ref C) (.type "BaseException") = some true
 cl : (clsIn K C).isSome = true
theorem B0n {prog : Program} {w : World} {A : Around} {E : Value -> Shared -> Prop} {s : Shared} {K : Frag} {a C : Addr} {oa : Obj} {od : Option Obj} {Q : Option Value -> Shared -> Prop} (F : J8h K C) (X : K.In s.heap) (I : PySem.W.InstAt s.heap a oa C od)
   (h : Q (some (.ref C)) { s with toks := s.toks + 1 }) : wpAny (model prog w) A (getAttr? (.ref a) "__class__") Q E s := by
 obtain ⟨hp, g, d, t, os⟩ := s
 have L0 := I.type (M := model prog w)
 have L1 := looks_findIn (M := model prog w) X F.ga
 have L2 := looks_findIn (M := model prog w) X F.gh
 have L3 : Looks (model prog w) hp (isInstance (.ref a) (.type "BaseException")) true := L0.andThen (looks_subIn X F.be)
 have hf : findObj K C od "__class__" = some (.bind (.builtin "getset_descriptor.__get__") (.builtin "object.__class__")) := by
   obtain ⟨cd, hc⟩ := Option.isSome_iff_exists.mp F.cl
   unfold findObj
   rw [hc, Option.bind_some, F.ca, Option.bind_some]
   simp [F.sn, F.tk]
 have L4 := looks_find (M := model prog w) X I hf
 have hk : builtinKind "BaseException.__getattribute__" = some .slot := by decide +kernel
 have hsplit : splitId "BaseException.__getattribute__" = some ("BaseException", "__getattribute__") := by decide +kernel
 have hargs := PySem.F.args_bexc_ga (.ref a) (.str "__class__" t)
 have hb := PySem.F.attr_ValueError.ga.bind (.ref a)
 unfold getAttr? getAttrBy? getAttrBy
 refine wpAny_bind (wpAny_mkText (wpAny_bind (wpAny_attempt (wpAny_holding (wpAny_bind (L0.at (wpAny_bind (L1.at ?_))))))))
 dsimp only
 rw [if_neg (show ¬ ((onTheHeap (Value.ref C) && Value.builtin "BaseException.__getattribute__" == Value.builtin "object.__getattribute__") = true) by
   rw [show (Value.builtin "BaseException.__getattribute__" == Value.builtin "object.__getattribute__") = false by decide +kernel, Bool.and_false]; exact Bool.false_ne_true)]
 unfold getAttrByItsOwn
 refine wpAny_bind (m := hookBefore (.ref C)) (L2.at ?_)
 refine wpAny_bind (wpAny_attempt (wpAny_holding ?_))
 unfold callGetattribute
 rw [if_neg (by decide)]
 unfold boundAndCalled
 rw [hb]
 refine wpAny_bind (wpAny_pure ?_)
 refine wpAny_call (codeAny_call_builtin PySem.F.attr_ValueError.ga.plain PySem.F.entry_bexc_ga ?_)
 have chk : ∀ {A' : Around} {Q' : Unit -> Shared -> Prop} {E' : Value -> Shared -> Prop}, Q' () ⟨hp, g, d, t + 1, os⟩ -> wpAny (model prog w) A' (checkBuiltinCall "BaseException.__getattribute__" ⟨[.ref a, .str "__class__" t], []⟩) Q' E' ⟨hp, g, d, t + 1, os⟩ := by
   intro A' Q' E' hq
   simp only [checkBuiltinCall, hk, hsplit]
   refine wpAny_bind ?_
   refine L3.at ?_
   repeat (first | assumption | wp_step)
 refine chk ?_
 show wpAny _ _ (Builtin.«object.__getattribute__» ⟨[.ref a, .str "__class__" t], []⟩) _ _ _
 unfold Builtin.«object.__getattribute__»
 refine wpAny_bind (wpAny_pure ?_)
 refine wpAny_bind (wpAny_pure ?_)
 refine wpAny_bind (L0.at (wpAny_bind (L4.at ?_)))
 dsimp only
 show wpAny _ _ (holding [Value.builtin "object.__class__"] (call (.builtin "getset_descriptor.__get__") [.builtin "object.__class__", .ref a, .ref C]) >>= ret) _ _ _
 refine wpAny_bind (wpAny_holding (wpAny_call (class_get (s := ⟨hp, g, d, t + 1, os⟩) X I F.ob (wpAny_pure ?_))))
 exact handed_on rfl (wpAny_pure h)
def A0p (X : Cx) : Prop := X.A.handled = none \/ ∃ x o u vs, X.A.handled = some (.ref x) /\ X.H₀ x = some (.frz o u) /\ o.data = .fields vs /\ vs[2]? = some .none
section
variable {X : Cx} {pins : List (Addr × Obj)} {σ : St} {H : Hp} {s : Shared}
theorem Inv.hdB {it : Addr} (I : Inv X pins σ H s) (h : A0p X) (hn : H it = none) : ∀ h' : Heap, Heap.ExtBut it s.heap h' -> Hd X.A h' := by
 intro h' k
 rcases h with z | ⟨x, o, u, vs, z, e, d, n⟩
 . exact .inl z
 have q := I.base.frzs x o u e
 exact .inr ⟨x, o, vs, z, k x o (fun w => by rw [w, hn] at q; cases q) (I.hok x _ q).1, d, n⟩
end
structure Y1w (P : Program) (w : World) (K : Frag) (tg : Expr) (J : It) (it : Addr) (tn : Nat -> Heap -> Prop) : Prop where
 obj : ∀ i h, tn i h -> ∃ o, h.get? it = some o /\ ∀ v, o.data ≠ .cell v
 keep : ∀ i h h', tn i h -> (∀ o, h.get? it = some o -> h'.get? it = some o) -> tn i h'
 item : ∀ (X : Cx), X.prog = P -> X.w = w -> X.K = K -> A0p X -> ∀ (i : Nat) (pins : List (Addr × Obj)) (s : Shared) (σ : St) (H : Hp) (E : Value -> Shared -> Prop), Inv X pins σ H s -> A4f X pins H it -> tn i s.heap -> J.go i H ->
   wpAny (model P w) X.A (pyNext (.ref it)) (fun r s1 => ∃ u, r = some u /\
     wpAny (model P w) X.A (letOwnedTupleGo tg (.ref it) u) (fun _ s2 => ∃ x, Inv X pins σ H s2 /\ U5 x u /\ J.yld i H x H /\ tn (i + 1) s2.heap) E s1) E s
 done : ∀ (X : Cx), X.prog = P -> X.w = w -> X.K = K -> A0p X -> ∀ (i : Nat) (pins : List (Addr × Obj)) (s : Shared) (σ : St) (H : Hp) (E : Value -> Shared -> Prop), Inv X pins σ H s -> A4f X pins H it -> tn i s.heap -> J.stop i H ->
   wpAny (model P w) X.A (pyNext (.ref it)) (fun r s1 => r = none /\ Inv X pins σ H s1) E s
 self : ∀ (A : Around) (i : Nat) (s : Shared) (Q : Value -> Shared -> Prop) (E : Value -> Shared -> Prop), tn i s.heap -> Q (.ref it) s -> wpAny (model P w) A (pyIter (.ref it)) Q E s
theorem J6j {P : Program} {w : World} {K : Frag} {tg : Expr} (a it : Addr) : Y1w P w K tg (Itl K a) it (fun i h => h.IsListIter it a i) where
 obj := fun i h ⟨o, e, c, d⟩ => ⟨o, e, fun v z => by rw [d] at z; cases z⟩
 keep := fun i h h' st k => st.at fun o e => k o e
 item := by
   intro X hP hw hK hc i pins s σ H E I hf st hg
   subst hP hw hK
   obtain ⟨xs, x, hq, hx⟩ := hg
   obtain ⟨its, rv, p, hz⟩ := I.list hq
   obtain ⟨u, hu, ru⟩ := rv.get hx
   obtain ⟨f0, f1, f2, f3, f4, f5⟩ := hf
   refine wpAny_pyNext_list_item st p.isList (x := u) (by simpa using hu) fun h' st' sb => ?_
   have I1 : Inv X pins σ H { s with heap := h' } := I.turned (t' := s.toks) (fun b o hb e => (sb.2 b hb).trans e) f0 f1 f3 f4 f5
   obtain ⟨o, e, c, d⟩ := id st'
   exact ⟨u, rfl, J1t (s := { s with heap := h' }) e c d (by decide) ⟨x, I1, ru, ⟨rfl, fun ys hy => by rw [I.list_inj hy hq]; exact hx⟩, st'⟩⟩
 done := by
   intro X hP hw hK hc i pins s σ H E I hf st hg
   subst hP hw hK
   obtain ⟨xs, hq, hx⟩ := hg
   obtain ⟨its, rv, p, hz⟩ := I.list hq
   obtain ⟨f0, f1, f2, f3, f4, f5⟩ := hf
   have hl := rv.length
   exact B9x (I.hdB hc f0) st p.isList (by simp; omega) fun h' eb => ⟨rfl, I.turned (t' := s.toks) (fun b o hb e => eb b o hb e) f0 f1 f3 f4 f5⟩
 self := fun _ _ _ _ _ st h => wpAny_pyIter_listiter st h
theorem V1a {P : Program} {w : World} {K : Frag} {tg : Expr} (a it : Addr) : Y1w P w K tg (Itt K a) it (fun i h => h.IsTupleIter it a i) where
 obj := fun i h ⟨o, e, c, d⟩ => ⟨o, e, fun v z => by rw [d] at z; cases z⟩
 keep := fun i h h' st k => st.at fun o e => k o e
 item := by
   intro X hP hw hK hc i pins s σ H E I hf st hg
   subst hP hw hK
   obtain ⟨xs, x, hq, hx⟩ := hg
   obtain ⟨its, rv, p, hz⟩ := I.tuple hq
   obtain ⟨u, hu, ru⟩ := rv.get hx
   obtain ⟨f0, f1, f2, f3, f4, f5⟩ := hf
   refine wpAny_pyNext_tuple_item st (show s.heap.IsTuple a its.toArray from p) (x := u) (by simpa using hu) fun h' st' sb => ?_
   have I1 : Inv X pins σ H { s with heap := h' } := I.turned (t' := s.toks) (fun b o hb e => (sb.2 b hb).trans e) f0 f1 f3 f4 f5
   obtain ⟨o, e, c, d⟩ := id st'
   exact ⟨u, rfl, J1t (s := { s with heap := h' }) e c d (by decide) ⟨x, I1, ru, ⟨rfl, fun ys hy => by rw [I.tuple_inj hy hq]; exact hx⟩, st'⟩⟩
 done := by
   intro X hP hw hK hc i pins s σ H E I hf st hg
   subst hP hw hK
   obtain ⟨xs, hq, hx⟩ := hg
   obtain ⟨its, rv, p, hz⟩ := I.tuple hq
   obtain ⟨f0, f1, f2, f3, f4, f5⟩ := hf
   have hl := rv.length
   exact C6a (I.hdB hc f0) st p (by simp; omega) fun h' eb => ⟨rfl, I.turned (t' := s.toks) (fun b o hb e => eb b o hb e) f0 f1 f3 f4 f5⟩
 self := fun _ _ _ _ _ st h => wpAny_pyIter_tupleiter st h
def PIH (X : Cx) (tg iter : Expr) (wi : TI) : Prop :=
 ∀ (pins : List (Addr × Obj)) (s : Shared) (σ : St) (H : Hp) (R : It -> Hp -> Prop), Inv X pins σ H s -> wi σ H R ->
   wpAny (model X.prog X.w) X.A (eval iter X.env) (fun v s1 => wpAny (model X.prog X.w) X.A (pyIter v) (fun itv s2 => ∃ (it : Addr) (tn : Nat -> Heap -> Prop) (J : It) (H' : Hp), itv = .ref it /\ Inv X pins σ H' s2 /\ Y1w X.prog X.w X.K tg J it tn /\ tn 0 s2.heap /\
     A4f X pins H' it /\ R J H') X.xe s1) X.xe s
section
variable {X : Cx} {tg : Expr}
theorem J1d {l : Expr} {tl : TE} (hl : PE X l tl) : PIH X tg l (U8x X.K tl) := by
 intro pins s σ H R I h
 refine thn (hl pins s σ H _ I h) fun v s1 ⟨x, H1, I1, r1, q1⟩ => ?_
 obtain ⟨a, e, ⟨xs, hq⟩, q⟩ := q1
 subst e
 cases r1
 obtain ⟨its, rv, p, hz⟩ := I1.list hq
 exact wpAny_pyIter_list p.isList ⟨s1.heap.objs.size, _, _, H1, rfl, I1.kept (t' := s1.toks) fun b o e => Heap.get?_push_of_some _ e, J6j a _, ⟨_, Heap.get?_push_size _ rfl, rfl, rfl⟩, I1.fpOk (Nat.le_refl _) (I1.hok.fresh (Nat.le_refl _)), q⟩
theorem D9s {l : Expr} {tl : TE} (hl : PE X l tl) : PIH X tg l (iTup X.K tl) := by
 intro pins s σ H R I h
 refine thn (hl pins s σ H _ I h) fun v s1 ⟨x, H1, I1, r1, q1⟩ => ?_
 obtain ⟨a, e, ⟨xs, hq⟩, q⟩ := q1
 subst e
 cases r1
 obtain ⟨its, rv, p, hz⟩ := I1.tuple hq
 exact wpAny_pyIter_tuple (show s1.heap.IsTuple a its.toArray from p) ⟨s1.heap.objs.size, _, _, H1, rfl, I1.kept (t' := s1.toks) fun b o e => Heap.get?_push_of_some _ e, V1a a _, ⟨_, Heap.get?_push_size _ rfl, rfl, rfl⟩, I1.fpOk (Nat.le_refl _) (I1.hok.fresh (Nat.le_refl _)), q⟩
end
theorem V8y {prog : Program} {w : World} {A : Around} {s : Shared} {elt target iter : Expr} {scope : Scope} {pos : Pos} {it acc : Value} {env : Env} {R : Result -> Shared -> Prop} (I : Nat -> Shared -> Prop)
   (turn : ∀ n s, I n s -> wpAny (model prog w) A (pyNext it) (fun r s₁ => match r with
     | none => R (.ok .next) s₁
     | some v => wpAny (model prog w) A (letOwnedTupleGo target it v) (fun _ s₀ => wpAny (model prog w) A (assign target env v) (fun _ s₂ => wpAny (model prog w) A (eval elt env) (fun x s₄ =>
         wpAny (model prog w) A (call (.builtin "list.append") [acc, x]) (fun _ s₅ => ∃ m, m < n /\ I m s₅) (notedBy (model prog w) A env fun e s' => R (.error e) s') s₄) (notedBy (model prog w) A env fun e s' => R (.error e) s') s₂)
         (notedBy (model prog w) A env fun e s' => R (.error e) s') s₀) (notedBy (model prog w) A env fun e s' => R (.error e) s') s₁) (notedBy (model prog w) A env fun e s' => R (.error e) s') s)
   (n : Nat) (h : I n s) : codeAny (model prog w) A (.compLoop (.ListComp elt [⟨target, iter, [], 0⟩] scope pos) 0 it acc env) R s := by
 refine codeAny_loop rfl I (fun n s hI => ?_) n h
 show wpAny _ A ((compTurn (.ListComp elt [⟨target, iter, [], 0⟩] scope pos) 0 it acc env).onRaise (fun x => do noteFrame x env; theTreesLotGoes x)) _ _ s
 refine wpAny_noted ?_; rw [compTurn_list1]
 refine wpAny_bind (wpAny_standAt (wpAny_bind (wpAny_mono (turn n s hI) (fun r s₁ h₁ => ?_) fun _ _ z => z)))
 cases r with
 | none => exact wpAny_pure h₁
 | some v =>
   refine wpAny_bind (wpAny_mono h₁ (fun _ s₀ q₀ => ?_) fun _ _ z => z)
   refine wpAny_bind (wpAny_mono q₀ (fun _ s₂ q₂ => ?_) fun _ _ z => z)
   exact wpAny_bind (wpAny_bind (wpAny_mono q₂ (fun x s₄ q₄ => wpAny_bind (wpAny_mono q₄ (fun _ s₅ q₅ => wpAny_pure (wpAny_pure ⟨rfl, q₅⟩)) fun _ _ z => z)) fun _ _ z => z))
section
variable {X : Cx}
theorem U9m {pins : List (Addr × Obj)} {σ : St} {H : Hp} {s : Shared} {C : Addr} {h' : Heap} (I : Inv X pins σ H s) (f : A4f X pins H C) (sb : Heap.SameBut C s.heap h') : Inv X pins σ H { s with heap := h' } :=
 I.turned (t' := s.toks) (fun b o hb e => (sb.2 b hb).trans e) f.1 f.2.1 f.2.2.2.1 f.2.2.2.2.1 f.2.2.2.2.2
end
section
variable {X : Cx} {a b c : Expr} {ta tb tc : TE} {pos : Pos}
theorem U9 : OpR X (binaryOp .Mult) (rI IntMulOk fun i j => .int (i * j)) := opI fun _ _ _ _ _ _ _ hc q => mul_int q hc
theorem G3 : OpR X (binaryOp .FloorDiv) (rI (fun _ j => 0 < j /\ j.natAbs.log2 < 9000) fun i j => .int (i / j)) := opI fun i j _ _ _ _ _ hc q => by
 have h1 : (0 : Int) < j := hc.1
 exact floordiv_int (by omega) (by rw [Int.fdiv_eq_ediv_of_nonneg i (by omega)]; exact q) (.inl (PyProof.noPylong_of_log2 hc.2))
theorem A7u {i : Int} {k : Nat} (h : i.natAbs < 2 ^ k) (hk : 0 < k) : i.natAbs.log2 < k := by
 by_cases z : i.natAbs = 0
 . rw [z]; simpa using hk
 exact (Nat.log2_lt z).mpr h
inductive TyE (K : Frag) (H : Hp) : V -> Value -> Prop where
 | of {x : V} {t : Value} (h : C0m K H x t) : TyE K H x t
 | exc {a C t : Addr} {T : Value} {u : HO} (e : H a = some (.frz (A0t (.ref C) t none T) u)) (k : J8h K C) : TyE K H (.ref a) (.ref C)
 | excD {a C t : Addr} {T : Value} {d : Addr} {u : HO} {fs : List (Str × V)} (e : H a = some (.frz (A0t (.ref C) t (some d) T) u)) (hd : H d = some (.xd fs)) (k : J8h K C) : TyE K H (.ref a) (.ref C)
 | tupK {a : Addr} {o : Obj} (l : K.lookup a = some o) (c : o.cls = .type "tuple") : TyE K H (.ref a) (.type "tuple")
theorem J7h {pins : List (Addr × Obj)} {σ : St} {H : Hp} {s : Shared} {A : Around} {E : Value -> Shared -> Prop} {Q : Value -> Shared -> Prop} {c : Value} {b : Bool} {x : V} {u t : Value} (I : Inv X pins σ H s) (rx : U5 x u) (ty : TyE X.K H x t)
   (e : kitOne X.K t c = some b) (h : ∀ tk, Q (.bool b) { s with toks := tk }) : wpAny (model X.prog X.w) A (call (.builtin "isinstance") [u, c]) Q E s := by
 cases ty with
 | of h' => exact V1q I rx h' e h
 | exc ea k =>
   cases rx
   rename_i a C t0 T u0
   have o1 : s.heap.get? a = some (A0t (.ref C) t0 none T) := (I.hok a _ ea).1
   refine kia_one (H := fun h => PySem.W.InstAt h a (A0t (.ref C) t0 none T) C none) ?_ I.kIn ⟨o1, rfl, rfl, trivial⟩ e (fun z => nomatch z) h
   refine ⟨fun M h _ J => J.type, fun M h K _ => A7w K k.cl, fun h tp dd its n sl K htp => ?_, fun K J q => B0n k K J q⟩
   refine Bool.eq_false_iff.mpr fun q => ?_
   have e : C = tp := Value.ref.inj (beq_iff_eq.mp q)
   subst e
   have z := k.cl
   unfold clsIn at z
   split at z
   . rename_i ho
     have y := (K _ _ ho).symm.trans htp
     cases y
   . cases z
 | tupK l c =>
   cases rx
   exact PySem.W.kia_one PySem.W.kitx_tuple I.kIn ⟨_, I.kIn _ _ l, c⟩ e (fun z => nomatch z) h
 | excD ea hd k =>
   cases rx
   rename_i a C t0 T d u0 fs
   have o1 : s.heap.get? a = some (A0t (.ref C) t0 (some d) T) := (I.hok a _ ea).1
   obtain ⟨mA, nA, _⟩ := (show ∃ mA, s.heap.Ns1 d mA /\ ∀ f, A6q (fs.lookup f) (mA f) from I.hok d _ hd)
   obtain ⟨od, o2, _⟩ := C0g nA
   refine kia_one (H := fun h => PySem.W.InstAt h a (A0t (.ref C) t0 (some d) T) C (some od)) ?_ I.kIn ⟨o1, rfl, rfl, o2⟩ e (fun z => nomatch z) h
   refine ⟨fun M h _ J => J.type, fun M h K _ => A7w K k.cl, fun h tp dd its n sl K htp => ?_, fun K J q => B0n k K J q⟩
   refine Bool.eq_false_iff.mpr fun q => ?_
   have e : C = tp := Value.ref.inj (beq_iff_eq.mp q)
   subst e
   have z := k.cl
   unfold clsIn at z
   split at z
   . rename_i ho
     have y := (K _ _ ho).symm.trans htp
     cases y
   . cases z
def clsV : V -> Option Value
 | .ty n => some (.type n)
 | .ref a => some (.ref a)
 | _ => none
theorem G9t : A4v X (.builtin "isinstance") (fun xs H Q => ∃ x c cv t b, xs = [x, c] /\ clsV c = some cv /\ TyE X.K H x t /\ kitOne X.K t cv = some b /\ Q (.bl b) H) := by
 intro pins s σ H xs us Q I r h
 obtain ⟨x, c, cv, t, b, rfl, hc, ty, e, q⟩ := h
 obtain ⟨u, v, rfl, ru, rv⟩ := U0.two r
 have : v = cv := by
   cases c <;> simp only [clsV] at hc <;> first | (cases hc; exact rv) | cases hc
 subst this
 exact J7h I ru ty e fun tk => ⟨.bl b, H, I.tok tk, rfl, q⟩
mutual
inductive RdD (K : Frag) (H : Hp) : V -> PyData -> Prop where
 | non : RdD K H .non .none
 | bl (b : Bool) : RdD K H (.bl b) (.bool b)
 | int (i : Int) : RdD K H (.int i) (.int i)
 | str (x : Str) : RdD K H (.str x) (.str x)
 | tup {a : Addr} {xs : List V} {ds : List PyData} (h : SqT K H a xs) (r : C8w K H xs ds) : RdD K H (.ref a) (.tuple ds)
 | lst {a : Addr} {xs : List V} {ds : List PyData} (h : SqL K H a xs) (r : C8w K H xs ds) : RdD K H (.ref a) (.list ds)
inductive C8w (K : Frag) (H : Hp) : List V -> List PyData -> Prop where
 | nil : C8w K H [] []
 | cons {x : V} {xs : List V} {d : PyData} {ds : List PyData} (h : RdD K H x d) (r : C8w K H xs ds) : C8w K H (x :: xs) (d :: ds)
end
mutual
theorem RdD.reads {pins : List (Addr × Obj)} {σ : St} {H : Hp} {s : Shared} (I : Inv X pins σ H s) : ∀ {x : V} {d : PyData} {u : Value}, RdD X.K H x d -> U5 x u -> ∃ as, Reads s.heap u d as
 | _, _, _, .non, r => by cases r; exact ⟨_, .none⟩
 | _, _, _, .bl b, r => by cases r; exact ⟨_, .bool b⟩
 | _, _, _, .int i, r => by obtain ⟨t, rfl⟩ := r; exact ⟨_, .int i t⟩
 | _, _, _, .str x, r => by obtain ⟨t, rfl⟩ := r; exact ⟨_, .str x t⟩
 | _, _, _, .tup h q, r => by
   cases r
   obtain ⟨its, rv, ⟨o, e, c, n, d⟩, _⟩ := I.tuple h
   obtain ⟨as, z⟩ := C8w.reads I q rv
   exact ⟨_, reads_tuple_at e c d (by simpa using z)⟩
 | _, _, _, .lst h q, r => by
   cases r
   obtain ⟨its, rv, p, _⟩ := I.list h
   obtain ⟨o, e, c, n, d⟩ := p.isList
   obtain ⟨as, z⟩ := C8w.reads I q rv
   exact ⟨_, reads_list_at e c d (by simpa using z)⟩
theorem C8w.reads {pins : List (Addr × Obj)} {σ : St} {H : Hp} {s : Shared} (I : Inv X pins σ H s) : ∀ {xs : List V} {ds : List PyData} {us : List Value}, C8w X.K H xs ds -> U0 xs us -> ∃ as, ReadsAll s.heap us ds as
 | _, _, _, .nil, r => by cases r; exact ⟨_, .nil⟩
 | _, _, _, .cons h q, r => by
   cases r with
   | cons r1 r2 =>
     obtain ⟨as, z⟩ := RdD.reads I h r1
     obtain ⟨bs, y⟩ := C8w.reads I q r2
     exact ⟨_, .cons z y⟩
end
def rEqD (K : Frag) (n : Bool) : R2 := fun x y H Q => ∃ d e, RdD K H x d /\ RdD K H y e /\ SeqAt.shaped d = true /\ SeqAt.shaped e = true /\ Q (.bl (if n then !PyData.eqv d e else PyData.eqv d e)) H
theorem D9e (hu : X.A.units + 64 < cLine) : OpR X (compareOp .Eq) (rEqD X.K false) := by
 intro pins s σ H x y v u Q I rx ry q
 obtain ⟨d, e, hx, hy, sd, se, q⟩ := q
 obtain ⟨as, z⟩ := hx.reads I rx
 obtain ⟨bs, z'⟩ := hy.reads I ry
 exact eq_dataH z z' sd se hu ⟨.bl (PyData.eqv d e), H, I, rfl, q⟩
theorem V9g (hu : X.A.units + 64 < cLine) : OpR X (compareOp .NotEq) (rEqD X.K true) := by
 intro pins s σ H x y v u Q I rx ry q
 obtain ⟨d, e, hx, hy, sd, se, q⟩ := q
 obtain ⟨as, z⟩ := hx.reads I rx
 obtain ⟨bs, z'⟩ := hy.reads I ry
 exact ne_dataH z z' sd se hu ⟨.bl (!PyData.eqv d e), H, I, rfl, q⟩
theorem V7s (hc : X.A.handled = none) : A4v X (.builtin "any") (fun xs H Q => ∃ (l : Addr) (bs : List Bool), xs = [.ref l] /\ SqL X.K H l (bs.map V.bl) /\ Q (.bl (bs.any id)) H) := by
 intro pins s σ H xs us Q I r h
 obtain ⟨l, bs, rfl, hl, q⟩ := h
 obtain ⟨u, rfl, ru⟩ := U0.one r
 cases ru
 obtain ⟨its, rv, p, hz⟩ := I.list hl
 obtain ⟨o, e, _⟩ := id p.isList
 have hlt : l < s.heap.objs.size := Heap.lt_size e
 have hlen : its.length = bs.length := by rw [<- rv.length, List.length_map]
 refine call_any_walk (wpAny_pyIter_list p.isList ?_)
 refine ⟨s.heap.objs.size, [s.heap.objs.size, l], [s.heap.objs.size], its.toArray.size, _, _, fun i => (bs[i]?).getD false, rfl, Walks.list (A := X.A.in1) hc _ l (Nat.ne_of_lt hlt) its.toArray, ⟨⟨_, Heap.get?_push_size _ rfl, rfl, rfl⟩, p.isList.push _⟩, fun i v s' Q' E' hP hQ => ?_, fun h' tk hk => ?_⟩
 . have hP : its[i]? = some v := by simpa using hP
   have hi : i < bs.length := by rw [<- hlen]; exact (List.getElem?_eq_some_iff.mp hP).1
   obtain ⟨u', hu', ru'⟩ := rv.get (i := i) (x := V.bl bs[i]) (by simp [hi])
   rw [hP] at hu'
   cases hu'
   cases ru'
   have z : (bs[i]?).getD false = bs[i] := by simp [hi]
   dsimp only at hQ
   rw [z] at hQ
   exact wpAny_truthy_bool hQ
 have z : ((List.range its.toArray.size).any fun i => (bs[i]?).getD false) = bs.any id := by
   rw [List.size_toArray, hlen]
   exact LSm.range_any bs
 rw [z]
 exact ⟨.bl (bs.any id), H, I.kept fun b x e => hk b x (fun hm => by rw [List.mem_singleton.mp hm] at e; exact Nat.lt_irrefl _ (Heap.lt_size e)) (Heap.get?_push_of_some _ e), rfl, q⟩
inductive J1x (X : Cx) : Expr -> TE -> Prop where
 | lit {x : Str} {j : Nat} {pos : Pos} : J1x X (.Constant (.str x) j pos) (tC (.str x))
 | int {v : Expr} {tv : TE} {pos : Pos} (h : PE X v tv) : J1x X (.FormattedValue v (-1) none pos) (fun σ H Q => tv σ H fun y H1 => ∃ i, y = .int i /\ i.natAbs.log2 < 1920 /\ Q (.str (toString i)) H1)
theorem J1x.pe {e : Expr} {t : TE} (h : J1x X e t) : PE X e t := by
 cases h with
 | lit => exact B0
 | int h =>
   intro pins s σ H Q I q
   refine FormattedValue_plain (thn (h pins s σ H _ I q) fun u s1 ⟨y, H1, I1, r, i, e, l, q⟩ => ?_)
   subst e
   obtain ⟨t, rfl⟩ := r
   exact formatField_int_small l ⟨.str (toString i), H1, I1.tok _, ⟨_, rfl⟩, q⟩
inductive C0n (X : Cx) : List Expr -> (Str -> TE) -> Prop where
 | nil : C0n X [] (fun out _ H Q => out.length <= sizeLine /\ Q (.str out) H)
 | cons {e : Expr} {es : List Expr} {t : TE} {r : Str -> TE} (h : J1x X e t) (hr : C0n X es r) : C0n X (e :: es) (fun out σ H Q => t σ H fun x H1 => ∃ y, x = .str y /\ (out ++ y).length <= sizeLine /\ r (out ++ y) σ H1 Q)
theorem C0n.run {es : List Expr} {t : Str -> TE} (h : C0n X es t) : ∀ (out : Str) (pins : List (Addr × Obj)) (s : Shared) (σ : St) (H : Hp) (Q : VK), Inv X pins σ H s -> t out σ H Q ->
   wpAny (model X.prog X.w) X.A (joinParts out (evalEach es X.env)) (EP X pins σ Q) X.xe s := by
 induction h with
 | nil =>
   intro out pins s σ H Q I q
   exact joinParts_nil ⟨.str out, H, I.tok _, ⟨_, rfl⟩, q.2⟩ q.1
 | @cons e es t r h hr ih =>
   intro out pins s σ H Q I q
   show wpAny _ _ (joinParts out (eval e X.env :: evalEach es X.env)) _ _ _
   refine joinParts_cons (thn (h.pe pins s σ H _ I q) fun u s1 ⟨x, H1, I1, rx, y, ey, z, q⟩ => ?_)
   subst ey
   obtain ⟨t', rfl⟩ := rx
   exact ⟨z, ih _ pins s1 σ H1 Q I1 q⟩
theorem U9a {e1 e2 : Expr} {es : List Expr} {t : Str -> TE} {pos : Pos} (h : C0n X (e1 :: e2 :: es) t) : PE X (.JoinedStr (e1 :: e2 :: es) pos) (t Str.empty) := by
 intro pins s σ H Q I q
 exact JoinedStr_many (h.run _ pins s σ H Q I q)
end
section
variable {P : Program} {w : World} {K : Frag} {mg : Str -> Option Value} {base : Heap}
end
section
variable {X : Cx} {k : Nat} {f : Addr} {fd : FuncData} {ps : List Str} {sp : Sp} {x : Str} {p pos : Pos} {e : Expr} {es : List Expr} {t : TA}
end
theorem Inv.big {X : Cx} {pins : List (Addr × Obj)} {σ : St} {H : Hp} {s : Shared} (I : Inv X pins σ H s) : sysModules < s.heap.objs.size := by
 have h : mainGlobals < s.heap.objs.size := (I.mod.glob.keeps I.bk).lt
 exact Nat.lt_trans (by decide) h
theorem V9y {P : Program} {w : World} {H : Hp} (h : Heap) (hb : sysModules < h.objs.size) : Y9 P w H (h.push { cls := .type "dict", data := .dict #[] }) h.objs.size (.dK []) :=
 ⟨Nat.zero_le _, beq_eq_false_iff_ne.mpr (Ne.symm (Nat.ne_of_lt hb)), [], .nil, Heap.DictOf.new h⟩
abbrev EKF : EK := fun _ _ _ _ => False
theorem A0a {X : Cx} : G7 X EKF := fun _ _ _ _ _ _ _ _ _ _ h => h.elim
structure Def (K : Frag) (mg : Str -> Option Value) (x : Str) (ps : List Str) (st : Stmt) (f : Addr) (fd : FuncData) : Prop where
 F : Fun K x x st f fd
 g : mg x = some (.ref f)
 b : A0c K fd ps []
theorem D7 {K : Frag} {h : Heap} {mg : Str -> Option Value} {x : Str} {ps : List Str} {st : Stmt} {f : Addr} {oc : Value} {od an : Option Addr} {osl : Array (Option Value)} {kV doc pm cdv ct : Value} (X : K.In h) (G : h.Ns mainGlobals mg)
   (a : nsIn K mainGlobals x = some (some (.ref f))) (l : K.lookup f = some ⟨oc, od, .func (fnOf x x (B5 st) (B1 st) (A1 st) .none kV doc pm an cdv ct), osl⟩) (c : codeIn K cdv x = true) (k : keepIn K (.ref f) = true)
   (hb : ∀ (kV doc pm : Value) (an : Option Addr) (cdv ct : Value) (us : List Value), us.length = ps.length -> bindArgs (fnOf x x (B5 st) (B1 st) (A1 st) .none kV doc pm an cdv ct) ⟨us, []⟩ = pure (ps.zip us)) :
   Def K mg x ps st f (fnOf x x (B5 st) (B1 st) (A1 st) .none kV doc pm an cdv ct) :=
 ⟨U3 (st := st) l c k, mg_of X G a, (U3 (st := st) l c k).binds hb⟩
theorem Z3 {c A B : Prop} [Decidable c] (h : ¬ c) (b : B) : if decide c = true then A else B := by rw [decide_eq_false h]; exact U2 b
theorem A2w {c A B : Prop} [Decidable c] (h : c) (a : A) : if decide c = true then A else B := by rw [decide_eq_true h]; exact Z2 a
theorem J0 {c A B : Prop} [Decidable c] (a : c -> A) (b : ¬ c -> B) : if decide c = true then A else B := by
 by_cases h : c
 . exact A2w h (a h)
 exact Z3 h (b h)
def A0ns (t : TS) : TS := fun D σ H => ∃ J : St -> Hp -> Prop, t { D with nx := J } σ H /\ ∀ σ' H', J σ' H' -> D.nx σ' H'
theorem B4 {X : Cx} {st : Stmt} {t : TS} (h : PS X st t) : PS X st (A0ns t) := by
 intro pins s σ H D I q
 obtain ⟨J, q, k⟩ := q
 refine thn (h pins s σ H _ I q) fun f s' z => ?_
 cases f with
 | next => obtain ⟨σ', H', I', y⟩ := z; exact ⟨σ', H', I', k _ _ y⟩
 | brk => exact z
 | cont => exact z
 | ret u => exact z
theorem ixs {xs : List Int} {i : Int} (h0 : 0 <= i) (h1 : i < xs.length) : ∃ v, v ∈ xs /\ atI (xs.map V.int) i = some (.int v) := by
 obtain ⟨j, rfl⟩ := Int.eq_ofNat_of_zero_le h0
 have hj : j < xs.length := by omega
 exact ⟨xs[j], List.getElem_mem hj, J9 (by simp [hj])⟩
theorem ixv {xs : List V} {i : Int} (h0 : 0 <= i) (h1 : i < xs.length) : ∃ v, v ∈ xs /\ atI xs i = some v := by
 obtain ⟨j, rfl⟩ := Int.eq_ofNat_of_zero_le h0
 have hj : j < xs.length := by omega
 exact ⟨xs[j], List.getElem_mem hj, J9 (by simp [hj])⟩
theorem B7.upd {H : Hp} {p : Addr} {o : HO} (h : H p = none) : B7 H (L2.upd H p o) := fun b u e => by rw [C8 (D5 e h)]; exact e
theorem C9 {n : Nat} (h : n <= 1000) : n <= sizeLine := Nat.le_of_lt (Y0 h)
section
variable {X : Cx} {k j : Nat} {f : Addr} {fd : FuncData} {ps : List Str} {sp : Sp} {EH : EK} {x : Str} {st : Stmt} {p pos : Pos} {e : Expr} {es : List Expr} {t : TA}
theorem D4 (D : Def X.K X.mg x ps st f fd) (F : C4 X.prog X.w X.K X.mg X.base (CX1 X.prog X.w) j f fd ps sp) (hr : Z1 k X.A) (hx : G7 X EH) (ha : PA X (e :: es) t) (hj : j <= k := by decide) (hg : Gl X x := by rfl) (hex : X.ex = [] := by rfl) (hdb : (x == ("__debug__" : Str)) = false := by decide)
   (he : starEach (e :: es) X.env = (false, eval e X.env) :: starEach es X.env := by rfl) (hpl : (backTo pos (starEach es X.env)).any (·.1) = false := by rfl) : PE X (.Call (.Name x p) (e :: es) [] pos) (D8s sp [] EH t) :=
 V7u (F.mono hj) hr hg D.g D.F.kp D.b .nil hx ha hex hdb he hpl
theorem J7w (D : Def X.K X.mg x ps st f fd) (F : C4 X.prog X.w X.K X.mg X.base (CX1 X.prog X.w) j f fd ps sp) (hr : Z1 k X.A) (hx : G7 X EH) (hj : j <= k := by decide) (hg : Gl X x := by rfl) (hex : X.ex = [] := by rfl) (hdb : (x == ("__debug__" : Str)) = false := by decide) :
   PE X (.Call (.Name x p) [] [] pos) (D8s sp [] EH V9r) :=
 V1s (F.mono hj) hr hg D.g D.F.kp D.b .nil hx hex hdb
theorem pty {n : Str} {T : String} (hm : X.mg n = none) (hv : bootBuiltins n = some (.type T)) (hg : Gl X n := by rfl) (hn : n ≠ "__name__" := by decide) (hdb : (n == ("__debug__" : Str)) = false := by decide) : PE X (.Name n pos) (tC (.ty T)) := Z6h hg hm hv rfl hn hdb
theorem V9c {n : Str} {C : Addr} (hm : X.mg n = some (.ref C)) (hg : Gl X n := by rfl) (hdb : (n == ("__debug__" : Str)) = false := by decide) : PE X (.Name n pos) (tC (.ref C)) := Z8s hg hm rfl hdb
theorem V2k {a b : Expr} {ta tb : TE} (hm : X.mg "isinstance" = none) (ha : PE X a ta) (hb : PE X b tb) (hg : Gl X "isinstance" := by rfl)
   (h1 : starEach [a, b] X.env = (false, eval a X.env) :: starEach [b] X.env := by rfl) (h2 : starEach [b] X.env = (false, eval b X.env) :: starEach [] X.env := by rfl) (h3 : (backTo pos (starEach [b] X.env)).any (·.1) = false := by rfl) :
   PE X (.Call (.Name "isinstance" p) [a, b] [] pos) (tCB (fun xs H Q => ∃ x c cv t b, xs = [x, c] /\ clsV c = some cv /\ TyE X.K H x t /\ kitOne X.K t cv = some b /\ Q (.bl b) H) (V9m ta (V9m tb V9r))) :=
 G5 G9t hg hm boot_isinstance (A0 ha (A0 hb A6 h2) h1) (he := h1) (hpl := h3)
end
section
variable {X : Cx} {k j : Nat} {f : Addr} {fd : FuncData} {ps : List Str} {sp : Sp} {x : Str} {st : Stmt} {p pos : Pos} {e : Expr} {es : List Expr} {t : TA}
end
structure Mk0 (K : Frag) (C : Addr) : Prop where
 makes : makesIn K C = true
 init : findIn K (.ref C) "__init__" = some (some (.builtin "object.__init__"))
 kp : keepIn K (.ref C) = true
section
variable {X : Cx} {k j : Nat} {f C : Addr} {fd : FuncData} {ps : List Str} {sp : Sp} {dvs : List V} {ds : List Value} {EH : EK} {x m : Str} {p pos apos : Pos} {e o : Expr} {es : List Expr} {ta : TE} {t : TA}
def tNew (C : Addr) : TE := fun _ H Q => ∀ x dx, H x = none -> H dx = none -> dx ≠ x -> Q (.ref x) (upd (upd H dx (.own x)) x (.ins C dx []))
theorem Z8v {pins : List (Addr × Obj)} {σ : St} {H : Hp} {s : Shared} {Q : VK} (M : Mk0 X.K C) (I : Inv X pins σ H s) (h : tNew C σ H Q) : wpAny (model X.prog X.w) X.A (call (.ref C) []) (EP X pins σ Q) X.xe s := by
 have hq := h (s.heap.objs.size + 1) s.heap.objs.size (I.hok.fresh (Nat.le_succ _)) (I.hok.fresh (Nat.le_refl _)) (Nat.ne_of_lt (Nat.lt_succ_self _))
 have I2 := Inv.made (C := C) I
 have Y := makes_of (M := model X.prog X.w) I.kIn M.makes
 refine wpAny_call (V0z I.kIn M.makes M.init (fun self => Looks.of_pure (oi_bind self)) ?_)
 have e2 : ((s.heap.push emptyDict).push (instObj C s.heap.objs.size)).get? (s.heap.objs.size + 1) = some (instObj C s.heap.objs.size) := by
   have := Heap.get?_push_size (s.heap.push emptyDict) (o := instObj C s.heap.objs.size) rfl
   rwa [Heap.size_push] at this
 have t1 : Looks (model X.prog X.w) ((s.heap.push emptyDict).push (instObj C s.heap.objs.size)) (typeOf (.ref (s.heap.objs.size + 1))) (.ref C) := (Looks.ld e2).andThen .now
 have t2 : Looks (model X.prog X.w) ((s.heap.push emptyDict).push (instObj C s.heap.objs.size)) (isInstance (.ref (s.heap.objs.size + 1)) (.type "object")) true := t1.andThen (Y.top.keeps fun b o e => Heap.get?_push_of_some _ (Heap.get?_push_of_some _ e))
 refine codeAny_call_builtin oi_plain entry_oi (@check_slot (model X.prog X.w) _ _ _ "object.__init__" "object" "__init__" (.ref (s.heap.objs.size + 1)) [] [] _ oi_kind oi_split t2 (oi_args (.ref (s.heap.objs.size + 1))) ?_)
 rw [oi_run]
 exact wpAny_pure (And.intro rfl ⟨V.ref (s.heap.objs.size + 1), _, I2, rfl, hq⟩)
theorem B0z (M : Mk0 X.K C) (hg : Gl X x) (hm : X.mg x = some (.ref C)) (hdb : (x == ("__debug__" : Str)) = false := by decide) : PE X (.Call (.Name x p) [] [] pos) (tNew C) := by
 intro pins s σ H Q I h
 refine wpAny_Call_Name_kw (A2j I hg hm ?_ hdb)
 exact callWith_K0 I.kIn M.kp (Z8v M I h)
def V9t (C : Addr) (m : Str) (sp : Sp) (dvs : List V) (EH : EK) (ta : TE) (t : TA) : TE := fun σ H Q => ta σ H fun x H1 => ∃ a dx fs, x = .ref a /\ H1 a = some (.ins C dx fs) /\ fs.lookup m = none /\
 t σ H1 fun vs H2 => sp (x :: (vs ++ dvs)) H2 Q (fun C d H' => EH C d σ H')
theorem B5v {pl : Sem Bool} (he : PE X o ta) (c : Cls X.K C) (hm : Z7 X.K C m f) (F : C4 X.prog X.w X.K X.mg X.base (CX1 X.prog X.w) j f fd ps sp) (hr : Z1 k X.A) (hb : A0c X.K fd ps ds) (hd : U0 dvs ds) (hx : G7 X EH) (ha : PA X (e :: es) t)
   (hj : j <= k := by decide) (hex : X.ex = [] := by rfl)
   (hst : starEach (e :: es) X.env = (false, eval e X.env) :: starEach es X.env := by rfl) (hpl : (backTo pos (starEach es X.env)).any (·.1) = false := by rfl)
   (ht : eval (.Call (.Attribute o m apos) (e :: es) [] pos) X.env = (do
     let ov <- eval o X.env
     standAt apos.atName
     let (f, first) <- holding [ov] (getMethod ov m pl)
     callWith pos f first (backTo pos (starEach (e :: es) X.env)) (backToKw pos (keywordEach [] X.env))) := by rfl) :
   PE X (.Call (.Attribute o m apos) (e :: es) [] pos) (V9t C m sp dvs EH ta t) := by
 intro pins s σ H Q I h
 refine methodCall_KW (pl := pl) (thn (he pins s σ H _ I h) fun u s1 ⟨x, H1, I1, rx, a, dx, fs, ex, ea, l, q⟩ => ?_) ht
 subst ex
 obtain rfl : u = Value.ref a := rx
 refine C7v I1 ea c hm l ?_
 refine callWith_K (first := [.ref a]) (h₀ := X.base) I.ok.mod.kin hm.kp (thn (ha pos pins s1 σ H1 _ I1 q) fun us s2 ⟨vs, H2, I2, r, q2⟩ => ⟨I2.kIn, ?_⟩) hst hpl
 exact C6k (us := .ref a :: us) (vs := .ref a :: vs) (F.mono hj) hr hb hd hx hex I2 (.cons rfl r) q2
theorem A7n {pl : Sem Bool} (he : PE X o ta) (c : Cls X.K C) (hm : Z7 X.K C m f) (F : C4 X.prog X.w X.K X.mg X.base (CX1 X.prog X.w) j f fd ps sp) (hr : Z1 k X.A) (hb : A0c X.K fd ps ds) (hd : U0 dvs ds) (hx : G7 X EH)
   (hj : j <= k := by decide) (hex : X.ex = [] := by rfl)
   (ht : eval (.Call (.Attribute o m apos) [] [] pos) X.env = (do
     let ov <- eval o X.env
     standAt apos.atName
     let (f, first) <- holding [ov] (getMethod ov m pl)
     callWith pos f first (backTo pos (starEach [] X.env)) (backToKw pos (keywordEach [] X.env))) := by rfl) :
   PE X (.Call (.Attribute o m apos) [] [] pos) (V9t C m sp dvs EH ta V9r) := by
 intro pins s σ H Q I h
 refine methodCall_KW (pl := pl) (thn (he pins s σ H _ I h) fun u s1 ⟨x, H1, I1, rx, a, dx, fs, ex, ea, l, q⟩ => ?_) ht
 subst ex
 obtain rfl : u = Value.ref a := rx
 refine C7v I1 ea c hm l ?_
 exact callWith_K0 (first := [.ref a]) I1.kIn hm.kp (C6k (us := [.ref a]) (vs := [.ref a]) (F.mono hj) hr hb hd hx hex I1 (.cons rfl .nil) q)
def A0ff (C : Addr) (sp : Sp) (dvs : List V) (EH : EK) (t : TA) : TE := fun σ H Q => t σ H fun vs H1 => ∀ x dx, H1 x = none -> H1 dx = none -> dx ≠ x ->
 sp (.ref x :: (vs ++ dvs)) (upd (upd H1 dx (.own x)) x (.ins C dx [])) (fun v H2 => v = .non /\ Q (.ref x) H2) (fun C d H' => EH C d σ H')
theorem V2j {pins : List (Addr × Obj)} {σ : St} {H : Hp} {s : Shared} {Q : VK} {us : List Value} {vs : List V} (M : Mk X.K C f) (F : C4 X.prog X.w X.K X.mg X.base (CX1 X.prog X.w) k f fd ps sp) (hr : Z1 (k + 1) X.A) (hb : A0c X.K fd ps ds) (hd : U0 dvs ds)
   (hx : G7 X EH) (hex : X.ex = []) (I : Inv X pins σ H s) (r : U0 vs us)
   (h : ∀ x dx, H x = none -> H dx = none -> dx ≠ x -> sp (.ref x :: (vs ++ dvs)) (upd (upd H dx (.own x)) x (.ins C dx [])) (fun v H2 => v = .non /\ Q (.ref x) H2) (fun C d H' => EH C d σ H')) :
   wpAny (model X.prog X.w) X.A (call (.ref C) us) (EP X pins σ Q) X.xe s := by
 have hq := h (s.heap.objs.size + 1) s.heap.objs.size (I.hok.fresh (Nat.le_succ _)) (I.hok.fresh (Nat.le_refl _)) (Nat.ne_of_lt (Nat.lt_succ_self _))
 have I2 := Inv.made (C := C) I
 have r2 : U0 (V.ref (s.heap.objs.size + 1) :: (vs ++ dvs)) (Value.ref (s.heap.objs.size + 1) :: (us ++ ds)) := .cons rfl (r.append hd)
 have hl : (Value.ref (s.heap.objs.size + 1) :: us ++ ds).length = ps.length := by
   have e := r2.length
   rw [F.len _ _ _ _ hq] at e
   exact e.symm
 refine wpAny_call (J0w (f := f) I.kIn M.makes M.init (beq_iff_eq.mp M.fn) (codeAny_mono (F.run _ X.stack _ _ ⟨Value.ref (s.heap.objs.size + 1) :: us, []⟩ (Value.ref (s.heap.objs.size + 1) :: (us ++ ds)) _ _ _ (hr.make C us [])
   (I2.env0.make C us []) (hb _ (Value.ref (s.heap.objs.size + 1) :: us) I2.kIn hl) r2 hq) fun r s' hq' => ?_))
 cases r with
 | error e => exact Z9d hx hex I2 hq'
 | ok fl =>
   cases fl with
   | ret u =>
     obtain ⟨v, H', I3, rv, ev, q3⟩ := I2.after hq'
     subst ev
     exact ⟨rv, ⟨V.ref (s.heap.objs.size + 1), H', I3, rfl, q3⟩⟩
   | next => exact False.elim hq'
   | brk => exact False.elim hq'
   | cont => exact False.elim hq'
theorem C7e (M : Mk X.K C f) (F : C4 X.prog X.w X.K X.mg X.base (CX1 X.prog X.w) j f fd ps sp) (hr : Z1 k X.A) (hm : X.mg x = some (.ref C)) (hb : A0c X.K fd ps ds) (hd : U0 dvs ds) (hx : G7 X EH)
   (ha : PA X (e :: es) t) (hj : j + 1 <= k := by decide) (hg : Gl X x := by rfl) (hex : X.ex = [] := by rfl) (hdb : (x == ("__debug__" : Str)) = false := by decide) (he : starEach (e :: es) X.env = (false, eval e X.env) :: starEach es X.env := by rfl) (hpl : (backTo pos (starEach es X.env)).any (·.1) = false := by rfl) :
   PE X (.Call (.Name x p) (e :: es) [] pos) (A0ff C sp dvs EH t) := by
 intro pins s σ H Q I h
 refine wpAny_Call_Name_kw (A2j I hg hm ?_ hdb)
 refine callWith_K (h₀ := X.base) I.ok.mod.kin M.kp (thn (ha pos pins s σ H _ I h) fun us s1 ⟨vs, H1, I1, r, q⟩ => ⟨I1.kIn, ?_⟩) he hpl
 exact V2j M F (hr.mono hj) hb hd hx hex I1 r q
end
theorem Z7n {n : Nat} (h : n <= sizeLine) : Builtin.Str.tooLong n = false := by
 unfold Builtin.Str.tooLong
 exact decide_eq_false (by omega)
section
variable {X : Cx}
end
structure Y1y (K : Frag) (x qual : Str) (st : Stmt) (dV : Value) (f : Addr) (fd : FuncData) : Prop where
 ex : ∃ (oc : Value) (od : Option Addr) (kV doc pm : Value) (an : Option Addr) (cdv ct : Value) (osl : Array (Option Value)),
   fd = fnOf x qual (B5 st) (B1 st) (A1 st) dV kV doc pm an cdv ct /\ K.lookup f = some ⟨oc, od, .func fd, osl⟩ /\ codeIn K cdv qual = true
 kp : keepIn K (.ref f) = true
section
variable {P : Program} {w : World} {K : Frag} {mg : Str -> Option Value} {base : Heap}
theorem Y1y.okE {x qual : Str} {st : Stmt} {dV : Value} {f : Addr} {fd : FuncData} {N ps : List Str} {k : Nat} {sp : Sp} (F : Y1y K x qual st dV f fd) (S : B9 N ps (A1 st)) (len : ∀ vs H Q E, sp vs H Q E -> vs.length = ps.length)
   (hbody : ∀ (X : Cx) (cdv : Value) (A : Around) (outer : List Env) (s : Shared) (H : Hp) (vs : List V) (Q : VK) (E : XK), X = A0w (CX1 P w) P w K mg base N qual (A1 st) f cdv A outer s H E -> Z1 k X.A -> G7 X (fun C dd _ H' => E C dd H') -> sp vs H Q E ->
     ∃ t, PSs (A0w (CX1 P w) P w K mg base N qual (A1 st) f cdv A outer s H E) (B1 st) t /\ t { nx := fun _ H' => Q .non H', rt := Q } (A4q N vs) H) : C4 P w K mg base (CX1 P w) (k + 1) f fd ps sp := by
 obtain ⟨oc, od, kV, doc, pm, an, cdv, ct, osl, rfl, lk, hc⟩ := F.ex
 exact V8h lk hc S len fun A outer s H vs Q E hr h => hbody _ cdv A outer s H vs Q E rfl hr A7v h
theorem U9s {x qual : Str} {st : Stmt} {dV : Value} {f : Addr} {oc : Value} {od an : Option Addr} {osl : Array (Option Value)} {kV doc pm cdv ct : Value} (l : K.lookup f = some ⟨oc, od, .func (fnOf x qual (B5 st) (B1 st) (A1 st) dV kV doc pm an cdv ct), osl⟩)
   (c : codeIn K cdv qual = true) (k : keepIn K (.ref f) = true) : Y1y K x qual st dV f (fnOf x qual (B5 st) (B1 st) (A1 st) dV kV doc pm an cdv ct) := ⟨⟨oc, od, kV, doc, pm, an, cdv, ct, osl, rfl, l, c⟩, k⟩
theorem J6n {fd : FuncData} {ps : List Str} {ds : List Value} {T : Addr} {o : Obj} {items : Array Value} {n : Nat} (hd : fd.defaults = .ref T) (ho : K.lookup T = some o) (hs : o.data = .seq items n)
   (h : ∀ us : List Value, (us ++ ds).length = ps.length -> ∃ k, bindArgs fd ⟨us, []⟩ = seqItems? fd.defaults >>= k /\ k (some items) = pure (ps.zip (us ++ ds))) : A0c K fd ps ds := fun s us X hl => by
 obtain ⟨k, h1, h2⟩ := h us hl
 exact binds_K X hd ho hs h1 h2
end
section
variable {X : Cx} {k j : Nat} {f C : Addr} {fd : FuncData} {ps ks : List Str} {sp : Sp} {EH : EK} {x m : Str} {p pos apos : Pos} {e o : Expr} {es : List Expr} {kws : List Keyword} {ta : TE} {t tk : TA} {g : List Value -> List Value -> List Value} {gV : List V -> List V -> List V}
end
section
variable {X : Cx} {K : Frag} {e : Expr} {f : Str} {pos : Pos} {ta : TE}
theorem J0z (h : X.K = K) : IxR X (rIxL K) := by subst h; exact A3p
theorem Z7z (h : X.K = K) : IxR X (rIxT K) := by subst h; exact G9
theorem Z9g (h : X.K = K) (he : PE X e ta) (hb : attributeBase e f X.env (eval e X.env) = eval e X.env) : PE X (.Attribute e f pos) (tFld K ta f) := by subst h; exact G6 he hb
theorem A4p (h : X.K = K) : OpR X (compareOp .In) (rIn K false) := by subst h; exact A4c
end
end L2
namespace TR
open PySem L2 PySem.W PyProof.Rows
structure Own (mg : Str -> Option Value) : Prop where
 isi : mg "isinstance" = none
 int_ : mg "int" = none
 bool_ : mg "bool" = none
 str_ : mg "str" = none
 list_ : mg "list" = none
 tuple_ : mg "tuple" = none
 dict_ : mg "dict" = none
 len_ : mg "len" = none
 range_ : mg "range" = none
 min_ : mg "min" = none
 max_ : mg "max" = none
 abs_ : mg "abs" = none
 any_ : mg "any" = none
 all_ : mg "all" = none
 sum_ : mg "sum" = none
 repr_ : mg "repr" = none
 enumerate_ : mg "enumerate" = none
 reversed_ : mg "reversed" = none
 zip_ : mg "zip" = none
 sorted_ : mg "sorted" = none
 divmod_ : mg "divmod" = none
 set_ : mg "set" = none
 ValueError_ : mg "ValueError" = none
structure Kit (K : Frag) : Prop where
 int_int : kitOne K (.type "int") (.type "int") = some true
 int_bool : kitOne K (.type "int") (.type "bool") = some false
 int_str : kitOne K (.type "int") (.type "str") = some false
 int_list : kitOne K (.type "int") (.type "list") = some false
 int_tuple : kitOne K (.type "int") (.type "tuple") = some false
 int_dict : kitOne K (.type "int") (.type "dict") = some false
 bool_int : kitOne K (.type "bool") (.type "int") = some true
 bool_bool : kitOne K (.type "bool") (.type "bool") = some true
 bool_str : kitOne K (.type "bool") (.type "str") = some false
 bool_list : kitOne K (.type "bool") (.type "list") = some false
 bool_tuple : kitOne K (.type "bool") (.type "tuple") = some false
 bool_dict : kitOne K (.type "bool") (.type "dict") = some false
 str_int : kitOne K (.type "str") (.type "int") = some false
 str_bool : kitOne K (.type "str") (.type "bool") = some false
 str_str : kitOne K (.type "str") (.type "str") = some true
 str_list : kitOne K (.type "str") (.type "list") = some false
 str_tuple : kitOne K (.type "str") (.type "tuple") = some false
 str_dict : kitOne K (.type "str") (.type "dict") = some false
 list_int : kitOne K (.type "list") (.type "int") = some false
 list_bool : kitOne K (.type "list") (.type "bool") = some false
 list_str : kitOne K (.type "list") (.type "str") = some false
 list_list : kitOne K (.type "list") (.type "list") = some true
 list_tuple : kitOne K (.type "list") (.type "tuple") = some false
 list_dict : kitOne K (.type "list") (.type "dict") = some false
 tuple_int : kitOne K (.type "tuple") (.type "int") = some false
 tuple_bool : kitOne K (.type "tuple") (.type "bool") = some false
 tuple_str : kitOne K (.type "tuple") (.type "str") = some false
 tuple_list : kitOne K (.type "tuple") (.type "list") = some false
 tuple_tuple : kitOne K (.type "tuple") (.type "tuple") = some true
 tuple_dict : kitOne K (.type "tuple") (.type "dict") = some false
 dict_int : kitOne K (.type "dict") (.type "int") = some false
 dict_bool : kitOne K (.type "dict") (.type "bool") = some false
 dict_str : kitOne K (.type "dict") (.type "str") = some false
 dict_list : kitOne K (.type "dict") (.type "list") = some false
 dict_tuple : kitOne K (.type "dict") (.type "tuple") = some false
 dict_dict : kitOne K (.type "dict") (.type "dict") = some true
 NoneType_int : kitOne K (.type "NoneType") (.type "int") = some false
 NoneType_bool : kitOne K (.type "NoneType") (.type "bool") = some false
 NoneType_str : kitOne K (.type "NoneType") (.type "str") = some false
 NoneType_list : kitOne K (.type "NoneType") (.type "list") = some false
 NoneType_tuple : kitOne K (.type "NoneType") (.type "tuple") = some false
 NoneType_dict : kitOne K (.type "NoneType") (.type "dict") = some false
theorem scK {N P : List Str} {sc : Scope} (a : sc.kind = .function := by rfl) (b : sc.isCoroutine = false := by rfl) (c : sc.isGenerator = false := by rfl) (d : N.Nodup := by decide +kernel) (e : N.take P.length = P := by rfl) (f : ∀ x ∈ P, sc.names.lookup x = some .local \/ sc.names.lookup x = some .cell := by decide +kernel) (g : ∀ y ∈ sc.names, y.2 ≠ .free := by decide +kernel) : B9 N P sc := ⟨a, b, c, d, e, f, g⟩
theorem A0cv {K : Frag} {H : Hp} (i : Int) : TyE K H (.int i) (.type "int") := .of (.int i)
theorem Y1f {K : Frag} {H : Hp} (z : Str) : TyE K H (.str z) (.type "str") := .of (.str z)
theorem A0dd {K : Frag} {H : Hp} {a : Addr} {xs : List V} (h : H a = some (.lst xs)) : TyE K H (.ref a) (.type "list") := .of (.lst h)
def A6k (lo hi : Int) (v : V) : Prop := ∃ i, v = .int i /\ lo <= i /\ i <= hi
def D2u (K : Frag) (H : Hp) (lo hi : Int) (v : V) : Prop := ∃ t b1 b2, TyE K H v t /\ kitOne K t (.type "int") = some b1 /\ kitOne K t (.type "bool") = some b2 /\ ((b1 && !b2) = false \/ ∃ i, v = .int i /\ (i < lo \/ hi < i))
section
variable {K : Frag} {H : Hp} {lo hi : Int}
end
def Exc (p : Addr) (H H' : Hp) : Prop := ∀ b o, H b = some o -> b ≠ p -> H' b = some o
theorem Exc.refl (p : Addr) (H : Hp) : Exc p H H := fun _ _ h _ => h
theorem Exc.trans {p : Addr} {H H1 H2 : Hp} (a : Exc p H H1) (b : Exc p H1 H2) : Exc p H H2 := fun c o h n => b c o (a c o h n) n
theorem Exc.upd {p : Addr} {H : Hp} {o : HO} : Exc p H (L2.upd H p o) := fun b u e n => by rw [C8 n]; exact e
theorem Exc.of {p : Addr} {H H' : Hp} (s : B7 H H') : Exc p H H' := fun b o h _ => s b o h
def Has (P : Program) (w : World) (K : Frag) (mg : Str -> Option Value) (base : Heap) (C : Addr) (m : Str) (k : Nat) (ps : List Str) (sp : Sp) : Prop := ∃ f fd, Z7 K C m f /\ C4 P w K mg base (CX1 P w) k f fd ps sp /\ A0c K fd ps []
def A5f (z : Str) (b : Bool) : List Str := if b then [z] else []
theorem len3 : ∀ {us : List Value}, us.length = 3 -> ∃ a b c, us = [a, b, c]
 | [a, b, c], _ => ⟨a, b, c, rfl⟩
theorem len4 : ∀ {us : List Value}, us.length = 4 -> ∃ a b c d, us = [a, b, c, d]
 | [a, b, c, d], _ => ⟨a, b, c, d, rfl⟩
theorem len5 : ∀ {us : List Value}, us.length = 5 -> ∃ a b c d e, us = [a, b, c, d, e]
 | [a, b, c, d, e], _ => ⟨a, b, c, d, e, rfl⟩
theorem Z8u {us ds : List Value} {n : Nat} (h : (us ++ ds).length = n) : us.length = n - ds.length := by rw [List.length_append] at h; omega
end TR
namespace L2
open PySem PySem.Spec PyProof.Rows
section
variable {κ : Type} [DecidableEq κ]
def C6x (kvs : List (κ × V)) (k : κ) : Option V := (kvs.find? fun kv => decide (kv.1 = k)).map (·.2)
def A1a (kvs : List (κ × V)) (k : κ) (v : V) : List (κ × V) :=
 if (kvs.any fun kv => decide (kv.1 = k)) = true then kvs.map (fun kv => if kv.1 = k then (kv.1, v) else kv) else kvs ++ [(k, v)]
theorem C8m {p : κ × V} {r : List (κ × V)} {k : κ} (e : p.1 = k) : C6x (p :: r) k = some p.2 := by simp [C6x, List.find?_cons, e]
theorem C6q {p : κ × V} {r : List (κ × V)} {k : κ} (e : ¬ p.1 = k) : C6x (p :: r) k = C6x r k := by simp [C6x, List.find?_cons, e]
theorem J1g (k : κ) : ∀ kvs : List (κ × V), (kvs.any fun kv => decide (kv.1 = k)) = (C6x kvs k).isSome
 | [] => rfl
 | p :: r => by
   rw [List.any_cons]
   by_cases e : p.1 = k
   . simp only [C8m e, decide_eq_true e, Bool.true_or, Option.isSome_some]
   . rw [C6q e, decide_eq_false e, Bool.false_or]; exact J1g k r
theorem B1b (kvs : List (κ × V)) (k : κ) (v : V) : (A1a kvs k v).length <= kvs.length + 1 := by
 unfold A1a
 split
 . rw [List.length_map]; omega
 rw [List.length_append, List.length_cons, List.length_nil]; omega
theorem A6q.isSome_eq {o : Option V} {u : Option Value} (r : A6q o u) : o.isSome = u.isSome := by
 cases o with
 | none => cases u with
   | none => rfl
   | some _ => exact (show False from r).elim
 | some _ => cases u with
   | none => exact (show False from r).elim
   | some _ => rfl
theorem KV.val {kvs : List (κ × V)} {vs : List (κ × Value)} (r : KV kvs vs) (k : κ) : A6q (C6x kvs k) (valueAt vs k) := by
 unfold KV at r
 induction r with
 | nil => exact True.intro
 | @cons p q ps qs h t ih =>
   obtain ⟨h1, h2⟩ := h
   by_cases e : p.1 = k
   . have e' : q.1 = k := h1.symm.trans e
     have b : valueAt (q :: qs) k = some q.2 := by simp [valueAt, List.find?_cons, e']
     rw [C8m e, b]; exact h2
   . have e' : ¬ q.1 = k := fun z => e (h1.trans z)
     have b : valueAt (q :: qs) k = valueAt qs k := by simp [valueAt, List.find?_cons, e']
     rw [C6q e, b]; exact ih
theorem KV.any {kvs : List (κ × V)} {vs : List (κ × Value)} (r : KV kvs vs) (k : κ) : (kvs.any fun kv => decide (kv.1 = k)) = vs.any fun kv => decide (kv.1 = k) := by
 unfold KV at r
 induction r with
 | nil => rfl
 | cons h t ih => rw [List.any_cons, List.any_cons, ih, h.1]
theorem KV.repl {kvs : List (κ × V)} {vs : List (κ × Value)} (r : KV kvs vs) (k : κ) {y : V} {u : Value} (ry : U5 y u) :
   KV (kvs.map fun kv => if kv.1 = k then (kv.1, y) else kv) (vs.map fun kv => if kv.1 = k then (kv.1, u) else kv) := by
 unfold KV at r ⊢
 induction r with
 | nil => exact .nil
 | @cons p q ps qs h t ih =>
   rw [List.map_cons, List.map_cons]
   refine .cons ?_ ih
   obtain ⟨h1, h2⟩ := h
   by_cases e : p.1 = k
   . rw [if_pos e, if_pos (h1.symm.trans e)]; exact ⟨h1, ry⟩
   . rw [if_neg e, if_neg (fun z => e (h1.trans z))]; exact ⟨h1, h2⟩
theorem KV.put {kvs : List (κ × V)} {vs : List (κ × Value)} (r : KV kvs vs) (k : κ) {y : V} {u : Value} (ry : U5 y u) : KV (A1a kvs k y) (stored vs k u) := by
 unfold A1a stored
 rw [r.any k]
 by_cases e : (vs.any fun kv => decide (kv.1 = k)) = true
 . rw [if_pos e, if_pos e]; exact r.repl k ry
 rw [if_neg e, if_neg e]; exact Paired.snoc r ⟨rfl, ry⟩
theorem KV.length {kvs : List (κ × V)} {vs : List (κ × Value)} (r : KV kvs vs) : kvs.length = vs.length := Paired.length r
end
theorem U9b {P : Program} {w : World} {k : Key} {u : Value} (r : U5 (kV k) u) : (Z4 P w).is k u = true := by
 cases k with
 | inl i => obtain ⟨t, e⟩ := (show ∃ t, u = Value.int i t from r); subst e; exact J0h P w i t
 | inr x => obtain ⟨t, e⟩ := (show ∃ t, u = Value.str x t from r); subst e; exact J0e P w x t
theorem D6w {P : Program} {w : World} : ∀ {ks : List Key} {us : List Value}, U0 (ks.map kV) us -> ItemsAre (Z4 P w) ks us
 | [], _, r => by rw [List.map_nil] at r; cases r; exact .nil
 | k :: ks, _, r => by
   rw [List.map_cons] at r
   cases r with
   | cons h t => exact .cons (U9b h) (D6w t)
abbrev KT (H : Hp) : List (List Key × V) -> List (List Key × Addr × Value) -> Prop := Paired fun p q => p.1 = q.1 /\ H q.2.1 = some (.tup (p.1.map kV)) /\ U5 p.2 q.2.2
theorem KT.val {H : Hp} {kvs : List (List Key × V)} {xs : List (List Key × Addr × Value)} (r : KT H kvs xs) (k : List Key) : A6q (C6x kvs k) ((atKey xs k).map (·.2)) := by
 induction r with
 | nil => exact True.intro
 | @cons p q ps qs h t ih =>
   obtain ⟨h1, _, h2⟩ := h
   by_cases e : p.1 = k
   . have e' : q.1 = k := h1.symm.trans e
     have b : atKey (q :: qs) k = some q.2 := by simp [atKey, List.find?_cons, e']
     rw [C8m e, b]; exact h2
   . have e' : ¬ q.1 = k := fun z => e (h1.trans z)
     have b : atKey (q :: qs) k = atKey qs k := by simp [atKey, List.find?_cons, e']
     rw [C6q e, b]; exact ih
theorem KT.repl {H : Hp} {kvs : List (List Key × V)} {xs : List (List Key × Addr × Value)} (r : KT H kvs xs) (k : List Key) {y : V} {u : Value} (ry : U5 y u) :
   KT H (kvs.map fun kv => if kv.1 = k then (kv.1, y) else kv) (xs.map (putAt k u)) := by
 induction r with
 | nil => exact .nil
 | @cons p q ps qs h t ih =>
   rw [List.map_cons, List.map_cons]
   refine .cons ?_ ih
   obtain ⟨h1, h2, h3⟩ := h
   unfold putAt
   by_cases e : p.1 = k
   . rw [if_pos e, if_pos (h1.symm.trans e)]; exact ⟨h1, h2, ry⟩
   . rw [if_neg e, if_neg (fun z => e (h1.trans z))]; exact ⟨h1, h2, h3⟩
theorem KT.put {H : Hp} {kvs : List (List Key × V)} {xs : List (List Key × Addr × Value)} (r : KT H kvs xs) (k : List Key) {b : Addr} {y : V} {u : Value} (hb : H b = some (.tup (k.map kV))) (ry : U5 y u) :
   KT H (A1a kvs k y) (storedH xs k b u) := by
 have e : (kvs.any fun kv => decide (kv.1 = k)) = (atKey xs k).isSome := by
   rw [J1g, (r.val k).isSome_eq, Option.isSome_map]
 unfold A1a storedH
 rw [e]
 by_cases q : (atKey xs k).isSome = true
 . rw [if_pos q, if_pos q]; exact r.repl k ry
 rw [if_neg q, if_neg q]; exact Paired.snoc r ⟨rfl, hb, ry⟩
theorem KT.keeps {H H' : Hp} {kvs : List (List Key × V)} {xs : List (List Key × Addr × Value)} (r : KT H kvs xs) (ht : ∀ b ys, H b = some (.tup ys) -> H' b = some (.tup ys)) : KT H' kvs xs :=
 Paired.mapP r fun _ _ z => ⟨z.1, ht _ _ z.2.1, z.2.2⟩
section
variable {P : Program} {w : World} {H : Hp} {h : Heap} {a : Addr}
theorem A0da {u : HO} (ok : HOk P w H h) (e : Rd H a u) : Y9 P w H h a u := e.ok ok
theorem Y1v {kvs : List (Key × V)} (ok : HOk P w H h) (e : Rd H a (.dK kvs)) : kvs.length <= sizeLine /\ (a == sysModules) = false /\ ∃ vs, KV kvs vs /\ h.DictOf (Z4 P w) a vs :=
 show Y9 P w H h a (.dK kvs) from A0da ok e
theorem A0cy {kvs : List (Key × V)} (ok : HOk P w H h) (e : H a = some (.dK kvs)) : kvs.length <= sizeLine /\ (a == sysModules) = false /\ ∃ vs, KV kvs vs /\ h.DictOf (Z4 P w) a vs := Y1v ok (.inl e)
theorem J6r {ks : List Key} (ok : HOk P w H h) (e : H a = some (.tup (ks.map kV))) : (tupleKind (Z4 P w)).is h ks a := by
 obtain ⟨_, its, r, o, h1, h2, n, h3⟩ := (show Y9 P w H h a (.tup (ks.map kV)) from ok a _ e)
 exact ⟨o, its.toArray, n, h1, h2, h3, by simpa using D6w r⟩
theorem V7v {kvs : List (List Key × V)} (ok : HOk P w H h) (e : Rd H a (.dT kvs)) : kvs.length <= sizeLine /\ (a == sysModules) = false /\
   ∃ xs, KT H kvs xs /\ h.DictOfH (tupleKind (Z4 P w)) a xs := by
 obtain ⟨z, y, xs, r, o, es, ep, h1, h2, h3, h4, h5⟩ := (show Y9 P w H h a (.dT kvs) from A0da ok e)
 refine ⟨z, y, xs, r, o, es, ep, h1, h2, h3, h4, fun x hx => ?_, h5⟩
 have all : ∀ {l : List (List Key × V)} {m : List (List Key × Addr × Value)}, KT H l m -> ∀ x ∈ m, (tupleKind (Z4 P w)).is h x.1 x.2.1 := by
   intro l m q
   induction q with
   | nil => intro x hx; exact nomatch hx
   | @cons p q ps qs hq t ih =>
     intro x hx
     rcases List.mem_cons.mp hx with e | hx
     . subst e
       exact J6r ok (by rw [<- hq.1]; exact hq.2.1)
     . exact ih x hx
 exact all r x hx
theorem A0nb {kvs : List (List Key × V)} (ok : HOk P w H h) (e : H a = some (.dT kvs)) : kvs.length <= sizeLine /\ (a == sysModules) = false /\
   ∃ xs, KT H kvs xs /\ h.DictOfH (tupleKind (Z4 P w)) a xs := V7v ok (.inl e)
end
def A4w (H : Hp) (a : Addr) (y : V) (r : Option V) : Prop :=
 (∃ kvs k, Rd H a (.dK kvs) /\ y = kV k /\ r = C6x kvs k) \/ ∃ kvs k b, Rd H a (.dT kvs) /\ y = .ref b /\ H b = some (.tup (k.map kV)) /\ r = C6x kvs k
def C8x (H : Hp) (a : Addr) (y v : V) (H' : Hp) : Prop :=
 (∃ kvs k, H a = some (.dK kvs) /\ y = kV k /\ kvs.length < sizeLine /\ H' = upd H a (.dK (A1a kvs k v))) \/
 ∃ kvs k b, H a = some (.dT kvs) /\ y = .ref b /\ H b = some (.tup (k.map kV)) /\ kvs.length < sizeLine /\ H' = upd H a (.dT (A1a kvs k v))
theorem A4w.k {H : Hp} {a : Addr} {kvs : List (Key × V)} {k : Key} (e : H a = some (.dK kvs)) : A4w H a (kV k) (C6x kvs k) := .inl ⟨kvs, k, .inl e, rfl, rfl⟩
theorem C8x.k {H : Hp} {a : Addr} {kvs : List (Key × V)} {k : Key} {v : V} (e : H a = some (.dK kvs)) (hl : kvs.length < sizeLine) : C8x H a (kV k) v (upd H a (.dK (A1a kvs k v))) := .inl ⟨kvs, k, e, rfl, hl, rfl⟩
section
variable {X : Cx} {pins : List (Addr × Obj)} {σ : St} {H : Hp} {s : Shared} {a : Addr} {y v : V} {u r : Value} {o : Option V} {A : Around} {E : Value -> Shared -> Prop}
theorem V2z {Q : Value -> Shared -> Prop} (hu : A.units + 1 < cLine) (I : Inv X pins σ H s) (g : A4w H a y (some v)) (ry : U5 y u) (h : ∀ w' s', Inv X pins σ H s' -> U5 v w' -> Q w' s') :
   wpAny (model X.prog X.w) A (getItem (.ref a) u) Q E s := by
 rcases g with ⟨kvs, k, e, ey, l⟩ | ⟨kvs, k, b, e, ey, eb, l⟩
 . subst ey
   obtain ⟨z, hd, vs, rel, dd⟩ := Y1v I.hok e
   obtain ⟨w', hw, rw'⟩ := A6q.some_of (v := v) (o := valueAt vs k) (by rw [l]; exact rel.val k)
   exact wpAny_getItem_of (U9b ry) dd.mapOf hw (h w' _ (I.tok _) rw')
 subst ey
 cases (show u = Value.ref b from ry)
 obtain ⟨z, hd, xs, rel, dd⟩ := V7v I.hok e
 obtain ⟨w', hw, rw'⟩ := A6q.some_of (v := v) (o := (atKey xs k).map (·.2)) (by rw [l]; exact rel.val k)
 obtain ⟨p, hp, hp2⟩ := Option.map_eq_some_iff.mp hw
 refine wpAny_getItem_heap (tupleKind_room_in1 hu) (J6r I.hok eb) dd hp ?_
 rw [hp2]
 exact h w' _ (I.tok _) rw'
theorem D8r {h' : Heap} {t' : Nat} {ob : HO} (I : Inv X pins σ H s) (mu : Mut (H a)) (hs : Heap.SameBut a s.heap h') (he : ∃ q, h'.get? a = some q) (new : Y9 X.prog X.w (upd H a ob) h' a ob) :
   Inv X pins σ (upd H a ob) { s with heap := h', toks := t' } :=
 I.write (x := a) (e := a) mu (.inl rfl) (fun b q hb z => (hs.2 b hb).trans z) he new
theorem Y1m {P : Program} {w : World} {H' : Hp} {h' : Heap} {kvs : List (Key × V)} {vs : List (Key × Value)} (z : kvs.length <= sizeLine) (hd : (a == sysModules) = false) (rel : KV kvs vs) (dd : h'.DictOf (Z4 P w) a vs) :
   Y9 P w H' h' a (.dK kvs) := ⟨z, hd, vs, rel, dd⟩
theorem V1u {H' : Hp} {Q : Unit -> Shared -> Prop} (hu : A.units + 1 < cLine) (I : Inv X pins σ H s) (g : C8x H a y v H') (ry : U5 y u) (rv : U5 v r) (h : ∀ s', Inv X pins σ H' s' -> Q () s') :
   wpAny (model X.prog X.w) A (setItem (.ref a) u r) Q E s := by
 rcases g with ⟨kvs, k, e, ey, l, eH⟩ | ⟨kvs, k, b, e, ey, eb, l, eH⟩
 . subst ey eH
   obtain ⟨z, hd, vs, rel, dd⟩ := A0cy I.hok e
   have hz : vs.length <= sizeLine := by rw [<- rel.length]; exact z
   have hl : (A1a kvs k v).length <= sizeLine := by have := B1b kvs k v; omega
   refine wpAny_setItem_pairs (hsz := hz) (U9b ry) dd fun h' dd' hs => h _ ?_
   have he : ∃ q, h'.get? a = some q := let ⟨q, _, _, hq, _⟩ := dd'; ⟨q, hq⟩
   exact D8r I (by rw [e]; exact True.intro) hs he (Y1m hl hd (rel.put k rv) dd')
 subst ey eH
 cases (show u = Value.ref b from ry)
 obtain ⟨z, hd, xs, rel, dd⟩ := A0nb I.hok e
 have hz : xs.length <= sizeLine := by rw [<- Paired.length rel]; exact z
 have hl : (A1a kvs k v).length <= sizeLine := by have := B1b kvs k v; omega
 refine wpAny_setItem_heap (hsz := hz) (tupleKind_room_in1 hu) (J6r I.hok eb) dd fun h' dd' hs => h _ ?_
 obtain ⟨q, es, ep, hq, h2, h3, h4, _, h5⟩ := dd'
 refine D8r I (by rw [e]; exact True.intro) hs ⟨q, hq⟩ ⟨hl, hd, _, (rel.put k eb rv).keeps fun c ys ec => ?_, q, es, ep, hq, h2, h3, h4, h5⟩
 rw [C8 (V8 ec e (fun z => nomatch z))]
 exact ec
end
section
variable {X : Cx} {pins : List (Addr × Obj)} {σ : St} {H : Hp} {s : Shared} {a : Addr} {kvs : List (Key × V)} {k : Key} {u : Value} {A : Around} {E : Value -> Shared -> Prop}
end
def NoSl (i : Expr) : Prop := ∀ ov iv, subscripted i false ov iv = operate [ov, iv] (getItem ov iv)
theorem Z6a {prog : Program} {w : World} {A : Around} {E : Value -> Shared -> Prop} {s : Shared} {env : Env} {value slice : Expr} {pos : Pos} {T id : String} {Q : Value -> Shared -> Prop}
   (hl : typeLookup (.type T) "__getitem__" = pure (some (.builtin id))) (hs : NoSl slice)
   (h : wpAny (model prog w) A (eval value env) (fun o s₁ => wpAny (model prog w) A (eval slice env) (fun i s₂ => s₂.TypeIs o T /\ wpAny (model prog w) A (getItem o i) Q E s₂) E s₁) E s) :
   wpAny (model prog w) A (eval (.Subscript value slice pos) env) Q E s := by
 refine Subscript_ (wpAny_mono h (fun o s₁ h₁ => wpAny_mono h₁ (fun i s₂ h₂ => ?_) fun _ _ x => x) fun _ _ x => x)
 obtain ⟨hT, h₂⟩ := h₂
 unfold subscriptTail
 refine wpAny_bind ?_
 rw [getitemInPython_of_ne hT.not_modules]
 refine wpAny_bind (wpAny_specialOf hT hl ?_)
 have fin : wpAny (model prog w) A (subscripted slice false o i) (fun r s₃ => wpAny (model prog w) A (letTemporaryGo value o r >>= fun _ => pure r) Q E s₃) E s₂ := by
   rw [hs o i]
   exact wpAny_operating (wpAny_mono h₂ (fun r s₃ h₃ => wpAny_bind (wpAny_letTemporaryGo (wpAny_pure h₃))) fun _ _ x => x)
 first
   | exact wpAny_pure (wpAny_bind fin)
   | exact wpAny_bind (wpAny_pure (wpAny_bind fin))
   | exact wpAny_bind fin
theorem J1h {X : Cx} {pins : List (Addr × Obj)} {σ : St} {H : Hp} {s : Shared} {a : Addr} {y : V} {o : Option V} (I : Inv X pins σ H s) (g : A4w H a y o) : s.TypeIs (.ref a) "dict" := by
 rcases g with ⟨kvs, k, e, _, _⟩ | ⟨kvs, k, b, e, _, _, _⟩
 . obtain ⟨_, _, vs, _, dd⟩ := Y1v I.hok e
   exact dd.typeIs
 obtain ⟨_, _, xs, _, dd⟩ := V7v I.hok e
 exact dd.typeIs
def A0pb (td ty : TE) : TE := fun σ H Q => td σ H fun x H1 => ty σ H1 fun y H2 => ∃ a v, x = .ref a /\ A4w H2 a y (some v) /\ Q v H2
def A0mh (td ty tv : TE) : TS := fun D σ H => tv σ H fun v H1 => td σ H1 fun x H2 => ty σ H2 fun y H3 => ∃ a H4, x = .ref a /\ C8x H3 a y v H4 /\ D.nx σ H4
section
variable {X : Cx} {o i e value : Expr} {pos pos' tpos : Pos} {td ty tv : TE}
theorem U8 (hu : X.A.units + 1 < cLine) (ho : PE X o td) (hi : PE X i ty) (hs : NoSl i) : PE X (.Subscript o i pos) (A0pb td ty) := by
 intro pins s σ H Q I h
 refine Z6a PySem.F.slot_dict_getitem.lookup hs (thn (ho pins s σ H _ I h) fun u s1 ⟨x, H1, I1, rx, q1⟩ => thn (hi pins s1 σ H1 _ I1 q1) fun iv s2 ⟨y, H2, I2, ry, a, v, ex, g, q2⟩ => ?_)
 subst ex
 obtain rfl : u = Value.ref a := rx
 exact ⟨J1h I2 g, V2z hu I2 g ry fun w' s3 I3 rw' => ⟨v, H2, I3, rw', q2⟩⟩
theorem A7j (hu : X.A.units + 1 < cLine) (ho : PE X o td) (hi : PE X i ty) (hv : PE X value tv) (hs : swapsWith value (some (.Subscript o i pos')) pos.line X.env = pure false) :
   PS X (.Assign [.Subscript o i pos'] value pos) (A0mh td ty tv) := by
 intro pins s σ H D I h
 refine wpAny_Assign_Subscript (thn (hv pins s σ H _ I h) fun r s1 ⟨v, H1, I1, rv, q1⟩ => thn (ho pins s1 σ H1 _ I1 q1) fun u s2 ⟨x, H2, I2, rx, q2⟩ => thn (hi pins s2 σ H2 _ I2 q2) fun iv s3 ⟨y, H3, I3, ry, a, H4, ex, g, q3⟩ => ?_) hs
 subst ex
 obtain rfl : u = Value.ref a := rx
 exact V1u hu I3 g ry rv fun s4 I4 => ⟨σ, H4, I4, q3⟩
end
section
variable {X : Cx} {pos : Pos}
end
def J8a : List (TE × TE) -> St -> Hp -> (List (V × V) -> Hp -> Prop) -> Prop
 | [], _, H, Q => Q [] H
 | (tk, tv) :: r, σ, H, Q => tk σ H fun x H1 => tv σ H1 fun y H2 => J8a r σ H2 fun ps H3 => Q ((x, y) :: ps) H3
abbrev VV : List (V × V) -> List (Value × Value) -> Prop := Paired fun p q => U5 p.1 q.1 /\ U5 p.2 q.2
def PPs (X : Cx) (pos : Pos) (keys : List (Option Expr)) (values : List Expr) (trs : List (TE × TE)) : Prop :=
 ∀ (pins : List (Addr × Obj)) (s : Shared) (σ : St) (H : Hp) (Q : List (V × V) -> Hp -> Prop), Inv X pins σ H s -> J8a trs σ H Q ->
   wpAny (model X.prog X.w) X.A (evalPairs (pairTrees keys values X.env pos)) (fun vs s' => ∃ ps H', Inv X pins σ H' s' /\ VV ps vs /\ Q ps H') X.xe s
theorem Z7r {X : Cx} {pos : Pos} : PPs X pos [] [] [] := fun pins s σ H Q I h => pairTrees_nil_walk ⟨[], H, I, .nil, h⟩
theorem G9y {X : Cx} {pos : Pos} {k v : Expr} {ks : List (Option Expr)} {vs : List Expr} {tk tv : TE} {trs : List (TE × TE)} (hk : PE X k tk) (hv : PE X v tv) (hr : PPs X pos ks vs trs) :
   PPs X pos (some k :: ks) (v :: vs) ((tk, tv) :: trs) := fun pins s σ H Q I h =>
 pairTrees_cons_walk (thn (hk pins s σ H _ I h) fun u s1 ⟨x, H1, I1, rx, q1⟩ => thn (hv pins s1 σ H1 _ I1 q1) fun w2 s2 ⟨y, H2, I2, ry, q2⟩ =>
   thn (hr pins s2 σ H2 _ I2 q2) fun ws s3 ⟨ps, H3, I3, rel, q3⟩ => ⟨(x, y) :: ps, H3, I3, .cons ⟨rx, ry⟩ rel, q3⟩)
def B1e (kvs more : List (Key × V)) : List (Key × V) := more.foldl (fun acc kv => A1a acc kv.1 kv.2) kvs
theorem KV.merge : ∀ {more : List (Key × V)} {rs : List (Key × Value)} {kvs : List (Key × V)} {vs : List (Key × Value)}, KV more rs -> KV kvs vs -> KV (B1e kvs more) (merged vs rs) := by
 intro more rs kvs vs r
 unfold KV at r
 induction r generalizing kvs vs with
 | nil => intro q; exact q
 | @cons p q ps qs h t ih =>
   intro r0
   have e : KV (A1a kvs p.1 p.2) (stored vs q.1 q.2) := by
     have := r0.put p.1 h.2
     rw [<- h.1]; exact this
   exact ih e
theorem B5r : ∀ (more kvs : List (Key × V)), (B1e kvs more).length <= kvs.length + more.length
 | [], kvs => by show kvs.length <= kvs.length + 0; omega
 | p :: r, kvs => by
   have h1 := B5r r (A1a kvs p.1 p.2)
   have h2 := B1b kvs p.1 p.2
   show (B1e (A1a kvs p.1 p.2) r).length <= _
   rw [List.length_cons]; omega
theorem C7r {P : Program} {w : World} : ∀ {kvs : List (Key × V)} {ws : List (Value × Value)}, VV (kvs.map fun kv => (kV kv.1, kv.2)) ws -> ∃ rs, Carries (Z4 P w) ws rs /\ KV kvs rs
 | [], _, r => by rw [List.map_nil] at r; cases r; exact ⟨[], True.intro, .nil⟩
 | p :: kvs, _, r => by
   rw [List.map_cons] at r
   cases r with
   | @cons a b as bs h t =>
     obtain ⟨rs, c, q⟩ := C7r (P := P) (w := w) t
     obtain ⟨b1, b2⟩ := b
     exact ⟨(p.1, b2) :: rs, ⟨U9b h.1, rfl, c⟩, .cons ⟨rfl, h.2⟩ q⟩
def A0pd (trs : List (TE × TE)) : TE := fun σ H Q => ∀ p, H p = none -> J8a trs σ (upd H p (.dK [])) fun ps H2 => H2 p = some (.dK []) /\ ∃ kvs : List (Key × V), ps = kvs.map (fun kv => (kV kv.1, kv.2)) /\ kvs.length <= 15 /\ Q (.ref p) (upd H2 p (.dK (B1e [] kvs)))
theorem Z8x {X : Cx} {pos : Pos} {keys : List (Option Expr)} {values : List Expr} {trs : List (TE × TE)} (h : PPs X pos keys values trs) (hall : keys.all (·.isSome) = true) (hl : keys.length = values.length) (h0 : keys ≠ [])
   (h15 : keys.length <= 15) : PE X (.Dict keys values pos) (A0pd trs) := by
 intro pins s σ H Q I q
 have hn := I.hok.fresh (Nat.le_refl s.heap.objs.size)
 have I1 := I.laid (a := s.heap.objs.size) (o := .dK []) (h' := s.heap.push { cls := .type "dict", data := .dict #[] }) (t' := s.toks) (fun _ _ q => Heap.get?_push_of_some _ q) (Nat.le_refl _) (V9y s.heap I.big)
 refine wpAny_Dict_walk (knd := Z4 X.prog X.w) hall hl h0 h15 (thn (h pins _ σ _ _ I1 (q _ hn)) fun ws s2 ⟨ps, H2, I2, rel, e, kvs, ep, lk, q2⟩ => ?_)
 subst ep
 obtain ⟨rs, c, rk⟩ := C7r (P := X.prog) (w := X.w) rel
 obtain ⟨z, hd, vs0, r0, dd⟩ := A0cy I2.hok e
 cases r0
 refine ⟨rs, c, dd, fun h' dd' hs => ⟨.ref s.heap.objs.size, _, ?_, rfl, q2⟩⟩
 have hz : (B1e [] kvs).length <= sizeLine := by
   have h1 := B5r kvs []
   rw [List.length_nil] at h1
   rw [sizeLine_eq]; omega
 have he : ∃ q, h'.get? s.heap.objs.size = some q := let ⟨q, _, _, hq, _⟩ := dd'; ⟨q, hq⟩
 exact D8r I2 (by rw [e]; exact True.intro) hs he (Y1m hz hd (rk.merge .nil) dd')
end L2
namespace L2
open PySem PySem.Spec PyProof.Rows PySem.W
def A2s (F : List Str) (env : Env) : List (Str × Addr) := F.map fun x => (x, (env.cells.lookup x).getD 0)
def A5d (js : List Nat) (σ : St) : St := js.map fun j => (σ[j]?).getD none
abbrev Cx.compF (X : Cx) (scope : Scope) (N F : List Str) (C : Addr) (s₀ : Shared) (H₀ : Hp) (ex : List Addr) (pins : List (Addr × Obj)) : Cx :=
 { X with N := N ++ F, s₀ := s₀, H₀ := H₀, env := compEnvC scope (A2s F X.env) C X.env, outer := X.stack, ex := ex, fn := fun _ => false, pn := pins, xe := fun _ _ => False }
structure D8 (N F : List Str) (js : List Nat) (sc : Scope) (XN : List Str) (env : Env) : Prop where
 kind : sc.kind = .function
 cell : ∀ y ∈ sc.names, y.2 ≠ .cell
 loc : ∀ y ∈ sc.names, y.2 = .local -> sc.names.lookup y.1 = some .local
 nd : (N ++ F).Nodup
 clos : closureFor sc env = pure (A2s F env)
 fr : ∀ y ∈ (relabel sc env).names, y.2 = .cell \/ y.2 = .free -> y.1 ∈ F
 at_ : ∀ (k : Nat) (x : Str), F[k]? = some x -> (∃ j : Nat, js[k]? = some j /\ XN[j]? = some x) /\ (∃ c, env.cells.lookup x = some c) /\ env.kindOf x = some .cell /\ (relabel sc env).names.lookup x = some .cell
 jl : js.length = F.length
def B0r (n : Nat) (js : List Nat) (wi : TI) (g : TG) (tc : TT) (te : TE) : TE := fun σ H Q => wi σ H fun J H1 => ∀ D, H1 D = none ->
 ∃ (m : Nat) (W : Nat -> List V -> Hp -> Prop), W 0 [] (upd H1 D (.lst [])) /\ ∀ i ys H2, W i ys H2 -> i <= m /\ H2 D = some (.lst ys) /\ ((J.stop i H2 /\ Q (.ref D) H2) \/ (i < m /\ J.go i H2 /\ ∀ x H3, J.yld i H2 x H3 ->
   g x (List.replicate n none ++ A5d js σ) H3 fun σ4 H4 => tc σ4 H4 fun b H5 => if b = true then te σ4 H5 fun y H6 => H6 D = some (.lst ys) /\ ys.length < sizeLine /\ W (i + 1) (ys ++ [y]) (upd H6 D (.lst (ys ++ [y]))) else W (i + 1) ys H5))
def U8s (n : Nat) (js : List Nat) (wi : TI) (g : TG) (te : TE) : TE := fun σ H Q => wi σ H fun J H1 => ∀ D, H1 D = none ->
 ∃ (m : Nat) (W : Nat -> List V -> Hp -> Prop), W 0 [] (upd H1 D (.lst [])) /\ ∀ i ys H2, W i ys H2 -> i <= m /\ H2 D = some (.lst ys) /\ ((J.stop i H2 /\ Q (.ref D) H2) \/ (i < m /\ J.go i H2 /\ ∀ x H3, J.yld i H2 x H3 ->
   g x (List.replicate n none ++ A5d js σ) H3 fun σ4 H4 => te σ4 H4 fun y H6 => H6 D = some (.lst ys) /\ ys.length < sizeLine /\ W (i + 1) (ys ++ [y]) (upd H6 D (.lst (ys ++ [y])))))
theorem A0dw {F : List Str} {env : Env} {x : Str} {c : Addr} (h : (A2s F env).lookup x = some c) : x ∈ F /\ c = (env.cells.lookup x).getD 0 := by
 have := PySem.mem_of_lookup h
 obtain ⟨y, hy, e⟩ := List.mem_map.mp this
 cases e
 exact ⟨hy, rfl⟩
theorem Y0e {env : Env} {x : Str} : ∀ {F : List Str}, x ∈ F -> (A2s F env).lookup x = some ((env.cells.lookup x).getD 0)
 | y :: F, h => by
   show List.lookup x ((y, (env.cells.lookup y).getD 0) :: A2s F env) = _
   by_cases e : x = y
   . subst e; simp [List.lookup]
   . have hb : (x == y) = false := beq_eq_false_iff_ne.mpr e
     rw [List.lookup_cons, hb]
     exact Y0e (by rcases List.mem_cons.mp h with z | z; exact absurd z e; exact z)
section
variable {X : Cx} {N F : List Str} {js : List Nat} {scope : Scope}
theorem D8.sub (S : D8 N F js scope X.N X.env) : ∀ x c, (A2s F X.env).lookup x = some c -> X.env.cells.lookup x = some c := fun x c z => by
 obtain ⟨hx, rfl⟩ := A0dw z
 obtain ⟨k, hk⟩ := List.mem_iff_getElem?.mp hx
 obtain ⟨_, ⟨c, hc⟩, _⟩ := S.at_ k x hk
 rw [hc]; rfl
theorem D8.has (S : D8 N F js scope X.N X.env) {x : Str} (hx : x ∈ F) : ∃ c, (A2s F X.env).lookup x = some c /\ X.env.cells.lookup x = some c :=
 ⟨_, Y0e hx, S.sub _ _ (Y0e hx)⟩
theorem B4n {pins : List (Addr × Obj)} {σ : St} {H : Hp} {s : Shared} (S : D8 N F js scope X.N X.env) (I : Inv X pins σ H s) {h' : Heap} {m : Str -> Option Value} {C : Addr} (hc : ∀ x c v, X.env.cells.lookup x = some c -> s.heap.IsCell c v -> h'.IsCell c v) :
   ∀ (i : Nat) (x : Str) (v : V), (N ++ F)[i]? = some x -> (List.replicate N.length none ++ A5d js σ)[i]? = some (some v) -> ∃ u, U5 v u /\ Look (compEnvC scope (A2s F X.env) C X.env) h' m x u := by
 intro i x v e1 e2
 by_cases hi : i < N.length
 . rw [List.getElem?_append_left (by simpa using hi), List.getElem?_replicate] at e2
   split at e2 <;> cases e2
 rw [List.getElem?_append_right (by omega)] at e1
 rw [List.getElem?_append_right (by simp; omega)] at e2
 rw [List.length_replicate] at e2
 obtain ⟨⟨j, hj, hx⟩, ⟨c, hcc⟩, kx, kr⟩ := S.at_ _ x e1
 unfold A5d at e2
 rw [List.getElem?_map, hj] at e2
 have e2 : (σ[j]?).getD none = some v := Option.some.inj e2
 have e3 : σ[j]? = some (some v) := by
   cases q : σ[j]? with
   | none => rw [q] at e2; cases e2
   | some o => rw [q] at e2; exact congrArg some e2
 obtain ⟨m0, _, hl⟩ := I.loc
 obtain ⟨u, r, l⟩ := hl j x v hx e3 (.inr (.inl kx))
 refine ⟨u, r, .inr ⟨.inl kr, c, ?_, ?_⟩⟩
 . obtain ⟨c', h1, h2⟩ := S.has (List.mem_of_getElem? e1)
   rw [hcc] at h2
   cases h2
   exact h1
 rcases l with ⟨k, _⟩ | ⟨_, c', h1, h2⟩
 . rw [kx] at k; cases k
 rw [hcc] at h1
 cases h1
 exact hc x c _ hcc h2
theorem D9c (S : D8 N F js scope X.N X.env) (σ : St) : (List.replicate N.length none ++ A5d js σ : St).length = (N ++ F).length := by
 unfold A5d
 rw [List.length_append, List.length_replicate, List.length_map, S.jl, List.length_append]
theorem D7a {pins : List (Addr × Obj)} {σ : St} {H : Hp} {s : Shared} {it : Addr} {h' : Heap} (S : D8 N F js scope X.N X.env) (I : Inv X pins σ H s) (hf : A4f X pins H it) (hit : ∃ o, s.heap.get? it = some o) (hnb : X.base.get? it = none)
   (hns : h'.Ns s.heap.objs.size (fun _ => none)) (hsb : ∀ b o, s.heap.get? b = some o -> h'.get? b = some o) {tk : Nat} :
   Inv (X.compF scope N F s.heap.objs.size s H [it] (X.pn ++ pins)) [] (List.replicate N.length none ++ A5d js σ) H { s with heap := h', toks := tk } := by
 obtain ⟨f0, f1, f2, f3, f4, f5⟩ := hf
 obtain ⟨oi, ei⟩ := hit
 have lt : it < s.heap.objs.size := Heap.lt_size ei
 have ck : ∀ c v, s.heap.IsCell c v -> h'.IsCell c v := fun c v ⟨o, e, d⟩ => ⟨o, hsb _ _ e, d⟩
 have inF : ∀ x, ((compEnvC scope (A2s F X.env) s.heap.objs.size X.env).kindOf x = some .cell \/ (compEnvC scope (A2s F X.env) s.heap.objs.size X.env).kindOf x = some .free) -> x ∈ F := by
   intro x z
   have z : (relabel scope X.env).names.lookup x = some .cell \/ (relabel scope X.env).names.lookup x = some .free := z
   rcases z with z | z
   . exact S.fr _ (PySem.mem_of_lookup z) (.inl rfl)
   . exact S.fr _ (PySem.mem_of_lookup z) (.inr rfl)
 refine ⟨⟨I.ok.mod, S.kind, I.ok.glob, I.ok.blt, Nat.le_refl _, fun x y c z z' => I.ok.inj x y c (S.sub x c z) (S.sub y c z'), fun x z => ?_, fun x c z _ => (nomatch z), I.ok.hd, I.ok.frames, .inl rfl, fun b hb => ?_, I.bs, Nat.le_trans I.ok.bsz I.sz, fun b o e hb => ?_, fun b hb hfs => ?_, I.stack, I.stkFree⟩,
   rfl, I.bare, Un.kept hsb, ⟨_, hns, fun i x v e1 e2 e3 => B4n S I (fun x c v _ z => ck c v z) i x v e1 e2⟩, fun x c z => ?_, I.hok.fresh (Nat.le_refl _), fun x c z => I.freeC x c (S.sub x c z), fun p hp => ?_, I.hok.kept hsb, D9c S σ⟩
 . obtain ⟨c, h1, _⟩ := S.has (inF x z)
   exact ⟨c, h1⟩
 . have e : b = it := by simpa using hb
   subst e
   exact ⟨Nat.ne_of_lt lt, fun x c z => f4 x c (S.sub x c z)⟩
 . have e' : b = it := by simpa using hb
   subst e'
   rw [hnb] at e
   cases e
 . have e' : b = it := by simpa using hb
   subst e'
   rcases List.mem_cons.mp (I.stkSub b hfs) with z | z
   . exact f1 z
   . exact f2 z
 . obtain ⟨v, z'⟩ := I.cell x c (S.sub x c z)
   exact ⟨v, ck c v z'⟩
 have hp' : p ∈ X.pn ++ pins := by simpa using hp
 obtain ⟨q1, q2, q3, q4, q5⟩ := I.pin p hp'
 refine ⟨hsb _ _ q1, q2, Nat.ne_of_lt (Heap.lt_size q1), fun z => ?_, q5⟩
 rcases List.mem_cons.mp (I.stkSub p.1 z) with z | z
 . exact q3 z
 exact q4 z
theorem D7f {pins pl : List (Addr × Obj)} {σ σ' : St} {H H' : Hp} {s s' : Shared} {it : Addr} (S : D8 N F js scope X.N X.env) (I : Inv X pins σ H s) (hf : A4f X pins H it) (J : Inv (X.compF scope N F s.heap.objs.size s H [it] (X.pn ++ pins)) pl σ' H' s') :
   Inv (X.compF scope N F s.heap.objs.size s H [it] (X.pn ++ pins)) [] (List.replicate N.length none ++ A5d js σ) H' s' := by
 obtain ⟨m, hn, _⟩ := J.loc
 refine ⟨J.ok, J.os, J.bare, J.base, ⟨m, hn, fun i x v e1 e2 e3 => B4n S I (fun x c v z q => ?_) i x v e1 e2⟩, J.cell, J.free, J.freeC, fun p hp => J.pin p (by
   have hp : p ∈ (X.pn ++ pins) ++ [] := hp
   rw [List.append_nil] at hp
   exact List.mem_append_left _ hp), J.hok, D9c S σ⟩
 obtain ⟨o, e, d⟩ := q
 have ne : c ∉ [it] := fun w => hf.2.2.2.2.1 x c z (by simpa using w)
 obtain ⟨sl, q⟩ := J.base.any e (I.freeC x c z) ne
 exact ⟨_, q, d⟩
theorem C8u {elt target iter c : Expr} {scope : Scope} {pos : Pos} {N F : List Str} {js : List Nat} {wi : TI} {g : TG} {tc : TT} {te : TE} (S : D8 N F js scope X.N X.env) (hd : A0p X) (hi : PIH X target iter wi) (hex : X.ex = [])
   (hg : ∀ C s₀ H₀ ex pn, A0p (X.compF scope N F C s₀ H₀ ex pn) -> PG (X.compF scope N F C s₀ H₀ ex pn) target g)
   (hc : ∀ C s₀ H₀ ex pn, A0p (X.compF scope N F C s₀ H₀ ex pn) -> PT (X.compF scope N F C s₀ H₀ ex pn) c tc)
   (he : ∀ C s₀ H₀ ex pn, A0p (X.compF scope N F C s₀ H₀ ex pn) -> PE (X.compF scope N F C s₀ H₀ ex pn) elt te)
   {pins : List (Addr × Obj)} {s : Shared} {σ : St} {H : Hp} {Q : VK} {RR : Value -> Env -> Result -> Shared -> Prop} (I : Inv X pins σ H s) (h : (B0r N.length js wi g tc te) σ H Q)
   (hRR : ∀ (D C : Addr) (s6 : Shared) (H5 : Hp) (mm : Str -> Option Value), Inv X pins σ H5 s6 -> s6.heap.Ns C mm -> A4f X pins H5 C -> Q (.ref D) H5 -> RR (.ref D) (compEnvC scope (A2s F X.env) C X.env) (.ok .next) s6) :
   wpAny (model X.prog X.w) X.A (eval iter X.env) (fun v s1 => wpAny (model X.prog X.w) X.A (pyIter v) (fun itv s2 => wpAny (model X.prog X.w) X.A (newList []) (fun acc s3 => wpAny (model X.prog X.w) X.A (newFunctionEnv scope X.env.globals (A2s F X.env) [] X.env.qual none .none (some X.env)) (fun cenv s4 =>
     codeAny (model X.prog X.w) X.A (.compStart (.ListComp elt [⟨target, iter, [c], 0⟩] scope pos) 0 itv acc { cenv with scope := relabel scope X.env }) (RR acc { cenv with scope := relabel scope X.env }) s4) X.xe s3) X.xe s2) X.xe s1) X.xe s := by
 refine thn (hi pins s σ H _ I h) fun v s1 h1 => thn h1 fun itv s2 h2 => ?_
 obtain ⟨it, tn, J, H2, rfl, I2, T, st2, f2, R⟩ := h2
 obtain ⟨oi, ei, di⟩ := T.obj _ _ st2
 have hf2 := I2.hok.fresh (Nat.le_refl _)
 refine wpAny_newObj_type ?_
 have I3 : Inv X pins σ (upd H2 s2.heap.objs.size (.lst [])) { s2 with heap := s2.heap.push { cls := .type "list", dict := none, data := .seq ([] : List Value).toArray } } := Inv.lnew (t' := s2.toks) I2 .nil (Nat.zero_le _)
 refine wpAny_newFunctionEnv S.cell (by intro y hy; simp at hy) (fun h4 hns hsb => ?_) S.kind
 dsimp only at hns hsb ⊢
 generalize hG : s2.heap.push { cls := .type "list", dict := none, data := .seq ([] : List Value).toArray } = G at I3 hns hsb ⊢
 generalize hD : s2.heap.objs.size = D at I3 hf2
 have nD : it ≠ D := by rw [<- hD]; exact Nat.ne_of_lt (Heap.lt_size ei)
 have eiG : G.get? it = some oi := by rw [<- hG]; exact Heap.get?_push_of_some _ ei
 have kp : ∀ b o, G.get? b = some o -> h4.get? b = some o := fun b o e => hsb.extBut b o (Nat.ne_of_lt (Heap.lt_size e)) (Heap.get?_push_of_some _ e)
 have f3 : A4f X pins (upd H2 D (.lst [])) it := ⟨by rw [C8 nD]; exact f2.1, f2.2⟩
 have nb : X.base.get? it = none := by
   cases q : X.base.get? it with
   | none => rfl
   | some o =>
     have := (I.ok.bs it o q).1
     rcases f2.2.2.2.1 with z | z
     . rw [hex] at z; simp at z
     . exact absurd (Nat.lt_of_lt_of_le (Heap.lt_size this) z) (Nat.lt_irrefl _)
 have hns' : h4.Ns G.objs.size (fun _ => none) := by
   obtain ⟨o, es, ep, q1, q2, q3, q4⟩ := hns
   exact ⟨o, es, ep, q1, q2, q3, fun x => by rw [q4]; rfl⟩
 have I4 := D7a (tk := s2.toks + ([] : List (Str × Value)).length) S I3 f3 ⟨oi, eiG⟩ nb hns' kp
 have hdc : A0p (X.compF scope N F G.objs.size { s2 with heap := G } (upd H2 D (.lst [])) [it] (X.pn ++ pins)) := by
   rcases hd with z | ⟨x, o, u, vs, z, e, d, n⟩
   . exact .inl z
   . refine .inr ⟨x, o, u, vs, z, ?_, d, n⟩
     have q := I2.base.frzs x o u e
     show upd H2 D (.lst []) x = _
     rw [C8 fun w => by rw [w, hf2] at q; cases q]
     exact q
 obtain ⟨m, W, w0, turn⟩ := R D hf2
 have gg := hg _ _ _ _ _ hdc
 have cc := hc _ _ _ _ _ hdc
 have ee := he _ _ _ _ _ hdc
 have fpc : ∀ {H' : Hp} {σ' : St} {s' : Shared} {pl : List (Addr × Obj)}, Inv (X.compF scope N F G.objs.size { s2 with heap := G } (upd H2 D (.lst [])) [it] (X.pn ++ pins)) pl σ' H' s' -> H' it = none -> (∀ p ∈ pl, p.1 ≠ it) -> A4f (X.compF scope N F G.objs.size { s2 with heap := G } (upd H2 D (.lst [])) [it] (X.pn ++ pins)) pl H' it := by
   intro H' σ' s' pl J' hn hp
   refine ⟨hn, Nat.ne_of_lt (Heap.lt_size eiG), ?_, .inl (List.mem_singleton.mpr rfl), (fun x c z => f2.2.2.2.2.1 x c (S.sub x c z)), fun p hpp => ?_⟩
   . intro z
     rcases List.mem_cons.mp (I.stkSub it z) with z | z
     . exact f2.2.1 z
     . exact f2.2.2.1 z
   . rcases List.mem_append.mp hpp with z | z
     . exact f2.2.2.2.2.2 p z
     . exact hp p z
 have loop : codeAny (model X.prog X.w) X.A (.compLoop (.ListComp elt [⟨target, iter, [c], 0⟩] scope pos) 0 (.ref it) (.ref D) (compEnvC scope (A2s F X.env) G.objs.size X.env))
     (RR (.ref D) (compEnvC scope (A2s F X.env) G.objs.size X.env))
     { s2 with heap := h4, toks := s2.toks + ([] : List (Str × Value)).length } := by
   refine kct_loop (fun k s' => ∃ i ys H', k = m + 1 - i /\ Inv (X.compF scope N F G.objs.size { s2 with heap := G } (upd H2 D (.lst [])) [it] (X.pn ++ pins)) [] (List.replicate N.length none ++ A5d js σ) H' s' /\ tn i s'.heap /\ H' it = none /\ W i ys H') ?_ (m + 1)
     ⟨0, [], _, rfl, I4, T.keep _ _ _ st2 fun o e => kp it o (by rw [<- hG]; exact Heap.get?_push_of_some _ e), f3.1, w0⟩
   rintro k s5 ⟨i, ys, H5, rfl, I5, st5, n5, w5⟩
   obtain ⟨hi5, hD5, w5⟩ := turn i ys H5 w5
   rcases w5 with ⟨stop, q⟩ | ⟨lt5, go, step⟩
   . refine wpAny_mono (T.done (X.compF scope N F G.objs.size { s2 with heap := G } (upd H2 D (.lst [])) [it] (X.pn ++ pins)) rfl rfl rfl hdc i [] s5 _ H5 (fun _ _ => False) I5 (fpc I5 n5 (by simp)) st5 stop) (fun r s6 z => ?_) (fun _ _ z => z.elim)
     obtain ⟨rfl, I6⟩ := z
     obtain ⟨mm, hn6, _⟩ := I6.loc
     have B6 := I6.base
     have J6 : Inv X pins σ H5 s6 := by
       refine I3.call' (ch := [it]) I6.os ⟨B6.keep, B6.slot, B6.free, B6.there, B6.tups, B6.frzs, B6.tbls⟩ I6.hok I6.bare (fun b hb => ?_)
       have e : b = it := by simpa using hb
       subst e
       exact ⟨f2.2.2.2.1, f2.2.1, f2.2.2.2.2.1, f2.2.2.2.2.2⟩
     have szG : X.s₀.heap.objs.size <= G.objs.size := I3.sz
     refine hRR D G.objs.size s6 H5 mm J6 hn6 ⟨I6.free, ?_, ?_, .inr szG, ?_, ?_⟩ q
     . exact Nat.ne_of_gt I3.lt
     . intro z
       obtain ⟨_, o, ho, _⟩ := I3.funs.mem z
       exact Nat.lt_irrefl _ (Heap.lt_size ho)
     . rintro x c z rfl
       obtain ⟨v', o, ho, _⟩ := I3.cell x _ z
       exact Nat.lt_irrefl _ (Heap.lt_size ho)
     . rintro p hp z
       have zz := (I3.pin p hp).1
       rw [z] at zz
       exact Nat.lt_irrefl _ (Heap.lt_size zz)
   . refine wpAny_mono (T.item (X.compF scope N F G.objs.size { s2 with heap := G } (upd H2 D (.lst [])) [it] (X.pn ++ pins)) rfl rfl rfl hdc i [] s5 _ H5 (fun _ _ => False) I5 (fpc I5 n5 (by simp)) st5 go) (fun r s6 z => ?_) (fun _ _ z => z.elim)
     obtain ⟨u, rfl, z⟩ := z
     refine wpAny_mono z (fun _ s7 z => ?_) (fun _ _ z => z.elim)
     obtain ⟨x, I7, rx, yl, st7⟩ := z
     obtain ⟨o7, e7, d7⟩ := T.obj _ _ st7
     obtain ⟨p0, p1, p2, _⟩ := fpc I7 n5 (by simp)
     have I7' : Inv (X.compF scope N F G.objs.size { s2 with heap := G } (upd H2 D (.lst [])) [it] (X.pn ++ pins)) [(it, o7)] (List.replicate N.length none ++ A5d js σ) H5 s7 := I7.pins_of fun p hp => by
       have e : p = (it, o7) := by simpa using hp
       subst e
       exact ⟨e7, p0, p1, p2, d7⟩
     have back : ∀ {i' : Nat} {ys' : List V} {H' : Hp} {σ' : St} {s' : Shared}, i' = i + 1 -> Inv (X.compF scope N F G.objs.size { s2 with heap := G } (upd H2 D (.lst [])) [it] (X.pn ++ pins)) [(it, o7)] σ' H' s' -> W i' ys' H' ->
         ∃ k', k' < m + 1 - i /\ ∃ i ys H', k' = m + 1 - i /\ Inv (X.compF scope N F G.objs.size { s2 with heap := G } (upd H2 D (.lst [])) [it] (X.pn ++ pins)) [] (List.replicate N.length none ++ A5d js σ) H' s' /\ tn i s'.heap /\ H' it = none /\ W i ys H' := by
       rintro i' ys' H' σ' s' rfl J' w'
       obtain ⟨q1, q2, _⟩ := J'.pin (it, o7) (List.mem_append_right _ (List.mem_singleton.mpr rfl))
       refine ⟨m + 1 - (i + 1), by omega, i + 1, ys', H', rfl, D7f S I3 f3 J', T.keep _ _ _ st7 fun o z => ?_, q2, w'⟩
       rw [e7] at z
       cases z
       exact q1
     refine wpAny_mono (gg [(it, o7)] s7 _ H5 x u _ I7' rx (step x H5 yl)) (fun _ s8 z => ?_) (fun _ _ z => z.elim)
     obtain ⟨σ8, H8, I8, q8⟩ := z
     refine wpAny_mono (cc [(it, o7)] s8 σ8 H8 _ I8 q8) (fun b s9 z => ?_) (fun _ _ z => z.elim)
     obtain ⟨H9, I9, q9⟩ := z
     cases b with
     | false =>
       simp only [Bool.false_eq_true, if_false] at q9 ⊢
       exact back rfl I9 q9
     | true =>
       simp only [if_true] at q9 ⊢
       refine wpAny_mono (ee [(it, o7)] s9 σ8 H9 _ I9 q9) (fun y s10 z => ?_) (fun _ _ z => z.elim)
       obtain ⟨yv, H10, I10, ry, hD10, hz10, w10⟩ := z
       refine wpAny_mono (C0e (X := X.compF scope N F G.objs.size { s2 with heap := G } (upd H2 D (.lst [])) [it] (X.pn ++ pins)) [(it, o7)] s10 σ8 H10 (.ref D) [yv] (.ref D) [y] (fun _ H11 => W (i + 1) (ys ++ [yv]) H11) I10 rfl (.cons ry .nil) ⟨D, ys, yv, rfl, rfl, hD10, hz10, w10⟩) (fun _ s11 z => ?_) (fun _ _ z => z.elim)
       obtain ⟨_, H11, I11, _, w11⟩ := z
       exact back rfl I11 w11
 exact codeAny_compStart_list loop (T.self _ 0 _ _ _ (T.keep _ _ _ st2 fun o e => kp it o (by rw [<- hG]; exact Heap.get?_push_of_some _ e)) loop)
theorem J1b {elt target iter : Expr} {scope : Scope} {pos : Pos} {N F : List Str} {js : List Nat} {wi : TI} {g : TG} {te : TE} (S : D8 N F js scope X.N X.env) (hd : A0p X) (hi : PIH X target iter wi) (hex : X.ex = [])
   (hg : ∀ C s₀ H₀ ex pn, A0p (X.compF scope N F C s₀ H₀ ex pn) -> PG (X.compF scope N F C s₀ H₀ ex pn) target g)
   (he : ∀ C s₀ H₀ ex pn, A0p (X.compF scope N F C s₀ H₀ ex pn) -> PE (X.compF scope N F C s₀ H₀ ex pn) elt te)
   {pins : List (Addr × Obj)} {s : Shared} {σ : St} {H : Hp} {Q : VK} {RR : Value -> Env -> Result -> Shared -> Prop} (I : Inv X pins σ H s) (h : (U8s N.length js wi g te) σ H Q)
   (hRR : ∀ (D C : Addr) (s6 : Shared) (H5 : Hp) (mm : Str -> Option Value), Inv X pins σ H5 s6 -> s6.heap.Ns C mm -> A4f X pins H5 C -> Q (.ref D) H5 -> RR (.ref D) (compEnvC scope (A2s F X.env) C X.env) (.ok .next) s6) :
   wpAny (model X.prog X.w) X.A (eval iter X.env) (fun v s1 => wpAny (model X.prog X.w) X.A (pyIter v) (fun itv s2 => wpAny (model X.prog X.w) X.A (newList []) (fun acc s3 => wpAny (model X.prog X.w) X.A (newFunctionEnv scope X.env.globals (A2s F X.env) [] X.env.qual none .none (some X.env)) (fun cenv s4 =>
     codeAny (model X.prog X.w) X.A (.compStart (.ListComp elt [⟨target, iter, [], 0⟩] scope pos) 0 itv acc { cenv with scope := relabel scope X.env }) (RR acc { cenv with scope := relabel scope X.env }) s4) X.xe s3) X.xe s2) X.xe s1) X.xe s := by
 refine thn (hi pins s σ H _ I h) fun v s1 h1 => thn h1 fun itv s2 h2 => ?_
 obtain ⟨it, tn, J, H2, rfl, I2, T, st2, f2, R⟩ := h2
 obtain ⟨oi, ei, di⟩ := T.obj _ _ st2
 have hf2 := I2.hok.fresh (Nat.le_refl _)
 refine wpAny_newObj_type ?_
 have I3 : Inv X pins σ (upd H2 s2.heap.objs.size (.lst [])) { s2 with heap := s2.heap.push { cls := .type "list", dict := none, data := .seq ([] : List Value).toArray } } := Inv.lnew (t' := s2.toks) I2 .nil (Nat.zero_le _)
 refine wpAny_newFunctionEnv S.cell (by intro y hy; simp at hy) (fun h4 hns hsb => ?_) S.kind
 dsimp only at hns hsb ⊢
 generalize hG : s2.heap.push { cls := .type "list", dict := none, data := .seq ([] : List Value).toArray } = G at I3 hns hsb ⊢
 generalize hD : s2.heap.objs.size = D at I3 hf2
 have nD : it ≠ D := by rw [<- hD]; exact Nat.ne_of_lt (Heap.lt_size ei)
 have eiG : G.get? it = some oi := by rw [<- hG]; exact Heap.get?_push_of_some _ ei
 have kp : ∀ b o, G.get? b = some o -> h4.get? b = some o := fun b o e => hsb.extBut b o (Nat.ne_of_lt (Heap.lt_size e)) (Heap.get?_push_of_some _ e)
 have f3 : A4f X pins (upd H2 D (.lst [])) it := ⟨by rw [C8 nD]; exact f2.1, f2.2⟩
 have nb : X.base.get? it = none := by
   cases q : X.base.get? it with
   | none => rfl
   | some o =>
     have := (I.ok.bs it o q).1
     rcases f2.2.2.2.1 with z | z
     . rw [hex] at z; simp at z
     . exact absurd (Nat.lt_of_lt_of_le (Heap.lt_size this) z) (Nat.lt_irrefl _)
 have hns' : h4.Ns G.objs.size (fun _ => none) := by
   obtain ⟨o, es, ep, q1, q2, q3, q4⟩ := hns
   exact ⟨o, es, ep, q1, q2, q3, fun x => by rw [q4]; rfl⟩
 have I4 := D7a (tk := s2.toks + ([] : List (Str × Value)).length) S I3 f3 ⟨oi, eiG⟩ nb hns' kp
 have hdc : A0p (X.compF scope N F G.objs.size { s2 with heap := G } (upd H2 D (.lst [])) [it] (X.pn ++ pins)) := by
   rcases hd with z | ⟨x, o, u, vs, z, e, d, n⟩
   . exact .inl z
   . refine .inr ⟨x, o, u, vs, z, ?_, d, n⟩
     have q := I2.base.frzs x o u e
     show upd H2 D (.lst []) x = _
     rw [C8 fun w => by rw [w, hf2] at q; cases q]
     exact q
 obtain ⟨m, W, w0, turn⟩ := R D hf2
 have gg := hg _ _ _ _ _ hdc
 have ee := he _ _ _ _ _ hdc
 have fpc : ∀ {H' : Hp} {σ' : St} {s' : Shared} {pl : List (Addr × Obj)}, Inv (X.compF scope N F G.objs.size { s2 with heap := G } (upd H2 D (.lst [])) [it] (X.pn ++ pins)) pl σ' H' s' -> H' it = none -> (∀ p ∈ pl, p.1 ≠ it) -> A4f (X.compF scope N F G.objs.size { s2 with heap := G } (upd H2 D (.lst [])) [it] (X.pn ++ pins)) pl H' it := by
   intro H' σ' s' pl J' hn hp
   refine ⟨hn, Nat.ne_of_lt (Heap.lt_size eiG), ?_, .inl (List.mem_singleton.mpr rfl), (fun x c z => f2.2.2.2.2.1 x c (S.sub x c z)), fun p hpp => ?_⟩
   . intro z
     rcases List.mem_cons.mp (I.stkSub it z) with z | z
     . exact f2.2.1 z
     . exact f2.2.2.1 z
   . rcases List.mem_append.mp hpp with z | z
     . exact f2.2.2.2.2.2 p z
     . exact hp p z
 have loop : codeAny (model X.prog X.w) X.A (.compLoop (.ListComp elt [⟨target, iter, [], 0⟩] scope pos) 0 (.ref it) (.ref D) (compEnvC scope (A2s F X.env) G.objs.size X.env))
     (RR (.ref D) (compEnvC scope (A2s F X.env) G.objs.size X.env))
     { s2 with heap := h4, toks := s2.toks + ([] : List (Str × Value)).length } := by
   refine V8y (fun k s' => ∃ i ys H', k = m + 1 - i /\ Inv (X.compF scope N F G.objs.size { s2 with heap := G } (upd H2 D (.lst [])) [it] (X.pn ++ pins)) [] (List.replicate N.length none ++ A5d js σ) H' s' /\ tn i s'.heap /\ H' it = none /\ W i ys H') ?_ (m + 1)
     ⟨0, [], _, rfl, I4, T.keep _ _ _ st2 fun o e => kp it o (by rw [<- hG]; exact Heap.get?_push_of_some _ e), f3.1, w0⟩
   rintro k s5 ⟨i, ys, H5, rfl, I5, st5, n5, w5⟩
   obtain ⟨hi5, hD5, w5⟩ := turn i ys H5 w5
   rcases w5 with ⟨stop, q⟩ | ⟨lt5, go, step⟩
   . refine wpAny_mono (T.done (X.compF scope N F G.objs.size { s2 with heap := G } (upd H2 D (.lst [])) [it] (X.pn ++ pins)) rfl rfl rfl hdc i [] s5 _ H5 (fun _ _ => False) I5 (fpc I5 n5 (by simp)) st5 stop) (fun r s6 z => ?_) (fun _ _ z => z.elim)
     obtain ⟨rfl, I6⟩ := z
     obtain ⟨mm, hn6, _⟩ := I6.loc
     have B6 := I6.base
     have J6 : Inv X pins σ H5 s6 := by
       refine I3.call' (ch := [it]) I6.os ⟨B6.keep, B6.slot, B6.free, B6.there, B6.tups, B6.frzs, B6.tbls⟩ I6.hok I6.bare (fun b hb => ?_)
       have e : b = it := by simpa using hb
       subst e
       exact ⟨f2.2.2.2.1, f2.2.1, f2.2.2.2.2.1, f2.2.2.2.2.2⟩
     have szG : X.s₀.heap.objs.size <= G.objs.size := I3.sz
     refine hRR D G.objs.size s6 H5 mm J6 hn6 ⟨I6.free, ?_, ?_, .inr szG, ?_, ?_⟩ q
     . exact Nat.ne_of_gt I3.lt
     . intro z
       obtain ⟨_, o, ho, _⟩ := I3.funs.mem z
       exact Nat.lt_irrefl _ (Heap.lt_size ho)
     . rintro x c z rfl
       obtain ⟨v', o, ho, _⟩ := I3.cell x _ z
       exact Nat.lt_irrefl _ (Heap.lt_size ho)
     . rintro p hp z
       have zz := (I3.pin p hp).1
       rw [z] at zz
       exact Nat.lt_irrefl _ (Heap.lt_size zz)
   . refine wpAny_mono (T.item (X.compF scope N F G.objs.size { s2 with heap := G } (upd H2 D (.lst [])) [it] (X.pn ++ pins)) rfl rfl rfl hdc i [] s5 _ H5 (fun _ _ => False) I5 (fpc I5 n5 (by simp)) st5 go) (fun r s6 z => ?_) (fun _ _ z => z.elim)
     obtain ⟨u, rfl, z⟩ := z
     refine wpAny_mono z (fun _ s7 z => ?_) (fun _ _ z => z.elim)
     obtain ⟨x, I7, rx, yl, st7⟩ := z
     obtain ⟨o7, e7, d7⟩ := T.obj _ _ st7
     obtain ⟨p0, p1, p2, _⟩ := fpc I7 n5 (by simp)
     have I7' : Inv (X.compF scope N F G.objs.size { s2 with heap := G } (upd H2 D (.lst [])) [it] (X.pn ++ pins)) [(it, o7)] (List.replicate N.length none ++ A5d js σ) H5 s7 := I7.pins_of fun p hp => by
       have e : p = (it, o7) := by simpa using hp
       subst e
       exact ⟨e7, p0, p1, p2, d7⟩
     have back : ∀ {i' : Nat} {ys' : List V} {H' : Hp} {σ' : St} {s' : Shared}, i' = i + 1 -> Inv (X.compF scope N F G.objs.size { s2 with heap := G } (upd H2 D (.lst [])) [it] (X.pn ++ pins)) [(it, o7)] σ' H' s' -> W i' ys' H' ->
         ∃ k', k' < m + 1 - i /\ ∃ i ys H', k' = m + 1 - i /\ Inv (X.compF scope N F G.objs.size { s2 with heap := G } (upd H2 D (.lst [])) [it] (X.pn ++ pins)) [] (List.replicate N.length none ++ A5d js σ) H' s' /\ tn i s'.heap /\ H' it = none /\ W i ys H' := by
       rintro i' ys' H' σ' s' rfl J' w'
       obtain ⟨q1, q2, _⟩ := J'.pin (it, o7) (List.mem_append_right _ (List.mem_singleton.mpr rfl))
       refine ⟨m + 1 - (i + 1), by omega, i + 1, ys', H', rfl, D7f S I3 f3 J', T.keep _ _ _ st7 fun o z => ?_, q2, w'⟩
       rw [e7] at z
       cases z
       exact q1
     refine wpAny_mono (gg [(it, o7)] s7 _ H5 x u _ I7' rx (step x H5 yl)) (fun _ s8 z => ?_) (fun _ _ z => z.elim)
     obtain ⟨σ8, H8, I8, q8⟩ := z
     refine wpAny_mono (ee [(it, o7)] s8 σ8 H8 _ I8 q8) (fun y s10 z => ?_) (fun _ _ z => z.elim)
     obtain ⟨yv, H10, I10, ry, hD10, hz10, w10⟩ := z
     refine wpAny_mono (C0e (X := X.compF scope N F G.objs.size { s2 with heap := G } (upd H2 D (.lst [])) [it] (X.pn ++ pins)) [(it, o7)] s10 σ8 H10 (.ref D) [yv] (.ref D) [y] (fun _ H11 => W (i + 1) (ys ++ [yv]) H11) I10 rfl (.cons ry .nil) ⟨D, ys, yv, rfl, rfl, hD10, hz10, w10⟩) (fun _ s11 z => ?_) (fun _ _ z => z.elim)
     obtain ⟨_, H11, I11, _, w11⟩ := z
     exact back rfl I11 w11
 exact codeAny_compStart_list loop (T.self _ 0 _ _ _ (T.keep _ _ _ st2 fun o e => kp it o (by rw [<- hG]; exact Heap.get?_push_of_some _ e)) loop)
theorem C7t {elt target iter : Expr} {c : Expr} {tc : TT} {pos : Pos} {wi : TI} {g : TG} {te : TE} (S : D8 N F js scope X.N X.env) (hd : A0p X) (hi : PIH X target iter wi) (hex : X.ex = [])
   (hg : ∀ C s₀ H₀ ex pn, A0p (X.compF scope N F C s₀ H₀ ex pn) -> PG (X.compF scope N F C s₀ H₀ ex pn) target g)
   (hc : ∀ C s₀ H₀ ex pn, A0p (X.compF scope N F C s₀ H₀ ex pn) -> PT (X.compF scope N F C s₀ H₀ ex pn) c tc)
   (he : ∀ C s₀ H₀ ex pn, A0p (X.compF scope N F C s₀ H₀ ex pn) -> PE (X.compF scope N F C s₀ H₀ ex pn) elt te)
   (hs : ∀ x, foldedSetIterable iter X.env x = pure x := by intro _; rfl) : PE X (.ListComp elt [⟨target, iter, [c], 0⟩] scope pos) (B0r N.length js wi g tc te) := by
 intro pins s σ H Q I h
 rw [eval_ListComp]
 refine wpAny_comprehension_free (use := none) rfl hs S.clos S.kind S.loc (C8u S hd hi hex hg hc he I h (RR := fun acc ce r s' => compPost (model X.prog X.w) X.A X.xe none (EP X pins σ Q) acc ce.locals r s') ?_)
 intro D C s6 H5 mm I6 n6 f6 q
 exact ⟨mm, n6, fun h' sb => ⟨.ref D, H5, U9m I6 f6 sb, rfl, q⟩⟩
theorem V2e {elt target iter : Expr} {pos : Pos} {wi : TI} {g : TG} {te : TE} (S : D8 N F js scope X.N X.env) (hd : A0p X) (hi : PIH X target iter wi) (hex : X.ex = [])
   (hg : ∀ C s₀ H₀ ex pn, A0p (X.compF scope N F C s₀ H₀ ex pn) -> PG (X.compF scope N F C s₀ H₀ ex pn) target g)
   (he : ∀ C s₀ H₀ ex pn, A0p (X.compF scope N F C s₀ H₀ ex pn) -> PE (X.compF scope N F C s₀ H₀ ex pn) elt te)
   (hs : ∀ x, foldedSetIterable iter X.env x = pure x := by intro _; rfl) : PE X (.ListComp elt [⟨target, iter, [], 0⟩] scope pos) (U8s N.length js wi g te) := by
 intro pins s σ H Q I h
 rw [eval_ListComp]
 refine wpAny_comprehension_free (use := none) rfl hs S.clos S.kind S.loc (J1b S hd hi hex hg he I h (RR := fun acc ce r s' => compPost (model X.prog X.w) X.A X.xe none (EP X pins σ Q) acc ce.locals r s') ?_)
 intro D C s6 H5 mm I6 n6 f6 q
 exact ⟨mm, n6, fun h' sb => ⟨.ref D, H5, U9m I6 f6 sb, rfl, q⟩⟩
theorem Y0p {i : Nat} {y : Str} {py spos : Pos} {elt target iter : Expr} {c : Expr} {tc : TT} {pos : Pos} {wi : TI} {g : TG} {te : TE} (S : D8 N F js scope X.N X.env) (hd : A0p X) (hi : PIH X target iter wi) (hex : X.ex = [])
   (hg : ∀ C s₀ H₀ ex pn, A0p (X.compF scope N F C s₀ H₀ ex pn) -> PG (X.compF scope N F C s₀ H₀ ex pn) target g)
   (hc : ∀ C s₀ H₀ ex pn, A0p (X.compF scope N F C s₀ H₀ ex pn) -> PT (X.compF scope N F C s₀ H₀ ex pn) c tc)
   (he : ∀ C s₀ H₀ ex pn, A0p (X.compF scope N F C s₀ H₀ ex pn) -> PE (X.compF scope N F C s₀ H₀ ex pn) elt te) (hN : X.N.Nodup) (hi' : X.N[i]? = some y) (hy : Loc X.env.scope y)
   (hf : X.fn y = true \/ X.env.scope.names.lookup y = some .local := by first | exact .inl rfl | exact .inr rfl | assumption)
   (hsw : swapsWith (.ListComp elt [⟨target, iter, [c], 0⟩] scope pos) (some (.Name y py)) spos.line X.env = pure true := by rfl)
   (hs : ∀ x, foldedSetIterable iter X.env x = pure x := by intro _; rfl) : PS X (.Assign [.Name y py] (.ListComp elt [⟨target, iter, [c], 0⟩] scope pos) spos) (tAsg (B0r N.length js wi g tc te) (D6u i)) := by
 intro pins s σ H D I h
 rw [exec_Assign_Name_used _ _ _ _ hsw]
 refine wpAny_bind (wpAny_standAt (wpAny_bind ?_))
 show wpAny _ X.A (do let _ <- comprehension (.ListComp elt [⟨target, iter, [c], 0⟩] scope pos) scope X.env _ (newList []) false (eval iter X.env) (some (assign (.Name y py) X.env))) _ _ s
 refine wpAny_bind (wpAny_mono (wpAny_comprehension_free (Q := fun _ s' => SP X pins D .next s') rfl hs S.clos S.kind S.loc (C8u S hd hi hex hg hc he I h (RR := fun acc ce r s' => compPost (model X.prog X.w) X.A X.xe (some (assign (.Name y py) X.env)) (fun _ s' => SP X pins D .next s') acc ce.locals r s') ?_))
   (fun _ s' hq => wpAny_pure (wpAny_pure hq)) fun _ _ e => e)
 intro D' C s6 H5 mm I6 n6 f6 q
 refine wpAny_assign_Name (D7p (v := .ref D') I6 hN hi' hy rfl (fun s7 I7 st => ?_) hf)
 obtain ⟨a, sb, ha⟩ := st
 have na : C ≠ a := by
   rcases ha with rfl | ha
   . exact f6.2.1
   . exact (f6.2.2.2.2.1 y a ha).symm
 exact ⟨mm, n6.sameBut sb na, fun h' sb' => ⟨_, _, U9m I7 f6 sb', q⟩⟩
end
structure A0dj (N F : List Str) (sc : Scope) : Prop where
 kind : sc.kind = .function
 cell : ∀ y ∈ sc.names, y.2 ≠ .cell
 loc : ∀ y ∈ sc.names, y.2 = .local -> sc.names.lookup y.1 = some .local
 fr : ∀ y ∈ sc.names, y.2 = .free -> y.1 ∈ F
 nd : (N ++ F).Nodup
theorem C7n {sc : Scope} {env : Env} {F : List Str} (cell : ∀ y ∈ sc.names, y.2 ≠ .cell) (fr : ∀ y ∈ sc.names, y.2 = .free -> y.1 ∈ F) : ∀ y ∈ (relabel sc env).names, y.2 = .cell \/ y.2 = .free -> y.1 ∈ F := by
 intro y hy h
 obtain ⟨⟨n, k⟩, hm, e⟩ := List.mem_map.mp hy
 dsimp only at e
 split at e
 . rename_i hc
   subst e
   simp only [Bool.and_eq_true] at hc
   exact fr (n, k) hm (by simpa using hc.1.1)
 subst e
 rcases h with h | h
 . exact absurd h (cell (n, k) hm)
 exact fr (n, k) hm h
theorem D8.of1 {N : List Str} {x : Str} {j : Nat} {sc : Scope} {XN : List Str} {env : Env} (S : A0dj N [x] sc) (clos : closureFor sc env = pure (A2s [x] env)) (hj : XN[j]? = some x) (hc : ∃ c, env.cells.lookup x = some c) (hk : env.kindOf x = some .cell)
   (hr : (relabel sc env).names.lookup x = some .cell) : D8 N [x] [j] sc XN env :=
 ⟨S.kind, S.cell, S.loc, S.nd, clos, C7n S.cell S.fr, fun k y h => match k, h with
   | 0, h => by cases h; exact ⟨⟨j, rfl, hj⟩, hc, hk, hr⟩
   | k + 1, h => by simp at h, rfl⟩
theorem D8.of2 {N : List Str} {x y : Str} {j k : Nat} {sc : Scope} {XN : List Str} {env : Env} (S : A0dj N [x, y] sc) (clos : closureFor sc env = pure (A2s [x, y] env)) (hj : XN[j]? = some x) (hc : ∃ c, env.cells.lookup x = some c) (hk : env.kindOf x = some .cell)
   (hr : (relabel sc env).names.lookup x = some .cell) (hj' : XN[k]? = some y) (hc' : ∃ c, env.cells.lookup y = some c) (hk' : env.kindOf y = some .cell) (hr' : (relabel sc env).names.lookup y = some .cell) : D8 N [x, y] [j, k] sc XN env :=
 ⟨S.kind, S.cell, S.loc, S.nd, clos, C7n S.cell S.fr, fun i z h => match i, h with
   | 0, h => by cases h; exact ⟨⟨j, rfl, hj⟩, hc, hk, hr⟩
   | 1, h => by cases h; exact ⟨⟨k, rfl, hj'⟩, hc', hk', hr'⟩
   | i + 2, h => by simp at h, rfl⟩
theorem A1c (z : Str) : ∀ zs : List Str, inV (.str z) (zs.map V.str) = zs.contains z
 | [] => rfl
 | y :: zs => by
   show (eqV (.str y) (.str z) || inV (.str z) (zs.map V.str)) = _
   rw [A1c z zs, List.contains_cons]
   show ((y == z) || _) = _
   rw [BEq.comm]
theorem A0b : ∀ zs : List Str, (zs.map V.str).all B8p = true
 | [] => rfl
 | _ :: zs => A0b zs
theorem C6y {K : Frag} {H : Hp} {σ σf : L2.St} {a : Addr} {zs : List Str} {f : Str -> Bool} {tc : TT} {te : TE} {Q : VK} (hl : ∀ H, SqT K H a (zs.map V.str)) (hz : zs.length <= 100)
   (ht : ∀ (z : Str) (H' : Hp) (Qb : Bool -> Hp -> Prop), B7 H H' -> Qb (f z) H' -> tc (some (.str z) :: σf) H' Qb) (he : ∀ (z : Str) (H' : Hp) (Qv : VK), Qv (.str z) H' -> te (some (.str z) :: σf) H' Qv)
   (k : ∀ D H', B7 H H' -> H D = none -> H' D = some (.lst ((zs.filter f).map V.str)) -> Q (.ref D) H') {js : List Nat} (hj : A5d js σ = σf) : B0r 1 js (iTup K (tC (.ref a))) (D6u 0) tc te σ H Q := by
 refine ⟨a, rfl, ⟨_, hl H⟩, fun D hD => ⟨zs.length, fun i ys H2 => i <= zs.length /\ ys = ((zs.take i).filter f).map V.str /\ H2 = upd H D (.lst ys), ⟨Nat.zero_le _, rfl, rfl⟩, ?_⟩⟩
 rintro i ys H2 ⟨hi, rfl, rfl⟩
 refine ⟨hi, A8, ?_⟩
 have sm : B7 H (upd H D (.lst (((zs.take i).filter f).map V.str))) := B7.upd hD
 have lz : (((zs.take i).filter f).map V.str).length <= 100 := by
   rw [List.length_map]
   exact Nat.le_trans (List.length_filter_le _ _) (by rw [List.length_take]; omega)
 by_cases hlt : i < zs.length
 . refine .inr ⟨hlt, ⟨_, V.str zs[i], hl _, by simp [hlt]⟩, fun x H3 y => ?_⟩
   obtain ⟨rfl, y⟩ := y
   have ex : x = V.str zs[i] := by
     have := y _ (hl _)
     simp [hlt] at this
     exact this.symm
   subst ex
   rw [hj]
   show tc (some (.str zs[i]) :: σf) _ _
   refine ht _ _ _ sm ?_
   have et : (zs.take (i + 1)).filter f = (zs.take i).filter f ++ (if f zs[i] then [zs[i]] else []) := by
     rw [List.take_succ_eq_append_getElem hlt, List.filter_append]
     congr 1
     cases hb : f zs[i] <;> simp [hb]
   cases hb : f zs[i] with
   | false =>
     refine U2 ⟨hlt, ?_, rfl⟩
     rw [et, hb]; simp
   | true =>
     refine Z2 (he _ _ _ ⟨A8, Nat.lt_of_le_of_lt lz (Y0 (by decide)), hlt, ?_, ?_⟩)
     . rw [et, hb]; simp
     . rw [U8j]
 have e : i = zs.length := by omega
 subst e
 refine .inl ⟨⟨_, hl _, by simp⟩, k D _ sm hD ?_⟩
 rw [List.take_length]
 exact A8
end L2
namespace L2
open PySem
section
variable {prog : Program} {w : World} {A : Around} {E : Value -> Shared -> Prop} {h : Heap} {g : Array GenState} {d : Drawn} {t : Nat} {os : OsState}
variable {nm q : Str} {C N : Addr} {bs bm bmB : List Value} {hdct : Bool} {sn : List Str} {sub : List Value} {ab : Bool} {col : Option Bool} {dd : Option Addr} {k0 k1 k2 k3 k5 : Option Value} {B newId initId : String}
theorem B5k (F : ExcBaseFacts B newId initId bmB) (T : OwnTail h bmB bm) {mN : Str -> Option Value} {rest : List Value} {fI : Addr} {oI : Obj} {Q : Fin -> Shared -> Prop}
   (hC : h.get? C = some (excClassObj nm q C N bs bm hdct sn sub ab col dd k0 k1 k2 k3 k5 newId)) (hn : h.Ns N mN) (hi : mN "__init__" = some (.ref fI))
   (hfI : h.get? fI = some oI) (hfc : oI.cls = .type "function")
   (hq : ∀ h' e, Heap.MadeExcOf h h' e (.ref C) rest ->
     wpAny (model prog w) A (call (.ref fI) (.ref e :: rest)) (fun r s' => r = .none /\ Q (.done (.ret (.ref e))) s') E ⟨h', g, d, t, os⟩) (hrest : rest.length <= sizeLine) :
   wpAny (model prog w) A (Builtin.«type.__call__» ⟨.ref C :: rest, []⟩) Q E ⟨h, g, d, t, os⟩ := by
 repeat (first | with_reducible refine wpAny_loadPart_at hC ?_ | with_reducible refine wpAny_madeBy_exc hC ?_ | wp_step)
 refine codeAny_call_builtin_code (Code.quiet_builtin _ F.quiet) (wpAny_check_new_subT F T hC ?_)
 refine codeAny_exc_new_subT F T hC ?_ hrest
 show wpAny _ _ _ _ _ _
 have hC₁ := Heap.get?_push_of_some { cls := .ref C, data := .fields #[.ref h.objs.size, .none, .none, .none, .bool false, .none] }
   (Heap.get?_push_of_some { cls := .type "tuple", data := .seq rest.toArray } hC)
 have hfI₁ := Heap.get?_push_of_some { cls := .ref C, data := .fields #[.ref h.objs.size, .none, .none, .none, .bool false, .none] }
   (Heap.get?_push_of_some { cls := .type "tuple", data := .seq rest.toArray } hfI)
 have hn₁ : ((h.push { cls := .type "tuple", data := .seq rest.toArray }).push { cls := .ref C, data := .fields #[.ref h.objs.size, .none, .none, .none, .bool false, .none] }).Ns N mN :=
   let ⟨o, es, ep, e, r⟩ := hn; ⟨o, es, ep, Heap.get?_push_of_some _ (Heap.get?_push_of_some _ e), r⟩
 have hget : ((h.push { cls := .type "tuple", data := .seq rest.toArray }).push
     { cls := .ref C, data := .fields #[.ref h.objs.size, .none, .none, .none, .bool false, .none] }).get? (h.objs.size + 1) = some
     { cls := .ref C, data := .fields #[.ref h.objs.size, .none, .none, .none, .bool false, .none] } := by heap_get
 have hcC : (Value.ref C :: bm).contains (.ref C) = true := by simp
 have T₁ := T.keeps (h' := (h.push { cls := .type "tuple", data := .seq rest.toArray }).push { cls := .ref C, data := .fields #[.ref h.objs.size, .none, .none, .none, .bool false, .none] })
   fun b o e => Heap.get?_push_of_some _ (Heap.get?_push_of_some _ e)
 unfold isInstance
 repeat (first | with_reducible refine wpAny_loadPart_at hget ?_ | (with_reducible refine wpAny_isSubtype_exc hC₁ ?_; rw [hcC]) | wp_step)
 show wpAny _ _ (typeLookup (.ref C) _) _ _ _
 refine wpAny_typeLookup_tail hC₁ hn₁ T₁ F.mroIs F.init.lookup ?_
 rw [hi]
 refine wpAny_holding (wpAny_bind ?_)
 unfold bindSpecial
 refine wpAny_bind (wpAny_typeOf (T := "function") ⟨_, hfI₁, hfc⟩ ?_)
 rw [if_pos (by decide)]
 refine wpAny_pure (wpAny_bind (wpAny_mono (hq _ (h.objs.size + 1) ⟨fun b o hb => Heap.get?_push_of_some _ (Heap.get?_push_of_some _ hb), Heap.get?_none_of_le (Nat.le_succ _), h.objs.size, hget, Heap.get?_none_of_le (Nat.le_refl _), ?_⟩) (fun r s' hr => ?_) fun _ _ x => x))
 . exact Heap.get?_push_of_some _ (Heap.get?_push_at rfl rfl)
 obtain ⟨rfl, hQ⟩ := hr
 wp_walk
 exact hQ
theorem C8p (F : ExcBaseFacts B newId initId bmB) (T : OwnTail h bmB bm) {mN : Str -> Option Value} {rest : List Value} {fI : Addr} {oI : Obj} {Q : Value -> Shared -> Prop}
   (hC : h.get? C = some (excClassObj nm q C N bs bm hdct sn sub ab col dd k0 k1 k2 k3 k5 newId)) (hn : h.Ns N mN) (hi : mN "__init__" = some (.ref fI))
   (hfI : h.get? fI = some oI) (hfc : oI.cls = .type "function")
   (hq : ∀ h' e, Heap.MadeExcOf h h' e (.ref C) rest ->
     wpAny (model prog w) (A.under (.builtin "type.__call__" ⟨.ref C :: rest, []⟩)) (call (.ref fI) (.ref e :: rest)) (fun r s' => r = .none /\ Q (.ref e) s') E ⟨h', g, d, t, os⟩) (hrest : rest.length <= sizeLine) :
   wpAny (model prog w) A (call (.ref C) rest) Q E ⟨h, g, d, t, os⟩ := by
 have f1 := tc_lookup
 have f2 := tc_bind (.ref C)
 have hT : (⟨h, g, d, t, os⟩ : Shared).TypeIs (.ref C) "type" := ⟨_, hC, rfl⟩
 refine wpAny_call (codeAny_of_tree ?_)
 show wpAny _ _ (callAny (.ref C) _) _ _ _
 repeat (any_goals (first | assumption | with_reducible refine wpAny_loadPart_at hC ?_ | wp_step))
 refine ⟨rfl, ?_⟩
 refine codeAny_call_builtin_at (Code.quiet_builtin _ (by decide +kernel)) entry_typeCall (wpAny_check_type_call_sub hC (B5k (hrest := hrest) F T hC hn hi hfI hfc fun h' e hm => ?_))
 exact hq h' e hm
end
section
variable {M : Model} {prog : Program} {w : World} {A : Around} {E : Value -> Shared -> Prop} {s : Shared} {env : Env}
variable {nm q : Str} {C N : Addr} {bs bm bmB : List Value} {hdct : Bool} {sn : List Str} {sub : List Value} {ab : Bool} {col : Option Bool} {dd : Option Addr} {k0 k1 k2 k3 k5 : Option Value} {B newId initId : String}
theorem B0s {x : Sem Value} {Q : Flow -> Shared -> Prop} (hbase : bm.contains (.type "BaseException") = true) (hh : A.handled = none)
   (h : wpAny M A x (fun v s₁ => ∃ e t de, v = .ref e /\ s₁.heap.get? C = some (excClassObj nm q C N bs bm hdct sn sub ab col dd k0 k1 k2 k3 k5 newId) /\
     s₁.heap.get? e = some { cls := .ref C, dict := de, data := .fields #[.ref t, .none, .none, .none, .bool false, .none] } /\ E (.ref e) s₁) E s) :
   wpAny M A (raiseStmt env (some x) none) Q E s := by
 have hcB : (Value.ref C :: bm).contains (.type "BaseException") = true := by rw [List.contains_cons, hbase, Bool.or_true]
 unfold raiseStmt
 refine wpAny_bind (wpAny_mono h (fun v s₁ h₁ => ?_) fun _ _ x => x)
 obtain ⟨e, t, de, rfl, hC, he, hE⟩ := h₁
 obtain ⟨hp, g, d, tk, os⟩ := s₁
 repeat (first | with_reducible refine wpAny_loadPart_at he ?_ | with_reducible refine wpAny_loadPart_at hC ?_ | (with_reducible refine wpAny_isSubtype_exc hC ?_; rw [hcB]) | wp_step)
 exact wpAny_raiseNew_none hh hE
theorem B9s (F : ExcBaseFacts B newId initId bmB) {mN : Str -> Option Value} {x : Str} {np cpos pos : Pos} {args : List Expr} {Q : Flow -> Shared -> Prop} {fI : Addr} {oI : Obj}
   (hbase : bm.contains (.type "BaseException") = true) (hh : A.handled = none) (hplain : (backTo cpos (starEach args env)).any (·.1) = false) (hi : mN "__init__" = some (.ref fI)) (hfc : oI.cls = .type "function")
   (h : wpAny (model prog w) A (eval (.Name x np) env) (fun f s₁ => f = .ref C /\ wpAny (model prog w) A (evalArgs (.ref C) true (backTo cpos (starEach args env)) [])
     (fun a s₂ => a.kw = [] /\ a.pos.length <= sizeLine /\ s₂.heap.get? C = some (excClassObj nm q C N bs bm hdct sn sub ab col dd k0 k1 k2 k3 k5 newId) /\ s₂.heap.Ns N mN /\ OwnTail s₂.heap bmB bm /\ s₂.heap.get? fI = some oI /\
       ∀ h' e, Heap.MadeExcOf s₂.heap h' e (.ref C) a.pos -> wpAny (model prog w) (A.under (.builtin "type.__call__" ⟨.ref C :: a.pos, []⟩)) (call (.ref fI) (.ref e :: a.pos))
         (fun r s₃ => r = .none /\ s₃.heap.get? C = some (excClassObj nm q C N bs bm hdct sn sub ab col dd k0 k1 k2 k3 k5 newId) /\ (∃ t de, s₃.heap.get? e = some { cls := .ref C, dict := de, data := .fields #[.ref t, .none, .none, .none, .bool false, .none] }) /\ E (.ref e) s₃) E { s₂ with heap := h' }) E s₁) E s) :
   wpAny (model prog w) A (exec (.Raise (some (.Call (.Name x np) args [] cpos)) none pos) env) Q E s := by
 rw [arm_exec_Raise]
 first
   | refine wpAny_bind (wpAny_standAt (B0s (C := C) (nm := nm) (q := q) (N := N) (bs := bs) (bm := bm) (hdct := hdct) (sn := sn) (sub := sub) (ab := ab) (col := col) (dd := dd) (k0 := k0) (k1 := k1) (k2 := k2) (k3 := k3) (k5 := k5) (newId := newId) hbase hh (wpAny_bind (wpAny_mono (wpAny_Call_ofName (wpAny_mono h (fun f s₁ h₁ => ?_) fun _ _ x => x)) (fun v s₃ h₃ => wpAny_bind (wpAny_standAt (wpAny_pure h₃))) fun _ _ x => x))))
   | (simp only [evalOpt, Option.map]; refine wpAny_bind (wpAny_standAt (B0s (C := C) (nm := nm) (q := q) (N := N) (bs := bs) (bm := bm) (hdct := hdct) (sn := sn) (sub := sub) (ab := ab) (col := col) (dd := dd) (k0 := k0) (k1 := k1) (k2 := k2) (k3 := k3) (k5 := k5) (newId := newId) hbase hh (wpAny_bind (wpAny_mono (wpAny_Call_ofName (wpAny_mono h (fun f s₁ h₁ => ?_) fun _ _ x => x)) (fun v s₃ h₃ => wpAny_bind (wpAny_standAt (wpAny_pure h₃))) fun _ _ x => x)))))
 obtain ⟨rfl, h₁⟩ := h₁
 unfold callWith
 refine wpAny_bind (wpAny_holding (wpAny_mono h₁ (fun a s₂ h₂ => wpAny_bind (wpAny_standAt ?_)) fun _ _ x => x))
 obtain ⟨apos, akw⟩ := a
 obtain ⟨hkw, hlen, hC, hn, T, hf, h₂⟩ := h₂
 obtain rfl : akw = [] := hkw
 obtain ⟨hp, g, d, tk, os⟩ := s₂
 simp only [hplain]
 refine wpAny_bind (wpAny_keeperOf_exc hC ?_)
 refine wpAny_bind (C8p F T hC hn hi hf hfc (fun h' e hm => wpAny_mono (h₂ h' e hm) (fun r s₃ z => ⟨z.1, wpAny_bind (wpAny_holding (wpAny_point (wpAny_pure ?_)))⟩) fun _ _ x => x) hlen)
 obtain ⟨_, hC3, ⟨t, de, he⟩, hE⟩ := z
 exact ⟨e, t, de, rfl, hC3, he, hE⟩
end
end L2
namespace L2
open PySem PySem.Spec PyProof.Rows PySem.W
abbrev U9p : List Value := [.type "ValueError", .type "Exception", .type "BaseException", .type "object"]
structure V3g (K : Frag) (C fI : Addr) : Prop where
 cls : ∃ nm q N bs bm sn sub ab col dd k0 k1 k2 k3 k5, K.lookup C = some (excClassObj nm q C N bs bm true sn sub ab col dd k0 k1 k2 k3 k5 "ValueError.__new__") /\ nsOkIn K N = true /\ nsIn K N "__init__" = some (some (.ref fI)) /\ tailIn K U9p bm = true
 fn : ∃ o, K.lookup fI = some o /\ o.cls = .type "function"
 sa : findIn K (.ref C) "__setattr__" = some (some (.builtin "object.__setattr__"))
 ob : mroIn K C (.type "object") = some true
theorem J6u {K : Frag} {h : Heap} {N : Addr} {mg : Str -> Option Value} {n : Str} {v : Value} (X : K.In h) (G : h.Ns N mg) (e : nsIn K N n = some (some v)) : mg n = some v := by
 obtain ⟨o, es, ep, ho, hd, _, hf⟩ := G
 unfold nsIn at e
 split at e
 . rename_i c d es' n' sl q
   have := X _ _ q
   rw [ho] at this
   cases this
   cases hd
   split at e
   . rename_i en he
     cases e
     rw [<- hf]
     unfold nsFind findBy
     rw [<- Array.find?_toList, he]
     rfl
   . split at e <;> cases e
 cases e
theorem C5g {h : Heap} (self : Value) : ∀ {l : List Value}, OwnTail h U9p l -> refuseLoop self "__setattr__" l = pure ()
 | _, .base => PySem.F.store_ValueError.passes self
 | _, .own _ _ _ t => by rw [refuseLoop_ref]; exact C5g self t
section
variable {prog : Program} {w : World} {A : Around} {s : Shared} {K : Frag} {C e fI : Addr} {t : Addr} {R : Result -> Shared -> Prop} {name : Str} {tk : Tok} {v : Value}
theorem Z7c (X : K.In s.heap) (F : V3g K C fI) (he : s.heap.get? e = some (A0t (.ref C) t none .none)) (ht : findIn K (.ref C) name = some none)
   (h : ∀ h' tk' d, (∀ b ob, b ≠ e -> s.heap.get? b = some ob -> h'.get? b = some ob) -> h'.get? e = some (A0t (.ref C) t (some d) .none) -> h'.Ns1 d (fun y => if y = name then some v else none) -> s.heap.get? d = none -> d ≠ e ->
     R (.ok (.ret .none)) { s with heap := h', toks := tk' }) :
   codeAny (model prog w) A (.call (.builtin "object.__setattr__") ⟨[.ref e, .str name tk, v], []⟩) R s := by
 have SF := PySem.F.store_object
 obtain ⟨nm, q, N, bs, bm, sn, sub, ab, col, dd, k0, k1, k2, k3, k5, lC, nO, nI, tl⟩ := F.cls
 have hC := X _ _ lC
 have I : PySem.W.InstAt s.heap e (A0t (.ref C) t none .none) C none := ⟨he, rfl, rfl, trivial⟩
 have hc : clsIn K C = some { name := nm, bases := bs, mro := .ref C :: bm, ns := N, qualname := q, hasDict := true, slotNames := sn, subclasses := sub, abstract := ab, collection := col, hasDel := false } := by
   unfold clsIn
   rw [lC]
 have sub' : Looks (model prog w) s.heap (isInstance (.ref e) (.type "object")) true := I.type.andThen (looks_mroIn X F.ob)
 refine codeAny_call_builtin SF.slot.plain SF.entry (@check_slot (model prog w) _ _ s "object.__setattr__" "object" "__setattr__" (.ref e) [.str name tk, v] [] _ SF.kind SF.split sub' (SF.args (.ref e) (.str name tk) v) ?_)
 have hm : Looks (model prog w) s.heap (mroOf (.ref C)) (.ref C :: bm) := (looks_clsIn X hc).andThen .now
 have L3 : Looks (model prog w) s.heap (Builtin.ObjectAttr.storeTaker? none) none := .now
 rw [osa_eq, refuse_eq]
 refine wpAny_bind (wpAny_bind (I.type.here (wpAny_bind (hm.here ?_))))
 rw [refuseLoop_ref, C5g _ (tail_of_in X tl)]
 refine wpAny_pure (wpAny_bind (I.type.here (wpAny_bind ((looks_findIn X ht).here (wpAny_bind (L3.here ?_))))))
 dsimp only
 refine wpAny_bind (wpAny_pure (wpAny_bind (wpAny_bind (wpAny_loadPart he (wpAny_bind (PySem.W.Looks.here (PySem.W.looks_clsIn X hc) ?_))))))
 have hx₁ : (s.heap.push { cls := .type "dict", data := .dict #[] }).get? e = some (A0t (.ref C) t none .none) := Heap.get?_push_of_some _ he
 have hxs : e ≠ s.heap.objs.size := Nat.ne_of_lt (Heap.lt_size he)
 show wpAny (model prog w) A.in1 (do
     let d <- alloc { cls := Value.type "dict", data := Data.dict #[] }
     update e fun o => { cls := o.cls, dict := some d, data := o.data, slots := o.slots }
     pure (some d)) _ _ _
 refine wpAny_bind (wpAny_alloc' ?_)
 refine wpAny_bind (wpAny_update' hx₁ ?_)
 refine wpAny_pure ?_
 have hgd : ((s.heap.push { cls := .type "dict", data := .dict #[] }).update e fun o => { cls := o.cls, dict := some s.heap.objs.size, data := o.data, slots := o.slots }).get? s.heap.objs.size
     = some { cls := .type "dict", data := .dict #[] } :=
   (Heap.get?_update_ne _ _ _ _ hxs.symm).trans (Heap.get?_push_at rfl rfl)
 have hnd : ((s.heap.push { cls := .type "dict", data := .dict #[] }).update e fun o => { cls := o.cls, dict := some s.heap.objs.size, data := o.data, slots := o.slots }).Ns s.heap.objs.size (fun _ => none) :=
   ⟨_, #[], _, hgd, rfl, fun e he => absurd he (by simp), fun _ => rfl⟩
 show wpAny _ _ (Builtin.ObjectAttr.storeInDict s.heap.objs.size (.str name tk) name v) _ _ _
 unfold Builtin.ObjectAttr.storeInDict Builtin.ObjectAttr.newKeyGuard
 refine wpAny_bind (wpAny_pure (wpAny_bind (wpAny_nsSet1 (Heap.Ns1.of_empty hnd) fun h' hn' hs => ?_)))
 obtain ⟨oD, esD, epD, hoD, hdD, hcD⟩ := hn'.count (Within.cons name v Within.nil)
 refine wpAny_bind (wpAny_lookBehind hoD (by rw [hdD]; exact pastItsLine_dict (Nat.le_trans hcD (by rw [List.length_cons, List.length_nil, sizeLine_eq]; omega))) ?_)
 have hx' : h'.get? e = some (A0t (.ref C) t (some s.heap.objs.size) .none) := (hs.2 e hxs).trans (Heap.get?_update_self _ hx₁ rfl)
 refine wpAny_pure (h h' _ s.heap.objs.size (fun b ob hbx hb => ?_) hx' hn' (Heap.get?_none_of_le (Nat.le_refl _)) hxs.symm)
 exact (hs.2 b (Nat.ne_of_lt (Heap.lt_size hb))).trans ((Heap.get?_update_ne _ _ _ _ hbx).trans (Heap.get?_push_of_some _ hb))
end
def A5j (e C t : Addr) (d : Option Addr) : Heap -> Prop := fun h => h.get? e = some (A0t (.ref C) t d .none)
theorem Y0r {P : Program} {w : World} {H : Hp} {h : Heap} {e C t : Addr} {d : Option Addr} (q : h.get? e = some (A0t (.ref C) t d .none)) : Y9 P w H h e (.ext (A5j e C t d)) :=
 ⟨q, ⟨_, q⟩, fun _ _ z k => k _ z⟩
section
variable {X : Cx} {pins : List (Addr × Obj)} {σ : St} {H : Hp} {s : Shared}
theorem Inv.trackO {a : Addr} {ho : HO} (I : Inv X pins σ H s) (n : Nw X pins H a) (ok : Y9 X.prog X.w (upd H a ho) s.heap a ho) : Inv X pins σ (upd H a ho) s := by
 have ne : ∀ b u, H b = some u -> b ≠ a := fun b u z q => by rw [q, n.un] at z; cases z
 have up : ∀ b, b ≠ a -> upd H a ho b = H b := fun b hb => C8 hb
 refine ⟨I.ok, I.os, I.bare, ⟨I.base.keep, I.base.slot, fun b u z m hx => ?_, I.base.there, fun b xs z => ?_, fun b u v z => ?_, fun b ps z => ?_⟩, I.loc, I.cell, ?_, fun x c z => ?_, fun p hp => ?_, fun b u z => ?_, I.len⟩
 . rw [up b fun q => by rw [q, n.old] at z; cases z]
   exact I.base.free b u z m hx
 . have := I.base.tups b xs z
   rw [up b (ne b _ this)]; exact this
 . have := I.base.frzs b u v z
   rw [up b (ne b _ this)]; exact this
 . obtain ⟨more, this⟩ := I.base.tbls b ps z
   exact ⟨more, by rw [up b (ne b _ this)]; exact this⟩
 . rw [up _ (Ne.symm n.loc)]; exact I.free
 . rw [up _ (n.cell x c z)]; exact I.freeC x c z
 . obtain ⟨q1, q2, q3⟩ := I.pin p hp
   exact ⟨q1, by rw [up _ (n.pin p hp)]; exact q2, q3⟩
 by_cases hb : b = a
 . subst hb
   rw [A8] at z
   cases z
   exact ok
 rw [up b hb] at z
 exact (I.hok b u z).stay (fun _ _ _ q => q) (fun c q => by rw [up c (ne c _ q)]; exact q) (fun c xs q => by rw [up c (ne c _ q)]; exact q)
def rem (H : Hp) (a : Addr) : Hp := fun b => if b = a then none else H b
theorem C7s {a : Addr} : rem H a a = none := by unfold rem; rw [if_pos rfl]
theorem A7f {a b : Addr} (h : b ≠ a) : rem H a b = H b := by unfold rem; rw [if_neg h]
theorem Inv.forget {a : Addr} {φ : Heap -> Prop} (I : Inv X pins σ H s) (e : H a = some (.ext φ)) : Inv X pins σ (rem H a) s := by
 have ne : ∀ b u, H b = some u -> (∀ φ, u ≠ .ext φ) -> b ≠ a := fun b u z q w => by rw [w, e] at z; cases z; exact q _ rfl
 have non : ∀ b, H b = none -> rem H a b = none := fun b z => by
   by_cases q : b = a
   . rw [q]; exact C7s
   . rw [A7f q]; exact z
 refine ⟨I.ok, I.os, I.bare, ⟨I.base.keep, I.base.slot, fun b u z m hx => non b (I.base.free b u z m hx), I.base.there, fun b xs z => ?_, fun b u v z => ?_, fun b ps z => ?_⟩, I.loc, I.cell, non _ I.free, fun x c z => non _ (I.freeC x c z), fun p hp => ?_, fun b u z => ?_, I.len⟩
 . have := I.base.tups b xs z
   rw [A7f (ne b _ this (fun _ q => nomatch q))]; exact this
 . have := I.base.frzs b u v z
   rw [A7f (ne b _ this (fun _ q => nomatch q))]; exact this
 . obtain ⟨more, this⟩ := I.base.tbls b ps z
   exact ⟨more, by rw [A7f (ne b _ this (fun _ q => nomatch q))]; exact this⟩
 . obtain ⟨q1, q2, q3⟩ := I.pin p hp
   exact ⟨q1, non _ q2, q3⟩
 have hb : b ≠ a := fun q => by rw [q, C7s] at z; cases z
 rw [A7f hb] at z
 exact (I.hok b u z).stay (fun _ _ _ q => q) (fun c q => by rw [A7f (ne c _ q (fun _ w => nomatch w))]; exact q) (fun c xs q => by rw [A7f (ne c _ q (fun _ w => nomatch w))]; exact q)
end
def A0pc (C : Addr) (ta tv : TE) (f : Str) : TS := fun D σ H => tv σ H fun y H1 => ta σ H1 fun x H2 => ∃ e t, x = .ref e /\ H2 e = some (.ext (A5j e C t none)) /\
 ∀ d, H2 d = none -> d ≠ e -> D.nx σ (upd (upd H2 e (.ext (A5j e C t (some d)))) d (.xd [(f, y)]))
section
variable {X : Cx} {o value : Expr} {f : Str} {pos pos' : Pos} {ta tv : TE} {C fI : Addr}
theorem Z9h (F : V3g X.K C fI) (hf : findIn X.K (.ref C) f = some none) (ha : PE X o ta) (hv : PE X value tv) (hs : swapsWith value (some (.Attribute o f pos')) pos.line X.env = pure false) (hex : X.ex = [] := by rfl) :
   PS X (.Assign [.Attribute o f pos'] value pos) (A0pc C ta tv f) := by
 intro pins s σ H D I h
 refine plainObj_wpAny_Assign_Attribute (thn (hv pins s σ H _ I h) fun u s1 ⟨y, H1, I1, ry, q⟩ => thn (ha pins s1 σ H1 _ I1 q) fun ov s2 ⟨x, H2, I2, rx, e, t, ex, ea, q2⟩ => ?_) hs
 subst ex
 obtain rfl : ov = Value.ref e := rx
 have he : s2.heap.get? e = some (A0t (.ref C) t none .none) := (I2.hok e _ ea).1
 refine set_plain I2.kIn (⟨he, rfl, rfl, trivial⟩ : PySem.W.InstAt s2.heap e (A0t (.ref C) t none .none) C none) F.sa (Z7c (s := { s2 with toks := s2.toks + 1 }) I2.kIn F he hf fun h' tk' d k1 k2 k3 k4 k5 => ?_)
 have nd : H2 d = none := I2.hok.new k4
 have I3 : Inv X pins σ (upd H2 e (.ext (A5j e C t (some d)))) { s2 with heap := h', toks := tk' } :=
   I2.write (x := e) (e := e) (by rw [ea]; exact trivial) (.inl rfl) (fun b u hb z => k1 b u hb z) ⟨_, k2⟩ (Y0r k2)
 have nw : Nw X pins (upd H2 e (.ext (A5j e C t (some d)))) d := I2.nw hex k4 (by rw [C8 k5]; exact nd)
 refine ⟨σ, _, I3.trackO (ho := .xd [(f, y)]) nw ⟨_, k3, fun g => ?_⟩, q2 d nd k5⟩
 show A6q (List.lookup g [(f, y)]) (if g = f then some u else none)
 by_cases z : g = f
 . rw [if_pos z, z]
   have : List.lookup f [(f, y)] = some y := by simp [List.lookup]
   rw [this]; exact ry
 rw [if_neg z]
 have : List.lookup g [(f, y)] = none := by
   have hb : (g == f) = false := beq_eq_false_iff_ne.mpr z
   simp [List.lookup, hb]
 rw [this]; exact trivial
end
def D8v (C : Addr) (f : Str) : Sp := fun vs H Q _ => ∃ e t v, vs = [.ref e, v] /\ H e = some (.ext (A5j e C t none)) /\ ∀ d, H d = none -> d ≠ e -> Q .non (upd (upd H e (.ext (A5j e C t (some d)))) d (.xd [(f, v)]))
def Z7g (C : Addr) (f : Str) (EH : EK) (t : TA) : TS := fun _ σ H => t σ H fun vs H1 => ∃ v, vs = [v] /\ ∀ d H2, B7 H1 H2 -> H1 d = none -> H2 d = some (.xd [(f, v)]) -> EH (.ref C) (some d) σ H2
section
variable {X : Cx} {x f : Str} {p cpos pos : Pos} {e : Expr} {t : TA} {C fI : Addr} {fdI : FuncData} {ps : List Str} {EH : EK} {j k : Nat}
theorem V1n (hm : X.mg x = some (.ref C)) (F : V3g X.K C fI) (G : C4 X.prog X.w X.K X.mg X.base CX0 j fI fdI ps (D8v C f)) (bI : A0c X.K fdI ps []) (hr : Z1 k X.A) (hx : G7 X EH) (ha : PA X [e] t) (hj : j + 1 <= k := by decide) (hg : Gl X x := by rfl) (hex : X.ex = [] := by rfl)
   (hdb : (x == ("__debug__" : Str)) = false := by decide) (he : starEach [e] X.env = (false, eval e X.env) :: starEach [] X.env := by rfl) (hpl : (backTo cpos (starEach [] X.env)).any (·.1) = false := by rfl) :
   PS X (.Raise (some (.Call (.Name x p) [e] [] cpos)) none pos) (Z7g C f EH t) := by
 intro pins s σ H D I h
 obtain ⟨nm, q, N, bs, bm, sn, sub, ab, col, dd, k0, k1, k2, k3, k5, lC, nO, nI, tl⟩ := F.cls
 obtain ⟨oI, lI, cI⟩ := F.fn
 have T0 : OwnTail X.base U9p bm := tail_of_in I.ok.mod.kin tl
 have hN0 : X.base.Ns N (X.base.nsMap N) := .of_isNs (isNs_of_in I.ok.mod.kin nO)
 have hi0 : X.base.nsMap N "__init__" = some (.ref fI) := J6u I.ok.mod.kin hN0 nI
 refine B9s (C := C) (nm := nm) (q := q) (N := N) (bs := bs) (bm := bm) (hdct := true) (sn := sn) (sub := sub) (ab := ab) (col := col) (dd := dd) (k0 := k0) (k1 := k1) (k2 := k2) (k3 := k3) (k5 := k5) (oI := oI) PySem.F.excBase_ValueError (mN := X.base.nsMap N) (T0.hasType PySem.F.excBase_ValueError.hasBase) hr.hd
   (by rw [he]; show (false || (backTo cpos (starEach [] X.env)).any (·.1)) = false; rw [hpl]; rfl) hi0 cI (A2j I hg hm ⟨rfl, ?_⟩ hdb)
 have ha' := ha cpos pins s σ H _ I h
 rw [he] at ha' ⊢
 refine Calls.evalArgs_plain (wpAny_mono ha' (fun us s2 ⟨vs, H1, I1, r, v, ev, z⟩ => ?_) fun _ _ y => y)
 subst ev
 obtain ⟨u, rfl, ru⟩ := r.one
 refine ⟨rfl, C9 (by show 1 <= 1000; decide), I1.kIn _ _ lC, hN0.keeps I1.bk, T0.keeps I1.bk, I1.kIn _ _ lI, fun h' a m => ?_⟩
 obtain ⟨t', e1, tn, e2⟩ := m.there
 have I2 : Inv X pins σ H1 { s2 with heap := h' } := I1.kept (t' := s2.toks) m.keeps
 have na : H1 a = none := I1.hok.new m.new
 have I3 := I2.trackO (ho := .ext (A5j a C t' none)) (I1.nw hex m.new na) (Y0r e1)
 have sp0 : D8v C f [.ref a, v] (upd H1 a (.ext (A5j a C t' none))) (fun v0 H' => v0 = .non /\ ∃ d, H1 d = none /\ d ≠ a /\ H' = upd (upd (upd H1 a (.ext (A5j a C t' none))) a (.ext (A5j a C t' (some d)))) d (.xd [(f, v)])) E0 :=
   ⟨a, t', v, rfl, A8, fun d nd nda => ⟨rfl, d, by rw [C8 nda] at nd; exact nd, nda, rfl⟩⟩
 have rr : U0 [.ref a, v] [.ref a, u] := .cons rfl (.cons ru .nil)
 have hl : ([Value.ref a, u] ++ []).length = ps.length := by
   have := G.len _ _ _ _ sp0
   rw [<- this]; rfl
 refine wpAny_call (codeAny_mono (G.run _ X.stack _ _ ⟨[.ref a, u], []⟩ ([.ref a, u] ++ []) [.ref a, v] _ E0 ((hr.mono hj).make C [u] []) (I3.env0.make C [u] []) (bI _ [.ref a, u] I3.kIn hl) rr sp0) fun r s' hq => ?_)
 cases r with
 | error e => exact hq.elim
 | ok fl =>
   cases fl with
   | ret u0 =>
     obtain ⟨v0, H', I4, rv, ev, d, nd, nda, eH⟩ := I3.after hq
     subst ev eH
     have ea : (upd (upd (upd H1 a (.ext (A5j a C t' none))) a (.ext (A5j a C t' (some d)))) d (.xd [(f, v)])) a = some (.ext (A5j a C t' (some d))) := by
       rw [C8 (Ne.symm nda), A8]
     have g1 : s'.heap.get? a = some (A0t (.ref C) t' (some d) .none) := (I4.hok a _ ea).1
     refine ⟨rv, I4.kIn _ _ lC, ⟨t', some d, g1⟩, ?_⟩
     refine hx pins σ _ s' a t' (.ref C) (some d) (I4.forget ea) ⟨I1.nw hex m.new C7s, .none, g1, .inl rfl, fun T z => nomatch z⟩ (z d _ (fun b ob q => ?_) nd ?_)
     . have nb : b ≠ a := D5 q na
       have nbd : b ≠ d := D5 q nd
       rw [A7f nb, C8 nbd, C8 nb, C8 nb]
       exact q
     . rw [A7f nda, A8]
   | next => exact hq.elim
   | brk => exact hq.elim
   | cont => exact hq.elim
end
theorem V9j {prog : Program} {w : World} {A : Around} {E : Value -> Shared -> Prop} {s : Shared} {K : Frag} {a C : Addr} {oa : Obj} {od : Option Obj} {name : Str} {v : Value} {b : Bool} {Q : Value -> Shared -> Prop} (F : J8h K C) (X : K.In s.heap) (I : PySem.W.InstAt s.heap a oa C od)
   (hf : findObj K C od name = some (.value v)) (hh : handedIn v = true) (h : Q v { s with toks := s.toks + 1 }) : wpAny (model prog w) A (getAttr (.ref a) name b) Q E s := by
 obtain ⟨hp, g, d, t, os⟩ := s
 have L0 := I.type (M := model prog w)
 have L1 := looks_findIn (M := model prog w) X F.ga
 have L2 := looks_findIn (M := model prog w) X F.gh
 have L3 : Looks (model prog w) hp (isInstance (.ref a) (.type "BaseException")) true := L0.andThen (looks_subIn X F.be)
 have L4 := looks_find (M := model prog w) X I hf
 have hk : builtinKind "BaseException.__getattribute__" = some .slot := by decide +kernel
 have hsplit : splitId "BaseException.__getattribute__" = some ("BaseException", "__getattribute__") := by decide +kernel
 have hargs := PySem.F.args_bexc_ga (.ref a) (.str name t)
 have hb := PySem.F.attr_ValueError.ga.bind (.ref a)
 unfold getAttr getAttrBy
 refine wpAny_bind (wpAny_mkText (wpAny_holding (wpAny_bind (L0.at (wpAny_bind (L1.at ?_))))))
 dsimp only
 rw [if_neg (show ¬ ((onTheHeap (Value.ref C) && Value.builtin "BaseException.__getattribute__" == Value.builtin "object.__getattribute__") = true) by
   rw [show (Value.builtin "BaseException.__getattribute__" == Value.builtin "object.__getattribute__") = false by decide +kernel, Bool.and_false]; exact Bool.false_ne_true)]
 unfold getAttrByItsOwn
 refine wpAny_bind (m := hookBefore (.ref C)) (L2.at ?_)
 refine wpAny_bind (wpAny_attempt (wpAny_holding ?_))
 unfold callGetattribute
 rw [if_neg (show ¬ ((b && onTheHeap (Value.builtin "BaseException.__getattribute__")) = true) by
   rw [show onTheHeap (Value.builtin "BaseException.__getattribute__") = false from rfl, Bool.and_false]; exact Bool.false_ne_true)]
 unfold boundAndCalled
 rw [hb]
 refine wpAny_bind (wpAny_pure ?_)
 refine wpAny_call (codeAny_call_builtin PySem.F.attr_ValueError.ga.plain PySem.F.entry_bexc_ga ?_)
 have chk : ∀ {A' : Around} {Q' : Unit -> Shared -> Prop} {E' : Value -> Shared -> Prop}, Q' () ⟨hp, g, d, t + 1, os⟩ -> wpAny (model prog w) A' (checkBuiltinCall "BaseException.__getattribute__" ⟨[.ref a, .str name t], []⟩) Q' E' ⟨hp, g, d, t + 1, os⟩ := by
   intro A' Q' E' hq
   simp only [checkBuiltinCall, hk, hsplit]
   refine wpAny_bind ?_
   refine L3.at ?_
   repeat (first | assumption | wp_step)
 refine chk ?_
 show wpAny _ _ (Builtin.«object.__getattribute__» ⟨[.ref a, .str name t], []⟩) _ _ _
 unfold Builtin.«object.__getattribute__»
 refine wpAny_bind (wpAny_pure ?_)
 refine wpAny_bind (wpAny_pure ?_)
 refine wpAny_bind (L0.at (wpAny_bind (L4.at ?_)))
 dsimp only
 refine wpAny_pure ?_
 exact handed_on hh h
def A0ct (K : Frag) (ta : TE) (f : Str) : TE := fun σ H Q => ta σ H fun x H1 => ∃ a C t T d u fs v, x = .ref a /\ H1 a = some (.frz (A0t (.ref C) t (some d) T) u) /\ H1 d = some (.xd fs) /\ J8h K C /\ (∃ cd, clsIn K C = some cd /\ cd.hasDict = true) /\ findIn K (.ref C) f = some none /\ fs.lookup f = some v /\ Q v H1
section
variable {X : Cx} {e : Expr} {f : Str} {pos : Pos} {ta : TE}
theorem Z7e (he : PE X e ta) (hb : attributeBase e f X.env (eval e X.env) = eval e X.env) : PE X (.Attribute e f pos) (A0ct X.K ta f) := by
 intro pins s σ H Q I h
 refine U9t hb (thn (he pins s σ H _ I h) fun u s1 ⟨x, H1, I1, rx, a, C, t, T, d, u0, fs, v, ex, ea, hd, k, ⟨cd, hc, hD⟩, hn, l, q⟩ => ?_)
 subst ex
 obtain rfl : u = Value.ref a := rx
 have o1 : s1.heap.get? a = some (A0t (.ref C) t (some d) T) := (I1.hok a _ ea).1
 obtain ⟨mA, nA, rA⟩ := (show ∃ mA, s1.heap.Ns1 d mA /\ ∀ f, A6q (fs.lookup f) (mA f) from I1.hok d _ hd)
 obtain ⟨od, o2, lk⟩ := C0g nA
 obtain ⟨uv, hu, ru⟩ := A6q.some_of (v := v) (o := mA f) (by rw [<- l]; exact rA f)
 have J : PySem.W.InstAt s1.heap a (A0t (.ref C) t (some d) T) C (some od) := ⟨o1, rfl, rfl, o2⟩
 have hf : findObj X.K C (some od) f = some (.value uv) := by
   unfold findObj
   rw [hc, Option.bind_some, hn, Option.bind_some]
   show ((PySem.W.ownOf cd (some od) f).bind _) = _
   unfold PySem.W.ownOf
   rw [hD, if_pos rfl]
   show ((lookIn f od).bind _) = _
   rw [lk f, hu]
   rfl
 exact V9j k I1.kIn J hf (D6f ru) ⟨v, H1, I1.tok _, ru, q⟩
end
def B0y (z : Str) (n : Int) : Str := if n < 1 then Str.empty else if (n == 1 || z.length == 0) = true then z else ⟨(List.replicate n.toNat z.cps).foldl (· ++ ·) #[]⟩
def A0ev : R2 := fun x y H Q => ∃ z n, x = .str z /\ y = .int n /\ -(2 ^ 63) <= n /\ n < 2 ^ 63 /\ z.length * n.toNat <= sizeLine /\ Q (.str (B0y z n)) H
theorem D7e (z : Array Nat) : ∀ (k : Nat) (acc : Array Nat), ((List.replicate k z).foldl (· ++ ·) acc).toList = acc.toList ++ (List.replicate k z.toList).flatten
 | 0, acc => by simp
 | k + 1, acc => by
   rw [List.replicate_succ, List.foldl_cons, D7e z k, Array.toList_append, List.replicate_succ, List.flatten_cons, List.append_assoc]
theorem A2k (z : Str) : z.cps.toList.length = z.length := Array.length_toList
theorem C5b (z : Str) (n : Int) : (B0y z n).cps.toList = (List.replicate n.toNat z.cps.toList).flatten := by
 unfold B0y
 split
 . have : n.toNat = 0 := by omega
   rw [this]; rfl
 split
 . rename_i h1 h2
   rcases Bool.or_eq_true _ _ |>.mp h2 with h | h
   . have : n = 1 := by simpa using h
     subst this
     simp
   . have e : z.length = 0 := by simpa using h
     have e2 : z.cps.toList = [] := List.eq_nil_of_length_eq_zero (by rw [A2k]; exact e)
     rw [e2]
     have : ∀ k : Nat, (List.replicate k ([] : List Nat)).flatten = [] := fun k => by simp
     rw [this]
 show ((List.replicate n.toNat z.cps).foldl (· ++ ·) #[]).toList = _
 rw [D7e]
 rfl
theorem C8h (z : Str) (n : Int) : (B0y z n).length = n.toNat * z.length := by
 rw [<- A2k, C5b, U9j, A2k]
section
variable {X : Cx}
theorem J6v : OpR X (binaryOp .Mult) A0ev := by
 intro pins s σ H x y v u Q I rx ry h
 obtain ⟨z, n, rfl, rfl, h1, h2, hz, q⟩ := h
 obtain ⟨t, rfl⟩ := rx
 obtain ⟨t', rfl⟩ := ry
 have lo : ¬ n < -(2 ^ 63 : Int) := by omega
 have hi : ¬ n >= (2 ^ 63 : Int) := by omega
 have hl := C8h z n
 have hs : (B0y z n).length <= sizeLine := by rw [hl, Nat.mul_comm]; exact hz
 refine PySem.P.mul_str (by rw [decide_eq_false lo, decide_eq_false hi]; rfl) (fun n1 n2 => ?_) (fun n1 n2 => Z7n hz) ?_
 . intro g
   have p : 0 < n := by omega
   have e : ((z.length * n.toNat : Nat) : Int) = (z.length : Int) * n := by rw [Int.natCast_mul, Int.toNat_of_nonneg (by omega)]
   have c : ((z.length * n.toNat : Nat) : Int) <= (sizeLine : Nat) := Int.ofNat_le.mpr hz
   have k : (sizeLine : Nat) <= 2 ^ 63 - 1 := by decide
   have k' : ((sizeLine : Nat) : Int) <= (2 ^ 63 - 1 : Int) := by
     have := Int.ofNat_le.mpr k
     exact this
   have : (z.length : Int) <= (2 ^ 63 - 1) / n := (Int.le_ediv_iff_mul_le p).mpr (by omega)
   omega
 unfold B0y at q hs
 split
 . rw [if_pos (by assumption)] at q
   exact ⟨by decide, .str _, H, I.tok _, ⟨_, rfl⟩, q⟩
 rw [if_neg (by assumption)] at q hs
 split
 . rw [if_pos (by assumption)] at q
   exact ⟨.str _, H, I, ⟨_, rfl⟩, q⟩
 rw [if_neg (by assumption)] at q hs
 exact ⟨hs, .str _, H, I.tok _, ⟨_, rfl⟩, q⟩
theorem B5t : A4v X (.type "int") (fun xs H Q => ∃ z n, xs = [.str z] /\ PySem.intText? z = some n /\ z.length <= 640 /\ Q (.int n) H) := by
 intro pins s σ H xs us Q I r h
 obtain ⟨z, n, rfl, h1, h2, q⟩ := h
 obtain ⟨u, rfl, t, rfl⟩ := C4u r
 exact KIN.call_text h1 h2 ⟨.int n, H, I.tok _, ⟨_, rfl⟩, q⟩
end
def V1c (n : Nat) : Str := ("1" : Str) ++ B0y ("0" : Str) (n : Int)
theorem V3c (n : Nat) : (List.replicate n [48]).flatten = List.replicate n 48 := by
 induction n with
 | zero => rfl
 | succ n ih => rw [List.replicate_succ, List.flatten_cons, ih, List.replicate_succ]; rfl
theorem B4s (n : Nat) : (V1c n).cps.toList = 49 :: List.replicate n 48 := by
 unfold V1c
 show (("1" : Str).cps ++ (B0y ("0" : Str) (n : Int)).cps).toList = _
 rw [Array.toList_append, C5b]
 have a : ("1" : Str).cps.toList = [49] := by decide +kernel
 have b : ("0" : Str).cps.toList = [48] := by decide +kernel
 rw [a, b]
 show [49] ++ (List.replicate n [48]).flatten = _
 rw [V3c]
 rfl
theorem J1n (n : Nat) : (V1c n).length = n + 1 := by
 rw [<- A2k, B4s]
 simp
theorem J6f (n : Nat) : ∀ a : Nat, (List.replicate n 48).foldl (fun acc c => acc * 10 + (c - 48)) a = a * 10 ^ n := by
 induction n with
 | zero => intro a; simp
 | succ n ih =>
   intro a
   rw [List.replicate_succ, List.foldl_cons, ih, Nat.pow_succ]
   show (a * 10 + 0) * 10 ^ n = _
   rw [Nat.add_zero, Nat.mul_assoc, Nat.mul_comm 10]
theorem V8x (n : Nat) (h : n <= 600) : PySem.intText? (V1c n) = some ((10 ^ n : Nat) : Int) := by
 have e : PySem.NumText.digitsVal (V1c n).cps.toList = 10 ^ n := by
   rw [B4s]
   unfold PySem.NumText.digitsVal
   rw [List.foldl_cons, J6f]
   show (0 * 10 + 1) * 10 ^ n = _
   omega
 rw [<- e]
 refine PySem.intText_digits ?_ ?_ ?_
 . rw [B4s]
   intro c hc
   rcases List.mem_cons.mp hc with rfl | hc
   . exact ⟨by decide, by decide⟩
   . obtain ⟨_, rfl⟩ := List.mem_replicate.mp hc
     exact ⟨by decide, by decide⟩
 . rw [B4s]; exact fun z => nomatch z
 rw [J1n]; omega
section
variable {X : Cx}
def A0mn : V -> List V -> Hp -> VK -> Prop := fun x vs H Q => ∃ i, x = .int i /\ vs = [] /\ Q (.int ((Builtin.Int.intBits i : Nat) : Int)) H
theorem D2p : MtR X "int.bit_length" A0mn := by
 intro pins s σ H x xs v us Q I rx rs h
 obtain ⟨i, rfl, rfl, q⟩ := h
 obtain ⟨t, rfl⟩ := rx
 cases rs
 exact call_int_bit_length ⟨.int _, H, I.tok _, ⟨_, rfl⟩, q⟩
end
section
variable {X : Cx} {a b : Expr} {rest : List Expr} {pos : Pos} {ta tb : TE}
end
section
variable {X : Cx} {j k : Nat} {f C : Addr} {fd : FuncData} {ps : List Str} {sp : Sp} {dvs : List V} {ds : List Value} {x m : Str} {p pos apos : Pos} {e o : Expr} {es : List Expr} {ta : TE} {t : TA} {st : Stmt}
end
section
variable {X : Cx} {N F : List Str} {js : List Nat} {scope : Scope}
theorem V2y {pins : List (Addr × Obj)} {σ : St} {H : Hp} {s : Shared} {fp : List Addr} {h' : Heap} (S : D8 N F js scope X.N X.env) (I : Inv X pins σ H s) (hf : ∀ b ∈ fp, A4f X pins H b) (hit : ∀ b ∈ fp, ∃ o, s.heap.get? b = some o) (hnb : ∀ b ∈ fp, X.base.get? b = none)
   (hns : h'.Ns s.heap.objs.size (fun _ => none)) (hsb : ∀ b o, s.heap.get? b = some o -> h'.get? b = some o) {tk : Nat} :
   Inv (X.compF scope N F s.heap.objs.size s H fp (X.pn ++ pins)) [] (List.replicate N.length none ++ A5d js σ) H { s with heap := h', toks := tk } := by
 have ck : ∀ c v, s.heap.IsCell c v -> h'.IsCell c v := fun c v ⟨o, e, d⟩ => ⟨o, hsb _ _ e, d⟩
 have inF : ∀ x, ((compEnvC scope (A2s F X.env) s.heap.objs.size X.env).kindOf x = some .cell \/ (compEnvC scope (A2s F X.env) s.heap.objs.size X.env).kindOf x = some .free) -> x ∈ F := by
   intro x z
   have z : (relabel scope X.env).names.lookup x = some .cell \/ (relabel scope X.env).names.lookup x = some .free := z
   rcases z with z | z
   . exact S.fr _ (PySem.mem_of_lookup z) (.inl rfl)
   . exact S.fr _ (PySem.mem_of_lookup z) (.inr rfl)
 refine ⟨⟨I.ok.mod, S.kind, I.ok.glob, I.ok.blt, Nat.le_refl _, fun x y c z z' => I.ok.inj x y c (S.sub x c z) (S.sub y c z'), fun x z => ?_, fun x c z _ => (nomatch z), I.ok.hd, I.ok.frames, .inl rfl, fun b hb => ?_, I.bs, Nat.le_trans I.ok.bsz I.sz, fun b o e hb => ?_, fun b hb hfs => ?_, I.stack, I.stkFree⟩,
   rfl, I.bare, Un.kept hsb, ⟨_, hns, fun i x v e1 e2 e3 => B4n S I (fun x c v _ z => ck c v z) i x v e1 e2⟩, fun x c z => ?_, I.hok.fresh (Nat.le_refl _), fun x c z => I.freeC x c (S.sub x c z), fun p hp => ?_, I.hok.kept hsb, D9c S σ⟩
 . obtain ⟨c, h1, _⟩ := S.has (inF x z)
   exact ⟨c, h1⟩
 . obtain ⟨oi, ei⟩ := hit b hb
   exact ⟨Nat.ne_of_lt (Heap.lt_size ei), fun x c z => (hf b hb).2.2.2.2.1 x c (S.sub x c z)⟩
 . rw [hnb b hb] at e
   cases e
 . rcases List.mem_cons.mp (I.stkSub b hfs) with z | z
   . exact (hf b hb).2.1 z
   . exact (hf b hb).2.2.1 z
 . obtain ⟨v, z'⟩ := I.cell x c (S.sub x c z)
   exact ⟨v, ck c v z'⟩
 have hp' : p ∈ X.pn ++ pins := by simpa using hp
 obtain ⟨q1, q2, q3, q4, q5⟩ := I.pin p hp'
 refine ⟨hsb _ _ q1, q2, Nat.ne_of_lt (Heap.lt_size q1), fun z => ?_, q5⟩
 rcases List.mem_cons.mp (I.stkSub p.1 z) with z | z
 . exact q3 z
 exact q4 z
theorem J7t {pins pl : List (Addr × Obj)} {σ σ' : St} {H H' : Hp} {s s' : Shared} {fp : List Addr} (S : D8 N F js scope X.N X.env) (I : Inv X pins σ H s) (hf : ∀ b ∈ fp, A4f X pins H b) (J : Inv (X.compF scope N F s.heap.objs.size s H fp (X.pn ++ pins)) pl σ' H' s') :
   Inv (X.compF scope N F s.heap.objs.size s H fp (X.pn ++ pins)) [] (List.replicate N.length none ++ A5d js σ) H' s' := by
 obtain ⟨m, hn, _⟩ := J.loc
 refine ⟨J.ok, J.os, J.bare, J.base, ⟨m, hn, fun i x v e1 e2 e3 => B4n S I (fun x c v z q => ?_) i x v e1 e2⟩, J.cell, J.free, J.freeC, fun p hp => J.pin p (by
   have hp : p ∈ (X.pn ++ pins) ++ [] := hp
   rw [List.append_nil] at hp
   exact List.mem_append_left _ hp), J.hok, D9c S σ⟩
 obtain ⟨o, e, d⟩ := q
 have ne : c ∉ fp := fun w => (hf c w).2.2.2.2.1 x c z rfl
 obtain ⟨sl, q⟩ := J.base.any e (I.freeC x c z) ne
 exact ⟨_, q, d⟩
theorem J6h {elt target iter c : Expr} {scope : Scope} {pos : Pos} {N F : List Str} {js : List Nat} {wi : TI} {g : TG} {tc : TT} {te : TE} (S : D8 N F js scope X.N X.env) (hd : A0p X) (hc0 : X.calm = true) (hi : PI X target iter wi) (hex : X.ex = [])
   (hg : ∀ C s₀ H₀ ex pn, A0p (X.compF scope N F C s₀ H₀ ex pn) -> PG (X.compF scope N F C s₀ H₀ ex pn) target g)
   (hc : ∀ C s₀ H₀ ex pn, A0p (X.compF scope N F C s₀ H₀ ex pn) -> PT (X.compF scope N F C s₀ H₀ ex pn) c tc)
   (he : ∀ C s₀ H₀ ex pn, A0p (X.compF scope N F C s₀ H₀ ex pn) -> PE (X.compF scope N F C s₀ H₀ ex pn) elt te)
   {pins : List (Addr × Obj)} {s : Shared} {σ : St} {H : Hp} {Q : VK} {RR : Value -> Env -> Result -> Shared -> Prop} (I : Inv X pins σ H s) (h : (B0r N.length js wi g tc te) σ H Q)
   (hRR : ∀ (D C : Addr) (s6 : Shared) (H5 : Hp) (mm : Str -> Option Value), Inv X pins σ H5 s6 -> s6.heap.Ns C mm -> A4f X pins H5 C -> Q (.ref D) H5 -> RR (.ref D) (compEnvC scope (A2s F X.env) C X.env) (.ok .next) s6) :
   wpAny (model X.prog X.w) X.A (eval iter X.env) (fun v s1 => wpAny (model X.prog X.w) X.A (pyIter v) (fun itv s2 => wpAny (model X.prog X.w) X.A (newList []) (fun acc s3 => wpAny (model X.prog X.w) X.A (newFunctionEnv scope X.env.globals (A2s F X.env) [] X.env.qual none .none (some X.env)) (fun cenv s4 =>
     codeAny (model X.prog X.w) X.A (.compStart (.ListComp elt [⟨target, iter, [c], 0⟩] scope pos) 0 itv acc { cenv with scope := relabel scope X.env }) (RR acc { cenv with scope := relabel scope X.env }) s4) X.xe s3) X.xe s2) X.xe s1) X.xe s := by
 refine thn (hi pins s σ H _ I h) fun v s1 h1 => thn h1 fun itv s2 h2 => ?_
 obtain ⟨it, fp, tn, J, H2, rfl, I2, T, st2, f2, R⟩ := h2
 have ob2 := T.obj _ _ st2
 have hf2 := I2.hok.fresh (Nat.le_refl _)
 refine wpAny_newObj_type ?_
 have I3 : Inv X pins σ (upd H2 s2.heap.objs.size (.lst [])) { s2 with heap := s2.heap.push { cls := .type "list", dict := none, data := .seq ([] : List Value).toArray } } := Inv.lnew (t' := s2.toks) I2 .nil (Nat.zero_le _)
 refine wpAny_newFunctionEnv S.cell (by intro y hy; simp at hy) (fun h4 hns hsb => ?_) S.kind
 dsimp only at hns hsb ⊢
 generalize hG : s2.heap.push { cls := .type "list", dict := none, data := .seq ([] : List Value).toArray } = G at I3 hns hsb ⊢
 generalize hD : s2.heap.objs.size = D at I3 hf2
 have nD : ∀ b ∈ fp, b ≠ D := fun b hb => by
   obtain ⟨o, eo, _⟩ := ob2 b hb
   rw [<- hD]; exact Nat.ne_of_lt (Heap.lt_size eo)
 have eiG : ∀ b ∈ fp, ∃ o, G.get? b = some o := fun b hb => by
   obtain ⟨o, eo, _⟩ := ob2 b hb
   exact ⟨o, by rw [<- hG]; exact Heap.get?_push_of_some _ eo⟩
 have kp : ∀ b o, G.get? b = some o -> h4.get? b = some o := fun b o e => hsb.extBut b o (Nat.ne_of_lt (Heap.lt_size e)) (Heap.get?_push_of_some _ e)
 have f3 : ∀ b ∈ fp, A4f X pins (upd H2 D (.lst [])) b := fun b hb => ⟨by rw [C8 (nD b hb)]; exact (f2 b hb).1, (f2 b hb).2⟩
 have nb : ∀ b ∈ fp, X.base.get? b = none := fun b hb => by
   cases q : X.base.get? b with
   | none => rfl
   | some o =>
     have := (I.ok.bs b o q).1
     rcases (f2 b hb).2.2.2.1 with z | z
     . rw [hex] at z; simp at z
     . exact absurd (Nat.lt_of_lt_of_le (Heap.lt_size this) z) (Nat.lt_irrefl _)
 have hns' : h4.Ns G.objs.size (fun _ => none) := by
   obtain ⟨o, es, ep, q1, q2, q3, q4⟩ := hns
   exact ⟨o, es, ep, q1, q2, q3, fun x => by rw [q4]; rfl⟩
 have I4 := V2y (tk := s2.toks + ([] : List (Str × Value)).length) S I3 f3 eiG nb hns' kp
 have hdc : A0p (X.compF scope N F G.objs.size { s2 with heap := G } (upd H2 D (.lst [])) fp (X.pn ++ pins)) := by
   rcases hd with z | ⟨x, o, u, vs, z, e, d, n⟩
   . exact .inl z
   . refine .inr ⟨x, o, u, vs, z, ?_, d, n⟩
     have q := I2.base.frzs x o u e
     show upd H2 D (.lst []) x = _
     rw [C8 fun w => by rw [w, hf2] at q; cases q]
     exact q
 obtain ⟨m, W, w0, turn⟩ := R D hf2
 have gg := hg _ _ _ _ _ hdc
 have cc := hc _ _ _ _ _ hdc
 have ee := he _ _ _ _ _ hdc
 have fpc : ∀ {H' : Hp} {σ' : St} {s' : Shared} {pl : List (Addr × Obj)}, Inv (X.compF scope N F G.objs.size { s2 with heap := G } (upd H2 D (.lst [])) fp (X.pn ++ pins)) pl σ' H' s' -> (∀ b ∈ fp, H' b = none) -> (∀ b ∈ fp, ∀ p ∈ pl, p.1 ≠ b) -> ∀ b ∈ fp, A4f (X.compF scope N F G.objs.size { s2 with heap := G } (upd H2 D (.lst [])) fp (X.pn ++ pins)) pl H' b := by
   intro H' σ' s' pl J' hn hp b hb
   obtain ⟨oi, ei⟩ := eiG b hb
   refine ⟨hn b hb, Nat.ne_of_lt (Heap.lt_size ei), ?_, .inl hb, (fun x c z => (f2 b hb).2.2.2.2.1 x c (S.sub x c z)), fun p hpp => ?_⟩
   . intro z
     rcases List.mem_cons.mp (I.stkSub b z) with z | z
     . exact (f2 b hb).2.1 z
     . exact (f2 b hb).2.2.1 z
   . rcases List.mem_append.mp hpp with z | z
     . exact (f2 b hb).2.2.2.2.2 p z
     . exact hp b hb p z
 have loop : codeAny (model X.prog X.w) X.A (.compLoop (.ListComp elt [⟨target, iter, [c], 0⟩] scope pos) 0 (.ref it) (.ref D) (compEnvC scope (A2s F X.env) G.objs.size X.env))
     (RR (.ref D) (compEnvC scope (A2s F X.env) G.objs.size X.env))
     { s2 with heap := h4, toks := s2.toks + ([] : List (Str × Value)).length } := by
   refine kct_loop (fun k s' => ∃ i ys H', k = m + 1 - i /\ Inv (X.compF scope N F G.objs.size { s2 with heap := G } (upd H2 D (.lst [])) fp (X.pn ++ pins)) [] (List.replicate N.length none ++ A5d js σ) H' s' /\ tn i s'.heap /\ (∀ b ∈ fp, H' b = none) /\ W i ys H') ?_ (m + 1)
     ⟨0, [], _, rfl, I4, T.keep _ _ _ st2 fun b hb o e => kp b o (by rw [<- hG]; exact Heap.get?_push_of_some _ e), fun b hb => (f3 b hb).1, w0⟩
   rintro k s5 ⟨i, ys, H5, rfl, I5, st5, n5, w5⟩
   obtain ⟨hi5, hD5, w5⟩ := turn i ys H5 w5
   rcases w5 with ⟨stop, q⟩ | ⟨lt5, go, step⟩
   . refine wpAny_mono (T.done (X.compF scope N F G.objs.size { s2 with heap := G } (upd H2 D (.lst [])) fp (X.pn ++ pins)) rfl rfl rfl hc0 i [] s5 _ H5 (fun _ _ => False) I5 (fpc I5 n5 (by simp)) st5 stop) (fun r s6 z => ?_) (fun _ _ z => z.elim)
     obtain ⟨rfl, I6⟩ := z
     obtain ⟨mm, hn6, _⟩ := I6.loc
     have B6 := I6.base
     have J6 : Inv X pins σ H5 s6 := by
       refine I3.call' (ch := fp) I6.os ⟨B6.keep, B6.slot, B6.free, B6.there, B6.tups, B6.frzs, B6.tbls⟩ I6.hok I6.bare (fun b hb => ⟨(f2 b hb).2.2.2.1, (f2 b hb).2.1, (f2 b hb).2.2.2.2.1, (f2 b hb).2.2.2.2.2⟩)
     have szG : X.s₀.heap.objs.size <= G.objs.size := I3.sz
     refine hRR D G.objs.size s6 H5 mm J6 hn6 ⟨I6.free, ?_, ?_, .inr szG, ?_, ?_⟩ q
     . exact Nat.ne_of_gt I3.lt
     . intro z
       obtain ⟨_, o, ho, _⟩ := I3.funs.mem z
       exact Nat.lt_irrefl _ (Heap.lt_size ho)
     . rintro x c z rfl
       obtain ⟨v', o, ho, _⟩ := I3.cell x _ z
       exact Nat.lt_irrefl _ (Heap.lt_size ho)
     . rintro p hp z
       have zz := (I3.pin p hp).1
       rw [z] at zz
       exact Nat.lt_irrefl _ (Heap.lt_size zz)
   . refine wpAny_mono (T.item (X.compF scope N F G.objs.size { s2 with heap := G } (upd H2 D (.lst [])) fp (X.pn ++ pins)) rfl rfl rfl hc0 i [] s5 _ H5 (fun _ _ => False) I5 (fpc I5 n5 (by simp)) st5 go) (fun r s6 z => ?_) (fun _ _ z => z.elim)
     obtain ⟨u, rfl, z⟩ := z
     refine wpAny_mono z (fun _ s7 z => ?_) (fun _ _ z => z.elim)
     obtain ⟨x, H7, I7, rx, yl, st7, fr7⟩ := z
     have ob7 := T.obj _ _ st7
     have I7' : Inv (X.compF scope N F G.objs.size { s2 with heap := G } (upd H2 D (.lst [])) fp (X.pn ++ pins)) (A6a fp s7.heap) (List.replicate N.length none ++ A5d js σ) H7 s7 := I7.pinned (fpc I7 fr7 (by simp)) ob7
     have back : ∀ {i' : Nat} {ys' : List V} {H' : Hp} {σ' : St} {s' : Shared}, i' = i + 1 -> Inv (X.compF scope N F G.objs.size { s2 with heap := G } (upd H2 D (.lst [])) fp (X.pn ++ pins)) (A6a fp s7.heap) σ' H' s' -> W i' ys' H' ->
         ∃ k', k' < m + 1 - i /\ ∃ i ys H', k' = m + 1 - i /\ Inv (X.compF scope N F G.objs.size { s2 with heap := G } (upd H2 D (.lst [])) fp (X.pn ++ pins)) [] (List.replicate N.length none ++ A5d js σ) H' s' /\ tn i s'.heap /\ (∀ b ∈ fp, H' b = none) /\ W i ys H' := by
       rintro i' ys' H' σ' s' rfl J' w'
       refine ⟨m + 1 - (i + 1), by omega, i + 1, ys', H', rfl, J7t S I3 f3 J', T.keep _ _ _ st7 fun b hb o z => (J'.pin (b, o) (List.mem_append_right _ (A7q hb z))).1, fun b hb => ?_, w'⟩
       obtain ⟨o, eo, _⟩ := ob7 b hb
       exact (J'.pin (b, o) (List.mem_append_right _ (A7q hb eo))).2.1
     refine wpAny_mono (gg (A6a fp s7.heap) s7 _ H7 x u _ I7' rx (step x H7 yl)) (fun _ s8 z => ?_) (fun _ _ z => z.elim)
     obtain ⟨σ8, H8, I8, q8⟩ := z
     refine wpAny_mono (cc (A6a fp s7.heap) s8 σ8 H8 _ I8 q8) (fun b s9 z => ?_) (fun _ _ z => z.elim)
     obtain ⟨H9, I9, q9⟩ := z
     cases b with
     | false =>
       simp only [Bool.false_eq_true, if_false] at q9 ⊢
       exact back rfl I9 q9
     | true =>
       simp only [if_true] at q9 ⊢
       refine wpAny_mono (ee (A6a fp s7.heap) s9 σ8 H9 _ I9 q9) (fun y s10 z => ?_) (fun _ _ z => z.elim)
       obtain ⟨yv, H10, I10, ry, hD10, hz10, w10⟩ := z
       refine wpAny_mono (C0e (X := X.compF scope N F G.objs.size { s2 with heap := G } (upd H2 D (.lst [])) fp (X.pn ++ pins)) (A6a fp s7.heap) s10 σ8 H10 (.ref D) [yv] (.ref D) [y] (fun _ H11 => W (i + 1) (ys ++ [yv]) H11) I10 rfl (.cons ry .nil) ⟨D, ys, yv, rfl, rfl, hD10, hz10, w10⟩) (fun _ s11 z => ?_) (fun _ _ z => z.elim)
       obtain ⟨_, H11, I11, _, w11⟩ := z
       exact back rfl I11 w11
 exact codeAny_compStart_list loop (T.self _ 0 _ _ _ (T.keep _ _ _ st2 fun b hb o e => kp b o (by rw [<- hG]; exact Heap.get?_push_of_some _ e)) loop)
theorem J1k {elt target iter : Expr} {c : Expr} {tc : TT} {pos : Pos} {wi : TI} {g : TG} {te : TE} (S : D8 N F js scope X.N X.env) (hd : A0p X) (hc0 : X.calm = true) (hi : PI X target iter wi) (hex : X.ex = [])
   (hg : ∀ C s₀ H₀ ex pn, A0p (X.compF scope N F C s₀ H₀ ex pn) -> PG (X.compF scope N F C s₀ H₀ ex pn) target g)
   (hc : ∀ C s₀ H₀ ex pn, A0p (X.compF scope N F C s₀ H₀ ex pn) -> PT (X.compF scope N F C s₀ H₀ ex pn) c tc)
   (he : ∀ C s₀ H₀ ex pn, A0p (X.compF scope N F C s₀ H₀ ex pn) -> PE (X.compF scope N F C s₀ H₀ ex pn) elt te)
   (hs : ∀ x, foldedSetIterable iter X.env x = pure x := by intro _; rfl) : PE X (.ListComp elt [⟨target, iter, [c], 0⟩] scope pos) (B0r N.length js wi g tc te) := by
 intro pins s σ H Q I h
 rw [eval_ListComp]
 refine wpAny_comprehension_free (use := none) rfl hs S.clos S.kind S.loc (J6h S hd hc0 hi hex hg hc he I h (RR := fun acc ce r s' => compPost (model X.prog X.w) X.A X.xe none (EP X pins σ Q) acc ce.locals r s') ?_)
 intro D C s6 H5 mm I6 n6 f6 q
 exact ⟨mm, n6, fun h' sb => ⟨.ref D, H5, U9m I6 f6 sb, rfl, q⟩⟩
end
section
variable {X : Cx} {pins : List (Addr × Obj)} {σ : St} {H : Hp} {s : Shared} {h' : Heap}
end
section
variable {X : Cx} {es : List Expr} {k : Nat} {tp : Pos}
def tRev (K : Frag) (te ts : TE) : TE := fun σ H Q => te σ H fun x H1 => ts σ H1 fun z H2 => z = .int (-1) /\ ∃ a xs, x = .ref a /\ SqL K H2 a xs /\ ∀ p, H2 p = none -> Q (.ref p) (upd H2 p (.lst xs.reverse))
theorem B5p {α β : Type} {f : α -> Option β} {g : α -> β} : ∀ l : List α, (∀ k ∈ l, f k = some (g k)) -> l.filterMap f = l.map g
 | [], _ => rfl
 | a :: l, h => by
   rw [List.filterMap_cons, h a (List.mem_cons_self ..)]
   show g a :: l.filterMap f = g a :: l.map g
   rw [B5p l fun k hk => h k (List.mem_cons_of_mem _ hk)]
theorem V9b (its : List Value) : slicePick its.toArray none none (some (-1)) = its.reverse.toArray := by
 unfold slicePick
 congr 1
 show (sliceRange ((its.toArray.size : Int) - 1) (-1) (-1)).filterMap (its.toArray[·]?) = its.reverse
 have e : sliceRange ((its.toArray.size : Int) - 1) (-1) (-1) = (List.range its.length).map fun k => its.length - 1 - k := by
   unfold sliceRange
   have c : (if (-1 : Int) > 0 then (if ((its.toArray.size : Int) - 1) < -1 then (-1 - ((its.toArray.size : Int) - 1) + -1 - 1) / -1 else 0) else (if ((its.toArray.size : Int) - 1) > -1 then (((its.toArray.size : Int) - 1) - -1 - -1 - 1) / (- -1) else 0)).toNat = its.length := by
     rw [if_neg (by decide), List.size_toArray]
     split
     . rw [show (- -1 : Int) = 1 by decide, Int.ediv_one]; omega
     . omega
   show (List.range (if (-1 : Int) > 0 then (if ((its.toArray.size : Int) - 1) < -1 then (-1 - ((its.toArray.size : Int) - 1) + -1 - 1) / -1 else 0) else (if ((its.toArray.size : Int) - 1) > -1 then (((its.toArray.size : Int) - 1) - -1 - -1 - 1) / (- -1) else 0)).toNat).map (fun k : Nat => (((its.toArray.size : Int) - 1) + (-1) * (k : Int)).toNat) = _
   rw [c]
   refine List.map_congr_left fun k hk => ?_
   have := List.mem_range.mp hk
   rw [List.size_toArray]
   omega
 rw [e]
 apply List.ext_getElem?
 intro i
 have fm : ((List.range its.length).map fun k => its.length - 1 - k).filterMap (its.toArray[·]?) = ((List.range its.length).map fun k => its.length - 1 - k).filterMap (its[·]?) := by simp
 rw [fm, List.filterMap_map]
 have g : (List.range its.length).filterMap ((its[·]?) ∘ fun k => its.length - 1 - k) = its.reverse := by
   have h1 : ∀ k ∈ List.range its.length, ((its[·]?) ∘ fun k => its.length - 1 - k) k = some (its.reverse[k]?.getD .none) := fun k hk => by
     have hk := List.mem_range.mp hk
     show its[its.length - 1 - k]? = _
     rw [List.getElem?_reverse hk, List.getElem?_eq_getElem (by omega)]
     rfl
   rw [B5p _ h1]
   apply List.ext_getElem?
   intro j
   rw [List.getElem?_map]
   by_cases hj : j < its.length
   . rw [List.getElem?_range hj]
     show some (its.reverse[j]?.getD .none) = its.reverse[j]?
     rw [List.getElem?_eq_getElem (by simpa using hj)]
     rfl
   . rw [List.getElem?_eq_none (by simpa using hj), List.getElem?_eq_none (by simpa using hj)]
     rfl
 rw [g]
theorem A0fs {e st : Expr} {te ts : TE} {p2 pos : Pos} (he : PE X e te) (hst : PE X st ts) : PE X (.Subscript e (.Slice none none (some st) p2) pos) (tRev X.K te ts) := by
 intro pins s σ H Q I h
 refine Subscript_ (thn (he pins s σ H _ I h) fun v s1 ⟨x, H1, I1, r1, q1⟩ => ?_)
 refine wpAny_Slice ?_
 rw [evalPart_none]
 refine wpAny_pure (wpAny_pure ?_)
 rw [evalPart_some]
 refine thn (hst pins s1 σ H1 _ I1 q1) fun vs s3 ⟨z, H3, I3, rz, q3⟩ => ?_
 obtain ⟨rfl, a, xs, rfl, hx, q⟩ := q3
 obtain ⟨t, rfl⟩ := rz
 cases r1
 have I4 : Inv X pins σ H3 { s3 with heap := s3.heap.push { cls := .type "slice", data := .fields #[.none, .none, .int (-1) t] } } := I3.kept (t' := s3.toks) fun b ob q => Heap.get?_push_of_some _ q
 obtain ⟨its, r, ht, hz⟩ := I4.list hx
 have hlen := r.length
 have hg : wpAny (model X.prog X.w) X.A (getItem (.ref a) (.ref s3.heap.objs.size)) (EP X pins σ Q) X.xe { s3 with heap := s3.heap.push { cls := .type "slice", data := .fields #[.none, .none, .int (-1) t] } } := by
   refine wpAny_getItem_list_slice ht.isList (Heap.IsSliceOf.new ..) .none .none (.int (-1) t) (by decide) ?_ (by rw [List.size_toArray] <;> omega)
   rw [V9b]
   refine ⟨.ref _, _, I4.laid (t' := s3.toks) (o := .lst xs.reverse) (fun b ob q => Heap.get?_push_of_some _ q) (Nat.le_refl _) ?_, rfl, q _ (I4.hok.fresh (Nat.le_refl _))⟩
   exact ⟨by rw [List.length_reverse]; exact hz, _, 0, r.reverse, Heap.get?_push_size _ rfl⟩
 show wpAny (model X.prog X.w) X.A (subscriptTail e (.Slice none none (some st) p2) (.ref a) (.ref s3.heap.objs.size)) (EP X pins σ Q) X.xe { s3 with heap := s3.heap.push { cls := .type "slice", data := .fields #[.none, .none, .int (-1) t] } }
 exact tail_any (ops := [.ref a, .ref s3.heap.objs.size]) ht.isList.typeIs slot_list_getitem.lookup hg (by with_unfolding_all rfl)
end
def Z9f (D : Addr) (H H' : Hp) : Prop := ∀ b o, H b = some o -> b ≠ D -> H' b = some o
theorem V1y {J : It} {g : TG} {te : TE} {σ0 : St} {H1 : Hp} {QD : Addr -> Hp -> Prop} {n : Nat} (R : Nat -> V -> Hp -> Prop) (hn : n <= 1000)
   (mono : ∀ i y H' H'' D l, R i y H' -> H' D = some (.lst l) -> Z9f D H' H'' -> R i y H'')
   (step : ∀ i H2 Qy, i < n -> B7 H1 H2 -> (∀ y H6, B7 H2 H6 -> R i y H6 -> Qy y H6) -> J.go i H2 /\ ∀ x H3, J.yld i H2 x H3 -> g x σ0 H3 fun σ4 H4 => te σ4 H4 Qy)
   (stop : ∀ H2, B7 H1 H2 -> J.stop n H2)
   (k : ∀ D H' ys, B7 H1 H' -> H1 D = none -> H' D = some (.lst ys) -> ys.length = n -> (∀ i y, ys[i]? = some y -> R i y H') -> QD D H') : ∀ D, H1 D = none ->
   ∃ (m : Nat) (W : Nat -> List V -> Hp -> Prop), W 0 [] (upd H1 D (.lst [])) /\ ∀ i ys H2, W i ys H2 -> i <= m /\ H2 D = some (.lst ys) /\ ((J.stop i H2 /\ QD D H2) \/ (i < m /\ J.go i H2 /\ ∀ x H3, J.yld i H2 x H3 ->
     g x σ0 H3 fun σ4 H4 => te σ4 H4 fun y H6 => H6 D = some (.lst ys) /\ ys.length < sizeLine /\ W (i + 1) (ys ++ [y]) (upd H6 D (.lst (ys ++ [y]))))) := by
 intro D hD
 refine ⟨n, fun i ys H2 => i <= n /\ ys.length = i /\ H2 D = some (.lst ys) /\ B7 H1 H2 /\ ∀ j y, ys[j]? = some y -> R j y H2, ⟨Nat.zero_le _, rfl, A8, B7.upd hD, fun j y h => by simp at h⟩, ?_⟩
 rintro i ys H2 ⟨hi, hl, hd, sm, hR⟩
 refine ⟨hi, hd, ?_⟩
 by_cases hlt : i < n
 . refine .inr ⟨hlt, step i H2 _ hlt sm fun y H6 s6 r6 => ?_⟩
   have d6 : H6 D = some (.lst ys) := s6 _ _ hd
   have ex : Z9f D H6 (upd H6 D (.lst (ys ++ [y]))) := fun b o e hb => by rw [C8 hb]; exact e
   refine ⟨d6, Nat.lt_of_le_of_lt (by omega : ys.length <= 1000) (Y0 (Nat.le_refl _)), hlt, by simp [hl], A8, fun b o e => ?_, fun j z hj => ?_⟩
   . rw [C8 (D5 e hD)]
     exact s6 _ _ (sm _ _ e)
   . by_cases hj' : j < ys.length
     . rw [List.getElem?_append_left hj'] at hj
       exact mono j z H6 _ D ys (mono j z H2 H6 D ys (hR j z hj) hd fun b o e _ => s6 _ _ e) d6 ex
     . rw [List.getElem?_append_right (by omega)] at hj
       have e0 : j - ys.length = 0 := by
         apply Classical.byContradiction
         intro q
         rw [List.getElem?_eq_none (by simp; omega)] at hj
         cases hj
       rw [e0] at hj
       have ej : j = i := by omega
       subst ej
       cases hj
       exact mono _ _ H6 _ D ys r6 d6 ex
 have e : i = n := by omega
 subst e
 exact .inl ⟨stop H2 sm, k D H2 ys sm hD hd hl hR⟩
theorem J0t {J : It} {g : TG} {tc : TT} {te : TE} {σ0 : St} {H1 : Hp} {QD : Addr -> Hp -> Prop} {n : Nat} (f : Nat -> Bool) (R : Nat -> V -> Hp -> Prop) (hn : n <= 1000)
   (mono : ∀ i y H' H'' D l, R i y H' -> H' D = some (.lst l) -> Z9f D H' H'' -> R i y H'')
   (step : ∀ (i : Nat) (H2 : Hp) (Qy : VK) (Qn : Hp -> Prop), i < n -> B7 H1 H2 -> (f i = true -> ∀ y H6, B7 H2 H6 -> R i y H6 -> Qy y H6) -> (f i = false -> ∀ H6, B7 H2 H6 -> Qn H6) -> J.go i H2 /\ ∀ x H3, J.yld i H2 x H3 -> g x σ0 H3 fun σ4 H4 => tc σ4 H4 fun b H5 => if b = true then te σ4 H5 Qy else Qn H5)
   (stop : ∀ H2, B7 H1 H2 -> J.stop n H2)
   (k : ∀ D H' ys, B7 H1 H' -> H1 D = none -> H' D = some (.lst ys) -> ys.length = ((List.range n).filter f).length -> (∀ (j i : Nat) (y : V), ((List.range n).filter f)[j]? = some i -> ys[j]? = some y -> R i y H') -> QD D H') : ∀ D, H1 D = none ->
   ∃ (m : Nat) (W : Nat -> List V -> Hp -> Prop), W 0 [] (upd H1 D (.lst [])) /\ ∀ i ys H2, W i ys H2 -> i <= m /\ H2 D = some (.lst ys) /\ ((J.stop i H2 /\ QD D H2) \/ (i < m /\ J.go i H2 /\ ∀ x H3, J.yld i H2 x H3 ->
     g x σ0 H3 fun σ4 H4 => tc σ4 H4 fun b H5 => if b = true then te σ4 H5 fun y H6 => H6 D = some (.lst ys) /\ ys.length < sizeLine /\ W (i + 1) (ys ++ [y]) (upd H6 D (.lst (ys ++ [y]))) else W (i + 1) ys H5)) := by
 intro D hD
 refine ⟨n, fun i ys H2 => i <= n /\ ys.length = ((List.range i).filter f).length /\ H2 D = some (.lst ys) /\ B7 H1 H2 /\ ∀ (j i' : Nat) (y : V), ((List.range i).filter f)[j]? = some i' -> ys[j]? = some y -> R i' y H2, ⟨Nat.zero_le _, rfl, A8, B7.upd hD, fun j i' y h => by simp at h⟩, ?_⟩
 rintro i ys H2 ⟨hi, hl, hd, sm, hR⟩
 refine ⟨hi, hd, ?_⟩
 by_cases hlt : i < n
 . have fl : ((List.range i).filter f).length <= i := Nat.le_trans (List.length_filter_le _ _) (by simp)
   refine .inr ⟨hlt, step i H2 _ _ hlt sm (fun hf y H6 s6 r6 => ?_) (fun hf H6 s6 => ?_)⟩
   . have d6 : H6 D = some (.lst ys) := s6 _ _ hd
     have ex : Z9f D H6 (upd H6 D (.lst (ys ++ [y]))) := fun b o e hb => by rw [C8 hb]; exact e
     have ef : (List.range (i + 1)).filter f = (List.range i).filter f ++ [i] := by rw [List.range_succ, List.filter_append, List.filter_cons, hf]; rfl
     refine ⟨d6, Nat.lt_of_le_of_lt (by omega : ys.length <= 1000) (Y0 (Nat.le_refl _)), hlt, by rw [ef, List.length_append, List.length_append, hl]; rfl, A8, fun b o e => ?_, fun j i' z hi' hj => ?_⟩
     . rw [C8 (D5 e hD)]
       exact s6 _ _ (sm _ _ e)
     . rw [ef] at hi'
       by_cases hj' : j < ys.length
       . rw [List.getElem?_append_left hj'] at hj
         rw [List.getElem?_append_left (by omega)] at hi'
         exact mono i' z H6 _ D ys (mono i' z H2 H6 D ys (hR j i' z hi' hj) hd fun b o e _ => s6 _ _ e) d6 ex
       . rw [List.getElem?_append_right (by omega)] at hj
         rw [List.getElem?_append_right (by omega)] at hi'
         have e0 : j - ys.length = 0 := by
           apply Classical.byContradiction
           intro q
           rw [List.getElem?_eq_none (by simp; omega)] at hj
           cases hj
         rw [e0] at hj
         rw [<- hl, e0] at hi'
         cases hj
         cases hi'
         exact mono _ _ H6 _ D ys r6 d6 ex
   . have ef : (List.range (i + 1)).filter f = (List.range i).filter f := by rw [List.range_succ, List.filter_append, List.filter_cons, hf]; simp
     refine ⟨hlt, by rw [ef]; exact hl, s6 _ _ hd, sm.trans s6, fun j i' z hi' hj => ?_⟩
     rw [ef] at hi'
     exact mono i' z H2 H6 D ys (hR j i' z hi' hj) hd fun b o e _ => s6 _ _ e
 have e : i = n := by omega
 subst e
 exact .inl ⟨stop H2 sm, k D H2 ys sm hD hd hl hR⟩
open AutoSeq1 (wpAny_loadPart')
section
variable {prog : Program} {w : World} {A : Around} {E : Value -> Shared -> Prop} {s : Shared}
end
section
variable {X : Cx} {es : List Expr} {k : Nat} {tp : Pos}
end
end L2
namespace L2
open PySem PySem.Spec PyProof.Rows PySem.W
section
variable {X : Cx}
theorem D9r : A4v X (.builtin "divmod") (fun xs H Q => ∃ i j : Int, xs = [.int i, .int j] /\ (0 < j /\ j.natAbs.log2 < 9000) /\ ∀ p, H p = none -> Q (.ref p) (upd H p (.tup [.int (i / j), .int (i % j)]))) := by
 intro pins s σ H xs us Q I r h
 obtain ⟨i, j, rfl, ⟨h1, h2⟩, q⟩ := h
 obtain ⟨u, w', rfl, ⟨t, rfl⟩, ⟨t', rfl⟩⟩ := V8e r
 refine divmod_int (by omega) ?_ (.inl (PyProof.noPylong_of_log2 h2))
 rw [Int.fdiv_eq_ediv_of_nonneg i (by omega), Int.fmod_eq_emod_of_nonneg i (by omega)]
 refine ⟨.ref s.heap.objs.size, upd H s.heap.objs.size (.tup [.int (i / j), .int (i % j)]), I.laid (fun b o e => Heap.get?_push_of_some _ e) (Nat.le_refl _) ⟨C9 (by show 2 <= 1000; decide), [.int (i / j) s.toks, .int (i % j) (s.toks + 1)], .cons ⟨_, rfl⟩ (.cons ⟨_, rfl⟩ .nil), ⟨_, Heap.get?_push_size s.heap rfl, rfl, 0, rfl⟩⟩, rfl, q _ (I.hok.fresh (Nat.le_refl _))⟩
end
end L2
namespace L2
open PySem PySem.W PyProof.Rows
section
variable {X : Cx} {o e : Expr} {ta : TE} {m : Str} {apos pos : Pos} {j k : Nat} {ps : List Str} {ι : Type} {cw f : ι -> Addr} {fd : ι -> FuncData} {sp : ι -> Sp} {EH : EK}
end
section
variable {X : Cx} {a b e o : Expr} {es : List Expr} {ta tb te to : TE} {t : TA} {pos : Pos} {st : Stmt} {rest : List Stmt} {ts u : TS}
end
end L2
namespace L2
open PySem PySem.Spec PyProof.Rows PySem.W
section
variable {X : Cx} {x f : Str} {p cpos pos : Pos} {e : Expr} {t : TA} {C fI : Addr} {fdI : FuncData} {ps : List Str} {j k : Nat}
end
theorem V8u {K : Frag} {H : Hp} {σ σf : L2.St} {a : Addr} {zs : List Str} {f : Str -> Bool} {tc : TT} {te : TE} {Q : VK} (hl : SqL K H a (zs.map V.str)) (hz : zs.length <= 100)
   (ht : ∀ (z : Str) (H' : Hp) (Qb : Bool -> Hp -> Prop), B7 H H' -> Qb (f z) H' -> tc (some (.str z) :: σf) H' Qb) (he : ∀ (z : Str) (H' : Hp) (Qv : VK), Qv (.str z) H' -> te (some (.str z) :: σf) H' Qv)
   (k : ∀ D H', B7 H H' -> H D = none -> H' D = some (.lst ((zs.filter f).map V.str)) -> Q (.ref D) H') {js : List Nat} (hj : A5d js σ = σf) : B0r 1 js (U8x K (tC (.ref a))) (D6u 0) tc te σ H Q := by
 refine ⟨a, rfl, ⟨_, hl⟩, fun D hD => ⟨zs.length, fun i ys H2 => i <= zs.length /\ ys = ((zs.take i).filter f).map V.str /\ H2 = upd H D (.lst ys), ⟨Nat.zero_le _, rfl, rfl⟩, ?_⟩⟩
 rintro i ys H2 ⟨hi, rfl, rfl⟩
 refine ⟨hi, A8, ?_⟩
 have sm : B7 H (upd H D (.lst (((zs.take i).filter f).map V.str))) := B7.upd hD
 have lz : (((zs.take i).filter f).map V.str).length <= 100 := by
   rw [List.length_map]
   exact Nat.le_trans (List.length_filter_le _ _) (by rw [List.length_take]; omega)
 by_cases hlt : i < zs.length
 . refine .inr ⟨hlt, ⟨_, V.str zs[i], sm.seq hl, by simp [hlt]⟩, fun x H3 y => ?_⟩
   obtain ⟨rfl, y⟩ := y
   have ex : x = V.str zs[i] := by
     have := y _ (sm.seq hl)
     simp [hlt] at this
     exact this.symm
   subst ex
   rw [hj]
   show tc (some (.str zs[i]) :: σf) _ _
   refine ht _ _ _ sm ?_
   have et : (zs.take (i + 1)).filter f = (zs.take i).filter f ++ (if f zs[i] then [zs[i]] else []) := by
     rw [List.take_succ_eq_append_getElem hlt, List.filter_append]
     congr 1
     cases hb : f zs[i] <;> simp [hb]
   cases hb : f zs[i] with
   | false =>
     refine U2 ⟨hlt, ?_, rfl⟩
     rw [et, hb]; simp
   | true =>
     refine Z2 (he _ _ _ ⟨A8, Nat.lt_of_le_of_lt lz (Y0 (by decide)), hlt, ?_, ?_⟩)
     . rw [et, hb]; simp
     . rw [U8j]
 have e : i = zs.length := by omega
 subst e
 refine .inl ⟨⟨_, sm.seq hl, by simp⟩, k D _ sm hD ?_⟩
 rw [List.take_length]
 exact A8
section
variable {X : Cx} {x y : Str} {e : Expr} {t : TE} {p q : Pos} {pos pos2 : Pos}
end
end L2
namespace L2
open PySem PySem.Spec PyProof.Rows
structure B1k (P : Program) (w : World) (K : PySem.W.Frag) (mg : Str -> Option Value) (base : Heap) (CX : CXT) (k : Nat) (f : Addr) (fd : FuncData) (ps : List Str) (sp : Sp) : Prop where
 len : ∀ vs H Q E, sp vs H Q E -> vs.length = ps.length
 run : ∀ (A : Around) (outer : List Env) (s : Shared) (H : Hp) (args : Args) (us : List Value) (vs : List V) (Q : VK) (E : XK), A.guards = some [] -> Z1 k A -> D2x P w K mg base A outer s H -> BindsTo s fd args (ps.zip us) -> U0 vs us -> sp vs H Q E -> codeAny (model P w) A (Code.call (Value.ref f) args) (CR CX outer P w H s Q E) s
theorem V9d {CX : CXT} {P : Program} {w : World} {K : PySem.W.Frag} {mg : Str -> Option Value} {base : Heap} {k : Nat} {f : Addr} {name qual : Str} {params : Arguments} {body : List Stmt} {scope : Scope} {dV kV doc pm cdv ct oc : Value} {an od : Option Addr}
   {osl : Array (Option Value)} {N ps : List Str} {sp : Sp} (lk : K.lookup f = some ⟨oc, od, .func (PySem.W.fnOf name qual params body scope dV kV doc pm an cdv ct), osl⟩) (hcd : PySem.W.codeIn K cdv qual = true) (S : B9 N ps scope)
   (len : ∀ vs H Q E, sp vs H Q E -> vs.length = ps.length)
   (hbody : ∀ (A : Around) (outer : List Env) (s : Shared) (H : Hp) (vs : List V) (Q : VK) (E : XK), A.guards = some [] -> Z1 k (A.deeper (envOfC qual scope s.heap.objs.size f cdv)) -> sp vs H Q E ->
     ∃ t, PSs (A0w CX P w K mg base N qual scope f cdv A outer s H E) body t /\ t { nx := fun _ H' => Q .non H', rt := Q } (A4q N vs) H) :
   B1k P w K mg base CX (k + 1) f (PySem.W.fnOf name qual params body scope dV kV doc pm an cdv ct) ps sp := by
 refine ⟨len, fun A outer s H args us vs Q E hgd hr e0 hb r hsp => ?_⟩
 have hl := len _ _ _ _ hsp
 have KX : K.In s.heap := e0.mod.kin.keeps fun b o e => (e0.bs b o e).1
 have lim : s.heap.NoLimit := e0.mod.nolimit.keeps fun b o e => (e0.bs b o e).1
 have hkind : ∀ y ∈ ps.zip us, scope.names.lookup y.1 = some .local \/ (scope.names.lookup y.1 = some .cell /\ ((cellsFrom (s.heap.objs.size + 1) scope.names []).lookup y.1).isSome = true) := fun ⟨n, v⟩ hy => by
   rcases S.par n (List.of_mem_zip hy).1 with q | q
   . exact .inl q
   . exact .inr ⟨q, PySem.W.cellsFrom_some _ _ _ (.inl q)⟩
 refine codeAny_call_function hr.depth (KX _ _ lk) rfl S.co S.gen rfl (PySem.W.codeRec_of KX hcd) (hb _ _ _ _ ?_)
 refine wpAny_newFunctionEnv_cells S.kind hkind fun env he s1 x => ?_
 subst he
 refine ⟨lim.keeps x.toInCall.keep, codeAny_func ?_⟩
 obtain ⟨t, ht, hq⟩ := hbody A outer s H vs Q E hgd (hr.deeper _) hsp
 have I : Inv (A0w CX P w K mg base N qual scope f cdv A outer s H E) [] (A4q N vs) H s1 := D6y S hr.hd e0 hl r x
 refine wpAny_mono (ht [] s1 (A4q N vs) H _ I hq) (fun fl s' hs => ?_) fun e s' hs => hs
 have fin : ∀ {σ' : St} {H' : Hp} {v : V} {u : Value}, Inv (A0w CX P w K mg base N qual scope f cdv A outer s H E) [] σ' H' s' -> U5 v u -> Q v H' -> CE outer P w H s Q u s' :=
   fun {σ' H' v u} J rv q => ⟨v, H', J.os, J.bare, J.base, J.hok, rv, q⟩
 cases fl with
 | ret u =>
   obtain ⟨v, σ', H', J, rv, q⟩ := hs
   exact fin J rv q
 | next =>
   obtain ⟨σ', H', J, q⟩ := hs
   exact fin (v := V.non) (u := Value.none) J rfl q
 | brk =>
   obtain ⟨_, _, _, q⟩ := hs
   exact False.elim q
 | cont =>
   obtain ⟨_, _, _, q⟩ := hs
   exact False.elim q
open PySem.W in
theorem Fun.okEG {P : Program} {w : World} {K : Frag} {mg : Str -> Option Value} {base : Heap} {x qual : Str} {st : Stmt} {f : Addr} {fd : FuncData} {N ps : List Str} {k : Nat} {sp : Sp} (F : Fun K x qual st f fd) (S : B9 N ps (A1 st)) (len : ∀ vs H Q E, sp vs H Q E -> vs.length = ps.length)
   (hbody : ∀ (X : Cx) (cdv : Value) (A : Around) (outer : List Env) (s : Shared) (H : Hp) (vs : List V) (Q : VK) (E : XK), X = A0w (CX1 P w) P w K mg base N qual (A1 st) f cdv A outer s H E -> X.A.guards = some [] -> Z1 k X.A -> G7 X (fun C dd _ H' => E C dd H') -> sp vs H Q E ->
     ∃ t, PSs (A0w (CX1 P w) P w K mg base N qual (A1 st) f cdv A outer s H E) (B1 st) t /\ t { nx := fun _ H' => Q .non H', rt := Q } (A4q N vs) H) : B1k P w K mg base (CX1 P w) (k + 1) f fd ps sp := by
 obtain ⟨oc, od, kV, doc, pm, an, cdv, ct, osl, rfl, lk, hc⟩ := F.ex
 exact V9d lk hc S len fun A outer s H vs Q E hg hr h => hbody _ cdv A outer s H vs Q E rfl hg hr A7v h
end L2
namespace L2
open PySem PySem.Spec PyProof.Rows PySem.W
mutual
inductive RdR (H : Hp) : V -> PyData -> Prop where
 | non : RdR H .non .none
 | bl (b : Bool) : RdR H (.bl b) (.bool b)
 | int (i : Int) : RdR H (.int i) (.int i)
 | str (x : Str) : RdR H (.str x) (.str x)
 | tup {a : Addr} {xs : List V} {ds : List PyData} (h : H a = some (.tup xs)) (r : B5m H xs ds) : RdR H (.ref a) (.tuple ds)
 | lst {a : Addr} {xs : List V} {ds : List PyData} (h : H a = some (.lst xs)) (n : a ≠ sysModules) (r : B5m H xs ds) : RdR H (.ref a) (.list ds)
 | dct0 {a : Addr} (h : H a = some (.dK [])) : RdR H (.ref a) (.dict [])
 | dct1 {a : Addr} {z : Str} {b : Bool} (h : H a = some (.dK [(.inr z, .bl b)])) : RdR H (.ref a) (.dict [(.str z, .bool b)])
inductive B5m (H : Hp) : List V -> List PyData -> Prop where
 | nil : B5m H [] []
 | cons {x : V} {xs : List V} {d : PyData} {ds : List PyData} (h : RdR H x d) (r : B5m H xs ds) : B5m H (x :: xs) (d :: ds)
end
mutual
theorem RdR.same {H H' : Hp} (s : ∀ b o, H b = some o -> H' b = some o) : ∀ {x : V} {d : PyData}, RdR H x d -> RdR H' x d
 | _, _, .non => .non
 | _, _, .bl b => .bl b
 | _, _, .int i => .int i
 | _, _, .str x => .str x
 | _, _, .tup h r => .tup (s _ _ h) (B5m.same s r)
 | _, _, .lst h n r => .lst (s _ _ h) n (B5m.same s r)
 | _, _, .dct0 h => .dct0 (s _ _ h)
 | _, _, .dct1 h => .dct1 (s _ _ h)
theorem B5m.same {H H' : Hp} (s : ∀ b o, H b = some o -> H' b = some o) : ∀ {x : List V} {d : List PyData}, B5m H x d -> B5m H' x d
 | _, _, .nil => .nil
 | _, _, .cons h r => .cons (RdR.same s h) (B5m.same s r)
end
section
variable {X : Cx}
mutual
theorem RdR.reads {pins : List (Addr × Obj)} {σ : St} {H : Hp} {s : Shared} (I : Inv X pins σ H s) : ∀ {x : V} {d : PyData} {u : Value}, RdR H x d -> U5 x u -> ∃ as, Reads s.heap u d as /\ sysModules ∉ as
 | _, _, _, .non, r => by cases r; exact ⟨_, .none, by simp⟩
 | _, _, _, .bl b, r => by cases r; exact ⟨_, .bool b, by simp⟩
 | _, _, _, .int i, r => by obtain ⟨t, rfl⟩ := r; exact ⟨_, .int i t, by simp⟩
 | _, _, _, .str x, r => by obtain ⟨t, rfl⟩ := r; exact ⟨_, .str x t, by simp⟩
 | _, _, _, .tup h q, r => by
   cases r
   obtain ⟨_, its, rv, o, e, c, n, d⟩ := I.hok _ _ h
   obtain ⟨as, z, y⟩ := B5m.reads I q rv
   exact ⟨_, .tuple e c d (by simpa using z), y⟩
 | _, _, _, .lst (a := a) h nn q, r => by
   cases r
   obtain ⟨_, its, n, rv, e⟩ := I.hok _ _ h
   obtain ⟨as, z, y⟩ := B5m.reads I q rv
   refine ⟨_, .list e rfl rfl (by simpa using z), fun hm => ?_⟩
   rcases List.mem_cons.mp hm with hm | hm
   . exact nn hm.symm
   . exact y hm
 | _, _, _, .dct0 (a := a) h, r => by
   cases r
   obtain ⟨_, nS, vs, kv, o, es, ep, e, c, d, _, ps, _⟩ := I.hok _ _ h
   cases kv
   cases hp : es.toList with
   | cons _ _ => rw [hp] at ps; cases ps
   | nil =>
     refine ⟨_, .dict (kvs := []) e c.1 d (by rw [hp]; exact .nil) (by rw [hp]; exact .nil), fun hm => ?_⟩
     exact beq_eq_false_iff_ne.mp nS (by simpa using hm : sysModules = a).symm
 | _, _, _, .dct1 (a := a) (z := z) (b := b) h, r => by
   cases r
   obtain ⟨_, nS, vs, kv, o, es, ep, e, c, d, _, ps, _⟩ := I.hok _ _ h
   cases kv with
   | cons k1 k2 =>
     cases k2
     obtain ⟨k1a, k1b⟩ := k1
     cases ps' : es.toList with
     | nil => rw [ps'] at ps; cases ps
     | cons en rest =>
       rw [ps'] at ps
       cases ps with
       | cons p1 p2 p3 =>
         cases p3
         have hk : ∃ t, en.key = .str z t := by
           rw [<- k1a] at p1
           have p1 : Value.isStrOf z en.key = true := p1
           cases hk : en.key <;> rw [hk] at p1 <;> simp [Value.isStrOf] at p1
           subst p1
           exact ⟨_, rfl⟩
         obtain ⟨t, hk⟩ := hk
         have hv : en.val = .bool b := p2.trans k1b
         refine ⟨_, .dict (kvs := [(.str z, .bool b)]) e c.1 d (by rw [ps']; show ReadsAll s.heap [en.key] [.str z] _; rw [hk]; exact .cons (.str z t) .nil) (by rw [ps']; show ReadsAll s.heap [en.val] [.bool b] _; rw [hv]; exact .cons (.bool b) .nil), fun hm => ?_⟩
         exact beq_eq_false_iff_ne.mp nS (by simpa using hm : sysModules = a).symm
theorem B5m.reads {pins : List (Addr × Obj)} {σ : St} {H : Hp} {s : Shared} (I : Inv X pins σ H s) : ∀ {xs : List V} {ds : List PyData} {us : List Value}, B5m H xs ds -> U0 xs us -> ∃ as, ReadsAll s.heap us ds as /\ sysModules ∉ as
 | _, _, _, .nil, r => by cases r; exact ⟨_, .nil, by simp⟩
 | _, _, _, .cons h q, r => by
   cases r with
   | cons r1 r2 =>
     obtain ⟨as, z, n1⟩ := RdR.reads I h r1
     obtain ⟨bs, y, n2⟩ := B5m.reads I q r2
     exact ⟨_, .cons z y, by simp [n1, n2]⟩
end
def A0r (d : PyData) : Prop := d.showable = true /\ d.depth <= 10 /\ d.shown.length <= sizeLine
end
section
variable {X : Cx} {j k : Nat} {f C : Addr} {fd : FuncData} {ps : List Str} {sp : Sp} {dvs : List V} {ds : List Value} {x m : Str} {p pos apos : Pos} {e o : Expr} {es : List Expr} {ta : TE} {t : TA} {st : Stmt}
end
structure J8m (mg : Str -> Option Value) (base : Heap) (c P : Addr) : Prop where
 code : CodeHd base c P
 bm : ∃ bm ob, mg "__builtins__" = some (.ref bm) /\ bm ≠ builtinsNs /\ bm ≠ mainGlobals /\ base.get? bm = some ob /\ ob.cls = .type "module" /\ ob.dict = some builtinsNs /\ ob.data = .plain
def A0cw (oc : Obj) (qual : Str) : Prop := ∃ vs t, oc.data = .fields vs /\ vs[1]? = some (.str qual t)
def A6r (P : Addr) (pos : Pos) (qual : Str) (H : Hp) : Prop := ∃ ps, H P = some (.tbl ps) /\ TriplesOk ps.toList /\ (codeAmong pos ps.toList = none \/ ∃ c' oc, codeAmong pos ps.toList = some (.ref c') /\ H c' = some (.frz oc (.own c')) /\ A0cw oc qual)
def C8y (H : Hp) (f : Addr) (qual : Str) (params : Arguments) (body : Expr) (scope : Scope) (clos : List (Str × Addr)) : Prop :=
 ∃ pm c' ctv oc, H f = some (.frz (kla_obj "<lambda>" qual params body scope clos pm c' ctv) (.own f)) /\ H c' = some (.frz oc (.own c')) /\ A0cw oc qual
def V0b (P : Addr) (H H' : Hp) : Prop := ∀ b o, b ≠ P -> H b = some o -> H' b = some o
def tLam (P : Addr) (pos : Pos) (qual : Str) (params : Arguments) (body : Expr) (scope : Scope) (clos : List (Str × Addr)) : TE := fun _ H Q => A6r P pos qual H /\ ∀ f H', V0b P H H' -> H f = none -> C8y H' f qual params body scope clos -> A6r P pos qual H' -> (∀ pos' q', (pos'.line ≠ pos.line \/ pos'.col ≠ pos.col) -> A6r P pos' q' H -> A6r P pos' q' H') -> Q (.ref f) H'
theorem B8s {a b c : Value} {n m : Int} {t u : Tok} : ∀ l : List Value, TriplesOk l -> TriplesOk (l ++ [.int n t, .int m u, c]) := by
 intro l h
 fun_induction TriplesOk l with
 | case1 => exact True.intro
 | case2 _ _ _ _ _ rest ih => exact ih h
 | case3 => exact h.elim
theorem J7q {pos pos' : Pos} {c : Value} (hp : pos'.line ≠ pos.line \/ pos'.col ≠ pos.col) : ∀ l : List Value, TriplesOk l -> codeAmong pos' (l ++ [rawInt pos.line, rawInt pos.col, c]) = codeAmong pos' l := by
 intro l h
 fun_induction TriplesOk l with
 | case1 =>
   have : ¬ (((pos.line : Int) == (pos'.line : Int) && (pos.col : Int) == (pos'.col : Int)) = true) := by
     intro z
     simp only [Bool.and_eq_true, beq_iff_eq] at z
     omega
   show (if ((pos.line : Int) == (pos'.line : Int) && (pos.col : Int) == (pos'.col : Int)) = true then some c else codeAmong pos' []) = none
   rw [if_neg this]
   rfl
 | case2 a t b u x rest ih =>
   show (if _ then _ else codeAmong pos' (rest ++ _)) = (if _ then _ else codeAmong pos' rest)
   rw [ih h]
 | case3 => exact h.elim
theorem V1h {X : Cx} {c P : Addr} {params : Arguments} {body : Expr} {scope : Scope} {pos : Pos} {clos : List (Str × Addr)} (L : J8m X.mg X.base c P) (hc : X.env.code = .ref c) (hcl : closureFor scope X.env = pure clos) (hex : X.ex = [] := by rfl) (hdef : defaultsOf params X.env = ([], []) := by rfl) :
   PE X (.Lambda params body scope pos) (tLam P pos (X.env.qual ++ "<lambda>") params body scope clos) := by
 intro pins s σ H Q I ⟨⟨ps, hP, ht, hcase⟩, k⟩
 obtain ⟨bm, ob, b1, b2, b3, b4, b5, b6, b7⟩ := L.bm
 have hg : s.heap.Ns mainGlobals X.mg := I.ok.mod.glob.keeps I.bk
 have hPo : s.heap.get? P = some (tabObj ps) := I.hok P _ hP
 have nP : ∀ b o, X.base.get? b = some o -> b ≠ P := fun b o e z => by
   have := (I.bs b o e).2
   rw [z, hP] at this
   cases this
 have hgP : mainGlobals ≠ P := by
   obtain ⟨o, _, _, e, _⟩ := I.ok.mod.glob
   exact nP _ _ e
 refine kla_eval hdef ?_
 rcases hcase with hnf | ⟨c', oc, hf, hc', ho⟩
 . refine kla_makeFunction hcl I.ok.glob hg hc (L.code.keeps I.bk) hPo ht hnf hgP ⟨bm, ob, b1, b2, b3, nP _ _ b4, I.bk _ _ b4, b5, b6, b7⟩ fun c' ctv h' tk hx hge hlt hrec htb => ?_
   obtain ⟨c2, oc, vs, t, e2, hoc, hd, hv⟩ := hrec
   cases e2
   generalize hfo : kla_obj "<lambda>" (X.env.qual ++ "<lambda>") params body scope clos ((X.mg "__name__").getD .none) c' ctv = fo
   have kx : ∀ b o, b ≠ P -> s.heap.get? b = some o -> (h'.push fo).get? b = some o := fun b o hb e => Heap.get?_push_of_some _ (hx b o hb e)
   have fP : ∀ b, H b = none -> b ≠ P := fun b n z => by rw [z, hP] at n; cases n
   have I1 : Inv X pins σ (upd H P (.tbl (ps ++ #[rawInt pos.line, rawInt pos.col, .ref c']))) { s with heap := h'.push fo, toks := tk } := by
     refine I.un ⟨fun b o e n _ _ => kx b o (fP b n) e, fun b o e n _ _ => ⟨o.slots, kx b o (fP b n) e⟩, fun b o e n _ => by rw [C8 (fP b n)]; exact n, fun b o e _ => ?_, fun b xs e => ?_, fun b o u e => ?_, fun b qs e => ?_⟩ fun b u e => ?_
     . by_cases hb : b = P
       . exact ⟨_, by rw [hb]; exact Heap.get?_push_of_some _ htb⟩
       . exact ⟨o, kx b o hb e⟩
     . rw [C8 (by rintro rfl; rw [hP] at e; cases e)]; exact e
     . rw [C8 (by rintro rfl; rw [hP] at e; cases e)]; exact e
     . by_cases hb : b = P
       . subst hb
         rw [hP] at e
         cases e
         exact ⟨_, A8⟩
       . exact ⟨#[], by rw [C8 hb, e]; simp⟩
     . by_cases hb : b = P
       . subst hb
         rw [A8] at e
         cases e
         exact Heap.get?_push_of_some _ htb
       . rw [C8 hb] at e
         refine (I.hok b u e).stay (fun d v hd q => kx d v ?_ q) (fun d q => ?_) fun d xs q => ?_
         . rcases hd with rfl | hd
           . exact hb
           . rintro rfl
             rw [hP] at hd
             cases hd
         . rw [C8 (by rintro rfl; rw [hP] at q; cases q)]; exact q
         . rw [C8 (by rintro rfl; rw [hP] at q; cases q)]; exact q
   have nc : s.heap.get? c' = none := Heap.get?_none_of_le hge
   have nf : s.heap.get? h'.objs.size = none := Heap.get?_none_of_le (Nat.le_trans hge (Nat.le_of_lt hlt))
   have uc : H c' = none := I.hok.new nc
   have uf : H h'.objs.size = none := I.hok.new nf
   have cP : c' ≠ P := fP c' uc
   have fP' : h'.objs.size ≠ P := fP _ uf
   have cf : c' ≠ h'.objs.size := Nat.ne_of_lt hlt
   have I2 := I1.track (a := c') (o := oc) (I.nw hex nc (by rw [C8 cP]; exact uc)) (Heap.get?_push_of_some _ hoc)
   have I3 := I2.track (a := h'.objs.size) (o := fo) (I.nw hex nf (by rw [C8 cf.symm, C8 fP']; exact uf)) (Heap.get?_push_size _ (by rw [<- hfo]; rfl))
   refine ⟨.ref h'.objs.size, _, I3, rfl, k _ _ (fun b o hb e => ?_) uf ⟨_, c', ctv, oc, by rw [A8, hfo], by rw [C8 cf, A8], vs, t, hd, hv⟩ ⟨ps ++ #[rawInt pos.line, rawInt pos.col, .ref c'], by rw [C8 fP'.symm, C8 cP.symm, A8], ?_, .inr ⟨c', oc, ?_, by rw [C8 cf, A8], vs, t, hd, hv⟩⟩ fun pos' q' hp ⟨ps2, z1, z2, z3⟩ => ⟨ps ++ #[rawInt pos.line, rawInt pos.col, .ref c'], by rw [C8 fP'.symm, C8 cP.symm, A8], ?_, ?_⟩⟩
   . rw [C8 (by rintro rfl; rw [uf] at e; cases e), C8 (by rintro rfl; rw [uc] at e; cases e), C8 hb]; exact e
   . rw [Array.toList_append]
     exact B8s (a := .none) (b := .none) _ ht
   . rw [Array.toList_append]
     exact codeAmong_snoc _ ht hnf
   . rw [Array.toList_append]
     exact B8s (a := .none) (b := .none) _ ht
   . rw [hP] at z1
     cases z1
     rw [Array.toList_append]
     have e : codeAmong pos' (ps.toList ++ [rawInt pos.line, rawInt pos.col, Value.ref c']) = codeAmong pos' ps.toList := J7q hp _ ht
     rcases z3 with z3 | ⟨c2, oc2, z4, z5, z6⟩
     . exact .inl (e.trans z3)
     . exact .inr ⟨c2, oc2, e.trans z4, by rw [C8 (by rintro rfl; rw [uf] at z5; cases z5), C8 (by rintro rfl; rw [uc] at z5; cases z5), C8 (by rintro rfl; rw [hP] at z5; cases z5)]; exact z5, z6⟩
 refine kla_makeFunctionHit hcl I.ok.glob hg hc (L.code.keeps I.bk) hPo ht hf ⟨bm, ob, b1, b2, b3, nP _ _ b4, I.bk _ _ b4, b5, b6, b7⟩ fun ctv h' tk hk hsz => ?_
 generalize hfo : kla_obj "<lambda>" (X.env.qual ++ "<lambda>") params body scope clos ((X.mg "__name__").getD .none) c' ctv = fo
 have nf : s.heap.get? h'.objs.size = none := Heap.get?_none_of_le hsz
 have uf : H h'.objs.size = none := I.hok.new nf
 have I1 : Inv X pins σ H { s with heap := h'.push fo, toks := tk } := I.kept fun b o e => Heap.get?_push_of_some _ (hk b o e)
 have I3 := I1.track (a := h'.objs.size) (o := fo) (I.nw hex nf uf) (Heap.get?_push_size _ (by rw [<- hfo]; rfl))
 have ne : ∀ b o, H b = some o -> b ≠ h'.objs.size := fun b o e z => by rw [z, uf] at e; cases e
 show ∃ v H', Inv X pins σ H' { s with heap := h'.push (kla_obj "<lambda>" (X.env.qual ++ "<lambda>") params body scope clos ((X.mg "__name__").getD .none) c' ctv), toks := tk } /\ U5 v (.ref h'.objs.size) /\ Q v H'
 rw [hfo]
 refine ⟨.ref h'.objs.size, upd H h'.objs.size (.frz fo (.own h'.objs.size)), I3, rfl, k _ _ (fun b o hb e => by rw [C8 (ne b o e)]; exact e) uf ⟨_, c', ctv, oc, by rw [A8, hfo], by rw [C8 (ne _ _ hc')]; exact hc', ho⟩ ⟨ps, by rw [C8 (ne _ _ hP)]; exact hP, ht, .inr ⟨c', oc, hf, by rw [C8 (ne _ _ hc')]; exact hc', ho⟩⟩ fun pos' q' hp ⟨ps2, z1, z2, z3⟩ => ⟨ps2, by rw [C8 (ne _ _ z1)]; exact z1, z2, z3.imp id fun ⟨c2, oc2, z4, z5, z6⟩ => ⟨c2, oc2, z4, by rw [C8 (ne _ _ z5)]; exact z5, z6⟩⟩⟩
def Y2 (cs : List Addr) (H : Hp) : Hp := fun b => if b ∈ cs then none else H b
def A0k (cs : List Addr) (H H' : Hp) : Hp := fun b => if b ∈ cs then H b else H' b
section
variable {cs : List Addr} {H H' H2 : Hp} {b : Addr} {P : Program} {w : World} {h h' : Heap} {fs : List Addr}
theorem B8q (hb : b ∈ cs) : Y2 cs H b = none := by unfold Y2; rw [if_pos hb]
theorem Z9 (hb : b ∉ cs) : Y2 cs H b = H b := by unfold Y2; rw [if_neg hb]
theorem B4q (n : H b = none) : Y2 cs H b = none := by
 unfold Y2
 split
 . rfl
 exact n
theorem D9f (hb : b ∈ cs) : A0k cs H H' b = H b := by unfold A0k; rw [if_pos hb]
theorem Y4 (hb : b ∉ cs) : A0k cs H H' b = H' b := by unfold A0k; rw [if_neg hb]
def Z6 (cs : List Addr) (H : Hp) : Prop := ∀ c ∈ cs, ∃ o, H c = some (.frz o (.own c))
theorem Z6.out {u : HO} (A : Z6 cs H) (e : H b = some u) (hu : ∀ o, u ≠ .frz o (.own b)) : b ∉ cs := fun hb => by
 obtain ⟨o, z⟩ := A b hb
 rw [e] at z
 exact hu o (Option.some.inj z)
theorem Z6.hide {u : HO} (A : Z6 cs H) (e : H b = some u) (hu : ∀ o, u ≠ .frz o (.own b)) : Y2 cs H b = some u := by rw [Z9 (A.out e hu)]; exact e
theorem HOk.hide (x : HOk P w H h) (A : Z6 cs H) : HOk P w (Y2 cs H) h := fun a o e => by
 by_cases ha : a ∈ cs
 . rw [B8q ha] at e; cases e
 . rw [Z9 ha] at e
   exact (x a o e).stay (fun _ _ _ q => q) (fun d q => A.hide q fun o z => nomatch z) fun d xs q => A.hide q fun o z => nomatch z
theorem Z6f (u : Un fs [] (Y2 cs H) H' h h') (A : Z6 cs H) : Un fs [] H (A0k cs H H') h h' where
 keep := fun b o e n hb hx => u.keep b o e (by unfold Y2; split <;> first | rfl | exact n) hb hx
 slot := fun b o e n hb hx => u.slot b o e (by unfold Y2; split <;> first | rfl | exact n) hb hx
 free := fun b o e n hx => by
   have hb : b ∉ cs := fun z => by
     obtain ⟨o, q⟩ := A b z
     rw [n] at q; cases q
   rw [Y4 hb]
   exact u.free b o e (by rw [Z9 hb]; exact n) hx
 there := u.there
 tups := fun b xs e => by
   have hb := A.out e fun o z => nomatch z
   rw [Y4 hb]
   exact u.tups b xs (by rw [Z9 hb]; exact e)
 frzs := fun b o v e => by
   by_cases hb : b ∈ cs
   . rw [D9f hb]; exact e
   . rw [Y4 hb]; exact u.frzs b o v (by rw [Z9 hb]; exact e)
 tbls := fun b ps e => by
   have hb := A.out e fun o z => nomatch z
   rw [Y4 hb]
   exact u.tbls b ps (by rw [Z9 hb]; exact e)
theorem U8m (u : Un fs [] (Y2 cs H) H' h h') (A : Z6 cs H) (x : HOk P w H h) : ∀ c ∈ cs, H' c = none := fun c hc => by
 obtain ⟨o, e⟩ := A c hc
 obtain ⟨e1, _⟩ := x c _ e
 exact u.free c o e1 (B8q hc) (by simp)
theorem Y0s (u : Un fs [] (Y2 cs H) H' h h') (A : Z6 cs H) (x : HOk P w H h) (x' : HOk P w H' h') (hf : ∀ b ∈ fs, H b = none) : HOk P w (A0k cs H H') h' := fun a o e => by
 have nn := U8m u A x
 by_cases ha : a ∈ cs
 . rw [D9f ha] at e
   obtain ⟨o', e'⟩ := A a ha
   rw [e] at e'
   cases e'
   obtain ⟨e1, _⟩ := x a _ e
   have e2 := u.keep a o' e1 (B8q ha) (fun z => by rw [hf a z] at e; cases e) (by simp)
   exact ⟨e2, o', e2⟩
 . rw [Y4 ha] at e
   refine (x' a o e).stay (fun _ _ _ q => q) (fun d q => ?_) fun d xs q => ?_
   . rw [Y4 fun z => by rw [nn d z] at q; cases q]; exact q
   . rw [Y4 fun z => by rw [nn d z] at q; cases q]; exact q
theorem Z8z (u : Un fs [] H2 H' h h') (A : Z6 cs H2) (ho : ∀ b, b ∉ cs -> H2 b = H b) (hn : ∀ b ∈ cs, H b = none) (x : HOk P w H2 h) (x' : HOk P w H' h') : Un fs [] H (Y2 cs H') h h' := by
 have kp : ∀ b o, b ∈ cs -> h.get? b = some o -> h'.get? b = some o := fun b o hb e => by
   obtain ⟨o1, z⟩ := A b hb
   obtain ⟨e1, _⟩ := x b _ z
   rw [e] at e1
   cases e1
   exact (x' b _ (u.frzs b _ _ z)).1
 have out : ∀ b v, H b = some v -> b ∉ cs := fun b v e z => by rw [hn b z] at e; cases e
 refine ⟨fun b o e n hb hx => ?_, fun b o e n hb hx => ?_, fun b o e n hx => ?_, u.there, fun b xs e => ?_, fun b o v e => ?_, fun b ps e => ?_⟩
 . by_cases hc : b ∈ cs
   . exact kp b o hc e
   . exact u.keep b o e (by rw [ho b hc]; exact n) hb hx
 . by_cases hc : b ∈ cs
   . exact ⟨o.slots, kp b o hc e⟩
   . exact u.slot b o e (by rw [ho b hc]; exact n) hb hx
 . by_cases hc : b ∈ cs
   . exact B8q hc
   . rw [Z9 hc]; exact u.free b o e (by rw [ho b hc]; exact n) hx
 . rw [Z9 (out b _ e)]; exact u.tups b xs (by rw [ho b (out b _ e)]; exact e)
 . rw [Z9 (out b _ e)]; exact u.frzs b o v (by rw [ho b (out b _ e)]; exact e)
 rw [Z9 (out b _ e)]; exact u.tbls b ps (by rw [ho b (out b _ e)]; exact e)
end
def D7r (H : Hp) (c : Addr) (v : V) : Prop := ∃ o u, H c = some (.frz o (.own c)) /\ o.data = .cell (some u) /\ U5 v u
def C7f (CX : CXT) (P : Program) (w : World) (K : Frag) (mg : Str -> Option Value) (base : Heap) (N : List Str) (qual : Str) (scope : Scope) (f : Addr) (cd : Value) (cl : List (Str × Addr)) (A : Around) (outer : List Env) (s : Shared) (H : Hp) (E : XK) : Cx where
 prog := P
 w := w
 K := K
 mg := mg
 base := base
 A := A.deeper (envX qual scope s.heap.objs.size f cd cl)
 N := N
 s₀ := s
 H₀ := H
 env := envX qual scope s.heap.objs.size f cd cl
 outer := outer
 stack := envX qual scope s.heap.objs.size f cd cl :: outer
 ex := []
 calm := true
 fn := fun _ => false
 pn := []
 xe := fun e s' => wpAny (model P w) (A.deeper (envX qual scope s.heap.objs.size f cd cl)) (leaving (envX qual scope s.heap.objs.size f cd cl) e) (fun _ s'' => CX outer H s E e s'') (fun e' s'' => CX outer H s E e' s'') s'
structure LamS (F : List Str) (sc : Scope) : Prop where
 kind : sc.kind = .function
 co : sc.isCoroutine = false
 gen : sc.isGenerator = false
 nocell : ∀ y ∈ sc.names, y.2 ≠ .cell
 fr : ∀ y ∈ sc.names, y.2 = .free -> y.1 ∈ F
 at_ : ∀ x ∈ F, sc.names.lookup x = some .free
 nd : F.Nodup
structure C0k (P : Program) (w : World) (K : Frag) (mg : Str -> Option Value) (base : Heap) (k : Nat) (f : Addr) (J : Hp -> Prop) (sp : Hp -> VK -> XK -> Prop) : Prop where
 fn : ∀ H h, J H -> HOk P w H h -> FnAt f h
 run : ∀ (A : Around) (outer : List Env) (s : Shared) (H : Hp) (Q : VK) (E : XK), Z1 k A -> D2x P w K mg base A outer s H -> J H -> sp H Q E -> codeAny (model P w) A (.call (.ref f) ⟨[], []⟩) (CR (CX1 P w) outer P w H s Q E) s
def LamJ (f : Addr) (qual : Str) (params : Arguments) (body : Expr) (scope : Scope) (cl : List (Str × Addr)) (vs : List V) (H : Hp) : Prop :=
 C8y H f qual params body scope cl /\ ∀ (i : Nat) (x : Str) (c : Addr), cl[i]? = some (x, c) -> ∃ v, vs[i]? = some v /\ D7r H c v
theorem C0a : ∀ {cl : List (Str × Addr)} {i : Nat} {x : Str} {c : Addr}, (cl.map (·.1)).Nodup -> cl[i]? = some (x, c) -> cl.lookup x = some c
 | [], i, x, c, _, h => by cases i <;> cases h
 | (y, d) :: r, 0, x, c, _, h => by cases h; simp [List.lookup]
 | (y, d) :: r, i + 1, x, c, nd, h => by
   have nd' : y ∉ r.map (·.1) /\ (r.map (·.1)).Nodup := List.nodup_cons.mp nd
   have hm : x ∈ r.map (·.1) := List.mem_map.mpr ⟨(x, c), List.mem_of_getElem? (by simpa using h), rfl⟩
   have ne : (x == y) = false := beq_eq_false_iff_ne.mpr fun z => nd'.1 (z ▸ hm)
   rw [List.lookup_cons, ne]
   exact C0a nd'.2 (by simpa using h)
theorem V8q : ∀ {cl : List (Str × Addr)} {x y : Str} {c : Addr}, (cl.map (·.2)).Nodup -> (x, c) ∈ cl -> (y, c) ∈ cl -> x = y
 | p :: r, x, y, c, nd, h1, h2 => by
   have nd' : p.2 ∉ r.map (·.2) /\ (r.map (·.2)).Nodup := List.nodup_cons.mp nd
   rcases List.mem_cons.mp h1 with e1 | h1 <;> rcases List.mem_cons.mp h2 with e2 | h2
   . rw [<- e1] at e2; cases e2; rfl
   . exact absurd (List.mem_map.mpr ⟨(y, c), h2, by rw [<- e1]⟩) nd'.1
   . exact absurd (List.mem_map.mpr ⟨(x, c), h1, by rw [<- e2]⟩) nd'.1
   . exact V8q nd'.2 h1 h2
theorem J0n {P : Program} {w : World} {K : Frag} {mg : Str -> Option Value} {base : Heap} {N : List Str} {qual : Str} {scope : Scope} {f : Addr} {cd : Value} {cl : List (Str × Addr)} {A : Around} {outer : List Env} {s : Shared} {H : Hp} {E : XK} :
   G7 (C7f (CX1 P w) P w K mg base N qual scope f cd cl A outer s H E) (fun C dd _ H' => E C dd H') := by
 intro pins σ H' s' a t C dd I F h
 refine D6h (X := C7f (CX1 P w) P w K mg base N qual scope f cd cl A outer s H E) ⟨rfl, rfl, rfl⟩ I F fun s2 I2 F2 => ?_
 obtain ⟨na, T, oT, ts, e, ne, nT, eT, dT, h3⟩ := F2
 exact ⟨a, t, C, dd, H', rfl, I2.os, I2.bare, I2.base, I2.hok, h, ⟨na.old, na.un⟩, T, oT, ts, e, ne, ⟨nT.old, nT.un⟩, eT, dT, h3⟩
theorem Z8p {P : Program} {w : World} {K : Frag} {mg : Str -> Option Value} {base : Heap} {k : Nat} {f : Addr} {qual : Str} {params : Arguments} {body : Expr} {scope : Scope} {cl : List (Str × Addr)} {vs : List V} {sp : Hp -> VK -> XK -> Prop}
   (S : LamS (cl.map (·.1)) scope) (hF : cl.length = vs.length) (hnd : (cl.map (·.2)).Nodup)
   (hb0 : ∀ (pm : Value) (c' : Addr) (ctv : Value), bindArgs (kla_fn "<lambda>" qual params body scope cl pm (.ref c') ctv) ⟨[], []⟩ = pure [])
   (hbody : ∀ (X : Cx) (cdv : Value) (A : Around) (outer : List Env) (s : Shared) (H : Hp) (Q : VK) (E : XK), X = C7f (CX1 P w) P w K mg base (cl.map (·.1)) qual scope f cdv cl A outer s (Y2 (cl.map (·.2)) H) (fun C d H' => (∀ c ∈ cl.map (·.2), H' c = none) -> E C d (A0k (cl.map (·.2)) H H')) -> Z1 k X.A ->
     G7 X (fun C dd _ H' => (∀ c ∈ cl.map (·.2), H' c = none) -> E C dd (A0k (cl.map (·.2)) H H')) -> sp H Q E -> Z6 (cl.map (·.2)) H ->
     ∃ t, PE (C7f (CX1 P w) P w K mg base (cl.map (·.1)) qual scope f cdv cl A outer s (Y2 (cl.map (·.2)) H) (fun C d H' => (∀ c ∈ cl.map (·.2), H' c = none) -> E C d (A0k (cl.map (·.2)) H H'))) body t /\ t (vs.map some) (Y2 (cl.map (·.2)) H) (fun v H' => (∀ c ∈ cl.map (·.2), H' c = none) -> Q v (A0k (cl.map (·.2)) H H'))) :
   C0k P w K mg base (k + 1) f (LamJ f qual params body scope cl vs) sp := by
 refine ⟨fun H h ⟨⟨pm, c', ctv, oc, e, _⟩, _⟩ hok => ?_, fun A outer s H Q E hr e0 ⟨⟨pm, c', ctv, oc, e, ec, vs', t', hd, hv⟩, hk⟩ hsp => ?_⟩
 . obtain ⟨e1, _⟩ := hok f _ e
   exact ⟨_, _, _, _, e1⟩
 obtain ⟨e1, _⟩ := e0.hok f _ e
 obtain ⟨e2, _⟩ := e0.hok c' _ ec
 have lim : s.heap.NoLimit := e0.mod.nolimit.keeps fun b o e => (e0.bs b o e).1
 have af : Z6 (cl.map (·.2)) H := by
   intro c hc
   obtain ⟨⟨x, c2⟩, hm, rfl⟩ := List.mem_map.mp hc
   obtain ⟨i, hi⟩ := List.mem_iff_getElem?.mp hm
   obtain ⟨v, _, o, u, h3, _⟩ := hk i x c2 hi
   exact ⟨o, h3⟩
 refine kla_callFunE hr.depth e1 rfl S.co S.gen rfl ⟨c', oc, vs', t', rfl, e2, hd, hv⟩ ?_
 rw [hb0]
 refine wpAny_pure (wpAny_newFunctionEnv S.nocell (fun x hx => absurd hx (by simp)) (fun h1 hns hsb => ?_) S.kind)
 have hk1 : ∀ b o, s.heap.get? b = some o -> h1.get? b = some o := fun b o e => (hsb.2 b (Nat.ne_of_lt (Heap.lt_size e))).trans (Heap.get?_push_of_some _ e)
 refine ⟨lim.keeps hk1, ?_⟩
 obtain ⟨t, ht, hq⟩ := hbody _ (.ref c') A outer s H Q E rfl (hr.deeper _) J0n hsp af
 have hokH : HOk P w (Y2 (cl.map (·.2)) H) s.heap := e0.hok.hide af
 have look : ∀ x c, cl.lookup x = some c -> (x, c) ∈ cl := fun x c z => PySem.mem_of_lookup z
 have cell : ∀ x c, cl.lookup x = some c -> ∃ v, s.heap.IsCell c v := fun x c z => by
   obtain ⟨i, hi⟩ := List.mem_iff_getElem?.mp (look x c z)
   obtain ⟨v, _, o, u, h3, h4, _⟩ := hk i x c hi
   exact ⟨_, o, (e0.hok c _ h3).1, h4⟩
 have incs : ∀ x c, cl.lookup x = some c -> c ∈ cl.map (·.2) := fun x c z => List.mem_map.mpr ⟨(x, c), look x c z, rfl⟩
 generalize hX : C7f (CX1 P w) P w K mg base (cl.map (·.1)) qual scope f (.ref c') cl A outer s (Y2 (cl.map (·.2)) H) (fun C d H' => (∀ c ∈ cl.map (·.2), H' c = none) -> E C d (A0k (cl.map (·.2)) H H')) = X at ht
 have I : Inv X [] (vs.map some) (Y2 (cl.map (·.2)) H) { s with heap := h1, toks := s.toks + 0 } := by
   subst hX
   refine ⟨⟨e0.mod, S.kind, rfl, rfl, Nat.le_refl _, fun x y c z1 z2 => V8q hnd (look x c z1) (look y c z2), fun x z => ?_, (fun _ _ z => by cases z), fun _ => hr.hd, Around.frames_deeper e0.frames, .inr ⟨rfl, rfl⟩, (fun b z => absurd (show b ∈ ([] : List Addr) from z) (by simp)), fun b o z => ⟨(e0.bs b o z).1, ?_⟩, e0.bsz, (fun b o _ z => absurd (show b ∈ ([] : List Addr) from z) (by simp)), (fun b z => absurd (show b ∈ ([] : List Addr) from z) (by simp)), e0.funs, fun b hb => ?_⟩,
     rfl, e0.bare, Un.kept hk1, ⟨_, hns, fun i x v z1 z2 z3 => ?_⟩, fun x c z => ?_, hokH.fresh (Nat.le_refl _), fun x c z => B8q (incs x c z), (fun p hp => absurd (show p ∈ ([] : List (Addr × Obj)) from hp) (by simp)), hokH.kept hk1, ?_⟩
   . have z : scope.names.lookup x = some .cell \/ scope.names.lookup x = some .free := z
     rcases z with z | z
     . exact absurd rfl (S.nocell _ (PySem.mem_of_lookup z))
     . have hx := S.fr _ (PySem.mem_of_lookup z) rfl
       obtain ⟨⟨y, c⟩, hm, rfl⟩ := List.mem_map.mp hx
       obtain ⟨i, hi⟩ := List.mem_iff_getElem?.mp hm
       exact ⟨c, C0a S.nd hi⟩
   . exact B4q (e0.bs b o z).2
   . exact B4q (e0.frf b hb)
   . have z1 : (cl.map (·.1))[i]? = some x := z1
     rw [List.getElem?_map] at z1 z2
     cases q : cl[i]? with
     | none => rw [q] at z1; cases z1
     | some p =>
       rw [q] at z1
       cases z1
       obtain ⟨v2, h2, o, u, h3, h4, h5⟩ := hk i p.1 p.2 q
       rw [h2] at z2
       cases z2
       refine ⟨u, h5, .inr ⟨.inr (S.at_ _ (List.mem_map.mpr ⟨p, List.mem_of_getElem? q, rfl⟩)), p.2, C0a S.nd q, o, hk1 _ _ (e0.hok _ _ h3).1, h4⟩⟩
   . obtain ⟨v, o, h3, h4⟩ := cell x c z
     exact ⟨v, o, hk1 _ _ h3, h4⟩
   . show (vs.map some).length = (cl.map (·.1)).length
     rw [List.length_map, List.length_map, hF]
 have res : ∀ {H' : Hp} {s' : Shared}, Un (frs outer) [] (Y2 (cl.map (·.2)) H) H' s.heap s'.heap -> HOk P w H' s'.heap -> Un (frs outer) [] H (A0k (cl.map (·.2)) H H') s.heap s'.heap /\ HOk P w (A0k (cl.map (·.2)) H H') s'.heap /\ ∀ c ∈ cl.map (·.2), H' c = none :=
   fun u x => ⟨Z6f u af, Y0s u af e0.hok x e0.frf, U8m u af e0.hok⟩
 refine kla_codeExpr ?_
 have hA : X.A = A.deeper (envX qual scope s.heap.objs.size f (.ref c') cl) := by rw [<- hX]; rfl
 have := ht [] _ _ _ _ I hq
 subst hX
 refine wpAny_mono this (fun u s' ⟨v, H', I', r, q⟩ => ?_) fun e s' z => wpAny_mono z (fun _ s2 z2 => ?_) fun e' s2 z2 => ?_
 . obtain ⟨r1, r2, r3⟩ := res I'.base I'.hok
   exact ⟨v, _, I'.os, I'.bare, r1, r2, r, q r3⟩
 . obtain ⟨a, t, C, dd, H', rfl, os, bare, un, hok, hE, ⟨a1, a2⟩, T, oT, ts, z, ne, ⟨t1, t2⟩, rest⟩ := z2
   obtain ⟨r1, r2, r3⟩ := res un hok
   have nc : ∀ b, s.heap.get? b = none -> b ∉ cl.map (·.2) := fun b z hb => by
     obtain ⟨o, q⟩ := af b hb
     rw [(e0.hok b _ q).1] at z
     cases z
   exact ⟨a, t, C, dd, _, rfl, os, bare, r1, r2, hE r3, ⟨a1, by rw [Y4 (nc a a1)]; exact a2⟩, T, oT, ts, z, ne, ⟨t1, by rw [Y4 (nc T t1)]; exact t2⟩, rest⟩
 obtain ⟨a, t, C, dd, H', rfl, os, bare, un, hok, hE, ⟨a1, a2⟩, T, oT, ts, z, ne, ⟨t1, t2⟩, rest⟩ := z2
 obtain ⟨r1, r2, r3⟩ := res un hok
 have nc : ∀ b, s.heap.get? b = none -> b ∉ cl.map (·.2) := fun b z hb => by
   obtain ⟨o, q⟩ := af b hb
   rw [(e0.hok b _ q).1] at z
   cases z
 exact ⟨a, t, C, dd, _, rfl, os, bare, r1, r2, hE r3, ⟨a1, by rw [Y4 (nc a a1)]; exact a2⟩, T, oT, ts, z, ne, ⟨t1, by rw [Y4 (nc T t1)]; exact t2⟩, rest⟩
section
variable {X : Cx} {j k : Nat} {f : Addr} {fd : FuncData} {ps : List Str} {sp : Sp} {ds : List Value} {EH : EK} {x : Str} {p pos : Pos} {e : Expr} {es : List Expr} {t : TA} {st : Stmt}
def A0dc (P : Program) (w : World) (K : Frag) (mg : Str -> Option Value) (base : Heap) (k i : Nat) (EH : EK) : TE := fun σ H Q => ∃ f J spd, σ[i]? = some (some (.ref f)) /\ C0k P w K mg base k f J spd /\ J H /\ spd H Q (fun C d H' => EH C d σ H')
theorem Z6s {i : Nat} (hN : X.N[i]? = some x) (hv : Vis X.env.scope x) (hr : Z1 k X.A) (hx : G7 X EH) (hex : X.ex = [] := by rfl) (hd : (x == ("__debug__" : Str)) = false := by decide) (hcd : (x == ("__classdict__" : Str)) = false := by decide) :
   PE X (.Call (.Name x p) [] [] pos) (A0dc X.prog X.w X.K X.mg X.base k i EH) := by
 intro pins s σ H Q I ⟨f, J, spd, e, D, hJ, h⟩
 refine wpAny_Call_Name_kw (thn (V9s (pos := p) hN hv hd hcd pins s σ H (fun v H' => v = .ref f /\ H' = H) I ⟨.ref f, e, rfl, rfl⟩) fun u s1 ⟨v, H1, I1, r, ev, eH⟩ => ?_)
 subst ev eH
 obtain rfl : u = Value.ref f := r
 refine callWith_F0 (D.fn _ _ hJ I1.hok) (wpAny_call (codeAny_mono (D.run X.A X.stack s1 H1 Q _ hr I1.env0 hJ h) fun r s' hq => ?_))
 cases r with
 | error e => exact Z9d hx hex I1 hq
 | ok fl =>
   cases fl with
   | ret u => exact I1.after hq
   | next => exact False.elim hq
   | brk => exact False.elim hq
   | cont => exact False.elim hq
def A0ee (sp : Sp) (cl : List (Str × Addr)) (js : List Nat) (EH : EK) (t : TA) : TE := fun σ H Q => t σ H fun vs H1 => (∀ c ∈ cl.map (·.2), H1 c = none) -> ∀ H2, (∀ b, b ∉ cl.map (·.2) -> H2 b = H1 b) -> Z6 (cl.map (·.2)) H2 ->
 (∀ (i : Nat) (x : Str) (c : Addr) (j : Nat) (v : V), cl[i]? = some (x, c) -> js[i]? = some j -> σ[j]? = some (some v) -> D7r H2 c v) ->
 sp vs H2 (fun v H' => (∀ c ∈ cl.map (·.2), H' c = H2 c) -> Q v (Y2 (cl.map (·.2)) H')) (fun C d H' => (∀ c ∈ cl.map (·.2), H' c = H2 c) -> EH C d σ (Y2 (cl.map (·.2)) H'))
structure Y1x (cl : List (Str × Addr)) (js : List Nat) (XN : List Str) (env : Env) : Prop where
 at_ : ∀ (i : Nat) (x : Str) (c : Addr), cl[i]? = some (x, c) -> env.cells.lookup x = some c /\ env.kindOf x = some .cell /\ ∀ j, js[i]? = some j -> XN[j]? = some x
theorem A0fw {cl : List (Str × Addr)} {js : List Nat} (D : Def X.K X.mg x ps st f fd) (F : B1k X.prog X.w X.K X.mg X.base (CX1 X.prog X.w) j f fd ps sp) (hgd : X.A.guards = some []) (hr : Z1 k X.A) (hx : G7 X EH) (Z : Y1x cl js X.N X.env) (ha : PA X (e :: es) t) (hj : j <= k := by decide) (hfn : ∀ y, X.fn y = true := by intro _; rfl) (hg : Gl X x := by rfl) (hex : X.ex = [] := by rfl)
   (hdb : (x == ("__debug__" : Str)) = false := by decide) (he : starEach (e :: es) X.env = (false, eval e X.env) :: starEach es X.env := by rfl) (hpl : (backTo pos (starEach es X.env)).any (·.1) = false := by rfl) : PE X (.Call (.Name x p) (e :: es) [] pos) (A0ee sp cl js EH t) := by
 intro pins s0 σ H0 Q I0 h0
 refine wpAny_Call_Name_kw (A2j I0 hg D.g ?_ hdb)
 refine PySem.W.callWith_K (h₀ := X.base) I0.ok.mod.kin D.F.kp (thn (ha pos pins s0 σ H0 _ I0 h0) fun us s ⟨vs, H, I, r, q⟩ => ⟨I.kIn, ?_⟩) he hpl
 have inn : ∀ c ∈ cl.map (·.2), ∃ x, X.env.cells.lookup x = some c := fun c hc => by
   obtain ⟨⟨y, c2⟩, hm, rfl⟩ := List.mem_map.mp hc
   obtain ⟨i, hi⟩ := List.mem_iff_getElem?.mp hm
   exact ⟨y, (Z.at_ i y c2 hi).1⟩
 have hn : ∀ c ∈ cl.map (·.2), H c = none := fun c hc => by
   obtain ⟨y, hy⟩ := inn c hc
   exact I.freeC y c hy
 have hc : ∀ c ∈ cl.map (·.2), ∃ o v, s.heap.get? c = some o /\ o.data = .cell v := fun c hc => by
   obtain ⟨y, hy⟩ := inn c hc
   obtain ⟨v, o, h1, h2⟩ := I.cell y c hy
   exact ⟨o, v, h1, h2⟩
 let H2 : Hp := fun b => if b ∈ cl.map (·.2) then (s.heap.get? b).map fun o => .frz o (.own b) else H b
 have h2i : ∀ c o, c ∈ cl.map (·.2) -> s.heap.get? c = some o -> H2 c = some (.frz o (.own c)) := fun c o hc e => by
   show (if c ∈ cl.map (·.2) then _ else _) = _
   rw [if_pos hc, e]
   rfl
 have h2o : ∀ b, b ∉ cl.map (·.2) -> H2 b = H b := fun b hb => if_neg hb
 have A2 : Z6 (cl.map (·.2)) H2 := fun c hcc => by
   obtain ⟨o, v, h1, _⟩ := hc c hcc
   exact ⟨o, h2i c o hcc h1⟩
 have out : ∀ b u, H b = some u -> b ∉ cl.map (·.2) := fun b u e z => by rw [hn b z] at e; cases e
 have hok2 : HOk X.prog X.w H2 s.heap := fun b u e => by
   by_cases hb : b ∈ cl.map (·.2)
   . obtain ⟨o, v, h1, _⟩ := hc b hb
     rw [h2i b o hb h1] at e
     cases e
     exact ⟨h1, o, h1⟩
   . rw [h2o b hb] at e
     exact (I.hok b u e).stay (fun _ _ _ q => q) (fun d q => by rw [h2o d (out d _ q)]; exact q) fun d xs q => by rw [h2o d (out d _ q)]; exact q
 have ncell : ∀ b o, b ∈ cl.map (·.2) -> s.heap.get? b = some o -> ∃ v, o.data = .cell v := fun b o hb e => by
   obtain ⟨o', v, h1, h2⟩ := hc b hb
   rw [e] at h1
   cases h1
   exact ⟨v, h2⟩
 have e2 : D2x X.prog X.w X.K X.mg X.base X.A X.stack s H2 := by
   have e0 := I.env0
   refine ⟨e0.frames, e0.mod, fun b o z => ⟨(e0.bs b o z).1, ?_⟩, e0.bsz, e0.funs, fun b hb => ?_, hok2, e0.bare⟩
   . rw [h2o b fun z2 => ?_]
     . exact (e0.bs b o z).2
     . obtain ⟨y, hy⟩ := inn b z2
       have := Nat.le_trans I.ok.bsz (I.ok.cab y b (hfn y) hy)
       exact absurd (Nat.lt_of_lt_of_le (Heap.lt_size z) this) (Nat.lt_irrefl _)
   . rw [h2o b fun z2 => ?_]
     . exact e0.frf b hb
     . obtain ⟨y, hy⟩ := inn b z2
       rcases List.mem_cons.mp (I.stkSub b hb) with z3 | z3
       . exact I.cne y b hy z3
       . obtain ⟨_, o, ho, _⟩ := I.ok.funs.mem z3
         exact absurd (Nat.lt_of_lt_of_le (Heap.lt_size ho) (I.ok.cab y b (hfn y) hy)) (Nat.lt_irrefl _)
 have q2 := q hn H2 h2o A2 fun i y c j v h1 h2 h3 => by
   obtain ⟨z1, z2, z3⟩ := Z.at_ i y c h1
   obtain ⟨m, _, hl⟩ := I.loc
   obtain ⟨u, r, l⟩ := hl j y v (z3 j h2) h3 (.inr (.inl z2))
   rcases l with ⟨k, _⟩ | ⟨_, c', h4, o, h5, h6⟩
   . rw [z2] at k; cases k
   . rw [z1] at h4
     cases h4
     exact ⟨o, u, h2i c o (List.mem_map.mpr ⟨(y, c), List.mem_of_getElem? h1, rfl⟩) h5, h6, r⟩
 have hl : us.length = ps.length := by rw [<- r.length]; exact F.len _ _ _ _ q2
 refine wpAny_call (codeAny_mono (F.run X.A X.stack s H2 ⟨us, []⟩ us vs _ _ hgd (hr.mono hj) e2 (by have := D.b s us I.kIn (by simpa using hl); simpa using this) r q2) fun r s' hq => ?_)
 have fin : ∀ {H' : Hp}, Un (frs X.stack) [] H2 H' s.heap s'.heap -> HOk X.prog X.w H' s'.heap -> Un (frs X.stack) [] H (Y2 (cl.map (·.2)) H') s.heap s'.heap /\ HOk X.prog X.w (Y2 (cl.map (·.2)) H') s'.heap /\ ∀ c ∈ cl.map (·.2), H' c = H2 c := fun {H'} un hok => by
   have same : ∀ c ∈ cl.map (·.2), H' c = H2 c := fun c hcc => by
     obtain ⟨o, z⟩ := A2 c hcc
     rw [z]
     exact un.frzs c o _ z
   exact ⟨Z8z un A2 h2o hn hok2 hok, hok.hide fun c hcc => by rw [same c hcc]; exact A2 c hcc, same⟩
 cases r with
 | error e =>
   obtain ⟨a, t, C, dd, H', rfl, os, bare, un, hok, hE, ⟨a1, a2⟩, T, oT, ts, z, ne, ⟨t1, t2⟩, rest⟩ := hq
   obtain ⟨r1, r2, r3⟩ := fin un hok
   exact Z9d hx hex I ⟨a, t, C, dd, _, rfl, os, bare, r1, r2, hE r3, ⟨a1, B4q a2⟩, T, oT, ts, z, ne, ⟨t1, B4q t2⟩, rest⟩
 | ok fl =>
   cases fl with
   | ret u =>
     obtain ⟨v, H', os, bare, un, hok, rv, q3⟩ := hq
     obtain ⟨r1, r2, r3⟩ := fin un hok
     exact I.after ⟨v, _, os, bare, r1, r2, rv, q3 r3⟩
   | next => exact False.elim hq
   | brk => exact False.elim hq
   | cont => exact False.elim hq
end
theorem V0y {c P0 : Addr} {P : Program} {w : World} {K : PySem.W.Frag} {mg mb : Str -> Option Value} {CX : CXT} {k : Nat} {fa a : Addr} {fd : FuncData} {x : Str} {sp : Sp} {s₁ : Shared} {vs : List Value} {ns : List Int}
   (hC : CodeHd s₁.heap c P0) (hT : s₁.heap.get? P0 = some (tabObj #[])) (hKP : K.lookup P0 = none) (hbm : ∃ bm ob, mg "__builtins__" = some (.ref bm) /\ bm ≠ builtinsNs /\ s₁.heap.get? bm = some ob /\ ob.cls = .type "module" /\ ob.dict = some builtinsNs /\ ob.data = .plain)
   (KX : K.In s₁.heap) (hns : s₁.heap.Ns mainGlobals mg) (hb : s₁.heap.Ns builtinsNs mb) (hbb : ∀ x : Str, x ≠ "__name__" -> mb x = bootBuiltins x) (hlim : s₁.heap.NoLimit) (hg : s₁.gens = #[])
   (ha : s₁.heap.get? a = some { cls := .type "list", data := .seq vs.toArray }) (hi : IntsAre vs ns) (hl : ns.length <= sizeLine) (hr : Z1 k callerA)
   (F : ∀ base : Heap, K.In base -> base.Ns mainGlobals mg -> J8m mg base c P0 -> B1k P w K mg base CX k fa fd [x] sp) (hbind : ∀ (s : Shared) (u : Value), BindsTo s fd ⟨[u], []⟩ [(x, u)])
   (hsp : ∀ H : Hp, H P0 = some (.tbl #[]) -> SqL K H a (ns.map V.int) -> sp [.ref a] H (fun v _ => v = .bl true) fun _ _ _ => False)
   (hCX : ∀ H e s', CX [] H s₁ (fun _ _ _ => False) e s' -> False) :
   codeAny (model P w) callerA (.call (.ref fa) ⟨[.ref a], []⟩) (fun r s' => r = .ok (.ret (.bool true)) /\ OldK s₁.heap s'.heap /\ s'.os = s₁.os /\ AllBare s'.gens) s₁ := by
 have rv := D7j hi
 have lenV := hi.length
 have core : ∀ H : Hp, H P0 = some (.tbl #[]) -> (∀ b, H b = none \/ b = P0 \/ ∃ o xs, H b = some (.frz o (.lst xs))) -> SqL K H a (ns.map V.int) -> HOk P w H s₁.heap -> (∀ b, H b ≠ none -> b = P0 \/ b = a) -> (H a ≠ none -> K.lookup a = none) ->
     codeAny (model P w) callerA (.call (.ref fa) ⟨[.ref a], []⟩) (fun r s' => r = .ok (.ret (.bool true)) /\ OldK s₁.heap s'.heap /\ s'.os = s₁.os /\ AllBare s'.gens) s₁ := by
   intro H hPt hO hS hok hA hK
   have base_of : ∀ {b : Addr} {o : Obj}, s₁.heap.get? b = some o -> H b = none -> (D2t s₁.heap H).get? b = some o := fun e n => V9x e n
   have noA : ∀ {b : Addr} {o : Obj} {es : Array DictEntry} {ep : Nat}, s₁.heap.get? b = some o -> o.data = .dict es ep -> H b = none := fun {b o es ep} e d => by
     cases q : H b with
     | none => rfl
     | some u =>
       rcases hA b (by rw [q]; simp) with e' | e'
       . subst e'
         rw [hT] at e; cases e
         have d' : Data.fields #[] = Data.dict es ep := d
         cases d'
       . subst e'
         rw [ha] at e; cases e
         have d' : Data.seq vs.toArray _ = Data.dict es ep := d
         cases d'
   have nsK : ∀ {b : Addr} {m : Str -> Option Value}, s₁.heap.Ns b m -> (D2t s₁.heap H).Ns b m := fun {b m} ⟨o, es, ep, e, d, r⟩ => ⟨o, es, ep, base_of e (noA e d), d, r⟩
   have hKb : K.In (D2t s₁.heap H) := fun b o e => base_of (KX b o e) (by
     cases q : H b with
     | none => rfl
     | some u =>
       rcases hA b (by rw [q]; simp) with e' | e'
       . subst e'
         rw [hKP] at e; cases e
       . subst e'
         rw [hK (by rw [q]; simp)] at e; cases e)
   have noC : ∀ {b : Addr} {o : Obj}, s₁.heap.get? b = some o -> o ≠ tabObj #[] -> (∀ n, o ≠ { cls := .type "list", data := .seq vs.toArray n }) -> H b = none := fun {b o} e n1 n2 => by
     cases q : H b with
     | none => rfl
     | some u =>
       rcases hA b (by rw [q]; simp) with e' | e'
       . subst e'
         rw [hT] at e; cases e
         exact absurd rfl n1
       . subst e'
         rw [ha] at e; cases e
         exact absurd rfl (n2 _)
   have hLB : J8m mg (D2t s₁.heap H) c P0 := by
     refine ⟨?_, ?_⟩
     . obtain ⟨o, vs1, file, tf, flags, tg, inF, text, tt, e1, r1, r2⟩ := hC
       exact ⟨o, vs1, file, tf, flags, tg, inF, text, tt, base_of e1 (noC e1 (fun z => by rw [z] at r1; cases r1) fun n z => by rw [z] at r1; exact absurd (Value.type.inj r1) (by decide)), r1, r2⟩
     . obtain ⟨bm, ob, b1, b2, b3, b4, b5, b6⟩ := hbm
       refine ⟨bm, ob, b1, b2, ?_, base_of b3 (noC b3 (fun z => by rw [z] at b4; cases b4) fun n z => by rw [z] at b4; exact absurd (Value.type.inj b4) (by decide)), b4, b5, b6⟩
       rintro rfl
       obtain ⟨o, es, ep, e, d, _⟩ := hns
       rw [b3] at e; cases e
       rw [b6] at d; cases d
   have hM : Mod K mg (D2t s₁.heap H) := ⟨hKb, nsK hns, ⟨mb, nsK hb, hbb⟩, let ⟨mc, h1, h2⟩ := hlim; ⟨mc, nsK h1, h2⟩⟩
   have e0 : D2x P w K mg (D2t s₁.heap H) callerA [] s₁ H := ⟨rfl, hM, fun b o e => Z5y e, Nat.le_of_eq (V2w _ _), trivial, fun b hb => absurd (show b ∈ ([] : List Addr) from hb) (by simp), hok, .of_eq hg⟩
   refine codeAny_mono ((F _ hKb (nsK hns) hLB).run callerA [] s₁ H ⟨[.ref a], []⟩ [.ref a] [.ref a] _ _ rfl hr e0 (hbind s₁ (.ref a)) (.cons rfl .nil) (hsp H hPt hS)) fun r s' h => ?_
   cases r with
   | error e => exact (hCX H e s' h).elim
   | ok fl =>
     cases fl with
     | next => exact False.elim h
     | brk => exact False.elim h
     | cont => exact False.elim h
     | ret u =>
       obtain ⟨v, H', os, bare, un, hok', r', q⟩ := h
       have q' : v = .bl true := q
       subst q'
       obtain rfl : u = Value.bool true := r'
       obtain ⟨more, hm⟩ := un.tbls P0 _ hPt
       have hP' : s'.heap.get? P0 = some (tabObj (#[] ++ more)) := hok' P0 _ hm
       have kp : ∀ b o, b ≠ P0 -> s₁.heap.get? b = some o -> s'.heap.get? b = some o := fun b o nb e => ?_
       refine ⟨rfl, ⟨fun b o e => ?_, fun b o e => ?_⟩, os, bare⟩
       . by_cases hb : b = P0
         . subst hb
           rw [hT] at e
           cases e
           exact .inr (.inl ⟨(hC.tab hT).isCodeTable, rfl, #[], more, rfl, hP'⟩)
         . exact .inl (kp b o hb e)
       . by_cases hb : b = P0
         . exact ⟨_, by rw [hb]; exact hP'⟩
         . exact ⟨o, kp b o hb e⟩
       cases q : H b with
       | none => exact un.keep b o e q (by intro z; exact absurd (show b ∈ ([] : List Addr) from z) (by simp)) (by simp)
       | some u =>
         rcases hO b with z | z | ⟨ob, xs, z⟩
         . rw [q] at z; cases z
         . exact absurd z nb
         . have z2 := un.frzs b ob _ z
           obtain ⟨e1, _⟩ := hok b _ z
           obtain ⟨e2, _⟩ := hok' b _ z2
           rw [e] at e1; cases e1
           exact e2
 have nPa : P0 ≠ a := fun z => by rw [z, ha] at hT; cases hT
 cases hk : K.lookup a with
 | some o =>
   have e := KX a o hk
   rw [ha] at e
   cases e
   refine core (fun b => if b = P0 then some (.tbl #[]) else none) (if_pos rfl) (fun b => ?_) (.inr ⟨_, vs.toArray, _, hk, rfl, rfl, rfl, by rw [List.size_toArray, lenV]; exact hl, by simpa using rv⟩) (fun b u z => ?_) (fun b z => ?_) fun z => absurd (if_neg nPa.symm) z
   . by_cases hb : b = P0
     . exact .inr (.inl hb)
     . exact .inl (if_neg hb)
   . by_cases hb : b = P0
     . have z' := (if_pos hb).symm.trans z
       cases z'
       subst hb
       exact hT
     . have z' := (if_neg hb).symm.trans z
       cases z'
   . by_cases hb : b = P0
     . exact .inl hb
     . exact absurd (if_neg hb) z
 | none =>
   refine core (fun b => if b = P0 then some (.tbl #[]) else if b = a then some (.frz { cls := .type "list", data := .seq vs.toArray } (.lst (ns.map V.int))) else none) (if_pos rfl) (fun b => ?_) (.inl (.inr ⟨{ cls := .type "list", data := .seq vs.toArray }, (if_neg nPa.symm).trans (if_pos rfl)⟩)) (fun b u z => ?_) (fun b z => ?_) fun _ => hk
   . by_cases hp : b = P0
     . exact .inr (.inl hp)
     . by_cases hb : b = a
       . exact .inr (.inr ⟨_, _, (if_neg hp).trans (if_pos hb)⟩)
       . exact .inl ((if_neg hp).trans (if_neg hb))
   . by_cases hp : b = P0
     . have z' := (if_pos hp).symm.trans z
       cases z'
       subst hp
       exact hT
     . by_cases hb : b = a
       . have z' := ((if_neg hp).trans (if_pos hb)).symm.trans z
         cases z'
         subst hb
         exact ⟨ha, by rw [List.length_map]; exact hl, vs, _, rv, ha⟩
       . have z' := ((if_neg hp).trans (if_neg hb)).symm.trans z
         cases z'
   . by_cases hp : b = P0
     . exact .inl hp
     . by_cases hb : b = a
       . exact .inr hb
       . exact absurd ((if_neg hp).trans (if_neg hb)) z
theorem walk_ofL {c P0 : Addr} {l : PySem.W.OpenLaw} {n k : Nat} {q : Program} {loose : List Str} {XP : (Str -> Option Value) -> Heap -> Prop} {YP : World -> Heap -> Prop} {d : DefRec} {K : Params -> PySem.W.Frag} {CX : World -> CXT} {sp : World -> Sp} {x : Str}
   (hn : l.most = some n) (hn2 : n <= sizeLine) (hdf : d.params.defaults = []) (hr : Z1 k callerA)
   (hY : ∀ (w : World) (h : Heap), YP w h -> (K w.params).In h /\ CodeHd h c P0 /\ h.get? P0 = some (tabObj #[])) (hKP : ∀ p, (K p).lookup P0 = none)
   (F : ∀ (w : World) (mg : Str -> Option Value) (fa : Addr) (h : Heap), (K w.params).In h -> h.Ns mainGlobals mg -> mg d.name = some (.ref fa) ->
     ∃ fd : FuncData, (∀ (s : Shared) (u : Value), BindsTo s fd ⟨[u], []⟩ [(x, u)]) /\
       ∀ base : Heap, (K w.params).In base -> base.Ns mainGlobals mg -> J8m mg base c P0 -> B1k l.prog w (K w.params) mg base (CX w) k fa fd [x] (sp w))
   (hsp : ∀ (w : World) (H : Hp) (a : Addr) (ns : List Int), ns.length <= n -> H P0 = some (.tbl #[]) -> SqL (K w.params) H a (ns.map V.int) -> sp w [.ref a] H (fun v _ => v = .bl true) fun _ _ _ => False)
   (hCX : ∀ (w : World) (H : Hp) (s : Shared) (e : Value) (s' : Shared), CX w [] H s (fun _ _ _ => False) e s' -> False) :
   PySem.W.WalkO q loose XP YP l.row.toRowW d [] (fun f vs => PySem.call f vs) := by
 refine Att.attach_call hn hdf fun w s₀ s₁ mg mb fa o pm cd doc a vs ns G Y ho hd hcd hmg hobj hints hlen hg => ?_
 obtain ⟨KX, hC, hT⟩ := hY w _ Y
 obtain ⟨fd, hb, hF⟩ := F w mg fa _ KX G.T.g hmg
 exact V0y hC hT (hKP _) G.T.bmain KX G.T.g G.T.b G.T.builtins G.T.nolimit hg hobj hints (Nat.le_trans hlen hn2) hr hF hb (fun H hO hS => hsp w H a ns hlen hO hS) fun H e s' => hCX w H s₁ e s'
section
variable {X : Cx}
theorem D7h (hg : X.A.guards = some []) (hu : X.A.units + 64 < cLine) : A4v X (.type "str") (fun xs H Q => ∃ a d, xs = [.ref a] /\ RdR H (.ref a) d /\ A0r d /\ Q (.str d.shown) H) := by
 intro pins s σ H xs us Q I r h
 obtain ⟨a, d, rfl, hv, ⟨sh, dp, ln⟩, q⟩ := h
 obtain ⟨u, rfl, ru⟩ := U0.one r
 obtain ⟨as, z, ny⟩ := hv.reads I ru
 cases ru
 exact str_of_reads z sh (fun _ => ny) hg (by omega) (fun b o e => e) (fun h' u tk k => ⟨.str d.shown, H, I.kept k, ⟨u, rfl⟩, q⟩) ln
end
def J0f (H H' : Hp) : Prop := ∀ b o, (∀ ps, o ≠ .tbl ps) -> H b = some o -> H' b = some o
theorem V0b.keep {P : Addr} {ps : Array Value} {H H' : Hp} (s : V0b P H H') (h : H P = some (.tbl ps)) : J0f H H' := fun b o n e => s b o (fun z => by rw [z, h] at e; exact n ps (Option.some.inj e).symm) e
theorem A6r.same {P : Addr} {pos : Pos} {q : Str} {H H' : Hp} (h : A6r P pos q H) (s : ∀ b o, H b = some o -> H' b = some o) : A6r P pos q H' := by
 obtain ⟨ps, e, t, c⟩ := h
 exact ⟨ps, s _ _ e, t, c.imp id fun ⟨c', oc, a, b, d⟩ => ⟨c', oc, a, s _ _ b, d⟩⟩
theorem A6r.at {P : Addr} {pos : Pos} {q : Str} {H H' : Hp} (h : A6r P pos q H) (s : ∀ b o, H b = some o -> (b = P \/ ∃ oc, o = .frz oc (.own b)) -> H' b = some o) : A6r P pos q H' := by
 obtain ⟨ps, e, t, c⟩ := h
 exact ⟨ps, s _ _ e (.inl rfl), t, c.imp id fun ⟨c', oc, a, b, d⟩ => ⟨c', oc, a, s _ _ b (.inr ⟨oc, rfl⟩), d⟩⟩
theorem Z6d {P : Addr} {pos : Pos} {q : Str} {H : Hp} (h : H P = some (.tbl #[])) : A6r P pos q H := ⟨#[], h, trivial, .inl rfl⟩
theorem SqL.kept {K : Frag} {H H' : Hp} {a : Addr} {xs : List V} (h : SqL K H a xs) (s : ∀ o, H a = some o -> (o = .lst xs \/ ∃ oc, o = .frz oc (.lst xs)) -> H' a = some o) : SqL K H' a xs := by
 rcases h with (h | ⟨o, h⟩) | h
 . exact .inl (.inl (s _ h (.inl rfl)))
 . exact .inl (.inr ⟨o, s _ h (.inr ⟨o, rfl⟩)⟩)
 exact .inr h
theorem Fun.okEL {P : Program} {w : World} {K : Frag} {mg : Str -> Option Value} {base : Heap} {x qual : Str} {st : Stmt} {f c : Addr} {fd : FuncData} {N ps : List Str} {k : Nat} {sp : Sp} (F : Fun K x qual st f fd) (hc0 : fd.code = .ref c) (S : B9 N ps (A1 st)) (len : ∀ vs H Q E, sp vs H Q E -> vs.length = ps.length)
   (hbody : ∀ (X : Cx) (A : Around) (outer : List Env) (s : Shared) (H : Hp) (vs : List V) (Q : VK) (E : XK), X = A0w (CX1 P w) P w K mg base N qual (A1 st) f (.ref c) A outer s H E -> X.A.guards = some [] -> Z1 k X.A -> G7 X (fun C dd _ H' => E C dd H') -> sp vs H Q E ->
     ∃ t, PSs (A0w (CX1 P w) P w K mg base N qual (A1 st) f (.ref c) A outer s H E) (B1 st) t /\ t { nx := fun _ H' => Q .non H', rt := Q } (A4q N vs) H) : B1k P w K mg base (CX1 P w) (k + 1) f fd ps sp := by
 obtain ⟨oc, od, kV, doc, pm, an, cdv, ct, osl, rfl, lk, hc⟩ := F.ex
 obtain rfl : cdv = .ref c := hc0
 exact V9d lk hc S len fun A outer s H vs Q E hg hr h => hbody _ A outer s H vs Q E rfl hg hr A7v h
theorem Z9b {P : Program} {w : World} {K : Frag} {mg : Str -> Option Value} {base : Heap} {k : Nat} {f : Addr} {qual : Str} {params : Arguments} {body : Expr} {scope : Scope} {cl : List (Str × Addr)} {vs : List V} {sp : Hp -> VK -> XK -> Prop} {H0 : Hp} (la : C8y H0 f qual params body scope cl)
   (S : LamS (cl.map (·.1)) scope) (hF : cl.length = vs.length) (hnd : (cl.map (·.2)).Nodup)
   (hb0 : ∀ (pm : Value) (c' : Addr) (ctv : Value), bindArgs (kla_fn "<lambda>" qual params body scope cl pm (.ref c') ctv) ⟨[], []⟩ = pure [])
   (hbody : ∀ (X : Cx) (cdv : Value) (A : Around) (outer : List Env) (s : Shared) (H : Hp) (Q : VK) (E : XK), X = C7f (CX1 P w) P w K mg base (cl.map (·.1)) qual scope f cdv cl A outer s (Y2 (cl.map (·.2)) H) (fun C d H' => (∀ c ∈ cl.map (·.2), H' c = none) -> E C d (A0k (cl.map (·.2)) H H')) -> Z1 k X.A ->
     G7 X (fun C dd _ H' => (∀ c ∈ cl.map (·.2), H' c = none) -> E C dd (A0k (cl.map (·.2)) H H')) -> sp H Q E -> Z6 (cl.map (·.2)) H ->
     ∃ t, PE (C7f (CX1 P w) P w K mg base (cl.map (·.1)) qual scope f cdv cl A outer s (Y2 (cl.map (·.2)) H) (fun C d H' => (∀ c ∈ cl.map (·.2), H' c = none) -> E C d (A0k (cl.map (·.2)) H H'))) body t /\ t (vs.map some) (Y2 (cl.map (·.2)) H) (fun v H' => (∀ c ∈ cl.map (·.2), H' c = none) -> Q v (A0k (cl.map (·.2)) H H'))) :
   C0k P w K mg base (k + 1) f (LamJ f qual params body scope cl vs) sp := Z8p S hF hnd hb0 hbody
theorem C8y.kept {H H' : Hp} {f : Addr} {qual : Str} {params : Arguments} {body : Expr} {scope : Scope} {cl : List (Str × Addr)} (h : C8y H f qual params body scope cl) (s : ∀ b o, H b = some (.frz o (.own b)) -> H' b = some (.frz o (.own b))) : C8y H' f qual params body scope cl := by
 obtain ⟨pm, c', ctv, oc, e1, e2, r⟩ := h
 exact ⟨pm, c', ctv, oc, s _ _ e1, s _ _ e2, r⟩
theorem D7r.kept {H H' : Hp} {c : Addr} {v : V} (h : D7r H c v) (s : ∀ b o, H b = some (.frz o (.own b)) -> H' b = some (.frz o (.own b))) : D7r H' c v := by
 obtain ⟨o, u, e, r⟩ := h
 exact ⟨o, u, s _ _ e, r⟩
def Its (z : Str) : It := ⟨fun i _ => i < z.cps.size, fun i H x H' => H' = H /\ ∃ c, z.cps[i]? = some c /\ x = .str ⟨#[c]⟩, fun i _ => z.cps.size <= i⟩
theorem V9e {P : Program} {w : World} {K : PySem.W.Frag} {tg : Expr} {ty : String} (hty : ty = "str_ascii_iterator" \/ ty = "str_iterator") (it : Addr) (z : Str) (t : Tok) : Z9k P w K tg (Its z) [it] it (fun i h => h.IsStrIter it ty z t i) where
 mem := by simp
 obj := fun i h st b hb => by
   have e : b = it := by simpa using hb
   subst e
   obtain ⟨o, e, c, d⟩ := st
   exact ⟨o, e, fun v z => by rw [d] at z; cases z⟩
 keep := fun i h h' st k => let ⟨o, e, r⟩ := st; ⟨o, k it (by simp) o e, r⟩
 item := by
   intro X hP hw hK hc i pins s σ H E I hf st hg
   subst hP hw hK
   have hi : i < z.cps.size := hg
   obtain ⟨f0, f1, f2, f3, f4, f5⟩ := hf it (by simp)
   have fin : ∀ h', h'.IsStrIter it ty z t (i + 1) -> Heap.SameBut it s.heap h' -> ∃ u, some (Value.str ⟨#[z.cps[i]]⟩ s.toks) = some u /\
       wpAny (model X.prog X.w) X.A (letOwnedTupleGo tg (.ref it) u) (fun _ s2 => ∃ x H', Inv X pins σ H' s2 /\ U5 x u /\ (Its z).yld i H x H' /\ s2.heap.IsStrIter it ty z t (i + 1) /\ ∀ b ∈ [it], H' b = none) E { s with heap := h', toks := s.toks + 1 } := fun h' st' sb => by
     have I1 : Inv X pins σ H { s with heap := h', toks := s.toks + 1 } := I.turned (fun b o hb e => (sb.2 b hb).trans e) f0 f1 f3 f4 f5
     obtain ⟨o, e, c, d⟩ := id st'
     exact ⟨_, rfl, J1t (s := { s with heap := h', toks := s.toks + 1 }) e c d (by rcases hty with rfl | rfl <;> decide) ⟨.str ⟨#[z.cps[i]]⟩, H, I1, ⟨_, rfl⟩, ⟨rfl, _, by simp [hi], rfl⟩, st', fun b hb => (hf b hb).1⟩⟩
   rcases hty with rfl | rfl
   . exact wpAny_pyNext_ascii_item st (c := z.cps[i]) (by simp [hi]) fin
   . exact wpAny_pyNext_wide_item st (c := z.cps[i]) (by simp [hi]) fin
 done := by
   intro X hP hw hK hc i pins s σ H E I hf st hg
   subst hP hw hK
   have hi : z.cps.size <= i := hg
   obtain ⟨f0, f1, f2, f3, f4, f5⟩ := hf it (by simp)
   rcases hty with rfl | rfl
   . exact wpAny_pyNext_ascii_end (I.ok.hd hc) st (by simp; omega) fun h' eb => ⟨rfl, I.turned (t' := s.toks) (fun b o hb e => eb b o hb e) f0 f1 f3 f4 f5⟩
   . exact wpAny_pyNext_wide_end (I.ok.hd hc) st (by simp; omega) fun h' eb => ⟨rfl, I.turned (t' := s.toks) (fun b o hb e => eb b o hb e) f0 f1 f3 f4 f5⟩
 self := fun _ _ _ _ _ st h => by
   rcases hty with rfl | rfl
   . exact wpAny_pyIter_striter_ascii st h
   . exact wpAny_pyIter_striter_wide st h
section
variable {X : Cx} {tg : Expr}
def iStr (tl : TE) : TI := fun σ H R => tl σ H fun x H1 => ∃ z, x = .str z /\ R (Its z) H1
theorem A0fa {l : Expr} {tl : TE} (hl : PE X l tl) : PI X tg l (iStr tl) := by
 intro pins s σ H R I h
 refine thn (hl pins s σ H _ I h) fun v s1 ⟨x, H1, I1, r1, q1⟩ => ?_
 obtain ⟨z, e, q⟩ := q1
 subst e
 obtain ⟨t, rfl⟩ := r1
 have fin : ∀ (ty : String), ty = "str_ascii_iterator" \/ ty = "str_iterator" -> PIE X pins σ tg R (.ref s1.heap.objs.size) { s1 with heap := s1.heap.push { cls := .type ty, data := .fields #[.str z t, .int 0 0] } } := fun ty hty => by
   refine ⟨s1.heap.objs.size, [s1.heap.objs.size], _, _, H1, rfl, I1.kept (t' := s1.toks) fun b o e => Heap.get?_push_of_some _ e, V9e hty _ z t, ⟨_, Heap.get?_push_size _ rfl, rfl, rfl⟩, fun b hb => ?_, q⟩
   have e : b = s1.heap.objs.size := by simpa using hb
   subst e
   exact I1.fpOk (Nat.le_refl _) (I1.hok.fresh (Nat.le_refl _))
 cases ha : z.cps.all (· < 128)
 . exact wpAny_pyIter_wide ha (fin _ (.inr rfl))
 exact wpAny_pyIter_ascii ha (fin _ (.inl rfl))
end
theorem Z7b {z : Str} {g : TG} {tb : TS} {D : D2y} {σ : St} {H : Hp} (Pv : Nat -> St -> Hp -> Prop) (h0 : Pv 0 σ H)
   (hs : ∀ i c σ H, z.cps[i]? = some c -> Pv i σ H -> g (.str ⟨#[c]⟩) σ H fun σ2 H2 => tb { D with nx := Pv (i + 1), ct := Pv (i + 1), bk := D.nx } σ2 H2) (hd : ∀ σ H, Pv z.cps.size σ H -> D.nx σ H) :
   ∃ W : Nat -> Nat -> St -> Hp -> Prop, (∃ m, W 0 m σ H) /\ ∀ i m σ H, W i m σ H ->
     ((Its z).stop i H /\ D.nx σ H) \/ ((Its z).go i H /\ ∃ N : St -> Hp -> Prop, (∀ σ' H', N σ' H' -> ∃ m', m' < m /\ W (i + 1) m' σ' H') /\ ∀ x H', (Its z).yld i H x H' -> g x σ H' fun σ2 H2 => tb { D with nx := N, ct := N, bk := D.nx } σ2 H2) := by
 refine ⟨fun i m σ H => m = z.cps.size - i /\ i <= z.cps.size /\ Pv i σ H, ⟨z.cps.size, by simp, Nat.zero_le _, h0⟩, ?_⟩
 rintro i m σ H ⟨rfl, hi, p⟩
 by_cases hlt : i < z.cps.size
 . refine .inr ⟨hlt, Pv (i + 1), fun σ' H' p' => ⟨z.cps.size - (i + 1), by omega, rfl, hlt, p'⟩, fun x H' y => ?_⟩
   obtain ⟨e, c, hc, rfl⟩ := y
   subst e
   exact hs i c σ _ hc p
 have e : i = z.cps.size := by omega
 subst e
 exact .inl ⟨Nat.le_refl _, hd σ H p⟩
end L2
namespace TR
open PySem L2 PySem.W PyProof.Rows
seal PE PS PSs PA PT PW PG PGs PI
abbrev Q0 : List Str := ["self", "sign", "last", "part"]
abbrev Q3 : List Str := ["self", "sign"]
abbrev Q4 : List Str := ["thing", "least", "most"]
abbrev Q5 : List Str := ["context", "sign"]
abbrev Q7 : List Str := ["one", "other"]
abbrev Q8 : List Str := ["_law_cell", "_law_k"]
abbrev Q9 : List Str := ["_law_top", "_law_bottom"]
abbrev Q10 : List Str := ["context", "sign", "ideal"]
abbrev Q11 : List Str := ["self", "names"]
abbrev Q12 : List Str := ["_law_script", "_law_k"]
abbrev Q13 : List Str := ["_law_own_here", "_law_sign", "_law_ideal"]
abbrev Q14 : List Str := ["self", "top", "bottom", "power"]
abbrev Q15 : List Str := ["ideal", "sign", "figures", "power"]
abbrev Q16 : List Str := ["context", "sign", "pair"]
abbrev Q17 : List Str := ["context", "sign", "figures", "power"]
abbrev Q18 : List Str := ["context", "number"]
abbrev Q19 : List Str := ["context", "exact"]
abbrev Q20 : List Str := ["sign", "figures", "power"]
abbrev Q21 : List Str := ["self", "power"]
abbrev Q22 : List Str := ["size", "middle"]
abbrev Q23 : List Str := ["part", "is_cut"]
abbrev Q24 : List Str := ["context", "lead", "part"]
abbrev Q25 : List Str := ["numbers", "kind"]
abbrev Q26 : List Str := ["_law_own_here"]
abbrev Q27 : List Str := ["_law_way", "_law_sign", "_law_last", "_law_left", "_law_bottom"]
abbrev Q28 : List Str := ["_law_top", "_law_bottom", "_law_wide"]
abbrev Q29 : List Str := ["self", "kind", "sign", "figures", "power"]
abbrev Q30 : List Str := ["whole", "count"]
abbrev Q31 : List Str := ["self", "room", "way", "least", "most"]
abbrev Q32 : List Str := ["self", "signal"]
abbrev Q33 : List Str := ["context", "sign", "exact", "ideal"]
abbrev Q34 : List Str := ["_law_cell", "_law_way"]
abbrev Q35 : List Str := ["_law_context_here", "_law_own_here", "_law_deed", "_law_due_here"]
abbrev Q36 : List Str := ["_law_own_here", "_law_sign"]
abbrev Q37 : List Str := ["_law_own_here", "_law_sign", "_law_ratio_here", "_law_ideal"]
abbrev Q38 : List Str := ["context", "one", "other", "ideal"]
abbrev Q39 : List Str := ["number", "power"]
abbrev Q40 : List Str := ["context", "one", "other"]
abbrev Q41 : List Str := ["_law_own_here", "_law_one", "_law_other", "_law_ideal"]
abbrev Q42 : List Str := ["_law_own_here", "_law_one", "_law_other"]
abbrev Q43 : List Str := ["burst", "off", "cut"]
abbrev Q44 : List Str := ["self", "power", "shift", "top", "bottom", "whole"]
abbrev Q45 : List Str := ["_law_k", "_law_signals", "_law_more"]
abbrev Q46 : List Str := ["_law_script", "_law_own_here", "_law_context_here", "_law_one", "_law_other", "_law_first", "_law_second", "_law_pair_here", "_law_due_here"]
variable {P : Program} {w : World} {K : Frag} {mg : Str -> Option Value} {base : Heap}
abbrev sr (a : Addr) : Option V := some (.ref a)
abbrev si (a : Int) : Option V := some (.int a)
abbrev sR (a : Str) : Option V := some (.str a)
abbrev sI (P : Program) (w : World) (K : Frag) (mg : Str -> Option Value) (base : Heap) := C4 P w K mg base (CX1 P w)
def top (i : Nat) : Stmt := PySem.Challenge.pw_tenreckon_k20_whole_over.main.body.getD i (.Pass ⟨0, 0, 0, 0⟩)
abbrev D2r : Stmt := (top 26)
def A0kf (K : Frag) : Sp := fun vs H Q _ => ∃ v lo hi, vs = [v, .int lo, .int hi] /\ ((A6k lo hi v /\ Q (.bl true) H) \/ (D2u K H lo hi v /\ Q (.bl false) H))
theorem A0mt : B9 Q4 Q4 (A1 D2r) := scK
theorem Y1b {f : Addr} {fd : FuncData} (D : Def K mg "is_between" Q4 D2r f fd) (O : Own mg) (T : Kit K) : sI P w K mg base 1 f fd Q4 (A0kf K) := by
 refine C4.up (D.F.ok A0mt (fun vs H Q E h => ?_) (fun cdv A outer s H vs Q E hr h => ?_))
 . obtain ⟨v, lo, hi, rfl, _⟩ := h
   rfl
 obtain ⟨v, lo, hi, rfl, h⟩ := h
 refine ⟨_, (A7 (G4 (PW.pt (C5a (A7s (A0g (V2k O.isi (pv 0) (pty O.int_ boot_int)))) (B0t (A0g (V2k O.isi (pv 0) (pty O.bool_ boot_bool)))))) (A9 (B8 B1h)) D3) (A9 (B8 (A4n (D9 J1r (pv 0) (pv 1) (C5 _)) (A2a (D9 A0cz (pv 0) (pv 2) (C5 _))))))), ?_⟩
 rcases h with ⟨⟨i, rfl, h1, h2⟩, k⟩ | ⟨⟨t, b1, b2, ty, k1, k2, bad⟩, k⟩
 . refine ⟨_, rfl, _, _, _, _, true, rfl, rfl, A0cv i, T.int_int, _, rfl, U2 ?_⟩
   refine ⟨_, rfl, _, _, _, _, false, rfl, rfl, A0cv i, T.int_bool, _, rfl, U2 ?_⟩
   refine ⟨_, rfl, _, rfl, _, _, rfl, rfl, _, rfl, A2w h1 ?_⟩
   refine ⟨_, rfl, _, rfl, _, _, rfl, rfl, ?_⟩
   show Q (.bl (decide (i <= hi))) H
   rw [decide_eq_true h2]
   exact k
 refine ⟨_, rfl, _, _, _, _, b1, rfl, rfl, ty, k1, _, rfl, ?_⟩
 cases b1 with
 | false => exact Z2 (Z2 k)
 | true =>
   refine U2 ⟨_, rfl, _, _, _, _, b2, rfl, rfl, ty, k2, _, rfl, ?_⟩
   cases b2 with
   | true => exact Z2 k
   | false =>
     obtain ⟨i, rfl, out⟩ := bad.resolve_left (by decide)
     refine U2 ⟨_, rfl, _, rfl, _, _, rfl, rfl, _, rfl, J0 (fun h1 => ?_) (fun h1 => ?_)⟩
     . refine ⟨_, rfl, _, rfl, _, _, rfl, rfl, ?_⟩
       show Q (.bl (decide (i <= hi))) H
       rw [decide_eq_false (by omega : ¬ i <= hi)]
       exact k
     . exact k
structure Err (K : Frag) (mg : Str -> Option Value) (x : Str) (CB : Addr) : Prop where
 g : mg x = some (.ref CB)
 q : excIn K CB [.type "ValueError", .type "Exception", .type "BaseException", .type "object"] "ValueError.__new__" = true
def B8w (lo hi : Int) : Prop := lo.natAbs.log2 < 1920 /\ hi.natAbs.log2 < 1920 /\ (Str.ofString (toString lo)).length <= 100 /\ (Str.ofString (toString hi)).length <= 100
abbrev A4m : Stmt := (top 61)
def D7g (K : Frag) (CB : Addr) : Sp := fun vs H Q E => ∃ v lo hi, vs = [v, .int lo, .int hi] /\ B8w lo hi /\ ((A6k lo hi v /\ Q v H) \/ (D2u K H lo hi v /\ E (.ref CB) none H))
theorem V1d : B9 Q4 Q4 (A1 A4m) := scK
theorem J7e {f f1 CB : Addr} {fd fd1 : FuncData} (D : Def K mg "bounded" Q4 A4m f fd) (D1 : Def K mg "is_between" Q4 D2r f1 fd1) (O : Own mg) (T : Kit K) (B : Err K mg "BadContext" CB) :
   sI P w K mg base 2 f fd Q4 (D7g K CB) := by
 have G1 := Y1b (P := P) (w := w) (base := base) D1 O T
 refine D.F.okE V1d (fun vs H Q E h => ?_) (fun X cdv A outer s H vs Q E hX hr hx h => ?_)
 . obtain ⟨v, lo, hi, rfl, _⟩ := h
   rfl
 subst hX
 obtain ⟨v, lo, hi, rfl, ⟨l1, l2, l3, l4⟩, h⟩ := h
 refine ⟨_, (A7 (G4 (A7s (A0g (D4 D1 G1 hr hx (A0 (pv 0) (A0 (pv 1) (A0 (pv 2) A6)))))) (A9 (A4r (by rfl) B.g B.q PySem.F.excBase_ValueError hr.hd hx (A0 (U9a (.cons .lit (.cons (.int (pv 1)) (.cons .lit (.cons (.int (pv 2)) .nil))))) A6))) D3) (A9 (B8 (pv 0)))), ?_⟩
 rcases h with ⟨g, k⟩ | ⟨bad, k⟩
 . exact ⟨_, rfl, _, rfl, _, rfl, _, _, _, rfl, .inl ⟨g, _, rfl, U2 ⟨_, rfl, k⟩⟩⟩
 have a0 : Str.empty.length = 0 := rfl
 have a1 : (Str.ofString "not a whole number from ").length = 24 := by decide +kernel
 have a2 : (Str.ofString " to ").length = 4 := by decide +kernel
 have sz : ∀ {n : Nat}, n <= 1000 -> n <= sizeLine := fun h => Nat.le_of_lt (Y0 h)
 refine ⟨_, rfl, _, rfl, _, rfl, _, _, _, rfl, .inr ⟨bad, _, rfl, Z2 ?_⟩⟩
 exact ⟨_, rfl, sz (by rw [strLen_append]; omega), _, rfl, _, rfl, l1, _, rfl, sz (by rw [strLen_append, strLen_append]; omega), _, rfl, sz (by rw [strLen_append, strLen_append, strLen_append]; omega), _, rfl, _, rfl, l2, _, rfl, sz (by rw [strLen_append, strLen_append, strLen_append, strLen_append]; omega), sz (by rw [strLen_append, strLen_append, strLen_append, strLen_append]; omega), sz (by show 1 <= 1000; decide), k⟩
abbrev A2m : Stmt := (top 27)
def V2h (K : Frag) (CB : Addr) : Sp := fun vs H Q E => ∃ v lo hi, vs = [v, .int lo, .int hi] /\ B8w lo hi /\
 ((A6k lo hi v /\ Q .non H) \/ (D2u K H lo hi v /\ E (.ref CB) none H))
theorem V2d : B9 Q4 Q4 (A1 A2m) := scK
theorem C8r {f f1 CB : Addr} {fd fd1 : FuncData} (D : Def K mg "need_between" Q4 A2m f fd) (D1 : Def K mg "is_between" Q4 D2r f1 fd1) (O : Own mg) (T : Kit K) (B : Err K mg "BadNumber" CB) :
   sI P w K mg base 2 f fd Q4 (V2h K CB) := by
 have G1 := Y1b (P := P) (w := w) (base := base) D1 O T
 refine D.F.okE V2d (fun vs H Q E h => ?_) (fun X cdv A outer s H vs Q E hX hr hx h => ?_)
 . obtain ⟨v, lo, hi, rfl, _⟩ := h
   rfl
 subst hX
 obtain ⟨v, lo, hi, rfl, ⟨l1, l2, l3, l4⟩, h⟩ := h
 refine ⟨_, (A9 (G4 (A7s (A0g (D4 D1 G1 hr hx (A0 (pv 0) (A0 (pv 1) (A0 (pv 2) A6)))))) (A9 (A4r (by rfl) B.g B.q PySem.F.excBase_ValueError hr.hd hx (A0 (U9a (.cons .lit (.cons (.int (pv 1)) (.cons .lit (.cons (.int (pv 2)) .nil))))) A6))) D3)), ?_⟩
 rcases h with ⟨g, k⟩ | ⟨bad, k⟩
 . exact ⟨_, rfl, _, rfl, _, rfl, _, _, _, rfl, .inl ⟨g, _, rfl, U2 k⟩⟩
 have a0 : Str.empty.length = 0 := rfl
 have a1 : (Str.ofString "not a whole number from ").length = 24 := by decide +kernel
 have a2 : (Str.ofString " to ").length = 4 := by decide +kernel
 have sz : ∀ {n : Nat}, n <= 1000 -> n <= sizeLine := fun h => Nat.le_of_lt (Y0 h)
 refine ⟨_, rfl, _, rfl, _, rfl, _, _, _, rfl, .inr ⟨bad, _, rfl, Z2 ?_⟩⟩
 exact ⟨_, rfl, sz (by rw [strLen_append]; omega), _, rfl, _, rfl, l1, _, rfl, sz (by rw [strLen_append, strLen_append]; omega), _, rfl, sz (by rw [strLen_append, strLen_append, strLen_append]; omega), _, rfl, _, rfl, l2, _, rfl, sz (by rw [strLen_append, strLen_append, strLen_append, strLen_append]; omega), sz (by rw [strLen_append, strLen_append, strLen_append, strLen_append]; omega), sz (by show 1 <= 1000; decide), k⟩
abbrev D6d : Stmt := (G8 (top 15) 0)
abbrev C4y : Stmt := (top 19)
abbrev B1d : Stmt := (top 21)
structure Num (K : Frag) (mg : Str -> Option Value) (CN : Addr) : Prop where
 g : mg "Number" = some (.ref CN)
 cl : Cls K CN
 n1 : Z8 K CN "kind"
 n2 : Z8 K CN "sign"
 n3 : Z8 K CN "figures"
 n4 : Z8 K CN "power"
 ca : findIn K (.ref CN) "__class__" = some (some (.builtin "object.__class__"))
 sn : specialIn K (.builtin "object.__class__") "__get__" = some (some (.builtin "getset_descriptor.__get__"))
 tk : takesIn K (.builtin "object.__class__") = some true
 ob : mroIn K CN (.type "object") = some true
 self : kitOne K (.ref CN) (.ref CN) = some true
def D2q (k s f p : V) : List (Str × V) := Y6 "power" p (Y6 "figures" f (Y6 "sign" s (Y6 "kind" k [])))
theorem e12 : ¬ (("kind" : Str) = "sign") := by decide +kernel
theorem e13 : ¬ (("kind" : Str) = "figures") := by decide +kernel
theorem e14 : ¬ (("kind" : Str) = "power") := by decide +kernel
theorem e23 : ¬ (("sign" : Str) = "figures") := by decide +kernel
theorem e24 : ¬ (("sign" : Str) = "power") := by decide +kernel
theorem e34 : ¬ (("figures" : Str) = "power") := by decide +kernel
theorem num1 (k s f p : V) : (D2q k s f p).lookup ("kind" : Str) = some k := by unfold D2q; rw [G0, if_neg e14, G0, if_neg e13, G0, if_neg e12, G0, if_pos rfl]
theorem Z6z (k s f p : V) : (D2q k s f p).lookup ("sign" : Str) = some s := by unfold D2q; rw [G0, if_neg e24, G0, if_neg e23, G0, if_pos rfl]
theorem V3f (k s f p : V) : (D2q k s f p).lookup ("figures" : Str) = some f := by unfold D2q; rw [G0, if_neg e34, G0, if_pos rfl]
theorem G9u (k s f p : V) : (D2q k s f p).lookup ("power" : Str) = some p := by unfold D2q; rw [G0, if_pos rfl]
def A4x (CN : Addr) (H : Hp) (n : Addr) (k s f p : V) : Prop := ∃ dx, H n = some (.ins CN dx (D2q k s f p))
theorem A4x.same {CN : Addr} {H H' : Hp} {n : Addr} {k s f p : V} (h : A4x CN H n k s f p) (e : B7 H H') : A4x CN H' n k s f p := by
 obtain ⟨dx, z⟩ := h
 exact ⟨dx, e _ _ z⟩
theorem Num.ty {K : Frag} {mg : Str -> Option Value} {CN : Addr} (N : Num K mg CN) {H : Hp} {n : Addr} {k s f p : V} (h : A4x CN H n k s f p) : TyE K H (.ref n) (.ref CN) := by
 obtain ⟨dx, z⟩ := h
 exact .of (.ins z N.cl N.ca N.sn N.tk N.ob)
def G0f (CN : Addr) : Sp := fun vs H Q _ => ∃ (p dx : Addr) (k s f pw : V), vs = [.ref p, k, s, f, pw] /\ H p = some (.ins CN dx []) /\ ∀ H', H' p = some (.ins CN dx (D2q k s f pw)) -> (∀ b o, H b = some o -> b ≠ p -> H' b = some o) -> Q .non H'
theorem A0fx : B9 Q29 Q29 (A1 D6d) := scK
theorem Z9c {f CN : Addr} {fd : FuncData} (F : Fun K "__init__" "Number.__init__" D6d f fd) (N : Num K mg CN) : C4 P w K mg base CX0 1 f fd Q29 (G0f CN) := by
 refine F.ok A0fx (fun vs H Q E h => ?_) (fun cdv A outer s H vs Q E hr h => ?_)
 . obtain ⟨p, dx, a, b, c, d, rfl, _⟩ := h
   rfl
 obtain ⟨p, dx, a, b, c, d, rfl, hp, k⟩ := h
 refine ⟨_, A7 (A0u (pv 0) (pv 1) rfl) (A7 (A0u (pv 0) (pv 2) rfl) (A7 (A0u (pv 0) (pv 3) rfl) (A9 (A0u (pv 0) (pv 4) rfl)))), ?_⟩
 have l : ∀ (fs : List (Str × V)) (f : Str) (v : V) (n : Nat), fs.length <= n -> (Y6 f v fs).length <= n + 1 := fun fs f v n h => Nat.le_trans (A2p f v fs) (Nat.succ_le_succ h)
 refine ⟨_, rfl, _, rfl, p, CN, dx, [], rfl, hp, N.cl, N.n1, (by show 0 < 1000; decide), ?_⟩
 refine ⟨_, rfl, _, rfl, p, CN, dx, _, rfl, A8, N.cl, N.n2, Nat.lt_of_le_of_lt (l _ _ _ 0 (Nat.le_refl _)) (by decide), ?_⟩
 refine ⟨_, rfl, _, rfl, p, CN, dx, _, rfl, A8, N.cl, N.n3, Nat.lt_of_le_of_lt (l _ _ _ 1 (l _ _ _ 0 (Nat.le_refl _))) (by decide), ?_⟩
 refine ⟨_, rfl, _, rfl, p, CN, dx, _, rfl, A8, N.cl, N.n4, Nat.lt_of_le_of_lt (l _ _ _ 2 (l _ _ _ 1 (l _ _ _ 0 (Nat.le_refl _)))) (by decide), ?_⟩
 refine k _ A8 fun b o e hb => ?_
 rw [C8 hb, C8 hb, C8 hb, C8 hb]
 exact e
structure C5k (P : Program) (w : World) (K : Frag) (mg : Str -> Option Value) (base : Heap) (CN fI : Addr) (fdI : FuncData) : Prop where
 m : Mk K CN fI
 g : C4 P w K mg base CX0 1 fI fdI Q29 (G0f CN)
 b : A0c K fdI Q29 []
theorem made {CN : Addr} {H : Hp} {Q : VK} {k s f p : V} (h : ∀ n H', H n = none -> B7 H H' -> A4x CN H' n k s f p -> Q (.ref n) H') :
   ∀ x dx, H x = none -> H dx = none -> dx ≠ x -> G0f CN (.ref x :: ([k, s, f, p] ++ [])) (upd (upd H dx (.own x)) x (.ins CN dx [])) (fun v H2 => v = .non /\ Q (.ref x) H2) E0 := by
 intro x dx nx nd ne
 refine ⟨x, dx, k, s, f, p, rfl, A8, fun H' e kp => ⟨rfl, h x H' nx (fun b o z => ?_) ⟨dx, e⟩⟩⟩
 refine kp b o ?_ (D5 z nx)
 rw [C8 (D5 z nx), C8 (D5 z nd)]
 exact z
def J7y (K : Frag) (CN : Addr) (H : Hp) (v : V) : Prop := ∃ t, TyE K H v t /\ kitOne K t (.ref CN) = some false
def U8h (K : Frag) (CN CB : Addr) : Sp := fun vs H Q E => ∃ v, vs = [v] /\ ((∃ n k s f p, v = .ref n /\ A4x CN H n k s f p /\ Q v H) \/ (J7y K CN H v /\ E (.ref CB) none H))
theorem Z8q : B9 ["thing"] ["thing"] (A1 B1d) := scK
theorem J0s {f CN CB : Addr} {fd : FuncData} (D : Def K mg "need_number" ["thing"] B1d f fd) (O : Own mg) (T : Kit K) (B : Err K mg "BadNumber" CB) (N : Num K mg CN) : sI P w K mg base 1 f fd ["thing"] (U8h K CN CB) := by
 refine D.F.okE Z8q (fun vs H Q E h => ?_) (fun X cdv A outer s H vs Q E hX hr hx h => ?_)
 . obtain ⟨v, rfl, _⟩ := h
   rfl
 subst hX
 obtain ⟨v, rfl, h⟩ := h
 refine ⟨_, (A7 (G4 (A7s (A0g (V2k O.isi (pv 0) (V9c N.g)))) (A9 (A4r (by rfl) B.g B.q PySem.F.excBase_ValueError hr.hd hx (A0 B0 A6))) D3) (A9 (B8 (pv 0)))), ?_⟩
 rcases h with ⟨n, a, b, c, d, rfl, hn, k⟩ | ⟨⟨t, ty, k1⟩, k⟩
 . exact ⟨_, rfl, _, _, _, _, true, rfl, rfl, N.ty hn, N.self, _, rfl, U2 ⟨_, rfl, k⟩⟩
 exact ⟨_, rfl, _, _, _, t, false, rfl, rfl, ty, k1, _, rfl, Z2 ⟨Nat.le_of_lt (Y0 (by show 1 <= 1000; decide)), k⟩⟩
def J7z (K : Frag) (CN CB : Addr) : Sp := fun vs H Q E => ∃ v, vs = [v] /\ ((∃ n k s f p, v = .ref n /\ A4x CN H n k s f p /\ ∀ t, H t = none -> Q (.ref t) (upd H t (.tup [k, s, f, p]))) \/ (J7y K CN H v /\ E (.ref CB) none H))
theorem A0fu : B9 ["number"] ["number"] (A1 C4y) := scK
theorem Z7a {f f1 CN CB : Addr} {fd fd1 : FuncData} (D : Def K mg "told" ["number"] C4y f fd) (D_need_number : Def K mg "need_number" ["thing"] B1d f1 fd1) (O : Own mg) (T : Kit K) (B : Err K mg "BadNumber" CB) (N : Num K mg CN) :
   sI P w K mg base 2 f fd ["number"] (J7z K CN CB) := by
 have G_need_number := J0s (P := P) (w := w) (base := base) D_need_number O T B N
 refine D.F.okE A0fu (fun vs H Q E h => ?_) (fun X cdv A outer s H vs Q E hX hr hx h => ?_)
 . obtain ⟨v, rfl, _⟩ := h
   rfl
 subst hX
 obtain ⟨v, rfl, h⟩ := h
 refine ⟨_, (A7 (Z5 (D4 D_need_number G_need_number hr hx (A0 (pv 0) A6))) (A9 (B8 (U1 (A0 (G6 (pv 0) rfl) (A0 (G6 (pv 0) rfl) (A0 (G6 (pv 0) rfl) (A0 (G6 (pv 0) rfl) A6)))))))), ?_⟩
 rcases h with ⟨n, a, b, c, d, rfl, hn, k⟩ | ⟨bad, k⟩
 . refine ⟨_, rfl, _, rfl, .inl ⟨n, a, b, c, d, rfl, hn, ?_⟩⟩
   obtain ⟨dx, e⟩ := hn
   exact ⟨_, rfl, n, CN, dx, _, _, rfl, e, N.cl, N.n1, num1 _ _ _ _, _, rfl, n, CN, dx, _, _, rfl, e, N.cl, N.n2, Z6z _ _ _ _, _, rfl, n, CN, dx, _, _, rfl, e, N.cl, N.n3, V3f _ _ _ _, _, rfl, n, CN, dx, _, _, rfl, e, N.cl, N.n4, G9u _ _ _ _,
     Nat.le_of_lt (Y0 (by show 4 <= 1000; decide)), k⟩
 exact ⟨_, rfl, _, rfl, .inr ⟨bad, k⟩⟩
abbrev B6g : Stmt := (top 16)
abbrev D2s : Stmt := (top 17)
abbrev A1g : Stmt := (top 18)
def U8u (K : Frag) (CN CB : Addr) : Sp := fun vs H Q E => ∃ x y z, vs = [x, y, z] /\
 ((A6k 0 1 x /\ A6k 0 (10 ^ 60 - 1) y /\ A6k (-200) 200 z /\ ∀ n H', H n = none -> B7 H H' -> A4x CN H' n (.str "plain") x y z -> Q (.ref n) H') \/
  ((D2u K H 0 1 x \/ (A6k 0 1 x /\ (D2u K H 0 (10 ^ 60 - 1) y \/ (A6k 0 (10 ^ 60 - 1) y /\ D2u K H (-200) 200 z)))) /\ E (.ref CB) none H))
theorem Z8j : B9 Q20 Q20 (A1 B6g) := scK
theorem b01 : B8w 0 1 := by unfold B8w; decide +kernel
theorem b60 : B8w 0 (10 ^ 60 - 1) := by unfold B8w; decide +kernel
theorem b200 : B8w (-200) 200 := by unfold B8w; decide +kernel
theorem Y0x {f f1 f2 fI CN CB : Addr} {fd fd1 fd2 fdI : FuncData} (D : Def K mg "plain" Q20 B6g f fd) (D_need_between : Def K mg "need_between" Q4 A2m f1 fd1) (D2 : Def K mg "is_between" Q4 D2r f2 fd2)
   (O : Own mg) (T : Kit K) (B : Err K mg "BadNumber" CB) (N : Num K mg CN) (M : C5k P w K mg base CN fI fdI) : sI P w K mg base 3 f fd Q20 (U8u K CN CB) := by
 have G_need_between := C8r (P := P) (w := w) (base := base) D_need_between D2 O T B
 refine D.F.okE Z8j (fun vs H Q E h => ?_) (fun X cdv A outer s H vs Q E hX hr hx h => ?_)
 . obtain ⟨x, y, z, rfl, _⟩ := h
   rfl
 subst hX
 obtain ⟨x, y, z, rfl, h⟩ := h
 refine ⟨_, (A7 (Z5 (D4 D_need_between G_need_between hr hx (A0 (pv 0) (A0 A3 (A0 A3 A6))))) (A7 (Z5 (D4 D_need_between G_need_between hr hx (A0 (pv 1) (A0 A3 (A0 (B3 V0 (B3 J7g A3 A3) A3) A6))))) (A7 (Z5 (D4 D_need_between G_need_between hr hx (A0 (pv 2) (A0 (C7p B6f A3) (A0 A3 A6))))) (A9 (B8 (D9u M.m M.g hr rfl N.g M.b .nil Y0y (A0 B0 (A0 (pv 0) (A0 (pv 1) (A0 (pv 2) A6)))))))))), ?_⟩
 have pw : Z6m 10 60 := ⟨by decide, by decide, by decide⟩
 rcases h with ⟨⟨i1, rfl, l1, u1⟩, ⟨i2, rfl, l2, u2⟩, ⟨i3, rfl, l3, u3⟩, k⟩ | ⟨bad, k⟩
 . refine ⟨_, rfl, _, _, _, rfl, b01, .inl ⟨⟨i1, rfl, l1, u1⟩, ?_⟩⟩
   refine ⟨_, rfl, _, _, rfl, rfl, pw, _, _, rfl, rfl, _, _, _, rfl, b60, .inl ⟨⟨i2, rfl, l2, u2⟩, ?_⟩⟩
   refine ⟨_, rfl, _, rfl, _, _, _, rfl, b200, .inl ⟨⟨i3, rfl, l3, u3⟩, ?_⟩⟩
   exact ⟨_, rfl, _, rfl, _, rfl, made k⟩
 rcases bad with bad | ⟨⟨i1, rfl, l1, u1⟩, bad | ⟨⟨i2, rfl, l2, u2⟩, bad⟩⟩
 . exact ⟨_, rfl, _, _, _, rfl, b01, .inr ⟨bad, k⟩⟩
 . refine ⟨_, rfl, _, _, _, rfl, b01, .inl ⟨⟨i1, rfl, l1, u1⟩, ?_⟩⟩
   exact ⟨_, rfl, _, _, rfl, rfl, pw, _, _, rfl, rfl, _, _, _, rfl, b60, .inr ⟨bad, k⟩⟩
 refine ⟨_, rfl, _, _, _, rfl, b01, .inl ⟨⟨i1, rfl, l1, u1⟩, ?_⟩⟩
 refine ⟨_, rfl, _, _, rfl, rfl, pw, _, _, rfl, rfl, _, _, _, rfl, b60, .inl ⟨⟨i2, rfl, l2, u2⟩, ?_⟩⟩
 exact ⟨_, rfl, _, rfl, _, _, _, rfl, b200, .inr ⟨bad, k⟩⟩
def J1p (K : Frag) (CN CB : Addr) : Sp := fun vs H Q E => ∃ x, vs = [x] /\ ((A6k 0 1 x /\ ∀ n H', H n = none -> B7 H H' -> A4x CN H' n (.str "end") x (.int 0) (.int 0) -> Q (.ref n) H') \/ (D2u K H 0 1 x /\ E (.ref CB) none H))
theorem A0ne : B9 ["sign"] ["sign"] (A1 D2s) := scK
theorem A0fg {f f1 f2 fI CN CB : Addr} {fd fd1 fd2 fdI : FuncData} (D : Def K mg "end" ["sign"] D2s f fd) (D_need_between : Def K mg "need_between" Q4 A2m f1 fd1) (D2 : Def K mg "is_between" Q4 D2r f2 fd2)
   (O : Own mg) (T : Kit K) (B : Err K mg "BadNumber" CB) (N : Num K mg CN) (M : C5k P w K mg base CN fI fdI) : sI P w K mg base 3 f fd ["sign"] (J1p K CN CB) := by
 have G_need_between := C8r (P := P) (w := w) (base := base) D_need_between D2 O T B
 refine D.F.okE A0ne (fun vs H Q E h => ?_) (fun X cdv A outer s H vs Q E hX hr hx h => ?_)
 . obtain ⟨x, rfl, _⟩ := h
   rfl
 subst hX
 obtain ⟨x, rfl, h⟩ := h
 refine ⟨_, (A7 (Z5 (D4 D_need_between G_need_between hr hx (A0 (pv 0) (A0 A3 (A0 A3 A6))))) (A9 (B8 (D9u M.m M.g hr rfl N.g M.b .nil Y0y (A0 B0 (A0 (pv 0) (A0 A3 (A0 A3 A6)))))))), ?_⟩
 rcases h with ⟨⟨i1, rfl, l1, u1⟩, k⟩ | ⟨bad, k⟩
 . refine ⟨_, rfl, _, _, _, rfl, b01, .inl ⟨⟨i1, rfl, l1, u1⟩, ?_⟩⟩
   exact ⟨_, rfl, made k⟩
 exact ⟨_, rfl, _, _, _, rfl, b01, .inr ⟨bad, k⟩⟩
def B4x (CN : Addr) : Sp := fun vs H Q _ => vs = [] /\ ∀ n H', H n = none -> B7 H H' -> A4x CN H' n (.str "none") (.int 0) (.int 0) (.int 0) -> Q (.ref n) H'
theorem V2p : B9 [] [] (A1 A1g) := scK
theorem J7x {f fI CN : Addr} {fd fdI : FuncData} (D : Def K mg "nothing" [] A1g f fd) (N : Num K mg CN) (M : C5k P w K mg base CN fI fdI) : sI P w K mg base 3 f fd [] (B4x CN) := by
 refine D.F.okE V2p (fun vs H Q E h => ?_) (fun X cdv A outer s H vs Q E hX hr hx h => ?_)
 . obtain ⟨rfl, _⟩ := h
   rfl
 subst hX
 obtain ⟨rfl, k⟩ := h
 refine ⟨_, (A9 (B8 (D9u M.m M.g hr rfl N.g M.b .nil Y0y (A0 B0 (A0 A3 (A0 A3 (A0 A3 A6))))))), ?_⟩
 exact made k
abbrev C8q : Stmt := (top 20)
def V7z (CN : Addr) : Sp := fun vs H Q _ => ∃ n k s f p, vs = [.ref n] /\ A4x CN H n k s (.int f) (.int p) /\ f.natAbs < 2 ^ 300 /\ Q (.int (p + ((Str.ofString (toString f)).length : Nat) - 1)) H
theorem A0fv : B9 ["number"] ["number"] (A1 C8q) := scK
theorem Z7d {f CN : Addr} {fd : FuncData} (D : Def K mg "lead_of" ["number"] C8q f fd) (O : Own mg) (N : Num K mg CN) : sI P w K mg base 1 f fd ["number"] (V7z CN) := by
 refine D.F.okE A0fv (fun vs H Q E h => ?_) (fun X cdv A outer s H vs Q E hX hr hx h => ?_)
 . obtain ⟨n, a, b, c, d, rfl, _⟩ := h
   rfl
 subst hX
 obtain ⟨n, a, b, fg, pw, rfl, ⟨dx, e⟩, hf, k⟩ := h
 refine ⟨_, (A9 (B8 (B3 V0 (B3 V6 (G6 (pv 0) rfl) (G5 A1f (by rfl) O.len_ PySem.boot_len (A0 (V5 A0h (by rfl) O.str_ boot_str (A0 (G6 (pv 0) rfl) A6)) A6))) A3))), ?_⟩
 have lg : fg.natAbs.log2 < 1920 := Nat.lt_trans (A7u hf (by decide)) (by decide)
 exact ⟨_, rfl, n, CN, dx, _, _, rfl, e, N.cl, N.n4, G9u _ _ _ _, _, rfl, n, CN, dx, _, _, rfl, e, N.cl, N.n3, V3f _ _ _ _, _, rfl, lg, _, rfl, int_text_fits lg, _, _, rfl, rfl, _, _, rfl, rfl, k⟩
abbrev A0q : Stmt := (top 2)
abbrev A1v : Stmt := (top 3)
theorem D8u {x k : Nat} (h : x < 2 ^ k) (hk : k <= 1048576) : Builtin.Int.intBits (x : Int) <= 2 ^ 20 := by
 unfold Builtin.Int.intBits
 split
 . exact Nat.zero_le _
 have z : (x : Int).natAbs ≠ 0 := by
   intro z
   rename_i hz
   exact hz (by simpa using z)
 have : (x : Int).natAbs.log2 < k := (Nat.log2_lt z).mpr h
 have e : (2 : Nat) ^ 20 = 1048576 := by decide
 omega
theorem C6r {b s j n : Nat} (hb : b < 2 ^ s) (hj : j <= n) (hn : n * s < 1048576) : Builtin.Int.intBits ((b ^ j : Nat) : Int) <= 2 ^ 20 := by
 refine D8u (k := n * s + 1) ?_ hn
 have a : b ^ j <= (2 ^ s) ^ j := Nat.pow_le_pow_left (Nat.le_of_lt hb) j
 have c : (2 ^ s) ^ j <= 2 ^ (n * s) := by
   rw [<- Nat.pow_mul, Nat.mul_comm n s]
   exact Nat.pow_le_pow_right (by decide) (Nat.mul_le_mul_left s hj)
 have d : 2 ^ (n * s) < 2 ^ (n * s + 1) := Nat.pow_lt_pow_right (by decide) (by omega)
 exact Nat.lt_of_le_of_lt a (Nat.lt_of_le_of_lt c d)
theorem B9t {b s i j n : Nat} (hb : b < 2 ^ s) (hi : i <= n) (hj : j <= n) (hn : n * s < 1048576) : IntMulOk ((b ^ i : Nat) : Int) ((b ^ j : Nat) : Int) := IntMulOk.of_bits (C6r hb hi hn) (C6r hb hj hn)
def C4z : Sp := fun vs H Q _ => ∃ b n s : Nat, vs = [.int (b : Int), .int (n : Int)] /\ b < 2 ^ s /\ n * s < 1048576 /\ Q (.int ((b ^ n : Nat) : Int)) H
theorem scProductOf : B9 ["whole", "count", "product"] Q30 (A1 A0q) := scK
theorem D9h {f : Addr} {fd : FuncData} (D : Def K mg "product_of" Q30 A0q f fd) : sI P w K mg base 1 f fd Q30 C4z := by
 refine C4.up (D.F.ok scProductOf (fun vs H Q E h => ?_) (fun cdv A outer s H vs Q E hr h => ?_))
 . obtain ⟨b, n, z, rfl, _⟩ := h
   rfl
 obtain ⟨b, n, z, rfl, hb, hn, k⟩ := h
 refine ⟨_, (A7 (D0 (i := 2) scProductOf.nd rfl (Or.inl rfl) A3) (A7 (B0h PassesOwn.never (C6 B5u (pv 1) A3 (C5 _)) (A7 (G4 (C6 D6 (B3 G2 (pv 1) A3) A3 (C5 _)) (A9 (D0 (i := 2) scProductOf.nd rfl (Or.inl rfl) (B3 U9 (pv 2) (pv 0)))) D3) (A7 (D0 (i := 0) scProductOf.nd rfl (Or.inl rfl) (B3 U9 (pv 0) (pv 0))) (A9 (D0 (i := 1) scProductOf.nd rfl (Or.inl rfl) (B3 G3 (pv 1) A3)))))) (A9 (B8 (pv 2))))), ?_⟩
 have d2 : (0 : Int) < 2 /\ (2 : Int).natAbs.log2 < 9000 := ⟨by decide, by decide +kernel⟩
 refine B0u (fun σ H2 => H2 = H /\ ∃ i m c : Nat, m + i * c = n /\ σ = [si ((b ^ i : Nat) : Int), si (c : Int), si ((b ^ m : Nat) : Int)]) (fun σ _ => match σ with | [_, some (.int c), _] => c.toNat | _ => 0) ?_ ?_ ?_
 . exact ⟨rfl, 1, 0, n, by omega, by rw [Nat.pow_one]; rfl⟩
 . rintro σ H2 ⟨rfl, i, m, c, hc, rfl⟩
   refine ⟨_, rfl, _, _, rfl, rfl, _, rfl, J0 (fun h0 => ?_) (fun h0 => ?_)⟩
   . have c1 : 1 <= c := by
       have : (0 : Int) < c := h0
       omega
     have hi : i <= n := Nat.le_trans (Nat.le_mul_of_pos_right i c1) (by omega)
     have hm : m <= n := by omega
     have sq : ((b ^ i : Nat) : Int) * ((b ^ i : Nat) : Int) = ((b ^ (2 * i) : Nat) : Int) := by rw [Nat.two_mul, Nat.pow_add]; rfl
     have lt : ((c : Int) / 2).toNat < (c : Int).toNat := by omega
     refine ⟨_, rfl, _, _, rfl, rfl, d2.1, rfl, _, rfl, J0 (fun ho => ?_) (fun he => ?_)⟩
     . have ho : (c : Int) % 2 = 1 := by injection ho
       have mu : ((b ^ m : Nat) : Int) * ((b ^ i : Nat) : Int) = ((b ^ (m + i) : Nat) : Int) := by rw [Nat.pow_add]; rfl
       refine ⟨_, rfl, _, rfl, _, _, rfl, rfl, B9t hb hm hi hn, _, rfl, _, rfl, _, _, rfl, rfl, B9t hb hi hi hn, _, rfl, _, _, rfl, rfl, d2, ⟨rfl, 2 * i, m + i, c / 2, ?_, ?_⟩, lt⟩
       . have e : i * c = i * (2 * (c / 2) + 1) := congrArg (i * ·) (by omega)
         rw [Nat.mul_add, Nat.mul_one, <- Nat.mul_assoc, Nat.mul_comm i 2] at e
         omega
       . show [si (((b ^ i : Nat) : Int) * ((b ^ i : Nat) : Int)), si ((c : Int) / 2), si (((b ^ m : Nat) : Int) * ((b ^ i : Nat) : Int))] = _
         rw [sq, mu]
         rfl
     . have he : ¬ (c : Int) % 2 = 1 := fun z => he (congrArg V.int z)
       refine ⟨_, rfl, _, rfl, _, _, rfl, rfl, B9t hb hi hi hn, _, rfl, _, _, rfl, rfl, d2, ⟨rfl, 2 * i, m, c / 2, ?_, ?_⟩, lt⟩
       . have e : i * c = i * (2 * (c / 2)) := congrArg (i * ·) (by omega)
         rw [<- Nat.mul_assoc, Nat.mul_comm i 2] at e
         omega
       . show [si (((b ^ i : Nat) : Int) * ((b ^ i : Nat) : Int)), si ((c : Int) / 2), si ((b ^ m : Nat) : Int)] = _
         rw [sq]
         rfl
   . have c0 : c = 0 := by
       have : ¬ (0 : Int) < c := h0
       omega
     subst c0
     have hm : m = n := by omega
     subst hm
     exact ⟨_, rfl, k⟩
 rintro σ H2 Q1 Q2 hQ ⟨v, e, i, j, e1, e2, b, e3, q⟩
 exact ⟨v, e, i, j, e1, e2, b, e3, hQ _ _ q⟩
def A7k : Sp := fun vs H Q _ => ∃ n : Nat, vs = [.int (n : Int)] /\ n <= 4000 /\ Q (.int ((10 ^ n : Nat) : Int)) H
theorem Z8k : B9 ["count"] ["count"] (A1 A1v) := scK
theorem Y1k {f f1 : Addr} {fd fd1 : FuncData} (D : Def K mg "ten_to" ["count"] A1v f fd) (D_product_of : Def K mg "product_of" Q30 A0q f1 fd1) (G_product_of : sI P w K mg base 1 f1 fd1 Q30 C4z) : sI P w K mg base 2 f fd ["count"] A7k := by
 refine C4.up (D.F.ok Z8k (fun vs H Q E h => ?_) (fun cdv A outer s H vs Q E hr h => ?_))
 . obtain ⟨n, rfl, _⟩ := h
   rfl
 obtain ⟨n, rfl, hn, k⟩ := h
 have hx : G7 (A0w CX0 P w K mg base ["count"] "ten_to" (A1 A1v) f cdv A outer s H E).nox EKF := A0a
 refine ⟨_, (A9 (B8 (D4 D_product_of G_product_of hr hx (A0 A3 (A0 (pv 0) A6))))), ?_⟩
 exact ⟨_, rfl, 10, n, 4, rfl, by decide, by omega, k⟩
inductive Kd where
 | plain | end_ | none
def Kd.str : Kd -> Str
 | .plain => "plain"
 | .end_ => "end"
 | .none => "none"
theorem Kd.str_inj {a b : Kd} (h : a.str = b.str) : a = b := by
 cases a <;> cases b <;> first | rfl | exact absurd h (by decide +kernel)
structure Nm where
 k : Kd
 s : Int
 f : Int
 p : Int
def Nm.vs (x : Nm) : List V := [.str x.k.str, .int x.s, .int x.f, .int x.p]
structure Nm.Ok (x : Nm) : Prop where
 s0 : 0 <= x.s
 s1 : x.s <= 1
 f0 : 0 <= x.f
 f1 : x.f <= 10 ^ 60 - 1
 p0 : -200 <= x.p
 p1 : x.p <= 200
def V4 (CN : Addr) (H : Hp) (n : Addr) (x : Nm) : Prop := A4x CN H n (.str x.k.str) (.int x.s) (.int x.f) (.int x.p)
theorem V4.same {CN : Addr} {H H' : Hp} {n : Addr} {x : Nm} (h : V4 CN H n x) (e : B7 H H') : V4 CN H' n x := A4x.same h e
structure Y1z (CN : Addr) (H : Hp) (l : Addr) (ns : List (Addr × Nm)) : Prop where
 l : H l = some (.lst (ns.map fun p => V.ref p.1))
 n : ∀ p ∈ ns, V4 CN H p.1 p.2
def C7 (n : Int) : Int := ((10 ^ n.toNat : Nat) : Int)
theorem V1 (n : Int) : 0 < C7 n := Int.natCast_pos.mpr (Nat.pow_pos (by decide))
theorem neS {a b : Kd} (h : ¬ V.str a.str = V.str b.str) : a ≠ b := fun q => h (by rw [q])
theorem eqS {a b : Kd} (h : V.str a.str = V.str b.str) : a = b := Kd.str_inj (by injection h)
theorem V2u {d : Int} (h : d <= 4000) : Builtin.Int.intBits (C7 d) <= 2 ^ 20 := C6r (b := 10) (s := 4) (n := 4000) (by decide) (by omega) (by decide)
def U6 (left low : Int) : Int := (if decide (0 < left) = true then 1 else 0) + (if decide (low <= 2 * left) = true then 1 else 0) + (if decide (low < 2 * left) = true then 1 else 0)
theorem maxT (s : Int) : (if (0 : Int) > s then 0 else s) = ((s.toNat : Nat) : Int) := by
 by_cases h : (0 : Int) > s
 . rw [if_pos h]; omega
 rw [if_neg h]; omega
def A2t (t b s : Int) : Prop := b * C7 (-s) <= t * C7 s /\ t * C7 s < 10 * (b * C7 (-s))
theorem C8t {s r : Int} (h : s <= r) : C7 r * C7 (-s) = C7 s * C7 (-r) * C7 (r - s) := by
 unfold C7
 rw [<- Int.natCast_mul, <- Int.natCast_mul, <- Int.natCast_mul, <- Nat.pow_add, <- Nat.pow_add, <- Nat.pow_add]
 congr 2
 omega
theorem Z9e {d : Int} (h : 1 <= d) : 10 <= C7 d := by
 unfold C7
 have : 10 ^ 1 <= 10 ^ d.toNat := Nat.pow_le_pow_right (by decide) (by omega)
 omega
theorem A7c {a b : Int} (h : a <= b) : C7 a <= C7 b := by
 unfold C7
 exact Int.ofNat_le.mpr (Nat.pow_le_pow_right (by decide) (by omega))
theorem U9r {t b s r : Int} (hb : 0 < b) (h1 : A2t t b s) (h2 : A2t t b r) : r <= s := by
 apply Classical.byContradiction
 intro h
 have hs : s <= r := by omega
 have c := C8t hs
 have g := Z9e (d := r - s) (by omega)
 have p1 := V1 (-s)
 have p2 := V1 (-r)
 have l1 : 0 < b * C7 (-s) := Int.mul_pos hb p1
 have l2 : 0 < b * C7 (-r) := Int.mul_pos hb p2
 have e : t * C7 r * (b * C7 (-s)) = t * C7 s * (b * C7 (-r)) * C7 (r - s) := by
   calc t * C7 r * (b * C7 (-s)) = t * b * (C7 r * C7 (-s)) := by ac_rfl
     _ = t * b * (C7 s * C7 (-r) * C7 (r - s)) := by rw [c]
     _ = t * C7 s * (b * C7 (-r)) * C7 (r - s) := by ac_rfl
 have a1 : t * C7 r * (b * C7 (-s)) < 10 * (b * C7 (-r)) * (b * C7 (-s)) := Int.mul_lt_mul_of_pos_right h2.2 l1
 have hp : 0 < t * C7 s := Int.lt_of_lt_of_le l1 h1.1
 have a2 : t * C7 s * (b * C7 (-r)) * 10 <= t * C7 s * (b * C7 (-r)) * C7 (r - s) := Int.mul_le_mul_of_nonneg_left g (Int.le_of_lt (Int.mul_pos hp l2))
 have a3 : b * C7 (-s) * (b * C7 (-r)) <= t * C7 s * (b * C7 (-r)) := Int.mul_le_mul_of_nonneg_right h1.1 (Int.le_of_lt l2)
 have e2 : 10 * (b * C7 (-r)) * (b * C7 (-s)) = b * C7 (-s) * (b * C7 (-r)) * 10 := by ac_rfl
 have a4 : b * C7 (-s) * (b * C7 (-r)) * 10 <= t * C7 s * (b * C7 (-r)) * 10 := Int.mul_le_mul_of_nonneg_right a3 (by decide)
 rw [e] at a1
 rw [e2] at a1
 exact absurd (Int.lt_of_lt_of_le a1 (Int.le_trans a4 a2)) (Int.lt_irrefl _)
theorem D9x {t b s r : Int} (hb : 0 < b) (h1 : A2t t b s) (h2 : A2t t b r) : s = r := Int.le_antisymm (U9r hb h2 h1) (U9r hb h1 h2)
def Sz (t : Int) : Prop := 1 <= t /\ t < C7 1000
theorem U9c (n : Nat) : 10 ^ n <= 2 ^ (4 * n) := by
 rw [Nat.pow_mul]
 exact Nat.pow_le_pow_left (by decide) n
theorem J0c (n : Nat) : 10 ^ (3 * n) <= 2 ^ (10 * n) := by
 rw [Nat.pow_mul, Nat.pow_mul]
 exact Nat.pow_le_pow_left (by decide) n
theorem Sz.nat {t : Int} (h : Sz t) : ∃ n : Nat, t = (n : Int) /\ 1 <= n /\ n < 10 ^ 1000 := by
 obtain ⟨n, rfl⟩ := Int.eq_ofNat_of_zero_le (show 0 <= t by have := h.1; omega)
 exact ⟨n, rfl, Int.ofNat_le.mp h.1, Int.ofNat_lt.mp h.2⟩
theorem D9q {t s : Int} (ht : Sz t) (h : s <= 1500) : ∃ n : Nat, t * C7 s = (n : Int) /\ n < 10 ^ 2502 := by
 obtain ⟨n, rfl, _, hn⟩ := ht.nat
 refine ⟨n * 10 ^ s.toNat, rfl, ?_⟩
 have a : 10 ^ s.toNat <= 10 ^ 1502 := Nat.pow_le_pow_right (by decide) (by omega)
 calc n * 10 ^ s.toNat <= n * 10 ^ 1502 := Nat.mul_le_mul_left n a
   _ < 10 ^ 1000 * 10 ^ 1502 := Nat.mul_lt_mul_of_pos_right hn (Nat.pow_pos (by decide))
   _ = 10 ^ 2502 := by rw [<- Nat.pow_add]
theorem G9x {n : Nat} (h : n < 10 ^ 2502) : Builtin.Int.intBits (n : Int) <= 2 ^ 20 := D8u (k := 4 * 2502) (Nat.lt_of_lt_of_le h (U9c 2502)) (by decide)
theorem Z6y {t : Int} (h : Sz t) : Builtin.Int.intBits t <= 2 ^ 20 := by
 obtain ⟨n, rfl, _, hn⟩ := h.nat
 exact D8u (k := 4 * 1000) (Nat.lt_of_lt_of_le hn (U9c 1000)) (by decide)
theorem B0p {t s : Int} (ht : Sz t) (h : s <= 1500) : IntMulOk t (C7 s) := IntMulOk.of_bits (Z6y ht) (V2u (by omega))
theorem V7y {b s : Int} (hb : Sz b) (h : s <= 1500) : (b * C7 s).natAbs.log2 < 9000 := by
 obtain ⟨n, e, hn⟩ := D9q hb h
 rw [e]
 have : n < 2 ^ 8340 := Nat.lt_of_lt_of_le hn (J0c 834)
 exact Nat.lt_trans (A7u (i := (n : Int)) (k := 8340) (by rw [Int.natAbs_natCast]; exact this) (by decide)) (by decide)
def whI (t b s : Int) : Int := t * C7 s / (b * C7 (-s))
def ptI (t b s : Int) : Int := U6 (t * C7 s - whI t b s * (b * C7 (-s))) (b * C7 (-s))
theorem U9v {t b s : Int} (hb : 0 < b) : 0 <= t * C7 s - whI t b s * (b * C7 (-s)) /\ t * C7 s - whI t b s * (b * C7 (-s)) < b * C7 (-s) := by
 have l := Int.mul_pos hb (V1 (-s))
 have e := Int.emod_add_mul_ediv (t * C7 s) (b * C7 (-s))
 have a := Int.emod_nonneg (t * C7 s) (Int.ne_of_gt l)
 have c := Int.emod_lt_of_pos (t * C7 s) l
 have e2 : whI t b s * (b * C7 (-s)) = b * C7 (-s) * (t * C7 s / (b * C7 (-s))) := Int.mul_comm _ _
 omega
theorem A0nq {t b s : Int} (ht : Sz t) (hb : Sz b) (h1 : -1500 <= s) (h2 : s <= 1500) : IntMulOk (whI t b s) (b * C7 (-s)) := by
 obtain ⟨n, e, hn⟩ := D9q hb (s := -s) (by omega)
 obtain ⟨k, e', hk⟩ := D9q ht h2
 unfold whI
 rw [e, e']
 exact IntMulOk.of_bits (G9x (Nat.lt_of_le_of_lt (Nat.div_le_self k n) hk)) (G9x hn)
abbrev A7b : Stmt := (G8 (top 6) 0)
structure J8k (K : Frag) (mg : Str -> Option Value) (CR CE : Addr) : Prop where
 g : mg "Ratio" = some (.ref CR)
 ge : mg "Exact" = some (.ref CE)
 cl : Cls K CR
 n_top : Z8 K CR "top"
 n_bottom : Z8 K CR "bottom"
 n_power : Z8 K CR "power"
 ca : findIn K (.ref CR) "__class__" = some (some (.builtin "object.__class__"))
 sn : specialIn K (.builtin "object.__class__") "__get__" = some (some (.builtin "getset_descriptor.__get__"))
 tk : takesIn K (.builtin "object.__class__") = some true
 ob : mroIn K CR (.type "object") = some true
 up : kitOne K (.ref CR) (.ref CE) = some true
def D9j (t b n : V) : List (Str × V) := Y6 "power" n (Y6 "bottom" b (Y6 "top" t []))
theorem C7y (t b n : V) (x : Str) : (D9j t b n).lookup x = if x = "power" then some n else if x = "bottom" then some b else if x = "top" then some t else none := by
 unfold D9j
 rw [G0, G0, G0]
 rfl
theorem U9x (t b n : V) : (D9j t b n).lookup ("top" : Str) = some t := by rw [C7y, if_neg (by decide +kernel), if_neg (by decide +kernel), if_pos rfl]
theorem C7a (t b n : V) : (D9j t b n).lookup ("bottom" : Str) = some b := by rw [C7y, if_neg (by decide +kernel), if_pos rfl]
theorem D6k (t b n : V) : (D9j t b n).lookup ("power" : Str) = some n := by rw [C7y, if_pos rfl]
theorem B8r (t b n : V) : (D9j t b n).lookup ("first" : Str) = none := by rw [C7y, if_neg (by decide +kernel), if_neg (by decide +kernel), if_neg (by decide +kernel)]
theorem D6m (t b n : V) : (D9j t b n).lookup ("at" : Str) = none := by rw [C7y, if_neg (by decide +kernel), if_neg (by decide +kernel), if_neg (by decide +kernel)]
def C5m (CR : Addr) (H : Hp) (x : Addr) (t b n : Int) : Prop := ∃ dx, H x = some (.ins CR dx (D9j (.int t) (.int b) (.int n)))
theorem C5m.same {CR : Addr} {H H' : Hp} {x : Addr} {t b n : Int} (h : C5m CR H x t b n) (s : B7 H H') : C5m CR H' x t b n := by
 obtain ⟨dx, e⟩ := h
 exact ⟨dx, s _ _ e⟩
def D9d (CR : Addr) : Sp := fun vs H Q _ => ∃ (p dx : Addr) (t b n : V), vs = [.ref p, t, b, n] /\ H p = some (.ins CR dx []) /\ ∀ H', H' p = some (.ins CR dx (D9j t b n)) -> Exc p H H' -> Q .non H'
theorem Z8b : B9 Q14 Q14 (A1 A7b) := scK
theorem V8g {f CR CE : Addr} {fd : FuncData} {dV : Value} (F : Y1y K "__init__" "Ratio.__init__" A7b dV f fd) (R : J8k K mg CR CE) : sI P w K mg base 1 f fd Q14 (D9d CR) := by
 refine F.okE Z8b (fun vs H Q E h => ?_) (fun X cdv A outer s H vs Q E hX hr hx h => ?_)
 . obtain ⟨p, dx, a, b, c, rfl, _⟩ := h
   rfl
 subst hX
 obtain ⟨p, dx, a, b, c, rfl, hp, k⟩ := h
 refine ⟨_, (A7 (A0u (pv 0) (pv 1) rfl) (A7 (A0u (pv 0) (pv 2) rfl) (A9 (A0u (pv 0) (pv 3) rfl)))), ?_⟩
 have l : ∀ (fs : List (Str × V)) (f : Str) (v : V) (n : Nat), fs.length <= n -> (Y6 f v fs).length <= n + 1 := fun fs f v n h => Nat.le_trans (A2p f v fs) (Nat.succ_le_succ h)
 refine ⟨_, rfl, _, rfl, p, CR, dx, [], rfl, hp, R.cl, R.n_top, (by show 0 < 1000; decide), ?_⟩
 refine ⟨_, rfl, _, rfl, p, CR, dx, _, rfl, A8, R.cl, R.n_bottom, Nat.lt_of_le_of_lt (l _ _ _ 0 (Nat.le_refl _)) (by decide), ?_⟩
 refine ⟨_, rfl, _, rfl, p, CR, dx, _, rfl, A8, R.cl, R.n_power, Nat.lt_of_le_of_lt (l _ _ _ 1 (l _ _ _ 0 (Nat.le_refl _))) (by decide), ?_⟩
 refine k _ A8 fun b o e hb => ?_
 rw [C8 hb, C8 hb, C8 hb]
 exact e
def J1q (CR : Addr) : Sp := fun vs H Q _ => ∃ x t b n, vs = [.ref x] /\ C5m CR H x t b n /\ Sz t /\ Sz b /\ ∀ f H', B7 H H' -> A2t t b (n - f) -> Q (.int f) H'
def Y1c (CR : Addr) : Sp := fun vs H Q _ => ∃ x t b n p, vs = [.ref x, .int p] /\ C5m CR H x t b n /\ Sz t /\ Sz b /\ -1500 <= n - p /\ n - p <= 1500 /\
 ∀ q H', B7 H H' -> H q = none -> H' q = some (.tup [.int (whI t b (n - p)), .int (ptI t b (n - p))]) -> Q (.ref q) H'
structure A0dh (P : Program) (w : World) (K : Frag) (mg : Str -> Option Value) (base : Heap) (CR fI : Addr) (fdI : FuncData) (d0 : Value) (gP : List Value -> List Value -> List Value) (vP : List V -> List V -> List V) : Prop where
 m : Mk K CR fI
 g : sI P w K mg base 1 fI fdI Q14 (D9d CR)
 b3 : A0c K fdI Q14 []
 b2 : A0c K fdI Q14 [d0]
 r0 : U5 (.int 0) d0
 kP : A0gb K fdI Q14 ["power"] gP vP
 eP : ∀ x a b c, vP [x, a, b] [c] = [x, a, b, c]
structure RatM (P : Program) (w : World) (K : Frag) (mg : Str -> Option Value) (base : Heap) (CR f1 f2 : Addr) (fd1 fd2 : FuncData) : Prop where
 m1 : Z7 K CR "first" f1
 g1 : sI P w K mg base 4 f1 fd1 ["self"] (J1q CR)
 b1 : A0c K fd1 ["self"] []
 m2 : Z7 K CR "at" f2
 g2 : sI P w K mg base 3 f2 fd2 Q21 (Y1c CR)
 b2 : A0c K fd2 Q21 []
theorem A0mm {CR x dx : Addr} {H : Hp} {Q : VK} {E : XK} {t b n : Int} (n1 : H x = none) (n2 : H dx = none) (ne : dx ≠ x) (k : ∀ H', B7 H H' -> C5m CR H' x t b n -> Q .non H') :
   D9d CR [.ref x, .int t, .int b, .int n] (upd (upd H dx (.own x)) x (.ins CR dx [])) Q E :=
 ⟨x, dx, _, _, _, rfl, A8, fun H' e s => k H' (fun c o z => s c o (by rw [C8 (D5 z n1), C8 (D5 z n2)]; exact z) (D5 z n1)) ⟨dx, e⟩⟩
abbrev A7t : Stmt := (top 7)
def J1f : Sp := fun vs H Q _ => ∃ l m : Int, vs = [.int (2 * l), .int m] /\ 0 <= l /\ 0 < m /\ Q (.int (U6 l m)) H
theorem V8r : B9 Q22 Q22 (A1 A7t) := scK
theorem Z8e {m : Int} (hm : 0 < m) : U6 0 m = 0 := by
 unfold U6
 rw [decide_eq_false (by omega : ¬ (0 : Int) < 0), decide_eq_false (by omega : ¬ m <= 2 * 0), decide_eq_false (by omega : ¬ m < 2 * 0)]
 rfl
theorem Z7j {l m : Int} (hl : 0 < l) (h : 2 * l < m) : U6 l m = 1 := by
 unfold U6
 rw [decide_eq_true hl, decide_eq_false (by omega : ¬ m <= 2 * l), decide_eq_false (by omega : ¬ m < 2 * l)]
 rfl
theorem Z6k {l m : Int} (hl : 0 < l) (h : 2 * l = m) : U6 l m = 2 := by
 unfold U6
 rw [decide_eq_true hl, decide_eq_true (by omega : m <= 2 * l), decide_eq_false (by omega : ¬ m < 2 * l)]
 rfl
theorem Z8t {l m : Int} (hl : 0 < l) (h : m < 2 * l) : U6 l m = 3 := by
 unfold U6
 rw [decide_eq_true hl, decide_eq_true (by omega : m <= 2 * l), decide_eq_true h]
 rfl
theorem V2m {f : Addr} {fd : FuncData} (D : Def K mg "part_of" Q22 A7t f fd) : sI P w K mg base 1 f fd Q22 J1f := by
 refine C4.up (D.F.ok V8r (fun vs H Q E h => ?_) (fun cdv A outer s H vs Q E hr h => ?_))
 . obtain ⟨l, m, rfl, _⟩ := h
   rfl
 obtain ⟨l, m, rfl, hl, hm, k⟩ := h
 refine ⟨_, (A7 (G4 (C6 D6 (pv 0) A3 (C5 _)) (A9 (B8 A3)) D3) (A7 (G4 (C6 C7d (pv 0) (pv 1) (C5 _)) (A9 (B8 A3)) D3) (A9 (B8 (A0f (C6 D6 (pv 0) (pv 1) (C5 _)) A3 A3))))), ?_⟩
 refine ⟨_, rfl, rfl, _, rfl, J0 (fun h0 => ?_) (fun h0 => ?_)⟩
 . have e : l = 0 := by
     have : 2 * l = 0 := by injection h0
     omega
   subst e
   rw [Z8e hm] at k
   exact k
 have hl' : 0 < l := by
   apply Classical.byContradiction
   intro z
   exact h0 (by rw [show l = 0 by omega]; rfl)
 refine ⟨_, rfl, _, rfl, _, _, rfl, rfl, _, rfl, J0 (fun h1 => ?_) (fun h1 => ?_)⟩
 . rw [Z7j hl' h1] at k
   exact k
 refine ⟨_, rfl, _, rfl, rfl, _, rfl, J0 (fun h2 => ?_) (fun h2 => ?_)⟩
 . rw [Z6k hl' (by injection h2)] at k
   exact k
 rw [Z8t hl' (by
   have : 2 * l ≠ m := fun z => h2 (by rw [z])
   omega)] at k
 exact k
abbrev B1g : Stmt := (top 8)
theorem J7f (k : Nat) : 10 ^ (k * 301029995 / 10 ^ 9) <= 2 ^ k := by
 have hm : k * 301029995 / 10 ^ 9 * 28738 <= k * 8651 := by
   have : k * 301029995 / 10 ^ 9 * 10 ^ 9 <= k * 301029995 := Nat.div_mul_le_self _ _
   omega
 generalize k * 301029995 / 10 ^ 9 = m at hm
 have c : (10 : Nat) ^ 8651 <= 2 ^ 28738 := by decide +kernel
 have a : (10 ^ m) ^ 8651 <= (2 ^ k) ^ 8651 := by
   calc (10 ^ m) ^ 8651 = (10 ^ 8651) ^ m := by rw [<- Nat.pow_mul, <- Nat.pow_mul, Nat.mul_comm]
     _ <= (2 ^ 28738) ^ m := Nat.pow_le_pow_left c m
     _ = 2 ^ (m * 28738) := by rw [<- Nat.pow_mul, Nat.mul_comm]
     _ <= 2 ^ (k * 8651) := Nat.pow_le_pow_right (by decide) hm
     _ = (2 ^ k) ^ 8651 := by rw [<- Nat.pow_mul]
 exact (Nat.pow_le_pow_iff_left (by decide)).mp a
def U9g : Sp := fun vs H Q _ => ∃ n : Nat, vs = [.int (n : Int)] /\ 1 <= n /\ n < 10 ^ 3000 /\ ∀ L : Nat, 10 ^ L <= n -> n < 10 ^ (L + 1) -> Q (.int (L : Int)) H
theorem scWLead : B9 ["whole", "lead", "beyond"] ["whole"] (A1 B1g) := scK
theorem V8k {f f1 : Addr} {fd fd1 : FuncData} (D : Def K mg "whole_lead" ["whole"] B1g f fd) (D_ten_to : Def K mg "ten_to" ["count"] A1v f1 fd1) (G_ten_to : sI P w K mg base 2 f1 fd1 ["count"] A7k) : sI P w K mg base 3 f fd ["whole"] U9g := by
 refine C4.up (D.F.ok scWLead (fun vs H Q E h => ?_) (fun cdv A outer s H vs Q E hr h => ?_))
 . obtain ⟨n, rfl, _⟩ := h
   rfl
 obtain ⟨n, rfl, n1, n2, k⟩ := h
 have hx : G7 (A0w CX0 P w K mg base ["whole", "lead", "beyond"] "whole_lead" (A1 B1g) f cdv A outer s H E).nox EKF := A0a
 refine ⟨_, (A7 (B4 (D0 (i := 1) scWLead.nd rfl (Or.inl rfl) (B3 G3 (B3 U9 (B3 V0 (A0eu PySem.F.plainAttrs_int PySem.F.slot_int_bit_length PySem.F.type_int_bit_length D2p (pv 0)) A3) A3) (B3 J7g A3 A3)))) (A7 (B4 (D0 (i := 2) scWLead.nd rfl (Or.inl rfl) (D4 D_ten_to G_ten_to hr hx (A0 (B3 V6 (pv 1) A3) A6)))) (A7 (B4 (B0h PassesOwn.never (C6 A0cz (pv 2) (pv 0) (C5 _)) (A7 (A0ex (i := 1) scWLead.nd rfl (Or.inl rfl) A3 A0fr) (A9 (D0 (i := 2) scWLead.nd rfl (Or.inl rfl) (B3 U9 (pv 2) A3)))))) (A9 (B8 (pv 1)))))), ?_⟩
 have mC : ∀ z n : Int, -(2 ^ 64) < n -> n < 2 ^ 64 -> IntMulOk z n := fun z n a b => B5n.ok (.inr ⟨a, b⟩)
 have pw : Z6m 10 9 := ⟨by decide, by decide, by decide⟩
 have l3 : ∀ {L : Nat}, 10 ^ L <= n -> L < 3000 := fun hL => (Nat.pow_lt_pow_iff_right (by decide : 1 < 10)).mp (Nat.lt_of_le_of_lt hL n2)
 refine ⟨fun σ H' => H' = H /\ ∃ L : Nat, 10 ^ L <= n /\ σ = [si (n : Int), si (L : Int), none], ?_, ?_⟩
 . refine ⟨_, rfl, rfl, _, rfl, rfl, _, _, rfl, rfl, _, _, rfl, rfl, mC _ _ (by decide) (by decide), _, _, rfl, rfl, pw, _, _, rfl, rfl, ⟨by decide, by decide +kernel⟩, rfl, n.log2 * 301029995 / 10 ^ 9, ?_, ?_⟩
   . exact Nat.le_trans (J7f _) (Nat.log2_self_le (by omega))
   . have e : (Builtin.Int.intBits (n : Int) : Nat) = n.log2 + 1 := by
       unfold Builtin.Int.intBits
       rw [if_neg (by simp; omega)]
       rfl
     show [si (n : Int), si ((((Builtin.Int.intBits (n : Int) : Nat) : Int) - 1) * 301029995 / (10 ^ Int.toNat 9 : Int)), none] = _
     rw [e, show ((n.log2 + 1 : Nat) : Int) - 1 = (n.log2 : Int) by omega]
     rfl
 rintro σ H' ⟨rfl, L0, hL0, rfl⟩
 refine ⟨fun σ H2 => H2 = H' /\ ∃ L : Nat, 10 ^ L <= n /\ σ = [si (n : Int), si (L : Int), si ((10 ^ (L + 1) : Nat) : Int)], ?_, ?_⟩
 . have := l3 hL0
   exact ⟨_, rfl, _, _, rfl, rfl, L0 + 1, rfl, by omega, rfl, L0, hL0, rfl⟩
 rintro σ H2 ⟨rfl, L1, hL1, rfl⟩
 refine ⟨fun σ H3 => H3 = H2 /\ ∃ L : Nat, 10 ^ L <= n /\ n < 10 ^ (L + 1) /\ σ = [si (n : Int), si (L : Int), si ((10 ^ (L + 1) : Nat) : Int)], ?_, ?_⟩
 . refine B0u (fun σ H3 => H3 = H2 /\ ∃ L : Nat, 10 ^ L <= n /\ σ = [si (n : Int), si (L : Int), si ((10 ^ (L + 1) : Nat) : Int)]) (fun σ _ => match σ with | [_, some (.int c), _] => n - c.toNat | _ => 0) ?_ ?_ ?_
   . exact ⟨rfl, L1, hL1, rfl⟩
   . rintro σ H3 ⟨rfl, L, hL, rfl⟩
     refine ⟨_, rfl, _, rfl, _, _, rfl, rfl, _, rfl, J0 (fun hle => ?_) (fun hgt => ?_)⟩
     . have hle : 10 ^ (L + 1) <= n := Int.ofNat_le.mp hle
       refine ⟨_, rfl, _, _, rfl, rfl, _, rfl, _, _, rfl, rfl, mC _ _ (by decide) (by decide), ⟨rfl, L + 1, hle, ?_⟩, ?_⟩
       . show [si (n : Int), si ((L : Int) + 1), si (((10 ^ (L + 1) : Nat) : Int) * 10)] = _
         rw [show ((10 ^ (L + 1) : Nat) : Int) * 10 = ((10 ^ (L + 1 + 1) : Nat) : Int) by rw [Nat.pow_succ 10 (L + 1)]; rfl]
         rfl
       have lt : L + 1 < 10 ^ (L + 1) := Nat.lt_pow_self (by decide)
       show n - ((L : Int) + 1).toNat < n - (L : Int).toNat
       omega
     . have hgt : ¬ 10 ^ (L + 1) <= n := fun z => hgt (Int.ofNat_le.mpr z)
       exact ⟨rfl, L, hL, by omega, rfl⟩
   . rintro σ H2 Q1 Q2 hQ ⟨v, e, v2, e4, i2, j2, e5, e6, b, e7, q⟩
     exact ⟨v, e, v2, e4, i2, j2, e5, e6, b, e7, hQ _ _ q⟩
 rintro σ H3 ⟨rfl, L, h1, h2, rfl⟩
 exact ⟨_, rfl, k L h1 h2⟩
abbrev C7m : Stmt := (G8 (top 6) 2)
abbrev A4s : Stmt := (G8 (top 6) 1)
theorem scRAt : B9 Q44 Q21 (A1 C7m) := scK
theorem A0eq {f f1 f2 CR CE : Addr} {fd fd1 fd2 : FuncData} (F : Fun K "at" "Ratio.at" C7m f fd) (D_ten_to : Def K mg "ten_to" ["count"] A1v f1 fd1) (G_ten_to : sI P w K mg base 2 f1 fd1 ["count"] A7k)
   (D_part_of : Def K mg "part_of" Q22 A7t f2 fd2) (G_part_of : sI P w K mg base 1 f2 fd2 Q22 J1f) (R : J8k K mg CR CE) (O : Own mg) : sI P w K mg base 3 f fd Q21 (Y1c CR) := by
 refine C4.up (F.ok scRAt (fun vs H Q E h => ?_) (fun cdv A outer s H vs Q E hr h => ?_))
 . obtain ⟨x, t, b, n, p, rfl, _⟩ := h
   rfl
 obtain ⟨x, t, b, n, p, rfl, ⟨dx, e⟩, ht, hb, h1, h2, k⟩ := h
 have hx : G7 (A0w CX0 P w K mg base Q44 "Ratio.at" (A1 C7m) f cdv A outer s H E).nox EKF := A0a
 refine ⟨_, (A7 (D0 (i := 2) scRAt.nd rfl (Or.inl rfl) (B3 V0 (G6 (pv 0) rfl) (pv 1))) (A7 (D0 (i := 3) scRAt.nd rfl (Or.inl rfl) (B3 U9 (G6 (pv 0) rfl) (D4 D_ten_to G_ten_to hr hx (A0 (G5 (V9 rfl) (by rfl) O.max_ boot_max (A0 (pv 2) (A0 A3 A6))) A6)))) (A7 (D0 (i := 4) scRAt.nd rfl (Or.inl rfl) (B3 U9 (G6 (pv 0) rfl) (D4 D_ten_to G_ten_to hr hx (A0 (G5 (V9 rfl) (by rfl) O.max_ boot_max (A0 (C7p B6f (pv 2)) (A0 A3 A6))) A6)))) (A7 (D0 (i := 5) scRAt.nd rfl (Or.inl rfl) (B3 G3 (pv 3) (pv 4))) (A9 (B8 (U1 (A0 (pv 5) (A0 (D4 D_part_of G_part_of hr hx (A0 (B3 U9 A3 (B3 V0 (pv 3) (B3 U9 (pv 5) (pv 4)))) (A0 (pv 4) A6))) A6))))))))), ?_⟩
 have z2 : 2 <= sizeLine := C9 (by decide)
 have mC' : ∀ z n : Int, -(2 ^ 64) < n -> n < 2 ^ 64 -> IntMulOk n z := fun z n a b => B5n.ok (.inl ⟨a, b⟩)
 have hb0 : 0 < b := by have := hb.1; omega
 refine ⟨_, rfl, x, CR, dx, _, _, rfl, e, R.cl, R.n_power, D6k _ _ _, _, rfl, _, _, rfl, rfl, ?_⟩
 refine ⟨_, rfl, x, CR, dx, _, _, rfl, e, R.cl, R.n_top, U9x _ _ _, _, rfl, _, _, rfl, (n - p).toNat, congrArg (fun z => [V.int z]) (maxT (n - p)), by omega, _, _, rfl, rfl, B0p ht h2, ?_⟩
 refine ⟨_, rfl, x, CR, dx, _, _, rfl, e, R.cl, R.n_bottom, C7a _ _ _, _, rfl, _, rfl, _, _, rfl, (-(n - p)).toNat, congrArg (fun z => [V.int z]) (maxT (-(n - p))), by omega, _, _, rfl, rfl, B0p hb (by omega), ?_⟩
 have lp : 0 < b * C7 (-(n - p)) := Int.mul_pos hb0 (V1 _)
 have ll : (b * C7 (-(n - p))).natAbs.log2 < 9000 := V7y hb (by omega)
 refine ⟨_, rfl, _, rfl, _, _, rfl, rfl, ⟨lp, ll⟩, ?_⟩
 have lf := U9v (t := t) (s := n - p) hb0
 refine ⟨_, rfl, _, rfl, _, rfl, _, rfl, _, _, rfl, rfl, A0nq ht hb h1 h2, _, _, rfl, rfl, _, _, rfl, rfl, mC' _ _ (by decide) (by decide), _, rfl, _, _, rfl, lf.1, lp, z2, fun q nq => k q _ (B7.upd nq) nq A8⟩
theorem A0fm {t b L M u v : Nat} (h : L + u = M + v) (t2 : t < 10 ^ (L + 1)) (b1 : 10 ^ M <= b) : t * 10 ^ u < 10 * (b * 10 ^ v) := by
 have p : 0 < 10 ^ u := Nat.pow_pos (by decide)
 calc t * 10 ^ u < 10 ^ (L + 1) * 10 ^ u := Nat.mul_lt_mul_of_pos_right t2 p
   _ = 10 * (10 ^ M * 10 ^ v) := by rw [<- Nat.pow_add, <- Nat.pow_add, <- h, show L + 1 + u = (L + u) + 1 by omega, Nat.pow_succ, Nat.mul_comm]
   _ <= 10 * (b * 10 ^ v) := Nat.mul_le_mul_left 10 (Nat.mul_le_mul_right _ b1)
theorem A0ej {t b L M u v : Nat} (h : L + u = M + 1 + v) (t1 : 10 ^ L <= t) (b2 : b < 10 ^ (M + 1)) : b * 10 ^ v <= t * 10 ^ u := by
 calc b * 10 ^ v <= 10 ^ (M + 1) * 10 ^ v := Nat.mul_le_mul_right _ (Nat.le_of_lt b2)
   _ = 10 ^ L * 10 ^ u := by rw [<- Nat.pow_add, <- Nat.pow_add, h]
   _ <= t * 10 ^ u := Nat.mul_le_mul_right _ t1
theorem B9v {t b L M : Nat} (t1 : 10 ^ L <= t) (t2 : t < 10 ^ (L + 1)) (b1 : 10 ^ M <= b) (b2 : b < 10 ^ (M + 1)) (h : (b : Int) * C7 (-((M : Int) - L)) <= (t : Int) * C7 ((M : Int) - L)) : A2t t b ((M : Int) - L) := by
 refine ⟨h, ?_⟩
 unfold C7
 have := A0fm (t := t) (b := b) (L := L) (M := M) (u := ((M : Int) - L).toNat) (v := (-((M : Int) - L)).toNat) (by omega) t2 b1
 exact Int.ofNat_lt.mpr this
theorem B6h {t b L M : Nat} (t1 : 10 ^ L <= t) (t2 : t < 10 ^ (L + 1)) (b1 : 10 ^ M <= b) (b2 : b < 10 ^ (M + 1)) (h : (t : Int) * C7 ((M : Int) - L) < (b : Int) * C7 (-((M : Int) - L))) : A2t t b ((M : Int) - L + 1) := by
 refine ⟨?_, ?_⟩
 . unfold C7
   have := A0ej (t := t) (b := b) (L := L) (M := M) (u := ((M : Int) - L + 1).toNat) (v := (-((M : Int) - L + 1)).toNat) (by omega) t1 b2
   exact Int.ofNat_le.mpr this
 have hb : 0 < (b : Int) := by
   have : 0 < 10 ^ M := Nat.pow_pos (by decide)
   omega
 generalize (M : Int) - L = s at h
 have c := C8t (s := s) (r := s + 1) (by omega)
 have e1 : C7 (s + 1 - s) = 10 := by rw [show s + 1 - s = 1 by omega]; rfl
 rw [e1] at c
 have l := Int.mul_pos hb (V1 (-s))
 have l' := Int.mul_pos hb (V1 (-(s + 1)))
 have e : (t : Int) * C7 (s + 1) * ((b : Int) * C7 (-s)) = (t : Int) * C7 s * ((b : Int) * C7 (-(s + 1))) * 10 := by
   calc (t : Int) * C7 (s + 1) * ((b : Int) * C7 (-s)) = t * b * (C7 (s + 1) * C7 (-s)) := by ac_rfl
     _ = t * b * (C7 s * C7 (-(s + 1)) * 10) := by rw [c]
     _ = (t : Int) * C7 s * ((b : Int) * C7 (-(s + 1))) * 10 := by ac_rfl
 have a : (t : Int) * C7 s * ((b : Int) * C7 (-(s + 1))) < (b : Int) * C7 (-s) * ((b : Int) * C7 (-(s + 1))) := Int.mul_lt_mul_of_pos_right h l'
 have a2 : (t : Int) * C7 (s + 1) * ((b : Int) * C7 (-s)) < 10 * ((b : Int) * C7 (-(s + 1))) * ((b : Int) * C7 (-s)) := by
   rw [e, show 10 * ((b : Int) * C7 (-(s + 1))) * ((b : Int) * C7 (-s)) = (b : Int) * C7 (-s) * ((b : Int) * C7 (-(s + 1))) * 10 by ac_rfl]
   exact Int.mul_lt_mul_of_pos_right a (by decide)
 exact Int.lt_of_mul_lt_mul_right a2 (Int.le_of_lt l)
theorem scRFirst : B9 ["self", "guess"] ["self"] (A1 A4s) := scK
theorem V3e {f f1 f2 CR CE : Addr} {fd fd1 fd2 : FuncData} (F : Fun K "first" "Ratio.first" A4s f fd) (D_whole_lead : Def K mg "whole_lead" ["whole"] B1g f1 fd1) (G_whole_lead : sI P w K mg base 3 f1 fd1 ["whole"] U9g)
   (MA : Z7 K CR "at" f2) (GA : sI P w K mg base 3 f2 fd2 Q21 (Y1c CR)) (BA : A0c K fd2 Q21 []) (R : J8k K mg CR CE) : sI P w K mg base 4 f fd ["self"] (J1q CR) := by
 refine C4.up (F.ok scRFirst (fun vs H Q E h => ?_) (fun cdv A outer s H vs Q E hr h => ?_))
 . obtain ⟨x, t, b, n, rfl, _⟩ := h
   rfl
 obtain ⟨x, t, b, n, rfl, ra, ht, hb, k⟩ := h
 have hx : G7 (A0w CX0 P w K mg base ["self", "guess"] "Ratio.first" (A1 A4s) f cdv A outer s H E).nox EKF := A0a
 refine ⟨_, (A7 (D0 (i := 1) scRFirst.nd rfl (Or.inl rfl) (B3 V6 (B3 V0 (D4 D_whole_lead G_whole_lead hr hx (A0 (G6 (pv 0) rfl) A6)) (D4 D_whole_lead G_whole_lead hr hx (A0 (G6 (pv 0) rfl) A6))) (G6 (pv 0) rfl))) (A9 (B8 (A0f (C6 B5u (J1 G9 (B5v (pv 0) R.cl MA GA hr BA .nil hx (A0 (pv 1) A6)) A3 (fun _ _ => rfl)) A3 (C5 _)) (pv 1) (B3 V0 (pv 1) A3))))), ?_⟩
 obtain ⟨tn, rfl, ta, tb⟩ := ht.nat
 obtain ⟨bn, rfl, ba, bb⟩ := hb.nat
 obtain ⟨dx, e⟩ := id ra
 have p30 : (10 : Nat) ^ 1000 < 10 ^ 3000 := Nat.pow_lt_pow_right (by decide) (by decide)
 have p30' : ∀ {L m : Nat}, 10 ^ L <= m -> m < 10 ^ 1000 -> L < 1000 := fun h1 h2 => (Nat.pow_lt_pow_iff_right (by decide : 1 < 10)).mp (Nat.lt_of_le_of_lt h1 h2)
 refine ⟨_, rfl, x, CR, dx, _, _, rfl, e, R.cl, R.n_top, U9x _ _ _, tn, rfl, ta, Nat.lt_trans tb p30, fun L L1 L2 => ?_⟩
 refine ⟨_, rfl, x, CR, dx, _, _, rfl, e, R.cl, R.n_bottom, C7a _ _ _, bn, rfl, ba, Nat.lt_trans bb p30, fun M' M1 M2 => ?_⟩
 have l30 := p30' L1 tb
 have m30 := p30' M1 bb
 refine ⟨_, _, rfl, rfl, _, rfl, x, CR, dx, _, _, rfl, e, R.cl, R.n_power, D6k _ _ _, _, _, rfl, rfl, ?_⟩
 have es : n - ((L : Int) - M' + n) = (M' : Int) - L := by omega
 refine ⟨_, rfl, x, dx, _, rfl, e, D6m _ _ _, _, rfl, x, tn, bn, n, _, rfl, ra, ht, hb, by omega, by omega, fun q H1 s1 nq hq => ?_⟩
 rw [es] at hq
 refine ⟨q, _, 0, _, rfl, rfl, SqT.of hq, J9 (j := 0) rfl, _, _, rfl, rfl, _, rfl, ?_⟩
 have lp : 0 < (bn : Int) * C7 (-((M' : Int) - L)) := Int.mul_pos (by omega) (V1 _)
 refine J0 (fun hg => ?_) (fun hg => ?_)
 . have hle : (bn : Int) * C7 (-((M' : Int) - L)) <= (tn : Int) * C7 ((M' : Int) - L) := by
     have := (Int.le_ediv_iff_mul_le lp).mp (show (1 : Int) <= (tn : Int) * C7 ((M' : Int) - L) / ((bn : Int) * C7 (-((M' : Int) - L))) from hg)
     omega
   refine ⟨_, rfl, k _ H1 s1 ?_⟩
   rw [es]
   exact B9v L1 L2 M1 M2 hle
 have hlt : (tn : Int) * C7 ((M' : Int) - L) < (bn : Int) * C7 (-((M' : Int) - L)) := by
   apply Classical.byContradiction
   intro z
   exact hg ((Int.le_ediv_iff_mul_le lp).mpr (by omega))
 refine ⟨_, rfl, _, _, rfl, rfl, k _ H1 s1 ?_⟩
 rw [show n - ((L : Int) - M' + n - 1) = (M' : Int) - L + 1 by omega]
 exact B6h L1 L2 M1 M2 hlt
inductive Wy where
 | down
 | up
 | floor
 | ceiling
 | halfUp
 | halfDown
 | halfEven
 | fiveUp
def Wy.name : Wy -> Str
 | .down => "down"
 | .up => "up"
 | .floor => "floor"
 | .ceiling => "ceiling"
 | .halfUp => "half up"
 | .halfDown => "half down"
 | .halfEven => "half even"
 | .fiveUp => "five up"
def Wy.cls : Wy -> Str
 | .down => "Down"
 | .up => "Up"
 | .floor => "Floor"
 | .ceiling => "Ceiling"
 | .halfUp => "HalfUp"
 | .halfDown => "HalfDown"
 | .halfEven => "HalfEven"
 | .fiveUp => "FiveUp"
theorem Wy.inj {a b : Wy} (h : a.name = b.name) : a = b := by
 cases a <;> cases b <;> first | rfl | exact absurd h (by decide +kernel)
structure C6d (K : Frag) (mg : Str -> Option Value) (x : Str) (C CW : Addr) : Prop where
 g : mg x = some (.ref C)
 cl : Cls K C
 mk0 : Mk0 K C
 ca : findIn K (.ref C) "__class__" = some (some (.builtin "object.__class__"))
 sn : specialIn K (.builtin "object.__class__") "__get__" = some (some (.builtin "getset_descriptor.__get__"))
 tk : takesIn K (.builtin "object.__class__") = some true
 ob : mroIn K C (.type "object") = some true
 up : kitOne K (.ref C) (.ref CW) = some true
def A7y (s : Str) : Sp := fun vs H Q _ => ∃ p, vs = [.ref p] /\ Q (.str s) H
def WayN (P : Program) (w : World) (K : Frag) (mg : Str -> Option Value) (base : Heap) (C : Addr) (s : Str) : Prop := Has P w K mg base C "name" 1 ["self"] (A7y s)
abbrev sN0 : Stmt := (G8 (top 49) 0)
theorem scN0 : B9 ["self"] ["self"] (A1 sN0) := scK
theorem A0mx {f : Addr} {fd : FuncData} (F : Fun K "name" "Down.name" sN0 f fd) : sI P w K mg base 1 f fd ["self"] (A7y "down") := by
 refine C4.up (F.ok scN0 (fun vs H Q E h => ?_) (fun cdv A outer s H vs Q E hr h => ?_))
 . obtain ⟨p, rfl, _⟩ := h
   rfl
 obtain ⟨p, rfl, k⟩ := h
 exact ⟨_, A9 (B8 B0), k⟩
abbrev sN1 : Stmt := (G8 (top 50) 0)
theorem scN1 : B9 ["self"] ["self"] (A1 sN1) := scK
theorem A0nj {f : Addr} {fd : FuncData} (F : Fun K "name" "Up.name" sN1 f fd) : sI P w K mg base 1 f fd ["self"] (A7y "up") := by
 refine C4.up (F.ok scN1 (fun vs H Q E h => ?_) (fun cdv A outer s H vs Q E hr h => ?_))
 . obtain ⟨p, rfl, _⟩ := h
   rfl
 obtain ⟨p, rfl, k⟩ := h
 exact ⟨_, A9 (B8 B0), k⟩
abbrev sN2 : Stmt := (G8 (top 51) 0)
theorem scN2 : B9 ["self"] ["self"] (A1 sN2) := scK
theorem A0my {f : Addr} {fd : FuncData} (F : Fun K "name" "Floor.name" sN2 f fd) : sI P w K mg base 1 f fd ["self"] (A7y "floor") := by
 refine C4.up (F.ok scN2 (fun vs H Q E h => ?_) (fun cdv A outer s H vs Q E hr h => ?_))
 . obtain ⟨p, rfl, _⟩ := h
   rfl
 obtain ⟨p, rfl, k⟩ := h
 exact ⟨_, A9 (B8 B0), k⟩
abbrev sN3 : Stmt := (G8 (top 52) 0)
theorem scN3 : B9 ["self"] ["self"] (A1 sN3) := scK
theorem A0ky {f : Addr} {fd : FuncData} (F : Fun K "name" "Ceiling.name" sN3 f fd) : sI P w K mg base 1 f fd ["self"] (A7y "ceiling") := by
 refine C4.up (F.ok scN3 (fun vs H Q E h => ?_) (fun cdv A outer s H vs Q E hr h => ?_))
 . obtain ⟨p, rfl, _⟩ := h
   rfl
 obtain ⟨p, rfl, k⟩ := h
 exact ⟨_, A9 (B8 B0), k⟩
abbrev sN4 : Stmt := (G8 (top 53) 0)
theorem scN4 : B9 ["self"] ["self"] (A1 sN4) := scK
theorem A0nu {f : Addr} {fd : FuncData} (F : Fun K "name" "HalfUp.name" sN4 f fd) : sI P w K mg base 1 f fd ["self"] (A7y "half up") := by
 refine C4.up (F.ok scN4 (fun vs H Q E h => ?_) (fun cdv A outer s H vs Q E hr h => ?_))
 . obtain ⟨p, rfl, _⟩ := h
   rfl
 obtain ⟨p, rfl, k⟩ := h
 exact ⟨_, A9 (B8 B0), k⟩
abbrev sN5 : Stmt := (G8 (top 54) 0)
theorem scN5 : B9 ["self"] ["self"] (A1 sN5) := scK
theorem A0nr {f : Addr} {fd : FuncData} (F : Fun K "name" "HalfDown.name" sN5 f fd) : sI P w K mg base 1 f fd ["self"] (A7y "half down") := by
 refine C4.up (F.ok scN5 (fun vs H Q E h => ?_) (fun cdv A outer s H vs Q E hr h => ?_))
 . obtain ⟨p, rfl, _⟩ := h
   rfl
 obtain ⟨p, rfl, k⟩ := h
 exact ⟨_, A9 (B8 B0), k⟩
abbrev sN6 : Stmt := (G8 (top 55) 0)
theorem scN6 : B9 ["self"] ["self"] (A1 sN6) := scK
theorem A0mr {f : Addr} {fd : FuncData} (F : Fun K "name" "HalfEven.name" sN6 f fd) : sI P w K mg base 1 f fd ["self"] (A7y "half even") := by
 refine C4.up (F.ok scN6 (fun vs H Q E h => ?_) (fun cdv A outer s H vs Q E hr h => ?_))
 . obtain ⟨p, rfl, _⟩ := h
   rfl
 obtain ⟨p, rfl, k⟩ := h
 exact ⟨_, A9 (B8 B0), k⟩
abbrev sN7 : Stmt := (G8 (top 56) 0)
theorem scN7 : B9 ["self"] ["self"] (A1 sN7) := scK
theorem A0pa {f : Addr} {fd : FuncData} (F : Fun K "name" "FiveUp.name" sN7 f fd) : sI P w K mg base 1 f fd ["self"] (A7y "five up") := by
 refine C4.up (F.ok scN7 (fun vs H Q E h => ?_) (fun cdv A outer s H vs Q E hr h => ?_))
 . obtain ⟨p, rfl, _⟩ := h
   rfl
 obtain ⟨p, rfl, k⟩ := h
 exact ⟨_, A9 (B8 B0), k⟩
def A0cx (K : Frag) (H : Hp) (v : V) : Prop := ∃ t b, TyE K H v t /\ kitOne K t (.type "str") = some b /\ (b = false \/ ∃ z, v = .str z /\ ∀ y : Wy, z ≠ y.name)
theorem B0w {C : Addr} {σ : L2.St} {H : Hp} {Q : VK} (k : ∀ p dx H', H p = none -> B7 H H' -> H' p = some (.ins C dx []) -> Q (.ref p) H') : tNew C σ H Q := fun x dx n1 n2 ne =>
 k x dx _ n1 ((B7.upd n2).trans (B7.upd (by rw [C8 (Ne.symm ne)]; exact n1))) A8
abbrev B0k : Stmt := (top 57)
def D9b (K : Frag) (CB : Addr) (cw : Wy -> Addr) : Sp := fun vs H Q E => ∃ v, vs = [v] /\ ((∃ y : Wy, v = .str y.name /\ ∀ p dx H', H p = none -> B7 H H' -> H' p = some (.ins (cw y) dx []) -> Q (.ref p) H') \/ (A0cx K H v /\ E (.ref CB) none H))
theorem Z7x : B9 ["name"] ["name"] (A1 B0k) := scK
theorem V8z {f CB CW : Addr} {cw : Wy -> Addr} {fd : FuncData} (D : Def K mg "way_of" ["name"] B0k f fd) (O : Own mg) (T : Kit K) (B : Err K mg "BadContext" CB) (W : ∀ y : Wy, C6d K mg y.cls (cw y) CW) :
   sI P w K mg base 1 f fd ["name"] (D9b K CB cw) := by
 refine D.F.okE Z7x (fun vs H Q E h => ?_) (fun X cdv A outer s H vs Q E hX hr hx h => ?_)
 . obtain ⟨v, rfl, _⟩ := h
   rfl
 subst hX
 obtain ⟨v, rfl, h⟩ := h
 refine ⟨_, (A7 (G4 (A7s (A0g (V2k O.isi (pv 0) (pty O.str_ boot_str)))) (A9 (A4r (by rfl) B.g B.q PySem.F.excBase_ValueError hr.hd hx (A0 B0 A6))) D3) (A7 (G4 (C6 D6 (pv 0) B0 (C5 _)) (A9 (B8 (B0z (W .down).mk0 rfl (W .down).g))) D3) (A7 (G4 (C6 D6 (pv 0) B0 (C5 _)) (A9 (B8 (B0z (W .up).mk0 rfl (W .up).g))) D3) (A7 (G4 (C6 D6 (pv 0) B0 (C5 _)) (A9 (B8 (B0z (W .floor).mk0 rfl (W .floor).g))) D3) (A7 (G4 (C6 D6 (pv 0) B0 (C5 _)) (A9 (B8 (B0z (W .ceiling).mk0 rfl (W .ceiling).g))) D3) (A7 (G4 (C6 D6 (pv 0) B0 (C5 _)) (A9 (B8 (B0z (W .halfUp).mk0 rfl (W .halfUp).g))) D3) (A7 (G4 (C6 D6 (pv 0) B0 (C5 _)) (A9 (B8 (B0z (W .halfDown).mk0 rfl (W .halfDown).g))) D3) (A7 (G4 (C6 D6 (pv 0) B0 (C5 _)) (A9 (B8 (B0z (W .halfEven).mk0 rfl (W .halfEven).g))) D3) (A7 (G4 (C6 D6 (pv 0) B0 (C5 _)) (A9 (B8 (B0z (W .fiveUp).mk0 rfl (W .fiveUp).g))) D3) (A9 (A4r (by rfl) B.g B.q PySem.F.excBase_ValueError hr.hd hx (A0 B0 A6)))))))))))), ?_⟩
 have z1 : 1 <= sizeLine := C9 (by decide)
 rcases h with ⟨y, rfl, k⟩ | ⟨⟨t, b, ty, kk, bad⟩, k⟩
 . refine ⟨_, rfl, _, _, _, _, true, rfl, rfl, Y1f _, T.str_str, _, rfl, U2 ?_⟩
   refine ⟨_, rfl, rfl, _, rfl, J0 (fun e => ?_) (fun n0 => ?_)⟩
   . have q : y = .down := Wy.inj (V.str.inj (e : V.str y.name = V.str (Wy.name .down)))
     subst q
     exact B0w k
   refine ⟨_, rfl, rfl, _, rfl, J0 (fun e => ?_) (fun n1 => ?_)⟩
   . have q : y = .up := Wy.inj (V.str.inj (e : V.str y.name = V.str (Wy.name .up)))
     subst q
     exact B0w k
   refine ⟨_, rfl, rfl, _, rfl, J0 (fun e => ?_) (fun n2 => ?_)⟩
   . have q : y = .floor := Wy.inj (V.str.inj (e : V.str y.name = V.str (Wy.name .floor)))
     subst q
     exact B0w k
   refine ⟨_, rfl, rfl, _, rfl, J0 (fun e => ?_) (fun n3 => ?_)⟩
   . have q : y = .ceiling := Wy.inj (V.str.inj (e : V.str y.name = V.str (Wy.name .ceiling)))
     subst q
     exact B0w k
   refine ⟨_, rfl, rfl, _, rfl, J0 (fun e => ?_) (fun n4 => ?_)⟩
   . have q : y = .halfUp := Wy.inj (V.str.inj (e : V.str y.name = V.str (Wy.name .halfUp)))
     subst q
     exact B0w k
   refine ⟨_, rfl, rfl, _, rfl, J0 (fun e => ?_) (fun n5 => ?_)⟩
   . have q : y = .halfDown := Wy.inj (V.str.inj (e : V.str y.name = V.str (Wy.name .halfDown)))
     subst q
     exact B0w k
   refine ⟨_, rfl, rfl, _, rfl, J0 (fun e => ?_) (fun n6 => ?_)⟩
   . have q : y = .halfEven := Wy.inj (V.str.inj (e : V.str y.name = V.str (Wy.name .halfEven)))
     subst q
     exact B0w k
   refine ⟨_, rfl, rfl, _, rfl, J0 (fun e => ?_) (fun n7 => ?_)⟩
   . have q : y = .fiveUp := Wy.inj (V.str.inj (e : V.str y.name = V.str (Wy.name .fiveUp)))
     subst q
     exact B0w k
   cases y with
   | down => exact absurd rfl n0
   | up => exact absurd rfl n1
   | floor => exact absurd rfl n2
   | ceiling => exact absurd rfl n3
   | halfUp => exact absurd rfl n4
   | halfDown => exact absurd rfl n5
   | halfEven => exact absurd rfl n6
   | fiveUp => exact absurd rfl n7
 refine ⟨_, rfl, _, _, _, _, b, rfl, rfl, ty, kk, _, rfl, ?_⟩
 cases b with
 | false => exact Z2 ⟨z1, k⟩
 | true =>
   obtain ⟨z, rfl, nz⟩ := bad.resolve_left (by decide)
   refine U2 ?_
   refine ⟨_, rfl, rfl, _, rfl, J0 (fun e => absurd (V.str.inj e) (nz .down)) (fun n0 => ?_)⟩
   refine ⟨_, rfl, rfl, _, rfl, J0 (fun e => absurd (V.str.inj e) (nz .up)) (fun n1 => ?_)⟩
   refine ⟨_, rfl, rfl, _, rfl, J0 (fun e => absurd (V.str.inj e) (nz .floor)) (fun n2 => ?_)⟩
   refine ⟨_, rfl, rfl, _, rfl, J0 (fun e => absurd (V.str.inj e) (nz .ceiling)) (fun n3 => ?_)⟩
   refine ⟨_, rfl, rfl, _, rfl, J0 (fun e => absurd (V.str.inj e) (nz .halfUp)) (fun n4 => ?_)⟩
   refine ⟨_, rfl, rfl, _, rfl, J0 (fun e => absurd (V.str.inj e) (nz .halfDown)) (fun n5 => ?_)⟩
   refine ⟨_, rfl, rfl, _, rfl, J0 (fun e => absurd (V.str.inj e) (nz .halfEven)) (fun n6 => ?_)⟩
   refine ⟨_, rfl, rfl, _, rfl, J0 (fun e => absurd (V.str.inj e) (nz .fiveUp)) (fun n7 => ?_)⟩
   exact ⟨z1, k⟩
def A0j : List Str := ["void", "split", "burst", "sunk", "faint", "off", "cut"]
def A6p : List V := A0j.map V.str
structure Z9m (K : Frag) (mg : Str -> Option Value) (aS : Addr) : Prop where
 g : mg "SIGNALS" = some (.ref aS)
 ty : ∃ o, K.lookup aS = some o /\ o.cls = .type "tuple"
 sq : ∀ H, SqT K H aS A6p
abbrev B0g : Stmt := (top 62)
def BadS (K : Frag) (H : Hp) (x : V) : Prop := ∃ t b, TyE K H x t /\ kitOne K t (.type "str") = some b /\ (b = false \/ ∃ z, x = .str z /\ z ∉ A0j)
def J6e (K : Frag) (H : Hp) (v : V) : Prop := (∃ t, TyE K H v t /\ kitOne K t (.type "list") = some false) \/ (∃ (p : Addr) (zs : List Str) (x : V) (r : List V), v = .ref p /\ H p = some (.lst (zs.map V.str ++ x :: r)) /\ (∀ z ∈ zs, z ∈ A0j) /\ BadS K H x)
def G0g (K : Frag) (CB : Addr) : Sp := fun vs H Q E => ∃ v, vs = [v] /\ ((∃ (p : Addr) (zs : List Str), v = .ref p /\ H p = some (.lst (zs.map V.str)) /\ (∀ z ∈ zs, z ∈ A0j) /\ Q .non H) \/ (J6e K H v /\ E (.ref CB) none H))
theorem scNeedS : B9 ["names", "name"] ["names"] (A1 B0g) := scK
theorem V9z {f CB aS : Addr} {fd : FuncData} (D : Def K mg "need_signals" ["names"] B0g f fd) (O : Own mg) (T : Kit K) (B : Err K mg "BadContext" CB) (SG : Z9m K mg aS) : sI P w K mg base 1 f fd ["names"] (G0g K CB) := by
 refine D.F.okE scNeedS (fun vs H Q E h => ?_) (fun X cdv A outer s H vs Q E hX hr hx h => ?_)
 . obtain ⟨v, rfl, _⟩ := h
   rfl
 subst hX
 obtain ⟨v, rfl, h⟩ := h
 refine ⟨_, (A7 (G4 (A7s (A0g (V2k O.isi (pv 0) (pty O.list_ boot_list)))) (A9 (A4r (by rfl) B.g B.q PySem.F.excBase_ValueError hr.hd hx (A0 B0 A6))) D3) (A9 (C0b PassesOwn.leaving rfl (C6g (pv 0)) (Y3 (i := 1) scNeedS.nd rfl (Or.inl rfl)) (A9 (G4 (PW.pt (C5a (A7s (A0g (V2k O.isi (pv 1) (pty O.str_ boot_str)))) (B0t (C6 D8z (pv 1) (V9c SG.g) (by rfl))))) (A9 (A4r (by rfl) B.g B.q PySem.F.excBase_ValueError hr.hd hx (A0 B0 A6))) D3))))), ?_⟩
 have z1 : 1 <= sizeLine := C9 (by decide)
 rcases h with ⟨p, zs, rfl, hp, hz, k⟩ | ⟨(⟨t, ty, kk⟩ | ⟨p, zs, x, r, rfl, hp, hz, t, b, ty, kk, bad⟩), k⟩
 . refine ⟨_, rfl, _, _, _, _, true, rfl, rfl, A0dd hp, T.list_list, _, rfl, U2 ?_⟩
   refine ⟨_, rfl, p, rfl, ⟨_, SqL.of hp⟩, A6n (xs := zs.map V.str) (fun i σ H' => H' = H /\ ∃ v, σ = [sr p, v]) ⟨rfl, none, rfl⟩ ?_ ?_ ?_⟩
   . rintro i σ H' _ ⟨rfl, _⟩
     exact SqL.of hp
   . rintro i x σ H' hi ⟨rfl, v, rfl⟩
     obtain ⟨z, hzm, rfl⟩ := List.mem_map.mp (List.mem_of_getElem? hi)
     refine ⟨_, rfl, _, _, _, _, true, rfl, rfl, Y1f _, T.str_str, _, rfl, U2 ?_⟩
     refine ⟨_, rfl, aS, A6p, rfl, .inr (SG.sq _), rfl, A0b _, _, rfl, ?_⟩
     have e : inV (.str z) A6p = true := by
       show inV (.str z) (A0j.map V.str) = true
       rw [A1c]
       simpa using hz z hzm
     rw [e]
     exact U2 ⟨rfl, _, rfl⟩
   . rintro σ H' ⟨rfl, v, rfl⟩
     exact k
 . exact ⟨_, rfl, _, _, _, _, false, rfl, rfl, ty, kk, _, rfl, Z2 ⟨z1, k⟩⟩
 refine ⟨_, rfl, _, _, _, _, true, rfl, rfl, A0dd hp, T.list_list, _, rfl, U2 ?_⟩
 refine ⟨_, rfl, p, rfl, ⟨_, SqL.of hp⟩, A6n (xs := zs.map V.str ++ x :: r) (fun i σ H' => H' = H /\ i <= zs.length /\ ∃ v, σ = [sr p, v]) ⟨rfl, Nat.zero_le _, none, rfl⟩ ?_ ?_ ?_⟩
 . rintro i σ H' _ ⟨rfl, _⟩
   exact SqL.of hp
 . rintro i y σ H' hi ⟨rfl, hl, v, rfl⟩
   by_cases hlt : i < zs.length
   . rw [List.getElem?_append_left (by simpa using hlt)] at hi
     obtain ⟨z, hzm, rfl⟩ := List.mem_map.mp (List.mem_of_getElem? hi)
     refine ⟨_, rfl, _, _, _, _, true, rfl, rfl, Y1f _, T.str_str, _, rfl, U2 ?_⟩
     refine ⟨_, rfl, aS, A6p, rfl, .inr (SG.sq _), rfl, A0b _, _, rfl, ?_⟩
     have e : inV (.str z) A6p = true := by
       show inV (.str z) (A0j.map V.str) = true
       rw [A1c]
       simpa using hz z hzm
     rw [e]
     exact U2 ⟨rfl, by omega, _, rfl⟩
   . have e : i = zs.length := by omega
     subst e
     rw [List.getElem?_append_right (by simp)] at hi
     simp at hi
     subst hi
     refine ⟨_, rfl, _, _, _, _, b, rfl, rfl, ty, kk, _, rfl, ?_⟩
     cases b with
     | false => exact Z2 (Z2 ⟨z1, k⟩)
     | true =>
       obtain ⟨z, rfl, nz⟩ := bad.resolve_left (by decide)
       refine U2 ⟨_, rfl, aS, A6p, rfl, .inr (SG.sq _), rfl, A0b _, _, rfl, ?_⟩
       have e : inV (.str z) A6p = false := by
         show inV (.str z) (A0j.map V.str) = false
         rw [A1c]
         simpa using nz
       rw [e]
       exact Z2 ⟨z1, k⟩
 rintro σ H' ⟨rfl, hl, _⟩
 exfalso
 rw [List.length_append, List.length_map, List.length_cons] at hl
 omega
abbrev B0j : Stmt := (top 63)
def Y7 (zs : List Str) : List Str := A0j.filter fun z => zs.contains z
def D9w (K : Frag) : Sp := fun vs H Q _ => ∃ (p : Addr) (zs : List Str), vs = [.ref p] /\ SqL K H p (zs.map V.str) /\ ∀ l H', B7 H H' -> H l = none -> H' l = some (.lst ((Y7 zs).map V.str)) -> Q (.ref l) H'
theorem Z6e : B9 ["names"] ["names"] (A1 B0j) := scK
theorem Y1t {f aS : Addr} {fd : FuncData} (D : Def K mg "in_order" ["names"] B0j f fd) (SG : Z9m K mg aS) : sI P w K mg base 1 f fd ["names"] (D9w K) := by
 refine C4.up (D.F.ok Z6e (fun vs H Q E h => ?_) (fun cdv A outer s H vs Q E hr h => ?_))
 . obtain ⟨p, zs, rfl, _⟩ := h
   rfl
 obtain ⟨p, zs, rfl, hp, k⟩ := h
 refine ⟨_, (A9 (B8 (C7t (N := ["name"]) (F := ["names"]) (js := [0]) (D8.of1 ⟨rfl, by decide +kernel, by decide +kernel, by decide +kernel, by decide +kernel⟩ (by rfl) (by rfl) ⟨_, by rfl⟩ (by rfl) (by rfl)) (.inl hr.hd) (D9s (V9c SG.g)) rfl (fun C s₀ H₀ ex pn h => Y3 (i := 0) (by decide +kernel : (["name", "names"] : List Str).Nodup) rfl (Or.inl rfl)) (fun C s₀ H₀ ex pn h => (C6 (A4p (K := K) rfl) (pv 0) (pv 1) (by rfl))) (fun C s₀ H₀ ex pn h => (pv 0))))), ?_⟩
 refine C6y (zs := A0j) (f := fun z => zs.contains z) (σf := [sr p]) SG.sq (by decide) (fun z H' Qb sm q => ?_) (fun z H' Qv q => ⟨_, rfl, q⟩) (fun D H' sm nd e => k D H' sm nd e) rfl
 refine ⟨_, rfl, _, rfl, p, _, rfl, .inl (sm.seq hp), rfl, A0b _, _, rfl, ?_⟩
 show Qb (inV (.str z) (zs.map V.str)) H'
 rw [A1c]
 exact q
structure C6c (K : Frag) (mg : Str -> Option Value) (CC : Addr) : Prop where
 g : mg "Context" = some (.ref CC)
 cl : Cls K CC
 n_room : Z8 K CC "room"
 n_rule : Z8 K CC "rule"
 n_least : Z8 K CC "least"
 n_most : Z8 K CC "most"
 n_risen : Z8 K CC "risen"
 n_trapped : Z8 K CC "trapped"
def A2v (r s l m a b : V) : List (Str × V) := Y6 "trapped" b (Y6 "risen" a (Y6 "most" m (Y6 "least" l (Y6 "rule" s (Y6 "room" r [])))))
theorem A3h (r s l m a b : V) (n : Str) : (A2v r s l m a b).lookup n = if n = "trapped" then some b else if n = "risen" then some a else if n = "most" then some m else if n = "least" then some l else if n = "rule" then some s else if n = "room" then some r else none := by
 unfold A2v
 rw [G0, G0, G0, G0, G0, G0]
 rfl
theorem A6m (r s l m a b : V) : (A2v r s l m a b).lookup ("room" : Str) = some r := by rw [A3h, if_neg (by decide +kernel), if_neg (by decide +kernel), if_neg (by decide +kernel), if_neg (by decide +kernel), if_neg (by decide +kernel), if_pos rfl]
theorem V9h (r s l m a b : V) : (A2v r s l m a b).lookup ("rule" : Str) = some s := by rw [A3h, if_neg (by decide +kernel), if_neg (by decide +kernel), if_neg (by decide +kernel), if_neg (by decide +kernel), if_pos rfl]
theorem D6s (r s l m a b : V) : (A2v r s l m a b).lookup ("least" : Str) = some l := by rw [A3h, if_neg (by decide +kernel), if_neg (by decide +kernel), if_neg (by decide +kernel), if_pos rfl]
theorem C8e (r s l m a b : V) : (A2v r s l m a b).lookup ("most" : Str) = some m := by rw [A3h, if_neg (by decide +kernel), if_neg (by decide +kernel), if_pos rfl]
theorem D7k (r s l m a b : V) : (A2v r s l m a b).lookup ("risen" : Str) = some a := by rw [A3h, if_neg (by decide +kernel), if_pos rfl]
theorem C5c (r s l m a b : V) : (A2v r s l m a b).lookup ("trapped" : Str) = some b := by rw [A3h, if_pos rfl]
theorem C7c (r s l m a b : V) : (A2v r s l m a b).lookup ("way" : Str) = none := by rw [A3h, if_neg (by decide +kernel), if_neg (by decide +kernel), if_neg (by decide +kernel), if_neg (by decide +kernel), if_neg (by decide +kernel), if_neg (by decide +kernel)]
theorem B5q (r s l m a b : V) : (A2v r s l m a b).lookup ("lowest" : Str) = none := by rw [A3h, if_neg (by decide +kernel), if_neg (by decide +kernel), if_neg (by decide +kernel), if_neg (by decide +kernel), if_neg (by decide +kernel), if_neg (by decide +kernel)]
theorem D8x (r s l m a b : V) : (A2v r s l m a b).lookup ("flags" : Str) = none := by rw [A3h, if_neg (by decide +kernel), if_neg (by decide +kernel), if_neg (by decide +kernel), if_neg (by decide +kernel), if_neg (by decide +kernel), if_neg (by decide +kernel)]
theorem J0u (r s l m a b : V) : (A2v r s l m a b).lookup ("trap" : Str) = none := by rw [A3h, if_neg (by decide +kernel), if_neg (by decide +kernel), if_neg (by decide +kernel), if_neg (by decide +kernel), if_neg (by decide +kernel), if_neg (by decide +kernel)]
theorem D9m (r s l m a b : V) : (A2v r s l m a b).lookup ("traps" : Str) = none := by rw [A3h, if_neg (by decide +kernel), if_neg (by decide +kernel), if_neg (by decide +kernel), if_neg (by decide +kernel), if_neg (by decide +kernel), if_neg (by decide +kernel)]
theorem A0n (r s l m a b : V) : (A2v r s l m a b).lookup ("raised" : Str) = none := by rw [A3h, if_neg (by decide +kernel), if_neg (by decide +kernel), if_neg (by decide +kernel), if_neg (by decide +kernel), if_neg (by decide +kernel), if_neg (by decide +kernel)]
structure U4 (CC : Addr) (H : Hp) (c : Addr) (r : Int) (y : Wy) (l m : Int) (a b : Addr) (xs ys : List V) : Prop where
 ins : ∃ dx, H c = some (.ins CC dx (A2v (.int r) (.str y.name) (.int l) (.int m) (.ref a) (.ref b)))
 ha : H a = some (.lst xs)
 hb : H b = some (.lst ys)
theorem U4.same {CC : Addr} {H H' : Hp} {c : Addr} {r : Int} {y : Wy} {l m : Int} {a b : Addr} {xs ys : List V} (h : U4 CC H c r y l m a b xs ys) (e : B7 H H') : U4 CC H' c r y l m a b xs ys := by
 obtain ⟨⟨dx, z⟩, z1, z2⟩ := h
 exact ⟨⟨dx, e _ _ z⟩, e _ _ z1, e _ _ z2⟩
abbrev A1d : Stmt := (G8 (top 60) 0)
abbrev B4p : Stmt := (G8 (top 60) 1)
abbrev B4v : Stmt := (G8 (top 60) 2)
abbrev A4d : Stmt := (G8 (top 60) 3)
abbrev A4e : Stmt := (G8 (top 60) 6)
def J7b (l : Int) (v : V) : Prop := (v = .non /\ l = -60) \/ (v = .int l /\ -60 <= l /\ l <= 0)
def A0fh (K : Frag) (S : Hp -> Prop) (v1 v2 v3 v4 : V) : Prop := (∀ H', S H' -> D2u K H' 1 24 v1) \/ (A6k 1 24 v1 /\ ((∀ H', S H' -> A0cx K H' v2) \/ ((∃ y : Wy, v2 = .str y.name) /\ ((v3 ≠ .non /\ ∀ H', S H' -> D2u K H' (-60) 0 v3) \/ ((∃ l, J7b l v3) /\ ∀ H', S H' -> D2u K H' 0 60 v4)))))
theorem Exc.none {p a : Addr} {H H' : Hp} {o : HO} (x : Exc p H H') (hp : H' p = some o) (n : H' a = none) : H a = none := by
 cases q : H a with
 | none => rfl
 | some u =>
   have := x a u q (fun e => by rw [e, hp] at n; cases n)
   rw [n] at this
   cases this
def C0d (K : Frag) (CC CB : Addr) : Sp := fun vs H Q E => ∃ p dx v1 v2 v3 v4, vs = [.ref p, v1, v2, v3, v4] /\ H p = some (.ins CC dx []) /\
 ((∃ r y l m, v1 = .int r /\ 1 <= r /\ r <= 24 /\ v2 = .str (Wy.name y) /\ J7b l v3 /\ v4 = .int m /\ 0 <= m /\ m <= 60 /\ ∀ a b H', Exc p H H' -> H a = none -> H b = none -> U4 CC H' p r y l m a b [] [] -> Q .non H') \/
  (A0fh K (Exc p H) v1 v2 v3 v4 /\ ∀ H', Exc p H H' -> E (.ref CB) none H'))
theorem V3b : B9 Q31 Q31 (A1 A1d) := scK
theorem Y1n : B8w 1 24 := by unfold B8w; decide +kernel
theorem J7d : B8w (-60) 0 := by unfold B8w; decide +kernel
theorem Y0j : B8w 0 60 := by unfold B8w; decide +kernel
theorem J7u {f fB fW CC CB CW : Addr} {dV : Value} {cw : Wy -> Addr} {fd fdB fdW : FuncData} (F : Y1y K "__init__" "Context.__init__" A1d dV f fd) (D_bounded : Def K mg "bounded" Q4 A4m fB fdB) (D_way_of : Def K mg "way_of" ["name"] B0k fW fdW)
   (G_bounded : sI P w K mg base 2 fB fdB Q4 (D7g K CB)) (G_way_of : sI P w K mg base 1 fW fdW ["name"] (D9b K CB cw)) (C : C6c K mg CC)
   (W : ∀ y : Wy, C6d K mg y.cls (cw y) CW) (N : ∀ y : Wy, WayN P w K mg base (cw y) y.name) : sI P w K mg base 3 f fd Q31 (C0d K CC CB) := by
 refine F.okE V3b (fun vs H Q E h => ?_) (fun X cdv A outer s H vs Q E hX hr hx h => ?_)
 . obtain ⟨p, dx, v1, v2, v3, v4, rfl, _⟩ := h
   rfl
 subst hX
 obtain ⟨p, dx, v1, v2, v3, v4, rfl, hp, h⟩ := h
 obtain ⟨y, hy⟩ : ∃ y : Wy, ∀ z : Wy, v2 = .str z.name -> z = y := by
   by_cases q : ∃ z : Wy, v2 = .str z.name
   . obtain ⟨z, rfl⟩ := q
     exact ⟨z, fun u e => Wy.inj (V.str.inj e.symm)⟩
   . exact ⟨.down, fun z e => absurd ⟨z, e⟩ q⟩
 obtain ⟨fN, fdN, mN, gN, bN⟩ := N y
 refine ⟨_, (A7 (A0u (pv 0) (D4 D_bounded G_bounded hr hx (A0 (pv 1) (A0 A3 (A0 A3 A6)))) rfl) (A7 (A0u (pv 0) (A7n (D4 D_way_of G_way_of hr hx (A0 (pv 2) A6)) (W y).cl mN gN hr bN .nil hx) rfl) (A7 (B4 (A0u (pv 0) (A0f (C6 A0ey (pv 3) J6k (C5 _)) (C7p B6f A3) (D4 D_bounded G_bounded hr hx (A0 (pv 3) (A0 (C7p B6f A3) (A0 A3 A6))))) rfl)) (A7 (A0u (pv 0) (D4 D_bounded G_bounded hr hx (A0 (pv 4) (A0 A3 (A0 A3 A6)))) rfl) (A7 (A0u (pv 0) (U7 A6) rfl) (A9 (A0u (pv 0) (U7 A6) rfl))))))), ?_⟩
 have lz : ∀ (fs : List (Str × V)) (f : Str) (v : V) (n : Nat), fs.length <= n -> (Y6 f v fs).length <= n + 1 := fun fs f v n h => Nat.le_trans (A2p f v fs) (Nat.succ_le_succ h)
 have q0 : (([] : List (Str × V))).length <= 0 := Nat.le_refl _
 have z0 : 0 <= sizeLine := Nat.zero_le _
 rcases h with ⟨r, y', l, m, rfl, r1, r2, rfl, hl, rfl, m1, m2, k⟩ | ⟨bad, k⟩
 . obtain rfl := hy _ rfl
   refine ⟨_, rfl, _, _, _, rfl, Y1n, .inl ⟨⟨r, rfl, r1, r2⟩, ?_⟩⟩
   refine ⟨_, rfl, p, CC, dx, [], rfl, hp, C.cl, C.n_room, by show 0 < 1000; decide, ?_⟩
   refine ⟨_, rfl, _, rfl, .inl ⟨_, rfl, fun q dq H2 nq s2 eq => ⟨q, dq, [], rfl, eq, rfl, _, rfl, ?_⟩⟩⟩
   have hp2 := s2 _ _ (A8 (H := H) (a := p) (o := .ins CC dx (Y6 "room" (.int r) [])))
   have x2 : Exc p H H2 := (Exc.upd (H := H) (o := .ins CC dx (Y6 "room" (.int r) []))).trans (.of s2)
   refine ⟨_, rfl, p, CC, dx, _, rfl, hp2, C.cl, C.n_rule, Nat.lt_of_le_of_lt (lz _ _ _ 0 q0) (by decide), ?_⟩
   refine ⟨fun σ' H' => σ' = [sr p, si r, sR y'.name, some v3, si m] /\ Exc p H H' /\ H' p = some (.ins CC dx (Y6 "least" (.int l) (Y6 "rule" (.str y'.name) (Y6 "room" (.int r) [])))), ?_, ?_⟩
   . refine ⟨_, rfl, rfl, _, rfl, ?_⟩
     rcases hl with ⟨rfl, rfl⟩ | ⟨rfl, l1, l2⟩
     . refine A2w rfl ⟨_, rfl, ?_⟩
       exact ⟨_, rfl, p, CC, dx, _, rfl, A8, C.cl, C.n_least, Nat.lt_of_le_of_lt (lz _ _ _ 1 (lz _ _ _ 0 q0)) (by decide), rfl, (x2.trans Exc.upd).trans Exc.upd, A8⟩
     . refine Z3 (by intro z; cases z) ⟨_, rfl, _, rfl, _, _, _, rfl, J7d, .inl ⟨⟨l, rfl, l1, l2⟩, ?_⟩⟩
       exact ⟨_, rfl, p, CC, dx, _, rfl, A8, C.cl, C.n_least, Nat.lt_of_le_of_lt (lz _ _ _ 1 (lz _ _ _ 0 q0)) (by decide), rfl, (x2.trans Exc.upd).trans Exc.upd, A8⟩
   rintro σ' H4 ⟨rfl, x4, hp4⟩
   refine ⟨_, rfl, _, _, _, rfl, Y0j, .inl ⟨⟨m, rfl, m1, m2⟩, ?_⟩⟩
   refine ⟨_, rfl, p, CC, dx, _, rfl, hp4, C.cl, C.n_most, Nat.lt_of_le_of_lt (lz _ _ _ 2 (lz _ _ _ 1 (lz _ _ _ 0 q0))) (by decide), ?_⟩
   refine ⟨z0, fun a na => ?_⟩
   refine ⟨_, rfl, p, CC, dx, _, rfl, B7.upd na _ _ A8, C.cl, C.n_risen, Nat.lt_of_le_of_lt (lz _ _ _ 3 (lz _ _ _ 2 (lz _ _ _ 1 (lz _ _ _ 0 q0)))) (by decide), ?_⟩
   refine ⟨z0, fun b nb => ?_⟩
   refine ⟨_, rfl, p, CC, dx, _, rfl, B7.upd nb _ _ A8, C.cl, C.n_trapped, Nat.lt_of_le_of_lt (lz _ _ _ 4 (lz _ _ _ 3 (lz _ _ _ 2 (lz _ _ _ 1 (lz _ _ _ 0 q0))))) (by decide), ?_⟩
   have x5 := x4.trans (Exc.upd (H := H4) (o := .ins CC dx (Y6 "most" (.int m) (Y6 "least" (.int l) (Y6 "rule" (.str y'.name) (Y6 "room" (.int r) []))))))
   have nap : a ≠ p := fun e => by rw [e, A8] at na; cases na
   have nbp : b ≠ p := fun e => by rw [e, A8] at nb; cases nb
   have x6 := (x5.trans (.of (B7.upd (o := .lst []) na))).trans (Exc.upd (o := .ins CC dx (Y6 "risen" (.ref a) (Y6 "most" (.int m) (Y6 "least" (.int l) (Y6 "rule" (.str y'.name) (Y6 "room" (.int r) [])))))))
   have x7 := (x6.trans (.of (B7.upd (o := .lst []) nb))).trans (Exc.upd (o := .ins CC dx (A2v (.int r) (.str y'.name) (.int l) (.int m) (.ref a) (.ref b))))
   refine k a b _ x7 (x5.none A8 na) (x6.none A8 nb) ⟨⟨dx, A8⟩, ?_, ?_⟩
   . rw [C8 nap]
     refine B7.upd nb _ _ ?_
     rw [C8 nap]
     exact A8
   . rw [C8 nbp]
     exact A8
 rcases bad with b1 | ⟨⟨r, rfl, r1, r2⟩, bad⟩
 . exact ⟨_, rfl, _, _, _, rfl, Y1n, .inr ⟨b1 _ (Exc.refl p H), k _ (Exc.refl p H)⟩⟩
 refine ⟨_, rfl, _, _, _, rfl, Y1n, .inl ⟨⟨r, rfl, r1, r2⟩, ?_⟩⟩
 refine ⟨_, rfl, p, CC, dx, [], rfl, hp, C.cl, C.n_room, by show 0 < 1000; decide, ?_⟩
 have x1 : Exc p H (upd H p (.ins CC dx (Y6 "room" (.int r) []))) := Exc.upd
 rcases bad with b2 | ⟨⟨y', rfl⟩, bad⟩
 . exact ⟨_, rfl, _, rfl, .inr ⟨b2 _ x1, k _ x1⟩⟩
 obtain rfl := hy _ rfl
 refine ⟨_, rfl, _, rfl, .inl ⟨_, rfl, fun q dq H2 nq s2 eq => ⟨q, dq, [], rfl, eq, rfl, _, rfl, ?_⟩⟩⟩
 have hp2 := s2 _ _ (A8 (H := H) (a := p) (o := .ins CC dx (Y6 "room" (.int r) [])))
 have x2 : Exc p H H2 := x1.trans (.of s2)
 refine ⟨_, rfl, p, CC, dx, _, rfl, hp2, C.cl, C.n_rule, Nat.lt_of_le_of_lt (lz _ _ _ 0 q0) (by decide), ?_⟩
 rcases bad with ⟨n3, b3⟩ | ⟨⟨l, hl⟩, b4⟩
 . refine ⟨fun _ _ => False, ?_, fun _ _ z => z.elim⟩
   refine ⟨_, rfl, rfl, _, rfl, Z3 n3 ?_⟩
   exact ⟨_, rfl, _, rfl, _, _, _, rfl, J7d, .inr ⟨b3 _ (x2.trans Exc.upd), k _ (x2.trans Exc.upd)⟩⟩
 refine ⟨fun σ' H' => σ' = [sr p, si r, sR y'.name, some v3, some v4] /\ Exc p H H', ?_, ?_⟩
 . refine ⟨_, rfl, rfl, _, rfl, ?_⟩
   rcases hl with ⟨rfl, rfl⟩ | ⟨rfl, l1, l2⟩
   . refine A2w rfl ⟨_, rfl, ?_⟩
     exact ⟨_, rfl, p, CC, dx, _, rfl, A8, C.cl, C.n_least, Nat.lt_of_le_of_lt (lz _ _ _ 1 (lz _ _ _ 0 q0)) (by decide), rfl, (x2.trans Exc.upd).trans Exc.upd⟩
   . refine Z3 (by intro z; cases z) ⟨_, rfl, _, rfl, _, _, _, rfl, J7d, .inl ⟨⟨l, rfl, l1, l2⟩, ?_⟩⟩
     exact ⟨_, rfl, p, CC, dx, _, rfl, A8, C.cl, C.n_least, Nat.lt_of_le_of_lt (lz _ _ _ 1 (lz _ _ _ 0 q0)) (by decide), rfl, (x2.trans Exc.upd).trans Exc.upd⟩
 rintro σ' H4 ⟨rfl, x4⟩
 exact ⟨_, rfl, _, _, _, rfl, Y0j, .inr ⟨b4 _ x4, k _ x4⟩⟩
def C6v (CC : Addr) (cw : Wy -> Addr) : Sp := fun vs H Q _ => ∃ c r y l m a b xs ys, vs = [.ref c] /\ U4 CC H c r y l m a b xs ys /\ ∀ p dx H', H p = none -> B7 H H' -> H' p = some (.ins (cw y) dx []) -> Q (.ref p) H'
theorem Y1g : B9 ["self"] ["self"] (A1 B4p) := scK
theorem V2q {f fW CC CB : Addr} {cw : Wy -> Addr} {fd fdW : FuncData} (F : Fun K "way" "Context.way" B4p f fd) (D_way_of : Def K mg "way_of" ["name"] B0k fW fdW) (G_way_of : sI P w K mg base 1 fW fdW ["name"] (D9b K CB cw)) (C : C6c K mg CC) :
   sI P w K mg base 2 f fd ["self"] (C6v CC cw) := by
 refine F.okE Y1g (fun vs H Q E h => ?_) (fun X cdv A outer s H vs Q E hX hr hx h => ?_)
 . obtain ⟨c, r, y, l, m, a, b, xs, ys, rfl, _⟩ := h
   rfl
 subst hX
 obtain ⟨c, r, y, l, m, a, b, xs, ys, rfl, ⟨⟨dx, e⟩, _, _⟩, k⟩ := h
 refine ⟨_, (A9 (B8 (D4 D_way_of G_way_of hr hx (A0 (G6 (pv 0) rfl) A6)))), ?_⟩
 exact ⟨_, rfl, c, CC, dx, _, _, rfl, e, C.cl, C.n_rule, V9h _ _ _ _ _ _, _, rfl, .inl ⟨y, rfl, k⟩⟩
def C7g (CC : Addr) : Sp := fun vs H Q _ => ∃ c r y l m a b xs ys, vs = [.ref c] /\ U4 CC H c r y l m a b xs ys /\ Q (.int (l - r + 1)) H
theorem V8m : B9 ["self"] ["self"] (A1 B4v) := scK
theorem V2x {f CC : Addr} {fd : FuncData} (F : Fun K "lowest" "Context.lowest" B4v f fd) (C : C6c K mg CC) : sI P w K mg base 1 f fd ["self"] (C7g CC) := by
 refine C4.up (F.ok V8m (fun vs H Q E h => ?_) (fun cdv A outer s H vs Q E hr h => ?_))
 . obtain ⟨c, r, y, l, m, a, b, xs, ys, rfl, _⟩ := h
   rfl
 obtain ⟨c, r, y, l, m, a, b, xs, ys, rfl, ⟨⟨dx, e⟩, _, _⟩, k⟩ := h
 refine ⟨_, (A9 (B8 (B3 V6 (B3 V0 (G6 (pv 0) rfl) (G6 (pv 0) rfl)) A3))), ?_⟩
 exact ⟨_, rfl, c, CC, dx, _, _, rfl, e, C.cl, C.n_least, D6s _ _ _ _ _ _, _, rfl, c, CC, dx, _, _, rfl, e, C.cl, C.n_room, A6m _ _ _ _ _ _, _, _, rfl, rfl, _, _, rfl, rfl, k⟩
def B6t (CC : Addr) : Sp := fun vs H Q _ => ∃ c r y l m a b xs ys, vs = [.ref c] /\ U4 CC H c r y l m a b xs ys /\ ∀ p, H p = none -> Q (.ref p) (upd H p (.lst xs))
theorem J8d : B9 ["self"] ["self"] (A1 A4d) := scK
theorem J1m {f CC : Addr} {fd : FuncData} (F : Fun K "flags" "Context.flags" A4d f fd) (C : C6c K mg CC) (O : Own mg) : sI P w K mg base 1 f fd ["self"] (B6t CC) := by
 refine C4.up (F.ok J8d (fun vs H Q E h => ?_) (fun cdv A outer s H vs Q E hr h => ?_))
 . obtain ⟨c, r, y, l, m, a, b, xs, ys, rfl, _⟩ := h
   rfl
 obtain ⟨c, r, y, l, m, a, b, xs, ys, rfl, ⟨⟨dx, e⟩, ha, _⟩, k⟩ := h
 refine ⟨_, (A9 (B8 (V5 A7r (by rfl) O.list_ boot_list (A0 (G6 (pv 0) rfl) A6)))), ?_⟩
 exact ⟨_, rfl, c, CC, dx, _, _, rfl, e, C.cl, C.n_risen, D7k _ _ _ _ _ _, a, xs, rfl, .inl (SqL.of ha), k⟩
structure A0dg (P : Program) (w : World) (K : Frag) (mg : Str -> Option Value) (base : Heap) (CC CB fI : Addr) (fdI : FuncData) : Prop where
 m : Mk K CC fI
 g : sI P w K mg base 3 fI fdI Q31 (C0d K CC CB)
theorem Z6q {C x dx : Addr} {H H' : Hp} (n1 : H x = none) (n2 : H dx = none) (ne : dx ≠ x) (e : Exc x (upd (upd H dx (.own x)) x (.ins C dx [])) H') : B7 H H' := fun b o h =>
 e b o (by rw [C8 (D5 h n1), C8 (D5 h n2)]; exact h) (D5 h n1)
theorem A0kg {CC CB x dx : Addr} {H : Hp} {Q : VK} {E : XK} {v1 v2 v3 v4 : V} {r : Int} {y : Wy} {l m : Int} (n1 : H x = none) (n2 : H dx = none) (ne : dx ≠ x) (h1 : v1 = .int r) (r1 : 1 <= r) (r2 : r <= 24) (h2 : v2 = .str y.name) (h3 : J7b l v3) (h4 : v4 = .int m) (m1 : 0 <= m) (m2 : m <= 60)
   (k : ∀ a b H', B7 H H' -> U4 CC H' x r y l m a b [] [] -> Q .non H') : C0d K CC CB [.ref x, v1, v2, v3, v4] (upd (upd H dx (.own x)) x (.ins CC dx [])) Q E :=
 ⟨x, dx, v1, v2, v3, v4, rfl, A8, .inl ⟨r, y, l, m, h1, r1, r2, h2, h3, h4, m1, m2, fun a b H' e _ _ c => k a b H' (Z6q n1 n2 ne e) c⟩⟩
abbrev A6j : Stmt := (G8 (top 60) 5)
abbrev A1w : Stmt := (G8 (top 60) 7)
theorem J0q (r s l m a b : V) : (A2v r s l m a b).length = 6 := rfl
theorem G0b (r s l m a b v : V) : Y6 "trapped" v (A2v r s l m a b) = A2v r s l m a v := rfl
theorem J8g (r s l m a b v : V) : Y6 "risen" v (A2v r s l m a b) = A2v r s l m v b := rfl
def J7s (K : Frag) (CC CB : Addr) : Sp := fun vs H Q E => ∃ c r y l m a b xs ys v, vs = [.ref c, v] /\ U4 CC H c r y l m a b xs ys /\
 ((∃ (p : Addr) (zs : List Str), v = .ref p /\ H p = some (.lst (zs.map V.str)) /\ (∀ z ∈ zs, z ∈ A0j) /\ ∀ b' H', Exc c H H' -> H b' = none -> U4 CC H' c r y l m a b' xs ((Y7 zs).map V.str) -> Q .non H') \/ (J6e K H v /\ E (.ref CB) none H))
theorem A0fj : B9 Q11 Q11 (A1 A6j) := scK
theorem Z6n {f f1 f2 CC CB : Addr} {fd fd1 fd2 : FuncData} (F : Fun K "trap" "Context.trap" A6j f fd) (D_need_signals : Def K mg "need_signals" ["names"] B0g f1 fd1) (G_need_signals : sI P w K mg base 1 f1 fd1 ["names"] (G0g K CB))
   (D_in_order : Def K mg "in_order" ["names"] B0j f2 fd2) (G_in_order : sI P w K mg base 1 f2 fd2 ["names"] (D9w K)) (C : C6c K mg CC) : sI P w K mg base 2 f fd Q11 (J7s K CC CB) := by
 refine F.okE A0fj (fun vs H Q E h => ?_) (fun X cdv A outer s H vs Q E hX hr hx h => ?_)
 . obtain ⟨c, r, y, l, m, a, b, xs, ys, v, rfl, _⟩ := h
   rfl
 subst hX
 obtain ⟨c, r, y, l, m, a, b, xs, ys, v, rfl, ⟨⟨dx, e⟩, ha, hb⟩, h⟩ := h
 refine ⟨_, (A7 (Z5 (D4 D_need_signals G_need_signals hr hx (A0 (pv 1) A6))) (A9 (A0u (pv 0) (D4 D_in_order G_in_order hr hx (A0 (pv 1) A6)) rfl))), ?_⟩
 rcases h with ⟨p, zs, rfl, hp, hz, k⟩ | ⟨bad, k⟩
 . refine ⟨_, rfl, _, rfl, .inl ⟨p, zs, rfl, hp, hz, ?_⟩⟩
   refine ⟨_, rfl, p, zs, rfl, SqL.of hp, fun b' H1 s1 n1 e1 => ?_⟩
   refine ⟨_, rfl, c, CC, dx, _, rfl, s1 _ _ e, C.cl, C.n_trapped, by rw [J0q]; decide, ?_⟩
   rw [G0b]
   have nac : a ≠ c := V8 ha e (by intro z; cases z)
   have nbc : b' ≠ c := V8 e1 (s1 _ _ e) (by intro z; cases z)
   exact k b' _ ((Exc.of s1).trans Exc.upd) n1 ⟨⟨dx, A8⟩, by rw [C8 nac]; exact s1 _ _ ha, by rw [C8 nbc]; exact e1⟩
 exact ⟨_, rfl, _, rfl, .inr ⟨bad, k⟩⟩
def hit (ys zs : List Str) : Option Str := ys.find? fun t => zs.contains t
def B8t (K : Frag) (CC CB CT : Addr) : Sp := fun vs H Q E => ∃ c r y l m a b, ∃ (xs ys : List Str) (v : V), vs = [.ref c, v] /\ U4 CC H c r y l m a b (xs.map V.str) (ys.map V.str) /\ xs.length + 100 <= 1000 /\
 ((∃ (p : Addr) (zs : List Str), v = .ref p /\ H p = some (.lst (zs.map V.str)) /\ zs.length <= 100 /\ (∀ z ∈ zs, z ∈ A0j) /\
     (hit ys zs = none -> ∀ a' H', Exc c H H' -> H a' = none -> U4 CC H' c r y l m a' b ((Y7 (xs ++ zs)).map V.str) (ys.map V.str) -> Q .non H') /\
     (∀ t, hit ys zs = some t -> ∀ a' d H', Exc c H H' -> H a' = none -> U4 CC H' c r y l m a' b ((Y7 (xs ++ zs)).map V.str) (ys.map V.str) -> H d = none -> H' d = some (.xd [("signal", .str t)]) -> E (.ref CT) (some d) H')) \/
  (J6e K H v /\ E (.ref CB) none H))
theorem scRaised : B9 ["self", "names", "name"] Q11 (A1 A1w) := scK
theorem V1j {f f1 f2 fX CC CB CT : Addr} {fd fd1 fd2 fdX : FuncData} (F : Fun K "raised" "Context.raised" A1w f fd) (D_need_signals : Def K mg "need_signals" ["names"] B0g f1 fd1) (G_need_signals : sI P w K mg base 1 f1 fd1 ["names"] (G0g K CB))
   (D_in_order : Def K mg "in_order" ["names"] B0j f2 fd2) (G_in_order : sI P w K mg base 1 f2 fd2 ["names"] (D9w K)) (C : C6c K mg CC)
   (gT : mg "Trapped" = some (.ref CT)) (XI : V3g K CT fX) (GX : C4 P w K mg base CX0 1 fX fdX Q32 (D8v CT "signal")) (BX : A0c K fdX Q32 []) : sI P w K mg base 3 f fd Q11 (B8t K CC CB CT) := by
 refine F.okE scRaised (fun vs H Q E h => ?_) (fun X cdv A outer s H vs Q E hX hr hx h => ?_)
 . obtain ⟨c, r, y, l, m, a, b, xs, ys, v, rfl, _⟩ := h
   rfl
 subst hX
 obtain ⟨c, r, y, l, m, a, b, xs, ys, v, rfl, ⟨⟨dx, e⟩, ha, hb⟩, lx, h⟩ := h
 refine ⟨_, (A7 (Z5 (D4 D_need_signals G_need_signals hr hx (A0 (pv 1) A6))) (A7 (A0u (pv 0) (D4 D_in_order G_in_order hr hx (A0 (B3 C8d (G6 (pv 0) rfl) (pv 1)) A6)) rfl) (A9 (C0b PassesOwn.leaving rfl (C6g (G6 (pv 0) rfl)) (Y3 (i := 2) scRaised.nd rfl (Or.inl rfl)) (A9 (G4 (C6 A4c (pv 2) (pv 1) (by rfl)) (A9 (V1n gT XI GX BX hr hx (A0 (pv 2) A6))) D3)))))), ?_⟩
 rcases h with ⟨p, zs, rfl, hp, lz, hz, k1, k2⟩ | ⟨bad, k⟩
 . refine ⟨_, rfl, _, rfl, .inl ⟨p, zs, rfl, hp, hz, ?_⟩⟩
   refine ⟨_, rfl, c, CC, dx, _, _, rfl, e, C.cl, C.n_risen, D7k _ _ _ _ _ _, _, rfl, a, p, _, _, rfl, rfl, ha, hp, C9 (by rw [List.length_map, List.length_map]; omega), fun q nq => ?_⟩
   have u1 := B7.upd (o := .lst (xs.map V.str ++ zs.map V.str)) nq
   refine ⟨q, xs ++ zs, rfl, SqL.of (by rw [A8, List.map_append]), fun a' H1 s1 n1 e1 => ?_⟩
   have s2 := u1.trans s1
   refine ⟨_, rfl, c, CC, dx, _, rfl, s2 _ _ e, C.cl, C.n_risen, by rw [J0q]; decide, ?_⟩
   rw [J8g]
   have nbc : b ≠ c := V8 hb e (by intro z; cases z)
   have npc : p ≠ c := V8 hp e (by intro z; cases z)
   have nac : a' ≠ c := V8 e1 (s2 _ _ e) (by intro z; cases z)
   have x2 : Exc c H (upd H1 c (.ins CC dx (A2v (.int r) (.str y.name) (.int l) (.int m) (.ref a') (.ref b)))) := (Exc.of s2).trans Exc.upd
   have hb2 : (upd H1 c (.ins CC dx (A2v (.int r) (.str y.name) (.int l) (.int m) (.ref a') (.ref b)))) b = some (.lst (ys.map V.str)) := by rw [C8 nbc]; exact s2 _ _ hb
   have hp2 : (upd H1 c (.ins CC dx (A2v (.int r) (.str y.name) (.int l) (.int m) (.ref a') (.ref b)))) p = some (.lst (zs.map V.str)) := by rw [C8 npc]; exact s2 _ _ hp
   have ct : U4 CC (upd H1 c (.ins CC dx (A2v (.int r) (.str y.name) (.int l) (.int m) (.ref a') (.ref b)))) c r y l m a' b ((Y7 (xs ++ zs)).map V.str) (ys.map V.str) := ⟨⟨dx, A8⟩, by rw [C8 nac]; exact e1, hb2⟩
   refine ⟨_, rfl, c, CC, dx, _, _, rfl, A8, C.cl, C.n_trapped, C5c _ _ _ _ _ _, b, rfl, ⟨_, SqL.of hb2⟩, ?_⟩
   generalize upd H1 c (.ins CC dx (A2v (.int r) (.str y.name) (.int l) (.int m) (.ref a') (.ref b))) = H3 at x2 hb2 hp2 ct ⊢
   refine A6n (xs := ys.map V.str) (fun i σ H' => H' = H3 /\ (∀ t ∈ ys.take i, zs.contains t = false) /\ ∃ v, σ = [sr c, sr p, v]) ⟨rfl, by simp, none, rfl⟩ ?_ ?_ ?_
   . rintro i σ H' _ ⟨rfl, _⟩
     exact SqL.of hb2
   . rintro i x σ H' hi ⟨rfl, ht, v, rfl⟩
     rw [List.getElem?_map] at hi
     obtain ⟨t, hti, rfl⟩ := Option.map_eq_some_iff.mp hi
     refine ⟨_, rfl, _, rfl, p, _, rfl, .inl (SqL.of hp2), rfl, A0b _, _, rfl, ?_⟩
     have hlt : i < ys.length := (List.getElem?_eq_some_iff.mp hti).1
     have et : ys.take (i + 1) = ys.take i ++ [t] := by
       rw [List.take_succ_eq_append_getElem hlt, (List.getElem?_eq_some_iff.mp hti).2]
     cases hc : zs.contains t with
     | false =>
       rw [show (if false = true then !inV (V.str t) (zs.map V.str) else inV (V.str t) (zs.map V.str)) = false by rw [if_neg Bool.false_ne_true, A1c, hc]]
       refine U2 ⟨rfl, fun t' h' => ?_, _, rfl⟩
       rw [et] at h'
       rcases List.mem_append.mp h' with h' | h'
       . exact ht t' h'
       . rw [List.mem_singleton.mp h']; exact hc
     | true =>
       rw [show (if false = true then !inV (V.str t) (zs.map V.str) else inV (V.str t) (zs.map V.str)) = true by rw [if_neg Bool.false_ne_true, A1c, hc]]
       obtain ⟨dx', hc3⟩ := ct.ins
       refine Z2 ⟨_, rfl, _, rfl, fun d H4 s4 nd e4 => ?_⟩
       refine k2 t ?_ a' d H4 (x2.trans (.of s4)) ((u1.free n1)) (ct.same s4) (x2.none hc3 nd) e4
       unfold hit
       rw [List.find?_eq_some_iff_append]
       refine ⟨hc, ys.take i, ys.drop (i + 1), ?_, fun t' h' => by rw [ht t' h']; rfl⟩
       have := List.take_append_drop (i + 1) ys
       rw [et] at this
       rw [List.append_assoc] at this
       exact this.symm
   . rintro σ H' ⟨rfl, ht, v, rfl⟩
     refine k1 ?_ a' _ x2 (u1.free n1) ct
     unfold hit
     rw [List.find?_eq_none]
     rw [List.length_map, List.take_length] at ht
     intro t hm
     rw [ht t hm]
     exact Bool.false_ne_true
 exact ⟨_, rfl, _, rfl, .inr ⟨bad, k⟩⟩
def B6m (CC : Addr) : Sp := fun vs H Q _ => ∃ c r y l m a b xs ys, vs = [.ref c] /\ U4 CC H c r y l m a b xs ys /\ ∀ p, H p = none -> Q (.ref p) (upd H p (.lst ys))
theorem J8e : B9 ["self"] ["self"] (A1 A4e) := scK
theorem J1c {f CC : Addr} {fd : FuncData} (F : Fun K "traps" "Context.traps" A4e f fd) (C : C6c K mg CC) (O : Own mg) : sI P w K mg base 1 f fd ["self"] (B6m CC) := by
 refine C4.up (F.ok J8e (fun vs H Q E h => ?_) (fun cdv A outer s H vs Q E hr h => ?_))
 . obtain ⟨c, r, y, l, m, a, b, xs, ys, rfl, _⟩ := h
   rfl
 obtain ⟨c, r, y, l, m, a, b, xs, ys, rfl, ⟨⟨dx, e⟩, _, hb⟩, k⟩ := h
 refine ⟨_, (A9 (B8 (V5 A7r (by rfl) O.list_ boot_list (A0 (G6 (pv 0) rfl) A6)))), ?_⟩
 exact ⟨_, rfl, c, CC, dx, _, _, rfl, e, C.cl, C.n_trapped, C5c _ _ _ _ _ _, b, ys, rfl, .inl (SqL.of hb), k⟩
abbrev B4w : Stmt := (G8 (top 13) 0)
theorem Y0g : B9 Q32 Q32 (A1 B4w) := scK
theorem V1t {f CT fI : Addr} {fd : FuncData} (F : Fun K "__init__" "Trapped.__init__" B4w f fd) (XI : V3g K CT fI) (hn : findIn K (.ref CT) "signal" = some none) : C4 P w K mg base CX0 1 f fd Q32 (D8v CT "signal") := by
 refine F.ok Y0g (fun vs H Q E h => ?_) (fun cdv A outer s H vs Q E hr h => ?_)
 . obtain ⟨e, t, v, rfl, _⟩ := h
   rfl
 obtain ⟨e, t, v, rfl, he, k⟩ := h
 refine ⟨_, (A9 (Z9h XI hn (pv 0) (pv 1) rfl)), ?_⟩
 exact ⟨_, rfl, _, rfl, e, t, rfl, he, fun d nd ne => k d nd ne⟩
def Wy.goes (y : Wy) (s last part : Int) : Bool := match y with
 | .down => false
 | .up => true
 | .floor => decide (V.int s = V.int 1)
 | .ceiling => decide (V.int s = V.int 0)
 | .halfUp => decide (part >= 2)
 | .halfDown => decide (V.int part = V.int 3)
 | .halfEven => if decide (V.int part = V.int 3) = true then true else if decide (V.int part = V.int 2) = true then decide (V.int (last % 2) = V.int 1) else false
 | .fiveUp => inV (.int last) [.int 0, .int 5]
def Wy.toEnd (y : Wy) (s : Int) : Bool := match y with
 | .down => false
 | .up => true
 | .floor => decide (V.int s = V.int 1)
 | .ceiling => decide (V.int s = V.int 0)
 | .halfUp => true
 | .halfDown => true
 | .halfEven => true
 | .fiveUp => false
def A7x (y : Wy) : Sp := fun vs H Q _ => ∃ p s l t, vs = [.ref p, .int s, .int l, .int t] /\ ∀ H', B7 H H' -> Q (.bl (y.goes s l t)) H'
def A3n (y : Wy) : Sp := fun vs H Q _ => ∃ p s, vs = [.ref p, .int s] /\ ∀ H', B7 H H' -> Q (.bl (y.toEnd s)) H'
def WayU (P : Program) (w : World) (K : Frag) (mg : Str -> Option Value) (base : Heap) (C : Addr) (y : Wy) : Prop := Has P w K mg base C "goes_up" 1 Q0 (A7x y)
def WayE (P : Program) (w : World) (K : Frag) (mg : Str -> Option Value) (base : Heap) (C : Addr) (y : Wy) : Prop := Has P w K mg base C "to_end" 1 Q3 (A3n y)
abbrev sU0 : Stmt := (G8 (top 49) 1)
theorem scU0 : B9 Q0 Q0 (A1 sU0) := scK
theorem A0nt {f : Addr} {fd : FuncData} (F : Fun K "goes_up" "Down.goes_up" sU0 f fd) : sI P w K mg base 1 f fd Q0 (A7x .down) := by
 refine C4.up (F.ok scU0 (fun vs H Q E h => ?_) (fun cdv A outer s H vs Q E hr h => ?_))
 . obtain ⟨p, z, l, t, rfl, _⟩ := h
   rfl
 obtain ⟨p, z, l, t, rfl, k⟩ := h
 refine ⟨_, (A9 (B8 B1h)), ?_⟩
 exact k H (B7.refl H)
abbrev sT0 : Stmt := (G8 (top 49) 2)
theorem scT0 : B9 Q3 Q3 (A1 sT0) := scK
theorem A0md {f : Addr} {fd : FuncData} (F : Fun K "to_end" "Down.to_end" sT0 f fd) : sI P w K mg base 1 f fd Q3 (A3n .down) := by
 refine C4.up (F.ok scT0 (fun vs H Q E h => ?_) (fun cdv A outer s H vs Q E hr h => ?_))
 . obtain ⟨p, z, rfl, _⟩ := h
   rfl
 obtain ⟨p, z, rfl, k⟩ := h
 refine ⟨_, (A9 (B8 B1h)), ?_⟩
 exact k H (B7.refl H)
abbrev sU1 : Stmt := (G8 (top 50) 1)
theorem scU1 : B9 Q0 Q0 (A1 sU1) := scK
theorem A0nn {f : Addr} {fd : FuncData} (F : Fun K "goes_up" "Up.goes_up" sU1 f fd) : sI P w K mg base 1 f fd Q0 (A7x .up) := by
 refine C4.up (F.ok scU1 (fun vs H Q E h => ?_) (fun cdv A outer s H vs Q E hr h => ?_))
 . obtain ⟨p, z, l, t, rfl, _⟩ := h
   rfl
 obtain ⟨p, z, l, t, rfl, k⟩ := h
 refine ⟨_, (A9 (B8 B1h)), ?_⟩
 exact k H (B7.refl H)
abbrev sT1 : Stmt := (G8 (top 50) 2)
theorem scT1 : B9 Q3 Q3 (A1 sT1) := scK
theorem A0nk {f : Addr} {fd : FuncData} (F : Fun K "to_end" "Up.to_end" sT1 f fd) : sI P w K mg base 1 f fd Q3 (A3n .up) := by
 refine C4.up (F.ok scT1 (fun vs H Q E h => ?_) (fun cdv A outer s H vs Q E hr h => ?_))
 . obtain ⟨p, z, rfl, _⟩ := h
   rfl
 obtain ⟨p, z, rfl, k⟩ := h
 refine ⟨_, (A9 (B8 B1h)), ?_⟩
 exact k H (B7.refl H)
abbrev sU2 : Stmt := (G8 (top 51) 1)
theorem scU2 : B9 Q0 Q0 (A1 sU2) := scK
theorem A0nc {f : Addr} {fd : FuncData} (F : Fun K "goes_up" "Floor.goes_up" sU2 f fd) : sI P w K mg base 1 f fd Q0 (A7x .floor) := by
 refine C4.up (F.ok scU2 (fun vs H Q E h => ?_) (fun cdv A outer s H vs Q E hr h => ?_))
 . obtain ⟨p, z, l, t, rfl, _⟩ := h
   rfl
 obtain ⟨p, z, l, t, rfl, k⟩ := h
 refine ⟨_, (A9 (B8 (D9 D6 (pv 1) A3 (C5 _)))), ?_⟩
 exact ⟨_, rfl, rfl, k H (B7.refl H)⟩
abbrev sT2 : Stmt := (G8 (top 51) 2)
theorem scT2 : B9 Q3 Q3 (A1 sT2) := scK
theorem A0ks {f : Addr} {fd : FuncData} (F : Fun K "to_end" "Floor.to_end" sT2 f fd) : sI P w K mg base 1 f fd Q3 (A3n .floor) := by
 refine C4.up (F.ok scT2 (fun vs H Q E h => ?_) (fun cdv A outer s H vs Q E hr h => ?_))
 . obtain ⟨p, z, rfl, _⟩ := h
   rfl
 obtain ⟨p, z, rfl, k⟩ := h
 refine ⟨_, (A9 (B8 (D9 D6 (pv 1) A3 (C5 _)))), ?_⟩
 exact ⟨_, rfl, rfl, k H (B7.refl H)⟩
abbrev sU3 : Stmt := (G8 (top 52) 1)
theorem scU3 : B9 Q0 Q0 (A1 sU3) := scK
theorem A0mq {f : Addr} {fd : FuncData} (F : Fun K "goes_up" "Ceiling.goes_up" sU3 f fd) : sI P w K mg base 1 f fd Q0 (A7x .ceiling) := by
 refine C4.up (F.ok scU3 (fun vs H Q E h => ?_) (fun cdv A outer s H vs Q E hr h => ?_))
 . obtain ⟨p, z, l, t, rfl, _⟩ := h
   rfl
 obtain ⟨p, z, l, t, rfl, k⟩ := h
 refine ⟨_, (A9 (B8 (D9 D6 (pv 1) A3 (C5 _)))), ?_⟩
 exact ⟨_, rfl, rfl, k H (B7.refl H)⟩
abbrev sT3 : Stmt := (G8 (top 52) 2)
theorem scT3 : B9 Q3 Q3 (A1 sT3) := scK
theorem A0mj {f : Addr} {fd : FuncData} (F : Fun K "to_end" "Ceiling.to_end" sT3 f fd) : sI P w K mg base 1 f fd Q3 (A3n .ceiling) := by
 refine C4.up (F.ok scT3 (fun vs H Q E h => ?_) (fun cdv A outer s H vs Q E hr h => ?_))
 . obtain ⟨p, z, rfl, _⟩ := h
   rfl
 obtain ⟨p, z, rfl, k⟩ := h
 refine ⟨_, (A9 (B8 (D9 D6 (pv 1) A3 (C5 _)))), ?_⟩
 exact ⟨_, rfl, rfl, k H (B7.refl H)⟩
abbrev sU4 : Stmt := (G8 (top 53) 1)
theorem scU4 : B9 Q0 Q0 (A1 sU4) := scK
theorem A0ny {f : Addr} {fd : FuncData} (F : Fun K "goes_up" "HalfUp.goes_up" sU4 f fd) : sI P w K mg base 1 f fd Q0 (A7x .halfUp) := by
 refine C4.up (F.ok scU4 (fun vs H Q E h => ?_) (fun cdv A outer s H vs Q E hr h => ?_))
 . obtain ⟨p, z, l, t, rfl, _⟩ := h
   rfl
 obtain ⟨p, z, l, t, rfl, k⟩ := h
 refine ⟨_, (A9 (B8 (D9 J1r (pv 3) A3 (C5 _)))), ?_⟩
 exact ⟨_, rfl, _, _, rfl, rfl, k H (B7.refl H)⟩
abbrev sT4 : Stmt := (G8 (top 53) 2)
theorem scT4 : B9 Q3 Q3 (A1 sT4) := scK
theorem A0km {f : Addr} {fd : FuncData} (F : Fun K "to_end" "HalfUp.to_end" sT4 f fd) : sI P w K mg base 1 f fd Q3 (A3n .halfUp) := by
 refine C4.up (F.ok scT4 (fun vs H Q E h => ?_) (fun cdv A outer s H vs Q E hr h => ?_))
 . obtain ⟨p, z, rfl, _⟩ := h
   rfl
 obtain ⟨p, z, rfl, k⟩ := h
 refine ⟨_, (A9 (B8 B1h)), ?_⟩
 exact k H (B7.refl H)
abbrev sU5 : Stmt := (G8 (top 54) 1)
theorem scU5 : B9 Q0 Q0 (A1 sU5) := scK
theorem A0np {f : Addr} {fd : FuncData} (F : Fun K "goes_up" "HalfDown.goes_up" sU5 f fd) : sI P w K mg base 1 f fd Q0 (A7x .halfDown) := by
 refine C4.up (F.ok scU5 (fun vs H Q E h => ?_) (fun cdv A outer s H vs Q E hr h => ?_))
 . obtain ⟨p, z, l, t, rfl, _⟩ := h
   rfl
 obtain ⟨p, z, l, t, rfl, k⟩ := h
 refine ⟨_, (A9 (B8 (D9 D6 (pv 3) A3 (C5 _)))), ?_⟩
 exact ⟨_, rfl, rfl, k H (B7.refl H)⟩
abbrev sT5 : Stmt := (G8 (top 54) 2)
theorem scT5 : B9 Q3 Q3 (A1 sT5) := scK
theorem A0mb {f : Addr} {fd : FuncData} (F : Fun K "to_end" "HalfDown.to_end" sT5 f fd) : sI P w K mg base 1 f fd Q3 (A3n .halfDown) := by
 refine C4.up (F.ok scT5 (fun vs H Q E h => ?_) (fun cdv A outer s H vs Q E hr h => ?_))
 . obtain ⟨p, z, rfl, _⟩ := h
   rfl
 obtain ⟨p, z, rfl, k⟩ := h
 refine ⟨_, (A9 (B8 B1h)), ?_⟩
 exact k H (B7.refl H)
abbrev sU6 : Stmt := (G8 (top 55) 1)
theorem scU6 : B9 Q0 Q0 (A1 sU6) := scK
theorem A0nw {f : Addr} {fd : FuncData} (F : Fun K "goes_up" "HalfEven.goes_up" sU6 f fd) : sI P w K mg base 1 f fd Q0 (A7x .halfEven) := by
 refine C4.up (F.ok scU6 (fun vs H Q E h => ?_) (fun cdv A outer s H vs Q E hr h => ?_))
 . obtain ⟨p, z, l, t, rfl, _⟩ := h
   rfl
 obtain ⟨p, z, l, t, rfl, k⟩ := h
 refine ⟨_, (A9 (B8 (J1j (D9 D6 (pv 3) A3 (C5 _)) (A2a (A4n (D9 D6 (pv 3) A3 (C5 _)) (A2a (D9 D6 (B3 G2 (pv 2) A3) A3 (C5 _)))))))), ?_⟩
 have k := k H (B7.refl H)
 unfold Wy.goes at k
 refine ⟨_, rfl, rfl, _, rfl, ?_⟩
 cases e : decide (V.int t = V.int 3) with
 | true => rw [e] at k; exact Z2 k
 | false =>
   rw [e] at k
   refine U2 ⟨_, rfl, rfl, _, rfl, ?_⟩
   cases e2 : decide (V.int t = V.int 2) with
   | true => rw [e2] at k; exact Z2 ⟨_, rfl, _, _, rfl, rfl, (by decide : (0 : Int) < 2), rfl, k⟩
   | false => rw [e2] at k; exact U2 k
abbrev sT6 : Stmt := (G8 (top 55) 2)
theorem scT6 : B9 Q3 Q3 (A1 sT6) := scK
theorem A0nf {f : Addr} {fd : FuncData} (F : Fun K "to_end" "HalfEven.to_end" sT6 f fd) : sI P w K mg base 1 f fd Q3 (A3n .halfEven) := by
 refine C4.up (F.ok scT6 (fun vs H Q E h => ?_) (fun cdv A outer s H vs Q E hr h => ?_))
 . obtain ⟨p, z, rfl, _⟩ := h
   rfl
 obtain ⟨p, z, rfl, k⟩ := h
 refine ⟨_, (A9 (B8 B1h)), ?_⟩
 exact k H (B7.refl H)
abbrev sU7 : Stmt := (G8 (top 56) 1)
theorem scU7 : B9 Q0 Q0 (A1 sU7) := scK
theorem A0kq {f : Addr} {fd : FuncData} (F : Fun K "goes_up" "FiveUp.goes_up" sU7 f fd) : sI P w K mg base 1 f fd Q0 (A7x .fiveUp) := by
 refine C4.up (F.ok scU7 (fun vs H Q E h => ?_) (fun cdv A outer s H vs Q E hr h => ?_))
 . obtain ⟨p, z, l, t, rfl, _⟩ := h
   rfl
 obtain ⟨p, z, l, t, rfl, k⟩ := h
 refine ⟨_, (A9 (B8 (D9 A4c (pv 2) (U1 (A0 A3 (A0 A3 A6))) (by rfl)))), ?_⟩
 exact ⟨_, rfl, C9 (by decide), fun q nq => ⟨q, _, rfl, .inr (SqT.of A8), rfl, rfl, k _ (B7.upd nq)⟩⟩
abbrev sT7 : Stmt := (G8 (top 56) 2)
theorem scT7 : B9 Q3 Q3 (A1 sT7) := scK
theorem A0kp {f : Addr} {fd : FuncData} (F : Fun K "to_end" "FiveUp.to_end" sT7 f fd) : sI P w K mg base 1 f fd Q3 (A3n .fiveUp) := by
 refine C4.up (F.ok scT7 (fun vs H Q E h => ?_) (fun cdv A outer s H vs Q E hr h => ?_))
 . obtain ⟨p, z, rfl, _⟩ := h
   rfl
 obtain ⟨p, z, rfl, k⟩ := h
 refine ⟨_, (A9 (B8 B1h)), ?_⟩
 exact k H (B7.refl H)
abbrev A5h : Stmt := (top 30)
abbrev A2n : Stmt := (top 31)
abbrev A0e : Stmt := (top 32)
abbrev A5k : Stmt := (top 33)
abbrev A5n : Stmt := (top 34)
abbrev B0q : Stmt := (top 35)
abbrev B1a : Stmt := (top 36)
abbrev A4g : Stmt := (top 37)
abbrev A4j : Stmt := (top 38)
abbrev A3r : Stmt := (top 39)
structure Cv where
 r : Int
 y : Wy
 l : Int
 m : Int
structure Cv.Ok (c : Cv) : Prop where
 r1 : 1 <= c.r
 r2 : c.r <= 24
 l1 : -60 <= c.l
 l2 : c.l <= 0
 m1 : 0 <= c.m
 m2 : c.m <= 60
def B1c (ideal : Int) : Nat -> Int -> Int -> Int × Int
 | 0, f, p => (f, p)
 | n + 1, f, p => if f % 10 = 0 then B1c ideal n (f / 10) (p + 1) else (f, p)
def A0m (ideal f p : Int) : Int × Int := B1c ideal (ideal - p).toNat f p
theorem C6z {ideal f p : Int} (h : p < ideal) (z : f % 10 = 0) : A0m ideal f p = A0m ideal (f / 10) (p + 1) := by
 unfold A0m
 obtain ⟨n, hn⟩ : ∃ n, (ideal - p).toNat = n + 1 := ⟨(ideal - p).toNat - 1, by omega⟩
 rw [hn, show (ideal - (p + 1)).toNat = n by omega]
 show (if f % 10 = 0 then B1c ideal n (f / 10) (p + 1) else (f, p)) = _
 rw [if_pos z]
theorem C6t {ideal f p : Int} (h : ¬ (p < ideal /\ f % 10 = 0)) : A0m ideal f p = (f, p) := by
 unfold A0m
 by_cases q : p < ideal
 . obtain ⟨n, hn⟩ : ∃ n, (ideal - p).toNat = n + 1 := ⟨(ideal - p).toNat - 1, by omega⟩
   rw [hn]
   show (if f % 10 = 0 then B1c ideal n (f / 10) (p + 1) else (f, p)) = _
   rw [if_neg fun z => h ⟨q, z⟩]
 rw [show (ideal - p).toNat = 0 by omega]
 rfl
def B9r (f : Int) : Int := ((Str.ofString (toString f)).length : Nat)
def upI (y : Wy) (s wh pt : Int) : Int := if (if pt = 0 then false else y.goes s (wh % 10) pt) = true then wh + 1 else wh
def B0m (r f q : Int) : Int × Int := if f = C7 r then (f / 10, q + 1) else (f, q)
def Y8 (c : Cv) (s wh pt q ideal : Int) : Int × Int := if pt = 0 then A0m ideal wh q else B0m c.r (upI c.y s wh pt) q
def A3s (m f p : Int) : Bool := if f = 0 then false else decide (p + B9r f - 1 > m)
def B6r (c : Cv) (s : Int) : Nm := if c.y.toEnd s = true then ⟨.end_, s, 0, 0⟩ else ⟨.plain, s, C7 c.r - 1, c.m - c.r + 1⟩
def A0y (pt : Int) (cut : Bool) : List Str := if pt = 0 then (if cut = true then ["cut"] else []) else ["off", "cut"]
def A0x (l L pt : Int) : List Str := if L >= l then [] else if pt = 0 then ["faint"] else ["sunk", "faint"]
def A5p (c : Cv) (s wh pt L q ideal : Int) : Nm × List Str :=
 if A3s c.m (Y8 c s wh pt q ideal).1 (Y8 c s wh pt q ideal).2 = true then (B6r c s, Q43)
 else (⟨.plain, s, (Y8 c s wh pt q ideal).1, (Y8 c s wh pt q ideal).2⟩, A0y pt (decide ((Y8 c s wh pt q ideal).2 > ideal)) ++ A0x c.l L pt)
def Y1 (a b : Int) : Int := if b > a then b else a
def C5z (a b : Int) : Int := if b < a then b else a
def A4y (CC : Addr) (H : Hp) (c : Addr) (v : Cv) (a b : Addr) (xs ys : List Str) : Prop := U4 CC H c v.r v.y v.l v.m a b (xs.map V.str) (ys.map V.str)
theorem A4y.same {CC : Addr} {H H' : Hp} {c : Addr} {v : Cv} {a b : Addr} {xs ys : List Str} (h : A4y CC H c v a b xs ys) (e : B7 H H') : A4y CC H' c v a b xs ys := U4.same h e
theorem D6e {CN : Addr} {H : Hp} {Q : VK} {E : XK} {k s f p : V} (h : ∀ n H', H n = none -> B7 H H' -> A4x CN H' n k s f p -> Q (.ref n) H') :
   ∀ x dx, H x = none -> H dx = none -> dx ≠ x -> G0f CN (.ref x :: ([k, s, f, p] ++ [])) (upd (upd H dx (.own x)) x (.ins CN dx [])) (fun v H2 => v = .non /\ Q (.ref x) H2) E := by
 intro x dx nx nd ne
 refine ⟨x, dx, k, s, f, p, rfl, A8, fun H' e kp => ⟨rfl, h x H' nx (fun b o z => ?_) ⟨dx, e⟩⟩⟩
 refine kp b o ?_ (D5 z nx)
 rw [C8 (D5 z nx), C8 (D5 z nd)]
 exact z
structure C0j (P : Program) (w : World) (K : Frag) (mg : Str -> Option Value) (base : Heap) (CC CB CT CW : Addr) (cw : Wy -> Addr) : Prop where
 c : C6c K mg CC
 way : Has P w K mg base CC "way" 2 ["self"] (C6v CC cw)
 low : Has P w K mg base CC "lowest" 1 ["self"] (C7g CC)
 raised : Has P w K mg base CC "raised" 3 Q11 (B8t K CC CB CT)
 wc : ∀ y : Wy, C6d K mg y.cls (cw y) CW
 u : ∀ y : Wy, WayU P w K mg base (cw y) y
 e : ∀ y : Wy, WayE P w K mg base (cw y) y
def D7c (CN : Addr) : Sp := fun vs H Q _ => ∃ i s f p : Int, vs = [.int i, .int s, .int f, .int p] /\ ∀ n H', H n = none -> B7 H H' -> V4 CN H' n ⟨.plain, s, (A0m i f p).1, (A0m i f p).2⟩ -> Q (.ref n) H'
theorem scNearest : B9 Q15 Q15 (A1 A2n) := scK
theorem J8c {f fI CN : Addr} {fd fdI : FuncData} (D : Def K mg "nearest_to" Q15 A2n f fd) (N : Num K mg CN) (M : C5k P w K mg base CN fI fdI) : sI P w K mg base 3 f fd Q15 (D7c CN) := by
 refine C4.up (D.F.ok scNearest (fun vs H Q E h => ?_) (fun cdv A outer s H vs Q E hr h => ?_))
 . obtain ⟨i, s, f, p, rfl, _⟩ := h
   rfl
 obtain ⟨i, sg, fg, pw, rfl, k⟩ := h
 have hx : G7 (A0w CX0 P w K mg base Q15 "nearest_to" (A1 A2n) f cdv A outer s H E).nox EKF := A0a
 refine ⟨_, (A7 (B0h PassesOwn.never (PW.pt (A1h (C6 C7d (pv 3) (pv 0) (C5 _)) (A1e (C6 D6 (B3 G2 (pv 2) A3) A3 (C5 _))))) (A7 (D0 (i := 2) scNearest.nd rfl (Or.inl rfl) (B3 G3 (pv 2) A3)) (A9 (D0 (i := 3) scNearest.nd rfl (Or.inl rfl) (B3 V6 (pv 3) A3))))) (A9 (B8 (C7e M.m (C4.up M.g) hr N.g M.b .nil hx (A0 B0 (A0 (pv 1) (A0 (pv 2) (A0 (pv 3) A6)))))))), ?_⟩
 have d10 : (0 : Int) < 10 /\ (10 : Int).natAbs.log2 < 9000 := ⟨by decide, by decide +kernel⟩
 refine B0u (fun σ H2 => H2 = H /\ ∃ f p : Int, A0m i f p = A0m i fg pw /\ σ = [si i, si sg, si f, si p]) (fun σ _ => match σ with | [_, _, _, some (.int p)] => (i - p).toNat | _ => 0) ?_ ?_ ?_
 . exact ⟨rfl, fg, pw, rfl, rfl⟩
 . rintro σ H2 ⟨rfl, f, p, e, rfl⟩
   have stop : ¬ (p < i /\ f % 10 = 0) -> ∀ n H', H2 n = none -> B7 H2 H' -> A4x CN H' n (.str "plain") (.int sg) (.int f) (.int p) -> Q (.ref n) H' := fun h n H' nn sm num => by
     refine k n H' nn sm ?_
     rw [<- e, C6t h]
     exact num
   refine ⟨_, rfl, _, rfl, _, _, rfl, rfl, _, rfl, J0 (fun h1 => ?_) (fun h1 => U2 ⟨_, rfl, _, rfl, _, rfl, D6e (stop fun q => h1 q.1)⟩)⟩
   refine ⟨_, rfl, _, _, rfl, rfl, d10.1, rfl, _, rfl, J0 (fun h2 => ?_) (fun h2 => ⟨_, rfl, _, rfl, _, rfl, D6e (stop fun q => h2 (congrArg V.int q.2))⟩)⟩
   have h1 : p < i := h1
   have h2 : f % 10 = 0 := by injection h2
   refine ⟨_, rfl, _, _, rfl, rfl, d10, _, rfl, _, _, rfl, rfl, ⟨rfl, f / 10, p + 1, (C6z h1 h2).symm.trans e, rfl⟩, ?_⟩
   show (i - (p + 1)).toNat < (i - p).toNat
   omega
 rintro σ H2 Q1 Q2 hQ ⟨v, e, v2, e2, a, b, e3, e4, c, e5, q⟩
 refine ⟨v, e, v2, e2, a, b, e3, e4, c, e5, ?_⟩
 cases c with
 | false => exact U2 (hQ _ _ (by simpa using q))
 | true =>
   have q : _ := q
   rw [if_pos rfl] at q ⊢
   obtain ⟨v3, e6, a2, b2, e7, e8, e9, e10, e11, e12, q⟩ := q
   exact ⟨v3, e6, a2, b2, e7, e8, e9, e10, e11, e12, hQ _ _ q⟩
def C4w (CC : Addr) : Sp := fun vs H Q _ => ∃ c v a b xs ys p, ∃ s wh pt : Int, vs = [.ref c, .int s, .ref p] /\ A4y CC H c v a b xs ys /\ H p = some (.tup [.int wh, .int pt]) /\ ∀ H', B7 H H' -> Q (.int (upI v.y s wh pt)) H'
theorem J0y : B9 Q16 Q16 (A1 A0e) := scK
theorem D9n {f CC CB CT CW : Addr} {cw : Wy -> Addr} {fd : FuncData} (D : Def K mg "neighbour" Q16 A0e f fd) (C : C0j P w K mg base CC CB CT CW cw) : sI P w K mg base 3 f fd Q16 (C4w CC) := by
 refine C4.up (D.F.ok J0y (fun vs H Q E h => ?_) (fun cdv A outer s H vs Q E hr h => ?_))
 . obtain ⟨c, v, a, b, xs, ys, p, sg, wh, pt, rfl, _⟩ := h
   rfl
 obtain ⟨c, v, a, b, xs, ys, p, sg, wh, pt, rfl, hc, hp, k⟩ := h
 have hx : G7 (A0w CX0 P w K mg base Q16 "neighbour" (A1 A0e) f cdv A outer s H E).nox EKF := A0a
 obtain ⟨fW, fdW, mW, gW, bW⟩ := C.way
 obtain ⟨fU, fdU, mU, gU, bU⟩ := C.u v.y
 refine ⟨_, (A7 (G4 (PW.pt (A1h (C6 C5f (J1 G9 (pv 2) A3 (fun _ _ => rfl)) A3 (C5 _)) (A1e (A0g (B5v (A7n (pv 0) C.c.cl mW gW hr bW .nil hx) (C.wc v.y).cl mU gU hr bU .nil hx (A0 (pv 1) (A0 (B3 G2 (J1 G9 (pv 2) A3 (fun _ _ => rfl)) A3) (A0 (J1 G9 (pv 2) A3 (fun _ _ => rfl)) A6)))))))) (A9 (B8 (B3 V6 (J1 G9 (pv 2) A3 (fun _ _ => rfl)) A3))) D3) (A9 (B8 (J1 G9 (pv 2) A3 (fun _ _ => rfl))))), ?_⟩
 obtain ⟨⟨dx, e⟩, _, _⟩ := id hc
 unfold upI at k
 refine ⟨_, rfl, p, _, _, _, rfl, rfl, SqT.of hp, J9 (j := 1) rfl, rfl, _, rfl, ?_⟩
 by_cases h0 : pt = 0
 . subst h0
   rw [if_pos rfl, if_neg Bool.false_ne_true] at k
   exact C7w rfl (U2 ⟨_, rfl, p, _, _, _, rfl, rfl, SqT.of hp, J9 (j := 0) rfl, k H (B7.refl H)⟩)
 rw [if_neg h0] at k
 rw [decide_eq_false (fun q => h0 (by injection q) : ¬ V.int pt = V.int 0)]
 refine Z2 ⟨_, rfl, c, dx, _, rfl, e, C7c _ _ _ _ _ _, c, v.r, v.y, v.l, v.m, a, b, _, _, rfl, hc, fun q dq H1 nq s1 eq => ?_⟩
 refine ⟨q, dq, _, rfl, eq, rfl, _, rfl, _, rfl, p, _, _, _, rfl, rfl, SqT.of (s1 _ _ hp), J9 (j := 0) rfl, _, _, rfl, rfl, (by decide : (0 : Int) < 10), _, rfl, p, _, _, _, rfl, rfl, SqT.of (s1 _ _ hp), J9 (j := 1) rfl, q, sg, wh % 10, pt, rfl, fun H2 s2 => ⟨_, rfl, ?_⟩⟩
 have s3 := s1.trans s2
 cases g : v.y.goes sg (wh % 10) pt with
 | true =>
   rw [g, if_pos rfl] at k
   exact Z2 ⟨_, rfl, p, _, _, _, rfl, rfl, SqT.of (s3 _ _ hp), J9 (j := 0) rfl, _, _, rfl, rfl, k H2 s3⟩
 | false =>
   rw [g, if_neg Bool.false_ne_true] at k
   exact U2 ⟨_, rfl, p, _, _, _, rfl, rfl, SqT.of (s3 _ _ hp), J9 (j := 0) rfl, k H2 s3⟩
def G9z (CN CC : Addr) : Sp := fun vs H Q _ => ∃ c v a b xs ys, ∃ s f q : Int, vs = [.ref c, .int s, .int f, .int q] /\ A4y CC H c v a b xs ys /\ v.Ok /\ ∀ n H', H n = none -> B7 H H' -> V4 CN H' n ⟨.plain, s, (B0m v.r f q).1, (B0m v.r f q).2⟩ -> Q (.ref n) H'
theorem Y0m : B9 Q17 Q17 (A1 A5k) := scK
theorem V3d {f f1 fI CN CC CB CT CW : Addr} {cw : Wy -> Addr} {fd fd1 fdI : FuncData} (D : Def K mg "within_room" Q17 A5k f fd) (D_ten_to : Def K mg "ten_to" ["count"] A1v f1 fd1) (G_ten_to : sI P w K mg base 2 f1 fd1 ["count"] A7k) (C : C0j P w K mg base CC CB CT CW cw) (N : Num K mg CN) (M : C5k P w K mg base CN fI fdI) :
   sI P w K mg base 3 f fd Q17 (G9z CN CC) := by
 refine C4.up (D.F.ok Y0m (fun vs H Q E h => ?_) (fun cdv A outer s H vs Q E hr h => ?_))
 . obtain ⟨c, v, a, b, xs, ys, sg, f, q, rfl, _⟩ := h
   rfl
 obtain ⟨c, v, a, b, xs, ys, sg, fg, q, rfl, hc, ok, k⟩ := h
 have hx : G7 (A0w CX0 P w K mg base Q17 "within_room" (A1 A5k) f cdv A outer s H E).nox EKF := A0a
 refine ⟨_, (A7 (G4 (C6 D6 (pv 2) (D4 D_ten_to G_ten_to hr hx (A0 (G6 (pv 0) rfl) A6)) (C5 _)) (A9 (B8 (C7e M.m (C4.up M.g) hr N.g M.b .nil hx (A0 B0 (A0 (pv 1) (A0 (B3 G3 (pv 2) A3) (A0 (B3 V6 (pv 3) A3) A6))))))) D3) (A9 (B8 (C7e M.m (C4.up M.g) hr N.g M.b .nil hx (A0 B0 (A0 (pv 1) (A0 (pv 2) (A0 (pv 3) A6)))))))), ?_⟩
 have d10 : (0 : Int) < 10 /\ (10 : Int).natAbs.log2 < 9000 := ⟨by decide, by decide +kernel⟩
 obtain ⟨⟨dx, e⟩, _, _⟩ := id hc
 have r1 := ok.r1; have r2 := ok.r2
 refine ⟨_, rfl, _, rfl, c, CC, dx, _, _, rfl, e, C.c.cl, C.c.n_room, A6m _ _ _ _ _ _, v.r.toNat, (by rw [Int.toNat_of_nonneg (by omega)]; rfl), by omega, rfl, _, rfl, ?_⟩
 unfold B0m at k
 refine J0 (fun h => ?_) (fun h => ?_)
 . have h : fg = C7 v.r := by injection h
   rw [if_pos h] at k
   exact ⟨_, rfl, _, rfl, _, _, rfl, rfl, d10, _, rfl, _, _, rfl, rfl, D6e k⟩
 have h : ¬ fg = C7 v.r := fun z => h (congrArg V.int z)
 rw [if_neg h] at k
 exact ⟨_, rfl, _, rfl, _, rfl, D6e k⟩
def J1v (CN CC : Addr) : Sp := fun vs H Q _ => ∃ c v a b xs ys n x, vs = [.ref c, .ref n] /\ A4y CC H c v a b xs ys /\ V4 CN H n x /\ x.f.natAbs < 2 ^ 300 /\ Q (.bl (A3s v.m x.f x.p)) H
theorem V9n : B9 Q18 Q18 (A1 A5n) := scK
theorem V1b {f f1 CN CC CB CT CW : Addr} {cw : Wy -> Addr} {fd fd1 : FuncData} (D : Def K mg "is_beyond" Q18 A5n f fd) (D_lead_of : Def K mg "lead_of" ["number"] C8q f1 fd1) (G_lead_of : sI P w K mg base 1 f1 fd1 ["number"] (V7z CN)) (C : C0j P w K mg base CC CB CT CW cw) (N : Num K mg CN) :
   sI P w K mg base 2 f fd Q18 (J1v CN CC) := by
 refine C4.up (D.F.ok V9n (fun vs H Q E h => ?_) (fun cdv A outer s H vs Q E hr h => ?_))
 . obtain ⟨c, v, a, b, xs, ys, n, x, rfl, _⟩ := h
   rfl
 obtain ⟨c, v, a, b, xs, ys, n, x, rfl, hc, hn, hf, k⟩ := h
 have hx : G7 (A0w CX0 P w K mg base Q18 "is_beyond" (A1 A5n) f cdv A outer s H E).nox EKF := A0a
 refine ⟨_, (A9 (B8 (A4n (D9 C5f (G6 (pv 1) rfl) A3 (C5 _)) (A2a (D9 B5u (D4 D_lead_of G_lead_of hr hx (A0 (pv 1) A6)) (G6 (pv 0) rfl) (C5 _)))))), ?_⟩
 obtain ⟨⟨dx, e⟩, _, _⟩ := id hc
 obtain ⟨dn, en⟩ := id hn
 unfold A3s at k
 refine ⟨_, rfl, n, CN, dn, _, _, rfl, en, N.cl, N.n3, V3f _ _ _ _, rfl, _, rfl, ?_⟩
 by_cases h0 : x.f = 0
 . rw [if_pos h0] at k
   rw [decide_eq_true (congrArg V.int h0)]
   exact U2 k
 rw [if_neg h0] at k
 rw [decide_eq_false (fun q => h0 (by injection q) : ¬ V.int x.f = V.int 0)]
 exact Z2 ⟨_, rfl, n, _, _, _, _, rfl, hn, hf, _, rfl, c, CC, dx, _, _, rfl, e, C.c.cl, C.c.n_most, C8e _ _ _ _ _ _, _, _, rfl, rfl, k⟩
def U8q (CN CC : Addr) : Sp := fun vs H Q _ => ∃ c v a b xs ys, ∃ s : Int, vs = [.ref c, .int s] /\ A4y CC H c v a b xs ys /\ v.Ok /\ ∀ n H', H n = none -> B7 H H' -> V4 CN H' n ⟨.plain, s, C7 v.r - 1, v.m - v.r + 1⟩ -> Q (.ref n) H'
theorem Z6w : B9 Q5 Q5 (A1 B1a) := scK
theorem V7q {f f1 fI CN CC CB CT CW : Addr} {cw : Wy -> Addr} {fd fd1 fdI : FuncData} (D : Def K mg "nines" Q5 B1a f fd) (D_ten_to : Def K mg "ten_to" ["count"] A1v f1 fd1) (G_ten_to : sI P w K mg base 2 f1 fd1 ["count"] A7k) (C : C0j P w K mg base CC CB CT CW cw) (N : Num K mg CN) (M : C5k P w K mg base CN fI fdI) :
   sI P w K mg base 3 f fd Q5 (U8q CN CC) := by
 refine C4.up (D.F.ok Z6w (fun vs H Q E h => ?_) (fun cdv A outer s H vs Q E hr h => ?_))
 . obtain ⟨c, v, a, b, xs, ys, sg, rfl, _⟩ := h
   rfl
 obtain ⟨c, v, a, b, xs, ys, sg, rfl, hc, ok, k⟩ := h
 have hx : G7 (A0w CX0 P w K mg base Q5 "nines" (A1 B1a) f cdv A outer s H E).nox EKF := A0a
 refine ⟨_, (A9 (B8 (C7e M.m (C4.up M.g) hr N.g M.b .nil hx (A0 B0 (A0 (pv 1) (A0 (B3 V0 (D4 D_ten_to G_ten_to hr hx (A0 (G6 (pv 0) rfl) A6)) A3) (A0 (B3 V6 (B3 V0 (G6 (pv 0) rfl) (G6 (pv 0) rfl)) A3) A6))))))), ?_⟩
 obtain ⟨⟨dx, e⟩, _, _⟩ := id hc
 have r1 := ok.r1; have r2 := ok.r2
 exact ⟨_, rfl, _, rfl, c, CC, dx, _, _, rfl, e, C.c.cl, C.c.n_room, A6m _ _ _ _ _ _, v.r.toNat, (by rw [Int.toNat_of_nonneg (by omega)]; rfl), by omega, _, _, rfl, rfl, _, rfl, c, CC, dx, _, _, rfl, e, C.c.cl, C.c.n_most, C8e _ _ _ _ _ _, _, rfl, c, CC, dx, _, _, rfl, e, C.c.cl, C.c.n_room, A6m _ _ _ _ _ _, _, _, rfl, rfl, _, _, rfl, rfl, D6e k⟩
def U8w (CN CC : Addr) : Sp := fun vs H Q _ => ∃ c v a b xs ys, ∃ s : Int, vs = [.ref c, .int s] /\ A4y CC H c v a b xs ys /\ v.Ok /\ 0 <= s /\ s <= 1 /\ ∀ n H', B7 H H' -> V4 CN H' n (B6r v s) -> Q (.ref n) H'
theorem Z8n : B9 Q5 Q5 (A1 B0q) := scK
theorem V8s {f f1 f2 CN CN' CC CB CT CW : Addr} {cw : Wy -> Addr} {fd fd1 fd2 : FuncData} (D : Def K mg "burst" Q5 B0q f fd) (D_nines : Def K mg "nines" Q5 B1a f1 fd1) (G_nines : sI P w K mg base 3 f1 fd1 Q5 (U8q CN CC)) (D_end : Def K mg "end" ["sign"] D2s f2 fd2) (G_end : sI P w K mg base 3 f2 fd2 ["sign"] (J1p K CN CN')) (C : C0j P w K mg base CC CB CT CW cw) :
   sI P w K mg base 4 f fd Q5 (U8w CN CC) := by
 refine C4.up (D.F.ok Z8n (fun vs H Q E h => ?_) (fun cdv A outer s H vs Q E hr h => ?_))
 . obtain ⟨c, v, a, b, xs, ys, sg, rfl, _⟩ := h
   rfl
 obtain ⟨c, v, a, b, xs, ys, sg, rfl, hc, ok, s0, s1, k⟩ := h
 have hx : G7 (A0w CX0 P w K mg base Q5 "burst" (A1 B0q) f cdv A outer s H E).nox EKF := A0a
 obtain ⟨fW, fdW, mW, gW, bW⟩ := C.way
 obtain ⟨fU, fdU, mU, gU, bU⟩ := C.e v.y
 refine ⟨_, (A9 (B8 (A0f (A0g (B5v (A7n (pv 0) C.c.cl mW gW hr bW .nil hx) (C.wc v.y).cl mU gU hr bU .nil hx (A0 (pv 1) A6))) (D4 D_end G_end hr hx (A0 (pv 1) A6)) (D4 D_nines G_nines hr hx (A0 (pv 0) (A0 (pv 1) A6)))))), ?_⟩
 obtain ⟨⟨dx, e⟩, _, _⟩ := id hc
 unfold B6r at k
 refine ⟨_, rfl, c, dx, _, rfl, e, C7c _ _ _ _ _ _, c, v.r, v.y, v.l, v.m, a, b, _, _, rfl, hc, fun q dq H1 nq t1 eq => ?_⟩
 refine ⟨q, dq, _, rfl, eq, rfl, _, rfl, q, sg, rfl, fun H2 t2 => ⟨_, rfl, ?_⟩⟩
 have t3 := t1.trans t2
 cases g : v.y.toEnd sg with
 | true =>
   rw [g, if_pos rfl] at k
   exact Z2 ⟨_, rfl, _, rfl, .inl ⟨⟨sg, rfl, s0, s1⟩, fun n H' _ sm num => k n H' (t3.trans sm) num⟩⟩
 | false =>
   rw [g, if_neg Bool.false_ne_true] at k
   exact U2 ⟨_, rfl, _, rfl, c, v, a, b, xs, ys, sg, rfl, hc.same t3, ok, fun n H' _ sm num => k n H' (t3.trans sm) num⟩
def D6t : Sp := fun vs H Q _ => ∃ (pt : Int) (cut : Bool), vs = [.int pt, .bl cut] /\ ∀ l, H l = none -> Q (.ref l) (upd H l (.lst ((A0y pt cut).map V.str)))
theorem V2g : B9 Q23 Q23 (A1 A4g) := scK
theorem J6x {f : Addr} {fd : FuncData} (D : Def K mg "signals_of_rest" Q23 A4g f fd) : sI P w K mg base 1 f fd Q23 D6t := by
 refine C4.up (D.F.ok V2g (fun vs H Q E h => ?_) (fun cdv A outer s H vs Q E hr h => ?_))
 . obtain ⟨pt, cut, rfl, _⟩ := h
   rfl
 obtain ⟨pt, cut, rfl, k⟩ := h
 refine ⟨_, (A7 (G4 (C6 C5f (pv 0) A3 (C5 _)) (A9 (B8 (U7 (A0 B0 (A0 B0 A6))))) D3) (A9 (B8 (A0f (A0g (pv 1)) (U7 (A0 B0 A6)) (U7 A6))))), ?_⟩
 unfold A0y at k
 refine ⟨_, rfl, rfl, _, rfl, ?_⟩
 by_cases h0 : pt = 0
 . subst h0
   rw [if_pos rfl] at k
   refine C7w rfl ⟨_, rfl, _, rfl, ?_⟩
   cases cut with
   | true => exact Z2 ⟨C9 (by decide), k⟩
   | false => exact U2 ⟨C9 (by decide), k⟩
 rw [if_neg h0] at k
 rw [decide_eq_false (fun q => h0 (by injection q) : ¬ V.int pt = V.int 0)]
 exact Z2 ⟨C9 (by decide), k⟩
def D7d (CC : Addr) : Sp := fun vs H Q _ => ∃ c v a b xs ys, ∃ L pt : Int, vs = [.ref c, .int L, .int pt] /\ A4y CC H c v a b xs ys /\ ∀ l, H l = none -> Q (.ref l) (upd H l (.lst ((A0x v.l L pt).map V.str)))
theorem V1f : B9 Q24 Q24 (A1 A4j) := scK
theorem J6z {f CC CB CT CW : Addr} {cw : Wy -> Addr} {fd : FuncData} (D : Def K mg "signals_of_lead" Q24 A4j f fd) (C : C0j P w K mg base CC CB CT CW cw) : sI P w K mg base 1 f fd Q24 (D7d CC) := by
 refine C4.up (D.F.ok V1f (fun vs H Q E h => ?_) (fun cdv A outer s H vs Q E hr h => ?_))
 . obtain ⟨c, v, a, b, xs, ys, L, pt, rfl, _⟩ := h
   rfl
 obtain ⟨c, v, a, b, xs, ys, L, pt, rfl, hc, k⟩ := h
 refine ⟨_, (A7 (G4 (C6 J1r (pv 1) (G6 (pv 0) rfl) (C5 _)) (A9 (B8 (U7 A6))) D3) (A9 (B8 (A0f (C6 D6 (pv 2) A3 (C5 _)) (U7 (A0 B0 A6)) (U7 (A0 B0 (A0 B0 A6))))))), ?_⟩
 obtain ⟨⟨dx, e⟩, _, _⟩ := id hc
 unfold A0x at k
 refine ⟨_, rfl, _, rfl, c, CC, dx, _, _, rfl, e, C.c.cl, C.c.n_least, D6s _ _ _ _ _ _, _, _, rfl, rfl, _, rfl, J0 (fun h => ?_) (fun h => ?_)⟩
 . rw [if_pos h] at k
   exact ⟨C9 (by decide), k⟩
 rw [if_neg h] at k
 refine ⟨_, rfl, rfl, _, rfl, J0 (fun h => ?_) (fun h => ?_)⟩
 . rw [if_pos (by injection h)] at k
   exact ⟨C9 (by decide), k⟩
 rw [if_neg fun q => h (congrArg V.int q)] at k
 exact ⟨C9 (by decide), k⟩
def C7h (CN CC : Addr) : Sp := fun vs H Q _ => ∃ c v a b xs ys, ∃ s i : Int, vs = [.ref c, .int s, .int i] /\ A4y CC H c v a b xs ys /\ ∀ n H', H n = none -> B7 H H' -> V4 CN H' n ⟨.plain, s, 0, C5z (Y1 i (v.l - v.r + 1)) v.m⟩ -> Q (.ref n) H'
theorem Y0d : B9 Q10 Q10 (A1 A3r) := scK
theorem V2c {f fI CN CC CB CT CW : Addr} {cw : Wy -> Addr} {fd fdI : FuncData} (D : Def K mg "nought" Q10 A3r f fd) (C : C0j P w K mg base CC CB CT CW cw) (N : Num K mg CN) (M : C5k P w K mg base CN fI fdI) (O : Own mg) : sI P w K mg base 3 f fd Q10 (C7h CN CC) := by
 refine C4.up (D.F.ok Y0d (fun vs H Q E h => ?_) (fun cdv A outer s H vs Q E hr h => ?_))
 . obtain ⟨c, v, a, b, xs, ys, sg, i, rfl, _⟩ := h
   rfl
 obtain ⟨c, v, a, b, xs, ys, sg, i, rfl, hc, k⟩ := h
 have hx : G7 (A0w CX0 P w K mg base Q10 "nought" (A1 A3r) f cdv A outer s H E).nox EKF := A0a
 obtain ⟨fL, fdL, mL, gL, bL⟩ := C.low
 refine ⟨_, (A9 (B8 (C7e M.m (C4.up M.g) hr N.g M.b .nil hx (A0 B0 (A0 (pv 1) (A0 A3 (A0 (G5 (C0h rfl) (by rfl) O.min_ boot_min (A0 (G5 (V9 rfl) (by rfl) O.max_ boot_max (A0 (pv 2) (A0 (A7n (pv 0) C.c.cl mL gL hr bL .nil hx) A6))) (A0 (G6 (pv 0) rfl) A6))) A6))))))), ?_⟩
 obtain ⟨⟨dx, e⟩, _, _⟩ := id hc
 exact ⟨_, rfl, _, rfl, _, rfl, c, dx, _, rfl, e, B5q _ _ _ _ _ _, c, v.r, v.y, v.l, v.m, a, b, _, _, rfl, hc, _, _, rfl, _, rfl, c, CC, dx, _, _, rfl, e, C.c.cl, C.c.n_most, C8e _ _ _ _ _ _, _, _, rfl, D6e k⟩
abbrev A4k : Stmt := (top 29)
theorem B8v (i : Int) : ∀ (n : Nat) (f p : Int), 0 <= f -> 0 <= (B1c i n f p).1 /\ (B1c i n f p).1 <= f
 | 0, f, p, h => ⟨h, Int.le_refl _⟩
 | n + 1, f, p, h => by
   show 0 <= (if f % 10 = 0 then B1c i n (f / 10) (p + 1) else (f, p)).1 /\ (if f % 10 = 0 then B1c i n (f / 10) (p + 1) else (f, p)).1 <= f
   by_cases z : f % 10 = 0
   . rw [if_pos z]
     have := B8v i n (f / 10) (p + 1) (by omega)
     omega
   . rw [if_neg z]
     exact ⟨h, Int.le_refl _⟩
theorem Y0c {t b u1 v1 u2 v2 d : Nat} (h : t * 10 ^ u1 < 10 * (b * 10 ^ v1)) (e : u2 + v1 <= u1 + v2 + d) : t * 10 ^ u2 < 10 ^ (d + 1) * (b * 10 ^ v2) := by
 have p : 0 < 10 ^ v1 := Nat.pow_pos (by decide)
 apply Nat.lt_of_mul_lt_mul_right (a := 10 ^ v1)
 calc t * 10 ^ u2 * 10 ^ v1 = t * 10 ^ (u2 + v1) := by rw [Nat.mul_assoc, <- Nat.pow_add]
   _ <= t * 10 ^ (u1 + v2 + d) := Nat.mul_le_mul_left t (Nat.pow_le_pow_right (by decide) e)
   _ = t * 10 ^ u1 * (10 ^ v2 * 10 ^ d) := by rw [Nat.mul_assoc, <- Nat.pow_add, <- Nat.pow_add, Nat.add_assoc]
   _ < 10 * (b * 10 ^ v1) * (10 ^ v2 * 10 ^ d) := Nat.mul_lt_mul_of_pos_right h (Nat.mul_pos (Nat.pow_pos (by decide)) (Nat.pow_pos (by decide)))
   _ = 10 ^ (d + 1) * (b * 10 ^ v2) * 10 ^ v1 := by rw [Nat.pow_succ]; ac_rfl
theorem G0e {t b s1 s2 r : Int} (ht : Sz t) (hb : Sz b) (h : A2t t b s1) (hr : 1 <= r) (e : s2 <= s1 + (r - 1)) : 0 <= whI t b s2 /\ whI t b s2 < C7 r := by
 obtain ⟨tn, rfl, _, _⟩ := ht.nat
 obtain ⟨bn, rfl, b1, _⟩ := hb.nat
 have lp : 0 < (bn : Int) * C7 (-s2) := Int.mul_pos (by omega) (V1 _)
 refine ⟨Int.ediv_nonneg (Int.mul_nonneg (by omega) (Int.le_of_lt (V1 _))) (Int.le_of_lt lp), ?_⟩
 refine Int.ediv_lt_of_lt_mul lp ?_
 have a : tn * 10 ^ s1.toNat < 10 * (bn * 10 ^ (-s1).toNat) := Int.ofNat_lt.mp h.2
 have c := Y0c (u2 := s2.toNat) (v2 := (-s2).toNat) (d := (r - 1).toNat) a (by omega)
 rw [show (r - 1).toNat + 1 = r.toNat by omega] at c
 exact Int.ofNat_lt.mpr c
theorem G0a {r : Int} (h : r <= 24) : C7 r <= 10 ^ 24 := by
 unfold C7
 have : 10 ^ r.toNat <= 10 ^ 24 := Nat.pow_le_pow_right (by decide) (by omega)
 exact Int.ofNat_le.mpr this
theorem C6w {c : Cv} {s wh pt q i : Int} (ok : c.Ok) (h0 : 0 <= wh) (h1 : wh < C7 c.r) : (Y8 c s wh pt q i).1.natAbs < 2 ^ 300 := by
 have t := G0a ok.r2
 have big : ((10 ^ 24 : Nat) : Int) = 10 ^ 24 := by decide +kernel
 have lt : ∀ z : Int, 0 <= z -> z <= 10 ^ 24 -> z.natAbs < 2 ^ 300 := fun z a b => Nat.lt_of_le_of_lt (show z.natAbs <= 10 ^ 24 by omega) (by decide +kernel)
 unfold Y8
 split
 . have := B8v i (i - q).toNat wh q h0
   exact lt _ this.1 (by unfold A0m; omega)
 have hu : 0 <= upI c.y s wh pt /\ upI c.y s wh pt <= C7 c.r := by
   have e : upI c.y s wh pt = wh + 1 \/ upI c.y s wh pt = wh := by
     unfold upI
     generalize (if pt = 0 then false else c.y.goes s (wh % 10) pt) = g
     cases g with
     | true => exact .inl rfl
     | false => exact .inr rfl
   omega
 generalize upI c.y s wh pt = u at hu
 unfold B0m
 split
 . exact lt (u / 10) (by omega) (by omega)
 exact lt u (by omega) (by omega)
def J1s (CC CR : Addr) : Sp := fun vs H Q _ => ∃ c v a b xs ys x, ∃ t bo n L : Int, vs = [.ref c, .ref x] /\ A4y CC H c v a b xs ys /\ C5m CR H x t bo n /\ Sz t /\ Sz bo /\ A2t t bo (n - L) /\ ∀ H', B7 H H' -> Q (.int (Y1 (L - v.r + 1) (v.l - v.r + 1))) H'
theorem V9w : B9 Q19 Q19 (A1 A5h) := scK
theorem V2s {f CC CB CT CW CR CE g1 g2 : Addr} {cw : Wy -> Addr} {fd gd1 gd2 : FuncData} (D : Def K mg "finest_power" Q19 A5h f fd) (C : C0j P w K mg base CC CB CT CW cw) (RM : RatM P w K mg base CR g1 g2 gd1 gd2) (R : J8k K mg CR CE) (O : Own mg) : sI P w K mg base 5 f fd Q19 (J1s CC CR) := by
 refine C4.up (D.F.ok V9w (fun vs H Q E h => ?_) (fun cdv A outer s H vs Q E hr h => ?_))
 . obtain ⟨c, v, a, b, xs, ys, x, t, bo, n, L, rfl, _⟩ := h
   rfl
 obtain ⟨c, v, a, b, xs, ys, x, t, bo, n, L, rfl, hc, ra, ht, hb, hL, k⟩ := h
 have hx : G7 (A0w CX0 P w K mg base Q19 "finest_power" (A1 A5h) f cdv A outer s H E).nox EKF := A0a
 obtain ⟨fL, fdL, mL, gL, bL⟩ := C.low
 refine ⟨_, (A9 (B8 (G5 (V9 rfl) (by rfl) O.max_ boot_max (A0 (B3 V6 (B3 V0 (A7n (pv 1) R.cl RM.m1 RM.g1 hr RM.b1 .nil hx) (G6 (pv 0) rfl)) A3) (A0 (A7n (pv 0) C.c.cl mL gL hr bL .nil hx) A6))))), ?_⟩
 obtain ⟨dr, er⟩ := id ra
 refine ⟨_, rfl, x, dr, _, rfl, er, B8r _ _ _, x, t, bo, n, rfl, ra, ht, hb, fun f H1 s1 ld => ?_⟩
 have ef : f = L := by
   have := D9x (show 0 < bo by have := hb.1; omega) ld hL
   omega
 subst ef
 have hc1 := hc.same s1
 obtain ⟨⟨dx, e⟩, _, _⟩ := id hc1
 exact ⟨_, rfl, c, CC, dx, _, _, rfl, e, C.c.cl, C.c.n_room, A6m _ _ _ _ _ _, _, _, rfl, rfl, _, _, rfl, rfl, _, rfl, c, dx, _, rfl, e, B5q _ _ _ _ _ _, c, v.r, v.y, v.l, v.m, a, b, _, _, rfl, hc1, _, _, rfl, k H1 s1⟩
def Cv.fin (v : Cv) (L : Int) : Int := Y1 (L - v.r + 1) (v.l - v.r + 1)
def A1b (v : Cv) (s t bo n L i : Int) : Nm × List Str := A5p v s (whI t bo (n - v.fin L)) (ptI t bo (n - v.fin L)) L (v.fin L) i
def A4z (CN CC CT : Addr) (H : Hp) (c : Addr) (v : Cv) (b : Addr) (xs ys : List Str) (res : Nm × List Str) (Q : VK) (E : XK) : Prop :=
 (hit ys res.2 = none -> ∀ m a' H', Exc c H H' -> A4y CC H' c v a' b (Y7 (xs ++ res.2)) ys -> V4 CN H' m res.1 -> Q (.ref m) H') /\
 (∀ z, hit ys res.2 = some z -> ∀ a' d H', Exc c H H' -> A4y CC H' c v a' b (Y7 (xs ++ res.2)) ys -> H' d = some (.xd [("signal", .str z)]) -> E (.ref CT) (some d) H')
def D6x (CN CC CT CR : Addr) : Sp := fun vs H Q E => ∃ c v a b xs ys x, ∃ t bo n L s i : Int, vs = [.ref c, .int s, .ref x, .int i] /\ A4y CC H c v a b xs ys /\ v.Ok /\ xs.length <= 900 /\ C5m CR H x t bo n /\ Sz t /\ Sz bo /\ A2t t bo (n - L) /\ -1500 <= n - v.fin L /\ n - v.fin L <= 1500 /\ 0 <= s /\ s <= 1 /\
 A4z CN CC CT H c v b xs ys (A1b v s t bo n L i) Q E
theorem scSettled : B9 ["context", "sign", "exact", "ideal", "finest", "pair", "number", "names"] Q33 (A1 A4k) := scK
theorem V2v : ∀ z ∈ (Q43 : List Str), z ∈ A0j := by decide +kernel
theorem Y0n {pt : Int} {cut : Bool} {l L : Int} : ∀ z ∈ A0y pt cut ++ A0x l L pt, z ∈ A0j := by
 have r : ∀ z ∈ A0y pt cut, z ∈ A0j := by
   unfold A0y
   split
   . split
     . decide +kernel
     . decide +kernel
   . decide +kernel
 have d : ∀ z ∈ A0x l L pt, z ∈ A0j := by
   unfold A0x
   split
   . decide +kernel
   . split
     . decide +kernel
     . decide +kernel
 intro z hz
 rcases List.mem_append.mp hz with h | h
 . exact r z h
 exact d z h
theorem V9v {pt : Int} {cut : Bool} {l L : Int} : (A0y pt cut ++ A0x l L pt).length <= 4 := by
 have r : (A0y pt cut).length <= 2 := by
   unfold A0y
   split
   . split <;> decide
   . decide
 have d : (A0x l L pt).length <= 2 := by
   unfold A0x
   split
   . decide
   . split <;> decide
 rw [List.length_append]
 omega
theorem J6w {f f1 f2 f3 f4 f5 f6 f7 f8 CN CC CB CT CW CR CE g1 g2 : Addr} {cw : Wy -> Addr} {fd fd1 fd2 fd3 fd4 fd5 fd6 fd7 fd8 gd1 gd2 : FuncData} (D : Def K mg "settled" Q33 A4k f fd)
   (D_finest_power : Def K mg "finest_power" Q19 A5h f1 fd1) (G_finest_power : sI P w K mg base 5 f1 fd1 Q19 (J1s CC CR)) (D_nearest_to : Def K mg "nearest_to" Q15 A2n f2 fd2) (G_nearest_to : sI P w K mg base 3 f2 fd2 Q15 (D7c CN))
   (D_neighbour : Def K mg "neighbour" Q16 A0e f3 fd3) (G_neighbour : sI P w K mg base 3 f3 fd3 Q16 (C4w CC)) (D_within_room : Def K mg "within_room" Q17 A5k f4 fd4) (G_within_room : sI P w K mg base 3 f4 fd4 Q17 (G9z CN CC))
   (D_is_beyond : Def K mg "is_beyond" Q18 A5n f5 fd5) (G_is_beyond : sI P w K mg base 2 f5 fd5 Q18 (J1v CN CC)) (D_burst : Def K mg "burst" Q5 B0q f6 fd6) (G_burst : sI P w K mg base 4 f6 fd6 Q5 (U8w CN CC))
   (D_signals_of_rest : Def K mg "signals_of_rest" Q23 A4g f7 fd7) (G_signals_of_rest : sI P w K mg base 1 f7 fd7 Q23 D6t) (D_signals_of_lead : Def K mg "signals_of_lead" Q24 A4j f8 fd8) (G_signals_of_lead : sI P w K mg base 1 f8 fd8 Q24 (D7d CC))
   (C : C0j P w K mg base CC CB CT CW cw) (RM : RatM P w K mg base CR g1 g2 gd1 gd2) (R : J8k K mg CR CE) (N : Num K mg CN) : sI P w K mg base 6 f fd Q33 (D6x CN CC CT CR) := by
 refine D.F.okE scSettled (fun vs H Q E h => ?_) (fun X cdv A outer s H vs Q E hX hr hx h => ?_)
 . obtain ⟨c, v, a, b, xs, ys, x, t, bo, n, L, sg, i, rfl, _⟩ := h
   rfl
 subst hX
 obtain ⟨c, v, a, b, xs, ys, x, t, bo, n, L, sg, i, rfl, hc, ok, lx, ra, ht, hb, hL, q0, q1, s0, s1, k⟩ := h
 obtain ⟨fR, fdR, mR, gR, bR⟩ := C.raised
 refine ⟨_, (A7 (B4 (D0 (i := 4) scSettled.nd rfl (Or.inl rfl) (D4 D_finest_power G_finest_power hr hx (A0 (pv 0) (A0 (pv 2) A6))))) (A7 (B4 (D0 (i := 5) scSettled.nd rfl (Or.inl rfl) (B5v (pv 2) R.cl RM.m2 RM.g2 hr RM.b2 .nil hx (A0 (pv 4) A6)))) (A7 (B4 (G4 (C6 D6 (J1 G9 (pv 5) A3 (fun _ _ => rfl)) A3 (C5 _)) (A9 (D0 (i := 6) scSettled.nd rfl (Or.inl rfl) (D4 D_nearest_to G_nearest_to hr hx (A0 (pv 3) (A0 (pv 1) (A0 (J1 G9 (pv 5) A3 (fun _ _ => rfl)) (A0 (pv 4) A6))))))) (A9 (D0 (i := 6) scSettled.nd rfl (Or.inl rfl) (D4 D_within_room G_within_room hr hx (A0 (pv 0) (A0 (pv 1) (A0 (D4 D_neighbour G_neighbour hr hx (A0 (pv 0) (A0 (pv 1) (A0 (pv 5) A6)))) (A0 (pv 4) A6))))))))) (A7 (B4 (G4 (A0g (D4 D_is_beyond G_is_beyond hr hx (A0 (pv 0) (A0 (pv 6) A6)))) (A7 (Z5 (B5v (pv 0) C.c.cl mR gR hr bR .nil hx (A0 (U7 (A0 B0 (A0 B0 (A0 B0 A6)))) A6))) (A9 (B8 (D4 D_burst G_burst hr hx (A0 (pv 0) (A0 (pv 1) A6)))))) D3)) (A7 (B4 (D0 (i := 7) scSettled.nd rfl (Or.inl rfl) (D4 D_signals_of_rest G_signals_of_rest hr hx (A0 (J1 G9 (pv 5) A3 (fun _ _ => rfl)) (A0 (D9 B5u (G6 (pv 6) rfl) (pv 3) (C5 _)) A6))))) (A7 (B4 (Z5 (B5v (pv 0) C.c.cl mR gR hr bR .nil hx (A0 (B3 C8d (pv 7) (D4 D_signals_of_lead G_signals_of_lead hr hx (A0 (pv 0) (A0 (A7n (pv 2) R.cl RM.m1 RM.g1 hr RM.b1 .nil hx) (A0 (J1 G9 (pv 5) A3 (fun _ _ => rfl)) A6))))) A6)))) (A9 (B8 (pv 6))))))))), ?_⟩
 have b0 : 0 < bo := by have := hb.1; omega
 have wr := G0e (s2 := n - v.fin L) ht hb hL ok.r1 (by
   unfold Cv.fin Y1
   split <;> omega)
 unfold A1b A5p at k
 refine ⟨fun σ' H' => B7 H H' /\ σ' = [sr c, si sg, sr x, si i, si (v.fin L), none, none, none], ?_, ?_⟩
 . exact ⟨_, rfl, _, rfl, c, v, a, b, xs, ys, x, t, bo, n, L, rfl, hc, ra, ht, hb, hL, fun H' s' => ⟨s', rfl⟩⟩
 rintro σ' H1 ⟨t1, rfl⟩
 have hc1 := hc.same t1
 have ra1 := ra.same t1
 generalize v.fin L = q at *
 generalize hwh : whI t bo (n - q) = wh at *
 generalize hpt : ptI t bo (n - q) = pt at *
 refine ⟨fun σ' H' => ∃ p, B7 H1 H' /\ H' p = some (.tup [.int wh, .int pt]) /\ σ' = [sr c, si sg, sr x, si i, si q, sr p, none, none], ?_, ?_⟩
 . obtain ⟨dr, er⟩ := id ra1
   refine ⟨_, rfl, x, dr, _, rfl, er, D6m _ _ _, _, rfl, x, t, bo, n, q, rfl, ra1, ht, hb, q0, q1, fun p H' s' np ep => ⟨p, s', ?_, rfl⟩⟩
   rw [hwh, hpt] at ep
   exact ep
 rintro σ' H2 ⟨p, t2, hp, rfl⟩
 have hc2 := hc1.same t2
 have sm := C6w (s := sg) (pt := pt) (q := q) (i := i) ok wr.1 wr.2
 refine ⟨fun σ' H' => ∃ m, B7 H2 H' /\ H2 m = none /\ V4 CN H' m ⟨.plain, sg, (Y8 v sg wh pt q i).1, (Y8 v sg wh pt q i).2⟩ /\ σ' = [sr c, si sg, sr x, si i, si q, sr p, sr m, none], ?_, ?_⟩
 . refine ⟨_, rfl, p, _, _, _, rfl, rfl, SqT.of hp, J9 (j := 1) rfl, rfl, _, rfl, J0 (fun h => ?_) (fun h => ?_)⟩
   . have h : pt = 0 := by injection h
     refine ⟨_, rfl, _, rfl, _, rfl, p, _, _, _, rfl, rfl, SqT.of hp, J9 (j := 0) rfl, _, rfl, i, sg, wh, q, rfl, fun m H' nm s' num => ⟨m, s', nm, ?_, rfl⟩⟩
     unfold Y8
     rw [if_pos h]
     exact num
   . have h : ¬ pt = 0 := fun z => h (congrArg V.int z)
     refine ⟨_, rfl, _, rfl, _, rfl, _, rfl, _, rfl, c, v, a, b, xs, ys, p, sg, wh, pt, rfl, hc2, hp, fun H3 s3 => ?_⟩
     refine ⟨_, rfl, c, v, a, b, xs, ys, sg, _, q, rfl, hc2.same s3, ok, fun m H' nm s' num => ⟨m, s3.trans s', s3.free nm, ?_, rfl⟩⟩
     unfold Y8
     rw [if_neg h]
     exact num
 rintro σ' H3 ⟨m, t3, nm, num, rfl⟩
 have hc3 := hc2.same t3
 have tA := (t1.trans t2).trans t3
 have nmc : m ≠ c := fun z => by
   obtain ⟨⟨dx, e⟩, _, _⟩ := hc2
   rw [z, e] at nm
   cases nm
 obtain ⟨⟨dx, e3⟩, _, _⟩ := id hc3
 generalize hf : (Y8 v sg wh pt q i).1 = fg at *
 generalize hg : (Y8 v sg wh pt q i).2 = pw at *
 refine ⟨fun σ' H' => H' = H3 /\ A3s v.m fg pw = false /\ σ' = [sr c, si sg, sr x, si i, si q, sr p, sr m, none], ?_, ?_⟩
 . refine ⟨_, rfl, _, rfl, c, v, a, b, xs, ys, m, _, rfl, hc3, num, sm, _, rfl, ?_⟩
   cases e : A3s v.m fg pw with
   | false => exact U2 ⟨rfl, rfl, rfl⟩
   | true =>
     rw [e, if_pos rfl] at k
     refine Z2 ⟨_, rfl, c, dx, _, rfl, e3, A0n _ _ _ _ _ _, C9 (by decide), fun l nl => ?_⟩
     have u := B7.upd (o := .lst [.str "burst", .str "off", .str "cut"]) nl
     refine ⟨c, v.r, v.y, v.l, v.m, a, b, xs, ys, .ref l, rfl, hc3.same u, by omega, .inl ⟨l, Q43, rfl, A8, by decide, V2v, fun hn a' H4 x4 na ct => ?_, fun z hz a' d H4 x4 na ct nd ed => ?_⟩⟩
     . refine ⟨_, rfl, _, rfl, c, v, a', b, _, ys, sg, rfl, ct, ok, s0, s1, fun m' H5 s5 num5 => k.1 hn m' a' H5 (((Exc.of (tA.trans u)).trans x4).trans (.of s5)) (A4y.same ct s5) num5⟩
     . exact k.2 z hz a' d H4 ((Exc.of (tA.trans u)).trans x4) ct ed
 rintro σ' H4 ⟨rfl, e, rfl⟩
 rw [e, if_neg Bool.false_ne_true] at k
 refine ⟨fun σ' H' => ∃ l, B7 H4 H' /\ H' l = some (.lst ((A0y pt (decide (pw > i))).map V.str)) /\ σ' = [sr c, si sg, sr x, si i, si q, sr p, sr m, sr l], ?_, ?_⟩
 . obtain ⟨dn, en⟩ := id num
   exact ⟨_, rfl, p, _, _, _, rfl, rfl, SqT.of (t3 _ _ hp), J9 (j := 1) rfl, _, rfl, m, CN, dn, _, _, rfl, en, N.cl, N.n4, G9u _ _ _ _, _, rfl, _, _, rfl, rfl, pt, _, rfl, fun l nl => ⟨l, B7.upd nl, A8, rfl⟩⟩
 rintro σ' H5 ⟨l, t5, hl, rfl⟩
 refine ⟨fun σ' H' => hit ys (A0y pt (decide (pw > i)) ++ A0x v.l L pt) = none /\ ∃ a', Exc c H H' /\ A4y CC H' c v a' b (Y7 (xs ++ (A0y pt (decide (pw > i)) ++ A0x v.l L pt))) ys /\ V4 CN H' m ⟨.plain, sg, fg, pw⟩ /\ σ' = [sr c, si sg, sr x, si i, si q, sr p, sr m, sr l], ?_, ?_⟩
 . have ra5 := ((ra1.same t2).same t3).same t5
   obtain ⟨dr, er⟩ := id ra5
   have hc5 := hc3.same t5
   refine ⟨_, rfl, c, dx, _, rfl, t5 _ _ e3, A0n _ _ _ _ _ _, _, rfl, _, rfl, _, rfl, x, dr, _, rfl, er, B8r _ _ _, x, t, bo, n, rfl, ra5, ht, hb, fun f H6 t6 ld => ?_⟩
   have ef : f = L := by
     have := D9x b0 ld hL
     omega
   subst ef
   refine ⟨_, rfl, p, _, _, _, rfl, rfl, SqT.of ((t5.trans t6) _ _ (t3 _ _ hp)), J9 (j := 1) rfl, c, v, a, b, xs, ys, f, pt, rfl, hc5.same t6, fun l2 nl2 => ?_⟩
   have u2 := B7.upd (o := .lst ((A0x v.l f pt).map V.str)) nl2
   have rl := V9v (pt := pt) (cut := decide (pw > i)) (l := v.l) (L := f)
   rw [List.length_append] at rl
   refine ⟨l, l2, _, _, rfl, rfl, (t6.trans u2) _ _ hl, A8, C9 (by rw [List.length_map, List.length_map]; omega), fun l3 nl3 => ?_⟩
   have u3 := B7.upd (o := .lst ((A0y pt (decide (pw > i))).map V.str ++ (A0x v.l f pt).map V.str)) nl3
   have tB := (t6.trans u2).trans u3
   have num7 := (num.same t5).same tB
   obtain ⟨dn7, en7⟩ := id num7
   have keep : ∀ {H' : Hp}, Exc c _ H' -> V4 CN H' m ⟨.plain, sg, fg, pw⟩ := fun x7 => ⟨dn7, x7 _ _ en7 nmc⟩
   refine ⟨c, v.r, v.y, v.l, v.m, a, b, xs, ys, .ref l3, rfl, (hc5.same tB), by omega, .inl ⟨l3, A0y pt (decide (pw > i)) ++ A0x v.l f pt, rfl, by rw [A8, List.map_append], by rw [List.length_append]; omega, Y0n, fun hn a' H8 x8 na ct => ?_, fun z hz a' d H8 x8 na ct nd ed => ?_⟩⟩
   . exact ⟨hn, a', (Exc.of (tA.trans (t5.trans tB))).trans x8, ct, keep x8, rfl⟩
   . exact k.2 z hz a' d H8 ((Exc.of (tA.trans (t5.trans tB))).trans x8) ct ed
 rintro σ' H6 ⟨hn, a', x6, ct, num6, rfl⟩
 exact ⟨_, rfl, k.1 hn m a' H6 x6 ct num6⟩
theorem V8j {v : Cv} {L n : Int} (ok : v.Ok) (h1 : -1000 <= n - L) (h2 : n - L <= 1000) (n1 : -400 <= n) (n2 : n <= 400) : -1500 <= n - v.fin L /\ n - v.fin L <= 1500 := by
 have := ok.r1; have := ok.r2; have := ok.l1; have := ok.l2
 unfold Cv.fin Y1
 split <;> omega
theorem C7x {t b s : Int} (ht : Sz t) (hb : Sz b) (h : A2t t b s) : -1000 <= s /\ s <= 1000 := by
 have e := V1 1000
 refine ⟨?_, ?_⟩
 . apply Classical.byContradiction
   intro hs
   have z : C7 s = 1 := by unfold C7; rw [show s.toNat = 0 by omega]; rfl
   have g : C7 1000 <= C7 (-s) := A7c (by omega)
   have a := h.1
   rw [z, Int.mul_one] at a
   have : 1 * C7 (-s) <= b * C7 (-s) := Int.mul_le_mul_of_nonneg_right hb.1 (Int.le_of_lt (V1 _))
   have := ht.2
   omega
 apply Classical.byContradiction
 intro hs
 have z : C7 (-s) = 1 := by unfold C7; rw [show (-s).toNat = 0 by omega]; rfl
 have g : C7 1001 <= C7 s := A7c (by omega)
 have e1 : C7 1001 = 10 * C7 1000 := by
   unfold C7
   rw [show (1001 : Int).toNat = (1000 : Int).toNat + 1 by decide, Nat.pow_succ, Nat.mul_comm]
   rfl
 have a := h.2
 rw [z, Int.mul_one] at a
 have : 1 * C7 s <= t * C7 s := Int.mul_le_mul_of_nonneg_right ht.1 (Int.le_of_lt (V1 _))
 have := hb.2
 omega
theorem J7k : Sz 1 := ⟨by decide, by
 have : C7 1 <= C7 1000 := A7c (by decide)
 have e : C7 1 = 10 := rfl
 omega⟩
theorem Y0q {f : Int} (h0 : 0 <= f) (h : f ≠ 0) (h1 : f <= 10 ^ 60 - 1) : Sz f := by
 refine ⟨by omega, ?_⟩
 have : C7 60 <= C7 1000 := A7c (by decide)
 have e : C7 60 = 10 ^ 60 := by decide +kernel
 omega
abbrev A7e : Stmt := (top 22)
abbrev B6e : Stmt := (top 23)
def J0k (K : Frag) (CN CB : Addr) : Sp := fun vs H Q E => ∃ l ns, vs = [.ref l] /\ (∀ p ∈ (ns : List (Addr × Nm)), V4 CN H p.1 p.2) /\
 ((H l = some (.lst (ns.map fun p => V.ref p.1)) /\ Q .non H) \/ (∃ v r, H l = some (.lst ((ns.map fun p => V.ref p.1) ++ v :: r)) /\ J7y K CN H v /\ E (.ref CB) none H))
theorem scNeedNs : B9 ["things", "thing"] ["things"] (A1 A7e) := scK
theorem V1v {f f1 CN CB : Addr} {fd fd1 : FuncData} (D : Def K mg "need_numbers" ["things"] A7e f fd) (D_need_number : Def K mg "need_number" ["thing"] B1d f1 fd1) (G_need_number : sI P w K mg base 1 f1 fd1 ["thing"] (U8h K CN CB)) : sI P w K mg base 2 f fd ["things"] (J0k K CN CB) := by
 refine D.F.okE scNeedNs (fun vs H Q E h => ?_) (fun X cdv A outer s H vs Q E hX hr hx h => ?_)
 . obtain ⟨l, ns, rfl, _⟩ := h
   rfl
 subst hX
 obtain ⟨l, ns, rfl, hn, h⟩ := h
 refine ⟨_, (A9 (C0b PassesOwn.leaving rfl (C6g (pv 0)) (Y3 (i := 1) scNeedNs.nd rfl (Or.inl rfl)) (A9 (Z5 (D4 D_need_number G_need_number hr hx (A0 (pv 1) A6)))))), ?_⟩
 rcases h with ⟨hl, k⟩ | ⟨v, r, hl, nv, k⟩
 . refine ⟨_, rfl, l, rfl, ⟨_, SqL.of hl⟩, A6n (xs := ns.map fun p => V.ref p.1) (fun i σ H' => H' = H /\ ∃ v, σ = [sr l, v]) ⟨rfl, none, rfl⟩ ?_ ?_ ?_⟩
   . rintro i σ H' _ ⟨rfl, _⟩
     exact SqL.of hl
   . rintro i x σ H' hi ⟨rfl, v, rfl⟩
     obtain ⟨p, hp, rfl⟩ := List.mem_map.mp (List.mem_of_getElem? hi)
     exact ⟨_, rfl, _, rfl, .inl ⟨p.1, _, _, _, _, rfl, hn p hp, rfl, _, rfl⟩⟩
   . rintro σ H' ⟨rfl, v, rfl⟩
     exact k
 refine ⟨_, rfl, l, rfl, ⟨_, SqL.of hl⟩, A6n (xs := (ns.map fun p => V.ref p.1) ++ v :: r) (fun i σ H' => H' = H /\ i <= ns.length /\ ∃ v, σ = [sr l, v]) ⟨rfl, Nat.zero_le _, none, rfl⟩ ?_ ?_ ?_⟩
 . rintro i σ H' _ ⟨rfl, _⟩
   exact SqL.of hl
 . rintro i x σ H' hi ⟨rfl, hle, u, rfl⟩
   by_cases hlt : i < ns.length
   . rw [List.getElem?_append_left (by simpa using hlt)] at hi
     obtain ⟨p, hp, rfl⟩ := List.mem_map.mp (List.mem_of_getElem? hi)
     exact ⟨_, rfl, _, rfl, .inl ⟨p.1, _, _, _, _, rfl, hn p hp, rfl, by omega, _, rfl⟩⟩
   . have e : i = ns.length := by omega
     subst e
     rw [List.getElem?_append_right (by simp)] at hi
     simp at hi
     subst hi
     exact ⟨_, rfl, _, rfl, .inr ⟨nv, k⟩⟩
 rintro σ H' ⟨rfl, hle, _⟩
 exfalso
 rw [List.length_append, List.length_map, List.length_cons] at hle
 omega
def V0a (CN : Addr) : Sp := fun vs H Q _ => ∃ l ns z, vs = [.ref l, .str z] /\ Y1z CN H l ns /\ ns.length <= 1000 /\ ∀ H', B7 H H' -> Q (.bl (ns.any fun p => decide (p.2.k.str = z))) H'
theorem Z6x : B9 Q25 Q25 (A1 B6e) := scK
theorem A0eg (ns : List (Addr × Nm)) (z : Str) : (ns.map fun p => decide (p.2.k.str = z)).any id = ns.any fun p => decide (p.2.k.str = z) := by rw [List.any_map]; rfl
theorem C6m {a b : Str} : decide (V.str a = V.str b) = decide (a = b) := by
 by_cases h : a = b
 . rw [decide_eq_true h, decide_eq_true (congrArg V.str h)]
 rw [decide_eq_false h, decide_eq_false fun q => h (by injection q)]
theorem Y1s {f CN : Addr} {fd : FuncData} (D : Def K mg "some_of_kind" Q25 B6e f fd) (O : Own mg) (N : Num K mg CN) : sI P w K mg base 1 f fd Q25 (V0a CN) := by
 refine C4.up (D.F.ok Z6x (fun vs H Q E h => ?_) (fun cdv A outer s H vs Q E hr h => ?_))
 . obtain ⟨l, ns, z, rfl, _⟩ := h
   rfl
 obtain ⟨l, ns, z, rfl, ⟨hl, hn⟩, hz, k⟩ := h
 refine ⟨_, (A9 (B8 (G5 (V7s hr.hd) (by rfl) O.any_ boot_any (A0 (V2e (N := ["number"]) (F := ["kind"]) (js := [1]) (D8.of1 ⟨rfl, by decide +kernel, by decide +kernel, by decide +kernel, by decide +kernel⟩ (by rfl) (by rfl) ⟨_, by rfl⟩ (by rfl) (by rfl)) (.inl hr.hd) (J1d (pv 0)) rfl (fun C s₀ H₀ ex pn h => Y3 (i := 0) (by decide +kernel : (["number", "kind"] : List Str).Nodup) rfl (Or.inl rfl)) (fun C s₀ H₀ ex pn h => (D9 D6 (Z9g (K := K) rfl (pv 0) rfl) (pv 1) (C5 _)))) A6)))), ?_⟩
 refine ⟨_, rfl, l, rfl, ⟨_, SqL.of hl⟩, V1y (J := Itl K l) (n := ns.length) (fun i y _ => ∃ p, ns[i]? = some p /\ y = .bl (decide (p.2.k.str = z))) hz (fun _ _ _ _ _ _ h _ _ => h) (fun i H2 Qy hi sm hy => ⟨⟨_, V.ref ns[i].1, SqL.of (sm _ _ hl), by simp [hi]⟩, fun x H3 yl => ?_⟩) (fun H2 sm => ⟨_, SqL.of (sm _ _ hl), by simp⟩) (fun D H' ys sm nD eD hlen hR => ?_)⟩
 . obtain ⟨rfl, yl⟩ := yl
   have ex : x = V.ref ns[i].1 := by
     have := yl _ (SqL.of (sm _ _ hl))
     simp [hi] at this
     exact this.symm
   subst ex
   obtain ⟨dx, e⟩ := (hn _ (List.getElem_mem hi)).same sm
   refine ⟨_, rfl, ns[i].1, CN, dx, _, _, rfl, e, N.cl, N.n1, num1 _ _ _ _, _, rfl, rfl, hy _ _ (B7.refl _) ⟨ns[i], by simp [hi], ?_⟩⟩
   rw [C6m]
 have ey : ys = (ns.map fun p => decide (p.2.k.str = z)).map V.bl := by
   apply List.ext_getElem?
   intro i
   by_cases hi : i < ns.length
   . obtain ⟨p, hp, hy⟩ := hR i ys[i] (by simp [hlen, hi])
     rw [List.getElem?_eq_getElem (by omega), hy]
     simp [hp]
   . rw [List.getElem?_eq_none (by omega), List.getElem?_eq_none (by simp; omega)]
 subst ey
 refine ⟨D, _, rfl, SqL.of eD, ?_⟩
 rw [A0eg]
 exact k H' sm
abbrev C5d : Stmt := (top 65)
def J6d (K : Frag) : Sp := fun vs H Q _ => ∃ a ns k, vs = [.ref a, .int k] /\ SqL K H a ((ns : List Int).map V.int) /\ 0 <= k /\ ∀ i, Q (.int i) H
theorem A0ek : B9 Q12 Q12 (A1 C5d) := scK
theorem U9w {f : Addr} {fd : FuncData} (D : Def K mg "_law_cell_at" Q12 C5d f fd) (O : Own mg) : sI P w K mg base 1 f fd Q12 (J6d K) := by
 refine C4.up (D.F.ok A0ek (fun vs H Q E h => ?_) (fun cdv A outer s H vs Q E hr h => ?_))
 . obtain ⟨a, ns, k, rfl, _⟩ := h
   rfl
 obtain ⟨a, ns, i, rfl, hs, h0, k⟩ := h
 refine ⟨_, (A7 (G4 (C6 C7d (pv 1) (G5 B8x (by rfl) O.len_ PySem.boot_len (A0 (pv 0) A6)) (C5 _)) (A9 (B8 (J1 A3p (pv 0) (pv 1) (fun _ _ => rfl)))) D3) (A9 (B8 A3))), ?_⟩
 refine ⟨_, rfl, _, rfl, a, _, rfl, .inl hs, _, _, rfl, rfl, _, rfl, ?_⟩
 refine J0 (fun hlt => ?_) (fun _ => k 0)
 rw [List.length_map] at hlt
 obtain ⟨j, rfl⟩ := Int.eq_ofNat_of_zero_le h0
 have hj : j < ns.length := by omega
 exact ⟨_, rfl, _, rfl, a, _, _, _, rfl, rfl, hs, J9 (v := V.int ns[j]) (by simp [hj]), k _⟩
abbrev A7d : Stmt := (top 66)
def C6h : Sp := fun vs H Q _ => ∃ c k, vs = [.int c, .int k] /\ 0 <= k /\ k <= 100 /\ ∀ m, 0 <= m -> m < 2147483629 -> Q (.int m) H
theorem Z6p : B9 Q8 Q8 (A1 A7d) := scK
theorem V8w {f : Addr} {fd : FuncData} (D : Def K mg "_law_mixed" Q8 A7d f fd) : sI P w K mg base 1 f fd Q8 C6h := by
 refine C4.up (D.F.ok Z6p (fun vs H Q E h => ?_) (fun cdv A outer s H vs Q E hr h => ?_))
 . obtain ⟨c, k, rfl, _⟩ := h
   rfl
 obtain ⟨c, i, rfl, h0, h1, k⟩ := h
 refine ⟨_, (A9 (B8 (B3 G2 (B3 U9 (B3 G2 (B3 V6 (B3 V6 (B3 U9 (pv 0) (B3 V6 A3 (B3 U9 (B3 U9 A3 (pv 1)) (pv 1)))) (B3 U9 A3 (pv 1))) A3) A3) A3) A3))), ?_⟩
 have q0 : (0 : Int) <= 2 * i * i := Int.mul_nonneg (by omega) h0
 have q1 : 2 * i * i <= 200 * 100 := Int.mul_le_mul (by omega) h1 h0 (by decide)
 have m1 : IntMulOk 2 i := B5n.ok (.inl ⟨by decide, by decide⟩)
 have m2 : IntMulOk (2 * i) i := B5n.ok (.inr ⟨by omega, by omega⟩)
 have m3 : IntMulOk c (48271 + 2 * i * i) := B5n.ok (.inr ⟨by omega, by omega⟩)
 have m4 : IntMulOk 69621 i := B5n.ok (.inl ⟨by decide, by decide⟩)
 have m5 : ∀ z : Int, IntMulOk z 69621 := fun z => B5n.ok (.inr ⟨by decide, by decide⟩)
 refine ⟨_, rfl, _, rfl, _, _, rfl, rfl, m1, _, rfl, _, _, rfl, rfl, m2, _, _, rfl, rfl, _, _, rfl, rfl, m3, _, rfl, _, _, rfl, rfl, m4, _, _, rfl, rfl, _, _, rfl, rfl, _, _, rfl, rfl, (by show (0 : Int) < 2147483647; decide), _, _, rfl, rfl, m5 _, _, _, rfl, rfl, (by show (0 : Int) < 2147483629; decide), ?_⟩
 exact k _ (Int.emod_nonneg _ (by decide)) (Int.emod_lt_of_pos _ (by decide))
abbrev B1j : Stmt := (top 67)
def B9z : Sp := fun vs H Q _ => ∃ n : Nat, vs = [.int (n : Int)] /\ n <= 600 /\ Q (.int ((10 ^ n : Nat) : Int)) H
theorem A0et : B9 ["_law_count"] ["_law_count"] (A1 B1j) := scK
theorem Z6b {f : Addr} {fd : FuncData} (D : Def K mg "_law_ten" ["_law_count"] B1j f fd) (O : Own mg) : sI P w K mg base 1 f fd ["_law_count"] B9z := by
 refine C4.up (D.F.ok A0et (fun vs H Q E h => ?_) (fun cdv A outer s H vs Q E hr h => ?_))
 . obtain ⟨n, rfl, _⟩ := h
   rfl
 obtain ⟨n, rfl, hn, k⟩ := h
 refine ⟨_, (A9 (B8 (V5 B5t (by rfl) O.int_ boot_int (A0 (B3 J7v B0 (B3 J6v B0 (pv 0))) A6)))), ?_⟩
 have l1 : ("1" : Str).length = 1 := by decide +kernel
 have l0 : ("0" : Str).length = 1 := by decide +kernel
 refine ⟨_, rfl, _, _, rfl, rfl, by omega, by omega, C9 (by rw [l0]; omega), _, _, rfl, rfl, C9 (by rw [C8h, l0, l1]; omega), ?_⟩
 exact ⟨V1c n, _, rfl, V8x n hn, by rw [J1n]; omega, k⟩
abbrev A4u : Stmt := (top 69)
abbrev B6n : Stmt := (top 70)
structure Nm.Wf (x : Nm) : Prop where
 ok : x.Ok
 e : x.k = .end_ -> x.f = 0 /\ x.p = 0
 n : x.k = .none -> x.s = 0 /\ x.f = 0 /\ x.p = 0
theorem C8k {s f p : Int} (h1 : 0 <= s /\ s <= 1) (h2 : 0 <= f /\ f <= 10 ^ 60 - 1) (h3 : -200 <= p /\ p <= 200) : (Nm.mk .plain s f p).Wf := ⟨⟨h1.1, h1.2, h2.1, h2.2, h3.1, h3.2⟩, fun q => (by cases q), fun q => (by cases q)⟩
theorem A0fy {s : Int} (h1 : 0 <= s /\ s <= 1) : (Nm.mk .end_ s 0 0).Wf := ⟨⟨h1.1, h1.2, by show (0 : Int) <= 0; decide, by show (0 : Int) <= 10 ^ 60 - 1; decide, by show (-200 : Int) <= 0; decide, by show (0 : Int) <= 200; decide⟩, fun _ => ⟨rfl, rfl⟩, fun q => (by cases q)⟩
theorem Z6j : (Nm.mk .none 0 0 0).Wf := ⟨⟨by show (0 : Int) <= 0; decide, by show (0 : Int) <= 1; decide, by show (0 : Int) <= 0; decide, by show (0 : Int) <= 10 ^ 60 - 1; decide, by show (-200 : Int) <= 0; decide, by show (0 : Int) <= 200; decide⟩, fun q => (by cases q), fun _ => ⟨rfl, rfl, rfl⟩⟩
theorem U8t {L : Int} {n : Nat} (hn : n <= 60) : 0 <= L % ((10 ^ n : Nat) : Int) /\ L % ((10 ^ n : Nat) : Int) <= 10 ^ 60 - 1 := by
 have p : 0 < ((10 ^ n : Nat) : Int) := Int.natCast_pos.mpr (Nat.pow_pos (by decide))
 have a := Int.emod_nonneg L (Int.ne_of_gt p)
 have b := Int.emod_lt_of_pos L p
 have c : (10 : Nat) ^ n <= 10 ^ 60 := Nat.pow_le_pow_right (by decide) hn
 have e : ((10 ^ 60 : Nat) : Int) = 10 ^ 60 := by decide +kernel
 omega
abbrev A2b : Stmt := (top 68)
theorem dv {n : Int} (h : 0 < n) (h2 : n.natAbs.log2 < 9000) : (0 : Int) < n /\ n.natAbs.log2 < 9000 := ⟨h, h2⟩
def C7q : Sp := fun vs H Q _ => ∃ c wy : Int, vs = [.int c, .int wy] /\ 0 <= wy /\ wy < 8 /\ ∀ f H', 0 <= f -> f <= 10 ^ 60 - 1 -> B7 H H' -> Q (.int f) H'
theorem scLFigures : B9 ["_law_cell", "_law_way", "_law_more", "_law_found", "_law_k"] Q34 (A1 A2b) := scK
theorem V8f {a : Int} {n : Nat} (h0 : 0 <= a) (h1 : a <= 99) (hn : n <= 13) : 0 <= a * ((10 ^ n : Nat) : Int) /\ a * ((10 ^ n : Nat) : Int) <= 10 ^ 60 - 1 := by
 have c : (10 : Nat) ^ n <= 10 ^ 13 := Nat.pow_le_pow_right (by decide) hn
 have x : a * ((10 ^ n : Nat) : Int) <= 99 * ((10 ^ 13 : Nat) : Int) := Int.mul_le_mul h1 (Int.ofNat_le.mpr c) (Int.natCast_nonneg _) (by decide)
 exact ⟨Int.mul_nonneg h0 (Int.natCast_nonneg _), Int.le_trans x (by decide +kernel)⟩
theorem J7m {n : Nat} {a : Int} (hn : n <= 24) (h1 : 0 <= a) (h2 : a <= 2) : 0 <= ((10 ^ n : Nat) : Int) - 1 + a /\ ((10 ^ n : Nat) : Int) - 1 + a <= 10 ^ 60 - 1 := by
 have c : (10 : Nat) ^ n <= 10 ^ 24 := Nat.pow_le_pow_right (by decide) hn
 have d : 0 < (10 : Nat) ^ n := Nat.pow_pos (by decide)
 have e : ((10 ^ 24 : Nat) : Int) + 2 <= 10 ^ 60 - 1 := by decide +kernel
 omega
theorem G9v {f f1 f2 : Addr} {fd fd1 fd2 : FuncData} (D : Def K mg "_law_figures" Q34 A2b f fd) (D_l_mixed : Def K mg "_law_mixed" Q8 A7d f1 fd1) (G_l_mixed : sI P w K mg base 1 f1 fd1 Q8 C6h)
   (D_l_ten : Def K mg "_law_ten" ["_law_count"] B1j f2 fd2) (G_l_ten : sI P w K mg base 1 f2 fd2 ["_law_count"] B9z) (O : Own mg) : sI P w K mg base 2 f fd Q34 C7q := by
 refine D.F.okE scLFigures (fun vs H Q E h => ?_) (fun X cdv A outer s H vs Q E hX hr hx h => ?_)
 . obtain ⟨c, wy, rfl, _⟩ := h
   rfl
 subst hX
 obtain ⟨c, wy, rfl, w0, w8, k⟩ := h
 refine ⟨_, (A7 (B4 (D0 (i := 2) scLFigures.nd rfl (Or.inl rfl) (D4 D_l_mixed G_l_mixed hr hx (A0 (pv 0) (A0 A3 A6))))) (A7 (B4 (G4 (PW.pt (C5a (C6 D6 (pv 1) A3 (C5 _)) (B0t (C6 D6 (pv 1) A3 (C5 _))))) (A7 (B4 (D0 (i := 3) scLFigures.nd rfl (Or.inl rfl) A3)) (A7 (B4 (C0b PassesOwn.leaving rfl (C0c rfl O.range_ (A0 A3 A6)) (Y3 (i := 4) scLFigures.nd rfl (Or.inl rfl)) (A9 (B4 (D0 (i := 3) scLFigures.nd rfl (Or.inl rfl) (B3 V6 (B3 U9 (pv 3) A3) (B3 G2 (D4 D_l_mixed G_l_mixed hr hx (A0 (pv 0) (A0 (B3 V6 A3 (pv 4)) A6))) A3))))))) (A9 (B8 (B3 G2 (pv 3) (D4 D_l_ten G_l_ten hr hx (A0 (B3 V6 A3 (B3 G2 (pv 2) (J1 A3p (U7 (A0 A3 (A0 A3 A6))) (B3 V0 (pv 1) A3) (fun _ _ => rfl)))) A6))))))) D3)) (A7 (B4 (G4 (PW.pt (C5a (C6 D6 (pv 1) A3 (C5 _)) (B0t (C6 D6 (pv 1) A3 (C5 _))))) (A9 (B8 (B3 U9 (B3 V6 (B3 G2 (pv 2) A3) A3) (D4 D_l_ten G_l_ten hr hx (A0 (B3 G2 (B3 G3 (pv 2) A3) A3) A6))))) D3)) (A7 (B4 (G4 (C6 D6 (pv 1) A3 (C5 _)) (A9 (B8 (B3 V6 (B3 V0 (D4 D_l_ten G_l_ten hr hx (A0 (B3 V6 A3 (B3 G2 (pv 2) A3)) A6)) A3) (B3 G2 (B3 G3 (pv 2) A3) A3)))) D3)) (A9 (B8 (B3 G2 (pv 2) (J1 A3p (U7 (A0 A3 (A0 A3 (A0 A3 A6)))) (B3 G2 (B3 G3 (pv 2) A3) A3) (fun _ _ => rfl))))))))), ?_⟩
 have z2 : 2 <= sizeLine := C9 (by decide)
 have z3 : 3 <= sizeLine := C9 (by decide)
 have mC : ∀ z n : Int, -(2 ^ 64) < n -> n < 2 ^ 64 -> IntMulOk z n := fun z n a b => B5n.ok (.inr ⟨a, b⟩)
 have mC' : ∀ z n : Int, -(2 ^ 64) < n -> n < 2 ^ 64 -> IntMulOk n z := fun z n a b => B5n.ok (.inl ⟨a, b⟩)
 have pT : ∀ n : Nat, 0 < ((10 ^ n : Nat) : Int) := fun n => Int.natCast_pos.mpr (Nat.pow_pos (by decide))
 refine ⟨fun σ' H' => ∃ m : Int, H' = H /\ 0 <= m /\ σ' = [si c, si wy, si m, none, none], ?_, ?_⟩
 . exact ⟨_, rfl, c, 1, rfl, by decide, by decide, fun m m0 _ => ⟨m, rfl, m0, rfl⟩⟩
 rintro σ' H1 ⟨m, rfl, m0, rfl⟩
 refine ⟨fun σ' H' => H' = H1 /\ σ' = [si c, si wy, si m, none, none], ?_, ?_⟩
 . refine ⟨_, rfl, rfl, _, rfl, J0 (fun h => ?_) (fun h => ⟨_, rfl, rfl, _, rfl, J0 (fun h' => ?_) (fun _ => ⟨rfl, rfl⟩)⟩)⟩
   . have h : wy = 2 := by injection h
     subst h
     refine Z2 ?_
     refine ⟨fun σ' H' => H' = H1 /\ σ' = [si c, si 2, si m, si 0, none], ⟨rfl, rfl⟩, ?_⟩
     rintro σ' H2 ⟨rfl, rfl⟩
     refine ⟨fun σ' H' => H' = H2 /\ ∃ (L : Int) (v : Option V), σ' = [si c, si 2, si m, si L, v], ⟨7, rfl, by decide, by decide, D7q (n := 7) (fun i σ' H' => H' = H2 /\ ∃ (L : Int) (v : Option V), σ' = [si c, si 2, si m, si L, v]) ⟨rfl, 0, none, rfl⟩ ?_ (fun σ' H' h => h)⟩, ?_⟩
     . rintro i σ' H3 hi ⟨rfl, L, v, rfl⟩
       refine ⟨_, ?_, fun _ _ h => h⟩
       exact ⟨_, rfl, _, _, rfl, rfl, mC _ _ (by decide) (by decide), _, rfl, _, rfl, _, _, rfl, rfl, c, _, rfl, (by show (0 : Int) <= 10 + (0 + (i : Int)); omega), (by show 10 + (0 + (i : Int)) <= 100; omega), fun m' _ _ => ⟨_, _, rfl, rfl, (by decide : (0 : Int) < 1000000000), _, _, rfl, rfl, rfl, _, _, rfl⟩⟩
     . rintro σ' H3 ⟨rfl, L, v, rfl⟩
       refine ⟨_, rfl, _, rfl, z2, fun l nl => ?_⟩
       have a0 := Int.emod_nonneg m (by decide : (24 : Int) ≠ 0)
       have a1 := Int.emod_lt_of_pos m (by decide : (0 : Int) < 24)
       have fm := U8t (L := L) (n := (1 + m % 24).toNat) (by omega)
       exact ⟨_, rfl, _, _, rfl, rfl, l, _, _, _, rfl, rfl, SqL.of A8, J9 (j := 0) rfl, _, _, rfl, rfl, (by decide : (0 : Int) < 24), _, _, rfl, rfl, (1 + m % 24).toNat, (by rw [Int.toNat_of_nonneg (by omega)]; rfl), by omega, _, _, rfl, rfl, pT _, k _ _ fm.1 fm.2 (B7.upd nl)⟩
   . have h' : wy = 3 := by injection h'
     subst h'
     refine ⟨fun σ' H' => H' = H1 /\ σ' = [si c, si 3, si m, si 0, none], ⟨rfl, rfl⟩, ?_⟩
     rintro σ' H2 ⟨rfl, rfl⟩
     refine ⟨fun σ' H' => H' = H2 /\ ∃ (L : Int) (v : Option V), σ' = [si c, si 3, si m, si L, v], ⟨7, rfl, by decide, by decide, D7q (n := 7) (fun i σ' H' => H' = H2 /\ ∃ (L : Int) (v : Option V), σ' = [si c, si 3, si m, si L, v]) ⟨rfl, 0, none, rfl⟩ ?_ (fun σ' H' h => h)⟩, ?_⟩
     . rintro i σ' H3 hi ⟨rfl, L, v, rfl⟩
       refine ⟨_, ?_, fun _ _ h => h⟩
       exact ⟨_, rfl, _, _, rfl, rfl, mC _ _ (by decide) (by decide), _, rfl, _, rfl, _, _, rfl, rfl, c, _, rfl, (by show (0 : Int) <= 10 + (0 + (i : Int)); omega), (by show 10 + (0 + (i : Int)) <= 100; omega), fun m' _ _ => ⟨_, _, rfl, rfl, (by decide : (0 : Int) < 1000000000), _, _, rfl, rfl, rfl, _, _, rfl⟩⟩
     . rintro σ' H3 ⟨rfl, L, v, rfl⟩
       refine ⟨_, rfl, _, rfl, z2, fun l nl => ?_⟩
       have a0 := Int.emod_nonneg m (by decide : (60 : Int) ≠ 0)
       have a1 := Int.emod_lt_of_pos m (by decide : (0 : Int) < 60)
       have fm := U8t (L := L) (n := (1 + m % 60).toNat) (by omega)
       exact ⟨_, rfl, _, _, rfl, rfl, l, _, _, _, rfl, rfl, SqL.of A8, J9 (j := 1) rfl, _, _, rfl, rfl, (by decide : (0 : Int) < 60), _, _, rfl, rfl, (1 + m % 60).toNat, (by rw [Int.toNat_of_nonneg (by omega)]; rfl), by omega, _, _, rfl, rfl, pT _, k _ _ fm.1 fm.2 (B7.upd nl)⟩
 rintro σ' H2 ⟨rfl, rfl⟩
 have a0 := Int.emod_nonneg m (by decide : (99 : Int) ≠ 0)
 have a1 := Int.emod_lt_of_pos m (by decide : (0 : Int) < 99)
 have b0 := Int.emod_nonneg (m / 99) (by decide : (13 : Int) ≠ 0)
 have b1 := Int.emod_lt_of_pos (m / 99) (by decide : (0 : Int) < 13)
 have fs := V8f (a := m % 99 + 1) (n := (m / 99 % 13).toNat) (by omega) (by omega) (by omega)
 refine ⟨fun σ' H' => H' = H2 /\ σ' = [si c, si wy, si m, none, none], ?_, ?_⟩
 . refine ⟨_, rfl, rfl, _, rfl, J0 (fun h => ?_) (fun h => ⟨_, rfl, rfl, _, rfl, J0 (fun h' => ?_) (fun _ => ⟨rfl, rfl⟩)⟩)⟩
   . exact Z2 ⟨_, rfl, _, _, rfl, rfl, (by decide : (0 : Int) < 99), _, _, rfl, rfl, _, rfl, _, _, rfl, rfl, dv (n := 99) (by decide) (by decide +kernel), _, _, rfl, rfl, (by decide : (0 : Int) < 13), (m / 99 % 13).toNat, (by rw [Int.toNat_of_nonneg b0]; rfl), by omega, _, _, rfl, rfl, mC' _ _ (by omega) (by omega), k _ _ fs.1 fs.2 (B7.refl _)⟩
   . exact ⟨_, rfl, _, _, rfl, rfl, (by decide : (0 : Int) < 99), _, _, rfl, rfl, _, rfl, _, _, rfl, rfl, dv (n := 99) (by decide) (by decide +kernel), _, _, rfl, rfl, (by decide : (0 : Int) < 13), (m / 99 % 13).toNat, (by rw [Int.toNat_of_nonneg b0]; rfl), by omega, _, _, rfl, rfl, mC' _ _ (by omega) (by omega), k _ _ fs.1 fs.2 (B7.refl _)⟩
 rintro σ' H3 ⟨rfl, rfl⟩
 have c0 := Int.emod_nonneg m (by decide : (24 : Int) ≠ 0)
 have c1 := Int.emod_lt_of_pos m (by decide : (0 : Int) < 24)
 have d0 := Int.emod_nonneg (m / 24) (by decide : (3 : Int) ≠ 0)
 have d1 := Int.emod_lt_of_pos (m / 24) (by decide : (0 : Int) < 3)
 have fr := J7m (n := (1 + m % 24).toNat) (a := m / 24 % 3) (by omega) d0 (by omega)
 refine ⟨fun σ' H' => H' = H3 /\ σ' = [si c, si wy, si m, none, none], ?_, ?_⟩
 . refine ⟨_, rfl, rfl, _, rfl, J0 (fun h => ?_) (fun h => ⟨rfl, rfl⟩)⟩
   exact ⟨_, rfl, _, _, rfl, rfl, (by decide : (0 : Int) < 24), _, _, rfl, rfl, (1 + m % 24).toNat, (by rw [Int.toNat_of_nonneg (by omega)]; rfl), by omega, _, _, rfl, rfl, _, rfl, _, _, rfl, rfl, dv (n := 24) (by decide) (by decide +kernel), _, _, rfl, rfl, (by decide : (0 : Int) < 3), _, _, rfl, rfl, k _ _ fr.1 fr.2 (B7.refl _)⟩
 rintro σ' H4 ⟨rfl, rfl⟩
 refine ⟨_, rfl, z3, fun l nl => ?_⟩
 obtain ⟨v, hv, ix⟩ := ixs (xs := [10, 100, 1000]) (i := m / 1000 % 3) (Int.emod_nonneg _ (by decide)) (by show m / 1000 % 3 < 3; exact Int.emod_lt_of_pos _ (by decide))
 have bv : 0 < v /\ v <= 1000 := by
   simp only [List.mem_cons, List.not_mem_nil, or_false] at hv
   omega
 have e0 := Int.emod_nonneg m (Int.ne_of_gt bv.1)
 have e1 := Int.emod_lt_of_pos m bv.1
 have big : (1000 : Int) <= 10 ^ 60 - 1 := by decide +kernel
 exact ⟨_, rfl, _, _, rfl, rfl, dv (n := 1000) (by decide) (by decide +kernel), _, _, rfl, rfl, (by decide : (0 : Int) < 3), l, _, _, _, rfl, rfl, SqL.of A8, ix, _, _, rfl, rfl, bv.1, k _ _ e0 (by omega) (B7.upd nl)⟩
def D6q : Sp := fun vs H Q _ => ∃ c, vs = [.int c] /\ ∀ (x : Nm) t H', x.Wf -> B7 H H' -> H' t = some (.tup x.vs) -> Q (.ref t) H'
theorem scLNumber : B9 ["_law_cell", "_law_kind", "_law_sign", "_law_more", "_law_wide"] ["_law_cell"] (A1 A4u) := scK
theorem J6p {f f1 f2 : Addr} {fd fd1 fd2 : FuncData} (D : Def K mg "_law_number" ["_law_cell"] A4u f fd) (D_l_mixed : Def K mg "_law_mixed" Q8 A7d f1 fd1) (G_l_mixed : sI P w K mg base 1 f1 fd1 Q8 C6h)
   (D_l_figures : Def K mg "_law_figures" Q34 A2b f2 fd2) (G_l_figures : sI P w K mg base 2 f2 fd2 Q34 C7q) (O : Own mg) : sI P w K mg base 3 f fd ["_law_cell"] D6q := by
 refine D.F.okE scLNumber (fun vs H Q E h => ?_) (fun X cdv A outer s H vs Q E hX hr hx h => ?_)
 . obtain ⟨c, rfl, _⟩ := h
   rfl
 subst hX
 obtain ⟨c, rfl, k⟩ := h
 refine ⟨_, (A7 (B4 (D0 (i := 1) scLNumber.nd rfl (Or.inl rfl) (B3 G2 (pv 0) A3))) (A7 (B4 (D0 (i := 2) scLNumber.nd rfl (Or.inl rfl) (B3 G2 (B3 G3 (pv 0) A3) A3))) (A7 (B4 (D0 (i := 3) scLNumber.nd rfl (Or.inl rfl) (D4 D_l_mixed G_l_mixed hr hx (A0 (pv 0) (A0 A3 A6))))) (A7 (B4 (G4 (C6 D6 (pv 1) A3 (C5 _)) (A9 (B8 (U1 (A0 B0 (A0 (pv 2) (A0 A3 (A0 (B3 V0 (B3 G2 (pv 3) A3) A3) A6))))))) D3)) (A7 (B4 (G4 (C6 D6 (pv 1) A3 (C5 _)) (A9 (B8 (J1 A3p (U7 (A0 (U1 (A0 B0 (A0 (pv 2) (A0 A3 (A0 A3 A6))))) (A0 (U1 (A0 B0 (A0 A3 (A0 A3 (A0 A3 A6))))) A6))) (V5 B4t (by rfl) O.int_ boot_int (A0 (D9 D6 (B3 G2 (pv 3) A3) A3 (C5 _)) A6)) (fun _ _ => rfl)))) D3)) (A7 (B4 (D0 (i := 4) scLNumber.nd rfl (Or.inl rfl) (B3 V0 (B3 G2 (pv 3) A3) A3))) (A7 (B4 (G4 (C6 D6 (B3 G2 (B3 G3 (pv 3) A3) A3) A3 (C5 _)) (A9 (B4 (D0 (i := 4) scLNumber.nd rfl (Or.inl rfl) (B3 V0 (B3 G2 (B3 G3 (pv 3) A3) A3) A3)))) D3)) (A7 (B4 (G4 (C6 D6 (B3 G2 (B3 G3 (pv 3) A3) A3) A3 (C5 _)) (A9 (B4 (D0 (i := 4) scLNumber.nd rfl (Or.inl rfl) (B3 V0 (B3 G2 (B3 G3 (pv 3) A3) A3) A3)))) D3)) (A9 (B8 (U1 (A0 B0 (A0 (pv 2) (A0 (D4 D_l_figures G_l_figures hr hx (A0 (pv 0) (A0 (B3 G2 (B3 G3 (pv 0) A3) A3) A6))) (A0 (pv 4) A6))))))))))))))), ?_⟩
 have z2 : 2 <= sizeLine := C9 (by decide)
 have z4 : 4 <= sizeLine := C9 (by decide)
 refine ⟨fun σ' H' => ∃ kd : Int, H' = H /\ σ' = [si c, si kd, none, none, none], ⟨_, rfl, _, _, rfl, rfl, (by decide : (0 : Int) < 8), _, rfl, rfl⟩, ?_⟩
 rintro σ' H1 ⟨kd, rfl, rfl⟩
 refine ⟨fun σ' H' => ∃ sg : Int, H' = H1 /\ 0 <= sg /\ sg <= 1 /\ σ' = [si c, si kd, si sg, none, none], ⟨_, rfl, _, _, rfl, rfl, dv (n := 8) (by decide) (by decide +kernel), _, _, rfl, rfl, (by decide : (0 : Int) < 2), c / 8 % 2, rfl, by omega, by omega, rfl⟩, ?_⟩
 rintro σ' H2 ⟨sg, rfl, s0, s1, rfl⟩
 refine ⟨fun σ' H' => ∃ m : Int, H' = H2 /\ 0 <= m /\ σ' = [si c, si kd, si sg, si m, none], ⟨_, rfl, c, 2, rfl, by decide, by decide, fun m m0 _ => ⟨m, rfl, m0, rfl⟩⟩, ?_⟩
 rintro σ' H3 ⟨m, rfl, m0, rfl⟩
 refine ⟨fun σ' H' => H' = H3 /\ σ' = [si c, si kd, si sg, si m, none], ?_, ?_⟩
 . refine ⟨_, rfl, rfl, _, rfl, J0 (fun h => ?_) (fun h => ⟨rfl, rfl⟩)⟩
   refine ⟨_, rfl, _, rfl, _, _, rfl, rfl, (by decide : (0 : Int) < 41), _, _, rfl, rfl, z4, fun t nt => ?_⟩
   exact k ⟨.plain, sg, 0, m % 41 - 20⟩ t _ (C8k ⟨s0, s1⟩ ⟨by decide, by decide +kernel⟩ ⟨by omega, by omega⟩) (B7.upd nt) A8
 rintro σ' H4 ⟨rfl, rfl⟩
 refine ⟨fun σ' H' => H' = H4 /\ σ' = [si c, si kd, si sg, si m, none], ?_, ?_⟩
 . refine ⟨_, rfl, rfl, _, rfl, J0 (fun h => ?_) (fun h => ⟨rfl, rfl⟩)⟩
   refine ⟨_, rfl, z4, fun t1 n1 => ⟨z4, fun t2 n2 => ⟨z2, fun l nl => ?_⟩⟩⟩
   have u1 := B7.upd (o := .tup [.str "end", .int sg, .int 0, .int 0]) n1
   have u2 := B7.upd (o := .tup [.str "none", .int 0, .int 0, .int 0]) n2
   have u3 := B7.upd (o := .lst [.ref t1, .ref t2]) nl
   refine ⟨_, rfl, _, _, rfl, rfl, (by decide : (0 : Int) < 4), rfl, .inr ⟨_, rfl, ?_⟩⟩
   by_cases hm : V.int (m % 4) = V.int 0
   . rw [decide_eq_true hm]
     exact ⟨l, _, _, _, rfl, rfl, SqL.of A8, J9 (j := 1) rfl, k ⟨.none, 0, 0, 0⟩ t2 _ Z6j ((u1.trans u2).trans u3) (u3 _ _ A8)⟩
   . rw [decide_eq_false hm]
     exact ⟨l, _, _, _, rfl, rfl, SqL.of A8, J9 (j := 0) rfl, k ⟨.end_, sg, 0, 0⟩ t1 _ (A0fy ⟨s0, s1⟩) ((u1.trans u2).trans u3) ((u2.trans u3) _ _ A8)⟩
 rintro σ' H5 ⟨rfl, rfl⟩
 refine ⟨fun σ' H' => H' = H5 /\ ∃ pw : Int, -200 <= pw /\ pw <= 200 /\ σ' = [si c, si kd, si sg, si m, si pw], ⟨_, rfl, _, _, rfl, rfl, (by decide : (0 : Int) < 13), _, _, rfl, rfl, rfl, m % 13 - 6, by omega, by omega, rfl⟩, ?_⟩
 rintro σ' H6 ⟨rfl, pw, p0, p1, rfl⟩
 refine ⟨fun σ' H' => H' = H6 /\ ∃ pw : Int, -200 <= pw /\ pw <= 200 /\ σ' = [si c, si kd, si sg, si m, si pw], ?_, ?_⟩
 . refine ⟨_, rfl, _, _, rfl, rfl, dv (n := 13) (by decide) (by decide +kernel), _, _, rfl, rfl, (by decide : (0 : Int) < 4), rfl, _, rfl, J0 (fun _ => ?_) (fun _ => ⟨rfl, pw, p0, p1, rfl⟩)⟩
   refine ⟨_, ?_, fun _ _ h => h⟩
   exact ⟨_, rfl, _, _, rfl, rfl, dv (n := 52) (by decide) (by decide +kernel), _, _, rfl, rfl, (by decide : (0 : Int) < 141), _, _, rfl, rfl, rfl, m / 52 % 141 - 70, by omega, by omega, rfl⟩
 rintro σ' H7 ⟨rfl, pw, p0, p1, rfl⟩
 refine ⟨fun σ' H' => H' = H7 /\ ∃ pw : Int, -200 <= pw /\ pw <= 200 /\ σ' = [si c, si kd, si sg, si m, si pw], ?_, ?_⟩
 . refine ⟨_, rfl, _, _, rfl, rfl, dv (n := 13) (by decide) (by decide +kernel), _, _, rfl, rfl, (by decide : (0 : Int) < 16), rfl, _, rfl, J0 (fun _ => ?_) (fun _ => ⟨rfl, pw, p0, p1, rfl⟩)⟩
   refine ⟨_, ?_, fun _ _ h => h⟩
   exact ⟨_, rfl, _, _, rfl, rfl, dv (n := 208) (by decide) (by decide +kernel), _, _, rfl, rfl, (by decide : (0 : Int) < 401), _, _, rfl, rfl, rfl, m / 208 % 401 - 200, by omega, by omega, rfl⟩
 rintro σ' H8 ⟨rfl, pw, p0, p1, rfl⟩
 refine ⟨_, rfl, _, rfl, _, rfl, _, _, rfl, rfl, dv (n := 16) (by decide) (by decide +kernel), _, _, rfl, rfl, (by decide : (0 : Int) < 8), c, _, rfl, Int.emod_nonneg _ (by decide), Int.emod_lt_of_pos _ (by decide), fun fg H9 g0 g1 s9 => ?_⟩
 refine ⟨_, rfl, z4, fun t nt => ?_⟩
 exact k ⟨.plain, sg, fg, pw⟩ t _ (C8k ⟨s0, s1⟩ ⟨g0, g1⟩ ⟨p0, p1⟩) (s9.trans (B7.upd nt)) A8
def U8y (CN : Addr) : Sp := fun vs H Q _ => ∃ t x, vs = [.ref t] /\ H t = some (.tup (Nm.vs x)) /\ x.Wf /\ ∀ n H', H n = none -> B7 H H' -> V4 CN H' n x -> Q (.ref n) H'
theorem Z6v : B9 ["_law_one"] ["_law_one"] (A1 B6n) := scK
theorem Y1r {f f1 f2 f3 CN CB : Addr} {fd fd1 fd2 fd3 : FuncData} (D : Def K mg "_law_made" ["_law_one"] B6n f fd) (D_plain : Def K mg "plain" Q20 B6g f1 fd1) (G_plain : sI P w K mg base 3 f1 fd1 Q20 (U8u K CN CB))
   (D_end : Def K mg "end" ["sign"] D2s f2 fd2) (G_end : sI P w K mg base 3 f2 fd2 ["sign"] (J1p K CN CB)) (D_nothing : Def K mg "nothing" [] A1g f3 fd3) (G_nothing : sI P w K mg base 3 f3 fd3 [] (B4x CN)) : sI P w K mg base 4 f fd ["_law_one"] (U8y CN) := by
 refine D.F.okE Z6v (fun vs H Q E h => ?_) (fun X cdv A outer s H vs Q E hX hr hx h => ?_)
 . obtain ⟨t, x, rfl, _⟩ := h
   rfl
 subst hX
 obtain ⟨t, x, rfl, ht, wf, k⟩ := h
 refine ⟨_, (A7 (G4 (C6 D6 (J1 G9 (pv 0) A3 (fun _ _ => rfl)) B0 (C5 _)) (A9 (B8 (D4 D_plain G_plain hr hx (A0 (J1 G9 (pv 0) A3 (fun _ _ => rfl)) (A0 (J1 G9 (pv 0) A3 (fun _ _ => rfl)) (A0 (J1 G9 (pv 0) A3 (fun _ _ => rfl)) A6)))))) D3) (A7 (G4 (C6 D6 (J1 G9 (pv 0) A3 (fun _ _ => rfl)) B0 (C5 _)) (A9 (B8 (D4 D_end G_end hr hx (A0 (J1 G9 (pv 0) A3 (fun _ _ => rfl)) A6)))) D3) (A9 (B8 (J7w D_nothing G_nothing hr hx))))), ?_⟩
 have ok := wf.ok
 have g1 : A6k 0 1 (.int x.s) := ⟨_, rfl, ok.s0, ok.s1⟩
 have g2 : A6k 0 (10 ^ 60 - 1) (.int x.f) := ⟨_, rfl, ok.f0, ok.f1⟩
 have g3 : A6k (-200) 200 (.int x.p) := ⟨_, rfl, ok.p0, ok.p1⟩
 have ix : ∀ j : Nat, j < 4 -> atI x.vs (j : Int) = some (x.vs.getD j .non) := fun j hj => J9 (j := j) (by
   rcases (by omega : j = 0 \/ j = 1 \/ j = 2 \/ j = 3) with rfl | rfl | rfl | rfl <;> rfl)
 refine ⟨_, rfl, t, _, _, _, rfl, rfl, SqT.of ht, ix 0 (by decide), rfl, _, rfl, J0 (fun h => ?_) (fun h => ?_)⟩
 . have hk : x.k = .plain := eqS (b := .plain) h
   refine ⟨_, rfl, t, _, _, _, rfl, rfl, SqT.of ht, ix 1 (by decide), _, rfl, t, _, _, _, rfl, rfl, SqT.of ht, ix 2 (by decide), _, rfl, t, _, _, _, rfl, rfl, SqT.of ht, ix 3 (by decide), _, _, _, rfl, .inl ⟨g1, g2, g3, fun n H' nn sm num => k n H' nn sm ?_⟩⟩
   unfold V4
   rw [hk]
   exact num
 have hk : x.k ≠ .plain := neS (b := .plain) h
 refine ⟨_, rfl, t, _, _, _, rfl, rfl, SqT.of ht, ix 0 (by decide), rfl, _, rfl, J0 (fun h => ?_) (fun h => ?_)⟩
 . have hk : x.k = .end_ := eqS (b := .end_) h
   obtain ⟨ef, ep⟩ := wf.e hk
   refine ⟨_, rfl, t, _, _, _, rfl, rfl, SqT.of ht, ix 1 (by decide), _, rfl, .inl ⟨g1, fun n H' nn sm num => k n H' nn sm ?_⟩⟩
   unfold V4
   rw [hk, ef, ep]
   exact num
 have hk2 : x.k ≠ .end_ := neS (b := .end_) h
 have hk3 : x.k = .none := by
   cases hk' : x.k with
   | plain => exact absurd hk' hk
   | end_ => exact absurd hk' hk2
   | none => rfl
 obtain ⟨es, ef, ep⟩ := wf.n hk3
 refine ⟨rfl, fun n H' nn sm num => k n H' nn sm ?_⟩
 unfold V4
 rw [hk3, es, ef, ep]
 exact num
def rdS (zs : List Str) : PyData := .list (zs.map PyData.str)
def OkL (zs : List Str) : Prop := zs.length <= 100 /\ ∀ z ∈ zs, PyData.strOk z = true
theorem layS : ∀ {zs : List Str}, (∀ z ∈ zs, PyData.strOk z = true) -> PyData.canLayAll0 (zs.map PyData.str) = true /\ PyData.depthAll (zs.map PyData.str) <= 1
 | [], _ => by simp [PyData.canLayAll0, PyData.depthAll]
 | z :: zs, h => by
   obtain ⟨a, b⟩ := layS (zs := zs) fun z' h' => h z' (List.mem_cons_of_mem _ h')
   have c := h z List.mem_cons_self
   constructor
   . simp [PyData.canLayAll0, PyData.canLay0, c, a]
   . simp only [List.map_cons, PyData.depthAll, PyData.depth]
     omega
theorem shS {zs : List Str} (h : OkL zs) : SeqAt.shaped (rdS zs) = true := by
 obtain ⟨a, b⟩ := layS h.2
 unfold SeqAt.shaped rdS
 simp only [PyData.canLay0, PyData.depth, a, Bool.and_true, Bool.and_eq_true, decide_eq_true_eq, List.length_map]
 exact ⟨trivial, decide_eq_true (by omega)⟩
theorem eqSs : ∀ zs : List Str, PyData.eqv (rdS zs) (rdS zs) = true := by
 have h : ∀ zs : List Str, PyData.eqvAll (zs.map PyData.str) (zs.map PyData.str) = true := fun zs => by
   induction zs with
   | nil => simp [PyData.eqvAll]
   | cons z zs ih => simp [PyData.eqvAll, PyData.eqv, ih]
 intro zs
 simp [rdS, PyData.eqv, h]
theorem rdsS {K : Frag} {H : Hp} : ∀ zs : List Str, C8w K H (zs.map V.str) (zs.map PyData.str)
 | [] => .nil
 | z :: zs => .cons (.str z) (rdsS zs)
theorem C0f {K : Frag} {H : Hp} {p : Addr} {zs : List Str} (h : H p = some (.lst (zs.map V.str))) : RdD K H (.ref p) (rdS zs) := .lst (SqL.of h) (rdsS zs)
theorem U9y : ∀ z ∈ A0j, PyData.strOk z = true := by decide +kernel
def A2d (zs : List Str) : Prop := ∃ p : Str -> Bool, zs = A0j.filter p
theorem A2d.ok {zs : List Str} (h : A2d zs) : OkL zs := by
 obtain ⟨p, rfl⟩ := h
 exact ⟨Nat.le_trans (List.length_filter_le _ _) (by decide), fun z hz => U9y z (List.mem_filter.mp hz).1⟩
theorem A2d.len {zs : List Str} (h : A2d zs) : zs.length <= 7 := by
 obtain ⟨p, rfl⟩ := h
 exact List.length_filter_le _ _
theorem A2d.mem {zs : List Str} (h : A2d zs) : ∀ z ∈ zs, z ∈ A0j := by
 obtain ⟨p, rfl⟩ := h
 exact fun z hz => (List.mem_filter.mp hz).1
theorem C8c {zs ws : List Str} (h : A2d zs) (e : ∀ z, z ∈ ws ↔ z ∈ zs) : Y7 ws = zs := by
 obtain ⟨p, rfl⟩ := h
 unfold Y7
 refine List.filter_congr fun z hz => ?_
 rw [Bool.eq_iff_iff, List.contains_iff_mem, e, List.mem_filter]
 simp [hz]
theorem V8p (zs : List Str) : A2d (Y7 zs) := ⟨_, rfl⟩
theorem D9p : ∀ i < 7, A6p[i]? = some (.str (A0j.getD i "")) := by decide +kernel
theorem Z7w : A0j = (List.range 7).map (fun i => A0j.getD i "") := by decide +kernel
theorem J0r (f : Nat -> Bool) : A2d (((List.range 7).filter f).map fun i => A0j.getD i "") := by
 refine ⟨fun z => f (A0j.idxOf z), ?_⟩
 conv => rhs; rw [Z7w]
 rw [List.filter_map]
 congr 1
theorem U9d {f : Nat -> Bool} {ys : List V} (hl : ys.length = ((List.range 7).filter f).length) (h : ∀ (j i : Nat) (y : V), ((List.range 7).filter f)[j]? = some i -> ys[j]? = some y -> A6p[i]? = some y) :
   ys = ((((List.range 7).filter f).map fun i => A0j.getD i "")).map V.str := by
 apply List.ext_getElem
 . simp [hl]
 intro j h1 h2
 have hj : j < ((List.range 7).filter f).length := by rw [<- hl]; exact h1
 have z := h j _ ys[j] (List.getElem?_eq_getElem hj) (List.getElem?_eq_getElem h1)
 have hm : ((List.range 7).filter f)[j] < 7 := by
   have := (List.mem_filter.mp (List.getElem_mem hj)).1
   simpa using this
 rw [D9p _ hm] at z
 simp only [List.getElem_map]
 exact (Option.some.inj z).symm
abbrev C8f : Stmt := (top 71)
def V1r (r : Int) (y : Wy) (l m : Int) (u t : Addr) : List (Key × V) := [(.inr "room", .int r), (.inr "way", .str y.name), (.inr "least", .int l), (.inr "most", .int m), (.inr "lowest", .int (l - r + 1)), (.inr "up", .ref u), (.inr "trapped", .ref t)]
structure V7 (H : Hp) (d u t : Addr) (r : Int) (y : Wy) (l m : Int) (up tr : List Str) : Prop where
 d : H d = some (.dK (V1r r y l m u t))
 u : H u = some (.lst (up.map V.str))
 t : H t = some (.lst (tr.map V.str))
theorem V7.same {H H' : Hp} {d u t : Addr} {r l m : Int} {y : Wy} {up tr : List Str} (h : V7 H d u t r y l m up tr) (s : B7 H H') : V7 H' d u t r y l m up tr := ⟨s _ _ h.d, s _ _ h.u, s _ _ h.t⟩
structure A3t (r l m : Int) : Prop where
 r1 : 1 <= r
 r2 : r <= 24
 l1 : -60 <= l
 l2 : l <= 0
 m1 : 0 <= m
 m2 : m <= 60
def A0pf : List Wy := [.halfEven, .down, .up, .floor, .ceiling, .halfUp, .halfDown, .fiveUp]
def Y0v : List V := A0pf.map fun y => V.str y.name
def k5 (r : Int) (y : Wy) (l m : Int) : List (Key × V) := [(.inr "room", .int r), (.inr "way", .str y.name), (.inr "least", .int l), (.inr "most", .int m), (.inr "lowest", .int (l - r + 1))]
theorem kne : (¬ (("way" : Str) = "room")) /\ (¬ (("room" : Str) = "way")) /\ (¬ (("room" : Str) = "least")) /\ (¬ (("way" : Str) = "least")) /\ (¬ (("room" : Str) = "most")) /\ (¬ (("way" : Str) = "most")) /\ (¬ (("least" : Str) = "most")) /\
   (¬ (("room" : Str) = "lowest")) /\ (¬ (("way" : Str) = "lowest")) /\ (¬ (("least" : Str) = "lowest")) /\ (¬ (("most" : Str) = "lowest")) /\ (¬ (("room" : Str) = "up")) /\ (¬ (("way" : Str) = "up")) /\ (¬ (("least" : Str) = "up")) /\ (¬ (("most" : Str) = "up")) /\ (¬ (("lowest" : Str) = "up")) /\
   (¬ (("room" : Str) = "trapped")) /\ (¬ (("way" : Str) = "trapped")) /\ (¬ (("least" : Str) = "trapped")) /\ (¬ (("most" : Str) = "trapped")) /\ (¬ (("lowest" : Str) = "trapped")) /\ (¬ (("up" : Str) = "trapped")) /\ (¬ (("trapped" : Str) = "up")) := by decide +kernel
theorem put1 (a b : V) : B1e [] [((.inr "room" : Key), a), (.inr "way", b)] = [(.inr "room", a), (.inr "way", b)] := by
 obtain ⟨h1, h2, _⟩ := kne
 simp [B1e, A1a, h1, h2]
theorem put2 (a b v : V) : A1a [((.inr "room" : Key), a), (.inr "way", b)] (.inr "room") v = [(.inr "room", v), (.inr "way", b)] := by
 obtain ⟨h1, h2, _⟩ := kne
 simp [A1a, h1, h2]
theorem put3 (a b v : V) : A1a [((.inr "room" : Key), a), (.inr "way", b)] (.inr "least") v = [(.inr "room", a), (.inr "way", b), (.inr "least", v)] := by
 obtain ⟨_, _, h1, h2, _⟩ := kne
 simp [A1a, h1, h2]
theorem put4 (a b c v : V) : A1a [((.inr "room" : Key), a), (.inr "way", b), (.inr "least", c)] (.inr "most") v = [(.inr "room", a), (.inr "way", b), (.inr "least", c), (.inr "most", v)] := by
 obtain ⟨_, _, _, _, h1, h2, h3, _⟩ := kne
 simp [A1a, h1, h2, h3]
theorem put5 (a b c d v : V) : A1a [((.inr "room" : Key), a), (.inr "way", b), (.inr "least", c), (.inr "most", d)] (.inr "lowest") v = [(.inr "room", a), (.inr "way", b), (.inr "least", c), (.inr "most", d), (.inr "lowest", v)] := by
 obtain ⟨_, _, _, _, _, _, _, h1, h2, h3, h4, _⟩ := kne
 simp [A1a, h1, h2, h3, h4]
theorem put6 (r : Int) (y : Wy) (l m : Int) (v : V) : A1a (k5 r y l m) (.inr "up") v = k5 r y l m ++ [(.inr "up", v)] := by
 obtain ⟨_, _, _, _, _, _, _, _, _, _, _, h1, h2, h3, h4, h5, _⟩ := kne
 simp [A1a, k5, h1, h2, h3, h4, h5]
theorem put7 (r : Int) (y : Wy) (l m : Int) (u t : Addr) : A1a (k5 r y l m ++ [(.inr "up", .ref u)]) (.inr "trapped") (.ref t) = V1r r y l m u t := by
 obtain ⟨_, _, _, _, _, _, _, _, _, _, _, _, _, _, _, _, h1, h2, h3, h4, h5, h6, _⟩ := kne
 simp [A1a, k5, V1r, h1, h2, h3, h4, h5, h6]
theorem put8 (r : Int) (y : Wy) (l m : Int) (u u' t : Addr) : A1a (V1r r y l m u t) (.inr "up") (.ref u') = V1r r y l m u' t := by
 obtain ⟨_, _, _, _, _, _, _, _, _, _, _, h1, h2, h3, h4, h5, _, _, _, _, _, _, h6⟩ := kne
 simp [A1a, V1r, h1, h2, h3, h4, h5, h6]
theorem at3 (a b c n : Int) : ∃ v, (v = a \/ v = b \/ v = c) /\ atI ([.int a, .int b, .int c] : List V) (n % 3) = some (.int v) := by
 rcases (by omega : n % 3 = 0 \/ n % 3 = 1 \/ n % 3 = 2) with h | h | h
 . exact ⟨a, .inl rfl, by rw [h]; exact J9 (j := 0) rfl⟩
 . exact ⟨b, .inr (.inl rfl), by rw [h]; exact J9 (j := 1) rfl⟩
 exact ⟨c, .inr (.inr rfl), by rw [h]; exact J9 (j := 2) rfl⟩
theorem sh3 : ∀ i : Nat, i < 7 -> (0 : Int) < 3 * 2 ^ ((0 : Int) + (i : Int)).toNat /\ ((3 : Int) * 2 ^ ((0 : Int) + (i : Int)).toNat).natAbs.log2 < 9000 := by decide +kernel
theorem A0ep : ∀ i : Nat, i < 7 -> (0 : Int) < 1200 * 2 ^ ((0 : Int) + (i : Int)).toNat /\ ((1200 : Int) * 2 ^ ((0 : Int) + (i : Int)).toNat).natAbs.log2 < 9000 := by decide +kernel
theorem U8g {i : Nat} (h : i < 7) : atI A6p ((0 : Int) + (i : Int)) = some (.str (A0j.getD i "")) := by
 rw [Int.zero_add]
 exact J9 (j := i) (D9p i h)
def V7w : Sp := fun vs H Q _ => ∃ c : Int, vs = [.int c] /\ ∀ d u t r y l m up tr H', B7 H H' -> H d = none -> H u = none -> H t = none -> A3t r l m -> A2d up -> A2d tr -> V7 H' d u t r y l m up tr -> Q (.ref d) H'
theorem scLOwn : B9 ["_law_cell", "_law_ways", "_law_signals", "_law_more", "_law_own_here"] ["_law_cell"] (A1 C8f) := scK
theorem Z6u {f f1 : Addr} {fd fd1 : FuncData} (D : Def K mg "_law_own" ["_law_cell"] C8f f fd) (D_l_mixed : Def K mg "_law_mixed" Q8 A7d f1 fd1) (G_l_mixed : sI P w K mg base 1 f1 fd1 Q8 C6h) (O : Own mg) :
   sI P w K mg base 2 f fd ["_law_cell"] V7w := by
 refine D.F.okE scLOwn (fun vs H Q E h => ?_) (fun X cdv A outer s H vs Q E hX hr hx h => ?_)
 . obtain ⟨c, rfl, _⟩ := h
   rfl
 subst hX
 obtain ⟨c, rfl, k⟩ := h
 have HU := hr.units
 refine ⟨_, (A7 (B4 (D0 (i := 1) scLOwn.nd rfl (Or.inl rfl) (U7 (A0 B0 (A0 B0 (A0 B0 (A0 B0 (A0 B0 (A0 B0 (A0 B0 (A0 B0 A6))))))))))) (A7 (B4 (D0 (i := 2) scLOwn.nd rfl (Or.inr rfl) (U7 (A0 B0 (A0 B0 (A0 B0 (A0 B0 (A0 B0 (A0 B0 (A0 B0 A6)))))))))) (A7 (B4 (D0 (i := 3) scLOwn.nd rfl (Or.inr rfl) (D4 D_l_mixed G_l_mixed hr hx (A0 (pv 0) (A0 A3 A6))))) (A7 (B4 (D0 (i := 4) scLOwn.nd rfl (Or.inl rfl) (Z8x (G9y B0 (B3 V6 A3 (B3 G2 (pv 3) A3)) (G9y B0 (J1 A3p (pv 1) (B3 G2 (B3 G3 (pv 3) A3) A3) (fun _ _ => rfl)) Z7r)) rfl rfl (by simp) (by decide)))) (A7 (B4 (G4 (C6 D6 (B3 G2 (B3 G3 (pv 3) A3) A3) A3 (C5 _)) (A9 (B4 (A7j (Nat.lt_of_le_of_lt (Nat.add_le_add_left (by decide) _) HU) (pv 4) B0 (B3 V6 A3 (B3 G2 (B3 G3 (pv 3) A3) A3)) (by rfl)))) D3)) (A7 (B4 (D0 (i := 3) scLOwn.nd rfl (Or.inr rfl) (D4 D_l_mixed G_l_mixed hr hx (A0 (pv 0) (A0 A3 A6))))) (A7 (B4 (A7j (Nat.lt_of_le_of_lt (Nat.add_le_add_left (by decide) _) HU) (pv 4) B0 (J1 A3p (U7 (A0 (C7p B6f A3) (A0 (B3 V0 A3 (B3 G2 (B3 G3 (pv 3) A3) A3)) (A0 (B3 V0 A3 (B3 G2 (B3 G3 (pv 3) A3) A3)) A6)))) (B3 G2 (pv 3) A3) (fun _ _ => rfl)) (by rfl))) (A7 (B4 (A7j (Nat.lt_of_le_of_lt (Nat.add_le_add_left (by decide) _) HU) (pv 4) B0 (J1 A3p (U7 (A0 A3 (A0 (B3 G2 (B3 G3 (pv 3) A3) A3) (A0 (B3 G2 (B3 G3 (pv 3) A3) A3) A6)))) (B3 G2 (B3 G3 (pv 3) A3) A3) (fun _ _ => rfl)) (by rfl))) (A7 (B4 (A7j (Nat.lt_of_le_of_lt (Nat.add_le_add_left (by decide) _) HU) (pv 4) B0 (B3 V6 (B3 V0 (U8 (Nat.lt_of_le_of_lt (Nat.add_le_add_left (by decide) _) HU) (pv 4) B0 (fun _ _ => rfl)) (U8 (Nat.lt_of_le_of_lt (Nat.add_le_add_left (by decide) _) HU) (pv 4) B0 (fun _ _ => rfl))) A3) (by rfl))) (A7 (B4 (D0 (i := 3) scLOwn.nd rfl (Or.inr rfl) (D4 D_l_mixed G_l_mixed hr hx (A0 (pv 0) (A0 A3 A6))))) (A7 (B4 (A7j (Nat.lt_of_le_of_lt (Nat.add_le_add_left (by decide) _) HU) (pv 4) B0 (J1k (N := ["_law_k"]) (F := ["_law_signals", "_law_more"]) (js := [2, 3]) (D8.of2 ⟨rfl, by decide +kernel, by decide +kernel, by decide +kernel, by decide +kernel⟩ (by rfl) (by rfl) ⟨_, by rfl⟩ (by rfl) (by rfl) (by rfl) ⟨_, by rfl⟩ (by rfl) (by rfl)) (.inl hr.hd) rfl (C0c rfl O.range_ (A0 A3 A6)) rfl (fun C s₀ H₀ ex pn h => Y3 (i := 0) (by decide +kernel : (Q45 : List Str).Nodup) rfl (Or.inl rfl)) (fun C s₀ H₀ ex pn h => (PW.pt (A1h (C6 D6 (B3 G2 (pv 2) A3) A3 (C5 _)) (A1e (C6 D6 (B3 G2 (B3 G3 (pv 2) (B3 Y0f A3 (pv 0))) A3) A3 (C5 _)))))) (fun C s₀ H₀ ex pn h => (J1 (J0z (K := K) rfl) (pv 1) (pv 0) (fun _ _ => rfl)))) (by rfl))) (A7 (B4 (A7j (Nat.lt_of_le_of_lt (Nat.add_le_add_left (by decide) _) HU) (pv 4) B0 (J1k (N := ["_law_k"]) (F := ["_law_signals", "_law_more"]) (js := [2, 3]) (D8.of2 ⟨rfl, by decide +kernel, by decide +kernel, by decide +kernel, by decide +kernel⟩ (by rfl) (by rfl) ⟨_, by rfl⟩ (by rfl) (by rfl) (by rfl) ⟨_, by rfl⟩ (by rfl) (by rfl)) (.inl hr.hd) rfl (C0c rfl O.range_ (A0 A3 A6)) rfl (fun C s₀ H₀ ex pn h => Y3 (i := 0) (by decide +kernel : (Q45 : List Str).Nodup) rfl (Or.inl rfl)) (fun C s₀ H₀ ex pn h => (PW.pt (A1h (C6 D6 (B3 G2 (B3 G3 (pv 2) A3) A3) A3 (C5 _)) (A1e (C6 D6 (B3 G2 (B3 G3 (pv 2) (B3 Y0f A3 (pv 0))) A3) A3 (C5 _)))))) (fun C s₀ H₀ ex pn h => (J1 (J0z (K := K) rfl) (pv 1) (pv 0) (fun _ _ => rfl)))) (by rfl))) (A9 (B8 (pv 4))))))))))))))), ?_⟩
 have z8 : 8 <= sizeLine := C9 (by decide)
 have z7 : 7 <= sizeLine := C9 (by decide)
 have z3 : 3 <= sizeLine := C9 (by decide)
 refine ⟨fun σ' H' => ∃ a1, B7 H H' /\ H' a1 = some (.lst Y0v) /\ σ' = [si c, sr a1, none, none, none], ⟨z8, fun a n => ⟨a, B7.upd n, A8, rfl⟩⟩, ?_⟩
 rintro σ' H1 ⟨a1, s1, e1, rfl⟩
 refine ⟨fun σ' H' => ∃ a2, B7 H H' /\ H' a1 = some (.lst Y0v) /\ H' a2 = some (.lst A6p) /\ σ' = [si c, sr a1, sr a2, none, none], ⟨z7, fun a n => ⟨a, s1.trans (B7.upd n), (B7.upd n) _ _ e1, A8, rfl⟩⟩, ?_⟩
 rintro σ' H2 ⟨a2, s2, e1, e2, rfl⟩
 refine ⟨fun σ' H' => ∃ m : Int, H' = H2 /\ 0 <= m /\ σ' = [si c, sr a1, sr a2, si m, none], ⟨_, rfl, c, 30, rfl, by decide, by decide, fun m m0 _ => ⟨m, rfl, m0, rfl⟩⟩, ?_⟩
 rintro σ' H3 ⟨m, rfl, m0, rfl⟩
 refine ⟨fun σ' H' => ∃ d r y, B7 H H' /\ H d = none /\ 1 <= r /\ r <= 24 /\ H' a2 = some (.lst A6p) /\ H' d = some (.dK [(.inr "room", .int r), (.inr "way", .str (Wy.name y))]) /\ σ' = [si c, sr a1, sr a2, si m, sr d], ?_, ?_⟩
 . intro d nd
   have ud := B7.upd (o := .dK []) nd
   have z8' : (0 : Int) < 8 := by decide
   obtain ⟨v, hv, ix⟩ := ixv (xs := Y0v) (i := m / 6 % 8) (Int.emod_nonneg _ (by decide)) (by show m / 6 % 8 < 8; exact Int.emod_lt_of_pos _ z8')
   obtain ⟨y, _, rfl⟩ := List.mem_map.mp hv
   refine ⟨_, rfl, _, _, rfl, rfl, (by decide : (0 : Int) < 6), _, _, rfl, rfl, _, rfl, _, rfl, _, _, rfl, rfl, dv (n := 6) (by decide) (by decide +kernel), _, _, rfl, rfl, z8', a1, _, _, _, rfl, rfl, SqL.of (ud _ _ e1), ix, A8, [(.inr "room", .int (1 + m % 6)), (.inr "way", .str y.name)], rfl, by show 2 <= 15; decide, ?_⟩
   have xd : Exc d (upd H3 d (.dK [])) (upd (upd H3 d (.dK [])) d (.dK (B1e [] [(.inr "room", .int (1 + m % 6)), (.inr "way", .str y.name)]))) := Exc.upd
   have n2 : a2 ≠ d := D5 e2 nd
   refine ⟨d, 1 + m % 6, y, fun b o hb => ?_, s2.free nd, by omega, by omega, xd _ _ (ud _ _ e2) n2, by rw [put1]; exact A8, rfl⟩
   have q := s2 _ _ hb
   exact xd _ _ (ud _ _ q) (D5 q nd)
 rintro σ' H4 ⟨d, r, y, s4, nd, r1, r2, e2, ed, rfl⟩
 have nad : ∀ b o, H b = some o -> b ≠ d := fun b o hb => D5 hb nd
 have n2d : ∀ {G : Hp} {kvs : List (Key × V)}, G a2 = some (.lst A6p) -> G d = some (.dK kvs) -> a2 ≠ d := fun h1 h2 => V8 h1 h2 (by intro z; cases z)
 have keepS : ∀ {G : Hp} {u : HO}, B7 H G -> B7 H (upd G d u) := fun sm b o hb => by rw [C8 (nad b o hb)]; exact sm _ _ hb
 refine ⟨fun σ' H' => ∃ r, B7 H H' /\ 1 <= r /\ r <= 24 /\ H' a2 = some (.lst A6p) /\ H' d = some (.dK [(.inr "room", .int r), (.inr "way", .str (Wy.name y))]) /\ σ' = [si c, sr a1, sr a2, si m, sr d], ?_, ?_⟩
 . refine ⟨_, rfl, _, _, rfl, rfl, dv (n := 48) (by decide) (by decide +kernel), _, _, rfl, rfl, (by decide : (0 : Int) < 4), rfl, _, rfl, J0 (fun _ => ?_) (fun _ => ⟨r, s4, r1, r2, e2, ed, rfl⟩)⟩
   refine ⟨_, ?_, fun _ _ h => h⟩
   refine ⟨_, rfl, _, _, rfl, rfl, dv (n := 192) (by decide) (by decide +kernel), _, _, rfl, rfl, (by decide : (0 : Int) < 24), _, _, rfl, rfl, _, rfl, d, _, rfl, C8x.k (k := .inr "room") ed (Y0 (by show 2 <= 1000; decide)), ?_⟩
   exact ⟨1 + m / 192 % 24, keepS s4, by omega, by omega, by rw [C8 (n2d e2 ed)]; exact e2, by rw [put2]; exact A8, rfl⟩
 rintro σ' H5 ⟨r, s5, r1, r2, e2, ed, rfl⟩
 refine ⟨fun σ' H' => ∃ m : Int, H' = H5 /\ 0 <= m /\ σ' = [si c, sr a1, sr a2, si m, sr d], ⟨_, rfl, c, 31, rfl, by decide, by decide, fun m m0 _ => ⟨m, rfl, m0, rfl⟩⟩, ?_⟩
 rintro σ' H6 ⟨m2, rfl, q0, rfl⟩
 refine ⟨fun σ' H' => ∃ l : Int, B7 H H' /\ -60 <= l /\ l <= 0 /\ H' a2 = some (.lst A6p) /\ H' d = some (.dK [(.inr "room", .int r), (.inr "way", .str (Wy.name y)), (.inr "least", .int l)]) /\ σ' = [si c, sr a1, sr a2, si m2, sr d], ?_, ?_⟩
 . obtain ⟨l, hl, ix⟩ := at3 (-60) (0 - m2 / 9 % 8) (0 - m2 / 9 % 61) m2
   refine ⟨_, rfl, _, rfl, _, _, rfl, rfl, dv (n := 9) (by decide) (by decide +kernel), _, _, rfl, rfl, (by decide : (0 : Int) < 8), _, _, rfl, rfl, _, rfl, _, _, rfl, rfl, dv (n := 9) (by decide) (by decide +kernel), _, _, rfl, rfl, (by decide : (0 : Int) < 61), _, _, rfl, rfl, z3, fun p np => ?_⟩
   have up := B7.upd (o := .lst [.int (-60), .int (0 - m2 / 9 % 8), .int (0 - m2 / 9 % 61)]) np
   have ed' := up _ _ ed
   have e2' := up _ _ e2
   refine ⟨_, rfl, _, _, rfl, rfl, (by decide : (0 : Int) < 3), p, _, _, _, rfl, rfl, SqL.of A8, ix, _, rfl, d, _, rfl, C8x.k (k := .inr "least") ed' (Y0 (by show 2 <= 1000; decide)), ?_⟩
   exact ⟨l, keepS (s5.trans up), by omega, by omega, by rw [C8 (n2d e2' ed')]; exact e2', by rw [put3]; exact A8, rfl⟩
 rintro σ' H7 ⟨l, s7, l1, l2, e2, ed, rfl⟩
 refine ⟨fun σ' H' => ∃ mo : Int, B7 H H' /\ 0 <= mo /\ mo <= 60 /\ H' a2 = some (.lst A6p) /\ H' d = some (.dK [(.inr "room", .int r), (.inr "way", .str (Wy.name y)), (.inr "least", .int l), (.inr "most", .int mo)]) /\ σ' = [si c, sr a1, sr a2, si m2, sr d], ?_, ?_⟩
 . obtain ⟨mo, hl, ix⟩ := at3 60 (m2 / 600 % 8) (m2 / 600 % 61) (m2 / 3)
   refine ⟨_, rfl, _, _, rfl, rfl, dv (n := 600) (by decide) (by decide +kernel), _, _, rfl, rfl, (by decide : (0 : Int) < 8), _, rfl, _, _, rfl, rfl, dv (n := 600) (by decide) (by decide +kernel), _, _, rfl, rfl, (by decide : (0 : Int) < 61), z3, fun p np => ?_⟩
   have up := B7.upd (o := .lst [.int 60, .int (m2 / 600 % 8), .int (m2 / 600 % 61)]) np
   have ed' := up _ _ ed
   have e2' := up _ _ e2
   refine ⟨_, rfl, _, _, rfl, rfl, dv (n := 3) (by decide) (by decide +kernel), _, _, rfl, rfl, (by decide : (0 : Int) < 3), p, _, _, _, rfl, rfl, SqL.of A8, ix, _, rfl, d, _, rfl, C8x.k (k := .inr "most") ed' (Y0 (by show 3 <= 1000; decide)), ?_⟩
   exact ⟨mo, keepS (s7.trans up), by omega, by omega, by rw [C8 (n2d e2' ed')]; exact e2', by rw [put4]; exact A8, rfl⟩
 rintro σ' H8 ⟨mo, s8, m1, m2', e2, ed, rfl⟩
 refine ⟨fun σ' H' => B7 H H' /\ H' a2 = some (.lst A6p) /\ H' d = some (.dK (k5 r y l mo)) /\ σ' = [si c, sr a1, sr a2, si m2, sr d], ?_, ?_⟩
 . have g1 : A4w H8 d (.str "least") (some (.int l)) := A4w.k (k := .inr "least") ed
   have g2 : A4w H8 d (.str "room") (some (.int r)) := A4w.k (k := .inr "room") ed
   refine ⟨_, rfl, d, _, rfl, g1, _, rfl, d, _, rfl, g2, _, _, rfl, rfl, _, _, rfl, rfl, _, rfl, d, _, rfl, C8x.k (k := .inr "lowest") ed (Y0 (by show 4 <= 1000; decide)), ?_⟩
   exact ⟨keepS s8, by rw [C8 (n2d e2 ed)]; exact e2, by rw [put5]; exact A8, rfl⟩
 rintro σ' H9 ⟨s9, e2, ed, rfl⟩
 refine ⟨fun σ' H' => ∃ m : Int, H' = H9 /\ 0 <= m /\ σ' = [si c, sr a1, sr a2, si m, sr d], ⟨_, rfl, c, 32, rfl, by decide, by decide, fun m m0 _ => ⟨m, rfl, m0, rfl⟩⟩, ?_⟩
 rintro σ' H10 ⟨m3, rfl, q3, rfl⟩
 refine ⟨fun σ' H' => ∃ u up, B7 H H' /\ H u = none /\ A2d up /\ H' a2 = some (.lst A6p) /\ H' u = some (.lst (up.map V.str)) /\ H' d = some (.dK (k5 r y l mo ++ [(.inr "up", .ref u)])) /\ σ' = [si c, sr a1, sr a2, si m3, sr d], ?_, ?_⟩
 . refine ⟨7, rfl, by decide, by decide, J0t (J := Itr 0 7) (n := 7) (fun i => decide (m3 % 3 = 1) && decide (m3 / (3 * 2 ^ ((0 : Int) + (i : Int)).toNat) % 2 = 1)) (fun i y _ => A6p[i]? = some y) (by decide) (fun _ _ _ _ _ _ h _ _ => h) (fun i H2 Qy Qn hi sm hy hn => ⟨hi, fun x H3 yl => ?_⟩) (fun H2 sm => Nat.le_refl _) (fun D' H' ys sm nD eD hlen hR => ?_)⟩
   . obtain ⟨rfl, rfl⟩ := yl
     refine ⟨_, rfl, _, _, rfl, rfl, (by decide : (0 : Int) < 3), rfl, _, rfl, J0 (fun h1 => ?_) (fun h1 => ?_)⟩
     . have h1 : m3 % 3 = 1 := V.int.inj h1
       refine ⟨_, rfl, _, rfl, _, _, rfl, rfl, ⟨by show 0 <= (0 : Int) + i; omega, by show (0 : Int) + i <= 1000000; omega, by decide⟩, _, _, rfl, rfl, sh3 i hi, _, _, rfl, rfl, (by decide : (0 : Int) < 2), rfl, _, rfl, J0 (fun h2 => ?_) (fun h2 => ?_)⟩
       . have h2 : m3 / (3 * 2 ^ ((0 : Int) + (i : Int)).toNat) % 2 = 1 := V.int.inj h2
         exact ⟨_, rfl, _, rfl, a2, _, _, _, rfl, rfl, SqL.of (sm _ _ e2), U8g hi, hy (by rw [decide_eq_true h1, decide_eq_true h2]; rfl) _ _ (B7.refl _) (D9p i hi)⟩
       . have h2 : ¬ m3 / (3 * 2 ^ ((0 : Int) + (i : Int)).toNat) % 2 = 1 := fun e => h2 (congrArg V.int e)
         exact hn (by rw [decide_eq_false h2, Bool.and_false]) _ (B7.refl _)
     . have h1 : ¬ m3 % 3 = 1 := fun e => h1 (congrArg V.int e)
       exact U2 (hn (by rw [decide_eq_false h1]; rfl) _ (B7.refl _))
   . obtain ⟨zs, hz, rfl⟩ : ∃ zs, A2d zs /\ ys = zs.map V.str := ⟨_, J0r _, U9d hlen hR⟩
     have ed' := sm _ _ ed
     have e2' := sm _ _ e2
     have nDd : D' ≠ d := Ne.symm (D5 ed nD)
     refine ⟨_, rfl, d, _, rfl, C8x.k (k := .inr "up") ed' (Y0 (by show 5 <= 1000; decide)), ?_⟩
     refine ⟨D', zs, keepS (s9.trans sm), s9.free nD, hz, by rw [C8 (n2d e2' ed')]; exact e2', ?_, by rw [put6]; exact A8, rfl⟩
     rw [C8 nDd, eD]
 rintro σ' H11 ⟨u, up, s11, nu, su, e2, eu, ed, rfl⟩
 refine ⟨fun σ' H' => ∃ t tr, B7 H H' /\ H t = none /\ A2d tr /\ V7 H' d u t r y l mo up tr /\ σ' = [si c, sr a1, sr a2, si m3, sr d], ?_, ?_⟩
 . refine ⟨7, rfl, by decide, by decide, J0t (J := Itr 0 7) (n := 7) (fun i => decide (m3 / 400 % 3 = 1) && decide (m3 / (1200 * 2 ^ ((0 : Int) + (i : Int)).toNat) % 2 = 1)) (fun i y _ => A6p[i]? = some y) (by decide) (fun _ _ _ _ _ _ h _ _ => h) (fun i H2 Qy Qn hi sm hy hn => ⟨hi, fun x H3 yl => ?_⟩) (fun H2 sm => Nat.le_refl _) (fun D' H' ys sm nD eD hlen hR => ?_)⟩
   . obtain ⟨rfl, rfl⟩ := yl
     refine ⟨_, rfl, _, _, rfl, rfl, dv (n := 400) (by decide) (by decide +kernel), _, _, rfl, rfl, (by decide : (0 : Int) < 3), rfl, _, rfl, J0 (fun h1 => ?_) (fun h1 => ?_)⟩
     . have h1 : m3 / 400 % 3 = 1 := V.int.inj h1
       refine ⟨_, rfl, _, rfl, _, _, rfl, rfl, ⟨by show 0 <= (0 : Int) + i; omega, by show (0 : Int) + i <= 1000000; omega, by decide⟩, _, _, rfl, rfl, A0ep i hi, _, _, rfl, rfl, (by decide : (0 : Int) < 2), rfl, _, rfl, J0 (fun h2 => ?_) (fun h2 => ?_)⟩
       . have h2 : m3 / (1200 * 2 ^ ((0 : Int) + (i : Int)).toNat) % 2 = 1 := V.int.inj h2
         exact ⟨_, rfl, _, rfl, a2, _, _, _, rfl, rfl, SqL.of (sm _ _ e2), U8g hi, hy (by rw [decide_eq_true h1, decide_eq_true h2]; rfl) _ _ (B7.refl _) (D9p i hi)⟩
       . have h2 : ¬ m3 / (1200 * 2 ^ ((0 : Int) + (i : Int)).toNat) % 2 = 1 := fun e => h2 (congrArg V.int e)
         exact hn (by rw [decide_eq_false h2, Bool.and_false]) _ (B7.refl _)
     . have h1 : ¬ m3 / 400 % 3 = 1 := fun e => h1 (congrArg V.int e)
       exact U2 (hn (by rw [decide_eq_false h1]; rfl) _ (B7.refl _))
   . obtain ⟨zs, hz, rfl⟩ : ∃ zs, A2d zs /\ ys = zs.map V.str := ⟨_, J0r _, U9d hlen hR⟩
     have ed' := sm _ _ ed
     have eu' := sm _ _ eu
     have nDd : D' ≠ d := Ne.symm (D5 ed nD)
     have nud : u ≠ d := V8 eu ed (by intro z; cases z)
     refine ⟨_, rfl, d, _, rfl, C8x.k (k := .inr "trapped") ed' (Y0 (by show 6 <= 1000; decide)), ?_⟩
     refine ⟨D', zs, keepS (s11.trans sm), s11.free nD, hz, ⟨by rw [put7]; exact A8, by rw [C8 nud]; exact eu', ?_⟩, rfl⟩
     rw [C8 nDd, eD]
 rintro σ' H12 ⟨t, tr, s12, nt, st, own, rfl⟩
 exact ⟨_, rfl, k d u t r y l mo up tr H12 s12 nd nu nt ⟨r1, r2, l1, l2, m1, m2'⟩ su st own⟩
abbrev A1y : Stmt := (top 72)
theorem V7.exc {H H' : Hp} {d u t p : Addr} {r l m : Int} {y : Wy} {up tr : List Str} (h : V7 H d u t r y l m up tr) (x : Exc p H H') (h1 : d ≠ p) (h2 : u ≠ p) (h3 : t ≠ p) : V7 H' d u t r y l m up tr := ⟨x _ _ h.d h1, x _ _ h.u h2, x _ _ h.t h3⟩
theorem V7.gRoom {H : Hp} {d u t : Addr} {r l m : Int} {y : Wy} {up tr : List Str} (h : V7 H d u t r y l m up tr) : A4w H d (.str "room") (some (.int r)) := A4w.k (k := .inr "room") h.d
theorem V7.gWay {H : Hp} {d u t : Addr} {r l m : Int} {y : Wy} {up tr : List Str} (h : V7 H d u t r y l m up tr) : A4w H d (.str "way") (some (.str y.name)) := A4w.k (k := .inr "way") h.d
theorem V7.gLeast {H : Hp} {d u t : Addr} {r l m : Int} {y : Wy} {up tr : List Str} (h : V7 H d u t r y l m up tr) : A4w H d (.str "least") (some (.int l)) := A4w.k (k := .inr "least") h.d
theorem V7.gMost {H : Hp} {d u t : Addr} {r l m : Int} {y : Wy} {up tr : List Str} (h : V7 H d u t r y l m up tr) : A4w H d (.str "most") (some (.int m)) := A4w.k (k := .inr "most") h.d
theorem V7.gLowest {H : Hp} {d u t : Addr} {r l m : Int} {y : Wy} {up tr : List Str} (h : V7 H d u t r y l m up tr) : A4w H d (.str "lowest") (some (.int (l - r + 1))) := A4w.k (k := .inr "lowest") h.d
theorem V7.gUp {H : Hp} {d u t : Addr} {r l m : Int} {y : Wy} {up tr : List Str} (h : V7 H d u t r y l m up tr) : A4w H d (.str "up") (some (.ref u)) := A4w.k (k := .inr "up") h.d
theorem V7.gTr {H : Hp} {d u t : Addr} {r l m : Int} {y : Wy} {up tr : List Str} (h : V7 H d u t r y l m up tr) : A4w H d (.str "trapped") (some (.ref t)) := A4w.k (k := .inr "trapped") h.d
def C8s (CC : Addr) : Sp := fun vs H Q _ => ∃ d u t r y l m up tr, vs = [.ref d] /\ V7 H d u t r y l m up tr /\ A3t r l m /\ A2d up /\ A2d tr /\ ∀ c a b H', B7 H H' -> H c = none -> U4 CC H' c r y l m a b (up.map V.str) (tr.map V.str) -> Q (.ref c) H'
theorem scLContext : B9 ["_law_own_here", "_law_context_here"] Q26 (A1 A1y) := scK
theorem J0j {f CC CB CT fI : Addr} {fd fdI : FuncData} (D : Def K mg "_law_context" Q26 A1y f fd) (M : A0dg P w K mg base CC CB fI fdI) (b4 : A0c K fdI Q31 []) (C : C6c K mg CC) (MD : Has P w K mg base CC "raised" 3 Q11 (B8t K CC CB CT)) (MT : Has P w K mg base CC "trap" 2 Q11 (J7s K CC CB)) (O : Own mg) :
   sI P w K mg base 5 f fd Q26 (C8s CC) := by
 refine D.F.okE scLContext (fun vs H Q E h => ?_) (fun X cdv A outer s H vs Q E hX hr hx h => ?_)
 . obtain ⟨d, u, t, r, y, l, m, up, tr, rfl, _⟩ := h
   rfl
 subst hX
 obtain ⟨d, u, t, r, y, l, m, up, tr, rfl, ow, fr, su, st, k⟩ := h
 obtain ⟨fr', fdr, mr, gr, br⟩ := MD
 obtain ⟨ft, fdt, mt, gt, bt⟩ := MT
 have HU := hr.units
 refine ⟨_, (A7 (B4 (D0 (i := 1) scLContext.nd rfl (Or.inl rfl) (C7e M.m M.g hr C.g b4 .nil hx (A0 (U8 (Nat.lt_of_le_of_lt (Nat.add_le_add_left (by decide) _) HU) (pv 0) B0 (fun _ _ => rfl)) (A0 (U8 (Nat.lt_of_le_of_lt (Nat.add_le_add_left (by decide) _) HU) (pv 0) B0 (fun _ _ => rfl)) (A0 (U8 (Nat.lt_of_le_of_lt (Nat.add_le_add_left (by decide) _) HU) (pv 0) B0 (fun _ _ => rfl)) (A0 (U8 (Nat.lt_of_le_of_lt (Nat.add_le_add_left (by decide) _) HU) (pv 0) B0 (fun _ _ => rfl)) A6))))))) (A7 (B4 (Z5 (B5v (pv 1) C.cl mr gr hr br .nil hx (A0 (V5 A7r (by rfl) O.list_ boot_list (A0 (U8 (Nat.lt_of_le_of_lt (Nat.add_le_add_left (by decide) _) HU) (pv 0) B0 (fun _ _ => rfl)) A6)) A6)))) (A7 (B4 (Z5 (B5v (pv 1) C.cl mt gt hr bt .nil hx (A0 (A0fs (U8 (Nat.lt_of_le_of_lt (Nat.add_le_add_left (by decide) _) HU) (pv 0) B0 (fun _ _ => rfl)) (C7p B6f A3)) A6)))) (A9 (B8 (pv 1)))))), ?_⟩
 refine ⟨fun σ' H' => ∃ c a b, B7 H H' /\ H c = none /\ U4 CC H' c r y l m a b [] [] /\ σ' = [sr d, sr c], ?_, ?_⟩
 . refine ⟨_, rfl, d, _, rfl, ow.gRoom, _, rfl, d, _, rfl, ow.gWay, _, rfl, d, _, rfl, ow.gLeast, _, rfl, d, _, rfl, ow.gMost, fun x dx n1 n2 ne => ?_⟩
   exact A0kg n1 n2 ne rfl fr.r1 fr.r2 rfl (.inr ⟨rfl, fr.l1, fr.l2⟩) rfl fr.m1 fr.m2 fun a b H4 s4 hc => ⟨rfl, x, a, b, s4, n1, hc, rfl⟩
 rintro σ' H1 ⟨c, a, b, s1, nc, hc, rfl⟩
 refine ⟨fun σ' H' => ∃ a, B7 H H' /\ U4 CC H' c r y l m a b (up.map V.str) [] /\ σ' = [sr d, sr c], ?_, ?_⟩
 . obtain ⟨dx, e⟩ := hc.ins
   have ow1 := ow.same s1
   refine ⟨_, rfl, c, dx, _, rfl, e, A0n _ _ _ _ _ _, _, rfl, d, _, rfl, ow1.gUp, u, _, rfl, .inl (SqL.of ow1.u), fun p np => ?_⟩
   have uq := B7.upd (o := .lst (up.map V.str)) np
   refine ⟨c, r, y, l, m, a, b, [], [], _, rfl, hc.same uq, by show 0 + 100 <= 1000; decide, .inl ⟨p, up, rfl, A8, Nat.le_trans su.len (by decide), su.mem, fun _ a' H2 x2 na c2 => ⟨a', fun q o hq => ?_, ?_, rfl⟩, fun t ht => by cases ht⟩⟩
   . exact x2 _ _ (uq _ _ (s1 _ _ hq)) (D5 hq nc)
   . have := C8c (ws := [] ++ up) su (fun z => by simp)
     rw [this] at c2
     exact c2
 rintro σ' H2 ⟨a, s2, hc2, rfl⟩
 refine ⟨fun σ' H' => ∃ b, B7 H H' /\ U4 CC H' c r y l m a b (up.map V.str) (tr.map V.str) /\ σ' = [sr d, sr c], ?_, ?_⟩
 . obtain ⟨dx, e⟩ := hc2.ins
   have ow1 := ow.same s2
   refine ⟨_, rfl, c, dx, _, rfl, e, J0u _ _ _ _ _ _, _, rfl, d, _, rfl, ow1.gTr, _, rfl, rfl, t, _, rfl, SqL.of ow1.t, fun p np => ?_⟩
   have uq := B7.upd (o := .lst (tr.map V.str).reverse) np
   refine ⟨c, r, y, l, m, a, b, _, _, _, rfl, hc2.same uq, .inl ⟨p, tr.reverse, rfl, by rw [List.map_reverse]; exact A8, fun z hz => st.mem z (List.mem_reverse.mp hz), fun b' H3 x3 nb c3 => ⟨b', fun q o hq => ?_, ?_, rfl⟩⟩⟩
   . exact x3 _ _ (uq _ _ (s2 _ _ hq)) (D5 hq nc)
   . rw [C8c (ws := tr.reverse) st (fun z => List.mem_reverse)] at c3
     exact c3
 rintro σ' H3 ⟨b, s3, hc3, rfl⟩
 exact ⟨_, rfl, k c a b H3 s3 nc hc3⟩
abbrev A7h : Stmt := (top 79)
structure V0c (K : Frag) (mg : Str -> Option Value) (CT : Addr) : Prop where
 gT : mg "Trapped" = some (.ref CT)
 c : J8n K CT
 sub : subIn K (.ref CT) (.ref CT) = some true
 k : J8h K CT
 dict : ∃ cd, clsIn K CT = some cd /\ cd.hasDict = true
 nosig : findIn K (.ref CT) "signal" = some none
theorem Y1j {X : Cx} {e : Expr} {f : Str} {pos : Pos} {ta : TE} (hK : X.K = K) (he : PE X e ta) (hb : attributeBase e f X.env (eval e X.env) = eval e X.env) : PE X (.Attribute e f pos) (A0ct K ta f) := by
 subst hK
 exact Z7e he hb
theorem Y0w {X : Cx} {k : Nat} {EH : EK} {x : Str} {p pos : Pos} {i : Nat} (hx : G7 X EH) (hr : Z1 k X.A) (hN : X.N[i]? = some x) (hv : Vis X.env.scope x) (e1 : X.prog = P) (e2 : X.w = w) (e3 : X.K = K) (e4 : X.mg = mg) (e5 : X.base = base) (hex : X.ex = [] := by rfl) (hd : (x == ("__debug__" : Str)) = false := by decide) (hcd : (x == ("__classdict__" : Str)) = false := by decide) :
   PE X (.Call (.Name x p) [] [] pos) (A0dc P w K mg base k i EH) := by
 subst e1 e2 e3 e4 e5
 exact Z6s hN hv hr hx hex hd hcd
def A0mg (CN : Addr) (Q : VK) : VK := fun v H1 => ∃ n x, v = .ref n /\ V4 CN H1 n x /\ ∀ t, H1 t = none -> Q (.ref t) (upd H1 t (.tup (Nm.vs x)))
def A0kx (CT : Addr) (Q : VK) : XK := fun C dd H1 => ∃ d sg, C = .ref CT /\ dd = some d /\ H1 d = some (.xd [("signal", .str sg)]) /\ ∀ t H2, B7 H1 H2 -> H1 t = none -> H2 t = some (.tup [.str "trapped", .str sg]) -> Q (.ref t) H2
def J1u (P : Program) (w : World) (K : Frag) (mg : Str -> Option Value) (base : Heap) (k : Nat) (CN CT : Addr) : Sp := fun vs H Q _ => ∃ f J spd, vs = [.ref f] /\ C0k P w K mg base k f J spd /\ J H /\
 ∀ (Qd : VK) (Ed : XK), (∀ v H1, A0mg CN Q v H1 -> Qd v H1) -> (∀ C dd H1, A0kx CT Q C dd H1 -> Ed C dd H1) -> spd H Qd Ed
theorem scLTried : B9 ["_law_deed", "error"] ["_law_deed"] (A1 A7h) := scK
theorem V1p {k : Nat} {f f1 CN CB CT : Addr} {fd fd1 : FuncData} (hk : 2 <= k) (D : Def K mg "_law_tried" ["_law_deed"] A7h f fd) (D_told : Def K mg "told" ["number"] C4y f1 fd1) (G_told : sI P w K mg base 2 f1 fd1 ["number"] (J7z K CN CB)) (R : V0c K mg CT) :
   sI P w K mg base (k + 1) f fd ["_law_deed"] (J1u P w K mg base k CN CT) := by
 refine D.F.okE scLTried (fun vs H Q E h => ?_) (fun X cdv A outer s H vs Q E hX hr hx h => ?_)
 . obtain ⟨f, J, spd, rfl, _⟩ := h
   rfl
 subst hX
 obtain ⟨g, J, spd, rfl, DO, hJ, h⟩ := h
 have z2 : 2 <= sizeLine := C9 (by decide)
 refine ⟨_, (A9 (A0eb ⟨rfl, rfl, rfl⟩ (by rfl) R.gT R.c scLTried.nd (i := 1) rfl rfl (fun pins Ew EHb hc => (A9 (B8 (D4 (hj := hk) D_told G_told hr hc (A0 (Y0w (P := P) (w := w) (K := K) (mg := mg) (base := base) (i := 0) hc hr rfl (.inl rfl) rfl rfl rfl rfl rfl) A6))))) (fun pins a => (A9 (B8 (U1 (A0 B0 (A0 (Y1j (K := K) rfl (pv 1) rfl) A6)))))))), ?_⟩
 refine ⟨g, J, _, rfl, DO, hJ, h _ _ (fun v H1 ⟨n, x, ev, num, k⟩ => ?_) (fun C dd H1 ⟨d, sg, eC, ed, e, k⟩ => ?_)⟩
 . subst ev
   exact ⟨_, rfl, .inl ⟨n, _, _, _, _, rfl, num, k⟩⟩
 subst eC ed
 refine ⟨R.sub, fun a t T na => ?_⟩
 have u := B7.upd (o := .frz (A0t (.ref CT) t (some d) (.ref T)) (.own a)) na
 have u2 : ∀ p, upd H1 a (.frz (A0t (.ref CT) t (some d) (.ref T)) (.own a)) p = none -> H1 p = none := fun p np => u.free np
 refine ⟨_, rfl, a, CT, _, _, d, _, _, _, rfl, A8, u _ _ e, R.k, R.dict, R.nosig, rfl, z2, fun p np => ?_⟩
 exact k p _ (u.trans (B7.upd np)) (u2 p np) A8
def A5g (k : Str) (s f p : Int) : PyData := .tuple [.str k, .int s, .int f, .int p]
theorem shD {k : Str} (s f p : Int) (h : PyData.strOk k = true) : SeqAt.shaped (A5g k s f p) = true := by
 unfold SeqAt.shaped A5g
 simp [PyData.canLay0, PyData.canLayAll0, PyData.depth, PyData.depthAll, h]
theorem eqD (k : Str) (s f p : Int) : PyData.eqv (A5g k s f p) (A5g k s f p) = true := by
 simp [A5g, PyData.eqv, PyData.eqvAll]
theorem rdD {K : Frag} {H : Hp} {d : Addr} {k : Str} {s f p : Int} (h : H d = some (.tup [.str k, .int s, .int f, .int p])) : RdD K H (.ref d) (A5g k s f p) := .tup (SqT.of h) (.cons (.str _) (.cons (.int _) (.cons (.int _) (.cons (.int _) .nil))))
theorem okK (k : Kd) : PyData.strOk k.str = true := by cases k <;> decide +kernel
def B9w (d : PyData) : Prop := d.showable = true /\ d.depth <= 2 /\ d.shown.length <= 100
theorem D7n : ∀ ds : List PyData, PyData.shownAll ds = ds.map PyData.shown
 | [] => by simp [PyData.shownAll]
 | d :: ds => by simp [PyData.shownAll, D7n ds]
theorem B0v : ∀ {ds : List PyData}, (∀ d ∈ ds, B9w d) -> PyData.showableAll ds = true /\ PyData.depthAll ds <= 3
 | [], _ => by simp [PyData.showableAll, PyData.depthAll]
 | d :: ds, h => by
   obtain ⟨a, b⟩ := B0v (ds := ds) fun d' h' => h d' (List.mem_cons_of_mem _ h')
   obtain ⟨c, e, _⟩ := h d List.mem_cons_self
   constructor
   . simp [PyData.showableAll, a, c]
   . simp only [PyData.depthAll]
     omega
theorem A0ds {ds : List PyData} (h : ∀ d ∈ ds, B9w d) : ((ds.map PyData.shown).map (fun x => x.length)).sum <= 100 * ds.length := by
 induction ds with
 | nil => simp
 | cons d ds ih =>
   have := ih fun d' h' => h d' (List.mem_cons_of_mem _ h')
   have := (h d List.mem_cons_self).2.2
   simp only [List.map_cons, List.sum_cons, List.length_cons]
   omega
theorem A0de {ds : List PyData} (h : ∀ d ∈ ds, B9w d) (hl : ds.length <= 5) : A0r (.tuple ds) := by
 obtain ⟨a, b⟩ := B0v h
 refine ⟨by simpa [PyData.showable] using a, by simp only [PyData.depth]; omega, ?_⟩
 have h1 := tupleText_len_le (ds.map PyData.shown)
 have h2 := A0ds h
 rw [PyData.shown, D7n]
 refine C9 ?_
 rw [List.length_map] at h1
 omega
theorem V8n {i : Int} (h : i.natAbs < 10 ^ 61) : B9w (.int i) := by
 refine ⟨?_, by simp [PyData.depth], ?_⟩
 . simp only [PyData.showable, decide_eq_true_eq]
   have h0 : i.natAbs < 2 ^ 300 := Nat.lt_of_lt_of_le h (by decide +kernel)
   have h1 := Nat.log2_lt (n := i.natAbs) (k := 300)
   by_cases z : i.natAbs = 0
   . rw [z]; decide +kernel
   . exact Nat.lt_trans ((h1 z).mpr h0) (by decide)
 have := int_text_length_le10 (a := i) (k := 61) (by decide) h
 simp only [PyData.shown]
 rw [PySem.ofString_length]
 omega
theorem A0kv (k : Kd) : B9w (.str k.str) := by
 cases k <;> exact ⟨by simp [PyData.showable], by simp [PyData.depth], by decide +kernel⟩
theorem A0kh {z : Str} (h : z ∈ A0j) : B9w (.str z) := by
 have : ∀ z ∈ A0j, (PyData.shown (.str z)).length <= 100 := by decide +kernel
 exact ⟨by simp [PyData.showable], by simp [PyData.depth], this z h⟩
theorem A0kn {x : Nm} (h1 : x.s.natAbs < 10 ^ 61) (h2 : x.f.natAbs < 10 ^ 61) (h3 : x.p.natAbs < 10 ^ 61) : A0r (A5g x.k.str x.s x.f x.p) := A0de (fun d hd => by
 simp only [List.mem_cons, List.not_mem_nil, or_false] at hd
 rcases hd with rfl | rfl | rfl | rfl
 . exact A0kv _
 . exact V8n h1
 . exact V8n h2
 . exact V8n h3) (by show 4 <= 5; decide)
theorem A0es {z : Str} (h : z ∈ A0j) : A0r (.tuple [.str "trapped", .str z]) := A0de (fun d hd => by
 simp only [List.mem_cons, List.not_mem_nil, or_false] at hd
 rcases hd with rfl | rfl
 . exact ⟨by simp [PyData.showable], by simp [PyData.depth], by decide +kernel⟩
 . exact A0kh h) (by show 2 <= 5; decide)
abbrev A4h : Stmt := (top 80)
def A6b (c d : Addr) (H H' : Hp) : Prop := ∀ b o, H b = some o -> b ≠ c -> b ≠ d -> H' b = some o
theorem A6b.trans {c d : Addr} {H H1 H2 : Hp} (a : A6b c d H H1) (b : A6b c d H1 H2) : A6b c d H H2 := fun x o h n m => b x o (a x o h n m) n m
theorem A6b.l {c d : Addr} {H H' : Hp} (a : Exc c H H') : A6b c d H H' := fun x o h n _ => a x o h n
theorem A6b.r {c d : Addr} {H H' : Hp} (a : Exc d H H') : A6b c d H H' := fun x o h _ n => a x o h n
theorem A6b.s {c d : Addr} {H H' : Hp} (a : B7 H H') : A6b c d H H' := fun x o h _ _ => a x o h
theorem U4.exc {CC c a b p : Addr} {H H' : Hp} {r l m : Int} {y : Wy} {xs ys : List V} (h : U4 CC H c r y l m a b xs ys) (x : Exc p H H') (h1 : c ≠ p) (h2 : a ≠ p) (h3 : b ≠ p) : U4 CC H' c r y l m a b xs ys := by
 obtain ⟨⟨dx, e⟩, ha, hb⟩ := h
 exact ⟨⟨dx, x _ _ e h1⟩, x _ _ ha h2, x _ _ hb h3⟩
theorem A0ft (up zs : List Str) : (A0j.filter fun z => up.contains z || (Y7 zs).contains z) = Y7 (up ++ zs) := by
 unfold Y7
 refine List.filter_congr fun z hz => ?_
 rw [Bool.eq_iff_iff]
 simp [List.mem_filter, hz]
theorem J6m {tr zs : List Str} (h : A2d tr) : ((Y7 zs).filter fun z => tr.contains z).head? = hit tr zs := by
 obtain ⟨p, rfl⟩ := h
 unfold hit Y7
 rw [<- List.head?_filter, List.filter_filter, List.filter_filter]
 congr 1
 refine List.filter_congr fun z hz => ?_
 rw [Bool.eq_iff_iff]
 simp [List.mem_filter, hz]
 exact And.comm
theorem Z8g (z : Str) (zs : List Str) : PyData.eqv (rdS (z :: zs)) (rdS []) = false := by
 simp [rdS, PyData.eqv, PyData.eqvAll]
theorem V2b {K : Frag} {H : Hp} {σ σf : L2.St} {a : Addr} {zs : List Str} {f : Str -> Bool} {tc : TT} {te : TE} {Q : VK} {i : Nat} (hi : σ[i]? = some (some (.ref a))) (hl : SqL K H a (zs.map V.str)) (hz : zs.length <= 100)
   (ht : ∀ (z : Str) (H' : Hp) (Qb : Bool -> Hp -> Prop), B7 H H' -> Qb (f z) H' -> tc (some (.str z) :: σf) H' Qb) (he : ∀ (z : Str) (H' : Hp) (Qv : VK), Qv (.str z) H' -> te (some (.str z) :: σf) H' Qv)
   (k : ∀ D H', B7 H H' -> H D = none -> H' D = some (.lst ((zs.filter f).map V.str)) -> Q (.ref D) H') {js : List Nat} (hj : A5d js σ = σf) : B0r 1 js (U8x K (tVar i)) (D6u 0) tc te σ H Q :=
 ⟨.ref a, hi, V8u (tc := tc) (te := te) (Q := Q) (js := js) (σ := σ) hl hz ht he k hj⟩
def V8v (CN CC CT c : Addr) (r : Int) (y : Wy) (l m : Int) (b : Addr) (up tr zs : List Str) (x : Nm) (spd : Hp -> VK -> XK -> Prop) (H' : Hp) : Prop := ∀ (Qd : VK) (Ed : XK),
 (∀ n a' H1, hit tr zs = none -> Exc c H' H1 -> U4 CC H1 c r y l m a' b ((Y7 (up ++ zs)).map V.str) (tr.map V.str) -> V4 CN H1 n x -> Qd (.ref n) H1) ->
 (∀ sg d' a' H1, hit tr zs = some sg -> Exc c H' H1 -> U4 CC H1 c r y l m a' b ((Y7 (up ++ zs)).map V.str) (tr.map V.str) -> H1 d' = some (.xd [("signal", .str sg)]) -> Ed (.ref CT) (some d') H1) -> spd H' Qd Ed
def B9u (P : Program) (w : World) (K : Frag) (mg : Str -> Option Value) (base : Heap) (k : Nat) (CN CC CT : Addr) : Sp := fun vs H Q _ => ∃ c d g q dt dl a b u t r y l m, ∃ (up tr zs : List Str) (x : Nm) (J : Hp -> Prop) (spd : Hp -> VK -> XK -> Prop), vs = [.ref c, .ref d, .ref g, .ref q] /\
 U4 CC H c r y l m a b (up.map V.str) (tr.map V.str) /\ V7 H d u t r y l m up tr /\ A2d up /\ A2d tr /\ H q = some (.tup [.ref dt, .ref dl]) /\ H dt = some (.tup (Nm.vs x)) /\ H dl = some (.lst (zs.map V.str)) /\ zs.length <= 100 /\ A0r (A5g x.k.str x.s x.f x.p) /\ C0k P w K mg base k g J spd /\
 (∀ H', Exc d H H' -> J H') /\ (∀ H', Exc d H H' -> U4 CC H' c r y l m a b (up.map V.str) (tr.map V.str) -> V8v CN CC CT c r y l m b up tr zs x spd H') /\
 ∀ a' u' H', A6b c d H H' -> U4 CC H' c r y l m a' b ((Y7 (up ++ zs)).map V.str) (tr.map V.str) -> V7 H' d u' t r y l m (Y7 (up ++ zs)) tr -> Q (.bl true) H'
theorem scLStands : B9 ["_law_context_here", "_law_own_here", "_law_deed", "_law_due_here", "_law_signals", "_law_caught", "_law_wanted", "_law_found"] Q35 (A1 A4h) := scK
theorem J7j {k : Nat} {f f1 CN CC CT aS : Addr} {fd fd1 : FuncData} (D : Def K mg "_law_stands" Q35 A4h f fd) (D_l_tried : Def K mg "_law_tried" ["_law_deed"] A7h f1 fd1) (G_l_tried : sI P w K mg base (k + 1) f1 fd1 ["_law_deed"] (J1u P w K mg base k CN CT))
   (C : C6c K mg CC) (MF : Has P w K mg base CC "flags" 1 ["self"] (B6t CC)) (SG : Z9m K mg aS) (O : Own mg) : B1k P w K mg base (CX1 P w) (k + 2) f fd Q35 (B9u P w K mg base k CN CC CT) := by
 refine D.F.okEG scLStands (fun vs H Q E h => ?_) (fun X cdv A outer s H vs Q E hX HG hr hx h => ?_)
 . obtain ⟨c, d, g, q, dt, dl, a, b, u, t, r, y, l, m, up, tr, zs, x, J, spd, rfl, _⟩ := h
   rfl
 subst hX
 obtain ⟨c, d, g, q, dt, dl, a, b, u, t, r, y, l, m, up, tr, zs, x, J, spd, rfl, hc, ow, su, st, eq, et, el, lz, ok, DO, hJ, hD, k⟩ := h
 obtain ⟨ff, fdf, mf, gf, bf⟩ := MF
 have HU := Nat.lt_of_le_of_lt (Nat.add_le_add_left (by decide : 1 <= 64) _) hr.units
 refine ⟨_, (A7 (B4 (D0 (i := 4) scLStands.nd rfl (Or.inr rfl) (C7t (N := ["_law_name"]) (F := ["_law_due_here"]) (js := [3]) (D8.of1 ⟨rfl, by decide +kernel, by decide +kernel, by decide +kernel, by decide +kernel⟩ (by rfl) (by rfl) ⟨_, by rfl⟩ (by rfl) (by rfl)) (.inl hr.hd) (D9s (V9c SG.g)) rfl (fun C s₀ H₀ ex pn h => Y3 (i := 0) (by decide +kernel : (["_law_name", "_law_due_here"] : List Str).Nodup) rfl (Or.inl rfl)) (fun C s₀ H₀ ex pn h => (C6 (A4p (K := K) rfl) (pv 0) (J1 (Z7z (K := K) rfl) (pv 1) A3 (fun _ _ => rfl)) (by rfl))) (fun C s₀ H₀ ex pn h => (pv 0))))) (A7 (B4 (A7j HU (pv 1) B0 (C7t (N := ["_law_name"]) (F := ["_law_signals", "_law_own_here"]) (js := [4, 1]) (D8.of2 ⟨rfl, by decide +kernel, by decide +kernel, by decide +kernel, by decide +kernel⟩ (by rfl) (by rfl) ⟨_, by rfl⟩ (by rfl) (by rfl) (by rfl) ⟨_, by rfl⟩ (by rfl) (by rfl)) (.inl hr.hd) (D9s (V9c SG.g)) rfl (fun C s₀ H₀ ex pn h => Y3 (i := 0) (by decide +kernel : (["_law_name", "_law_signals", "_law_own_here"] : List Str).Nodup) rfl (Or.inl rfl)) (fun C s₀ H₀ ex pn h => (PW.pt (C5a (C6 (A4p (K := K) rfl) (pv 0) (U8 HU (pv 2) B0 (fun _ _ => rfl)) (by rfl)) (B0t (C6 (A4p (K := K) rfl) (pv 0) (pv 1) (by rfl)))))) (fun C s₀ H₀ ex pn h => (pv 0))) (by rfl))) (A7 (B4 (Y0p (i := 5) (N := ["_law_name"]) (F := Q26) (js := [1]) (D8.of1 ⟨rfl, by decide +kernel, by decide +kernel, by decide +kernel, by decide +kernel⟩ (by rfl) (by rfl) ⟨_, by rfl⟩ (by rfl) (by rfl)) (.inl hr.hd) (J1d (pv 4)) rfl (fun C s₀ H₀ ex pn h => Y3 (i := 0) (by decide +kernel : (["_law_name", "_law_own_here"] : List Str).Nodup) rfl (Or.inl rfl)) (fun C s₀ H₀ ex pn h => (C6 (A4p (K := K) rfl) (pv 0) (U8 HU (pv 1) B0 (fun _ _ => rfl)) (by rfl))) (fun C s₀ H₀ ex pn h => (pv 0)) scLStands.nd rfl (Or.inl rfl))) (A7 (B4 (D0 (i := 6) scLStands.nd rfl (Or.inl rfl) (A0f (C6 (D9e hr.units) (pv 5) (U7 A6) (C5 _)) (J1 G9 (pv 3) A3 (fun _ _ => rfl)) (U1 (A0 B0 (A0 (J1 A3p (pv 5) A3 (fun _ _ => rfl)) A6)))))) (A7 (B4 (D0 (i := 7) scLStands.nd rfl (Or.inl rfl) (D4 (hj := Nat.le_refl _) D_l_tried G_l_tried hr hx (A0 (pv 2) A6)))) (A9 (B8 (A4n (D9 (D9e hr.units) (pv 7) (pv 6) (C5 _)) (A4n (D9 D6 (V5 (D7h HG hr.units) (by rfl) O.str_ boot_str (A0 (pv 7) A6)) (V5 (D7h HG hr.units) (by rfl) O.str_ boot_str (A0 (pv 6) A6)) (C5 _)) (A2a (D9 (D9e hr.units) (A7n (hj := Nat.succ_le_succ (Nat.zero_le _)) (pv 0) C.cl mf gf hr bf .nil hx) (U8 HU (pv 1) B0 (fun _ _ => rfl)) (C5 _)))))))))))), ?_⟩
 have z0 : 0 <= sizeLine := C9 (by decide)
 have z2 : 2 <= sizeLine := C9 (by decide)
 obtain ⟨dx, ec⟩ := hc.ins
 have ncd : c ≠ d := V8 ec ow.d (by intro z; cases z)
 have nad : a ≠ d := V8 hc.ha ow.d (by intro z; cases z)
 have nbd : b ≠ d := V8 hc.hb ow.d (by intro z; cases z)
 have nud : u ≠ d := V8 ow.u ow.d (by intro z; cases z)
 have ntd : t ≠ d := V8 ow.t ow.d (by intro z; cases z)
 have nqd : q ≠ d := V8 eq ow.d (by intro z; cases z)
 have nTd : dt ≠ d := V8 et ow.d (by intro z; cases z)
 have nqc : q ≠ c := V8 eq ec (by intro z; cases z)
 have nTc : dt ≠ c := V8 et ec (by intro z; cases z)
 have ix0 : atI [V.ref dt, .ref dl] 0 = some (.ref dt) := J9 (j := 0) rfl
 have ix1 : atI [V.ref dt, .ref dl] 1 = some (.ref dl) := J9 (j := 1) rfl
 refine ⟨fun σ' H' => ∃ s1, B7 H H' /\ H s1 = none /\ H' s1 = some (.lst ((Y7 zs).map V.str)) /\ σ' = [sr c, sr d, sr g, sr q, sr s1, none, none, none], ?_, ?_⟩
 . refine C6y (zs := A0j) (f := fun z => zs.contains z) (σf := [sr q]) SG.sq (by decide) (fun z H' Qb sm qq => ?_) (fun z H' Qv qq => ⟨_, rfl, qq⟩) (fun D H' sm nd e => ⟨D, sm, nd, e, rfl⟩) rfl
   refine ⟨_, rfl, _, rfl, q, _, _, _, rfl, rfl, SqT.of (sm _ _ eq), ix1, dl, _, rfl, .inl (SqL.of (sm _ _ el)), rfl, A0b _, _, rfl, ?_⟩
   show Qb (inV (.str z) (zs.map V.str)) H'
   rw [A1c]
   exact qq
 rintro σ' H1 ⟨s1, sm1, n1, e1, rfl⟩
 have ow1 := ow.same sm1
 refine ⟨fun σ' H' => ∃ u', Exc d H H' /\ H' s1 = some (.lst ((Y7 zs).map V.str)) /\ s1 ≠ d /\ u' ≠ d /\ H u' = none /\ V7 H' d u' t r y l m (Y7 (up ++ zs)) tr /\ σ' = [sr c, sr d, sr g, sr q, sr s1, none, none, none], ?_, ?_⟩
 . refine C6y (zs := A0j) (f := fun z => up.contains z || (Y7 zs).contains z) (σf := [sr s1, sr d]) SG.sq (by decide) (fun z H' Qb sm qq => ?_) (fun z H' Qv qq => ⟨_, rfl, qq⟩) (fun D H' sm nd e => ?_) rfl
   . have o2 := ow1.same sm
     refine ⟨_, rfl, _, rfl, d, _, rfl, o2.gUp, u, _, rfl, .inl (SqL.of o2.u), rfl, A0b _, _, rfl, ?_⟩
     rw [A1c]
     cases hz : up.contains z with
     | true => rw [hz] at qq; exact Z2 qq
     | false =>
       rw [hz] at qq
       refine U2 ⟨_, rfl, _, rfl, s1, _, rfl, .inl (SqL.of (sm _ _ e1)), rfl, A0b _, _, rfl, ?_⟩
       rw [A1c]
       exact qq
   . have o2 := ow1.same sm
     rw [A0ft] at e
     refine ⟨_, rfl, d, _, rfl, C8x.k (k := .inr "up") o2.d (Y0 (by show 7 <= 1000; decide)), ?_⟩
     have nDd : D ≠ d := Ne.symm (D5 ow1.d nd)
     have ns1d : s1 ≠ d := V8 e1 ow1.d (by intro z; cases z)
     rw [put8]
     refine ⟨D, fun p o hp np => ?_, by rw [C8 ns1d]; exact sm _ _ e1, ns1d, nDd, sm1.free nd, ⟨A8, by rw [C8 nDd]; exact e, by rw [C8 ntd]; exact o2.t⟩, rfl⟩
     rw [C8 np]
     exact sm _ _ (sm1 _ _ hp)
 rintro σ' H2 ⟨u', x2, e1, n1d, nu'd, nu', ow2, rfl⟩
 refine ⟨fun σ' H' => ∃ s2, B7 H2 H' /\ H' s2 = some (.lst (((Y7 zs).filter fun z => tr.contains z).map V.str)) /\ σ' = [sr c, sr d, sr g, sr q, sr s1, sr s2, none, none], ?_, ?_⟩
 . refine V2b (zs := Y7 zs) (f := fun z => tr.contains z) (σf := [sr d]) rfl (SqL.of e1) (Nat.le_trans (List.length_filter_le _ _) (by decide)) (fun z H' Qb sm qq => ?_) (fun z H' Qv qq => ⟨_, rfl, qq⟩) (fun D H' sm nd e => ⟨D, sm, e, rfl⟩) rfl
   have o2 := ow2.same sm
   refine ⟨_, rfl, _, rfl, d, _, rfl, o2.gTr, t, _, rfl, .inl (SqL.of o2.t), rfl, A0b _, _, rfl, ?_⟩
   rw [A1c]
   exact qq
 rintro σ' H3 ⟨s2, sm3, e2, rfl⟩
 have x3 : Exc d H H3 := x2.trans (.of sm3)
 have hh := J6m (zs := zs) st
 have hm : ∀ z ∈ (Y7 zs).filter fun z => tr.contains z, z ∈ A0j := fun z hz => (List.mem_filter.mp (List.mem_filter.mp hz).1).1
 have okC : OkL ((Y7 zs).filter fun z => tr.contains z) := ⟨Nat.le_trans (List.length_filter_le _ _) (Nat.le_trans (List.length_filter_le _ _) (by decide)), fun z hz => U9y z (hm z hz)⟩
 refine ⟨fun σ' H' => ∃ wd, B7 H3 H' /\ ((hit tr zs = none /\ wd = dt) \/ ∃ sg, hit tr zs = some sg /\ sg ∈ A0j /\ H' wd = some (.tup [.str "trapped", .str sg])) /\ σ' = [sr c, sr d, sr g, sr q, sr s1, sr s2, sr wd, none], ?_, ?_⟩
 . generalize (Y7 zs).filter (fun z => tr.contains z) = cs at e2 hh hm okC
   refine ⟨_, rfl, z0, fun p np => ?_⟩
   have up := B7.upd (o := .lst []) np
   refine ⟨rdS cs, rdS [], C0f (up _ _ e2), C0f A8, shS okC, shS ⟨by decide, by simp⟩, PyData.eqv (rdS cs) (rdS []), rfl, ?_⟩
   cases cs with
   | nil =>
     rw [eqSs]
     refine Z2 ⟨_, rfl, q, _, _, _, rfl, rfl, SqT.of (up _ _ (sm3 _ _ (x2 _ _ eq nqd))), ix0, ?_⟩
     exact ⟨dt, up, .inl ⟨hh.symm, rfl⟩, rfl⟩
   | cons z cs =>
     rw [Z8g]
     refine U2 ⟨_, rfl, s2, _, _, _, rfl, rfl, SqL.of (up _ _ e2), J9 (j := 0) rfl, z2, fun v nv => ?_⟩
     exact ⟨v, up.trans (B7.upd nv), .inr ⟨z, hh.symm, hm z List.mem_cons_self, A8⟩, rfl⟩
 rintro σ' H4 ⟨wd, sm4, hw, rfl⟩
 have x4 : Exc d H H4 := x3.trans (.of sm4)
 have c4 := hc.exc x4 ncd nad nbd
 have ow4 := (ow2.same sm3).same sm4
 have et4 := x4 _ _ et nTd
 obtain ⟨dx4, ec4⟩ := c4.ins
 have ndc : d ≠ c := Ne.symm ncd
 have nuc : u' ≠ c := V8 ow4.u ec4 (by intro z; cases z)
 have ntc : t ≠ c := V8 ow4.t ec4 (by intro z; cases z)
 refine ⟨fun σ' H' => ∃ fo a' dd, A6b c d H H' /\ U4 CC H' c r y l m a' b ((Y7 (up ++ zs)).map V.str) (tr.map V.str) /\ V7 H' d u' t r y l m (Y7 (up ++ zs)) tr /\ RdD K H' (.ref fo) dd /\ RdD K H' (.ref wd) dd /\ RdR H' (.ref fo) dd /\ RdR H' (.ref wd) dd /\ SeqAt.shaped dd = true /\ PyData.eqv dd dd = true /\ A0r dd /\
   σ' = [sr c, sr d, sr g, sr q, sr s1, sr s2, sr wd, sr fo], ?_, ?_⟩
 . refine ⟨_, rfl, g, J, spd, rfl, DO, hJ H4 x4, fun Qd Ed hQ hE => hD H4 x4 c4 Qd Ed (fun n a' H5 hn x5 c5 num => hQ _ _ ⟨n, x, rfl, num, fun p np => ?_⟩) (fun sg d' a' H5 hs x5 c5 ed => hE _ _ _ ⟨d', sg, rfl, rfl, ed, fun p H6 sm6 np e6 => ?_⟩)⟩
   . have hwd : wd = dt := by
       rcases hw with ⟨_, h⟩ | ⟨sg, h, _⟩
       . exact h
       . rw [hn] at h; cases h
     subst hwd
     have u6 := B7.upd (o := .tup (Nm.vs x)) np
     have et6 := u6 _ _ (x5 _ _ et4 nTc)
     refine ⟨p, a', A5g x.k.str x.s x.f x.p, (A6b.r x4).trans ((A6b.l x5).trans (.s u6)), c5.same u6, (ow4.exc x5 ndc nuc ntc).same u6, rdD A8, rdD et6, .tup A8 (.cons (.str _) (.cons (.int _) (.cons (.int _) (.cons (.int _) .nil)))), .tup et6 (.cons (.str _) (.cons (.int _) (.cons (.int _) (.cons (.int _) .nil)))), shD _ _ _ (okK _), eqD _ _ _ _, ok, rfl⟩
   . obtain ⟨sg', h1, h2, h3⟩ : ∃ sg, hit tr zs = some sg /\ sg ∈ A0j /\ H4 wd = some (.tup [.str "trapped", .str sg]) := by
       rcases hw with ⟨h, _⟩ | h
       . rw [hs] at h; cases h
       . exact h
     rw [hs] at h1
     cases h1
     have nwc : wd ≠ c := V8 h3 ec4 (by intro z; cases z)
     have e7 := sm6 _ _ (x5 _ _ h3 nwc)
     have shT : SeqAt.shaped (.tuple [.str "trapped", .str sg]) = true := by
       unfold SeqAt.shaped
       simp [PyData.canLay0, PyData.canLayAll0, PyData.depth, PyData.depthAll, U9y sg h2, (by decide +kernel : PyData.strOk "trapped" = true)]
     refine ⟨p, a', .tuple [.str "trapped", .str sg], (A6b.r x4).trans ((A6b.l x5).trans (.s sm6)), c5.same sm6, (ow4.exc x5 ndc nuc ntc).same sm6, .tup (SqT.of e6) (.cons (.str _) (.cons (.str _) .nil)), .tup (SqT.of e7) (.cons (.str _) (.cons (.str _) .nil)), .tup e6 (.cons (.str _) (.cons (.str _) .nil)), .tup e7 (.cons (.str _) (.cons (.str _) .nil)), shT, ?_, A0es h2, rfl⟩
     simp [PyData.eqv, PyData.eqvAll]
 rintro σ' H5 ⟨fo, a', dd, x5, c5, ow5, r1, r2, q1, q2, sh, ee, so, rfl⟩
 refine ⟨_, rfl, _, rfl, dd, dd, r1, r2, sh, sh, true, (by show V.bl (PyData.eqv dd dd) = _; rw [ee]), Z2 ?_⟩
 refine ⟨_, rfl, fo, dd, rfl, q1, so, _, rfl, wd, dd, rfl, q2, so, rfl, _, rfl, A2w rfl ?_⟩
 obtain ⟨dx5, ec5⟩ := c5.ins
 refine ⟨_, rfl, c, dx5, _, rfl, ec5, D8x _ _ _ _ _ _, c, r, y, l, m, a', b, _, _, rfl, c5, fun p np => ?_⟩
 have u6 := B7.upd (o := .lst ((Y7 (up ++ zs)).map V.str)) np
 have ow6 := ow5.same u6
 have okU : OkL (Y7 (up ++ zs)) := (V8p _).ok
 refine ⟨_, rfl, d, _, rfl, ow6.gUp, rdS (Y7 (up ++ zs)), rdS (Y7 (up ++ zs)), C0f A8, C0f ow6.u, shS okU, shS okU, ?_⟩
 show Q (.bl (PyData.eqv (rdS (Y7 (up ++ zs))) (rdS (Y7 (up ++ zs))))) _
 rw [eqSs]
 exact k a' u' _ (x5.trans (.s u6)) (c5.same u6) ow6
theorem A0en (n : Nat) : ([n + 1 + 1 + 1, n + 1 + 1, n + 1] : List Nat).Nodup := by
 refine List.nodup_cons.mpr ⟨fun h => ?_, List.nodup_cons.mpr ⟨fun h => ?_, List.nodup_cons.mpr ⟨fun h => ?_, List.nodup_nil⟩⟩⟩
 . simp only [List.mem_cons, List.not_mem_nil, or_false] at h
   omega
 . simp only [List.mem_cons, List.not_mem_nil, or_false] at h
   omega
 simp only [List.not_mem_nil] at h
theorem A0ez (n : Nat) : ([n + 1 + 1, n + 1] : List Nat).Nodup := (List.nodup_cons.mp (A0en n)).2
structure C6b (CN CC CT P0 : Addr) (pos : Pos) (qual : Str) (K : Frag) (sc : Addr) (ns : List Int) (d t c b : Addr) (r : Int) (y : Wy) (l m : Int) (up tr : List Str) (H : Hp) (a u : Addr) : Prop where
 own : V7 H d u t r y l m up tr
 ctx : U4 CC H c r y l m a b (up.map V.str) (tr.map V.str)
 tab : A6r P0 pos qual H
 scr : SqL K H sc (ns.map V.int)
theorem V7.keep {H H' : Hp} {d u t : Addr} {r l m : Int} {y : Wy} {up tr : List Str} (h : V7 H d u t r y l m up tr) (s : J0f H H') : V7 H' d u t r y l m up tr := ⟨s _ _ (fun _ z => by cases z) h.d, s _ _ (fun _ z => by cases z) h.u, s _ _ (fun _ z => by cases z) h.t⟩
theorem U4.keep {CC : Addr} {H H' : Hp} {c : Addr} {r : Int} {y : Wy} {l m : Int} {a b : Addr} {xs ys : List V} (h : U4 CC H c r y l m a b xs ys) (s : J0f H H') : U4 CC H' c r y l m a b xs ys := by
 obtain ⟨⟨dx, e⟩, ha, hb⟩ := h
 exact ⟨⟨dx, s _ _ (fun _ z => by cases z) e⟩, s _ _ (fun _ z => by cases z) ha, s _ _ (fun _ z => by cases z) hb⟩
theorem V4.keep {CN : Addr} {H H' : Hp} {n : Addr} {x : Nm} (h : V4 CN H n x) (s : J0f H H') : V4 CN H' n x := by
 obtain ⟨dx, e⟩ := h
 exact ⟨dx, s _ _ (fun _ z => by cases z) e⟩
theorem U4.hide {CC : Addr} {H : Hp} {cs : List Addr} {c : Addr} {r : Int} {y : Wy} {l m : Int} {a b : Addr} {xs ys : List V} (h : U4 CC H c r y l m a b xs ys) (A : Z6 cs H) : U4 CC (Y2 cs H) c r y l m a b xs ys := by
 obtain ⟨⟨dx, e⟩, ha, hb⟩ := h
 exact ⟨⟨dx, A.hide e (fun _ z => by cases z)⟩, A.hide ha (fun _ z => by cases z), A.hide hb (fun _ z => by cases z)⟩
theorem V7.hide {H : Hp} {cs : List Addr} {d u t : Addr} {r l m : Int} {y : Wy} {up tr : List Str} (h : V7 H d u t r y l m up tr) (A : Z6 cs H) : V7 (Y2 cs H) d u t r y l m up tr := ⟨A.hide h.d (fun _ z => by cases z), A.hide h.u (fun _ z => by cases z), A.hide h.t (fun _ z => by cases z)⟩
theorem V4.hide {CN : Addr} {H : Hp} {cs : List Addr} {n : Addr} {x : Nm} (h : V4 CN H n x) (A : Z6 cs H) : V4 CN (Y2 cs H) n x := by
 obtain ⟨dx, e⟩ := h
 exact ⟨dx, A.hide e (fun _ z => by cases z)⟩
theorem V4.back {CN : Addr} {H H' : Hp} {cs : List Addr} {n : Addr} {x : Nm} (h : V4 CN H' n x) (hn : ∀ c ∈ cs, H' c = none) : V4 CN (A0k cs H H') n x := by
 obtain ⟨dx, e⟩ := h
 exact ⟨dx, by rw [Y4 fun z => by rw [hn n z] at e; cases e]; exact e⟩
section
variable {P : Program} {w : World} {K : Frag} {mg : Str -> Option Value} {base : Heap}
variable {CN CC CT P0 : Addr} {pos : Pos} {qual : Str} {sc : Addr} {ns : List Int} {d t c b : Addr} {r : Int} {y : Wy} {l m : Int} {up tr : List Str} {H : Hp} {a u : Addr}
theorem C6b.same {H' : Hp} (h : C6b CN CC CT P0 pos qual K sc ns d t c b r y l m up tr H a u) (s : B7 H H') : C6b CN CC CT P0 pos qual K sc ns d t c b r y l m up tr H' a u := ⟨h.own.same s, h.ctx.same s, h.tab.same s, s.seq h.scr⟩
theorem Z8c {k : Nat} {params : Arguments} {body : Expr} {scope : Scope} {cl : List (Str × Addr)} {vs : List V} {spd : Hp -> VK -> XK -> Prop} {H3 H4 : Hp} {f q dt dl : Addr} {zs : List Str} {x : Nm} {Q : VK} {E : XK}
   (h : C6b CN CC CT P0 pos qual K sc ns d t c b r y l m up tr H a u) (su : A2d up) (st : A2d tr) (sT : V0b P0 H H3) (tab : A6r P0 pos qual H3) (la : C8y H3 f qual params body scope cl)
   (hn : ∀ c ∈ cl.map (·.2), H3 c = none) (ho : ∀ b, b ∉ cl.map (·.2) -> H4 b = H3 b) (A4 : Z6 (cl.map (·.2)) H4) (kn : ∀ (i : Nat) (x : Str) (c : Addr), cl[i]? = some (x, c) -> ∃ v, vs[i]? = some v /\ D7r H4 c v)
   (eq : H q = some (.tup [.ref dt, .ref dl])) (et : H dt = some (.tup x.vs)) (el : H dl = some (.lst (zs.map V.str))) (lz : zs.length <= 100) (ok : A0r (A5g x.k.str x.s x.f x.p))
   (DO : C0k P w K mg base k f (LamJ f qual params body scope cl vs) spd)
   (hD : ∀ H', J0f H H4 -> Exc d H4 H' -> U4 CC H' c r y l m a b (up.map V.str) (tr.map V.str) -> V8v CN CC CT c r y l m b up tr zs x spd H')
   (fin : ∀ a' u' H5, A6b c d H3 (Y2 (cl.map (·.2)) H5) -> C6b CN CC CT P0 pos qual K sc ns d t c b r y l m (Y7 (up ++ zs)) tr (Y2 (cl.map (·.2)) H5) a' u' -> Q (.bl true) H5) :
   B9u P w K mg base k CN CC CT [.ref c, .ref d, .ref f, .ref q] H4 Q E := by
 obtain ⟨ps, eP, _⟩ := h.tab
 have k3 : J0f H H3 := sT.keep eP
 have k34 : ∀ b o, H3 b = some o -> H4 b = some o := fun b o e => by
   rw [ho b fun z => by rw [hn b z] at e; cases e]
   exact e
 have k4 : J0f H H4 := fun b o n e => k34 b o (k3 b o n e)
 obtain ⟨dx, ec⟩ := (h.ctx.keep k4).ins
 have ed := (h.own.keep k4).d
 refine ⟨c, d, f, q, dt, dl, a, b, u, t, r, y, l, m, up, tr, zs, x, _, spd, rfl, h.ctx.keep k4, h.own.keep k4, su, st, k4 _ _ (fun _ z => by cases z) eq, k4 _ _ (fun _ z => by cases z) et, k4 _ _ (fun _ z => by cases z) el, lz, ok, DO, fun H' x' => ?_, fun H' x' => hD H' k4 x', fun a' u' H5 x5 c5 o5 => ?_⟩
 . have nd : ∀ b o, H4 b = some (.frz o (.own b)) -> H' b = some (.frz o (.own b)) := fun b o e => x' _ _ e (V8 e ed (by intro z; cases z))
   refine ⟨(la.kept fun b o e => k34 b _ e).kept nd, fun i x c' hi => ?_⟩
   obtain ⟨v, hv, hk⟩ := kn i x c' hi
   exact ⟨v, hv, hk.kept nd⟩
 have A5 : Z6 (cl.map (·.2)) H5 := fun c' hc' => by
   obtain ⟨o, e⟩ := A4 c' hc'
   exact ⟨o, x5 _ _ e (V8 e ec (by intro z; cases z)) (V8 e ed (by intro z; cases z))⟩
 have x36 : A6b c d H3 (Y2 (cl.map (·.2)) H5) := fun b o e n1 n2 => by
   rw [Z9 fun z => by rw [hn b z] at e; cases e]
   exact x5 b o (k34 b o e) n1 n2
 have e3c := (h.ctx.keep k3).ins
 have e3d := (h.own.keep k3).d
 obtain ⟨dx3, e3c⟩ := e3c
 refine fin a' u' _ x36 ⟨o5.hide A5, c5.hide A5, tab.at fun b o e hb => ?_, (h.scr.kept fun o e _ => k3 _ _ ?_ e).kept fun o e hb => ?_⟩
 . rcases hb with rfl | ⟨oc, rfl⟩
   . obtain ⟨ps3, z, _⟩ := tab
     rw [z] at e
     cases e
     exact x36 _ _ z (V8 z e3c (by intro z; cases z)) (V8 z e3d (by intro z; cases z))
   . exact x36 _ _ e (V8 e e3c (by intro z; cases z)) (V8 e e3d (by intro z; cases z))
 . rename_i hb
   rcases hb with rfl | ⟨oc, rfl⟩ <;> exact fun _ z => by cases z
 rcases hb with rfl | ⟨oc, rfl⟩
 . exact x36 _ _ e (V8 e e3c (by intro z; cases z)) (V8 e e3d (by intro z; cases z))
 exact x36 _ _ e (V8 e e3c (by intro z; cases z)) (V8 e e3d (by intro z; cases z))
end
theorem C6j (n : Nat) (h : 1 <= n) : ∃ L : Nat, 10 ^ L <= n /\ n < 10 ^ (L + 1) := by
 induction n using Nat.strongRecOn with
 | ind n ih =>
   by_cases h10 : n < 10
   . exact ⟨0, by simpa using h, by simpa using h10⟩
   . obtain ⟨L, a, b⟩ := ih (n / 10) (by omega) (by omega)
     refine ⟨L + 1, ?_, ?_⟩
     . rw [Nat.pow_succ]; omega
     . rw [Nat.pow_succ]; omega
theorem D8y {n j : Nat} (h1 : n < 10 ^ (j + 1)) (h2 : 10 ^ j <= n) : B9r (n : Int) = (j : Int) + 1 := by
 unfold B9r
 have e : (Str.ofString (toString (n : Int))).length = (Nat.toDigits 10 n).length := by
   have := congrArg List.length (KIN.signs_num n)
   rw [List.length_map] at this
   rw [<- this]; rfl
 rw [e]
 have a : (Nat.toDigits 10 n).length <= j + 1 := digits10_le (by omega) h1
 have b : j + 1 <= (Nat.toDigits 10 n).length := digits10_ge h2
 omega
theorem U8r {c A B : Prop} [Decidable c] (h : ¬ c) (a : A) : if (!decide c) = true then A else B := by rw [decide_eq_false h]; exact Z2 a
abbrev B6q : Stmt := (top 73)
def Wy.code : Wy -> Nat
 | .down => 0
 | .up => 1
 | .floor => 2
 | .ceiling => 3
 | .halfUp => 4
 | .halfDown => 5
 | .halfEven => 6
 | .fiveUp => 7
theorem nW {y z : Wy} (h : y.code ≠ z.code) : ¬ V.str y.name = V.str z.name := fun q => h (by rw [Wy.inj (V.str.inj q)])
theorem G0h {a b : Int} (h : 0 < a) (h2 : b < 2 * a) : U6 a b = 3 := by
 unfold U6
 rw [decide_eq_true h, decide_eq_true (show b <= 2 * a by omega), decide_eq_true h2]
 rfl
theorem D8w {a b : Int} (h : 0 < a) (h2 : 2 * a = b) : U6 a b = 2 := by
 unfold U6
 rw [decide_eq_true h, decide_eq_true (show b <= 2 * a by omega), decide_eq_false (show ¬ b < 2 * a by omega)]
 rfl
theorem D9v {a b : Int} (h : 0 < a) (h2 : 2 * a < b) : U6 a b = 1 := by
 unfold U6
 rw [decide_eq_true h, decide_eq_false (show ¬ b <= 2 * a by omega), decide_eq_false (show ¬ b < 2 * a by omega)]
 rfl
theorem V9a {a b : Int} (h : a = 0) (hb : 0 < b) : U6 a b = 0 := by
 subst h
 unfold U6
 rw [decide_eq_false (show ¬ (0 : Int) < 0 by omega), decide_eq_false (show ¬ b <= 2 * 0 by omega), decide_eq_false (show ¬ b < 2 * 0 by omega)]
 rfl
theorem Z7h {l : Int} (h0 : 0 <= l) (h1 : l <= 9) : inV (.int l) [.int 0, .int 5] = decide (V.int (l % 5) = V.int 0) := by
 rcases (by omega : l = 0 \/ l = 1 \/ l = 2 \/ l = 3 \/ l = 4 \/ l = 5 \/ l = 6 \/ l = 7 \/ l = 8 \/ l = 9) with rfl | rfl | rfl | rfl | rfl | rfl | rfl | rfl | rfl | rfl <;> decide +kernel
def U9k : Sp := fun vs H Q _ => ∃ (y : Wy) (s l lf lo : Int), vs = [.str y.name, .int s, .int l, .int lf, .int lo] /\ 0 <= l /\ l <= 9 /\ 0 < lf /\ ∀ H', B7 H H' -> Q (.bl (y.goes s l (U6 lf lo))) H'
theorem Z7p : B9 Q27 Q27 (A1 B6q) := scK
theorem Y0t {f : Addr} {fd : FuncData} (D : Def K mg "_law_goes_up" Q27 B6q f fd) : sI P w K mg base 1 f fd Q27 U9k := by
 refine C4.up (D.F.ok Z7p (fun vs H Q E h => ?_) (fun cdv A outer s H vs Q E hr h => ?_))
 . obtain ⟨y, z, l, a, b, rfl, _⟩ := h
   rfl
 obtain ⟨y, z, l, a, b, rfl, l0, l9, a0, k⟩ := h
 refine ⟨_, (A7 (G4 (C6 A4c (pv 0) (U1 (A0 B0 (A0 B0 (A0 B0 A6)))) (by rfl)) (A7 (G4 (C6 C5f (B3 U9 A3 (pv 3)) (pv 4) (C5 _)) (A9 (B8 (D9 B5u (B3 U9 A3 (pv 3)) (pv 4) (C5 _)))) D3) (A9 (B8 (J1j (D9 D6 (pv 0) B0 (C5 _)) (A2a (A4n (D9 D6 (pv 0) B0 (C5 _)) (A2a (D9 D6 (B3 G2 (pv 2) A3) A3 (C5 _))))))))) D3) (A7 (G4 (C6 D6 (pv 0) B0 (C5 _)) (A9 (B8 (D9 D6 (B3 G2 (pv 2) A3) A3 (C5 _)))) D3) (A9 (B8 (J1j (D9 D6 (pv 0) B0 (C5 _)) (J1j (A4n (D9 D6 (pv 0) B0 (C5 _)) (A2a (D9 D6 (pv 1) A3 (C5 _)))) (A2a (A4n (D9 D6 (pv 0) B0 (C5 _)) (A2a (D9 D6 (pv 1) A3 (C5 _))))))))))), ?_⟩
 have z3 : 3 <= sizeLine := C9 (by decide)
 have mC : ∀ z n : Int, -(2 ^ 64) < n -> n < 2 ^ 64 -> IntMulOk n z := fun z n a b => B5n.ok (.inl ⟨a, b⟩)
 refine ⟨_, rfl, z3, fun p np => ⟨p, _, rfl, .inr (SqT.of A8), rfl, rfl, _, rfl, ?_⟩⟩
 have u := B7.upd (o := .tup [.str "half up", .str "half down", .str "half even"]) np
 have k := k _ u
 generalize upd H p (.tup [.str "half up", .str "half down", .str "half even"]) = H1 at u k
 have no : ∀ y : Wy, y.code < 4 \/ y.code = 7 -> inV (.str y.name) [.str "half up", .str "half down", .str "half even"] = false := fun y => by cases y <;> decide +kernel
 have yes : ∀ y : Wy, 4 <= y.code -> y.code <= 6 -> inV (.str y.name) [.str "half up", .str "half down", .str "half even"] = true := fun y => by cases y <;> decide +kernel
 show if (inV (.str y.name) [.str "half up", .str "half down", .str "half even"]) = true then _ else _
 cases y with
 | down =>
   rw [no .down (by decide)]
   exact U2 ⟨_, rfl, rfl, _, rfl, Z3 (nW (y := .down) (z := .fiveUp) (by decide)) ⟨_, rfl, rfl, _, rfl, Z3 (nW (y := .down) (z := .up) (by decide)) ⟨_, rfl, rfl, _, rfl, Z3 (nW (y := .down) (z := .floor) (by decide)) ⟨_, rfl, U2 ⟨_, rfl, rfl, _, rfl, Z3 (nW (y := .down) (z := .ceiling) (by decide)) k⟩⟩⟩⟩⟩
 | up =>
   rw [no .up (by decide)]
   exact U2 ⟨_, rfl, rfl, _, rfl, Z3 (nW (y := .up) (z := .fiveUp) (by decide)) ⟨_, rfl, rfl, _, rfl, A2w rfl k⟩⟩
 | floor =>
   rw [no .floor (by decide)]
   have kT : V.int z = V.int 1 -> Q (.bl true) H1 := fun e => by
     have k : Q (.bl (decide (V.int z = V.int 1))) H1 := k
     rw [decide_eq_true e] at k
     exact k
   have kF : ¬ V.int z = V.int 1 -> Q (.bl false) H1 := fun e => by
     have k : Q (.bl (decide (V.int z = V.int 1))) H1 := k
     rw [decide_eq_false e] at k
     exact k
   exact U2 ⟨_, rfl, rfl, _, rfl, Z3 (nW (y := .floor) (z := .fiveUp) (by decide)) ⟨_, rfl, rfl, _, rfl, Z3 (nW (y := .floor) (z := .up) (by decide)) ⟨_, rfl, rfl, _, rfl, A2w rfl ⟨_, rfl, rfl, _, rfl, J0 (fun e => kT e) fun e => ⟨_, rfl, rfl, _, rfl, Z3 (nW (y := .floor) (z := .ceiling) (by decide)) (kF e)⟩⟩⟩⟩⟩
 | ceiling =>
   rw [no .ceiling (by decide)]
   exact U2 ⟨_, rfl, rfl, _, rfl, Z3 (nW (y := .ceiling) (z := .fiveUp) (by decide)) ⟨_, rfl, rfl, _, rfl, Z3 (nW (y := .ceiling) (z := .up) (by decide)) ⟨_, rfl, rfl, _, rfl, Z3 (nW (y := .ceiling) (z := .floor) (by decide)) ⟨_, rfl, U2 ⟨_, rfl, rfl, _, rfl, A2w rfl ⟨_, rfl, rfl, k⟩⟩⟩⟩⟩⟩
 | fiveUp =>
   rw [no .fiveUp (by decide)]
   have k : Q (.bl (inV (.int l) [.int 0, .int 5])) H1 := k
   rw [Z7h l0 l9] at k
   exact U2 ⟨_, rfl, rfl, _, rfl, A2w rfl ⟨_, rfl, _, _, rfl, rfl, (by decide : (0 : Int) < 5), rfl, k⟩⟩
 | halfUp =>
   rw [yes .halfUp (by decide) (by decide)]
   refine Z2 ⟨_, rfl, _, _, rfl, rfl, mC _ _ (by decide) (by decide), _, rfl, rfl, _, rfl, ?_⟩
   by_cases e : 2 * a = b
   . rw [D8w a0 e] at k
     exact C7w (congrArg V.int e) ⟨_, rfl, rfl, _, rfl, A2w rfl k⟩
   . refine U8r (fun z => e (V.int.inj z)) ⟨_, rfl, _, _, rfl, rfl, mC _ _ (by decide) (by decide), _, rfl, _, _, rfl, rfl, ?_⟩
     show Q (.bl (decide (2 * a > b))) H1
     by_cases h : b < 2 * a
     . rw [G0h a0 h] at k
       rw [decide_eq_true h]
       exact k
     . rw [D9v a0 (by omega)] at k
       rw [decide_eq_false h]
       exact k
 | halfDown =>
   rw [yes .halfDown (by decide) (by decide)]
   refine Z2 ⟨_, rfl, _, _, rfl, rfl, mC _ _ (by decide) (by decide), _, rfl, rfl, _, rfl, ?_⟩
   by_cases e : 2 * a = b
   . rw [D8w a0 e] at k
     exact C7w (congrArg V.int e) ⟨_, rfl, rfl, _, rfl, Z3 (nW (y := .halfDown) (z := .halfUp) (by decide)) ⟨_, rfl, rfl, _, rfl, Z3 (nW (y := .halfDown) (z := .halfEven) (by decide)) k⟩⟩
   . refine U8r (fun z => e (V.int.inj z)) ⟨_, rfl, _, _, rfl, rfl, mC _ _ (by decide) (by decide), _, rfl, _, _, rfl, rfl, ?_⟩
     show Q (.bl (decide (2 * a > b))) H1
     by_cases h : b < 2 * a
     . rw [G0h a0 h] at k
       rw [decide_eq_true h]
       exact k
     . rw [D9v a0 (by omega)] at k
       rw [decide_eq_false h]
       exact k
 | halfEven =>
   rw [yes .halfEven (by decide) (by decide)]
   refine Z2 ⟨_, rfl, _, _, rfl, rfl, mC _ _ (by decide) (by decide), _, rfl, rfl, _, rfl, ?_⟩
   by_cases e : 2 * a = b
   . rw [D8w a0 e] at k
     exact C7w (congrArg V.int e) ⟨_, rfl, rfl, _, rfl, Z3 (nW (y := .halfEven) (z := .halfUp) (by decide)) ⟨_, rfl, rfl, _, rfl, A2w rfl ⟨_, rfl, _, _, rfl, rfl, (by decide : (0 : Int) < 2), rfl, k⟩⟩⟩
   . refine U8r (fun z => e (V.int.inj z)) ⟨_, rfl, _, _, rfl, rfl, mC _ _ (by decide) (by decide), _, rfl, _, _, rfl, rfl, ?_⟩
     show Q (.bl (decide (2 * a > b))) H1
     by_cases h : b < 2 * a
     . rw [G0h a0 h] at k
       rw [decide_eq_true h]
       exact k
     . rw [D9v a0 (by omega)] at k
       rw [decide_eq_false h]
       exact k
abbrev B6k : Stmt := (top 74)
abbrev A7g : Stmt := (top 78)
abbrev A2u : Stmt := (top 75)
abbrev A7p : Stmt := (top 76)
theorem A2r (e : Int) : C7 (Y1 0 e) = C7 e := by
 unfold Y1 C7
 split
 . rfl
 rw [show e.toNat = 0 by omega]; rfl
theorem tn {e : Int} (h0 : 0 <= e) : [V.int e] ++ [] = [V.int (e.toNat : Int)] := by rw [Int.toNat_of_nonneg h0]; rfl
theorem mx (e : Int) : 0 <= Y1 0 e /\ (e <= 600 -> Y1 0 e <= 600) := by
 unfold Y1
 constructor
 . split <;> omega
 intro h; split <;> omega
def SzL (t : Int) : Prop := 1 <= t /\ t < C7 500
theorem SzL.nat {t : Int} (h : SzL t) : ∃ n : Nat, t = (n : Int) /\ 1 <= n /\ n < 10 ^ 500 := by
 obtain ⟨n, rfl⟩ := Int.eq_ofNat_of_zero_le (show 0 <= t by have := h.1; omega)
 exact ⟨n, rfl, Int.ofNat_le.mp h.1, Int.ofNat_lt.mp h.2⟩
theorem SzL.sz {t : Int} (h : SzL t) : Sz t := ⟨h.1, Int.lt_of_lt_of_le h.2 (A7c (by decide))⟩
theorem SzL.log {t : Int} (h : SzL t) : t.natAbs.log2 < 1920 := by
 obtain ⟨n, rfl, _, hn⟩ := h.nat
 have : n < 2 ^ 1670 := Nat.lt_of_lt_of_le (Nat.lt_of_lt_of_le hn (Nat.pow_le_pow_right (by decide) (by decide : 500 <= 3 * 167))) (J0c 167)
 exact Nat.lt_trans (A7u (i := (n : Int)) (k := 1670) (by rw [Int.natAbs_natCast]; exact this) (by decide)) (by decide)
def U8n : Sp := fun vs H Q _ => ∃ t b : Int, vs = [.int t, .int b] /\ SzL t /\ SzL b /\ ∀ L H', A2t t b (0 - L) -> -501 <= L -> L <= 501 -> B7 H H' -> Q (.int L) H'
theorem scLLead : B9 ["_law_top", "_law_bottom", "_law_found"] Q9 (A1 B6k) := scK
theorem Y0z {f f1 : Addr} {fd fd1 : FuncData} (D : Def K mg "_law_lead" Q9 B6k f fd) (D_l_ten : Def K mg "_law_ten" ["_law_count"] B1j f1 fd1) (G_l_ten : sI P w K mg base 1 f1 fd1 ["_law_count"] B9z) (O : Own mg) : sI P w K mg base 2 f fd Q9 U8n := by
 refine D.F.okE scLLead (fun vs H Q E h => ?_) (fun X cdv A outer s H vs Q E hX hr hx h => ?_)
 . obtain ⟨t, b, rfl, _⟩ := h
   rfl
 subst hX
 obtain ⟨t, b, rfl, ht, hb, k⟩ := h
 refine ⟨_, (A7 (B4 (D0 (i := 2) scLLead.nd rfl (Or.inl rfl) (B3 V0 (G5 A1f (by rfl) O.len_ PySem.boot_len (A0 (V5 A0h (by rfl) O.str_ boot_str (A0 (pv 0) A6)) A6)) (G5 A1f (by rfl) O.len_ PySem.boot_len (A0 (V5 A0h (by rfl) O.str_ boot_str (A0 (pv 1) A6)) A6))))) (A7 (B4 (G4 (C6 C7d (B3 U9 (pv 0) (D4 D_l_ten G_l_ten hr hx (A0 (G5 (V9 rfl) (by rfl) O.max_ boot_max (A0 A3 (A0 (B3 V0 A3 (pv 2)) A6))) A6))) (B3 U9 (pv 1) (D4 D_l_ten G_l_ten hr hx (A0 (G5 (V9 rfl) (by rfl) O.max_ boot_max (A0 A3 (A0 (pv 2) A6))) A6))) (C5 _)) (A9 (B4 (D0 (i := 2) scLLead.nd rfl (Or.inl rfl) (B3 V0 (pv 2) A3)))) D3)) (A9 (B8 (pv 2))))), ?_⟩
 obtain ⟨tn', et, t1, t2⟩ := ht.nat
 obtain ⟨bn, eb, b1, b2⟩ := hb.nat
 obtain ⟨L, l1, l2⟩ := C6j tn' t1
 obtain ⟨M, m1, m2⟩ := C6j bn b1
 have ft : B9r t = (L : Int) + 1 := by rw [et]; exact D8y l2 l1
 have fb : B9r b = (M : Int) + 1 := by rw [eb]; exact D8y m2 m1
 have lL : L < 500 := (Nat.pow_lt_pow_iff_right (by decide : 1 < 10)).mp (Nat.lt_of_le_of_lt l1 t2)
 have lM : M < 500 := (Nat.pow_lt_pow_iff_right (by decide : 1 < 10)).mp (Nat.lt_of_le_of_lt m1 b2)
 refine ⟨fun σ' H' => H' = H /\ σ' = [si t, si b, si (B9r t - B9r b)], ?_, ?_⟩
 . exact ⟨_, rfl, _, rfl, ht.log, _, rfl, int_text_fits ht.log, _, rfl, _, rfl, hb.log, _, rfl, int_text_fits hb.log, _, _, rfl, rfl, rfl, rfl⟩
 rintro σ' H1 ⟨rfl, rfl⟩
 refine ⟨fun σ' H' => ∃ L, H' = H1 /\ A2t t b (0 - L) /\ -501 <= L /\ L <= 501 /\ σ' = [si t, si b, si L], ?_, ?_⟩
 . generalize hg : B9r t - B9r b = g
   have g0 : g = (L : Int) - M := by omega
   have c1 := (mx (0 - g)).2 (by omega)
   have c2 := (mx g).2 (by omega)
   have c1' := (mx (0 - g)).1
   have c2' := (mx g).1
   refine ⟨_, rfl, _, rfl, _, _, rfl, rfl, _, _, rfl, _, tn (e := Y1 0 (0 - g)) c1', by omega, _, _, rfl, rfl, B0p ht.sz (s := Y1 0 (0 - g)) (by omega), _, rfl, _, rfl, _, _, rfl, _, tn (e := Y1 0 g) c2', by omega, _, _, rfl, rfl, B0p hb.sz (s := Y1 0 g) (by omega), _, _, rfl, rfl, _, rfl, ?_⟩
   show if decide (t * C7 (Y1 0 (0 - g)) < b * C7 (Y1 0 g)) = true then _ else _
   rw [A2r, A2r]
   subst et eb
   refine J0 (fun h => ?_) (fun h => ?_)
   . refine ⟨_, ?_, fun _ _ h => h⟩
     refine ⟨_, rfl, _, _, rfl, rfl, g - 1, rfl, ?_, by omega, by omega, rfl⟩
     have := B6h l1 l2 m1 m2 (by rw [show (M : Int) - L = 0 - g by omega, show -(0 - g) = g by omega]; exact h)
     rw [show (0 : Int) - (g - 1) = (M : Int) - L + 1 by omega]
     exact this
   . refine ⟨g, rfl, ?_, by omega, by omega, rfl⟩
     have := B9v l1 l2 m1 m2 (by rw [show (M : Int) - L = 0 - g by omega, show -(0 - g) = g by omega]; omega)
     rw [show (0 : Int) - g = (M : Int) - L by omega]
     exact this
 rintro σ' H2 ⟨L', rfl, ld, a, b', rfl⟩
 exact ⟨_, rfl, k L' H2 ld a b' (B7.refl _)⟩
def J1e : Sp := fun vs H Q _ => ∃ t b p : Int, vs = [.int t, .int b, .int p] /\ -600 <= p /\ p <= 600 /\ IntMulOk t (C7 p) /\ IntMulOk b (C7 (-p)) /\ ∀ q H', B7 H H' -> H' q = some (.tup [.int (t * C7 p), .int (b * C7 (-p))]) -> Q (.ref q) H'
theorem Y1p : B9 Q28 Q28 (A1 A7g) := scK
theorem V1z {f f1 : Addr} {fd fd1 : FuncData} (D : Def K mg "_law_ratio" Q28 A7g f fd) (D_l_ten : Def K mg "_law_ten" ["_law_count"] B1j f1 fd1) (G_l_ten : sI P w K mg base 1 f1 fd1 ["_law_count"] B9z) (O : Own mg) : sI P w K mg base 2 f fd Q28 J1e := by
 refine D.F.okE Y1p (fun vs H Q E h => ?_) (fun X cdv A outer s H vs Q E hX hr hx h => ?_)
 . obtain ⟨t, b, p, rfl, _⟩ := h
   rfl
 subst hX
 obtain ⟨t, b, p, rfl, p0, p1, h1, h2, k⟩ := h
 refine ⟨_, (A9 (B8 (U1 (A0 (B3 U9 (pv 0) (D4 D_l_ten G_l_ten hr hx (A0 (G5 (V9 rfl) (by rfl) O.max_ boot_max (A0 A3 (A0 (pv 2) A6))) A6))) (A0 (B3 U9 (pv 1) (D4 D_l_ten G_l_ten hr hx (A0 (G5 (V9 rfl) (by rfl) O.max_ boot_max (A0 A3 (A0 (B3 V0 A3 (pv 2)) A6))) A6))) A6))))), ?_⟩
 have z2 : 2 <= sizeLine := C9 (by decide)
 have c1 := (mx p).2 (by omega)
 have c2 := (mx (0 - p)).2 (by omega)
 refine ⟨_, rfl, _, rfl, _, _, rfl, _, tn (e := Y1 0 p) (mx _).1, by omega, _, _, rfl, rfl, (by show IntMulOk t (C7 (Y1 0 p)); rw [A2r]; exact h1), _, rfl, _, rfl, _, _, rfl, rfl, _, _, rfl, _, tn (e := Y1 0 (0 - p)) (mx _).1, by omega, _, _, rfl, rfl, (by show IntMulOk b (C7 (Y1 0 (0 - p))); rw [A2r, Int.zero_sub]; exact h2), z2, fun q nq => ?_⟩
 refine k q _ (B7.upd nq) ?_
 rw [A8]
 show some (HO.tup [.int (t * C7 (Y1 0 p)), .int (b * C7 (Y1 0 (0 - p)))]) = _
 rw [A2r, A2r, Int.zero_sub]
def B9y : Sp := fun vs H Q _ => ∃ d u t r y l m up tr, ∃ s i : Int, vs = [.ref d, .int s, .int i] /\ V7 H d u t r y l m up tr /\ A3t r l m /\ ∀ q, H q = none -> Q (.ref q) (upd H q (.tup (Nm.mk .plain s 0 (C5z (Y1 i (l - r + 1)) m)).vs))
theorem V2t : B9 Q13 Q13 (A1 A2u) := scK
theorem V1k {r l m : Int} (fr : A3t r l m) (i : Int) : (if (if i < m then i else m) > l - r + 1 then (if i < m then i else m) else l - r + 1) = C5z (Y1 i (l - r + 1)) m := by
 have := fr.r1; have := fr.l2; have := fr.m1
 unfold C5z Y1
 repeat' split
 all_goals omega
theorem J7p {f : Addr} {fd : FuncData} (D : Def K mg "_law_nought" Q13 A2u f fd) (O : Own mg) : sI P w K mg base 1 f fd Q13 B9y := by
 refine D.F.okE V2t (fun vs H Q E h => ?_) (fun X cdv A outer s H vs Q E hX hr hx h => ?_)
 . obtain ⟨d, u, t, r, y, l, m, up, tr, sg, i, rfl, _⟩ := h
   rfl
 subst hX
 obtain ⟨d, u, t, r, y, l, m, up, tr, sg, i, rfl, ow, fr, k⟩ := h
 have HU := Nat.lt_of_le_of_lt (Nat.add_le_add_left (by decide : 1 <= 64) _) hr.units
 refine ⟨_, (A9 (B8 (U1 (A0 B0 (A0 (pv 1) (A0 A3 (A0 (G5 (V9 rfl) (by rfl) O.max_ boot_max (A0 (U8 HU (pv 0) B0 (fun _ _ => rfl)) (A0 (G5 (C0h rfl) (by rfl) O.min_ boot_min (A0 (U8 HU (pv 0) B0 (fun _ _ => rfl)) (A0 (pv 2) A6))) A6))) A6))))))), ?_⟩
 have z4 : 4 <= sizeLine := C9 (by decide)
 refine ⟨_, rfl, _, rfl, d, _, rfl, ow.gLowest, _, rfl, d, _, rfl, ow.gMost, _, rfl, _, _, rfl, _, _, rfl, z4, fun q nq => ?_⟩
 have := k q nq
 rw [<- V1k fr] at this
 exact this
def J0p : Sp := fun vs H Q _ => ∃ d u t r y l m up tr, ∃ s : Int, vs = [.ref d, .int s] /\ V7 H d u t r y l m up tr /\ A3t r l m /\ 0 <= s /\ s <= 1 /\ ∀ q H', B7 H H' -> H' q = some (.tup (B6r ⟨r, y, l, m⟩ s).vs) -> Q (.ref q) H'
theorem scLBurst : B9 ["_law_own_here", "_law_sign", "_law_kept"] Q36 (A1 A7p) := scK
theorem V1x {f f1 : Addr} {fd fd1 : FuncData} (D : Def K mg "_law_burst" Q36 A7p f fd) (D_l_ten : Def K mg "_law_ten" ["_law_count"] B1j f1 fd1) (G_l_ten : sI P w K mg base 1 f1 fd1 ["_law_count"] B9z) : sI P w K mg base 2 f fd Q36 J0p := by
 refine D.F.okE scLBurst (fun vs H Q E h => ?_) (fun X cdv A outer s H vs Q E hX hr hx h => ?_)
 . obtain ⟨d, u, t, r, y, l, m, up, tr, sg, rfl, _⟩ := h
   rfl
 subst hX
 obtain ⟨d, u, t, r, y, l, m, up, tr, sg, rfl, ow, fr, s0, s1, k⟩ := h
 have HU := Nat.lt_of_le_of_lt (Nat.add_le_add_left (by decide : 1 <= 64) _) hr.units
 refine ⟨_, (A7 (B4 (D0 (i := 2) scLBurst.nd rfl (Or.inl rfl) (J1j (D9 A4c (U8 HU (pv 0) B0 (fun _ _ => rfl)) (U1 (A0 B0 (A0 B0 A6))) (by rfl)) (A2a (A4n (D9 D6 (U8 HU (pv 0) B0 (fun _ _ => rfl)) B0 (C5 _)) (A2a (D9 D6 (pv 1) A3 (C5 _)))))))) (A7 (B4 (G4 (PW.pt (C5a (A0g (pv 2)) (B0t (PW.pt (A1h (C6 D6 (U8 HU (pv 0) B0 (fun _ _ => rfl)) B0 (C5 _)) (A1e (C6 D6 (pv 1) A3 (C5 _)))))))) (A9 (B8 (U1 (A0 B0 (A0 (pv 1) (A0 (B3 V0 (D4 D_l_ten G_l_ten hr hx (A0 (U8 HU (pv 0) B0 (fun _ _ => rfl)) A6)) A3) (A0 (B3 V6 (B3 V0 (U8 HU (pv 0) B0 (fun _ _ => rfl)) (U8 HU (pv 0) B0 (fun _ _ => rfl))) A3) A6))))))) D3)) (A9 (B8 (U1 (A0 B0 (A0 (pv 1) (A0 A3 (A0 A3 A6))))))))), ?_⟩
 have z2 : 2 <= sizeLine := C9 (by decide)
 have z4 : 4 <= sizeLine := C9 (by decide)
 have r1 := fr.r1; have r2 := fr.r2
 refine ⟨fun σ' H' => B7 H H' /\ σ' = [sr d, si sg, some (.bl (y.code == 0 || y.code == 7 || (y.code == 2 && decide (sg = 0))))], ?_, ?_⟩
 . refine ⟨_, rfl, d, _, rfl, ow.gWay, z2, fun p np => ⟨p, _, rfl, .inr (SqT.of A8), rfl, rfl, _, rfl, ?_⟩⟩
   have up1 := B7.upd (o := .tup [.str "down", .str "five up"]) np
   have ow1 := ow.same up1
   generalize upd H p (.tup [.str "down", .str "five up"]) = H1 at up1 ow1
   show if (inV (.str y.name) [.str "down", .str "five up"]) = true then _ else _
   by_cases hy : y.code = 0 \/ y.code = 7
   . rw [show inV (.str y.name) [.str "down", .str "five up"] = true by cases y <;> first | (decide +kernel) | (exfalso; revert hy; decide)]
     refine Z2 ⟨up1, ?_⟩
     rw [show (y.code == 0 || y.code == 7 || (y.code == 2 && decide (sg = 0))) = true by rcases hy with h | h <;> rw [h] <;> rfl]
     rfl
   . rw [show inV (.str y.name) [.str "down", .str "five up"] = false by cases y <;> first | (decide +kernel) | (exfalso; revert hy; decide)]
     refine U2 ⟨_, rfl, d, _, rfl, ow1.gWay, rfl, _, rfl, J0 (fun hf => ?_) (fun hf => ⟨up1, ?_⟩)⟩
     . have e : y = .floor := Wy.inj (V.str.inj hf)
       subst e
       refine ⟨_, rfl, rfl, up1, ?_⟩
       rcases (by omega : sg = 0 \/ sg = 1) with rfl | rfl <;> rfl
     . rw [show (y.code == 0 || y.code == 7 || (y.code == 2 && decide (sg = 0))) = false by cases y <;> first | rfl | exact absurd rfl hf | (exfalso; revert hy; decide)]
       rfl
 rintro σ' H1 ⟨s1', rfl⟩
 have ow1 := ow.same s1'
 refine ⟨fun σ' H' => H' = H1 /\ y.toEnd sg = true /\ σ' = [sr d, si sg, some (.bl (y.code == 0 || y.code == 7 || (y.code == 2 && decide (sg = 0))))], ?_, ?_⟩
 . have nines : y.toEnd sg = false -> ∀ q, H1 q = none -> Q (.ref q) (upd H1 q (.tup (Nm.vs ⟨.plain, sg, C7 r - 1, m - r + 1⟩))) := fun e q nq => by
     refine k q _ (s1'.trans (B7.upd nq)) ?_
     unfold B6r
     rw [e, if_neg Bool.false_ne_true]
     exact A8
   cases y with
   | down =>
     have nines := nines rfl
     exact ⟨_, rfl, _, rfl, Z2 ⟨_, rfl, _, rfl, d, _, rfl, ow1.gRoom, _, tn (e := r) (by omega), by omega, _, _, rfl, rfl, _, rfl, d, _, rfl, ow1.gMost, _, rfl, d, _, rfl, ow1.gRoom, _, _, rfl, rfl, _, _, rfl, rfl, z4, fun q nq => nines q nq⟩⟩
   | fiveUp =>
     have nines := nines rfl
     exact ⟨_, rfl, _, rfl, Z2 ⟨_, rfl, _, rfl, d, _, rfl, ow1.gRoom, _, tn (e := r) (by omega), by omega, _, _, rfl, rfl, _, rfl, d, _, rfl, ow1.gMost, _, rfl, d, _, rfl, ow1.gRoom, _, _, rfl, rfl, _, _, rfl, rfl, z4, fun q nq => nines q nq⟩⟩
   | up => exact ⟨_, rfl, _, rfl, U2 ⟨_, rfl, d, _, rfl, ow1.gWay, rfl, _, rfl, Z3 (nW (y := .up) (z := .ceiling) (by decide)) (U2 ⟨rfl, rfl, rfl⟩)⟩⟩
   | halfUp => exact ⟨_, rfl, _, rfl, U2 ⟨_, rfl, d, _, rfl, ow1.gWay, rfl, _, rfl, Z3 (nW (y := .halfUp) (z := .ceiling) (by decide)) (U2 ⟨rfl, rfl, rfl⟩)⟩⟩
   | halfDown => exact ⟨_, rfl, _, rfl, U2 ⟨_, rfl, d, _, rfl, ow1.gWay, rfl, _, rfl, Z3 (nW (y := .halfDown) (z := .ceiling) (by decide)) (U2 ⟨rfl, rfl, rfl⟩)⟩⟩
   | halfEven => exact ⟨_, rfl, _, rfl, U2 ⟨_, rfl, d, _, rfl, ow1.gWay, rfl, _, rfl, Z3 (nW (y := .halfEven) (z := .ceiling) (by decide)) (U2 ⟨rfl, rfl, rfl⟩)⟩⟩
   | floor =>
     rcases (by omega : sg = 0 \/ sg = 1) with rfl | rfl
     . have nines := nines (show decide (V.int 0 = V.int 1) = false by decide +kernel)
       exact ⟨_, rfl, _, rfl, Z2 ⟨_, rfl, _, rfl, d, _, rfl, ow1.gRoom, _, tn (e := r) (by omega), by omega, _, _, rfl, rfl, _, rfl, d, _, rfl, ow1.gMost, _, rfl, d, _, rfl, ow1.gRoom, _, _, rfl, rfl, _, _, rfl, rfl, z4, fun q nq => nines q nq⟩⟩
     . exact ⟨_, rfl, _, rfl, U2 ⟨_, rfl, d, _, rfl, ow1.gWay, rfl, _, rfl, Z3 (nW (y := .floor) (z := .ceiling) (by decide)) (U2 ⟨rfl, (show decide (V.int 1 = V.int 1) = true by decide +kernel), rfl⟩)⟩⟩
   | ceiling =>
     rcases (by omega : sg = 1 \/ sg = 0) with rfl | rfl
     . have nines := nines (show decide (V.int 1 = V.int 0) = false by decide +kernel)
       exact ⟨_, rfl, _, rfl, U2 ⟨_, rfl, d, _, rfl, ow1.gWay, rfl, _, rfl, A2w rfl ⟨_, rfl, rfl, _, rfl, A2w rfl ⟨_, rfl, _, rfl, d, _, rfl, ow1.gRoom, _, tn (e := r) (by omega), by omega, _, _, rfl, rfl, _, rfl, d, _, rfl, ow1.gMost, _, rfl, d, _, rfl, ow1.gRoom, _, _, rfl, rfl, _, _, rfl, rfl, z4, fun q nq => nines q nq⟩⟩⟩⟩
     . exact ⟨_, rfl, _, rfl, U2 ⟨_, rfl, d, _, rfl, ow1.gWay, rfl, _, rfl, A2w rfl ⟨_, rfl, rfl, _, rfl, Z3 (by decide) ⟨rfl, (show decide (V.int 0 = V.int 0) = true by decide +kernel), rfl⟩⟩⟩⟩
 rintro σ' H2 ⟨rfl, e, rfl⟩
 refine ⟨_, rfl, z4, fun q nq => k q _ (s1'.trans (B7.upd nq)) ?_⟩
 unfold B6r
 rw [e, if_pos rfl]
 exact A8
abbrev A1u : Stmt := (top 77)
def B8u (H : Hp) (q : Addr) (x : Nm) (zs : List Str) : Prop := ∃ t l, H q = some (.tup [.ref t, .ref l]) /\ H t = some (.tup x.vs) /\ H l = some (.lst (zs.map V.str))
theorem A0fd (x : Str) (b : Bool) : (List.replicate (if b = true then (1 : Int) else 0).toNat [V.str x]).flatten = (A5f x b).map V.str := by cases b <;> rfl
theorem Z8f (x y : Str) (b : Bool) : (List.replicate (((A5f y b).map V.str).length : Int).toNat [V.str x]).flatten = (A5f x b).map V.str := by cases b <;> rfl
theorem B4r (x : Str) (b : Bool) : (A5f x b).length <= 1 := by cases b <;> simp [A5f]
theorem V8b {l L pt : Int} {cut : Bool} (h : ¬ pt = 0) (z : Str) : z ∈ A5f "faint" (decide (L < l)) ++ (["off", "cut"] : List Str) ++ A5f "sunk" (decide (L < l)) ↔ z ∈ A0y pt cut ++ A0x l L pt := by
 unfold A0y A0x A5f
 rw [if_neg h]
 by_cases q : L < l
 . rw [if_neg (by omega : ¬ L >= l), decide_eq_true q, if_neg h]
   simp only [if_true, List.mem_append, List.mem_cons, List.not_mem_nil, or_false]
   constructor
   . rintro ((a | a | a) | a)
     . exact .inr (.inr a)
     . exact .inl (.inl a)
     . exact .inl (.inr a)
     . exact .inr (.inl a)
   . rintro ((a | a) | a | a)
     . exact .inl (.inr (.inl a))
     . exact .inl (.inr (.inr a))
     . exact .inr a
     . exact .inl (.inl a)
 rw [if_pos (by omega : L >= l), decide_eq_false q]
 simp
theorem U9z {l L : Int} {cut : Bool} (z : Str) : z ∈ A5f "faint" (decide (L < l)) ++ A5f "cut" cut ↔ z ∈ A0y 0 cut ++ A0x l L 0 := by
 unfold A0y A0x A5f
 by_cases q : L < l
 . rw [if_neg (by omega : ¬ L >= l), decide_eq_true q]
   cases cut <;> simp [or_comm]
 rw [if_pos (by omega : L >= l), decide_eq_false q]
 cases cut <;> simp
theorem Y1q {a b : Int} (h : 0 < a) (hb : 0 < b) : ¬ U6 a b = 0 := by
 rcases (by omega : 2 * a < b \/ 2 * a = b \/ b < 2 * a) with h2 | h2 | h2
 . rw [D9v h h2]; decide
 . rw [D8w h h2]; decide
 rw [G0h h h2]; decide
def C7j : Sp := fun vs H Q _ => ∃ d u tt r y l m up tr rq, ∃ s t b i : Int, vs = [.ref d, .int s, .ref rq, .int i] /\ V7 H d u tt r y l m up tr /\ A3t r l m /\ 0 <= s /\ s <= 1 /\ H rq = some (.tup [.int t, .int b]) /\ SzL t /\ SzL b /\
 ∀ L q zs H', A2t t b (0 - L) -> B7 H H' -> B8u H' q (A1b ⟨r, y, l, m⟩ s t b 0 L i).1 zs -> zs.length <= 10 -> (∀ z, z ∈ zs ↔ z ∈ (A1b ⟨r, y, l, m⟩ s t b 0 L i).2) -> Q (.ref q) H'
theorem scLSettled : B9 ["_law_own_here", "_law_sign", "_law_ratio_here", "_law_ideal", "_law_top", "_law_bottom", "_law_begin", "_law_fine", "_law_whole", "_law_left", "_law_signals"] Q37 (A1 A1u) := scK
theorem G9w {f f1 f2 f3 f4 : Addr} {fd fd1 fd2 fd3 fd4 : FuncData} (D : Def K mg "_law_settled" Q37 A1u f fd) (D_l_lead : Def K mg "_law_lead" Q9 B6k f1 fd1) (G_l_lead : sI P w K mg base 2 f1 fd1 Q9 U8n)
   (D_l_ten : Def K mg "_law_ten" ["_law_count"] B1j f2 fd2) (G_l_ten : sI P w K mg base 1 f2 fd2 ["_law_count"] B9z) (D_l_goes_up : Def K mg "_law_goes_up" Q27 B6q f3 fd3) (G_l_goes_up : sI P w K mg base 1 f3 fd3 Q27 U9k)
   (D_l_burst : Def K mg "_law_burst" Q36 A7p f4 fd4) (G_l_burst : sI P w K mg base 2 f4 fd4 Q36 J0p) (O : Own mg) : sI P w K mg base 3 f fd Q37 C7j := by
 refine D.F.okE scLSettled (fun vs H Q E h => ?_) (fun X cdv A outer s H vs Q E hX hr hx h => ?_)
 . obtain ⟨d, u, tt, r, y, l, m, up, tr, rq, sg, t, b, i, rfl, _⟩ := h
   rfl
 subst hX
 obtain ⟨d, u, tt, r, y, l, m, up, tr, rq, sg, t, b, i, rfl, ow, fr, s0, s1, erq, ht, hb, k⟩ := h
 have HU := Nat.lt_of_le_of_lt (Nat.add_le_add_left (by decide : 1 <= 64) _) hr.units
 refine ⟨_, (A7 (B4 (D9a (pv 2) (D9k rfl (A2q (Y3 (i := 4) scLSettled.nd rfl (Or.inl rfl)) (A2q (Y3 (i := 5) scLSettled.nd rfl (Or.inl rfl)) C6e))))) (A7 (B4 (D0 (i := 6) scLSettled.nd rfl (Or.inl rfl) (D4 D_l_lead G_l_lead hr hx (A0 (pv 4) (A0 (pv 5) A6))))) (A7 (B4 (D0 (i := 7) scLSettled.nd rfl (Or.inl rfl) (G5 (V9 rfl) (by rfl) O.max_ boot_max (A0 (B3 V6 (B3 V0 (pv 6) (U8 HU (pv 0) B0 (fun _ _ => rfl))) A3) (A0 (U8 HU (pv 0) B0 (fun _ _ => rfl)) A6))))) (A7 (B4 (D0 (i := 5) scLSettled.nd rfl (Or.inl rfl) (B3 U9 (pv 5) (D4 D_l_ten G_l_ten hr hx (A0 (G5 (V9 rfl) (by rfl) O.max_ boot_max (A0 A3 (A0 (pv 7) A6))) A6))))) (A7 (B4 (D9a (G5 D9r (by rfl) O.divmod_ PyProof.Rows.boot_divmod (A0 (B3 U9 (pv 4) (D4 D_l_ten G_l_ten hr hx (A0 (G5 (V9 rfl) (by rfl) O.max_ boot_max (A0 A3 (A0 (B3 V0 A3 (pv 7)) A6))) A6))) (A0 (pv 5) A6))) (D9k rfl (A2q (Y3 (i := 8) scLSettled.nd rfl (Or.inl rfl)) (A2q (Y3 (i := 9) scLSettled.nd rfl (Or.inl rfl)) C6e))))) (A7 (B4 (D0 (i := 10) scLSettled.nd rfl (Or.inl rfl) (B3 V9u (U7 (A0 B0 A6)) (V5 B4t (by rfl) O.int_ boot_int (A0 (D9 C7d (pv 6) (U8 HU (pv 0) B0 (fun _ _ => rfl)) (C5 _)) A6))))) (A7 (B4 (G4 (C6 B5u (pv 9) A3 (C5 _)) (A7 (B4 (D0 (i := 10) scLSettled.nd rfl (Or.inl rfl) (B3 C8d (B3 C8d (pv 10) (U7 (A0 B0 (A0 B0 A6)))) (B3 V9u (U7 (A0 B0 A6)) (G5 B8x (by rfl) O.len_ PySem.boot_len (A0 (pv 10) A6)))))) (A7 (B4 (G4 (A0g (D4 D_l_goes_up G_l_goes_up hr hx (A0 (U8 HU (pv 0) B0 (fun _ _ => rfl)) (A0 (pv 1) (A0 (B3 G2 (pv 8) A3) (A0 (pv 9) (A0 (pv 5) A6))))))) (A9 (B4 (D0 (i := 8) scLSettled.nd rfl (Or.inl rfl) (B3 V6 (pv 8) A3)))) D3)) (A9 (B4 (G4 (C6 D6 (pv 8) (D4 D_l_ten G_l_ten hr hx (A0 (U8 HU (pv 0) B0 (fun _ _ => rfl)) A6)) (C5 _)) (A7 (B4 (D0 (i := 8) scLSettled.nd rfl (Or.inl rfl) (B3 G3 (pv 8) A3))) (A9 (B4 (D0 (i := 7) scLSettled.nd rfl (Or.inl rfl) (B3 V6 (pv 7) A3))))) D3))))) D3)) (A7 (B4 (B0h PassesOwn.leaving (PW.pt (A1h (C6 D6 (pv 9) A3 (C5 _)) (A1h (C6 C7d (pv 7) (pv 3) (C5 _)) (A1e (C6 D6 (B3 G2 (pv 8) A3) A3 (C5 _)))))) (A7 (B4 (D0 (i := 8) scLSettled.nd rfl (Or.inl rfl) (B3 G3 (pv 8) A3))) (A9 (B4 (D0 (i := 7) scLSettled.nd rfl (Or.inl rfl) (B3 V6 (pv 7) A3))))))) (A7 (B4 (G4 (PW.pt (A1h (C6 D6 (pv 9) A3 (C5 _)) (A1e (C6 B5u (pv 7) (pv 3) (C5 _))))) (A9 (B4 (D0 (i := 10) scLSettled.nd rfl (Or.inl rfl) (B3 C8d (pv 10) (U7 (A0 B0 A6)))))) D3)) (A7 (B4 (G4 (PW.pt (A1h (C6 B5u (pv 8) A3 (C5 _)) (A1e (C6 B5u (B3 V0 (B3 V6 (pv 7) (G5 A1f (by rfl) O.len_ PySem.boot_len (A0 (V5 A0h (by rfl) O.str_ boot_str (A0 (pv 8) A6)) A6))) A3) (U8 HU (pv 0) B0 (fun _ _ => rfl)) (C5 _))))) (A9 (B8 (U1 (A0 (D4 D_l_burst G_l_burst hr hx (A0 (pv 0) (A0 (pv 1) A6))) (A0 (U7 (A0 B0 (A0 B0 (A0 B0 A6)))) A6))))) D3)) (A9 (B8 (U1 (A0 (U1 (A0 B0 (A0 (pv 1) (A0 (pv 8) (A0 (pv 7) A6))))) (A0 (pv 10) A6))))))))))))))), ?_⟩
 have z1 : 1 <= sizeLine := C9 (by decide)
 have z2 : 2 <= sizeLine := C9 (by decide)
 have z3 : 3 <= sizeLine := C9 (by decide)
 have z4 : 4 <= sizeLine := C9 (by decide)
 have d10 : (0 : Int) < 10 /\ (10 : Int).natAbs.log2 < 9000 := ⟨by decide, by decide +kernel⟩
 have kb : ∀ b : Bool, -(2 ^ 63 : Int) <= (if b = true then (1 : Int) else 0) /\ (if b = true then (1 : Int) else 0) < 2 ^ 63 /\ 1 * (if b = true then (1 : Int) else 0).toNat <= sizeLine := fun b => by
   cases b
   . exact ⟨by decide, by decide, Nat.zero_le _⟩
   . exact ⟨by decide, by decide, z1⟩
 have ok : (Cv.mk r y l m).Ok := ⟨fr.r1, fr.r2, fr.l1, fr.l2, fr.m1, fr.m2⟩
 have r1 := fr.r1; have r2 := fr.r2; have l1 := fr.l1; have l2 := fr.l2
 refine ⟨fun σ' H' => H' = H /\ σ' = [sr d, si sg, sr rq, si i, si t, si b, none, none, none, none, none], ?_, ?_⟩
 . exact ⟨_, rfl, rq, _, rfl, SqT.of erq, rfl, _, _, rfl, _, _, rfl, rfl, rfl, rfl⟩
 rintro σ' H1 ⟨rfl, rfl⟩
 refine ⟨fun σ' H' => ∃ L, B7 H1 H' /\ A2t t b (0 - L) /\ -501 <= L /\ L <= 501 /\ σ' = [sr d, si sg, sr rq, si i, si t, si b, si L, none, none, none, none], ?_, ?_⟩
 . exact ⟨_, rfl, _, rfl, t, b, rfl, ht, hb, fun L H' ld a c s' => ⟨L, s', ld, a, c, rfl⟩⟩
 rintro σ' H2 ⟨L, t2, ld, La, Lb, rfl⟩
 have ow2 := ow.same t2
 have fb : -600 <= Cv.fin ⟨r, y, l, m⟩ L /\ Cv.fin ⟨r, y, l, m⟩ L <= 600 := by
   unfold Cv.fin Y1
   dsimp only
   split <;> omega
 have wr := G0e (s1 := 0 - L) (s2 := 0 - Cv.fin ⟨r, y, l, m⟩ L) (r := r) ht.sz hb.sz ld r1 (by
   unfold Cv.fin Y1
   dsimp only
   split <;> omega)
 have k := k L
 unfold A1b at k
 refine ⟨fun σ' H' => H' = H2 /\ σ' = [sr d, si sg, sr rq, si i, si t, si b, si L, si (Cv.fin ⟨r, y, l, m⟩ L), none, none, none], ?_, ?_⟩
 . exact ⟨_, rfl, _, rfl, d, _, rfl, ow2.gRoom, _, _, rfl, rfl, _, _, rfl, rfl, _, rfl, d, _, rfl, ow2.gLowest, _, _, rfl, rfl, rfl⟩
 rintro σ' H3 ⟨rfl, rfl⟩
 generalize Cv.fin ⟨r, y, l, m⟩ L = q at *
 have c1 := (mx q).2 (by omega)
 have c1' := (mx q).1
 have c2 := (mx (0 - q)).2 (by omega)
 have c2' := (mx (0 - q)).1
 refine ⟨fun σ' H' => H' = H3 /\ σ' = [sr d, si sg, sr rq, si i, si t, si (b * C7 (-(0 - q))), si L, si q, none, none, none], ?_, ?_⟩
 . refine ⟨_, rfl, _, rfl, _, _, rfl, _, tn (e := Y1 0 q) c1', by omega, _, _, rfl, rfl, B0p hb.sz (s := Y1 0 q) (by omega), rfl, ?_⟩
   show [sr d, si sg, sr rq, si i, si t, si (b * C7 (Y1 0 q)), si L, si q, none, none, none] = _
   rw [A2r, show -(0 - q) = q by omega]
 rintro σ' H4 ⟨rfl, rfl⟩
 have lp : 0 < b * C7 (-(0 - q)) := Int.mul_pos (by have := hb.1; omega) (V1 _)
 have ll := V7y hb.sz (s := -(0 - q)) (by omega)
 have hm : t * C7 (0 - q) % (b * C7 (-(0 - q))) = t * C7 (0 - q) - whI t b (0 - q) * (b * C7 (-(0 - q))) := by
   unfold whI
   rw [Int.emod_def, Int.mul_comm (b * C7 (-(0 - q)))]
 have lf0 := (U9v (t := t) (s := 0 - q) (show 0 < b by have := hb.1; omega)).1
 refine ⟨fun σ' H' => B7 H1 H' /\ σ' = [sr d, si sg, sr rq, si i, si t, si (b * C7 (-(0 - q))), si L, si q, si (whI t b (0 - q)), si (t * C7 (0 - q) - whI t b (0 - q) * (b * C7 (-(0 - q)))), none], ?_, ?_⟩
 . refine ⟨_, rfl, _, rfl, _, _, rfl, rfl, _, _, rfl, _, tn (e := Y1 0 (0 - q)) c2', by omega, _, _, rfl, rfl, B0p ht.sz (s := Y1 0 (0 - q)) (by omega), _, rfl, _, _, rfl, ⟨lp, ll⟩, fun p np => ?_⟩
   have e1 : t * ((10 ^ (Y1 0 (0 - q)).toNat : Nat) : Int) = t * C7 (0 - q) := congrArg (t * ·) (A2r _)
   rw [e1] at *
   rw [hm]
   exact ⟨p, _, rfl, SqT.of A8, rfl, _, _, rfl, _, _, rfl, rfl, t2.trans (B7.upd np), rfl⟩
 rintro σ' H5 ⟨t5, rfl⟩
 unfold ptI at k
 generalize t * C7 (0 - q) - whI t b (0 - q) * (b * C7 (-(0 - q))) = lf at *
 generalize b * C7 (-(0 - q)) = lo at *
 generalize whI t b (0 - q) = wh at *
 have ow5 := ow.same t5
 generalize hft : decide (L < l) = ft
 refine ⟨fun σ' H' => ∃ a, B7 H1 H' /\ H' a = some (.lst ((A5f "faint" ft).map V.str)) /\ σ' = [sr d, si sg, sr rq, si i, si t, si lo, si L, si q, si wh, si lf, sr a], ?_, ?_⟩
 . refine ⟨z1, fun a1 n1 => ⟨_, rfl, _, rfl, d, _, rfl, (ow5.same (B7.upd n1)).gLeast, _, _, rfl, rfl, .inr ⟨_, rfl, a1, _, _, rfl, rfl, A8, (kb (decide (L < l))).1, (kb (decide (L < l))).2.1, (kb (decide (L < l))).2.2, fun a2 n2 => ?_⟩⟩⟩
   rw [A0fd]
   exact ⟨a2, t5.trans ((B7.upd n1).trans (B7.upd n2)), by rw [A8, hft], rfl⟩
 rintro σ' H6 ⟨a, t6, ea, rfl⟩
 have ow6 := ow.same t6
 refine ⟨fun σ' H' => ∃ a f p, ∃ zs : List Str, B7 H1 H' /\ H' a = some (.lst (zs.map V.str)) /\ zs.length <= 4 /\ (lf = 0 -> f = wh /\ p = q /\ zs = A5f "faint" ft) /\ (0 < lf -> (f, p) = Y8 ⟨r, y, l, m⟩ sg wh (U6 lf lo) q i /\ ∀ z, z ∈ zs ↔ z ∈ A0y (U6 lf lo) (decide (p > i)) ++ A0x l L (U6 lf lo)) /\ σ' = [sr d, si sg, sr rq, si i, si t, si lo, si L, si p, si f, si lf, sr a], ?_, ?_⟩
 . refine ⟨_, rfl, _, _, rfl, rfl, _, rfl, J0 (fun hp => ?_) (fun hp => ?_)⟩
   . have hp : 0 < lf := hp
     have hpt := Y1q hp lp
     refine ⟨fun σ' H' => ∃ a, B7 H1 H' /\ H' a = some (.lst ((A5f "faint" ft ++ (["off", "cut"] : List Str) ++ A5f "sunk" ft).map V.str)) /\ σ' = [sr d, si sg, sr rq, si i, si t, si lo, si L, si q, si wh, si lf, sr a], ?_, ?_⟩
     . have q2 := B4r "faint" ft
       refine ⟨_, rfl, z2, fun a3 n3 => ?_⟩
       have u3 := B7.upd (o := .lst [.str "off", .str "cut"]) n3
       refine ⟨a, a3, _, _, rfl, rfl, u3 _ _ ea, A8, C9 (by rw [List.length_map]; show _ + 2 <= _; omega), fun a4 n4 => ⟨z1, fun a5 n5 => ?_⟩⟩
       have u4 := B7.upd (o := .lst ((A5f "faint" ft).map V.str ++ [.str "off", .str "cut"])) n4
       have u5 := B7.upd (o := .lst [.str "sunk"]) n5
       have ea5 := ((u3.trans u4).trans u5) _ _ ea
       refine ⟨_, rfl, a, _, rfl, .inl (SqL.of ea5), a5, _, _, rfl, rfl, A8, ?_, ?_, ?_, fun a6 n6 => ?_⟩
       . rw [List.length_map]; omega
       . rw [List.length_map]; omega
       . rw [List.length_map]; show 1 * _ <= _; exact Nat.le_trans (by omega) z1
       . rw [Z8f]
         have u6 := B7.upd (o := .lst ((A5f "sunk" ft).map V.str)) n6
         have q3 := B4r "sunk" ft
         refine ⟨a4, a6, _, _, rfl, rfl, (u5.trans u6) _ _ A8, A8, C9 (by rw [List.length_append, List.length_map, List.length_map]; show _ + 2 + _ <= _; omega), fun a7 n7 => ?_⟩
         refine ⟨a7, t6.trans ((u3.trans u4).trans ((u5.trans u6).trans (B7.upd n7))), ?_, rfl⟩
         rw [A8, List.map_append, List.map_append]
         rfl
     rintro σ' H7 ⟨a, t7, ea, rfl⟩
     have ow7 := ow.same t7
     refine ⟨fun σ' H' => B7 H1 H' /\ H' a = some (.lst ((A5f "faint" ft ++ (["off", "cut"] : List Str) ++ A5f "sunk" ft).map V.str)) /\ σ' = [sr d, si sg, sr rq, si i, si t, si lo, si L, si q, si (upI y sg wh (U6 lf lo)), si lf, sr a], ?_, ?_⟩
     . refine ⟨_, rfl, d, _, rfl, ow7.gWay, _, rfl, _, rfl, _, _, rfl, rfl, d10.1, _, rfl, _, rfl, y, sg, wh % 10, lf, lo, rfl, Int.emod_nonneg _ (by decide), by have := Int.emod_lt_of_pos wh (by decide : (0 : Int) < 10); omega, hp, fun H8 s8 => ⟨_, rfl, ?_⟩⟩
       have eu : upI y sg wh (U6 lf lo) = if y.goes sg (wh % 10) (U6 lf lo) = true then wh + 1 else wh := by
         unfold upI
         rw [if_neg hpt]
       rw [eu]
       cases y.goes sg (wh % 10) (U6 lf lo) with
       | true =>
         refine Z2 ⟨_, ?_, fun _ _ h => h⟩
         exact ⟨_, rfl, _, _, rfl, rfl, t7.trans s8, s8 _ _ ea, rfl⟩
       | false => exact U2 ⟨t7.trans s8, s8 _ _ ea, rfl⟩
     rintro σ' H8 ⟨t8, ea8, rfl⟩
     have ow8 := ow.same t8
     have en : Y8 ⟨r, y, l, m⟩ sg wh (U6 lf lo) q i = B0m r (upI y sg wh (U6 lf lo)) q := by unfold Y8; rw [if_neg hpt]
     rw [en]
     generalize upI y sg wh (U6 lf lo) = v
     refine ⟨fun σ' H' => H' = H8 /\ σ' = [sr d, si sg, sr rq, si i, si t, si lo, si L, si ((B0m r v q).2), si ((B0m r v q).1), si lf, sr a], ?_, ?_⟩
     . unfold B0m
       refine ⟨_, rfl, _, rfl, d, _, rfl, ow8.gRoom, _, tn (e := r) (by omega), by omega, rfl, _, rfl, J0 (fun e => ?_) (fun e => ?_)⟩
       . have e : v = C7 r := V.int.inj e
         rw [if_pos e]
         refine ⟨fun σ' H' => H' = H8 /\ σ' = [sr d, si sg, sr rq, si i, si t, si lo, si L, si q, si (v / 10), si lf, sr a], ⟨_, rfl, _, _, rfl, rfl, d10, rfl, rfl⟩, ?_⟩
         rintro σ' H9 ⟨rfl, rfl⟩
         refine ⟨_, ?_, fun _ _ h => h⟩
         exact ⟨_, rfl, _, _, rfl, rfl, rfl, rfl⟩
       . have e : ¬ v = C7 r := fun z => e (congrArg V.int z)
         rw [if_neg e]
         exact ⟨rfl, rfl⟩
     rintro σ' H9 ⟨rfl, rfl⟩
     have q2 := B4r "faint" ft
     have q3 := B4r "sunk" ft
     exact ⟨a, _, _, _, t8, ea8, by rw [List.length_append, List.length_append]; show _ + 2 + _ <= _; omega, fun z => absurd z (by omega), fun _ => ⟨rfl, fun z => by rw [<- hft]; exact V8b hpt z⟩, rfl⟩
   . have hp : lf = 0 := by
       have : ¬ lf > 0 := hp
       omega
     exact ⟨a, wh, q, _, t6, ea, Nat.le_trans (B4r _ _) (by decide), fun _ => ⟨rfl, rfl, rfl⟩, fun z => absurd z (by omega), rfl⟩
 rintro σ' H7 ⟨a, f, p, zs, t7, ea7, lz, h0, h1, rfl⟩
 refine ⟨fun σ' H' => H' = H7 /\ σ' = [sr d, si sg, sr rq, si i, si t, si lo, si L, si ((Y8 ⟨r, y, l, m⟩ sg wh (U6 lf lo) q i).2), si ((Y8 ⟨r, y, l, m⟩ sg wh (U6 lf lo) q i).1), si lf, sr a], ?_, ?_⟩
 . refine B0u (fun σ H3 => H3 = H7 /\ ∃ f p : Int, (lf = 0 -> A0m i f p = A0m i wh q) /\ (0 < lf -> (f, p) = Y8 ⟨r, y, l, m⟩ sg wh (U6 lf lo) q i) /\ σ = [sr d, si sg, sr rq, si i, si t, si lo, si L, si p, si f, si lf, sr a]) (fun σ _ => match σ with | _ :: _ :: _ :: _ :: _ :: _ :: _ :: some (.int p) :: _ => (i - p).toNat | _ => 0) ?_ ?_ ?_
   . exact ⟨rfl, f, p, fun z => by obtain ⟨e1, e2, _⟩ := h0 z; rw [e1, e2], fun z => (h1 z).1, rfl⟩
   . rintro σ H3 ⟨rfl, f, p, e, e', rfl⟩
     refine ⟨_, rfl, rfl, _, rfl, J0 (fun hl => ?_) (fun hl => U2 ⟨rfl, by rw [<- e' (by have : ¬ lf = 0 := fun z => hl (congrArg V.int z); omega)]⟩)⟩
     have hl : lf = 0 := V.int.inj hl
     have en : Y8 ⟨r, y, l, m⟩ sg wh (U6 lf lo) q i = A0m i wh q := by unfold Y8; rw [if_pos (V9a hl lp)]
     rw [en]
     have e := e hl
     have stop : ¬ (p < i /\ f % 10 = 0) -> (f, p) = A0m i wh q := fun h => by rw [<- e, C6t h]
     refine ⟨_, rfl, _, rfl, _, _, rfl, rfl, _, rfl, J0 (fun h1 => ?_) (fun h1 => U2 ⟨rfl, by rw [<- stop fun q => h1 q.1]⟩)⟩
     refine ⟨_, rfl, _, _, rfl, rfl, d10.1, rfl, _, rfl, J0 (fun h2 => ?_) (fun h2 => ⟨rfl, by rw [<- stop fun q => h2 (congrArg V.int q.2)]⟩)⟩
     have h1 : p < i := h1
     have h2 : f % 10 = 0 := by injection h2
     refine ⟨fun σ' H' => H' = H3 /\ σ' = [sr d, si sg, sr rq, si i, si t, si lo, si L, si p, si (f / 10), si lf, sr a], ⟨_, rfl, _, _, rfl, rfl, d10, rfl, rfl⟩, ?_⟩
     rintro σ' H4 ⟨rfl, rfl⟩
     refine ⟨fun σ' H' => H' = H4 /\ σ' = [sr d, si sg, sr rq, si i, si t, si lo, si L, si (p + 1), si (f / 10), si lf, sr a], ⟨_, rfl, _, _, rfl, rfl, rfl, rfl⟩, ?_⟩
     rintro σ' H5 ⟨rfl, rfl⟩
     refine ⟨⟨rfl, f / 10, p + 1, fun _ => (C6z h1 h2).symm.trans e, fun z => absurd z (by omega), rfl⟩, ?_⟩
     show (i - (p + 1)).toNat < (i - p).toNat
     omega
   . rintro σ H3 Q1 Q2 hQ ⟨v1, e1, e1', c, ec, q⟩
     refine ⟨v1, e1, e1', c, ec, ?_⟩
     cases c with
     | false => exact U2 (hQ _ _ (by simpa using q))
     | true =>
       rw [if_pos rfl] at q ⊢
       obtain ⟨v1, e, v2, e2, a, b, e3, e4, c, e5, q⟩ := q
       refine ⟨v1, e, v2, e2, a, b, e3, e4, c, e5, ?_⟩
       cases c with
       | false => exact U2 (hQ _ _ (by simpa using q))
       | true =>
         rw [if_pos rfl] at q ⊢
         obtain ⟨v3, e6, a2, b2, e7, e8, e9, e10, e11, e12, q⟩ := q
         exact ⟨v3, e6, a2, b2, e7, e8, e9, e10, e11, e12, hQ _ _ q⟩
 rintro σ' H8 ⟨rfl, rfl⟩
 have sm := C6w (c := ⟨r, y, l, m⟩) (s := sg) (pt := U6 lf lo) (q := q) (i := i) ok wr.1 wr.2
 have nn : 0 <= (Y8 ⟨r, y, l, m⟩ sg wh (U6 lf lo) q i).1 := by
   unfold Y8
   split
   . exact (B8v i (i - q).toNat wh q wr.1).1
   . have hu : 0 <= upI y sg wh (U6 lf lo) := by
       unfold upI
       generalize (if U6 lf lo = 0 then false else y.goes sg (wh % 10) (U6 lf lo)) = g
       cases g with
       | true => show 0 <= wh + 1; omega
       | false => exact wr.1
     generalize upI y sg wh (U6 lf lo) = u at hu
     unfold B0m
     split
     . show 0 <= u / 10; omega
     . exact hu
 have k0 : ∀ q' zs H', B7 H1 H' -> B8u H' q' _ zs -> zs.length <= 10 -> _ -> Q (.ref q') H' := fun q' zs H' => k q' zs H' ld
 unfold A5p at k0
 have hn : 0 < lf -> (f, p) = ((Y8 ⟨r, y, l, m⟩ sg wh (U6 lf lo) q i).1, (Y8 ⟨r, y, l, m⟩ sg wh (U6 lf lo) q i).2) := fun z => (h1 z).1
 generalize (Y8 ⟨r, y, l, m⟩ sg wh (U6 lf lo) q i).1 = f' at *
 generalize (Y8 ⟨r, y, l, m⟩ sg wh (U6 lf lo) q i).2 = p' at *
 have lg : f'.natAbs.log2 < 1920 := Nat.lt_trans (A7u sm (by decide)) (by decide)
 refine ⟨fun σ' H' => ∃ a, ∃ zs : List Str, B7 H1 H' /\ H' a = some (.lst (zs.map V.str)) /\ zs.length <= 5 /\ (∀ z, z ∈ zs ↔ z ∈ A0y (U6 lf lo) (decide (p' > i)) ++ A0x l L (U6 lf lo)) /\ σ' = [sr d, si sg, sr rq, si i, si t, si lo, si L, si p', si f', si lf, sr a], ?_, ?_⟩
 . refine ⟨_, rfl, rfl, _, rfl, J0 (fun hl => ?_) (fun hl => U2 ?_)⟩
   . have hl : lf = 0 := V.int.inj hl
     obtain ⟨_, _, ez⟩ := h0 hl
     subst ez
     rw [V9a hl lp]
     have q2 := B4r "faint" ft
     refine ⟨_, rfl, _, rfl, _, _, rfl, rfl, _, rfl, J0 (fun hc => ?_) (fun hc => ⟨a, _, t7, ea7, by omega, fun z => ?_, rfl⟩)⟩
     . refine ⟨_, ?_, fun _ _ h => h⟩
       refine ⟨_, rfl, z1, fun a1 n1 => ⟨a, a1, _, _, rfl, rfl, (B7.upd n1) _ _ ea7, A8, C9 (by rw [List.length_map]; show _ + 1 <= _; omega), fun a2 n2 => ⟨a2, A5f "faint" ft ++ A5f "cut" true, t7.trans ((B7.upd n1).trans (B7.upd n2)), by rw [A8, List.map_append]; rfl, by rw [List.length_append]; show _ + 1 <= _; omega, fun z => ?_, rfl⟩⟩⟩
       rw [decide_eq_true hc, <- hft]
       exact U9z z
     . rw [decide_eq_false hc, <- hft]
       have := U9z (l := l) (L := L) (cut := false) z
       rw [<- this]
       simp [A5f]
   . have hl : 0 < lf := by
       have : ¬ lf = 0 := fun z => hl (congrArg V.int z)
       omega
     have e2 := hn hl
     have ep : p = p' := (Prod.mk.inj e2).2
     exact ⟨a, zs, t7, ea7, by omega, by rw [<- ep]; exact (h1 hl).2, rfl⟩
 clear h0 h1 hn
 rintro σ' H9 ⟨a, zs, t9, ea9, lz9, hz, rfl⟩
 have ow9 := ow.same t9
 refine ⟨fun σ' H' => H' = H9 /\ A3s m f' p' = false /\ σ' = [sr d, si sg, sr rq, si i, si t, si lo, si L, si p', si f', si lf, sr a], ?_, ?_⟩
 . refine ⟨_, rfl, _, _, rfl, rfl, _, rfl, J0 (fun h => ?_) (fun h => U2 ⟨rfl, ?_, rfl⟩)⟩
   . have h : f' > 0 := h
     have eb : A3s m f' p' = decide (p' + B9r f' - 1 > m) := by unfold A3s; rw [if_neg (by omega)]
     rw [eb] at k0
     refine ⟨_, rfl, _, rfl, _, rfl, lg, _, rfl, int_text_fits lg, _, _, rfl, rfl, _, _, rfl, rfl, _, rfl, d, _, rfl, ow9.gMost, _, _, rfl, rfl, _, rfl, J0 (fun h2 => ?_) (fun h2 => ⟨rfl, by rw [eb]; exact decide_eq_false h2, rfl⟩)⟩
     rw [decide_eq_true (show p' + B9r f' - 1 > m from h2), if_pos rfl] at k0
     refine ⟨_, rfl, _, rfl, d, u, tt, r, y, l, m, up, tr, sg, rfl, ow9, fr, s0, s1, fun q' H' s' eq' => ⟨z3, fun a1 n1 => ⟨z2, fun a2 n2 => ?_⟩⟩⟩
     have u1 := B7.upd (o := .lst [.str "burst", .str "off", .str "cut"]) n1
     have u2 := B7.upd (o := .tup [.ref q', .ref a1]) n2
     exact k0 a2 Q43 _ (t9.trans (s'.trans (u1.trans u2))) ⟨q', a1, A8, (u1.trans u2) _ _ eq', u2 _ _ A8⟩ (by show 3 <= 10; decide) fun z => Iff.rfl
   . have h : ¬ f' > 0 := h
     unfold A3s
     rw [if_pos (by omega)]
 rintro σ' H10 ⟨rfl, e, rfl⟩
 rw [e, if_neg Bool.false_ne_true] at k0
 refine ⟨_, rfl, _, rfl, _, rfl, z4, fun t1 n1 => ⟨_, rfl, z2, fun q' nq => ?_⟩⟩
 have u1 := B7.upd (o := .tup (Nm.vs ⟨.plain, sg, f', p'⟩)) n1
 have u2 := B7.upd (o := .tup [.ref t1, .ref a]) nq
 exact k0 q' zs _ (t9.trans (u1.trans u2)) ⟨t1, a, A8, u2 _ _ A8, (u1.trans u2) _ _ ea9⟩ (by omega) hz
abbrev A5m : Stmt := (top 24)
abbrev C5j : Stmt := (top 40)
abbrev B6s : Stmt := (top 41)
abbrev C7b : Stmt := (top 44)
abbrev C7u : Stmt := (top 45)
deriving instance DecidableEq for Kd
def A0d (a b : Int) : Int := if a = b then 0 else 1
theorem C8g (a b : Int) : 0 <= A0d a b /\ A0d a b <= 1 := by
 unfold A0d
 split <;> decide
def A0z : Nm := ⟨.none, 0, 0, 0⟩
def A3q (v : Cv) (s i : Int) : Nm := ⟨.plain, s, 0, C5z (Y1 i (v.l - v.r + 1)) v.m⟩
def A7m (v : Cv) (x1 x2 : Nm) (i : Int) : Nm × List Str :=
 if x1.k = .end_ then (if x2.k = .end_ then (A0z, ["void"]) else (⟨.end_, A0d x1.s x2.s, 0, 0⟩, []))
 else if x2.k = .end_ then (A3q v (A0d x1.s x2.s) i, []) else if x1.f = 0 then (A0z, ["void"]) else (⟨.end_, A0d x1.s x2.s, 0, 0⟩, ["split"])
def A1z (x1 x2 : Nm) : Prop := x1.k = .plain /\ x2.k = .plain /\ x2.f ≠ 0
instance (x1 x2 : Nm) : Decidable (A1z x1 x2) := by unfold A1z; exact inferInstance
def Two (CN : Addr) (H : Hp) (n1 n2 : Addr) (x1 x2 : Nm) : Prop := V4 CN H n1 x1 /\ V4 CN H n2 x2
theorem Two.same {CN : Addr} {H H' : Hp} {n1 n2 : Addr} {x1 x2 : Nm} (h : Two CN H n1 n2 x1 x2) (e : B7 H H') : Two CN H' n1 n2 x1 x2 := ⟨h.1.same e, h.2.same e⟩
theorem J0b {CN : Addr} {H : Hp} {l n1 n2 : Addr} {x1 x2 : Nm} (h : Two CN H n1 n2 x1 x2) (hl : H l = some (.lst [.ref n1, .ref n2])) : Y1z CN H l [(n1, x1), (n2, x2)] := ⟨hl, List.forall_mem_cons.2 ⟨h.1, List.forall_mem_cons.2 ⟨h.2, by simp⟩⟩⟩
theorem A4z.same {CN CC CT : Addr} {H H1 : Hp} {c : Addr} {v : Cv} {b : Addr} {xs ys : List Str} {res : Nm × List Str} {Q : VK} {E : XK} (k : A4z CN CC CT H c v b xs ys res Q E) (s : B7 H H1) : A4z CN CC CT H1 c v b xs ys res Q E :=
 ⟨fun hn m a' H' x => k.1 hn m a' H' ((Exc.of s).trans x), fun z hz a' d H' x => k.2 z hz a' d H' ((Exc.of s).trans x)⟩
theorem Z8w (tr : List Str) : hit tr [] = none := by
 unfold hit
 rw [List.find?_eq_none]
 simp
theorem A4z.calm {CN CC CT : Addr} {H H1 : Hp} {c n a : Addr} {v : Cv} {b : Addr} {xs ys : List Str} {x : Nm} {Q : VK} {E : XK} (k : A4z CN CC CT H c v b xs ys (x, []) Q E) (ox : Y7 xs = xs) (s : B7 H H1) (hc : A4y CC H c v a b xs ys) (hn : V4 CN H1 n x) : Q (.ref n) H1 :=
 k.1 (Z8w _) n a H1 (Exc.of s) (by show A4y CC H1 c v a b (Y7 (xs ++ [])) ys; rw [List.append_nil, ox]; exact hc.same s) hn
theorem A0df {x : Nm} (h1 : x.k ≠ .none) (h2 : x.k ≠ .end_) : x.k = .plain := by
 cases h : x.k with
 | plain => rfl
 | end_ => exact absurd h h2
 | none => exact absurd h h1
def C8j (CN : Addr) : Sp := fun vs H Q _ => ∃ n1 n2 x1 x2, vs = [.ref n1, .ref n2] /\ Two CN H n1 n2 x1 x2 /\ Q (.int (A0d x1.s x2.s)) H
theorem V7x : B9 Q7 Q7 (A1 A5m) := scK
theorem V2r {f CN : Addr} {fd : FuncData} (D : Def K mg "unlike_sign" Q7 A5m f fd) (N : Num K mg CN) : sI P w K mg base 1 f fd Q7 (C8j CN) := by
 refine D.F.okE V7x (fun vs H Q E h => ?_) (fun X cdv A outer s H vs Q E hX hr hx h => ?_)
 . obtain ⟨n1, n2, x1, x2, rfl, _⟩ := h
   rfl
 subst hX
 obtain ⟨n1, n2, x1, x2, rfl, ⟨⟨d1, e1⟩, ⟨d2, e2⟩⟩, k⟩ := h
 refine ⟨_, (A9 (B8 (A0f (C6 C5f (G6 (pv 0) rfl) (G6 (pv 1) rfl) (C5 _)) A3 A3))), ?_⟩
 refine ⟨_, rfl, n1, CN, d1, _, _, rfl, e1, N.cl, N.n2, Z6z _ _ _ _, _, rfl, n2, CN, d2, _, _, rfl, e2, N.cl, N.n2, Z6z _ _ _ _, rfl, _, rfl, ?_⟩
 unfold A0d at k
 by_cases h : x1.s = x2.s
 . rw [if_pos h] at k
   exact C7w (congrArg V.int h) k
 rw [if_neg h] at k
 rw [decide_eq_false (fun z => h (by injection z) : ¬ V.int x1.s = V.int x2.s)]
 exact Z2 k
def J6c (CN CC CT : Addr) : Sp := fun vs H Q E => ∃ c v a b xs ys, vs = [.ref c] /\ A4y CC H c v a b xs ys /\ xs.length <= 900 /\ A4z CN CC CT H c v b xs ys (A0z, ["void"]) Q E
theorem A0eh : B9 ["context"] ["context"] (A1 C5j) := scK
theorem Z8h {f f1 CN CC CB CT CW : Addr} {cw : Wy -> Addr} {fd fd1 : FuncData} (D : Def K mg "void" ["context"] C5j f fd) (D_nothing : Def K mg "nothing" [] A1g f1 fd1) (G_nothing : sI P w K mg base 3 f1 fd1 [] (B4x CN)) (C : C0j P w K mg base CC CB CT CW cw) : sI P w K mg base 4 f fd ["context"] (J6c CN CC CT) := by
 refine D.F.okE A0eh (fun vs H Q E h => ?_) (fun X cdv A outer s H vs Q E hX hr hx h => ?_)
 . obtain ⟨c, v, a, b, xs, ys, rfl, _⟩ := h
   rfl
 subst hX
 obtain ⟨c, v, a, b, xs, ys, rfl, hc, lx, k⟩ := h
 obtain ⟨fR, fdR, mR, gR, bR⟩ := C.raised
 refine ⟨_, (A7 (Z5 (B5v (pv 0) C.c.cl mR gR hr bR .nil hx (A0 (U7 (A0 B0 A6)) A6))) (A9 (B8 (J7w D_nothing G_nothing hr hx)))), ?_⟩
 have z1 : 1 <= sizeLine := C9 (by decide)
 obtain ⟨dx, e⟩ := hc.ins
 refine ⟨_, rfl, c, dx, _, rfl, e, A0n _ _ _ _ _ _, z1, fun p np => ?_⟩
 have u := B7.upd (o := .lst [.str "void"]) np
 refine ⟨c, v.r, v.y, v.l, v.m, a, b, xs, ys, _, rfl, hc.same u, by omega, .inl ⟨p, ["void"], rfl, A8, by decide, by decide +kernel, fun hn a' H' x na ct => ?_, fun t ht a' d H' x na ct nd ed => ?_⟩⟩
 . exact ⟨rfl, fun n H2 nn s2 num => k.1 hn n a' H2 ((Exc.of u).trans (x.trans (Exc.of s2))) (U4.same ct s2) num⟩
 exact k.2 t ht a' d H' ((Exc.of u).trans x) ct ed
def U9n (CN CC CT : Addr) : Sp := fun vs H Q E => ∃ c v a b xs ys, ∃ sg : Int, vs = [.ref c, .int sg] /\ A4y CC H c v a b xs ys /\ xs.length <= 900 /\ 0 <= sg /\ sg <= 1 /\ A4z CN CC CT H c v b xs ys (⟨.end_, sg, 0, 0⟩, ["split"]) Q E
theorem Z7u : B9 Q5 Q5 (A1 B6s) := scK
theorem Y0k {f f1 CN CC CB CB' CT CW : Addr} {cw : Wy -> Addr} {fd fd1 : FuncData} (D : Def K mg "split_to_end" Q5 B6s f fd) (D_end : Def K mg "end" ["sign"] D2s f1 fd1) (G_end : sI P w K mg base 3 f1 fd1 ["sign"] (J1p K CN CB')) (C : C0j P w K mg base CC CB CT CW cw) : sI P w K mg base 4 f fd Q5 (U9n CN CC CT) := by
 refine D.F.okE Z7u (fun vs H Q E h => ?_) (fun X cdv A outer s H vs Q E hX hr hx h => ?_)
 . obtain ⟨c, v, a, b, xs, ys, sg, rfl, _⟩ := h
   rfl
 subst hX
 obtain ⟨c, v, a, b, xs, ys, sg, rfl, hc, lx, s0, s1, k⟩ := h
 obtain ⟨fR, fdR, mR, gR, bR⟩ := C.raised
 refine ⟨_, (A7 (Z5 (B5v (pv 0) C.c.cl mR gR hr bR .nil hx (A0 (U7 (A0 B0 A6)) A6))) (A9 (B8 (D4 D_end G_end hr hx (A0 (pv 1) A6))))), ?_⟩
 have z1 : 1 <= sizeLine := C9 (by decide)
 obtain ⟨dx, e⟩ := hc.ins
 refine ⟨_, rfl, c, dx, _, rfl, e, A0n _ _ _ _ _ _, z1, fun p np => ?_⟩
 have u := B7.upd (o := .lst [.str "split"]) np
 refine ⟨c, v.r, v.y, v.l, v.m, a, b, xs, ys, _, rfl, hc.same u, by omega, .inl ⟨p, ["split"], rfl, A8, by decide, by decide +kernel, fun hn a' H' x na ct => ?_, fun t ht a' d H' x na ct nd ed => ?_⟩⟩
 . exact ⟨_, rfl, _, rfl, .inl ⟨⟨sg, rfl, s0, s1⟩, fun n H2 nn s2 num => k.1 hn n a' H2 ((Exc.of u).trans (x.trans (Exc.of s2))) (U4.same ct s2) num⟩⟩
 exact k.2 t ht a' d H' ((Exc.of u).trans x) ct ed
def Y1e (CN : Addr) : Sp := fun vs H Q _ => ∃ n1 n2 x1 x2, vs = [.ref n1, .ref n2] /\ Two CN H n1 n2 x1 x2 /\ Q (.bl (decide (A1z x1 x2))) H
theorem A0er : B9 Q7 Q7 (A1 C7b) := scK
theorem Z6t {f CN : Addr} {fd : FuncData} (D : Def K mg "has_plain_quotient" Q7 C7b f fd) (N : Num K mg CN) : sI P w K mg base 1 f fd Q7 (Y1e CN) := by
 refine D.F.okE A0er (fun vs H Q E h => ?_) (fun X cdv A outer s H vs Q E hX hr hx h => ?_)
 . obtain ⟨n1, n2, x1, x2, rfl, _⟩ := h
   rfl
 subst hX
 obtain ⟨n1, n2, x1, x2, rfl, ⟨⟨d1, e1⟩, ⟨d2, e2⟩⟩, k⟩ := h
 refine ⟨_, (A9 (B8 (A4n (D9 D6 (G6 (pv 0) rfl) B0 (C5 _)) (A4n (D9 D6 (G6 (pv 1) rfl) B0 (C5 _)) (A2a (D9 C5f (G6 (pv 1) rfl) A3 (C5 _))))))), ?_⟩
 refine ⟨_, rfl, n1, CN, d1, _, _, rfl, e1, N.cl, N.n1, num1 _ _ _ _, rfl, _, rfl, J0 (fun h => ?_) (fun h => ?_)⟩
 . have h1 : x1.k = .plain := eqS (b := .plain) h
   refine ⟨_, rfl, n2, CN, d2, _, _, rfl, e2, N.cl, N.n1, num1 _ _ _ _, rfl, _, rfl, J0 (fun h' => ?_) (fun h' => ?_)⟩
   . have h2 : x2.k = .plain := eqS (b := .plain) h'
     refine ⟨_, rfl, n2, CN, d2, _, _, rfl, e2, N.cl, N.n3, V3f _ _ _ _, rfl, ?_⟩
     by_cases hf : x2.f = 0
     . rw [decide_eq_false (fun z => z.2.2 hf : ¬ A1z x1 x2)] at k
       rw [decide_eq_true (congrArg V.int hf)]
       exact k
     . have hp : A1z x1 x2 := ⟨h1, h2, hf⟩
       rw [decide_eq_true hp] at k
       rw [decide_eq_false (fun z => hf (V.int.inj z) : ¬ V.int x2.f = V.int 0)]
       exact k
   . rw [decide_eq_false (fun z => h' (by rw [z.2.1]; rfl) : ¬ A1z x1 x2)] at k
     exact k
 rw [decide_eq_false (fun z => h (by rw [z.1]; rfl) : ¬ A1z x1 x2)] at k
 exact k
def V8t (CN CC CT : Addr) : Sp := fun vs H Q E => ∃ c v a b xs ys n1 n2 x1 x2, ∃ i : Int, vs = [.ref c, .ref n1, .ref n2, .int i] /\ A4y CC H c v a b xs ys /\ v.Ok /\ xs.length <= 900 /\ Y7 xs = xs /\ Two CN H n1 n2 x1 x2 /\ A4z CN CC CT H c v b xs ys (A7m v x1 x2 i) Q E
theorem scOddQ : B9 ["context", "one", "other", "ideal", "sign"] Q38 (A1 C7u) := scK
theorem Z7k {f f1 f2 f3 f4 f5 CN CC CB' CT : Addr} {fd fd1 fd2 fd3 fd4 fd5 : FuncData} (D : Def K mg "odd_quotient" Q38 C7u f fd) (D_unlike_sign : Def K mg "unlike_sign" Q7 A5m f1 fd1) (G_unlike_sign : sI P w K mg base 1 f1 fd1 Q7 (C8j CN))
   (D_void : Def K mg "void" ["context"] C5j f2 fd2) (G_void : sI P w K mg base 4 f2 fd2 ["context"] (J6c CN CC CT)) (D_end : Def K mg "end" ["sign"] D2s f3 fd3) (G_end : sI P w K mg base 3 f3 fd3 ["sign"] (J1p K CN CB'))
   (D_nought : Def K mg "nought" Q10 A3r f4 fd4) (G_nought : sI P w K mg base 3 f4 fd4 Q10 (C7h CN CC)) (D_split_to_end : Def K mg "split_to_end" Q5 B6s f5 fd5) (G_split_to_end : sI P w K mg base 4 f5 fd5 Q5 (U9n CN CC CT)) (N : Num K mg CN) :
   sI P w K mg base 5 f fd Q38 (V8t CN CC CT) := by
 refine D.F.okE scOddQ (fun vs H Q E h => ?_) (fun X cdv A outer s H vs Q E hX hr hx h => ?_)
 . obtain ⟨c, v, a, b, xs, ys, n1, n2, x1, x2, i, rfl, _⟩ := h
   rfl
 subst hX
 obtain ⟨c, v, a, b, xs, ys, n1, n2, x1, x2, i, rfl, hc, ok, lx, ox, tw, k⟩ := h
 refine ⟨_, (A7 (D0 (i := 4) scOddQ.nd rfl (Or.inl rfl) (D4 D_unlike_sign G_unlike_sign hr hx (A0 (pv 1) (A0 (pv 2) A6)))) (A7 (G4 (C6 D6 (G6 (pv 1) rfl) B0 (C5 _)) (A9 (B8 (A0f (C6 D6 (G6 (pv 2) rfl) B0 (C5 _)) (D4 D_void G_void hr hx (A0 (pv 0) A6)) (D4 D_end G_end hr hx (A0 (pv 4) A6))))) D3) (A7 (G4 (C6 D6 (G6 (pv 2) rfl) B0 (C5 _)) (A9 (B8 (D4 D_nought G_nought hr hx (A0 (pv 0) (A0 (pv 4) (A0 (pv 3) A6)))))) D3) (A9 (B8 (A0f (C6 D6 (G6 (pv 1) rfl) A3 (C5 _)) (D4 D_void G_void hr hx (A0 (pv 0) A6)) (D4 D_split_to_end G_split_to_end hr hx (A0 (pv 0) (A0 (pv 4) A6))))))))), ?_⟩
 have us := C8g x1.s x2.s
 unfold A7m at k
 refine ⟨_, rfl, _, rfl, n1, n2, x1, x2, rfl, tw, ?_⟩
 obtain ⟨⟨d1, e1⟩, ⟨d2, e2⟩⟩ := id tw
 refine ⟨_, rfl, n1, CN, d1, _, _, rfl, e1, N.cl, N.n1, num1 _ _ _ _, rfl, _, rfl, J0 (fun h => ?_) (fun h => ?_)⟩
 . have h1 : x1.k = .end_ := eqS (b := .end_) h
   rw [if_pos h1] at k
   refine ⟨_, rfl, n2, CN, d2, _, _, rfl, e2, N.cl, N.n1, num1 _ _ _ _, rfl, _, rfl, J0 (fun h' => ?_) (fun h' => ?_)⟩
   . have h2 : x2.k = .end_ := eqS (b := .end_) h'
     rw [if_pos h2] at k
     exact ⟨_, rfl, c, v, a, b, xs, ys, rfl, hc, lx, k⟩
   . have h2 : x2.k ≠ .end_ := neS (b := .end_) h'
     rw [if_neg h2] at k
     exact ⟨_, rfl, _, rfl, .inl ⟨⟨_, rfl, us.1, us.2⟩, fun n H' nn s' num => k.calm ox s' hc num⟩⟩
 have h1 : x1.k ≠ .end_ := neS (b := .end_) h
 rw [if_neg h1] at k
 refine ⟨_, rfl, n2, CN, d2, _, _, rfl, e2, N.cl, N.n1, num1 _ _ _ _, rfl, _, rfl, J0 (fun h' => ?_) (fun h' => ?_)⟩
 . have h2 : x2.k = .end_ := eqS (b := .end_) h'
   rw [if_pos h2] at k
   exact ⟨_, rfl, _, rfl, _, rfl, c, v, a, b, xs, ys, A0d x1.s x2.s, i, rfl, hc, fun n H' nn s' num => k.calm ox s' hc num⟩
 have h2 : x2.k ≠ .end_ := neS (b := .end_) h'
 rw [if_neg h2] at k
 refine ⟨_, rfl, n1, CN, d1, _, _, rfl, e1, N.cl, N.n3, V3f _ _ _ _, rfl, _, rfl, J0 (fun h3 => ?_) (fun h3 => ?_)⟩
 . have h3 : x1.f = 0 := V.int.inj h3
   rw [if_pos h3] at k
   exact ⟨_, rfl, c, v, a, b, xs, ys, rfl, hc, lx, k⟩
 have h3 : ¬ x1.f = 0 := fun z => h3 (congrArg V.int z)
 rw [if_neg h3] at k
 exact ⟨_, rfl, _, rfl, c, v, a, b, xs, ys, _, rfl, hc, lx, us.1, us.2, k⟩
theorem Y1d {n1 n2 : Addr} {x1 x2 : Nm} : ([(n1, x1), (n2, x2)].any fun p => decide (p.2.k.str = ("none" : Str))) = decide (x1.k = .none \/ x2.k = .none) := by
 have q : ∀ k : Kd, decide (k.str = ("none" : Str)) = decide (k = .none) := fun k => by cases k <;> decide +kernel
 simp [q]
abbrev A4t : Stmt := (top 25)
abbrev A0s : Stmt := (top 46)
def B5j (x1 x2 : Nm) : Int := C5z x1.p x2.p
def B5s (x : Nm) (q : Int) : Int := x.f * C7 (x.p - q)
def D7m (x : Nm) (q : Int) : Int := if x.s = 1 then -B5s x q else B5s x q
def Y5 (x1 x2 : Nm) : Int := B5s x1 (B5j x1 x2) / B5s x2 (B5j x1 x2)
theorem G0c {x : Nm} {q : Int} (ok : x.Ok) : 0 <= B5s x q := Int.mul_nonneg ok.f0 (Int.le_of_lt (V1 _))
theorem C8b {x : Nm} {q : Int} (ok : x.Ok) : (if D7m x q < 0 then -D7m x q else D7m x q) = B5s x q := by
 have h := G0c (q := q) ok
 unfold D7m
 by_cases hs : x.s = 1
 . rw [if_pos hs]
   split <;> omega
 rw [if_neg hs]
 split <;> omega
theorem A0db (x1 x2 : Nm) : B5j x1 x2 <= x1.p /\ B5j x1 x2 <= x2.p /\ (B5j x1 x2 = x1.p \/ B5j x1 x2 = x2.p) := by
 unfold B5j C5z
 split <;> omega
theorem U8p {x : Nm} {q : Int} (ok : x.Ok) (hf : x.f ≠ 0) (h : x.p - q <= 400) : SzL (B5s x q) := by
 have tp := V1 (x.p - q)
 have f0 := ok.f0
 refine ⟨Int.mul_pos (by omega) tp, ?_⟩
 have e : C7 (x.p - q) <= C7 400 := A7c (by omega)
 have a : x.f * C7 (x.p - q) <= (10 ^ 60 - 1) * C7 400 := Int.mul_le_mul ok.f1 e (Int.le_of_lt tp) (by decide +kernel)
 exact Int.lt_of_le_of_lt a (by decide +kernel)
def D6g (CN : Addr) : Sp := fun vs H Q _ => ∃ n x, ∃ q : Int, vs = [.ref n, .int q] /\ V4 CN H n x /\ x.Ok /\ q <= x.p /\ x.p - q <= 400 /\ Q (.int (D7m x q)) H
theorem scWholeAt : B9 ["number", "power", "size"] Q39 (A1 A4t) := scK
theorem J6t {f f1 CN : Addr} {fd fd1 : FuncData} (D : Def K mg "whole_at" Q39 A4t f fd) (D_ten_to : Def K mg "ten_to" ["count"] A1v f1 fd1) (G_ten_to : sI P w K mg base 2 f1 fd1 ["count"] A7k) (N : Num K mg CN) : sI P w K mg base 3 f fd Q39 (D6g CN) := by
 refine D.F.okE scWholeAt (fun vs H Q E h => ?_) (fun X cdv A outer s H vs Q E hX hr hx h => ?_)
 . obtain ⟨n, x, q, rfl, _⟩ := h
   rfl
 subst hX
 obtain ⟨n, x, q, rfl, num, ok, h0, h1, k⟩ := h
 refine ⟨_, (A7 (D0 (i := 2) scWholeAt.nd rfl (Or.inl rfl) (B3 U9 (G6 (pv 0) rfl) (D4 D_ten_to G_ten_to hr hx (A0 (B3 V0 (G6 (pv 0) rfl) (pv 1)) A6)))) (A9 (B8 (A0f (C6 D6 (G6 (pv 0) rfl) A3 (C5 _)) (C7p B6f (pv 2)) (pv 2))))), ?_⟩
 obtain ⟨dn, en⟩ := id num
 have mul : IntMulOk x.f (C7 (x.p - q)) := by
   by_cases z : x.f = 0
   . rw [z]; exact B5n.ok (.inl ⟨by decide, by decide⟩)
   . exact B0p (Y0q ok.f0 z ok.f1) (by omega)
 refine ⟨_, rfl, n, CN, dn, _, _, rfl, en, N.cl, N.n3, V3f _ _ _ _, _, rfl, n, CN, dn, _, _, rfl, en, N.cl, N.n4, G9u _ _ _ _, _, rfl, _, _, rfl, rfl, (x.p - q).toNat, (by rw [Int.toNat_of_nonneg (by omega)]; rfl), by omega, _, _, rfl, rfl, mul, ?_⟩
 unfold D7m at k
 refine ⟨_, rfl, n, CN, dn, _, _, rfl, en, N.cl, N.n2, Z6z _ _ _ _, rfl, _, rfl, J0 (fun h => ?_) (fun h => ?_)⟩
 . rw [if_pos (V.int.inj h)] at k
   exact ⟨_, rfl, _, rfl, k⟩
 rw [if_neg fun z => h (congrArg V.int z)] at k
 exact ⟨_, rfl, k⟩
def C5h (CN : Addr) : Sp := fun vs H Q _ => ∃ n1 n2 x1 x2, vs = [.ref n1, .ref n2] /\ Two CN H n1 n2 x1 x2 /\ x1.Ok /\ x2.Ok /\ x2.f ≠ 0 /\ Q (.int (Y5 x1 x2)) H
theorem scWholePart : B9 ["one", "other", "low"] Q7 (A1 A0s) := scK
theorem D9g {f f1 CN : Addr} {fd fd1 : FuncData} (D : Def K mg "whole_part" Q7 A0s f fd) (D_whole_at : Def K mg "whole_at" Q39 A4t f1 fd1) (G_whole_at : sI P w K mg base 3 f1 fd1 Q39 (D6g CN)) (N : Num K mg CN) (O : Own mg) : sI P w K mg base 4 f fd Q7 (C5h CN) := by
 refine D.F.okE scWholePart (fun vs H Q E h => ?_) (fun X cdv A outer s H vs Q E hX hr hx h => ?_)
 . obtain ⟨n1, n2, x1, x2, rfl, _⟩ := h
   rfl
 subst hX
 obtain ⟨n1, n2, x1, x2, rfl, tw, o1, o2, hf, k⟩ := h
 refine ⟨_, (A7 (D0 (i := 2) scWholePart.nd rfl (Or.inl rfl) (G5 (C0h rfl) (by rfl) O.min_ boot_min (A0 (G6 (pv 0) rfl) (A0 (G6 (pv 1) rfl) A6)))) (A9 (B8 (B3 G3 (G5 J0m (by rfl) O.abs_ boot_abs (A0 (D4 D_whole_at G_whole_at hr hx (A0 (pv 0) (A0 (pv 2) A6))) A6)) (G5 J0m (by rfl) O.abs_ boot_abs (A0 (D4 D_whole_at G_whole_at hr hx (A0 (pv 1) (A0 (pv 2) A6))) A6)))))), ?_⟩
 obtain ⟨⟨d1, e1⟩, ⟨d2, e2⟩⟩ := id tw
 have p10 := o1.p0; have p11 := o1.p1; have p20 := o2.p0; have p21 := o2.p1
 obtain ⟨b1, b2, b3⟩ := A0db x1 x2
 refine ⟨_, rfl, n1, CN, d1, _, _, rfl, e1, N.cl, N.n4, G9u _ _ _ _, _, rfl, n2, CN, d2, _, _, rfl, e2, N.cl, N.n4, G9u _ _ _ _, _, _, rfl, ?_⟩
 show tSeq _ _ _ [sr n1, sr n2, si (B5j x1 x2)] H
 have hs := U8p (q := B5j x1 x2) o2 hf (by omega)
 refine ⟨_, rfl, _, rfl, n1, x1, B5j x1 x2, rfl, tw.1, o1, b1, by omega, _, rfl, _, rfl, _, rfl, n2, x2, B5j x1 x2, rfl, tw.2, o2, b2, by omega, _, rfl, _, _, rfl, rfl, ?_, ?_⟩
 . rw [C8b o2]
   exact ⟨hs.1, Nat.lt_trans hs.log (by decide)⟩
 rw [C8b o1, C8b o2]
 exact k
abbrev A0v : Stmt := (top 43)
def A5e (v : Cv) (x1 x2 : Nm) (L : Int) : Nm × List Str :=
 if x1.k = .none \/ x2.k = .none then (A0z, [])
 else if A1z x1 x2 then
   (if Y5 x1 x2 >= C7 v.r then (A0z, ["void"]) else if Y5 x1 x2 = 0 then (A3q v (A0d x1.s x2.s) (Y1 (x1.p - x2.p) 0), []) else A1b v (A0d x1.s x2.s) (Y5 x1 x2) 1 0 L (Y1 (x1.p - x2.p) 0))
 else A7m v x1 x2 0
def Pre (x1 x2 : Nm) (L : Int) : Prop := A1z x1 x2 -> Y5 x1 x2 ≠ 0 -> A2t (Y5 x1 x2) 1 (0 - L)
theorem D9z {x1 x2 : Nm} (o1 : x1.Ok) (o2 : x2.Ok) : 0 <= Y5 x1 x2 /\ Y5 x1 x2 < C7 500 := by
 have p10 := o1.p0; have p11 := o1.p1; have p20 := o2.p0; have p21 := o2.p1
 obtain ⟨b1, b2, b3⟩ := A0db x1 x2
 have w0 : 0 <= Y5 x1 x2 := Int.ediv_nonneg (G0c o1) (G0c o2)
 have wl : Y5 x1 x2 <= B5s x1 (B5j x1 x2) := Int.ediv_le_self _ (G0c o1)
 refine ⟨w0, Int.lt_of_le_of_lt wl ?_⟩
 by_cases z : x1.f = 0
 . unfold B5s; rw [z, Int.zero_mul]; exact V1 _
 exact (U8p o1 z (by omega)).2
theorem max0 (i : Int) : (if (0 : Int) > i then 0 else i) = Y1 i 0 := rfl
def C4v (CN CC CT : Addr) : Sp := fun vs H Q E => ∃ c v a b xs ys n1 n2 x1 x2 L, vs = [.ref c, .ref n1, .ref n2] /\ A4y CC H c v a b xs ys /\ v.Ok /\ xs.length <= 900 /\ Y7 xs = xs /\ Two CN H n1 n2 x1 x2 /\ x1.Ok /\ x2.Ok /\ Pre x1 x2 L /\ A4z CN CC CT H c v b xs ys (A5e v x1 x2 L) Q E
theorem scWholeOver : B9 ["context", "one", "other", "whole", "sign", "ideal"] Q40 (A1 A0v) := scK
theorem D9t {f f1 f2 f3 f4 f5 f6 f7 f8 f9 g1 g2 fR CN CC CB CB' CT CW CR CE : Addr} {cw : Wy -> Addr} {fd fd1 fd2 fd3 fd4 fd5 fd6 fd7 fd8 fd9 gd1 gd2 fdR : FuncData} {d0 : Value} {gP : List Value -> List Value -> List Value} {vP : List V -> List V -> List V} (D : Def K mg "whole_over" Q40 A0v f fd) (D_need_numbers : Def K mg "need_numbers" ["things"] A7e f1 fd1) (G_need_numbers : sI P w K mg base 2 f1 fd1 ["things"] (J0k K CN CB'))
   (D_some_of_kind : Def K mg "some_of_kind" Q25 B6e f2 fd2) (G_some_of_kind : sI P w K mg base 1 f2 fd2 Q25 (V0a CN)) (D_has_plain_quotient : Def K mg "has_plain_quotient" Q7 C7b f3 fd3) (G_has_plain_quotient : sI P w K mg base 1 f3 fd3 Q7 (Y1e CN))
   (D_odd_quotient : Def K mg "odd_quotient" Q38 C7u f4 fd4) (G_odd_quotient : sI P w K mg base 5 f4 fd4 Q38 (V8t CN CC CT)) (D_unlike_sign : Def K mg "unlike_sign" Q7 A5m f5 fd5) (G_unlike_sign : sI P w K mg base 1 f5 fd5 Q7 (C8j CN)) (D_nought : Def K mg "nought" Q10 A3r f6 fd6) (G_nought : sI P w K mg base 3 f6 fd6 Q10 (C7h CN CC))
   (D_settled : Def K mg "settled" Q33 A4k f7 fd7) (G_settled : sI P w K mg base 6 f7 fd7 Q33 (D6x CN CC CT CR)) (D_nothing : Def K mg "nothing" [] A1g f8 fd8) (G_nothing : sI P w K mg base 3 f8 fd8 [] (B4x CN)) (D_void : Def K mg "void" ["context"] C5j f9 fd9) (G_void : sI P w K mg base 4 f9 fd9 ["context"] (J6c CN CC CT))
   (D_whole_part : Def K mg "whole_part" Q7 A0s g1 gd1) (G_whole_part : sI P w K mg base 4 g1 gd1 Q7 (C5h CN)) (D_ten_to : Def K mg "ten_to" ["count"] A1v g2 gd2) (G_ten_to : sI P w K mg base 2 g2 gd2 ["count"] A7k)
   (C : C0j P w K mg base CC CB CT CW cw) (N : Num K mg CN) (MR : A0dh P w K mg base CR fR fdR d0 gP vP) (R : J8k K mg CR CE) (O : Own mg) : sI P w K mg base 7 f fd Q40 (C4v CN CC CT) := by
 refine D.F.okE scWholeOver (fun vs H Q E h => ?_) (fun X cdv A outer s H vs Q E hX hr hx h => ?_)
 . obtain ⟨c, v, a, b, xs, ys, n1, n2, x1, x2, L, rfl, _⟩ := h
   rfl
 subst hX
 obtain ⟨c, v, a, b, xs, ys, n1, n2, x1, x2, L, rfl, hc, ok, lx, ox, tw, o1, o2, hL, k⟩ := h
 have V2 : U0 [.int 0] [d0] := .cons MR.r0 .nil
 refine ⟨_, (A7 (Z5 (D4 D_need_numbers G_need_numbers hr hx (A0 (U7 (A0 (pv 1) (A0 (pv 2) A6))) A6))) (A7 (G4 (A0g (D4 D_some_of_kind G_some_of_kind hr hx (A0 (U7 (A0 (pv 1) (A0 (pv 2) A6))) (A0 B0 A6)))) (A9 (B8 (J7w D_nothing G_nothing hr hx))) D3) (A7 (G4 (A7s (A0g (D4 D_has_plain_quotient G_has_plain_quotient hr hx (A0 (pv 1) (A0 (pv 2) A6))))) (A9 (B8 (D4 D_odd_quotient G_odd_quotient hr hx (A0 (pv 0) (A0 (pv 1) (A0 (pv 2) (A0 A3 A6))))))) D3) (A7 (D0 (i := 3) scWholeOver.nd rfl (Or.inl rfl) (D4 D_whole_part G_whole_part hr hx (A0 (pv 1) (A0 (pv 2) A6)))) (A7 (G4 (C6 J1r (pv 3) (D4 D_ten_to G_ten_to hr hx (A0 (G6 (pv 0) rfl) A6)) (C5 _)) (A9 (B8 (D4 D_void G_void hr hx (A0 (pv 0) A6)))) D3) (A7 (D0 (i := 4) scWholeOver.nd rfl (Or.inl rfl) (D4 D_unlike_sign G_unlike_sign hr hx (A0 (pv 1) (A0 (pv 2) A6)))) (A7 (D0 (i := 5) scWholeOver.nd rfl (Or.inl rfl) (G5 (V9 rfl) (by rfl) O.max_ boot_max (A0 (B3 V0 (G6 (pv 1) rfl) (G6 (pv 2) rfl)) (A0 A3 A6)))) (A7 (G4 (C6 D6 (pv 3) A3 (C5 _)) (A9 (B8 (D4 D_nought G_nought hr hx (A0 (pv 0) (A0 (pv 4) (A0 (pv 5) A6)))))) D3) (A9 (B8 (D4 D_settled G_settled hr hx (A0 (pv 0) (A0 (pv 4) (A0 (C7e MR.m MR.g hr R.g MR.b2 V2 hx (A0 (pv 3) (A0 A3 A6))) (A0 (pv 5) A6))))))))))))))), ?_⟩
 have z2 : 2 <= sizeLine := C9 (by decide)
 unfold A5e at k
 refine ⟨_, rfl, _, rfl, z2, fun l nl => ?_⟩
 have u := B7.upd (o := .lst [.ref n1, .ref n2]) nl
 refine ⟨l, [(n1, x1), (n2, x2)], rfl, (J0b (tw.same u) A8).n, .inl ⟨A8, ?_⟩⟩
 refine ⟨_, rfl, _, rfl, z2, fun l2 nl2 => ?_⟩
 have u2 := u.trans (B7.upd (o := .lst [.ref n1, .ref n2]) nl2)
 refine ⟨l2, _, _, rfl, J0b (tw.same u2) A8, (by show 2 <= 1000; decide), fun H3 s3 => ⟨_, rfl, ?_⟩⟩
 rw [Y1d]
 have sm3 := u2.trans s3
 have tw3 := tw.same sm3
 have hc3 := hc.same sm3
 refine J0 (fun hn => ?_) (fun hn => ?_)
 . rw [if_pos hn] at k
   exact ⟨rfl, fun n H' nn s' num => k.calm ox (sm3.trans s') hc num⟩
 rw [if_neg hn] at k
 refine ⟨_, rfl, _, rfl, n1, n2, x1, x2, rfl, tw3, _, rfl, ?_⟩
 by_cases hq : A1z x1 x2
 . rw [if_pos hq] at k
   rw [decide_eq_true hq]
   refine U2 ?_
   have r1 := ok.r1; have r2 := ok.r2
   obtain ⟨w0, w1⟩ := D9z o1 o2
   have us := C8g x1.s x2.s
   have p10 := o1.p0; have p11 := o1.p1; have p20 := o2.p0; have p21 := o2.p1
   obtain ⟨dx, ec⟩ := hc3.ins
   refine ⟨_, rfl, _, rfl, n1, n2, x1, x2, rfl, tw3, o1, o2, hq.2.2, ?_⟩
   refine ⟨_, rfl, _, rfl, c, CC, dx, _, _, rfl, ec, C.c.cl, C.c.n_room, A6m _ _ _ _ _ _, v.r.toNat, (by rw [Int.toNat_of_nonneg (by omega)]; rfl), by omega, _, _, rfl, rfl, _, rfl, J0 (fun h5 => ?_) (fun h5 => ?_)⟩
   . have h5 : Y5 x1 x2 >= C7 v.r := h5
     rw [if_pos h5] at k
     exact ⟨_, rfl, c, v, a, b, xs, ys, rfl, hc3, lx, k.same sm3⟩
   have h5 : ¬ Y5 x1 x2 >= C7 v.r := h5
   rw [if_neg h5] at k
   refine ⟨_, rfl, _, rfl, n1, n2, x1, x2, rfl, tw3, ?_⟩
   obtain ⟨⟨d1, e1⟩, ⟨d2, e2⟩⟩ := id tw3
   refine ⟨_, rfl, n1, CN, d1, _, _, rfl, e1, N.cl, N.n4, G9u _ _ _ _, _, rfl, n2, CN, d2, _, _, rfl, e2, N.cl, N.n4, G9u _ _ _ _, _, _, rfl, rfl, _, _, rfl, ?_⟩
   rw [max0]
   have mb : 0 <= Y1 (x1.p - x2.p) 0 /\ Y1 (x1.p - x2.p) 0 <= 400 := by unfold Y1; split <;> omega
   refine ⟨_, rfl, rfl, _, rfl, J0 (fun hf => ?_) (fun hf => ?_)⟩
   . have hf : Y5 x1 x2 = 0 := V.int.inj hf
     rw [if_pos hf] at k
     exact ⟨_, rfl, _, rfl, _, rfl, c, v, a, b, xs, ys, A0d x1.s x2.s, Y1 (x1.p - x2.p) 0, rfl, hc3, fun n H' nn s' num => k.calm ox (sm3.trans s') hc num⟩
   . have hf : ¬ Y5 x1 x2 = 0 := fun z => hf (congrArg V.int z)
     rw [if_neg hf] at k
     have zl : SzL (Y5 x1 x2) := ⟨by omega, w1⟩
     have hl := hL hq hf
     have ls := C7x zl.sz J7k hl
     have fn := V8j (v := v) ok ls.1 ls.2 (by decide) (by decide)
     refine ⟨_, rfl, _, rfl, _, rfl, fun q dq m1 m2 me => A0mm m1 m2 me fun H4 s4 ra => ⟨rfl, ?_⟩⟩
     have sm4 := sm3.trans s4
     exact ⟨_, rfl, c, v, a, b, xs, ys, q, Y5 x1 x2, 1, 0, L, A0d x1.s x2.s, Y1 (x1.p - x2.p) 0, rfl, hc.same sm4, ok, lx, ra, zl.sz, J7k, hl, fn.1, fn.2, us.1, us.2, k.same sm4⟩
 rw [if_neg hq] at k
 rw [decide_eq_false hq]
 refine Z2 ?_
 exact ⟨_, rfl, _, rfl, _, rfl, c, v, a, b, xs, ys, n1, n2, x1, x2, 0, rfl, hc3, ok, lx, ox, tw3, k.same sm3⟩
abbrev C7k : Stmt := (top 81)
theorem kd_str {a b : Kd} : V.str a.str = V.str b.str ↔ a = b := ⟨fun h => by cases a <;> cases b <;> first | rfl | (exfalso; revert h; decide +kernel), fun h => by rw [h]⟩
theorem Z7m {a b : Kd} : inV (.str "none") [.str a.str, .str b.str] = decide (a = .none \/ b = .none) := by cases a <;> cases b <;> decide +kernel
theorem U9h {a b : Int} : (if (!decide (V.int a = V.int b)) = true then (1 : Int) else 0) = A0d a b := by
 unfold A0d
 by_cases h : a = b
 . rw [if_pos h, decide_eq_true (congrArg V.int h)]; rfl
 rw [if_neg h, decide_eq_false fun z => h (V.int.inj z)]; rfl
theorem C4x (x : Nm) (j : Nat) (hj : j < 4) : atI x.vs (j : Int) = some (x.vs.getD j .non) := J9 (j := j) (by
 rcases (by omega : j = 0 \/ j = 1 \/ j = 2 \/ j = 3) with rfl | rfl | rfl | rfl <;> rfl)
theorem oddE {v : Cv} {x1 x2 : Nm} {i : Int} (h1 : x1.k = .end_) (h2 : x2.k = .end_) : A7m v x1 x2 i = ((A0z, (["void"] : List Str)) : Nm × List Str) := by
 unfold A7m
 rw [if_pos h1, if_pos h2]
theorem oddZ {v : Cv} {x1 x2 : Nm} {i : Int} (h : x1.k = x2.k) (hne : ¬ (x1.k = .end_ /\ x2.k = .end_)) (hf : x1.f = 0) : A7m v x1 x2 i = ((A0z, (["void"] : List Str)) : Nm × List Str) := by
 have h1 : x1.k ≠ .end_ := fun z => hne ⟨z, h ▸ z⟩
 have h2 : x2.k ≠ .end_ := fun z => h1 (h.trans z)
 unfold A7m
 rw [if_neg h1, if_neg h2, if_pos hf]
def V8a : Sp := fun vs H Q _ => ∃ d u t r y l m up tr q1 q2 x1 x2, ∃ i : Int, vs = [.ref d, .ref q1, .ref q2, .int i] /\ V7 H d u t r y l m up tr /\ A3t r l m /\ H q1 = some (.tup (Nm.vs x1)) /\ H q2 = some (.tup (Nm.vs x2)) /\ x1.Wf /\ x2.Wf /\
 (x1.k = .none \/ x2.k = .none -> ∀ q H', B7 H H' -> B8u H' q A0z [] -> Q (.ref q) H') /\
 (¬ (x1.k = .none \/ x2.k = .none) -> ¬ A1z x1 x2 -> ∀ q H', B7 H H' -> B8u H' q (A7m ⟨r, y, l, m⟩ x1 x2 i).1 (A7m ⟨r, y, l, m⟩ x1 x2 i).2 -> Q (.ref q) H') /\ (A1z x1 x2 -> ∀ H', B7 H H' -> Q .non H')
theorem scLOdd : B9 ["_law_own_here", "_law_one", "_law_other", "_law_ideal", "_law_sign"] Q41 (A1 C7k) := scK
theorem Z5z {f f1 : Addr} {fd fd1 : FuncData} (D : Def K mg "_law_odd_quotient" Q41 C7k f fd) (D_l_nought : Def K mg "_law_nought" Q13 A2u f1 fd1) (G_l_nought : sI P w K mg base 1 f1 fd1 Q13 B9y) (O : Own mg) :
   sI P w K mg base 2 f fd Q41 V8a := by
 refine D.F.okE scLOdd (fun vs H Q E h => ?_) (fun X cdv A outer s H vs Q E hX hr hx h => ?_)
 . obtain ⟨d, u, t, r, y, l, m, up, tr, q1, q2, x1, x2, i, rfl, _⟩ := h
   rfl
 subst hX
 obtain ⟨d, u, t, r, y, l, m, up, tr, q1, q2, x1, x2, i, rfl, ow, fr, e1, e2, w1, w2, kN, kO, kP⟩ := h
 refine ⟨_, (A7 (B4 (D0 (i := 4) scLOdd.nd rfl (Or.inl rfl) (V5 B4t (by rfl) O.int_ boot_int (A0 (D9 C5f (J1 G9 (pv 1) A3 (fun _ _ => rfl)) (J1 G9 (pv 2) A3 (fun _ _ => rfl)) (C5 _)) A6)))) (A7 (B4 (G4 (C6 A4c B0 (U1 (A0 (J1 G9 (pv 1) A3 (fun _ _ => rfl)) (A0 (J1 G9 (pv 2) A3 (fun _ _ => rfl)) A6))) (by rfl)) (A9 (B8 (U1 (A0 (U1 (A0 B0 (A0 A3 (A0 A3 (A0 A3 A6))))) (A0 (U7 A6) A6))))) D3)) (A7 (B4 (G4 (PW.pt (C5a (PW.pt (A1h (C6 D6 (J1 G9 (pv 1) A3 (fun _ _ => rfl)) B0 (C5 _)) (A1e (C6 D6 (J1 G9 (pv 2) A3 (fun _ _ => rfl)) B0 (C5 _))))) (B0t (PW.pt (A1h (C6 D6 (J1 G9 (pv 1) A3 (fun _ _ => rfl)) (J1 G9 (pv 2) A3 (fun _ _ => rfl)) (C5 _)) (A1h (C6 D6 (J1 G9 (pv 1) A3 (fun _ _ => rfl)) A3 (C5 _)) (A1e (C6 D6 (J1 G9 (pv 2) A3 (fun _ _ => rfl)) A3 (C5 _))))))))) (A9 (B8 (U1 (A0 (U1 (A0 B0 (A0 A3 (A0 A3 (A0 A3 A6))))) (A0 (U7 (A0 B0 A6)) A6))))) D3)) (A7 (B4 (G4 (C6 D6 (J1 G9 (pv 1) A3 (fun _ _ => rfl)) B0 (C5 _)) (A9 (B8 (U1 (A0 (U1 (A0 B0 (A0 (pv 4) (A0 A3 (A0 A3 A6))))) (A0 (U7 A6) A6))))) D3)) (A7 (B4 (G4 (C6 D6 (J1 G9 (pv 2) A3 (fun _ _ => rfl)) B0 (C5 _)) (A9 (B8 (U1 (A0 (D4 D_l_nought G_l_nought hr hx (A0 (pv 0) (A0 (pv 4) (A0 (pv 3) A6)))) (A0 (U7 A6) A6))))) D3)) (A7 (B4 (G4 (C6 D6 (J1 G9 (pv 2) A3 (fun _ _ => rfl)) A3 (C5 _)) (A9 (B8 (U1 (A0 (U1 (A0 B0 (A0 (pv 4) (A0 A3 (A0 A3 A6))))) (A0 (U7 (A0 B0 A6)) A6))))) D3)) (A9 (B8 J6k)))))))), ?_⟩
 have z0 : 0 <= sizeLine := Nat.zero_le _
 have z1 : 1 <= sizeLine := C9 (by decide)
 have z2 : 2 <= sizeLine := C9 (by decide)
 have z4 : 4 <= sizeLine := C9 (by decide)
 have i1 := C4x x1
 have i2 := C4x x2
 refine ⟨fun σ' H' => H' = H /\ σ' = [sr d, sr q1, sr q2, si i, si (A0d x1.s x2.s)], ?_, ?_⟩
 . refine ⟨_, rfl, q1, _, _, _, rfl, rfl, SqT.of e1, i1 1 (by decide), _, rfl, q2, _, _, _, rfl, rfl, SqT.of e2, i2 1 (by decide), rfl, .inr ⟨_, rfl, rfl, ?_⟩⟩
   rw [<- U9h]
   rfl
 rintro σ' H1 ⟨rfl, rfl⟩
 refine ⟨fun σ' H' => B7 H1 H' /\ ¬ (x1.k = .none \/ x2.k = .none) /\ σ' = [sr d, sr q1, sr q2, si i, si (A0d x1.s x2.s)], ?_, ?_⟩
 . refine ⟨_, rfl, q1, _, _, _, rfl, rfl, SqT.of e1, i1 0 (by decide), _, rfl, q2, _, _, _, rfl, rfl, SqT.of e2, i2 0 (by decide), z2, fun p np => ⟨p, _, rfl, .inr (SqT.of A8), rfl, rfl, _, rfl, ?_⟩⟩
   have up1 := B7.upd (o := .tup [.str x1.k.str, .str x2.k.str]) np
   show if inV (.str "none") [.str x1.k.str, .str x2.k.str] = true then _ else _
   rw [Z7m]
   refine J0 (fun h => ?_) (fun h => ⟨up1, h, rfl⟩)
   refine ⟨z4, fun a na => ⟨z0, fun b nb => ⟨z2, fun q nq => ?_⟩⟩⟩
   have u1 := B7.upd (o := .tup A0z.vs) na
   have u2 := B7.upd (o := .lst []) nb
   have u3 := B7.upd (o := .tup [.ref a, .ref b]) nq
   exact kN h q _ (up1.trans (u1.trans (u2.trans u3))) ⟨a, b, A8, (u2.trans u3) _ _ A8, u3 _ _ A8⟩
 rintro σ' H2 ⟨s2, hn, rfl⟩
 have kO := kO hn
 have ow2 := ow.same s2
 have e1 := s2 _ _ e1
 have e2 := s2 _ _ e2
 have hn1 : x1.k ≠ .none := fun z => hn (.inl z)
 have hn2 : x2.k ≠ .none := fun z => hn (.inr z)
 have due1 : ∀ {H' : Hp} {x : Nm} {z : Str}, B7 H1 H' -> (∀ q H', B7 H1 H' -> B8u H' q x [z] -> Q (.ref q) H') -> ∀ a, H' a = none -> ∀ b, upd H' a (.tup x.vs) b = none -> ∀ q, upd (upd H' a (.tup x.vs)) b (.lst [.str z]) q = none -> Q (.ref q) (upd (upd (upd H' a (.tup x.vs)) b (.lst [.str z])) q (.tup [.ref a, .ref b])) := fun s k a na b nb q nq =>
   k q _ (s.trans ((B7.upd na).trans ((B7.upd nb).trans (B7.upd nq)))) ⟨a, b, A8, ((B7.upd nb).trans (B7.upd nq)) _ _ A8, (B7.upd nq) _ _ A8⟩
 have due0 : ∀ {H' : Hp} {x : Nm}, B7 H1 H' -> (∀ q H', B7 H1 H' -> B8u H' q x [] -> Q (.ref q) H') -> ∀ a, H' a = none -> ∀ b, upd H' a (.tup x.vs) b = none -> ∀ q, upd (upd H' a (.tup x.vs)) b (.lst []) q = none -> Q (.ref q) (upd (upd (upd H' a (.tup x.vs)) b (.lst [])) q (.tup [.ref a, .ref b])) := fun s k a na b nb q nq =>
   k q _ (s.trans ((B7.upd na).trans ((B7.upd nb).trans (B7.upd nq)))) ⟨a, b, A8, ((B7.upd nb).trans (B7.upd nq)) _ _ A8, (B7.upd nq) _ _ A8⟩
 refine ⟨fun σ' H' => H' = H2 /\ ¬ (x1.k = .end_ /\ x2.k = .end_) /\ ¬ (x1.k = x2.k /\ x1.f = 0 /\ x2.f = 0) /\ σ' = [sr d, sr q1, sr q2, si i, si (A0d x1.s x2.s)], ?_, ?_⟩
 . by_cases hE : x1.k = .end_
   . by_cases hE2 : x2.k = .end_
     . exact ⟨_, rfl, q1, _, _, _, rfl, rfl, SqT.of e1, i1 0 (by decide), rfl, _, rfl, A2w (kd_str (b := .end_) |>.mpr hE) ⟨_, rfl, q2, _, _, _, rfl, rfl, SqT.of e2, i2 0 (by decide), rfl, _, rfl, A2w (kd_str (b := .end_) |>.mpr hE2) (Z2 ⟨z4, fun a na => ⟨z1, fun b nb => ⟨z2, fun q nq => due1 (x := A0z) (z := "void") s2 (fun q H' s du => kO (fun z => by rw [z.1] at hE; cases hE) q H' s (by rw [oddE hE hE2]; exact du)) a na b nb q nq⟩⟩⟩)⟩⟩
     . have hne : ¬ (x1.k = .end_ /\ x2.k = .end_) := fun z => hE2 z.2
       exact ⟨_, rfl, q1, _, _, _, rfl, rfl, SqT.of e1, i1 0 (by decide), rfl, _, rfl, A2w (kd_str (b := .end_) |>.mpr hE) ⟨_, rfl, q2, _, _, _, rfl, rfl, SqT.of e2, i2 0 (by decide), rfl, _, rfl, Z3 (fun z => hE2 (kd_str (b := .end_) |>.mp z)) ⟨_, rfl, q1, _, _, _, rfl, rfl, SqT.of e1, i1 0 (by decide), _, rfl, q2, _, _, _, rfl, rfl, SqT.of e2, i2 0 (by decide), rfl, _, rfl, J0 (fun h3 => ⟨_, rfl, q1, _, _, _, rfl, rfl, SqT.of e1, i1 2 (by decide), rfl, _, rfl, J0 (fun h4 => ⟨_, rfl, q2, _, _, _, rfl, rfl, SqT.of e2, i2 2 (by decide), rfl, _, rfl, J0 (fun h5 => ⟨z4, fun a na => ⟨z1, fun b nb => ⟨z2, fun q nq => due1 (x := A0z) (z := "void") s2 (fun q H' s du => kO (fun z => z.2.2 (V.int.inj h5)) q H' s (by rw [oddZ (kd_str.mp h3) hne (V.int.inj h4)]; exact du)) a na b nb q nq⟩⟩⟩) (fun h5 => ⟨rfl, hne, fun z => h5 (congrArg V.int z.2.2), rfl⟩)⟩) (fun h4 => U2 ⟨rfl, hne, fun z => h4 (congrArg V.int z.2.1), rfl⟩)⟩) (fun h3 => U2 ⟨rfl, hne, fun z => h3 (kd_str.mpr z.1), rfl⟩)⟩⟩⟩
   . have hne : ¬ (x1.k = .end_ /\ x2.k = .end_) := fun z => hE z.1
     exact ⟨_, rfl, q1, _, _, _, rfl, rfl, SqT.of e1, i1 0 (by decide), rfl, _, rfl, Z3 (fun z => hE (kd_str (b := .end_) |>.mp z)) (U2 ⟨_, rfl, q1, _, _, _, rfl, rfl, SqT.of e1, i1 0 (by decide), _, rfl, q2, _, _, _, rfl, rfl, SqT.of e2, i2 0 (by decide), rfl, _, rfl, J0 (fun h3 => ⟨_, rfl, q1, _, _, _, rfl, rfl, SqT.of e1, i1 2 (by decide), rfl, _, rfl, J0 (fun h4 => ⟨_, rfl, q2, _, _, _, rfl, rfl, SqT.of e2, i2 2 (by decide), rfl, _, rfl, J0 (fun h5 => ⟨z4, fun a na => ⟨z1, fun b nb => ⟨z2, fun q nq => due1 (x := A0z) (z := "void") s2 (fun q H' s du => kO (fun z => z.2.2 (V.int.inj h5)) q H' s (by rw [oddZ (kd_str.mp h3) hne (V.int.inj h4)]; exact du)) a na b nb q nq⟩⟩⟩) (fun h5 => ⟨rfl, hne, fun z => h5 (congrArg V.int z.2.2), rfl⟩)⟩) (fun h4 => U2 ⟨rfl, hne, fun z => h4 (congrArg V.int z.2.1), rfl⟩)⟩) (fun h3 => U2 ⟨rfl, hne, fun z => h3 (kd_str.mpr z.1), rfl⟩)⟩)⟩
 rintro σ' H3 ⟨rfl, hne, hnz, rfl⟩
 refine ⟨fun σ' H' => H' = H3 /\ x1.k ≠ .end_ /\ σ' = [sr d, sr q1, sr q2, si i, si (A0d x1.s x2.s)], ?_, ?_⟩
 . refine ⟨_, rfl, q1, _, _, _, rfl, rfl, SqT.of e1, i1 0 (by decide), rfl, _, rfl, J0 (fun h => ?_) (fun h => ⟨rfl, fun z => h (kd_str (b := .end_) |>.mpr z), rfl⟩)⟩
   have h1 : x1.k = .end_ := kd_str (b := .end_) |>.mp h
   have h2 : x2.k ≠ .end_ := fun z => hne ⟨h1, z⟩
   refine ⟨_, rfl, z4, fun a na => ⟨z0, fun b nb => ⟨z2, fun q nq => due0 (x := ⟨.end_, A0d x1.s x2.s, 0, 0⟩) s2 (fun q H' s du => kO (fun z => by rw [z.1] at h1; cases h1) q H' s ?_) a na b nb q nq⟩⟩⟩
   unfold A7m
   rw [if_pos h1, if_neg h2]
   exact du
 rintro σ' H4 ⟨rfl, h1, rfl⟩
 refine ⟨fun σ' H' => H' = H4 /\ x2.k ≠ .end_ /\ σ' = [sr d, sr q1, sr q2, si i, si (A0d x1.s x2.s)], ?_, ?_⟩
 . refine ⟨_, rfl, q2, _, _, _, rfl, rfl, SqT.of e2, i2 0 (by decide), rfl, _, rfl, J0 (fun h => ?_) (fun h => ⟨rfl, fun z => h (kd_str (b := .end_) |>.mpr z), rfl⟩)⟩
   have h2 : x2.k = .end_ := kd_str (b := .end_) |>.mp h
   refine ⟨_, rfl, _, rfl, _, rfl, d, u, t, r, y, l, m, up, tr, A0d x1.s x2.s, i, rfl, ow2, fr, fun a na => ⟨z0, fun b nb => ⟨z2, fun q nq => due0 (x := A3q ⟨r, y, l, m⟩ (A0d x1.s x2.s) i) s2 (fun q H' s du => kO (fun z => by rw [z.2.1] at h2; cases h2) q H' s ?_) a na b nb q nq⟩⟩⟩
   unfold A7m
   rw [if_neg h1, if_pos h2]
   exact du
 rintro σ' H5 ⟨rfl, h2, rfl⟩
 have p1 := A0df hn1 h1
 have p2 := A0df hn2 h2
 refine ⟨fun σ' H' => H' = H5 /\ x2.f ≠ 0 /\ σ' = [sr d, sr q1, sr q2, si i, si (A0d x1.s x2.s)], ?_, ?_⟩
 . refine ⟨_, rfl, q2, _, _, _, rfl, rfl, SqT.of e2, i2 2 (by decide), rfl, _, rfl, J0 (fun h => ?_) (fun h => ⟨rfl, fun z => h (congrArg V.int z), rfl⟩)⟩
   have h3 : x2.f = 0 := V.int.inj h
   have h4 : x1.f ≠ 0 := fun z => hnz ⟨p1.trans p2.symm, z, h3⟩
   refine ⟨_, rfl, z4, fun a na => ⟨z1, fun b nb => ⟨z2, fun q nq => due1 (x := ⟨.end_, A0d x1.s x2.s, 0, 0⟩) (z := "split") s2 (fun q H' s du => kO (fun z => z.2.2 h3) q H' s ?_) a na b nb q nq⟩⟩⟩
   unfold A7m
   rw [if_neg h1, if_neg h2, if_neg h4]
   exact du
 rintro σ' H6 ⟨rfl, h3, rfl⟩
 exact kP ⟨p1, p2, h3⟩ _ s2
theorem Z6c (v : Cv) (x1 x2 : Nm) (i : Int) : (A7m v x1 x2 i).2.length <= 10 := by
 unfold A7m
 repeat' split
 all_goals first | exact Nat.zero_le _ | exact Nat.succ_le_succ (Nat.zero_le _)
theorem V9q {f p : Int} (h0 : 0 <= f) (h : f ≠ 0) (h1 : f <= 10 ^ 60 - 1) (p1 : p <= 400) : SzL (f * C7 p) := by
 have tp := V1 p
 refine ⟨Int.mul_pos (by omega) tp, ?_⟩
 have e : C7 p <= C7 400 := A7c (by omega)
 have a : f * C7 p <= (10 ^ 60 - 1) * C7 400 := Int.mul_le_mul h1 e (Int.le_of_lt tp) (by decide +kernel)
 exact Int.lt_of_le_of_lt a (by decide +kernel)
abbrev A1x : Stmt := (top 82)
abbrev C6u : Stmt := (top 83)
abbrev B6p : Stmt := (top 84)
theorem Y1u {W r : Int} (h0 : 0 <= W) (hr : 1 <= r) : B9r W > r ↔ W >= C7 r := by
 have tp := V1 r
 by_cases z : W = 0
 . subst z
   have : B9r 0 = 1 := by decide +kernel
   constructor
   . intro h; omega
   . intro h; omega
 obtain ⟨n, rfl⟩ : ∃ n : Nat, W = (n : Int) := ⟨W.toNat, by omega⟩
 obtain ⟨j, h1, h2⟩ := C6j n (by omega)
 rw [D8y h2 h1]
 obtain ⟨k, rfl⟩ : ∃ k : Nat, r = (k : Int) := ⟨r.toNat, by omega⟩
 have e : C7 (k : Int) = ((10 ^ k : Nat) : Int) := by unfold C7; rw [Int.toNat_natCast]
 rw [e]
 constructor
 . intro h
   exact Int.ofNat_le.mpr (Nat.le_trans (Nat.pow_le_pow_right (by decide) (by omega)) h1)
 intro h
 have h3 : 10 ^ k <= n := Int.ofNat_le.mp h
 have : 10 ^ k < 10 ^ (j + 1) := Nat.lt_of_le_of_lt h3 h2
 have := (Nat.pow_lt_pow_iff_right (by decide : 1 < 10)).mp this
 omega
theorem A0dv {T b t m : Int} (b0 : 0 < b) (h0 : 0 <= t) (h1 : t < b) (e : t + m * b = T) : T % b = t /\ T / b = m := by
 have h : T = b * m + t := by rw [<- e, Int.mul_comm]; omega
 constructor
 . rw [h, Int.mul_add_emod_self_left]
   exact Int.emod_eq_of_lt h0 h1
 rw [h, Int.mul_add_ediv_left _ _ (by omega), Int.ediv_eq_zero_of_lt h0 h1, Int.add_zero]
def C5x (z : Str) (i : Nat) : Int := ((PySem.NumText.digitsVal (z.cps.toList.take i) : Nat) : Int)
def B6j (n : Nat) : Str := PySem.Str.ofString (toString ((n : Nat) : Int))
theorem V9f {z : Str} {i c : Nat} (h : z.cps[i]? = some c) : C5x z (i + 1) = C5x z i * 10 + ((c - 48 : Nat) : Int) := by
 unfold C5x
 have h' : z.cps.toList[i]? = some c := by rw [<- h]; simp
 rw [List.take_add_one, h']
 show ((PySem.NumText.digitsVal (z.cps.toList.take i ++ [c]) : Nat) : Int) = _
 rw [PySem.NumText.digitsVal_snoc]
 omega
theorem Z7f (n : Nat) : C5x (B6j n) (B6j n).cps.size = (n : Int) := by
 unfold C5x B6j
 rw [List.take_of_length_le (by rw [Array.length_toList]; exact Nat.le_refl _), KIN.signs_num, KIN.val_back]
theorem V9k {n i c : Nat} (h : (B6j n).cps[i]? = some c) : 48 <= c /\ c <= 57 := by
 have h' : (B6j n).cps.toList[i]? = some c := by rw [<- h]; simp
 have m := List.mem_of_getElem? h'
 unfold B6j at m
 rw [KIN.signs_num] at m
 obtain ⟨ch, hch, e⟩ := List.mem_map.mp m
 have r := digit_range (Nat.isDigit_of_mem_toDigits (by decide) (by decide) hch)
 rw [<- e]
 exact r
theorem J8f {c : Nat} (h : 48 <= c /\ c <= 57) : PySem.intText? ⟨#[c]⟩ = some ((c - 48 : Nat) : Int) := by
 have e := PySem.intText_digits (x := ⟨#[c]⟩) (fun d hd => by
   have : d = c := by simpa using hd
   subst this
   exact h) (by simp) (by show 1 <= 4300; decide)
 rw [e]
 show some (((0 * 10 + (c - 48) : Nat) : Int)) = _
 rw [Nat.zero_mul, Nat.zero_add]
theorem A0ku (z : Str) (i : Nat) : 0 <= C5x z i := Int.natCast_nonneg _
theorem A0cu {i : Int} : (if i > 0 then i else (0 : Int)) = Y1 i 0 := by
 unfold Y1
 split <;> split <;> omega
theorem Z7s {x1 x2 : Nm} : x1.f * C7 (x1.p - x2.p) / (x2.f * C7 (-(x1.p - x2.p))) = Y5 x1 x2 := by
 have a : C7 (x1.p - B5j x1 x2) = C7 (x1.p - x2.p) := by
   unfold C7 B5j C5z
   congr 2
   split <;> omega
 have b : C7 (x2.p - B5j x1 x2) = C7 (-(x1.p - x2.p)) := by
   unfold C7 B5j C5z
   congr 2
   split <;> omega
 unfold Y5 B5s
 rw [a, b]
def C7z : Sp := fun vs H Q _ => ∃ t b : Int, vs = [.int t, .int b] /\ 0 <= t /\ t < C7 500 /\ 0 < b /\ Q (.int (t / b)) H
theorem scLTimesIn : B9 ["_law_top", "_law_bottom", "_law_found", "_law_left", "_law_sign", "_law_many"] Q9 (A1 A1x) := scK
theorem J0x {f : Addr} {fd : FuncData} (D : Def K mg "_law_times_in" Q9 A1x f fd) (O : Own mg) : sI P w K mg base 1 f fd Q9 C7z := by
 refine D.F.okE scLTimesIn (fun vs H Q E h => ?_) (fun X cdv A outer s H vs Q E hX hr hx h => ?_)
 . obtain ⟨t, b, rfl, _⟩ := h
   rfl
 subst hX
 obtain ⟨T, b, rfl, t0, t1, b0, k⟩ := h
 refine ⟨_, (A7 (B4 (D0 (i := 2) scLTimesIn.nd rfl (Or.inl rfl) A3)) (A7 (B4 (D0 (i := 3) scLTimesIn.nd rfl (Or.inl rfl) A3)) (A7 (B4 (C0b PassesOwn.leaving rfl (A0fa (V5 A0h (by rfl) O.str_ boot_str (A0 (pv 0) A6))) (Y3 (i := 4) scLTimesIn.nd rfl (Or.inl rfl)) (A7 (B4 (D0 (i := 3) scLTimesIn.nd rfl (Or.inl rfl) (B3 V6 (B3 U9 (pv 3) A3) (V5 B5t (by rfl) O.int_ boot_int (A0 (pv 4) A6))))) (A7 (B4 (D0 (i := 5) scLTimesIn.nd rfl (Or.inl rfl) A3)) (A7 (B4 (B0h PassesOwn.leaving (C6 J1r (pv 3) (pv 1) (C5 _)) (A7 (B4 (D0 (i := 3) scLTimesIn.nd rfl (Or.inl rfl) (B3 V0 (pv 3) (pv 1)))) (A9 (B4 (D0 (i := 5) scLTimesIn.nd rfl (Or.inl rfl) (B3 V6 (pv 5) A3))))))) (A9 (B4 (D0 (i := 2) scLTimesIn.nd rfl (Or.inl rfl) (B3 V6 (B3 U9 (pv 2) A3) (pv 5)))))))))) (A9 (B8 (pv 2)))))), ?_⟩
 obtain ⟨n, rfl⟩ : ∃ n : Nat, T = (n : Int) := ⟨T.toNat, by omega⟩
 have lg : (n : Int).natAbs.log2 < 1920 := by
   by_cases z : (n : Int) = 0
   . rw [z]; decide
   . exact SzL.log ⟨by omega, t1⟩
 have m10 : ∀ z : Int, IntMulOk z 10 := fun z => B5n.ok (.inr ⟨by decide, by decide⟩)
 refine ⟨fun σ' H' => H' = H /\ σ' = [si (n : Int), si b, si 0, none, none, none], ⟨rfl, rfl⟩, ?_⟩
 rintro σ' H1 ⟨rfl, rfl⟩
 refine ⟨fun σ' H' => H' = H1 /\ σ' = [si (n : Int), si b, si 0, si 0, none, none], ⟨rfl, rfl⟩, ?_⟩
 rintro σ' H2 ⟨rfl, rfl⟩
 refine ⟨fun σ' H' => H' = H2 /\ ∃ v3 v4 v5, σ' = [si (n : Int), si b, si ((n : Int) / b), v3, v4, v5], ?_, ?_⟩
 . refine ⟨_, rfl, _, rfl, lg, B6j n, rfl, Z7b (fun i σ' H' => H' = H2 /\ ∃ v4 v5, σ' = [si (n : Int), si b, si (C5x (B6j n) i / b), si (C5x (B6j n) i % b), v4, v5]) ?_ ?_ ?_⟩
   . refine ⟨rfl, none, none, ?_⟩
     have e : C5x (B6j n) 0 = 0 := rfl
     rw [e, Int.zero_ediv, Int.zero_emod]
   . rintro i c σ' H3 hc ⟨rfl, v4, v5, rfl⟩
     have cs := V9k hc
     have en := V9f hc
     have p0 := A0ku (B6j n) i
     generalize C5x (B6j n) (i + 1) = B at en ⊢
     generalize C5x (B6j n) i = A at en p0 ⊢
     have d0 : (0 : Int) <= ((c - 48 : Nat) : Int) := Int.natCast_nonneg _
     have r0 := Int.emod_nonneg A (show b ≠ 0 by omega)
     have e0 := Int.emod_add_mul_ediv A b
     generalize A / b = q at e0 ⊢
     generalize A % b = r at e0 r0 ⊢
     refine ⟨fun σ' H' => H' = H3 /\ σ' = [si (n : Int), si b, si q, si (r * 10 + ((c - 48 : Nat) : Int)), sR (⟨#[c]⟩), v5], ?_, ?_⟩
     . exact ⟨_, rfl, _, _, rfl, rfl, m10 _, _, rfl, _, _, rfl, J8f cs, by show 1 <= 640; decide, _, _, rfl, rfl, rfl, rfl⟩
     rintro σ' H4 ⟨rfl, rfl⟩
     refine ⟨fun σ' H' => H' = H4 /\ σ' = [si (n : Int), si b, si q, si (r * 10 + ((c - 48 : Nat) : Int)), sR (⟨#[c]⟩), si 0], ⟨rfl, rfl⟩, ?_⟩
     rintro σ' H5 ⟨rfl, rfl⟩
     refine ⟨fun σ' H' => H' = H5 /\ ∃ t m : Int, 0 <= t /\ t < b /\ t + m * b = r * 10 + ((c - 48 : Nat) : Int) /\ σ' = [si (n : Int), si b, si q, si t, sR (⟨#[c]⟩), si m], ?_, ?_⟩
     . refine B0u (fun σ H3 => H3 = H5 /\ ∃ t m : Int, 0 <= t /\ t + m * b = r * 10 + ((c - 48 : Nat) : Int) /\ σ = [si (n : Int), si b, si q, si t, sR (⟨#[c]⟩), si m]) (fun σ H3 => match σ with | [_, _, _, some (.int t), _, _] => t.toNat | _ => 0) ?_ ?_ ?_
       . exact ⟨rfl, _, 0, by omega, by rw [Int.zero_mul, Int.add_zero], rfl⟩
       . rintro σ H3 ⟨rfl, t, m, h0, e, rfl⟩
         refine ⟨_, rfl, _, rfl, _, _, rfl, rfl, _, rfl, J0 (fun h => ?_) (fun h => ?_)⟩
         . have h : b <= t := h
           refine ⟨fun σ' H' => H' = H3 /\ σ' = [si (n : Int), si b, si q, si (t - b), sR (⟨#[c]⟩), si m], ⟨_, rfl, _, rfl, _, _, rfl, rfl, rfl, rfl⟩, ?_⟩
           rintro σ' H6 ⟨rfl, rfl⟩
           refine ⟨_, ?_, fun _ _ h => h⟩
           refine ⟨_, rfl, _, _, rfl, rfl, ⟨rfl, t - b, m + 1, by omega, ?_, rfl⟩, ?_⟩
           . rw [Int.add_mul, Int.one_mul]; omega
           . show (t - b).toNat < t.toNat
             omega
         . have h : ¬ b <= t := h
           exact ⟨rfl, t, m, h0, by omega, e, rfl⟩
       . rintro σ H3 Q1 Q2 hQ ⟨v1, e1, v2, e2, a1, a2, f1, f2, bb, eb, q⟩
         exact ⟨v1, e1, v2, e2, a1, a2, f1, f2, bb, eb, hQ _ _ q⟩
     rintro σ' H6 ⟨rfl, t, m, h0, h1, e, rfl⟩
     refine ⟨_, ?_, fun _ _ h => h⟩
     have a1 : (q * 10 + m) * b = q * b * 10 + m * b := by rw [Int.add_mul, Int.mul_assoc, Int.mul_comm 10 b, <- Int.mul_assoc]
     have a2 : b * q = q * b := Int.mul_comm _ _
     have fin := A0dv (T := B) (m := q * 10 + m) b0 h0 h1 (by rw [a1, en]; omega)
     refine ⟨_, rfl, _, _, rfl, rfl, m10 _, _, rfl, _, _, rfl, rfl, ?_⟩
     refine ⟨rfl, sR (⟨#[c]⟩), si m, ?_⟩
     rw [fin.1, fin.2]
     rfl
   . rintro σ' H3 ⟨rfl, v4, v5, rfl⟩
     exact ⟨rfl, si (C5x (B6j n) (B6j n).cps.size % b), v4, v5, by rw [Z7f]⟩
 rintro σ' H3 ⟨rfl, v3, v4, v5, rfl⟩
 exact ⟨_, rfl, k⟩
def V7r : Sp := fun vs H Q _ => ∃ d u t r y l m up tr q1 q2 x1 x2, ∃ L : Int, vs = [.ref d, .ref q1, .ref q2] /\ V7 H d u t r y l m up tr /\ A3t r l m /\ H q1 = some (.tup (Nm.vs x1)) /\ H q2 = some (.tup (Nm.vs x2)) /\ x1.Wf /\ x2.Wf /\
 Pre x1 x2 L /\ ∀ q zs H', B7 H H' -> B8u H' q (A5e ⟨r, y, l, m⟩ x1 x2 L).1 zs -> zs.length <= 10 -> (∀ z, z ∈ zs ↔ z ∈ (A5e ⟨r, y, l, m⟩ x1 x2 L).2) -> Q (.ref q) H'
theorem scLDue : B9 ["_law_own_here", "_law_one", "_law_other", "_law_due_here", "_law_sign", "_law_more", "_law_top", "_law_bottom", "_law_many"] Q42 (A1 C6u) := scK
theorem Z9a {f f1 f2 f3 f4 f5 : Addr} {fd fd1 fd2 fd3 fd4 fd5 : FuncData} (D : Def K mg "_law_due" Q42 C6u f fd) (D_l_odd_quotient : Def K mg "_law_odd_quotient" Q41 C7k f1 fd1) (G_l_odd_quotient : sI P w K mg base 2 f1 fd1 Q41 V8a)
   (D_l_nought : Def K mg "_law_nought" Q13 A2u f2 fd2) (G_l_nought : sI P w K mg base 1 f2 fd2 Q13 B9y) (D_l_settled : Def K mg "_law_settled" Q37 A1u f3 fd3) (G_l_settled : sI P w K mg base 3 f3 fd3 Q37 C7j)
   (D_l_ratio : Def K mg "_law_ratio" Q28 A7g f4 fd4) (G_l_ratio : sI P w K mg base 2 f4 fd4 Q28 J1e) (D_l_times_in : Def K mg "_law_times_in" Q9 A1x f5 fd5) (G_l_times_in : sI P w K mg base 1 f5 fd5 Q9 C7z) (O : Own mg) : sI P w K mg base 4 f fd Q42 V7r := by
 refine D.F.okE scLDue (fun vs H Q E h => ?_) (fun X cdv A outer s H vs Q E hX hr hx h => ?_)
 . obtain ⟨d, u, t, r, y, l, m, up, tr, q1, q2, x1, x2, L, rfl, _⟩ := h
   rfl
 subst hX
 obtain ⟨d, u, t, r, y, l, m, up, tr, q1, q2, x1, x2, L, rfl, ow, fr, e1, e2, w1, w2, hL, k⟩ := h
 have HU := Nat.lt_of_le_of_lt (Nat.add_le_add_left (by decide : 1 <= 64) _) hr.units
 refine ⟨_, (A7 (B4 (D0 (i := 3) scLDue.nd rfl (Or.inl rfl) (D4 D_l_odd_quotient G_l_odd_quotient hr hx (A0 (pv 0) (A0 (pv 1) (A0 (pv 2) (A0 A3 A6))))))) (A7 (B4 (G4 (C6 Z8y (pv 3) J6k (C5 _)) (A9 (B8 (pv 3))) D3)) (A7 (B4 (D0 (i := 4) scLDue.nd rfl (Or.inl rfl) (V5 B4t (by rfl) O.int_ boot_int (A0 (D9 C5f (J1 G9 (pv 1) A3 (fun _ _ => rfl)) (J1 G9 (pv 2) A3 (fun _ _ => rfl)) (C5 _)) A6)))) (A7 (B4 (D0 (i := 5) scLDue.nd rfl (Or.inl rfl) (B3 V0 (J1 G9 (pv 1) A3 (fun _ _ => rfl)) (J1 G9 (pv 2) A3 (fun _ _ => rfl))))) (A7 (B4 (D9a (D4 D_l_ratio G_l_ratio hr hx (A0 (J1 G9 (pv 1) A3 (fun _ _ => rfl)) (A0 (J1 G9 (pv 2) A3 (fun _ _ => rfl)) (A0 (pv 5) A6)))) (D9k rfl (A2q (Y3 (i := 6) scLDue.nd rfl (Or.inl rfl)) (A2q (Y3 (i := 7) scLDue.nd rfl (Or.inl rfl)) C6e))))) (A7 (B4 (D0 (i := 8) scLDue.nd rfl (Or.inl rfl) (D4 D_l_times_in G_l_times_in hr hx (A0 (pv 6) (A0 (pv 7) A6))))) (A7 (B4 (G4 (C6 B5u (G5 A1f (by rfl) O.len_ PySem.boot_len (A0 (V5 A0h (by rfl) O.str_ boot_str (A0 (pv 8) A6)) A6)) (U8 HU (pv 0) B0 (fun _ _ => rfl)) (C5 _)) (A9 (B8 (U1 (A0 (U1 (A0 B0 (A0 A3 (A0 A3 (A0 A3 A6))))) (A0 (U7 (A0 B0 A6)) A6))))) D3)) (A7 (B4 (G4 (C6 D6 (pv 8) A3 (C5 _)) (A9 (B8 (U1 (A0 (D4 D_l_nought G_l_nought hr hx (A0 (pv 0) (A0 (pv 4) (A0 (G5 (V9 rfl) (by rfl) O.max_ boot_max (A0 A3 (A0 (pv 5) A6))) A6)))) (A0 (U7 A6) A6))))) D3)) (A9 (B8 (D4 D_l_settled G_l_settled hr hx (A0 (pv 0) (A0 (pv 4) (A0 (U1 (A0 (pv 8) (A0 A3 A6))) (A0 (G5 (V9 rfl) (by rfl) O.max_ boot_max (A0 A3 (A0 (pv 5) A6))) A6))))))))))))))), ?_⟩
 have z0 : 0 <= sizeLine := Nat.zero_le _
 have z1 : 1 <= sizeLine := C9 (by decide)
 have z2 : 2 <= sizeLine := C9 (by decide)
 have z4 : 4 <= sizeLine := C9 (by decide)
 have i1 := C4x x1
 have i2 := C4x x2
 have r1 := fr.r1
 refine ⟨fun σ' H' => B7 H H' /\ ((∃ q zs, B8u H' q (A5e ⟨r, y, l, m⟩ x1 x2 L).1 zs /\ zs.length <= 10 /\ (∀ z, z ∈ zs ↔ z ∈ (A5e ⟨r, y, l, m⟩ x1 x2 L).2) /\ σ' = [sr d, sr q1, sr q2, sr q, none, none, none, none, none]) \/ (A1z x1 x2 /\ σ' = [sr d, sr q1, sr q2, some .non, none, none, none, none, none])), ?_, ?_⟩
 . refine ⟨_, rfl, _, rfl, _, rfl, d, u, t, r, y, l, m, up, tr, q1, q2, x1, x2, 0, rfl, ow, fr, e1, e2, w1, w2, fun hn q H' s' du => ⟨s', .inl ⟨q, [], ?_, by decide, ?_, rfl⟩⟩, fun hn hq q H' s' du => ⟨s', .inl ⟨q, _, ?_, Z6c ⟨r, y, l, m⟩ x1 x2 0, ?_, rfl⟩⟩, fun hq H' s' => ⟨s', .inr ⟨hq, rfl⟩⟩⟩
   . unfold A5e
     rw [if_pos hn]
     exact du
   . unfold A5e
     rw [if_pos hn]
     exact fun z => Iff.rfl
   . unfold A5e
     rw [if_neg hn, if_neg hq]
     exact du
   . unfold A5e
     rw [if_neg hn, if_neg hq]
     exact fun z => Iff.rfl
 rintro σ' H1 ⟨s1, h⟩
 rcases h with ⟨q, zs, du, lz, hz, rfl⟩ | ⟨hq, rfl⟩
 . refine ⟨fun _ _ => False, ?_, fun _ _ z => z.elim⟩
   exact ⟨_, rfl, rfl, _, rfl, U8r (fun z => by cases z) ⟨_, rfl, k q zs H1 s1 du lz hz⟩⟩
 have e1 := s1 _ _ e1
 have e2 := s1 _ _ e2
 have ow1 := ow.same s1
 have hn : ¬ (x1.k = .none \/ x2.k = .none) := fun z => by
   rcases z with z | z
   . rw [hq.1] at z; cases z
   . rw [hq.2.1] at z; cases z
 have us := C8g x1.s x2.s
 have f10 := w1.ok.f0; have f11 := w1.ok.f1; have f20 := w2.ok.f0; have f21 := w2.ok.f1
 have p10 := w1.ok.p0; have p11 := w1.ok.p1; have p20 := w2.ok.p0; have p21 := w2.ok.p1
 have b2 : 0 < x2.f := by have := hq.2.2; omega
 obtain ⟨w0, wT⟩ := D9z w1.ok w2.ok
 have lg : (Y5 x1 x2).natAbs.log2 < 1920 := by
   by_cases z : Y5 x1 x2 = 0
   . rw [z]; decide
   . exact SzL.log ⟨by omega, wT⟩
 refine ⟨fun σ' H' => H' = H1 /\ σ' = [sr d, sr q1, sr q2, some .non, none, none, none, none, none], ?_, ?_⟩
 . exact ⟨_, rfl, rfl, _, rfl, C7w rfl ⟨rfl, rfl⟩⟩
 rintro σ' H2 ⟨rfl, rfl⟩
 refine ⟨fun σ' H' => H' = H2 /\ σ' = [sr d, sr q1, sr q2, some .non, si (A0d x1.s x2.s), none, none, none, none], ?_, ?_⟩
 . refine ⟨_, rfl, q1, _, _, _, rfl, rfl, SqT.of e1, i1 1 (by decide), _, rfl, q2, _, _, _, rfl, rfl, SqT.of e2, i2 1 (by decide), rfl, .inr ⟨_, rfl, rfl, ?_⟩⟩
   rw [<- U9h]
   rfl
 rintro σ' H3 ⟨rfl, rfl⟩
 refine ⟨fun σ' H' => H' = H3 /\ σ' = [sr d, sr q1, sr q2, some .non, si (A0d x1.s x2.s), si (x1.p - x2.p), none, none, none], ⟨_, rfl, q1, _, _, _, rfl, rfl, SqT.of e1, i1 3 (by decide), _, rfl, q2, _, _, _, rfl, rfl, SqT.of e2, i2 3 (by decide), _, _, rfl, rfl, rfl, rfl⟩, ?_⟩
 rintro σ' H4 ⟨rfl, rfl⟩
 have mul : ∀ x : Nm, x.Ok -> ∀ e : Int, e <= 1500 -> IntMulOk x.f (C7 e) := fun x ok e he => by
   by_cases z : x.f = 0
   . rw [z]; exact B5n.ok (.inl ⟨by decide, by decide⟩)
   . exact B0p (Y0q ok.f0 z ok.f1) he
 refine ⟨fun σ' H' => B7 H H' /\ σ' = [sr d, sr q1, sr q2, some .non, si (A0d x1.s x2.s), si (x1.p - x2.p), si (x1.f * C7 (x1.p - x2.p)), si (x2.f * C7 (-(x1.p - x2.p))), none], ?_, ?_⟩
 . refine ⟨_, rfl, q1, _, _, _, rfl, rfl, SqT.of e1, i1 2 (by decide), _, rfl, q2, _, _, _, rfl, rfl, SqT.of e2, i2 2 (by decide), _, rfl, x1.f, x2.f, x1.p - x2.p, rfl, by omega, by omega, mul x1 w1.ok _ (by omega), mul x2 w2.ok _ (by omega), fun rq H6 s6 erq => ?_⟩
   exact ⟨rq, _, rfl, SqT.of erq, rfl, _, _, rfl, _, _, rfl, rfl, s1.trans s6, rfl⟩
 rintro σ' H5 ⟨s5, rfl⟩
 have ow5 := ow.same s5
 refine ⟨fun σ' H' => H' = H5 /\ σ' = [sr d, sr q1, sr q2, some .non, si (A0d x1.s x2.s), si (x1.p - x2.p), si (x1.f * C7 (x1.p - x2.p)), si (x2.f * C7 (-(x1.p - x2.p))), si (Y5 x1 x2)], ?_, ?_⟩
 . refine ⟨_, rfl, _, rfl, _, _, rfl, Int.mul_nonneg f10 (Int.le_of_lt (V1 _)), ?_, Int.mul_pos b2 (V1 _), ?_⟩
   . by_cases z : x1.f = 0
     . rw [z, Int.zero_mul]; exact V1 _
     . exact (V9q f10 z f11 (by omega)).2
   . rw [Z7s]
     exact ⟨rfl, rfl⟩
 rintro σ' H6 ⟨rfl, rfl⟩
 have due1 : A5e ⟨r, y, l, m⟩ x1 x2 L = ((A0z, (["void"] : List Str)) : Nm × List Str) -> ∀ a, H6 a = none -> ∀ b, upd H6 a (.tup A0z.vs) b = none -> ∀ q, upd (upd H6 a (.tup A0z.vs)) b (.lst [.str "void"]) q = none -> Q (.ref q) (upd (upd (upd H6 a (.tup A0z.vs)) b (.lst [.str "void"])) q (.tup [.ref a, .ref b])) := fun e a na b nb q nq =>
   k q ["void"] _ (s5.trans ((B7.upd na).trans ((B7.upd nb).trans (B7.upd nq)))) ⟨a, b, A8, by rw [e]; exact ((B7.upd nb).trans (B7.upd nq)) _ _ A8, (B7.upd nq) _ _ A8⟩ (by show 1 <= 10; decide) (fun z => by rw [e])
 refine ⟨fun σ' H' => H' = H6 /\ ¬ Y5 x1 x2 >= C7 r /\ σ' = [sr d, sr q1, sr q2, some .non, si (A0d x1.s x2.s), si (x1.p - x2.p), si (x1.f * C7 (x1.p - x2.p)), si (x2.f * C7 (-(x1.p - x2.p))), si (Y5 x1 x2)], ?_, ?_⟩
 . refine ⟨_, rfl, _, rfl, lg, _, rfl, int_text_fits lg, _, rfl, d, _, rfl, ow5.gRoom, _, _, rfl, rfl, _, rfl, J0 (fun h => ?_) (fun h => ⟨rfl, fun z => h ((Y1u w0 r1).mpr z), rfl⟩)⟩
   have hW := (Y1u w0 r1).mp h
   exact ⟨z4, fun a na => ⟨z1, fun b nb => ⟨z2, fun q nq => due1 (by unfold A5e; rw [if_neg hn, if_pos hq, if_pos hW]) a na b nb q nq⟩⟩⟩
 rintro σ' H7 ⟨rfl, hW, rfl⟩
 have eR : A5e ⟨r, y, l, m⟩ x1 x2 L = if Y5 x1 x2 = 0 then (A3q ⟨r, y, l, m⟩ (A0d x1.s x2.s) (Y1 (x1.p - x2.p) 0), []) else A1b ⟨r, y, l, m⟩ (A0d x1.s x2.s) (Y5 x1 x2) 1 0 L (Y1 (x1.p - x2.p) 0) := by unfold A5e; rw [if_neg hn, if_pos hq, if_neg hW]
 rw [eR] at k
 refine ⟨fun σ' H' => H' = H7 /\ Y5 x1 x2 ≠ 0 /\ σ' = [sr d, sr q1, sr q2, some .non, si (A0d x1.s x2.s), si (x1.p - x2.p), si (x1.f * C7 (x1.p - x2.p)), si (x2.f * C7 (-(x1.p - x2.p))), si (Y5 x1 x2)], ?_, ?_⟩
 . refine ⟨_, rfl, rfl, _, rfl, J0 (fun h => ?_) (fun h => ⟨rfl, fun z => h (congrArg V.int z), rfl⟩)⟩
   have hf : Y5 x1 x2 = 0 := V.int.inj h
   rw [if_pos hf] at k
   refine ⟨_, rfl, _, rfl, _, rfl, _, _, rfl, ?_⟩
   rw [A0cu]
   refine ⟨d, u, t, r, y, l, m, up, tr, A0d x1.s x2.s, Y1 (x1.p - x2.p) 0, rfl, ow5, fr, fun a na => ⟨z0, fun b nb => ⟨z2, fun q nq => ?_⟩⟩⟩
   have u1 := B7.upd (o := .tup (A3q ⟨r, y, l, m⟩ (A0d x1.s x2.s) (Y1 (x1.p - x2.p) 0)).vs) na
   have u2 := B7.upd (o := .lst []) nb
   have u3 := B7.upd (o := .tup [.ref a, .ref b]) nq
   exact k q [] _ (s5.trans (u1.trans (u2.trans u3))) ⟨a, b, A8, (u2.trans u3) _ _ A8, u3 _ _ A8⟩ (by decide) fun z => Iff.rfl
 rintro σ' H8 ⟨rfl, hf, rfl⟩
 rw [if_neg hf] at k
 refine ⟨_, rfl, _, rfl, _, rfl, z2, fun rq nr => ?_⟩
 have ur := B7.upd (o := .tup [.int (Y5 x1 x2), .int 1]) nr
 refine ⟨_, rfl, _, _, rfl, ?_⟩
 rw [A0cu]
 refine ⟨d, u, t, r, y, l, m, up, tr, rq, A0d x1.s x2.s, Y5 x1 x2, 1, Y1 (x1.p - x2.p) 0, rfl, ow5.same ur, fr, us.1, us.2, A8, ⟨by omega, wT⟩, ⟨by decide, by decide +kernel⟩, fun L' q zs H9 ld s9 du lz hz => ?_⟩
 obtain rfl : L' = L := by
   have a := D9x (by decide : (0 : Int) < 1) ld (hL hq hf)
   omega
 exact k q zs H9 (s5.trans (ur.trans s9)) du lz hz
def U9q (K : Frag) : Sp := fun vs H Q _ => ∃ sc ns, vs = [.ref sc] /\ SqL K H sc ((ns : List Int).map V.int) /\
 ∀ p q1 q2 x1 x2 H', B7 H H' -> H' p = some (.tup [.ref q1, .ref q2]) -> H' q1 = some (.tup (Nm.vs x1)) -> H' q2 = some (.tup (Nm.vs x2)) -> x1.Wf -> x2.Wf -> Q (.ref p) H'
theorem scLPair : B9 ["_law_script", "_law_one", "_law_other", "_law_cell"] ["_law_script"] (A1 B6p) := scK
theorem Y0a {f f1 f2 : Addr} {fd fd1 fd2 : FuncData} (D : Def K mg "_law_pair" ["_law_script"] B6p f fd) (D_l_cell_at : Def K mg "_law_cell_at" Q12 C5d f1 fd1) (G_l_cell_at : sI P w K mg base 1 f1 fd1 Q12 (J6d K)) (D_l_number : Def K mg "_law_number" ["_law_cell"] A4u f2 fd2) (G_l_number : sI P w K mg base 3 f2 fd2 ["_law_cell"] D6q) (O : Own mg) :
   sI P w K mg base 4 f fd ["_law_script"] (U9q K) := by
 refine D.F.okE scLPair (fun vs H Q E h => ?_) (fun X cdv A outer s H vs Q E hX hr hx h => ?_)
 . obtain ⟨sc, ns, rfl, _⟩ := h
   rfl
 subst hX
 obtain ⟨sc, ns, rfl, hS, k⟩ := h
 refine ⟨_, (A7 (B4 (D0 (i := 1) scLPair.nd rfl (Or.inl rfl) (D4 D_l_number G_l_number hr hx (A0 (D4 D_l_cell_at G_l_cell_at hr hx (A0 (pv 0) (A0 A3 A6))) A6)))) (A7 (B4 (D0 (i := 2) scLPair.nd rfl (Or.inl rfl) (D4 D_l_number G_l_number hr hx (A0 (D4 D_l_cell_at G_l_cell_at hr hx (A0 (pv 0) (A0 A3 A6))) A6)))) (A7 (B4 (D0 (i := 3) scLPair.nd rfl (Or.inl rfl) (D4 D_l_cell_at G_l_cell_at hr hx (A0 (pv 0) (A0 A3 A6))))) (A7 (B4 (G4 (PW.pt (A1h (C6 D6 (B3 G2 (pv 3) A3) A3 (C5 _)) (A1h (C6 D6 (J1 G9 (pv 2) A3 (fun _ _ => rfl)) B0 (C5 _)) (A1e (C6 C7d (J1 G9 (pv 2) A3 (fun _ _ => rfl)) (B3 J7g A3 A3) (C5 _)))))) (A9 (B4 (D0 (i := 1) scLPair.nd rfl (Or.inl rfl) (U1 (A0 B0 (A0 (B3 G2 (B3 G3 (pv 3) A3) A3) (A0 (G5 (V9 rfl) (by rfl) O.max_ boot_max (A0 A3 (A0 (B3 V0 (B3 U9 (J1 G9 (pv 2) A3 (fun _ _ => rfl)) (B3 G2 (B3 G3 (pv 3) A3) A3)) (B3 G2 (B3 G3 (pv 3) A3) A3)) A6))) (A0 (J1 G9 (pv 2) A3 (fun _ _ => rfl)) A6)))))))) D3)) (A9 (B8 (U1 (A0 (pv 1) (A0 (pv 2) A6))))))))), ?_⟩
 have z2 : 2 <= sizeLine := C9 (by decide)
 have z4 : 4 <= sizeLine := C9 (by decide)
 refine ⟨fun σ' H' => ∃ q1 x1, B7 H H' /\ H' q1 = some (.tup (Nm.vs x1)) /\ x1.Wf /\ σ' = [sr sc, sr q1, none, none], ⟨_, rfl, sc, ns, 1, rfl, hS, by decide, fun c1 => ⟨c1, rfl, fun x q H' wf s' e => ⟨q, x, s', e, wf, rfl⟩⟩⟩, ?_⟩
 rintro σ' H1 ⟨q1, x1, s1, e1, w1, rfl⟩
 refine ⟨fun σ' H' => ∃ q2 x2, B7 H H' /\ H' q1 = some (.tup (Nm.vs x1)) /\ H' q2 = some (.tup (Nm.vs x2)) /\ x2.Wf /\ σ' = [sr sc, sr q1, sr q2, none], ⟨_, rfl, sc, ns, 2, rfl, s1.seq hS, by decide, fun c1 => ⟨c1, rfl, fun x q H' wf s' e => ⟨q, x, s1.trans s', s' _ _ e1, e, wf, rfl⟩⟩⟩, ?_⟩
 rintro σ' H2 ⟨q2, x2, s2, e1, e2, w2, rfl⟩
 refine ⟨fun σ' H' => ∃ c : Int, H' = H2 /\ σ' = [sr sc, sr q1, sr q2, si c], ⟨_, rfl, sc, ns, 3, rfl, s2.seq hS, by decide, fun c1 => ⟨c1, rfl, rfl⟩⟩, ?_⟩
 rintro σ' H3 ⟨c, rfl, rfl⟩
 refine ⟨fun σ' H' => ∃ q1 x1, B7 H H' /\ H' q1 = some (.tup (Nm.vs x1)) /\ H' q2 = some (.tup (Nm.vs x2)) /\ x1.Wf /\ σ' = [sr sc, sr q1, sr q2, si c], ?_, ?_⟩
 . have skip : ∃ q1' x1', B7 H H3 /\ H3 q1' = some (.tup (Nm.vs x1')) /\ H3 q2 = some (.tup (Nm.vs x2)) /\ x1'.Wf /\ [sr sc, sr q1, sr q2, si c] = [sr sc, sr q1', sr q2, si c] := ⟨q1, x1, s2, e1, e2, w1, rfl⟩
   refine ⟨_, rfl, _, _, rfl, rfl, (by decide : (0 : Int) < 3), rfl, _, rfl, J0 (fun _ => ?_) (fun _ => U2 skip)⟩
   refine ⟨_, rfl, q2, _, _, _, rfl, rfl, SqT.of e2, C4x x2 0 (by decide), rfl, _, rfl, J0 (fun _ => ?_) (fun _ => U2 skip)⟩
   refine ⟨_, rfl, q2, _, _, _, rfl, rfl, SqT.of e2, C4x x2 2 (by decide), _, _, rfl, rfl, ⟨by decide, by decide, by decide⟩, _, _, rfl, rfl, _, rfl, J0 (fun hb => ?_) (fun _ => skip)⟩
   have hb : x2.f < 10 ^ 30 := hb
   have f0 := w2.ok.f0
   have a0 := Int.emod_nonneg (c / 6) (by decide : (100000 : Int) ≠ 0)
   have a1 := Int.emod_lt_of_pos (c / 6) (by decide : (0 : Int) < 100000)
   have b0 := Int.emod_nonneg (c / 12) (by decide : (2 : Int) ≠ 0)
   have c0 := Int.emod_nonneg (c / 3) (by decide : (2 : Int) ≠ 0)
   have c1 := Int.emod_lt_of_pos (c / 3) (by decide : (0 : Int) < 2)
   have m0 : 0 <= x2.f * (c / 6 % 100000) := Int.mul_nonneg f0 a0
   have m1 : x2.f * (c / 6 % 100000) <= 10 ^ 30 * 100000 := Int.mul_le_mul (by omega) (by omega) a0 (by decide)
   have big : (10 : Int) ^ 30 * 100000 <= 10 ^ 60 - 1 := by decide +kernel
   refine ⟨_, ?_, fun _ _ h => h⟩
   refine ⟨_, rfl, _, _, rfl, rfl, dv (n := 3) (by decide) (by decide +kernel), _, _, rfl, rfl, (by decide : (0 : Int) < 2), _, rfl, q2, _, _, _, rfl, rfl, SqT.of e2, C4x x2 2 (by decide), _, rfl, _, _, rfl, rfl, dv (n := 6) (by decide) (by decide +kernel), _, _, rfl, rfl, (by decide : (0 : Int) < 100000), _, _, rfl, rfl, B5n.ok (.inr ⟨by omega, by omega⟩), _, rfl, _, _, rfl, rfl, dv (n := 12) (by decide) (by decide +kernel), _, _, rfl, rfl, (by decide : (0 : Int) < 2), _, _, rfl, rfl, _, _, rfl, _, rfl, q2, _, _, _, rfl, rfl, SqT.of e2, C4x x2 3 (by decide), z4, fun t1 n1 => ?_⟩
   have hb : 0 <= (if x2.f * (c / 6 % 100000) - c / 12 % 2 > 0 then x2.f * (c / 6 % 100000) - c / 12 % 2 else 0) /\ (if x2.f * (c / 6 % 100000) - c / 12 % 2 > 0 then x2.f * (c / 6 % 100000) - c / 12 % 2 else 0) <= 10 ^ 60 - 1 := by
     constructor <;> split <;> omega
   exact ⟨t1, ⟨.plain, c / 3 % 2, if x2.f * (c / 6 % 100000) - c / 12 % 2 > 0 then x2.f * (c / 6 % 100000) - c / 12 % 2 else 0, x2.p⟩, s2.trans (B7.upd n1), A8, (B7.upd n1) _ _ e2, C8k ⟨c0, by omega⟩ hb ⟨w2.ok.p0, w2.ok.p1⟩, rfl⟩
 rintro σ' H4 ⟨q1', x1', s4, e1', e2', w1', rfl⟩
 exact ⟨_, rfl, _, rfl, z2, fun p np => k p q1' q2 x1' x2 _ (s4.trans (B7.upd np)) A8 ((B7.upd np) _ _ e1') ((B7.upd np) _ _ e2') w1' w2⟩
theorem U8z (i : Int) : ∀ (n : Nat) (f p : Int), p <= (B1c i n f p).2 /\ (B1c i n f p).2 <= p + n
 | 0, f, p => ⟨Int.le_refl _, by show p <= p + 0; omega⟩
 | n + 1, f, p => by
   unfold B1c
   split
   . have := U8z i n (f / 10) (p + 1)
     constructor <;> omega
   . constructor
     . exact Int.le_refl _
     . show p <= p + ((n + 1 : Nat) : Int)
       omega
theorem A0dr {v : Cv} {s wh pt q i : Int} (ok : v.Ok) (w0 : 0 <= wh) (w1 : wh < C7 v.r) (q0 : -3000 <= q) (q1 : q <= 3000) (i0 : -3000 <= i) (i1 : i <= 3000) :
   0 <= (Y8 v s wh pt q i).1 /\ (Y8 v s wh pt q i).1 <= 10 ^ 24 /\ -10000 <= (Y8 v s wh pt q i).2 /\ (Y8 v s wh pt q i).2 <= 10000 := by
 have t24 := G0a ok.r2
 unfold Y8
 split
 . have a := B8v i (i - q).toNat wh q w0
   have b := U8z i (i - q).toNat wh q
   unfold A0m
   refine ⟨a.1, by omega, by omega, by omega⟩
 have hu : 0 <= upI v.y s wh pt /\ upI v.y s wh pt <= wh + 1 := by
   unfold upI
   generalize (if pt = 0 then false else v.y.goes s (wh % 10) pt) = g
   cases g with
   | true => exact ⟨by show 0 <= wh + 1; omega, Int.le_refl _⟩
   | false => exact ⟨w0, by show wh <= wh + 1; omega⟩
 generalize upI v.y s wh pt = u at hu
 unfold B0m
 split
 . exact ⟨by show 0 <= u / 10; omega, by show u / 10 <= 10 ^ 24; omega, by show -10000 <= q + 1; omega, by show q + 1 <= 10000; omega⟩
 exact ⟨hu.1, by show u <= 10 ^ 24; omega, by show -10000 <= q; omega, by show q <= 10000; omega⟩
theorem A2c {x : Nm} (s0 : 0 <= x.s) (s1 : x.s <= 1) (f0 : 0 <= x.f) (f1 : x.f <= 10 ^ 60) (p0 : -10000 <= x.p) (p1 : x.p <= 10000) : A0r (A5g x.k.str x.s x.f x.p) := by
 have big : (10 : Int) ^ 60 + 10000 < 10 ^ 61 := by decide +kernel
 have bigN : ((10 ^ 61 : Nat) : Int) = 10 ^ 61 := by decide +kernel
 exact A0kn (by omega) (by omega) (by omega)
theorem D9y {v : Cv} {s wh pt L q i : Int} (ok : v.Ok) (s0 : 0 <= s) (s1 : s <= 1) (w0 : 0 <= wh) (w1 : wh < C7 v.r) (q0 : -3000 <= q) (q1 : q <= 3000) (i0 : -3000 <= i) (i1 : i <= 3000) :
   A0r (A5g (A5p v s wh pt L q i).1.k.str (A5p v s wh pt L q i).1.s (A5p v s wh pt L q i).1.f (A5p v s wh pt L q i).1.p) := by
 obtain ⟨a, b, c, d⟩ := A0dr (s := s) (pt := pt) ok w0 w1 q0 q1 i0 i1
 have t24 := G0a ok.r2
 have tp := V1 v.r
 have r1 := ok.r1; have r2 := ok.r2; have m1 := ok.m1; have m2 := ok.m2
 have big : (10 : Int) ^ 24 <= 10 ^ 60 := by decide +kernel
 unfold A5p
 split
 . unfold B6r
   dsimp only
   split
   . exact A2c s0 s1 (Int.le_refl _) (by show (0 : Int) <= 10 ^ 60; decide) (by show (-10000 : Int) <= 0; decide) (by show (0 : Int) <= 10000; decide)
   . exact A2c s0 s1 (by show 0 <= C7 v.r - 1; omega) (by show C7 v.r - 1 <= 10 ^ 60; omega) (by show -10000 <= v.m - v.r + 1; omega) (by show v.m - v.r + 1 <= 10000; omega)
 exact A2c s0 s1 a (Int.le_trans b big) c d
theorem J0d {v : Cv} {s t b n L i : Int} (ok : v.Ok) (s0 : 0 <= s) (s1 : s <= 1) (ht : Sz t) (hb : Sz b) (h : A2t t b (n - L)) (n0 : -1000 <= n) (n1 : n <= 1000) (i0 : -3000 <= i) (i1 : i <= 3000) :
   A0r (A5g (A1b v s t b n L i).1.k.str (A1b v s t b n L i).1.s (A1b v s t b n L i).1.f (A1b v s t b n L i).1.p) := by
 have ls := C7x ht hb h
 have r1 := ok.r1; have r2 := ok.r2; have l1 := ok.l1; have l2 := ok.l2
 have fb : -3000 <= v.fin L /\ v.fin L <= 3000 := by
   unfold Cv.fin Y1
   split <;> omega
 have wr := G0e (s2 := n - v.fin L) ht hb h ok.r1 (by
   unfold Cv.fin Y1
   split <;> omega)
 exact D9y ok s0 s1 wr.1 wr.2 fb.1 fb.2 i0 i1
theorem C5e {v : Cv} {s i : Int} (ok : v.Ok) (s0 : 0 <= s) (s1 : s <= 1) : A0r (A5g (A3q v s i).k.str (A3q v s i).s (A3q v s i).f (A3q v s i).p) := by
 have r1 := ok.r1; have r2 := ok.r2; have l1 := ok.l1; have l2 := ok.l2; have m1 := ok.m1; have m2 := ok.m2
 have : -10000 <= C5z (Y1 i (v.l - v.r + 1)) v.m /\ C5z (Y1 i (v.l - v.r + 1)) v.m <= 10000 := by
   unfold C5z Y1
   constructor <;> (repeat' split) <;> omega
 exact A2c s0 s1 (Int.le_refl _) (by show (0 : Int) <= 10 ^ 60; decide) this.1 this.2
theorem B4u : A0r (A5g A0z.k.str A0z.s A0z.f A0z.p) := A2c (Int.le_refl _) (by show (0 : Int) <= 1; decide) (Int.le_refl _) (by show (0 : Int) <= 10 ^ 60; decide) (by show (-10000 : Int) <= 0; decide) (by show (0 : Int) <= 10000; decide)
theorem J0v {s : Int} (s0 : 0 <= s) (s1 : s <= 1) : A0r (A5g (Kd.str .end_) s 0 0) := A2c (x := ⟨.end_, s, 0, 0⟩) s0 s1 (Int.le_refl _) (by show (0 : Int) <= 10 ^ 60; decide) (by show (-10000 : Int) <= 0; decide) (by show (0 : Int) <= 10000; decide)
theorem Y0b {v : Cv} {x1 x2 : Nm} {i : Int} (ok : v.Ok) : A0r (A5g (A7m v x1 x2 i).1.k.str (A7m v x1 x2 i).1.s (A7m v x1 x2 i).1.f (A7m v x1 x2 i).1.p) := by
 have us := C8g x1.s x2.s
 unfold A7m
 split
 . split
   . exact B4u
   . exact J0v us.1 us.2
 split
 . exact C5e ok us.1 us.2
 split
 . exact B4u
 exact J0v us.1 us.2
theorem J0a {cs : List Addr} {c : Addr} {H H1 : Hp} (x : Exc c (Y2 cs H) H1) : Exc c H (A0k cs H H1) := fun b o e n => by
 by_cases hb : b ∈ cs
 . rw [D9f hb]; exact e
 . rw [Y4 hb]
   exact x b o (by rw [Z9 hb]; exact e) n
theorem U4.back {CC : Addr} {H H' : Hp} {cs : List Addr} {c : Addr} {r : Int} {y : Wy} {l m : Int} {a b : Addr} {xs ys : List V} (h : U4 CC H' c r y l m a b xs ys) (hn : ∀ c ∈ cs, H' c = none) : U4 CC (A0k cs H H') c r y l m a b xs ys := by
 obtain ⟨⟨dx, e⟩, ha, hb⟩ := h
 have out : ∀ {p : Addr} {o : HO}, H' p = some o -> p ∉ cs := fun e z => by rw [hn _ z] at e; cases e
 exact ⟨⟨dx, by rw [Y4 (out e)]; exact e⟩, by rw [Y4 (out ha)]; exact ha, by rw [Y4 (out hb)]; exact hb⟩
theorem A4z.hide {CN CC CT : Addr} {H : Hp} {cs : List Addr} {c : Addr} {v : Cv} {b : Addr} {xs ys : List Str} {res : Nm × List Str} {Q : VK} {E : XK} (k : A4z CN CC CT H c v b xs ys res Q E) :
   A4z CN CC CT (Y2 cs H) c v b xs ys res (fun u H1 => (∀ c ∈ cs, H1 c = none) -> Q u (A0k cs H H1)) (fun C d H1 => (∀ c ∈ cs, H1 c = none) -> E C d (A0k cs H H1)) :=
 ⟨fun hn m a' H1 x ct nm no => k.1 hn m a' _ (J0a x) (U4.back ct no) (nm.back no), fun z hz a' d H1 x ct ed no => k.2 z hz a' d _ (J0a x) (U4.back ct no) (by rw [Y4 fun q => by rw [no _ q] at ed; cases ed]; exact ed)⟩
theorem D6z {tr zs ws : List Str} (h : ∀ z, z ∈ zs ↔ z ∈ ws) : hit tr zs = hit tr ws := by
 unfold hit
 congr 1
 funext t
 rw [Bool.eq_iff_iff]
 simp [h]
theorem D7b {up zs ws : List Str} (h : ∀ z, z ∈ zs ↔ z ∈ ws) : Y7 (up ++ zs) = Y7 (up ++ ws) := by
 unfold Y7
 refine List.filter_congr fun z _ => ?_
 rw [Bool.eq_iff_iff]
 simp [h]
theorem Z7v {CN CC CT c : Addr} {r : Int} {y : Wy} {l m : Int} {b : Addr} {up tr zs : List Str} {res : Nm × List Str} {H' : Hp} {Qd : VK} {Ed : XK} (hz : ∀ z, z ∈ zs ↔ z ∈ res.2)
   (h1 : ∀ n a' H1, hit tr zs = none -> Exc c H' H1 -> U4 CC H1 c r y l m a' b ((Y7 (up ++ zs)).map V.str) (tr.map V.str) -> V4 CN H1 n res.1 -> Qd (.ref n) H1)
   (h2 : ∀ sg d' a' H1, hit tr zs = some sg -> Exc c H' H1 -> U4 CC H1 c r y l m a' b ((Y7 (up ++ zs)).map V.str) (tr.map V.str) -> H1 d' = some (.xd [("signal", .str sg)]) -> Ed (.ref CT) (some d') H1) :
   A4z CN CC CT H' c ⟨r, y, l, m⟩ b up tr res Qd Ed :=
 ⟨fun hn n a' H1 x ct nm => h1 n a' H1 (by rw [D6z hz]; exact hn) x (by rw [D7b hz]; exact ct) nm, fun z hh a' d' H1 x ct ed => h2 z d' a' H1 (by rw [D6z hz]; exact hh) x (by rw [D7b hz]; exact ct) ed⟩
theorem Z8d (ws : List Str) : A2d (Y7 ws) := ⟨_, rfl⟩
abbrev D2v : Stmt := (top 85)
def J6g : Str := ("law" : Str) ++ ".<locals>." ++ "<lambda>"
def J6y : Pos := ⟨515, 61, 515, 136⟩
structure A3m (CN : Addr) (H : Hp) (q1 q2 n1 n2 : Addr) (x1 x2 : Nm) : Prop where
 q1 : H q1 = some (.tup x1.vs)
 q2 : H q2 = some (.tup x2.vs)
 n1 : V4 CN H n1 x1
 n2 : V4 CN H n2 x2
theorem A3m.same {CN : Addr} {H H' : Hp} {q1 q2 n1 n2 : Addr} {x1 x2 : Nm} (h : A3m CN H q1 q2 n1 n2 x1 x2) (s : B7 H H') : A3m CN H' q1 q2 n1 n2 x1 x2 := ⟨s _ _ h.q1, s _ _ h.q2, h.n1.same s, h.n2.same s⟩
theorem A3m.keep {CN : Addr} {H H' : Hp} {q1 q2 n1 n2 : Addr} {x1 x2 : Nm} (h : A3m CN H q1 q2 n1 n2 x1 x2) (s : J0f H H') : A3m CN H' q1 q2 n1 n2 x1 x2 := ⟨s _ _ (fun _ z => by cases z) h.q1, s _ _ (fun _ z => by cases z) h.q2, h.n1.keep s, h.n2.keep s⟩
theorem A3m.swap {CN : Addr} {H : Hp} {q1 q2 n1 n2 : Addr} {x1 x2 : Nm} (h : A3m CN H q1 q2 n1 n2 x1 x2) : A3m CN H q2 q1 n2 n1 x2 x1 := ⟨h.q2, h.q1, h.n2, h.n1⟩
theorem V4.exc2 {CN : Addr} {H H' : Hp} {n c d : Addr} {x : Nm} {kv : List (Key × V)} (h : V4 CN H n x) (s : A6b c d H H') (nc : n ≠ c) (ed : H d = some (.dK kv)) : V4 CN H' n x := by
 obtain ⟨dx, z⟩ := h
 exact ⟨dx, s _ _ z nc (V8 z ed (by intro z; cases z))⟩
theorem C8a {H H' : Hp} {q c d C0 d0 : Addr} {xs : List V} {F : List (Str × V)} {kv : List (Key × V)} (h : H q = some (.tup xs)) (s : A6b c d H H') (ec : H c = some (.ins C0 d0 F)) (ed : H d = some (.dK kv)) : H' q = some (.tup xs) := s _ _ h (V8 h ec (by intro z; cases z)) (V8 h ed (by intro z; cases z))
theorem A3m.exc2 {CN : Addr} {H H' : Hp} {q1 q2 n1 n2 c d C0 d0 : Addr} {x1 x2 : Nm} {F : List (Str × V)} {kv : List (Key × V)} (h : A3m CN H q1 q2 n1 n2 x1 x2) (s : A6b c d H H') (c1 : n1 ≠ c) (c2 : n2 ≠ c) (ec : H c = some (.ins C0 d0 F)) (ed : H d = some (.dK kv)) : A3m CN H' q1 q2 n1 n2 x1 x2 := ⟨C8a h.q1 s ec ed, C8a h.q2 s ec ed, h.n1.exc2 s c1 ed, h.n2.exc2 s c2 ed⟩
theorem A0ec (x1 x2 : Nm) (w1 : x1.Wf) (w2 : x2.Wf) : ∃ L, Pre x1 x2 L := by
 obtain ⟨w0, _⟩ := D9z w1.ok w2.ok
 by_cases hf : Y5 x1 x2 = 0
 . exact ⟨0, fun _ z => absurd hf z⟩
 unfold Pre
 obtain ⟨n, hn⟩ : ∃ n : Nat, Y5 x1 x2 = (n : Int) := ⟨(Y5 x1 x2).toNat, by omega⟩
 rw [hn] at hf ⊢
 obtain ⟨A, a1, a2⟩ := C6j n (by omega)
 by_cases z : (n : Int) * C7 (((0 : Nat) : Int) - A) < ((1 : Nat) : Int) * C7 (-(((0 : Nat) : Int) - A))
 . refine ⟨0 - (((0 : Nat) : Int) - A + 1), fun _ _ => ?_⟩
   rw [show 0 - (0 - (((0 : Nat) : Int) - A + 1)) = ((0 : Nat) : Int) - A + 1 by omega]
   exact B6h (b := 1) (M := 0) a1 a2 (by decide) (by decide) z
 refine ⟨0 - (((0 : Nat) : Int) - A), fun _ _ => ?_⟩
 rw [show 0 - (0 - (((0 : Nat) : Int) - A)) = ((0 : Nat) : Int) - A by omega]
 exact B9v (b := 1) (M := 0) a1 a2 (by decide) (by decide) (by omega)
theorem V8d {v : Cv} {x1 x2 : Nm} {L : Int} (ok : v.Ok) (w1 : x1.Wf) (w2 : x2.Wf) (h : Pre x1 x2 L) : A0r (A5g (A5e v x1 x2 L).1.k.str (A5e v x1 x2 L).1.s (A5e v x1 x2 L).1.f (A5e v x1 x2 L).1.p) := by
 have us := C8g x1.s x2.s
 have p10 := w1.ok.p0; have p11 := w1.ok.p1; have p20 := w2.ok.p0; have p21 := w2.ok.p1
 obtain ⟨w0, wT⟩ := D9z w1.ok w2.ok
 have mb : 0 <= Y1 (x1.p - x2.p) 0 /\ Y1 (x1.p - x2.p) 0 <= 400 := by unfold Y1; split <;> omega
 unfold A5e
 split
 . exact B4u
 split
 . rename_i hq
   split
   . exact B4u
   . split
     . exact C5e ok us.1 us.2
     . rename_i hf
       have zl : SzL (Y5 x1 x2) := ⟨by omega, wT⟩
       exact J0d ok us.1 us.2 zl.sz J7k (h hq hf) (by decide) (by decide) (by omega) (by omega)
 exact Y0b ok
def Z6r (CN CC CT c p q1 q2 n1 n2 : Addr) (v : Cv) (b : Addr) (up tr : List Str) (x1 x2 : Nm) (L : Int) : Hp -> VK -> XK -> Prop := fun H Q E => (∃ a, A4y CC H c v a b up tr) /\ H p = some (.tup [.ref q1, .ref q2, .ref n1, .ref n2]) /\ Two CN H n1 n2 x1 x2 /\ A4z CN CC CT H c v b up tr (A5e v x1 x2 L) Q E
def U9u (K : Frag) (P0 : Addr) : Sp := fun vs H Q _ => ∃ a ns, vs = [.ref a] /\ (ns : List Int).length <= 63 /\ SqL K H a (ns.map V.int) /\ H P0 = some (.tbl #[]) /\ ∀ H', Q (.bl true) H'
theorem scLaw : B9 Q46 ["_law_script"] (A1 D2v) := scK
theorem A0fb {f cc P0 f1 f2 f3 f4 f6 f7 f8 f9 f10 CC CN CB CT : Addr} {fd fd1 fd2 fd3 fd4 fd6 fd7 fd8 fd9 fd10 : FuncData} (D : Def K mg "law" ["_law_script"] D2v f fd) (hcode : fd.code = .ref cc) (LB : J8m mg base cc P0)
   (D_l_cell_at : Def K mg "_law_cell_at" Q12 C5d f1 fd1) (G_l_cell_at : sI P w K mg base 1 f1 fd1 Q12 (J6d K)) (D_l_own : Def K mg "_law_own" ["_law_cell"] C8f f2 fd2) (G_l_own : sI P w K mg base 2 f2 fd2 ["_law_cell"] V7w)
   (D_l_context : Def K mg "_law_context" Q26 A1y f3 fd3) (G_l_context : sI P w K mg base 5 f3 fd3 Q26 (C8s CC)) (D_l_pair : Def K mg "_law_pair" ["_law_script"] B6p f4 fd4) (G_l_pair : sI P w K mg base 4 f4 fd4 ["_law_script"] (U9q K))
   (D_l_made : Def K mg "_law_made" ["_law_one"] B6n f6 fd6) (G_l_made : sI P w K mg base 4 f6 fd6 ["_law_one"] (U8y CN)) (D_l_due : Def K mg "_law_due" Q42 C6u f7 fd7) (G_l_due : sI P w K mg base 4 f7 fd7 Q42 V7r)
   (D_l_stands : Def K mg "_law_stands" Q35 A4h f8 fd8) (G_l_stands : B1k P w K mg base (CX1 P w) 10 f8 fd8 Q35 (B9u P w K mg base 8 CN CC CT))
   (D_whole_over : Def K mg "whole_over" Q40 A0v f9 fd9) (G_whole_over : sI P w K mg base 7 f9 fd9 Q40 (C4v CN CC CT)) (D_told : Def K mg "told" ["number"] C4y f10 fd10) (G_told : sI P w K mg base 2 f10 fd10 ["number"] (J7z K CN CB))
   (C : C6c K mg CC) (MT : Has P w K mg base CC "traps" 1 ["self"] (B6m CC)) (O : Own mg) : B1k P w K mg base (CX1 P w) 11 f fd ["_law_script"] (U9u K P0) := by
 refine D.F.okEL hcode scLaw (fun vs H Q E h => ?_) (fun X A outer s H vs Q E hX HG hr hx h => ?_)
 . obtain ⟨a, ns, rfl, _⟩ := h
   rfl
 subst hX
 obtain ⟨sc, ns, rfl, n63, hS, hP, kk⟩ := h
 obtain ⟨ff, fdf, mf, gf, bf⟩ := MT
 have HU := Nat.lt_of_le_of_lt (Nat.add_le_add_left (by decide : 1 <= 64) _) hr.units
 have CZ : Y1x [("_law_pair_here", s.heap.objs.size + 1 + 1), ("_law_context_here", s.heap.objs.size + 1)] [7, 2] Q46 (envOfC "law" (A1 D2v) s.heap.objs.size f (.ref cc)) := ⟨fun i x c h => by
   rcases i with _ | _ | i
   . obtain ⟨rfl, rfl⟩ := Prod.mk.inj (Option.some.inj h)
     exact ⟨rfl, rfl, fun j hj => by cases hj; rfl⟩
   . obtain ⟨rfl, rfl⟩ := Prod.mk.inj (Option.some.inj h)
     exact ⟨rfl, rfl, fun j hj => by cases hj; rfl⟩
   . cases h⟩
 refine ⟨_, (A7 (B4 (D0 (i := 1) scLaw.nd rfl (Or.inl rfl) (D4 D_l_own G_l_own hr hx (A0 (D4 D_l_cell_at G_l_cell_at hr hx (A0 (pv 0) (A0 A3 A6))) A6)))) (A7 (B4 (D0 (i := 2) scLaw.nd rfl (Or.inr rfl) (D4 D_l_context G_l_context hr hx (A0 (pv 1) A6)))) (A7 (B4 (D9a (D4 D_l_pair G_l_pair hr hx (A0 (pv 0) A6)) (D9k rfl (A2q (Y3 (i := 3) scLaw.nd rfl (Or.inl rfl)) (A2q (Y3 (i := 4) scLaw.nd rfl (Or.inl rfl)) C6e))))) (A7 (B4 (D0 (i := 5) scLaw.nd rfl (Or.inl rfl) (D4 D_l_made G_l_made hr hx (A0 (pv 3) A6)))) (A7 (B4 (D0 (i := 6) scLaw.nd rfl (Or.inl rfl) (D4 D_l_made G_l_made hr hx (A0 (pv 4) A6)))) (A7 (B4 (C0b PassesOwn.leaving rfl (C6g (U7 (A0 (U1 (A0 (pv 3) (A0 (pv 4) (A0 (pv 5) (A0 (pv 6) A6))))) (A0 (U1 (A0 (pv 4) (A0 (pv 3) (A0 (pv 6) (A0 (pv 5) A6))))) (A0 (U1 (A0 (pv 3) (A0 (pv 4) (A0 (pv 5) (A0 (pv 6) A6))))) A6))))) (Y3 (i := 7) scLaw.nd rfl (Or.inr rfl)) (A7 (B4 (D0 (i := 8) scLaw.nd rfl (Or.inl rfl) (D4 D_l_due G_l_due hr hx (A0 (pv 1) (A0 (J1 G9 (pv 7) A3 (fun _ _ => rfl)) (A0 (J1 G9 (pv 7) A3 (fun _ _ => rfl)) A6)))))) (A7 (B4 (G4 (A7s (A0g (A0fw D_l_stands G_l_stands HG hr hx CZ (A0 (pv 2) (A0 (pv 1) (A0 (V1h LB rfl (by rfl)) (A0 (pv 8) A6))))))) (A9 (B8 B1h)) D3)) (A9 (B4 (G4 (PW.pt (C5a (C6 (V9g hr.units) (D4 D_told G_told hr hx (A0 (pv 5) A6)) (pv 3) (C5 _)) (B0t (C6 (V9g hr.units) (D4 D_told G_told hr hx (A0 (pv 6) A6)) (pv 4) (C5 _))))) (A9 (B8 B1h)) D3))))))) (A9 (B8 (D9 (D9e hr.units) (A7n (pv 2) C.cl mf gf hr bf .nil hx) (U8 HU (pv 1) B0 (fun _ _ => rfl)) (C5 _)))))))))), ?_⟩
 have z3 : 3 <= sizeLine := C9 (by decide)
 have z4 : 4 <= sizeLine := C9 (by decide)
 refine ⟨fun σ' H' => ∃ d u t r y l m up tr, B7 H H' /\ A3t r l m /\ A2d up /\ A2d tr /\ V7 H' d u t r y l m up tr /\ σ' = [sr sc, sr d, none, none, none, none, none, none, none], ?_, ?_⟩
 . exact ⟨_, rfl, sc, ns, 0, rfl, hS, by decide, fun c0 => ⟨c0, rfl, fun d u t r y l m up tr H' s' _ _ _ fr su st ow => ⟨d, u, t, r, y, l, m, up, tr, s', fr, su, st, ow, rfl⟩⟩⟩
 rintro σ' H1 ⟨d, u, t, r, y, l, m, up, tr, s1, fr, su, st, ow1, rfl⟩
 refine ⟨fun σ' H' => ∃ c a b, C6b CN CC CT P0 J6y J6g K sc ns d t c b r y l m up tr H' a u /\ σ' = [sr sc, sr d, sr c, none, none, none, none, none, none], ?_, ?_⟩
 . exact ⟨_, rfl, d, u, t, r, y, l, m, up, tr, rfl, ow1, fr, su, st, fun c a b H' s' _ hc => ⟨c, a, b, ⟨ow1.same s', hc, Z6d ((s1.trans s') _ _ hP), (s1.trans s').seq hS⟩, rfl⟩⟩
 rintro σ' H2 ⟨c, a, b, h2, rfl⟩
 refine ⟨fun σ' H' => ∃ (x1 x2 : Nm) (q1 q2 : Addr), C6b CN CC CT P0 J6y J6g K sc ns d t c b r y l m up tr H' a u /\ x1.Wf /\ x2.Wf /\ H' q1 = some (.tup x1.vs) /\ H' q2 = some (.tup x2.vs) /\ σ' = [sr sc, sr d, sr c, sr q1, sr q2, none, none, none, none], ?_, ?_⟩
 . exact ⟨_, rfl, sc, ns, rfl, h2.scr, fun p q1 q2 x1 x2 H' s' ep e1 e2 w1 w2 => ⟨p, _, rfl, SqT.of ep, rfl, _, _, rfl, _, _, rfl, rfl, x1, x2, q1, q2, h2.same s', w1, w2, e1, e2, rfl⟩⟩
 rintro σ' H4 ⟨x1, x2, q1, q2, h4, w1, w2, e1, e2, rfl⟩
 refine ⟨fun σ' H' => ∃ n1, C6b CN CC CT P0 J6y J6g K sc ns d t c b r y l m up tr H' a u /\ n1 ≠ c /\ V4 CN H' n1 x1 /\ H' q1 = some (.tup x1.vs) /\ H' q2 = some (.tup x2.vs) /\ σ' = [sr sc, sr d, sr c, sr q1, sr q2, sr n1, none, none, none], ?_, ?_⟩
 . refine ⟨_, rfl, q1, x1, rfl, e1, w1, fun n H' nn s' num => ⟨n, h4.same s', ?_, num, s' _ _ e1, s' _ _ e2, rfl⟩⟩
   obtain ⟨dx, ec⟩ := h4.ctx.ins
   exact Ne.symm (D5 ec nn)
 rintro σ' H5 ⟨n1, h5, nc1, num1, e1, e2, rfl⟩
 refine ⟨fun σ' H' => ∃ n2, C6b CN CC CT P0 J6y J6g K sc ns d t c b r y l m up tr H' a u /\ n2 ≠ c /\ A3m CN H' q1 q2 n1 n2 x1 x2 /\ σ' = [sr sc, sr d, sr c, sr q1, sr q2, sr n1, sr n2, none, none], ?_, ?_⟩
 . refine ⟨_, rfl, q2, x2, rfl, e2, w2, fun n H' nn s' num => ⟨n, h5.same s', ?_, ⟨s' _ _ e1, s' _ _ e2, num1.same s', num⟩, rfl⟩⟩
   obtain ⟨dx, ec⟩ := h5.ctx.ins
   exact Ne.symm (D5 ec nn)
 rintro σ' H6 ⟨n2, h6, nc2, pr6, rfl⟩
 have ok : (Cv.mk r y l m).Ok := ⟨fr.r1, fr.r2, fr.l1, fr.l2, fr.m1, fr.m2⟩
 refine ⟨fun σ' H' => ∃ a u up v7 v8, C6b CN CC CT P0 J6y J6g K sc ns d t c b r y l m up tr H' a u /\ σ' = [sr sc, sr d, sr c, sr q1, sr q2, sr n1, sr n2, v7, v8], ?_, ?_⟩
 . refine ⟨_, rfl, _, rfl, _, rfl, _, rfl, z4, fun t1 m1 => ⟨_, rfl, _, rfl, _, rfl, _, rfl, z4, fun t2 m2 => ⟨_, rfl, _, rfl, _, rfl, _, rfl, z4, fun t3 m3 => ⟨z3, fun lp nl => ?_⟩⟩⟩⟩
   have u1 := B7.upd (o := .tup [.ref q1, .ref q2, .ref n1, .ref n2]) m1
   have u2 := B7.upd (o := .tup [.ref q2, .ref q1, .ref n2, .ref n1]) m2
   have u3 := B7.upd (o := .tup [.ref q1, .ref q2, .ref n1, .ref n2]) m3
   have u4 := B7.upd (o := .lst [.ref t1, .ref t2, .ref t3]) nl
   have g1 := (u2.trans (u3.trans u4)) _ _ (A8 (H := H6) (a := t1) (o := .tup [.ref q1, .ref q2, .ref n1, .ref n2]))
   have g2 := (u3.trans u4) _ _ (A8 (a := t2) (o := .tup [.ref q2, .ref q1, .ref n2, .ref n1]))
   have g3 := u4 _ _ (A8 (a := t3) (o := .tup [.ref q1, .ref q2, .ref n1, .ref n2]))
   have u14 := u1.trans (u2.trans (u3.trans u4))
   have h7 := h6.same u14
   have pr7 := pr6.same u14
   refine ⟨lp, rfl, ⟨_, SqL.of A8⟩, A6n (xs := [.ref t1, .ref t2, .ref t3]) (fun i σ' H' => ∃ a u up v7 v8, A2d up /\ C6b CN CC CT P0 J6y J6g K sc ns d t c b r y l m up tr H' a u /\ A3m CN H' q1 q2 n1 n2 x1 x2 /\ H' t1 = some (.tup [.ref q1, .ref q2, .ref n1, .ref n2]) /\ H' t2 = some (.tup [.ref q2, .ref q1, .ref n2, .ref n1]) /\ H' t3 = some (.tup [.ref q1, .ref q2, .ref n1, .ref n2]) /\ H' lp = some (.lst [.ref t1, .ref t2, .ref t3]) /\ σ' = [sr sc, sr d, sr c, sr q1, sr q2, sr n1, sr n2, v7, v8]) ⟨a, u, up, none, none, su, h7, pr7, g1, g2, g3, A8, rfl⟩ ?_ ?_ ?_⟩
   . rintro i σ' H' _ ⟨_, _, _, _, _, _, _, _, _, _, _, e, _⟩
     exact SqL.of e
   . clear h7 pr7 g1 g2 g3 u1 u2 u3 u4 u14 h6 pr6 h5 num1 e1 e2 h4
     rintro i x σ' H7 hi ⟨a, u, up, v7, v8, su, h7, pr7, g1, g2, g3, g4, rfl⟩
     obtain ⟨p, qa, qb, na, nb, xa, xb, rfl, ep, pr, wa, wb, ca, cb⟩ : ∃ p qa qb na nb xa xb, x = V.ref p /\ H7 p = some (.tup [.ref qa, .ref qb, .ref na, .ref nb]) /\ A3m CN H7 qa qb na nb xa xb /\ xa.Wf /\ xb.Wf /\ na ≠ c /\ nb ≠ c := by
       rcases i with _ | _ | _ | i
       . cases hi
         exact ⟨t1, q1, q2, n1, n2, x1, x2, rfl, g1, pr7, w1, w2, nc1, nc2⟩
       . cases hi
         exact ⟨t2, q2, q1, n2, n1, x2, x1, rfl, g2, pr7.swap, w2, w1, nc2, nc1⟩
       . cases hi
         exact ⟨t3, q1, q2, n1, n2, x1, x2, rfl, g3, pr7, w1, w2, nc1, nc2⟩
       . cases hi
     obtain ⟨L, hL⟩ := A0ec xa xb wa wb
     refine ⟨fun σ' H' => ∃ q zs, B7 H7 H' /\ B8u H' q (A5e ⟨r, y, l, m⟩ xa xb L).1 zs /\ zs.length <= 10 /\ (∀ z, z ∈ zs ↔ z ∈ (A5e ⟨r, y, l, m⟩ xa xb L).2) /\ σ' = [sr sc, sr d, sr c, sr q1, sr q2, sr n1, sr n2, sr p, sr q], ?_, ?_⟩
     . exact ⟨_, rfl, _, rfl, p, _, _, _, rfl, rfl, SqT.of ep, J9 (j := 0) rfl, _, rfl, p, _, _, _, rfl, rfl, SqT.of ep, J9 (j := 1) rfl, d, u, t, r, y, l, m, up, tr, qa, qb, xa, xb, L, rfl, h7.own, fr, pr.q1, pr.q2, wa, wb, hL, fun q zs H' s' du lz hz => ⟨q, zs, s', du, lz, hz, rfl⟩⟩
     rintro σ' H8 ⟨q, zs, s8, ⟨dt, dl, edq, edt, edl⟩, lz, hz, rfl⟩
     have h8 := h7.same s8
     have pr8 := pr.same s8
     have pp8 := pr7.same s8
     have ep8 := s8 _ _ ep
     have g1 := s8 _ _ g1
     have g2 := s8 _ _ g2
     have g3 := s8 _ _ g3
     have g4 := s8 _ _ g4
     refine ⟨fun σ' H' => ∃ a u up, A2d up /\ C6b CN CC CT P0 J6y J6g K sc ns d t c b r y l m up tr H' a u /\ A3m CN H' q1 q2 n1 n2 x1 x2 /\ H' t1 = some (.tup [.ref q1, .ref q2, .ref n1, .ref n2]) /\ H' t2 = some (.tup [.ref q2, .ref q1, .ref n2, .ref n1]) /\ H' t3 = some (.tup [.ref q1, .ref q2, .ref n1, .ref n2]) /\ H' lp = some (.lst [.ref t1, .ref t2, .ref t3]) /\ σ' = [sr sc, sr d, sr c, sr q1, sr q2, sr n1, sr n2, sr p, sr q], ?_, ?_⟩
     . refine ⟨_, rfl, _, rfl, h8.tab, fun fl H9 sT nf la tab9 _ => ⟨_, rfl, fun hn H10 ho A10 kn => ?_⟩⟩
       have xok := V8d (v := ⟨r, y, l, m⟩) ok wa wb hL
       have lup : up.length <= 900 := Nat.le_trans su.len (by decide)
       have oup : Y7 up = up := C8c su (fun z => Iff.rfl)
       have DO := Z9b (P := P) (w := w) (K := K) (mg := mg) (base := base) (k := 7) (vs := [.ref p, .ref c]) (sp := Z6r CN CC CT c p qa qb na nb ⟨r, y, l, m⟩ b up tr xa xb L) la (show LamS ["_law_pair_here", "_law_context_here"] _ from ⟨rfl, rfl, rfl, by decide +kernel, by decide +kernel, by decide +kernel, by decide +kernel⟩) rfl (A0ez _) (fun _ _ _ => rfl) (fun X cdv A' outer' s' H' Q' E' hX hr' hx' hsp af => by
         subst hX
         obtain ⟨⟨a', hc'⟩, ep', tw', k'⟩ := hsp
         refine ⟨_, D4 D_whole_over G_whole_over hr' hx' (A0 (pv 1) (A0 (J1 G9 (pv 0) A3 (fun _ _ => rfl)) (A0 (J1 G9 (pv 0) A3 (fun _ _ => rfl)) A6))), ?_⟩
         have ep'' := af.hide ep' (fun _ z => by cases z)
         exact ⟨_, rfl, _, rfl, p, _, _, _, rfl, rfl, SqT.of ep'', J9 (j := 2) rfl, _, rfl, p, _, _, _, rfl, rfl, SqT.of ep'', J9 (j := 3) rfl, c, ⟨r, y, l, m⟩, a', b, up, tr, na, nb, xa, xb, L, rfl, U4.hide hc' af, ok, lup, oup, ⟨tw'.1.hide af, tw'.2.hide af⟩, wa.ok, wb.ok, hL, k'.hide⟩)
       refine Z8c h8 su st sT tab9 la hn ho A10 (fun j x' c' hj => ?_) edq edt edl (by omega) xok DO (fun H' kp x' hc' Qd Ed g h => ?_) (fun a' u' H11 x11 h11 _ => ?_)
       . rcases j with _ | _ | j
         . exact ⟨_, rfl, kn 0 x' c' 7 _ hj rfl rfl⟩
         . exact ⟨_, rfl, kn 1 x' c' 2 _ hj rfl rfl⟩
         . cases hj
       . have ed := h8.own.d
         have nu : ∀ {n x}, V4 CN H8 n x -> V4 CN H' n x := fun {n x} hn => by
           obtain ⟨dx, z⟩ := hn.keep kp
           obtain ⟨dx', z'⟩ := hn
           exact ⟨dx, x' _ _ z (V8 z' ed (by intro z; cases z))⟩
         exact ⟨⟨a, hc'⟩, x' _ _ (kp _ _ (fun _ z => by cases z) ep8) (V8 ep8 ed (by intro z; cases z)), ⟨nu pr8.n1, nu pr8.n2⟩, Z7v hz g h⟩
       . obtain ⟨ps, eP, _⟩ := h8.tab
         have k9 := sT.keep eP
         obtain ⟨dx, ec⟩ := (h8.ctx.keep k9).ins
         have ed := (h8.own.keep k9).d
         have tp := fun {q : Addr} {xs : List V} (e : H8 q = some (.tup xs)) => C8a (k9 _ _ (fun _ z => by cases z) e) x11 ec ed
         have g4' := k9 _ _ (fun _ z => by cases z) g4
         exact ⟨_, rfl, U2 ⟨a', u', _, Z8d _, h11, (pp8.keep k9).exc2 x11 nc1 nc2 ec ed, tp g1, tp g2, tp g3, x11 _ _ g4' (V8 g4' ec (by intro z; cases z)) (V8 g4' ed (by intro z; cases z)), rfl⟩⟩
     rintro σ' H9 ⟨a, u, up, su, h9, pr9, g1, g2, g3, g4, rfl⟩
     refine ⟨_, ?_, fun _ _ h => h⟩
     refine ⟨_, rfl, _, rfl, Or.inl ⟨n1, _, _, _, _, rfl, pr9.n1, fun z nz => ⟨_, rfl, A5g x1.k.str x1.s x1.f x1.p, A5g x1.k.str x1.s x1.f x1.p, rdD A8, rdD ((B7.upd nz) _ _ pr9.q1), shD _ _ _ (okK _), shD _ _ _ (okK _), _, rfl, ?_⟩⟩⟩
     rw [if_pos rfl, eqD]
     have uz := B7.upd (o := .tup x1.vs) nz
     refine U2 ⟨_, rfl, _, rfl, Or.inl ⟨n2, _, _, _, _, rfl, pr9.n2.same uz, fun z2 nz2 => ⟨_, rfl, A5g x2.k.str x2.s x2.f x2.p, A5g x2.k.str x2.s x2.f x2.p, rdD A8, rdD ((uz.trans (B7.upd nz2)) _ _ pr9.q2), shD _ _ _ (okK _), shD _ _ _ (okK _), _, rfl, ?_⟩⟩⟩
     rw [if_pos rfl, eqD]
     have u2 := uz.trans (B7.upd (o := .tup x2.vs) nz2)
     exact U2 ⟨a, u, up, _, _, su, h9.same u2, pr9.same u2, u2 _ _ g1, u2 _ _ g2, u2 _ _ g3, u2 _ _ g4, rfl⟩
   . rintro σ' H7 ⟨a, u, up, v7, v8, _, h7, _, _, _, _, _, rfl⟩
     exact ⟨a, u, up, v7, v8, h7, rfl⟩
 rintro σ' H7 ⟨a, u, up, v7, v8, h7, rfl⟩
 obtain ⟨dx, ec⟩ := h7.ctx.ins
 refine ⟨_, rfl, c, dx, _, rfl, ec, D9m _ _ _ _ _ _, c, r, y, l, m, a, b, _, _, rfl, h7.ctx, fun l2 n2 => ⟨_, rfl, d, _, rfl, (h7.own.same (B7.upd n2)).gTr, ?_⟩⟩
 have okT : OkL tr := ⟨Nat.le_trans st.len (by decide), fun z hz => U9y z (st.mem z hz)⟩
 refine ⟨rdS tr, rdS tr, C0f A8, C0f (h7.own.same (B7.upd n2)).t, shS okT, shS okT, ?_⟩
 rw [if_neg Bool.false_ne_true, eqSs]
 exact kk _
end TR
namespace TR
open PySem L2 PySem.W PyProof.Rows
theorem all_mk {cc P0 : Addr} {l : OpenLaw} {w : World} {K : Frag} {h : Heap} {mg : Str -> Option Value} {fa CW W0 A7a W1 A6y W2 A6v W3 A6z W4 A6t W5 A6s W6 A6x W7 A6u CN D7t A1s A3b A1k A3e A1n A3f A1m A2z A1t A3g A1p A2y A1r A3a A1j A2x CC D8h Y4y A5c A3d B4c A5b A6w A3c CQ D8f Y8s A2h B5a CE C1 C2 C3 CR fX aS C1r G2e D1u G4v G0x Y7f C0q U5w U2c G3a B8e G6n D1j C4t Z1n C2g C3m D0p C1q B4d D1t D1c G6s G7h C0u C0v D0f U2m G4d B3d U2y J8p B3y G4w C3q G6u G2z U3e G3s Y4e C1p D1m J9s U6e B7x G5z G1r C0x D0g B8k D2j G6g C9k U4u B7e Z3c G7x Y6q : Addr} (X : K.In h) (G : h.Ns mainGlobals mg) (hfa : mg "law" = some (.ref fa)) {U4d U2e : Option Addr} {U1c : Array (Option Value)} {U4b U6w U5g U2v D0w U1g : Value} (C1y : nsIn K mainGlobals "product_of" = some (some (.ref C1r))) (C3j : K.lookup C1r = some ⟨U4b, U4d, .func (fnOf "product_of" "product_of" (B5 A0q) (B1 A0q) (A1 A0q) .none U6w U5g U2v U2e D0w U1g), U1c⟩) (C4p : codeIn K D0w "product_of" = true) (C3p : keepIn K (.ref C1r) = true) {Z3f Z2s : Option Addr} {Z1x : Array (Option Value)} {Z2w Y4a Y4b Y5z J3g Y7d : Value} (G8s : nsIn K mainGlobals "ten_to" = some (some (.ref G2e))) (G0s : K.lookup G2e = some ⟨Z2w, Z3f, .func (fnOf "ten_to" "ten_to" (B5 A1v) (B1 A1v) (A1 A1v) .none Y4a Y4b Y5z Z2s J3g Y7d), Z1x⟩) (G7j : codeIn K J3g "ten_to" = true) (G7q : keepIn K (.ref G2e) = true) {V3u V6g : Option Addr} {V7k : Array (Option Value)} {V4g V3m V7h V5e D8m V3w : Value} (D1p : nsIn K mainGlobals "part_of" = some (some (.ref D1u))) (D0q : K.lookup D1u = some ⟨V4g, V3u, .func (fnOf "part_of" "part_of" (B5 A7t) (B1 A7t) (A1 A7t) .none V3m V7h V5e V6g D8m V3w), V7k⟩) (C9w : codeIn K D8m "part_of" = true) (D1g : keepIn K (.ref D1u) = true) {Y9a Y9w : Option Addr} {Z2p : Array (Option Value)} {Z0n Y9y Y7k Y3f J3e Y6t : Value} (G6w : nsIn K mainGlobals "whole_lead" = some (some (.ref G4v))) (G8g : K.lookup G4v = some ⟨Z0n, Y9a, .func (fnOf "whole_lead" "whole_lead" (B5 B1g) (B1 B1g) (A1 B1g) .none Y9y Y7k Y3f Y9w J3e Y6t), Z2p⟩) (G0u : codeIn K J3e "whole_lead" = true) (G8j : keepIn K (.ref G4v) = true) {Y5s Y7r : Option Addr} {Z4t : Array (Option Value)} {Z0m Y4n Y4s Z3w J2k Y4c : Value} (G0t : nsIn K mainGlobals "plain" = some (some (.ref G0x))) (G3w : K.lookup G0x = some ⟨Z0m, Y5s, .func (fnOf "plain" "plain" (B5 B6g) (B1 B6g) (A1 B6g) .none Y4n Y4s Z3w Y7r J2k Y4c), Z4t⟩) (G8z : codeIn K J2k "plain" = true) (G2a : keepIn K (.ref G0x) = true) {A0gh A0jc : Option Addr} {A0hb : Array (Option Value)} {A0jr A0jf A0hh A0kd Y7e A0hj : Value} (Y7p : nsIn K mainGlobals "end" = some (some (.ref Y7f))) (Z3r : K.lookup Y7f = some ⟨A0jr, A0gh, .func (fnOf "end" "end" (B5 D2s) (B1 D2s) (A1 D2s) .none A0jf A0hh A0kd A0jc Y7e A0hj), A0hb⟩) (Z4m : codeIn K Y7e "end" = true) (Y5r : keepIn K (.ref Y7f) = true) {U6h U2u : Option Addr} {U0b : Array (Option Value)} {U4t U1z U3f U3x D1v J9n : Value} (C1t : nsIn K mainGlobals "nothing" = some (some (.ref C0q))) (C2z : K.lookup C0q = some ⟨U4t, U6h, .func (fnOf "nothing" "nothing" (B5 A1g) (B1 A1g) (A1 A1g) .none U1z U3f U3x U2u D1v J9n), U0b⟩) (C4r : codeIn K D1v "nothing" = true) (C4j : keepIn K (.ref C0q) = true) {A0ag A0cq : Option Addr} {A0bm : Array (Option Value)} {A0ar A0ae A0bf A0ah V0v A0bh : Value} (U8d : nsIn K mainGlobals "told" = some (some (.ref U5w))) (U8e : K.lookup U5w = some ⟨A0ar, A0ag, .func (fnOf "told" "told" (B5 C4y) (B1 C4y) (A1 C4y) .none A0ae A0bf A0ah A0cq V0v A0bh), A0bm⟩) (U1w : codeIn K V0v "told" = true) (U6x : keepIn K (.ref U5w) = true) {A0aq A0ac : Option Addr} {A0ak : Array (Option Value)} {A0bq A0cf Z9w A0bg V0s A0az : Value} (U5z : nsIn K mainGlobals "lead_of" = some (some (.ref U2c))) (J9v : K.lookup U2c = some ⟨A0bq, A0aq, .func (fnOf "lead_of" "lead_of" (B5 C8q) (B1 C8q) (A1 C8q) .none A0cf Z9w A0bg A0ac V0s A0az), A0ak⟩) (U6d : codeIn K V0s "lead_of" = true) (U4j : keepIn K (.ref U2c) = true) {Z5p Y7v : Option Addr} {Y6u : Array (Option Value)} {Z0a Y9b Y8c Y8b J4x Z1m : Value} (G4r : nsIn K mainGlobals "need_number" = some (some (.ref G3a))) (G7v : K.lookup G3a = some ⟨Z0a, Z5p, .func (fnOf "need_number" "need_number" (B5 B1d) (B1 B1d) (A1 B1d) .none Y9b Y8c Y8b Y7v J4x Z1m), Y6u⟩) (G9k : codeIn K J4x "need_number" = true) (G8d : keepIn K (.ref G3a) = true) {J3s J4n : Option Addr} {J2r : Array (Option Value)} {J4c J3h J5m J3v C5t J5v : Value} (B7h : nsIn K mainGlobals "need_numbers" = some (some (.ref B8e))) (B7y : K.lookup B8e = some ⟨J4c, J3s, .func (fnOf "need_numbers" "need_numbers" (B5 A7e) (B1 A7e) (A1 A7e) .none J3h J5m J3v J4n C5t J5v), J2r⟩) (B7a : codeIn K C5t "need_numbers" = true) (B8j : keepIn K (.ref B8e) = true) {Z0c Z4c : Option Addr} {Y3n : Array (Option Value)} {Z4g Z0b Z4s Y3y J4f Z2n : Value} (G3m : nsIn K mainGlobals "some_of_kind" = some (some (.ref G6n))) (G4g : K.lookup G6n = some ⟨Z4g, Z0c, .func (fnOf "some_of_kind" "some_of_kind" (B5 B6e) (B1 B6e) (A1 B6e) .none Z0b Z4s Y3y Z4c J4f Z2n), Y3n⟩) (G8y : codeIn K J4f "some_of_kind" = true) (G9d : keepIn K (.ref G6n) = true) {V6s V5a : Option Addr} {V3t : Array (Option Value)} {V6k V5t V5m V4m D8b V5z : Value} (D2k : nsIn K mainGlobals "unlike_sign" = some (some (.ref D1j))) (D0e : K.lookup D1j = some ⟨V6k, V6s, .func (fnOf "unlike_sign" "unlike_sign" (B5 A5m) (B1 A5m) (A1 A5m) .none V5t V5m V4m V5a D8b V5z), V3t⟩) (C9r : codeIn K D8b "unlike_sign" = true) (D2e : keepIn K (.ref D1j) = true) {U5s U4k : Option Addr} {J8q : Array (Option Value)} {J9k U6c U1m U3a D2c U4n : Value} (C3z : nsIn K mainGlobals "whole_at" = some (some (.ref C4t))) (C3u : K.lookup C4t = some ⟨J9k, U5s, .func (fnOf "whole_at" "whole_at" (B5 A4t) (B1 A4t) (A1 A4t) .none U6c U1m U3a U4k D2c U4n), J8q⟩) (C1u : codeIn K D2c "whole_at" = true) (C1j : keepIn K (.ref C4t) = true) {A0gn A0hx : Option Addr} {A0gd : Array (Option Value)} {A0hr A0jp A0hg A0jh Z0s A0gy : Value} (Y3g : nsIn K mainGlobals "is_between" = some (some (.ref Z1n))) (Y3h : K.lookup Z1n = some ⟨A0hr, A0gn, .func (fnOf "is_between" "is_between" (B5 D2r) (B1 D2r) (A1 D2r) .none A0jp A0hg A0jh A0hx Z0s A0gy), A0gd⟩) (Z5d : codeIn K Z0s "is_between" = true) (Y3c : keepIn K (.ref Z1n) = true) {U0f U8a : Option Addr} {U3t : Array (Option Value)} {U7b U3d U4z U0y C9g U1a : Value} (C3x : nsIn K mainGlobals "need_between" = some (some (.ref C2g))) (C2m : K.lookup C2g = some ⟨U7b, U0f, .func (fnOf "need_between" "need_between" (B5 A2m) (B1 A2m) (A1 A2m) .none U3d U4z U0y U8a C9g U1a), U3t⟩) (C4e : codeIn K C9g "need_between" = true) (C3v : keepIn K (.ref C2g) = true) {J9a U3y : Option Addr} {J8x : Array (Option Value)} {U0q U6j U2n U1q C9s U2f : Value} (C0p : nsIn K mainGlobals "settled" = some (some (.ref C3m))) (C1d : K.lookup C3m = some ⟨U0q, J9a, .func (fnOf "settled" "settled" (B5 A4k) (B1 A4k) (A1 A4k) .none U6j U2n U1q U3y C9s U2f), J8x⟩) (C4a : codeIn K C9s "settled" = true) (C3r : keepIn K (.ref C3m) = true) {V7j V7d : Option Addr} {V5y : Array (Option Value)} {V5v V7p V3x V4w D8n V3y : Value} (C9d : nsIn K mainGlobals "finest_power" = some (some (.ref D0p))) (D1n : K.lookup D0p = some ⟨V5v, V7j, .func (fnOf "finest_power" "finest_power" (B5 A5h) (B1 A5h) (A1 A5h) .none V7p V3x V4w V7d D8n V3y), V5y⟩) (C9b : codeIn K D8n "finest_power" = true) (D1y : keepIn K (.ref D0p) = true) {U3s U0p : Option Addr} {U3r : Array (Option Value)} {J9w U0d U7h J9r D1h U6t : Value} (C2y : nsIn K mainGlobals "nearest_to" = some (some (.ref C1q))) (C4h : K.lookup C1q = some ⟨J9w, U3s, .func (fnOf "nearest_to" "nearest_to" (B5 A2n) (B1 A2n) (A1 A2n) .none U0d U7h J9r U0p D1h U6t), U3r⟩) (C1z : codeIn K D1h "nearest_to" = true) (C2f : keepIn K (.ref C1q) = true) {G0v G2p : Option Addr} {G2w : Array (Option Value)} {G7g G4c G9h G1n B9c G6v : Value} (B1z : nsIn K mainGlobals "neighbour" = some (some (.ref B4d))) (B2m : K.lookup B4d = some ⟨G7g, G0v, .func (fnOf "neighbour" "neighbour" (B5 A0e) (B1 A0e) (A1 A0e) .none G4c G9h G1n G2p B9c G6v), G2w⟩) (B4f : codeIn K B9c "neighbour" = true) (B2y : keepIn K (.ref B4d) = true) {V3v V5c : Option Addr} {V7n : Array (Option Value)} {V3k V5g V7c V4u D7w V4y : Value} (D0n : nsIn K mainGlobals "within_room" = some (some (.ref D1t))) (C9t : K.lookup D1t = some ⟨V3k, V3v, .func (fnOf "within_room" "within_room" (B5 A5k) (B1 A5k) (A1 A5k) .none V5g V7c V4u V5c D7w V4y), V7n⟩) (D1s : codeIn K D7w "within_room" = true) (D0d : keepIn K (.ref D1t) = true) {V4d V6d : Option Addr} {V5w : Array (Option Value)} {V7f V3j V4h V5x D8k V6t : Value} (D0r : nsIn K mainGlobals "is_beyond" = some (some (.ref D1c))) (D1r : K.lookup D1c = some ⟨V7f, V4d, .func (fnOf "is_beyond" "is_beyond" (B5 A5n) (B1 A5n) (A1 A5n) .none V3j V4h V5x V6d D8k V6t), V5w⟩) (C9q : codeIn K D8k "is_beyond" = true) (D0y : keepIn K (.ref D1c) = true) {Z5v Z5g : Option Addr} {Y4j : Array (Option Value)} {Y2z Y6z Y7w Y2h J5z Y7n : Value} (G0y : nsIn K mainGlobals "burst" = some (some (.ref G6s))) (G1b : K.lookup G6s = some ⟨Y2z, Z5v, .func (fnOf "burst" "burst" (B5 B0q) (B1 B0q) (A1 B0q) .none Y6z Y7w Y2h Z5g J5z Y7n), Y4j⟩) (G5h : codeIn K J5z "burst" = true) (G8a : keepIn K (.ref G6s) = true) {Y2d Z2d : Option Addr} {Y9s : Array (Option Value)} {Z0d Z2k Y6g Y3v J2f Y2w : Value} (G1k : nsIn K mainGlobals "nines" = some (some (.ref G7h))) (G2x : K.lookup G7h = some ⟨Z0d, Y2d, .func (fnOf "nines" "nines" (B5 B1a) (B1 B1a) (A1 B1a) .none Z2k Y6g Y3v Z2d J2f Y2w), Y9s⟩) (G6m : codeIn K J2f "nines" = true) (G0p : keepIn K (.ref G7h) = true) {U5h U7m : Option Addr} {J9c : Array (Option Value)} {U0h U0r U4m U3g C9x U2k : Value} (C2e : nsIn K mainGlobals "signals_of_rest" = some (some (.ref C0u))) (C4k : K.lookup C0u = some ⟨U0h, U5h, .func (fnOf "signals_of_rest" "signals_of_rest" (B5 A4g) (B1 A4g) (A1 A4g) .none U0r U4m U3g U7m C9x U2k), J9c⟩) (C1v : codeIn K C9x "signals_of_rest" = true) (C4c : keepIn K (.ref C0u) = true) {U1e U6v : Option Addr} {J9h : Array (Option Value)} {J9u J9p U7k U0m D0v J8y : Value} (C1k : nsIn K mainGlobals "signals_of_lead" = some (some (.ref C0v))) (C3y : K.lookup C0v = some ⟨J9u, U1e, .func (fnOf "signals_of_lead" "signals_of_lead" (B5 A4j) (B1 A4j) (A1 A4j) .none J9p U7k U0m U6v D0v J8y), J9h⟩) (C3f : codeIn K D0v "signals_of_lead" = true) (C1x : keepIn K (.ref C0v) = true) {V7e V5r : Option Addr} {V6b : Array (Option Value)} {V6r V7a V6m V6q D8j V3z : Value} (D0h : nsIn K mainGlobals "nought" = some (some (.ref D0f))) (D0u : K.lookup D0f = some ⟨V6r, V7e, .func (fnOf "nought" "nought" (B5 A3r) (B1 A3r) (A1 A3r) .none V7a V6m V6q V5r D8j V3z), V6b⟩) (D2g : codeIn K D8j "nought" = true) (C9n : keepIn K (.ref D0f) = true) {A0ad Z9t : Option Addr} {A0bv : Array (Option Value)} {A0aj A0au Z9n A0ck V0x A0cr : Value} (U3k : nsIn K mainGlobals "void" = some (some (.ref U2m))) (U7j : K.lookup U2m = some ⟨A0aj, A0ad, .func (fnOf "void" "void" (B5 C5j) (B1 C5j) (A1 C5j) .none A0au Z9n A0ck Z9t V0x A0cr), A0bv⟩) (U7p : codeIn K V0x "void" = true) (J9g : keepIn K (.ref U2m) = true) {Z1p Y5f : Option Addr} {Y7a : Array (Option Value)} {Z3u Z4r Y8p Y7c J5n Y3d : Value} (G7c : nsIn K mainGlobals "split_to_end" = some (some (.ref G4d))) (G4z : K.lookup G4d = some ⟨Z3u, Z1p, .func (fnOf "split_to_end" "split_to_end" (B5 B6s) (B1 B6s) (A1 B6s) .none Z4r Y8p Y7c Y5f J5n Y3d), Y7a⟩) (G6t : codeIn K J5n "split_to_end" = true) (G3q : keepIn K (.ref G4d) = true) {G6h G0k : Option Addr} {G6e : Array (Option Value)} {G7p G6d G2b G3x B9e G1h : Value} (B4j : nsIn K mainGlobals "whole_over" = some (some (.ref B3d))) (B2b : K.lookup B3d = some ⟨G7p, G6h, .func (fnOf "whole_over" "whole_over" (B5 A0v) (B1 A0v) (A1 A0v) .none G6d G2b G3x G0k B9e G1h), G6e⟩) (B2u : codeIn K B9e "whole_over" = true) (B1v : keepIn K (.ref B3d) = true) {A0am A0bp : Option Addr} {Z9y : Array (Option Value)} {A0ay A0ab A0bn Z9u V0n A0cm : Value} (U2w : nsIn K mainGlobals "has_plain_quotient" = some (some (.ref U2y))) (J8v : K.lookup U2y = some ⟨A0ay, A0am, .func (fnOf "has_plain_quotient" "has_plain_quotient" (B5 C7b) (B1 C7b) (A1 C7b) .none A0ab A0bn Z9u A0bp V0n A0cm), Z9y⟩) (U2p : codeIn K V0n "has_plain_quotient" = true) (U1k : keepIn K (.ref U2y) = true) {A0ax A0cs : Option Addr} {Z9s : Array (Option Value)} {A0av A0bj A0ch A0cn V0h Z9v : Value} (U7s : nsIn K mainGlobals "odd_quotient" = some (some (.ref J8p))) (U3c : K.lookup J8p = some ⟨A0av, A0ax, .func (fnOf "odd_quotient" "odd_quotient" (B5 C7u) (B1 C7u) (A1 C7u) .none A0bj A0ch A0cn A0cs V0h Z9v), Z9s⟩) (U7q : codeIn K V0h "odd_quotient" = true) (U0c : keepIn K (.ref J8p) = true) {G0q G0w : Option Addr} {G3h : Array (Option Value)} {G2t G2d G4k G5e B9g G7z : Value} (B3s : nsIn K mainGlobals "whole_part" = some (some (.ref B3y))) (B2j : K.lookup B3y = some ⟨G2t, G0q, .func (fnOf "whole_part" "whole_part" (B5 A0s) (B1 A0s) (A1 A0s) .none G2d G4k G5e G0w B9g G7z), G3h⟩) (B1r : codeIn K B9g "whole_part" = true) (B3h : keepIn K (.ref B3y) = true) {Y5a Y7x : Option Addr} {Y6f : Array (Option Value)} {Z0t Y5n Z5r Y8f J5s Y8u : Value} (G4j : nsIn K mainGlobals "way_of" = some (some (.ref G4w))) (G1z : K.lookup G4w = some ⟨Z0t, Y5a, .func (fnOf "way_of" "way_of" (B5 B0k) (B1 B0k) (A1 B0k) .none Y5n Z5r Y8f Y7x J5s Y8u), Y6f⟩) (G3d : codeIn K J5s "way_of" = true) (G3j : keepIn K (.ref G4w) = true) {U0w U5x : Option Addr} {U4g : Array (Option Value)} {U0u U3z U1x U1p D2m U5k : Value} (C3k : nsIn K mainGlobals "bounded" = some (some (.ref C3q))) (C0w : K.lookup C3q = some ⟨U0u, U0w, .func (fnOf "bounded" "bounded" (B5 A4m) (B1 A4m) (A1 A4m) .none U3z U1x U1p U5x D2m U5k), U4g⟩) (C2p : codeIn K D2m "bounded" = true) (C3t : keepIn K (.ref C3q) = true) {Z1h Y5p : Option Addr} {Z5t : Array (Option Value)} {Y7h Y6k Z0e Y9z J5c Z3h : Value} (G1u : nsIn K mainGlobals "need_signals" = some (some (.ref G6u))) (G8m : K.lookup G6u = some ⟨Y7h, Z1h, .func (fnOf "need_signals" "need_signals" (B5 B0g) (B1 B0g) (A1 B0g) .none Y6k Z0e Y9z Y5p J5c Z3h), Z5t⟩) (G9a : codeIn K J5c "need_signals" = true) (G8b : keepIn K (.ref G6u) = true) {Z1z Y6d : Option Addr} {Y3z : Array (Option Value)} {Z1t Y9q Z4y Y3q J5p Y8w : Value} (G5q : nsIn K mainGlobals "in_order" = some (some (.ref G2z))) (G8e : K.lookup G2z = some ⟨Z1t, Z1z, .func (fnOf "in_order" "in_order" (B5 B0j) (B1 B0j) (A1 B0j) .none Y9q Z4y Y3q Y6d J5p Y8w), Y3z⟩) (G6q : codeIn K J5p "in_order" = true) (G8p : keepIn K (.ref G2z) = true) {A0cd A0bd : Option Addr} {A0br : Array (Option Value)} {Z9p Z9q A0ca A0ba V0k A0bz : Value} (U5n : nsIn K mainGlobals "_law_cell_at" = some (some (.ref U3e))) (U1y : K.lookup U3e = some ⟨Z9p, A0cd, .func (fnOf "_law_cell_at" "_law_cell_at" (B5 C5d) (B1 C5d) (A1 C5d) .none Z9q A0ca A0ba A0bd V0k A0bz), A0br⟩) (U7a : codeIn K V0k "_law_cell_at" = true) (U7v : keepIn K (.ref U3e) = true) {Y8h Y3w : Option Addr} {Y5c : Array (Option Value)} {Y8y Y8x Z5f Z4n J5f Z4w : Value} (G1f : nsIn K mainGlobals "_law_mixed" = some (some (.ref G3s))) (G6a : K.lookup G3s = some ⟨Y8y, Y8h, .func (fnOf "_law_mixed" "_law_mixed" (B5 A7d) (B1 A7d) (A1 A7d) .none Y8x Z5f Z4n Y3w J5f Z4w), Y5c⟩) (G1m : codeIn K J5f "_law_mixed" = true) (G8t : keepIn K (.ref G3s) = true) {A0he A0hz : Option Addr} {A0jd : Array (Option Value)} {A0jq A0jv A0hy A0jt Y6s A0hn : Value} (Y2v : nsIn K mainGlobals "_law_ten" = some (some (.ref Y4e))) (Y7q : K.lookup Y4e = some ⟨A0jq, A0he, .func (fnOf "_law_ten" "_law_ten" (B5 B1j) (B1 B1j) (A1 B1j) .none A0jv A0hy A0jt A0hz Y6s A0hn), A0jd⟩) (Z5q : codeIn K Y6s "_law_ten" = true) (Y8t : keepIn K (.ref Y4e) = true) {U2r U5u : Option Addr} {U5c : Array (Option Value)} {U4h U3n U8c U3p C9c U7u : Value} (C3h : nsIn K mainGlobals "_law_figures" = some (some (.ref C1p))) (C2n : K.lookup C1p = some ⟨U4h, U2r, .func (fnOf "_law_figures" "_law_figures" (B5 A2b) (B1 A2b) (A1 A2b) .none U3n U8c U3p U5u C9c U7u), U5c⟩) (C3n : codeIn K C9c "_law_figures" = true) (C0z : keepIn K (.ref C1p) = true) {V5p V4q : Option Addr} {V5f : Array (Option Value)} {V5q V3s V6a V4p D8e V4t : Value} (C9v : nsIn K mainGlobals "_law_number" = some (some (.ref D1m))) (D0t : K.lookup D1m = some ⟨V5q, V5p, .func (fnOf "_law_number" "_law_number" (B5 A4u) (B1 A4u) (A1 A4u) .none V3s V6a V4p V4q D8e V4t), V5f⟩) (C9f : codeIn K D8e "_law_number" = true) (D1k : keepIn K (.ref D1m) = true) {A0an A0be : Option Addr} {A0bw : Array (Option Value)} {A0at A0cp A0bb Z9z V0r A0cg : Value} (U6b : nsIn K mainGlobals "_law_made" = some (some (.ref J9s))) (U4c : K.lookup J9s = some ⟨A0at, A0an, .func (fnOf "_law_made" "_law_made" (B5 B6n) (B1 B6n) (A1 B6n) .none A0cp A0bb Z9z A0be V0r A0cg), A0bw⟩) (U7g : codeIn K V0r "_law_made" = true) (J9t : keepIn K (.ref J9s) = true) {A0ap A0bu : Option Addr} {Z9x : Array (Option Value)} {A0bx A0bs A0bc Z9r V0g A0bt : Value} (U5y : nsIn K mainGlobals "_law_own" = some (some (.ref U6e))) (U6y : K.lookup U6e = some ⟨A0bx, A0ap, .func (fnOf "_law_own" "_law_own" (B5 C8f) (B1 C8f) (A1 C8f) .none A0bs A0bc Z9r A0bu V0g A0bt), Z9x⟩) (U2q : codeIn K V0g "_law_own" = true) (U4s : keepIn K (.ref U6e) = true) {J2h J2m : Option Addr} {J3r : Array (Option Value)} {J2g J4v J5d J4m C5p J6a : Value} (B8b : nsIn K mainGlobals "_law_context" = some (some (.ref B7x))) (B7r : K.lookup B7x = some ⟨J2g, J2h, .func (fnOf "_law_context" "_law_context" (B5 A1y) (B1 A1y) (A1 A1y) .none J4v J5d J4m J2m C5p J6a), J3r⟩) (B7s : codeIn K C5p "_law_context" = true) (B6y : keepIn K (.ref B7x) = true) {Y9h Z0q : Option Addr} {Z0v : Array (Option Value)} {Y6w Z1g Z5k Z3z J3p Z5c : Value} (G6y : nsIn K mainGlobals "_law_goes_up" = some (some (.ref G5z))) (G7w : K.lookup G5z = some ⟨Y6w, Y9h, .func (fnOf "_law_goes_up" "_law_goes_up" (B5 B6q) (B1 B6q) (A1 B6q) .none Z1g Z5k Z3z Z0q J3p Z5c), Z0v⟩) (G4s : codeIn K J3p "_law_goes_up" = true) (G9p : keepIn K (.ref G5z) = true) {Y7g Y6p : Option Addr} {Z1v : Array (Option Value)} {Y2y Y2j Z3x Y3t J3u Y9k : Value} (G7r : nsIn K mainGlobals "_law_lead" = some (some (.ref G1r))) (G7a : K.lookup G1r = some ⟨Y2y, Y7g, .func (fnOf "_law_lead" "_law_lead" (B5 B6k) (B1 B6k) (A1 B6k) .none Y2j Z3x Y3t Y6p J3u Y9k), Z1v⟩) (G5s : codeIn K J3u "_law_lead" = true) (G6r : keepIn K (.ref G1r) = true) {U3w U6z : Option Addr} {U1f : Array (Option Value)} {U3u U1u U6s U1s D1b U0s : Value} (C2u : nsIn K mainGlobals "_law_nought" = some (some (.ref C0x))) (C0t : K.lookup C0x = some ⟨U3u, U3w, .func (fnOf "_law_nought" "_law_nought" (B5 A2u) (B1 A2u) (A1 A2u) .none U1u U6s U1s U6z D1b U0s), U1f⟩) (C2j : codeIn K D1b "_law_nought" = true) (C1m : keepIn K (.ref C0x) = true) {V3r V4j : Option Addr} {V3h : Array (Option Value)} {V5b V4z V5k V5u D7x V6v : Value} (C9y : nsIn K mainGlobals "_law_burst" = some (some (.ref D0g))) (D2d : K.lookup D0g = some ⟨V5b, V3r, .func (fnOf "_law_burst" "_law_burst" (B5 A7p) (B1 A7p) (A1 A7p) .none V4z V5k V5u V4j D7x V6v), V3h⟩) (C9u : codeIn K D7x "_law_burst" = true) (D1w : keepIn K (.ref D0g) = true) {J4q J2u : Option Addr} {J4d : Array (Option Value)} {J3m J4z J5b J2c C5u J2t : Value} (B7g : nsIn K mainGlobals "_law_settled" = some (some (.ref B8k))) (B7n : K.lookup B8k = some ⟨J3m, J4q, .func (fnOf "_law_settled" "_law_settled" (B5 A1u) (B1 A1u) (A1 A1u) .none J4z J5b J2c J2u C5u J2t), J4d⟩) (B7p : codeIn K C5u "_law_settled" = true) (B8c : keepIn K (.ref B8k) = true) {V6c V5s : Option Addr} {V4k : Array (Option Value)} {V5d V6h V3n V7g D8a V4s : Value} (D0j : nsIn K mainGlobals "_law_ratio" = some (some (.ref D2j))) (D0b : K.lookup D2j = some ⟨V5d, V6c, .func (fnOf "_law_ratio" "_law_ratio" (B5 A7g) (B1 A7g) (A1 A7g) .none V6h V3n V7g V5s D8a V4s), V4k⟩) (D2f : codeIn K D8a "_law_ratio" = true) (D1q : keepIn K (.ref D2j) = true) {Y5k Y6m : Option Addr} {Y9j : Array (Option Value)} {Y7z Z3d Z1s Y2g J2q Z0u : Value} (G6x : nsIn K mainGlobals "_law_tried" = some (some (.ref G6g))) (G9b : K.lookup G6g = some ⟨Y7z, Y5k, .func (fnOf "_law_tried" "_law_tried" (B5 A7h) (B1 A7h) (A1 A7h) .none Z3d Z1s Y2g Y6m J2q Z0u), Y9j⟩) (G6p : codeIn K J2q "_law_tried" = true) (G1c : keepIn K (.ref G6g) = true) {V6u V3q : Option Addr} {V4n : Array (Option Value)} {V5n V5j V4c V4a D8d V6j : Value} (C9a : nsIn K mainGlobals "_law_stands" = some (some (.ref C9k))) (C8z : K.lookup C9k = some ⟨V5n, V6u, .func (fnOf "_law_stands" "_law_stands" (B5 A4h) (B1 A4h) (A1 A4h) .none V5j V4c V4a V3q D8d V6j), V4n⟩) (C9m : codeIn K D8d "_law_stands" = true) (C9p : keepIn K (.ref C9k) = true) {A0ce A0aw : Option Addr} {A0cj : Array (Option Value)} {A0as A0by A0cc A0af V0f A0cb : Value} (U4f : nsIn K mainGlobals "_law_odd_quotient" = some (some (.ref U4u))) (U1n : K.lookup U4u = some ⟨A0as, A0ce, .func (fnOf "_law_odd_quotient" "_law_odd_quotient" (B5 C7k) (B1 C7k) (A1 C7k) .none A0by A0cc A0af A0aw V0f A0cb), A0cj⟩) (U7y : codeIn K V0f "_law_odd_quotient" = true) (U8b : keepIn K (.ref U4u) = true) {J3y J5u : Option Addr} {J5t : Array (Option Value)} {J5x J5h J4j J3n C5r J2s : Value} (B7v : nsIn K mainGlobals "_law_times_in" = some (some (.ref B7e))) (B6w : K.lookup B7e = some ⟨J5x, J3y, .func (fnOf "_law_times_in" "_law_times_in" (B5 A1x) (B1 A1x) (A1 A1x) .none J5h J4j J3n J5u C5r J2s), J5t⟩) (B7t : codeIn K C5r "_law_times_in" = true) (B6u : keepIn K (.ref B7e) = true) {A0ja A0gg : Option Addr} {A0gp : Array (Option Value)} {A0jn A0gr A0je A0gf Y5g A0jw : Value} (Y5d : nsIn K mainGlobals "_law_due" = some (some (.ref Z3c))) (Y4r : K.lookup Z3c = some ⟨A0jn, A0ja, .func (fnOf "_law_due" "_law_due" (B5 C6u) (B1 C6u) (A1 C6u) .none A0gr A0je A0gf A0gg Y5g A0jw), A0gp⟩) (Z5u : codeIn K Y5g "_law_due" = true) (Y2x : keepIn K (.ref Z3c) = true) {Y5e Z2y : Option Addr} {Z5x : Array (Option Value)} {Y7j Y8d Y4g Y9u J3f Z5j : Value} (G8h : nsIn K mainGlobals "_law_pair" = some (some (.ref G7x))) (G7s : K.lookup G7x = some ⟨Y7j, Y5e, .func (fnOf "_law_pair" "_law_pair" (B5 B6p) (B1 B6p) (A1 B6p) .none Y8d Y4g Y9u Z2y J3f Z5j), Z5x⟩) (G5b : codeIn K J3f "_law_pair" = true) (G8f : keepIn K (.ref G7x) = true) {A0hq Y2q : Option Addr} {A0gz : Array (Option Value)} {A0gk Z3s Y3e Z4k G8c Y5v : Value} (V0t : nsIn K mainGlobals "law" = some (some (.ref Y6q))) (Z5w : K.lookup Y6q = some ⟨A0gk, A0hq, .func (fnOf "law" "law" (B5 D2v) (B1 D2v) (A1 D2v) .none Z3s Y3e Z4k Y2q G8c Y5v), A0gz⟩) (Y6e : codeIn K G8c "law" = true) (Y9p : keepIn K (.ref Y6q) = true) (A9r : nsIn K mainGlobals "isinstance" = some none) (Y7u : nsIn K mainGlobals "int" = some none) (J8r : nsIn K mainGlobals "bool" = some none) (Y3j : nsIn K mainGlobals "str" = some none) (U7x : nsIn K mainGlobals "list" = some none) (G3g : nsIn K mainGlobals "tuple" = some none) (U5e : nsIn K mainGlobals "dict" = some none) (Z5m : nsIn K mainGlobals "len" = some none) (G3u : nsIn K mainGlobals "range" = some none) (Y8m : nsIn K mainGlobals "min" = some none) (Z4q : nsIn K mainGlobals "max" = some none) (Y3u : nsIn K mainGlobals "abs" = some none) (Y9d : nsIn K mainGlobals "any" = some none) (Y2p : nsIn K mainGlobals "all" = some none) (Y7y : nsIn K mainGlobals "sum" = some none) (J9q : nsIn K mainGlobals "repr" = some none) (B1n : nsIn K mainGlobals "enumerate" = some none) (B6x : nsIn K mainGlobals "reversed" = some none) (Z3t : nsIn K mainGlobals "zip" = some none) (C9j : nsIn K mainGlobals "sorted" = some none) (C9h : nsIn K mainGlobals "divmod" = some none) (Y3k : nsIn K mainGlobals "set" = some none) (A9s : nsIn K mainGlobals "ValueError" = some none) (B7u : kitOne K (.type "int") (.type "int") = some true) (B1m : kitOne K (.type "int") (.type "bool") = some false) (B7d : kitOne K (.type "int") (.type "str") = some false) (B3q : kitOne K (.type "int") (.type "list") = some false) (A9g : kitOne K (.type "int") (.type "tuple") = some false) (B2q : kitOne K (.type "int") (.type "dict") = some false) (B1t : kitOne K (.type "bool") (.type "int") = some true) (A8j : kitOne K (.type "bool") (.type "bool") = some true) (B2w : kitOne K (.type "bool") (.type "str") = some false) (A8k : kitOne K (.type "bool") (.type "list") = some false) (A6d : kitOne K (.type "bool") (.type "tuple") = some false) (A8b : kitOne K (.type "bool") (.type "dict") = some false) (B7m : kitOne K (.type "str") (.type "int") = some false) (B2x : kitOne K (.type "str") (.type "bool") = some false) (B7q : kitOne K (.type "str") (.type "str") = some true) (B3x : kitOne K (.type "str") (.type "list") = some false) (A9h : kitOne K (.type "str") (.type "tuple") = some false) (B3r : kitOne K (.type "str") (.type "dict") = some false) (B3b : kitOne K (.type "list") (.type "int") = some false) (A8d : kitOne K (.type "list") (.type "bool") = some false) (B3f : kitOne K (.type "list") (.type "str") = some false) (A9z : kitOne K (.type "list") (.type "list") = some true) (A6f : kitOne K (.type "list") (.type "tuple") = some false) (A9c : kitOne K (.type "list") (.type "dict") = some false) (A8p : kitOne K (.type "tuple") (.type "int") = some false) (A6c : kitOne K (.type "tuple") (.type "bool") = some false) (A9e : kitOne K (.type "tuple") (.type "str") = some false) (A6g : kitOne K (.type "tuple") (.type "list") = some false) (A5a : kitOne K (.type "tuple") (.type "tuple") = some true) (A6e : kitOne K (.type "tuple") (.type "dict") = some false) (B2v : kitOne K (.type "dict") (.type "int") = some false) (B0a : kitOne K (.type "dict") (.type "bool") = some false) (B3g : kitOne K (.type "dict") (.type "str") = some false) (B0d : kitOne K (.type "dict") (.type "list") = some false) (A6h : kitOne K (.type "dict") (.type "tuple") = some false) (B0f : kitOne K (.type "dict") (.type "dict") = some true) (A3j : kitOne K (.type "NoneType") (.type "int") = some false) (A2g : kitOne K (.type "NoneType") (.type "bool") = some false) (A3k : kitOne K (.type "NoneType") (.type "str") = some false) (A2e : kitOne K (.type "NoneType") (.type "list") = some false) (A1q : kitOne K (.type "NoneType") (.type "tuple") = some false) (A2f : kitOne K (.type "NoneType") (.type "dict") = some false) (sn : specialIn K (.builtin "object.__class__") "__get__" = some (some (.builtin "getset_descriptor.__get__"))) (tk : takesIn K (.builtin "object.__class__") = some true) (a_CW : nsIn K mainGlobals "Way" = some (some (.ref CW))) (a_W0 : nsIn K mainGlobals "Down" = some (some (.ref W0))) (Y7t : plainGet K W0 Str.empty = true) (Y2t : hasDictIn K W0 = true) (Y6j : plainOver K W0 = true) (Y4z : findIn K (.ref W0) "__setattr__" = some (some (.builtin "object.__setattr__"))) (Z3v : makesIn K W0 = true) (Z3p : keepIn K (.ref W0) = true) (Y6c : findIn K (.ref W0) "__class__" = some (some (.builtin "object.__class__"))) (Z4j : mroIn K W0 (.type "object") = some true) (Y6h : findIn K (.ref W0) "__init__" = some (some (.builtin "object.__init__"))) (Y4k : kitOne K (.ref W0) (.ref CW) = some true) (C4d : findIn K (.ref W0) "name" = some (some (.ref A7a))) (C4m : isFn K (.ref A7a) = true) {U6q U1r : Option Addr} {U0g : Array (Option Value)} {U5m U1b U4x U7w D2n U5b : Value} (C2c : K.lookup A7a = some ⟨U5m, U6q, .func (fnOf "name" "Down.name" (B5 sN0) (B1 sN0) (A1 sN0) .none U1b U4x U7w U1r D2n U5b), U0g⟩) (C1s : codeIn K D2n "Down.name" = true) (B5d : keepIn K (.ref A7a) = true) (a_W1 : nsIn K mainGlobals "Up" = some (some (.ref W1))) (Y6a : plainGet K W1 Str.empty = true) (Z4d : hasDictIn K W1 = true) (Z2b : plainOver K W1 = true) (Z0x : findIn K (.ref W1) "__setattr__" = some (some (.builtin "object.__setattr__"))) (Y4t : makesIn K W1 = true) (Y7b : keepIn K (.ref W1) = true) (Y3a : findIn K (.ref W1) "__class__" = some (some (.builtin "object.__class__"))) (Y7s : mroIn K W1 (.type "object") = some true) (Y9m : findIn K (.ref W1) "__init__" = some (some (.builtin "object.__init__"))) (Z0y : kitOne K (.ref W1) (.ref CW) = some true) (C1g : findIn K (.ref W1) "name" = some (some (.ref A6y))) (C1n : isFn K (.ref A6y) = true) {U5d U2d : Option Addr} {J9m : Array (Option Value)} {U6f U0e U5r U2a D0m U6r : Value} (C1f : K.lookup A6y = some ⟨U6f, U5d, .func (fnOf "name" "Up.name" (B5 sN1) (B1 sN1) (A1 sN1) .none U0e U5r U2a U2d D0m U6r), J9m⟩) (C2x : codeIn K D0m "Up.name" = true) (B5g : keepIn K (.ref A6y) = true) (a_W2 : nsIn K mainGlobals "Floor" = some (some (.ref W2))) (Y4d : plainGet K W2 Str.empty = true) (Y6x : hasDictIn K W2 = true) (Z2j : plainOver K W2 = true) (Y5h : findIn K (.ref W2) "__setattr__" = some (some (.builtin "object.__setattr__"))) (Z3b : makesIn K W2 = true) (Z0z : keepIn K (.ref W2) = true) (Z0p : findIn K (.ref W2) "__class__" = some (some (.builtin "object.__class__"))) (Y4x : mroIn K W2 (.type "object") = some true) (Y6r : findIn K (.ref W2) "__init__" = some (some (.builtin "object.__init__"))) (Y2k : kitOne K (.ref W2) (.ref CW) = some true) (C2s : findIn K (.ref W2) "name" = some (some (.ref A6v))) (C2t : isFn K (.ref A6v) = true) {J9y U4p : Option Addr} {U6g : Array (Option Value)} {U7e J8w U2z U4w D0a U5f : Value} (C2k : K.lookup A6v = some ⟨U7e, J9y, .func (fnOf "name" "Floor.name" (B5 sN2) (B1 sN2) (A1 sN2) .none J8w U2z U4w U4p D0a U5f), U6g⟩) (C2b : codeIn K D0a "Floor.name" = true) (B4z : keepIn K (.ref A6v) = true) (a_W3 : nsIn K mainGlobals "Ceiling" = some (some (.ref W3))) (Y2c : plainGet K W3 Str.empty = true) (Y6b : hasDictIn K W3 = true) (Z2m : plainOver K W3 = true) (Z1w : findIn K (.ref W3) "__setattr__" = some (some (.builtin "object.__setattr__"))) (Y8q : makesIn K W3 = true) (Y5w : keepIn K (.ref W3) = true) (Z5s : findIn K (.ref W3) "__class__" = some (some (.builtin "object.__class__"))) (Y8k : mroIn K W3 (.type "object") = some true) (Z0g : findIn K (.ref W3) "__init__" = some (some (.builtin "object.__init__"))) (Z4v : kitOne K (.ref W3) (.ref CW) = some true) (C4n : findIn K (.ref W3) "name" = some (some (.ref A6z))) (C1b : isFn K (.ref A6z) = true) {U6n J9e : Option Addr} {U6p : Array (Option Value)} {U0j J9d U2h U6u D1z J9x : Value} (C3a : K.lookup A6z = some ⟨U0j, U6n, .func (fnOf "name" "Ceiling.name" (B5 sN3) (B1 sN3) (A1 sN3) .none J9d U2h U6u J9e D1z J9x), U6p⟩) (C2w : codeIn K D1z "Ceiling.name" = true) (B5b : keepIn K (.ref A6z) = true) (a_W4 : nsIn K mainGlobals "HalfUp" = some (some (.ref W4))) (Z0k : plainGet K W4 Str.empty = true) (Y8a : hasDictIn K W4 = true) (Y2u : plainOver K W4 = true) (Z3k : findIn K (.ref W4) "__setattr__" = some (some (.builtin "object.__setattr__"))) (Y9g : makesIn K W4 = true) (Z2q : keepIn K (.ref W4) = true) (Z3g : findIn K (.ref W4) "__class__" = some (some (.builtin "object.__class__"))) (Z5a : mroIn K W4 (.type "object") = some true) (Z3y : findIn K (.ref W4) "__init__" = some (some (.builtin "object.__init__"))) (Y6v : kitOne K (.ref W4) (.ref CW) = some true) (C2v : findIn K (.ref W4) "name" = some (some (.ref A6t))) (C2r : isFn K (.ref A6t) = true) {U2s J9f : Option Addr} {U4v : Array (Option Value)} {U5p U6m U2b U1j D1x U6a : Value} (C3c : K.lookup A6t = some ⟨U5p, U2s, .func (fnOf "name" "HalfUp.name" (B5 sN4) (B1 sN4) (A1 sN4) .none U6m U2b U1j J9f D1x U6a), U4v⟩) (C4g : codeIn K D1x "HalfUp.name" = true) (B5f : keepIn K (.ref A6t) = true) (a_W5 : nsIn K mainGlobals "HalfDown" = some (some (.ref W5))) (Y6n : plainGet K W5 Str.empty = true) (Z1q : hasDictIn K W5 = true) (Z5b : plainOver K W5 = true) (Z2z : findIn K (.ref W5) "__setattr__" = some (some (.builtin "object.__setattr__"))) (Y2b : makesIn K W5 = true) (Z2a : keepIn K (.ref W5) = true) (Y8v : findIn K (.ref W5) "__class__" = some (some (.builtin "object.__class__"))) (Y3s : mroIn K W5 (.type "object") = some true) (Y2f : findIn K (.ref W5) "__init__" = some (some (.builtin "object.__init__"))) (Y8g : kitOne K (.ref W5) (.ref CW) = some true) (C3g : findIn K (.ref W5) "name" = some (some (.ref A6s))) (C1a : isFn K (.ref A6s) = true) {J8z U1d : Option Addr} {U7n : Array (Option Value)} {U5v J8u J9j U0t D0s U4a : Value} (C2h : K.lookup A6s = some ⟨U5v, J8z, .func (fnOf "name" "HalfDown.name" (B5 sN5) (B1 sN5) (A1 sN5) .none J8u J9j U0t U1d D0s U4a), U7n⟩) (C3s : codeIn K D0s "HalfDown.name" = true) (B5c : keepIn K (.ref A6s) = true) (a_W6 : nsIn K mainGlobals "HalfEven" = some (some (.ref W6))) (Y5u : plainGet K W6 Str.empty = true) (Y3r : hasDictIn K W6 = true) (Y5x : plainOver K W6 = true) (Z2c : findIn K (.ref W6) "__setattr__" = some (some (.builtin "object.__setattr__"))) (Y4u : makesIn K W6 = true) (Z1y : keepIn K (.ref W6) = true) (Y5m : findIn K (.ref W6) "__class__" = some (some (.builtin "object.__class__"))) (Z1f : mroIn K W6 (.type "object") = some true) (Y5j : findIn K (.ref W6) "__init__" = some (some (.builtin "object.__init__"))) (Y9f : kitOne K (.ref W6) (.ref CW) = some true) (C3e : findIn K (.ref W6) "name" = some (some (.ref A6x))) (C1h : isFn K (.ref A6x) = true) {U5j U3j : Option Addr} {U3m : Array (Option Value)} {U4e U5a U7z U5q D1d J9b : Value} (C3d : K.lookup A6x = some ⟨U4e, U5j, .func (fnOf "name" "HalfEven.name" (B5 sN6) (B1 sN6) (A1 sN6) .none U5a U7z U5q U3j D1d J9b), U3m⟩) (C0y : codeIn K D1d "HalfEven.name" = true) (B5e : keepIn K (.ref A6x) = true) (a_W7 : nsIn K mainGlobals "FiveUp" = some (some (.ref W7))) (Y2e : plainGet K W7 Str.empty = true) (Y4w : hasDictIn K W7 = true) (Y9t : plainOver K W7 = true) (Y9r : findIn K (.ref W7) "__setattr__" = some (some (.builtin "object.__setattr__"))) (Y8r : makesIn K W7 = true) (Z4h : keepIn K (.ref W7) = true) (Z2u : findIn K (.ref W7) "__class__" = some (some (.builtin "object.__class__"))) (Z1r : mroIn K W7 (.type "object") = some true) (Y8n : findIn K (.ref W7) "__init__" = some (some (.builtin "object.__init__"))) (Z3n : kitOne K (.ref W7) (.ref CW) = some true) (C4f : findIn K (.ref W7) "name" = some (some (.ref A6u))) (C4q : isFn K (.ref A6u) = true) {U3h J8s : Option Addr} {U0z : Array (Option Value)} {U3b U4r U7c U2j D2b U1h : Value} (C1e : K.lookup A6u = some ⟨U3b, U3h, .func (fnOf "name" "FiveUp.name" (B5 sN7) (B1 sN7) (A1 sN7) .none U4r U7c U2j J8s D2b U1h), U0z⟩) (C2a : codeIn K D2b "FiveUp.name" = true) (B5h : keepIn K (.ref A6u) = true) (a_CN : nsIn K mainGlobals "Number" = some (some (.ref CN))) (Y8e : plainGet K CN Str.empty = true) (Y5t : hasDictIn K CN = true) (Z3j : plainOver K CN = true) (Z1c : findIn K (.ref CN) "__setattr__" = some (some (.builtin "object.__setattr__"))) (Z1j : makesIn K CN = true) (Z2h : keepIn K (.ref CN) = true) (Y9x : findIn K (.ref CN) "__class__" = some (some (.builtin "object.__class__"))) (Y8j : mroIn K CN (.type "object") = some true) (C1w : findIn K (.ref CN) "kind" = some none) (C2d : findIn K (.ref CN) "sign" = some none) (A8z : findIn K (.ref CN) "figures" = some none) (B8n : findIn K (.ref CN) "power" = some none) (Y5q : findIn K (.ref CN) "__init__" = some (some (.ref D7t))) (Y5y : isFn K (.ref D7t) = true) {A0hk A0jy : Option Addr} {A0gt : Array (Option Value)} {A0hm A0gs A0kb A0gw Z0w A0jj : Value} (Y4q : K.lookup D7t = some ⟨A0hm, A0hk, .func (fnOf "__init__" "Number.__init__" (B5 D6d) (B1 D6d) (A1 D6d) .none A0gs A0kb A0gw A0jy Z0w A0jj), A0gt⟩) (Z5e : codeIn K Z0w "Number.__init__" = true) (Z0f : keepIn K (.ref D7t) = true) (G0r : kitOne K (.ref CN) (.ref CN) = some true) (A8w : findIn K (.ref W0) "goes_up" = some (some (.ref A1s))) (A9w : isFn K (.ref A1s) = true) {D5h D3h : Option Addr} {D4x : Array (Option Value)} {D5q D6b D3n D4k B6a D4h : Value} (A7z : K.lookup A1s = some ⟨D5q, D5h, .func (fnOf "goes_up" "Down.goes_up" (B5 sU0) (B1 sU0) (A1 sU0) .none D6b D3n D4k D3h B6a D4h), D4x⟩) (A8u : codeIn K B6a "Down.goes_up" = true) (A3u : keepIn K (.ref A1s) = true) (B4a : findIn K (.ref W0) "to_end" = some (some (.ref A3b))) (B1s : isFn K (.ref A3b) = true) {G3z G9n : Option Addr} {G7n : Array (Option Value)} {G2k G7e G9f G4x B9f G2s : Value} (B2k : K.lookup A3b = some ⟨G2k, G3z, .func (fnOf "to_end" "Down.to_end" (B5 sT0) (B1 sT0) (A1 sT0) .none G7e G9f G4x G9n B9f G2s), G7n⟩) (B4k : codeIn K B9f "Down.to_end" = true) (A5w : keepIn K (.ref A3b) = true) (A9f : findIn K (.ref W1) "goes_up" = some (some (.ref A1k))) (A9v : isFn K (.ref A1k) = true) {D5w D3q : Option Addr} {D4j : Array (Option Value)} {D5c D2z D5r D4z B5x D4r : Value} (A8f : K.lookup A1k = some ⟨D5c, D5w, .func (fnOf "goes_up" "Up.goes_up" (B5 sU1) (B1 sU1) (A1 sU1) .none D2z D5r D4z D3q B5x D4r), D4j⟩) (A8v : codeIn K B5x "Up.goes_up" = true) (A4b : keepIn K (.ref A1k) = true) (B2d : findIn K (.ref W1) "to_end" = some (some (.ref A3e))) (B4m : isFn K (.ref A3e) = true) {G5v G8x : Option Addr} {G7b : Array (Option Value)} {G1d G5x G5w G7d B9k G8w : Value} (B1y : K.lookup A3e = some ⟨G1d, G5v, .func (fnOf "to_end" "Up.to_end" (B5 sT1) (B1 sT1) (A1 sT1) .none G5x G5w G7d G8x B9k G8w), G7b⟩) (B4b : codeIn K B9k "Up.to_end" = true) (A5t : keepIn K (.ref A3e) = true) (A8c : findIn K (.ref W2) "goes_up" = some (some (.ref A1n))) (A9m : isFn K (.ref A1n) = true) {D5g D3v : Option Addr} {D3m : Array (Option Value)} {D4y D5d D3w D4v B6b D4n : Value} (A9q : K.lookup A1n = some ⟨D4y, D5g, .func (fnOf "goes_up" "Floor.goes_up" (B5 sU2) (B1 sU2) (A1 sU2) .none D5d D3w D4v D3v B6b D4n), D3m⟩) (A9u : codeIn K B6b "Floor.goes_up" = true) (A3w : keepIn K (.ref A1n) = true) (B2c : findIn K (.ref W2) "to_end" = some (some (.ref A3f))) (B4g : isFn K (.ref A3f) = true) {G1q G1t : Option Addr} {G5n : Array (Option Value)} {G4y G3r G5a G3v B9b G9q : Value} (B3v : K.lookup A3f = some ⟨G4y, G1q, .func (fnOf "to_end" "Floor.to_end" (B5 sT2) (B1 sT2) (A1 sT2) .none G3r G5a G3v G1t B9b G9q), G5n⟩) (B2h : codeIn K B9b "Floor.to_end" = true) (A5s : keepIn K (.ref A3f) = true) (A8h : findIn K (.ref W3) "goes_up" = some (some (.ref A1m))) (B0c : isFn K (.ref A1m) = true) {D3r D3x : Option Addr} {D6a : Array (Option Value)} {D4m D4s D5v D3d B6c D4d : Value} (A9j : K.lookup A1m = some ⟨D4m, D3r, .func (fnOf "goes_up" "Ceiling.goes_up" (B5 sU3) (B1 sU3) (A1 sU3) .none D4s D5v D3d D3x B6c D4d), D6a⟩) (A9a : codeIn K B6c "Ceiling.goes_up" = true) (A3x : keepIn K (.ref A1m) = true) (B2t : findIn K (.ref W3) "to_end" = some (some (.ref A2z))) (B2g : isFn K (.ref A2z) = true) {G1w G5c : Option Addr} {G8q : Array (Option Value)} {G5r G1j G5j G2j B9n G3b : Value} (B4e : K.lookup A2z = some ⟨G5r, G1w, .func (fnOf "to_end" "Ceiling.to_end" (B5 sT3) (B1 sT3) (A1 sT3) .none G1j G5j G2j G5c B9n G3b), G8q⟩) (B2r : codeIn K B9n "Ceiling.to_end" = true) (A5u : keepIn K (.ref A2z) = true) (A9d : findIn K (.ref W4) "goes_up" = some (some (.ref A1t))) (A8s : isFn K (.ref A1t) = true) {D3j D3p : Option Addr} {D3c : Array (Option Value)} {D5y D4c D5e D4p B5w D5f : Value} (A9t : K.lookup A1t = some ⟨D5y, D3j, .func (fnOf "goes_up" "HalfUp.goes_up" (B5 sU4) (B1 sU4) (A1 sU4) .none D4c D5e D4p D3p B5w D5f), D3c⟩) (A9p : codeIn K B5w "HalfUp.goes_up" = true) (A4a : keepIn K (.ref A1t) = true) (B3a : findIn K (.ref W4) "to_end" = some (some (.ref A3g))) (B3j : isFn K (.ref A3g) = true) {G4q G7f : Option Addr} {G4u : Array (Option Value)} {G5u G5f G5y G4p B8z G6c : Value} (B3m : K.lookup A3g = some ⟨G5u, G4q, .func (fnOf "to_end" "HalfUp.to_end" (B5 sT4) (B1 sT4) (A1 sT4) .none G5f G5y G4p G7f B8z G6c), G4u⟩) (B2z : codeIn K B8z "HalfUp.to_end" = true) (A5z : keepIn K (.ref A3g) = true) (A9x : findIn K (.ref W5) "goes_up" = some (some (.ref A1p))) (A8y : isFn K (.ref A1p) = true) {D4e D5n : Option Addr} {D3b : Array (Option Value)} {D3g D3k D3f D3t B5z D5z : Value} (A8g : K.lookup A1p = some ⟨D3g, D4e, .func (fnOf "goes_up" "HalfDown.goes_up" (B5 sU5) (B1 sU5) (A1 sU5) .none D3k D3f D3t D5n B5z D5z), D3b⟩) (B0e : codeIn K B5z "HalfDown.goes_up" = true) (A3v : keepIn K (.ref A1p) = true) (B3e : findIn K (.ref W5) "to_end" = some (some (.ref A2y))) (B2e : isFn K (.ref A2y) = true) {G2u G9g : Option Addr} {G4f : Array (Option Value)} {G5t G2y G1x G4h B9p G2r : Value} (B2f : K.lookup A2y = some ⟨G5t, G2u, .func (fnOf "to_end" "HalfDown.to_end" (B5 sT5) (B1 sT5) (A1 sT5) .none G2y G1x G4h G9g B9p G2r), G4f⟩) (B1x : codeIn K B9p "HalfDown.to_end" = true) (A5x : keepIn K (.ref A2y) = true) (A8t : findIn K (.ref W6) "goes_up" = some (some (.ref A1r))) (A8m : isFn K (.ref A1r) = true) {D4u D5u : Option Addr} {D4w : Array (Option Value)} {D4g D5a D3s D5t B5y D5p : Value} (A8e : K.lookup A1r = some ⟨D4g, D4u, .func (fnOf "goes_up" "HalfEven.goes_up" (B5 sU6) (B1 sU6) (A1 sU6) .none D5a D3s D5t D5u B5y D5p), D4w⟩) (A9y : codeIn K B5y "HalfEven.goes_up" = true) (A3z : keepIn K (.ref A1r) = true) (B2a : findIn K (.ref W6) "to_end" = some (some (.ref A3a))) (B3p : isFn K (.ref A3a) = true) {G7k G2q : Option Addr} {G4n : Array (Option Value)} {G8r G5d G8n G0z B9h G3c : Value} (B3u : K.lookup A3a = some ⟨G8r, G7k, .func (fnOf "to_end" "HalfEven.to_end" (B5 sT6) (B1 sT6) (A1 sT6) .none G5d G8n G0z G2q B9h G3c), G4n⟩) (B3t : codeIn K B9h "HalfEven.to_end" = true) (A5v : keepIn K (.ref A3a) = true) (A9b : findIn K (.ref W7) "goes_up" = some (some (.ref A1j))) (A9k : isFn K (.ref A1j) = true) {D5x D4b : Option Addr} {D3z : Array (Option Value)} {D4t D3a D4q D5b B6d D4a : Value} (A9n : K.lookup A1j = some ⟨D4t, D5x, .func (fnOf "goes_up" "FiveUp.goes_up" (B5 sU7) (B1 sU7) (A1 sU7) .none D3a D4q D5b D4b B6d D4a), D3z⟩) (A8a : codeIn K B6d "FiveUp.goes_up" = true) (A3y : keepIn K (.ref A1j) = true) (B2p : findIn K (.ref W7) "to_end" = some (some (.ref A2x))) (B1q : isFn K (.ref A2x) = true) {G7y G4a : Option Addr} {G1p : Array (Option Value)} {G8u G1a G3p G6k B9d G6b : Value} (B3w : K.lookup A2x = some ⟨G8u, G7y, .func (fnOf "to_end" "FiveUp.to_end" (B5 sT7) (B1 sT7) (A1 sT7) .none G1a G3p G6k G4a B9d G6b), G1p⟩) (B3k : codeIn K B9d "FiveUp.to_end" = true) (A5r : keepIn K (.ref A2x) = true) (a_CC : nsIn K mainGlobals "Context" = some (some (.ref CC))) (Y5b : plainGet K CC Str.empty = true) (Y9v : hasDictIn K CC = true) (Y4h : plainOver K CC = true) (Y9n : findIn K (.ref CC) "__setattr__" = some (some (.builtin "object.__setattr__"))) (Z4z : makesIn K CC = true) (Y2n : keepIn K (.ref CC) = true) (C4s : findIn K (.ref CC) "room" = some none) (C0r : findIn K (.ref CC) "rule" = some none) (B7b : findIn K (.ref CC) "least" = some none) (C3b : findIn K (.ref CC) "most" = some none) (B8m : findIn K (.ref CC) "risen" = some none) (A8q : findIn K (.ref CC) "trapped" = some none) (Z0r : findIn K (.ref CC) "__init__" = some (some (.ref D8h))) (Y3m : isFn K (.ref D8h) = true) {A0hs Z2e : Option Addr} {A0jz : Array (Option Value)} {A0gq Z4x Y2a Z2f U0x Y3b : Value} (Z4a : K.lookup D8h = some ⟨A0gq, A0hs, .func (fnOf "__init__" "Context.__init__" (B5 A1d) (B1 A1d) (A1 A1d) (.ref Y4y) Z4x Y2a Z2f Z2e U0x Y3b), A0jz⟩) (Z2t : codeIn K U0x "Context.__init__" = true) (Y6y : keepIn K (.ref D8h) = true) {A0qh A0qj A0pw : Tok} {A0pp : Nat} {A0hv : Option Addr} {A0gv : Value} {A0ht : Array (Option Value)} (Y4m : K.lookup Y4y = some ⟨A0gv, A0hv, .seq #[.int 9 A0qh, .str "half even" A0qj, .none, .int 60 A0pw] A0pp, A0ht⟩) (B8d : findIn K (.ref CC) "flags" = some (some (.ref A5c))) (B8g : isFn K (.ref A5c) = true) {J5y J2x : Option Addr} {J3b : Array (Option Value)} {J6b J5g J5w J3d C5q J3z : Value} (B7z : K.lookup A5c = some ⟨J6b, J5y, .func (fnOf "flags" "Context.flags" (B5 A4d) (B1 A4d) (A1 A4d) .none J5g J5w J3d J2x C5q J3z), J3b⟩) (B7w : codeIn K C5q "Context.flags" = true) (A8r : keepIn K (.ref A5c) = true) (B1p : findIn K (.ref CC) "lowest" = some (some (.ref A3d))) (B2n : isFn K (.ref A3d) = true) {G1s G2g : Option Addr} {G2f : Array (Option Value)} {G4b G5k G3y G4m B9m G6f : Value} (B1u : K.lookup A3d = some ⟨G4b, G1s, .func (fnOf "lowest" "Context.lowest" (B5 B4v) (B1 B4v) (A1 B4v) .none G5k G3y G4m G2g B9m G6f), G2f⟩) (B2s : codeIn K B9m "Context.lowest" = true) (A5q : keepIn K (.ref A3d) = true) (C9z : findIn K (.ref CC) "way" = some (some (.ref B4c))) (D2h : isFn K (.ref B4c) = true) {V6z V6n : Option Addr} {V6x : Array (Option Value)} {V6f V4v V6y V4x D8p V4r : Value} (C9e : K.lookup B4c = some ⟨V6f, V6z, .func (fnOf "way" "Context.way" (B5 B4p) (B1 B4p) (A1 B4p) .none V4v V6y V4x V6n D8p V4r), V6x⟩) (D1e : codeIn K D8p "Context.way" = true) (B9a : keepIn K (.ref B4c) = true) (B6v : findIn K (.ref CC) "traps" = some (some (.ref A5b))) (B6z : isFn K (.ref A5b) = true) {J3j J5j : Option Addr} {J4y : Array (Option Value)} {J4w J1z J2a J4t C5v J5a : Value} (B8h : K.lookup A5b = some ⟨J4w, J3j, .func (fnOf "traps" "Context.traps" (B5 A4e) (B1 A4e) (A1 A4e) .none J1z J2a J4t J5j C5v J5a), J4y⟩) (B7f : codeIn K C5v "Context.traps" = true) (B0b : keepIn K (.ref A5b) = true) (C3w : findIn K (.ref CC) "trap" = some (some (.ref A6w))) (C0s : isFn K (.ref A6w) = true) {U0a U1v : Option Addr} {U0n : Array (Option Value)} {U2t U7f U1t U3v D0z U0v : Value} (C2q : K.lookup A6w = some ⟨U2t, U0a, .func (fnOf "trap" "Context.trap" (B5 A6j) (B1 A6j) (A1 A6j) .none U7f U1t U3v U1v D0z U0v), U0n⟩) (C1c : codeIn K D0z "Context.trap" = true) (B4y : keepIn K (.ref A6w) = true) (B1w : findIn K (.ref CC) "raised" = some (some (.ref A3c))) (B4h : isFn K (.ref A3c) = true) {G7m G2n : Option Addr} {G6j : Array (Option Value)} {G2c G4t G7u G9m B9j G3t : Value} (B3n : K.lookup A3c = some ⟨G2c, G7m, .func (fnOf "raised" "Context.raised" (B5 A1w) (B1 A1w) (A1 A1w) .none G4t G7u G9m G2n B9j G3t), G6j⟩) (B3z : codeIn K B9j "Context.raised" = true) (A5y : keepIn K (.ref A3c) = true) (a_CQ : nsIn K mainGlobals "Ratio" = some (some (.ref CQ))) (Z1e : plainGet K CQ Str.empty = true) (Z2r : hasDictIn K CQ = true) (Z4f : plainOver K CQ = true) (Y9c : findIn K (.ref CQ) "__setattr__" = some (some (.builtin "object.__setattr__"))) (Z4p : makesIn K CQ = true) (Z1k : keepIn K (.ref CQ) = true) (Z1a : findIn K (.ref CQ) "__class__" = some (some (.builtin "object.__class__"))) (Z1b : mroIn K CQ (.type "object") = some true) (D0k : findIn K (.ref CQ) "top" = some none) (B3c : findIn K (.ref CQ) "bottom" = some none) (B7c : findIn K (.ref CQ) "power" = some none) (Z4e : findIn K (.ref CQ) "__init__" = some (some (.ref D8f))) (Z1u : isFn K (.ref D8f) = true) {A0gx Z3q : Option Addr} {A0jx : Array (Option Value)} {A0hu Y4v Z2x Y7m U5t Y4p : Value} (Z0j : K.lookup D8f = some ⟨A0hu, A0gx, .func (fnOf "__init__" "Ratio.__init__" (B5 A7b) (B1 A7b) (A1 A7b) (.ref Y8s) Y4v Z2x Y7m Z3q U5t Y4p), A0jx⟩) (Z2g : codeIn K U5t "Ratio.__init__" = true) (Y2m : keepIn K (.ref D8f) = true) {A0dn : Tok} {A0pv : Nat} {A0ke : Option Addr} {A0hc : Value} {A0hw : Array (Option Value)} (J3a : K.lookup Y8s = some ⟨A0hc, A0ke, .seq #[.int 0 A0dn] A0pv, A0hw⟩) (B8a : findIn K (.ref CQ) "first" = some (some (.ref A2h))) (B7j : isFn K (.ref A2h) = true) {J5r J2e : Option Addr} {J2j : Array (Option Value)} {J5e J3x J4u J4g C5n J3w : Value} (B7k : K.lookup A2h = some ⟨J5e, J5r, .func (fnOf "first" "Ratio.first" (B5 A4s) (B1 A4s) (A1 A4s) .none J3x J4u J4g J2e C5n J3w), J2j⟩) (B8f : codeIn K C5n "Ratio.first" = true) (A8x : keepIn K (.ref A2h) = true) (G9r : findIn K (.ref CQ) "at" = some (some (.ref B5a))) (G2v : isFn K (.ref B5a) = true) {Y3x Y2s : Option Addr} {Z1d : Array (Option Value)} {Y8z Z0h Y2r Z5n J2w Z3e : Value} (G9e : K.lookup B5a = some ⟨Y8z, Y3x, .func (fnOf "at" "Ratio.at" (B5 C7m) (B1 C7m) (A1 C7m) .none Z0h Y2r Z5n Y2s J2w Z3e), Z1d⟩) (G3e : codeIn K J2w "Ratio.at" = true) (C6p : keepIn K (.ref B5a) = true) (a_CE : nsIn K mainGlobals "Exact" = some (some (.ref CE))) (Y3p : kitOne K (.ref CQ) (.ref CE) = some true) (a_C1 : nsIn K mainGlobals "BadContext" = some (some (.ref C1))) (a_C2 : nsIn K mainGlobals "BadNumber" = some (some (.ref C2))) (a_C3 : nsIn K mainGlobals "Trapped" = some (some (.ref C3))) (a_CR : nsIn K mainGlobals "ReckonError" = some (some (.ref CR))) (cty : typeIn K (.ref CR) = some (.type "type")) {dR : ClassData} (ccl : clsIn K CR = some dR) (cex : subIn K (.ref CR) (.type "BaseException") = some true) (q1 : excIn K C1 [.type "ValueError", .type "Exception", .type "BaseException", .type "object"] "ValueError.__new__" = true) (q2 : excIn K C2 [.type "ValueError", .type "Exception", .type "BaseException", .type "object"] "ValueError.__new__" = true) (sub3 : subIn K (.ref C3) (.ref CR) = some true) (xga3 : findIn K (.ref C3) "__getattribute__" = some (some (.builtin "BaseException.__getattribute__"))) (xgh3 : findIn K (.ref C3) "__getattr__" = some none) (xca3 : findIn K (.ref C3) "__class__" = some (some (.builtin "object.__class__"))) (xob3 : mroIn K C3 (.type "object") = some true) (xbe3 : subIn K (.ref C3) (.type "BaseException") = some true) {d3 : ClassData} (xcl3 : clsIn K C3 = some d3) (h3_1 : kitOne K (.ref C3) (.ref C1) = some false) (h3_2 : kitOne K (.ref C3) (.ref C2) = some false) (h3_3 : kitOne K (.ref C3) (.ref C3) = some true) (hv3 : kitOne K (.ref C3) (.type "ValueError") = some true) {nmT qT : Str} {NT : Addr} {bsT bmT : List Value} {snT : List Str} {suT : List Value} {abT : Bool} {coT : Option Bool} {ddT : Option Addr} {kT0 kT1 kT2 kT3 kT5 : Option Value} (lT : K.lookup C3 = some (excClassObj nmT qT C3 NT bsT bmT true snT suT abT coT ddT kT0 kT1 kT2 kT3 kT5 "ValueError.__new__")) {ocN : Value} {odN : Option Addr} {esN : Array DictEntry} {epN : Nat} {slN : Array (Option Value)} (lN : K.lookup NT = some ⟨ocN, odN, .dict esN epN, slN⟩) (alN : (esN.all fun e => match e.key with | .str _ _ => true | _ => false) = true) (niT : nsIn K NT "__init__" = some (some (.ref fX))) {nmU qU : Str} {NU : Addr} {bsU : List Value} {snU : List Str} {suU : List Value} {abU : Bool} {coU : Option Bool} {ddU : Option Addr} {kU0 kU1 kU2 kU3 kU5 : Option Value} (lT1 : K.lookup C1 = some (excClassObj nmU qU C1 NU bsU bmT true snU suU abU coU ddU kU0 kU1 kU2 kU3 kU5 "ValueError.__new__")) (saT : findIn K (.ref C3) "__setattr__" = some (some (.builtin "object.__setattr__"))) (nsg3 : findIn K (.ref C3) "signal" = some none) {A0pm A0qv : Option Addr} {A0qu : Array (Option Value)} {A0dp A0qp A0pk A0px A0dm A0ra : Value} (l_iT : K.lookup fX = some ⟨A0dp, A0pm, .func (fnOf "__init__" "Trapped.__init__" (B5 B4w) (B1 B4w) (A1 B4w) .none A0qp A0pk A0px A0qv A0dm A0ra), A0qu⟩) (c_iT : codeIn K A0dm "Trapped.__init__" = true) (k_iT : keepIn K (.ref fX) = true) (fcT : A0dp = .type "function") (kTR : kitOne K (.ref C3) (.ref CR) = some true) (tyT : typeIn K (.ref C3) = some (.type "type")) (subT : subIn K (.ref C3) (.ref C3) = some true) (a_S : nsIn K mainGlobals "SIGNALS" = some (some (.ref aS))) {u0 u1 u2 u3 u4 u5 u6 : Tok} {nS : Nat} {odS : Option Addr} {slS : Array (Option Value)} (lS : K.lookup aS = some ⟨.type "tuple", odS, .seq #[.str "void" u0, .str "split" u1, .str "burst" u2, .str "sunk" u3, .str "faint" u4, .str "off" u5, .str "cut" u6] nS, slS⟩) (hcode : G8c = .ref cc) : ∃ fd : FuncData, (∀ (s : Shared) (v : Value), BindsTo s fd ⟨[v], []⟩ [("_law_script", v)]) /\ ∀ base : Heap, K.In base -> base.Ns mainGlobals mg -> J8m mg base cc P0 -> B1k l.prog w K mg base (CX1 l.prog w) 11 fa fd ["_law_script"] (U9u K P0) := by
 have e := hfa.symm.trans (mg_of X G V0t)
 cases e
 have D8g := D7 (ps := ["whole", "count"]) (st := A0q) X G C1y C3j C4p C3p fun _ _ _ _ _ _ us hl => match us, hl with | [_, _], _ => rfl
 have A8n := D7 (ps := ["count"]) (st := A1v) X G G8s G0s G7j G7q fun _ _ _ _ _ _ us hl => match us, hl with | [_], _ => rfl
 have J4p := D7 (ps := ["size", "middle"]) (st := A7t) X G D1p D0q C9w D1g fun _ _ _ _ _ _ us hl => match us, hl with | [_, _], _ => rfl
 have V0j := D7 (ps := ["whole"]) (st := B1g) X G G6w G8g G0u G8j fun _ _ _ _ _ _ us hl => match us, hl with | [_], _ => rfl
 have D_plain := D7 (ps := ["sign", "figures", "power"]) (st := B6g) X G G0t G3w G8z G2a fun _ _ _ _ _ _ us hl => match us, hl with | [_, _, _], _ => rfl
 have D_end := D7 (ps := ["sign"]) (st := D2s) X G Y7p Z3r Z4m Y5r fun _ _ _ _ _ _ us hl => match us, hl with | [_], _ => rfl
 have D_nothing := D7 (ps := []) (st := A1g) X G C1t C2z C4r C4j fun _ _ _ _ _ _ us hl => match us, hl with | [], _ => rfl
 have D_told := D7 (ps := ["number"]) (st := C4y) X G U8d U8e U1w U6x fun _ _ _ _ _ _ us hl => match us, hl with | [_], _ => rfl
 have Z3a := D7 (ps := ["number"]) (st := C8q) X G U5z J9v U6d U4j fun _ _ _ _ _ _ us hl => match us, hl with | [_], _ => rfl
 have G9j := D7 (ps := ["thing"]) (st := B1d) X G G4r G7v G9k G8d fun _ _ _ _ _ _ us hl => match us, hl with | [_], _ => rfl
 have D2a := D7 (ps := ["things"]) (st := A7e) X G B7h B7y B7a B8j fun _ _ _ _ _ _ us hl => match us, hl with | [_], _ => rfl
 have V0u := D7 (ps := ["numbers", "kind"]) (st := B6e) X G G3m G4g G8y G9d fun _ _ _ _ _ _ us hl => match us, hl with | [_, _], _ => rfl
 have D1f := D7 (ps := ["one", "other"]) (st := A5m) X G D2k D0e C9r D2e fun _ _ _ _ _ _ us hl => match us, hl with | [_, _], _ => rfl
 have D8c := D7 (ps := ["number", "power"]) (st := A4t) X G C3z C3u C1u C1j fun _ _ _ _ _ _ us hl => match us, hl with | [_, _], _ => rfl
 have Z3m := D7 (ps := ["thing", "least", "most"]) (st := D2r) X G Y3g Y3h Z5d Y3c fun _ _ _ _ _ _ us hl => match us, hl with | [_, _, _], _ => rfl
 have D7u := D7 (ps := ["thing", "least", "most"]) (st := A2m) X G C3x C2m C4e C3v fun _ _ _ _ _ _ us hl => match us, hl with | [_, _, _], _ => rfl
 have D_settled := D7 (ps := ["context", "sign", "exact", "ideal"]) (st := A4k) X G C0p C1d C4a C3r fun _ _ _ _ _ _ us hl => match us, hl with | [_, _, _, _], _ => rfl
 have J3c := D7 (ps := ["context", "exact"]) (st := A5h) X G C9d D1n C9b D1y fun _ _ _ _ _ _ us hl => match us, hl with | [_, _], _ => rfl
 have D8q := D7 (ps := ["ideal", "sign", "figures", "power"]) (st := A2n) X G C2y C4h C1z C2f fun _ _ _ _ _ _ us hl => match us, hl with | [_, _, _, _], _ => rfl
 have D_neighbour := D7 (ps := ["context", "sign", "pair"]) (st := A0e) X G B1z B2m B4f B2y fun _ _ _ _ _ _ us hl => match us, hl with | [_, _, _], _ => rfl
 have J4s := D7 (ps := ["context", "sign", "figures", "power"]) (st := A5k) X G D0n C9t D1s D0d fun _ _ _ _ _ _ us hl => match us, hl with | [_, _, _, _], _ => rfl
 have J4e := D7 (ps := ["context", "number"]) (st := A5n) X G D0r D1r C9q D0y fun _ _ _ _ _ _ us hl => match us, hl with | [_, _], _ => rfl
 have D_burst := D7 (ps := ["context", "sign"]) (st := B0q) X G G0y G1b G5h G8a fun _ _ _ _ _ _ us hl => match us, hl with | [_, _], _ => rfl
 have D_nines := D7 (ps := ["context", "sign"]) (st := B1a) X G G1k G2x G6m G0p fun _ _ _ _ _ _ us hl => match us, hl with | [_, _], _ => rfl
 have D7s := D7 (ps := ["part", "is_cut"]) (st := A4g) X G C2e C4k C1v C4c fun _ _ _ _ _ _ us hl => match us, hl with | [_, _], _ => rfl
 have D7y := D7 (ps := ["context", "lead", "part"]) (st := A4j) X G C1k C3y C3f C1x fun _ _ _ _ _ _ us hl => match us, hl with | [_, _, _], _ => rfl
 have D_nought := D7 (ps := ["context", "sign", "ideal"]) (st := A3r) X G D0h D0u D2g C9n fun _ _ _ _ _ _ us hl => match us, hl with | [_, _, _], _ => rfl
 have D_void := D7 (ps := ["context"]) (st := C5j) X G U3k U7j U7p J9g fun _ _ _ _ _ _ us hl => match us, hl with | [_], _ => rfl
 have V0d := D7 (ps := ["context", "sign"]) (st := B6s) X G G7c G4z G6t G3q fun _ _ _ _ _ _ us hl => match us, hl with | [_, _], _ => rfl
 have C5w := D7 (ps := ["context", "one", "other"]) (st := A0v) X G B4j B2b B2u B1v fun _ _ _ _ _ _ us hl => match us, hl with | [_, _, _], _ => rfl
 have Z2v := D7 (ps := ["one", "other"]) (st := C7b) X G U2w J8v U2p U1k fun _ _ _ _ _ _ us hl => match us, hl with | [_, _], _ => rfl
 have Z4u := D7 (ps := ["context", "one", "other", "ideal"]) (st := C7u) X G U7s U3c U7q U0c fun _ _ _ _ _ _ us hl => match us, hl with | [_, _, _, _], _ => rfl
 have C5s := D7 (ps := ["one", "other"]) (st := A0s) X G B3s B2j B1r B3h fun _ _ _ _ _ _ us hl => match us, hl with | [_, _], _ => rfl
 have G5g := D7 (ps := ["name"]) (st := B0k) X G G4j G1z G3d G3j fun _ _ _ _ _ _ us hl => match us, hl with | [_], _ => rfl
 have D_bounded := D7 (ps := ["thing", "least", "most"]) (st := A4m) X G C3k C0w C2p C3t fun _ _ _ _ _ _ us hl => match us, hl with | [_, _, _], _ => rfl
 have G9c := D7 (ps := ["names"]) (st := B0g) X G G1u G8m G9a G8b fun _ _ _ _ _ _ us hl => match us, hl with | [_], _ => rfl
 have G6z := D7 (ps := ["names"]) (st := B0j) X G G5q G8e G6q G8p fun _ _ _ _ _ _ us hl => match us, hl with | [_], _ => rfl
 have G2h := D7 (ps := ["_law_script", "_law_k"]) (st := C5d) X G U5n U1y U7a U7v fun _ _ _ _ _ _ us hl => match us, hl with | [_, _], _ => rfl
 have C6n := D7 (ps := ["_law_cell", "_law_k"]) (st := A7d) X G G1f G6a G1m G8t fun _ _ _ _ _ _ us hl => match us, hl with | [_, _], _ => rfl
 have D7z := D7 (ps := ["_law_count"]) (st := B1j) X G Y2v Y7q Z5q Y8t fun _ _ _ _ _ _ us hl => match us, hl with | [_], _ => rfl
 have D7v := D7 (ps := ["_law_cell", "_law_way"]) (st := A2b) X G C3h C2n C3n C0z fun _ _ _ _ _ _ us hl => match us, hl with | [_, _], _ => rfl
 have J4k := D7 (ps := ["_law_cell"]) (st := A4u) X G C9v D0t C9f D1k fun _ _ _ _ _ _ us hl => match us, hl with | [_], _ => rfl
 have Y9e := D7 (ps := ["_law_one"]) (st := B6n) X G U6b U4c U7g J9t fun _ _ _ _ _ _ us hl => match us, hl with | [_], _ => rfl
 have Z4b := D7 (ps := ["_law_cell"]) (st := C8f) X G U5y U6y U2q U4s fun _ _ _ _ _ _ us hl => match us, hl with | [_], _ => rfl
 have D0x := D7 (ps := ["_law_own_here"]) (st := A1y) X G B8b B7r B7s B6y fun _ _ _ _ _ _ us hl => match us, hl with | [_], _ => rfl
 have V0m := D7 (ps := ["_law_way", "_law_sign", "_law_last", "_law_left", "_law_bottom"]) (st := B6q) X G G6y G7w G4s G9p fun _ _ _ _ _ _ us hl => match us, hl with | [_, _, _, _, _], _ => rfl
 have V0q := D7 (ps := ["_law_top", "_law_bottom"]) (st := B6k) X G G7r G7a G5s G6r fun _ _ _ _ _ _ us hl => match us, hl with | [_, _], _ => rfl
 have C4b := D7 (ps := ["_law_own_here", "_law_sign", "_law_ideal"]) (st := A2u) X G C2u C0t C2j C1m fun _ _ _ _ _ _ us hl => match us, hl with | [_, _, _], _ => rfl
 have J2p := D7 (ps := ["_law_own_here", "_law_sign"]) (st := A7p) X G C9y D2d C9u D1w fun _ _ _ _ _ _ us hl => match us, hl with | [_, _], _ => rfl
 have D0c := D7 (ps := ["_law_own_here", "_law_sign", "_law_ratio_here", "_law_ideal"]) (st := A1u) X G B7g B7n B7p B8c fun _ _ _ _ _ _ us hl => match us, hl with | [_, _, _, _], _ => rfl
 have J5q := D7 (ps := ["_law_top", "_law_bottom", "_law_wide"]) (st := A7g) X G D0j D0b D2f D1q fun _ _ _ _ _ _ us hl => match us, hl with | [_, _, _], _ => rfl
 have V0e := D7 (ps := ["_law_deed"]) (st := A7h) X G G6x G9b G6p G1c fun _ _ _ _ _ _ us hl => match us, hl with | [_], _ => rfl
 have J2n := D7 (ps := ["_law_context_here", "_law_own_here", "_law_deed", "_law_due_here"]) (st := A4h) X G C9a C8z C9m C9p fun _ _ _ _ _ _ us hl => match us, hl with | [_, _, _, _], _ => rfl
 have Z5h := D7 (ps := ["_law_own_here", "_law_one", "_law_other", "_law_ideal"]) (st := C7k) X G U4f U1n U7y U8b fun _ _ _ _ _ _ us hl => match us, hl with | [_, _, _, _], _ => rfl
 have D1a := D7 (ps := ["_law_top", "_law_bottom"]) (st := A1x) X G B7v B6w B7t B6u fun _ _ _ _ _ _ us hl => match us, hl with | [_, _], _ => rfl
 have A0dk := D7 (ps := ["_law_own_here", "_law_one", "_law_other"]) (st := C6u) X G Y5d Y4r Z5u Y2x fun _ _ _ _ _ _ us hl => match us, hl with | [_, _, _], _ => rfl
 have V0p := D7 (ps := ["_law_script"]) (st := B6p) X G G8h G7s G5b G8f fun _ _ _ _ _ _ us hl => match us, hl with | [_], _ => rfl
 have A0qg := D7 (ps := ["_law_script"]) (st := D2v) X G V0t Z5w Y6e Y9p fun _ _ _ _ _ _ us hl => match us, hl with | [_], _ => rfl
 have O : Own mg := ⟨mg_none_of X G A9r, mg_none_of X G Y7u, mg_none_of X G J8r, mg_none_of X G Y3j, mg_none_of X G U7x, mg_none_of X G G3g, mg_none_of X G U5e, mg_none_of X G Z5m, mg_none_of X G G3u, mg_none_of X G Y8m, mg_none_of X G Z4q, mg_none_of X G Y3u, mg_none_of X G Y9d, mg_none_of X G Y2p, mg_none_of X G Y7y, mg_none_of X G J9q, mg_none_of X G B1n, mg_none_of X G B6x, mg_none_of X G Z3t, mg_none_of X G C9j, mg_none_of X G C9h, mg_none_of X G Y3k, mg_none_of X G A9s⟩
 have T : Kit K := ⟨B7u, B1m, B7d, B3q, A9g, B2q, B1t, A8j, B2w, A8k, A6d, A8b, B7m, B2x, B7q, B3x, A9h, B3r, B3b, A8d, B3f, A9z, A6f, A9c, A8p, A6c, A9e, A6g, A5a, A6e, B2v, B0a, B3g, B0d, A6h, B0f, A3j, A2g, A3k, A2e, A1q, A2f⟩
 have A0qr : Cls K W0 := ⟨Y7t, Y2t, Y6j, Y4z⟩
 have A0qy : Mk0 K W0 := ⟨Z3v, Y6h, Z3p⟩
 have F_name_W0 := U3 (st := sN0) C2c C1s B5d
 have V4b := F_name_W0.binds (ps := ["self"]) fun _ _ _ _ _ _ us hl => match us, hl with | [_], _ => rfl
 have J8t : Z7 K W0 "name" A7a := ⟨C4d, C4m, B5d⟩
 have WC0 : C6d K mg "Down" W0 CW := ⟨mg_of X G a_W0, A0qr, A0qy, Y6c, sn, tk, Z4j, Y4k⟩
 have A0pu : Cls K W1 := ⟨Y6a, Z4d, Z2b, Z0x⟩
 have A0ph : Mk0 K W1 := ⟨Y4t, Y9m, Y7b⟩
 have F_name_W1 := U3 (st := sN1) C1f C2x B5g
 have V6e := F_name_W1.binds (ps := ["self"]) fun _ _ _ _ _ _ us hl => match us, hl with | [_], _ => rfl
 have U4y : Z7 K W1 "name" A6y := ⟨C1g, C1n, B5g⟩
 have WC1 : C6d K mg "Up" W1 CW := ⟨mg_of X G a_W1, A0pu, A0ph, Y3a, sn, tk, Y7s, Z0y⟩
 have A0pt : Cls K W2 := ⟨Y4d, Y6x, Z2j, Y5h⟩
 have A0qw : Mk0 K W2 := ⟨Z3b, Y6r, Z0z⟩
 have F_name_W2 := U3 (st := sN2) C2k C2b B4z
 have V7m := F_name_W2.binds (ps := ["self"]) fun _ _ _ _ _ _ us hl => match us, hl with | [_], _ => rfl
 have U3q : Z7 K W2 "name" A6v := ⟨C2s, C2t, B4z⟩
 have WC2 : C6d K mg "Floor" W2 CW := ⟨mg_of X G a_W2, A0pt, A0qw, Z0p, sn, tk, Y4x, Y2k⟩
 have A0qt : Cls K W3 := ⟨Y2c, Y6b, Z2m, Z1w⟩
 have A0pj : Mk0 K W3 := ⟨Y8q, Z0g, Y5w⟩
 have F_name_W3 := U3 (st := sN3) C3a C2w B5b
 have V6p := F_name_W3.binds (ps := ["self"]) fun _ _ _ _ _ _ us hl => match us, hl with | [_], _ => rfl
 have U7r : Z7 K W3 "name" A6z := ⟨C4n, C1b, B5b⟩
 have WC3 : C6d K mg "Ceiling" W3 CW := ⟨mg_of X G a_W3, A0qt, A0pj, Z5s, sn, tk, Y8k, Z4v⟩
 have A0qa : Cls K W4 := ⟨Z0k, Y8a, Y2u, Z3k⟩
 have A0pz : Mk0 K W4 := ⟨Y9g, Z3y, Z2q⟩
 have F_name_W4 := U3 (st := sN4) C3c C4g B5f
 have V4f := F_name_W4.binds (ps := ["self"]) fun _ _ _ _ _ _ us hl => match us, hl with | [_], _ => rfl
 have U2x : Z7 K W4 "name" A6t := ⟨C2v, C2r, B5f⟩
 have WC4 : C6d K mg "HalfUp" W4 CW := ⟨mg_of X G a_W4, A0qa, A0pz, Z3g, sn, tk, Z5a, Y6v⟩
 have A0qm : Cls K W5 := ⟨Y6n, Z1q, Z5b, Z2z⟩
 have A0pq : Mk0 K W5 := ⟨Y2b, Y2f, Z2a⟩
 have F_name_W5 := U3 (st := sN5) C2h C3s B5c
 have V5h := F_name_W5.binds (ps := ["self"]) fun _ _ _ _ _ _ us hl => match us, hl with | [_], _ => rfl
 have J9z : Z7 K W5 "name" A6s := ⟨C3g, C1a, B5c⟩
 have WC5 : C6d K mg "HalfDown" W5 CW := ⟨mg_of X G a_W5, A0qm, A0pq, Y8v, sn, tk, Y3s, Y8g⟩
 have A0qz : Cls K W6 := ⟨Y5u, Y3r, Y5x, Z2c⟩
 have A0qq : Mk0 K W6 := ⟨Y4u, Y5j, Z1y⟩
 have F_name_W6 := U3 (st := sN6) C3d C0y B5e
 have V7b := F_name_W6.binds (ps := ["self"]) fun _ _ _ _ _ _ us hl => match us, hl with | [_], _ => rfl
 have U0k : Z7 K W6 "name" A6x := ⟨C3e, C1h, B5e⟩
 have WC6 : C6d K mg "HalfEven" W6 CW := ⟨mg_of X G a_W6, A0qz, A0qq, Y5m, sn, tk, Z1f, Y9f⟩
 have A0ps : Cls K W7 := ⟨Y2e, Y4w, Y9t, Y9r⟩
 have A0qb : Mk0 K W7 := ⟨Y8r, Y8n, Z4h⟩
 have F_name_W7 := U3 (st := sN7) C1e C2a B5h
 have V6w := F_name_W7.binds (ps := ["self"]) fun _ _ _ _ _ _ us hl => match us, hl with | [_], _ => rfl
 have U2g : Z7 K W7 "name" A6u := ⟨C4f, C4q, B5h⟩
 have WC7 : C6d K mg "FiveUp" W7 CW := ⟨mg_of X G a_W7, A0ps, A0qb, Z2u, sn, tk, Z1r, Z3n⟩
 let cw : Wy -> Addr := fun y => match y with | .down => W0 | .up => W1 | .floor => W2 | .ceiling => W3 | .halfUp => W4 | .halfDown => W5 | .halfEven => W6 | .fiveUp => W7
 have W : ∀ y : Wy, C6d K mg y.cls (cw y) CW := fun y => match y with | .down => WC0 | .up => WC1 | .floor => WC2 | .ceiling => WC3 | .halfUp => WC4 | .halfDown => WC5 | .halfEven => WC6 | .fiveUp => WC7
 have A0qd : Cls K CN := ⟨Y8e, Y5t, Z3j, Z1c⟩
 have FI_CN := U3 (st := D6d) Y4q Z5e Z0f
 have A0qc := FI_CN.binds (ps := ["self", "kind", "sign", "figures", "power"]) fun _ _ _ _ _ _ us hl => match us, hl with | [_, _, _, _, _], _ => rfl
 have M_CN : Mk K CN D7t := ⟨Z1j, Y5q, Y5y, Z2h⟩
 have N : Num K mg CN := ⟨mg_of X G a_CN, A0qd, C1w, C2d, A8z, B8n, Y9x, sn, tk, Y8j, G0r⟩
 have F_goes_up_W0 := U3 (st := sU0) A7z A8u A3u
 have G1v := F_goes_up_W0.binds (ps := ["self", "sign", "last", "part"]) fun _ _ _ _ _ _ us hl => match us, hl with | [_, _, _, _], _ => rfl
 have D5m : Z7 K W0 "goes_up" A1s := ⟨A8w, A9w, A3u⟩
 have F_to_end_W0 := U3 (st := sT0) B2k B4k A5w
 have J3t := F_to_end_W0.binds (ps := ["self", "sign"]) fun _ _ _ _ _ _ us hl => match us, hl with | [_, _], _ => rfl
 have G5p : Z7 K W0 "to_end" A3b := ⟨B4a, B1s, A5w⟩
 have F_goes_up_W1 := U3 (st := sU1) A8f A8v A4b
 have G7t := F_goes_up_W1.binds (ps := ["self", "sign", "last", "part"]) fun _ _ _ _ _ _ us hl => match us, hl with | [_, _, _, _], _ => rfl
 have D5j : Z7 K W1 "goes_up" A1k := ⟨A9f, A9v, A4b⟩
 have F_to_end_W1 := U3 (st := sT1) B1y B4b A5t
 have J2z := F_to_end_W1.binds (ps := ["self", "sign"]) fun _ _ _ _ _ _ us hl => match us, hl with | [_, _], _ => rfl
 have G3n : Z7 K W1 "to_end" A3e := ⟨B2d, B4m, A5t⟩
 have F_goes_up_W2 := U3 (st := sU2) A9q A9u A3w
 have G9s := F_goes_up_W2.binds (ps := ["self", "sign", "last", "part"]) fun _ _ _ _ _ _ us hl => match us, hl with | [_, _, _, _], _ => rfl
 have D4f : Z7 K W2 "goes_up" A1n := ⟨A8c, A9m, A3w⟩
 have F_to_end_W2 := U3 (st := sT2) B3v B2h A5s
 have J2b := F_to_end_W2.binds (ps := ["self", "sign"]) fun _ _ _ _ _ _ us hl => match us, hl with | [_, _], _ => rfl
 have G4e : Z7 K W2 "to_end" A3f := ⟨B2c, B4g, A5s⟩
 have F_goes_up_W3 := U3 (st := sU3) A9j A9a A3x
 have G0m := F_goes_up_W3.binds (ps := ["self", "sign", "last", "part"]) fun _ _ _ _ _ _ us hl => match us, hl with | [_, _, _, _], _ => rfl
 have D5k : Z7 K W3 "goes_up" A1m := ⟨A8h, B0c, A3x⟩
 have F_to_end_W3 := U3 (st := sT3) B4e B2r A5u
 have J4r := F_to_end_W3.binds (ps := ["self", "sign"]) fun _ _ _ _ _ _ us hl => match us, hl with | [_, _], _ => rfl
 have G1e : Z7 K W3 "to_end" A2z := ⟨B2t, B2g, A5u⟩
 have F_goes_up_W4 := U3 (st := sU4) A9t A9p A4a
 have G2m := F_goes_up_W4.binds (ps := ["self", "sign", "last", "part"]) fun _ _ _ _ _ _ us hl => match us, hl with | [_, _, _, _], _ => rfl
 have D3y : Z7 K W4 "goes_up" A1t := ⟨A9d, A8s, A4a⟩
 have F_to_end_W4 := U3 (st := sT4) B3m B2z A5z
 have J2v := F_to_end_W4.binds (ps := ["self", "sign"]) fun _ _ _ _ _ _ us hl => match us, hl with | [_, _], _ => rfl
 have G5m : Z7 K W4 "to_end" A3g := ⟨B3a, B3j, A5z⟩
 have F_goes_up_W5 := U3 (st := sU5) A8g B0e A3v
 have G8v := F_goes_up_W5.binds (ps := ["self", "sign", "last", "part"]) fun _ _ _ _ _ _ us hl => match us, hl with | [_, _, _, _], _ => rfl
 have D3e : Z7 K W5 "goes_up" A1p := ⟨A9x, A8y, A3v⟩
 have F_to_end_W5 := U3 (st := sT5) B2f B1x A5x
 have J3q := F_to_end_W5.binds (ps := ["self", "sign"]) fun _ _ _ _ _ _ us hl => match us, hl with | [_, _], _ => rfl
 have G3k : Z7 K W5 "to_end" A2y := ⟨B3e, B2e, A5x⟩
 have F_goes_up_W6 := U3 (st := sU6) A8e A9y A3z
 have G0n := F_goes_up_W6.binds (ps := ["self", "sign", "last", "part"]) fun _ _ _ _ _ _ us hl => match us, hl with | [_, _, _, _], _ => rfl
 have D3u : Z7 K W6 "goes_up" A1r := ⟨A8t, A8m, A3z⟩
 have F_to_end_W6 := U3 (st := sT6) B3u B3t A5v
 have J3k := F_to_end_W6.binds (ps := ["self", "sign"]) fun _ _ _ _ _ _ us hl => match us, hl with | [_, _], _ => rfl
 have G1g : Z7 K W6 "to_end" A3a := ⟨B2a, B3p, A5v⟩
 have F_goes_up_W7 := U3 (st := sU7) A9n A8a A3y
 have G1y := F_goes_up_W7.binds (ps := ["self", "sign", "last", "part"]) fun _ _ _ _ _ _ us hl => match us, hl with | [_, _, _, _], _ => rfl
 have D5s : Z7 K W7 "goes_up" A1j := ⟨A9b, A9k, A3y⟩
 have F_to_end_W7 := U3 (st := sT7) B3w B3k A5r
 have J2y := F_to_end_W7.binds (ps := ["self", "sign"]) fun _ _ _ _ _ _ us hl => match us, hl with | [_, _], _ => rfl
 have G8k : Z7 K W7 "to_end" A2x := ⟨B2p, B1q, A5r⟩
 have A0qe : Cls K CC := ⟨Y5b, Y9v, Y4h, Y9n⟩
 have A0qf := U9s (st := A1d) Z4a Z2t Y6y
 have M_CC : Mk K CC D8h := ⟨Z4z, Z0r, Y3m, Y2n⟩
 have F_flags_CC := U3 (st := A4d) B7z B7w A8r
 have U4q := F_flags_CC.binds (ps := ["self"]) fun _ _ _ _ _ _ us hl => match us, hl with | [_], _ => rfl
 have J4a : Z7 K CC "flags" A5c := ⟨B8d, B8g, A8r⟩
 have F_lowest_CC := U3 (st := B4v) B1u B2s A5q
 have J1y := F_lowest_CC.binds (ps := ["self"]) fun _ _ _ _ _ _ us hl => match us, hl with | [_], _ => rfl
 have G3f : Z7 K CC "lowest" A3d := ⟨B1p, B2n, A5q⟩
 have F_way_CC := U3 (st := B4p) C9e D1e B9a
 have Y4f := F_way_CC.binds (ps := ["self"]) fun _ _ _ _ _ _ us hl => match us, hl with | [_], _ => rfl
 have V3p : Z7 K CC "way" B4c := ⟨C9z, D2h, B9a⟩
 have F_traps_CC := U3 (st := A4e) B8h B7f B0b
 have U7d := F_traps_CC.binds (ps := ["self"]) fun _ _ _ _ _ _ us hl => match us, hl with | [_], _ => rfl
 have J4b : Z7 K CC "traps" A5b := ⟨B6v, B6z, B0b⟩
 have F_trap_CC := U3 (st := A6j) C2q C1c B4y
 have V4e := F_trap_CC.binds (ps := ["self", "names"]) fun _ _ _ _ _ _ us hl => match us, hl with | [_, _], _ => rfl
 have U6k : Z7 K CC "trap" A6w := ⟨C3w, C0s, B4y⟩
 have F_raised_CC := U3 (st := A1w) B3n B3z A5y
 have J2d := F_raised_CC.binds (ps := ["self", "names"]) fun _ _ _ _ _ _ us hl => match us, hl with | [_, _], _ => rfl
 have G0j : Z7 K CC "raised" A3c := ⟨B1w, B4h, A5y⟩
 have A0py : Cls K CQ := ⟨Z1e, Z2r, Z4f, Y9c⟩
 have A0qk := U9s (st := A7b) Z0j Z2g Y2m
 have M_CQ : Mk K CQ D8f := ⟨Z4p, Z4e, Z1u, Z1k⟩
 have F_first_CQ := U3 (st := A4s) B7k B8f A8x
 have U7t := F_first_CQ.binds (ps := ["self"]) fun _ _ _ _ _ _ us hl => match us, hl with | [_], _ => rfl
 have J4h : Z7 K CQ "first" A2h := ⟨B8a, B7j, A8x⟩
 have F_at_CQ := U3 (st := C7m) G9e G3e C6p
 have V0w := F_at_CQ.binds (ps := ["self", "power"]) fun _ _ _ _ _ _ us hl => match us, hl with | [_, _], _ => rfl
 have J5k : Z7 K CQ "at" B5a := ⟨G9r, G2v, C6p⟩
 have xk3 : J8h K C3 := ⟨xga3, xgh3, xca3, sn, tk, xob3, xbe3, by rw [xcl3]; rfl⟩
 have nkT : nsOkIn K NT = true := by unfold nsOkIn; rw [lN]; exact alN
 have tlT : tailIn K U9p bmT = true := by
   have z := q1
   unfold excIn at z
   rw [lT1] at z
   simp only [excClassObj, Bool.and_eq_true] at z
   exact z.1.1.2
 have F_iT := U3 (st := B4w) l_iT c_iT k_iT
 have b_iT := F_iT.binds (ps := ["self", "signal"]) fun _ _ _ _ _ _ us hl => match us, hl with | [_, _], _ => rfl
 have XI3 : V3g K C3 fX := ⟨⟨_, _, _, _, _, _, _, _, _, _, _, _, _, _, _, lT, nkT, niT, tlT⟩, ⟨_, l_iT, fcT⟩, saT, xob3⟩
 have SG : Z9m K mg aS := ⟨mg_of X G a_S, ⟨_, lS, rfl⟩, fun H => .inr ⟨_, _, _, lS, rfl, rfl, C9 (by show 7 <= 1000; decide), .cons ⟨_, rfl⟩ (.cons ⟨_, rfl⟩ (.cons ⟨_, rfl⟩ (.cons ⟨_, rfl⟩ (.cons ⟨_, rfl⟩ (.cons ⟨_, rfl⟩ (.cons ⟨_, rfl⟩ (.nil)))))))⟩⟩
 have C : C6c K mg CC := ⟨mg_of X G a_CC, A0qe, C4s, C0r, B7b, C3b, B8m, A8q⟩
 have B : Err K mg "BadNumber" C2 := ⟨mg_of X G a_C2, q2⟩
 have B2 : Err K mg "BadContext" C1 := ⟨mg_of X G a_C1, q1⟩
 have RT : V0c K mg C3 := ⟨mg_of X G a_C3, ⟨tyT, by unfold clsIn; rw [lT]; rfl, xbe3⟩, subT, xk3, ⟨_, by unfold clsIn; rw [lT], rfl⟩, nsg3⟩
 have R : J8k K mg CQ CE := ⟨mg_of X G a_CQ, mg_of X G a_CE, A0py, D0k, B3c, B7c, Z1a, sn, tk, Z1b, Y3p⟩
 have b4 := J6n (fd := fnOf "__init__" "Context.__init__" (B5 A1d) (B1 A1d) (A1 A1d) (.ref Y4y) Z4x Y2a Z2f Z2e U0x Y3b) (ps := ["self", "room", "way", "least", "most"]) (ds := []) rfl Y4m rfl fun us hl => by obtain ⟨a, b, c, d, e, rfl⟩ := len5 (Z8u hl); exact ⟨_, rfl, rfl⟩
 refine ⟨fnOf "law" "law" (B5 D2v) (B1 D2v) (A1 D2v) .none Z3s Y3e Z4k Y2q G8c Y5v, fun s v => .of_eq rfl, fun base _ _ LB => ?_⟩
 have WN : ∀ y : Wy, WayN l.prog w K mg base (cw y) y.name := fun y => match y with | .down => ⟨_, _, J8t, A0mx F_name_W0, V4b⟩ | .up => ⟨_, _, U4y, A0nj F_name_W1, V6e⟩ | .floor => ⟨_, _, U3q, A0my F_name_W2, V7m⟩ | .ceiling => ⟨_, _, U7r, A0ky F_name_W3, V6p⟩ | .halfUp => ⟨_, _, U2x, A0nu F_name_W4, V4f⟩ | .halfDown => ⟨_, _, J9z, A0nr F_name_W5, V5h⟩ | .halfEven => ⟨_, _, U0k, A0mr F_name_W6, V7b⟩ | .fiveUp => ⟨_, _, U2g, A0pa F_name_W7, V6w⟩
 have U : ∀ y : Wy, WayU l.prog w K mg base (cw y) y := fun y => match y with | .down => ⟨_, _, D5m, A0nt F_goes_up_W0, G1v⟩ | .up => ⟨_, _, D5j, A0nn F_goes_up_W1, G7t⟩ | .floor => ⟨_, _, D4f, A0nc F_goes_up_W2, G9s⟩ | .ceiling => ⟨_, _, D5k, A0mq F_goes_up_W3, G0m⟩ | .halfUp => ⟨_, _, D3y, A0ny F_goes_up_W4, G2m⟩ | .halfDown => ⟨_, _, D3e, A0np F_goes_up_W5, G8v⟩ | .halfEven => ⟨_, _, D3u, A0nw F_goes_up_W6, G0n⟩ | .fiveUp => ⟨_, _, D5s, A0kq F_goes_up_W7, G1y⟩
 have E2 : ∀ y : Wy, WayE l.prog w K mg base (cw y) y := fun y => match y with | .down => ⟨_, _, G5p, A0md F_to_end_W0, J3t⟩ | .up => ⟨_, _, G3n, A0nk F_to_end_W1, J2z⟩ | .floor => ⟨_, _, G4e, A0ks F_to_end_W2, J2b⟩ | .ceiling => ⟨_, _, G1e, A0mj F_to_end_W3, J4r⟩ | .halfUp => ⟨_, _, G5m, A0km F_to_end_W4, J2v⟩ | .halfDown => ⟨_, _, G3k, A0mb F_to_end_W5, J3q⟩ | .halfEven => ⟨_, _, G1g, A0nf F_to_end_W6, J3k⟩ | .fiveUp => ⟨_, _, G8k, A0kp F_to_end_W7, J2y⟩
 have Gb := J7e (P := l.prog) (w := w) (base := base) D_bounded Z3m O T B2
 have Gw := V8z (P := l.prog) (w := w) (base := base) G5g O T B2 W
 have MC : A0dg l.prog w K mg base CC C1 D8h _ := ⟨M_CC, J7u A0qf D_bounded G5g Gb Gw C W WN⟩
 have MR : A0dh l.prog w K mg base CQ D8f (fnOf "__init__" "Ratio.__init__" (B5 A7b) (B1 A7b) (A1 A7b) (.ref Y8s) Y4v Z2x Y7m Z3q U5t Y4p) (.int 0 A0dn) (fun us ws => match ws with | [a] => us ++ [a] | _ => []) (fun us ws => match ws with | [a] => us ++ [a] | _ => []) :=
   { m := M_CQ
     g := V8g A0qk R
     b3 := J6n rfl J3a rfl fun us hl => by obtain ⟨a, b, c, d, rfl⟩ := len4 (Z8u hl); exact ⟨_, rfl, rfl⟩
     b2 := J6n rfl J3a rfl fun us hl => by obtain ⟨a, b, c, rfl⟩ := len3 (Z8u hl); exact ⟨_, rfl, rfl⟩
     r0 := ⟨_, rfl⟩
     kP := ⟨(fun s us ws XK hl => by
         rcases ws with _ | ⟨p, _ | ⟨q, t⟩⟩
         . cases hl
         . obtain ⟨a, b, c, rfl⟩ := len3 (Z8u hl)
           exact binds_K XK rfl J3a rfl rfl rfl
         . cases hl), fun r z => match z with
       | .cons a .nil => r.append (.cons a .nil)
       | .nil => .nil
       | .cons _ (.cons _ _) => .nil⟩
     eP := fun _ _ _ _ => rfl }
 have M : C5k l.prog w K mg base CN D7t _ := ⟨M_CN, Z9c FI_CN N, A0qc⟩
 have Gn := V9z (P := l.prog) (w := w) (base := base) G9c O T B2 SG
 have Go := Y1t (P := l.prog) (w := w) (base := base) G6z SG
 have GX := V1t (P := l.prog) (w := w) (mg := mg) (base := base) F_iT XI3 nsg3
 have MF : Has l.prog w K mg base CC "flags" 1 ["self"] (B6t CC) := ⟨_, _, J4a, J1m F_flags_CC C O, U4q⟩
 have ML : Has l.prog w K mg base CC "lowest" 1 ["self"] (C7g CC) := ⟨_, _, G3f, V2x F_lowest_CC C, J1y⟩
 have MW : Has l.prog w K mg base CC "way" 2 ["self"] (C6v CC cw) := ⟨_, _, V3p, V2q F_way_CC G5g Gw C, Y4f⟩
 have MT : Has l.prog w K mg base CC "traps" 1 ["self"] (B6m CC) := ⟨_, _, J4b, J1c F_traps_CC C O, U7d⟩
 have MP : Has l.prog w K mg base CC "trap" 2 ["self", "names"] (J7s K CC C1) := ⟨_, _, U6k, Z6n F_trap_CC G9c Gn G6z Go C, V4e⟩
 have MD : Has l.prog w K mg base CC "raised" 3 ["self", "names"] (B8t K CC C1 C3) := ⟨_, _, G0j, V1j F_raised_CC G9c Gn G6z Go C (mg_of X G a_C3) XI3 GX b_iT, J2d⟩
 have CM : C0j l.prog w K mg base CC C1 C3 CW cw := ⟨C, MW, ML, MD, W, U, E2⟩
 have Gneedn := J0s (P := l.prog) (w := w) (base := base) G9j O T B N
 have Gtold := Z7a (P := l.prog) (w := w) (base := base) D_told G9j O T B N
 have Gplain := Y0x (P := l.prog) (w := w) (base := base) D_plain D7u Z3m O T B N M
 have Gend := A0fg (P := l.prog) (w := w) (base := base) D_end D7u Z3m O T B N M
 have Gnothing := J7x (P := l.prog) (w := w) (base := base) D_nothing N M
 have Glead := Z7d (P := l.prog) (w := w) (base := base) Z3a O N
 have Gto := Y1k (P := l.prog) (w := w) (base := base) A8n D8g (D9h D8g)
 have Gten := Z6b (P := l.prog) (w := w) (base := base) D7z O
 have Gpart := V2m (P := l.prog) (w := w) (base := base) J4p
 have Gwl := V8k (P := l.prog) (w := w) (base := base) V0j A8n Gto
 have Gat := A0eq (P := l.prog) (w := w) (base := base) F_at_CQ A8n Gto J4p Gpart R O
 have RM : RatM l.prog w K mg base CQ A2h B5a _ _ := ⟨J4h, V3e F_first_CQ V0j Gwl J5k Gat V0w R, U7t, J5k, Gat, V0w⟩
 have Gmix := V8w (P := l.prog) (w := w) (base := base) C6n
 have Gfig := G9v (P := l.prog) (w := w) (base := base) D7v C6n Gmix D7z Gten O
 have Gnum := J6p (P := l.prog) (w := w) (base := base) J4k C6n Gmix D7v Gfig O
 have Gtr := V1p (P := l.prog) (w := w) (base := base) (k := 8) (by decide) V0e D_told Gtold RT
 have Gst := J7j (P := l.prog) (w := w) (base := base) (k := 8) J2n V0e Gtr C MF SG O
 have Gctx := J0j (P := l.prog) (w := w) (base := base) D0x MC b4 C MD MP O
 have Gown := Z6u (P := l.prog) (w := w) (base := base) Z4b C6n Gmix O
 have Gmade := Y1r (P := l.prog) (w := w) (base := base) Y9e D_plain Gplain D_end Gend D_nothing Gnothing
 have Gneedns := V1v (P := l.prog) (w := w) (base := base) D2a G9j Gneedn
 have Gsomek := Y1s (P := l.prog) (w := w) (base := base) V0u O N
 have Gnea := J8c (P := l.prog) (w := w) (base := base) D8q N M
 have Gnei := D9n (P := l.prog) (w := w) (base := base) D_neighbour CM
 have Gwit := V3d (P := l.prog) (w := w) (base := base) J4s A8n Gto CM N M
 have Gbey := V1b (P := l.prog) (w := w) (base := base) J4e Z3a Glead CM N
 have Gnin := V7q (P := l.prog) (w := w) (base := base) D_nines A8n Gto CM N M
 have Gbur := V8s (P := l.prog) (w := w) (base := base) D_burst D_nines Gnin D_end Gend CM
 have Gsr := J6x (P := l.prog) (w := w) (base := base) D7s
 have Gsl := J6z (P := l.prog) (w := w) (base := base) D7y CM
 have Gnou := V2c (P := l.prog) (w := w) (base := base) D_nought CM N M O
 have Gfin := V2s (P := l.prog) (w := w) (base := base) J3c CM RM R O
 have Gset := J6w (P := l.prog) (w := w) (base := base) D_settled J3c Gfin D8q Gnea D_neighbour Gnei J4s Gwit J4e Gbey D_burst Gbur D7s Gsr D7y Gsl CM RM R N
 have Glgo := Y0t (P := l.prog) (w := w) (K := K) (base := base) V0m
 have Glle := Y0z (P := l.prog) (w := w) (base := base) V0q D7z Gten O
 have Glno := J7p (P := l.prog) (w := w) (base := base) C4b O
 have Glbu := V1x (P := l.prog) (w := w) (base := base) J2p D7z Gten
 have Glra := V1z (P := l.prog) (w := w) (base := base) J5q D7z Gten O
 have Glse := G9w (P := l.prog) (w := w) (base := base) D0c V0q Glle D7z Gten V0m Glgo J2p Glbu O
 have Gun := V2r (P := l.prog) (w := w) (base := base) D1f N
 have Gvo := Z8h (P := l.prog) (w := w) (base := base) D_void D_nothing Gnothing CM
 have Gsp := Y0k (P := l.prog) (w := w) (base := base) V0d D_end Gend CM
 have Godd := Z7k (P := l.prog) (w := w) (base := base) Z4u D1f Gun D_void Gvo D_end Gend D_nought Gnou V0d Gsp N
 have Gwa := J6t (P := l.prog) (w := w) (base := base) D8c A8n Gto N
 have Gwp := D9g (P := l.prog) (w := w) (base := base) C5s D8c Gwa N O
 have Gov := D9t (P := l.prog) (w := w) (base := base) C5w D2a Gneedns V0u Gsomek Z2v (Z6t Z2v N) Z4u Godd D1f Gun D_nought Gnou D_settled Gset D_nothing Gnothing D_void Gvo C5s Gwp A8n Gto CM N MR R O
 have Glod := Z5z (P := l.prog) (w := w) (base := base) Z5h C4b Glno O
 have Gdue := Z9a (P := l.prog) (w := w) (base := base) A0dk Z5h Glod C4b Glno D0c Glse J5q Glra D1a (J0x D1a O) O
 have Gpair := Y0a (P := l.prog) (w := w) (base := base) V0p G2h (U9w G2h O) J4k Gnum O
 exact A0fb A0qg hcode LB G2h (U9w G2h O) Z4b Gown D0x Gctx V0p Gpair Y9e Gmade A0dk Gdue J2n Gst C5w Gov D_told Gtold C MT O
theorem walk {cc P0 : Addr} {l : OpenLaw} {q : Program} {loose : List Str} {XP : (Str -> Option Value) -> Heap -> Prop} {YP : World -> Heap -> Prop} {d : DefRec} {K : Params -> Frag} (hn : l.most = some 63) (hdf : d.params.defaults = [])
   (hY : ∀ (w : World) (h : Heap), YP w h -> (K w.params).In h /\ CodeHd h cc P0 /\ h.get? P0 = some (tabObj #[])) (hKP : ∀ p, (K p).lookup P0 = none)
   (F : ∀ (w : World) (mg : Str -> Option Value) (fa : Addr) (h : Heap), (K w.params).In h -> h.Ns mainGlobals mg -> mg d.name = some (.ref fa) ->
     ∃ fd : FuncData, (∀ (s : Shared) (u : Value), BindsTo s fd ⟨[u], []⟩ [("_law_script", u)]) /\ ∀ base : Heap, (K w.params).In base -> base.Ns mainGlobals mg -> J8m mg base cc P0 -> B1k l.prog w (K w.params) mg base (CX1 l.prog w) 11 fa fd ["_law_script"] ((U9u (K w.params) P0))) :
   WalkO q loose XP YP l.row.toRowW d [] (fun f vs => PySem.call f vs) :=
 L2.walk_ofL (n := 63) (k := 11) (x := "_law_script") (CX := fun w => CX1 l.prog w) (sp := fun w => (U9u (K w.params) P0)) hn (by decide) hdf ⟨rfl, by decide, by decide⟩ hY hKP F (fun _ _ a ns hl hP hS => ⟨a, ns, rfl, hl, hS, hP, fun _ => rfl⟩) fun _ _ _ _ _ z => by
   obtain ⟨_, _, _, _, _, _, _, _, _, _, z, _⟩ := z
   exact z
end TR
def PySem.W.Fast.tw11891946413591577923 : Unit := ()
def PySem.W.Fast.tw16090816799338631740 : Unit := ()
def PySem.W.Fast.tw4404534112770386696 : Unit := ()
def PySem.W.Fast.tw15466325430589033226 : Unit := ()
def PySem.W.Fast.tw5255969568925694350 : Unit := ()
def PySem.W.Fast.tw3347847486977164151 : Unit := ()
def PySem.W.Fast.tw6689315914342828621 : Unit := ()
def PySem.W.Fast.tw13269244224873763500 : Unit := ()
def PySem.W.Fast.tw5780403518460505942 : Unit := ()
def PySem.W.Fast.tw8115319085639124467 : Unit := ()
def PySem.W.Fast.tw9984174146153959322 : Unit := ()
def PySem.W.Fast.tw2811872008684775412 : Unit := ()
def PySem.W.Fast.tw6299194112171971865 : Unit := ()
def PySem.W.Fast.tw12814742473789290464 : Unit := ()
def PySem.W.Fast.tw10267977924175890112 : Unit := ()
def PySem.W.Fast.tw772170280058602108 : Unit := ()
def PySem.W.Fast.tw183235380551437782 : Unit := ()
def PySem.W.Fast.tw12938430997144845287 : Unit := ()
def PySem.W.Fast.tw12074943307577326613 : Unit := ()
def PySem.W.Fast.tw5593740776937122680 : Unit := ()
def PySem.W.Fast.tw1439926804084056213 : Unit := ()
def PySem.W.Fast.tw12883140833723419402 : Unit := ()
def PySem.W.Fast.tw13419451705930585693 : Unit := ()
def PySem.W.Fast.tw18443685984974171880 : Unit := ()
def PySem.W.Fast.tw17043586974563640823 : Unit := ()
def PySem.W.Fast.tw9588700996583402230 : Unit := ()
def PySem.W.Fast.tw10795514430652722989 : Unit := ()
def PySem.W.Fast.tw1793696327229793754 : Unit := ()
def PySem.W.Fast.tw10814078808890703779 : Unit := ()
def PySem.W.Fast.tw12757502983055239176 : Unit := ()
def PySem.W.Fast.tw8127827017260123453 : Unit := ()
def PySem.W.Fast.tw4314939560237787761 : Unit := ()
def PySem.W.Fast.tw13433282543686842350 : Unit := ()
def PySem.W.Fast.tw541153838757239079 : Unit := ()
def PySem.W.Fast.tw12171422933056605709 : Unit := ()
def PySem.W.Fast.tw3892709917288008987 : Unit := ()
def PySem.W.Fast.tw12196894640815178246 : Unit := ()
def PySem.W.Fast.tw9707389787855458818 : Unit := ()
def PySem.W.Fast.tw14678931027243547122 : Unit := ()
def PySem.W.Fast.tw4285215666075339667 : Unit := ()
def PySem.W.Fast.tw3749044037325540214 : Unit := ()
def PySem.W.Fast.tw9788766776385278764 : Unit := ()
def PySem.W.Fast.tw15332108014376431152 : Unit := ()
def PySem.W.Fast.tw15086541170337533025 : Unit := ()
def PySem.W.Fast.tw7381632031294808231 : Unit := ()
def PySem.W.Fast.tw9946307194723826350 : Unit := ()
def PySem.W.Fast.tw4338069500319124826 : Unit := ()
def PySem.W.Fast.tw6578322087885579155 : Unit := ()
def PySem.W.Fast.tw6521024677895858836 : Unit := ()
def PySem.W.Fast.tw12547418269229783641 : Unit := ()
def PySem.W.Fast.tw17757360398535736612 : Unit := ()
def PySem.W.Fast.tw8996887443564781677 : Unit := ()
def PySem.W.Fast.tw9002913813004664062 : Unit := ()
def PySem.W.Fast.tw14031395896258266463 : Unit := ()
def PySem.W.Fast.tw15034829427102630385 : Unit := ()
def PySem.W.Fast.tw7568400332276563774 : Unit := ()
def PySem.W.Fast.tw3795801450719516212 : Unit := ()
def PySem.W.Fast.tw5196371164748852543 : Unit := ()
def PySem.W.Fast.tw2283181019710475997 : Unit := ()
def PySem.W.Fast.tw707484954096720920 : Unit := ()
def PySem.W.Fast.tw9920897332636656774 : Unit := ()
def PySem.W.Fast.tw1056981551964297220 : Unit := ()
def PySem.W.Fast.tw10850064539184614113 : Unit := ()
def PySem.W.Fast.tw4903265370480408933 : Unit := ()
def PySem.W.Fast.tw3135389058851217694 : Unit := ()
def PySem.W.Fast.tw17389793606517963033 : Unit := ()
def PySem.W.Fast.tw4639353193002772228 : Unit := ()
def PySem.W.Fast.tw4557653996105822830 : Unit := ()
def PySem.W.Fast.tw15013320701883290908 : Unit := ()
def PySem.W.Fast.tw17455397550423795588 : Unit := ()
def PySem.W.Fast.tw4001048134121105670 : Unit := ()
def PySem.W.Fast.tw18016249661481185956 : Unit := ()
open PySem PySem.W PyProof.Rows
set_option maxRecDepth 100000 in
set_option maxHeartbeats 0 in
theorem PySem.Challenge.cw_tenreckon_k20_whole_over_holds : PySem.Challenge.rw_tenreckon_k20_whole_over.Holds := by
 w_on; o_law; k_head; (case hw => w_witness2)
 k_fill
 refine TR.walk (l := PySem.Challenge.rw_tenreckon_k20_whole_over) (cc := 928) (P0 := 924) rfl rfl (fun w h Y => ⟨PySem.W.km_in_of Y, PySem.W.codeHd_of_K (PySem.W.km_in_of Y) (by kernel_rfl), PySem.W.km_tabs_of Y _ (by k_mem)⟩) (fun _ => by kernel_rfl) ?F
 case F =>
   intro w mg fa h KX G hmg
   refine' TR.all_mk (cc := 928) (P0 := 924) KX G hmg ?C1y ?C3j ?C4p ?C3p ?G8s ?G0s ?G7j ?G7q ?D1p ?D0q ?C9w ?D1g ?G6w ?G8g ?G0u ?G8j ?G0t ?G3w ?G8z ?G2a ?Y7p ?Z3r ?Z4m ?Y5r ?C1t ?C2z ?C4r ?C4j ?U8d ?U8e ?U1w ?U6x ?U5z ?J9v ?U6d ?U4j ?G4r ?G7v ?G9k ?G8d ?B7h ?B7y ?B7a ?B8j ?G3m ?G4g ?G8y ?G9d ?D2k ?D0e ?C9r ?D2e ?C3z ?C3u ?C1u ?C1j ?Y3g ?Y3h ?Z5d ?Y3c ?C3x ?C2m ?C4e ?C3v ?C0p ?C1d ?C4a ?C3r ?C9d ?D1n ?C9b ?D1y ?C2y ?C4h ?C1z ?C2f ?B1z ?B2m ?B4f ?B2y ?D0n ?C9t ?D1s ?D0d ?D0r ?D1r ?C9q ?D0y ?G0y ?G1b ?G5h ?G8a ?G1k ?G2x ?G6m ?G0p ?C2e ?C4k ?C1v ?C4c ?C1k ?C3y ?C3f ?C1x ?D0h ?D0u ?D2g ?C9n ?U3k ?U7j ?U7p ?J9g ?G7c ?G4z ?G6t ?G3q ?B4j ?B2b ?B2u ?B1v ?U2w ?J8v ?U2p ?U1k ?U7s ?U3c ?U7q ?U0c ?B3s ?B2j ?B1r ?B3h ?G4j ?G1z ?G3d ?G3j ?C3k ?C0w ?C2p ?C3t ?G1u ?G8m ?G9a ?G8b ?G5q ?G8e ?G6q ?G8p ?U5n ?U1y ?U7a ?U7v ?G1f ?G6a ?G1m ?G8t ?Y2v ?Y7q ?Z5q ?Y8t ?C3h ?C2n ?C3n ?C0z ?C9v ?D0t ?C9f ?D1k ?U6b ?U4c ?U7g ?J9t ?U5y ?U6y ?U2q ?U4s ?B8b ?B7r ?B7s ?B6y ?G6y ?G7w ?G4s ?G9p ?G7r ?G7a ?G5s ?G6r ?C2u ?C0t ?C2j ?C1m ?C9y ?D2d ?C9u ?D1w ?B7g ?B7n ?B7p ?B8c ?D0j ?D0b ?D2f ?D1q ?G6x ?G9b ?G6p ?G1c ?C9a ?C8z ?C9m ?C9p ?U4f ?U1n ?U7y ?U8b ?B7v ?B6w ?B7t ?B6u ?Y5d ?Y4r ?Z5u ?Y2x ?G8h ?G7s ?G5b ?G8f ?V0t ?Z5w ?Y6e ?Y9p ?A9r ?Y7u ?J8r ?Y3j ?U7x ?G3g ?U5e ?Z5m ?G3u ?Y8m ?Z4q ?Y3u ?Y9d ?Y2p ?Y7y ?J9q ?B1n ?B6x ?Z3t ?C9j ?C9h ?Y3k ?A9s ?B7u ?B1m ?B7d ?B3q ?A9g ?B2q ?B1t ?A8j ?B2w ?A8k ?A6d ?A8b ?B7m ?B2x ?B7q ?B3x ?A9h ?B3r ?B3b ?A8d ?B3f ?A9z ?A6f ?A9c ?A8p ?A6c ?A9e ?A6g ?A5a ?A6e ?B2v ?B0a ?B3g ?B0d ?A6h ?B0f ?A3j ?A2g ?A3k ?A2e ?A1q ?A2f ?sn ?tk ?a_CW ?a_W0 ?Y7t ?Y2t ?Y6j ?Y4z ?Z3v ?Z3p ?Y6c ?Z4j ?Y6h ?Y4k ?C4d ?C4m ?C2c ?C1s ?B5d ?a_W1 ?Y6a ?Z4d ?Z2b ?Z0x ?Y4t ?Y7b ?Y3a ?Y7s ?Y9m ?Z0y ?C1g ?C1n ?C1f ?C2x ?B5g ?a_W2 ?Y4d ?Y6x ?Z2j ?Y5h ?Z3b ?Z0z ?Z0p ?Y4x ?Y6r ?Y2k ?C2s ?C2t ?C2k ?C2b ?B4z ?a_W3 ?Y2c ?Y6b ?Z2m ?Z1w ?Y8q ?Y5w ?Z5s ?Y8k ?Z0g ?Z4v ?C4n ?C1b ?C3a ?C2w ?B5b ?a_W4 ?Z0k ?Y8a ?Y2u ?Z3k ?Y9g ?Z2q ?Z3g ?Z5a ?Z3y ?Y6v ?C2v ?C2r ?C3c ?C4g ?B5f ?a_W5 ?Y6n ?Z1q ?Z5b ?Z2z ?Y2b ?Z2a ?Y8v ?Y3s ?Y2f ?Y8g ?C3g ?C1a ?C2h ?C3s ?B5c ?a_W6 ?Y5u ?Y3r ?Y5x ?Z2c ?Y4u ?Z1y ?Y5m ?Z1f ?Y5j ?Y9f ?C3e ?C1h ?C3d ?C0y ?B5e ?a_W7 ?Y2e ?Y4w ?Y9t ?Y9r ?Y8r ?Z4h ?Z2u ?Z1r ?Y8n ?Z3n ?C4f ?C4q ?C1e ?C2a ?B5h ?a_CN ?Y8e ?Y5t ?Z3j ?Z1c ?Z1j ?Z2h ?Y9x ?Y8j ?C1w ?C2d ?A8z ?B8n ?Y5q ?Y5y ?Y4q ?Z5e ?Z0f ?G0r ?A8w ?A9w ?A7z ?A8u ?A3u ?B4a ?B1s ?B2k ?B4k ?A5w ?A9f ?A9v ?A8f ?A8v ?A4b ?B2d ?B4m ?B1y ?B4b ?A5t ?A8c ?A9m ?A9q ?A9u ?A3w ?B2c ?B4g ?B3v ?B2h ?A5s ?A8h ?B0c ?A9j ?A9a ?A3x ?B2t ?B2g ?B4e ?B2r ?A5u ?A9d ?A8s ?A9t ?A9p ?A4a ?B3a ?B3j ?B3m ?B2z ?A5z ?A9x ?A8y ?A8g ?B0e ?A3v ?B3e ?B2e ?B2f ?B1x ?A5x ?A8t ?A8m ?A8e ?A9y ?A3z ?B2a ?B3p ?B3u ?B3t ?A5v ?A9b ?A9k ?A9n ?A8a ?A3y ?B2p ?B1q ?B3w ?B3k ?A5r ?a_CC ?Y5b ?Y9v ?Y4h ?Y9n ?Z4z ?Y2n ?C4s ?C0r ?B7b ?C3b ?B8m ?A8q ?Z0r ?Y3m ?Z4a ?Z2t ?Y6y ?Y4m ?B8d ?B8g ?B7z ?B7w ?A8r ?B1p ?B2n ?B1u ?B2s ?A5q ?C9z ?D2h ?C9e ?D1e ?B9a ?B6v ?B6z ?B8h ?B7f ?B0b ?C3w ?C0s ?C2q ?C1c ?B4y ?B1w ?B4h ?B3n ?B3z ?A5y ?a_CQ ?Z1e ?Z2r ?Z4f ?Y9c ?Z4p ?Z1k ?Z1a ?Z1b ?D0k ?B3c ?B7c ?Z4e ?Z1u ?Z0j ?Z2g ?Y2m ?J3a ?B8a ?B7j ?B7k ?B8f ?A8x ?G9r ?G2v ?G9e ?G3e ?C6p ?a_CE ?Y3p ?a_C1 ?a_C2 ?a_C3 ?a_CR ?cty ?ccl ?cex ?q1 ?q2 ?sub3 ?xga3 ?xgh3 ?xca3 ?xob3 ?xbe3 ?xcl3 ?h3_1 ?h3_2 ?h3_3 ?hv3 ?lT ?lN ?alN ?niT ?lT1 ?saT ?nsg3 ?l_iT ?c_iT ?k_iT ?fcT ?kTR ?tyT ?subT ?a_S ?lS ?hcode
   case C1y|C3j|C4p|C3p|G8s|G0s|G7j|G7q|D1p|D0q|C9w|D1g|G6w|G8g|G0u|G8j|G0t|G3w|G8z|G2a|Y7p|Z3r|Z4m|Y5r|C1t|C2z|C4r|C4j|U8d|U8e|U1w|U6x|U5z|J9v|U6d|U4j|G4r|G7v|G9k|G8d|B7h|B7y|B7a|B8j|G3m|G4g|G8y|G9d|D2k|D0e|C9r|D2e|C3z|C3u|C1u|C1j|Y3g|Y3h|Z5d|Y3c => k_is
   case C3x|C2m|C4e|C3v|C0p|C1d|C4a|C3r|C9d|D1n|C9b|D1y|C2y|C4h|C1z|C2f|B1z|B2m|B4f|B2y|D0n|C9t|D1s|D0d|D0r|D1r|C9q|D0y|G0y|G1b|G5h|G8a|G1k|G2x|G6m|G0p|C2e|C4k|C1v|C4c|C1k|C3y|C3f|C1x|D0h|D0u|D2g|C9n|U3k|U7j|U7p|J9g|G7c|G4z|G6t|G3q|B4j|B2b|B2u|B1v => k_is
   case U2w|J8v|U2p|U1k|U7s|U3c|U7q|U0c|B3s|B2j|B1r|B3h|G4j|G1z|G3d|G3j|C3k|C0w|C2p|C3t|G1u|G8m|G9a|G8b|G5q|G8e|G6q|G8p|U5n|U1y|U7a|U7v|G1f|G6a|G1m|G8t|Y2v|Y7q|Z5q|Y8t|C3h|C2n|C3n|C0z|C9v|D0t|C9f|D1k|U6b|U4c|U7g|J9t|U5y|U6y|U2q|U4s|B8b|B7r|B7s|B6y => k_is
   case G6y|G7w|G4s|G9p|G7r|G7a|G5s|G6r|C2u|C0t|C2j|C1m|C9y|D2d|C9u|D1w|B7g|B7n|B7p|B8c|D0j|D0b|D2f|D1q|G6x|G9b|G6p|G1c|C9a|C8z|C9m|C9p|U4f|U1n|U7y|U8b|B7v|B6w|B7t|B6u|Y5d|Y4r|Z5u|Y2x|G8h|G7s|G5b|G8f|V0t|Z5w|Y6e|Y9p|A9r|Y7u|J8r|Y3j|U7x|G3g|U5e|Z5m => k_is
   case G3u|Y8m|Z4q|Y3u|Y9d|Y2p|Y7y|J9q|B1n|B6x|Z3t|C9j|C9h|Y3k|A9s => k_is
   case B7u|B1m|B7d|B3q|A9g|B2q|B1t|A8j|B2w|A8k|A6d|A8b|B7m|B2x|B7q|B3x|A9h|B3r|B3b|A8d|B3f|A9z|A6f|A9c|A8p|A6c|A9e|A6g|A5a|A6e|B2v|B0a|B3g|B0d|A6h|B0f|A3j|A2g|A3k|A2e|A1q|A2f => kit_is
   case sn|tk|a_CW|a_W0|Y7t|Y2t|Y6j|Y4z|Z3v|Z3p|Y6c|Z4j|Y6h => k_is
   case Y4k => kit_is
   case C4d|C4m|C2c|C1s|B5d|a_W1|Y6a|Z4d|Z2b|Z0x|Y4t|Y7b|Y3a|Y7s|Y9m => k_is
   case Z0y => kit_is
   case C1g|C1n|C1f|C2x|B5g|a_W2|Y4d|Y6x|Z2j|Y5h|Z3b|Z0z|Z0p|Y4x|Y6r => k_is
   case Y2k => kit_is
   case C2s|C2t|C2k|C2b|B4z|a_W3|Y2c|Y6b|Z2m|Z1w|Y8q|Y5w|Z5s|Y8k|Z0g => k_is
   case Z4v => kit_is
   case C4n|C1b|C3a|C2w|B5b|a_W4|Z0k|Y8a|Y2u|Z3k|Y9g|Z2q|Z3g|Z5a|Z3y => k_is
   case Y6v => kit_is
   case C2v|C2r|C3c|C4g|B5f|a_W5|Y6n|Z1q|Z5b|Z2z|Y2b|Z2a|Y8v|Y3s|Y2f => k_is
   case Y8g => kit_is
   case C3g|C1a|C2h|C3s|B5c|a_W6|Y5u|Y3r|Y5x|Z2c|Y4u|Z1y|Y5m|Z1f|Y5j => k_is
   case Y9f => kit_is
   case C3e|C1h|C3d|C0y|B5e|a_W7|Y2e|Y4w|Y9t|Y9r|Y8r|Z4h|Z2u|Z1r|Y8n => k_is
   case Z3n => kit_is
   case C4f|C4q|C1e|C2a|B5h|a_CN|Y8e|Y5t|Z3j|Z1c|Z1j|Z2h|Y9x|Y8j|C1w|C2d|A8z|B8n|Y5q|Y5y|Y4q|Z5e|Z0f => k_is
   case G0r => kit_is
   case A8w|A9w|A7z|A8u|A3u|B4a|B1s|B2k|B4k|A5w|A9f|A9v|A8f|A8v|A4b|B2d|B4m|B1y|B4b|A5t|A8c|A9m|A9q|A9u|A3w|B2c|B4g|B3v|B2h|A5s|A8h|B0c|A9j|A9a|A3x|B2t|B2g|B4e|B2r|A5u|A9d|A8s|A9t|A9p|A4a|B3a|B3j|B3m|B2z|A5z|A9x|A8y|A8g|B0e|A3v|B3e|B2e|B2f|B1x|A5x => k_is
   case A8t|A8m|A8e|A9y|A3z|B2a|B3p|B3u|B3t|A5v|A9b|A9k|A9n|A8a|A3y|B2p|B1q|B3w|B3k|A5r|a_CC|Y5b|Y9v|Y4h|Y9n|Z4z|Y2n|C4s|C0r|B7b|C3b|B8m|A8q|Z0r|Y3m|Z4a|Z2t|Y6y|Y4m|B8d|B8g|B7z|B7w|A8r|B1p|B2n|B1u|B2s|A5q|C9z|D2h|C9e|D1e|B9a|B6v|B6z|B8h|B7f|B0b|C3w => k_is
   case C0s|C2q|C1c|B4y|B1w|B4h|B3n|B3z|A5y|a_CQ|Z1e|Z2r|Z4f|Y9c|Z4p|Z1k|Z1a|Z1b|D0k|B3c|B7c|Z4e|Z1u|Z0j|Z2g|Y2m|J3a|B8a|B7j|B7k|B8f|A8x|G9r|G2v|G9e|G3e|C6p|a_CE => k_is
   case Y3p => kit_is
   case a_C1|a_C2|a_C3|a_CR|cty|ccl|cex => k_is
   case q1|q2 => k_exc
   case sub3|xga3|xgh3|xca3|xob3|xbe3|xcl3 => k_is
   case h3_1|h3_2|h3_3|hv3 => kit_is
   case lT|lN => k_is
   case alN => simp
   case niT|lT1|saT|nsg3|l_iT|c_iT|k_iT => k_is
   case fcT => rfl
   case kTR => kit_is
   case tyT|subT|a_S|lS => k_is
   case hcode => rfl

