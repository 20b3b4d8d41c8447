import PyProof.Rows.All
import Wide.All
import OpenK.AllK
import Wide.FinOn
import Lean
import PyProof.EqAt
import PyProof.EqKinds
import PyProof.TupleCall
import PyProof.Rows.Catch
import PyProof.Rows.TupIter
import PyProof.TupleIter
import PyProof.Seq
import PyProof.ExcInit
import PyProof.ExcClass2
import KE.KIntText
import PyProof.StrOps2
import PyProof.ConsumeWalk
import PyProof.Rows.RuleM_int
import PyProof.ZipIter
import PyProof.EnumMake
import KE.KLam
import PyProof.StrWalks
import PyProof.Rows.TupAssign
import PySem.Challenge.RW_tenreckon_k35_whole_quotients_exactly
set_option Elab.async false
set_option linter.all false
set_option maxRecDepth 100000
namespace L2
open PySem PySem.Spec PyProof.Rows
abbrev Key := Sum Int Str
def A0qq : Key -> Value -> Bool
 | .inl k, v => Value.isInt k v
 | .inr x, v => Value.isStrOf x v
def keyH (w : World) : Key -> Int
 | .inl k => hashInt k
 | .inr x => hashStr w x
theorem Y4 : ∀ {k : Key} {v : Value}, A0qq k v = true -> (∃ i t, k = Sum.inl i /\ v = Value.int i t) \/ (∃ x t, k = Sum.inr x /\ v = Value.str x t)
 | .inl i, v, h => by
   obtain ⟨t, e⟩ := Value.isInt_shape (k := i) (v := v) h
   exact .inl ⟨i, t, rfl, e⟩
 | .inr x, v, h => by
   obtain ⟨t, e⟩ := Value.isStrOf_shape (x := x) (v := v) h
   exact .inr ⟨x, t, rfl, e⟩
theorem A0rt (a b : Int) : decide ((Sum.inl a : Key) = Sum.inl b) = (a == b) := by
 by_cases e : a = b
 . subst e; simp
 have h : ¬ (Sum.inl a : Key) = Sum.inl b := fun q => e (Sum.inl.inj q)
 rw [decide_eq_false h]
 exact (beq_eq_false_iff_ne.mpr e).symm
theorem A0ta (a b : Str) : decide ((Sum.inr a : Key) = Sum.inr b) = decide (a = b) := by
 by_cases e : a = b
 . subst e; simp
 have h : ¬ (Sum.inr a : Key) = Sum.inr b := fun q => e (Sum.inr.inj q)
 rw [decide_eq_false h, decide_eq_false e]
theorem A0sn (a : Int) (b : Str) : decide ((Sum.inl a : Key) = Sum.inr b) = false := decide_eq_false (fun q => nomatch q)
theorem A0tm (a : Str) (b : Int) : decide ((Sum.inr a : Key) = Sum.inl b) = false := decide_eq_false (fun q => nomatch q)
def V2r (prog : Program) (w : World) : PySem.KeyKind prog w Key where
 is := A0qq
 hash := keyH w
 inj := fun v a b ha hb => by
   rcases Y4 ha with ⟨i, t, rfl, rfl⟩ | ⟨x, t, rfl, rfl⟩
   . rcases Y4 hb with ⟨j, u, rfl, e⟩ | ⟨y, u, rfl, e⟩
     . injection e with e1 _; rw [e1]
     . exact nomatch e
   . rcases Y4 hb with ⟨j, u, rfl, e⟩ | ⟨y, u, rfl, e⟩
     . exact nomatch e
     . injection e with e1 _; rw [e1]
 byValue := fun k v h => by
   rcases Y4 h with ⟨i, t, rfl, rfl⟩ | ⟨x, t, rfl, rfl⟩ <;> rfl
 pyHash := fun hv h => by
   rcases Y4 hv with ⟨i, t, rfl, rfl⟩ | ⟨x, t, rfl, rfl⟩
   . exact wpAny_pyHash_int h
   . exact wpAny_pyHash_str h
 eqBool := fun hu hv h => by
   rcases Y4 hu with ⟨i, t, rfl, rfl⟩ | ⟨x, t, rfl, rfl⟩
   . rcases Y4 hv with ⟨j, u, rfl, rfl⟩ | ⟨y, u, rfl, rfl⟩
     . rw [A0rt] at h; exact wpAny_eqBool_int h
     . rw [A0sn] at h; exact SeqAt.EqAt.int_str i t y u _ _ _ _ h
   . rcases Y4 hv with ⟨j, u, rfl, rfl⟩ | ⟨y, u, rfl, rfl⟩
     . rw [A0tm] at h; exact SeqAt.EqAt.str_int x t j u _ _ _ _ h
     . rw [A0ta] at h; exact wpAny_eqBool_str h
 «strs» := fun k x t v h => by
   rcases Y4 h with ⟨i, u, rfl, e⟩ | ⟨y, u, rfl, e⟩
   . exact nomatch e
   . injection e with e1 _
     subst e1
     cases v <;> rfl
inductive V where
 | non | bl (b : Bool) | int (i : Int) | str (x : Str) | byt (b : Array UInt8) | flt (b : UInt64) | ref (a : Addr) | ty (n : String)
 deriving DecidableEq
def V0 : V -> Value -> Prop
 | .non, u => u = Value.none
 | .bl b, u => u = Value.bool b
 | .int i, u => ∃ t, u = Value.int i t
 | .str x, u => ∃ t, u = Value.str x t
 | .byt b, u => ∃ t, u = Value.bytes b t
 | .flt b, u => ∃ t, u = Value.float b t
 | .ref a, u => u = Value.ref a
 | .ty n, u => u = Value.type n
abbrev U2 : List V -> List Value -> Prop := Paired V0
theorem U2.length {xs : List V} {us : List Value} (r : U2 xs us) : xs.length = us.length := Paired.length r
theorem U2.get : ∀ {xs : List V} {us : List Value} {i : Nat} {x : V}, U2 xs us -> xs[i]? = some x -> ∃ u, us[i]? = some u /\ V0 x u
 | _, _, _, _, .nil, e => by simp at e
 | _, _, 0, _, .cons r _, e => by simp at e; subst e; exact ⟨_, rfl, r⟩
 | _, _, i + 1, x, .cons _ t, e => by
   obtain ⟨u, h1, h2⟩ := U2.get (i := i) (x := x) t (by simpa using e)
   exact ⟨u, by simpa using h1, h2⟩
theorem U2.set {x : V} {u : Value} (r : V0 x u) : ∀ {xs : List V} {us : List Value} (i : Nat), U2 xs us -> U2 (xs.set i x) (us.set i u)
 | _, _, _, .nil => .nil
 | _, _, 0, .cons _ t => .cons r t
 | _, _, i + 1, .cons q t => .cons q (U2.set r i t)
theorem U2.append : ∀ {xs ys : List V} {us ws : List Value}, U2 xs us -> U2 ys ws -> U2 (xs ++ ys) (us ++ ws)
 | _, _, _, _, .nil, s => s
 | _, _, _, _, .cons r t, s => .cons r (U2.append t s)
def C7g : Option V -> Option Value -> Prop
 | some v, some u => V0 v u
 | none, none => True
 | _, _ => False
def KV {κ : Type} : List (κ × V) -> List (κ × Value) -> Prop := Paired fun (p : κ × V) (q : κ × Value) => p.1 = q.1 /\ V0 p.2 q.2
def kV : Key -> V
 | .inl i => .int i
 | .inr x => .str x
inductive HO where
 | lst (xs : List V)
 | tup (xs : List V)
 | dK (kvs : List (Key × V)) | dT (kvs : List (List Key × V))
 | set (S : Int -> Bool) (n : Nat)
 | ins (C dx : Addr) (fs : List (Str × V))
 | own (x : Addr)
 | xd (fs : List (Str × V))
 | met (f x : Addr)
 | rng (lo hi : Int)
 | frz (o : Obj) (u : HO)
 | tbl (ps : Array Value)
 | ext (φ : Heap -> Prop)
abbrev Hp := Addr -> Option HO
def upd (H : Hp) (a : Addr) (o : HO) : Hp := fun b => if b = a then some o else H b
theorem A7 {H : Hp} {a : Addr} {o : HO} : upd H a o a = some o := by unfold upd; rw [if_pos rfl]
theorem G6 {H : Hp} {a b : Addr} {o : HO} (h : b ≠ a) : upd H a o b = H b := by unfold upd; rw [if_neg h]
theorem A0hw {H : Hp} {a : Addr} {o u : HO} : upd (upd H a o) a u = upd H a u := by
 funext b; unfold upd; split <;> rfl
theorem A7b {H : Hp} {a b : Addr} {o u : HO} (h : H a = some o) (h' : H b = some u) (d : o ≠ u) : a ≠ b := by
 intro e; subst e; rw [h] at h'; exact d (Option.some.inj h')
theorem G7 {H : Hp} {a b : Addr} {o : HO} (h : H a = some o) (h' : H b = none) : a ≠ b := by
 intro e; subst e; rw [h] at h'; cases h'
section
variable (P : Program) (w : World)
def A0g (H : Hp) (h : Heap) (a : Addr) : HO -> Prop
 | .lst xs => xs.length <= sizeLine /\ ∃ (its : List Value) (n : Nat), U2 xs its /\ h.get? a = some { cls := .type "list", data := .seq its.toArray n }
 | .tup xs => xs.length <= sizeLine /\ ∃ its : List Value, U2 xs its /\ IsTup h a its.toArray
 | .dK kvs => kvs.length <= sizeLine /\ (a == sysModules) = false /\ ∃ vs, KV kvs vs /\ h.DictOf (V2r P w) a vs
 | .dT kvs => kvs.length <= sizeLine /\ (a == sysModules) = false /\ ∃ xs : List (List Key × Addr × Value),
     Paired (fun (p : List Key × V) (q : List Key × Addr × Value) => p.1 = q.1 /\ H q.2.1 = some (.tup (p.1.map kV)) /\ V0 p.2 q.2.2) kvs xs /\
     ∃ o es ep, h.get? a = some o /\ o.ExactDict /\ o.data = .dict es ep /\ es.toList = xs.map (entryOfKey (tupleKind (V2r P w))) /\ (xs.map (·.1)).Nodup
 | .set S n => h.SetOf (intKind P w) a S n
 | .ins C dx fs => H dx = some (.own a) /\ fs.length <= 1000 /\ dx ≠ a /\ h.get? a = some (PySem.W.instObj C dx) /\
     ∃ mA, h.Ns1 dx mA /\ (∀ f, C7g (fs.lookup f) (mA f)) /\ PySem.Within mA (fs.map (·.1))
 | .own _ => ∃ o, h.get? a = some o
 | .xd fs => ∃ mA, h.Ns1 a mA /\ ∀ f, C7g (fs.lookup f) (mA f)
 | .rng lo hi => ∃ t u v, h.get? a = some { cls := .type "range", data := .fields #[.int lo t, .int hi u, .int 1 v] }
 | .frz o u => h.get? a = some o /\ A0g H h a u
 | .tbl ps => h.get? a = some { cls := .none, data := .fields ps }
 | .met f x => h.get? a = some (PySem.W.methodObj (.ref f) (.ref x))
 | .ext φ => φ h /\ (∃ o, h.get? a = some o) /\ ∀ h1 h2 : Heap, φ h1 -> (∀ o, h1.get? a = some o -> h2.get? a = some o) -> φ h2
def HOk (H : Hp) (h : Heap) : Prop := ∀ a o, H a = some o -> A0g P w H h a o
end
section
variable {P : Program} {w : World} {H H' : Hp} {h h' : Heap} {a : Addr} {o : HO}
theorem A0g.lt (x : A0g P w H h a o) : a < h.objs.size := by
 cases o with
 | lst xs => obtain ⟨_, _, _, _, e⟩ := x; exact Heap.lt_size e
 | tup xs => obtain ⟨_, _, _, p⟩ := x; exact p.lt
 | dK kvs => obtain ⟨_, _, _, _, o, _, _, e, _⟩ := x; exact Heap.lt_size e
 | dT kvs => obtain ⟨_, _, _, _, o, _, _, e, _⟩ := x; exact Heap.lt_size e
 | set S n => obtain ⟨o, _, _, _, e, _⟩ := x; exact Heap.lt_size e
 | ins C dx fs => obtain ⟨_, _, _, e, _⟩ := x; exact Heap.lt_size e
 | own y => obtain ⟨_, e⟩ := x; exact Heap.lt_size e
 | xd fs => obtain ⟨_, ⟨_, _, _, e, _⟩, _⟩ := x; exact Heap.lt_size e
 | rng lo hi => obtain ⟨_, _, _, e⟩ := x; exact Heap.lt_size e
 | frz ob u => obtain ⟨e, _⟩ := x; exact Heap.lt_size e
 | tbl ps => exact Heap.lt_size (show h.get? a = some _ from x)
 | met f y => exact Heap.lt_size (show h.get? a = some _ from x)
 | ext φ => obtain ⟨_, ⟨_, e⟩, _⟩ := x; exact Heap.lt_size e
theorem Paired.mapP {α β : Type} {F G : α -> β -> Prop} : ∀ {l₁ : List α} {l₂ : List β}, Paired F l₁ l₂ -> (∀ a b, F a b -> G a b) -> Paired G l₁ l₂
 | _, _, .nil, _ => .nil
 | _, _, .cons r t, f => .cons (f _ _ r) (Paired.mapP t f)
theorem A0g.stay (x : A0g P w H h a o) (k : ∀ b u, (b = a \/ H b = some (.own a)) -> h.get? b = some u -> h'.get? b = some u)
   (ho : ∀ b, H b = some (.own a) -> H' b = some (.own a)) (ht : ∀ b xs, H b = some (.tup xs) -> H' b = some (.tup xs)) : A0g P w H' h' a o := by
 induction o with
 | lst xs => obtain ⟨z, its, n, r, e⟩ := x; exact ⟨z, its, n, r, k _ _ (.inl rfl) e⟩
 | tup xs => obtain ⟨z, its, r, ob, e, c⟩ := x; exact ⟨z, its, r, ob, k _ _ (.inl rfl) e, c⟩
 | dK kvs => obtain ⟨z, y, vs, r, ob, es, ep, e, c⟩ := x; exact ⟨z, y, vs, r, ob, es, ep, k _ _ (.inl rfl) e, c⟩
 | dT kvs =>
   obtain ⟨z, y, xs, r, ob, es, ep, e, c⟩ := x
   exact ⟨z, y, xs, Paired.mapP r fun p q z => ⟨z.1, ht _ _ z.2.1, z.2.2⟩, ob, es, ep, k _ _ (.inl rfl) e, c⟩
 | set S n => obtain ⟨ob, es, ep, t, e, c⟩ := x; exact ⟨ob, es, ep, t, k _ _ (.inl rfl) e, c⟩
 | ins C dx fs =>
   obtain ⟨d, z, ne, e, mA, ⟨od, es, ep, e2, c⟩, r⟩ := x
   exact ⟨ho _ d, z, ne, k _ _ (.inl rfl) e, mA, ⟨od, es, ep, k _ _ (.inr d) e2, c⟩, r⟩
 | own y => obtain ⟨ob, e⟩ := x; exact ⟨ob, k _ _ (.inl rfl) e⟩
 | xd fs => obtain ⟨mA, ⟨od, es, ep, e, c⟩, r⟩ := x; exact ⟨mA, ⟨od, es, ep, k _ _ (.inl rfl) e, c⟩, r⟩
 | rng lo hi => obtain ⟨t, u, v, e⟩ := x; exact ⟨t, u, v, k _ _ (.inl rfl) e⟩
 | frz ob u ih => obtain ⟨e, q⟩ := x; exact ⟨k _ _ (.inl rfl) e, ih q⟩
 | tbl ps =>
   have e : h.get? a = some { cls := .none, data := .fields ps } := x
   show h'.get? a = some { cls := .none, data := .fields ps }
   exact k a _ (.inl rfl) e
 | met f y =>
   have e : h.get? a = some (PySem.W.methodObj (.ref f) (.ref y)) := x
   show h'.get? a = some (PySem.W.methodObj (.ref f) (.ref y))
   exact k a _ (.inl rfl) e
 | ext φ => obtain ⟨p, ⟨o, e⟩, st⟩ := x; exact ⟨st _ _ p fun o q => k _ _ (.inl rfl) q, ⟨o, k _ _ (.inl rfl) e⟩, st⟩
theorem HOk.lt (x : HOk P w H h) (e : H a = some o) : a < h.objs.size := (x a o e).lt
theorem HOk.fresh (x : HOk P w H h) (e : h.objs.size <= a) : H a = none := by
 cases q : H a with
 | none => rfl
 | some u => exact absurd (Nat.lt_of_lt_of_le (x.lt q) e) (Nat.lt_irrefl _)
theorem HOk.kept (x : HOk P w H h) (k : ∀ b u, h.get? b = some u -> h'.get? b = some u) : HOk P w H h' := fun a o e =>
 (x a o e).stay (fun b u _ q => k b u q) (fun _ q => q) fun _ _ q => q
theorem HOk.laid (x : HOk P w H h) (k : ∀ b u, h.get? b = some u -> h'.get? b = some u) (hp : h.objs.size <= a) (new : A0g P w (upd H a o) h' a o) : HOk P w (upd H a o) h' := fun b u e => by
 have hn := x.fresh hp
 by_cases hb : b = a
 . subst hb; rw [A7] at e; cases e; exact new
 . rw [G6 hb] at e
   exact (x b u e).stay (fun c v _ q => k c v q) (fun c q => by rw [G6 (G7 q hn)]; exact q) fun c xs q => by rw [G6 (G7 q hn)]; exact q
end
def Rd (H : Hp) (a : Addr) (u : HO) : Prop := H a = some u \/ ∃ o, H a = some (.frz o u)
theorem Rd.ok {P : Program} {w : World} {H : Hp} {h : Heap} {a : Addr} {u : HO} (r : Rd H a u) (x : HOk P w H h) : A0g P w H h a u := by
 rcases r with r | ⟨o, r⟩
 . exact x a u r
 obtain ⟨_, q⟩ := x a _ r
 exact q
def Mut : Option HO -> Prop
 | some (.lst _) => True
 | some (.dK _) => True
 | some (.dT _) => True
 | some (.set _ _) => True
 | some (.ins _ _ _) => True
 | some (.ext _) => True
 | _ => False
section
variable {P : Program} {w : World} {H : Hp} {h h' : Heap} {x e : Addr} {o' : HO}
theorem HOk.write (ok : HOk P w H h) (mu : Mut (H x)) (he : e = x \/ H e = some (.own x)) (k : ∀ b u, b ≠ e -> h.get? b = some u -> h'.get? b = some u) (heo : ∃ u, h'.get? e = some u)
   (new : A0g P w (upd H x o') h' x o') : HOk P w (upd H x o') h' := fun b u q => by
 have nown : ∀ c y, H c = some (.own y) -> c ≠ x := fun c y r z => by subst z; rw [r] at mu; exact mu
 have ntup : ∀ c xs, H c = some (.tup xs) -> c ≠ x := fun c xs r z => by subst z; rw [r] at mu; exact mu
 by_cases hb : b = x
 . subst hb; rw [A7] at q; cases q; exact new
 . rw [G6 hb] at q
   by_cases hbe : b = e
   . have q' : H b = some (.own x) := by
       rcases he with z | z
       . exact absurd (hbe.trans z) hb
       . rw [hbe]; exact z
     rw [q] at q'; cases q'
     obtain ⟨v, hv⟩ := heo
     exact ⟨v, by rw [hbe]; exact hv⟩
   . refine (ok b u q).stay (fun c v hc r => k c v ?_ r) (fun c r => by rw [G6 (nown c b r)]; exact r) fun c xs r => by rw [G6 (ntup c xs r)]; exact r
     rcases hc with rfl | hc
     . exact hbe
     . rintro rfl
       rcases he with z | z
       . exact nown c b hc z
       . rw [hc] at z; cases z; exact hb rfl
end
structure Un (fs ex : List Addr) (H H' : Hp) (h h' : Heap) : Prop where
 keep : ∀ b o, h.get? b = some o -> H b = none -> b ∉ fs -> b ∉ ex -> h'.get? b = some o
 slot : ∀ b o, h.get? b = some o -> H b = none -> b ∈ fs -> b ∉ ex -> ∃ sl, h'.get? b = some { o with slots := sl }
 free : ∀ b o, h.get? b = some o -> H b = none -> b ∉ ex -> H' b = none
 there : ∀ b o, h.get? b = some o -> b ∉ ex -> ∃ o', h'.get? b = some o'
 tups : ∀ b xs, H b = some (.tup xs) -> H' b = some (.tup xs)
 frzs : ∀ b o u, H b = some (.frz o u) -> H' b = some (.frz o u)
 tbls : ∀ b ps, H b = some (.tbl ps) -> ∃ more, H' b = some (.tbl (ps ++ more))
section
variable {fs fs' ex ex' : List Addr} {H H1 H2 : Hp} {h h1 h2 h' : Heap} {a x e : Addr} {o : HO}
theorem Un.any (u : Un fs ex H H1 h h1) {b : Addr} {ob : Obj} (q : h.get? b = some ob) (n : H b = none) (hx : b ∉ ex) : ∃ sl, h1.get? b = some { ob with slots := sl } := by
 by_cases hb : b ∈ fs
 . exact u.slot b ob q n hb hx
 exact ⟨ob.slots, u.keep b ob q n hb hx⟩
theorem Un.kept (k : ∀ b u, h.get? b = some u -> h'.get? b = some u) : Un fs ex H H h h' :=
 ⟨fun b ob q _ _ _ => k b ob q, fun b ob q _ _ _ => ⟨ob.slots, k b ob q⟩, fun _ _ _ n _ => n, fun b ob q _ => ⟨ob, k b ob q⟩, fun _ _ q => q, fun _ _ _ q => q, fun _ ps q => ⟨#[], by rw [q]; simp⟩⟩
theorem Un.refl : Un fs ex H H h h := Un.kept fun _ _ q => q
theorem Un.laid (k : ∀ b u, h.get? b = some u -> h'.get? b = some u) (hp : h.objs.size <= a) (hn : H a = none) : Un fs ex H (upd H a o) h h' where
 keep := fun b u q _ _ _ => k b u q
 slot := fun b u q _ _ _ => ⟨u.slots, k b u q⟩
 free := fun b u q n _ => by rw [G6 (Nat.ne_of_lt (Nat.lt_of_lt_of_le (Heap.lt_size q) hp))]; exact n
 there := fun b u q _ => ⟨u, k b u q⟩
 tups := fun b xs q => by rw [G6 (G7 q hn)]; exact q
 frzs := fun b u xs q => by rw [G6 (G7 q hn)]; exact q
 tbls := fun b ps q => ⟨#[], by rw [G6 (G7 q hn), q]; simp⟩
theorem Un.write (mu : Mut (H x)) (he : e = x \/ H e = some (.own x)) (k : ∀ b u, b ≠ e -> h.get? b = some u -> h'.get? b = some u) (heo : ∃ u, h'.get? e = some u) : Un fs ex H (upd H x o) h h' := by
 have hx : ∀ b, H b = none -> b ≠ x := fun b n z => by subst z; rw [n] at mu; exact mu
 have hb : ∀ b, H b = none -> b ≠ e := fun b n z => by
   subst z
   rcases he with r | r
   . exact hx b n r
   . rw [n] at r; cases r
 have hm : ∀ b u, H b = some u -> ¬ Mut (some u) -> b ≠ x := fun b u q nm z => by subst z; rw [q] at mu; exact nm mu
 refine ⟨fun b u q n _ _ => k b u (hb b n) q, fun b u q n _ _ => ⟨u.slots, k b u (hb b n) q⟩, fun b u q n _ => by rw [G6 (hx b n)]; exact n, fun b u q _ => ?_,
   fun b xs q => by rw [G6 (hm b _ q fun z => z)]; exact q, fun b u xs q => by rw [G6 (hm b _ q fun z => z)]; exact q, fun b ps q => ⟨#[], by rw [G6 (hm b _ q fun z => z), q]; simp⟩⟩
 by_cases hbe : b = e
 . subst hbe; exact heo
 exact ⟨u, k b u hbe q⟩
end
def trk (h : Heap) (H : Hp) : List Addr := (List.range h.objs.size).filter fun a => (H a).isSome
def G2c (h : Heap) (H : Hp) : Heap := PySem.W.hideAll h (trk h H)
theorem V7w (h : Heap) (H : Hp) : (G2c h H).objs.size = h.objs.size := PySem.W.hideAll_size _ _
theorem Y6q {h : Heap} {H : Hp} {b : Addr} {o : Obj} (e : h.get? b = some o) (n : H b = none) : (G2c h H).get? b = some o :=
 PySem.W.hideAll_get _ e fun hm => by
   have q : (H b).isSome = true := (List.mem_filter.mp hm).2
   rw [n] at q; simp at q
theorem A0hy {h : Heap} {H : Hp} {b : Addr} {o : Obj} (e : (G2c h H).get? b = some o) : h.get? b = some o /\ H b = none := by
 have e' : h.get? b = some o := PySem.W.of_hideAll (trk h H) e
 refine ⟨e', ?_⟩
 cases q : H b with
 | none => rfl
 | some x =>
   have hm : b ∈ trk h H := List.mem_filter.mpr ⟨List.mem_range.mpr (Heap.lt_size e'), by simp [q]⟩
   have z : (G2c h H).get? b = none := PySem.W.hideAll_none (trk h H) hm
   rw [z] at e; cases e
structure Mod (K : PySem.W.Frag) (mg : Str -> Option Value) (base : Heap) : Prop where
 kin : K.In base
 glob : base.Ns mainGlobals mg
 blt : ∃ mb, base.Ns builtinsNs mb /\ ∀ x : Str, x ≠ "__name__" -> mb x = bootBuiltins x
 nolimit : base.NoLimit
structure Cx where
 prog : Program
 w : World
 K : PySem.W.Frag
 mg : Str -> Option Value
 base : Heap
 A : Around
 N : List Str
 s₀ : Shared
 H₀ : Hp
 env : Env
 outer : List Env
 stack : List Env
 ex : List Addr
 fn : Str -> Bool
 calm : Bool
 pn : List (Addr × Obj)
 xe : Value -> Shared -> Prop
def frs (l : List Env) : List Addr := l.filterMap (·.frame)
abbrev Cx.fs (X : Cx) : List Addr := frs X.outer
def Vis (sc : Scope) (x : Str) : Prop := sc.names.lookup x = some .local \/ sc.names.lookup x = some .cell \/ sc.names.lookup x = some .free
def Loc (sc : Scope) (x : Str) : Prop := sc.names.lookup x = some .local \/ sc.names.lookup x = some .cell
def Look (env : Env) (h : Heap) (m : Str -> Option Value) (x : Str) (u : Value) : Prop :=
 (env.kindOf x = some .local /\ m x = some u) \/ ((env.kindOf x = some .cell \/ env.kindOf x = some .free) /\ ∃ c, env.cells.lookup x = some c /\ h.IsCell c (some u))
structure Cx.Ok (X : Cx) : Prop where
 mod : Mod X.K X.mg X.base
 kind : X.env.scope.kind = .function
 glob : X.env.globals = mainGlobals
 blt : X.env.builtins = builtinsNs
 above : X.s₀.heap.objs.size <= X.env.locals
 inj : ∀ x y c, X.env.cells.lookup x = some c -> X.env.cells.lookup y = some c -> x = y
 has : ∀ x, (X.env.kindOf x = some .cell \/ X.env.kindOf x = some .free) -> ∃ c, X.env.cells.lookup x = some c
 cab : ∀ x c, X.fn x = true -> X.env.cells.lookup x = some c -> X.s₀.heap.objs.size <= c
 hd : X.calm = true -> X.A.handled = none
 frames : X.A.frames = some X.stack
 stk : X.stack = X.outer \/ (X.stack = X.env :: X.outer /\ X.env.frame = some X.env.locals)
 exf : ∀ b ∈ X.ex, b ≠ X.env.locals /\ ∀ x c, X.env.cells.lookup x = some c -> c ≠ b
 bs : ∀ b o, X.base.get? b = some o -> X.s₀.heap.get? b = some o /\ X.H₀ b = none
 bsz : X.base.objs.size <= X.s₀.heap.objs.size
 noex : ∀ b o, X.base.get? b = some o -> b ∉ X.ex
 exfs : ∀ b ∈ X.ex, b ∉ X.fs
 funs : X.s₀.heap.FunFrames X.base X.outer
 frf : ∀ b ∈ X.fs, X.H₀ b = none
structure Inv (X : Cx) (pins : List (Addr × Obj)) (σ : List (Option V)) (H : Hp) (s : Shared) : Prop where
 ok : X.Ok
 os : s.os = X.s₀.os
 bare : AllBare s.gens
 base : Un X.fs X.ex X.H₀ H X.s₀.heap s.heap
 loc : ∃ m, s.heap.Ns X.env.locals m /\ ∀ (i : Nat) (x : Str) (v : V), X.N[i]? = some x -> σ[i]? = some (some v) -> Vis X.env.scope x -> ∃ u, V0 v u /\ Look X.env s.heap m x u
 cell : ∀ x c, X.env.cells.lookup x = some c -> ∃ v, s.heap.IsCell c v
 free : H X.env.locals = none
 freeC : ∀ x c, X.env.cells.lookup x = some c -> H c = none
 pin : ∀ p ∈ X.pn ++ pins, s.heap.get? p.1 = some p.2 /\ H p.1 = none /\ p.1 ≠ X.env.locals /\ p.1 ∉ X.fs /\ ∀ v, p.2.data ≠ .cell v
 hok : HOk X.prog X.w H s.heap
 len : σ.length = X.N.length
section
variable {X : Cx} {pins : List (Addr × Obj)} {σ : List (Option V)} {H H' : Hp} {s : Shared} {h' : Heap}
theorem Cx.Ok.nofr (ok : X.Ok) {b : Addr} {o : Obj} (e : X.base.get? b = some o) : b ∉ X.fs := fun hb => by
 have := (ok.funs.mem hb).1
 rw [e] at this; cases this
theorem Inv.bs (I : Inv X pins σ H s) : ∀ b o, X.base.get? b = some o -> s.heap.get? b = some o /\ H b = none := fun b o e =>
 ⟨I.base.keep b o (I.ok.bs b o e).1 (I.ok.bs b o e).2 (I.ok.nofr e) (I.ok.noex b o e), I.base.free b o (I.ok.bs b o e).1 (I.ok.bs b o e).2 (I.ok.noex b o e)⟩
theorem Inv.bk (I : Inv X pins σ H s) : ∀ b o, X.base.get? b = some o -> s.heap.get? b = some o := fun b o e => (I.bs b o e).1
theorem Inv.mod (I : Inv X pins σ H s) : Mod X.K X.mg X.base := I.ok.mod
theorem Inv.kIn (I : Inv X pins σ H s) : X.K.In s.heap := I.ok.mod.kin.keeps I.bk
theorem Inv.lt (I : Inv X pins σ H s) : X.env.locals < s.heap.objs.size := let ⟨_, hn, _⟩ := I.loc; hn.lt
theorem Inv.sz (I : Inv X pins σ H s) : X.s₀.heap.objs.size <= s.heap.objs.size := Nat.le_trans I.ok.above (Nat.le_of_lt I.lt)
theorem Inv.nofs (I : Inv X pins σ H s) {a : Addr} (h : s.heap.objs.size <= a) : a ∉ X.fs := fun hb => by
 obtain ⟨_, o, ho, _⟩ := I.ok.funs.mem hb
 exact absurd (Nat.lt_of_lt_of_le (Heap.lt_size ho) (Nat.le_trans I.sz h)) (Nat.lt_irrefl _)
theorem Inv.cne (I : Inv X pins σ H s) : ∀ x c, X.env.cells.lookup x = some c -> c ≠ X.env.locals := fun x c e z => by
 obtain ⟨v, o, ho, hd⟩ := I.cell x c e
 obtain ⟨m, ⟨o', es, ep, ho', hd', _⟩, _⟩ := I.loc
 rw [z, ho'] at ho; cases ho; rw [hd'] at hd; cases hd
theorem Inv.funs (I : Inv X pins σ H s) : s.heap.FunFrames X.base X.outer := by
 have all : ∀ (l : List Env), (∀ b ∈ frs l, b ∈ X.fs) -> X.s₀.heap.FunFrames X.base l -> s.heap.FunFrames X.base l := by
   intro l
   induction l with
   | nil => intro _ _; trivial
   | cons env r ih =>
     intro hs hl
     obtain ⟨hk, ⟨L, o, hf, hn, ho, hd⟩, hr⟩ := hl
     have hL : L ∈ X.fs := hs L (by unfold frs; rw [List.filterMap_cons, hf]; exact List.mem_cons_self)
     obtain ⟨sl, e⟩ := I.base.slot L o ho (I.ok.frf L hL) hL fun z => I.ok.exfs L z hL
     exact ⟨hk, ⟨L, _, hf, hn, e, hd⟩, ih (fun b hb => hs b (by unfold frs; rw [List.filterMap_cons, hf]; exact List.mem_cons_of_mem _ hb)) hr⟩
 exact all X.outer (fun _ hb => hb) I.ok.funs
theorem Inv.stack (I : Inv X pins σ H s) : s.heap.FunFrames X.base X.stack := by
 rcases I.ok.stk with e | ⟨e, hf⟩
 . rw [e]; exact I.funs
 rw [e]
 obtain ⟨m, hn, _⟩ := I.loc
 refine .cons (by rw [I.ok.kind]; decide) hf hn ?_ I.funs
 exact Heap.get?_none_of_le (Nat.le_trans I.ok.bsz I.ok.above)
theorem Inv.stkSub (I : Inv X pins σ H s) : ∀ b ∈ frs X.stack, b ∈ X.env.locals :: X.fs := fun b hb => by
 rcases I.ok.stk with e | ⟨e, hf⟩
 . rw [e] at hb; exact List.mem_cons_of_mem _ hb
 . rw [e] at hb
   unfold frs at hb
   rw [List.filterMap_cons, hf] at hb
   exact hb
theorem Inv.stkFree (I : Inv X pins σ H s) : ∀ b ∈ frs X.stack, H b = none := fun b hb => by
 rcases List.mem_cons.mp (I.stkSub b hb) with e | hb
 . rw [e]; exact I.free
 . obtain ⟨_, o, ho, _⟩ := I.ok.funs.mem hb
   exact I.base.free b o ho (I.ok.frf b hb) fun z => I.ok.exfs b z hb
theorem Inv.step {g' : Array GenState} {t' : Nat} {d' : Drawn} {ch : List Addr} (I : Inv X pins σ H s)
   (hch : ∀ b ∈ ch, (b ∈ X.ex \/ X.s₀.heap.objs.size <= b) /\ b ≠ X.env.locals /\ (∀ x c, X.env.cells.lookup x = some c -> c ≠ b) /\ ∀ p ∈ X.pn ++ pins, p.1 ≠ b)
   (keep : ∀ b o, b ≠ X.env.locals -> b ∉ X.fs -> b ∉ ch -> s.heap.get? b = some o -> H b = none -> h'.get? b = some o)
   (slot : ∀ b o, b ≠ X.env.locals -> b ∈ X.fs -> b ∉ ch -> s.heap.get? b = some o -> H b = none -> ∃ sl, h'.get? b = some { o with slots := sl }) (free : ∀ b o, b ∉ ch -> s.heap.get? b = some o -> H b = none -> H' b = none)
   (there : ∀ b o, b ∉ ch -> s.heap.get? b = some o -> ∃ o', h'.get? b = some o')
   (tups : ∀ b xs, H b = some (.tup xs) -> H' b = some (.tup xs)) (frzs : ∀ b o u, H b = some (.frz o u) -> H' b = some (.frz o u)) (tbls : ∀ b ps, H b = some (.tbl ps) -> ∃ more, H' b = some (.tbl (ps ++ more)))
   (ns : ∀ m, s.heap.Ns X.env.locals m -> h'.Ns X.env.locals m) (hok : HOk X.prog X.w H' h') (hg : AllBare g') :
   Inv X pins σ H' { s with heap := h', gens := g', drawn := d', toks := t' } := by
 have neL : ∀ b o, X.s₀.heap.get? b = some o -> b ≠ X.env.locals := fun b o e => Nat.ne_of_lt (Nat.lt_of_lt_of_le (Heap.lt_size e) I.ok.above)
 have neC : ∀ b o, X.s₀.heap.get? b = some o -> b ∉ X.ex -> b ∉ ch := fun b o e hx hb => by
   rcases (hch b hb).1 with z | z
   . exact hx z
   . exact absurd (Nat.lt_of_lt_of_le (Heap.lt_size e) z) (Nat.lt_irrefl _)
 have cellK : ∀ x c, X.env.cells.lookup x = some c -> ∀ v, s.heap.IsCell c v -> h'.IsCell c v := fun x c e v ⟨o, ho, hd⟩ => by
   have nch : c ∉ ch := fun z => (hch c z).2.2.1 x c e rfl
   by_cases hc : c ∈ X.fs
   . obtain ⟨sl, q⟩ := slot c o (I.cne x c e) hc nch ho (I.freeC x c e)
     exact ⟨_, q, hd⟩
   . exact ⟨o, keep c o (I.cne x c e) hc nch ho (I.freeC x c e), hd⟩
 refine ⟨I.ok, I.os, hg, ⟨fun b o e n hb hx => ?_, fun b o e n hb hx => ?_, fun b o e n hx => ?_, fun b o e hx => ?_, fun b xs e => tups b xs (I.base.tups b xs e), fun b o xs e => frzs b o xs (I.base.frzs b o xs e), fun b ps e => ?_⟩, ?_, fun x c e => ?_, ?_, fun x c e => ?_, fun p hp => ?_, hok, I.len⟩
 . exact keep b o (neL b o e) hb (neC b o e hx) (I.base.keep b o e n hb hx) (I.base.free b o e n hx)
 . obtain ⟨sl, e1⟩ := I.base.slot b o e n hb hx
   obtain ⟨sl', e2⟩ := slot b _ (neL b o e) hb (neC b o e hx) e1 (I.base.free b o e n hx)
   exact ⟨sl', e2⟩
 . obtain ⟨o', e1⟩ := I.base.there b o e hx
   exact free b o' (neC b o e hx) e1 (I.base.free b o e n hx)
 . obtain ⟨o', e1⟩ := I.base.there b o e hx
   exact there b o' (neC b o e hx) e1
 . obtain ⟨m1, e1⟩ := I.base.tbls b ps e
   obtain ⟨m2, e2⟩ := tbls b _ e1
   exact ⟨m1 ++ m2, by rw [e2, Array.append_assoc]⟩
 . obtain ⟨m, hn, hl⟩ := I.loc
   refine ⟨m, ns m hn, fun i x v e1 e2 e3 => ?_⟩
   obtain ⟨u, r, l⟩ := hl i x v e1 e2 e3
   refine ⟨u, r, ?_⟩
   rcases l with l | ⟨k, c, e, z⟩
   . exact .inl l
   . exact .inr ⟨k, c, e, cellK x c e _ z⟩
 . obtain ⟨v, z⟩ := I.cell x c e
   exact ⟨v, cellK x c e v z⟩
 . obtain ⟨m, ⟨o, _, _, ho, _⟩, _⟩ := I.loc
   exact free _ o (fun z => (hch _ z).2.1 rfl) ho I.free
 . obtain ⟨v, o, ho, hd⟩ := I.cell x c e
   exact free c o (fun z => (hch c z).2.2.1 x c e rfl) ho (I.freeC x c e)
 obtain ⟨e, n, ne, nf, d⟩ := I.pin p hp
 have nch : p.1 ∉ ch := fun z => (hch p.1 z).2.2.2 p hp rfl
 exact ⟨keep p.1 p.2 ne nf nch e n, free p.1 p.2 nch e n, ne, nf, d⟩
theorem Inv.un {t' : Nat} (I : Inv X pins σ H s) (u : Un X.fs [] H H' s.heap h') (hok : HOk X.prog X.w H' h') : Inv X pins σ H' { s with heap := h', toks := t' } := by
 obtain ⟨m, ⟨o, es, ep, ho, r⟩, _⟩ := id I.loc
 obtain ⟨sl, hL⟩ := u.any ho I.free (by simp)
 exact I.step (g' := s.gens) (d' := s.drawn) (ch := []) (fun _ z => nomatch z) (fun b o _ hb _ e n => u.keep b o e n hb (by simp)) (fun b o _ hb _ e n => u.slot b o e n hb (by simp)) (fun b o _ e n => u.free b o e n (by simp)) (fun b o _ e => u.there b o e (by simp)) u.tups u.frzs u.tbls (fun m' hm => by
   obtain ⟨o', es', ep', ho', r'⟩ := hm
   rw [ho] at ho'; cases ho'
   exact ⟨_, es', ep', hL, r'⟩) hok I.bare
theorem Inv.call {g' : Array GenState} {t' : Nat} {d' : Drawn} {ch : List Addr} (I : Inv X pins σ H s) (u : Un (frs X.stack) ch H H' s.heap h') (hok : HOk X.prog X.w H' h') (hg : AllBare g')
   (hch : ∀ b ∈ ch, (b ∈ X.ex \/ X.s₀.heap.objs.size <= b) /\ b ≠ X.env.locals /\ (∀ x c, X.env.cells.lookup x = some c -> c ≠ b) /\ ∀ p ∈ X.pn ++ pins, p.1 ≠ b) :
   Inv X pins σ H' { s with heap := h', gens := g', drawn := d', toks := t' } := by
 obtain ⟨m, ⟨o, es, ep, ho, r⟩, _⟩ := id I.loc
 obtain ⟨sl, hL⟩ := u.any ho I.free fun z => (hch _ z).2.1 rfl
 exact I.step (ch := ch) hch (fun b o hL hb hc e n => u.keep b o e n (fun z => (List.mem_cons.mp (I.stkSub b z)).elim hL hb) hc) (fun b o _ _ hc e n => u.any e n hc) (fun b o hc e n => u.free b o e n hc) (fun b o hc e => u.there b o e hc) u.tups u.frzs u.tbls (fun m' hm => by
   obtain ⟨o', es', ep', ho', r'⟩ := hm
   rw [ho] at ho'; cases ho'
   exact ⟨_, es', ep', hL, r'⟩) hok hg
theorem Inv.turned {t' : Nat} {it : Addr} (I : Inv X pins σ H s) (k : ∀ b o, b ≠ it -> s.heap.get? b = some o -> h'.get? b = some o) (hn : H it = none) (hL : it ≠ X.env.locals)
   (h1 : it ∈ X.ex \/ X.s₀.heap.objs.size <= it) (h2 : ∀ x c, X.env.cells.lookup x = some c -> c ≠ it) (h3 : ∀ p ∈ X.pn ++ pins, p.1 ≠ it) : Inv X pins σ H { s with heap := h', toks := t' } := by
 have nit : ∀ b u, H b = some u -> b ≠ it := fun b u e z => by rw [z, hn] at e; cases e
 refine I.step (g' := s.gens) (d' := s.drawn) (ch := [it]) (fun b hb => ?_) (fun b o _ _ hc e _ => k b o (fun z => hc (by simp [z])) e) (fun b o _ _ hc e _ => ⟨o.slots, k b o (fun z => hc (by simp [z])) e⟩) (fun _ _ _ _ n => n)
   (fun b o hc e => ⟨o, k b o (fun z => hc (by simp [z])) e⟩) (fun _ _ e => e) (fun _ _ _ e => e) (fun b ps e => ⟨#[], by rw [e]; simp⟩) (fun m hm => ?_) (fun b u e => ?_) I.bare
 . have e : b = it := by simpa using hb
   subst e
   exact ⟨h1, hL, h2, h3⟩
 . obtain ⟨o, es, ep, ho, r⟩ := hm
   exact ⟨o, es, ep, k _ o (Ne.symm hL) ho, r⟩
 refine (I.hok b u e).stay (fun c v hc q => k c v ?_ q) (fun _ q => q) fun _ _ q => q
 rcases hc with z | z
 . rw [z]; exact nit b u e
 exact nit c _ z
theorem Inv.tok (I : Inv X pins σ H s) (t : Nat) : Inv X pins σ H { s with toks := t } := I.un (h' := s.heap) (t' := t) Un.refl I.hok
theorem Inv.kept {t' : Nat} (I : Inv X pins σ H s) (k : ∀ b u, s.heap.get? b = some u -> h'.get? b = some u) : Inv X pins σ H { s with heap := h', toks := t' } := I.un (Un.kept k) (I.hok.kept k)
theorem Inv.laid {a : Addr} {o : HO} {t' : Nat} (I : Inv X pins σ H s) (k : ∀ b u, s.heap.get? b = some u -> h'.get? b = some u) (hp : s.heap.objs.size <= a) (new : A0g X.prog X.w (upd H a o) h' a o) :
   Inv X pins σ (upd H a o) { s with heap := h', toks := t' } := I.un (Un.laid k hp (I.hok.fresh hp)) (I.hok.laid k hp new)
theorem Inv.write {x e : Addr} {o : HO} {t' : Nat} (I : Inv X pins σ H s) (mu : Mut (H x)) (he : e = x \/ H e = some (.own x)) (k : ∀ b u, b ≠ e -> s.heap.get? b = some u -> h'.get? b = some u) (heo : ∃ u, h'.get? e = some u)
   (new : A0g X.prog X.w (upd H x o) h' x o) : Inv X pins σ (upd H x o) { s with heap := h', toks := t' } := I.un (Un.write mu he k heo) (I.hok.write mu he k heo new)
theorem Inv.weak {σ' : List (Option V)} (I : Inv X pins σ H s) (hl : σ'.length = σ.length) (w : ∀ (i : Nat) v, σ'[i]? = some (some v) -> σ[i]? = some (some v)) : Inv X pins σ' H s :=
 ⟨I.ok, I.os, I.bare, I.base, let ⟨m, hn, hl'⟩ := I.loc; ⟨m, hn, fun i x v e1 e2 e3 => hl' i x v e1 (w i v e2) e3⟩, I.cell, I.free, I.freeC, I.pin, I.hok, hl.trans I.len⟩
theorem Inv.pins_of {pins' : List (Addr × Obj)} (I : Inv X pins σ H s) (h : ∀ p ∈ pins', s.heap.get? p.1 = some p.2 /\ H p.1 = none /\ p.1 ≠ X.env.locals /\ p.1 ∉ X.fs /\ ∀ v, p.2.data ≠ .cell v) : Inv X pins' σ H s :=
 ⟨I.ok, I.os, I.bare, I.base, I.loc, I.cell, I.free, I.freeC, fun p hp => (List.mem_append.mp hp).elim (fun z => I.pin p (List.mem_append_left _ z)) (h p), I.hok, I.len⟩
theorem J4p {N : List Str} (hN : N.Nodup) {i j : Nat} {x : Str} (a : N[i]? = some x) (b : N[j]? = some x) : i = j := by
 obtain ⟨h1, e1⟩ := List.getElem?_eq_some_iff.mp a
 obtain ⟨h2, e2⟩ := List.getElem?_eq_some_iff.mp b
 exact (List.getElem_inj hN).mp (e1.trans e2.symm)
theorem D9a {M : Model} {A : Around} {E : Value -> Shared -> Prop} {i : Nat} {x : Str} {v : V} {u : Value} {Q : Unit -> Shared -> Prop} (I : Inv X pins σ H s) (hN : X.N.Nodup) (hi : X.N[i]? = some x) (hx : Loc X.env.scope x) (r : V0 v u)
   (h : ∀ s', Inv X pins (σ.set i (some v)) H s' -> (∃ a, Heap.SameBut a s.heap s'.heap /\ (a = X.env.locals \/ X.env.cells.lookup x = some a)) -> Q () s') (hf : X.fn x = true \/ X.env.scope.names.lookup x = some .local := by first | exact .inl rfl | exact .inr rfl | assumption) : wpAny M A (storeName X.env x u) Q E s := by
 obtain ⟨m, hn, hl⟩ := id I.loc
 have hcls : (X.env.scope.kind == .class || (X.env.scope.kind == .module && X.env.locals != X.env.globals)) = false := by rw [I.ok.kind]; rfl
 have hiσ : i < σ.length := by rw [I.len]; exact (List.getElem?_eq_some_iff.mp hi).1
 have cne := I.cne
 have tracked : ∀ {a : Addr} {h' : Heap}, (∃ o, s.heap.get? a = some o /\ H a = none) -> Heap.SameBut a s.heap h' -> HOk X.prog X.w H h' := fun {a h'} ha hs b ob e => by
   obtain ⟨_, _, hfree⟩ := ha
   refine (I.hok b ob e).stay (fun c w' hc q => (hs.2 c ?_).trans q) (fun _ q => q) fun _ _ q => q
   rintro rfl
   rcases hc with rfl | hc
   . rw [hfree] at e; cases e
   . rw [hfree] at hc; cases hc
 rcases hx with hk | hk
 . refine wpAny_storeName_local hk hn (fun h' hn' hs => ?_) hcls
   obtain ⟨oL, _, _, hoL, _⟩ := id hn
   refine h _ ⟨I.ok, I.os, I.bare, ⟨fun b o e n hb hx => ?_, fun b o e n hb hx => ?_, I.base.free, fun b o e hx => ?_, I.base.tups, I.base.frzs, I.base.tbls⟩, ⟨_, hn', fun j y v' e1 e2 e3 => ?_⟩, fun y c e => ?_, I.free, I.freeC, fun p hp => ?_, tracked ⟨oL, hoL, I.free⟩ hs, by simpa using I.len⟩ ⟨_, hs, .inl rfl⟩
   . exact (hs.2 b (Nat.ne_of_lt (Nat.lt_of_lt_of_le (Heap.lt_size e) I.ok.above))).trans (I.base.keep b o e n hb hx)
   . obtain ⟨sl, e1⟩ := I.base.slot b o e n hb hx
     exact ⟨sl, (hs.2 b (Nat.ne_of_lt (Nat.lt_of_lt_of_le (Heap.lt_size e) I.ok.above))).trans e1⟩
   . obtain ⟨o', e1⟩ := I.base.there b o e hx
     exact ⟨o', (hs.2 b (Nat.ne_of_lt (Nat.lt_of_lt_of_le (Heap.lt_size e) I.ok.above))).trans e1⟩
   . by_cases hj : j = i
     . subst hj
       rw [hi] at e1; cases e1
       rw [List.getElem?_set_self hiσ] at e2
       cases e2
       exact ⟨u, r, .inl ⟨hk, by simp⟩⟩
     . rw [List.getElem?_set_ne (Ne.symm hj)] at e2
       obtain ⟨u', r', q⟩ := hl j y v' e1 e2 e3
       refine ⟨u', r', ?_⟩
       rcases q with ⟨k, e⟩ | ⟨k, c, e, z⟩
       . refine .inl ⟨k, ?_⟩
         have : y ≠ x := fun e => hj (J4p hN e1 (e ▸ hi))
         simp [this, e]
       . exact .inr ⟨k, c, e, z.sameBut hs (cne y c e)⟩
   . obtain ⟨w', z⟩ := I.cell y c e
     exact ⟨w', z.sameBut hs (cne y c e)⟩
   . obtain ⟨e, n, ne, nf, d⟩ := I.pin p hp
     exact ⟨(hs.2 p.1 ne).trans e, n, ne, nf, d⟩
 have hfn : X.fn x = true := by
   rcases hf with z | z
   . exact z
   . rw [z] at hk; cases hk
 obtain ⟨c, hc⟩ := I.ok.has x (.inl hk)
 obtain ⟨w', z⟩ := I.cell x c hc
 refine wpAny_storeName_cell I.ok.kind hk hc z (fun h' hc' hs => ?_)
 obtain ⟨oc, hoc, hocd⟩ := id z
 refine h { s with heap := h' } ⟨I.ok, I.os, I.bare, ⟨fun b o e n hb hx => ?_, fun b o e n hb hx => ?_, I.base.free, fun b o e hx => ?_, I.base.tups, I.base.frzs, I.base.tbls⟩, ⟨m, hn.sameBut hs (Ne.symm (cne x c hc)), fun j y v' e1 e2 e3 => ?_⟩, fun y c' e => ?_, I.free, I.freeC, fun p hp => ?_, tracked ⟨oc, hoc, I.freeC x c hc⟩ hs, by simpa using I.len⟩ ⟨c, hs, .inr hc⟩
 . exact (hs.2 b (Nat.ne_of_lt (Nat.lt_of_lt_of_le (Heap.lt_size e) (I.ok.cab x c hfn hc)))).trans (I.base.keep b o e n hb hx)
 . obtain ⟨sl, e1⟩ := I.base.slot b o e n hb hx
   exact ⟨sl, (hs.2 b (Nat.ne_of_lt (Nat.lt_of_lt_of_le (Heap.lt_size e) (I.ok.cab x c hfn hc)))).trans e1⟩
 . obtain ⟨o', e1⟩ := I.base.there b o e hx
   exact ⟨o', (hs.2 b (Nat.ne_of_lt (Nat.lt_of_lt_of_le (Heap.lt_size e) (I.ok.cab x c hfn hc)))).trans e1⟩
 . by_cases hj : j = i
   . subst hj
     rw [hi] at e1; cases e1
     rw [List.getElem?_set_self hiσ] at e2
     cases e2
     exact ⟨u, r, .inr ⟨.inl hk, c, hc, hc'⟩⟩
   . rw [List.getElem?_set_ne (Ne.symm hj)] at e2
     obtain ⟨u', r', q⟩ := hl j y v' e1 e2 e3
     refine ⟨u', r', ?_⟩
     rcases q with q | ⟨k, c', e, z'⟩
     . exact .inl q
     . refine .inr ⟨k, c', e, z'.sameBut hs ?_⟩
       rintro rfl
       exact hj (J4p hN e1 (I.ok.inj _ _ _ e hc ▸ hi))
 . by_cases hcc : c' = c
   . subst hcc; exact ⟨_, hc'⟩
   . obtain ⟨w2, z2⟩ := I.cell y c' e
     exact ⟨w2, z2.sameBut hs hcc⟩
 obtain ⟨e, n, ne, nf, d⟩ := I.pin p hp
 refine ⟨(hs.2 p.1 ?_).trans e, n, ne, nf, d⟩
 intro q
 rw [q, hoc] at e
 have q' : oc = p.2 := Option.some.inj e
 exact d w' (by rw [<- q']; exact hocd)
theorem B1g {M : Model} {A : Around} {E : Value -> Shared -> Prop} {i : Nat} {x : Str} {v : V} {u : Value} {Q : Unit -> Shared -> Prop} (I : Inv X pins σ H s) (hN : X.N.Nodup) (hi : X.N[i]? = some x) (hx : Loc X.env.scope x) (r : V0 v u)
   (h : ∀ s', Inv X pins (σ.set i (some v)) H s' -> Q () s') (hf : X.fn x = true \/ X.env.scope.names.lookup x = some .local := by first | exact .inl rfl | exact .inr rfl | assumption) : wpAny M A (storeName X.env x u) Q E s :=
 D9a I hN hi hx r (fun s' I' _ => h s' I') hf
theorem Inv.call' {s' : Shared} {ch : List Addr} (I : Inv X pins σ H s) (ho : s'.os = s.os) (u : Un (frs X.stack) ch H H' s.heap s'.heap) (hok : HOk X.prog X.w H' s'.heap) (hg : AllBare s'.gens)
   (hch : ∀ b ∈ ch, (b ∈ X.ex \/ X.s₀.heap.objs.size <= b) /\ b ≠ X.env.locals /\ (∀ x c, X.env.cells.lookup x = some c -> c ≠ b) /\ ∀ p ∈ X.pn ++ pins, p.1 ≠ b) : Inv X pins σ H' s' := by
 obtain ⟨h', g', d', t', o'⟩ := s'
 have e : o' = s.os := ho
 subst e
 exact I.call (g' := g') (t' := t') (d' := d') u hok hg hch
end
abbrev XK := Value -> Option Addr -> Hp -> Prop
abbrev St := List (Option V)
abbrev VK := V -> Hp -> Prop
abbrev TE := St -> Hp -> VK -> Prop
abbrev TT := St -> Hp -> (Bool -> Hp -> Prop) -> Prop
abbrev TA := St -> Hp -> (List V -> Hp -> Prop) -> Prop
structure J5m where
 nx : St -> Hp -> Prop
 rt : VK
 bk : St -> Hp -> Prop := fun _ _ => False
 ct : St -> Hp -> Prop := fun _ _ => False
abbrev TS := J5m -> St -> Hp -> Prop
def EP (X : Cx) (pins : List (Addr × Obj)) (σ : St) (Q : VK) (u : Value) (s' : Shared) : Prop := ∃ v H', Inv X pins σ H' s' /\ V0 v u /\ Q v H'
def TP (X : Cx) (pins : List (Addr × Obj)) (σ : St) (Q : Bool -> Hp -> Prop) (b : Bool) (s' : Shared) : Prop := ∃ H', Inv X pins σ H' s' /\ Q b H'
def AP (X : Cx) (pins : List (Addr × Obj)) (σ : St) (Q : List V -> Hp -> Prop) (us : List Value) (s' : Shared) : Prop := ∃ vs H', Inv X pins σ H' s' /\ U2 vs us /\ Q vs H'
def SP (X : Cx) (pins : List (Addr × Obj)) (D : J5m) (f : Flow) (s' : Shared) : Prop :=
 match f with
 | .next => ∃ σ' H', Inv X pins σ' H' s' /\ D.nx σ' H'
 | .brk => ∃ σ' H', Inv X pins σ' H' s' /\ D.bk σ' H'
 | .cont => ∃ σ' H', Inv X pins σ' H' s' /\ D.ct σ' H'
 | .ret u => ∃ v σ' H', Inv X pins σ' H' s' /\ V0 v u /\ D.rt v H'
def PE (X : Cx) (e : Expr) (t : TE) : Prop :=
 ∀ (pins : List (Addr × Obj)) (s : Shared) (σ : St) (H : Hp) (Q : VK), Inv X pins σ H s -> t σ H Q -> wpAny (model X.prog X.w) X.A (eval e X.env) (EP X pins σ Q) X.xe s
def PT (X : Cx) (e : Expr) (t : TT) : Prop :=
 ∀ (pins : List (Addr × Obj)) (s : Shared) (σ : St) (H : Hp) (Q : Bool -> Hp -> Prop), Inv X pins σ H s -> t σ H Q -> wpAny (model X.prog X.w) X.A (isTrue e X.env (eval e X.env)) (TP X pins σ Q) X.xe s
def PW (X : Cx) (e : Expr) (t : TT) : Prop :=
 ∀ (whole : Sem Value) (pins : List (Addr × Obj)) (s : Shared) (σ : St) (H : Hp) (Q : Bool -> Hp -> Prop), Inv X pins σ H s -> t σ H Q -> wpAny (model X.prog X.w) X.A (isTrue e X.env whole) (TP X pins σ Q) X.xe s
theorem PW.pt {X : Cx} {e : Expr} {t : TT} (h : PW X e t) : PT X e t := h _
def PA (X : Cx) (es : List Expr) (t : TA) : Prop :=
 ∀ (pos : Pos) (pins : List (Addr × Obj)) (s : Shared) (σ : St) (H : Hp) (Q : List V -> Hp -> Prop), Inv X pins σ H s -> t σ H Q -> wpAny (model X.prog X.w) X.A (spliced (backTo pos (starEach es X.env))) (AP X pins σ Q) X.xe s
def PS (X : Cx) (st : Stmt) (t : TS) : Prop :=
 ∀ (pins : List (Addr × Obj)) (s : Shared) (σ : St) (H : Hp) (D : J5m), Inv X pins σ H s -> t D σ H -> wpAny (model X.prog X.w) X.A (exec st X.env) (SP X pins D) X.xe s
def PSs (X : Cx) (st : List Stmt) (t : TS) : Prop :=
 ∀ (pins : List (Addr × Obj)) (s : Shared) (σ : St) (H : Hp) (D : J5m), Inv X pins σ H s -> t D σ H -> wpAny (model X.prog X.w) X.A (execs st X.env) (SP X pins D) X.xe s
theorem thn {α : Type} {t : Sem α} {Q Q' : α -> Shared -> Prop} {M : Model} {A : Around} {E : Value -> Shared -> Prop} {s : Shared} (h : wpAny M A t Q E s) (hQ : ∀ a s, Q a s -> Q' a s) : wpAny M A t Q' E s := wpAny_mono h hQ fun _ _ x => x
section
variable {X : Cx}
def tVar (i : Nat) : TE := fun σ H Q => ∃ v, σ[i]? = some (some v) /\ Q v H
def tC (v : V) : TE := fun _ H Q => Q v H
theorem A0rr {i : Nat} {x : Str} {pos : Pos} (hN : X.N[i]? = some x) (hv : Vis X.env.scope x) (hd : (x == ("__debug__" : Str)) = false := by decide) (hcd : (x == ("__classdict__" : Str)) = false := by decide) : PE X (.Name x pos) (tVar i) := by
 intro pins s σ H Q I h
 obtain ⟨v, e, h⟩ := h
 obtain ⟨m, hn, hl⟩ := I.loc
 obtain ⟨u, r, l⟩ := hl i x v hN e hv
 have fin : EP X pins σ Q u s := ⟨v, H, I, r, h⟩
 rcases l with ⟨hk, hm⟩ | ⟨hk, c, hc, hcell⟩
 . exact wpAny_Name (wpAny_loadName_local I.ok.kind hk hn hm fin) hd
 rcases hk with hk | hk
 . exact wpAny_Name (wpAny_loadName_cell I.ok.kind hk hc hcell fin) hd
 exact wpAny_Name (wpAny_loadName_free I.ok.kind hk hc hcell fin hcd) hd
theorem A1 {i j pos} : PE X (.Constant (.int i) j pos) (tC (.int i)) := fun _ _ _ H _ I h => wpAny_Constant_int ⟨.int i, H, I.tok _, ⟨_, rfl⟩, h⟩
theorem A3k {b j pos} : PE X (.Constant (.bool b) j pos) (tC (.bl b)) := fun _ _ _ H _ I h => Constant_bool ⟨.bl b, H, I, rfl, h⟩
theorem A0tf {j pos} : PE X (.Constant .none j pos) (tC .non) := fun _ _ _ H _ I h => Constant_none ⟨.non, H, I, rfl, h⟩
theorem D5 {x j pos} : PE X (.Constant (.str x) j pos) (tC (.str x)) := fun _ _ _ H _ I h => Calls.Constant_str ⟨.str x, H, I.tok _, ⟨_, rfl⟩, h⟩
def Gl (X : Cx) (x : Str) : Prop := X.env.kindOf x = some .globalImplicit
theorem A3m {E : Value -> Shared -> Prop} {pins : List (Addr × Obj)} {s : Shared} {σ : St} {H : Hp} {x : Str} {u : Value} {pos : Pos} {Q : Value -> Shared -> Prop} (I : Inv X pins σ H s) (hg : Gl X x) (hm : X.mg x = some u) (h : Q u s)
   (hd : (x == ("__debug__" : Str)) = false := by decide) : wpAny (model X.prog X.w) X.A (eval (.Name x pos) X.env) Q E s :=
 Calls.Name_function_global I.ok.kind hg (Calls.loadGlobal_global (by rw [I.ok.glob]; exact I.mod.glob.keeps I.bk) hm h) hd
theorem G1x {E : Value -> Shared -> Prop} {pins : List (Addr × Obj)} {s : Shared} {σ : St} {H : Hp} {x : Str} {u : Value} {pos : Pos} {Q : Value -> Shared -> Prop} (I : Inv X pins σ H s) (hg : Gl X x) (hm : X.mg x = none) (hv : bootBuiltins x = some u) (h : Q u s)
   (hn : x ≠ "__name__" := by decide) (hd : (x == ("__debug__" : Str)) = false := by decide) : wpAny (model X.prog X.w) X.A (eval (.Name x pos) X.env) Q E s := by
 obtain ⟨mb, h1, h2⟩ := I.mod.blt
 exact Calls.Name_function_global I.ok.kind hg (Calls.loadGlobal_builtin (by rw [I.ok.glob]; exact I.mod.glob.keeps I.bk) hm (by rw [I.ok.blt]; exact h1.keeps I.bk) ((h2 x hn).trans hv) h) hd
theorem A0jv {x : Str} {v : V} {u : Value} {pos : Pos} (hg : Gl X x) (hm : X.mg x = some u) (r : V0 v u) (hd : (x == ("__debug__" : Str)) = false := by decide) : PE X (.Name x pos) (tC v) :=
 fun _ _ _ H _ I h => A3m I hg hm ⟨v, H, I, r, h⟩ hd
theorem A0gf {x : Str} {v : V} {u : Value} {pos : Pos} (hg : Gl X x) (hm : X.mg x = none) (hv : bootBuiltins x = some u) (r : V0 v u) (hn : x ≠ "__name__" := by decide) (hd : (x == ("__debug__" : Str)) = false := by decide) : PE X (.Name x pos) (tC v) :=
 fun _ _ _ H _ I h => G1x I hg hm hv ⟨v, H, I, r, h⟩ hn hd
variable {a b : Expr} {ta tb : TE} {pos : Pos}
def tB (t : TE) : TT := fun σ H Q => t σ H fun x H1 => ∃ c, x = .bl c /\ Q c H1
theorem Y2 {e : Expr} {t : TE} (h : PE X e t) (he : ∀ whole, isTrue e X.env whole = (do let v <- whole; standAt e.pos; holding [v] (truthy v)) := by intro _; rfl) : PT X e (tB t) := by
 intro pins s σ H Q I hw
 refine isTrue_plain (thn (h pins s σ H _ I hw) fun v s1 ⟨x, H1, I1, r1, q1⟩ => ?_) (he _)
 obtain ⟨d, rfl, q⟩ := q1
 cases r1
 exact wpAny_truthy_bool ⟨H1, I1, q⟩
variable {tA tB' : TT} {rest : List Expr}
def tAnd (t u : TT) : TT := fun σ H Q => t σ H fun c H1 => if c = true then u σ H1 Q else Q false H1
def tOr (t u : TT) : TT := fun σ H Q => t σ H fun c H1 => if c = true then Q true H1 else u σ H1 Q
def tNot (t : TT) : TT := fun σ H Q => t σ H fun c H1 => Q (!c) H1
theorem B5v (ha : PT X a tA) : PW X (.BoolOp .And [a] pos) tA := by
 intro wh pins s σ H Q I h
 refine isTrue_and (thn (ha pins s σ H Q I h) fun c s1 e => ?_)
 cases c with
 | true => exact isTrue_and_nil e
 | false => exact e
theorem C1h (ha : PT X a tA) : PW X (.BoolOp .Or [a] pos) tA := by
 intro wh pins s σ H Q I h
 refine isTrue_or (thn (ha pins s σ H Q I h) fun c s1 e => ?_)
 cases c with
 | false => exact isTrue_or_nil e
 | true => exact e
theorem C1u (ha : PT X a tA) (hb : PW X (.BoolOp .And (b :: rest) pos) tB') : PW X (.BoolOp .And (a :: b :: rest) pos) (tAnd tA tB') := by
 intro wh pins s σ H Q I h
 refine isTrue_and (thn (ha pins s σ H _ I h) fun c s1 ⟨H1, I1, q1⟩ => ?_)
 cases c with
 | true => exact hb wh pins s1 σ H1 Q I1 q1
 | false => exact ⟨H1, I1, q1⟩
theorem D9j (ha : PT X a tA) (hb : PW X (.BoolOp .Or (b :: rest) pos) tB') : PW X (.BoolOp .Or (a :: b :: rest) pos) (tOr tA tB') := by
 intro wh pins s σ H Q I h
 refine isTrue_or (thn (ha pins s σ H _ I h) fun c s1 ⟨H1, I1, q1⟩ => ?_)
 cases c with
 | true => exact ⟨H1, I1, q1⟩
 | false => exact hb wh pins s1 σ H1 Q I1 q1
theorem A4g (ha : PT X a tA) : PT X (.UnaryOp .Not a pos) (tNot tA) := by
 intro pins s σ H Q I h
 exact isTrue_not (ha pins s σ H (fun c H1 => Q (!c) H1) I h)
def A0xh (ta tb : TE) : TE := fun σ H Q => ta σ H fun x H1 => ∃ c, x = .bl c /\ if c = true then tb σ H1 Q else Q (.bl false) H1
def tOrV (ta tb : TE) : TE := fun σ H Q => ta σ H fun x H1 => ∃ c, x = .bl c /\ if c = true then Q (.bl true) H1 else tb σ H1 Q
theorem A6d {op} {t : TE} (h : PE X a t) : PE X (.BoolOp op [a] pos) t := fun pins s σ H Q I hw => BoolOp_one (h pins s σ H Q I hw)
theorem B1x (ha : PE X a ta) (hb : PE X (.BoolOp .And (b :: rest) pos) tb) : PE X (.BoolOp .And (a :: b :: rest) pos) (A0xh ta tb) := by
 intro pins s σ H Q I h
 refine BoolOp_and (thn (ha pins s σ H _ I h) fun v s1 ⟨x, H1, I1, r1, q1⟩ => ?_)
 obtain ⟨c, rfl, q1⟩ := q1
 cases r1
 refine wpAny_truthy_bool ?_
 cases c with
 | true => exact hb pins s1 σ H1 Q I1 q1
 | false => exact ⟨.bl false, H1, I1, rfl, q1⟩
theorem V2x (ha : PE X a ta) (hb : PE X (.BoolOp .Or (b :: rest) pos) tb) : PE X (.BoolOp .Or (a :: b :: rest) pos) (tOrV ta tb) := by
 intro pins s σ H Q I h
 refine BoolOp_or (thn (ha pins s σ H _ I h) fun v s1 ⟨x, H1, I1, r1, q1⟩ => ?_)
 obtain ⟨c, rfl, q1⟩ := q1
 cases r1
 refine wpAny_truthy_bool ?_
 cases c with
 | false => exact hb pins s1 σ H1 Q I1 q1
 | true => exact ⟨.bl true, H1, I1, rfl, q1⟩
def tIf (t : TT) (ta tb : TE) : TE := fun σ H Q => t σ H fun c H1 => if c = true then ta σ H1 Q else tb σ H1 Q
theorem V5 {c : Expr} (hc : PT X c tA) (ha : PE X a ta) (hb : PE X b tb) : PE X (.IfExp c a b pos) (tIf tA ta tb) := by
 intro pins s σ H Q I h
 refine wpAny_IfExp (thn (hc pins s σ H _ I h) fun d s1 ⟨H1, I1, q1⟩ => ?_)
 cases d with
 | true => exact ha pins s1 σ H1 Q I1 q1
 | false => exact hb pins s1 σ H1 Q I1 q1
end
def SqL (K : PySem.W.Frag) (H : Hp) (a : Addr) (xs : List V) : Prop :=
 Rd H a (.lst xs) \/
   ∃ (o : Obj) (its : Array Value) (n : Nat), K.lookup a = some o /\ o.cls = .type "list" /\ o.dict = none /\ o.data = .seq its n /\ its.size <= sizeLine /\ U2 xs its.toList
def SqT (K : PySem.W.Frag) (H : Hp) (a : Addr) (xs : List V) : Prop :=
 Rd H a (.tup xs) \/
   ∃ (o : Obj) (its : Array Value) (n : Nat), K.lookup a = some o /\ o.cls = .type "tuple" /\ o.data = .seq its n /\ its.size <= sizeLine /\ U2 xs its.toList
def absV : Value -> Option V
 | .none => some .non
 | .bool b => some (.bl b)
 | .int i _ => some (.int i)
 | .str x _ => some (.str x)
 | .bytes b _ => some (.byt b)
 | .float b _ => some (.flt b)
 | .ref a => some (.ref a)
 | .type n => some (.ty n)
 | _ => none
theorem V0.abs {x : V} {u : Value} (r : V0 x u) : absV u = some x := by
 cases x with
 | non => cases r; rfl
 | bl _ => cases r; rfl
 | int _ => obtain ⟨t, rfl⟩ := r; rfl
 | str _ => obtain ⟨t, rfl⟩ := r; rfl
 | byt _ => obtain ⟨t, rfl⟩ := r; rfl
 | flt _ => obtain ⟨t, rfl⟩ := r; rfl
 | ref _ => cases r; rfl
 | ty _ => cases r; rfl
theorem V0.inj {x y : V} {u : Value} (r : V0 x u) (q : V0 y u) : x = y := Option.some.inj (r.abs.symm.trans q.abs)
theorem U2.inj : ∀ {xs ys : List V} {us : List Value}, U2 xs us -> U2 ys us -> xs = ys
 | _, _, _, .nil, .nil => rfl
 | _, _, _, .cons r t, .cons r' t' => by rw [r.inj r', U2.inj t t']
section
variable {X : Cx} {pins : List (Addr × Obj)} {σ : St} {H : Hp} {s : Shared} {a : Addr} {xs ys : List V}
theorem SqL.of {K : PySem.W.Frag} (h : H a = some (.lst xs)) : SqL K H a xs := .inl (.inl h)
theorem SqT.of {K : PySem.W.Frag} (h : H a = some (.tup xs)) : SqT K H a xs := .inl (.inl h)
theorem Inv.list (I : Inv X pins σ H s) (h : SqL X.K H a xs) : ∃ its : List Value, U2 xs its /\ PlainL s.heap a its.toArray /\ xs.length <= sizeLine := by
 rcases h with h | ⟨o, its, n, hk, hc, hd, hs, hz, r⟩
 . obtain ⟨z, its, n, r, e⟩ := h.ok I.hok
   exact ⟨its, r, ⟨_, n, e, rfl, rfl, rfl⟩, z⟩
 refine ⟨its.toList, r, ⟨o, n, I.kIn a o hk, hc, hd, by simpa using hs⟩, ?_⟩
 have e := r.length
 simp only [Array.length_toList] at e
 omega
theorem Inv.tuple (I : Inv X pins σ H s) (h : SqT X.K H a xs) : ∃ its : List Value, U2 xs its /\ IsTup s.heap a its.toArray /\ xs.length <= sizeLine := by
 rcases h with h | ⟨o, its, n, hk, hc, hs, hz, r⟩
 . obtain ⟨z, its, r, p⟩ := h.ok I.hok
   exact ⟨its, r, p, z⟩
 refine ⟨its.toList, r, ⟨o, I.kIn a o hk, hc, n, by simpa using hs⟩, ?_⟩
 have e := r.length
 simp only [Array.length_toList] at e
 omega
theorem Inv.list_inj (I : Inv X pins σ H s) (h : SqL X.K H a xs) (h' : SqL X.K H a ys) : xs = ys := by
 obtain ⟨its, r, ⟨o, n, e, _, _, d⟩, _⟩ := I.list h
 obtain ⟨its', r', ⟨o', n', e', _, _, d'⟩, _⟩ := I.list h'
 rw [e] at e'; cases e'
 rw [d] at d'
 injection d' with d1 _
 have : its = its' := by simpa using congrArg Array.toList d1
 subst this
 exact r.inj r'
theorem Inv.tuple_inj (I : Inv X pins σ H s) (h : SqT X.K H a xs) (h' : SqT X.K H a ys) : xs = ys := by
 obtain ⟨its, r, ⟨o, e, _, n, d⟩, _⟩ := I.tuple h
 obtain ⟨its', r', ⟨o', e', _, n', d'⟩, _⟩ := I.tuple h'
 rw [e] at e'; cases e'
 rw [d] at d'
 injection d' with d1 _
 have : its = its' := by simpa using congrArg Array.toList d1
 subst this
 exact r.inj r'
end
abbrev Cx.wish (X : Cx) (E : Value -> Shared -> Prop) : Cx := { X with xe := E }
abbrev Cx.nox (X : Cx) : Cx := X.wish fun _ _ => False
theorem Cx.Ok.wish {X : Cx} (ok : X.Ok) (E : Value -> Shared -> Prop) : (X.wish E).Ok :=
 ⟨ok.mod, ok.kind, ok.glob, ok.blt, ok.above, ok.inj, ok.has, ok.cab, ok.hd, ok.frames, ok.stk, ok.exf, ok.bs, ok.bsz, ok.noex, ok.exfs, ok.funs, ok.frf⟩
theorem Cx.Ok.unwish {X : Cx} {E : Value -> Shared -> Prop} (ok : (X.wish E).Ok) : X.Ok :=
 ⟨ok.mod, ok.kind, ok.glob, ok.blt, ok.above, ok.inj, ok.has, ok.cab, ok.hd, ok.frames, ok.stk, ok.exf, ok.bs, ok.bsz, ok.noex, ok.exfs, ok.funs, ok.frf⟩
section
variable {X : Cx} {pins : List (Addr × Obj)} {σ : St} {H : Hp} {s : Shared} {E : Value -> Shared -> Prop}
theorem Inv.wish (I : Inv X pins σ H s) (E : Value -> Shared -> Prop) : Inv (X.wish E) pins σ H s := ⟨I.ok.wish E, I.os, I.bare, I.base, I.loc, I.cell, I.free, I.freeC, I.pin, I.hok, I.len⟩
theorem Inv.unwish (I : Inv (X.wish E) pins σ H s) : Inv X pins σ H s := ⟨I.ok.unwish, I.os, I.bare, I.base, I.loc, I.cell, I.free, I.freeC, I.pin, I.hok, I.len⟩
theorem SP.unwish {D : J5m} {f : Flow} {s' : Shared} (h : SP (X.wish E) pins D f s') : SP X pins D f s' := by
 cases f with
 | next => obtain ⟨σ', H', I, q⟩ := h; exact ⟨σ', H', I.unwish, q⟩
 | brk => obtain ⟨σ', H', I, q⟩ := h; exact ⟨σ', H', I.unwish, q⟩
 | cont => obtain ⟨σ', H', I, q⟩ := h; exact ⟨σ', H', I.unwish, q⟩
 | ret u => obtain ⟨v, σ', H', I, r, q⟩ := h; exact ⟨v, σ', H', I.unwish, r, q⟩
theorem PSs.nox {st : List Stmt} {t : TS} (h : PSs X.nox st t) : PSs X st t := fun pins s σ H D I hw =>
 wpAny_mono (h pins s σ H D (I.wish _) hw) (fun _ _ q => q.unwish) fun _ _ z => False.elim z
end
section
variable {X : Cx} {st : Stmt} {rest : List Stmt} {t u : TS} {e : Expr} {te : TE} {pos : Pos}
def A0yn : TS := fun D σ H => D.nx σ H
def tSeq (t u : TS) : TS := fun D σ H => t { D with nx := u D } σ H
theorem D0 : PSs X [] A0yn := fun _ _ σ H _ I h => wpAny_execs_nil ⟨σ, H, I, h⟩
theorem A3 (h1 : PS X st t) (h2 : PSs X rest u) : PSs X (st :: rest) (tSeq t u) := by
 intro pins s σ H D I h
 refine wpAny_execs_cons (thn (h1 pins s σ H { D with nx := u D } I h) fun f s1 q => ?_)
 cases f with
 | next =>
   obtain ⟨σ', H', I', q⟩ := q
   exact h2 pins s1 σ' H' D I' q
 | ret v => exact q
 | brk => exact q
 | cont => exact q
theorem A6 (h1 : PS X st t) : PSs X [st] t := by
 intro pins s σ H D I h
 refine wpAny_execs_cons (thn (h1 pins s σ H D I h) fun f s1 q => ?_)
 cases f with
 | next => exact wpAny_execs_nil q
 | ret v => exact q
 | brk => exact q
 | cont => exact q
theorem Inv.quiet {pins : List (Addr × Obj)} {σ : St} {H : Hp} {s : Shared} (I : Inv X pins σ H s) : interactive X.env = false := by simp [interactive, I.ok.kind]
def A0zh (te : TE) : TS := fun D σ H => te σ H fun _ H1 => D.nx σ H1
theorem V8 (he : PE X e te) (hs : swapsWith e none pos.line X.env = pure false := by rfl) : PS X (.Expr e pos) (A0zh te) := by
 intro pins s σ H D I h
 exact wpAny_Expr_any (thn (he pins s σ H _ I h) fun v s1 ⟨x, H1, I1, r1, q1⟩ => ⟨σ, H1, I1, q1⟩) I.quiet hs
def tRet (te : TE) : TS := fun D σ H => te σ H D.rt
theorem B0 (he : PE X e te) : PS X (.Return (some e) pos) (tRet te) := by
 intro pins s σ H D I h
 exact wpAny_Return_some (thn (he pins s σ H _ I h) fun v s1 ⟨x, H1, I1, r1, q1⟩ => ⟨x, σ, H1, I1, r1, q1⟩)
def tIfS (c : TT) (t u : TS) : TS := fun D σ H => c σ H fun b H1 => if b = true then t D σ H1 else u D σ H1
theorem G4 {c : Expr} {a b : List Stmt} {tc : TT} (hc : PT X c tc) (ha : PSs X a t) (hb : PSs X b u) : PS X (.If c a b pos) (tIfS tc t u) := by
 intro pins s σ H D I h
 refine wpAny_If (thn (hc pins s σ H _ I h) fun d s1 ⟨H1, I1, q1⟩ => ?_)
 cases d with
 | true => exact ha pins s1 σ H1 D I1 q1
 | false => exact hb pins s1 σ H1 D I1 q1
end
abbrev TG := V -> St -> Hp -> (St -> Hp -> Prop) -> Prop
abbrev TGs := List V -> St -> Hp -> (St -> Hp -> Prop) -> Prop
def PG (X : Cx) (target : Expr) (t : TG) : Prop :=
 ∀ (pins : List (Addr × Obj)) (s : Shared) (σ : St) (H : Hp) (v : V) (u : Value) (Q : St -> Hp -> Prop), Inv X pins σ H s -> V0 v u -> t v σ H Q ->
   wpAny (model X.prog X.w) X.A (assign target X.env u) (fun _ s' => ∃ σ' H', Inv X pins σ' H' s' /\ Q σ' H') X.xe s
def PGs (X : Cx) (ts : List Expr) (t : TGs) : Prop :=
 ∀ (pins : List (Addr × Obj)) (s : Shared) (σ : St) (H : Hp) (vs : List V) (us : List Value) (Q : St -> Hp -> Prop), Inv X pins σ H s -> U2 vs us -> t vs σ H Q ->
   wpAny (model X.prog X.w) X.A (assignInOrder ((assignEach ts X.env).map (·.2)) us) (fun _ s' => ∃ σ' H', Inv X pins σ' H' s' /\ Q σ' H') X.xe s
abbrev TSet := V -> V -> V -> Hp -> (Hp -> Prop) -> Prop
def PSet (X : Cx) (t : TSet) : Prop :=
 ∀ (pins : List (Addr × Obj)) (s : Shared) (σ : St) (H : Hp) (o i v : V) (ov iv u : Value) (Q : Hp -> Prop), Inv X pins σ H s -> V0 o ov -> V0 i iv -> V0 v u -> t o i v H Q ->
   wpAny (model X.prog X.w) X.A (setItem ov iv u) (fun _ s' => ∃ H', Inv X pins σ H' s' /\ Q H') X.xe s
abbrev TIp := V -> V -> Hp -> VK -> Prop
def PIp (X : Cx) (op : Operator) (t : TIp) : Prop :=
 ∀ (pins : List (Addr × Obj)) (s : Shared) (σ : St) (H : Hp) (x y : V) (v u : Value) (Q : VK), Inv X pins σ H s -> V0 x v -> V0 y u -> t x y H Q ->
   wpAny (model X.prog X.w) X.A (inplaceOp op v u) (EP X pins σ Q) X.xe s
section
variable {X : Cx} {pos : Pos}
def V2q (i : Nat) : TG := fun v σ H Q => Q (σ.set i (some v)) H
theorem J7 {i : Nat} {x : Str} (hN : X.N.Nodup) (hi : X.N[i]? = some x) (hx : Loc X.env.scope x) (hf : X.fn x = true \/ X.env.scope.names.lookup x = some .local := by first | exact .inl rfl | exact .inr rfl | assumption) : PG X (.Name x pos) (V2q i) := by
 intro pins s σ H v u Q I r h
 exact wpAny_assign_Name (B1g I hN hi hx r (fun s' I' => ⟨_, H, I', h⟩) hf)
def gNil : TGs := fun vs σ H Q => vs = [] /\ Q σ H
def A0zk (t : TG) (u : TGs) : TGs := fun vs σ H Q => ∃ v r, vs = v :: r /\ t v σ H fun σ' H' => u r σ' H' Q
theorem A7p : PGs X [] gNil := by
 intro pins s σ H vs us Q I r h
 obtain ⟨e, h⟩ := h
 subst e
 cases r
 exact assignInOrder_nil ⟨σ, H, I, h⟩
theorem U9 {e : Expr} {es : List Expr} {t : TG} {u : TGs} (h1 : PG X e t) (h2 : PGs X es u)
   (hs : (assignEach (e :: es) X.env).map (·.2) = assign e X.env :: (assignEach es X.env).map (·.2) := by rfl) : PGs X (e :: es) (A0zk t u) := by
 intro pins s σ H vs us Q I r h
 obtain ⟨v, vr, e1, h⟩ := h
 subst e1
 cases r with
 | cons r rr =>
   rw [hs]
   refine assignInOrder_cons (thn (h1 pins s σ H _ _ _ I r h) fun _ s1 ⟨σ1, H1, I1, q1⟩ => ?_)
   exact h2 pins s1 σ1 H1 _ _ Q I1 rr q1
def gTup (K : PySem.W.Frag) (n : Nat) (t : TGs) : TG := fun v σ H Q => ∃ a xs, v = .ref a /\ SqT K H a xs /\ xs.length = n /\ t xs σ H Q
theorem B7g {es : List Expr} {k : Nat} {t : TGs} {n : Nat} (hc : X.calm = true) (h : PGs X es t)
   (hn : (assignEach es X.env).length = n := by rfl) (hst : (assignEach es X.env).findIdx? (·.1) = none := by rfl) : PG X (.Tuple es k pos) (gTup X.K n t) := by
 intro pins s σ H v u Q I r hw
 obtain ⟨a, xs, e1, hq, hl, hw⟩ := hw
 subst e1
 cases r
 obtain ⟨its, rv, ht, hz⟩ := I.tuple hq
 refine assign_Tuple_tuple (I.ok.hd hc) ht (by simp [hn, <- hl, rv.length]) hst fun h' hx => ?_
 have I1 : Inv X pins σ H { s with heap := h' } := I.kept (t' := s.toks) fun b o e => hx b o (Nat.ne_of_lt (Heap.lt_size e)) e
 exact h pins _ σ H xs _ Q I1 (by simpa using rv) hw
def gSub (to ti : TE) (t : TSet) : TG := fun v σ H Q => to σ H fun o H1 => ti σ H1 fun i H2 => t o i v H2 fun H3 => Q σ H3
theorem U0j {o i : Expr} {to ti : TE} {t : TSet} (ho : PE X o to) (hi : PE X i ti) (hs : PSet X t)
   (ha : ∀ v, assign (.Subscript o i pos) X.env v = (do
     let ov <- holding [v] (eval o X.env)
     let iv <- holding [v, ov] (eval i X.env)
     standAt pos
     holding [v, ov, iv] (setItem ov iv v)
     release [v, ov, iv] []) := by intro _; rfl) : PG X (.Subscript o i pos) (gSub to ti t) := by
 intro pins s σ H v u Q I r h
 rw [ha]
 refine wpAny_bind (wpAny_holding (thn (ho pins s σ H _ I h) fun ov s1 ⟨x, H1, I1, r1, q1⟩ => ?_))
 refine wpAny_bind (wpAny_holding (thn (hi pins s1 σ H1 _ I1 q1) fun iv s2 ⟨y, H2, I2, r2, q2⟩ => ?_))
 refine wpAny_bind (wpAny_standAt (wpAny_bind (wpAny_holding (thn (hs pins s2 σ H2 x y v ov iv u _ I2 r1 r2 r q2) fun _ s3 ⟨H3, I3, q3⟩ => ?_))))
 exact wpAny_release ⟨σ, H3, I3, q3⟩
def tAsg (te : TE) (g : TG) : TS := fun D σ H => te σ H fun x H1 => g x σ H1 D.nx
theorem A6b {tg e : Expr} {te : TE} {g : TG} (he : PE X e te) (hg : PG X tg g) (hs : swapsWithSole [tg] e pos.line X.env = pure false := by rfl) (hw : swappedStores [tg] e X.env = pure none := by rfl)
   (h1 : (assignEach [tg] X.env).map (·.2) = [assign tg X.env] := by rfl) : PS X (.Assign [tg] e pos) (tAsg te g) := by
 intro pins s σ H D I h
 refine wpAny_Assign_stores (thn (he pins s σ H _ I h) fun v s1 ⟨x, H1, I1, r1, q1⟩ => ?_) hs hw
 rw [h1]
 exact thn (hg pins s1 σ H1 x v _ I1 r1 q1) fun _ s2 q => q
theorem D3 {i : Nat} {x : Str} {e : Expr} {te : TE} {pos' : Pos} (hN : X.N.Nodup) (hi : X.N[i]? = some x) (hx : Loc X.env.scope x) (he : PE X e te) (hs : swapsWith e (some (.Name x pos')) pos.line X.env = pure false := by rfl) (hf : X.fn x = true \/ X.env.scope.names.lookup x = some .local := by first | exact .inl rfl | exact .inr rfl | assumption) :
   PS X (.Assign [.Name x pos'] e pos) (tAsg te (V2q i)) := by
 intro pins s σ H D I h
 refine wpAny_Assign_Name (thn (he pins s σ H _ I h) fun v s1 ⟨y, H1, I1, r1, q1⟩ => ?_) hs
 exact B1g I1 hN hi hx r1 (fun s2 I2 => ⟨_, H1, I2, q1⟩) hf
def tAug (i : Nat) (te : TE) (ti : TIp) : TS := fun D σ H => ∃ x, σ[i]? = some (some x) /\ te σ H fun y H1 => ti x y H1 fun z H2 => D.nx (σ.set i (some z)) H2
theorem A0rs {i : Nat} {x : Str} {e : Expr} {te : TE} {op : Operator} {ti : TIp} {pos' : Pos} (hN : X.N.Nodup) (hi : X.N[i]? = some x) (hx : Loc X.env.scope x) (he : PE X e te) (ho : PIp X op ti) (hf : X.fn x = true \/ X.env.scope.names.lookup x = some .local := by first | exact .inl rfl | exact .inr rfl | assumption) :
   PS X (.AugAssign (.Name x pos') op e pos) (tAug i te ti) := by
 intro pins s σ H D I h
 obtain ⟨v, e1, h⟩ := h
 obtain ⟨m, hn, hl⟩ := I.loc
 have vis : Vis X.env.scope x := by rcases hx with k | k; exact .inl k; exact .inr (.inl k)
 obtain ⟨u, r, l⟩ := hl i x v hi e1 vis
 refine wpAny_AugAssign_Name ?_
 have go : wpAny (model X.prog X.w) X.A (eval e X.env) (fun w s₂ => wpAny (model X.prog X.w) X.A (inplaceOp op u w) (fun r s₃ => wpAny (model X.prog X.w) X.A (storeName X.env x r) (fun _ => SP X pins D .next) X.xe s₃) X.xe s₂) X.xe s := by
   refine thn (he pins s σ H _ I h) fun w s1 ⟨y, H1, I1, r1, q1⟩ => ?_
   refine thn (ho pins s1 σ H1 v y u w _ I1 r r1 q1) fun z s2 ⟨zv, H2, I2, r2, q2⟩ => ?_
   exact B1g I2 hN hi hx r2 (fun s3 I3 => ⟨_, H2, I3, q2⟩) hf
 rcases l with ⟨hk, hm⟩ | ⟨hk, c, hc, hcell⟩
 . exact wpAny_loadName_local I.ok.kind hk hn hm go
 rcases hk with hk | hk
 . exact wpAny_loadName_cell I.ok.kind hk hc hcell go
 rcases hx with k | k
 . have : X.env.scope.names.lookup x = some .free := hk
   rw [k] at this; cases this
 have : X.env.scope.names.lookup x = some .free := hk
 rw [k] at this; cases this
def ipI (f : Int -> Int -> Int) : TIp := fun x y H Q => ∃ i j, x = .int i /\ y = .int j /\ Q (.int (f i j)) H
theorem A0sh : PIp X .Add (ipI fun i j => i + j) := by
 intro pins s σ H x y v u Q I r1 r2 h
 obtain ⟨i, j, e1, e2, q⟩ := h
 subst e1; subst e2
 obtain ⟨t, rfl⟩ := r1
 obtain ⟨t', rfl⟩ := r2
 exact iadd_int ⟨.int _, H, I.tok _, ⟨_, rfl⟩, q⟩
end
section
variable {X : Cx} {pos : Pos}
def Y8h (c : TT) (tb : TS) : TS := fun D σ H => ∃ W : Nat -> St -> Hp -> Prop, (∃ m, W m σ H) /\ ∀ m σ H, W m σ H ->
 c σ H fun b H1 => if b = true then ∃ N : St -> Hp -> Prop, (∀ σ' H', N σ' H' -> ∃ m', m' < m /\ W m' σ' H') /\ tb { D with nx := N, ct := N, bk := D.nx } σ H1 else D.nx σ H1
theorem A2q {c : Expr} {body : List Stmt} {tc : TT} {tb : TS} (hp : PassesOwn (model X.prog X.w) X.A X.env X.xe) (hc : PT X c tc) (hb : PSs X body tb) : PS X (.While c body [] pos) (Y8h tc tb) := by
 intro pins s σ H D I h
 obtain ⟨W, ⟨m0, w0⟩, turn⟩ := h
 refine wpAny_While (codeAny_whileLoop (fun n s' => ∃ σ' H', Inv X pins σ' H' s' /\ W n σ' H') ?_ m0 ⟨σ, H, I, w0⟩)
 rintro n s1 ⟨σ1, H1, I1, w1⟩
 refine wpAny_passesOwn hp (thn (hc pins s1 σ1 H1 _ I1 (turn n σ1 H1 w1)) fun b s2 ⟨H2, I2, q2⟩ => ?_)
 cases b with
 | true =>
   obtain ⟨N, hN, q2⟩ := q2
   rw [if_pos rfl]
   refine wpAny_passesOwn hp (thn (hb pins s2 σ1 H2 _ I2 q2) fun f s3 q3 => ?_)
   cases f with
   | next =>
     obtain ⟨σ3, H3, I3, n3⟩ := q3
     obtain ⟨m', hm, w3⟩ := hN σ3 H3 n3
     exact ⟨m', hm, σ3, H3, I3, w3⟩
   | cont =>
     obtain ⟨σ3, H3, I3, n3⟩ := q3
     obtain ⟨m', hm, w3⟩ := hN σ3 H3 n3
     exact ⟨m', hm, σ3, H3, I3, w3⟩
   | brk => exact q3
   | ret v => exact q3
 | false =>
   rw [if_neg Bool.false_ne_true]
   exact wpAny_execs_nil ⟨σ1, H2, I2, q2⟩
end
structure It where
 go : Nat -> Hp -> Prop
 yld : Nat -> Hp -> V -> Hp -> Prop
 stop : Nat -> Hp -> Prop
def A5f (X : Cx) (pins : List (Addr × Obj)) (H : Hp) (b : Addr) : Prop :=
 H b = none /\ b ≠ X.env.locals /\ b ∉ X.fs /\ (b ∈ X.ex \/ X.s₀.heap.objs.size <= b) /\ (∀ x c, X.env.cells.lookup x = some c -> c ≠ b) /\ ∀ p ∈ X.pn ++ pins, p.1 ≠ b
theorem Inv.fpOk {X : Cx} {pins : List (Addr × Obj)} {σ : St} {H H' : Hp} {s : Shared} {b : Addr} (I : Inv X pins σ H s) (hb : s.heap.objs.size <= b) (hn : H' b = none) : A5f X pins H' b := by
 refine ⟨hn, Nat.ne_of_gt (Nat.lt_of_lt_of_le I.lt hb), I.nofs hb, .inr (Nat.le_trans I.sz hb), fun x c e z => ?_, fun p hp z => ?_⟩
 . obtain ⟨v, q⟩ := I.cell x c e
   exact absurd (Nat.lt_of_lt_of_le q.lt (by rw [z]; exact hb)) (Nat.lt_irrefl _)
 exact absurd (Nat.lt_of_lt_of_le (Heap.lt_size (I.pin p hp).1) (by rw [z]; exact hb)) (Nat.lt_irrefl _)
structure Turn (P : Program) (w : World) (K : PySem.W.Frag) (tg : Expr) (J : It) (fp : List Addr) (it : Addr) (tn : Nat -> Heap -> Prop) : Prop where
 mem : it ∈ fp
 obj : ∀ i h, tn i h -> ∀ b ∈ fp, ∃ o, h.get? b = some o /\ ∀ v, o.data ≠ .cell v
 keep : ∀ i h h', tn i h -> (∀ b ∈ fp, ∀ o, h.get? b = some o -> h'.get? b = some o) -> tn i h'
 item : ∀ (X : Cx), X.prog = P -> X.w = w -> X.K = K -> X.calm = true -> ∀ (i : Nat) (pins : List (Addr × Obj)) (s : Shared) (σ : St) (H : Hp) (E : Value -> Shared -> Prop), Inv X pins σ H s -> (∀ b ∈ fp, A5f X pins H b) -> tn i s.heap -> J.go i H ->
   wpAny (model P w) X.A (pyNext (.ref it)) (fun r s1 => ∃ u, r = some u /\
     wpAny (model P w) X.A (letOwnedTupleGo tg (.ref it) u) (fun _ s2 => ∃ x H', Inv X pins σ H' s2 /\ V0 x u /\ J.yld i H x H' /\ tn (i + 1) s2.heap /\ ∀ b ∈ fp, H' b = none) E s1) E s
 done : ∀ (X : Cx), X.prog = P -> X.w = w -> X.K = K -> X.calm = true -> ∀ (i : Nat) (pins : List (Addr × Obj)) (s : Shared) (σ : St) (H : Hp) (E : Value -> Shared -> Prop), Inv X pins σ H s -> (∀ b ∈ fp, A5f X pins H b) -> tn i s.heap -> J.stop i H ->
   wpAny (model P w) X.A (pyNext (.ref it)) (fun r s1 => r = none /\ Inv X pins σ H s1) E s
 self : ∀ (A : Around) (i : Nat) (s : Shared) (Q : Value -> Shared -> Prop) (E : Value -> Shared -> Prop), tn i s.heap -> Q (.ref it) s -> wpAny (model P w) A (pyIter (.ref it)) Q E s
abbrev TI := St -> Hp -> (It -> Hp -> Prop) -> Prop
def PIE (X : Cx) (pins : List (Addr × Obj)) (σ : St) (tg : Expr) (R : It -> Hp -> Prop) (itv : Value) (s2 : Shared) : Prop :=
 ∃ (it : Addr) (fp : List Addr) (tn : Nat -> Heap -> Prop) (J : It) (H' : Hp), itv = .ref it /\ Inv X pins σ H' s2 /\ Turn X.prog X.w X.K tg J fp it tn /\ tn 0 s2.heap /\ (∀ b ∈ fp, A5f X pins H' b) /\ R J H'
def PI (X : Cx) (tg iter : Expr) (wi : TI) : Prop :=
 ∀ (pins : List (Addr × Obj)) (s : Shared) (σ : St) (H : Hp) (R : It -> Hp -> Prop), Inv X pins σ H s -> wi σ H R ->
   wpAny (model X.prog X.w) X.A (eval iter X.env) (fun v s1 => wpAny (model X.prog X.w) X.A (pyIter v) (PIE X pins σ tg R) X.xe s1) X.xe s
theorem V4e {M : Model} {A : Around} {E : Value -> Shared -> Prop} {s : Shared} {tg : Expr} {it : Addr} {u : Value} {o : Obj} {n : String} {vs : Array Value} {Q : Unit -> Shared -> Prop} (ho : s.heap.get? it = some o) (hc : o.cls = .type n) (hd : o.data = .fields vs)
   (hn : ["enumerate", "zip", "dict_itemiterator", "dict_reverseitemiterator", "odict_iterator", "itertools.zip_longest", "itertools.pairwise"].contains n = false) (hQ : Q () s) : wpAny M A (letOwnedTupleGo tg (.ref it) u) Q E s := by
 unfold letOwnedTupleGo
 cases tg <;> first
   | exact wpAny_pure hQ
   | (cases u <;> first
       | exact wpAny_pure hQ
       | (refine wpAny_bind (wpAny_load ho ?_)
          rw [hc, hd]
          show wpAny M A (if (["enumerate", "zip", "dict_itemiterator", "dict_reverseitemiterator", "odict_iterator", "itertools.zip_longest", "itertools.pairwise"].contains n && vs[0]? == some (rawInt _)) = true then _ else _) Q E s
          rw [if_neg (by intro h; rw [hn, Bool.false_and] at h; cases h)]
          exact wpAny_pure hQ))
def Itl (K : PySem.W.Frag) (a : Addr) : It :=
 ⟨fun i H => ∃ xs x, SqL K H a xs /\ xs[i]? = some x, fun i H x H' => H' = H /\ ∀ xs, SqL K H a xs -> xs[i]? = some x, fun i H => ∃ xs, SqL K H a xs /\ xs.length <= i⟩
def Itt (K : PySem.W.Frag) (a : Addr) : It :=
 ⟨fun i H => ∃ xs x, SqT K H a xs /\ xs[i]? = some x, fun i H x H' => H' = H /\ ∀ xs, SqT K H a xs -> xs[i]? = some x, fun i H => ∃ xs, SqT K H a xs /\ xs.length <= i⟩
def Itr (lo : Int) (n : Nat) : It := ⟨fun i _ => i < n, fun i H x H' => H' = H /\ x = .int (lo + i), fun i _ => n <= i⟩
theorem V7k {P : Program} {w : World} {K : PySem.W.Frag} {tg : Expr} (a it : Addr) : Turn P w K tg (Itl K a) [it] it (fun i h => h.IsListIter it a i) where
 mem := by simp
 obj := fun i h st b hb => by
   have e : b = it := by simpa using hb
   subst e
   obtain ⟨o, e, c, d⟩ := st
   exact ⟨o, e, fun v z => by rw [d] at z; cases z⟩
 keep := fun i h h' st k => st.at fun o e => k it (by simp) o e
 item := by
   intro X hP hw hK hc i pins s σ H E I hf st hg
   subst hP hw hK
   obtain ⟨xs, x, hq, hx⟩ := hg
   obtain ⟨its, rv, p, hz⟩ := I.list hq
   obtain ⟨u, hu, ru⟩ := rv.get hx
   obtain ⟨f0, f1, f2, f3, f4, f5⟩ := hf it (by simp)
   refine wpAny_pyNext_list_item st p.isList (x := u) (by simpa using hu) fun h' st' sb => ?_
   have I1 : Inv X pins σ H { s with heap := h' } := I.turned (t' := s.toks) (fun b o hb e => (sb.2 b hb).trans e) f0 f1 f3 f4 f5
   obtain ⟨o, e, c, d⟩ := id st'
   exact ⟨u, rfl, V4e (s := { s with heap := h' }) e c d (by decide) ⟨x, H, I1, ru, ⟨rfl, fun ys hy => by rw [I.list_inj hy hq]; exact hx⟩, st', fun b hb => (hf b hb).1⟩⟩
 done := by
   intro X hP hw hK hc i pins s σ H E I hf st hg
   subst hP hw hK
   obtain ⟨xs, hq, hx⟩ := hg
   obtain ⟨its, rv, p, hz⟩ := I.list hq
   obtain ⟨f0, f1, f2, f3, f4, f5⟩ := hf it (by simp)
   have hl := rv.length
   exact wpAny_pyNext_list_end (I.ok.hd hc) st p.isList (by simp; omega) fun h' eb => ⟨rfl, I.turned (t' := s.toks) (fun b o hb e => eb b o hb e) f0 f1 f3 f4 f5⟩
 self := fun _ _ _ _ _ st h => wpAny_pyIter_listiter st h
theorem U0e {P : Program} {w : World} {K : PySem.W.Frag} {tg : Expr} (it : Addr) (lo : Int) (n : Nat) : Turn P w K tg (Itr lo n) [it] it (fun i h => IsRangeIter h it (lo + (i : Nat) * 1) ((n : Int) - (i : Nat)) 1) where
 mem := by simp
 obj := fun i h st b hb => by
   have e : b = it := by simpa using hb
   subst e
   exact ⟨_, st, fun v z => by
     have z' : Data.fields _ = Data.cell v := z
     cases z'⟩
 keep := fun i h h' st k => k it (by simp) _ st
 item := by
   intro X hP hw hK hc i pins s σ H E I hf st hg
   subst hP hw hK
   obtain ⟨f0, f1, f2, f3, f4, f5⟩ := hf it (by simp)
   have W := Walks.range (prog := X.prog) (w := X.w) (I.ok.hd hc) it lo 1 n
   refine W.item i s _ _ hg st fun v h' tk hv st' kk => ?_
   obtain ⟨t, rfl⟩ := hv
   have I1 : Inv X pins σ H { s with heap := h', toks := tk } := I.turned (fun b o hb e => kk b o (by simpa using hb) e) f0 f1 f3 f4 f5
   refine ⟨_, rfl, V4e (s := { s with heap := h', toks := tk }) (n := "range_iterator") st' rfl rfl (by decide) ⟨.int (lo + i), H, I1, ⟨t, ?_⟩, ⟨rfl, rfl⟩, st', fun b hb => (hf b hb).1⟩⟩
   rw [Int.mul_one]
 done := by
   intro X hP hw hK hc i pins s σ H E I hf st hg
   subst hP hw hK
   obtain ⟨f0, f1, f2, f3, f4, f5⟩ := hf it (by simp)
   exact wpAny_pyNext_range_end (I.ok.hd hc) st (by have : n <= i := hg; omega) fun h' eb => ⟨rfl, I.turned (t' := s.toks) (fun b o hb e => eb b o hb e) f0 f1 f3 f4 f5⟩
 self := fun _ _ _ _ _ st h => wpAny_pyIter_rangeiter st h
section
variable {X : Cx} {tg : Expr}
def A0qw (K : PySem.W.Frag) (tl : TE) : TI := fun σ H R => tl σ H fun x H1 => ∃ a, x = .ref a /\ (∃ xs, SqL K H1 a xs) /\ R (Itl K a) H1
def iTup (K : PySem.W.Frag) (tl : TE) : TI := fun σ H R => tl σ H fun x H1 => ∃ a, x = .ref a /\ (∃ xs, SqT K H1 a xs) /\ R (Itt K a) H1
theorem G2f {l : Expr} {tl : TE} (hl : PE X l tl) : PI X tg l (A0qw X.K tl) := by
 intro pins s σ H R I h
 refine thn (hl pins s σ H _ I h) fun v s1 ⟨x, H1, I1, r1, q1⟩ => ?_
 obtain ⟨a, e, ⟨xs, hq⟩, q⟩ := q1
 subst e
 cases r1
 obtain ⟨its, rv, p, hz⟩ := I1.list hq
 refine wpAny_pyIter_list p.isList ?_
 refine ⟨s1.heap.objs.size, [s1.heap.objs.size], _, _, H1, rfl, I1.kept (t' := s1.toks) fun b o e => Heap.get?_push_of_some _ e, V7k a _, ⟨_, Heap.get?_push_size _ rfl, rfl, rfl⟩, fun b hb => ?_, q⟩
 have e : b = s1.heap.objs.size := by simpa using hb
 subst e
 exact I1.fpOk (Nat.le_refl _) (I1.hok.fresh (Nat.le_refl _))
theorem Y5k {pins : List (Addr × Obj)} {σ : St} {H : Hp} {s : Shared} {R : It -> Hp -> Prop} {E : Value -> Shared -> Prop} {lo hi : Int} {t u v : Tok} {tk : Nat} (I : Inv X pins σ H s) (h1 : -(2 ^ 62) <= lo) (h2 : lo < 2 ^ 62) (h3 : -(2 ^ 62) <= hi) (h4 : hi < 2 ^ 62)
   (q : R (Itr lo (hi - lo).toNat) H) : wpAny (model X.prog X.w) X.A (pyIter (.ref s.heap.objs.size)) (PIE X pins σ tg R) E { s with heap := s.heap.push { cls := .type "range", data := .fields #[.int lo t, .int hi u, .int 1 v] }, toks := tk } := by
 refine wpAny_pyIter_range (IsRange.new ..) (small_one h1 h2 h3 h4) ?_
 have I1 : Inv X pins σ H { s with heap := s.heap.push { cls := .type "range", data := .fields #[.int lo t, .int hi u, .int 1 v] }, toks := tk } := I.kept fun b o e => Heap.get?_push_of_some _ e
 refine ⟨(s.heap.push { cls := .type "range", data := .fields #[.int lo t, .int hi u, .int 1 v] }).objs.size, [(s.heap.push { cls := .type "range", data := .fields #[.int lo t, .int hi u, .int 1 v] }).objs.size], _, _, H, rfl,
   I1.kept (t' := tk) fun b o e => Heap.get?_push_of_some _ e, U0e _ lo (hi - lo).toNat, ?_, fun b hb => ?_, q⟩
 . have e1 : lo + ((0 : Nat) : Int) * 1 = lo := by simp
   have e2 : (((hi - lo).toNat : Nat) : Int) - ((0 : Nat) : Int) = Builtin.Range.rangeSize lo hi 1 := by rw [rangeSize_one]; split <;> omega
   show IsRangeIter _ _ (lo + ((0 : Nat) : Int) * 1) ((((hi - lo).toNat : Nat) : Int) - ((0 : Nat) : Int)) 1
   rw [e1, e2]
   exact Heap.get?_push_size _ rfl
 have e : b = (s.heap.push { cls := .type "range", data := .fields #[.int lo t, .int hi u, .int 1 v] }).objs.size := by simpa using hb
 subst e
 exact I1.fpOk (Nat.le_refl _) (I1.hok.fresh (Nat.le_refl _))
def A0zg (ta : TA) : TI := fun σ H R => ta σ H fun vs H1 => ∃ j : Int, vs = [.int j] /\ -(2 ^ 62) <= j /\ j < 2 ^ 62 /\ R (Itr 0 j.toNat) H1
theorem B5j {a : Expr} {ta : TA} {p pos : Pos} (hg : Gl X "range") (hm : X.mg "range" = none) (ha : PA X [a] ta) (hs : starEach [a] X.env = [(false, eval a X.env)] := by rfl) : PI X tg (.Call (.Name "range" p) [a] [] pos) (A0zg ta) := by
 intro pins s σ H R I h
 refine Call_ (G1x I hg hm boot_range (PyProof.Rows.callWith_type1 (thn (ha pos pins s σ H _ I h) fun us s1 ⟨vs, H1, I1, r1, q1⟩ => ?_) hs rfl))
 obtain ⟨j, e, q1, q2, q⟩ := q1
 subst e
 cases r1 with
 | cons r rr =>
   cases rr
   obtain ⟨t, rfl⟩ := r
   exact call_range_1 (Y5k I1 (by omega) (by omega) q1 q2 (by simpa using q))
def tFor (wi : TI) (g : TG) (tb : TS) : TS := fun D σ H => wi σ H fun J H1 => ∃ W : Nat -> Nat -> St -> Hp -> Prop, (∃ m, W 0 m σ H1) /\ ∀ i m σ H, W i m σ H ->
 (J.stop i H /\ D.nx σ H) \/ (J.go i H /\ ∃ N : St -> Hp -> Prop, (∀ σ' H', N σ' H' -> ∃ m', m' < m /\ W (i + 1) m' σ' H') /\ ∀ x H', J.yld i H x H' -> g x σ H' fun σ2 H2 => tb { D with nx := N, ct := N, bk := D.nx } σ2 H2)
def G2m (fp : List Addr) (h : Heap) : List (Addr × Obj) := fp.filterMap fun b => (h.get? b).map fun o => (b, o)
theorem D0d {fp : List Addr} {h : Heap} {b : Addr} {o : Obj} (hb : b ∈ fp) (e : h.get? b = some o) : (b, o) ∈ G2m fp h := List.mem_filterMap.mpr ⟨b, hb, by rw [e]; rfl⟩
theorem V7t {fp : List Addr} {h : Heap} {p : Addr × Obj} (hp : p ∈ G2m fp h) : p.1 ∈ fp /\ h.get? p.1 = some p.2 := by
 obtain ⟨b, hb, e⟩ := List.mem_filterMap.mp hp
 cases q : h.get? b with
 | none => rw [q] at e; cases e
 | some o =>
   rw [q] at e
   have e' : (b, o) = p := Option.some.inj e
   subst e'
   exact ⟨hb, q⟩
theorem Inv.pinned {pins : List (Addr × Obj)} {σ : St} {H : Hp} {s : Shared} {fp : List Addr} (I : Inv X pins σ H s) (hf : ∀ b ∈ fp, A5f X pins H b) (ho : ∀ b ∈ fp, ∃ o, s.heap.get? b = some o /\ ∀ v, o.data ≠ .cell v) : Inv X (pins ++ G2m fp s.heap) σ H s :=
 I.pins_of fun p hp => (List.mem_append.mp hp).elim (fun z => I.pin p (List.mem_append_right _ z)) fun z => by
   obtain ⟨hb, e⟩ := V7t z
   obtain ⟨f0, f1, f2, _⟩ := hf p.1 hb
   obtain ⟨o, e', d⟩ := ho p.1 hb
   rw [e] at e'; cases e'
   exact ⟨e, f0, f1, f2, d⟩
theorem Inv.unpinned {pins pl : List (Addr × Obj)} {σ : St} {H : Hp} {s : Shared} (I : Inv X (pins ++ pl) σ H s) : Inv X pins σ H s := I.pins_of fun p hp => I.pin p (List.mem_append_right _ (List.mem_append_left _ hp))
theorem B7f {iter : Expr} {body : List Stmt} {wi : TI} {g : TG} {tb : TS} {pos : Pos} (hp : PassesOwn (model X.prog X.w) X.A X.env X.xe) (hc : X.calm = true) (hi : PI X tg iter wi) (hg : PG X tg g) (hb : PSs X body tb)
   (hs : ∀ x, foldedSetIterable iter X.env x = pure x := by intro _; rfl) : PS X (.For tg iter body [] pos) (tFor wi g tb) := by
 intro pins s σ H D I h
 refine wpAny_For (thn (hi pins s σ H _ I h) fun v s1 h1 => thn h1 fun itv s2 h2 => ?_) hs
 obtain ⟨it, fp, tn, J, H2, e, I2, T, st2, f2, W, ⟨m0, w0⟩, turn⟩ := h2
 subst e
 have stat : ∀ {H' : Hp}, (∀ b ∈ fp, H' b = none) -> ∀ b ∈ fp, A5f X pins H' b := fun hn b hb => ⟨hn b hb, (f2 b hb).2⟩
 refine codeAny_forLoop_any (fun n s' => ∃ i σ' H', Inv X pins σ' H' s' /\ tn i s'.heap /\ (∀ b ∈ fp, H' b = none) /\ W i n σ' H') ?_ m0 ⟨0, σ, H2, I2, st2, fun b hb => (f2 b hb).1, w0⟩
 rintro n s3 ⟨i, σ3, H3, I3, st3, fr3, w3⟩
 rcases turn i n σ3 H3 w3 with ⟨stop, qn⟩ | ⟨go, N, hN, step⟩
 . refine wpAny_passesOwn hp (thn (T.done X rfl rfl rfl hc i pins s3 σ3 H3 X.xe I3 (stat fr3) st3 stop) fun r s4 ⟨hr, I4⟩ => ?_)
   subst hr
   exact wpAny_execs_nil ⟨σ3, H3, I4, qn⟩
 refine wpAny_passesOwn hp (thn (T.item X rfl rfl rfl hc i pins s3 σ3 H3 X.xe I3 (stat fr3) st3 go) fun r s4 ⟨u, hr, h4⟩ => ?_)
 subst hr
 refine wpAny_passesOwn hp (thn h4 fun _ s5 ⟨x, H5, I5, r5, y5, st5, fr5⟩ => ?_)
 have I5' := I5.pinned (stat fr5) (T.obj _ _ st5)
 refine wpAny_passesOwn hp (thn (hg _ s5 σ3 H5 x u _ I5' r5 (step x H5 y5)) fun _ s6 ⟨σ6, H6, I6, q6⟩ => ?_)
 refine wpAny_passesOwn hp (thn (hb _ s6 σ6 H6 _ I6 q6) fun f s7 q7 => ?_)
 have again : ∀ {σ7 : St} {H7 : Hp}, Inv X (pins ++ G2m fp s5.heap) σ7 H7 s7 -> N σ7 H7 -> ∃ m, m < n /\ ∃ i σ' H', Inv X pins σ' H' s7 /\ tn i s7.heap /\ (∀ b ∈ fp, H' b = none) /\ W i m σ' H' := fun {σ7 H7} I7 n7 => by
   obtain ⟨m', hm, w7⟩ := hN σ7 H7 n7
   refine ⟨m', hm, i + 1, σ7, H7, I7.unpinned, T.keep _ _ _ st5 fun b hb o e => (I7.pin (b, o) (List.mem_append_right _ (List.mem_append_right _ (D0d hb e)))).1, fun b hb => ?_, w7⟩
   obtain ⟨o, e, d⟩ := T.obj _ _ st5 b hb
   exact (I7.pin (b, o) (List.mem_append_right _ (List.mem_append_right _ (D0d hb e)))).2.1
 cases f with
 | next => obtain ⟨σ7, H7, I7, n7⟩ := q7; exact again I7 n7
 | cont => obtain ⟨σ7, H7, I7, n7⟩ := q7; exact again I7 n7
 | brk => obtain ⟨σ7, H7, I7, q7⟩ := q7; exact ⟨σ7, H7, I7.unpinned, q7⟩
 | ret v => obtain ⟨x7, σ7, H7, I7, r7, q7⟩ := q7; exact ⟨x7, σ7, H7, I7.unpinned, r7, q7⟩
end
theorem B1w {K : PySem.W.Frag} {a : Addr} {xs : List V} {g : TG} {tb : TS} {D : J5m} {σ : St} {H : Hp} (Pv : Nat -> St -> Hp -> Prop) (h0 : Pv 0 σ H) (hl : ∀ i σ H, i <= xs.length -> Pv i σ H -> SqL K H a xs)
   (hs : ∀ i x σ H, xs[i]? = some x -> Pv i σ H -> g x σ H fun σ2 H2 => tb { D with nx := Pv (i + 1), ct := Pv (i + 1), bk := D.nx } σ2 H2) (hd : ∀ σ H, Pv xs.length σ H -> D.nx σ H) :
   ∃ W : Nat -> Nat -> St -> Hp -> Prop, (∃ m, W 0 m σ H) /\ ∀ i m σ H, W i m σ H ->
     ((Itl K a).stop i H /\ D.nx σ H) \/ ((Itl K a).go i H /\ ∃ N : St -> Hp -> Prop, (∀ σ' H', N σ' H' -> ∃ m', m' < m /\ W (i + 1) m' σ' H') /\ ∀ x H', (Itl K a).yld i H x H' -> g x σ H' fun σ2 H2 => tb { D with nx := N, ct := N, bk := D.nx } σ2 H2) := by
 refine ⟨fun i m σ H => m = xs.length - i /\ i <= xs.length /\ Pv i σ H, ⟨xs.length, by simp, Nat.zero_le _, h0⟩, ?_⟩
 rintro i m σ H ⟨rfl, hi, p⟩
 have q := hl i σ H hi p
 by_cases hlt : i < xs.length
 . refine .inr ⟨⟨xs, xs[i], q, by simp [hlt]⟩, Pv (i + 1), fun σ' H' p' => ⟨xs.length - (i + 1), by omega, rfl, hlt, p'⟩, fun x H' y => ?_⟩
   obtain ⟨e, y⟩ := y
   subst e
   exact hs i x σ _ (y xs q) p
 have e : i = xs.length := by omega
 subst e
 exact .inl ⟨⟨xs, q, Nat.le_refl _⟩, hd σ H p⟩
theorem B5q {lo : Int} {n : Nat} {g : TG} {tb : TS} {D : J5m} {σ : St} {H : Hp} (Pv : Nat -> St -> Hp -> Prop) (h0 : Pv 0 σ H)
   (hs : ∀ i σ H, i < n -> Pv i σ H -> g (.int (lo + i)) σ H fun σ2 H2 => tb { D with nx := Pv (i + 1), ct := Pv (i + 1), bk := D.nx } σ2 H2) (hd : ∀ σ H, Pv n σ H -> D.nx σ H) :
   ∃ W : Nat -> Nat -> St -> Hp -> Prop, (∃ m, W 0 m σ H) /\ ∀ i m σ H, W i m σ H ->
     ((Itr lo n).stop i H /\ D.nx σ H) \/ ((Itr lo n).go i H /\ ∃ N : St -> Hp -> Prop, (∀ σ' H', N σ' H' -> ∃ m', m' < m /\ W (i + 1) m' σ' H') /\ ∀ x H', (Itr lo n).yld i H x H' -> g x σ H' fun σ2 H2 => tb { D with nx := N, ct := N, bk := D.nx } σ2 H2) := by
 refine ⟨fun i m σ H => m = n - i /\ i <= n /\ Pv i σ H, ⟨n, by simp, Nat.zero_le _, h0⟩, ?_⟩
 rintro i m σ H ⟨rfl, hi, p⟩
 by_cases hlt : i < n
 . refine .inr ⟨hlt, Pv (i + 1), fun σ' H' p' => ⟨n - (i + 1), by omega, rfl, hlt, p'⟩, fun x H' y => ?_⟩
   obtain ⟨e, y⟩ := y
   subst e y
   exact hs i σ _ hlt p
 have e : i = n := by omega
 subst e
 exact .inl ⟨Nat.le_refl _, hd σ H p⟩
theorem A0z {c : TT} {tb : TS} {D : J5m} {σ : St} {H : Hp} (Pv : St -> Hp -> Prop) (μ : St -> Hp -> Nat) (h0 : Pv σ H)
   (hs : ∀ σ H, Pv σ H -> c σ H fun b H1 => if b = true then tb { D with nx := fun σ' H' => Pv σ' H' /\ μ σ' H' < μ σ H, ct := fun σ' H' => Pv σ' H' /\ μ σ' H' < μ σ H, bk := D.nx } σ H1 else D.nx σ H1)
   (mono : ∀ σ H Q Q', (∀ b H1, Q b H1 -> Q' b H1) -> c σ H Q -> c σ H Q') : Y8h c tb D σ H := by
 refine ⟨fun m σ H => m = μ σ H /\ Pv σ H, ⟨_, rfl, h0⟩, ?_⟩
 rintro m σ H ⟨rfl, p⟩
 refine mono σ H _ _ (fun b H1 q => ?_) (hs σ H p)
 cases b with
 | true => exact ⟨_, fun σ' H' ⟨p', l⟩ => ⟨_, l, rfl, p'⟩, q⟩
 | false => exact q
abbrev R2 := V -> V -> Hp -> VK -> Prop
def OpR (X : Cx) (f : Value -> Value -> Sem Value) (r : R2) : Prop :=
 ∀ (pins : List (Addr × Obj)) (s : Shared) (σ : St) (H : Hp) (x y : V) (v u : Value) (Q : VK), Inv X pins σ H s -> V0 x v -> V0 y u -> r x y H Q ->
   wpAny (model X.prog X.w) X.A (f v u) (EP X pins σ Q) X.xe s
def UnR (X : Cx) (f : Value -> Sem Value) (r : V -> Hp -> VK -> Prop) : Prop :=
 ∀ (pins : List (Addr × Obj)) (s : Shared) (σ : St) (H : Hp) (x : V) (v : Value) (Q : VK), Inv X pins σ H s -> V0 x v -> r x H Q ->
   wpAny (model X.prog X.w) X.A (f v) (EP X pins σ Q) X.xe s
def A6w (X : Cx) (f : Value) (r : List V -> Hp -> VK -> Prop) : Prop :=
 ∀ (pins : List (Addr × Obj)) (s : Shared) (σ : St) (H : Hp) (xs : List V) (us : List Value) (Q : VK), Inv X pins σ H s -> U2 xs us -> r xs H Q ->
   wpAny (model X.prog X.w) X.A (call f us) (EP X pins σ Q) X.xe s
def tOp (r : R2) (ta tb : TE) : TE := fun σ H Q => ta σ H fun x H1 => tb σ H1 fun y H2 => r x y H2 Q
def tUn (r : V -> Hp -> VK -> Prop) (ta : TE) : TE := fun σ H Q => ta σ H fun x H1 => r x H1 Q
def rI (C : Int -> Int -> Prop) (g : Int -> Int -> V) : R2 := fun x y H Q => ∃ i j, x = .int i /\ y = .int j /\ C i j /\ Q (g i j) H
def rI0 (g : Int -> Int -> V) : R2 := fun x y H Q => ∃ i j, x = .int i /\ y = .int j /\ Q (g i j) H
def rU (g : Int -> V) : V -> Hp -> VK -> Prop := fun x H Q => ∃ i, x = .int i /\ Q (g i) H
section
variable {X : Cx} {a b c : Expr} {ta tb tc : TE} {pos : Pos}
theorem binT (ha : PE X a ta) (hb : PE X b tb) {pins : List (Addr × Obj)} {s : Shared} {σ : St} {H : Hp} {R : V -> V -> Hp -> Prop} (I : Inv X pins σ H s)
   (h : ta σ H fun x H1 => tb σ H1 fun y H2 => R x y H2) {Q : Value -> Shared -> Prop} {f : Value -> Value -> Sem Value}
   (hf : ∀ v u s2 x y H2, Inv X pins σ H2 s2 -> V0 x v -> V0 y u -> R x y H2 -> wpAny (model X.prog X.w) X.A (f v u) Q X.xe s2) :
   wpAny (model X.prog X.w) X.A (eval a X.env) (fun v s₁ => wpAny (model X.prog X.w) X.A (eval b X.env) (fun u s₂ => wpAny (model X.prog X.w) X.A (f v u) Q X.xe s₂) X.xe s₁) X.xe s := by
 refine thn (ha pins s σ H _ I h) fun v s1 ⟨x, H1, I1, r1, q1⟩ => ?_
 refine thn (hb pins s1 σ H1 _ I1 q1) fun u s2 ⟨y, H2, I2, r2, q2⟩ => ?_
 exact hf v u s2 x y H2 I2 r1 r2 q2
theorem A9 {op : Operator} {r : R2} (ho : OpR X (binaryOp op) r) (ha : PE X a ta) (hb : PE X b tb) : PE X (.BinOp a op b pos) (tOp r ta tb) := by
 intro pins s σ H Q I h
 exact wpAny_BinOp (binT ha hb I h fun v u s2 x y H2 I2 rx ry q => ho pins s2 σ H2 x y v u Q I2 rx ry q)
theorem B1f {op : UnaryOp} {r : V -> Hp -> VK -> Prop} (ho : UnR X (unaryOp op) r) (ha : PE X a ta) : PE X (.UnaryOp op a pos) (tUn r ta) := by
 intro pins s σ H Q I h
 exact UnaryOp_ (thn (ha pins s σ H _ I h) fun v s1 ⟨x, H1, I1, r1, q1⟩ => ho pins s1 σ H1 x v Q I1 r1 q1)
theorem opI {f : Value -> Value -> Sem Value} {C : Int -> Int -> Prop} {g : Int -> Int -> Int}
   (rule : ∀ (i j : Int) (t u : Tok) (s : Shared) (Q : Value -> Shared -> Prop) (E : Value -> Shared -> Prop), C i j -> Q (.int (g i j) s.toks) { s with toks := s.toks + 1 } -> wpAny (model X.prog X.w) X.A (f (.int i t) (.int j u)) Q E s) :
   OpR X f (rI C fun i j => .int (g i j)) := by
 intro pins s σ H x y v u Q I rx ry h
 obtain ⟨i, j, rfl, rfl, hc, q⟩ := h
 obtain ⟨t, rfl⟩ := rx
 obtain ⟨t', rfl⟩ := ry
 exact rule i j t t' s _ _ hc ⟨.int (g i j), H, I.tok _, ⟨_, rfl⟩, q⟩
theorem opI0 {f : Value -> Value -> Sem Value} {g : Int -> Int -> Int}
   (rule : ∀ (i j : Int) (t u : Tok) (s : Shared) (Q : Value -> Shared -> Prop) (E : Value -> Shared -> Prop), Q (.int (g i j) s.toks) { s with toks := s.toks + 1 } -> wpAny (model X.prog X.w) X.A (f (.int i t) (.int j u)) Q E s) :
   OpR X f (rI0 fun i j => .int (g i j)) := by
 intro pins s σ H x y v u Q I rx ry h
 obtain ⟨i, j, rfl, rfl, q⟩ := h
 obtain ⟨t, rfl⟩ := rx
 obtain ⟨t', rfl⟩ := ry
 exact rule i j t t' s _ _ ⟨.int (g i j), H, I.tok _, ⟨_, rfl⟩, q⟩
theorem opB0 {f : Value -> Value -> Sem Value} {g : Int -> Int -> Bool}
   (rule : ∀ (i j : Int) (t u : Tok) (s : Shared) (Q : Value -> Shared -> Prop) (E : Value -> Shared -> Prop), Q (.bool (g i j)) s -> wpAny (model X.prog X.w) X.A (f (.int i t) (.int j u)) Q E s) :
   OpR X f (rI0 fun i j => .bl (g i j)) := by
 intro pins s σ H x y v u Q I rx ry h
 obtain ⟨i, j, rfl, rfl, q⟩ := h
 obtain ⟨t, rfl⟩ := rx
 obtain ⟨t', rfl⟩ := ry
 exact rule i j t t' s _ _ ⟨.bl (g i j), H, I, rfl, q⟩
def CPow (i j : Int) : Prop := 0 <= j /\ j <= 1000000 /\ i.natAbs < 2 ^ 64
def A2u (i j : Int) : Prop := (-(2 ^ 64) < i /\ i < 2 ^ 64) \/ (-(2 ^ 64) < j /\ j < 2 ^ 64)
theorem A2u.ok {i j : Int} (h : A2u i j) : IntMulOk i j := by
 rcases h with ⟨h1, h2⟩ | ⟨h1, h2⟩
 . exact .of_left (intBits_le_64 h1 h2)
 exact .of_right (intBits_le_64 h1 h2)
theorem J4 : OpR X (binaryOp .Add) (rI0 fun i j => .int (i + j)) := opI0 fun _ _ _ _ _ _ _ q => add_int q
theorem J8 : OpR X (binaryOp .Sub) (rI0 fun i j => .int (i - j)) := opI0 fun _ _ _ _ _ _ _ q => sub_int q
theorem J0 : OpR X (binaryOp .Mod) (rI (fun _ j => 0 < j) fun i j => .int (i % j)) := opI fun i j _ _ _ _ _ hc q => by
 have h1 : (0 : Int) < j := hc
 exact mod_int' (by omega) (by rw [Int.fmod_eq_emod_of_nonneg i (by omega)]; exact q)
theorem Y6n : OpR X (binaryOp .Pow) (rI CPow fun i j => .int (i ^ j.toNat)) := opI fun _ _ _ _ _ _ _ hc q => pow_int_small hc.1 hc.2.1 hc.2.2 q
theorem A0tn : OpR X (binaryOp .LShift) (rI CPow fun i j => .int (i * 2 ^ j.toNat)) := opI fun _ _ _ _ _ _ _ hc q => lshift_int_small hc.1 hc.2.1 hc.2.2 q
theorem unI {f : Value -> Sem Value} {g : Int -> Int}
   (rule : ∀ (i : Int) (t : Tok) (s : Shared) (Q : Value -> Shared -> Prop) (E : Value -> Shared -> Prop), Q (.int (g i) s.toks) { s with toks := s.toks + 1 } -> wpAny (model X.prog X.w) X.A (f (.int i t)) Q E s) :
   UnR X f (rU fun i => .int (g i)) := by
 intro pins s σ H x v Q I rx h
 obtain ⟨i, rfl, q⟩ := h
 obtain ⟨t, rfl⟩ := rx
 exact rule i t s _ _ ⟨.int (g i), H, I.tok _, ⟨_, rfl⟩, q⟩
theorem A4h : UnR X (unaryOp .USub) (rU fun i => .int (-i)) := unI fun _ _ _ _ _ q => neg_int q
end
def scal : V -> V -> Bool
 | .non, .non => true | .non, .int _ => true | .int _, .non => true | .non, .bl _ => true | .bl _, .non => true | .non, .str _ => true | .str _, .non => true
 | .int _, .int _ => true | .bl _, .bl _ => true | .str _, .str _ => true | .byt _, .byt _ => true
 | .int _, .str _ => true | .str _, .int _ => true | .bl _, .str _ => true | .str _, .bl _ => true
 | _, _ => false
def rEq : R2 := fun x y H Q => scal x y = true /\ Q (.bl (decide (x = y))) H
def rNe : R2 := fun x y H Q => scal x y = true /\ Q (.bl (!decide (x = y))) H
theorem V2n {i j : Int} : decide (V.int i = V.int j) = (i == j) := by
 rw [Bool.eq_iff_iff]
 simp
theorem Y6s {i j : Bool} : decide (V.bl i = V.bl j) = (i == j) := by
 rw [Bool.eq_iff_iff]
 simp
theorem dec_str {i j : Str} : decide (V.str i = V.str j) = (i == j) := by
 rw [Bool.eq_iff_iff]
 simp
theorem V3e {i j : Array UInt8} : decide (V.byt i = V.byt j) = (i.toList == j.toList) := by
 rw [Bool.eq_iff_iff]
 cases i
 cases j
 simp
section
variable {X : Cx} {a b c : Expr} {ta tb tc : TE} {pos : Pos}
theorem U8 {pins : List (Addr × Obj)} {σ : St} {H : Hp} {s : Shared} {Q : VK} {k k' : Bool} (I : Inv X pins σ H s) (q : Q (.bl k) H) (e : k = k') : EP X pins σ Q (.bool k') s := by
 subst e
 exact ⟨.bl k, H, I, rfl, q⟩
theorem G2 : OpR X (compareOp .Eq) rEq := by
 intro pins s σ H x y v u Q I rx ry h
 obtain ⟨hs, q⟩ := h
 cases x with
 | non =>
   cases rx
   cases y with
   | non => cases ry; exact PySem.EqNone.eq_none_none (U8 I q (by simp))
   | bl j => cases ry; exact PySem.EqNone.eq_none_bool (U8 I q (by simp))
   | int j => obtain ⟨t', rfl⟩ := ry; exact PySem.EqNone.eq_none_int (U8 I q (by simp))
   | str j => obtain ⟨t', rfl⟩ := ry; exact PySem.EqNone.eq_none_str (U8 I q (by simp))
   | _ => exact absurd (show false = true from hs) Bool.false_ne_true
 | bl i =>
   cases rx
   cases y with
   | non => cases ry; exact PySem.EqNone.eq_bool_none (U8 I q (by simp))
   | bl j => cases ry; exact eq_bool (U8 I q Y6s)
   | str j => obtain ⟨t', rfl⟩ := ry; exact PySem.EqMixed.eq_bool_str (U8 I q (by simp))
   | _ => exact absurd (show false = true from hs) Bool.false_ne_true
 | int i =>
   obtain ⟨t, rfl⟩ := rx
   cases y with
   | non => cases ry; exact PySem.EqNone.eq_int_none (U8 I q (by simp))
   | int j => obtain ⟨t', rfl⟩ := ry; exact eq_int (U8 I q V2n)
   | str j => obtain ⟨t', rfl⟩ := ry; exact PySem.EqMixed.eq_int_str (U8 I q (by simp))
   | _ => exact absurd (show false = true from hs) Bool.false_ne_true
 | str i =>
   obtain ⟨t, rfl⟩ := rx
   cases y with
   | non => cases ry; exact PySem.EqNone.eq_str_none (U8 I q (by simp))
   | bl j => cases ry; exact PySem.EqMixed.eq_str_bool (U8 I q (by simp))
   | int j => obtain ⟨t', rfl⟩ := ry; exact PySem.EqMixed.eq_str_int (U8 I q (by simp))
   | str j => obtain ⟨t', rfl⟩ := ry; exact eq_str (U8 I q dec_str)
   | _ => exact absurd (show false = true from hs) Bool.false_ne_true
 | byt i =>
   obtain ⟨t, rfl⟩ := rx
   cases y with
   | byt j => obtain ⟨t', rfl⟩ := ry; exact PySem.W.eq_bytes (U8 I q V3e)
   | _ => exact absurd (show false = true from hs) Bool.false_ne_true
 | _ => cases y <;> exact absurd (show false = true from hs) Bool.false_ne_true
theorem C9f : OpR X (compareOp .NotEq) rNe := by
 intro pins s σ H x y v u Q I rx ry h
 obtain ⟨hs, q⟩ := h
 cases x with
 | non =>
   cases rx
   cases y with
   | non => cases ry; exact PySem.EqNone.ne_none_none (U8 I q (by simp))
   | bl j => cases ry; exact PySem.EqNone.ne_none_bool (U8 I q (by simp))
   | int j => obtain ⟨t', rfl⟩ := ry; exact PySem.EqNone.ne_none_int (U8 I q (by simp))
   | str j => obtain ⟨t', rfl⟩ := ry; exact PySem.EqNone.ne_none_str (U8 I q (by simp))
   | _ => exact absurd (show false = true from hs) Bool.false_ne_true
 | bl i =>
   cases rx
   cases y with
   | non => cases ry; exact PySem.EqNone.ne_bool_none (U8 I q (by simp))
   | bl j => cases ry; exact ne_bool (U8 I q (congrArg not Y6s))
   | str j => obtain ⟨t', rfl⟩ := ry; exact PySem.EqMixed.ne_bool_str (U8 I q (by simp))
   | _ => exact absurd (show false = true from hs) Bool.false_ne_true
 | int i =>
   obtain ⟨t, rfl⟩ := rx
   cases y with
   | non => cases ry; exact PySem.EqNone.ne_int_none (U8 I q (by simp))
   | int j => obtain ⟨t', rfl⟩ := ry; exact ne_int (U8 I q (congrArg not V2n))
   | str j => obtain ⟨t', rfl⟩ := ry; exact PySem.EqMixed.ne_int_str (U8 I q (by simp))
   | _ => exact absurd (show false = true from hs) Bool.false_ne_true
 | str i =>
   obtain ⟨t, rfl⟩ := rx
   cases y with
   | non => cases ry; exact PySem.EqNone.ne_str_none (U8 I q (by simp))
   | bl j => cases ry; exact PySem.EqMixed.ne_str_bool (U8 I q (by simp))
   | int j => obtain ⟨t', rfl⟩ := ry; exact PySem.EqMixed.ne_str_int (U8 I q (by simp))
   | str j => obtain ⟨t', rfl⟩ := ry; exact ne_str (U8 I q (congrArg not dec_str))
   | _ => exact absurd (show false = true from hs) Bool.false_ne_true
 | byt i =>
   obtain ⟨t, rfl⟩ := rx
   cases y with
   | byt j => obtain ⟨t', rfl⟩ := ry; exact PySem.W.ne_bytes (U8 I q (congrArg not V3e))
   | _ => exact absurd (show false = true from hs) Bool.false_ne_true
 | _ => cases y <;> exact absurd (show false = true from hs) Bool.false_ne_true
theorem B6t : OpR X (compareOp .Lt) (rI0 fun i j => .bl (decide (i < j))) := opB0 fun _ _ _ _ _ _ _ q => lt_int q
theorem A0qt : OpR X (compareOp .LtE) (rI0 fun i j => .bl (decide (i <= j))) := opB0 fun _ _ _ _ _ _ _ q => le_int q
theorem A6u : OpR X (compareOp .Gt) (rI0 fun i j => .bl (decide (j < i))) := opB0 fun _ _ _ _ _ _ _ q => gt_int q
theorem D9e : OpR X (compareOp .GtE) (rI0 fun i j => .bl (decide (j <= i))) := opB0 fun _ _ _ _ _ _ _ q => ge_int q
theorem A0tg : OpR X (compareOp .Is) (fun x y H Q => y = .non /\ Q (.bl (decide (x = .non))) H) := by
 intro pins s σ H x y v u Q I rx ry h
 obtain ⟨rfl, q⟩ := h
 cases ry
 refine is_none_gen (U8 I q ?_)
 cases x <;> first
   | (cases rx; rfl)
   | (obtain ⟨t, rfl⟩ := rx; rfl)
theorem C6 (b : Expr) {op : CmpOp} (h : op ≠ .In := by decide) (h2 : op ≠ .NotIn := by decide) : behindInMarks op b = false := by
 have e1 : (op == CmpOp.In) = false := by cases op <;> first | rfl | exact absurd rfl h
 have e2 : (op == CmpOp.NotIn) = false := by cases op <;> first | rfl | exact absurd rfl h2
 cases b <;> simp [behindInMarks, e1, e2]
theorem G9 {op : CmpOp} {r : R2} (ho : OpR X (compareOp op) r) (ha : PE X a ta) (hb : PE X b tb) (hm : behindInMarks op b = false) : PE X (.Compare a [op] [b] pos) (tOp r ta tb) := by
 intro pins s σ H Q I h
 exact wpAny_Compare1 (binT ha hb I h fun v u s2 x y H2 I2 rx ry q => ho pins s2 σ H2 x y v u Q I2 rx ry q) hm
def A0zn (t : TE) : TT := fun σ H Q => t σ H fun x H' => ∃ k, x = .bl k /\ Q k H'
theorem C7 {op : CmpOp} {r : R2} (ho : OpR X (compareOp op) r) (ha : PE X a ta) (hb : PE X b tb) (hm : behindInMarks op b = false) : PT X (.Compare a [op] [b] pos) (A0zn (tOp r ta tb)) := by
 intro pins s σ H Q I h
 refine wpAny_isTrue_Compare1 (thn (ha pins s σ H _ I h) fun v s1 ⟨x, H1, I1, r1, q1⟩ => thn (hb pins s1 σ H1 _ I1 q1) fun u s2 ⟨y, H2, I2, r2, q2⟩ =>
   thn (ho pins s2 σ H2 x y v u _ I2 r1 r2 q2) fun c s3 ⟨z, H3, I3, r3, k, e, q3⟩ => ?_) hm
 subst e
 cases r3
 exact wpAny_truthy_bool ⟨H3, I3, q3⟩
theorem C7z : (sizeLine : Nat) < 2 ^ 63 := by rw [sizeLine_eq]; decide
theorem C8m {x : V} {us : List Value} (r : U2 [x] us) : ∃ u, us = [u] /\ V0 x u := by
 cases r with
 | cons r1 r2 => cases r2; exact ⟨_, rfl, r1⟩
theorem Y6r {x y : V} {us : List Value} (r : U2 [x, y] us) : ∃ u w', us = [u, w'] /\ V0 x u /\ V0 y w' := by
 cases r with
 | cons r1 r2 =>
   cases r2 with
   | cons r3 r4 => cases r4; exact ⟨_, _, rfl, r1, r3⟩
theorem A6r : A6w X (.builtin "abs") (fun xs H Q => ∃ i, xs = [.int i] /\ Q (.int (if i < 0 then -i else i)) H) := by
 intro pins s σ H xs us Q I r h
 obtain ⟨i, rfl, q⟩ := h
 obtain ⟨u, rfl, t, rfl⟩ := C8m r
 exact call_abs_int fun u tk => ⟨.int (if i < 0 then -i else i), H, I.tok _, ⟨_, rfl⟩, q⟩
theorem Y3 (hc : X.calm = true) : A6w X (.builtin "max") (fun xs H Q => ∃ i j, xs = [.int i, .int j] /\ Q (.int (if j > i then j else i)) H) := by
 intro pins s σ H xs us Q I r h
 obtain ⟨i, j, rfl, q⟩ := h
 obtain ⟨u, w', rfl, ⟨t, rfl⟩, ⟨t', rfl⟩⟩ := Y6r r
 refine max_two_ints (I.ok.hd hc) fun h' tk k => ⟨_, H, I.kept k, ?_, q⟩
 by_cases hj : j > i
 . rw [if_pos hj, if_pos hj]; exact ⟨_, rfl⟩
 rw [if_neg hj, if_neg hj]; exact ⟨_, rfl⟩
theorem A1u (hc : X.calm = true) : A6w X (.builtin "min") (fun xs H Q => ∃ i j, xs = [.int i, .int j] /\ Q (.int (if j < i then j else i)) H) := by
 intro pins s σ H xs us Q I r h
 obtain ⟨i, j, rfl, q⟩ := h
 obtain ⟨u, w', rfl, ⟨t, rfl⟩, ⟨t', rfl⟩⟩ := Y6r r
 refine min_two_ints (I.ok.hd hc) fun h' tk k => ⟨_, H, I.kept k, ?_, q⟩
 by_cases hj : j < i
 . rw [if_pos hj, if_pos hj]; exact ⟨_, rfl⟩
 rw [if_neg hj, if_neg hj]; exact ⟨_, rfl⟩
theorem A1x : A6w X (.type "int") (fun xs H Q => (∃ i, xs = [.int i] /\ Q (.int i) H) \/ ∃ k, xs = [.bl k] /\ Q (.int (if k then 1 else 0)) H) := by
 intro pins s σ H xs us Q I r h
 rcases h with ⟨i, rfl, q⟩ | ⟨k, rfl, q⟩
 . obtain ⟨u, rfl, t, rfl⟩ := C8m r
   exact call_int_int ⟨.int i, H, I, ⟨_, rfl⟩, q⟩
 obtain ⟨u, rfl, r1⟩ := C8m r
 cases r1
 exact call_int_bool ⟨.int (if k then 1 else 0), H, I.tok _, ⟨_, rfl⟩, q⟩
theorem G2k : A6w X (.type "str") (fun xs H Q => ∃ i, xs = [.int i] /\ i.natAbs.log2 < 1920 /\ Q (.str (toString i)) H) := by
 intro pins s σ H xs us Q I r h
 obtain ⟨i, rfl, hz, q⟩ := h
 obtain ⟨u, rfl, t, rfl⟩ := C8m r
 exact PySem.P.str_of_int hz ⟨.str _, H, I.tok _, ⟨_, rfl⟩, q⟩
end
structure U1s (h : Heap) (x dx C : Addr) (mA : Str -> Option Value) : Prop where
 obj : h.get? x = some (PySem.W.instObj C dx)
 ns : h.Ns1 dx mA
 ne : dx ≠ x
theorem D9c {h : Heap} {dx : Addr} {mA : Str -> Option Value} (n : h.Ns1 dx mA) : ∃ od, h.get? dx = some od /\ ∀ name, PySem.W.lookIn name od = some (mA name) := by
 obtain ⟨o, es, ep, ho, hd, hk, _, hm⟩ := n
 refine ⟨o, ho, fun name => ?_⟩
 have e := hm name
 unfold nsFind findBy at e
 rw [<- Array.find?_toList] at e
 unfold PySem.W.lookIn
 rw [hd]
 dsimp only
 split
 . rename_i y q
   rw [q] at e
   exact congrArg some e
 rename_i q
 rw [q] at e
 have a : es.toList.any (·.refKey) = false := by
   rw [List.any_eq_false]
   intro y hy
   obtain ⟨z, t, hkey⟩ := hk y (Array.mem_toList_iff.mp hy)
   simp [DictEntry.refKey, hkey]
 have a' : ¬ es.toList.any (·.refKey) = true := by rw [a]; exact Bool.false_ne_true
 rw [if_neg a']
 exact congrArg some e
theorem U1s.look {h : Heap} {x dx C : Addr} {mA : Str -> Option Value} (I : U1s h x dx C mA) : ∃ od, PySem.W.InstAt h x (PySem.W.instObj C dx) C (some od) /\ ∀ name, PySem.W.lookIn name od = some (mA name) :=
 let ⟨od, ho, hl⟩ := D9c I.ns
 ⟨od, ⟨I.obj, rfl, rfl, ho⟩, hl⟩
section
variable {prog : Program} {w : World} {A : Around} {E : Value -> Shared -> Prop} {s : Shared} {K : PySem.W.Frag} {x dx C f : Addr} {mA : Str -> Option Value} {name : Str} {v : Value}
theorem A0hp {expr : Bool} {Q : Value -> Shared -> Prop} (X : K.In s.heap) (I : U1s s.heap x dx C mA) (hg : PySem.W.plainGet K C name = true) (hh : PySem.W.hasDictIn K C = true)
   (ha : PySem.W.findIn K (.ref C) name = some none) (hv : mA name = some v) (hv' : PySem.W.handedIn v = true) (h : Q v { s with toks := s.toks + 1 }) :
   wpAny (model prog w) A (getAttr (.ref x) name expr) Q E s := by
 obtain ⟨od, J, hl⟩ := I.look
 exact PySem.W.get_value X J (PySem.W.plainGet_of hg).1 (PySem.W.findObj_own hh ha rfl (by rw [hl, hv])) hv' h
theorem Y6v {pl : Sem Bool} {Q : Value × List Value -> Shared -> Prop} (X : K.In s.heap) (I : U1s s.heap x dx C mA) (hg : PySem.W.plainGet K C name = true)
   (hf : PySem.W.findIn K (.ref C) name = some (some (.ref f))) (ht : PySem.W.isFn K (.ref f) = true) (hv : mA name = none) (h : Q (.ref f, [.ref x]) s) :
   wpAny (model prog w) A (getMethod (.ref x) name pl) Q E s := by
 obtain ⟨od, J, hl⟩ := I.look
 exact PySem.W.method_fn X J (PySem.W.plainGet_of hg).1 (PySem.W.plainGet_of hg).2 hf (beq_iff_eq.mp ht) (by show (PySem.W.lookIn name od).map (·.isSome) = some false; rw [hl, hv]; rfl) h
theorem A0gg {ns : List Str} {Q : Unit -> Shared -> Prop} (X : K.In s.heap) (I : U1s s.heap x dx C mA)
   (hs : PySem.W.findIn K (.ref C) "__setattr__" = some (some (.builtin "object.__setattr__"))) (hp : PySem.W.plainOver K C = true) (ht : PySem.W.takerIn K C name = some none) (hh : PySem.W.hasDictIn K C = true)
   (hw : PySem.Within mA ns) (hsz : ns.length <= sizeLine)
   (h : ∀ h', U1s h' x dx C (fun y => if y = name then some v else mA y) -> Heap.SameBut dx s.heap h' -> Q () { s with heap := h', toks := s.toks + 2 }) :
   wpAny (model prog w) A (setAttr (.ref x) name v) Q E s := by
 obtain ⟨od, J, hl⟩ := I.look
 refine PySem.W.set_plain X J hs (PySem.W.osa_open (s := { s with toks := s.toks + 1 }) (r := none) X J hp ht fun b => ?_)
 obtain ⟨cd, hc, hd'⟩ := PySem.W.any_some hh
 have hx : s.heap.get? x = some ⟨.ref C, some dx, .plain, #[]⟩ := I.obj
 refine wpAny_bind (wpAny_pure (wpAny_bind (wpAny_bind (wpAny_loadPart hx (wpAny_bind (PySem.W.Looks.here (s := { s with toks := s.toks + 1 }) (PySem.W.looks_clsIn X hc) ?_))))))
 rw [hd']
 refine wpAny_pure (a := some dx) (wpAny_bind (wpAny_pure (wpAny_bind ?_)))
 refine wpAny_nsSet1 (s := { s with toks := s.toks + 1 }) I.ns fun h' hn2 hs2 => ?_
 obtain ⟨oD, esD, epD, hoD, hdD, hcD⟩ := hn2.count (PySem.Within.cons name v hw)
 refine wpAny_bind (wpAny_lookBehind hoD (by rw [hdD]; exact pastItsLine_dict (Nat.le_trans hcD (by rw [List.length_cons]; omega))) ?_)
 exact wpAny_pure (h _ ⟨(hs2.2 _ (Ne.symm I.ne)).trans I.obj, hn2, I.ne⟩ hs2)
theorem J4q {R : Result -> Shared -> Prop} {vs : List Value} {kw : List (Str × Value)} (X : K.In s.heap) (hm : PySem.W.makesIn K C = true)
   (hi : PySem.W.findIn K (.ref C) "__init__" = some (some (.ref f))) (hf : PySem.W.typeIn K (.ref f) = some (.type "function"))
   (h : codeAny (model prog w) (A.under (.builtin "type.__call__" ⟨.ref C :: vs, kw⟩)) (.call (.ref f) ⟨.ref (s.heap.objs.size + 1) :: vs, kw⟩) (PySem.W.InitBack (s.heap.objs.size + 1) R)
     { s with heap := (s.heap.push PySem.W.emptyDict).push (PySem.W.instObj C s.heap.objs.size) }) :
   codeAny (model prog w) A (.call (.ref C) ⟨vs, kw⟩) R s := by
 obtain ⟨hh, g, d, t, os⟩ := s
 exact PySem.W.make_core (PySem.W.makes_of X hm) (PySem.W.looks_findIn X hi) (fun self => PySem.W.bind_fn X self hf) (.inl rfl) h
theorem V7h {R : Result -> Shared -> Prop} (X : K.In s.heap) (hm : PySem.W.makesIn K C = true)
   (hi : PySem.W.findIn K (.ref C) "__init__" = some (some (.builtin "object.__init__")))
   (hb : ∀ self, PySem.W.Looks (model prog w) s.heap (bindSpecial (.builtin "object.__init__") self) (.builtin "object.__init__", [self]))
   (h : codeAny (model prog w) (A.under (.builtin "type.__call__" ⟨[.ref C], []⟩)) (.call (.builtin "object.__init__") ⟨[.ref (s.heap.objs.size + 1)], []⟩) (PySem.W.InitBack (s.heap.objs.size + 1) R)
     { s with heap := (s.heap.push PySem.W.emptyDict).push (PySem.W.instObj C s.heap.objs.size) }) :
   codeAny (model prog w) A (.call (.ref C) ⟨[], []⟩) R s := by
 obtain ⟨hh, g, d, t, os⟩ := s
 exact PySem.W.make_core (PySem.W.makes_of X hm) (PySem.W.looks_findIn X hi) hb (.inr ⟨rfl, rfl⟩) h
end
def V6 (f : Str) (v : V) : List (Str × V) -> List (Str × V)
 | [] => [(f, v)]
 | (g, x) :: r => if g = f then (g, v) :: r else (g, x) :: V6 f v r
theorem G8 (f g : Str) (v : V) : ∀ fs : List (Str × V), (V6 f v fs).lookup g = if g = f then some v else fs.lookup g
 | [] => by
   show List.lookup g [(f, v)] = _
   by_cases h : g = f
   . have hb : (g == f) = true := beq_iff_eq.mpr h
     simp only [List.lookup, hb, if_pos h]
   . have hb : (g == f) = false := beq_eq_false_iff_ne.mpr h
     simp only [List.lookup, hb, if_neg h]
 | (k, x) :: r => by
   have ih := G8 f g v r
   rw [show V6 f v ((k, x) :: r) = (if k = f then (k, v) :: r else (k, x) :: V6 f v r) from rfl]
   by_cases hk : k = f
   . rw [if_pos hk]
     by_cases h : g = k
     . have hb : (g == k) = true := beq_iff_eq.mpr h
       simp only [List.lookup, hb, if_pos (h.trans hk)]
     . have hb : (g == k) = false := beq_eq_false_iff_ne.mpr h
       simp only [List.lookup, hb, if_neg (fun e : g = f => h (e.trans hk.symm))]
   . rw [if_neg hk]
     by_cases h : g = k
     . have hb : (g == k) = true := beq_iff_eq.mpr h
       simp only [List.lookup, hb, if_neg (fun e : g = f => hk (h.symm.trans e))]
     . have hb : (g == k) = false := beq_eq_false_iff_ne.mpr h
       simp only [List.lookup, hb]
       exact ih
theorem C1n (f : Str) (v : V) : ∀ fs : List (Str × V), f ∈ (V6 f v fs).map (·.1) /\ ∀ g, g ∈ fs.map (·.1) -> g ∈ (V6 f v fs).map (·.1)
 | [] => ⟨by simp [V6], fun g h => by simp at h⟩
 | (k, x) :: r => by
   obtain ⟨i1, i2⟩ := C1n f v r
   rw [show V6 f v ((k, x) :: r) = (if k = f then (k, v) :: r else (k, x) :: V6 f v r) from rfl]
   by_cases hk : k = f
   . rw [if_pos hk]
     subst hk
     exact ⟨by simp, fun g h => by simpa using h⟩
   . rw [if_neg hk]
     refine ⟨?_, fun g h => ?_⟩
     . rw [List.map_cons]
       exact List.mem_cons_of_mem _ i1
     . rw [List.map_cons] at h ⊢
       rcases List.mem_cons.mp h with e | e
       . exact List.mem_cons.mpr (.inl e)
       . exact List.mem_cons_of_mem _ (i2 g e)
theorem A0w (f : Str) (v : V) : ∀ fs : List (Str × V), (V6 f v fs).length <= fs.length + 1
 | [] => by simp [V6]
 | (k, x) :: r => by
   have ih := A0w f v r
   rw [show V6 f v ((k, x) :: r) = (if k = f then (k, v) :: r else (k, x) :: V6 f v r) from rfl]
   by_cases hk : k = f
   . rw [if_pos hk, List.length_cons, List.length_cons]; omega
   . rw [if_neg hk, List.length_cons, List.length_cons]; omega
theorem C7g.some_of {v : V} {o : Option Value} (r : C7g (some v) o) : ∃ u, o = some u /\ V0 v u := by
 cases o with
 | none => exact (show False from r).elim
 | some u => exact ⟨u, rfl, r⟩
theorem C7g.none_of {o : Option Value} (r : C7g none o) : o = none := by
 cases o with
 | none => rfl
 | some u => exact (show False from r).elim
theorem V6v {v : V} {u : Value} (r : V0 v u) : PySem.W.handedIn u = true := by
 cases v with
 | non => cases (show u = Value.none from r); rfl
 | bl b => cases (show u = Value.bool b from r); rfl
 | int i => obtain ⟨t, e⟩ := (show ∃ t, u = Value.int i t from r); cases e; rfl
 | str x => obtain ⟨t, e⟩ := (show ∃ t, u = Value.str x t from r); cases e; rfl
 | byt b => obtain ⟨t, e⟩ := (show ∃ t, u = Value.bytes b t from r); cases e; rfl
 | flt b => obtain ⟨t, e⟩ := (show ∃ t, u = Value.float b t from r); cases e; rfl
 | ref a => cases (show u = Value.ref a from r); rfl
 | ty n => cases (show u = Value.type n from r); rfl
section
variable {P : Program} {w : World} {H H' : Hp} {h h' : Heap} {a C dx : Addr} {fs fs' : List (Str × V)}
theorem C7m (hok : HOk P w H h) (e : H a = some (.ins C dx fs)) : ∃ mA, U1s h a dx C mA /\ (∀ f, C7g (fs.lookup f) (mA f)) /\ PySem.Within mA (fs.map (·.1)) /\ fs.length <= 1000 /\ H dx = some (.own a) := by
 obtain ⟨d, z, ne, ob, mA, n, r, q⟩ := (show A0g P w H h a (.ins C dx fs) from hok a _ e)
 exact ⟨mA, ⟨ob, n, ne⟩, r, q, z, d⟩
end
structure Cls (K : PySem.W.Frag) (C : Addr) : Prop where
 pg : PySem.W.plainGet K C Str.empty = true
 hd : PySem.W.hasDictIn K C = true
 po : PySem.W.plainOver K C = true
 sa : PySem.W.findIn K (.ref C) "__setattr__" = some (some (.builtin "object.__setattr__"))
theorem Cls.get {K : PySem.W.Frag} {C : Addr} (c : Cls K C) (f : Str) : PySem.W.plainGet K C f = true := c.pg
def Y6 (K : PySem.W.Frag) (C : Addr) (f : Str) : Prop := PySem.W.findIn K (.ref C) f = some none
theorem Y6.taker {K : PySem.W.Frag} {C : Addr} {f : Str} (n : Y6 K C f) : PySem.W.takerIn K C f = some none := by
 unfold PySem.W.takerIn
 rw [show PySem.W.findIn K (.ref C) f = some none from n]
 rfl
structure Y5 (K : PySem.W.Frag) (C : Addr) (m : Str) (f : Addr) : Prop where
 at_ : PySem.W.findIn K (.ref C) m = some (some (.ref f))
 fn : PySem.W.isFn K (.ref f) = true
 kp : PySem.W.keepIn K (.ref f) = true
section
variable {X : Cx} {pins : List (Addr × Obj)} {σ : St} {H : Hp} {s : Shared} {a C dx : Addr} {fs : List (Str × V)} {f : Str} {v : V} {A : Around} {E : Value -> Shared -> Prop}
theorem U0z {b : Bool} {Q : Value -> Shared -> Prop} (I : Inv X pins σ H s) (e : H a = some (.ins C dx fs)) (c : Cls X.K C) (n : Y6 X.K C f) (l : fs.lookup f = some v)
   (h : ∀ u s', Inv X pins σ H s' -> V0 v u -> Q u s') : wpAny (model X.prog X.w) A (getAttr (.ref a) f b) Q E s := by
 obtain ⟨mA, O, r, _, _, _⟩ := C7m I.hok e
 obtain ⟨u, hu, ru⟩ := C7g.some_of (v := v) (o := mA f) (by rw [<- l]; exact r f)
 exact A0hp I.kIn O (c.get f) c.hd n hu (V6v ru) (h u _ (I.tok _) ru)
theorem C9k {m : Str} {g : Addr} {pl : Sem Bool} {Q : Value × List Value -> Shared -> Prop} (I : Inv X pins σ H s) (e : H a = some (.ins C dx fs)) (c : Cls X.K C) (k : Y5 X.K C m g) (l : fs.lookup m = none)
   (h : Q (.ref g, [.ref a]) s) : wpAny (model X.prog X.w) A (getMethod (.ref a) m pl) Q E s := by
 obtain ⟨mA, O, r, _, _, _⟩ := C7m I.hok e
 have hn : mA m = none := C7g.none_of (by rw [<- l]; exact r m)
 exact Y6v I.kIn O (c.get m) k.at_ k.fn hn h
theorem U0r {y : V} {u : Value} {Q : Unit -> Shared -> Prop} (I : Inv X pins σ H s) (e : H a = some (.ins C dx fs)) (c : Cls X.K C) (n : Y6 X.K C f) (hl : fs.length < 1000) (ry : V0 y u)
   (h : ∀ s', Inv X pins σ (upd H a (.ins C dx (V6 f y fs))) s' -> Q () s') : wpAny (model X.prog X.w) A (setAttr (.ref a) f u) Q E s := by
 obtain ⟨mA, O, r, wi, _, ho⟩ := C7m I.hok e
 have hz : (fs.map (·.1)).length <= sizeLine := by rw [List.length_map, sizeLine_eq]; omega
 refine A0gg I.kIn O c.sa c.po n.taker c.hd wi hz fun h' O' sb => h _ ?_
 have hd : ∃ o, h'.get? dx = some o := let ⟨o, _, _, e', _⟩ := O'.ns; ⟨o, e'⟩
 refine I.write (x := a) (e := dx) (by rw [e]; exact True.intro) (.inr ho) (fun b q hb z => (sb.2 b hb).trans z) hd ?_
 refine ⟨by rw [G6 O.ne]; exact ho, ?_, O.ne, O'.obj, _, O'.ns, fun g => ?_, fun g hg => ?_⟩
 . have := A0w f y fs; omega
 . show C7g ((V6 f y fs).lookup g) (if g = f then some u else mA g)
   rw [G8]
   by_cases q : g = f
   . rw [if_pos q, if_pos q]; exact ry
   . rw [if_neg q, if_neg q]; exact r g
 by_cases q : g = f
 . rw [q]; exact (C1n f y fs).1
 refine (C1n f y fs).2 g (wi g fun z => hg ?_)
 show (if g = f then some u else mA g) = none
 rw [if_neg q]; exact z
theorem Inv.made (I : Inv X pins σ H s) : Inv X pins σ (upd (upd H s.heap.objs.size (.own (s.heap.objs.size + 1))) (s.heap.objs.size + 1) (.ins C s.heap.objs.size []))
   { s with heap := (s.heap.push PySem.W.emptyDict).push (PySem.W.instObj C s.heap.objs.size) } := by
 have e1 : (s.heap.push PySem.W.emptyDict).get? s.heap.objs.size = some PySem.W.emptyDict := Heap.get?_push_size s.heap rfl
 have e2 : ((s.heap.push PySem.W.emptyDict).push (PySem.W.instObj C s.heap.objs.size)).get? (s.heap.objs.size + 1) = some (PySem.W.instObj C s.heap.objs.size) := by
   have := Heap.get?_push_size (s.heap.push PySem.W.emptyDict) (o := PySem.W.instObj C s.heap.objs.size) rfl
   rwa [Heap.size_push] at this
 have e3 : (s.heap.push PySem.W.emptyDict).Ns s.heap.objs.size (fun _ => none) := ⟨PySem.W.emptyDict, #[], _, e1, rfl, (fun e he => absurd he (by simp)), fun _ => rfl⟩
 have I1 := I.laid (a := s.heap.objs.size) (o := .own (s.heap.objs.size + 1)) (h' := s.heap.push PySem.W.emptyDict) (t' := s.toks) (fun b u q => Heap.get?_push_of_some _ q) (Nat.le_refl _) ⟨_, e1⟩
 refine I1.laid (a := s.heap.objs.size + 1) (o := .ins C s.heap.objs.size []) (t' := s.toks) (fun b u q => Heap.get?_push_of_some _ q) (Nat.le_of_eq (Heap.size_push _ _)) ?_
 have ne : s.heap.objs.size ≠ s.heap.objs.size + 1 := Nat.ne_of_lt (Nat.lt_succ_self _)
 refine ⟨by rw [G6 ne, A7], Nat.zero_le _, ne, e2, fun _ => none, (Heap.Ns1.of_empty e3).at fun o q => Heap.get?_push_of_some _ q, fun _ => True.intro, fun y hy => absurd rfl hy⟩
theorem A0jg {prog : Program} {w : World} {env : Env} {e : Expr} {f : Str} {pos : Pos} {s : Shared} {Q : Value -> Shared -> Prop} (hb : attributeBase e f env (eval e env) = eval e env)
   (h : wpAny (model prog w) A (eval e env) (fun o s₁ => wpAny (model prog w) A (getAttr o f true) Q E s₁) E s) : wpAny (model prog w) A (eval (.Attribute e f pos) env) Q E s :=
 Attribute_any_ h (by rw [arm_eval_Attribute, hb])
end
def tFld (K : PySem.W.Frag) (ta : TE) (f : Str) : TE := fun σ H Q => ta σ H fun x H1 => ∃ a C dx fs v, x = .ref a /\ H1 a = some (.ins C dx fs) /\ Cls K C /\ Y6 K C f /\ fs.lookup f = some v /\ Q v H1
def sFld (K : PySem.W.Frag) (ta tv : TE) (f : Str) : TS := fun D σ H => tv σ H fun y H1 => ta σ H1 fun x H2 => ∃ a C dx fs, x = .ref a /\ H2 a = some (.ins C dx fs) /\ Cls K C /\ Y6 K C f /\ fs.length < 1000 /\
 D.nx σ (upd H2 a (.ins C dx (V6 f y fs)))
section
variable {X : Cx} {o e value : Expr} {f : Str} {pos pos' tpos : Pos} {ta tv : TE}
theorem D6 (he : PE X e ta) (hb : attributeBase e f X.env (eval e X.env) = eval e X.env) : PE X (.Attribute e f pos) (tFld X.K ta f) := by
 intro pins s σ H Q I h
 refine A0jg hb (thn (he pins s σ H _ I h) fun u s1 ⟨x, H1, I1, rx, a, C, dx, fs, v, ex, ea, c, n, l, q⟩ => ?_)
 subst ex
 obtain rfl : u = Value.ref a := rx
 exact U0z I1 ea c n l fun u' s2 I2 ru => ⟨v, H1, I2, ru, q⟩
theorem Z7 (ha : PE X o ta) (hv : PE X value tv) (hs : swapsWith value (some (.Attribute o f pos')) pos.line X.env = pure false) : PS X (.Assign [.Attribute o f pos'] value pos) (sFld X.K ta tv f) := by
 intro pins s σ H D I h
 refine plainObj_wpAny_Assign_Attribute (thn (hv pins s σ H _ I h) fun u s1 ⟨y, H1, I1, ry, q⟩ => thn (ha pins s1 σ H1 _ I1 q) fun ov s2 ⟨x, H2, I2, rx, a, C, dx, fs, ex, ea, c, n, l, q2⟩ => ?_) hs
 subst ex
 obtain rfl : ov = Value.ref a := rx
 exact U0r I2 ea c n l ry fun s3 I3 => ⟨σ, _, I3, q2⟩
end
section
variable {X : Cx} {pins : List (Addr × Obj)} {σ : St} {H : Hp} {s : Shared} {A : Around} {E : Value -> Shared -> Prop} {Q : Value -> Shared -> Prop} {c : Value} {b : Bool}
inductive C1x (K : PySem.W.Frag) (H : Hp) : V -> Value -> Prop where
 | non : C1x K H .non (.type "NoneType")
 | bl (x : Bool) : C1x K H (.bl x) (.type "bool")
 | int (i : Int) : C1x K H (.int i) (.type "int")
 | str (x : Str) : C1x K H (.str x) (.type "str")
 | flt (x : UInt64) : C1x K H (.flt x) (.type "float")
 | lst {a : Addr} {xs : List V} (e : H a = some (.lst xs)) : C1x K H (.ref a) (.type "list")
 | frz {a : Addr} {o : Obj} {xs : List V} (e : H a = some (.frz o (.lst xs))) : C1x K H (.ref a) (.type "list")
 | tup {a : Addr} {xs : List V} (e : H a = some (.tup xs)) : C1x K H (.ref a) (.type "tuple")
 | dK {a : Addr} {kvs : List (Key × V)} (e : H a = some (.dK kvs)) : C1x K H (.ref a) (.type "dict")
 | dT {a : Addr} {kvs : List (List Key × V)} (e : H a = some (.dT kvs)) : C1x K H (.ref a) (.type "dict")
 | ins {a C dx : Addr} {fs : List (Str × V)} (e : H a = some (.ins C dx fs)) (cl : Cls K C) (ha : PySem.W.findIn K (.ref C) "__class__" = some (some (.builtin "object.__class__")))
     (hn : PySem.W.specialIn K (.builtin "object.__class__") "__get__" = some (some (.builtin "getset_descriptor.__get__"))) (htk : PySem.W.takesIn K (.builtin "object.__class__") = some true)
     (hm : PySem.W.mroIn K C (.type "object") = some true) : C1x K H (.ref a) (.ref C)
theorem V7d {x : V} {u t : Value} (I : Inv X pins σ H s) (rx : V0 x u) (ty : C1x X.K H x t) (e : PySem.W.kitOne X.K t c = some b) (h : ∀ tk, Q (.bool b) { s with toks := tk }) :
   wpAny (model X.prog X.w) A (call (.builtin "isinstance") [u, c]) Q E s := by
 cases ty with
 | non => cases (show u = Value.none from rx); exact PySem.W.kia_one PySem.W.kitx_none I.kIn True.intro e (fun z => nomatch z) h
 | bl y => cases (show u = Value.bool y from rx); exact PySem.W.kia_one PySem.W.kitx_bool I.kIn True.intro e (fun z => nomatch z) h
 | int i => obtain ⟨t, q⟩ := (show ∃ t, u = Value.int i t from rx); cases q; exact PySem.W.kia_one PySem.W.kitx_int I.kIn True.intro e (fun z => nomatch z) h
 | str y => obtain ⟨t, q⟩ := (show ∃ t, u = Value.str y t from rx); cases q; exact PySem.W.kia_one PySem.W.kitx_str I.kIn True.intro e (fun z => nomatch z) h
 | flt y => obtain ⟨t, q⟩ := (show ∃ t, u = Value.float y t from rx); cases q; exact PySem.W.kia_one PySem.W.kitx_float I.kIn True.intro e (fun z => nomatch z) h
 | @lst a xs ea =>
   cases (show u = Value.ref a from rx)
   obtain ⟨_, _, n, _, h1⟩ := (show A0g X.prog X.w H s.heap a (.lst xs) from I.hok a _ ea)
   exact PySem.W.kia_one PySem.W.kitx_list I.kIn ⟨_, h1, rfl⟩ e (fun z => nomatch z) h
 | @frz a ob xs ea =>
   cases (show u = Value.ref a from rx)
   obtain ⟨_, _, _, n, _, h1⟩ := (show A0g X.prog X.w H s.heap a (.frz ob (.lst xs)) from I.hok a _ ea)
   exact PySem.W.kia_one PySem.W.kitx_list I.kIn ⟨_, h1, rfl⟩ e (fun z => nomatch z) h
 | @tup a xs ea =>
   cases (show u = Value.ref a from rx)
   obtain ⟨_, _, _, p⟩ := (show A0g X.prog X.w H s.heap a (.tup xs) from I.hok a _ ea)
   obtain ⟨o, h1, h2, _⟩ := p
   exact PySem.W.kia_one PySem.W.kitx_tuple I.kIn ⟨o, h1, h2⟩ e (fun z => nomatch z) h
 | @dK a kvs ea =>
   cases (show u = Value.ref a from rx)
   obtain ⟨_, _, vs, _, p⟩ := (show A0g X.prog X.w H s.heap a (.dK kvs) from I.hok a _ ea)
   obtain ⟨o, es, ep, h1, h2, _⟩ := p
   exact PySem.W.kia_one PySem.W.kitx_dict I.kIn ⟨o, h1, h2.1⟩ e (fun z => nomatch z) h
 | @dT a kvs ea =>
   cases (show u = Value.ref a from rx)
   obtain ⟨_, _, xs, _, o, es, ep, h1, h2, _⟩ := (show A0g X.prog X.w H s.heap a (.dT kvs) from I.hok a _ ea)
   exact PySem.W.kia_one PySem.W.kitx_dict I.kIn ⟨o, h1, h2.1⟩ e (fun z => nomatch z) h
 | @ins a C dx fs ea cl ha hn htk hm =>
   cases (show u = Value.ref a from rx)
   obtain ⟨mA, O, _⟩ := C7m I.hok ea
   obtain ⟨od, J, _⟩ := O.look
   exact PySem.W.kia_one (PySem.W.kitx_own (cl.get _) cl.hd ha hn htk hm) I.kIn J e (fun z => nomatch z) h
end
structure A0m (k : Nat) (A : Around) : Prop where
 hd : A.handled = none
 dp : A.depth + 3 * k + 5 < recursionLimit
 un : A.units + 16 * k + 200 < cLine
theorem A0m.mono {j k : Nat} {A : Around} (r : A0m k A) (h : j <= k) : A0m j A := ⟨r.hd, by have := r.dp; omega, by have := r.un; omega⟩
theorem A0m.deeper {k : Nat} {A : Around} (r : A0m (k + 1) A) (env : Env) : A0m k (A.deeper env) :=
 ⟨r.hd, by have := r.dp; show A.depth + 1 + 3 * k + 5 < _; omega, by have := r.un; show A.units + 3 + 16 * k + 200 < _; omega⟩
theorem U0k {A : Around} {C : Addr} {us : List Value} {kw : List (Str × Value)} : (A.under (.builtin "type.__call__" ⟨.ref C :: us, kw⟩)).depth = A.depth + 1 := by
 first | rfl | simp [Around.under, Code.weight, Code.isCreation, Code.isGuard, Code.isCaller, Code.frames, Code.isFrame, guardIds]
theorem U0p {A : Around} {C : Addr} {us : List Value} {kw : List (Str × Value)} : (A.under (.builtin "type.__call__" ⟨.ref C :: us, kw⟩)).units = A.units + 1 := by
 first | rfl | simp [Around.under, Code.cUnits, Code.frames, Code.isFrame]
theorem A0m.make {k : Nat} {A : Around} (r : A0m (k + 1) A) (C : Addr) (us : List Value) (kw : List (Str × Value)) : A0m k (A.under (.builtin "type.__call__" ⟨.ref C :: us, kw⟩)) :=
 ⟨r.hd, by have := r.dp; rw [U0k]; omega, by have := r.un; rw [U0p]; omega⟩
theorem A0m.depth {k : Nat} {A : Around} (r : A0m k A) : A.depth < recursionLimit := by have := r.dp; omega
theorem A0m.units {k : Nat} {A : Around} (r : A0m k A) : A.units + 64 < cLine := by have := r.un; omega
def Y7f : TA := fun _ H Q => Q [] H
def Y6y (ta : TE) (tr : TA) : TA := fun σ H Q => ta σ H fun x H1 => tr σ H1 fun xs H2 => Q (x :: xs) H2
section
variable {X : Cx} {e : Expr} {es : List Expr} {te : TE} {t : TA} {pos : Pos}
theorem A5 : PA X [] Y7f := fun _ _ _ _ H Q I h => Calls.spliced_nil ⟨[], H, I, .nil, h⟩
theorem A0 (ha : PE X e te) (hr : PA X es t) (hs : starEach (e :: es) X.env = (false, eval e X.env) :: starEach es X.env := by rfl) : PA X (e :: es) (Y6y te t) := by
 intro pos pins s σ H Q I h
 rw [hs]
 show wpAny _ _ (spliced ((false, eval e X.env) :: backTo pos (starEach es X.env))) _ _ s
 refine Calls.spliced_cons (thn (ha pins s σ H _ I h) fun u s1 ⟨x, H1, I1, r1, q1⟩ => ?_)
 exact thn (hr pos pins s1 σ H1 _ I1 q1) fun us s2 ⟨xs, H2, I2, r2, q2⟩ => ⟨x :: xs, H2, I2, .cons r1 r2, q2⟩
def tTup (t : TA) : TE := fun σ H Q => t σ H fun xs H1 => xs.length <= sizeLine /\ ∀ p, H1 p = none -> Q (.ref p) (upd H1 p (.tup xs))
def tLst (t : TA) : TE := fun σ H Q => t σ H fun xs H1 => xs.length <= sizeLine /\ ∀ p, H1 p = none -> Q (.ref p) (upd H1 p (.lst xs))
theorem U6 {x1} (h : PA X es t) : PE X (.Tuple es x1 pos) (tTup t) := by
 intro pins s σ H Q I hq
 refine wpAny_Tuple_spliced (thn (h pos pins s σ H _ I hq) fun us s1 ⟨xs, H1, I1, r, z, q⟩ => ⟨by rw [<- r.length]; exact z, ?_⟩)
 have hf : H1 s1.heap.objs.size = none := I1.hok.fresh (Nat.le_refl _)
 refine ⟨.ref s1.heap.objs.size, upd H1 s1.heap.objs.size (.tup xs), I1.laid (t' := s1.toks) (fun b u e => Heap.get?_push_of_some _ e) (Nat.le_refl _) ?_, rfl, q _ hf⟩
 exact ⟨z, us, r, ⟨_, Heap.get?_push_size _ rfl, rfl, _, rfl⟩⟩
theorem U4 (h : PA X es t) : PE X (.List es pos) (tLst t) := by
 intro pins s σ H Q I hq
 refine wpAny_List_spliced (thn (h pos pins s σ H _ I hq) fun us s1 ⟨xs, H1, I1, r, z, q⟩ => ⟨by rw [<- r.length]; exact z, ?_⟩)
 have hf : H1 s1.heap.objs.size = none := I1.hok.fresh (Nat.le_refl _)
 refine ⟨.ref s1.heap.objs.size, upd H1 s1.heap.objs.size (.lst xs), I1.laid (t' := s1.toks) (fun b u e => Heap.get?_push_of_some _ e) (Nat.le_refl _) ?_, rfl, q _ hf⟩
 exact ⟨z, us, 0, r, Heap.get?_push_size _ rfl⟩
end
abbrev Sp := List V -> Hp -> VK -> XK -> Prop
abbrev CXT := List Env -> Hp -> Shared -> XK -> Value -> Shared -> Prop
structure U1t (P : Program) (w : World) (K : PySem.W.Frag) (mg : Str -> Option Value) (base : Heap) (A : Around) (outer : List Env) (s : Shared) (H : Hp) : Prop where
 frames : A.frames = some outer
 mod : Mod K mg base
 bs : ∀ b o, base.get? b = some o -> s.heap.get? b = some o /\ H b = none
 bsz : base.objs.size <= s.heap.objs.size
 funs : s.heap.FunFrames base outer
 frf : ∀ b ∈ frs outer, H b = none
 hok : HOk P w H s.heap
 bare : AllBare s.gens
def CE (outer : List Env) (P : Program) (w : World) (H : Hp) (s : Shared) (Q : VK) (u : Value) (s' : Shared) : Prop :=
 ∃ v H', s'.os = s.os /\ AllBare s'.gens /\ Un (frs outer) [] H H' s.heap s'.heap /\ HOk P w H' s'.heap /\ V0 v u /\ Q v H'
def CR (CX : CXT) (outer : List Env) (P : Program) (w : World) (H : Hp) (s : Shared) (Q : VK) (E : XK) (r : Result) (s' : Shared) : Prop :=
 match r with
 | .ok (.ret u) => CE outer P w H s Q u s'
 | .ok _ => False
 | .error e => CX outer H s E e s'
structure A8 (P : Program) (w : World) (K : PySem.W.Frag) (mg : Str -> Option Value) (base : Heap) (CX : CXT) (k : Nat) (f : Addr) (fd : FuncData) (ps : List Str) (sp : Sp) : Prop where
 len : ∀ vs H Q E, sp vs H Q E -> vs.length = ps.length
 run : ∀ (A : Around) (outer : List Env) (s : Shared) (H : Hp) (args : Args) (us : List Value) (vs : List V) (Q : VK) (E : XK), A0m k A -> U1t P w K mg base A outer s H -> BindsTo s fd args (ps.zip us) -> U2 vs us -> sp vs H Q E ->
   codeAny (model P w) A (.call (.ref f) args) (CR CX outer P w H s Q E) s
theorem A8.mono {P : Program} {w : World} {K : PySem.W.Frag} {mg : Str -> Option Value} {base : Heap} {CX : CXT} {j k : Nat} {f : Addr} {fd : FuncData} {ps : List Str} {sp : Sp} (F : A8 P w K mg base CX j f fd ps sp) (h : j <= k) :
   A8 P w K mg base CX k f fd ps sp := ⟨F.len, fun A outer s H args us vs Q E hr => F.run A outer s H args us vs Q E (hr.mono h)⟩
theorem U1t.make {P : Program} {w : World} {K : PySem.W.Frag} {mg : Str -> Option Value} {base : Heap} {A : Around} {outer : List Env} {s : Shared} {H : Hp} (e : U1t P w K mg base A outer s H) (C : Addr) (us : List Value) (kw : List (Str × Value)) :
   U1t P w K mg base (A.under (.builtin "type.__call__" ⟨.ref C :: us, kw⟩)) outer s H := ⟨by first | exact e.frames | (simpa [Around.under, Code.envs, Code.isFrame, pushEnvs] using e.frames), e.mod, e.bs, e.bsz, e.funs, e.frf, e.hok, e.bare⟩
section
variable {X : Cx} {pins : List (Addr × Obj)} {σ : St} {H : Hp} {s s' : Shared}
theorem Inv.env0 (I : Inv X pins σ H s) : U1t X.prog X.w X.K X.mg X.base X.A X.stack s H :=
 ⟨I.ok.frames, I.ok.mod, I.bs, Nat.le_trans I.ok.bsz I.sz, I.stack, I.stkFree, I.hok, I.bare⟩
theorem Inv.after {Q : VK} {u : Value} (I : Inv X pins σ H s) (h : CE X.stack X.prog X.w H s Q u s') : EP X pins σ Q u s' := by
 obtain ⟨v, H', os, bare, un, hok, r, q⟩ := h
 obtain ⟨hh, g, d, t, os'⟩ := s'
 obtain rfl : os' = s.os := os
 exact ⟨v, H', I.call (h' := hh) (g' := g) (d' := d) (t' := t) (ch := []) un hok bare (fun b z => absurd z (by simp)), r, q⟩
end
def A0za (C : Addr) (sp : Sp) (dvs : List V) (E : XK) (t : TA) : TE := fun σ H Q => t σ H fun vs H1 => ∀ x dx, H1 x = none -> H1 dx = none -> dx ≠ x ->
 sp (.ref x :: (vs ++ dvs)) (upd (upd H1 dx (.own x)) x (.ins C dx [])) (fun v H2 => v = .non /\ Q (.ref x) H2) E
def Binds (K : PySem.W.Frag) (fd : FuncData) (ps : List Str) (ds : List Value) : Prop :=
 ∀ (s : Shared) (us : List Value), K.In s.heap -> (us ++ ds).length = ps.length -> BindsTo s fd ⟨us, []⟩ (ps.zip (us ++ ds))
theorem Binds.all {K : PySem.W.Frag} {fd : FuncData} {ps : List Str} (h : ∀ us : List Value, us.length = ps.length -> bindArgs fd ⟨us, []⟩ = pure (ps.zip us)) : Binds K fd ps [] := fun s us _ hl => by
 rw [List.append_nil] at hl ⊢
 exact .of_eq (h us hl)
def U0y (CX : CXT) (X : Cx) (E : XK) : Prop := ∀ (pins : List (Addr × Obj)) (σ : St) (H : Hp) (s : Shared) (e : Value) (s' : Shared), Inv X pins σ H s -> CX X.stack H s E e s' -> X.xe e s'
section
variable {X : Cx} {CX : CXT} {k : Nat} {f C : Addr} {fd : FuncData} {ps : List Str} {sp : Sp} {dvs : List V} {ds : List Value} {E : XK} {x m : Str} {p pos apos : Pos} {e o : Expr} {es : List Expr} {ta : TE} {t : TA}
structure Mk (K : PySem.W.Frag) (C f : Addr) : Prop where
 makes : PySem.W.makesIn K C = true
 init : PySem.W.findIn K (.ref C) "__init__" = some (some (.ref f))
 fn : PySem.W.isFn K (.ref f) = true
 kp : PySem.W.keepIn K (.ref C) = true
theorem Y4m {pins : List (Addr × Obj)} {σ : St} {H : Hp} {s : Shared} {Q : VK} {us : List Value} {vs : List V} (M : Mk X.K C f) (F : A8 X.prog X.w X.K X.mg X.base CX k f fd ps sp) (hr : A0m (k + 1) X.A) (hb : Binds X.K fd ps ds) (hd : U2 dvs ds)
   (hx : U0y CX X E) (I : Inv X pins σ H s) (r : U2 vs us)
   (h : ∀ x dx, H x = none -> H dx = none -> dx ≠ x -> sp (.ref x :: (vs ++ dvs)) (upd (upd H dx (.own x)) x (.ins C dx [])) (fun v H2 => v = .non /\ Q (.ref x) H2) E) :
   wpAny (model X.prog X.w) X.A (call (.ref C) us) (EP X pins σ Q) X.xe s := by
 have hq := h (s.heap.objs.size + 1) s.heap.objs.size (I.hok.fresh (Nat.le_succ _)) (I.hok.fresh (Nat.le_refl _)) (Nat.ne_of_lt (Nat.lt_succ_self _))
 have I2 := Inv.made (C := C) I
 have r2 : U2 (V.ref (s.heap.objs.size + 1) :: (vs ++ dvs)) (Value.ref (s.heap.objs.size + 1) :: (us ++ ds)) := .cons rfl (r.append hd)
 have hl : (Value.ref (s.heap.objs.size + 1) :: us ++ ds).length = ps.length := by
   have e := r2.length
   rw [F.len _ _ _ _ hq] at e
   exact e.symm
 refine wpAny_call (J4q (f := f) I.kIn M.makes M.init (beq_iff_eq.mp M.fn) (codeAny_mono (F.run _ X.stack _ _ ⟨Value.ref (s.heap.objs.size + 1) :: us, []⟩ (Value.ref (s.heap.objs.size + 1) :: (us ++ ds)) _ _ E (hr.make C us [])
   (I2.env0.make C us []) (hb _ (Value.ref (s.heap.objs.size + 1) :: us) I2.kIn hl) r2 hq) fun r s' hq' => ?_))
 cases r with
 | error e => exact hx pins σ _ _ e s' I2 hq'
 | ok fl =>
   cases fl with
   | ret u =>
     obtain ⟨v, H', I3, rv, ev, q3⟩ := I2.after hq'
     subst ev
     exact ⟨rv, ⟨V.ref (s.heap.objs.size + 1), H', I3, rfl, q3⟩⟩
   | next => exact False.elim hq'
   | brk => exact False.elim hq'
   | cont => exact False.elim hq'
theorem G1z (M : Mk X.K C f) (F : A8 X.prog X.w X.K X.mg X.base CX k f fd ps sp) (hr : A0m (k + 1) X.A) (hg : Gl X x) (hm : X.mg x = some (.ref C)) (hb : Binds X.K fd ps ds) (hd : U2 dvs ds) (hx : U0y CX X E)
   (ha : PA X (e :: es) t) (hdb : (x == ("__debug__" : Str)) = false := by decide) (he : starEach (e :: es) X.env = (false, eval e X.env) :: starEach es X.env := by rfl) (hpl : (backTo pos (starEach es X.env)).any (·.1) = false := by rfl) :
   PE X (.Call (.Name x p) (e :: es) [] pos) (A0za C sp dvs E t) := by
 intro pins s σ H Q I h
 refine wpAny_Call_Name_kw (A3m I hg hm ?_ hdb)
 refine PySem.W.callWith_K (h₀ := X.base) I.ok.mod.kin M.kp (thn (ha pos pins s σ H _ I h) fun us s1 ⟨vs, H1, I1, r, q⟩ => ⟨I1.kIn, ?_⟩) he hpl
 exact Y4m M F hr hb hd hx I1 r q
end
section
variable {X : Cx} {CX : CXT} {k : Nat} {f C : Addr} {fd : FuncData} {ps ks : List Str} {sp : Sp} {E : XK} {x m : Str} {p pos apos kpos : Pos} {e o : Expr} {es : List Expr} {kws : List Keyword} {te ta : TE} {t tk : TA} {nm : Option Str}
structure Y8k (K : PySem.W.Frag) (fd : FuncData) (ps ks : List Str) (g : List Value -> List Value -> List Value) (gV : List V -> List V -> List V) : Prop where
 to : ∀ (s : Shared) (us ws : List Value), K.In s.heap -> (g us ws).length = ps.length -> BindsTo s fd ⟨us, ks.zip ws⟩ (ps.zip (g us ws))
 rel : ∀ {vs : List V} {us : List Value} {zs : List V} {ws : List Value}, U2 vs us -> U2 zs ws -> U2 (gV vs zs) (g us ws)
variable {g : List Value -> List Value -> List Value} {gV : List V -> List V -> List V}
end
structure C5 (N P : List Str) (sc : Scope) : Prop where
 kind : sc.kind = .function
 co : sc.isCoroutine = false
 gen : sc.isGenerator = false
 nd : N.Nodup
 pre : N.take P.length = P
 par : ∀ x ∈ P, sc.names.lookup x = some .local \/ sc.names.lookup x = some .cell
 nofree : ∀ y ∈ sc.names, y.2 ≠ .free
theorem D9s {kindOf : Str -> Option NameKind} {x : Str} : ∀ {binds : List (Str × Value)} {m : Str -> Option Value}, (∀ v, (x, v) ∉ binds) -> bindL kindOf binds m x = m x
 | [], _, _ => rfl
 | (n, v) :: r, m, h => by
   unfold bindL
   rw [D9s fun w hw => h w (List.mem_cons_of_mem _ hw)]
   split
   . have : x ≠ n := by rintro rfl; exact h v List.mem_cons_self
     simp [this]
   . rfl
theorem D9q {kindOf : Str -> Option NameKind} {x : Str} : ∀ {binds : List (Str × Value)} {m : Str -> Option Value}, (∀ v, (x, v) ∉ binds) -> bindC kindOf binds m x = m x
 | [], _, _ => rfl
 | (n, v) :: r, m, h => by
   unfold bindC
   rw [D9q fun w hw => h w (List.mem_cons_of_mem _ hw)]
   split
   . rfl
   . have : x ≠ n := by rintro rfl; exact h v List.mem_cons_self
     simp [this]
theorem D9v {kindOf : Str -> Option NameKind} {x : Str} {v : Value} : ∀ {P : List Str} {vs : List Value} {i : Nat} {m : Str -> Option Value}, P.Nodup -> P[i]? = some x -> vs[i]? = some v -> kindOf x = some .local ->
   bindL kindOf (P.zip vs) m x = some v
 | [], _, _, _, _, h, _, _ => by simp at h
 | _ :: _, [], _, _, _, _, h, _ => by simp at h
 | p :: P, w :: vs, 0, m, nd, h1, h2, hk => by
   simp at h1 h2; subst h1; subst h2
   show bindL kindOf ((p, w) :: P.zip vs) m p = _
   unfold bindL
   rw [D9s fun v hv => (List.nodup_cons.mp nd).1 (List.of_mem_zip hv).1, if_pos hk]
   simp
 | p :: P, w :: vs, i + 1, m, nd, h1, h2, hk => by
   show bindL kindOf ((p, w) :: P.zip vs) m x = _
   unfold bindL
   exact D9v (i := i) (List.nodup_cons.mp nd).2 (by simpa using h1) (by simpa using h2) hk
theorem D9h {kindOf : Str -> Option NameKind} {x : Str} {v : Value} : ∀ {P : List Str} {vs : List Value} {i : Nat} {m : Str -> Option Value}, P.Nodup -> P[i]? = some x -> vs[i]? = some v -> kindOf x ≠ some .local ->
   bindC kindOf (P.zip vs) m x = some v
 | [], _, _, _, _, h, _, _ => by simp at h
 | _ :: _, [], _, _, _, _, h, _ => by simp at h
 | p :: P, w :: vs, 0, m, nd, h1, h2, hk => by
   simp at h1 h2; subst h1; subst h2
   show bindC kindOf ((p, w) :: P.zip vs) m p = _
   unfold bindC
   rw [D9q fun v hv => (List.nodup_cons.mp nd).1 (List.of_mem_zip hv).1, if_neg hk]
   simp
 | p :: P, w :: vs, i + 1, m, nd, h1, h2, hk => by
   show bindC kindOf ((p, w) :: P.zip vs) m x = _
   unfold bindC
   exact D9h (i := i) (List.nodup_cons.mp nd).2 (by simpa using h1) (by simpa using h2) hk
def B6q (N : List Str) (vs : List V) : St := vs.map some ++ List.replicate (N.length - vs.length) none
def A2a (CX : CXT) (P : Program) (w : World) (K : PySem.W.Frag) (mg : Str -> Option Value) (base : Heap) (N : List Str) (qual : Str) (scope : Scope) (f : Addr) (cd : Value) (A : Around) (outer : List Env) (s : Shared) (H : Hp) (E : XK) : Cx where
 prog := P
 w := w
 K := K
 mg := mg
 base := base
 A := A.deeper (envOfC qual scope s.heap.objs.size f cd)
 N := N
 s₀ := s
 H₀ := H
 env := envOfC qual scope s.heap.objs.size f cd
 outer := outer
 stack := envOfC qual scope s.heap.objs.size f cd :: outer
 ex := []
 calm := true
 fn := fun _ => true
 pn := []
 xe := fun e s' => wpAny (model P w) (A.deeper (envOfC qual scope s.heap.objs.size f cd)) (leaving (envOfC qual scope s.heap.objs.size f cd) e) (fun _ s'' => CX outer H s E e s'') (fun e' s'' => CX outer H s E e' s'') s'
theorem J4s {sc : Scope} {n : Nat} {x : Str} (h : sc.names.lookup x = some .cell) : ∃ c, (cellsFrom n sc.names []).lookup x = some c := by
 have q := PySem.W.cellsFrom_some sc.names n [] (.inl h)
 exact Option.isSome_iff_exists.mp q
theorem V7c {CX : CXT} {P : Program} {w : World} {K : PySem.W.Frag} {mg : Str -> Option Value} {base : Heap} {N ps : List Str} {qual : Str} {scope : Scope} {f : Addr} {cd : Value} {A : Around} {outer : List Env} {s s1 : Shared} {H : Hp} {E : XK} {us : List Value} {vs : List V}
   (S : C5 N ps scope) (hd : A.handled = none) (e0 : U1t P w K mg base A outer s H) (hl : vs.length = ps.length) (r : U2 vs us)
   (x : InCallC s s.heap.objs.size (bindL (envOfC qual scope s.heap.objs.size f cd).kindOf (ps.zip us) fun _ => none) (cellsFrom (s.heap.objs.size + 1) scope.names []) (bindC (envOfC qual scope s.heap.objs.size f cd).kindOf (ps.zip us) fun _ => none) s1) :
   Inv (A2a CX P w K mg base N qual scope f cd A outer s H E) [] (B6q N vs) H s1 := by
 have hpl : ps.length <= N.length := by have := congrArg List.length S.pre; rw [List.length_take] at this; omega
 obtain ⟨h1, tk, rfl, hk⟩ := x.done
 have noA : ∀ b : Addr, b ∉ (A2a CX P w K mg base N qual scope f cd A outer s H E).ex := fun b z => absurd (show b ∈ ([] : List Addr) from z) (by simp)
 refine ⟨⟨e0.mod, S.kind, rfl, rfl, Nat.le_refl _, fun y z c h1 h2 => ?_, fun y hy => ?_, fun y c _ h => ?_, fun _ => hd, Around.frames_deeper e0.frames, .inr ⟨rfl, rfl⟩, fun b z => absurd z (noA b), e0.bs, e0.bsz, fun b _ _ => noA b, fun b z => absurd z (noA b), e0.funs, e0.frf⟩,
   rfl, e0.bare, Un.kept hk, ⟨_, x.toInCall.ns, fun i y v h1 h2 h3 => ?_⟩, fun y c h => ⟨_, x.cell y c h⟩, e0.hok.fresh (Nat.le_refl _), fun y c h => ?_, fun p hp => absurd (show p ∈ ([] : List (Addr × Obj)) from hp) (by simp), e0.hok.kept hk, ?_⟩
 . exact name_of_addr x.apart (PySem.mem_of_lookup h1) (PySem.mem_of_lookup h2)
 . have hy : scope.names.lookup y = some .cell \/ scope.names.lookup y = some .free := hy
   rcases hy with hy | hy
   . exact J4s hy
   . exact absurd rfl (S.nofree _ (PySem.mem_of_lookup hy))
 . exact Nat.le_of_lt (x.above y c (PySem.mem_of_lookup h))
 . have hi : i < vs.length := by
     unfold B6q at h2
     by_cases hi : i < vs.length
     . exact hi
     . rw [List.getElem?_append_right (by simpa using hi)] at h2
       rw [List.getElem?_replicate] at h2
       split at h2 <;> cases h2
   have ha : vs[i]? = some v := by
     unfold B6q at h2
     rw [List.getElem?_append_left (by simpa using hi), List.getElem?_map] at h2
     cases e : vs[i]? with
     | none => rw [e] at h2; cases h2
     | some a => rw [e] at h2; cases h2; rfl
   obtain ⟨u, hu, rv⟩ := r.get ha
   have hp : ps[i]? = some y := by
     rw [<- S.pre, List.getElem?_take_of_lt (by omega)]; exact h1
   have ndP : ps.Nodup := by rw [<- S.pre]; exact S.nd.sublist (List.take_sublist _ _)
   refine ⟨u, rv, ?_⟩
   rcases S.par y (List.mem_of_getElem? hp) with k | k
   . exact .inl ⟨k, D9v ndP hp hu k⟩
   . obtain ⟨c, e⟩ := J4s (n := s.heap.objs.size + 1) k
     refine .inr ⟨.inl k, c, e, ?_⟩
     have q := x.cell y c e
     rw [D9h ndP hp hu (by show scope.names.lookup y ≠ _; rw [k]; decide)] at q
     exact q
 . exact e0.hok.fresh (Nat.le_of_lt (x.above y c (PySem.mem_of_lookup h)))
 unfold B6q
 show _ = N.length
 rw [List.length_append, List.length_map, List.length_replicate]
 omega
theorem Y5q {CX : CXT} {P : Program} {w : World} {K : PySem.W.Frag} {mg : Str -> Option Value} {base : Heap} {k : Nat} {f : Addr} {name qual : Str} {params : Arguments} {body : List Stmt} {scope : Scope} {dV kV doc pm cdv ct oc : Value} {an od : Option Addr}
   {osl : Array (Option Value)} {N ps : List Str} {sp : Sp} (lk : K.lookup f = some ⟨oc, od, .func (PySem.W.fnOf name qual params body scope dV kV doc pm an cdv ct), osl⟩) (hcd : PySem.W.codeIn K cdv qual = true) (S : C5 N ps scope)
   (len : ∀ vs H Q E, sp vs H Q E -> vs.length = ps.length)
   (hbody : ∀ (A : Around) (outer : List Env) (s : Shared) (H : Hp) (vs : List V) (Q : VK) (E : XK), A0m k (A.deeper (envOfC qual scope s.heap.objs.size f cdv)) -> sp vs H Q E ->
     ∃ t, PSs (A2a CX P w K mg base N qual scope f cdv A outer s H E) body t /\ t { nx := fun _ H' => Q .non H', rt := Q } (B6q N vs) H) :
   A8 P w K mg base CX (k + 1) f (PySem.W.fnOf name qual params body scope dV kV doc pm an cdv ct) ps sp := by
 refine ⟨len, fun A outer s H args us vs Q E hr e0 hb r hsp => ?_⟩
 have hl := len _ _ _ _ hsp
 have KX : K.In s.heap := e0.mod.kin.keeps fun b o e => (e0.bs b o e).1
 have lim : s.heap.NoLimit := e0.mod.nolimit.keeps fun b o e => (e0.bs b o e).1
 have hkind : ∀ y ∈ ps.zip us, scope.names.lookup y.1 = some .local \/ (scope.names.lookup y.1 = some .cell /\ ((cellsFrom (s.heap.objs.size + 1) scope.names []).lookup y.1).isSome = true) := fun ⟨n, v⟩ hy => by
   rcases S.par n (List.of_mem_zip hy).1 with q | q
   . exact .inl q
   . exact .inr ⟨q, PySem.W.cellsFrom_some _ _ _ (.inl q)⟩
 refine codeAny_call_function hr.depth (KX _ _ lk) rfl S.co S.gen rfl (PySem.W.codeRec_of KX hcd) (hb _ _ _ _ ?_)
 refine wpAny_newFunctionEnv_cells S.kind hkind fun env he s1 x => ?_
 subst he
 refine ⟨lim.keeps x.toInCall.keep, codeAny_func ?_⟩
 obtain ⟨t, ht, hq⟩ := hbody A outer s H vs Q E (hr.deeper _) hsp
 have I : Inv (A2a CX P w K mg base N qual scope f cdv A outer s H E) [] (B6q N vs) H s1 := V7c S hr.hd e0 hl r x
 refine wpAny_mono (ht [] s1 (B6q N vs) H _ I hq) (fun fl s' hs => ?_) fun e s' hs => hs
 have fin : ∀ {σ' : St} {H' : Hp} {v : V} {u : Value}, Inv (A2a CX P w K mg base N qual scope f cdv A outer s H E) [] σ' H' s' -> V0 v u -> Q v H' -> CE outer P w H s Q u s' :=
   fun {σ' H' v u} J rv q => ⟨v, H', J.os, J.bare, J.base, J.hok, rv, q⟩
 cases fl with
 | ret u =>
   obtain ⟨v, σ', H', J, rv, q⟩ := hs
   exact fin J rv q
 | next =>
   obtain ⟨σ', H', J, q⟩ := hs
   exact fin (v := V.non) (u := Value.none) J rfl q
 | brk =>
   obtain ⟨_, _, _, q⟩ := hs
   exact False.elim q
 | cont =>
   obtain ⟨_, _, _, q⟩ := hs
   exact False.elim q
section
variable {X : Cx} {x : Str} {p pos : Pos} {e : Expr} {es : List Expr} {t : TA} {id T : String} {r : List V -> Hp -> VK -> Prop}
def tCB (r : List V -> Hp -> VK -> Prop) (t : TA) : TE := fun σ H Q => t σ H fun vs H1 => r vs H1 Q
theorem J3 (hc : A6w X (.builtin id) r) (hg : Gl X x) (hm : X.mg x = none) (hv : bootBuiltins x = some (.builtin id)) (ha : PA X (e :: es) t) (hn : x ≠ "__name__" := by decide) (hdb : (x == ("__debug__" : Str)) = false := by decide)
   (he : starEach (e :: es) X.env = (false, eval e X.env) :: starEach es X.env := by rfl) (hpl : (backTo pos (starEach es X.env)).any (·.1) = false := by rfl) : PE X (.Call (.Name x p) (e :: es) [] pos) (tCB r t) := by
 intro pins s σ H Q I h
 refine wpAny_Call_Name_kw (G1x I hg hm hv ?_ hn hdb)
 exact PyProof.Rows.callWith_builtin1 (thn (ha pos pins s σ H _ I h) fun us s1 ⟨vs, H1, I1, r1, q1⟩ => hc pins s1 σ H1 vs us Q I1 r1 q1) he hpl
theorem A0k (hc : A6w X (.type T) r) (hg : Gl X x) (hm : X.mg x = none) (hv : bootBuiltins x = some (.type T)) (ha : PA X (e :: es) t) (hn : x ≠ "__name__" := by decide) (hdb : (x == ("__debug__" : Str)) = false := by decide)
   (he : starEach (e :: es) X.env = (false, eval e X.env) :: starEach es X.env := by rfl) (hpl : (backTo pos (starEach es X.env)).any (·.1) = false := by rfl) : PE X (.Call (.Name x p) (e :: es) [] pos) (tCB r t) := by
 intro pins s σ H Q I h
 refine wpAny_Call_Name_kw (G1x I hg hm hv ?_ hn hdb)
 exact PyProof.Rows.callWith_type1 (thn (ha pos pins s σ H _ I h) fun us s1 ⟨vs, H1, I1, r1, q1⟩ => hc pins s1 σ H1 vs us Q I1 r1 q1) he hpl
end
end L2
namespace HT
open PySem PyProof.Rows
section
open PySem.SeqAt
open PySem.AutoSeq1 (wpAny_loadPart')
open PySem.MeetsSeq PySem.MeetsSeq2 PySem.MeetsSeq3
end
section
variable {prog : Program} {w : World} {A : Around} {E : Value -> Shared -> Prop} {s : Shared}
end
end HT
namespace L2
open PySem PySem.Spec PyProof.Rows
section
variable {X : Cx} {e : Expr} {te : TE} {lo hi : Option Expr} {tl th : TO} {pos p2 : Pos}
end
def ixN (n : Nat) (i : Int) : Option Nat := if 0 <= i then (if i < n then some i.toNat else none) else if -(n : Int) <= i then some (i + n).toNat else none
def atI {α : Type} (xs : List α) (i : Int) : Option α := (ixN xs.length i).bind fun j => xs[j]?
theorem V3v {n : Nat} {i : Int} {j : Nat} (h : ixN n i = some j) : seqIndex? i n = some j /\ j < n /\ -(n : Int) <= i /\ i < n := by
 unfold ixN at h
 by_cases h0 : 0 <= i
 . rw [if_pos h0] at h
   by_cases h1 : i < n
   . rw [if_pos h1] at h
     have e : i.toNat = j := Option.some.inj h
     exact ⟨by rw [seqIndex_of h0 h1, e], by omega, by omega, h1⟩
   . rw [if_neg h1] at h; cases h
 rw [if_neg h0] at h
 by_cases h1 : -(n : Int) <= i
 . rw [if_pos h1] at h
   have e : (i + n).toNat = j := Option.some.inj h
   exact ⟨by rw [seqIndex_neg (by omega) h1, e], by omega, h1, by omega⟩
 rw [if_neg h1] at h; cases h
theorem V2m {α : Type} {xs : List α} {i : Int} {v : α} (h : atI xs i = some v) : ∃ j, seqIndex? i xs.length = some j /\ xs[j]? = some v /\ j < xs.length /\ -(xs.length : Int) <= i /\ i < xs.length := by
 unfold atI at h
 cases e : ixN xs.length i with
 | none => rw [e] at h; cases h
 | some j =>
   rw [e] at h
   obtain ⟨h1, h2, h3, h4⟩ := V3v e
   exact ⟨j, h1, h, h2, h3, h4⟩
theorem B8 {α : Type} {xs : List α} {j : Nat} {v : α} (h : xs[j]? = some v) : atI xs (j : Int) = some v := by
 have hj : j < xs.length := (List.getElem?_eq_some_iff.mp h).1
 have e : ixN xs.length (j : Int) = some j := by
   unfold ixN
   rw [if_pos (by omega), if_pos (by omega)]; simp
 unfold atI; rw [e]; exact h
def A0jk (b : Expr) : Prop := ∀ o i, subscripted b false o i = operate [o, i] (getItem o i)
def IxR (X : Cx) (r : R2) : Prop :=
 ∀ (value slice : Expr) (pins : List (Addr × Obj)) (s : Shared) (σ : St) (H : Hp) (x y : V) (v u : Value) (Q : VK), Inv X pins σ H s -> V0 x v -> V0 y u -> r x y H Q ->
   subscripted slice false v u = operate [v, u] (getItem v u) -> wpAny (model X.prog X.w) X.A (subscriptTail value slice v u) (EP X pins σ Q) X.xe s
def MtR (X : Cx) (id : String) (r : V -> List V -> Hp -> VK -> Prop) : Prop :=
 ∀ (pins : List (Addr × Obj)) (s : Shared) (σ : St) (H : Hp) (x : V) (xs : List V) (v : Value) (us : List Value) (Q : VK), Inv X pins σ H s -> V0 x v -> U2 xs us -> r x xs H Q ->
   wpAny (model X.prog X.w) X.A (call (.builtin id) (v :: us)) (EP X pins σ Q) X.xe s
section
variable {X : Cx} {a b : Expr} {ta tb : TE} {pos : Pos}
theorem D9 {r : R2} (hr : IxR X r) (ha : PE X a ta) (hb : PE X b tb) (hs : A0jk b) : PE X (.Subscript a b pos) (tOp r ta tb) := by
 intro pins s σ H Q I h
 exact Subscript_ (binT ha hb I h fun v u s2 x y H2 I2 rx ry q => hr a b pins s2 σ H2 x y v u Q I2 rx ry q (hs _ _))
def rIxL (K : PySem.W.Frag) : R2 := fun x y H Q => ∃ p xs i v, x = .ref p /\ y = .int i /\ SqL K H p xs /\ atI xs i = some v /\ Q v H
def rIxT (K : PySem.W.Frag) : R2 := fun x y H Q => ∃ p xs i v, x = .ref p /\ y = .int i /\ SqT K H p xs /\ atI xs i = some v /\ Q v H
theorem U5 : IxR X (rIxL X.K) := by
 intro value slice pins s σ H x y v u Q I rx ry h hs
 obtain ⟨p, xs, i, z, rfl, rfl, hq, he, q⟩ := h
 cases rx
 obtain ⟨t, rfl⟩ := ry
 obtain ⟨its, r, pl, hz⟩ := I.list hq
 obtain ⟨j, h1, h2, h3, h4, h5⟩ := V2m he
 obtain ⟨w, ew, rw'⟩ := r.get h2
 have hl := r.length
 have hn := C7z
 have fin : EP X pins σ Q w s := ⟨z, H, I, rw', q⟩
 by_cases h0 : 0 <= i
 . have hj : i.toNat = j := by
     rw [seqIndex_of h0 h5] at h1
     exact Option.some.inj h1
   exact item_listR pl.isList h0 (by omega) (by rw [hj]; simpa using ew) fin hs
 have hj : (i + (its.toArray.size : Int)).toNat = j := by
   rw [seqIndex_neg (by omega) h4] at h1
   rw [List.size_toArray, <- hl]
   exact Option.some.inj h1
 exact subscriptTail_builtinR (x := w) pl.isList.typeIs slot_list_getitem.lookup
   (wpAny_getItem_list_neg (Q := fun r s' => r = w /\ EP X pins σ Q r s') pl.isList (by omega) (by rw [List.size_toArray] <;> omega) (by omega) (by rw [hj]; simpa using ew) ⟨rfl, fin⟩) hs
theorem G3 : IxR X (rIxT X.K) := by
 intro value slice pins s σ H x y v u Q I rx ry h hs
 obtain ⟨p, xs, i, z, rfl, rfl, hq, he, q⟩ := h
 cases rx
 obtain ⟨t, rfl⟩ := ry
 obtain ⟨its, r, pl, hz⟩ := I.tuple hq
 obtain ⟨j, h1, h2, h3, h4, h5⟩ := V2m he
 obtain ⟨w, ew, rw'⟩ := r.get h2
 have hl := r.length
 have hn := C7z
 have fin : EP X pins σ Q w s := ⟨z, H, I, rw', q⟩
 exact subscriptTail_builtinR (x := w) pl.typeIs slot_tuple_getitem.lookup
   (getItem_tuple (j := j) (Q := fun r s' => r = w /\ EP X pins σ Q r s') pl (by omega) (by omega) (by rw [List.size_toArray, <- hl]; exact h1) (by simpa using ew) ⟨rfl, fin⟩) hs
theorem J9u (its : List Value) (n j : Nat) (u : Value) : Obj.mapSeq (·.setIfInBounds j u) { cls := .type "list", data := .seq its.toArray n } = { cls := .type "list", data := .seq (its.set j u).toArray n } := by
 simp [Obj.mapSeq]
theorem Inv.lst {pins : List (Addr × Obj)} {σ : St} {H : Hp} {s : Shared} {p : Addr} {xs : List V} (I : Inv X pins σ H s) (h : H p = some (.lst xs)) :
   ∃ (its : List Value) (n : Nat), U2 xs its /\ s.heap.get? p = some { cls := .type "list", data := .seq its.toArray n } /\ xs.length <= sizeLine := by
 obtain ⟨z, its, n, r, e⟩ := I.hok p _ h
 exact ⟨its, n, r, e, z⟩
theorem Inv.lstUpd {pins : List (Addr × Obj)} {σ : St} {H : Hp} {s : Shared} {p : Addr} {xs ys : List V} {its its' : List Value} {n n' : Nat} {f : Obj -> Obj} (I : Inv X pins σ H s) (h : H p = some (.lst xs))
   (ho : s.heap.get? p = some { cls := .type "list", data := .seq its.toArray n }) (hf : f { cls := .type "list", data := .seq its.toArray n } = { cls := .type "list", data := .seq its'.toArray n' }) (r : U2 ys its') (hz : ys.length <= sizeLine) (t : Nat) :
   Inv X pins σ (upd H p (.lst ys)) { s with heap := s.heap.update p f, toks := t } := by
 have e : (s.heap.update p f).get? p = some { cls := .type "list", data := .seq its'.toArray n' } := by
   rw [Heap.get?_update_self f ho (by rw [hf] <;> rfl), hf]
 refine I.write (x := p) (e := p) (by rw [h]; trivial) (.inl rfl) (fun b u hb q => (Heap.get?_update_other _ _ (Ne.symm hb)).trans q) ⟨_, e⟩ ?_
 exact ⟨hz, its', n', r, e⟩
def A0yk : V -> V -> V -> Hp -> (Hp -> Prop) -> Prop := fun o i v H Q => ∃ p xs k j, o = .ref p /\ i = .int k /\ H p = some (.lst xs) /\ ixN xs.length k = some j /\ Q (upd H p (.lst (xs.set j v)))
theorem C9v : PSet X A0yk := by
 intro pins s σ H o i v ov iv u Q I ro ri rv h
 obtain ⟨p, xs, k, j, rfl, rfl, hp, hj, q⟩ := h
 cases ro
 obtain ⟨t, rfl⟩ := ri
 obtain ⟨its, n, r, ho, hz⟩ := I.lst hp
 obtain ⟨h1, h2, h3, h4⟩ := V3v hj
 have hl := r.length
 have hn := C7z
 have I' : Inv X pins σ (upd H p (.lst (xs.set j v))) { s with heap := s.heap.update p (Obj.mapSeq (·.setIfInBounds j u)) } :=
   I.lstUpd hp ho (J9u its n j u) (r.set rv j) (by rw [List.length_set]; exact hz) s.toks
 by_cases h0 : 0 <= k
 . have hk : k.toNat = j := by
     rw [seqIndex_of h0 h4] at h1
     exact Option.some.inj h1
   exact PySem.W.ki_setAt ho h0 (by omega) (by rw [List.size_toArray, <- hl]; exact h4) (by rw [hk]; exact ⟨_, I', q⟩)
 have hk : (k + (its.toArray.size : Int)).toNat = j := by
   rw [seqIndex_neg (by omega) h3] at h1
   rw [List.size_toArray, <- hl]
   exact Option.some.inj h1
 exact PySem.W.ki_setBack ho (by omega) (by rw [List.size_toArray, <- hl]; exact h3) (by omega) (by rw [hk]; exact ⟨_, I', q⟩)
def C0k : V -> Bool
 | .non => true
 | .bl _ => true
 | .int _ => true
 | .str _ => true
 | _ => false
def eqV : V -> V -> Bool
 | .non, .non => true
 | .bl a, .bl b => a == b
 | .bl a, .int b => (if a then 1 else 0) == b
 | .int a, .bl b => a == (if b then 1 else 0)
 | .int a, .int b => a == b
 | .str a, .str b => a == b
 | _, _ => false
theorem A0tr {A : Around} {s : Shared} {y x : V} {u v : Value} (ry : V0 y u) (rx : V0 x v) (fy : C0k y = true) (fx : C0k x = true) : SeqAt.EqAt A s u v (eqV y x) := by
 cases y with
 | non =>
   cases ry
   cases x with
   | non => cases rx; exact SeqAt.EqAt.same _
   | bl b => cases rx; exact SeqAt.EqAt.none_bool b
   | int b => obtain ⟨t, rfl⟩ := rx; exact SeqAt.EqAt.none_int b t
   | str b => obtain ⟨t, rfl⟩ := rx; exact SeqAt.EqAt.none_str b t
   | _ => exact absurd (show false = true from fx) Bool.false_ne_true
 | bl a =>
   cases ry
   cases x with
   | non => cases rx; exact SeqAt.EqAt.bool_none a
   | bl b => cases rx; exact SeqAt.EqAt.bool_bool a b
   | int b => obtain ⟨t, rfl⟩ := rx; exact SeqAt.EqAt.bool_int a b t
   | str b => obtain ⟨t, rfl⟩ := rx; exact SeqAt.EqAt.bool_str a b t
   | _ => exact absurd (show false = true from fx) Bool.false_ne_true
 | int a =>
   obtain ⟨t', rfl⟩ := ry
   cases x with
   | non => cases rx; exact SeqAt.EqAt.int_none a t'
   | bl b => cases rx; exact SeqAt.EqAt.int_bool a t' b
   | int b => obtain ⟨t, rfl⟩ := rx; exact SeqAt.EqAt.int_int a t' b t
   | str b => obtain ⟨t, rfl⟩ := rx; exact SeqAt.EqAt.int_str a t' b t
   | _ => exact absurd (show false = true from fx) Bool.false_ne_true
 | str a =>
   obtain ⟨t', rfl⟩ := ry
   cases x with
   | non => cases rx; exact SeqAt.EqAt.str_none a t'
   | bl b => cases rx; exact SeqAt.EqAt.str_bool a t' b
   | int b => obtain ⟨t, rfl⟩ := rx; exact SeqAt.EqAt.str_int a t' b t
   | str b => obtain ⟨t, rfl⟩ := rx; exact SeqAt.EqAt.str_str a t' b t
   | _ => exact absurd (show false = true from fx) Bool.false_ne_true
 | _ => exact absurd (show false = true from fy) Bool.false_ne_true
def eqU (x : V) (u : Value) : Bool := match u with
 | .none => eqV .non x
 | .bool b => eqV (.bl b) x
 | .int i _ => eqV (.int i) x
 | .str z _ => eqV (.str z) x
 | _ => false
theorem Y6m {x y : V} {u : Value} (r : V0 y u) (f : C0k y = true) : eqU x u = eqV y x := by
 cases y with
 | non => cases r; rfl
 | bl b => cases r; rfl
 | int i => obtain ⟨t, rfl⟩ := r; rfl
 | str z => obtain ⟨t, rfl⟩ := r; rfl
 | _ => exact absurd (show false = true from f) Bool.false_ne_true
theorem C0e {x : V} : ∀ {xs : List V} {us : List Value}, U2 xs us -> xs.all C0k = true -> us.any (eqU x) = xs.any fun y => eqV y x
 | _, _, .nil, _ => rfl
 | y :: xs, u :: us, .cons r t, f => by
   rw [List.all_cons, Bool.and_eq_true] at f
   rw [List.any_cons, List.any_cons, Y6m r f.1, C0e t f.2]
theorem B1e {A : Around} {s : Shared} {x : V} {v : Value} (rx : V0 x v) (fx : C0k x = true) : ∀ {xs : List V} {us : List Value}, U2 xs us -> xs.all C0k = true -> ∀ u ∈ us, SeqAt.EqAt A s u v (eqU x u)
 | _, _, .nil, _ => fun u hu => by cases hu
 | y :: xs, u :: us, .cons r t, f => fun u' hu => by
   rw [List.all_cons, Bool.and_eq_true] at f
   rcases List.mem_cons.mp hu with rfl | hu
   . rw [Y6m r f.1]; exact A0tr r rx f.1 fx
   . exact B1e rx fx t f.2 u' hu
def inV (x : V) (xs : List V) : Bool := xs.any fun y => eqV y x
def rIn (K : PySem.W.Frag) (neg : Bool) : R2 := fun x y H Q => ∃ p xs, y = .ref p /\ (SqL K H p xs \/ SqT K H p xs) /\ C0k x = true /\ xs.all C0k = true /\ Q (.bl (if neg then !inV x xs else inV x xs)) H
theorem A4c : OpR X (compareOp .In) (rIn X.K false) := by
 intro pins s σ H x y v u Q I rx ry h
 obtain ⟨p, xs, rfl, hq, fx, fs, q⟩ := h
 cases ry
 rcases hq with hq | hq
 . obtain ⟨its, r, pl, hz⟩ := I.list hq
   refine SeqAt.in_listAt (eqU x) pl.isList (fun w hw => B1e rx fx r fs w (by simpa using hw)) ⟨.bl _, H, I, rfl, ?_⟩
   rw [show its.toArray.any (eqU x) = its.any (eqU x) by simp, C0e r fs]
   exact q
 obtain ⟨its, r, pl, hz⟩ := I.tuple hq
 refine SeqAt.in_tupleAt (eqU x) pl (fun w hw => B1e rx fx r fs w (by simpa using hw)) ⟨.bl _, H, I, rfl, ?_⟩
 rw [show its.toArray.any (eqU x) = its.any (eqU x) by simp, C0e r fs]
 exact q
theorem G2h : OpR X (compareOp .NotIn) (rIn X.K true) := by
 intro pins s σ H x y v u Q I rx ry h
 obtain ⟨p, xs, rfl, hq, fx, fs, q⟩ := h
 cases ry
 rcases hq with hq | hq
 . obtain ⟨its, r, pl, hz⟩ := I.list hq
   refine SeqAt.notIn_listAt (eqU x) pl.isList (fun w hw => B1e rx fx r fs w (by simpa using hw)) ⟨.bl _, H, I, rfl, ?_⟩
   rw [show its.toArray.any (eqU x) = its.any (eqU x) by simp, C0e r fs]
   exact q
 obtain ⟨its, r, pl, hz⟩ := I.tuple hq
 refine SeqAt.notIn_tupleAt (eqU x) pl (fun w hw => B1e rx fx r fs w (by simpa using hw)) ⟨.bl _, H, I, rfl, ?_⟩
 rw [show its.toArray.any (eqU x) = its.any (eqU x) by simp, C0e r fs]
 exact q
theorem G1q : A6w X (.builtin "len") (fun xs H Q => ∃ p ys, xs = [.ref p] /\ (SqL X.K H p ys \/ SqT X.K H p ys) /\ Q (.int ys.length) H) := by
 intro pins s σ H xs us Q I r h
 obtain ⟨p, ys, rfl, hq, q⟩ := h
 obtain ⟨u, rfl, rx⟩ := C8m r
 cases rx
 have hn := C7z
 rcases hq with hq | hq
 . obtain ⟨its, r', pl, hz⟩ := I.list hq
   have hlen := r'.length
   exact Calls.call_len_list pl.isList (by simp only [List.size_toArray] <;> omega) ⟨.int ys.length, H, I.tok _, ⟨s.toks + 1, by rw [List.size_toArray, hlen]⟩, q⟩
 obtain ⟨its, r', pl, hz⟩ := I.tuple hq
 have hlen := r'.length
 exact len_tuple pl (by simp only [List.size_toArray] <;> omega) ⟨.int ys.length, H, I.tok _, ⟨s.toks + 1, by rw [List.size_toArray, hlen]⟩, q⟩
theorem G1r : A6w X (.builtin "len") (fun xs H Q => ∃ z, xs = [.str z] /\ z.length <= sizeLine /\ Q (.int z.length) H) := by
 intro pins s σ H xs us Q I r h
 obtain ⟨z, rfl, hz, q⟩ := h
 obtain ⟨u, rfl, t, rfl⟩ := C8m r
 have hn := C7z
 exact len_str (by omega) ⟨.int z.length, H, I.tok _, ⟨_, rfl⟩, q⟩
theorem G2d : A6w X (.type "list") (fun xs H Q => ∃ p ys, xs = [.ref p] /\ (SqL X.K H p ys \/ SqT X.K H p ys) /\ ∀ l, H l = none -> Q (.ref l) (upd H l (.lst ys))) := by
 intro pins s σ H xs us Q I r h
 obtain ⟨p, ys, rfl, hq, q⟩ := h
 obtain ⟨u, rfl, rx⟩ := C8m r
 cases rx
 have fin : ∀ (its : List Value), U2 ys its -> ys.length <= sizeLine -> ∀ (h' : Heap) (c' : Nat), (∀ b o', s.heap.get? b = some o' -> h'.get? b = some o') ->
     h'.get? s.heap.objs.size = some { cls := .type "list", dict := none, data := .seq its.toArray c', slots := #[] } -> EP X pins σ Q (.ref s.heap.objs.size) { s with heap := h' } := fun its r' hz h' c' kp e =>
   ⟨.ref s.heap.objs.size, _, I.laid (t' := s.toks) kp (Nat.le_refl _) (show A0g X.prog X.w _ h' _ (.lst ys) from ⟨hz, its, c', r', e⟩), rfl, q _ (I.hok.fresh (Nat.le_refl _))⟩
 rcases hq with hq | hq
 . obtain ⟨its, r', pl, hz⟩ := I.list hq
   have hlen := r'.length
   obtain ⟨o, ho, hc, n, hd⟩ := pl.isList
   exact call_list_seq p (.inl rfl) ho hc hd (fun h' c' kp e => fin its r' hz h' c' kp e) (by simp only [List.size_toArray] <;> omega)
 obtain ⟨its, r', pl, hz⟩ := I.tuple hq
 have hlen := r'.length
 obtain ⟨o, ho, hc, n, hd⟩ := pl
 exact call_list_seq p (.inr rfl) ho hc hd (fun h' c' kp e => fin its r' hz h' c' kp e) (by simp only [List.size_toArray] <;> omega)
def tyV (K : PySem.W.Frag) (T : String) (x : V) (H : Hp) : Prop := match x with
 | .str _ => T = "str"
 | .int _ => T = "int"
 | .ref p => (T = "list" /\ ∃ xs, SqL K H p xs) \/ (T = "tuple" /\ ∃ o, K.lookup p = some o /\ o.cls = .type "tuple" /\ o.dict = none) \/
     (T = "dict" /\ ((∃ kvs, H p = some (.dK kvs)) \/ ∃ kvs, H p = some (.dT kvs))) \/ (T = "set" /\ ∃ S n, H p = some (.set S n))
 | _ => False
theorem Y7h {pins : List (Addr × Obj)} {σ : St} {H : Hp} {s : Shared} {T : String} {x : V} {v : Value} (I : Inv X pins σ H s) (r : V0 x v) (ty : tyV X.K T x H) :
   s.TypeIs v T /\ ∀ a, v = .ref a -> ∃ ob, s.heap.get? a = some ob /\ ob.dict = none := by
 cases x with
 | str z =>
   obtain ⟨t, rfl⟩ := r
   cases (show T = "str" from ty)
   exact ⟨typeIs_str s z t, fun _ e => nomatch e⟩
 | int i =>
   obtain ⟨t, rfl⟩ := r
   cases (show T = "int" from ty)
   exact ⟨typeIs_int s i t, fun _ e => nomatch e⟩
 | ref p =>
   cases r
   rcases ty with ⟨rfl, xs, hq⟩ | ⟨rfl, o, hk, hc, hd⟩ | ⟨rfl, hk⟩ | ⟨rfl, S, n, hk⟩
   . obtain ⟨its, _, pl, _⟩ := I.list hq
     refine ⟨pl.isList.typeIs, fun a e => ?_⟩
     cases e
     obtain ⟨o, n, e, c, hd, _⟩ := pl
     exact ⟨o, e, hd⟩
   . refine ⟨⟨o, I.kIn p o hk, hc⟩, fun a e => ?_⟩
     cases e
     exact ⟨o, I.kIn _ o hk, hd⟩
   . have z : ∃ o, s.heap.get? p = some o /\ o.ExactDict := by
       rcases hk with ⟨kvs, hk⟩ | ⟨kvs, hk⟩
       . obtain ⟨_, _, _, _, o, _, _, e, ex, _⟩ := I.hok p _ hk
         exact ⟨o, e, ex⟩
       . obtain ⟨_, _, _, _, o, _, _, e, ex, _⟩ := I.hok p _ hk
         exact ⟨o, e, ex⟩
     obtain ⟨o, e, ex⟩ := z
     refine ⟨⟨o, e, ex.1⟩, fun a e2 => ?_⟩
     cases e2
     exact ⟨o, e, ex.2.1⟩
   . obtain ⟨o, _, _, _, e, ex, _⟩ := I.hok p _ hk
     refine ⟨⟨o, e, ex.1⟩, fun a e2 => ?_⟩
     cases e2
     exact ⟨o, e, ex.2.1⟩
 | _ => exact False.elim ty
def tBM0 (K : PySem.W.Frag) (T : String) (r : V -> List V -> Hp -> VK -> Prop) (to : TE) : TE := fun σ H Q => to σ H fun x H1 => tyV K T x H1 /\ r x [] H1 Q
def tBM (K : PySem.W.Frag) (T : String) (r : V -> List V -> Hp -> VK -> Prop) (to : TE) (t : TA) : TE := fun σ H Q => to σ H fun x H1 => tyV K T x H1 /\ t σ H1 fun xs H2 => r x xs H2 Q
variable {o e : Expr} {es : List Expr} {to : TE} {t : TA} {name : Str} {apos cpos : Pos} {T id : String} {r : V -> List V -> Hp -> VK -> Prop}
theorem Y7p (pa : PlainAttrs T) (slot : Slot T name id) (hty : typeOf (.builtin id) = pure (.type "method_descriptor")) (hm : MtR X id r) (ho : PE X o to)
   (hbase : attributeBase o name X.env (eval o X.env) = eval o X.env := by rfl) (hline : (apos.endLine == cpos.line) = true := by rfl) : PE X (.Call (.Attribute o name apos) [] [] cpos) (tBM0 X.K T r to) := by
 intro pins s σ H Q I h
 refine wpAny_Call_method0_late hbase hline (thn (ho pins s σ H _ I h) fun v s1 ⟨x, H1, I1, r1, ty, q1⟩ => ?_)
 obtain ⟨h1, h2⟩ := Y7h I1 r1 ty
 exact ⟨T, id, pa, slot, hty, h1, h2, Calls.callWith_builtin rfl (PySem.evalArgs_none (hm pins s1 σ H1 x [] v [] Q I1 r1 .nil q1))⟩
theorem A0xy (pa : PlainAttrs T) (slot : Slot T name id) (hty : typeOf (.builtin id) = pure (.type "method_descriptor")) (hm : MtR X id r) (ho : PE X o to) (ha : PA X (e :: es) t)
   (hbase : attributeBase o name X.env (eval o X.env) = eval o X.env := by rfl)
   (hfew : ((backTo cpos (starEach (e :: es) X.env)).all (fun x => !x.1) && (backToKw cpos (keywordEach [] X.env)).all (fun x => x.1.isSome)
     && decide ((e :: es).length + ([] : List Keyword).length + (if ([] : List Keyword).isEmpty then 0 else 1) < 30)) = true := by rfl)
   (hline : (apos.endLine == cpos.line) = true := by rfl) (hs : starEach (e :: es) X.env = (false, eval e X.env) :: starEach es X.env := by rfl) (hplain : (backTo cpos (starEach es X.env)).any (·.1) = false := by rfl) :
   PE X (.Call (.Attribute o name apos) (e :: es) [] cpos) (tBM X.K T r to t) := by
 intro pins s σ H Q I h
 refine wpAny_Call_method_late hbase hfew hline rfl (thn (ho pins s σ H _ I h) fun v s1 ⟨x, H1, I1, r1, ty, q1⟩ => ?_)
 obtain ⟨h1, h2⟩ := Y7h I1 r1 ty
 refine ⟨T, id, pa, slot, hty, h1, h2, ?_⟩
 have hA := ha cpos pins s1 σ H1 _ I1 q1
 rw [hs] at hA ⊢
 refine Calls.callWith_builtin (by show (false || (backTo cpos (starEach es X.env)).any (·.1)) = false; rw [hplain] <;> rfl) (Calls.evalArgs_plain ?_)
 exact thn hA fun us s2 ⟨vs, H2, I2, r2, q2⟩ => hm pins s2 σ H2 x vs v us Q I2 r1 r2 q2
end
def MtM (X : Cx) (id : String) (r : V -> List V -> Hp -> VK -> Prop) : Prop :=
 ∀ (pins : List (Addr × Obj)) (s : Shared) (σ : St) (H : Hp) (x : V) (xs : List V) (v : Value) (us : List Value) (Q : VK), Inv X pins σ H s -> V0 x v -> U2 xs us -> r x xs H Q ->
   wpAny (model X.prog X.w) X.A (call (.builtin id) (v :: us)) (EP X pins σ Q) X.xe s
theorem U2.one : ∀ {x : V} {us : List Value}, U2 [x] us -> ∃ u, us = [u] /\ V0 x u
 | _, _, .cons r .nil => ⟨_, rfl, r⟩
theorem U2.two : ∀ {x y : V} {us : List Value}, U2 [x, y] us -> ∃ u v, us = [u, v] /\ V0 x u /\ V0 y v
 | _, _, _, .cons r (.cons q .nil) => ⟨_, _, rfl, r, q⟩
theorem U2.rep {xs : List V} {us : List Value} (h : U2 xs us) : ∀ k : Nat, U2 (List.replicate k xs).flatten (List.replicate k us).flatten
 | 0 => .nil
 | k + 1 => by
   rw [List.replicate_succ, List.replicate_succ, List.flatten_cons, List.flatten_cons]
   exact U2.append h (U2.rep h k)
theorem D9b (its : List Value) : ∀ (k : Nat) (acc : List Value),
   List.foldl (fun x1 x2 => x1 ++ x2) acc.toArray (List.replicate k its.toArray) = (acc ++ (List.replicate k its).flatten).toArray
 | 0, acc => by simp
 | k + 1, acc => by
   have e : acc.toArray ++ its.toArray = (acc ++ its).toArray := by simp
   have e2 : (acc ++ its) ++ (List.replicate k its).flatten = acc ++ (List.replicate (k + 1) its).flatten := by
     rw [List.replicate_succ, List.flatten_cons, List.append_assoc]
   rw [<- e2, <- D9b its k (acc ++ its), <- e, List.replicate_succ, List.foldl_cons]
section
variable {X : Cx} {pins : List (Addr × Obj)} {σ : St} {H : Hp} {s : Shared} {l b : Addr} {xs ys zs : List V}
theorem Inv.lset {its its' : List Value} {n : Nat} {f : Array Value -> Array Value} {t' : Nat} (I : Inv X pins σ H s) (hH : H l = some (.lst xs))
   (e : s.heap.get? l = some { cls := .type "list", data := .seq its.toArray n }) (hf : f its.toArray = its'.toArray) (hv : U2 ys its') (hz : ys.length <= sizeLine) :
   Inv X pins σ (upd H l (.lst ys)) { s with heap := s.heap.update l (Obj.mapSeq f), toks := t' } := by
 have q := PySem.IsL.update e f
 rw [hf] at q
 refine I.write (x := l) (e := l) (by rw [hH]; exact trivial) (.inl rfl) (fun b' u hb hu => (Heap.get?_update_other s.heap (Obj.mapSeq f) (Ne.symm hb)).trans hu) ⟨_, q⟩ ?_
 exact ⟨hz, its', _, hv, q⟩
theorem Inv.lnew {its : List Value} {t' : Nat} (I : Inv X pins σ H s) (hv : U2 ys its) (hz : ys.length <= sizeLine) :
   Inv X pins σ (upd H s.heap.objs.size (.lst ys)) { s with heap := s.heap.push { cls := .type "list", data := .seq its.toArray }, toks := t' } :=
 I.laid (fun _ _ q => Heap.get?_push_of_some _ q) (Nat.le_refl _) ⟨hz, its, 0, hv, Heap.get?_push_size _ rfl⟩
theorem Inv.fresh (I : Inv X pins σ H s) : H s.heap.objs.size = none := I.hok.fresh (Nat.le_refl _)
theorem Inv.lstM (I : Inv X pins σ H s) (hH : H l = some (.lst xs)) : xs.length <= sizeLine /\ ∃ (its : List Value) (n : Nat), U2 xs its /\ xs.length = its.length /\ s.heap.get? l = some { cls := .type "list", data := .seq its.toArray n } := by
 obtain ⟨z, its, n, r, e⟩ := I.hok l _ hH
 exact ⟨z, its, n, r, r.length, e⟩
theorem Y5r {n : Nat} (h : n <= sizeLine) : Builtin.List.listTooLong n = false := by
 unfold Builtin.List.listTooLong
 exact decide_eq_false (by omega)
end
section
variable {X : Cx}
def A0jj : V -> List V -> Hp -> VK -> Prop := fun x vs H Q => ∃ l xs y, x = .ref l /\ vs = [y] /\ H l = some (.lst xs) /\ xs.length < sizeLine /\ Q .non (upd H l (.lst (xs ++ [y])))
theorem B5s : MtM X "list.append" A0jj := by
 intro pins s σ H x vs v us Q I rx rv h
 obtain ⟨l, xs, y, rfl, rfl, hH, hz, q⟩ := h
 cases rx
 obtain ⟨u, rfl, ru⟩ := rv.one
 obtain ⟨z, its, n, r, hl, e⟩ := I.lstM hH
 refine call_meets F.slot_list_append ⟨_, e, rfl⟩ F.entry_list_append (F.args_list_append_2 _ _) (PySem.list_append l its.toArray n u (by rw [List.size_toArray]; omega)) ⟨e, ?_⟩
 refine ⟨.non, _, I.lset (its' := its ++ [u]) hH e (by simp) (r.append (.cons ru .nil)) ?_, rfl, q⟩
 rw [List.length_append, List.length_singleton]
 omega
def rCat : R2 := fun x y H Q => ∃ l b xs zs, x = .ref l /\ y = .ref b /\ H l = some (.lst xs) /\ H b = some (.lst zs) /\ xs.length + zs.length <= sizeLine /\ ∀ p, H p = none -> Q (.ref p) (upd H p (.lst (xs ++ zs)))
theorem G2a : OpR X (binaryOp .Add) rCat := by
 intro pins s σ H x y v u Q I rx ry h
 obtain ⟨l, b, xs, zs, rfl, rfl, hH, hB, hz, q⟩ := h
 cases rx
 cases ry
 obtain ⟨z, its, n, r, hl, e⟩ := I.lstM hH
 obtain ⟨z2, its2, n2, r2, hl2, e2⟩ := I.lstM hB
 refine PySem.P.add_list e e2 ?_ (by rw [List.size_toArray, List.size_toArray]; omega)
 have ea : its.toArray ++ its2.toArray = (its ++ its2).toArray := by simp
 rw [ea]
 exact ⟨.ref _, _, I.lnew (t' := s.toks) (r.append r2) (by rw [List.length_append]; omega), rfl, q _ I.fresh⟩
def rRep : R2 := fun x y H Q => ∃ l k xs, x = .ref l /\ y = .int k /\ H l = some (.lst xs) /\ -(2 ^ 63) <= k /\ k < 2 ^ 63 /\ xs.length * k.toNat <= sizeLine /\
 ∀ p, H p = none -> Q (.ref p) (upd H p (.lst (List.replicate k.toNat xs).flatten))
theorem A0jd {α : Type} (xs : List α) (k : Nat) : (List.replicate k xs).flatten.length = k * xs.length := by
 induction k with
 | zero => simp
 | succ k ih => rw [List.replicate_succ, List.flatten_cons, List.length_append, ih, Nat.succ_mul, Nat.add_comm]
theorem Y7v : OpR X (binaryOp .Mult) rRep := by
 intro pins s σ H x y v u Q I rx ry h
 obtain ⟨l, k, xs, rfl, rfl, hH, h1, h2, hz, q⟩ := h
 cases rx
 obtain ⟨t, rfl⟩ := ry
 obtain ⟨z, its, n, r, hl, e⟩ := I.lstM hH
 have hlen : its.toArray.size * k.toNat <= sizeLine := by rw [List.size_toArray, <- hl]; exact hz
 have hcap : ¬ its.toArray.size * k.toNat > (2 ^ 63 - 1) / 8 := by
   have : (sizeLine : Nat) <= (2 ^ 63 - 1) / 8 := by decide
   omega
 have hfit : ¬ (!Builtin.List.listFitsIndex k) = true := by
   rw [fitsIndex_both h1 h2]
   exact Bool.false_ne_true
 have hlong : ¬ Builtin.List.listTooLong (its.toArray.size * k.toNat) = true := by
   rw [Y5r hlen]
   exact Bool.false_ne_true
 have hnew : List.foldl (fun x1 x2 => x1 ++ x2) #[] (List.replicate (if its.toArray.isEmpty = true then 0 else k.toNat) its.toArray) = (List.replicate k.toNat its).flatten.toArray := by
   have f0 : ∀ m : Nat, List.foldl (fun x1 x2 => x1 ++ x2) #[] (List.replicate m its.toArray) = (List.replicate m its).flatten.toArray := fun m => by
     have := D9b its m []
     rw [List.nil_append] at this
     exact this
   rw [f0]
   cases its with
   | nil => simp
   | cons a r' => rw [if_neg (by simp)]
 refine wpAny_binaryOp_repeat_ref (T := "list") (U := "int") (by decide) ⟨_, e, rfl⟩ (fun s' => typeIs_int s' k t) noFill_list_mul F.fills_int_mul F.slot_int_rmul repeat_list F.slot_int_index.lookup
   (call_meets F.slot_int_rmul (typeIs_int s k t) F.entry_int_rmul (F.args_int_rmul_2 _ _) (int___rmul___int_list k t l its.toArray n)
     ⟨e, rfl, ⟨_, e, rfl⟩, call_meets F.slot_list_mul ⟨_, e, rfl⟩ F.entry_list_mul (F.args_list_mul_2 _ _) (AutoListH.list___mul___list_int_3 l its.toArray n k t hfit hcap hlong) ⟨e, ?_⟩⟩)
 rw [hnew]
 exact ⟨.ref _, _, I.lnew (t' := s.toks) (r.rep k.toNat) (by rw [A0jd, Nat.mul_comm]; exact hz), rfl, q _ I.fresh⟩
end
section
variable {prog : Program} {w : World} {A : Around} {E : Value -> Shared -> Prop} {s : Shared}
end
section
variable {X : Cx}
end
end L2
namespace Att
open PySem PySem.W PySem.Calls PyProof.Rows
theorem C7c {P : Params} {h : Heap} : ∀ (ns : List Int) (vs : List Value), WellAll P h vs (ns.map WData.int) -> IntsAre vs ns := by
 intro ns
 induction ns with
 | nil =>
   intro vs w
   rw [List.map_nil] at w
   cases w
   exact .nil
 | cons n ns ih =>
   intro vs w
   rw [List.map_cons] at w
   cases w with
   | cons a b =>
     cases a
     exact .cons _ _ (ih _ b)
theorem V5t {l : OpenLaw} {n : Nat} (hn : l.most = some n) {P : Params} {h : Heap} {args : List WData} {vals : List Value}
   (hpre : l.row.toRowW.claim.pre args = true) (hwl : WellAll P h vals args) :
   ∃ a vs ns, vals = [Value.ref a] /\ args = [WData.list (ns.map WData.int)] /\ h.get? a = some { cls := .type "list", data := .seq vs.toArray } /\ IntsAre vs ns /\ ns.length <= n := by
 have hsh : WShape.hasAll [] args [.list .int] = true := (pre_splitW hpre).1
 have hc : l.pre.holds [] { args := args } = true := (pre_splitW hpre).2
 obtain ⟨d, r, rfl, h1, h2⟩ := hasAllW_cons hsh
 obtain rfl := hasAllW_nil h2
 obtain ⟨xs, rfl, h3⟩ := hasW_list h1
 obtain ⟨ns, rfl⟩ := items_int h3
 have hlen : ns.length <= n := by
   unfold OpenLaw.pre at hc
   have h4 : (WTm.not (.lt (.lit (.int (n : Int))) (.len (.arg 0)))).holds [] { args := [.list (ns.map .int)] } = true := by
     have h4 := (holds_andW hc).1
     rw [hn] at h4
     exact h4
   have h5 := condW_of h4 (w_not (w_lt w_lit (w_len_list (w_arg rfl))))
   rw [List.length_map] at h5
   refine Nat.le_of_not_lt fun q => ?_
   have q' : (n : Int) < ((ns.length : Nat) : Int) := by omega
   first
     | (rw [decide_eq_true q'] at h5; exact absurd h5 (by decide))
     | (simp at h5; omega)
 cases hwl with
 | cons w1 w2 =>
   cases w2
   cases w1 with
   | list ho hall => exact ⟨_, _, ns, rfl, rfl, ho, C7c ns _ hall, hlen⟩
theorem V5z (l : OpenLaw) (args : List WData) : l.row.toRowW.claim.post args (.bool true) args = true :=
 postW_of (r := l.row.toRowW) (X := (true == true))
   (show WShape.has [] (.bool true) .bool = true by first | rfl | decide | simp [WShape.has, WShape.arms, WShape.armsAll])
   (show (WTm.eq .res (.lit (.bool true))).value [] { args := args, res := some (.bool true), after := args } = some (.bool (true == true)) from w_eq_bool (w_res rfl) w_lit) rfl
theorem attach_call {l : OpenLaw} {n : Nat} {q : Program} {loose : List Str} {XP : (Str -> Option Value) -> Heap -> Prop} {YP : World -> Heap -> Prop} {d : DefRec}
   (hn : l.most = some n) (hdf : d.params.defaults = [])
   (call : ∀ (w : World) (s₀ s₁ : Shared) (mg mb : Str -> Option Value) (fa : Addr) (o : Obj) (pm cd doc : Value) (a : Addr) (vs : List Value) (ns : List Int),
     Ground q loose [] XP w s₀ mg mb s₁.heap -> YP w s₁.heap ->
     s₁.heap.get? fa = some o -> o.data = .func (docDef d.name d.params d.body d.scope pm cd doc) -> s₁.heap.CodeRec cd d.name -> mg d.name = some (.ref fa) ->
     s₁.heap.get? a = some { cls := .type "list", data := .seq vs.toArray } -> IntsAre vs ns -> ns.length <= n -> s₁.gens = #[] ->
     codeAny (model l.prog w) callerA (.call (.ref fa) ⟨[.ref a], []⟩) (fun r s' => r = .ok (.ret (.bool true)) /\ OldK s₁.heap s'.heap /\ s'.os = s₁.os /\ AllBare s'.gens) s₁) :
   WalkO q loose XP YP l.row.toRowW d [] (fun f vs => PySem.call f vs) := by
 intro w s₀ s₁ mg mb G Y fa o pm cd doc dV kV ho hd hcd hD hmg hg args vals as hpre hlay hrd hwl hlo
 obtain rfl : dV = .none := Dflts.none hD hdf
 obtain rfl : kV = .none := Dflts.noKw hD
 obtain ⟨a, vs, ns, rfl, rfl, hobj, hints, hlen⟩ := V5t hn hpre hwl
 refine enter_call (codeAny_mono (call w s₀ s₁ mg mb fa o pm cd doc a vs ns G Y ho (fd_plain hd) hcd hmg hobj hints hlen hg) fun r s' hq => ?_)
 obtain ⟨rfl, h2, h3, h4⟩ := hq
 exact ⟨.inl ⟨.bool true, .bool true, [], rfl, fun _ => rfl, .bool true, V5z l _, fun _ => ⟨List.Pairwise.nil, fun _ hm => (nomatch hm)⟩⟩, h2, h3, h4⟩
section
variable {prog : Program} {w : World} {A : Around} {E : Value -> Shared -> Prop} {s : Shared} {K : Frag}
end
end Att
namespace L2
open PySem PySem.Spec PyProof.Rows
theorem D8z : ∀ {vs : List Value} {ns : List Int}, IntsAre vs ns -> U2 (ns.map V.int) vs
 | _, _, .nil => .nil
 | _, _, .cons n t h => .cons ⟨t, rfl⟩ (D8z h)
def Only (H : Hp) : Prop := ∀ b, H b = none \/ ∃ o xs, H b = some (.frz o (.lst xs))
theorem Y4p {P : Program} {w : World} {K : PySem.W.Frag} {mg mb : Str -> Option Value} {CX : CXT} {k : Nat} {fa a : Addr} {fd : FuncData} {x : Str} {sp : Sp} {s₁ : Shared} {vs : List Value} {ns : List Int}
   (KX : K.In s₁.heap) (hns : s₁.heap.Ns mainGlobals mg) (hb : s₁.heap.Ns builtinsNs mb) (hbb : ∀ x : Str, x ≠ "__name__" -> mb x = bootBuiltins x) (hlim : s₁.heap.NoLimit) (hg : s₁.gens = #[])
   (ha : s₁.heap.get? a = some { cls := .type "list", data := .seq vs.toArray }) (hi : IntsAre vs ns) (hl : ns.length <= sizeLine) (hr : A0m k callerA)
   (F : ∀ base : Heap, K.In base -> base.Ns mainGlobals mg -> A8 P w K mg base CX k fa fd [x] sp) (hbind : ∀ (s : Shared) (u : Value), BindsTo s fd ⟨[u], []⟩ [(x, u)])
   (hsp : ∀ H : Hp, Only H -> SqL K H a (ns.map V.int) -> sp [.ref a] H (fun v _ => v = .bl true) fun _ _ _ => False)
   (hCX : ∀ H e s', CX [] H s₁ (fun _ _ _ => False) e s' -> False) :
   codeAny (model P w) callerA (.call (.ref fa) ⟨[.ref a], []⟩) (fun r s' => r = .ok (.ret (.bool true)) /\ OldK s₁.heap s'.heap /\ s'.os = s₁.os /\ AllBare s'.gens) s₁ := by
 have rv := D8z hi
 have lenV := hi.length
 have core : ∀ H : Hp, Only H -> SqL K H a (ns.map V.int) -> HOk P w H s₁.heap -> (∀ b, H b ≠ none -> b = a) -> (H a ≠ none -> K.lookup a = none) ->
     codeAny (model P w) callerA (.call (.ref fa) ⟨[.ref a], []⟩) (fun r s' => r = .ok (.ret (.bool true)) /\ OldK s₁.heap s'.heap /\ s'.os = s₁.os /\ AllBare s'.gens) s₁ := by
   intro H hO hS hok hA hK
   have base_of : ∀ {b : Addr} {o : Obj}, s₁.heap.get? b = some o -> H b = none -> (G2c s₁.heap H).get? b = some o := fun e n => Y6q e n
   have noA : ∀ {b : Addr} {o : Obj} {es : Array DictEntry} {ep : Nat}, s₁.heap.get? b = some o -> o.data = .dict es ep -> H b = none := fun {b o es ep} e d => by
     cases q : H b with
     | none => rfl
     | some u =>
       have e' : b = a := hA b (by rw [q]; simp)
       subst e'
       rw [ha] at e; cases e
       have d' : Data.seq vs.toArray _ = Data.dict es ep := d
       cases d'
   have nsK : ∀ {b : Addr} {m : Str -> Option Value}, s₁.heap.Ns b m -> (G2c s₁.heap H).Ns b m := fun {b m} ⟨o, es, ep, e, d, r⟩ => ⟨o, es, ep, base_of e (noA e d), d, r⟩
   have hKb : K.In (G2c s₁.heap H) := fun b o e => base_of (KX b o e) (by
     cases q : H b with
     | none => rfl
     | some u =>
       have e' : b = a := hA b (by rw [q]; simp)
       subst e'
       rw [hK (by rw [q]; simp)] at e; cases e)
   have hM : Mod K mg (G2c s₁.heap H) := ⟨hKb, nsK hns, ⟨mb, nsK hb, hbb⟩, let ⟨mc, h1, h2⟩ := hlim; ⟨mc, nsK h1, h2⟩⟩
   have e0 : U1t P w K mg (G2c s₁.heap H) callerA [] s₁ H := ⟨rfl, hM, fun b o e => A0hy e, Nat.le_of_eq (V7w _ _), trivial, fun b hb => absurd (show b ∈ ([] : List Addr) from hb) (by simp), hok, .of_eq hg⟩
   refine codeAny_mono ((F _ hKb (nsK hns)).run callerA [] s₁ H ⟨[.ref a], []⟩ [.ref a] [.ref a] _ _ hr e0 (hbind s₁ (.ref a)) (.cons rfl .nil) (hsp H hO hS)) fun r s' h => ?_
   cases r with
   | error e => exact (hCX H e s' h).elim
   | ok fl =>
     cases fl with
     | next => exact False.elim h
     | brk => exact False.elim h
     | cont => exact False.elim h
     | ret u =>
       obtain ⟨v, H', os, bare, un, hok', r', q⟩ := h
       have q' : v = .bl true := q
       subst q'
       obtain rfl : u = Value.bool true := r'
       refine ⟨rfl, OldK.of_keep fun b o e => ?_, os, bare⟩
       cases q : H b with
       | none => exact un.keep b o e q (by intro z; exact absurd (show b ∈ ([] : List Addr) from z) (by simp)) (by simp)
       | some u =>
         rcases hO b with z | ⟨ob, xs, z⟩
         . rw [q] at z; cases z
         . have z2 := un.frzs b ob _ z
           obtain ⟨e1, _⟩ := hok b _ z
           obtain ⟨e2, _⟩ := hok' b _ z2
           rw [e] at e1; cases e1
           exact e2
 cases hk : K.lookup a with
 | some o =>
   have e := KX a o hk
   rw [ha] at e
   cases e
   refine core (fun _ => none) (fun _ => .inl rfl) (.inr ⟨_, vs.toArray, _, hk, rfl, rfl, rfl, by rw [List.size_toArray, lenV]; exact hl, by simpa using rv⟩) (fun b u z => by have z' : (none : Option HO) = some u := z; cases z') (fun b z => absurd rfl z) fun z => absurd rfl z
 | none =>
   refine core (fun b => if b = a then some (.frz { cls := .type "list", data := .seq vs.toArray } (.lst (ns.map V.int))) else none) (fun b => ?_) (.inl (.inr ⟨{ cls := .type "list", data := .seq vs.toArray }, if_pos rfl⟩)) (fun b u z => ?_) (fun b z => ?_) fun _ => hk
   . by_cases hb : b = a
     . exact .inr ⟨_, _, if_pos hb⟩
     . exact .inl (if_neg hb)
   . by_cases hb : b = a
     . have z' := (if_pos hb).symm.trans z
       cases z'
       subst hb
       exact ⟨ha, by rw [List.length_map]; exact hl, vs, _, rv, ha⟩
     . have z' := (if_neg hb).symm.trans z
       cases z'
   . by_cases hb : b = a
     . exact hb
     . exact absurd (if_neg hb) z
theorem walk_of {l : PySem.W.OpenLaw} {n k : Nat} {q : Program} {loose : List Str} {XP : (Str -> Option Value) -> Heap -> Prop} {YP : World -> Heap -> Prop} {d : DefRec} {K : Params -> PySem.W.Frag} {CX : World -> CXT} {sp : World -> Sp} {x : Str}
   (hn : l.most = some n) (hn2 : n <= sizeLine) (hdf : d.params.defaults = []) (hr : A0m k callerA)
   (hY : ∀ (w : World) (h : Heap), YP w h -> (K w.params).In h)
   (F : ∀ (w : World) (mg : Str -> Option Value) (fa : Addr) (h : Heap), (K w.params).In h -> h.Ns mainGlobals mg -> mg d.name = some (.ref fa) ->
     ∃ fd : FuncData, (∀ (s : Shared) (u : Value), BindsTo s fd ⟨[u], []⟩ [(x, u)]) /\
       ∀ base : Heap, (K w.params).In base -> base.Ns mainGlobals mg -> A8 l.prog w (K w.params) mg base (CX w) k fa fd [x] (sp w))
   (hsp : ∀ (w : World) (H : Hp) (a : Addr) (ns : List Int), ns.length <= n -> Only H -> SqL (K w.params) H a (ns.map V.int) -> sp w [.ref a] H (fun v _ => v = .bl true) fun _ _ _ => False)
   (hCX : ∀ (w : World) (H : Hp) (s : Shared) (e : Value) (s' : Shared), CX w [] H s (fun _ _ _ => False) e s' -> False) :
   PySem.W.WalkO q loose XP YP l.row.toRowW d [] (fun f vs => PySem.call f vs) := by
 refine Att.attach_call hn hdf fun w s₀ s₁ mg mb fa o pm cd doc a vs ns G Y ho hd hcd hmg hobj hints hlen hg => ?_
 have KX := hY w _ Y
 obtain ⟨fd, hb, hF⟩ := F w mg fa _ KX G.T.g hmg
 exact Y4p KX G.T.g G.T.b G.T.builtins G.T.nolimit hg hobj hints (Nat.le_trans hlen hn2) hr hF hb (fun H hO hS => hsp w H a ns hlen hO hS) fun H e s' => hCX w H s₁ e s'
def J2 (s : Stmt) (j : Nat) : Stmt := match s with
 | .ClassDef _ _ _ body _ _ _ _ _ _ _ => body.getD j (.Pass ⟨0, 0, 0, 0⟩)
 | _ => .Pass ⟨0, 0, 0, 0⟩
def B9 (s : Stmt) : Arguments := match s with
 | .FunctionDef _ a _ _ _ _ _ _ _ _ => a
 | _ => { posonlyargs := [], args := [], vararg := none, kwonlyargs := [], kw_defaults := [], kwarg := none, defaults := [] }
def B7 (s : Stmt) : List Stmt := match s with
 | .FunctionDef _ _ b _ _ _ _ _ _ _ => b
 | _ => []
def A2 (s : Stmt) : Scope := match s with
 | .FunctionDef _ _ _ _ _ _ sc _ _ _ => sc
 | _ => { kind := .function, names := [], isGenerator := false, isCoroutine := false }
abbrev CX0 : CXT := fun _ _ _ _ _ _ => False
abbrev E0 : XK := fun _ _ _ => False
theorem Y4j {X : Cx} : U0y CX0 X E0 := fun _ _ _ _ _ _ _ h => h.elim
structure Fun (K : PySem.W.Frag) (x qual : Str) (st : Stmt) (f : Addr) (fd : FuncData) : Prop where
 ex : ∃ (oc : Value) (od : Option Addr) (kV doc pm : Value) (an : Option Addr) (cdv ct : Value) (osl : Array (Option Value)),
   fd = PySem.W.fnOf x qual (B9 st) (B7 st) (A2 st) .none kV doc pm an cdv ct /\ K.lookup f = some ⟨oc, od, .func fd, osl⟩ /\ PySem.W.codeIn K cdv qual = true
 kp : PySem.W.keepIn K (.ref f) = true
section
variable {P : Program} {w : World} {K : PySem.W.Frag} {mg : Str -> Option Value} {base : Heap}
theorem Fun.ok {x qual : Str} {st : Stmt} {f : Addr} {fd : FuncData} {N ps : List Str} {k : Nat} {sp : Sp} (F : Fun K x qual st f fd) (S : C5 N ps (A2 st)) (len : ∀ vs H Q E, sp vs H Q E -> vs.length = ps.length)
   (hbody : ∀ (cdv : Value) (A : Around) (outer : List Env) (s : Shared) (H : Hp) (vs : List V) (Q : VK) (E : XK), A0m k (A.deeper (envOfC qual (A2 st) s.heap.objs.size f cdv)) -> sp vs H Q E ->
     ∃ t, PSs (A2a CX0 P w K mg base N qual (A2 st) f cdv A outer s H E).nox (B7 st) t /\ t { nx := fun _ H' => Q .non H', rt := Q } (B6q N vs) H) : A8 P w K mg base CX0 (k + 1) f fd ps sp := by
 obtain ⟨oc, od, kV, doc, pm, an, cdv, ct, osl, rfl, lk, hcd⟩ := F.ex
 refine Y5q lk hcd S len fun A outer s H vs Q E hr hsp => ?_
 obtain ⟨t, h, q⟩ := hbody cdv A outer s H vs Q E hr hsp
 exact ⟨t, h.nox, q⟩
theorem Fun.binds {x qual : Str} {st : Stmt} {f : Addr} {fd : FuncData} {ps : List Str} (F : Fun K x qual st f fd)
   (h : ∀ (kV doc pm : Value) (an : Option Addr) (cdv ct : Value) (us : List Value), us.length = ps.length -> bindArgs (PySem.W.fnOf x qual (B9 st) (B7 st) (A2 st) .none kV doc pm an cdv ct) ⟨us, []⟩ = pure (ps.zip us)) : Binds K fd ps [] := by
 obtain ⟨oc, od, kV, doc, pm, an, cdv, ct, osl, rfl, lk, hcd⟩ := F.ex
 exact .all (h kV doc pm an cdv ct)
theorem U3 {x qual : Str} {st : Stmt} {f : Addr} {oc : Value} {od an : Option Addr} {osl : Array (Option Value)} {kV doc pm cdv ct : Value} (l : K.lookup f = some ⟨oc, od, .func (PySem.W.fnOf x qual (B9 st) (B7 st) (A2 st) .none kV doc pm an cdv ct), osl⟩)
   (c : PySem.W.codeIn K cdv qual = true) (k : PySem.W.keepIn K (.ref f) = true) : Fun K x qual st f (PySem.W.fnOf x qual (B9 st) (B7 st) (A2 st) .none kV doc pm an cdv ct) := ⟨⟨oc, od, kV, doc, pm, an, cdv, ct, osl, rfl, l, c⟩, k⟩
end
theorem A0y {n : Nat} (h : n <= 1000) : n < sizeLine := Nat.lt_of_le_of_lt h (by decide)
section
variable {X : Cx}
theorem pv (i : Nat) {x : Str} {pos : Pos} (hN : X.N[i]? = some x := by rfl) (hv : Vis X.env.scope x := by first | exact Or.inl rfl | exact Or.inr (Or.inl rfl) | exact Or.inr (Or.inr rfl)) (hd : (x == ("__debug__" : Str)) = false := by decide)
   (hcd : (x == ("__classdict__" : Str)) = false := by decide) : PE X (.Name x pos) (tVar i) := A0rr hN hv hd hcd
end
theorem V3 {A B : Prop} (h : B) : if false = true then A else B := by
 rw [if_neg Bool.false_ne_true]
 exact h
theorem Z5 {A B : Prop} (h : A) : if true = true then A else B := by
 rw [if_pos rfl]
 exact h
theorem C8j {c A B : Prop} [Decidable c] (hc : c) (h : B) : if (!decide c) = true then A else B := by
 rw [decide_eq_true hc]
 exact V3 h
def C8 (H H' : Hp) : Prop := ∀ b o, H b = some o -> H' b = some o
theorem C8.refl (H : Hp) : C8 H H := fun _ _ h => h
theorem C8.trans {H H1 H2 : Hp} (a : C8 H H1) (b : C8 H1 H2) : C8 H H2 := fun c o h => b c o (a c o h)
theorem C8.free {H H' : Hp} (e : C8 H H') {l : Addr} (h : H' l = Option.none) : H l = Option.none := by
 cases q : H l with
 | none => rfl
 | some o =>
   rw [e l o q] at h
   cases h
theorem C8.seq {K : PySem.W.Frag} {H H' : Hp} {a : Addr} {xs : List V} (e : C8 H H') (h : SqL K H a xs) : SqL K H' a xs := by
 rcases h with (h | ⟨o, h⟩) | h
 . exact .inl (.inl (e _ _ h))
 . exact .inl (.inr ⟨o, e _ _ h⟩)
 exact .inr h
end L2
set_option maxHeartbeats 4000000
namespace L2
open PySem PySem.Spec PyProof.Rows
abbrev A3g (C : Value) (t : Addr) (dd : Option Addr) (tb : Value) : Obj :=
 { cls := C, dict := dd, data := .fields #[.ref t, tb, .none, .none, .bool false, .none] }
structure A1ad (fs : List Addr) (h h' : Heap) (a : Addr) (C : Value) (t : Addr) (dd : Option Addr) (T : Addr) (fl : Value) : Prop where
 keep : ∀ b o, b ∉ fs -> b ≠ a -> h.get? b = some o -> h'.get? b = some o
 slot : ∀ b o, b ≠ a -> h.get? b = some o -> ∃ sl, h'.get? b = some { o with slots := sl }
 new : h.get? T = none
 ne : T ≠ a
 exc : h'.get? a = some (A3g C t dd (.ref T))
 tbk : ∃ oT ts, h'.get? T = some oT /\ oT.data = .fields ts /\ ts[3]? = some fl
section
variable {M : Model} {A : Around} {E : Value -> Shared -> Prop} {s : Shared} {base : Heap} {env : Env} {outer : List Env} {L a t : Addr} {C : Value} {dd : Option Addr} {tb : Value} {Q : Unit -> Shared -> Prop}
theorem A0hh {oa : Obj} {vs : Array Value} {l : List Env} (hl : s.heap.FunFrames base l) (ha : s.heap.get? a = some oa) (hd : oa.data = .fields vs) : a ∉ l.filterMap (·.frame) := by
 intro hm
 obtain ⟨_, o, ho, hn⟩ := hl.mem hm
 rw [ha] at ho
 cases ho
 exact hn vs hd
theorem V3k {head : Value} {hn : Bool} (hfr : A.frames = some (env :: outer)) (hl : s.heap.FunFrames base (env :: outer)) (hf : env.frame = some L)
   (ha : s.heap.get? a = some (A3g C t dd tb))
   (h : ∀ h' T, A1ad ((env :: outer).filterMap (·.frame)) s.heap h' a C t dd T (rawInt L) -> Q () { s with heap := h' }) :
   wpAny M A (do
     let x <- frameOf env
     let pl <- entryPlaceOf L hn
     let b <- EntryCells.newEntry head x .none (rawInt L) .none pl
     setField (.ref a) 1 b) Q E s := by
 have na := A0hh hl ha rfl
 refine wpAny_bind (wpAny_frameOf_fun hfr hl hf fun g hg => ?_)
 refine wpAny_bind (wpAny_entryPlaceOf fun pl hpl => ?_)
 unfold EntryCells.newEntry newFields
 refine wpAny_bind (wpAny_newObj_type ?_ (hpl.sizeOk5 _ _ _ _ _))
 have a1 : g.get? a = some (A3g C t dd tb) := (hg.2.1 a na).trans ha
 have a2 := fun (z : Obj) => Heap.get?_push_of_some (h := g) z a1
 have nT : g.objs.size ≠ a := Nat.ne_of_gt (Heap.lt_size a1)
 refine wpAny_setField (a2 _) rfl (by show 1 < 6; decide) (h _ g.objs.size ?_)
 have up : ∀ (z : Obj) (f : Obj -> Obj) b o, b ≠ a -> g.get? b = some o -> ((g.push z).update a f).get? b = some o := by
   intro z f b o hb e
   rw [Heap.get?_update_other _ _ (Ne.symm hb)]
   exact Heap.get?_push_of_some _ e
 refine ⟨fun b o hb hba e => up _ _ b o hba ((hg.2.1 b hb).trans e), fun b o hba e => ?_, ?_, nT, ?_, ?_⟩
 . obtain ⟨sl, e1⟩ := hg.2.2 b o e
   exact ⟨sl, up _ _ b _ hba e1⟩
 . refine Heap.get?_none_of_le ?_
   rw [hg.1]
   exact Nat.le_refl _
 . exact Heap.get?_update_self _ (a2 _) rfl
 refine ⟨_, _, (Heap.get?_update_other _ _ (Ne.symm nT)).trans (Heap.get?_push_size _ rfl), rfl, ?_⟩
 first
   | (simp; done)
   | (rcases hpl with rfl | ⟨_, _, _, _, _, _, _, rfl⟩ <;> simp)
def TbOk (h : Heap) (a : Addr) (tb : Value) : Prop := tb = .none \/ ∃ T oT ts, tb = .ref T /\ T ≠ a /\ h.get? T = some oT /\ oT.data = .fields ts /\ ts[3]? = some .none
theorem A0td (hfr : A.frames = some (env :: outer)) (hl : s.heap.FunFrames base (env :: outer)) (hf : env.frame = some L)
   (ha : s.heap.get? a = some (A3g C t dd tb)) (ht : TbOk s.heap a tb)
   (h : ∀ h' T, (∀ b o, b ∉ (env :: outer).filterMap (·.frame) -> b ≠ a -> tb ≠ .ref b -> s.heap.get? b = some o -> h'.get? b = some o) ->
     (∀ b o, b ≠ a -> tb ≠ .ref b -> s.heap.get? b = some o -> ∃ sl, h'.get? b = some { o with slots := sl }) -> s.heap.get? T = none -> T ≠ a ->
     h'.get? a = some (A3g C t dd (.ref T)) -> (∃ oT ts, h'.get? T = some oT /\ oT.data = .fields ts /\ ts[3]? = some (rawInt L)) -> Q () { s with heap := h' }) :
   wpAny M A (noteFrame (.ref a) env) Q E s := by
 unfold noteFrame
 simp only [hf]
 refine wpAny_bind (wpAny_field ha rfl (x := tb) rfl ?_)
 rcases ht with rfl | ⟨T, oT, ts, rfl, nT, hT, dT, h3⟩
 . rw [if_neg (by decide)]
   refine V3k hfr hl hf ha fun h' T N => ?_
   exact h h' T (fun b o hb hba _ e => N.keep b o hb hba e) (fun b o hba _ e => N.slot b o hba e) N.new N.ne N.exc N.tbk
 rw [if_pos (show (Value.ref T != Value.none) = true by simp)]
 refine wpAny_bind (wpAny_field hT dT h3 ?_)
 rw [if_neg (show ¬ ((Value.none == rawInt L) = true) by simp [rawInt])]
 refine wpAny_bind (wpAny_setField hT dT (Array.getElem?_eq_some_iff.mp h3).1 ?_)
 have oth : ∀ (f : Obj -> Obj) b, b ≠ T -> (s.heap.update T f).get? b = s.heap.get? b := fun f b hb => Heap.get?_update_other _ _ (Ne.symm hb)
 have nrec : ∀ b o, s.heap.get? b = some o -> (∀ vs, o.data ≠ .fields vs) -> b ≠ T := by
   intro b o e hn q
   rw [q, hT] at e
   cases e
   exact hn ts dT
 refine V3k (s := { s with heap := _ }) hfr (hl.of_keeps fun b o e hn => ⟨o, (oth _ b (nrec b o e hn)).trans e, rfl⟩) hf ((oth _ a (Ne.symm nT)).trans ha) fun h' T' N => ?_
 have neb : ∀ b, Value.ref T ≠ Value.ref b -> b ≠ T := fun b q z => q (by rw [z])
 refine h h' T' (fun b o hb hba hbT e => N.keep b o hb hba ((oth _ b (neb b hbT)).trans e)) (fun b o hba hbT e => N.slot b o hba ((oth _ b (neb b hbT)).trans e)) ?_ N.ne N.exc N.tbk
 have nw := N.new
 by_cases q : T' = T
 . subst q
   have := Heap.get?_update_self (Obj.mapFields (·.setIfInBounds 3 Value.none)) hT (Obj.isFreed_of_fields (Obj.data_mapFields dT _))
   rw [nw] at this
   cases this
 rw [oth _ T' q] at nw
 exact nw
theorem A0rj {T : Addr} {oT : Obj} {ts : Array Value} {fl : Value} (ha : s.heap.get? a = some (A3g C t dd (.ref T))) (nT : T ≠ a) (hT : s.heap.get? T = some oT) (dT : oT.data = .fields ts) (h3 : ts[3]? = some fl)
   (h : ∀ h', (∀ b o, b ≠ T -> s.heap.get? b = some o -> h'.get? b = some o) -> TbOk h' a (.ref T) -> Q () { s with heap := h' }) : wpAny M A (setFlight (.ref a) none) Q E s := by
 have sz : 3 < ts.size := (Array.getElem?_eq_some_iff.mp h3).1
 unfold setFlight
 refine wpAny_bind (wpAny_field ha rfl (x := .ref T) rfl ?_)
 rw [if_pos (show (Value.ref T != Value.none) = true by simp)]
 refine wpAny_setField hT dT sz (h _ (fun b o hb e => (Heap.get?_update_other _ _ (Ne.symm hb)).trans e) ?_)
 have d2 := Obj.data_mapFields dT (·.setIfInBounds 3 ((none : Option Addr).elim Value.none fun f => rawInt f))
 exact .inr ⟨T, _, _, rfl, nT, Heap.get?_update_self _ hT (Obj.isFreed_of_fields d2), d2, by simp [sz]⟩
end
def Hd (A : Around) (h : Heap) : Prop := A.handled = none \/ ∃ x ox vs, A.handled = some (.ref x) /\ h.get? x = some ox /\ ox.data = .fields vs /\ vs[2]? = some .none
theorem D5d : entryFor table "proto.unchain" = some Builtin.«proto.unchain» := entryFor_of_tree (by kernel_rfl)
section
variable {prog : Program} {w : World} {A : Around} {E : Value -> Shared -> Prop} {s : Shared}
theorem J4j {α : Type} {a : Addr} {oa : Obj} {ws : Array Value} {h₀ : Heap} {Q : α -> Shared -> Prop} (hd : Hd A h₀) (k : ∀ b o, h₀.get? b = some o -> s.heap.get? b = some o) (na : h₀.get? a = none)
   (ha : s.heap.get? a = some oa) (da : oa.data = .fields ws) (h2 : 2 < ws.size)
   (h : ∀ h', (∀ b o, b ≠ a -> s.heap.get? b = some o -> h'.get? b = some o) -> (∃ o', h'.get? a = some o' /\ o'.cls = oa.cls) -> E (.ref a) { s with heap := h' }) :
   wpAny (model prog w) A (raiseNew (.ref a) : Sem α) Q E s := by
 unfold raiseNew
 refine wpAny_bind (wpAny_handled ?_)
 rcases hd with z | ⟨x, ox, vs, z, e, d, n⟩
 . rw [z]
   exact wpAny_bind (wpAny_pure (wpAny_throw (h _ (fun b o _ e => e) ⟨_, ha, rfl⟩)))
 rw [z]
 have nx : x ≠ a := by
   intro q
   rw [q, na] at e
   cases e
 dsimp only
 rw [if_pos (show (Value.ref x != Value.ref a) = true by simpa using nx)]
 refine wpAny_bind (wpAny_holding (wpAny_runValue (codeAny_builtin D5d ?_)))
 unfold Builtin.«proto.unchain»
 dsimp only
 refine wpAny_bind (wpAny_field (k x ox e) d n ?_)
 rw [if_pos (by decide)]
 refine wpAny_pure ?_
 dsimp only
 unfold updateField
 refine wpAny_bind (wpAny_bind (wpAny_load ha ?_))
 rw [da]
 dsimp only
 rw [if_pos h2]
 refine wpAny_update ha (wpAny_throw (h _ (fun b o hb e => (Heap.get?_update_other _ _ (Ne.symm hb)).trans e) ⟨_, Heap.get?_update_self _ ha (Obj.isFreed_of_fields (Obj.data_mapFields da _)), Obj.cls_mapFields _ _⟩))
theorem V2z {α : Type} {Q : α -> Shared -> Prop} (hd : Hd A s.heap)
   (h : ∀ h' e, (∀ b o, s.heap.get? b = some o -> h'.get? b = some o) -> ({ s with heap := h' } : Shared).TypeIs (.ref e) "StopIteration" -> E (.ref e) { s with heap := h' }) :
   wpAny (model prog w) A (newExc (.type "StopIteration") [] >>= fun e => (raiseNew e : Sem α)) Q E s := by
 refine wpAny_bind ?_
 simp only [newExc, newTuple]
 refine wpAny_bind (wpAny_newObj_type ?_ (by size_fits)); refine wpAny_bind (m := firstArgMember _ _) (wpAny_of_eq (a := Value.none) (by first | rfl | (simp only [firstArgMember]; rfl)) ?_)
 refine wpAny_newObj_type ?_ (by size_fits); dsimp only
 have k1 : ∀ (z : Obj) b o, s.heap.get? b = some o -> (s.heap.push z).get? b = some o := fun z b o e => Heap.get?_push_of_some _ e
 have k2 : ∀ (z y : Obj) b o, s.heap.get? b = some o -> ((s.heap.push z).push y).get? b = some o := fun z y b o e => Heap.get?_push_of_some _ (Heap.get?_push_of_some _ e)
 have nw : ∀ (z : Obj), s.heap.get? (s.heap.push z).objs.size = none := fun z => Heap.get?_none_of_le (by rw [Heap.size_push]; exact Nat.le_succ _)
 refine J4j (s := { s with heap := _ }) (h₀ := s.heap) hd (k2 _ _) (nw _) (Heap.get?_push_size _ rfl) rfl (by show 2 < 6; decide) fun h' k ⟨o', e', c'⟩ => h h' _ (fun b o e => ?_) ⟨o', e', c'⟩
 refine k b o ?_ (k2 _ _ b o e)
 intro q; rw [q, nw] at e; cases e
theorem C1t {it l : Addr} {i : Nat} {items : Array Value} {Q : Option Value -> Shared -> Prop} (hd : ∀ h' : Heap, Heap.ExtBut it s.heap h' -> Hd A h')
   (hit : s.heap.IsListIter it l i) (hl : s.heap.IsList l items) (hx : items[i]? = none)
   (hQ : ∀ h', Heap.ExtBut it s.heap h' -> Q none { s with heap := h' }) : wpAny (model prog w) A (pyNext (.ref it)) Q E s := by
 obtain ⟨o, ho, hc, dt⟩ := id hit
 obtain ⟨ol, hol, _, nl, dl⟩ := hl
 unfold pyNext
 refine wpAny_bind (wpAny_attempt (wpAny_callSpecial?_slot (name := Str.ofString "__next__") hit.typeIs slot_listiter_next (wpAny_call_entry slot_listiter_next hit.typeIs entry_listiter_next ?_ (args_listiter_next _))))
 show wpAny _ _ (field (.ref it) 0 >>= _) _ _ _; refine wpAny_bind (wpAny_field ho dt (x := .ref l) rfl ?_)
 show wpAny _ _ (if (Value.ref l == Value.none) = true then _ else _) _ _ _; rw [if_neg (show ¬ ((Value.ref l == Value.none) = true) by simp)]
 show wpAny _ _ (field (.ref it) 1 >>= _) _ _ _; refine wpAny_bind (wpAny_field ho dt (x := .int i 0) rfl ?_)
 show wpAny _ _ (seqItems? (.ref l) >>= _) _ _ _; refine wpAny_bind (wpAny_seqItems hol dl ?_)
 simp only [Int.toNat_natCast, hx]
 refine wpAny_bind (wpAny_rule (wpAny_bind (wpAny_setField ho dt (by simp) ?_)))
 have up := fun f => (Heap.SameBut.update (a := it) (h := s.heap) (f := f)).extBut
 refine V2z (s := { s with heap := _ }) (A := A.in1) (hd _ (up _)) fun h' e k ty => ?_
 refine wpAny_bind (wpAny_isInstance (T := "StopIteration") (b := true) ty isSubtype_stop ?_)
 exact wpAny_pure (hQ h' fun b o hb z => k b o (up _ b o hb z))
theorem C7e {it t : Addr} {i : Nat} {items : Array Value} {Q : Option Value -> Shared -> Prop} (hd : ∀ h' : Heap, Heap.ExtBut it s.heap h' -> Hd A h')
   (hit : IsTupIter s.heap it t i) (hl : IsTup s.heap t items) (hx : items[i]? = none)
   (hQ : ∀ h', Heap.ExtBut it s.heap h' -> Q none { s with heap := h' }) : wpAny (model prog w) A (pyNext (.ref it)) Q E s := by
 obtain ⟨o, ho, hc, dt⟩ := id hit
 obtain ⟨ol, hol, _, nl, dl⟩ := hl
 unfold pyNext
 refine wpAny_bind (wpAny_attempt (wpAny_callSpecial?_slot (name := Str.ofString "__next__") hit.typeIs slot_tupleiter_next (wpAny_call_entry slot_tupleiter_next hit.typeIs entry_tupleiter_next ?_ (args_tupleiter_next _))))
 show wpAny _ _ (field (.ref it) 0 >>= _) _ _ _; refine wpAny_bind (wpAny_field ho dt (x := .ref t) rfl ?_)
 show wpAny _ _ (if (Value.ref t == Value.none) = true then _ else _) _ _ _; rw [if_neg (show ¬ ((Value.ref t == Value.none) = true) by simp)]
 show wpAny _ _ (field (.ref it) 1 >>= _) _ _ _; refine wpAny_bind (wpAny_field ho dt (x := .int i 0) rfl ?_)
 show wpAny _ _ (seqItems? (.ref t) >>= _) _ _ _; refine wpAny_bind (wpAny_seqItems hol dl ?_)
 simp only [Int.toNat_natCast, hx]
 refine wpAny_bind (wpAny_rule (wpAny_bind (wpAny_setField ho dt (by simp) ?_)))
 have up := fun f => (Heap.SameBut.update (a := it) (h := s.heap) (f := f)).extBut
 refine V2z (s := { s with heap := _ }) (A := A.in1) (hd _ (up _)) fun h' e k ty => ?_
 refine wpAny_bind (wpAny_isInstance (T := "StopIteration") (b := true) ty isSubtype_stop ?_)
 exact wpAny_pure (hQ h' fun b o hb z => k b o (up _ b o hb z))
end
theorem A0g.there {P : Program} {w : World} {H : Hp} {h : Heap} {a : Addr} {o : HO} (x : A0g P w H h a o) : ∃ u, h.get? a = some u := by
 cases o with
 | lst xs => obtain ⟨_, _, _, _, e⟩ := x; exact ⟨_, e⟩
 | tup xs => obtain ⟨_, _, _, _, e, _⟩ := x; exact ⟨_, e⟩
 | dK kvs => obtain ⟨_, _, _, _, o, _, _, e, _⟩ := x; exact ⟨_, e⟩
 | dT kvs => obtain ⟨_, _, _, _, o, _, _, e, _⟩ := x; exact ⟨_, e⟩
 | set S n => obtain ⟨o, _, _, _, e, _⟩ := x; exact ⟨_, e⟩
 | ins C dx fs => obtain ⟨_, _, _, e, _⟩ := x; exact ⟨_, e⟩
 | own y => obtain ⟨_, e⟩ := x; exact ⟨_, e⟩
 | xd fs => obtain ⟨_, ⟨_, _, _, e, _⟩, _⟩ := x; exact ⟨_, e⟩
 | rng lo hi => obtain ⟨_, _, _, e⟩ := x; exact ⟨_, e⟩
 | frz ob u => obtain ⟨e, _⟩ := x; exact ⟨_, e⟩
 | tbl ps => exact ⟨_, show h.get? a = some _ from x⟩
 | met f y => exact ⟨_, show h.get? a = some _ from x⟩
 | ext φ => obtain ⟨_, e, _⟩ := x; exact e
theorem HOk.new {P : Program} {w : World} {H : Hp} {h : Heap} {a : Addr} (x : HOk P w H h) (e : h.get? a = none) : H a = none := by
 cases q : H a with
 | none => rfl
 | some u =>
   obtain ⟨o, z⟩ := (x a u q).there
   rw [e] at z
   cases z
structure Nw (X : Cx) (pins : List (Addr × Obj)) (H : Hp) (b : Addr) : Prop where
 un : H b = none
 loc : b ≠ X.env.locals
 fs : b ∉ X.fs
 old : X.s₀.heap.get? b = none
 cell : ∀ x c, X.env.cells.lookup x = some c -> c ≠ b
 pin : ∀ p ∈ X.pn ++ pins, p.1 ≠ b
section
variable {X : Cx} {pins : List (Addr × Obj)} {σ : St} {H H' : Hp} {s s' : Shared} {a b t : Addr} {C : Value} {dd : Option Addr}
theorem Inv.fsFree (I : Inv X pins σ H s) : ∀ b ∈ X.fs, H b = none := fun b hb => I.stkFree b (by
 rcases I.ok.stk with z | ⟨z, zf⟩
 . rw [z]; exact hb
 . rw [z]
   unfold frs
   rw [List.filterMap_cons, zf]
   exact List.mem_cons_of_mem _ hb)
theorem Inv.nw (I : Inv X pins σ H s) (hex : X.ex = []) (e : s.heap.get? b = none) (hu : H' b = none) : Nw X pins H' b := by
 refine ⟨hu, ?_, ?_, ?_, ?_, ?_⟩
 . rintro rfl
   obtain ⟨m, ⟨o, _, _, ho, _⟩, _⟩ := I.loc
   rw [e] at ho
   cases ho
 . intro hb
   obtain ⟨_, o, ho, _⟩ := I.funs.mem hb
   rw [e] at ho
   cases ho
 . cases q : X.s₀.heap.get? b with
   | none => rfl
   | some o =>
     obtain ⟨o', z⟩ := I.base.there b o q (by rw [hex]; simp)
     rw [e] at z
     cases z
 . rintro x c h rfl
   obtain ⟨v, o, ho, _⟩ := I.cell x c h
   rw [e] at ho
   cases ho
 rintro p hp rfl
 obtain ⟨z, _⟩ := I.pin p hp
 rw [e] at z
 cases z
theorem Inv.stepN {h' : Heap} {ch : List Addr} (I : Inv X pins σ H s) (hch : ∀ b ∈ ch, Nw X pins H b)
   (keep : ∀ b o, b ≠ X.env.locals -> b ∉ X.fs -> b ∉ ch -> s.heap.get? b = some o -> h'.get? b = some o)
   (slot : ∀ b o, b ∉ ch -> s.heap.get? b = some o -> ∃ sl, h'.get? b = some { o with slots := sl }) : Inv X pins σ H { s with heap := h' } := by
 have neL : ∀ b o, X.s₀.heap.get? b = some o -> b ≠ X.env.locals := fun b o e => Nat.ne_of_lt (Nat.lt_of_lt_of_le (Heap.lt_size e) I.ok.above)
 have neC : ∀ b o, X.s₀.heap.get? b = some o -> b ∉ ch := fun b o e hb => by
   have z := (hch b hb).old
   rw [e] at z
   cases z
 have cellK : ∀ x c, X.env.cells.lookup x = some c -> ∀ v, s.heap.IsCell c v -> h'.IsCell c v := fun x c e v ⟨o, ho, hd⟩ => by
   have nch : c ∉ ch := fun z => (hch c z).cell x c e rfl
   obtain ⟨sl, q⟩ := slot c o nch ho
   exact ⟨_, q, hd⟩
 refine ⟨I.ok, I.os, I.bare, ⟨fun b o e n hb hx => ?_, fun b o e n hb hx => ?_, I.base.free, fun b o e hx => ?_, I.base.tups, I.base.frzs, I.base.tbls⟩, ?_, fun x c e => ?_, I.free, I.freeC, fun p hp => ?_, ?_, I.len⟩
 . exact keep b o (neL b o e) hb (neC b o e) (I.base.keep b o e n hb hx)
 . obtain ⟨sl, e1⟩ := I.base.slot b o e n hb hx
   obtain ⟨sl', e2⟩ := slot b _ (neC b o e) e1
   exact ⟨sl', e2⟩
 . obtain ⟨o', e1⟩ := I.base.there b o e hx
   obtain ⟨sl', e2⟩ := slot b _ (neC b o e) e1
   exact ⟨_, e2⟩
 . obtain ⟨m, hn, hl⟩ := I.loc
   refine ⟨m, ?_, fun i x v e1 e2 e3 => ?_⟩
   . obtain ⟨o, es, ep, ho, r⟩ := hn
     obtain ⟨sl, q⟩ := slot _ o (fun z => (hch _ z).loc rfl) ho
     exact ⟨_, es, ep, q, r⟩
   . obtain ⟨u, r, l⟩ := hl i x v e1 e2 e3
     refine ⟨u, r, ?_⟩
     rcases l with l | ⟨k, c, e, z⟩
     . exact .inl l
     . exact .inr ⟨k, c, e, cellK x c e _ z⟩
 . obtain ⟨v, z⟩ := I.cell x c e
   exact ⟨v, cellK x c e v z⟩
 . obtain ⟨e, n, ne, nf, d⟩ := I.pin p hp
   exact ⟨keep p.1 p.2 ne nf (fun z => (hch p.1 z).pin p hp rfl) e, n, ne, nf, d⟩
 intro c o e
 have tr : ∀ b, H b ≠ none -> ∀ u, s.heap.get? b = some u -> h'.get? b = some u := fun b hb u q =>
   keep b u (fun z => hb (by rw [z]; exact I.free)) (fun z => hb (I.fsFree b z)) (fun z => hb (hch b z).un) q
 refine (I.hok c o e).stay (fun b u hb q => tr b ?_ u q) (fun _ q => q) fun _ _ q => q
 rcases hb with rfl | hb
 . rw [e]; simp
 rw [hb]; simp
def Flt (X : Cx) (pins : List (Addr × Obj)) (H : Hp) (s : Shared) (a : Addr) (C : Value) (t : Addr) (dd : Option Addr) : Prop :=
 Nw X pins H a /\ ∃ tb, s.heap.get? a = some (A3g C t dd tb) /\ TbOk s.heap a tb /\ ∀ T, tb = .ref T -> Nw X pins H T
def D0h (X : Cx) (pins : List (Addr × Obj)) (H : Hp) (s : Shared) (a : Addr) (C : Value) (t : Addr) (dd : Option Addr) (fl : Value) : Prop :=
 Nw X pins H a /\ ∃ T oT ts, s.heap.get? a = some (A3g C t dd (.ref T)) /\ T ≠ a /\ Nw X pins H T /\ s.heap.get? T = some oT /\ oT.data = .fields ts /\ ts[3]? = some fl
structure Body (X : Cx) : Prop where
 ex : X.ex = []
 st : X.stack = X.env :: X.outer
 fr : X.env.frame = some X.env.locals
theorem D0h.flt (F : D0h X pins H s a C t dd .none) : Flt X pins H s a C t dd := by
 obtain ⟨n, T, oT, ts, e, ne, nT, eT, dT, h3⟩ := F
 exact ⟨n, _, e, .inr ⟨T, oT, ts, rfl, ne, eT, dT, h3⟩, fun T' z => by cases z; exact nT⟩
def U1q : Value -> List Addr
 | .ref z => [z]
 | _ => []
theorem Y6e {M : Model} {E : Value -> Shared -> Prop} {Q : Unit -> Shared -> Prop} (B : Body X) (I : Inv X pins σ H s) (F : Flt X pins H s a C t dd)
   (k : ∀ s', Inv X pins σ H s' -> D0h X pins H s' a C t dd (rawInt X.env.locals) -> Q () s') : wpAny M X.A (noteFrame (.ref a) X.env) Q E s := by
 obtain ⟨na, tb, e, ht, nT⟩ := F
 have hfr := I.ok.frames
 rw [B.st] at hfr
 have hl := I.stack
 rw [B.st] at hl
 refine A0td hfr hl B.fr e ht fun h' T k1 k2 k3 k4 k5 k6 => ?_
 have ch : ∀ b, b ∉ a :: U1q tb -> b ≠ a /\ tb ≠ .ref b := by
   intro b hb
   refine ⟨fun z => hb (by rw [z]; exact List.mem_cons_self), fun z => hb ?_⟩
   rw [z]
   exact List.mem_cons_of_mem _ (List.mem_singleton.mpr rfl)
 have I' : Inv X pins σ H { s with heap := h' } := by
   refine I.stepN (ch := a :: U1q tb) (fun b hb => ?_) (fun b o h1 h2 h3 q => k1 b o ?_ (ch b h3).1 (ch b h3).2 q) (fun b o h3 q => k2 b o (ch b h3).1 (ch b h3).2 q)
   . rcases List.mem_cons.mp hb with rfl | hb
     . exact na
     . cases tb <;> simp [U1q] at hb
       subst hb
       exact nT _ rfl
   . intro z
     rw [List.filterMap_cons, B.fr] at z
     rcases List.mem_cons.mp z with z | z
     . exact h1 z
     . exact h2 z
 obtain ⟨oT, ts, q1, q2, q3⟩ := k6
 exact k _ I' ⟨na, T, oT, ts, k5, k4, I.nw B.ex k3 (I.hok.new k3), q1, q2, q3⟩
theorem Y5n {M : Model} {A : Around} {E : Value -> Shared -> Prop} {Q : Unit -> Shared -> Prop} {fl : Value} (I : Inv X pins σ H s) (F : D0h X pins H s a C t dd fl)
   (k : ∀ s', Inv X pins σ H s' -> D0h X pins H s' a C t dd .none -> Q () s') : wpAny M A (setFlight (.ref a) none) Q E s := by
 obtain ⟨na, T, oT, ts, e, ne, nT, eT, dT, h3⟩ := F
 refine A0rj e ne eT dT h3 fun h' k1 k2 => ?_
 have I' : Inv X pins σ H { s with heap := h' } := I.stepN (ch := [T]) (fun b hb => by
   have : b = T := by simpa using hb
   subst this
   exact nT) (fun b o _ _ hb q => k1 b o (fun z => hb (by simp [z])) q) (fun b o hb q => ⟨_, k1 b o (fun z => hb (by simp [z])) q⟩)
 rcases k2 with z | ⟨T', oT', ts', z, _, q1, q2, q3⟩
 . cases z
 cases z
 exact k _ I' ⟨na, T, oT', ts', k1 a _ (Ne.symm ne) e, ne, nT, q1, q2, q3⟩
theorem V7g {M : Model} {E : Value -> Shared -> Prop} {Q : Unit -> Shared -> Prop} (B : Body X) (I : Inv X pins σ H s) (F : Flt X pins H s a C t dd)
   (k : ∀ s', Inv X pins σ H s' -> D0h X pins H s' a C t dd .none -> Q () s') : wpAny M X.A (leaving X.env (.ref a)) Q E s := by
 unfold leaving
 exact wpAny_bind (Y6e B I F fun s1 I1 F1 => Y5n I1 F1 k)
end
abbrev EK := Value -> Option Addr -> St -> Hp -> Prop
def U1 (X : Cx) (EH : EK) : Prop := ∀ (pins : List (Addr × Obj)) (σ : St) (H : Hp) (s : Shared) (a t : Addr) (C : Value) (dd : Option Addr), Inv X pins σ H s -> Flt X pins H s a C t dd -> EH C dd σ H -> X.xe (.ref a) s
def CX1 (P : Program) (w : World) : CXT := fun outer H s E e s' => ∃ (a t : Addr) (C : Value) (dd : Option Addr) (H' : Hp), e = .ref a /\ s'.os = s.os /\ AllBare s'.gens /\ Un (frs outer) [] H H' s.heap s'.heap /\ HOk P w H' s'.heap /\ E C dd H' /\
 (s.heap.get? a = none /\ H' a = none) /\ ∃ T oT ts, s'.heap.get? a = some (A3g C t dd (.ref T)) /\ T ≠ a /\ (s.heap.get? T = none /\ H' T = none) /\ s'.heap.get? T = some oT /\ oT.data = .fields ts /\ ts[3]? = some .none
theorem C8w {P : Program} {w : World} {K : PySem.W.Frag} {mg : Str -> Option Value} {base : Heap} {N : List Str} {qual : Str} {scope : Scope} {f : Addr} {cd : Value} {A : Around} {outer : List Env} {s : Shared} {H : Hp} {E : XK} :
   U1 (A2a (CX1 P w) P w K mg base N qual scope f cd A outer s H E) (fun C dd _ H' => E C dd H') := by
 intro pins σ H' s' a t C dd I F h
 refine V7g (X := A2a (CX1 P w) P w K mg base N qual scope f cd A outer s H E) ⟨rfl, rfl, rfl⟩ I F fun s2 I2 F2 => ?_
 obtain ⟨na, T, oT, ts, e, ne, nT, eT, dT, h3⟩ := F2
 exact ⟨a, t, C, dd, H', rfl, I2.os, I2.bare, I2.base, I2.hok, h, ⟨na.old, na.un⟩, T, oT, ts, e, ne, ⟨nT.old, nT.un⟩, eT, dT, h3⟩
section
variable {X : Cx} {k : Nat} {f C : Addr} {fd : FuncData} {ps : List Str} {sp : Sp} {dvs : List V} {ds : List Value} {EH : EK} {x m : Str} {p pos apos : Pos} {e o : Expr} {es : List Expr} {ta : TE} {t : TA}
theorem came {pins : List (Addr × Obj)} {σ : St} {H : Hp} {s : Shared} {e : Value} {s' : Shared} (hx : U1 X EH) (hex : X.ex = []) (I : Inv X pins σ H s)
   (h : CX1 X.prog X.w X.stack H s (fun C d H' => EH C d σ H') e s') : X.xe e s' := by
 obtain ⟨a, t, C, dd, H', rfl, os, bare, un, hok, hE, ⟨a1, a2⟩, T, oT, ts, z, ne, ⟨t1, t2⟩, eT, dT, h3⟩ := h
 have I' : Inv X pins σ H' s' := I.call' (ch := []) os un hok bare (fun b q => absurd q (by simp))
 exact hx pins σ H' s' a t C dd I' (D0h.flt ⟨I.nw hex a1 a2, T, oT, ts, z, ne, I.nw hex t1 t2, eT, dT, h3⟩) hE
theorem C7p {pins : List (Addr × Obj)} {σ : St} {H : Hp} {s : Shared} {Q : VK} {us : List Value} {vs : List V} (F : A8 X.prog X.w X.K X.mg X.base (CX1 X.prog X.w) k f fd ps sp) (hr : A0m k X.A) (hb : Binds X.K fd ps ds) (hd : U2 dvs ds)
   (hx : U1 X EH) (hex : X.ex = []) (I : Inv X pins σ H s) (r : U2 vs us) (h : sp (vs ++ dvs) H Q (fun C d H' => EH C d σ H')) : wpAny (model X.prog X.w) X.A (call (.ref f) us) (EP X pins σ Q) X.xe s := by
 have r2 : U2 (vs ++ dvs) (us ++ ds) := r.append hd
 have hl : (us ++ ds).length = ps.length := by rw [<- r2.length]; exact F.len _ _ _ _ h
 refine wpAny_call (codeAny_mono (F.run X.A X.stack s H ⟨us, []⟩ (us ++ ds) (vs ++ dvs) Q _ hr I.env0 (hb s us I.kIn hl) r2 h) fun r s' hq => ?_)
 cases r with
 | error e => exact came hx hex I hq
 | ok fl =>
   cases fl with
   | ret u => exact I.after hq
   | next => exact False.elim hq
   | brk => exact False.elim hq
   | cont => exact False.elim hq
def C9d (sp : Sp) (dvs : List V) (EH : EK) (t : TA) : TE := fun σ H Q => t σ H fun vs H1 => sp (vs ++ dvs) H1 Q (fun C d H' => EH C d σ H')
theorem Y7e (F : A8 X.prog X.w X.K X.mg X.base (CX1 X.prog X.w) k f fd ps sp) (hr : A0m k X.A) (hg : Gl X x) (hm : X.mg x = some (.ref f)) (hk : PySem.W.keepIn X.K (.ref f) = true) (hb : Binds X.K fd ps ds) (hd : U2 dvs ds)
   (hx : U1 X EH) (ha : PA X (e :: es) t) (hex : X.ex = [] := by rfl) (hdb : (x == ("__debug__" : Str)) = false := by decide) (he : starEach (e :: es) X.env = (false, eval e X.env) :: starEach es X.env := by rfl)
   (hpl : (backTo pos (starEach es X.env)).any (·.1) = false := by rfl) : PE X (.Call (.Name x p) (e :: es) [] pos) (C9d sp dvs EH t) := by
 intro pins s σ H Q I h
 refine wpAny_Call_Name_kw (A3m I hg hm ?_ hdb)
 refine PySem.W.callWith_K (h₀ := X.base) I.ok.mod.kin hk (thn (ha pos pins s σ H _ I h) fun us s1 ⟨vs, H1, I1, r, q⟩ => ⟨I1.kIn, ?_⟩) he hpl
 exact C7p F hr hb hd hx hex I1 r q
theorem V6b (F : A8 X.prog X.w X.K X.mg X.base (CX1 X.prog X.w) k f fd ps sp) (hr : A0m k X.A) (hg : Gl X x) (hm : X.mg x = some (.ref f)) (hk : PySem.W.keepIn X.K (.ref f) = true) (hb : Binds X.K fd ps ds) (hd : U2 dvs ds)
   (hx : U1 X EH) (hex : X.ex = [] := by rfl) (hdb : (x == ("__debug__" : Str)) = false := by decide) : PE X (.Call (.Name x p) [] [] pos) (C9d sp dvs EH Y7f) := by
 intro pins s σ H Q I h
 refine wpAny_Call_Name_kw (A3m I hg hm ?_ hdb)
 exact PySem.W.callWith_K0 I.kIn hk (C7p (us := []) F hr hb hd hx hex I .nil h)
end
section
variable {P : Program} {w : World} {K : PySem.W.Frag} {mg : Str -> Option Value} {base : Heap}
theorem Fun.okE {x qual : Str} {st : Stmt} {f : Addr} {fd : FuncData} {N ps : List Str} {k : Nat} {sp : Sp} (F : Fun K x qual st f fd) (S : C5 N ps (A2 st)) (len : ∀ vs H Q E, sp vs H Q E -> vs.length = ps.length)
   (hbody : ∀ (X : Cx) (cdv : Value) (A : Around) (outer : List Env) (s : Shared) (H : Hp) (vs : List V) (Q : VK) (E : XK), X = A2a (CX1 P w) P w K mg base N qual (A2 st) f cdv A outer s H E -> A0m k X.A -> U1 X (fun C dd _ H' => E C dd H') -> sp vs H Q E ->
     ∃ t, PSs (A2a (CX1 P w) P w K mg base N qual (A2 st) f cdv A outer s H E) (B7 st) t /\ t { nx := fun _ H' => Q .non H', rt := Q } (B6q N vs) H) : A8 P w K mg base (CX1 P w) (k + 1) f fd ps sp := by
 obtain ⟨oc, od, kV, doc, pm, an, cdv, ct, osl, rfl, lk, hc⟩ := F.ex
 exact Y5q lk hc S len fun A outer s H vs Q E hr h => hbody _ cdv A outer s H vs Q E rfl hr C8w h
theorem A8.up {k : Nat} {f : Addr} {fd : FuncData} {ps : List Str} {sp : Sp} (F : A8 P w K mg base CX0 k f fd ps sp) : A8 P w K mg base (CX1 P w) k f fd ps sp := by
 refine ⟨F.len, fun A outer s H args us vs Q E hr e0 hb r h => codeAny_mono (F.run A outer s H args us vs Q E hr e0 hb r h) fun r s' q => ?_⟩
 cases r with
 | error e => exact False.elim q
 | ok fl => cases fl <;> exact q
end
end L2
namespace L2
open PySem PySem.Spec PyProof.Rows PySem.W
theorem A0ha {K : Frag} {h : Heap} {C : Addr} {bmB : List Value} {newId : String} (X : K.In h) (q : excIn K C bmB newId = true) :
   ∃ (bm : List Value) (N : Addr) (nm qn : Str) (bs : List Value) (hd : Bool) (sn : List Str) (sub : List Value) (ab : Bool) (col : Option Bool) (dd : Option Addr) (k0 k1 k2 k3 k5 : Option Value) (mN : Str -> Option Value),
     h.get? C = some (excClassObj nm qn C N bs bm hd sn sub ab col dd k0 k1 k2 k3 k5 newId) /\ h.Ns N mN /\ mN "__init__" = none /\ OwnTail h bmB bm := by
 unfold excIn at q
 split at q
 . rename_i dd cd sl ho
   split at q
   . rename_i C' bm k0 k1 k2 k3 n k5 hm hs
     simp only [Bool.and_eq_true, beq_iff_eq, Bool.not_eq_true'] at q
     obtain ⟨⟨⟨⟨⟨r1, r2⟩, r3⟩, r4⟩, r5⟩, r6⟩ := q
     subst r1 r2
     obtain ⟨a1, a2, a3, a4, a5, a6, a7, a8, a9, a10, a11⟩ := cd
     dsimp only at hm r3 r5 r6
     subst hm r3
     have hsl : sl = #[k0, k1, k2, k3, some (.builtin n), k5] := by
       obtain ⟨l⟩ := sl
       simp only at hs
       rw [hs]
     subst hsl
     exact ⟨bm, a4, a1, a5, a2, a6, a7, a8, a9, a10, dd, k0, k1, k2, k3, k5, _, X _ _ ho, .of_isNs (isNs_of_in X r5), nsMap_none_of_in X r5 r6, tail_of_in X r4⟩
   . cases q
 cases q
section
variable {X : Cx} {x : Str} {p cpos pos : Pos} {e : Expr} {es : List Expr} {t : TA} {C : Addr} {bmB : List Value} {B newId initId : String} {EH : EK}
def A0th (C : Addr) (EH : EK) (t : TA) : TS := fun _ σ H => t σ H fun vs H1 => vs.length <= sizeLine /\ EH (.ref C) none σ H1
theorem A2r (hg : Gl X x) (hm : X.mg x = some (.ref C)) (q : excIn X.K C bmB newId = true) (FB : ExcBaseFacts B newId initId bmB) (hh : X.A.handled = none) (hx : U1 X EH) (ha : PA X (e :: es) t) (hex : X.ex = [] := by rfl)
   (hdb : (x == ("__debug__" : Str)) = false := by decide) (he : starEach (e :: es) X.env = (false, eval e X.env) :: starEach es X.env := by rfl) (hpl : (backTo cpos (starEach es X.env)).any (·.1) = false := by rfl) :
   PS X (.Raise (some (.Call (.Name x p) (e :: es) [] cpos)) none pos) (A0th C EH t) := by
 intro pins s σ H D I h
 obtain ⟨bm, N, nm, qn, bs, hd, sn, sub, ab, col, dd, k0, k1, k2, k3, k5, mN, hC, hN, hni, T⟩ := A0ha I.ok.mod.kin q
 refine wpAny_Raise_call_subT (C := C) (nm := nm) (q := qn) (N := N) (bs := bs) (bm := bm) (hdct := hd) (sn := sn) (sub := sub) (ab := ab) (col := col) (dd := dd) (k0 := k0) (k1 := k1) (k2 := k2) (k3 := k3) (k5 := k5) FB (mN := mN) (T.hasType FB.hasBase) hh
   (by rw [he]; show (false || (backTo cpos (starEach es X.env)).any (·.1)) = false; rw [hpl]; rfl) hni (A3m I hg hm ⟨rfl, ?_⟩ hdb)
 have ha' := ha cpos pins s σ H _ I h
 rw [he] at ha' ⊢
 refine Calls.evalArgs_plain (wpAny_mono ha' (fun us s2 ⟨vs, H1, I1, r, z, q⟩ => ⟨rfl, by rw [<- r.length]; exact z, I1.bk _ _ hC, hN.keeps I1.bk, T.keeps I1.bk, fun h' a m => ?_⟩) fun _ _ y => y)
 have I2 : Inv X pins σ H1 { s2 with heap := h' } := I1.kept (t' := s2.toks) m.keeps
 obtain ⟨t', e1, tn, e2⟩ := m.there
 exact hx pins σ H1 _ a t' (.ref C) none I2 ⟨I1.nw hex m.new (I1.hok.new m.new), .none, e1, .inl rfl, fun T z => nomatch z⟩ q
end
section
variable {X : Cx} {pins : List (Addr × Obj)} {σ : St} {H : Hp} {s : Shared}
end
section
variable {X : Cx} {pins pins' : List (Addr × Obj)} {σ : St} {H : Hp} {s : Shared} {a : Addr} {E : Value -> Shared -> Prop}
end
theorem C0b {K : Frag} {M : Model} {h : Heap} {R : Addr} (X : K.In h) (c : (clsIn K R).isSome = true) : Looks M h (isType (.ref R)) true := by
 unfold clsIn at c
 split at c
 . rename_i ho
   intro A' Q' E' s' k q
   unfold isType loadHead
   exact wpAny_bind (wpAny_loadPart (k _ _ (X _ _ ho)) (wpAny_pure q))
 cases c
section
variable {X : Cx} {x n : Str} {np hpos pos : Pos} {R : Addr} {i : Nat} {body suite : List Stmt} {b₀ : Stmt} {tb : EK -> TS} {ts : Addr -> TS}
end
structure ExcK (K : Frag) (C : Addr) : Prop where
 ga : findIn K (.ref C) "__getattribute__" = some (some (.builtin "BaseException.__getattribute__"))
 gh : findIn K (.ref C) "__getattr__" = some none
 ca : findIn K (.ref C) "__class__" = some (some (.builtin "object.__class__"))
 sn : specialIn K (.builtin "object.__class__") "__get__" = some (some (.builtin "getset_descriptor.__get__"))
 tk : takesIn K (.builtin "object.__class__") = some true
 ob : mroIn K C (.type "object") = some true
 be : subIn K (.ref C) (.type "BaseException") = some true
 cl : (clsIn K C).isSome = true
theorem B1j {prog : Program} {w : World} {A : Around} {E : Value -> Shared -> Prop} {s : Shared} {K : Frag} {a C : Addr} {oa : Obj} {od : Option Obj} {Q : Option Value -> Shared -> Prop} (F : ExcK K C) (X : K.In s.heap) (I : PySem.W.InstAt s.heap a oa C od)
   (h : Q (some (.ref C)) { s with toks := s.toks + 1 }) : wpAny (model prog w) A (getAttr? (.ref a) "__class__") Q E s := by
 obtain ⟨hp, g, d, t, os⟩ := s
 have L0 := I.type (M := model prog w)
 have L1 := looks_findIn (M := model prog w) X F.ga
 have L2 := looks_findIn (M := model prog w) X F.gh
 have L3 : Looks (model prog w) hp (isInstance (.ref a) (.type "BaseException")) true := L0.andThen (looks_subIn X F.be)
 have hf : findObj K C od "__class__" = some (.bind (.builtin "getset_descriptor.__get__") (.builtin "object.__class__")) := by
   obtain ⟨cd, hc⟩ := Option.isSome_iff_exists.mp F.cl
   unfold findObj
   rw [hc, Option.bind_some, F.ca, Option.bind_some]
   simp [F.sn, F.tk]
 have L4 := looks_find (M := model prog w) X I hf
 have hk : builtinKind "BaseException.__getattribute__" = some .slot := by decide +kernel
 have hsplit : splitId "BaseException.__getattribute__" = some ("BaseException", "__getattribute__") := by decide +kernel
 have hargs := PySem.F.args_bexc_ga (.ref a) (.str "__class__" t)
 have hb := PySem.F.attr_ValueError.ga.bind (.ref a)
 unfold getAttr? getAttrBy? getAttrBy
 refine wpAny_bind (wpAny_mkText (wpAny_bind (wpAny_attempt (wpAny_holding (wpAny_bind (L0.at (wpAny_bind (L1.at ?_))))))))
 dsimp only
 rw [if_neg (show ¬ ((onTheHeap (Value.ref C) && Value.builtin "BaseException.__getattribute__" == Value.builtin "object.__getattribute__") = true) by
   rw [show (Value.builtin "BaseException.__getattribute__" == Value.builtin "object.__getattribute__") = false by decide +kernel, Bool.and_false]; exact Bool.false_ne_true)]
 unfold getAttrByItsOwn
 refine wpAny_bind (m := hookBefore (.ref C)) (L2.at ?_)
 refine wpAny_bind (wpAny_attempt (wpAny_holding ?_))
 unfold callGetattribute
 rw [if_neg (by decide)]
 unfold boundAndCalled
 rw [hb]
 refine wpAny_bind (wpAny_pure ?_)
 refine wpAny_call (codeAny_call_builtin PySem.F.attr_ValueError.ga.plain PySem.F.entry_bexc_ga ?_)
 have chk : ∀ {A' : Around} {Q' : Unit -> Shared -> Prop} {E' : Value -> Shared -> Prop}, Q' () ⟨hp, g, d, t + 1, os⟩ -> wpAny (model prog w) A' (checkBuiltinCall "BaseException.__getattribute__" ⟨[.ref a, .str "__class__" t], []⟩) Q' E' ⟨hp, g, d, t + 1, os⟩ := by
   intro A' Q' E' hq
   simp only [checkBuiltinCall, hk, hsplit]
   refine wpAny_bind ?_
   refine L3.at ?_
   repeat (first | assumption | wp_step)
 refine chk ?_
 show wpAny _ _ (Builtin.«object.__getattribute__» ⟨[.ref a, .str "__class__" t], []⟩) _ _ _
 unfold Builtin.«object.__getattribute__»
 refine wpAny_bind (wpAny_pure ?_)
 refine wpAny_bind (wpAny_pure ?_)
 refine wpAny_bind (L0.at (wpAny_bind (L4.at ?_)))
 dsimp only
 show wpAny _ _ (holding [Value.builtin "object.__class__"] (call (.builtin "getset_descriptor.__get__") [.builtin "object.__class__", .ref a, .ref C]) >>= ret) _ _ _
 refine wpAny_bind (wpAny_holding (wpAny_call (class_get (s := ⟨hp, g, d, t + 1, os⟩) X I F.ob (wpAny_pure ?_))))
 exact handed_on rfl (wpAny_pure h)
def A1c (X : Cx) : Prop := X.A.handled = none \/ ∃ x o u vs, X.A.handled = some (.ref x) /\ X.H₀ x = some (.frz o u) /\ o.data = .fields vs /\ vs[2]? = some .none
section
variable {X : Cx} {pins : List (Addr × Obj)} {σ : St} {H : Hp} {s : Shared}
theorem Inv.hdB {it : Addr} (I : Inv X pins σ H s) (h : A1c X) (hn : H it = none) : ∀ h' : Heap, Heap.ExtBut it s.heap h' -> Hd X.A h' := by
 intro h' k
 rcases h with z | ⟨x, o, u, vs, z, e, d, n⟩
 . exact .inl z
 have q := I.base.frzs x o u e
 exact .inr ⟨x, o, vs, z, k x o (fun w => by rw [w, hn] at q; cases q) (I.hok x _ q).1, d, n⟩
end
structure Y8m (P : Program) (w : World) (K : Frag) (tg : Expr) (J : It) (it : Addr) (tn : Nat -> Heap -> Prop) : Prop where
 obj : ∀ i h, tn i h -> ∃ o, h.get? it = some o /\ ∀ v, o.data ≠ .cell v
 keep : ∀ i h h', tn i h -> (∀ o, h.get? it = some o -> h'.get? it = some o) -> tn i h'
 item : ∀ (X : Cx), X.prog = P -> X.w = w -> X.K = K -> A1c X -> ∀ (i : Nat) (pins : List (Addr × Obj)) (s : Shared) (σ : St) (H : Hp) (E : Value -> Shared -> Prop), Inv X pins σ H s -> A5f X pins H it -> tn i s.heap -> J.go i H ->
   wpAny (model P w) X.A (pyNext (.ref it)) (fun r s1 => ∃ u, r = some u /\
     wpAny (model P w) X.A (letOwnedTupleGo tg (.ref it) u) (fun _ s2 => ∃ x, Inv X pins σ H s2 /\ V0 x u /\ J.yld i H x H /\ tn (i + 1) s2.heap) E s1) E s
 done : ∀ (X : Cx), X.prog = P -> X.w = w -> X.K = K -> A1c X -> ∀ (i : Nat) (pins : List (Addr × Obj)) (s : Shared) (σ : St) (H : Hp) (E : Value -> Shared -> Prop), Inv X pins σ H s -> A5f X pins H it -> tn i s.heap -> J.stop i H ->
   wpAny (model P w) X.A (pyNext (.ref it)) (fun r s1 => r = none /\ Inv X pins σ H s1) E s
 self : ∀ (A : Around) (i : Nat) (s : Shared) (Q : Value -> Shared -> Prop) (E : Value -> Shared -> Prop), tn i s.heap -> Q (.ref it) s -> wpAny (model P w) A (pyIter (.ref it)) Q E s
theorem U0h {P : Program} {w : World} {K : Frag} {tg : Expr} (a it : Addr) : Y8m P w K tg (Itl K a) it (fun i h => h.IsListIter it a i) where
 obj := fun i h ⟨o, e, c, d⟩ => ⟨o, e, fun v z => by rw [d] at z; cases z⟩
 keep := fun i h h' st k => st.at fun o e => k o e
 item := by
   intro X hP hw hK hc i pins s σ H E I hf st hg
   subst hP hw hK
   obtain ⟨xs, x, hq, hx⟩ := hg
   obtain ⟨its, rv, p, hz⟩ := I.list hq
   obtain ⟨u, hu, ru⟩ := rv.get hx
   obtain ⟨f0, f1, f2, f3, f4, f5⟩ := hf
   refine wpAny_pyNext_list_item st p.isList (x := u) (by simpa using hu) fun h' st' sb => ?_
   have I1 : Inv X pins σ H { s with heap := h' } := I.turned (t' := s.toks) (fun b o hb e => (sb.2 b hb).trans e) f0 f1 f3 f4 f5
   obtain ⟨o, e, c, d⟩ := id st'
   exact ⟨u, rfl, V4e (s := { s with heap := h' }) e c d (by decide) ⟨x, I1, ru, ⟨rfl, fun ys hy => by rw [I.list_inj hy hq]; exact hx⟩, st'⟩⟩
 done := by
   intro X hP hw hK hc i pins s σ H E I hf st hg
   subst hP hw hK
   obtain ⟨xs, hq, hx⟩ := hg
   obtain ⟨its, rv, p, hz⟩ := I.list hq
   obtain ⟨f0, f1, f2, f3, f4, f5⟩ := hf
   have hl := rv.length
   exact C1t (I.hdB hc f0) st p.isList (by simp; omega) fun h' eb => ⟨rfl, I.turned (t' := s.toks) (fun b o hb e => eb b o hb e) f0 f1 f3 f4 f5⟩
 self := fun _ _ _ _ _ st h => wpAny_pyIter_listiter st h
theorem V7e {P : Program} {w : World} {K : Frag} {tg : Expr} (a it : Addr) : Y8m P w K tg (Itt K a) it (fun i h => h.IsTupleIter it a i) where
 obj := fun i h ⟨o, e, c, d⟩ => ⟨o, e, fun v z => by rw [d] at z; cases z⟩
 keep := fun i h h' st k => st.at fun o e => k o e
 item := by
   intro X hP hw hK hc i pins s σ H E I hf st hg
   subst hP hw hK
   obtain ⟨xs, x, hq, hx⟩ := hg
   obtain ⟨its, rv, p, hz⟩ := I.tuple hq
   obtain ⟨u, hu, ru⟩ := rv.get hx
   obtain ⟨f0, f1, f2, f3, f4, f5⟩ := hf
   refine wpAny_pyNext_tuple_item st (show s.heap.IsTuple a its.toArray from p) (x := u) (by simpa using hu) fun h' st' sb => ?_
   have I1 : Inv X pins σ H { s with heap := h' } := I.turned (t' := s.toks) (fun b o hb e => (sb.2 b hb).trans e) f0 f1 f3 f4 f5
   obtain ⟨o, e, c, d⟩ := id st'
   exact ⟨u, rfl, V4e (s := { s with heap := h' }) e c d (by decide) ⟨x, I1, ru, ⟨rfl, fun ys hy => by rw [I.tuple_inj hy hq]; exact hx⟩, st'⟩⟩
 done := by
   intro X hP hw hK hc i pins s σ H E I hf st hg
   subst hP hw hK
   obtain ⟨xs, hq, hx⟩ := hg
   obtain ⟨its, rv, p, hz⟩ := I.tuple hq
   obtain ⟨f0, f1, f2, f3, f4, f5⟩ := hf
   have hl := rv.length
   exact C7e (I.hdB hc f0) st p (by simp; omega) fun h' eb => ⟨rfl, I.turned (t' := s.toks) (fun b o hb e => eb b o hb e) f0 f1 f3 f4 f5⟩
 self := fun _ _ _ _ _ st h => wpAny_pyIter_tupleiter st h
def PIH (X : Cx) (tg iter : Expr) (wi : TI) : Prop :=
 ∀ (pins : List (Addr × Obj)) (s : Shared) (σ : St) (H : Hp) (R : It -> Hp -> Prop), Inv X pins σ H s -> wi σ H R ->
   wpAny (model X.prog X.w) X.A (eval iter X.env) (fun v s1 => wpAny (model X.prog X.w) X.A (pyIter v) (fun itv s2 => ∃ (it : Addr) (tn : Nat -> Heap -> Prop) (J : It) (H' : Hp), itv = .ref it /\ Inv X pins σ H' s2 /\ Y8m X.prog X.w X.K tg J it tn /\ tn 0 s2.heap /\
     A5f X pins H' it /\ R J H') X.xe s1) X.xe s
section
variable {X : Cx} {tg : Expr}
theorem C0j {l : Expr} {tl : TE} (hl : PE X l tl) : PIH X tg l (A0qw X.K tl) := by
 intro pins s σ H R I h
 refine thn (hl pins s σ H _ I h) fun v s1 ⟨x, H1, I1, r1, q1⟩ => ?_
 obtain ⟨a, e, ⟨xs, hq⟩, q⟩ := q1
 subst e
 cases r1
 obtain ⟨its, rv, p, hz⟩ := I1.list hq
 exact wpAny_pyIter_list p.isList ⟨s1.heap.objs.size, _, _, H1, rfl, I1.kept (t' := s1.toks) fun b o e => Heap.get?_push_of_some _ e, U0h a _, ⟨_, Heap.get?_push_size _ rfl, rfl, rfl⟩, I1.fpOk (Nat.le_refl _) (I1.hok.fresh (Nat.le_refl _)), q⟩
theorem A0hu {l : Expr} {tl : TE} (hl : PE X l tl) : PIH X tg l (iTup X.K tl) := by
 intro pins s σ H R I h
 refine thn (hl pins s σ H _ I h) fun v s1 ⟨x, H1, I1, r1, q1⟩ => ?_
 obtain ⟨a, e, ⟨xs, hq⟩, q⟩ := q1
 subst e
 cases r1
 obtain ⟨its, rv, p, hz⟩ := I1.tuple hq
 exact wpAny_pyIter_tuple (show s1.heap.IsTuple a its.toArray from p) ⟨s1.heap.objs.size, _, _, H1, rfl, I1.kept (t' := s1.toks) fun b o e => Heap.get?_push_of_some _ e, V7e a _, ⟨_, Heap.get?_push_size _ rfl, rfl, rfl⟩, I1.fpOk (Nat.le_refl _) (I1.hok.fresh (Nat.le_refl _)), q⟩
end
abbrev Cx.comp (X : Cx) (scope : Scope) (N : List Str) (C : Addr) (s₀ : Shared) (H₀ : Hp) (ex : List Addr) (pins : List (Addr × Obj)) : Cx :=
 { X with N := N, s₀ := s₀, H₀ := H₀, env := compEnv scope C X.env, outer := X.stack, ex := ex, fn := fun _ => false, pn := pins, xe := fun _ _ => False }
structure B5x (N : List Str) (sc : Scope) : Prop where
 kind : sc.kind = .function
 free : ∀ y ∈ sc.names, y.2 ≠ .free
 cell : ∀ y ∈ sc.names, y.2 ≠ .cell
 loc : ∀ y ∈ sc.names, y.2 = .local -> sc.names.lookup y.1 = some .local
 nd : N.Nodup
def U0u (n : Nat) (wi : TI) (g : TG) (te : TE) : TE := fun σ H Q => wi σ H fun J H1 => ∀ D, H1 D = none ->
 ∃ (m : Nat) (W : Nat -> List V -> Hp -> Prop), W 0 [] (upd H1 D (.lst [])) /\ ∀ i ys H2, W i ys H2 -> i <= m /\ H2 D = some (.lst ys) /\ ((J.stop i H2 /\ Q (.ref D) H2) \/ (i < m /\ J.go i H2 /\ ∀ x H3, J.yld i H2 x H3 ->
   g x (List.replicate n none) H3 fun σ4 H4 => te σ4 H4 fun y H6 => H6 D = some (.lst ys) /\ ys.length < sizeLine /\ W (i + 1) (ys ++ [y]) (upd H6 D (.lst (ys ++ [y])))))
theorem J5c {prog : Program} {w : World} {A : Around} {s : Shared} {elt target iter : Expr} {scope : Scope} {pos : Pos} {it acc : Value} {env : Env} {R : Result -> Shared -> Prop} (I : Nat -> Shared -> Prop)
   (turn : ∀ n s, I n s -> wpAny (model prog w) A (pyNext it) (fun r s₁ => match r with
     | none => R (.ok .next) s₁
     | some v => wpAny (model prog w) A (letOwnedTupleGo target it v) (fun _ s₀ => wpAny (model prog w) A (assign target env v) (fun _ s₂ => wpAny (model prog w) A (eval elt env) (fun x s₄ =>
         wpAny (model prog w) A (call (.builtin "list.append") [acc, x]) (fun _ s₅ => ∃ m, m < n /\ I m s₅) (notedBy (model prog w) A env fun e s' => R (.error e) s') s₄) (notedBy (model prog w) A env fun e s' => R (.error e) s') s₂)
         (notedBy (model prog w) A env fun e s' => R (.error e) s') s₀) (notedBy (model prog w) A env fun e s' => R (.error e) s') s₁) (notedBy (model prog w) A env fun e s' => R (.error e) s') s)
   (n : Nat) (h : I n s) : codeAny (model prog w) A (.compLoop (.ListComp elt [⟨target, iter, [], 0⟩] scope pos) 0 it acc env) R s := by
 refine codeAny_loop rfl I (fun n s hI => ?_) n h
 show wpAny _ A ((compTurn (.ListComp elt [⟨target, iter, [], 0⟩] scope pos) 0 it acc env).onRaise (fun x => do noteFrame x env; theTreesLotGoes x)) _ _ s
 refine wpAny_noted ?_; rw [compTurn_list1]
 refine wpAny_bind (wpAny_standAt (wpAny_bind (wpAny_mono (turn n s hI) (fun r s₁ h₁ => ?_) fun _ _ z => z)))
 cases r with
 | none => exact wpAny_pure h₁
 | some v =>
   refine wpAny_bind (wpAny_mono h₁ (fun _ s₀ q₀ => ?_) fun _ _ z => z)
   refine wpAny_bind (wpAny_mono q₀ (fun _ s₂ q₂ => ?_) fun _ _ z => z)
   exact wpAny_bind (wpAny_bind (wpAny_mono q₂ (fun x s₄ q₄ => wpAny_bind (wpAny_mono q₄ (fun _ s₅ q₅ => wpAny_pure (wpAny_pure ⟨rfl, q₅⟩)) fun _ _ z => z)) fun _ _ z => z))
section
variable {X : Cx}
theorem Y5p {pins : List (Addr × Obj)} {σ : St} {H : Hp} {s : Shared} {scope : Scope} {N : List Str} {it : Addr} {h' : Heap} (S : B5x N scope) (I : Inv X pins σ H s) (hf : A5f X pins H it) (hit : ∃ o, s.heap.get? it = some o) (hnb : X.base.get? it = none)
   (hns : h'.Ns s.heap.objs.size (fun _ => none)) (hsb : ∀ b o, s.heap.get? b = some o -> h'.get? b = some o) {tk : Nat} :
   Inv (X.comp scope N s.heap.objs.size s H [it] (X.pn ++ pins)) [] (List.replicate N.length none) H { s with heap := h', toks := tk } := by
 obtain ⟨f0, f1, f2, f3, f4, f5⟩ := hf
 obtain ⟨oi, ei⟩ := hit
 have lt : it < s.heap.objs.size := Heap.lt_size ei
 have nc : ∀ x c, (compEnv scope s.heap.objs.size X.env).cells.lookup x = some c -> False := fun x c z => by cases z
 have nk : ∀ x, ¬ ((compEnv scope s.heap.objs.size X.env).kindOf x = some .cell \/ (compEnv scope s.heap.objs.size X.env).kindOf x = some .free) := by
   intro x z
   have z : scope.names.lookup x = some .cell \/ scope.names.lookup x = some .free := z
   rcases z with z | z
   . exact S.cell _ (PySem.mem_of_lookup z) rfl
   . exact S.free _ (PySem.mem_of_lookup z) rfl
 refine ⟨⟨I.ok.mod, S.kind, I.ok.glob, I.ok.blt, Nat.le_refl _, fun x y c z => (nc x c z).elim, fun x z => (nk x z).elim, fun x c _ z => (nc x c z).elim, I.ok.hd, I.ok.frames, .inl rfl, fun b hb => ?_, I.bs, Nat.le_trans I.ok.bsz I.sz, fun b o e hb => ?_, fun b hb hfs => ?_, I.stack, I.stkFree⟩,
   rfl, I.bare, Un.kept hsb, ⟨_, hns, fun i x v e1 e2 e3 => ?_⟩, fun x c z => (nc x c z).elim, I.hok.fresh (Nat.le_refl _), fun x c z => (nc x c z).elim, fun p hp => ?_, I.hok.kept hsb, by simp⟩
 . have e : b = it := by simpa using hb
   subst e
   exact ⟨Nat.ne_of_lt lt, fun x c z => (nc x c z).elim⟩
 . have e' : b = it := by simpa using hb
   subst e'
   rw [hnb] at e
   cases e
 . have e' : b = it := by simpa using hb
   subst e'
   rcases List.mem_cons.mp (I.stkSub b hfs) with z | z
   . exact f1 z
   . exact f2 z
 . rw [List.getElem?_replicate] at e2
   split at e2 <;> cases e2
 have hp' : p ∈ X.pn ++ pins := by simpa using hp
 obtain ⟨q1, q2, q3, q4, q5⟩ := I.pin p hp'
 refine ⟨hsb _ _ q1, q2, Nat.ne_of_lt (Heap.lt_size q1), fun z => ?_, q5⟩
 rcases List.mem_cons.mp (I.stkSub p.1 z) with z | z
 . exact q3 z
 exact q4 z
theorem C8r {elt target iter : Expr} {scope : Scope} {pos : Pos} {N : List Str} {wi : TI} {g : TG} {te : TE} (S : B5x N scope) (hd : A1c X) (hi : PIH X target iter wi) (hex : X.ex = [])
   (hg : ∀ C s₀ H₀ ex pn, A1c (X.comp scope N C s₀ H₀ ex pn) -> PG (X.comp scope N C s₀ H₀ ex pn) target g)
   (he : ∀ C s₀ H₀ ex pn, A1c (X.comp scope N C s₀ H₀ ex pn) -> PE (X.comp scope N C s₀ H₀ ex pn) elt te)
   {pins : List (Addr × Obj)} {s : Shared} {σ : St} {H : Hp} {Q : VK} {RR : Value -> Env -> Result -> Shared -> Prop} (I : Inv X pins σ H s) (h : (U0u N.length wi g te) σ H Q)
   (hRR : ∀ (D C : Addr) (s6 : Shared) (H5 : Hp) (mm : Str -> Option Value), Inv X pins σ H5 s6 -> s6.heap.Ns C mm -> A5f X pins H5 C -> Q (.ref D) H5 -> RR (.ref D) (compEnv scope C X.env) (.ok .next) s6) :
   wpAny (model X.prog X.w) X.A (eval iter X.env) (fun v s1 => wpAny (model X.prog X.w) X.A (pyIter v) (fun itv s2 => wpAny (model X.prog X.w) X.A (newList []) (fun acc s3 => wpAny (model X.prog X.w) X.A (newFunctionEnv scope X.env.globals [] [] X.env.qual none .none (some X.env)) (fun cenv s4 =>
     codeAny (model X.prog X.w) X.A (.compStart (.ListComp elt [⟨target, iter, [], 0⟩] scope pos) 0 itv acc { cenv with scope := scope }) (RR acc { cenv with scope := scope }) s4) X.xe s3) X.xe s2) X.xe s1) X.xe s := by
 refine thn (hi pins s σ H _ I h) fun v s1 h1 => thn h1 fun itv s2 h2 => ?_
 obtain ⟨it, tn, J, H2, rfl, I2, T, st2, f2, R⟩ := h2
 obtain ⟨oi, ei, di⟩ := T.obj _ _ st2
 have hf2 := I2.hok.fresh (Nat.le_refl _)
 refine wpAny_newObj_type ?_
 have I3 : Inv X pins σ (upd H2 s2.heap.objs.size (.lst [])) { s2 with heap := s2.heap.push { cls := .type "list", dict := none, data := .seq ([] : List Value).toArray } } := Inv.lnew (t' := s2.toks) I2 .nil (Nat.zero_le _)
 refine wpAny_newFunctionEnv S.cell (by intro y hy; simp at hy) (fun h4 hns hsb => ?_) S.kind
 dsimp only at hns hsb ⊢
 generalize hG : s2.heap.push { cls := .type "list", dict := none, data := .seq ([] : List Value).toArray } = G at I3 hns hsb ⊢
 generalize hD : s2.heap.objs.size = D at I3 hf2
 have nD : it ≠ D := by rw [<- hD]; exact Nat.ne_of_lt (Heap.lt_size ei)
 have eiG : G.get? it = some oi := by rw [<- hG]; exact Heap.get?_push_of_some _ ei
 have kp : ∀ b o, G.get? b = some o -> h4.get? b = some o := fun b o e => hsb.extBut b o (Nat.ne_of_lt (Heap.lt_size e)) (Heap.get?_push_of_some _ e)
 have f3 : A5f X pins (upd H2 D (.lst [])) it := ⟨by rw [G6 nD]; exact f2.1, f2.2⟩
 have nb : X.base.get? it = none := by
   cases q : X.base.get? it with
   | none => rfl
   | some o =>
     have := (I.ok.bs it o q).1
     rcases f2.2.2.2.1 with z | z
     . rw [hex] at z; simp at z
     . exact absurd (Nat.lt_of_lt_of_le (Heap.lt_size this) z) (Nat.lt_irrefl _)
 have hns' : h4.Ns G.objs.size (fun _ => none) := by
   obtain ⟨o, es, ep, q1, q2, q3, q4⟩ := hns
   exact ⟨o, es, ep, q1, q2, q3, fun x => by rw [q4]; rfl⟩
 have I4 := Y5p (tk := s2.toks + ([] : List (Str × Value)).length) S I3 f3 ⟨oi, eiG⟩ nb hns' kp
 have hdc : A1c (X.comp scope N G.objs.size { s2 with heap := G } (upd H2 D (.lst [])) [it] (X.pn ++ pins)) := by
   rcases hd with z | ⟨x, o, u, vs, z, e, d, n⟩
   . exact .inl z
   . refine .inr ⟨x, o, u, vs, z, ?_, d, n⟩
     have q := I2.base.frzs x o u e
     show upd H2 D (.lst []) x = _
     rw [G6 fun w => by rw [w, hf2] at q; cases q]
     exact q
 obtain ⟨m, W, w0, turn⟩ := R D hf2
 have gg := hg _ _ _ _ _ hdc
 have ee := he _ _ _ _ _ hdc
 have fpc : ∀ {H' : Hp} {σ' : St} {s' : Shared} {pl : List (Addr × Obj)}, Inv (X.comp scope N G.objs.size { s2 with heap := G } (upd H2 D (.lst [])) [it] (X.pn ++ pins)) pl σ' H' s' -> H' it = none -> (∀ p ∈ pl, p.1 ≠ it) -> A5f (X.comp scope N G.objs.size { s2 with heap := G } (upd H2 D (.lst [])) [it] (X.pn ++ pins)) pl H' it := by
   intro H' σ' s' pl J' hn hp
   refine ⟨hn, Nat.ne_of_lt (Heap.lt_size eiG), ?_, .inl (List.mem_singleton.mpr rfl), (fun x c z => nomatch z), fun p hpp => ?_⟩
   . intro z
     rcases List.mem_cons.mp (I.stkSub it z) with z | z
     . exact f2.2.1 z
     . exact f2.2.2.1 z
   . rcases List.mem_append.mp hpp with z | z
     . exact f2.2.2.2.2.2 p z
     . exact hp p z
 have loop : codeAny (model X.prog X.w) X.A (.compLoop (.ListComp elt [⟨target, iter, [], 0⟩] scope pos) 0 (.ref it) (.ref D) (compEnv scope G.objs.size X.env))
     (RR (.ref D) (compEnv scope G.objs.size X.env))
     { s2 with heap := h4, toks := s2.toks + ([] : List (Str × Value)).length } := by
   refine J5c (fun k s' => ∃ i ys H', k = m + 1 - i /\ Inv (X.comp scope N G.objs.size { s2 with heap := G } (upd H2 D (.lst [])) [it] (X.pn ++ pins)) [] (List.replicate N.length none) H' s' /\ tn i s'.heap /\ H' it = none /\ W i ys H') ?_ (m + 1)
     ⟨0, [], _, rfl, I4, T.keep _ _ _ st2 fun o e => kp it o (by rw [<- hG]; exact Heap.get?_push_of_some _ e), f3.1, w0⟩
   rintro k s5 ⟨i, ys, H5, rfl, I5, st5, n5, w5⟩
   obtain ⟨hi5, hD5, w5⟩ := turn i ys H5 w5
   rcases w5 with ⟨stop, q⟩ | ⟨lt5, go, step⟩
   . refine wpAny_mono (T.done (X.comp scope N G.objs.size { s2 with heap := G } (upd H2 D (.lst [])) [it] (X.pn ++ pins)) rfl rfl rfl hdc i [] s5 _ H5 (fun _ _ => False) I5 (fpc I5 n5 (by simp)) st5 stop) (fun r s6 z => ?_) (fun _ _ z => z.elim)
     obtain ⟨rfl, I6⟩ := z
     obtain ⟨mm, hn6, _⟩ := I6.loc
     have B6 := I6.base
     have J6 : Inv X pins σ H5 s6 := by
       refine I3.call' (ch := [it]) I6.os ⟨B6.keep, B6.slot, B6.free, B6.there, B6.tups, B6.frzs, B6.tbls⟩ I6.hok I6.bare (fun b hb => ?_)
       have e : b = it := by simpa using hb
       subst e
       exact ⟨f2.2.2.2.1, f2.2.1, f2.2.2.2.2.1, f2.2.2.2.2.2⟩
     have szG : X.s₀.heap.objs.size <= G.objs.size := I3.sz
     refine hRR D G.objs.size s6 H5 mm J6 hn6 ⟨I6.free, ?_, ?_, .inr szG, ?_, ?_⟩ q
     . exact Nat.ne_of_gt I3.lt
     . intro z
       obtain ⟨_, o, ho, _⟩ := I3.funs.mem z
       exact Nat.lt_irrefl _ (Heap.lt_size ho)
     . rintro x c z rfl
       obtain ⟨v', o, ho, _⟩ := I3.cell x _ z
       exact Nat.lt_irrefl _ (Heap.lt_size ho)
     . rintro p hp z
       have zz := (I3.pin p hp).1
       rw [z] at zz
       exact Nat.lt_irrefl _ (Heap.lt_size zz)
   . refine wpAny_mono (T.item (X.comp scope N G.objs.size { s2 with heap := G } (upd H2 D (.lst [])) [it] (X.pn ++ pins)) rfl rfl rfl hdc i [] s5 _ H5 (fun _ _ => False) I5 (fpc I5 n5 (by simp)) st5 go) (fun r s6 z => ?_) (fun _ _ z => z.elim)
     obtain ⟨u, rfl, z⟩ := z
     refine wpAny_mono z (fun _ s7 z => ?_) (fun _ _ z => z.elim)
     obtain ⟨x, I7, rx, yl, st7⟩ := z
     obtain ⟨o7, e7, d7⟩ := T.obj _ _ st7
     obtain ⟨p0, p1, p2, _⟩ := fpc I7 n5 (by simp)
     have I7' : Inv (X.comp scope N G.objs.size { s2 with heap := G } (upd H2 D (.lst [])) [it] (X.pn ++ pins)) [(it, o7)] (List.replicate N.length none) H5 s7 := I7.pins_of fun p hp => by
       have e : p = (it, o7) := by simpa using hp
       subst e
       exact ⟨e7, p0, p1, p2, d7⟩
     have back : ∀ {i' : Nat} {ys' : List V} {H' : Hp} {σ' : St} {s' : Shared}, i' = i + 1 -> Inv (X.comp scope N G.objs.size { s2 with heap := G } (upd H2 D (.lst [])) [it] (X.pn ++ pins)) [(it, o7)] σ' H' s' -> W i' ys' H' ->
         ∃ k', k' < m + 1 - i /\ ∃ i ys H', k' = m + 1 - i /\ Inv (X.comp scope N G.objs.size { s2 with heap := G } (upd H2 D (.lst [])) [it] (X.pn ++ pins)) [] (List.replicate N.length none) H' s' /\ tn i s'.heap /\ H' it = none /\ W i ys H' := by
       rintro i' ys' H' σ' s' rfl J' w'
       obtain ⟨q1, q2, _⟩ := J'.pin (it, o7) (List.mem_append_right _ (List.mem_singleton.mpr rfl))
       have jl : σ'.length = N.length := J'.len
       refine ⟨m + 1 - (i + 1), by omega, i + 1, ys', H', rfl, Inv.weak (J'.pins_of fun p hp => absurd hp (by simp)) (by rw [jl]; simp) (fun j v z => ?_), T.keep _ _ _ st7 fun o z => ?_, q2, w'⟩
       . rw [List.getElem?_replicate] at z
         split at z <;> cases z
       . rw [e7] at z
         cases z
         exact q1
     refine wpAny_mono (gg [(it, o7)] s7 _ H5 x u _ I7' rx (step x H5 yl)) (fun _ s8 z => ?_) (fun _ _ z => z.elim)
     obtain ⟨σ8, H8, I8, q8⟩ := z
     refine wpAny_mono (ee [(it, o7)] s8 σ8 H8 _ I8 q8) (fun y s10 z => ?_) (fun _ _ z => z.elim)
     obtain ⟨yv, H10, I10, ry, hD10, hz10, w10⟩ := z
     refine wpAny_mono (B5s (X := X.comp scope N G.objs.size { s2 with heap := G } (upd H2 D (.lst [])) [it] (X.pn ++ pins)) [(it, o7)] s10 σ8 H10 (.ref D) [yv] (.ref D) [y] (fun _ H11 => W (i + 1) (ys ++ [yv]) H11) I10 rfl (.cons ry .nil) ⟨D, ys, yv, rfl, rfl, hD10, hz10, w10⟩) (fun _ s11 z => ?_) (fun _ _ z => z.elim)
     obtain ⟨_, H11, I11, _, w11⟩ := z
     exact back rfl I11 w11
 exact codeAny_compStart_list loop (T.self _ 0 _ _ _ (T.keep _ _ _ st2 fun o e => kp it o (by rw [<- hG]; exact Heap.get?_push_of_some _ e)) loop)
theorem V2t {pins : List (Addr × Obj)} {σ : St} {H : Hp} {s : Shared} {C : Addr} {h' : Heap} (I : Inv X pins σ H s) (f : A5f X pins H C) (sb : Heap.SameBut C s.heap h') : Inv X pins σ H { s with heap := h' } :=
 I.turned (t' := s.toks) (fun b o hb e => (sb.2 b hb).trans e) f.1 f.2.1 f.2.2.2.1 f.2.2.2.2.1 f.2.2.2.2.2
theorem J4m {elt target iter : Expr} {scope : Scope} {pos : Pos} {N : List Str} {wi : TI} {g : TG} {te : TE} (S : B5x N scope) (hd : A1c X) (hi : PIH X target iter wi) (hex : X.ex = [])
   (hg : ∀ C s₀ H₀ ex pn, A1c (X.comp scope N C s₀ H₀ ex pn) -> PG (X.comp scope N C s₀ H₀ ex pn) target g)
   (he : ∀ C s₀ H₀ ex pn, A1c (X.comp scope N C s₀ H₀ ex pn) -> PE (X.comp scope N C s₀ H₀ ex pn) elt te)
   (hs : ∀ x, foldedSetIterable iter X.env x = pure x := by intro _; rfl) : PE X (.ListComp elt [⟨target, iter, [], 0⟩] scope pos) (U0u N.length wi g te) := by
 intro pins s σ H Q I h
 refine wpAny_ListComp S.free S.kind S.loc (C8r S hd hi hex hg he I h (RR := fun acc ce r s' => ∃ m, s'.heap.Ns ce.locals m /\ ∀ h', Heap.SameBut ce.locals s'.heap h' -> match r with
   | .ok _ => EP X pins σ Q acc { s' with heap := h' }
   | .error x => wpAny (model X.prog X.w) X.A (passOn "comprehension.variables-let-go" x ce) (EP X pins σ Q) X.xe { s' with heap := h' }) ?_) hs
 intro D C s6 H5 mm I6 n6 f6 q
 exact ⟨mm, n6, fun h' sb => ⟨.ref D, H5, V2t I6 f6 sb, rfl, q⟩⟩
theorem Y7s {i : Nat} {y : Str} {py spos : Pos} {elt target iter : Expr} {scope : Scope} {pos : Pos} {N : List Str} {wi : TI} {g : TG} {te : TE} (S : B5x N scope) (hd : A1c X) (hi : PIH X target iter wi) (hex : X.ex = [])
   (hg : ∀ C s₀ H₀ ex pn, A1c (X.comp scope N C s₀ H₀ ex pn) -> PG (X.comp scope N C s₀ H₀ ex pn) target g)
   (he : ∀ C s₀ H₀ ex pn, A1c (X.comp scope N C s₀ H₀ ex pn) -> PE (X.comp scope N C s₀ H₀ ex pn) elt te) (hN : X.N.Nodup) (hi' : X.N[i]? = some y) (hy : X.env.scope.names.lookup y = some .local)
   (hsw : swapsWith (.ListComp elt [⟨target, iter, [], 0⟩] scope pos) (some (.Name y py)) spos.line X.env = pure true := by rfl)
   (hs : ∀ x, foldedSetIterable iter X.env x = pure x := by intro _; rfl) : PS X (.Assign [.Name y py] (.ListComp elt [⟨target, iter, [], 0⟩] scope pos) spos) (tAsg (U0u N.length wi g te) (V2q i)) := by
 intro pins s σ H D I h
 rw [exec_Assign_Name_used _ _ _ _ hsw]
 refine wpAny_bind (wpAny_standAt (wpAny_bind ?_))
 show wpAny _ X.A (do let _ <- comprehension (.ListComp elt [⟨target, iter, [], 0⟩] scope pos) scope X.env _ (newList []) false (eval iter X.env) (some (assign (.Name y py) X.env))) _ _ s
 refine wpAny_bind (wpAny_mono (wpAny_comprehension_use (Q := fun _ s' => SP X pins D .next s') rfl hs S.free S.kind S.loc (C8r S hd hi hex hg he I h (RR := fun acc ce r s' => match r with
     | .ok _ => wpAny (model X.prog X.w) X.A (assign (.Name y py) X.env acc) (fun _ s'' => ∃ m, s''.heap.Ns ce.locals m /\ ∀ h', Heap.SameBut ce.locals s''.heap h' -> SP X pins D .next { s'' with heap := h' }) X.xe s'
     | .error x => ∃ m, s'.heap.Ns ce.locals m /\ ∀ h', Heap.SameBut ce.locals s'.heap h' -> wpAny (model X.prog X.w) X.A (passOn "comprehension.variables-let-go" x ce) (fun _ s' => SP X pins D .next s') X.xe { s' with heap := h' }) ?_))
   (fun _ s' hq => wpAny_pure (wpAny_pure hq)) fun _ _ e => e)
 intro D' C s6 H5 mm I6 n6 f6 q
 refine wpAny_assign_Name (D9a (v := .ref D') I6 hN hi' (.inl hy) rfl (fun s7 I7 st => ?_) (.inr hy))
 obtain ⟨a, sb, ha⟩ := st
 have na : C ≠ a := by
   rcases ha with rfl | ha
   . exact f6.2.1
   . exact (f6.2.2.2.2.1 y a ha).symm
 exact ⟨mm, n6.sameBut sb na, fun h' sb' => ⟨_, _, V2t I7 f6 sb', q⟩⟩
end
section
variable {X : Cx} {a b c : Expr} {ta tb tc : TE} {pos : Pos}
theorem G5 : OpR X (binaryOp .Mult) (rI IntMulOk fun i j => .int (i * j)) := opI fun _ _ _ _ _ _ _ hc q => mul_int q hc
theorem D8 : OpR X (binaryOp .FloorDiv) (rI (fun _ j => 0 < j /\ j.natAbs.log2 < 9000) fun i j => .int (i / j)) := opI fun i j _ _ _ _ _ hc q => by
 have h1 : (0 : Int) < j := hc.1
 exact floordiv_int (by omega) (by rw [Int.fdiv_eq_ediv_of_nonneg i (by omega)]; exact q) (.inl (PyProof.noPylong_of_log2 hc.2))
theorem A0s {i : Int} {k : Nat} (h : i.natAbs < 2 ^ k) (hk : 0 < k) : i.natAbs.log2 < k := by
 by_cases z : i.natAbs = 0
 . rw [z]; simpa using hk
 exact (Nat.log2_lt z).mpr h
theorem C9h {i : Int} (h : i.natAbs < 2 ^ 1000) : Builtin.Int.intBits i <= 2 ^ 20 := by
 unfold Builtin.Int.intBits
 split
 . exact Nat.zero_le _
 have := A0s h (by decide)
 have e : (2 : Nat) ^ 20 = 1048576 := by decide
 omega
theorem Y8 {i j : Int} (h : i.natAbs < 2 ^ 1000) (h' : j.natAbs < 2 ^ 1000) : IntMulOk i j := IntMulOk.of_bits (C9h h) (C9h h')
inductive TyE (K : Frag) (H : Hp) : V -> Value -> Prop where
 | of {x : V} {t : Value} (h : C1x K H x t) : TyE K H x t
 | exc {a C t : Addr} {T : Value} {u : HO} (e : H a = some (.frz (A3g (.ref C) t none T) u)) (k : ExcK K C) : TyE K H (.ref a) (.ref C)
 | excD {a C t : Addr} {T : Value} {d : Addr} {u : HO} {fs : List (Str × V)} (e : H a = some (.frz (A3g (.ref C) t (some d) T) u)) (hd : H d = some (.xd fs)) (k : ExcK K C) : TyE K H (.ref a) (.ref C)
 | tupK {a : Addr} {o : Obj} (l : K.lookup a = some o) (c : o.cls = .type "tuple") : TyE K H (.ref a) (.type "tuple")
theorem U0g {pins : List (Addr × Obj)} {σ : St} {H : Hp} {s : Shared} {A : Around} {E : Value -> Shared -> Prop} {Q : Value -> Shared -> Prop} {c : Value} {b : Bool} {x : V} {u t : Value} (I : Inv X pins σ H s) (rx : V0 x u) (ty : TyE X.K H x t)
   (e : kitOne X.K t c = some b) (h : ∀ tk, Q (.bool b) { s with toks := tk }) : wpAny (model X.prog X.w) A (call (.builtin "isinstance") [u, c]) Q E s := by
 cases ty with
 | of h' => exact V7d I rx h' e h
 | exc ea k =>
   cases rx
   rename_i a C t0 T u0
   have o1 : s.heap.get? a = some (A3g (.ref C) t0 none T) := (I.hok a _ ea).1
   refine kia_one (H := fun h => PySem.W.InstAt h a (A3g (.ref C) t0 none T) C none) ?_ I.kIn ⟨o1, rfl, rfl, trivial⟩ e (fun z => nomatch z) h
   refine ⟨fun M h _ J => J.type, fun M h K _ => C0b K k.cl, fun h tp dd its n sl K htp => ?_, fun K J q => B1j k K J q⟩
   refine Bool.eq_false_iff.mpr fun q => ?_
   have e : C = tp := Value.ref.inj (beq_iff_eq.mp q)
   subst e
   have z := k.cl
   unfold clsIn at z
   split at z
   . rename_i ho
     have y := (K _ _ ho).symm.trans htp
     cases y
   . cases z
 | tupK l c =>
   cases rx
   exact PySem.W.kia_one PySem.W.kitx_tuple I.kIn ⟨_, I.kIn _ _ l, c⟩ e (fun z => nomatch z) h
 | excD ea hd k =>
   cases rx
   rename_i a C t0 T d u0 fs
   have o1 : s.heap.get? a = some (A3g (.ref C) t0 (some d) T) := (I.hok a _ ea).1
   obtain ⟨mA, nA, _⟩ := (show ∃ mA, s.heap.Ns1 d mA /\ ∀ f, C7g (fs.lookup f) (mA f) from I.hok d _ hd)
   obtain ⟨od, o2, _⟩ := D9c nA
   refine kia_one (H := fun h => PySem.W.InstAt h a (A3g (.ref C) t0 (some d) T) C (some od)) ?_ I.kIn ⟨o1, rfl, rfl, o2⟩ e (fun z => nomatch z) h
   refine ⟨fun M h _ J => J.type, fun M h K _ => C0b K k.cl, fun h tp dd its n sl K htp => ?_, fun K J q => B1j k K J q⟩
   refine Bool.eq_false_iff.mpr fun q => ?_
   have e : C = tp := Value.ref.inj (beq_iff_eq.mp q)
   subst e
   have z := k.cl
   unfold clsIn at z
   split at z
   . rename_i ho
     have y := (K _ _ ho).symm.trans htp
     cases y
   . cases z
def clsV : V -> Option Value
 | .ty n => some (.type n)
 | .ref a => some (.ref a)
 | _ => none
theorem J4f : A6w X (.builtin "isinstance") (fun xs H Q => ∃ x c cv t b, xs = [x, c] /\ clsV c = some cv /\ TyE X.K H x t /\ kitOne X.K t cv = some b /\ Q (.bl b) H) := by
 intro pins s σ H xs us Q I r h
 obtain ⟨x, c, cv, t, b, rfl, hc, ty, e, q⟩ := h
 obtain ⟨u, v, rfl, ru, rv⟩ := U2.two r
 have : v = cv := by
   cases c <;> simp only [clsV] at hc <;> first | (cases hc; exact rv) | cases hc
 subst this
 exact U0g I ru ty e fun tk => ⟨.bl b, H, I.tok tk, rfl, q⟩
mutual
inductive RdD (K : Frag) (H : Hp) : V -> PyData -> Prop where
 | non : RdD K H .non .none
 | bl (b : Bool) : RdD K H (.bl b) (.bool b)
 | int (i : Int) : RdD K H (.int i) (.int i)
 | str (x : Str) : RdD K H (.str x) (.str x)
 | tup {a : Addr} {xs : List V} {ds : List PyData} (h : SqT K H a xs) (r : D0g K H xs ds) : RdD K H (.ref a) (.tuple ds)
 | lst {a : Addr} {xs : List V} {ds : List PyData} (h : SqL K H a xs) (r : D0g K H xs ds) : RdD K H (.ref a) (.list ds)
inductive D0g (K : Frag) (H : Hp) : List V -> List PyData -> Prop where
 | nil : D0g K H [] []
 | cons {x : V} {xs : List V} {d : PyData} {ds : List PyData} (h : RdD K H x d) (r : D0g K H xs ds) : D0g K H (x :: xs) (d :: ds)
end
mutual
theorem RdD.reads {pins : List (Addr × Obj)} {σ : St} {H : Hp} {s : Shared} (I : Inv X pins σ H s) : ∀ {x : V} {d : PyData} {u : Value}, RdD X.K H x d -> V0 x u -> ∃ as, Reads s.heap u d as
 | _, _, _, .non, r => by cases r; exact ⟨_, .none⟩
 | _, _, _, .bl b, r => by cases r; exact ⟨_, .bool b⟩
 | _, _, _, .int i, r => by obtain ⟨t, rfl⟩ := r; exact ⟨_, .int i t⟩
 | _, _, _, .str x, r => by obtain ⟨t, rfl⟩ := r; exact ⟨_, .str x t⟩
 | _, _, _, .tup h q, r => by
   cases r
   obtain ⟨its, rv, ⟨o, e, c, n, d⟩, _⟩ := I.tuple h
   obtain ⟨as, z⟩ := D0g.reads I q rv
   exact ⟨_, reads_tuple_at e c d (by simpa using z)⟩
 | _, _, _, .lst h q, r => by
   cases r
   obtain ⟨its, rv, p, _⟩ := I.list h
   obtain ⟨o, e, c, n, d⟩ := p.isList
   obtain ⟨as, z⟩ := D0g.reads I q rv
   exact ⟨_, reads_list_at e c d (by simpa using z)⟩
theorem D0g.reads {pins : List (Addr × Obj)} {σ : St} {H : Hp} {s : Shared} (I : Inv X pins σ H s) : ∀ {xs : List V} {ds : List PyData} {us : List Value}, D0g X.K H xs ds -> U2 xs us -> ∃ as, ReadsAll s.heap us ds as
 | _, _, _, .nil, r => by cases r; exact ⟨_, .nil⟩
 | _, _, _, .cons h q, r => by
   cases r with
   | cons r1 r2 =>
     obtain ⟨as, z⟩ := RdD.reads I h r1
     obtain ⟨bs, y⟩ := D0g.reads I q r2
     exact ⟨_, .cons z y⟩
end
def rEqD (K : Frag) (n : Bool) : R2 := fun x y H Q => ∃ d e, RdD K H x d /\ RdD K H y e /\ SeqAt.shaped d = true /\ SeqAt.shaped e = true /\ Q (.bl (if n then !PyData.eqv d e else PyData.eqv d e)) H
theorem A0sj (hu : X.A.units + 64 < cLine) : OpR X (compareOp .Eq) (rEqD X.K false) := by
 intro pins s σ H x y v u Q I rx ry q
 obtain ⟨d, e, hx, hy, sd, se, q⟩ := q
 obtain ⟨as, z⟩ := hx.reads I rx
 obtain ⟨bs, z'⟩ := hy.reads I ry
 exact eq_dataH z z' sd se hu ⟨.bl (PyData.eqv d e), H, I, rfl, q⟩
theorem Y5c (hu : X.A.units + 64 < cLine) : OpR X (compareOp .NotEq) (rEqD X.K true) := by
 intro pins s σ H x y v u Q I rx ry q
 obtain ⟨d, e, hx, hy, sd, se, q⟩ := q
 obtain ⟨as, z⟩ := hx.reads I rx
 obtain ⟨bs, z'⟩ := hy.reads I ry
 exact ne_dataH z z' sd se hu ⟨.bl (!PyData.eqv d e), H, I, rfl, q⟩
theorem Y4q (hc : X.A.handled = none) : A6w X (.builtin "any") (fun xs H Q => ∃ (l : Addr) (bs : List Bool), xs = [.ref l] /\ SqL X.K H l (bs.map V.bl) /\ Q (.bl (bs.any id)) H) := by
 intro pins s σ H xs us Q I r h
 obtain ⟨l, bs, rfl, hl, q⟩ := h
 obtain ⟨u, rfl, ru⟩ := U2.one r
 cases ru
 obtain ⟨its, rv, p, hz⟩ := I.list hl
 obtain ⟨o, e, _⟩ := id p.isList
 have hlt : l < s.heap.objs.size := Heap.lt_size e
 have hlen : its.length = bs.length := by rw [<- rv.length, List.length_map]
 refine call_any_walk (wpAny_pyIter_list p.isList ?_)
 refine ⟨s.heap.objs.size, [s.heap.objs.size, l], [s.heap.objs.size], its.toArray.size, _, _, fun i => (bs[i]?).getD false, rfl, Walks.list (A := X.A.in1) hc _ l (Nat.ne_of_lt hlt) its.toArray, ⟨⟨_, Heap.get?_push_size _ rfl, rfl, rfl⟩, p.isList.push _⟩, fun i v s' Q' E' hP hQ => ?_, fun h' tk hk => ?_⟩
 . have hP : its[i]? = some v := by simpa using hP
   have hi : i < bs.length := by rw [<- hlen]; exact (List.getElem?_eq_some_iff.mp hP).1
   obtain ⟨u', hu', ru'⟩ := rv.get (i := i) (x := V.bl bs[i]) (by simp [hi])
   rw [hP] at hu'
   cases hu'
   cases ru'
   have z : (bs[i]?).getD false = bs[i] := by simp [hi]
   dsimp only at hQ
   rw [z] at hQ
   exact wpAny_truthy_bool hQ
 have z : ((List.range its.toArray.size).any fun i => (bs[i]?).getD false) = bs.any id := by
   rw [List.size_toArray, hlen]
   exact LSm.range_any bs
 rw [z]
 exact ⟨.bl (bs.any id), H, I.kept fun b x e => hk b x (fun hm => by rw [List.mem_singleton.mp hm] at e; exact Nat.lt_irrefl _ (Heap.lt_size e)) (Heap.get?_push_of_some _ e), rfl, q⟩
inductive J5p (X : Cx) : Expr -> TE -> Prop where
 | lit {x : Str} {j : Nat} {pos : Pos} : J5p X (.Constant (.str x) j pos) (tC (.str x))
 | int {v : Expr} {tv : TE} {pos : Pos} (h : PE X v tv) : J5p X (.FormattedValue v (-1) none pos) (fun σ H Q => tv σ H fun y H1 => ∃ i, y = .int i /\ i.natAbs.log2 < 1920 /\ Q (.str (toString i)) H1)
theorem J5p.pe {e : Expr} {t : TE} (h : J5p X e t) : PE X e t := by
 cases h with
 | lit => exact D5
 | int h =>
   intro pins s σ H Q I q
   refine FormattedValue_plain (thn (h pins s σ H _ I q) fun u s1 ⟨y, H1, I1, r, i, e, l, q⟩ => ?_)
   subst e
   obtain ⟨t, rfl⟩ := r
   exact formatField_int_small l ⟨.str (toString i), H1, I1.tok _, ⟨_, rfl⟩, q⟩
inductive C1y (X : Cx) : List Expr -> (Str -> TE) -> Prop where
 | nil : C1y X [] (fun out _ H Q => out.length <= sizeLine /\ Q (.str out) H)
 | cons {e : Expr} {es : List Expr} {t : TE} {r : Str -> TE} (h : J5p X e t) (hr : C1y X es r) : C1y X (e :: es) (fun out σ H Q => t σ H fun x H1 => ∃ y, x = .str y /\ (out ++ y).length <= sizeLine /\ r (out ++ y) σ H1 Q)
theorem C1y.run {es : List Expr} {t : Str -> TE} (h : C1y X es t) : ∀ (out : Str) (pins : List (Addr × Obj)) (s : Shared) (σ : St) (H : Hp) (Q : VK), Inv X pins σ H s -> t out σ H Q ->
   wpAny (model X.prog X.w) X.A (joinParts out (evalEach es X.env)) (EP X pins σ Q) X.xe s := by
 induction h with
 | nil =>
   intro out pins s σ H Q I q
   exact joinParts_nil ⟨.str out, H, I.tok _, ⟨_, rfl⟩, q.2⟩ q.1
 | @cons e es t r h hr ih =>
   intro out pins s σ H Q I q
   show wpAny _ _ (joinParts out (eval e X.env :: evalEach es X.env)) _ _ _
   refine joinParts_cons (thn (h.pe pins s σ H _ I q) fun u s1 ⟨x, H1, I1, rx, y, ey, z, q⟩ => ?_)
   subst ey
   obtain ⟨t', rfl⟩ := rx
   exact ⟨z, ih _ pins s1 σ H1 Q I1 q⟩
theorem G2g {e1 e2 : Expr} {es : List Expr} {t : Str -> TE} {pos : Pos} (h : C1y X (e1 :: e2 :: es) t) : PE X (.JoinedStr (e1 :: e2 :: es) pos) (t Str.empty) := by
 intro pins s σ H Q I q
 exact JoinedStr_many (h.run _ pins s σ H Q I q)
end
section
variable {P : Program} {w : World} {K : Frag} {mg : Str -> Option Value} {base : Heap}
end
section
variable {X : Cx} {k : Nat} {f : Addr} {fd : FuncData} {ps : List Str} {sp : Sp} {x : Str} {p pos : Pos} {e : Expr} {es : List Expr} {t : TA}
end
abbrev EKF : EK := fun _ _ _ _ => False
theorem Y1 {X : Cx} : U1 X EKF := fun _ _ _ _ _ _ _ _ _ _ h => h.elim
structure Def (K : Frag) (mg : Str -> Option Value) (x : Str) (ps : List Str) (st : Stmt) (f : Addr) (fd : FuncData) : Prop where
 F : Fun K x x st f fd
 g : mg x = some (.ref f)
 b : Binds K fd ps []
theorem G0 {K : Frag} {h : Heap} {mg : Str -> Option Value} {x : Str} {ps : List Str} {st : Stmt} {f : Addr} {oc : Value} {od an : Option Addr} {osl : Array (Option Value)} {kV doc pm cdv ct : Value} (X : K.In h) (G : h.Ns mainGlobals mg)
   (a : nsIn K mainGlobals x = some (some (.ref f))) (l : K.lookup f = some ⟨oc, od, .func (fnOf x x (B9 st) (B7 st) (A2 st) .none kV doc pm an cdv ct), osl⟩) (c : codeIn K cdv x = true) (k : keepIn K (.ref f) = true)
   (hb : ∀ (kV doc pm : Value) (an : Option Addr) (cdv ct : Value) (us : List Value), us.length = ps.length -> bindArgs (fnOf x x (B9 st) (B7 st) (A2 st) .none kV doc pm an cdv ct) ⟨us, []⟩ = pure (ps.zip us)) :
   Def K mg x ps st f (fnOf x x (B9 st) (B7 st) (A2 st) .none kV doc pm an cdv ct) :=
 ⟨U3 (st := st) l c k, mg_of X G a, (U3 (st := st) l c k).binds hb⟩
theorem J9 {c A B : Prop} [Decidable c] (h : ¬ c) (b : B) : if decide c = true then A else B := by rw [decide_eq_false h]; exact V3 b
theorem A0p {c A B : Prop} [Decidable c] (h : c) (a : A) : if decide c = true then A else B := by rw [decide_eq_true h]; exact Z5 a
theorem J1 {c A B : Prop} [Decidable c] (a : c -> A) (b : ¬ c -> B) : if decide c = true then A else B := by
 by_cases h : c
 . exact A0p h (a h)
 exact J9 h (b h)
def A0xr (t : TS) : TS := fun D σ H => ∃ J : St -> Hp -> Prop, t { D with nx := J } σ H /\ ∀ σ' H', J σ' H' -> D.nx σ' H'
theorem B5 {X : Cx} {st : Stmt} {t : TS} (h : PS X st t) : PS X st (A0xr t) := by
 intro pins s σ H D I q
 obtain ⟨J, q, k⟩ := q
 refine thn (h pins s σ H _ I q) fun f s' z => ?_
 cases f with
 | next => obtain ⟨σ', H', I', y⟩ := z; exact ⟨σ', H', I', k _ _ y⟩
 | brk => exact z
 | cont => exact z
 | ret u => exact z
theorem C8.upd {H : Hp} {p : Addr} {o : HO} (h : H p = none) : C8 H (L2.upd H p o) := fun b u e => by rw [G6 (G7 e h)]; exact e
theorem D7 {n : Nat} (h : n <= 1000) : n <= sizeLine := Nat.le_of_lt (A0y h)
section
variable {X : Cx} {k j : Nat} {f : Addr} {fd : FuncData} {ps : List Str} {sp : Sp} {EH : EK} {x : Str} {st : Stmt} {p pos : Pos} {e : Expr} {es : List Expr} {t : TA}
theorem C9 (D : Def X.K X.mg x ps st f fd) (F : A8 X.prog X.w X.K X.mg X.base (CX1 X.prog X.w) j f fd ps sp) (hr : A0m k X.A) (hx : U1 X EH) (ha : PA X (e :: es) t) (hj : j <= k := by decide) (hg : Gl X x := by rfl) (hex : X.ex = [] := by rfl) (hdb : (x == ("__debug__" : Str)) = false := by decide)
   (he : starEach (e :: es) X.env = (false, eval e X.env) :: starEach es X.env := by rfl) (hpl : (backTo pos (starEach es X.env)).any (·.1) = false := by rfl) : PE X (.Call (.Name x p) (e :: es) [] pos) (C9d sp [] EH t) :=
 Y7e (F.mono hj) hr hg D.g D.F.kp D.b .nil hx ha hex hdb he hpl
theorem A3f (D : Def X.K X.mg x ps st f fd) (F : A8 X.prog X.w X.K X.mg X.base (CX1 X.prog X.w) j f fd ps sp) (hr : A0m k X.A) (hx : U1 X EH) (hj : j <= k := by decide) (hg : Gl X x := by rfl) (hex : X.ex = [] := by rfl) (hdb : (x == ("__debug__" : Str)) = false := by decide) :
   PE X (.Call (.Name x p) [] [] pos) (C9d sp [] EH Y7f) :=
 V6b (F.mono hj) hr hg D.g D.F.kp D.b .nil hx hex hdb
theorem pty {n : Str} {T : String} (hm : X.mg n = none) (hv : bootBuiltins n = some (.type T)) (hg : Gl X n := by rfl) (hn : n ≠ "__name__" := by decide) (hdb : (n == ("__debug__" : Str)) = false := by decide) : PE X (.Name n pos) (tC (.ty T)) := A0gf hg hm hv rfl hn hdb
theorem pcls {n : Str} {C : Addr} (hm : X.mg n = some (.ref C)) (hg : Gl X n := by rfl) (hdb : (n == ("__debug__" : Str)) = false := by decide) : PE X (.Name n pos) (tC (.ref C)) := A0jv hg hm rfl hdb
theorem V6t {a b : Expr} {ta tb : TE} (hm : X.mg "isinstance" = none) (ha : PE X a ta) (hb : PE X b tb) (hg : Gl X "isinstance" := by rfl)
   (h1 : starEach [a, b] X.env = (false, eval a X.env) :: starEach [b] X.env := by rfl) (h2 : starEach [b] X.env = (false, eval b X.env) :: starEach [] X.env := by rfl) (h3 : (backTo pos (starEach [b] X.env)).any (·.1) = false := by rfl) :
   PE X (.Call (.Name "isinstance" p) [a, b] [] pos) (tCB (fun xs H Q => ∃ x c cv t b, xs = [x, c] /\ clsV c = some cv /\ TyE X.K H x t /\ kitOne X.K t cv = some b /\ Q (.bl b) H) (Y6y ta (Y6y tb Y7f))) :=
 J3 J4f hg hm boot_isinstance (A0 ha (A0 hb A5 h2) h1) (he := h1) (hpl := h3)
end
section
variable {X : Cx} {k j : Nat} {f : Addr} {fd : FuncData} {ps : List Str} {sp : Sp} {x : Str} {st : Stmt} {p pos : Pos} {e : Expr} {es : List Expr} {t : TA}
end
structure Mk0 (K : Frag) (C : Addr) : Prop where
 makes : makesIn K C = true
 init : findIn K (.ref C) "__init__" = some (some (.builtin "object.__init__"))
 kp : keepIn K (.ref C) = true
section
variable {X : Cx} {k j : Nat} {f C : Addr} {fd : FuncData} {ps : List Str} {sp : Sp} {dvs : List V} {ds : List Value} {EH : EK} {x m : Str} {p pos apos : Pos} {e o : Expr} {es : List Expr} {ta : TE} {t : TA}
def tNew (C : Addr) : TE := fun _ H Q => ∀ x dx, H x = none -> H dx = none -> dx ≠ x -> Q (.ref x) (upd (upd H dx (.own x)) x (.ins C dx []))
theorem A0hr {pins : List (Addr × Obj)} {σ : St} {H : Hp} {s : Shared} {Q : VK} (M : Mk0 X.K C) (I : Inv X pins σ H s) (h : tNew C σ H Q) : wpAny (model X.prog X.w) X.A (call (.ref C) []) (EP X pins σ Q) X.xe s := by
 have hq := h (s.heap.objs.size + 1) s.heap.objs.size (I.hok.fresh (Nat.le_succ _)) (I.hok.fresh (Nat.le_refl _)) (Nat.ne_of_lt (Nat.lt_succ_self _))
 have I2 := Inv.made (C := C) I
 have Y := makes_of (M := model X.prog X.w) I.kIn M.makes
 refine wpAny_call (V7h I.kIn M.makes M.init (fun self => Looks.of_pure (oi_bind self)) ?_)
 have e2 : ((s.heap.push emptyDict).push (instObj C s.heap.objs.size)).get? (s.heap.objs.size + 1) = some (instObj C s.heap.objs.size) := by
   have := Heap.get?_push_size (s.heap.push emptyDict) (o := instObj C s.heap.objs.size) rfl
   rwa [Heap.size_push] at this
 have t1 : Looks (model X.prog X.w) ((s.heap.push emptyDict).push (instObj C s.heap.objs.size)) (typeOf (.ref (s.heap.objs.size + 1))) (.ref C) := (Looks.ld e2).andThen .now
 have t2 : Looks (model X.prog X.w) ((s.heap.push emptyDict).push (instObj C s.heap.objs.size)) (isInstance (.ref (s.heap.objs.size + 1)) (.type "object")) true := t1.andThen (Y.top.keeps fun b o e => Heap.get?_push_of_some _ (Heap.get?_push_of_some _ e))
 refine codeAny_call_builtin oi_plain entry_oi (@check_slot (model X.prog X.w) _ _ _ "object.__init__" "object" "__init__" (.ref (s.heap.objs.size + 1)) [] [] _ oi_kind oi_split t2 (oi_args (.ref (s.heap.objs.size + 1))) ?_)
 rw [oi_run]
 exact wpAny_pure (And.intro rfl ⟨V.ref (s.heap.objs.size + 1), _, I2, rfl, hq⟩)
theorem B1p (M : Mk0 X.K C) (hg : Gl X x) (hm : X.mg x = some (.ref C)) (hdb : (x == ("__debug__" : Str)) = false := by decide) : PE X (.Call (.Name x p) [] [] pos) (tNew C) := by
 intro pins s σ H Q I h
 refine wpAny_Call_Name_kw (A3m I hg hm ?_ hdb)
 exact callWith_K0 I.kIn M.kp (A0hr M I h)
def Y5u (C : Addr) (m : Str) (sp : Sp) (dvs : List V) (EH : EK) (ta : TE) (t : TA) : TE := fun σ H Q => ta σ H fun x H1 => ∃ a dx fs, x = .ref a /\ H1 a = some (.ins C dx fs) /\ fs.lookup m = none /\
 t σ H1 fun vs H2 => sp (x :: (vs ++ dvs)) H2 Q (fun C d H' => EH C d σ H')
theorem C6r {pl : Sem Bool} (he : PE X o ta) (c : Cls X.K C) (hm : Y5 X.K C m f) (F : A8 X.prog X.w X.K X.mg X.base (CX1 X.prog X.w) j f fd ps sp) (hr : A0m k X.A) (hb : Binds X.K fd ps ds) (hd : U2 dvs ds) (hx : U1 X EH) (ha : PA X (e :: es) t)
   (hj : j <= k := by decide) (hex : X.ex = [] := by rfl)
   (hst : starEach (e :: es) X.env = (false, eval e X.env) :: starEach es X.env := by rfl) (hpl : (backTo pos (starEach es X.env)).any (·.1) = false := by rfl)
   (ht : eval (.Call (.Attribute o m apos) (e :: es) [] pos) X.env = (do
     let ov <- eval o X.env
     standAt apos.atName
     let (f, first) <- holding [ov] (getMethod ov m pl)
     callWith pos f first (backTo pos (starEach (e :: es) X.env)) (backToKw pos (keywordEach [] X.env))) := by rfl) :
   PE X (.Call (.Attribute o m apos) (e :: es) [] pos) (Y5u C m sp dvs EH ta t) := by
 intro pins s σ H Q I h
 refine methodCall_KW (pl := pl) (thn (he pins s σ H _ I h) fun u s1 ⟨x, H1, I1, rx, a, dx, fs, ex, ea, l, q⟩ => ?_) ht
 subst ex
 obtain rfl : u = Value.ref a := rx
 refine C9k I1 ea c hm l ?_
 refine callWith_K (first := [.ref a]) (h₀ := X.base) I.ok.mod.kin hm.kp (thn (ha pos pins s1 σ H1 _ I1 q) fun us s2 ⟨vs, H2, I2, r, q2⟩ => ⟨I2.kIn, ?_⟩) hst hpl
 exact C7p (us := .ref a :: us) (vs := .ref a :: vs) (F.mono hj) hr hb hd hx hex I2 (.cons rfl r) q2
theorem A6f {pl : Sem Bool} (he : PE X o ta) (c : Cls X.K C) (hm : Y5 X.K C m f) (F : A8 X.prog X.w X.K X.mg X.base (CX1 X.prog X.w) j f fd ps sp) (hr : A0m k X.A) (hb : Binds X.K fd ps ds) (hd : U2 dvs ds) (hx : U1 X EH)
   (hj : j <= k := by decide) (hex : X.ex = [] := by rfl)
   (ht : eval (.Call (.Attribute o m apos) [] [] pos) X.env = (do
     let ov <- eval o X.env
     standAt apos.atName
     let (f, first) <- holding [ov] (getMethod ov m pl)
     callWith pos f first (backTo pos (starEach [] X.env)) (backToKw pos (keywordEach [] X.env))) := by rfl) :
   PE X (.Call (.Attribute o m apos) [] [] pos) (Y5u C m sp dvs EH ta Y7f) := by
 intro pins s σ H Q I h
 refine methodCall_KW (pl := pl) (thn (he pins s σ H _ I h) fun u s1 ⟨x, H1, I1, rx, a, dx, fs, ex, ea, l, q⟩ => ?_) ht
 subst ex
 obtain rfl : u = Value.ref a := rx
 refine C9k I1 ea c hm l ?_
 exact callWith_K0 (first := [.ref a]) I1.kIn hm.kp (C7p (us := [.ref a]) (vs := [.ref a]) (F.mono hj) hr hb hd hx hex I1 (.cons rfl .nil) q)
def A0rv (C : Addr) (sp : Sp) (dvs : List V) (EH : EK) (t : TA) : TE := fun σ H Q => t σ H fun vs H1 => ∀ x dx, H1 x = none -> H1 dx = none -> dx ≠ x ->
 sp (.ref x :: (vs ++ dvs)) (upd (upd H1 dx (.own x)) x (.ins C dx [])) (fun v H2 => v = .non /\ Q (.ref x) H2) (fun C d H' => EH C d σ H')
theorem V7m {pins : List (Addr × Obj)} {σ : St} {H : Hp} {s : Shared} {Q : VK} {us : List Value} {vs : List V} (M : Mk X.K C f) (F : A8 X.prog X.w X.K X.mg X.base (CX1 X.prog X.w) k f fd ps sp) (hr : A0m (k + 1) X.A) (hb : Binds X.K fd ps ds) (hd : U2 dvs ds)
   (hx : U1 X EH) (hex : X.ex = []) (I : Inv X pins σ H s) (r : U2 vs us)
   (h : ∀ x dx, H x = none -> H dx = none -> dx ≠ x -> sp (.ref x :: (vs ++ dvs)) (upd (upd H dx (.own x)) x (.ins C dx [])) (fun v H2 => v = .non /\ Q (.ref x) H2) (fun C d H' => EH C d σ H')) :
   wpAny (model X.prog X.w) X.A (call (.ref C) us) (EP X pins σ Q) X.xe s := by
 have hq := h (s.heap.objs.size + 1) s.heap.objs.size (I.hok.fresh (Nat.le_succ _)) (I.hok.fresh (Nat.le_refl _)) (Nat.ne_of_lt (Nat.lt_succ_self _))
 have I2 := Inv.made (C := C) I
 have r2 : U2 (V.ref (s.heap.objs.size + 1) :: (vs ++ dvs)) (Value.ref (s.heap.objs.size + 1) :: (us ++ ds)) := .cons rfl (r.append hd)
 have hl : (Value.ref (s.heap.objs.size + 1) :: us ++ ds).length = ps.length := by
   have e := r2.length
   rw [F.len _ _ _ _ hq] at e
   exact e.symm
 refine wpAny_call (J4q (f := f) I.kIn M.makes M.init (beq_iff_eq.mp M.fn) (codeAny_mono (F.run _ X.stack _ _ ⟨Value.ref (s.heap.objs.size + 1) :: us, []⟩ (Value.ref (s.heap.objs.size + 1) :: (us ++ ds)) _ _ _ (hr.make C us [])
   (I2.env0.make C us []) (hb _ (Value.ref (s.heap.objs.size + 1) :: us) I2.kIn hl) r2 hq) fun r s' hq' => ?_))
 cases r with
 | error e => exact came hx hex I2 hq'
 | ok fl =>
   cases fl with
   | ret u =>
     obtain ⟨v, H', I3, rv, ev, q3⟩ := I2.after hq'
     subst ev
     exact ⟨rv, ⟨V.ref (s.heap.objs.size + 1), H', I3, rfl, q3⟩⟩
   | next => exact False.elim hq'
   | brk => exact False.elim hq'
   | cont => exact False.elim hq'
theorem A6v (M : Mk X.K C f) (F : A8 X.prog X.w X.K X.mg X.base (CX1 X.prog X.w) j f fd ps sp) (hr : A0m k X.A) (hm : X.mg x = some (.ref C)) (hb : Binds X.K fd ps ds) (hd : U2 dvs ds) (hx : U1 X EH)
   (ha : PA X (e :: es) t) (hj : j + 1 <= k := by decide) (hg : Gl X x := by rfl) (hex : X.ex = [] := by rfl) (hdb : (x == ("__debug__" : Str)) = false := by decide) (he : starEach (e :: es) X.env = (false, eval e X.env) :: starEach es X.env := by rfl) (hpl : (backTo pos (starEach es X.env)).any (·.1) = false := by rfl) :
   PE X (.Call (.Name x p) (e :: es) [] pos) (A0rv C sp dvs EH t) := by
 intro pins s σ H Q I h
 refine wpAny_Call_Name_kw (A3m I hg hm ?_ hdb)
 refine callWith_K (h₀ := X.base) I.ok.mod.kin M.kp (thn (ha pos pins s σ H _ I h) fun us s1 ⟨vs, H1, I1, r, q⟩ => ⟨I1.kIn, ?_⟩) he hpl
 exact V7m M F (hr.mono hj) hb hd hx hex I1 r q
end
section
variable {X : Cx}
end
structure V8a (K : Frag) (x qual : Str) (st : Stmt) (dV : Value) (f : Addr) (fd : FuncData) : Prop where
 ex : ∃ (oc : Value) (od : Option Addr) (kV doc pm : Value) (an : Option Addr) (cdv ct : Value) (osl : Array (Option Value)),
   fd = fnOf x qual (B9 st) (B7 st) (A2 st) dV kV doc pm an cdv ct /\ K.lookup f = some ⟨oc, od, .func fd, osl⟩ /\ codeIn K cdv qual = true
 kp : keepIn K (.ref f) = true
section
variable {P : Program} {w : World} {K : Frag} {mg : Str -> Option Value} {base : Heap}
theorem V8a.okE {x qual : Str} {st : Stmt} {dV : Value} {f : Addr} {fd : FuncData} {N ps : List Str} {k : Nat} {sp : Sp} (F : V8a K x qual st dV f fd) (S : C5 N ps (A2 st)) (len : ∀ vs H Q E, sp vs H Q E -> vs.length = ps.length)
   (hbody : ∀ (X : Cx) (cdv : Value) (A : Around) (outer : List Env) (s : Shared) (H : Hp) (vs : List V) (Q : VK) (E : XK), X = A2a (CX1 P w) P w K mg base N qual (A2 st) f cdv A outer s H E -> A0m k X.A -> U1 X (fun C dd _ H' => E C dd H') -> sp vs H Q E ->
     ∃ t, PSs (A2a (CX1 P w) P w K mg base N qual (A2 st) f cdv A outer s H E) (B7 st) t /\ t { nx := fun _ H' => Q .non H', rt := Q } (B6q N vs) H) : A8 P w K mg base (CX1 P w) (k + 1) f fd ps sp := by
 obtain ⟨oc, od, kV, doc, pm, an, cdv, ct, osl, rfl, lk, hc⟩ := F.ex
 exact Y5q lk hc S len fun A outer s H vs Q E hr h => hbody _ cdv A outer s H vs Q E rfl hr C8w h
theorem G2b {x qual : Str} {st : Stmt} {dV : Value} {f : Addr} {oc : Value} {od an : Option Addr} {osl : Array (Option Value)} {kV doc pm cdv ct : Value} (l : K.lookup f = some ⟨oc, od, .func (fnOf x qual (B9 st) (B7 st) (A2 st) dV kV doc pm an cdv ct), osl⟩)
   (c : codeIn K cdv qual = true) (k : keepIn K (.ref f) = true) : V8a K x qual st dV f (fnOf x qual (B9 st) (B7 st) (A2 st) dV kV doc pm an cdv ct) := ⟨⟨oc, od, kV, doc, pm, an, cdv, ct, osl, rfl, l, c⟩, k⟩
theorem C8b {fd : FuncData} {ps : List Str} {ds : List Value} {T : Addr} {o : Obj} {items : Array Value} {n : Nat} (hd : fd.defaults = .ref T) (ho : K.lookup T = some o) (hs : o.data = .seq items n)
   (h : ∀ us : List Value, (us ++ ds).length = ps.length -> ∃ k, bindArgs fd ⟨us, []⟩ = seqItems? fd.defaults >>= k /\ k (some items) = pure (ps.zip (us ++ ds))) : Binds K fd ps ds := fun s us X hl => by
 obtain ⟨k, h1, h2⟩ := h us hl
 exact binds_K X hd ho hs h1 h2
end
section
variable {X : Cx} {k j : Nat} {f C : Addr} {fd : FuncData} {ps ks : List Str} {sp : Sp} {EH : EK} {x m : Str} {p pos apos : Pos} {e o : Expr} {es : List Expr} {kws : List Keyword} {ta : TE} {t tk : TA} {g : List Value -> List Value -> List Value} {gV : List V -> List V -> List V}
end
section
variable {X : Cx} {K : Frag} {e : Expr} {f : Str} {pos : Pos} {ta : TE}
theorem B5p (h : X.K = K) : IxR X (rIxT K) := by subst h; exact G3
theorem A0gq (h : X.K = K) (he : PE X e ta) (hb : attributeBase e f X.env (eval e X.env) = eval e X.env) : PE X (.Attribute e f pos) (tFld K ta f) := by subst h; exact D6 he hb
theorem U0s (h : X.K = K) : OpR X (compareOp .In) (rIn K false) := by subst h; exact A4c
end
end L2
namespace TR
open PySem L2 PySem.W PyProof.Rows
structure Own (mg : Str -> Option Value) : Prop where
 isi : mg "isinstance" = none
 int_ : mg "int" = none
 bool_ : mg "bool" = none
 str_ : mg "str" = none
 list_ : mg "list" = none
 tuple_ : mg "tuple" = none
 dict_ : mg "dict" = none
 len_ : mg "len" = none
 range_ : mg "range" = none
 min_ : mg "min" = none
 max_ : mg "max" = none
 abs_ : mg "abs" = none
 any_ : mg "any" = none
 all_ : mg "all" = none
 sum_ : mg "sum" = none
 repr_ : mg "repr" = none
 enumerate_ : mg "enumerate" = none
 reversed_ : mg "reversed" = none
 zip_ : mg "zip" = none
 sorted_ : mg "sorted" = none
 divmod_ : mg "divmod" = none
 set_ : mg "set" = none
 ValueError_ : mg "ValueError" = none
structure Kit (K : Frag) : Prop where
 int_int : kitOne K (.type "int") (.type "int") = some true
 int_bool : kitOne K (.type "int") (.type "bool") = some false
 int_str : kitOne K (.type "int") (.type "str") = some false
 int_list : kitOne K (.type "int") (.type "list") = some false
 int_tuple : kitOne K (.type "int") (.type "tuple") = some false
 int_dict : kitOne K (.type "int") (.type "dict") = some false
 bool_int : kitOne K (.type "bool") (.type "int") = some true
 bool_bool : kitOne K (.type "bool") (.type "bool") = some true
 bool_str : kitOne K (.type "bool") (.type "str") = some false
 bool_list : kitOne K (.type "bool") (.type "list") = some false
 bool_tuple : kitOne K (.type "bool") (.type "tuple") = some false
 bool_dict : kitOne K (.type "bool") (.type "dict") = some false
 str_int : kitOne K (.type "str") (.type "int") = some false
 str_bool : kitOne K (.type "str") (.type "bool") = some false
 str_str : kitOne K (.type "str") (.type "str") = some true
 str_list : kitOne K (.type "str") (.type "list") = some false
 str_tuple : kitOne K (.type "str") (.type "tuple") = some false
 str_dict : kitOne K (.type "str") (.type "dict") = some false
 list_int : kitOne K (.type "list") (.type "int") = some false
 list_bool : kitOne K (.type "list") (.type "bool") = some false
 list_str : kitOne K (.type "list") (.type "str") = some false
 list_list : kitOne K (.type "list") (.type "list") = some true
 list_tuple : kitOne K (.type "list") (.type "tuple") = some false
 list_dict : kitOne K (.type "list") (.type "dict") = some false
 tuple_int : kitOne K (.type "tuple") (.type "int") = some false
 tuple_bool : kitOne K (.type "tuple") (.type "bool") = some false
 tuple_str : kitOne K (.type "tuple") (.type "str") = some false
 tuple_list : kitOne K (.type "tuple") (.type "list") = some false
 tuple_tuple : kitOne K (.type "tuple") (.type "tuple") = some true
 tuple_dict : kitOne K (.type "tuple") (.type "dict") = some false
 dict_int : kitOne K (.type "dict") (.type "int") = some false
 dict_bool : kitOne K (.type "dict") (.type "bool") = some false
 dict_str : kitOne K (.type "dict") (.type "str") = some false
 dict_list : kitOne K (.type "dict") (.type "list") = some false
 dict_tuple : kitOne K (.type "dict") (.type "tuple") = some false
 dict_dict : kitOne K (.type "dict") (.type "dict") = some true
 NoneType_int : kitOne K (.type "NoneType") (.type "int") = some false
 NoneType_bool : kitOne K (.type "NoneType") (.type "bool") = some false
 NoneType_str : kitOne K (.type "NoneType") (.type "str") = some false
 NoneType_list : kitOne K (.type "NoneType") (.type "list") = some false
 NoneType_tuple : kitOne K (.type "NoneType") (.type "tuple") = some false
 NoneType_dict : kitOne K (.type "NoneType") (.type "dict") = some false
theorem scK {N P : List Str} {sc : Scope} (a : sc.kind = .function := by rfl) (b : sc.isCoroutine = false := by rfl) (c : sc.isGenerator = false := by rfl) (d : N.Nodup := by decide +kernel) (e : N.take P.length = P := by rfl) (f : ∀ x ∈ P, sc.names.lookup x = some .local \/ sc.names.lookup x = some .cell := by decide +kernel) (g : ∀ y ∈ sc.names, y.2 ≠ .free := by decide +kernel) : C5 N P sc := ⟨a, b, c, d, e, f, g⟩
theorem A0qv {K : Frag} {H : Hp} (i : Int) : TyE K H (.int i) (.type "int") := .of (.int i)
theorem Y6d {K : Frag} {H : Hp} (z : Str) : TyE K H (.str z) (.type "str") := .of (.str z)
theorem A0qs {K : Frag} {H : Hp} {a : Addr} {xs : List V} (h : H a = some (.lst xs)) : TyE K H (.ref a) (.type "list") := .of (.lst h)
def B6s (lo hi : Int) (v : V) : Prop := ∃ i, v = .int i /\ lo <= i /\ i <= hi
def D5c (K : Frag) (H : Hp) (lo hi : Int) (v : V) : Prop := ∃ t b1 b2, TyE K H v t /\ kitOne K t (.type "int") = some b1 /\ kitOne K t (.type "bool") = some b2 /\ ((b1 && !b2) = false \/ ∃ i, v = .int i /\ (i < lo \/ hi < i))
section
variable {K : Frag} {H : Hp} {lo hi : Int}
end
def Exc (p : Addr) (H H' : Hp) : Prop := ∀ b o, H b = some o -> b ≠ p -> H' b = some o
theorem Exc.refl (p : Addr) (H : Hp) : Exc p H H := fun _ _ h _ => h
theorem Exc.trans {p : Addr} {H H1 H2 : Hp} (a : Exc p H H1) (b : Exc p H1 H2) : Exc p H H2 := fun c o h n => b c o (a c o h n) n
theorem Exc.upd {p : Addr} {H : Hp} {o : HO} : Exc p H (L2.upd H p o) := fun b u e n => by rw [G6 n]; exact e
theorem Exc.of {p : Addr} {H H' : Hp} (s : C8 H H') : Exc p H H' := fun b o h _ => s b o h
def Has (P : Program) (w : World) (K : Frag) (mg : Str -> Option Value) (base : Heap) (C : Addr) (m : Str) (k : Nat) (ps : List Str) (sp : Sp) : Prop := ∃ f fd, Y5 K C m f /\ A8 P w K mg base (CX1 P w) k f fd ps sp /\ Binds K fd ps []
def V6z (z : Str) (b : Bool) : List Str := if b then [z] else []
theorem len2 : ∀ {us : List Value}, us.length = 2 -> ∃ a b, us = [a, b]
 | [a, b], _ => ⟨a, b, rfl⟩
theorem len3 : ∀ {us : List Value}, us.length = 3 -> ∃ a b c, us = [a, b, c]
 | [a, b, c], _ => ⟨a, b, c, rfl⟩
theorem len4 : ∀ {us : List Value}, us.length = 4 -> ∃ a b c d, us = [a, b, c, d]
 | [a, b, c, d], _ => ⟨a, b, c, d, rfl⟩
theorem len5 : ∀ {us : List Value}, us.length = 5 -> ∃ a b c d e, us = [a, b, c, d, e]
 | [a, b, c, d, e], _ => ⟨a, b, c, d, e, rfl⟩
theorem J9v {us ds : List Value} {n : Nat} (h : (us ++ ds).length = n) : us.length = n - ds.length := by rw [List.length_append] at h; omega
end TR
namespace L2
open PySem PySem.Spec PyProof.Rows
section
variable {κ : Type} [DecidableEq κ]
end
section
variable {P : Program} {w : World} {H : Hp} {h : Heap} {a : Addr}
end
section
variable {X : Cx} {pins : List (Addr × Obj)} {σ : St} {H : Hp} {s : Shared} {a : Addr} {y v : V} {u r : Value} {o : Option V} {A : Around} {E : Value -> Shared -> Prop}
end
section
variable {X : Cx} {pins : List (Addr × Obj)} {σ : St} {H : Hp} {s : Shared} {a : Addr} {kvs : List (Key × V)} {k : Key} {u : Value} {A : Around} {E : Value -> Shared -> Prop}
end
section
variable {X : Cx} {o i e value : Expr} {pos pos' tpos : Pos} {td ty tv : TE}
end
section
variable {X : Cx} {pos : Pos}
end
end L2
namespace L2
open PySem PySem.Spec PyProof.Rows PySem.W
def A8f (F : List Str) (env : Env) : List (Str × Addr) := F.map fun x => (x, (env.cells.lookup x).getD 0)
def B7z (js : List Nat) (σ : St) : St := js.map fun j => (σ[j]?).getD none
abbrev Cx.compF (X : Cx) (scope : Scope) (N F : List Str) (C : Addr) (s₀ : Shared) (H₀ : Hp) (ex : List Addr) (pins : List (Addr × Obj)) : Cx :=
 { X with N := N ++ F, s₀ := s₀, H₀ := H₀, env := compEnvC scope (A8f F X.env) C X.env, outer := X.stack, ex := ex, fn := fun _ => false, pn := pins, xe := fun _ _ => False }
structure U7 (N F : List Str) (js : List Nat) (sc : Scope) (XN : List Str) (env : Env) : Prop where
 kind : sc.kind = .function
 cell : ∀ y ∈ sc.names, y.2 ≠ .cell
 loc : ∀ y ∈ sc.names, y.2 = .local -> sc.names.lookup y.1 = some .local
 nd : (N ++ F).Nodup
 clos : closureFor sc env = pure (A8f F env)
 fr : ∀ y ∈ (relabel sc env).names, y.2 = .cell \/ y.2 = .free -> y.1 ∈ F
 at_ : ∀ (k : Nat) (x : Str), F[k]? = some x -> (∃ j : Nat, js[k]? = some j /\ XN[j]? = some x) /\ (∃ c, env.cells.lookup x = some c) /\ env.kindOf x = some .cell /\ (relabel sc env).names.lookup x = some .cell
 jl : js.length = F.length
def J9x (n : Nat) (js : List Nat) (wi : TI) (g : TG) (tc : TT) (te : TE) : TE := fun σ H Q => wi σ H fun J H1 => ∀ D, H1 D = none ->
 ∃ (m : Nat) (W : Nat -> List V -> Hp -> Prop), W 0 [] (upd H1 D (.lst [])) /\ ∀ i ys H2, W i ys H2 -> i <= m /\ H2 D = some (.lst ys) /\ ((J.stop i H2 /\ Q (.ref D) H2) \/ (i < m /\ J.go i H2 /\ ∀ x H3, J.yld i H2 x H3 ->
   g x (List.replicate n none ++ B7z js σ) H3 fun σ4 H4 => tc σ4 H4 fun b H5 => if b = true then te σ4 H5 fun y H6 => H6 D = some (.lst ys) /\ ys.length < sizeLine /\ W (i + 1) (ys ++ [y]) (upd H6 D (.lst (ys ++ [y]))) else W (i + 1) ys H5))
def V2u (n : Nat) (js : List Nat) (wi : TI) (g : TG) (te : TE) : TE := fun σ H Q => wi σ H fun J H1 => ∀ D, H1 D = none ->
 ∃ (m : Nat) (W : Nat -> List V -> Hp -> Prop), W 0 [] (upd H1 D (.lst [])) /\ ∀ i ys H2, W i ys H2 -> i <= m /\ H2 D = some (.lst ys) /\ ((J.stop i H2 /\ Q (.ref D) H2) \/ (i < m /\ J.go i H2 /\ ∀ x H3, J.yld i H2 x H3 ->
   g x (List.replicate n none ++ B7z js σ) H3 fun σ4 H4 => te σ4 H4 fun y H6 => H6 D = some (.lst ys) /\ ys.length < sizeLine /\ W (i + 1) (ys ++ [y]) (upd H6 D (.lst (ys ++ [y])))))
theorem A0sk {F : List Str} {env : Env} {x : Str} {c : Addr} (h : (A8f F env).lookup x = some c) : x ∈ F /\ c = (env.cells.lookup x).getD 0 := by
 have := PySem.mem_of_lookup h
 obtain ⟨y, hy, e⟩ := List.mem_map.mp this
 cases e
 exact ⟨hy, rfl⟩
theorem Y7c {env : Env} {x : Str} : ∀ {F : List Str}, x ∈ F -> (A8f F env).lookup x = some ((env.cells.lookup x).getD 0)
 | y :: F, h => by
   show List.lookup x ((y, (env.cells.lookup y).getD 0) :: A8f F env) = _
   by_cases e : x = y
   . subst e; simp [List.lookup]
   . have hb : (x == y) = false := beq_eq_false_iff_ne.mpr e
     rw [List.lookup_cons, hb]
     exact Y7c (by rcases List.mem_cons.mp h with z | z; exact absurd z e; exact z)
section
variable {X : Cx} {N F : List Str} {js : List Nat} {scope : Scope}
theorem U7.sub (S : U7 N F js scope X.N X.env) : ∀ x c, (A8f F X.env).lookup x = some c -> X.env.cells.lookup x = some c := fun x c z => by
 obtain ⟨hx, rfl⟩ := A0sk z
 obtain ⟨k, hk⟩ := List.mem_iff_getElem?.mp hx
 obtain ⟨_, ⟨c, hc⟩, _⟩ := S.at_ k x hk
 rw [hc]; rfl
theorem U7.has (S : U7 N F js scope X.N X.env) {x : Str} (hx : x ∈ F) : ∃ c, (A8f F X.env).lookup x = some c /\ X.env.cells.lookup x = some c :=
 ⟨_, Y7c hx, S.sub _ _ (Y7c hx)⟩
theorem D9z {pins : List (Addr × Obj)} {σ : St} {H : Hp} {s : Shared} (S : U7 N F js scope X.N X.env) (I : Inv X pins σ H s) {h' : Heap} {m : Str -> Option Value} {C : Addr} (hc : ∀ x c v, X.env.cells.lookup x = some c -> s.heap.IsCell c v -> h'.IsCell c v) :
   ∀ (i : Nat) (x : Str) (v : V), (N ++ F)[i]? = some x -> (List.replicate N.length none ++ B7z js σ)[i]? = some (some v) -> ∃ u, V0 v u /\ Look (compEnvC scope (A8f F X.env) C X.env) h' m x u := by
 intro i x v e1 e2
 by_cases hi : i < N.length
 . rw [List.getElem?_append_left (by simpa using hi), List.getElem?_replicate] at e2
   split at e2 <;> cases e2
 rw [List.getElem?_append_right (by omega)] at e1
 rw [List.getElem?_append_right (by simp; omega)] at e2
 rw [List.length_replicate] at e2
 obtain ⟨⟨j, hj, hx⟩, ⟨c, hcc⟩, kx, kr⟩ := S.at_ _ x e1
 unfold B7z at e2
 rw [List.getElem?_map, hj] at e2
 have e2 : (σ[j]?).getD none = some v := Option.some.inj e2
 have e3 : σ[j]? = some (some v) := by
   cases q : σ[j]? with
   | none => rw [q] at e2; cases e2
   | some o => rw [q] at e2; exact congrArg some e2
 obtain ⟨m0, _, hl⟩ := I.loc
 obtain ⟨u, r, l⟩ := hl j x v hx e3 (.inr (.inl kx))
 refine ⟨u, r, .inr ⟨.inl kr, c, ?_, ?_⟩⟩
 . obtain ⟨c', h1, h2⟩ := S.has (List.mem_of_getElem? e1)
   rw [hcc] at h2
   cases h2
   exact h1
 rcases l with ⟨k, _⟩ | ⟨_, c', h1, h2⟩
 . rw [kx] at k; cases k
 rw [hcc] at h1
 cases h1
 exact hc x c _ hcc h2
theorem Y5t (S : U7 N F js scope X.N X.env) (σ : St) : (List.replicate N.length none ++ B7z js σ : St).length = (N ++ F).length := by
 unfold B7z
 rw [List.length_append, List.length_replicate, List.length_map, S.jl, List.length_append]
theorem D8y {pins : List (Addr × Obj)} {σ : St} {H : Hp} {s : Shared} {it : Addr} {h' : Heap} (S : U7 N F js scope X.N X.env) (I : Inv X pins σ H s) (hf : A5f X pins H it) (hit : ∃ o, s.heap.get? it = some o) (hnb : X.base.get? it = none)
   (hns : h'.Ns s.heap.objs.size (fun _ => none)) (hsb : ∀ b o, s.heap.get? b = some o -> h'.get? b = some o) {tk : Nat} :
   Inv (X.compF scope N F s.heap.objs.size s H [it] (X.pn ++ pins)) [] (List.replicate N.length none ++ B7z js σ) H { s with heap := h', toks := tk } := by
 obtain ⟨f0, f1, f2, f3, f4, f5⟩ := hf
 obtain ⟨oi, ei⟩ := hit
 have lt : it < s.heap.objs.size := Heap.lt_size ei
 have ck : ∀ c v, s.heap.IsCell c v -> h'.IsCell c v := fun c v ⟨o, e, d⟩ => ⟨o, hsb _ _ e, d⟩
 have inF : ∀ x, ((compEnvC scope (A8f F X.env) s.heap.objs.size X.env).kindOf x = some .cell \/ (compEnvC scope (A8f F X.env) s.heap.objs.size X.env).kindOf x = some .free) -> x ∈ F := by
   intro x z
   have z : (relabel scope X.env).names.lookup x = some .cell \/ (relabel scope X.env).names.lookup x = some .free := z
   rcases z with z | z
   . exact S.fr _ (PySem.mem_of_lookup z) (.inl rfl)
   . exact S.fr _ (PySem.mem_of_lookup z) (.inr rfl)
 refine ⟨⟨I.ok.mod, S.kind, I.ok.glob, I.ok.blt, Nat.le_refl _, fun x y c z z' => I.ok.inj x y c (S.sub x c z) (S.sub y c z'), fun x z => ?_, fun x c z _ => (nomatch z), I.ok.hd, I.ok.frames, .inl rfl, fun b hb => ?_, I.bs, Nat.le_trans I.ok.bsz I.sz, fun b o e hb => ?_, fun b hb hfs => ?_, I.stack, I.stkFree⟩,
   rfl, I.bare, Un.kept hsb, ⟨_, hns, fun i x v e1 e2 e3 => D9z S I (fun x c v _ z => ck c v z) i x v e1 e2⟩, fun x c z => ?_, I.hok.fresh (Nat.le_refl _), fun x c z => I.freeC x c (S.sub x c z), fun p hp => ?_, I.hok.kept hsb, Y5t S σ⟩
 . obtain ⟨c, h1, _⟩ := S.has (inF x z)
   exact ⟨c, h1⟩
 . have e : b = it := by simpa using hb
   subst e
   exact ⟨Nat.ne_of_lt lt, fun x c z => f4 x c (S.sub x c z)⟩
 . have e' : b = it := by simpa using hb
   subst e'
   rw [hnb] at e
   cases e
 . have e' : b = it := by simpa using hb
   subst e'
   rcases List.mem_cons.mp (I.stkSub b hfs) with z | z
   . exact f1 z
   . exact f2 z
 . obtain ⟨v, z'⟩ := I.cell x c (S.sub x c z)
   exact ⟨v, ck c v z'⟩
 have hp' : p ∈ X.pn ++ pins := by simpa using hp
 obtain ⟨q1, q2, q3, q4, q5⟩ := I.pin p hp'
 refine ⟨hsb _ _ q1, q2, Nat.ne_of_lt (Heap.lt_size q1), fun z => ?_, q5⟩
 rcases List.mem_cons.mp (I.stkSub p.1 z) with z | z
 . exact q3 z
 exact q4 z
theorem D8u {pins pl : List (Addr × Obj)} {σ σ' : St} {H H' : Hp} {s s' : Shared} {it : Addr} (S : U7 N F js scope X.N X.env) (I : Inv X pins σ H s) (hf : A5f X pins H it) (J : Inv (X.compF scope N F s.heap.objs.size s H [it] (X.pn ++ pins)) pl σ' H' s') :
   Inv (X.compF scope N F s.heap.objs.size s H [it] (X.pn ++ pins)) [] (List.replicate N.length none ++ B7z js σ) H' s' := by
 obtain ⟨m, hn, _⟩ := J.loc
 refine ⟨J.ok, J.os, J.bare, J.base, ⟨m, hn, fun i x v e1 e2 e3 => D9z S I (fun x c v z q => ?_) i x v e1 e2⟩, J.cell, J.free, J.freeC, fun p hp => J.pin p (by
   have hp : p ∈ (X.pn ++ pins) ++ [] := hp
   rw [List.append_nil] at hp
   exact List.mem_append_left _ hp), J.hok, Y5t S σ⟩
 obtain ⟨o, e, d⟩ := q
 have ne : c ∉ [it] := fun w => hf.2.2.2.2.1 x c z (by simpa using w)
 obtain ⟨sl, q⟩ := J.base.any e (I.freeC x c z) ne
 exact ⟨_, q, d⟩
theorem U0a {elt target iter c : Expr} {scope : Scope} {pos : Pos} {N F : List Str} {js : List Nat} {wi : TI} {g : TG} {tc : TT} {te : TE} (S : U7 N F js scope X.N X.env) (hd : A1c X) (hi : PIH X target iter wi) (hex : X.ex = [])
   (hg : ∀ C s₀ H₀ ex pn, A1c (X.compF scope N F C s₀ H₀ ex pn) -> PG (X.compF scope N F C s₀ H₀ ex pn) target g)
   (hc : ∀ C s₀ H₀ ex pn, A1c (X.compF scope N F C s₀ H₀ ex pn) -> PT (X.compF scope N F C s₀ H₀ ex pn) c tc)
   (he : ∀ C s₀ H₀ ex pn, A1c (X.compF scope N F C s₀ H₀ ex pn) -> PE (X.compF scope N F C s₀ H₀ ex pn) elt te)
   {pins : List (Addr × Obj)} {s : Shared} {σ : St} {H : Hp} {Q : VK} {RR : Value -> Env -> Result -> Shared -> Prop} (I : Inv X pins σ H s) (h : (J9x N.length js wi g tc te) σ H Q)
   (hRR : ∀ (D C : Addr) (s6 : Shared) (H5 : Hp) (mm : Str -> Option Value), Inv X pins σ H5 s6 -> s6.heap.Ns C mm -> A5f X pins H5 C -> Q (.ref D) H5 -> RR (.ref D) (compEnvC scope (A8f F X.env) C X.env) (.ok .next) s6) :
   wpAny (model X.prog X.w) X.A (eval iter X.env) (fun v s1 => wpAny (model X.prog X.w) X.A (pyIter v) (fun itv s2 => wpAny (model X.prog X.w) X.A (newList []) (fun acc s3 => wpAny (model X.prog X.w) X.A (newFunctionEnv scope X.env.globals (A8f F X.env) [] X.env.qual none .none (some X.env)) (fun cenv s4 =>
     codeAny (model X.prog X.w) X.A (.compStart (.ListComp elt [⟨target, iter, [c], 0⟩] scope pos) 0 itv acc { cenv with scope := relabel scope X.env }) (RR acc { cenv with scope := relabel scope X.env }) s4) X.xe s3) X.xe s2) X.xe s1) X.xe s := by
 refine thn (hi pins s σ H _ I h) fun v s1 h1 => thn h1 fun itv s2 h2 => ?_
 obtain ⟨it, tn, J, H2, rfl, I2, T, st2, f2, R⟩ := h2
 obtain ⟨oi, ei, di⟩ := T.obj _ _ st2
 have hf2 := I2.hok.fresh (Nat.le_refl _)
 refine wpAny_newObj_type ?_
 have I3 : Inv X pins σ (upd H2 s2.heap.objs.size (.lst [])) { s2 with heap := s2.heap.push { cls := .type "list", dict := none, data := .seq ([] : List Value).toArray } } := Inv.lnew (t' := s2.toks) I2 .nil (Nat.zero_le _)
 refine wpAny_newFunctionEnv S.cell (by intro y hy; simp at hy) (fun h4 hns hsb => ?_) S.kind
 dsimp only at hns hsb ⊢
 generalize hG : s2.heap.push { cls := .type "list", dict := none, data := .seq ([] : List Value).toArray } = G at I3 hns hsb ⊢
 generalize hD : s2.heap.objs.size = D at I3 hf2
 have nD : it ≠ D := by rw [<- hD]; exact Nat.ne_of_lt (Heap.lt_size ei)
 have eiG : G.get? it = some oi := by rw [<- hG]; exact Heap.get?_push_of_some _ ei
 have kp : ∀ b o, G.get? b = some o -> h4.get? b = some o := fun b o e => hsb.extBut b o (Nat.ne_of_lt (Heap.lt_size e)) (Heap.get?_push_of_some _ e)
 have f3 : A5f X pins (upd H2 D (.lst [])) it := ⟨by rw [G6 nD]; exact f2.1, f2.2⟩
 have nb : X.base.get? it = none := by
   cases q : X.base.get? it with
   | none => rfl
   | some o =>
     have := (I.ok.bs it o q).1
     rcases f2.2.2.2.1 with z | z
     . rw [hex] at z; simp at z
     . exact absurd (Nat.lt_of_lt_of_le (Heap.lt_size this) z) (Nat.lt_irrefl _)
 have hns' : h4.Ns G.objs.size (fun _ => none) := by
   obtain ⟨o, es, ep, q1, q2, q3, q4⟩ := hns
   exact ⟨o, es, ep, q1, q2, q3, fun x => by rw [q4]; rfl⟩
 have I4 := D8y (tk := s2.toks + ([] : List (Str × Value)).length) S I3 f3 ⟨oi, eiG⟩ nb hns' kp
 have hdc : A1c (X.compF scope N F G.objs.size { s2 with heap := G } (upd H2 D (.lst [])) [it] (X.pn ++ pins)) := by
   rcases hd with z | ⟨x, o, u, vs, z, e, d, n⟩
   . exact .inl z
   . refine .inr ⟨x, o, u, vs, z, ?_, d, n⟩
     have q := I2.base.frzs x o u e
     show upd H2 D (.lst []) x = _
     rw [G6 fun w => by rw [w, hf2] at q; cases q]
     exact q
 obtain ⟨m, W, w0, turn⟩ := R D hf2
 have gg := hg _ _ _ _ _ hdc
 have cc := hc _ _ _ _ _ hdc
 have ee := he _ _ _ _ _ hdc
 have fpc : ∀ {H' : Hp} {σ' : St} {s' : Shared} {pl : List (Addr × Obj)}, Inv (X.compF scope N F G.objs.size { s2 with heap := G } (upd H2 D (.lst [])) [it] (X.pn ++ pins)) pl σ' H' s' -> H' it = none -> (∀ p ∈ pl, p.1 ≠ it) -> A5f (X.compF scope N F G.objs.size { s2 with heap := G } (upd H2 D (.lst [])) [it] (X.pn ++ pins)) pl H' it := by
   intro H' σ' s' pl J' hn hp
   refine ⟨hn, Nat.ne_of_lt (Heap.lt_size eiG), ?_, .inl (List.mem_singleton.mpr rfl), (fun x c z => f2.2.2.2.2.1 x c (S.sub x c z)), fun p hpp => ?_⟩
   . intro z
     rcases List.mem_cons.mp (I.stkSub it z) with z | z
     . exact f2.2.1 z
     . exact f2.2.2.1 z
   . rcases List.mem_append.mp hpp with z | z
     . exact f2.2.2.2.2.2 p z
     . exact hp p z
 have loop : codeAny (model X.prog X.w) X.A (.compLoop (.ListComp elt [⟨target, iter, [c], 0⟩] scope pos) 0 (.ref it) (.ref D) (compEnvC scope (A8f F X.env) G.objs.size X.env))
     (RR (.ref D) (compEnvC scope (A8f F X.env) G.objs.size X.env))
     { s2 with heap := h4, toks := s2.toks + ([] : List (Str × Value)).length } := by
   refine kct_loop (fun k s' => ∃ i ys H', k = m + 1 - i /\ Inv (X.compF scope N F G.objs.size { s2 with heap := G } (upd H2 D (.lst [])) [it] (X.pn ++ pins)) [] (List.replicate N.length none ++ B7z js σ) H' s' /\ tn i s'.heap /\ H' it = none /\ W i ys H') ?_ (m + 1)
     ⟨0, [], _, rfl, I4, T.keep _ _ _ st2 fun o e => kp it o (by rw [<- hG]; exact Heap.get?_push_of_some _ e), f3.1, w0⟩
   rintro k s5 ⟨i, ys, H5, rfl, I5, st5, n5, w5⟩
   obtain ⟨hi5, hD5, w5⟩ := turn i ys H5 w5
   rcases w5 with ⟨stop, q⟩ | ⟨lt5, go, step⟩
   . refine wpAny_mono (T.done (X.compF scope N F G.objs.size { s2 with heap := G } (upd H2 D (.lst [])) [it] (X.pn ++ pins)) rfl rfl rfl hdc i [] s5 _ H5 (fun _ _ => False) I5 (fpc I5 n5 (by simp)) st5 stop) (fun r s6 z => ?_) (fun _ _ z => z.elim)
     obtain ⟨rfl, I6⟩ := z
     obtain ⟨mm, hn6, _⟩ := I6.loc
     have B6 := I6.base
     have J6 : Inv X pins σ H5 s6 := by
       refine I3.call' (ch := [it]) I6.os ⟨B6.keep, B6.slot, B6.free, B6.there, B6.tups, B6.frzs, B6.tbls⟩ I6.hok I6.bare (fun b hb => ?_)
       have e : b = it := by simpa using hb
       subst e
       exact ⟨f2.2.2.2.1, f2.2.1, f2.2.2.2.2.1, f2.2.2.2.2.2⟩
     have szG : X.s₀.heap.objs.size <= G.objs.size := I3.sz
     refine hRR D G.objs.size s6 H5 mm J6 hn6 ⟨I6.free, ?_, ?_, .inr szG, ?_, ?_⟩ q
     . exact Nat.ne_of_gt I3.lt
     . intro z
       obtain ⟨_, o, ho, _⟩ := I3.funs.mem z
       exact Nat.lt_irrefl _ (Heap.lt_size ho)
     . rintro x c z rfl
       obtain ⟨v', o, ho, _⟩ := I3.cell x _ z
       exact Nat.lt_irrefl _ (Heap.lt_size ho)
     . rintro p hp z
       have zz := (I3.pin p hp).1
       rw [z] at zz
       exact Nat.lt_irrefl _ (Heap.lt_size zz)
   . refine wpAny_mono (T.item (X.compF scope N F G.objs.size { s2 with heap := G } (upd H2 D (.lst [])) [it] (X.pn ++ pins)) rfl rfl rfl hdc i [] s5 _ H5 (fun _ _ => False) I5 (fpc I5 n5 (by simp)) st5 go) (fun r s6 z => ?_) (fun _ _ z => z.elim)
     obtain ⟨u, rfl, z⟩ := z
     refine wpAny_mono z (fun _ s7 z => ?_) (fun _ _ z => z.elim)
     obtain ⟨x, I7, rx, yl, st7⟩ := z
     obtain ⟨o7, e7, d7⟩ := T.obj _ _ st7
     obtain ⟨p0, p1, p2, _⟩ := fpc I7 n5 (by simp)
     have I7' : Inv (X.compF scope N F G.objs.size { s2 with heap := G } (upd H2 D (.lst [])) [it] (X.pn ++ pins)) [(it, o7)] (List.replicate N.length none ++ B7z js σ) H5 s7 := I7.pins_of fun p hp => by
       have e : p = (it, o7) := by simpa using hp
       subst e
       exact ⟨e7, p0, p1, p2, d7⟩
     have back : ∀ {i' : Nat} {ys' : List V} {H' : Hp} {σ' : St} {s' : Shared}, i' = i + 1 -> Inv (X.compF scope N F G.objs.size { s2 with heap := G } (upd H2 D (.lst [])) [it] (X.pn ++ pins)) [(it, o7)] σ' H' s' -> W i' ys' H' ->
         ∃ k', k' < m + 1 - i /\ ∃ i ys H', k' = m + 1 - i /\ Inv (X.compF scope N F G.objs.size { s2 with heap := G } (upd H2 D (.lst [])) [it] (X.pn ++ pins)) [] (List.replicate N.length none ++ B7z js σ) H' s' /\ tn i s'.heap /\ H' it = none /\ W i ys H' := by
       rintro i' ys' H' σ' s' rfl J' w'
       obtain ⟨q1, q2, _⟩ := J'.pin (it, o7) (List.mem_append_right _ (List.mem_singleton.mpr rfl))
       refine ⟨m + 1 - (i + 1), by omega, i + 1, ys', H', rfl, D8u S I3 f3 J', T.keep _ _ _ st7 fun o z => ?_, q2, w'⟩
       rw [e7] at z
       cases z
       exact q1
     refine wpAny_mono (gg [(it, o7)] s7 _ H5 x u _ I7' rx (step x H5 yl)) (fun _ s8 z => ?_) (fun _ _ z => z.elim)
     obtain ⟨σ8, H8, I8, q8⟩ := z
     refine wpAny_mono (cc [(it, o7)] s8 σ8 H8 _ I8 q8) (fun b s9 z => ?_) (fun _ _ z => z.elim)
     obtain ⟨H9, I9, q9⟩ := z
     cases b with
     | false =>
       simp only [Bool.false_eq_true, if_false] at q9 ⊢
       exact back rfl I9 q9
     | true =>
       simp only [if_true] at q9 ⊢
       refine wpAny_mono (ee [(it, o7)] s9 σ8 H9 _ I9 q9) (fun y s10 z => ?_) (fun _ _ z => z.elim)
       obtain ⟨yv, H10, I10, ry, hD10, hz10, w10⟩ := z
       refine wpAny_mono (B5s (X := X.compF scope N F G.objs.size { s2 with heap := G } (upd H2 D (.lst [])) [it] (X.pn ++ pins)) [(it, o7)] s10 σ8 H10 (.ref D) [yv] (.ref D) [y] (fun _ H11 => W (i + 1) (ys ++ [yv]) H11) I10 rfl (.cons ry .nil) ⟨D, ys, yv, rfl, rfl, hD10, hz10, w10⟩) (fun _ s11 z => ?_) (fun _ _ z => z.elim)
       obtain ⟨_, H11, I11, _, w11⟩ := z
       exact back rfl I11 w11
 exact codeAny_compStart_list loop (T.self _ 0 _ _ _ (T.keep _ _ _ st2 fun o e => kp it o (by rw [<- hG]; exact Heap.get?_push_of_some _ e)) loop)
theorem J4r {elt target iter : Expr} {scope : Scope} {pos : Pos} {N F : List Str} {js : List Nat} {wi : TI} {g : TG} {te : TE} (S : U7 N F js scope X.N X.env) (hd : A1c X) (hi : PIH X target iter wi) (hex : X.ex = [])
   (hg : ∀ C s₀ H₀ ex pn, A1c (X.compF scope N F C s₀ H₀ ex pn) -> PG (X.compF scope N F C s₀ H₀ ex pn) target g)
   (he : ∀ C s₀ H₀ ex pn, A1c (X.compF scope N F C s₀ H₀ ex pn) -> PE (X.compF scope N F C s₀ H₀ ex pn) elt te)
   {pins : List (Addr × Obj)} {s : Shared} {σ : St} {H : Hp} {Q : VK} {RR : Value -> Env -> Result -> Shared -> Prop} (I : Inv X pins σ H s) (h : (V2u N.length js wi g te) σ H Q)
   (hRR : ∀ (D C : Addr) (s6 : Shared) (H5 : Hp) (mm : Str -> Option Value), Inv X pins σ H5 s6 -> s6.heap.Ns C mm -> A5f X pins H5 C -> Q (.ref D) H5 -> RR (.ref D) (compEnvC scope (A8f F X.env) C X.env) (.ok .next) s6) :
   wpAny (model X.prog X.w) X.A (eval iter X.env) (fun v s1 => wpAny (model X.prog X.w) X.A (pyIter v) (fun itv s2 => wpAny (model X.prog X.w) X.A (newList []) (fun acc s3 => wpAny (model X.prog X.w) X.A (newFunctionEnv scope X.env.globals (A8f F X.env) [] X.env.qual none .none (some X.env)) (fun cenv s4 =>
     codeAny (model X.prog X.w) X.A (.compStart (.ListComp elt [⟨target, iter, [], 0⟩] scope pos) 0 itv acc { cenv with scope := relabel scope X.env }) (RR acc { cenv with scope := relabel scope X.env }) s4) X.xe s3) X.xe s2) X.xe s1) X.xe s := by
 refine thn (hi pins s σ H _ I h) fun v s1 h1 => thn h1 fun itv s2 h2 => ?_
 obtain ⟨it, tn, J, H2, rfl, I2, T, st2, f2, R⟩ := h2
 obtain ⟨oi, ei, di⟩ := T.obj _ _ st2
 have hf2 := I2.hok.fresh (Nat.le_refl _)
 refine wpAny_newObj_type ?_
 have I3 : Inv X pins σ (upd H2 s2.heap.objs.size (.lst [])) { s2 with heap := s2.heap.push { cls := .type "list", dict := none, data := .seq ([] : List Value).toArray } } := Inv.lnew (t' := s2.toks) I2 .nil (Nat.zero_le _)
 refine wpAny_newFunctionEnv S.cell (by intro y hy; simp at hy) (fun h4 hns hsb => ?_) S.kind
 dsimp only at hns hsb ⊢
 generalize hG : s2.heap.push { cls := .type "list", dict := none, data := .seq ([] : List Value).toArray } = G at I3 hns hsb ⊢
 generalize hD : s2.heap.objs.size = D at I3 hf2
 have nD : it ≠ D := by rw [<- hD]; exact Nat.ne_of_lt (Heap.lt_size ei)
 have eiG : G.get? it = some oi := by rw [<- hG]; exact Heap.get?_push_of_some _ ei
 have kp : ∀ b o, G.get? b = some o -> h4.get? b = some o := fun b o e => hsb.extBut b o (Nat.ne_of_lt (Heap.lt_size e)) (Heap.get?_push_of_some _ e)
 have f3 : A5f X pins (upd H2 D (.lst [])) it := ⟨by rw [G6 nD]; exact f2.1, f2.2⟩
 have nb : X.base.get? it = none := by
   cases q : X.base.get? it with
   | none => rfl
   | some o =>
     have := (I.ok.bs it o q).1
     rcases f2.2.2.2.1 with z | z
     . rw [hex] at z; simp at z
     . exact absurd (Nat.lt_of_lt_of_le (Heap.lt_size this) z) (Nat.lt_irrefl _)
 have hns' : h4.Ns G.objs.size (fun _ => none) := by
   obtain ⟨o, es, ep, q1, q2, q3, q4⟩ := hns
   exact ⟨o, es, ep, q1, q2, q3, fun x => by rw [q4]; rfl⟩
 have I4 := D8y (tk := s2.toks + ([] : List (Str × Value)).length) S I3 f3 ⟨oi, eiG⟩ nb hns' kp
 have hdc : A1c (X.compF scope N F G.objs.size { s2 with heap := G } (upd H2 D (.lst [])) [it] (X.pn ++ pins)) := by
   rcases hd with z | ⟨x, o, u, vs, z, e, d, n⟩
   . exact .inl z
   . refine .inr ⟨x, o, u, vs, z, ?_, d, n⟩
     have q := I2.base.frzs x o u e
     show upd H2 D (.lst []) x = _
     rw [G6 fun w => by rw [w, hf2] at q; cases q]
     exact q
 obtain ⟨m, W, w0, turn⟩ := R D hf2
 have gg := hg _ _ _ _ _ hdc
 have ee := he _ _ _ _ _ hdc
 have fpc : ∀ {H' : Hp} {σ' : St} {s' : Shared} {pl : List (Addr × Obj)}, Inv (X.compF scope N F G.objs.size { s2 with heap := G } (upd H2 D (.lst [])) [it] (X.pn ++ pins)) pl σ' H' s' -> H' it = none -> (∀ p ∈ pl, p.1 ≠ it) -> A5f (X.compF scope N F G.objs.size { s2 with heap := G } (upd H2 D (.lst [])) [it] (X.pn ++ pins)) pl H' it := by
   intro H' σ' s' pl J' hn hp
   refine ⟨hn, Nat.ne_of_lt (Heap.lt_size eiG), ?_, .inl (List.mem_singleton.mpr rfl), (fun x c z => f2.2.2.2.2.1 x c (S.sub x c z)), fun p hpp => ?_⟩
   . intro z
     rcases List.mem_cons.mp (I.stkSub it z) with z | z
     . exact f2.2.1 z
     . exact f2.2.2.1 z
   . rcases List.mem_append.mp hpp with z | z
     . exact f2.2.2.2.2.2 p z
     . exact hp p z
 have loop : codeAny (model X.prog X.w) X.A (.compLoop (.ListComp elt [⟨target, iter, [], 0⟩] scope pos) 0 (.ref it) (.ref D) (compEnvC scope (A8f F X.env) G.objs.size X.env))
     (RR (.ref D) (compEnvC scope (A8f F X.env) G.objs.size X.env))
     { s2 with heap := h4, toks := s2.toks + ([] : List (Str × Value)).length } := by
   refine J5c (fun k s' => ∃ i ys H', k = m + 1 - i /\ Inv (X.compF scope N F G.objs.size { s2 with heap := G } (upd H2 D (.lst [])) [it] (X.pn ++ pins)) [] (List.replicate N.length none ++ B7z js σ) H' s' /\ tn i s'.heap /\ H' it = none /\ W i ys H') ?_ (m + 1)
     ⟨0, [], _, rfl, I4, T.keep _ _ _ st2 fun o e => kp it o (by rw [<- hG]; exact Heap.get?_push_of_some _ e), f3.1, w0⟩
   rintro k s5 ⟨i, ys, H5, rfl, I5, st5, n5, w5⟩
   obtain ⟨hi5, hD5, w5⟩ := turn i ys H5 w5
   rcases w5 with ⟨stop, q⟩ | ⟨lt5, go, step⟩
   . refine wpAny_mono (T.done (X.compF scope N F G.objs.size { s2 with heap := G } (upd H2 D (.lst [])) [it] (X.pn ++ pins)) rfl rfl rfl hdc i [] s5 _ H5 (fun _ _ => False) I5 (fpc I5 n5 (by simp)) st5 stop) (fun r s6 z => ?_) (fun _ _ z => z.elim)
     obtain ⟨rfl, I6⟩ := z
     obtain ⟨mm, hn6, _⟩ := I6.loc
     have B6 := I6.base
     have J6 : Inv X pins σ H5 s6 := by
       refine I3.call' (ch := [it]) I6.os ⟨B6.keep, B6.slot, B6.free, B6.there, B6.tups, B6.frzs, B6.tbls⟩ I6.hok I6.bare (fun b hb => ?_)
       have e : b = it := by simpa using hb
       subst e
       exact ⟨f2.2.2.2.1, f2.2.1, f2.2.2.2.2.1, f2.2.2.2.2.2⟩
     have szG : X.s₀.heap.objs.size <= G.objs.size := I3.sz
     refine hRR D G.objs.size s6 H5 mm J6 hn6 ⟨I6.free, ?_, ?_, .inr szG, ?_, ?_⟩ q
     . exact Nat.ne_of_gt I3.lt
     . intro z
       obtain ⟨_, o, ho, _⟩ := I3.funs.mem z
       exact Nat.lt_irrefl _ (Heap.lt_size ho)
     . rintro x c z rfl
       obtain ⟨v', o, ho, _⟩ := I3.cell x _ z
       exact Nat.lt_irrefl _ (Heap.lt_size ho)
     . rintro p hp z
       have zz := (I3.pin p hp).1
       rw [z] at zz
       exact Nat.lt_irrefl _ (Heap.lt_size zz)
   . refine wpAny_mono (T.item (X.compF scope N F G.objs.size { s2 with heap := G } (upd H2 D (.lst [])) [it] (X.pn ++ pins)) rfl rfl rfl hdc i [] s5 _ H5 (fun _ _ => False) I5 (fpc I5 n5 (by simp)) st5 go) (fun r s6 z => ?_) (fun _ _ z => z.elim)
     obtain ⟨u, rfl, z⟩ := z
     refine wpAny_mono z (fun _ s7 z => ?_) (fun _ _ z => z.elim)
     obtain ⟨x, I7, rx, yl, st7⟩ := z
     obtain ⟨o7, e7, d7⟩ := T.obj _ _ st7
     obtain ⟨p0, p1, p2, _⟩ := fpc I7 n5 (by simp)
     have I7' : Inv (X.compF scope N F G.objs.size { s2 with heap := G } (upd H2 D (.lst [])) [it] (X.pn ++ pins)) [(it, o7)] (List.replicate N.length none ++ B7z js σ) H5 s7 := I7.pins_of fun p hp => by
       have e : p = (it, o7) := by simpa using hp
       subst e
       exact ⟨e7, p0, p1, p2, d7⟩
     have back : ∀ {i' : Nat} {ys' : List V} {H' : Hp} {σ' : St} {s' : Shared}, i' = i + 1 -> Inv (X.compF scope N F G.objs.size { s2 with heap := G } (upd H2 D (.lst [])) [it] (X.pn ++ pins)) [(it, o7)] σ' H' s' -> W i' ys' H' ->
         ∃ k', k' < m + 1 - i /\ ∃ i ys H', k' = m + 1 - i /\ Inv (X.compF scope N F G.objs.size { s2 with heap := G } (upd H2 D (.lst [])) [it] (X.pn ++ pins)) [] (List.replicate N.length none ++ B7z js σ) H' s' /\ tn i s'.heap /\ H' it = none /\ W i ys H' := by
       rintro i' ys' H' σ' s' rfl J' w'
       obtain ⟨q1, q2, _⟩ := J'.pin (it, o7) (List.mem_append_right _ (List.mem_singleton.mpr rfl))
       refine ⟨m + 1 - (i + 1), by omega, i + 1, ys', H', rfl, D8u S I3 f3 J', T.keep _ _ _ st7 fun o z => ?_, q2, w'⟩
       rw [e7] at z
       cases z
       exact q1
     refine wpAny_mono (gg [(it, o7)] s7 _ H5 x u _ I7' rx (step x H5 yl)) (fun _ s8 z => ?_) (fun _ _ z => z.elim)
     obtain ⟨σ8, H8, I8, q8⟩ := z
     refine wpAny_mono (ee [(it, o7)] s8 σ8 H8 _ I8 q8) (fun y s10 z => ?_) (fun _ _ z => z.elim)
     obtain ⟨yv, H10, I10, ry, hD10, hz10, w10⟩ := z
     refine wpAny_mono (B5s (X := X.compF scope N F G.objs.size { s2 with heap := G } (upd H2 D (.lst [])) [it] (X.pn ++ pins)) [(it, o7)] s10 σ8 H10 (.ref D) [yv] (.ref D) [y] (fun _ H11 => W (i + 1) (ys ++ [yv]) H11) I10 rfl (.cons ry .nil) ⟨D, ys, yv, rfl, rfl, hD10, hz10, w10⟩) (fun _ s11 z => ?_) (fun _ _ z => z.elim)
     obtain ⟨_, H11, I11, _, w11⟩ := z
     exact back rfl I11 w11
 exact codeAny_compStart_list loop (T.self _ 0 _ _ _ (T.keep _ _ _ st2 fun o e => kp it o (by rw [<- hG]; exact Heap.get?_push_of_some _ e)) loop)
theorem Y5w {elt target iter : Expr} {c : Expr} {tc : TT} {pos : Pos} {wi : TI} {g : TG} {te : TE} (S : U7 N F js scope X.N X.env) (hd : A1c X) (hi : PIH X target iter wi) (hex : X.ex = [])
   (hg : ∀ C s₀ H₀ ex pn, A1c (X.compF scope N F C s₀ H₀ ex pn) -> PG (X.compF scope N F C s₀ H₀ ex pn) target g)
   (hc : ∀ C s₀ H₀ ex pn, A1c (X.compF scope N F C s₀ H₀ ex pn) -> PT (X.compF scope N F C s₀ H₀ ex pn) c tc)
   (he : ∀ C s₀ H₀ ex pn, A1c (X.compF scope N F C s₀ H₀ ex pn) -> PE (X.compF scope N F C s₀ H₀ ex pn) elt te)
   (hs : ∀ x, foldedSetIterable iter X.env x = pure x := by intro _; rfl) : PE X (.ListComp elt [⟨target, iter, [c], 0⟩] scope pos) (J9x N.length js wi g tc te) := by
 intro pins s σ H Q I h
 rw [eval_ListComp]
 refine wpAny_comprehension_free (use := none) rfl hs S.clos S.kind S.loc (U0a S hd hi hex hg hc he I h (RR := fun acc ce r s' => compPost (model X.prog X.w) X.A X.xe none (EP X pins σ Q) acc ce.locals r s') ?_)
 intro D C s6 H5 mm I6 n6 f6 q
 exact ⟨mm, n6, fun h' sb => ⟨.ref D, H5, V2t I6 f6 sb, rfl, q⟩⟩
theorem V6p {elt target iter : Expr} {pos : Pos} {wi : TI} {g : TG} {te : TE} (S : U7 N F js scope X.N X.env) (hd : A1c X) (hi : PIH X target iter wi) (hex : X.ex = [])
   (hg : ∀ C s₀ H₀ ex pn, A1c (X.compF scope N F C s₀ H₀ ex pn) -> PG (X.compF scope N F C s₀ H₀ ex pn) target g)
   (he : ∀ C s₀ H₀ ex pn, A1c (X.compF scope N F C s₀ H₀ ex pn) -> PE (X.compF scope N F C s₀ H₀ ex pn) elt te)
   (hs : ∀ x, foldedSetIterable iter X.env x = pure x := by intro _; rfl) : PE X (.ListComp elt [⟨target, iter, [], 0⟩] scope pos) (V2u N.length js wi g te) := by
 intro pins s σ H Q I h
 rw [eval_ListComp]
 refine wpAny_comprehension_free (use := none) rfl hs S.clos S.kind S.loc (J4r S hd hi hex hg he I h (RR := fun acc ce r s' => compPost (model X.prog X.w) X.A X.xe none (EP X pins σ Q) acc ce.locals r s') ?_)
 intro D C s6 H5 mm I6 n6 f6 q
 exact ⟨mm, n6, fun h' sb => ⟨.ref D, H5, V2t I6 f6 sb, rfl, q⟩⟩
end
structure A1ab (N F : List Str) (sc : Scope) : Prop where
 kind : sc.kind = .function
 cell : ∀ y ∈ sc.names, y.2 ≠ .cell
 loc : ∀ y ∈ sc.names, y.2 = .local -> sc.names.lookup y.1 = some .local
 fr : ∀ y ∈ sc.names, y.2 = .free -> y.1 ∈ F
 nd : (N ++ F).Nodup
theorem U0f {sc : Scope} {env : Env} {F : List Str} (cell : ∀ y ∈ sc.names, y.2 ≠ .cell) (fr : ∀ y ∈ sc.names, y.2 = .free -> y.1 ∈ F) : ∀ y ∈ (relabel sc env).names, y.2 = .cell \/ y.2 = .free -> y.1 ∈ F := by
 intro y hy h
 obtain ⟨⟨n, k⟩, hm, e⟩ := List.mem_map.mp hy
 dsimp only at e
 split at e
 . rename_i hc
   subst e
   simp only [Bool.and_eq_true] at hc
   exact fr (n, k) hm (by simpa using hc.1.1)
 subst e
 rcases h with h | h
 . exact absurd h (cell (n, k) hm)
 exact fr (n, k) hm h
theorem U7.of1 {N : List Str} {x : Str} {j : Nat} {sc : Scope} {XN : List Str} {env : Env} (S : A1ab N [x] sc) (clos : closureFor sc env = pure (A8f [x] env)) (hj : XN[j]? = some x) (hc : ∃ c, env.cells.lookup x = some c) (hk : env.kindOf x = some .cell)
   (hr : (relabel sc env).names.lookup x = some .cell) : U7 N [x] [j] sc XN env :=
 ⟨S.kind, S.cell, S.loc, S.nd, clos, U0f S.cell S.fr, fun k y h => match k, h with
   | 0, h => by cases h; exact ⟨⟨j, rfl, hj⟩, hc, hk, hr⟩
   | k + 1, h => by simp at h, rfl⟩
theorem A7r (z : Str) : ∀ zs : List Str, inV (.str z) (zs.map V.str) = zs.contains z
 | [] => rfl
 | y :: zs => by
   show (eqV (.str y) (.str z) || inV (.str z) (zs.map V.str)) = _
   rw [A7r z zs, List.contains_cons]
   show ((y == z) || _) = _
   rw [BEq.comm]
theorem A1w : ∀ zs : List Str, (zs.map V.str).all C0k = true
 | [] => rfl
 | _ :: zs => A1w zs
theorem Y4z {K : Frag} {H : Hp} {σ σf : L2.St} {a : Addr} {zs : List Str} {f : Str -> Bool} {tc : TT} {te : TE} {Q : VK} (hl : ∀ H, SqT K H a (zs.map V.str)) (hz : zs.length <= 100)
   (ht : ∀ (z : Str) (H' : Hp) (Qb : Bool -> Hp -> Prop), C8 H H' -> Qb (f z) H' -> tc (some (.str z) :: σf) H' Qb) (he : ∀ (z : Str) (H' : Hp) (Qv : VK), Qv (.str z) H' -> te (some (.str z) :: σf) H' Qv)
   (k : ∀ D H', C8 H H' -> H D = none -> H' D = some (.lst ((zs.filter f).map V.str)) -> Q (.ref D) H') {js : List Nat} (hj : B7z js σ = σf) : J9x 1 js (iTup K (tC (.ref a))) (V2q 0) tc te σ H Q := by
 refine ⟨a, rfl, ⟨_, hl H⟩, fun D hD => ⟨zs.length, fun i ys H2 => i <= zs.length /\ ys = ((zs.take i).filter f).map V.str /\ H2 = upd H D (.lst ys), ⟨Nat.zero_le _, rfl, rfl⟩, ?_⟩⟩
 rintro i ys H2 ⟨hi, rfl, rfl⟩
 refine ⟨hi, A7, ?_⟩
 have sm : C8 H (upd H D (.lst (((zs.take i).filter f).map V.str))) := C8.upd hD
 have lz : (((zs.take i).filter f).map V.str).length <= 100 := by
   rw [List.length_map]
   exact Nat.le_trans (List.length_filter_le _ _) (by rw [List.length_take]; omega)
 by_cases hlt : i < zs.length
 . refine .inr ⟨hlt, ⟨_, V.str zs[i], hl _, by simp [hlt]⟩, fun x H3 y => ?_⟩
   obtain ⟨rfl, y⟩ := y
   have ex : x = V.str zs[i] := by
     have := y _ (hl _)
     simp [hlt] at this
     exact this.symm
   subst ex
   rw [hj]
   show tc (some (.str zs[i]) :: σf) _ _
   refine ht _ _ _ sm ?_
   have et : (zs.take (i + 1)).filter f = (zs.take i).filter f ++ (if f zs[i] then [zs[i]] else []) := by
     rw [List.take_succ_eq_append_getElem hlt, List.filter_append]
     congr 1
     cases hb : f zs[i] <;> simp [hb]
   cases hb : f zs[i] with
   | false =>
     refine V3 ⟨hlt, ?_, rfl⟩
     rw [et, hb]; simp
   | true =>
     refine Z5 (he _ _ _ ⟨A7, Nat.lt_of_le_of_lt lz (A0y (by decide)), hlt, ?_, ?_⟩)
     . rw [et, hb]; simp
     . rw [A0hw]
 have e : i = zs.length := by omega
 subst e
 refine .inl ⟨⟨_, hl _, by simp⟩, k D _ sm hD ?_⟩
 rw [List.take_length]
 exact A7
end L2
namespace L2
open PySem
section
variable {prog : Program} {w : World} {A : Around} {E : Value -> Shared -> Prop} {h : Heap} {g : Array GenState} {d : Drawn} {t : Nat} {os : OsState}
variable {nm q : Str} {C N : Addr} {bs bm bmB : List Value} {hdct : Bool} {sn : List Str} {sub : List Value} {ab : Bool} {col : Option Bool} {dd : Option Addr} {k0 k1 k2 k3 k5 : Option Value} {B newId initId : String}
theorem B6n (F : ExcBaseFacts B newId initId bmB) (T : OwnTail h bmB bm) {mN : Str -> Option Value} {rest : List Value} {fI : Addr} {oI : Obj} {Q : Fin -> Shared -> Prop}
   (hC : h.get? C = some (excClassObj nm q C N bs bm hdct sn sub ab col dd k0 k1 k2 k3 k5 newId)) (hn : h.Ns N mN) (hi : mN "__init__" = some (.ref fI))
   (hfI : h.get? fI = some oI) (hfc : oI.cls = .type "function")
   (hq : ∀ h' e, Heap.MadeExcOf h h' e (.ref C) rest ->
     wpAny (model prog w) A (call (.ref fI) (.ref e :: rest)) (fun r s' => r = .none /\ Q (.done (.ret (.ref e))) s') E ⟨h', g, d, t, os⟩) (hrest : rest.length <= sizeLine) :
   wpAny (model prog w) A (Builtin.«type.__call__» ⟨.ref C :: rest, []⟩) Q E ⟨h, g, d, t, os⟩ := by
 repeat (first | with_reducible refine wpAny_loadPart_at hC ?_ | with_reducible refine wpAny_madeBy_exc hC ?_ | wp_step)
 refine codeAny_call_builtin_code (Code.quiet_builtin _ F.quiet) (wpAny_check_new_subT F T hC ?_)
 refine codeAny_exc_new_subT F T hC ?_ hrest
 show wpAny _ _ _ _ _ _
 have hC₁ := Heap.get?_push_of_some { cls := .ref C, data := .fields #[.ref h.objs.size, .none, .none, .none, .bool false, .none] }
   (Heap.get?_push_of_some { cls := .type "tuple", data := .seq rest.toArray } hC)
 have hfI₁ := Heap.get?_push_of_some { cls := .ref C, data := .fields #[.ref h.objs.size, .none, .none, .none, .bool false, .none] }
   (Heap.get?_push_of_some { cls := .type "tuple", data := .seq rest.toArray } hfI)
 have hn₁ : ((h.push { cls := .type "tuple", data := .seq rest.toArray }).push { cls := .ref C, data := .fields #[.ref h.objs.size, .none, .none, .none, .bool false, .none] }).Ns N mN :=
   let ⟨o, es, ep, e, r⟩ := hn; ⟨o, es, ep, Heap.get?_push_of_some _ (Heap.get?_push_of_some _ e), r⟩
 have hget : ((h.push { cls := .type "tuple", data := .seq rest.toArray }).push
     { cls := .ref C, data := .fields #[.ref h.objs.size, .none, .none, .none, .bool false, .none] }).get? (h.objs.size + 1) = some
     { cls := .ref C, data := .fields #[.ref h.objs.size, .none, .none, .none, .bool false, .none] } := by heap_get
 have hcC : (Value.ref C :: bm).contains (.ref C) = true := by simp
 have T₁ := T.keeps (h' := (h.push { cls := .type "tuple", data := .seq rest.toArray }).push { cls := .ref C, data := .fields #[.ref h.objs.size, .none, .none, .none, .bool false, .none] })
   fun b o e => Heap.get?_push_of_some _ (Heap.get?_push_of_some _ e)
 unfold isInstance
 repeat (first | with_reducible refine wpAny_loadPart_at hget ?_ | (with_reducible refine wpAny_isSubtype_exc hC₁ ?_; rw [hcC]) | wp_step)
 show wpAny _ _ (typeLookup (.ref C) _) _ _ _
 refine wpAny_typeLookup_tail hC₁ hn₁ T₁ F.mroIs F.init.lookup ?_
 rw [hi]
 refine wpAny_holding (wpAny_bind ?_)
 unfold bindSpecial
 refine wpAny_bind (wpAny_typeOf (T := "function") ⟨_, hfI₁, hfc⟩ ?_)
 rw [if_pos (by decide)]
 refine wpAny_pure (wpAny_bind (wpAny_mono (hq _ (h.objs.size + 1) ⟨fun b o hb => Heap.get?_push_of_some _ (Heap.get?_push_of_some _ hb), Heap.get?_none_of_le (Nat.le_succ _), h.objs.size, hget, Heap.get?_none_of_le (Nat.le_refl _), ?_⟩) (fun r s' hr => ?_) fun _ _ x => x))
 . exact Heap.get?_push_of_some _ (Heap.get?_push_at rfl rfl)
 obtain ⟨rfl, hQ⟩ := hr
 wp_walk
 exact hQ
theorem C8v (F : ExcBaseFacts B newId initId bmB) (T : OwnTail h bmB bm) {mN : Str -> Option Value} {rest : List Value} {fI : Addr} {oI : Obj} {Q : Value -> Shared -> Prop}
   (hC : h.get? C = some (excClassObj nm q C N bs bm hdct sn sub ab col dd k0 k1 k2 k3 k5 newId)) (hn : h.Ns N mN) (hi : mN "__init__" = some (.ref fI))
   (hfI : h.get? fI = some oI) (hfc : oI.cls = .type "function")
   (hq : ∀ h' e, Heap.MadeExcOf h h' e (.ref C) rest ->
     wpAny (model prog w) (A.under (.builtin "type.__call__" ⟨.ref C :: rest, []⟩)) (call (.ref fI) (.ref e :: rest)) (fun r s' => r = .none /\ Q (.ref e) s') E ⟨h', g, d, t, os⟩) (hrest : rest.length <= sizeLine) :
   wpAny (model prog w) A (call (.ref C) rest) Q E ⟨h, g, d, t, os⟩ := by
 have f1 := tc_lookup
 have f2 := tc_bind (.ref C)
 have hT : (⟨h, g, d, t, os⟩ : Shared).TypeIs (.ref C) "type" := ⟨_, hC, rfl⟩
 refine wpAny_call (codeAny_of_tree ?_)
 show wpAny _ _ (callAny (.ref C) _) _ _ _
 repeat (any_goals (first | assumption | with_reducible refine wpAny_loadPart_at hC ?_ | wp_step))
 refine ⟨rfl, ?_⟩
 refine codeAny_call_builtin_at (Code.quiet_builtin _ (by decide +kernel)) entry_typeCall (wpAny_check_type_call_sub hC (B6n (hrest := hrest) F T hC hn hi hfI hfc fun h' e hm => ?_))
 exact hq h' e hm
end
section
variable {M : Model} {prog : Program} {w : World} {A : Around} {E : Value -> Shared -> Prop} {s : Shared} {env : Env}
variable {nm q : Str} {C N : Addr} {bs bm bmB : List Value} {hdct : Bool} {sn : List Str} {sub : List Value} {ab : Bool} {col : Option Bool} {dd : Option Addr} {k0 k1 k2 k3 k5 : Option Value} {B newId initId : String}
theorem B0z {x : Sem Value} {Q : Flow -> Shared -> Prop} (hbase : bm.contains (.type "BaseException") = true) (hh : A.handled = none)
   (h : wpAny M A x (fun v s₁ => ∃ e t de, v = .ref e /\ s₁.heap.get? C = some (excClassObj nm q C N bs bm hdct sn sub ab col dd k0 k1 k2 k3 k5 newId) /\
     s₁.heap.get? e = some { cls := .ref C, dict := de, data := .fields #[.ref t, .none, .none, .none, .bool false, .none] } /\ E (.ref e) s₁) E s) :
   wpAny M A (raiseStmt env (some x) none) Q E s := by
 have hcB : (Value.ref C :: bm).contains (.type "BaseException") = true := by rw [List.contains_cons, hbase, Bool.or_true]
 unfold raiseStmt
 refine wpAny_bind (wpAny_mono h (fun v s₁ h₁ => ?_) fun _ _ x => x)
 obtain ⟨e, t, de, rfl, hC, he, hE⟩ := h₁
 obtain ⟨hp, g, d, tk, os⟩ := s₁
 repeat (first | with_reducible refine wpAny_loadPart_at he ?_ | with_reducible refine wpAny_loadPart_at hC ?_ | (with_reducible refine wpAny_isSubtype_exc hC ?_; rw [hcB]) | wp_step)
 exact wpAny_raiseNew_none hh hE
theorem C1s (F : ExcBaseFacts B newId initId bmB) {mN : Str -> Option Value} {x : Str} {np cpos pos : Pos} {args : List Expr} {Q : Flow -> Shared -> Prop} {fI : Addr} {oI : Obj}
   (hbase : bm.contains (.type "BaseException") = true) (hh : A.handled = none) (hplain : (backTo cpos (starEach args env)).any (·.1) = false) (hi : mN "__init__" = some (.ref fI)) (hfc : oI.cls = .type "function")
   (h : wpAny (model prog w) A (eval (.Name x np) env) (fun f s₁ => f = .ref C /\ wpAny (model prog w) A (evalArgs (.ref C) true (backTo cpos (starEach args env)) [])
     (fun a s₂ => a.kw = [] /\ a.pos.length <= sizeLine /\ s₂.heap.get? C = some (excClassObj nm q C N bs bm hdct sn sub ab col dd k0 k1 k2 k3 k5 newId) /\ s₂.heap.Ns N mN /\ OwnTail s₂.heap bmB bm /\ s₂.heap.get? fI = some oI /\
       ∀ h' e, Heap.MadeExcOf s₂.heap h' e (.ref C) a.pos -> wpAny (model prog w) (A.under (.builtin "type.__call__" ⟨.ref C :: a.pos, []⟩)) (call (.ref fI) (.ref e :: a.pos))
         (fun r s₃ => r = .none /\ s₃.heap.get? C = some (excClassObj nm q C N bs bm hdct sn sub ab col dd k0 k1 k2 k3 k5 newId) /\ (∃ t de, s₃.heap.get? e = some { cls := .ref C, dict := de, data := .fields #[.ref t, .none, .none, .none, .bool false, .none] }) /\ E (.ref e) s₃) E { s₂ with heap := h' }) E s₁) E s) :
   wpAny (model prog w) A (exec (.Raise (some (.Call (.Name x np) args [] cpos)) none pos) env) Q E s := by
 rw [arm_exec_Raise]
 first
   | refine wpAny_bind (wpAny_standAt (B0z (C := C) (nm := nm) (q := q) (N := N) (bs := bs) (bm := bm) (hdct := hdct) (sn := sn) (sub := sub) (ab := ab) (col := col) (dd := dd) (k0 := k0) (k1 := k1) (k2 := k2) (k3 := k3) (k5 := k5) (newId := newId) hbase hh (wpAny_bind (wpAny_mono (wpAny_Call_ofName (wpAny_mono h (fun f s₁ h₁ => ?_) fun _ _ x => x)) (fun v s₃ h₃ => wpAny_bind (wpAny_standAt (wpAny_pure h₃))) fun _ _ x => x))))
   | (simp only [evalOpt, Option.map]; refine wpAny_bind (wpAny_standAt (B0z (C := C) (nm := nm) (q := q) (N := N) (bs := bs) (bm := bm) (hdct := hdct) (sn := sn) (sub := sub) (ab := ab) (col := col) (dd := dd) (k0 := k0) (k1 := k1) (k2 := k2) (k3 := k3) (k5 := k5) (newId := newId) hbase hh (wpAny_bind (wpAny_mono (wpAny_Call_ofName (wpAny_mono h (fun f s₁ h₁ => ?_) fun _ _ x => x)) (fun v s₃ h₃ => wpAny_bind (wpAny_standAt (wpAny_pure h₃))) fun _ _ x => x)))))
 obtain ⟨rfl, h₁⟩ := h₁
 unfold callWith
 refine wpAny_bind (wpAny_holding (wpAny_mono h₁ (fun a s₂ h₂ => wpAny_bind (wpAny_standAt ?_)) fun _ _ x => x))
 obtain ⟨apos, akw⟩ := a
 obtain ⟨hkw, hlen, hC, hn, T, hf, h₂⟩ := h₂
 obtain rfl : akw = [] := hkw
 obtain ⟨hp, g, d, tk, os⟩ := s₂
 simp only [hplain]
 refine wpAny_bind (wpAny_keeperOf_exc hC ?_)
 refine wpAny_bind (C8v F T hC hn hi hf hfc (fun h' e hm => wpAny_mono (h₂ h' e hm) (fun r s₃ z => ⟨z.1, wpAny_bind (wpAny_holding (wpAny_point (wpAny_pure ?_)))⟩) fun _ _ x => x) hlen)
 obtain ⟨_, hC3, ⟨t, de, he⟩, hE⟩ := z
 exact ⟨e, t, de, rfl, hC3, he, hE⟩
end
end L2
namespace L2
open PySem PySem.Spec PyProof.Rows PySem.W
abbrev V3r : List Value := [.type "ValueError", .type "Exception", .type "BaseException", .type "object"]
structure V7z (K : Frag) (C fI : Addr) : Prop where
 cls : ∃ nm q N bs bm sn sub ab col dd k0 k1 k2 k3 k5, K.lookup C = some (excClassObj nm q C N bs bm true sn sub ab col dd k0 k1 k2 k3 k5 "ValueError.__new__") /\ nsOkIn K N = true /\ nsIn K N "__init__" = some (some (.ref fI)) /\ tailIn K V3r bm = true
 fn : ∃ o, K.lookup fI = some o /\ o.cls = .type "function"
 sa : findIn K (.ref C) "__setattr__" = some (some (.builtin "object.__setattr__"))
 ob : mroIn K C (.type "object") = some true
theorem U0x {K : Frag} {h : Heap} {N : Addr} {mg : Str -> Option Value} {n : Str} {v : Value} (X : K.In h) (G : h.Ns N mg) (e : nsIn K N n = some (some v)) : mg n = some v := by
 obtain ⟨o, es, ep, ho, hd, _, hf⟩ := G
 unfold nsIn at e
 split at e
 . rename_i c d es' n' sl q
   have := X _ _ q
   rw [ho] at this
   cases this
   cases hd
   split at e
   . rename_i en he
     cases e
     rw [<- hf]
     unfold nsFind findBy
     rw [<- Array.find?_toList, he]
     rfl
   . split at e <;> cases e
 cases e
theorem C6n {h : Heap} (self : Value) : ∀ {l : List Value}, OwnTail h V3r l -> refuseLoop self "__setattr__" l = pure ()
 | _, .base => PySem.F.store_ValueError.passes self
 | _, .own _ _ _ t => by rw [refuseLoop_ref]; exact C6n self t
section
variable {prog : Program} {w : World} {A : Around} {s : Shared} {K : Frag} {C e fI : Addr} {t : Addr} {R : Result -> Shared -> Prop} {name : Str} {tk : Tok} {v : Value}
theorem A0fx (X : K.In s.heap) (F : V7z K C fI) (he : s.heap.get? e = some (A3g (.ref C) t none .none)) (ht : findIn K (.ref C) name = some none)
   (h : ∀ h' tk' d, (∀ b ob, b ≠ e -> s.heap.get? b = some ob -> h'.get? b = some ob) -> h'.get? e = some (A3g (.ref C) t (some d) .none) -> h'.Ns1 d (fun y => if y = name then some v else none) -> s.heap.get? d = none -> d ≠ e ->
     R (.ok (.ret .none)) { s with heap := h', toks := tk' }) :
   codeAny (model prog w) A (.call (.builtin "object.__setattr__") ⟨[.ref e, .str name tk, v], []⟩) R s := by
 have SF := PySem.F.store_object
 obtain ⟨nm, q, N, bs, bm, sn, sub, ab, col, dd, k0, k1, k2, k3, k5, lC, nO, nI, tl⟩ := F.cls
 have hC := X _ _ lC
 have I : PySem.W.InstAt s.heap e (A3g (.ref C) t none .none) C none := ⟨he, rfl, rfl, trivial⟩
 have hc : clsIn K C = some { name := nm, bases := bs, mro := .ref C :: bm, ns := N, qualname := q, hasDict := true, slotNames := sn, subclasses := sub, abstract := ab, collection := col, hasDel := false } := by
   unfold clsIn
   rw [lC]
 have sub' : Looks (model prog w) s.heap (isInstance (.ref e) (.type "object")) true := I.type.andThen (looks_mroIn X F.ob)
 refine codeAny_call_builtin SF.slot.plain SF.entry (@check_slot (model prog w) _ _ s "object.__setattr__" "object" "__setattr__" (.ref e) [.str name tk, v] [] _ SF.kind SF.split sub' (SF.args (.ref e) (.str name tk) v) ?_)
 have hm : Looks (model prog w) s.heap (mroOf (.ref C)) (.ref C :: bm) := (looks_clsIn X hc).andThen .now
 have L3 : Looks (model prog w) s.heap (Builtin.ObjectAttr.storeTaker? none) none := .now
 rw [osa_eq, refuse_eq]
 refine wpAny_bind (wpAny_bind (I.type.here (wpAny_bind (hm.here ?_))))
 rw [refuseLoop_ref, C6n _ (tail_of_in X tl)]
 refine wpAny_pure (wpAny_bind (I.type.here (wpAny_bind ((looks_findIn X ht).here (wpAny_bind (L3.here ?_))))))
 dsimp only
 refine wpAny_bind (wpAny_pure (wpAny_bind (wpAny_bind (wpAny_loadPart he (wpAny_bind (PySem.W.Looks.here (PySem.W.looks_clsIn X hc) ?_))))))
 have hx₁ : (s.heap.push { cls := .type "dict", data := .dict #[] }).get? e = some (A3g (.ref C) t none .none) := Heap.get?_push_of_some _ he
 have hxs : e ≠ s.heap.objs.size := Nat.ne_of_lt (Heap.lt_size he)
 show wpAny (model prog w) A.in1 (do
     let d <- alloc { cls := Value.type "dict", data := Data.dict #[] }
     update e fun o => { cls := o.cls, dict := some d, data := o.data, slots := o.slots }
     pure (some d)) _ _ _
 refine wpAny_bind (wpAny_alloc' ?_)
 refine wpAny_bind (wpAny_update' hx₁ ?_)
 refine wpAny_pure ?_
 have hgd : ((s.heap.push { cls := .type "dict", data := .dict #[] }).update e fun o => { cls := o.cls, dict := some s.heap.objs.size, data := o.data, slots := o.slots }).get? s.heap.objs.size
     = some { cls := .type "dict", data := .dict #[] } :=
   (Heap.get?_update_ne _ _ _ _ hxs.symm).trans (Heap.get?_push_at rfl rfl)
 have hnd : ((s.heap.push { cls := .type "dict", data := .dict #[] }).update e fun o => { cls := o.cls, dict := some s.heap.objs.size, data := o.data, slots := o.slots }).Ns s.heap.objs.size (fun _ => none) :=
   ⟨_, #[], _, hgd, rfl, fun e he => absurd he (by simp), fun _ => rfl⟩
 show wpAny _ _ (Builtin.ObjectAttr.storeInDict s.heap.objs.size (.str name tk) name v) _ _ _
 unfold Builtin.ObjectAttr.storeInDict Builtin.ObjectAttr.newKeyGuard
 refine wpAny_bind (wpAny_pure (wpAny_bind (wpAny_nsSet1 (Heap.Ns1.of_empty hnd) fun h' hn' hs => ?_)))
 obtain ⟨oD, esD, epD, hoD, hdD, hcD⟩ := hn'.count (Within.cons name v Within.nil)
 refine wpAny_bind (wpAny_lookBehind hoD (by rw [hdD]; exact pastItsLine_dict (Nat.le_trans hcD (by rw [List.length_cons, List.length_nil, sizeLine_eq]; omega))) ?_)
 have hx' : h'.get? e = some (A3g (.ref C) t (some s.heap.objs.size) .none) := (hs.2 e hxs).trans (Heap.get?_update_self _ hx₁ rfl)
 refine wpAny_pure (h h' _ s.heap.objs.size (fun b ob hbx hb => ?_) hx' hn' (Heap.get?_none_of_le (Nat.le_refl _)) hxs.symm)
 exact (hs.2 b (Nat.ne_of_lt (Heap.lt_size hb))).trans ((Heap.get?_update_ne _ _ _ _ hbx).trans (Heap.get?_push_of_some _ hb))
end
def A5k (e C t : Addr) (d : Option Addr) : Heap -> Prop := fun h => h.get? e = some (A3g (.ref C) t d .none)
theorem Y6x {P : Program} {w : World} {H : Hp} {h : Heap} {e C t : Addr} {d : Option Addr} (q : h.get? e = some (A3g (.ref C) t d .none)) : A0g P w H h e (.ext (A5k e C t d)) :=
 ⟨q, ⟨_, q⟩, fun _ _ z k => k _ z⟩
section
variable {X : Cx} {pins : List (Addr × Obj)} {σ : St} {H : Hp} {s : Shared}
theorem Inv.trackO {a : Addr} {ho : HO} (I : Inv X pins σ H s) (n : Nw X pins H a) (ok : A0g X.prog X.w (upd H a ho) s.heap a ho) : Inv X pins σ (upd H a ho) s := by
 have ne : ∀ b u, H b = some u -> b ≠ a := fun b u z q => by rw [q, n.un] at z; cases z
 have up : ∀ b, b ≠ a -> upd H a ho b = H b := fun b hb => G6 hb
 refine ⟨I.ok, I.os, I.bare, ⟨I.base.keep, I.base.slot, fun b u z m hx => ?_, I.base.there, fun b xs z => ?_, fun b u v z => ?_, fun b ps z => ?_⟩, I.loc, I.cell, ?_, fun x c z => ?_, fun p hp => ?_, fun b u z => ?_, I.len⟩
 . rw [up b fun q => by rw [q, n.old] at z; cases z]
   exact I.base.free b u z m hx
 . have := I.base.tups b xs z
   rw [up b (ne b _ this)]; exact this
 . have := I.base.frzs b u v z
   rw [up b (ne b _ this)]; exact this
 . obtain ⟨more, this⟩ := I.base.tbls b ps z
   exact ⟨more, by rw [up b (ne b _ this)]; exact this⟩
 . rw [up _ (Ne.symm n.loc)]; exact I.free
 . rw [up _ (n.cell x c z)]; exact I.freeC x c z
 . obtain ⟨q1, q2, q3⟩ := I.pin p hp
   exact ⟨q1, by rw [up _ (n.pin p hp)]; exact q2, q3⟩
 by_cases hb : b = a
 . subst hb
   rw [A7] at z
   cases z
   exact ok
 rw [up b hb] at z
 exact (I.hok b u z).stay (fun _ _ _ q => q) (fun c q => by rw [up c (ne c _ q)]; exact q) (fun c xs q => by rw [up c (ne c _ q)]; exact q)
def rem (H : Hp) (a : Addr) : Hp := fun b => if b = a then none else H b
theorem D0c {a : Addr} : rem H a a = none := by unfold rem; rw [if_pos rfl]
theorem A8e {a b : Addr} (h : b ≠ a) : rem H a b = H b := by unfold rem; rw [if_neg h]
theorem Inv.forget {a : Addr} {φ : Heap -> Prop} (I : Inv X pins σ H s) (e : H a = some (.ext φ)) : Inv X pins σ (rem H a) s := by
 have ne : ∀ b u, H b = some u -> (∀ φ, u ≠ .ext φ) -> b ≠ a := fun b u z q w => by rw [w, e] at z; cases z; exact q _ rfl
 have non : ∀ b, H b = none -> rem H a b = none := fun b z => by
   by_cases q : b = a
   . rw [q]; exact D0c
   . rw [A8e q]; exact z
 refine ⟨I.ok, I.os, I.bare, ⟨I.base.keep, I.base.slot, fun b u z m hx => non b (I.base.free b u z m hx), I.base.there, fun b xs z => ?_, fun b u v z => ?_, fun b ps z => ?_⟩, I.loc, I.cell, non _ I.free, fun x c z => non _ (I.freeC x c z), fun p hp => ?_, fun b u z => ?_, I.len⟩
 . have := I.base.tups b xs z
   rw [A8e (ne b _ this (fun _ q => nomatch q))]; exact this
 . have := I.base.frzs b u v z
   rw [A8e (ne b _ this (fun _ q => nomatch q))]; exact this
 . obtain ⟨more, this⟩ := I.base.tbls b ps z
   exact ⟨more, by rw [A8e (ne b _ this (fun _ q => nomatch q))]; exact this⟩
 . obtain ⟨q1, q2, q3⟩ := I.pin p hp
   exact ⟨q1, non _ q2, q3⟩
 have hb : b ≠ a := fun q => by rw [q, D0c] at z; cases z
 rw [A8e hb] at z
 exact (I.hok b u z).stay (fun _ _ _ q => q) (fun c q => by rw [A8e (ne c _ q (fun _ w => nomatch w))]; exact q) (fun c xs q => by rw [A8e (ne c _ q (fun _ w => nomatch w))]; exact q)
end
def A0ys (C : Addr) (ta tv : TE) (f : Str) : TS := fun D σ H => tv σ H fun y H1 => ta σ H1 fun x H2 => ∃ e t, x = .ref e /\ H2 e = some (.ext (A5k e C t none)) /\
 ∀ d, H2 d = none -> d ≠ e -> D.nx σ (upd (upd H2 e (.ext (A5k e C t (some d)))) d (.xd [(f, y)]))
section
variable {X : Cx} {o value : Expr} {f : Str} {pos pos' : Pos} {ta tv : TE} {C fI : Addr}
theorem A0jp (F : V7z X.K C fI) (hf : findIn X.K (.ref C) f = some none) (ha : PE X o ta) (hv : PE X value tv) (hs : swapsWith value (some (.Attribute o f pos')) pos.line X.env = pure false) (hex : X.ex = [] := by rfl) :
   PS X (.Assign [.Attribute o f pos'] value pos) (A0ys C ta tv f) := by
 intro pins s σ H D I h
 refine plainObj_wpAny_Assign_Attribute (thn (hv pins s σ H _ I h) fun u s1 ⟨y, H1, I1, ry, q⟩ => thn (ha pins s1 σ H1 _ I1 q) fun ov s2 ⟨x, H2, I2, rx, e, t, ex, ea, q2⟩ => ?_) hs
 subst ex
 obtain rfl : ov = Value.ref e := rx
 have he : s2.heap.get? e = some (A3g (.ref C) t none .none) := (I2.hok e _ ea).1
 refine set_plain I2.kIn (⟨he, rfl, rfl, trivial⟩ : PySem.W.InstAt s2.heap e (A3g (.ref C) t none .none) C none) F.sa (A0fx (s := { s2 with toks := s2.toks + 1 }) I2.kIn F he hf fun h' tk' d k1 k2 k3 k4 k5 => ?_)
 have nd : H2 d = none := I2.hok.new k4
 have I3 : Inv X pins σ (upd H2 e (.ext (A5k e C t (some d)))) { s2 with heap := h', toks := tk' } :=
   I2.write (x := e) (e := e) (by rw [ea]; exact trivial) (.inl rfl) (fun b u hb z => k1 b u hb z) ⟨_, k2⟩ (Y6x k2)
 have nw : Nw X pins (upd H2 e (.ext (A5k e C t (some d)))) d := I2.nw hex k4 (by rw [G6 k5]; exact nd)
 refine ⟨σ, _, I3.trackO (ho := .xd [(f, y)]) nw ⟨_, k3, fun g => ?_⟩, q2 d nd k5⟩
 show C7g (List.lookup g [(f, y)]) (if g = f then some u else none)
 by_cases z : g = f
 . rw [if_pos z, z]
   have : List.lookup f [(f, y)] = some y := by simp [List.lookup]
   rw [this]; exact ry
 rw [if_neg z]
 have : List.lookup g [(f, y)] = none := by
   have hb : (g == f) = false := beq_eq_false_iff_ne.mpr z
   simp [List.lookup, hb]
 rw [this]; exact trivial
end
def G1u (C : Addr) (f : Str) : Sp := fun vs H Q _ => ∃ e t v, vs = [.ref e, v] /\ H e = some (.ext (A5k e C t none)) /\ ∀ d, H d = none -> d ≠ e -> Q .non (upd (upd H e (.ext (A5k e C t (some d)))) d (.xd [(f, v)]))
def A0jq (C : Addr) (f : Str) (EH : EK) (t : TA) : TS := fun _ σ H => t σ H fun vs H1 => ∃ v, vs = [v] /\ ∀ d H2, C8 H1 H2 -> H1 d = none -> H2 d = some (.xd [(f, v)]) -> EH (.ref C) (some d) σ H2
section
variable {X : Cx} {x f : Str} {p cpos pos : Pos} {e : Expr} {t : TA} {C fI : Addr} {fdI : FuncData} {ps : List Str} {EH : EK} {j k : Nat}
theorem V7u (hm : X.mg x = some (.ref C)) (F : V7z X.K C fI) (G : A8 X.prog X.w X.K X.mg X.base CX0 j fI fdI ps (G1u C f)) (bI : Binds X.K fdI ps []) (hr : A0m k X.A) (hx : U1 X EH) (ha : PA X [e] t) (hj : j + 1 <= k := by decide) (hg : Gl X x := by rfl) (hex : X.ex = [] := by rfl)
   (hdb : (x == ("__debug__" : Str)) = false := by decide) (he : starEach [e] X.env = (false, eval e X.env) :: starEach [] X.env := by rfl) (hpl : (backTo cpos (starEach [] X.env)).any (·.1) = false := by rfl) :
   PS X (.Raise (some (.Call (.Name x p) [e] [] cpos)) none pos) (A0jq C f EH t) := by
 intro pins s σ H D I h
 obtain ⟨nm, q, N, bs, bm, sn, sub, ab, col, dd, k0, k1, k2, k3, k5, lC, nO, nI, tl⟩ := F.cls
 obtain ⟨oI, lI, cI⟩ := F.fn
 have T0 : OwnTail X.base V3r bm := tail_of_in I.ok.mod.kin tl
 have hN0 : X.base.Ns N (X.base.nsMap N) := .of_isNs (isNs_of_in I.ok.mod.kin nO)
 have hi0 : X.base.nsMap N "__init__" = some (.ref fI) := U0x I.ok.mod.kin hN0 nI
 refine C1s (C := C) (nm := nm) (q := q) (N := N) (bs := bs) (bm := bm) (hdct := true) (sn := sn) (sub := sub) (ab := ab) (col := col) (dd := dd) (k0 := k0) (k1 := k1) (k2 := k2) (k3 := k3) (k5 := k5) (oI := oI) PySem.F.excBase_ValueError (mN := X.base.nsMap N) (T0.hasType PySem.F.excBase_ValueError.hasBase) hr.hd
   (by rw [he]; show (false || (backTo cpos (starEach [] X.env)).any (·.1)) = false; rw [hpl]; rfl) hi0 cI (A3m I hg hm ⟨rfl, ?_⟩ hdb)
 have ha' := ha cpos pins s σ H _ I h
 rw [he] at ha' ⊢
 refine Calls.evalArgs_plain (wpAny_mono ha' (fun us s2 ⟨vs, H1, I1, r, v, ev, z⟩ => ?_) fun _ _ y => y)
 subst ev
 obtain ⟨u, rfl, ru⟩ := r.one
 refine ⟨rfl, D7 (by show 1 <= 1000; decide), I1.kIn _ _ lC, hN0.keeps I1.bk, T0.keeps I1.bk, I1.kIn _ _ lI, fun h' a m => ?_⟩
 obtain ⟨t', e1, tn, e2⟩ := m.there
 have I2 : Inv X pins σ H1 { s2 with heap := h' } := I1.kept (t' := s2.toks) m.keeps
 have na : H1 a = none := I1.hok.new m.new
 have I3 := I2.trackO (ho := .ext (A5k a C t' none)) (I1.nw hex m.new na) (Y6x e1)
 have sp0 : G1u C f [.ref a, v] (upd H1 a (.ext (A5k a C t' none))) (fun v0 H' => v0 = .non /\ ∃ d, H1 d = none /\ d ≠ a /\ H' = upd (upd (upd H1 a (.ext (A5k a C t' none))) a (.ext (A5k a C t' (some d)))) d (.xd [(f, v)])) E0 :=
   ⟨a, t', v, rfl, A7, fun d nd nda => ⟨rfl, d, by rw [G6 nda] at nd; exact nd, nda, rfl⟩⟩
 have rr : U2 [.ref a, v] [.ref a, u] := .cons rfl (.cons ru .nil)
 have hl : ([Value.ref a, u] ++ []).length = ps.length := by
   have := G.len _ _ _ _ sp0
   rw [<- this]; rfl
 refine wpAny_call (codeAny_mono (G.run _ X.stack _ _ ⟨[.ref a, u], []⟩ ([.ref a, u] ++ []) [.ref a, v] _ E0 ((hr.mono hj).make C [u] []) (I3.env0.make C [u] []) (bI _ [.ref a, u] I3.kIn hl) rr sp0) fun r s' hq => ?_)
 cases r with
 | error e => exact hq.elim
 | ok fl =>
   cases fl with
   | ret u0 =>
     obtain ⟨v0, H', I4, rv, ev, d, nd, nda, eH⟩ := I3.after hq
     subst ev eH
     have ea : (upd (upd (upd H1 a (.ext (A5k a C t' none))) a (.ext (A5k a C t' (some d)))) d (.xd [(f, v)])) a = some (.ext (A5k a C t' (some d))) := by
       rw [G6 (Ne.symm nda), A7]
     have g1 : s'.heap.get? a = some (A3g (.ref C) t' (some d) .none) := (I4.hok a _ ea).1
     refine ⟨rv, I4.kIn _ _ lC, ⟨t', some d, g1⟩, ?_⟩
     refine hx pins σ _ s' a t' (.ref C) (some d) (I4.forget ea) ⟨I1.nw hex m.new D0c, .none, g1, .inl rfl, fun T z => nomatch z⟩ (z d _ (fun b ob q => ?_) nd ?_)
     . have nb : b ≠ a := G7 q na
       have nbd : b ≠ d := G7 q nd
       rw [A8e nb, G6 nbd, G6 nb, G6 nb]
       exact q
     . rw [A8e nda, A7]
   | next => exact hq.elim
   | brk => exact hq.elim
   | cont => exact hq.elim
end
section
variable {X : Cx} {e : Expr} {f : Str} {pos : Pos} {ta : TE}
end
section
variable {X : Cx}
end
section
variable {X : Cx}
def A0yr : V -> List V -> Hp -> VK -> Prop := fun x vs H Q => ∃ i, x = .int i /\ vs = [] /\ Q (.int ((Builtin.Int.intBits i : Nat) : Int)) H
theorem B6u : MtR X "int.bit_length" A0yr := by
 intro pins s σ H x xs v us Q I rx rs h
 obtain ⟨i, rfl, rfl, q⟩ := h
 obtain ⟨t, rfl⟩ := rx
 cases rs
 exact call_int_bit_length ⟨.int _, H, I.tok _, ⟨_, rfl⟩, q⟩
end
section
variable {X : Cx} {a b : Expr} {rest : List Expr} {pos : Pos} {ta tb : TE}
end
section
variable {X : Cx} {j k : Nat} {f C : Addr} {fd : FuncData} {ps : List Str} {sp : Sp} {dvs : List V} {ds : List Value} {x m : Str} {p pos apos : Pos} {e o : Expr} {es : List Expr} {ta : TE} {t : TA} {st : Stmt}
theorem A0hc {pins : List (Addr × Obj)} {σ : St} {H : Hp} {s : Shared} {Q : VK} {us : List Value} {vs : List V} (F : A8 X.prog X.w X.K X.mg X.base (CX1 X.prog X.w) k f fd ps sp) (hr : A0m k X.A) (hb : Binds X.K fd ps ds) (hd : U2 dvs ds)
   (I : Inv X pins σ H s) (r : U2 vs us) (h : sp (vs ++ dvs) H Q (fun C d H' => EKF C d σ H')) : wpAny (model X.prog X.w) X.A (call (.ref f) us) (EP X pins σ Q) X.xe s := by
 have r2 : U2 (vs ++ dvs) (us ++ ds) := r.append hd
 have hl : (us ++ ds).length = ps.length := by rw [<- r2.length]; exact F.len _ _ _ _ h
 refine wpAny_call (codeAny_mono (F.run X.A X.stack s H ⟨us, []⟩ (us ++ ds) (vs ++ dvs) Q _ hr I.env0 (hb s us I.kIn hl) r2 h) fun r s' hq => ?_)
 cases r with
 | error e =>
   obtain ⟨a, t, C, dd, H', _, _, _, _, _, hE, _⟩ := hq
   exact False.elim hE
 | ok fl =>
   cases fl with
   | ret u => exact I.after hq
   | next => exact False.elim hq
   | brk => exact False.elim hq
   | cont => exact False.elim hq
theorem Y6z (D : Def X.K X.mg x ps st f fd) (F : A8 X.prog X.w X.K X.mg X.base (CX1 X.prog X.w) j f fd ps sp) (hr : A0m k X.A) (ha : PA X (e :: es) t) (hj : j <= k := by decide) (hg : Gl X x := by rfl) (hdb : (x == ("__debug__" : Str)) = false := by decide)
   (he : starEach (e :: es) X.env = (false, eval e X.env) :: starEach es X.env := by rfl) (hpl : (backTo pos (starEach es X.env)).any (·.1) = false := by rfl) : PE X (.Call (.Name x p) (e :: es) [] pos) (C9d sp [] EKF t) := by
 intro pins s σ H Q I h
 refine wpAny_Call_Name_kw (A3m I hg D.g ?_ hdb)
 refine PySem.W.callWith_K (h₀ := X.base) I.ok.mod.kin D.F.kp (thn (ha pos pins s σ H _ I h) fun us s1 ⟨vs, H1, I1, r, q⟩ => ⟨I1.kIn, ?_⟩) he hpl
 exact A0hc (F.mono hj) hr D.b .nil I1 r q
end
section
variable {X : Cx} {N F : List Str} {js : List Nat} {scope : Scope}
end
section
variable {X : Cx} {pins : List (Addr × Obj)} {σ : St} {H : Hp} {s : Shared} {h' : Heap}
end
section
variable {X : Cx} {es : List Expr} {k : Nat} {tp : Pos}
end
def Exc1 (D : Addr) (H H' : Hp) : Prop := ∀ b o, H b = some o -> b ≠ D -> H' b = some o
theorem B5t {J : It} {g : TG} {te : TE} {σ0 : St} {H1 : Hp} {QD : Addr -> Hp -> Prop} {n : Nat} (R : Nat -> V -> Hp -> Prop) (hn : n <= 1000)
   (mono : ∀ i y H' H'' D l, R i y H' -> H' D = some (.lst l) -> Exc1 D H' H'' -> R i y H'')
   (step : ∀ i H2 Qy, i < n -> C8 H1 H2 -> (∀ y H6, C8 H2 H6 -> R i y H6 -> Qy y H6) -> J.go i H2 /\ ∀ x H3, J.yld i H2 x H3 -> g x σ0 H3 fun σ4 H4 => te σ4 H4 Qy)
   (stop : ∀ H2, C8 H1 H2 -> J.stop n H2)
   (k : ∀ D H' ys, C8 H1 H' -> H1 D = none -> H' D = some (.lst ys) -> ys.length = n -> (∀ i y, ys[i]? = some y -> R i y H') -> QD D H') : ∀ D, H1 D = none ->
   ∃ (m : Nat) (W : Nat -> List V -> Hp -> Prop), W 0 [] (upd H1 D (.lst [])) /\ ∀ i ys H2, W i ys H2 -> i <= m /\ H2 D = some (.lst ys) /\ ((J.stop i H2 /\ QD D H2) \/ (i < m /\ J.go i H2 /\ ∀ x H3, J.yld i H2 x H3 ->
     g x σ0 H3 fun σ4 H4 => te σ4 H4 fun y H6 => H6 D = some (.lst ys) /\ ys.length < sizeLine /\ W (i + 1) (ys ++ [y]) (upd H6 D (.lst (ys ++ [y]))))) := by
 intro D hD
 refine ⟨n, fun i ys H2 => i <= n /\ ys.length = i /\ H2 D = some (.lst ys) /\ C8 H1 H2 /\ ∀ j y, ys[j]? = some y -> R j y H2, ⟨Nat.zero_le _, rfl, A7, C8.upd hD, fun j y h => by simp at h⟩, ?_⟩
 rintro i ys H2 ⟨hi, hl, hd, sm, hR⟩
 refine ⟨hi, hd, ?_⟩
 by_cases hlt : i < n
 . refine .inr ⟨hlt, step i H2 _ hlt sm fun y H6 s6 r6 => ?_⟩
   have d6 : H6 D = some (.lst ys) := s6 _ _ hd
   have ex : Exc1 D H6 (upd H6 D (.lst (ys ++ [y]))) := fun b o e hb => by rw [G6 hb]; exact e
   refine ⟨d6, Nat.lt_of_le_of_lt (by omega : ys.length <= 1000) (A0y (Nat.le_refl _)), hlt, by simp [hl], A7, fun b o e => ?_, fun j z hj => ?_⟩
   . rw [G6 (G7 e hD)]
     exact s6 _ _ (sm _ _ e)
   . by_cases hj' : j < ys.length
     . rw [List.getElem?_append_left hj'] at hj
       exact mono j z H6 _ D ys (mono j z H2 H6 D ys (hR j z hj) hd fun b o e _ => s6 _ _ e) d6 ex
     . rw [List.getElem?_append_right (by omega)] at hj
       have e0 : j - ys.length = 0 := by
         apply Classical.byContradiction
         intro q
         rw [List.getElem?_eq_none (by simp; omega)] at hj
         cases hj
       rw [e0] at hj
       have ej : j = i := by omega
       subst ej
       cases hj
       exact mono _ _ H6 _ D ys r6 d6 ex
 have e : i = n := by omega
 subst e
 exact .inl ⟨stop H2 sm, k D H2 ys sm hD hd hl hR⟩
open AutoSeq1 (wpAny_loadPart')
section
variable {prog : Program} {w : World} {A : Around} {E : Value -> Shared -> Prop} {s : Shared}
end
section
variable {X : Cx} {es : List Expr} {k : Nat} {tp : Pos}
end
end L2
namespace L2
open PySem PySem.Spec PyProof.Rows PySem.W
section
variable {X : Cx}
theorem C0f : A6w X (.builtin "divmod") (fun xs H Q => ∃ i j : Int, xs = [.int i, .int j] /\ (0 < j /\ j.natAbs.log2 < 9000) /\ ∀ p, H p = none -> Q (.ref p) (upd H p (.tup [.int (i / j), .int (i % j)]))) := by
 intro pins s σ H xs us Q I r h
 obtain ⟨i, j, rfl, ⟨h1, h2⟩, q⟩ := h
 obtain ⟨u, w', rfl, ⟨t, rfl⟩, ⟨t', rfl⟩⟩ := Y6r r
 refine divmod_int (by omega) ?_ (.inl (PyProof.noPylong_of_log2 h2))
 rw [Int.fdiv_eq_ediv_of_nonneg i (by omega), Int.fmod_eq_emod_of_nonneg i (by omega)]
 refine ⟨.ref s.heap.objs.size, upd H s.heap.objs.size (.tup [.int (i / j), .int (i % j)]), I.laid (fun b o e => Heap.get?_push_of_some _ e) (Nat.le_refl _) ⟨D7 (by show 2 <= 1000; decide), [.int (i / j) s.toks, .int (i % j) (s.toks + 1)], .cons ⟨_, rfl⟩ (.cons ⟨_, rfl⟩ .nil), ⟨_, Heap.get?_push_size s.heap rfl, rfl, 0, rfl⟩⟩, rfl, q _ (I.hok.fresh (Nat.le_refl _))⟩
end
end L2
namespace L2
open PySem PySem.W PyProof.Rows
section
variable {X : Cx} {o e : Expr} {ta : TE} {m : Str} {apos pos : Pos} {j k : Nat} {ps : List Str} {ι : Type} {cw f : ι -> Addr} {fd : ι -> FuncData} {sp : ι -> Sp} {EH : EK}
end
section
variable {X : Cx} {a b e o : Expr} {es : List Expr} {ta tb te to : TE} {t : TA} {pos : Pos} {st : Stmt} {rest : List Stmt} {ts u : TS}
end
end L2
namespace L2
open PySem PySem.Spec PyProof.Rows PySem.W
section
variable {X : Cx} {x f : Str} {p cpos pos : Pos} {e : Expr} {t : TA} {C fI : Addr} {fdI : FuncData} {ps : List Str} {j k : Nat}
end
section
variable {X : Cx} {x y : Str} {e : Expr} {t : TE} {p q : Pos} {pos pos2 : Pos}
end
end L2
namespace L2
open PySem PySem.Spec PyProof.Rows
end L2
namespace L2
open PySem PySem.Spec PyProof.Rows PySem.W
mutual
inductive RdR (H : Hp) : V -> PyData -> Prop where
 | non : RdR H .non .none
 | bl (b : Bool) : RdR H (.bl b) (.bool b)
 | int (i : Int) : RdR H (.int i) (.int i)
 | str (x : Str) : RdR H (.str x) (.str x)
 | tup {a : Addr} {xs : List V} {ds : List PyData} (h : H a = some (.tup xs)) (r : B6p H xs ds) : RdR H (.ref a) (.tuple ds)
 | lst {a : Addr} {xs : List V} {ds : List PyData} (h : H a = some (.lst xs)) (n : a ≠ sysModules) (r : B6p H xs ds) : RdR H (.ref a) (.list ds)
 | dct0 {a : Addr} (h : H a = some (.dK [])) : RdR H (.ref a) (.dict [])
 | dct1 {a : Addr} {z : Str} {b : Bool} (h : H a = some (.dK [(.inr z, .bl b)])) : RdR H (.ref a) (.dict [(.str z, .bool b)])
inductive B6p (H : Hp) : List V -> List PyData -> Prop where
 | nil : B6p H [] []
 | cons {x : V} {xs : List V} {d : PyData} {ds : List PyData} (h : RdR H x d) (r : B6p H xs ds) : B6p H (x :: xs) (d :: ds)
end
mutual
theorem RdR.same {H H' : Hp} (s : ∀ b o, H b = some o -> H' b = some o) : ∀ {x : V} {d : PyData}, RdR H x d -> RdR H' x d
 | _, _, .non => .non
 | _, _, .bl b => .bl b
 | _, _, .int i => .int i
 | _, _, .str x => .str x
 | _, _, .tup h r => .tup (s _ _ h) (B6p.same s r)
 | _, _, .lst h n r => .lst (s _ _ h) n (B6p.same s r)
 | _, _, .dct0 h => .dct0 (s _ _ h)
 | _, _, .dct1 h => .dct1 (s _ _ h)
theorem B6p.same {H H' : Hp} (s : ∀ b o, H b = some o -> H' b = some o) : ∀ {x : List V} {d : List PyData}, B6p H x d -> B6p H' x d
 | _, _, .nil => .nil
 | _, _, .cons h r => .cons (RdR.same s h) (B6p.same s r)
end
section
variable {X : Cx}
mutual
theorem RdR.reads {pins : List (Addr × Obj)} {σ : St} {H : Hp} {s : Shared} (I : Inv X pins σ H s) : ∀ {x : V} {d : PyData} {u : Value}, RdR H x d -> V0 x u -> ∃ as, Reads s.heap u d as /\ sysModules ∉ as
 | _, _, _, .non, r => by cases r; exact ⟨_, .none, by simp⟩
 | _, _, _, .bl b, r => by cases r; exact ⟨_, .bool b, by simp⟩
 | _, _, _, .int i, r => by obtain ⟨t, rfl⟩ := r; exact ⟨_, .int i t, by simp⟩
 | _, _, _, .str x, r => by obtain ⟨t, rfl⟩ := r; exact ⟨_, .str x t, by simp⟩
 | _, _, _, .tup h q, r => by
   cases r
   obtain ⟨_, its, rv, o, e, c, n, d⟩ := I.hok _ _ h
   obtain ⟨as, z, y⟩ := B6p.reads I q rv
   exact ⟨_, .tuple e c d (by simpa using z), y⟩
 | _, _, _, .lst (a := a) h nn q, r => by
   cases r
   obtain ⟨_, its, n, rv, e⟩ := I.hok _ _ h
   obtain ⟨as, z, y⟩ := B6p.reads I q rv
   refine ⟨_, .list e rfl rfl (by simpa using z), fun hm => ?_⟩
   rcases List.mem_cons.mp hm with hm | hm
   . exact nn hm.symm
   . exact y hm
 | _, _, _, .dct0 (a := a) h, r => by
   cases r
   obtain ⟨_, nS, vs, kv, o, es, ep, e, c, d, _, ps, _⟩ := I.hok _ _ h
   cases kv
   cases hp : es.toList with
   | cons _ _ => rw [hp] at ps; cases ps
   | nil =>
     refine ⟨_, .dict (kvs := []) e c.1 d (by rw [hp]; exact .nil) (by rw [hp]; exact .nil), fun hm => ?_⟩
     exact beq_eq_false_iff_ne.mp nS (by simpa using hm : sysModules = a).symm
 | _, _, _, .dct1 (a := a) (z := z) (b := b) h, r => by
   cases r
   obtain ⟨_, nS, vs, kv, o, es, ep, e, c, d, _, ps, _⟩ := I.hok _ _ h
   cases kv with
   | cons k1 k2 =>
     cases k2
     obtain ⟨k1a, k1b⟩ := k1
     cases ps' : es.toList with
     | nil => rw [ps'] at ps; cases ps
     | cons en rest =>
       rw [ps'] at ps
       cases ps with
       | cons p1 p2 p3 =>
         cases p3
         have hk : ∃ t, en.key = .str z t := by
           rw [<- k1a] at p1
           have p1 : Value.isStrOf z en.key = true := p1
           cases hk : en.key <;> rw [hk] at p1 <;> simp [Value.isStrOf] at p1
           subst p1
           exact ⟨_, rfl⟩
         obtain ⟨t, hk⟩ := hk
         have hv : en.val = .bool b := p2.trans k1b
         refine ⟨_, .dict (kvs := [(.str z, .bool b)]) e c.1 d (by rw [ps']; show ReadsAll s.heap [en.key] [.str z] _; rw [hk]; exact .cons (.str z t) .nil) (by rw [ps']; show ReadsAll s.heap [en.val] [.bool b] _; rw [hv]; exact .cons (.bool b) .nil), fun hm => ?_⟩
         exact beq_eq_false_iff_ne.mp nS (by simpa using hm : sysModules = a).symm
theorem B6p.reads {pins : List (Addr × Obj)} {σ : St} {H : Hp} {s : Shared} (I : Inv X pins σ H s) : ∀ {xs : List V} {ds : List PyData} {us : List Value}, B6p H xs ds -> U2 xs us -> ∃ as, ReadsAll s.heap us ds as /\ sysModules ∉ as
 | _, _, _, .nil, r => by cases r; exact ⟨_, .nil, by simp⟩
 | _, _, _, .cons h q, r => by
   cases r with
   | cons r1 r2 =>
     obtain ⟨as, z, n1⟩ := RdR.reads I h r1
     obtain ⟨bs, y, n2⟩ := B6p.reads I q r2
     exact ⟨_, .cons z y, by simp [n1, n2]⟩
end
end
section
variable {X : Cx} {j k : Nat} {f C : Addr} {fd : FuncData} {ps : List Str} {sp : Sp} {dvs : List V} {ds : List Value} {x m : Str} {p pos apos : Pos} {e o : Expr} {es : List Expr} {ta : TE} {t : TA} {st : Stmt}
end
section
variable {cs : List Addr} {H H' H2 : Hp} {b : Addr} {P : Program} {w : World} {h h' : Heap} {fs : List Addr}
end
section
variable {X : Cx} {j k : Nat} {f : Addr} {fd : FuncData} {ps : List Str} {sp : Sp} {ds : List Value} {EH : EK} {x : Str} {p pos : Pos} {e : Expr} {es : List Expr} {t : TA} {st : Stmt}
end
section
variable {X : Cx}
end
section
variable {X : Cx} {tg : Expr}
end
section
variable {X : Cx}
end
section
variable {prog : Program} {w : World} {A : Around} {E : Value -> Shared -> Prop} {s : Shared}
end
section
variable {X : Cx} {pos : Pos}
end
section
variable {X : Cx} {pos tpos pa pb : Pos}
def A0sq (K : Frag) (te : TE) (i j : Nat) : TS := fun D σ H => te σ H fun x H1 => ∃ t v1 v2, x = .ref t /\ SqT K H1 t [v1, v2] /\ D.nx ((σ.set j (some v2)).set i (some v1)) H1
theorem Y8d {i j : Nat} {a b : Str} {k : Nat} {e : Expr} {te : TE} (hc : X.calm = true) (hN : X.N.Nodup) (hi : X.N[i]? = some a) (hj : X.N[j]? = some b) (ha : Loc X.env.scope a) (hb : Loc X.env.scope b) (he : PE X e te)
   (hfa : X.fn a = true \/ X.env.scope.names.lookup a = some .local := by first | exact .inl rfl | exact .inr rfl | assumption) (hfb : X.fn b = true \/ X.env.scope.names.lookup b = some .local := by first | exact .inl rfl | exact .inr rfl | assumption)
   (hs : swapsWithSole [.Tuple [.Name a pa, .Name b pb] k tpos] e pos.line X.env = pure false := by rfl) (hw : swappedStores [.Tuple [.Name a pa, .Name b pb] k tpos] e X.env = pure (some [a, b]) := by rfl) :
   PS X (.Assign [.Tuple [.Name a pa, .Name b pb] k tpos] e pos) (A0sq X.K te i j) := by
 intro pins s σ H D I h
 refine Assign_Tuple_swapped (thn (he pins s σ H _ I h) fun v s1 ⟨x, H1, I1, r1, q1⟩ => ?_) hs hw
 obtain ⟨t, v1, v2, e1, hq, hw⟩ := q1
 subst e1
 cases r1
 obtain ⟨its, rv, ht, hz⟩ := I1.tuple hq
 have hl : its.toArray.size = 2 := by simp [<- rv.length]
 show wpAny _ _ (unpackItems (.ref t) 2 none) _ _ s1
 rw [<- hl]
 refine unpackItems_tuple (I1.ok.hd hc) ht fun h' hx => ?_
 have I2 : Inv X pins σ H1 { s1 with heap := h' } := I1.kept (t' := s1.toks) fun b o e => hx b o (Nat.ne_of_lt (Heap.lt_size e)) e
 cases rv with
 | cons r1 rr =>
   cases rr with
   | cons r2 rr =>
     cases rr
     show wpAny _ _ (assignInOrder [bindName X.env b, bindName X.env a] [_, _]) _ _ _
     refine assignInOrder_cons (bindName_ (B1g I2 hN hj hb r2 (fun s' I' => ?_) hfb))
     exact assignInOrder_cons (bindName_ (B1g I' hN hi ha r1 (fun s'' I'' => assignInOrder_nil ⟨_, H1, I'', hw⟩) hfa))
end
end L2
namespace TR
open PySem L2 PySem.W PyProof.Rows
seal PE PS PSs PA PT PW PG PGs PI
abbrev Q0 : List Str := ["self", "sign", "last", "part"]
abbrev Q3 : List Str := ["self", "sign"]
abbrev Q4 : List Str := ["one", "other"]
abbrev Q5 : List Str := ["context", "sign"]
abbrev Q6 : List Str := ["thing", "least", "most"]
abbrev Q7 : List Str := ["context", "sign", "ideal"]
abbrev Q8 : List Str := ["_law_frame_here", "_law_one", "_law_other"]
abbrev Q9 : List Str := ["context", "one", "other"]
abbrev Q10 : List Str := ["_law_power_here"]
abbrev Q11 : List Str := ["_law_frame_here", "_law_sign", "_law_ideal"]
abbrev Q12 : List Str := ["context", "number"]
abbrev Q13 : List Str := ["context", "sign", "exact", "ideal"]
abbrev Q14 : List Str := ["_law_frame_here", "_law_sign", "_law_value", "_law_ideal"]
abbrev Q15 : List Str := ["self", "power"]
abbrev Q16 : List Str := ["_law_figures_here"]
abbrev Q17 : List Str := ["numbers", "kind"]
abbrev Q18 : List Str := ["_law_cell", "_law_k"]
abbrev Q19 : List Str := ["_law_cell", "_law_most"]
abbrev Q20 : List Str := ["size", "middle"]
abbrev Q21 : List Str := ["whole", "count"]
abbrev Q22 : List Str := ["self", "top", "bottom", "power"]
abbrev Q23 : List Str := ["ideal", "sign", "figures", "power"]
abbrev Q24 : List Str := ["context", "sign", "pair"]
abbrev Q25 : List Str := ["context", "sign", "figures", "power"]
abbrev Q26 : List Str := ["context", "exact"]
abbrev Q27 : List Str := ["self", "top", "power"]
abbrev Q28 : List Str := ["context", "one", "other", "ideal"]
abbrev Q29 : List Str := ["number", "power"]
abbrev Q30 : List Str := ["_law_value", "_law_power_here"]
abbrev Q31 : List Str := ["_law_one", "_law_other"]
abbrev Q32 : List Str := ["sign", "figures", "power"]
abbrev Q33 : List Str := ["part", "is_cut"]
abbrev Q34 : List Str := ["context", "lead", "part"]
abbrev Q35 : List Str := ["thing", "most"]
abbrev Q36 : List Str := ["_law_script", "_law_k"]
abbrev Q37 : List Str := ["_law_frame_here"]
abbrev Q38 : List Str := ["_law_way", "_law_sign", "_law_last", "_law_part"]
abbrev Q39 : List Str := ["context", "one"]
abbrev Q40 : List Str := ["context", "sign", "power", "count"]
abbrev Q41 : List Str := ["_law_frame_here", "_law_one"]
abbrev Q42 : List Str := ["_law_frame_here", "_law_way", "_law_parts", "_law_count_here"]
abbrev Q43 : List Str := ["_law_context_here", "_law_way", "_law_numbers", "_law_count_here"]
abbrev Q44 : List Str := ["self", "kind", "sign", "figures", "power"]
abbrev Q45 : List Str := ["self", "room", "way", "least", "most"]
abbrev Q46 : List Str := ["self", "signal"]
abbrev Q47 : List Str := ["_law_room", "_law_way", "_law_most", "_law_sign"]
abbrev Q48 : List Str := ["context", "one", "count"]
abbrev Q49 : List Str := ["_law_number", "_law_count_here"]
abbrev Q50 : List Str := ["_law_frame_here", "_law_one", "_law_count_here"]
abbrev Q51 : List Str := ["_law_parts", "_law_more"]
abbrev Q52 : List Str := ["self", "power", "shift", "top", "bottom", "whole"]
abbrev Q53 : List Str := ["burst", "off", "cut"]
variable {P : Program} {w : World} {K : Frag} {mg : Str -> Option Value} {base : Heap}
def top (i : Nat) : Stmt := PySem.Challenge.pw_tenreckon_k35_whole_quotients_exactly.main.body.getD i (.Pass ⟨0, 0, 0, 0⟩)
abbrev C9s : Stmt := (top 29)
def A0yt (K : Frag) : Sp := fun vs H Q _ => ∃ v lo hi, vs = [v, .int lo, .int hi] /\ ((B6s lo hi v /\ Q (.bl true) H) \/ (D5c K H lo hi v /\ Q (.bl false) H))
theorem A0xp : C5 Q6 Q6 (A2 C9s) := scK
theorem U0n {f : Addr} {fd : FuncData} (D : Def K mg "is_between" Q6 C9s f fd) (O : Own mg) (T : Kit K) : A8 P w K mg base (CX1 P w) 1 f fd Q6 (A0yt K) := by
 refine A8.up (D.F.ok A0xp (fun vs H Q E h => ?_) (fun cdv A outer s H vs Q E hr h => ?_))
 . obtain ⟨v, lo, hi, rfl, _⟩ := h
   rfl
 obtain ⟨v, lo, hi, rfl, h⟩ := h
 refine ⟨_, (A3 (G4 (PW.pt (D9j (A4g (Y2 (V6t O.isi (pv 0) (pty O.int_ boot_int)))) (C1h (Y2 (V6t O.isi (pv 0) (pty O.bool_ boot_bool)))))) (A6 (B0 A3k)) D0) (A6 (B0 (B1x (G9 D9e (pv 0) (pv 1) (C6 _)) (A6d (G9 A0qt (pv 0) (pv 2) (C6 _))))))), ?_⟩
 rcases h with ⟨⟨i, rfl, h1, h2⟩, k⟩ | ⟨⟨t, b1, b2, ty, k1, k2, bad⟩, k⟩
 . refine ⟨_, rfl, _, _, _, _, true, rfl, rfl, A0qv i, T.int_int, _, rfl, V3 ?_⟩
   refine ⟨_, rfl, _, _, _, _, false, rfl, rfl, A0qv i, T.int_bool, _, rfl, V3 ?_⟩
   refine ⟨_, rfl, _, rfl, _, _, rfl, rfl, _, rfl, A0p h1 ?_⟩
   refine ⟨_, rfl, _, rfl, _, _, rfl, rfl, ?_⟩
   show Q (.bl (decide (i <= hi))) H
   rw [decide_eq_true h2]
   exact k
 refine ⟨_, rfl, _, _, _, _, b1, rfl, rfl, ty, k1, _, rfl, ?_⟩
 cases b1 with
 | false => exact Z5 (Z5 k)
 | true =>
   refine V3 ⟨_, rfl, _, _, _, _, b2, rfl, rfl, ty, k2, _, rfl, ?_⟩
   cases b2 with
   | true => exact Z5 k
   | false =>
     obtain ⟨i, rfl, out⟩ := bad.resolve_left (by decide)
     refine V3 ⟨_, rfl, _, rfl, _, _, rfl, rfl, _, rfl, J1 (fun h1 => ?_) (fun h1 => ?_)⟩
     . refine ⟨_, rfl, _, rfl, _, _, rfl, rfl, ?_⟩
       show Q (.bl (decide (i <= hi))) H
       rw [decide_eq_false (by omega : ¬ i <= hi)]
       exact k
     . exact k
structure Err (K : Frag) (mg : Str -> Option Value) (x : Str) (CB : Addr) : Prop where
 g : mg x = some (.ref CB)
 q : excIn K CB [.type "ValueError", .type "Exception", .type "BaseException", .type "object"] "ValueError.__new__" = true
def C0a (lo hi : Int) : Prop := lo.natAbs.log2 < 1920 /\ hi.natAbs.log2 < 1920 /\ (Str.ofString (toString lo)).length <= 100 /\ (Str.ofString (toString hi)).length <= 100
abbrev A4t : Stmt := (top 68)
def D9d (K : Frag) (CB : Addr) : Sp := fun vs H Q E => ∃ v lo hi, vs = [v, .int lo, .int hi] /\ C0a lo hi /\ ((B6s lo hi v /\ Q v H) \/ (D5c K H lo hi v /\ E (.ref CB) none H))
theorem V6j : C5 Q6 Q6 (A2 A4t) := scK
theorem U0v {f f1 CB : Addr} {fd fd1 : FuncData} (D : Def K mg "bounded" Q6 A4t f fd) (D1 : Def K mg "is_between" Q6 C9s f1 fd1) (O : Own mg) (T : Kit K) (B : Err K mg "BadContext" CB) :
   A8 P w K mg base (CX1 P w) 2 f fd Q6 (D9d K CB) := by
 have G1 := U0n (P := P) (w := w) (base := base) D1 O T
 refine D.F.okE V6j (fun vs H Q E h => ?_) (fun X cdv A outer s H vs Q E hX hr hx h => ?_)
 . obtain ⟨v, lo, hi, rfl, _⟩ := h
   rfl
 subst hX
 obtain ⟨v, lo, hi, rfl, ⟨l1, l2, l3, l4⟩, h⟩ := h
 refine ⟨_, (A3 (G4 (A4g (Y2 (C9 D1 G1 hr hx (A0 (pv 0) (A0 (pv 1) (A0 (pv 2) A5)))))) (A6 (A2r (by rfl) B.g B.q PySem.F.excBase_ValueError hr.hd hx (A0 (G2g (.cons .lit (.cons (.int (pv 1)) (.cons .lit (.cons (.int (pv 2)) .nil))))) A5))) D0) (A6 (B0 (pv 0)))), ?_⟩
 rcases h with ⟨g, k⟩ | ⟨bad, k⟩
 . exact ⟨_, rfl, _, rfl, _, rfl, _, _, _, rfl, .inl ⟨g, _, rfl, V3 ⟨_, rfl, k⟩⟩⟩
 have a0 : Str.empty.length = 0 := rfl
 have a1 : (Str.ofString "not a whole number from ").length = 24 := by decide +kernel
 have a2 : (Str.ofString " to ").length = 4 := by decide +kernel
 have sz : ∀ {n : Nat}, n <= 1000 -> n <= sizeLine := fun h => Nat.le_of_lt (A0y h)
 refine ⟨_, rfl, _, rfl, _, rfl, _, _, _, rfl, .inr ⟨bad, _, rfl, Z5 ?_⟩⟩
 exact ⟨_, rfl, sz (by rw [strLen_append]; omega), _, rfl, _, rfl, l1, _, rfl, sz (by rw [strLen_append, strLen_append]; omega), _, rfl, sz (by rw [strLen_append, strLen_append, strLen_append]; omega), _, rfl, _, rfl, l2, _, rfl, sz (by rw [strLen_append, strLen_append, strLen_append, strLen_append]; omega), sz (by rw [strLen_append, strLen_append, strLen_append, strLen_append]; omega), sz (by show 1 <= 1000; decide), k⟩
abbrev A2p : Stmt := (top 30)
def V5s (K : Frag) (CB : Addr) : Sp := fun vs H Q E => ∃ v lo hi, vs = [v, .int lo, .int hi] /\ C0a lo hi /\
 ((B6s lo hi v /\ Q .non H) \/ (D5c K H lo hi v /\ E (.ref CB) none H))
theorem V6w : C5 Q6 Q6 (A2 A2p) := scK
theorem C8y {f f1 CB : Addr} {fd fd1 : FuncData} (D : Def K mg "need_between" Q6 A2p f fd) (D1 : Def K mg "is_between" Q6 C9s f1 fd1) (O : Own mg) (T : Kit K) (B : Err K mg "BadNumber" CB) :
   A8 P w K mg base (CX1 P w) 2 f fd Q6 (V5s K CB) := by
 have G1 := U0n (P := P) (w := w) (base := base) D1 O T
 refine D.F.okE V6w (fun vs H Q E h => ?_) (fun X cdv A outer s H vs Q E hX hr hx h => ?_)
 . obtain ⟨v, lo, hi, rfl, _⟩ := h
   rfl
 subst hX
 obtain ⟨v, lo, hi, rfl, ⟨l1, l2, l3, l4⟩, h⟩ := h
 refine ⟨_, (A6 (G4 (A4g (Y2 (C9 D1 G1 hr hx (A0 (pv 0) (A0 (pv 1) (A0 (pv 2) A5)))))) (A6 (A2r (by rfl) B.g B.q PySem.F.excBase_ValueError hr.hd hx (A0 (G2g (.cons .lit (.cons (.int (pv 1)) (.cons .lit (.cons (.int (pv 2)) .nil))))) A5))) D0)), ?_⟩
 rcases h with ⟨g, k⟩ | ⟨bad, k⟩
 . exact ⟨_, rfl, _, rfl, _, rfl, _, _, _, rfl, .inl ⟨g, _, rfl, V3 k⟩⟩
 have a0 : Str.empty.length = 0 := rfl
 have a1 : (Str.ofString "not a whole number from ").length = 24 := by decide +kernel
 have a2 : (Str.ofString " to ").length = 4 := by decide +kernel
 have sz : ∀ {n : Nat}, n <= 1000 -> n <= sizeLine := fun h => Nat.le_of_lt (A0y h)
 refine ⟨_, rfl, _, rfl, _, rfl, _, _, _, rfl, .inr ⟨bad, _, rfl, Z5 ?_⟩⟩
 exact ⟨_, rfl, sz (by rw [strLen_append]; omega), _, rfl, _, rfl, l1, _, rfl, sz (by rw [strLen_append, strLen_append]; omega), _, rfl, sz (by rw [strLen_append, strLen_append, strLen_append]; omega), _, rfl, _, rfl, l2, _, rfl, sz (by rw [strLen_append, strLen_append, strLen_append, strLen_append]; omega), sz (by rw [strLen_append, strLen_append, strLen_append, strLen_append]; omega), sz (by show 1 <= 1000; decide), k⟩
abbrev D9m : Stmt := (J2 (top 18) 0)
abbrev C9b : Stmt := (top 22)
abbrev A4q : Stmt := (top 24)
structure Num (K : Frag) (mg : Str -> Option Value) (CN : Addr) : Prop where
 g : mg "Number" = some (.ref CN)
 cl : Cls K CN
 n1 : Y6 K CN "kind"
 n2 : Y6 K CN "sign"
 n3 : Y6 K CN "figures"
 n4 : Y6 K CN "power"
 ca : findIn K (.ref CN) "__class__" = some (some (.builtin "object.__class__"))
 sn : specialIn K (.builtin "object.__class__") "__get__" = some (some (.builtin "getset_descriptor.__get__"))
 tk : takesIn K (.builtin "object.__class__") = some true
 ob : mroIn K CN (.type "object") = some true
 self : kitOne K (.ref CN) (.ref CN) = some true
def D5b (k s f p : V) : List (Str × V) := V6 "power" p (V6 "figures" f (V6 "sign" s (V6 "kind" k [])))
theorem e12 : ¬ (("kind" : Str) = "sign") := by decide +kernel
theorem e13 : ¬ (("kind" : Str) = "figures") := by decide +kernel
theorem e14 : ¬ (("kind" : Str) = "power") := by decide +kernel
theorem e23 : ¬ (("sign" : Str) = "figures") := by decide +kernel
theorem e24 : ¬ (("sign" : Str) = "power") := by decide +kernel
theorem e34 : ¬ (("figures" : Str) = "power") := by decide +kernel
theorem B1q (k s f p : V) : (D5b k s f p).lookup ("kind" : Str) = some k := by unfold D5b; rw [G8, if_neg e14, G8, if_neg e13, G8, if_neg e12, G8, if_pos rfl]
theorem D5e (k s f p : V) : (D5b k s f p).lookup ("sign" : Str) = some s := by unfold D5b; rw [G8, if_neg e24, G8, if_neg e23, G8, if_pos rfl]
theorem B6m (k s f p : V) : (D5b k s f p).lookup ("figures" : Str) = some f := by unfold D5b; rw [G8, if_neg e34, G8, if_pos rfl]
theorem A6z (k s f p : V) : (D5b k s f p).lookup ("power" : Str) = some p := by unfold D5b; rw [G8, if_pos rfl]
def A5a (CN : Addr) (H : Hp) (n : Addr) (k s f p : V) : Prop := ∃ dx, H n = some (.ins CN dx (D5b k s f p))
theorem A5a.same {CN : Addr} {H H' : Hp} {n : Addr} {k s f p : V} (h : A5a CN H n k s f p) (e : C8 H H') : A5a CN H' n k s f p := by
 obtain ⟨dx, z⟩ := h
 exact ⟨dx, e _ _ z⟩
theorem Num.ty {K : Frag} {mg : Str -> Option Value} {CN : Addr} (N : Num K mg CN) {H : Hp} {n : Addr} {k s f p : V} (h : A5a CN H n k s f p) : TyE K H (.ref n) (.ref CN) := by
 obtain ⟨dx, z⟩ := h
 exact .of (.ins z N.cl N.ca N.sn N.tk N.ob)
def G1c (CN : Addr) : Sp := fun vs H Q _ => ∃ (p dx : Addr) (k s f pw : V), vs = [.ref p, k, s, f, pw] /\ H p = some (.ins CN dx []) /\ ∀ H', H' p = some (.ins CN dx (D5b k s f pw)) -> (∀ b o, H b = some o -> b ≠ p -> H' b = some o) -> Q .non H'
theorem A0sx : C5 Q44 Q44 (A2 D9m) := scK
theorem A0hb {f CN : Addr} {fd : FuncData} (F : Fun K "__init__" "Number.__init__" D9m f fd) (N : Num K mg CN) : A8 P w K mg base CX0 1 f fd Q44 (G1c CN) := by
 refine F.ok A0sx (fun vs H Q E h => ?_) (fun cdv A outer s H vs Q E hr h => ?_)
 . obtain ⟨p, dx, a, b, c, d, rfl, _⟩ := h
   rfl
 obtain ⟨p, dx, a, b, c, d, rfl, hp, k⟩ := h
 refine ⟨_, A3 (Z7 (pv 0) (pv 1) rfl) (A3 (Z7 (pv 0) (pv 2) rfl) (A3 (Z7 (pv 0) (pv 3) rfl) (A6 (Z7 (pv 0) (pv 4) rfl)))), ?_⟩
 have l : ∀ (fs : List (Str × V)) (f : Str) (v : V) (n : Nat), fs.length <= n -> (V6 f v fs).length <= n + 1 := fun fs f v n h => Nat.le_trans (A0w f v fs) (Nat.succ_le_succ h)
 refine ⟨_, rfl, _, rfl, p, CN, dx, [], rfl, hp, N.cl, N.n1, (by show 0 < 1000; decide), ?_⟩
 refine ⟨_, rfl, _, rfl, p, CN, dx, _, rfl, A7, N.cl, N.n2, Nat.lt_of_le_of_lt (l _ _ _ 0 (Nat.le_refl _)) (by decide), ?_⟩
 refine ⟨_, rfl, _, rfl, p, CN, dx, _, rfl, A7, N.cl, N.n3, Nat.lt_of_le_of_lt (l _ _ _ 1 (l _ _ _ 0 (Nat.le_refl _))) (by decide), ?_⟩
 refine ⟨_, rfl, _, rfl, p, CN, dx, _, rfl, A7, N.cl, N.n4, Nat.lt_of_le_of_lt (l _ _ _ 2 (l _ _ _ 1 (l _ _ _ 0 (Nat.le_refl _)))) (by decide), ?_⟩
 refine k _ A7 fun b o e hb => ?_
 rw [G6 hb, G6 hb, G6 hb, G6 hb]
 exact e
structure C0n (P : Program) (w : World) (K : Frag) (mg : Str -> Option Value) (base : Heap) (CN fI : Addr) (fdI : FuncData) : Prop where
 m : Mk K CN fI
 g : A8 P w K mg base CX0 1 fI fdI Q44 (G1c CN)
 b : Binds K fdI Q44 []
theorem made {CN : Addr} {H : Hp} {Q : VK} {k s f p : V} (h : ∀ n H', H n = none -> C8 H H' -> A5a CN H' n k s f p -> Q (.ref n) H') :
   ∀ x dx, H x = none -> H dx = none -> dx ≠ x -> G1c CN (.ref x :: ([k, s, f, p] ++ [])) (upd (upd H dx (.own x)) x (.ins CN dx [])) (fun v H2 => v = .non /\ Q (.ref x) H2) E0 := by
 intro x dx nx nd ne
 refine ⟨x, dx, k, s, f, p, rfl, A7, fun H' e kp => ⟨rfl, h x H' nx (fun b o z => ?_) ⟨dx, e⟩⟩⟩
 refine kp b o ?_ (G7 z nx)
 rw [G6 (G7 z nx), G6 (G7 z nd)]
 exact z
def U0d (K : Frag) (CN : Addr) (H : Hp) (v : V) : Prop := ∃ t, TyE K H v t /\ kitOne K t (.ref CN) = some false
def B9z (K : Frag) (CN CB : Addr) : Sp := fun vs H Q E => ∃ v, vs = [v] /\ ((∃ n k s f p, v = .ref n /\ A5a CN H n k s f p /\ Q v H) \/ (U0d K CN H v /\ E (.ref CB) none H))
theorem A0jc : C5 ["thing"] ["thing"] (A2 A4q) := scK
theorem J4n {f CN CB : Addr} {fd : FuncData} (D : Def K mg "need_number" ["thing"] A4q f fd) (O : Own mg) (T : Kit K) (B : Err K mg "BadNumber" CB) (N : Num K mg CN) : A8 P w K mg base (CX1 P w) 1 f fd ["thing"] (B9z K CN CB) := by
 refine D.F.okE A0jc (fun vs H Q E h => ?_) (fun X cdv A outer s H vs Q E hX hr hx h => ?_)
 . obtain ⟨v, rfl, _⟩ := h
   rfl
 subst hX
 obtain ⟨v, rfl, h⟩ := h
 refine ⟨_, (A3 (G4 (A4g (Y2 (V6t O.isi (pv 0) (pcls N.g)))) (A6 (A2r (by rfl) B.g B.q PySem.F.excBase_ValueError hr.hd hx (A0 D5 A5))) D0) (A6 (B0 (pv 0)))), ?_⟩
 rcases h with ⟨n, a, b, c, d, rfl, hn, k⟩ | ⟨⟨t, ty, k1⟩, k⟩
 . exact ⟨_, rfl, _, _, _, _, true, rfl, rfl, N.ty hn, N.self, _, rfl, V3 ⟨_, rfl, k⟩⟩
 exact ⟨_, rfl, _, _, _, t, false, rfl, rfl, ty, k1, _, rfl, Z5 ⟨Nat.le_of_lt (A0y (by show 1 <= 1000; decide)), k⟩⟩
def Y6b (K : Frag) (CN CB : Addr) : Sp := fun vs H Q E => ∃ v, vs = [v] /\ ((∃ n k s f p, v = .ref n /\ A5a CN H n k s f p /\ ∀ t, H t = none -> Q (.ref t) (upd H t (.tup [k, s, f, p]))) \/ (U0d K CN H v /\ E (.ref CB) none H))
theorem A0tp : C5 ["number"] ["number"] (A2 C9b) := scK
theorem A0gp {f f1 CN CB : Addr} {fd fd1 : FuncData} (D : Def K mg "told" ["number"] C9b f fd) (D_need_number : Def K mg "need_number" ["thing"] A4q f1 fd1) (O : Own mg) (T : Kit K) (B : Err K mg "BadNumber" CB) (N : Num K mg CN) :
   A8 P w K mg base (CX1 P w) 2 f fd ["number"] (Y6b K CN CB) := by
 have G_need_number := J4n (P := P) (w := w) (base := base) D_need_number O T B N
 refine D.F.okE A0tp (fun vs H Q E h => ?_) (fun X cdv A outer s H vs Q E hX hr hx h => ?_)
 . obtain ⟨v, rfl, _⟩ := h
   rfl
 subst hX
 obtain ⟨v, rfl, h⟩ := h
 refine ⟨_, (A3 (V8 (C9 D_need_number G_need_number hr hx (A0 (pv 0) A5))) (A6 (B0 (U6 (A0 (D6 (pv 0) rfl) (A0 (D6 (pv 0) rfl) (A0 (D6 (pv 0) rfl) (A0 (D6 (pv 0) rfl) A5)))))))), ?_⟩
 rcases h with ⟨n, a, b, c, d, rfl, hn, k⟩ | ⟨bad, k⟩
 . refine ⟨_, rfl, _, rfl, .inl ⟨n, a, b, c, d, rfl, hn, ?_⟩⟩
   obtain ⟨dx, e⟩ := hn
   exact ⟨_, rfl, n, CN, dx, _, _, rfl, e, N.cl, N.n1, B1q _ _ _ _, _, rfl, n, CN, dx, _, _, rfl, e, N.cl, N.n2, D5e _ _ _ _, _, rfl, n, CN, dx, _, _, rfl, e, N.cl, N.n3, B6m _ _ _ _, _, rfl, n, CN, dx, _, _, rfl, e, N.cl, N.n4, A6z _ _ _ _,
     Nat.le_of_lt (A0y (by show 4 <= 1000; decide)), k⟩
 exact ⟨_, rfl, _, rfl, .inr ⟨bad, k⟩⟩
abbrev B7y : Stmt := (top 19)
abbrev G2e : Stmt := (top 20)
abbrev Z0 : Stmt := (top 21)
def V3d (K : Frag) (CN CB : Addr) : Sp := fun vs H Q E => ∃ x y z, vs = [x, y, z] /\
 ((B6s 0 1 x /\ B6s 0 (10 ^ 60 - 1) y /\ B6s (-200) 200 z /\ ∀ n H', H n = none -> C8 H H' -> A5a CN H' n (.str "plain") x y z -> Q (.ref n) H') \/
  ((D5c K H 0 1 x \/ (B6s 0 1 x /\ (D5c K H 0 (10 ^ 60 - 1) y \/ (B6s 0 (10 ^ 60 - 1) y /\ D5c K H (-200) 200 z)))) /\ E (.ref CB) none H))
theorem A0gm : C5 Q32 Q32 (A2 B7y) := scK
theorem b01 : C0a 0 1 := by unfold C0a; decide +kernel
theorem b60 : C0a 0 (10 ^ 60 - 1) := by unfold C0a; decide +kernel
theorem b200 : C0a (-200) 200 := by unfold C0a; decide +kernel
theorem Y7y {f f1 f2 fI CN CB : Addr} {fd fd1 fd2 fdI : FuncData} (D : Def K mg "plain" Q32 B7y f fd) (D_need_between : Def K mg "need_between" Q6 A2p f1 fd1) (D2 : Def K mg "is_between" Q6 C9s f2 fd2)
   (O : Own mg) (T : Kit K) (B : Err K mg "BadNumber" CB) (N : Num K mg CN) (M : C0n P w K mg base CN fI fdI) : A8 P w K mg base (CX1 P w) 3 f fd Q32 (V3d K CN CB) := by
 have G_need_between := C8y (P := P) (w := w) (base := base) D_need_between D2 O T B
 refine D.F.okE A0gm (fun vs H Q E h => ?_) (fun X cdv A outer s H vs Q E hX hr hx h => ?_)
 . obtain ⟨x, y, z, rfl, _⟩ := h
   rfl
 subst hX
 obtain ⟨x, y, z, rfl, h⟩ := h
 refine ⟨_, (A3 (V8 (C9 D_need_between G_need_between hr hx (A0 (pv 0) (A0 A1 (A0 A1 A5))))) (A3 (V8 (C9 D_need_between G_need_between hr hx (A0 (pv 1) (A0 A1 (A0 (A9 J8 (A9 Y6n A1 A1) A1) A5))))) (A3 (V8 (C9 D_need_between G_need_between hr hx (A0 (pv 2) (A0 (B1f A4h A1) (A0 A1 A5))))) (A6 (B0 (G1z M.m M.g hr rfl N.g M.b .nil Y4j (A0 D5 (A0 (pv 0) (A0 (pv 1) (A0 (pv 2) A5)))))))))), ?_⟩
 have pw : CPow 10 60 := ⟨by decide, by decide, by decide⟩
 rcases h with ⟨⟨i1, rfl, l1, u1⟩, ⟨i2, rfl, l2, u2⟩, ⟨i3, rfl, l3, u3⟩, k⟩ | ⟨bad, k⟩
 . refine ⟨_, rfl, _, _, _, rfl, b01, .inl ⟨⟨i1, rfl, l1, u1⟩, ?_⟩⟩
   refine ⟨_, rfl, _, _, rfl, rfl, pw, _, _, rfl, rfl, _, _, _, rfl, b60, .inl ⟨⟨i2, rfl, l2, u2⟩, ?_⟩⟩
   refine ⟨_, rfl, _, rfl, _, _, _, rfl, b200, .inl ⟨⟨i3, rfl, l3, u3⟩, ?_⟩⟩
   exact ⟨_, rfl, _, rfl, _, rfl, made k⟩
 rcases bad with bad | ⟨⟨i1, rfl, l1, u1⟩, bad | ⟨⟨i2, rfl, l2, u2⟩, bad⟩⟩
 . exact ⟨_, rfl, _, _, _, rfl, b01, .inr ⟨bad, k⟩⟩
 . refine ⟨_, rfl, _, _, _, rfl, b01, .inl ⟨⟨i1, rfl, l1, u1⟩, ?_⟩⟩
   exact ⟨_, rfl, _, _, rfl, rfl, pw, _, _, rfl, rfl, _, _, _, rfl, b60, .inr ⟨bad, k⟩⟩
 refine ⟨_, rfl, _, _, _, rfl, b01, .inl ⟨⟨i1, rfl, l1, u1⟩, ?_⟩⟩
 refine ⟨_, rfl, _, _, rfl, rfl, pw, _, _, rfl, rfl, _, _, _, rfl, b60, .inl ⟨⟨i2, rfl, l2, u2⟩, ?_⟩⟩
 exact ⟨_, rfl, _, rfl, _, _, _, rfl, b200, .inr ⟨bad, k⟩⟩
def V4c (K : Frag) (CN CB : Addr) : Sp := fun vs H Q E => ∃ x, vs = [x] /\ ((B6s 0 1 x /\ ∀ n H', H n = none -> C8 H H' -> A5a CN H' n (.str "end") x (.int 0) (.int 0) -> Q (.ref n) H') \/ (D5c K H 0 1 x /\ E (.ref CB) none H))
theorem A0yf : C5 ["sign"] ["sign"] (A2 G2e) := scK
theorem A0tu {f f1 f2 fI CN CB : Addr} {fd fd1 fd2 fdI : FuncData} (D : Def K mg "end" ["sign"] G2e f fd) (D_need_between : Def K mg "need_between" Q6 A2p f1 fd1) (D2 : Def K mg "is_between" Q6 C9s f2 fd2)
   (O : Own mg) (T : Kit K) (B : Err K mg "BadNumber" CB) (N : Num K mg CN) (M : C0n P w K mg base CN fI fdI) : A8 P w K mg base (CX1 P w) 3 f fd ["sign"] (V4c K CN CB) := by
 have G_need_between := C8y (P := P) (w := w) (base := base) D_need_between D2 O T B
 refine D.F.okE A0yf (fun vs H Q E h => ?_) (fun X cdv A outer s H vs Q E hX hr hx h => ?_)
 . obtain ⟨x, rfl, _⟩ := h
   rfl
 subst hX
 obtain ⟨x, rfl, h⟩ := h
 refine ⟨_, (A3 (V8 (C9 D_need_between G_need_between hr hx (A0 (pv 0) (A0 A1 (A0 A1 A5))))) (A6 (B0 (G1z M.m M.g hr rfl N.g M.b .nil Y4j (A0 D5 (A0 (pv 0) (A0 A1 (A0 A1 A5)))))))), ?_⟩
 rcases h with ⟨⟨i1, rfl, l1, u1⟩, k⟩ | ⟨bad, k⟩
 . refine ⟨_, rfl, _, _, _, rfl, b01, .inl ⟨⟨i1, rfl, l1, u1⟩, ?_⟩⟩
   exact ⟨_, rfl, made k⟩
 exact ⟨_, rfl, _, _, _, rfl, b01, .inr ⟨bad, k⟩⟩
def A1v (CN : Addr) : Sp := fun vs H Q _ => vs = [] /\ ∀ n H', H n = none -> C8 H H' -> A5a CN H' n (.str "none") (.int 0) (.int 0) (.int 0) -> Q (.ref n) H'
theorem V5x : C5 [] [] (A2 Z0) := scK
theorem U0b {f fI CN : Addr} {fd fdI : FuncData} (D : Def K mg "nothing" [] Z0 f fd) (N : Num K mg CN) (M : C0n P w K mg base CN fI fdI) : A8 P w K mg base (CX1 P w) 3 f fd [] (A1v CN) := by
 refine D.F.okE V5x (fun vs H Q E h => ?_) (fun X cdv A outer s H vs Q E hX hr hx h => ?_)
 . obtain ⟨rfl, _⟩ := h
   rfl
 subst hX
 obtain ⟨rfl, k⟩ := h
 refine ⟨_, (A6 (B0 (G1z M.m M.g hr rfl N.g M.b .nil Y4j (A0 D5 (A0 A1 (A0 A1 (A0 A1 A5))))))), ?_⟩
 exact made k
abbrev C8f : Stmt := (top 23)
def Y4u (CN : Addr) : Sp := fun vs H Q _ => ∃ n k s f p, vs = [.ref n] /\ A5a CN H n k s (.int f) (.int p) /\ f.natAbs < 2 ^ 300 /\ Q (.int (p + ((Str.ofString (toString f)).length : Nat) - 1)) H
theorem A0tv : C5 ["number"] ["number"] (A2 C8f) := scK
theorem A0gc {f CN : Addr} {fd : FuncData} (D : Def K mg "lead_of" ["number"] C8f f fd) (O : Own mg) (N : Num K mg CN) : A8 P w K mg base (CX1 P w) 1 f fd ["number"] (Y4u CN) := by
 refine D.F.okE A0tv (fun vs H Q E h => ?_) (fun X cdv A outer s H vs Q E hX hr hx h => ?_)
 . obtain ⟨n, a, b, c, d, rfl, _⟩ := h
   rfl
 subst hX
 obtain ⟨n, a, b, fg, pw, rfl, ⟨dx, e⟩, hf, k⟩ := h
 refine ⟨_, (A6 (B0 (A9 J8 (A9 J4 (D6 (pv 0) rfl) (J3 G1r (by rfl) O.len_ PySem.boot_len (A0 (A0k G2k (by rfl) O.str_ boot_str (A0 (D6 (pv 0) rfl) A5)) A5))) A1))), ?_⟩
 have lg : fg.natAbs.log2 < 1920 := Nat.lt_trans (A0s hf (by decide)) (by decide)
 exact ⟨_, rfl, n, CN, dx, _, _, rfl, e, N.cl, N.n4, A6z _ _ _ _, _, rfl, n, CN, dx, _, _, rfl, e, N.cl, N.n3, B6m _ _ _ _, _, rfl, lg, _, rfl, int_text_fits lg, _, _, rfl, rfl, _, _, rfl, rfl, k⟩
abbrev Z6 : Stmt := (top 2)
abbrev A0q : Stmt := (top 3)
theorem B9y {x k : Nat} (h : x < 2 ^ k) (hk : k <= 1048576) : Builtin.Int.intBits (x : Int) <= 2 ^ 20 := by
 unfold Builtin.Int.intBits
 split
 . exact Nat.zero_le _
 have z : (x : Int).natAbs ≠ 0 := by
   intro z
   rename_i hz
   exact hz (by simpa using z)
 have : (x : Int).natAbs.log2 < k := (Nat.log2_lt z).mpr h
 have e : (2 : Nat) ^ 20 = 1048576 := by decide
 omega
theorem C9u {b s j n : Nat} (hb : b < 2 ^ s) (hj : j <= n) (hn : n * s < 1048576) : Builtin.Int.intBits ((b ^ j : Nat) : Int) <= 2 ^ 20 := by
 refine B9y (k := n * s + 1) ?_ hn
 have a : b ^ j <= (2 ^ s) ^ j := Nat.pow_le_pow_left (Nat.le_of_lt hb) j
 have c : (2 ^ s) ^ j <= 2 ^ (n * s) := by
   rw [<- Nat.pow_mul, Nat.mul_comm n s]
   exact Nat.pow_le_pow_right (by decide) (Nat.mul_le_mul_left s hj)
 have d : 2 ^ (n * s) < 2 ^ (n * s + 1) := Nat.pow_lt_pow_right (by decide) (by omega)
 exact Nat.lt_of_le_of_lt a (Nat.lt_of_le_of_lt c d)
theorem C1r {b s i j n : Nat} (hb : b < 2 ^ s) (hi : i <= n) (hj : j <= n) (hn : n * s < 1048576) : IntMulOk ((b ^ i : Nat) : Int) ((b ^ j : Nat) : Int) := IntMulOk.of_bits (C9u hb hi hn) (C9u hb hj hn)
def B1u : Sp := fun vs H Q _ => ∃ b n s : Nat, vs = [.int (b : Int), .int (n : Int)] /\ b < 2 ^ s /\ n * s < 1048576 /\ Q (.int ((b ^ n : Nat) : Int)) H
theorem scProductOf : C5 ["whole", "count", "product"] Q21 (A2 Z6) := scK
theorem B9w {f : Addr} {fd : FuncData} (D : Def K mg "product_of" Q21 Z6 f fd) : A8 P w K mg base (CX1 P w) 1 f fd Q21 B1u := by
 refine A8.up (D.F.ok scProductOf (fun vs H Q E h => ?_) (fun cdv A outer s H vs Q E hr h => ?_))
 . obtain ⟨b, n, z, rfl, _⟩ := h
   rfl
 obtain ⟨b, n, z, rfl, hb, hn, k⟩ := h
 refine ⟨_, (A3 (D3 (i := 2) scProductOf.nd rfl (Or.inl rfl) A1) (A3 (A2q PassesOwn.never (C7 A6u (pv 1) A1 (C6 _)) (A3 (G4 (C7 G2 (A9 J0 (pv 1) A1) A1 (C6 _)) (A6 (D3 (i := 2) scProductOf.nd rfl (Or.inl rfl) (A9 G5 (pv 2) (pv 0)))) D0) (A3 (D3 (i := 0) scProductOf.nd rfl (Or.inl rfl) (A9 G5 (pv 0) (pv 0))) (A6 (D3 (i := 1) scProductOf.nd rfl (Or.inl rfl) (A9 D8 (pv 1) A1)))))) (A6 (B0 (pv 2))))), ?_⟩
 have d2 : (0 : Int) < 2 /\ (2 : Int).natAbs.log2 < 9000 := ⟨by decide, by decide +kernel⟩
 refine A0z (fun σ H2 => H2 = H /\ ∃ i m c : Nat, m + i * c = n /\ σ = [some (.int ((b ^ i : Nat) : Int)), some (.int (c : Int)), some (.int ((b ^ m : Nat) : Int))]) (fun σ _ => match σ with | [_, some (.int c), _] => c.toNat | _ => 0) ?_ ?_ ?_
 . exact ⟨rfl, 1, 0, n, by omega, by rw [Nat.pow_one]; rfl⟩
 . rintro σ H2 ⟨rfl, i, m, c, hc, rfl⟩
   refine ⟨_, rfl, _, _, rfl, rfl, _, rfl, J1 (fun h0 => ?_) (fun h0 => ?_)⟩
   . have c1 : 1 <= c := by
       have : (0 : Int) < c := h0
       omega
     have hi : i <= n := Nat.le_trans (Nat.le_mul_of_pos_right i c1) (by omega)
     have hm : m <= n := by omega
     have sq : ((b ^ i : Nat) : Int) * ((b ^ i : Nat) : Int) = ((b ^ (2 * i) : Nat) : Int) := by rw [Nat.two_mul, Nat.pow_add]; rfl
     have lt : ((c : Int) / 2).toNat < (c : Int).toNat := by omega
     refine ⟨_, rfl, _, _, rfl, rfl, d2.1, rfl, _, rfl, J1 (fun ho => ?_) (fun he => ?_)⟩
     . have ho : (c : Int) % 2 = 1 := by injection ho
       have mu : ((b ^ m : Nat) : Int) * ((b ^ i : Nat) : Int) = ((b ^ (m + i) : Nat) : Int) := by rw [Nat.pow_add]; rfl
       refine ⟨_, rfl, _, rfl, _, _, rfl, rfl, C1r hb hm hi hn, _, rfl, _, rfl, _, _, rfl, rfl, C1r hb hi hi hn, _, rfl, _, _, rfl, rfl, d2, ⟨rfl, 2 * i, m + i, c / 2, ?_, ?_⟩, lt⟩
       . have e : i * c = i * (2 * (c / 2) + 1) := congrArg (i * ·) (by omega)
         rw [Nat.mul_add, Nat.mul_one, <- Nat.mul_assoc, Nat.mul_comm i 2] at e
         omega
       . show [some (V.int (((b ^ i : Nat) : Int) * ((b ^ i : Nat) : Int))), some (V.int ((c : Int) / 2)), some (V.int (((b ^ m : Nat) : Int) * ((b ^ i : Nat) : Int)))] = _
         rw [sq, mu]
         rfl
     . have he : ¬ (c : Int) % 2 = 1 := fun z => he (congrArg V.int z)
       refine ⟨_, rfl, _, rfl, _, _, rfl, rfl, C1r hb hi hi hn, _, rfl, _, _, rfl, rfl, d2, ⟨rfl, 2 * i, m, c / 2, ?_, ?_⟩, lt⟩
       . have e : i * c = i * (2 * (c / 2)) := congrArg (i * ·) (by omega)
         rw [<- Nat.mul_assoc, Nat.mul_comm i 2] at e
         omega
       . show [some (V.int (((b ^ i : Nat) : Int) * ((b ^ i : Nat) : Int))), some (V.int ((c : Int) / 2)), some (V.int ((b ^ m : Nat) : Int))] = _
         rw [sq]
         rfl
   . have c0 : c = 0 := by
       have : ¬ (0 : Int) < c := h0
       omega
     subst c0
     have hm : m = n := by omega
     subst hm
     exact ⟨_, rfl, k⟩
 rintro σ H2 Q1 Q2 hQ ⟨v, e, i, j, e1, e2, b, e3, q⟩
 exact ⟨v, e, i, j, e1, e2, b, e3, hQ _ _ q⟩
def A2h : Sp := fun vs H Q _ => ∃ n : Nat, vs = [.int (n : Int)] /\ n <= 4000 /\ Q (.int ((10 ^ n : Nat) : Int)) H
theorem A0gy : C5 ["count"] ["count"] (A2 A0q) := scK
theorem Y7m {f f1 : Addr} {fd fd1 : FuncData} (D : Def K mg "ten_to" ["count"] A0q f fd) (D_product_of : Def K mg "product_of" Q21 Z6 f1 fd1) (G_product_of : A8 P w K mg base (CX1 P w) 1 f1 fd1 Q21 B1u) : A8 P w K mg base (CX1 P w) 2 f fd ["count"] A2h := by
 refine A8.up (D.F.ok A0gy (fun vs H Q E h => ?_) (fun cdv A outer s H vs Q E hr h => ?_))
 . obtain ⟨n, rfl, _⟩ := h
   rfl
 obtain ⟨n, rfl, hn, k⟩ := h
 have hx : U1 (A2a CX0 P w K mg base ["count"] "ten_to" (A2 A0q) f cdv A outer s H E).nox EKF := Y1
 refine ⟨_, (A6 (B0 (C9 D_product_of G_product_of hr hx (A0 A1 (A0 (pv 0) A5))))), ?_⟩
 exact ⟨_, rfl, 10, n, 4, rfl, by decide, by omega, k⟩
inductive Kd where
 | plain | end_ | none
def Kd.str : Kd -> Str
 | .plain => "plain"
 | .end_ => "end"
 | .none => "none"
theorem Kd.str_inj {a b : Kd} (h : a.str = b.str) : a = b := by
 cases a <;> cases b <;> first | rfl | exact absurd h (by decide +kernel)
structure Nm where
 k : Kd
 s : Int
 f : Int
 p : Int
def Nm.vs (x : Nm) : List V := [.str x.k.str, .int x.s, .int x.f, .int x.p]
structure Nm.Ok (x : Nm) : Prop where
 s0 : 0 <= x.s
 s1 : x.s <= 1
 f0 : 0 <= x.f
 f1 : x.f <= 10 ^ 60 - 1
 p0 : -200 <= x.p
 p1 : x.p <= 200
def V1 (CN : Addr) (H : Hp) (n : Addr) (x : Nm) : Prop := A5a CN H n (.str x.k.str) (.int x.s) (.int x.f) (.int x.p)
theorem V1.same {CN : Addr} {H H' : Hp} {n : Addr} {x : Nm} (h : V1 CN H n x) (e : C8 H H') : V1 CN H' n x := A5a.same h e
theorem V1.exc {CN : Addr} {H H' : Hp} {n D : Addr} {l : List V} {x : Nm} (h : V1 CN H n x) (hD : H D = some (.lst l)) (e : Exc1 D H H') : V1 CN H' n x := by
 obtain ⟨dx, z⟩ := h
 exact ⟨dx, e _ _ z fun q => by rw [q, hD] at z; cases z⟩
structure Y8j (CN : Addr) (H : Hp) (l : Addr) (ns : List (Addr × Nm)) : Prop where
 l : H l = some (.lst (ns.map fun p => V.ref p.1))
 n : ∀ p ∈ ns, V1 CN H p.1 p.2
def A4 (n : Int) : Int := ((10 ^ n.toNat : Nat) : Int)
theorem D4 (n : Int) : 0 < A4 n := Int.natCast_pos.mpr (Nat.pow_pos (by decide))
theorem neS {a b : Kd} (h : ¬ V.str a.str = V.str b.str) : a ≠ b := fun q => h (by rw [q])
theorem eqS {a b : Kd} (h : V.str a.str = V.str b.str) : a = b := Kd.str_inj (by injection h)
theorem D9n {d : Int} (h : d <= 4000) : Builtin.Int.intBits (A4 d) <= 2 ^ 20 := C9u (b := 10) (s := 4) (n := 4000) (by decide) (by omega) (by decide)
def Z4 (left low : Int) : Int := (if decide (0 < left) = true then 1 else 0) + (if decide (low <= 2 * left) = true then 1 else 0) + (if decide (low < 2 * left) = true then 1 else 0)
theorem maxT (s : Int) : (if (0 : Int) > s then 0 else s) = ((s.toNat : Nat) : Int) := by
 by_cases h : (0 : Int) > s
 . rw [if_pos h]; omega
 rw [if_neg h]; omega
def A0x (t b s : Int) : Prop := b * A4 (-s) <= t * A4 s /\ t * A4 s < 10 * (b * A4 (-s))
theorem Z8 {s r : Int} (h : s <= r) : A4 r * A4 (-s) = A4 s * A4 (-r) * A4 (r - s) := by
 unfold A4
 rw [<- Int.natCast_mul, <- Int.natCast_mul, <- Int.natCast_mul, <- Nat.pow_add, <- Nat.pow_add, <- Nat.pow_add]
 congr 2
 omega
theorem V4g {d : Int} (h : 1 <= d) : 10 <= A4 d := by
 unfold A4
 have : 10 ^ 1 <= 10 ^ d.toNat := Nat.pow_le_pow_right (by decide) (by omega)
 omega
theorem V7 {a b : Int} (h : a <= b) : A4 a <= A4 b := by
 unfold A4
 exact Int.ofNat_le.mpr (Nat.pow_le_pow_right (by decide) (by omega))
theorem V4a {t b s r : Int} (hb : 0 < b) (h1 : A0x t b s) (h2 : A0x t b r) : r <= s := by
 apply Classical.byContradiction
 intro h
 have hs : s <= r := by omega
 have c := Z8 hs
 have g := V4g (d := r - s) (by omega)
 have p1 := D4 (-s)
 have p2 := D4 (-r)
 have l1 : 0 < b * A4 (-s) := Int.mul_pos hb p1
 have l2 : 0 < b * A4 (-r) := Int.mul_pos hb p2
 have e : t * A4 r * (b * A4 (-s)) = t * A4 s * (b * A4 (-r)) * A4 (r - s) := by
   calc t * A4 r * (b * A4 (-s)) = t * b * (A4 r * A4 (-s)) := by ac_rfl
     _ = t * b * (A4 s * A4 (-r) * A4 (r - s)) := by rw [c]
     _ = t * A4 s * (b * A4 (-r)) * A4 (r - s) := by ac_rfl
 have a1 : t * A4 r * (b * A4 (-s)) < 10 * (b * A4 (-r)) * (b * A4 (-s)) := Int.mul_lt_mul_of_pos_right h2.2 l1
 have hp : 0 < t * A4 s := Int.lt_of_lt_of_le l1 h1.1
 have a2 : t * A4 s * (b * A4 (-r)) * 10 <= t * A4 s * (b * A4 (-r)) * A4 (r - s) := Int.mul_le_mul_of_nonneg_left g (Int.le_of_lt (Int.mul_pos hp l2))
 have a3 : b * A4 (-s) * (b * A4 (-r)) <= t * A4 s * (b * A4 (-r)) := Int.mul_le_mul_of_nonneg_right h1.1 (Int.le_of_lt l2)
 have e2 : 10 * (b * A4 (-r)) * (b * A4 (-s)) = b * A4 (-s) * (b * A4 (-r)) * 10 := by ac_rfl
 have a4 : b * A4 (-s) * (b * A4 (-r)) * 10 <= t * A4 s * (b * A4 (-r)) * 10 := Int.mul_le_mul_of_nonneg_right a3 (by decide)
 rw [e] at a1
 rw [e2] at a1
 exact absurd (Int.lt_of_lt_of_le a1 (Int.le_trans a4 a2)) (Int.lt_irrefl _)
theorem A0gj {t b s r : Int} (hb : 0 < b) (h1 : A0x t b s) (h2 : A0x t b r) : s = r := Int.le_antisymm (V4a hb h2 h1) (V4a hb h1 h2)
def Sz (t : Int) : Prop := 1 <= t /\ t < A4 1000
theorem V3c (n : Nat) : 10 ^ n <= 2 ^ (4 * n) := by
 rw [Nat.pow_mul]
 exact Nat.pow_le_pow_left (by decide) n
theorem J4b (n : Nat) : 10 ^ (3 * n) <= 2 ^ (10 * n) := by
 rw [Nat.pow_mul, Nat.pow_mul]
 exact Nat.pow_le_pow_left (by decide) n
theorem Sz.nat {t : Int} (h : Sz t) : ∃ n : Nat, t = (n : Int) /\ 1 <= n /\ n < 10 ^ 1000 := by
 obtain ⟨n, rfl⟩ := Int.eq_ofNat_of_zero_le (show 0 <= t by have := h.1; omega)
 exact ⟨n, rfl, Int.ofNat_le.mp h.1, Int.ofNat_lt.mp h.2⟩
theorem G1s {t s : Int} (ht : Sz t) (h : s <= 1500) : ∃ n : Nat, t * A4 s = (n : Int) /\ n < 10 ^ 2502 := by
 obtain ⟨n, rfl, _, hn⟩ := ht.nat
 refine ⟨n * 10 ^ s.toNat, rfl, ?_⟩
 have a : 10 ^ s.toNat <= 10 ^ 1502 := Nat.pow_le_pow_right (by decide) (by omega)
 calc n * 10 ^ s.toNat <= n * 10 ^ 1502 := Nat.mul_le_mul_left n a
   _ < 10 ^ 1000 * 10 ^ 1502 := Nat.mul_lt_mul_of_pos_right hn (Nat.pow_pos (by decide))
   _ = 10 ^ 2502 := by rw [<- Nat.pow_add]
theorem J5a {n : Nat} (h : n < 10 ^ 2502) : Builtin.Int.intBits (n : Int) <= 2 ^ 20 := B9y (k := 4 * 2502) (Nat.lt_of_lt_of_le h (V3c 2502)) (by decide)
theorem C7n {t : Int} (h : Sz t) : Builtin.Int.intBits t <= 2 ^ 20 := by
 obtain ⟨n, rfl, _, hn⟩ := h.nat
 exact B9y (k := 4 * 1000) (Nat.lt_of_lt_of_le hn (V3c 1000)) (by decide)
theorem B1m {t s : Int} (ht : Sz t) (h : s <= 1500) : IntMulOk t (A4 s) := IntMulOk.of_bits (C7n ht) (D9n (by omega))
theorem J9y {b s : Int} (hb : Sz b) (h : s <= 1500) : (b * A4 s).natAbs.log2 < 9000 := by
 obtain ⟨n, e, hn⟩ := G1s hb h
 rw [e]
 have : n < 2 ^ 8340 := Nat.lt_of_lt_of_le hn (J4b 834)
 exact Nat.lt_trans (A0s (i := (n : Int)) (k := 8340) (by rw [Int.natAbs_natCast]; exact this) (by decide)) (by decide)
def whI (t b s : Int) : Int := t * A4 s / (b * A4 (-s))
def ptI (t b s : Int) : Int := Z4 (t * A4 s - whI t b s * (b * A4 (-s))) (b * A4 (-s))
theorem V4h {t b s : Int} (hb : 0 < b) : 0 <= t * A4 s - whI t b s * (b * A4 (-s)) /\ t * A4 s - whI t b s * (b * A4 (-s)) < b * A4 (-s) := by
 have l := Int.mul_pos hb (D4 (-s))
 have e := Int.emod_add_mul_ediv (t * A4 s) (b * A4 (-s))
 have a := Int.emod_nonneg (t * A4 s) (Int.ne_of_gt l)
 have c := Int.emod_lt_of_pos (t * A4 s) l
 have e2 : whI t b s * (b * A4 (-s)) = b * A4 (-s) * (t * A4 s / (b * A4 (-s))) := Int.mul_comm _ _
 omega
theorem A0zu {t b s : Int} (ht : Sz t) (hb : Sz b) (h1 : -1500 <= s) (h2 : s <= 1500) : IntMulOk (whI t b s) (b * A4 (-s)) := by
 obtain ⟨n, e, hn⟩ := G1s hb (s := -s) (by omega)
 obtain ⟨k, e', hk⟩ := G1s ht h2
 unfold whI
 rw [e, e']
 exact IntMulOk.of_bits (J5a (Nat.lt_of_le_of_lt (Nat.div_le_self k n) hk)) (J5a hn)
abbrev A7v : Stmt := (J2 (top 6) 0)
structure G2r (K : Frag) (mg : Str -> Option Value) (CR CE : Addr) : Prop where
 g : mg "Ratio" = some (.ref CR)
 ge : mg "Exact" = some (.ref CE)
 cl : Cls K CR
 n_top : Y6 K CR "top"
 n_bottom : Y6 K CR "bottom"
 n_power : Y6 K CR "power"
 ca : findIn K (.ref CR) "__class__" = some (some (.builtin "object.__class__"))
 sn : specialIn K (.builtin "object.__class__") "__get__" = some (some (.builtin "getset_descriptor.__get__"))
 tk : takesIn K (.builtin "object.__class__") = some true
 ob : mroIn K CR (.type "object") = some true
 up : kitOne K (.ref CR) (.ref CE) = some true
def G1v (t b n : V) : List (Str × V) := V6 "power" n (V6 "bottom" b (V6 "top" t []))
theorem C8n (t b n : V) (x : Str) : (G1v t b n).lookup x = if x = "power" then some n else if x = "bottom" then some b else if x = "top" then some t else none := by
 unfold G1v
 rw [G8, G8, G8]
 rfl
theorem V2w (t b n : V) : (G1v t b n).lookup ("top" : Str) = some t := by rw [C8n, if_neg (by decide +kernel), if_neg (by decide +kernel), if_pos rfl]
theorem D0f (t b n : V) : (G1v t b n).lookup ("bottom" : Str) = some b := by rw [C8n, if_neg (by decide +kernel), if_pos rfl]
theorem D9x (t b n : V) : (G1v t b n).lookup ("power" : Str) = some n := by rw [C8n, if_pos rfl]
theorem G1p (t b n : V) : (G1v t b n).lookup ("first" : Str) = none := by rw [C8n, if_neg (by decide +kernel), if_neg (by decide +kernel), if_neg (by decide +kernel)]
theorem D9g (t b n : V) : (G1v t b n).lookup ("at" : Str) = none := by rw [C8n, if_neg (by decide +kernel), if_neg (by decide +kernel), if_neg (by decide +kernel)]
def B1z (CR : Addr) (H : Hp) (x : Addr) (t b n : Int) : Prop := ∃ dx, H x = some (.ins CR dx (G1v (.int t) (.int b) (.int n)))
theorem B1z.same {CR : Addr} {H H' : Hp} {x : Addr} {t b n : Int} (h : B1z CR H x t b n) (s : C8 H H') : B1z CR H' x t b n := by
 obtain ⟨dx, e⟩ := h
 exact ⟨dx, s _ _ e⟩
def G1e (CR : Addr) : Sp := fun vs H Q _ => ∃ (p dx : Addr) (t b n : V), vs = [.ref p, t, b, n] /\ H p = some (.ins CR dx []) /\ ∀ H', H' p = some (.ins CR dx (G1v t b n)) -> Exc p H H' -> Q .non H'
theorem A0hg : C5 Q22 Q22 (A2 A7v) := scK
theorem Y8e {f CR CE : Addr} {fd : FuncData} {dV : Value} (F : V8a K "__init__" "Ratio.__init__" A7v dV f fd) (R : G2r K mg CR CE) : A8 P w K mg base (CX1 P w) 1 f fd Q22 (G1e CR) := by
 refine F.okE A0hg (fun vs H Q E h => ?_) (fun X cdv A outer s H vs Q E hX hr hx h => ?_)
 . obtain ⟨p, dx, a, b, c, rfl, _⟩ := h
   rfl
 subst hX
 obtain ⟨p, dx, a, b, c, rfl, hp, k⟩ := h
 refine ⟨_, (A3 (Z7 (pv 0) (pv 1) rfl) (A3 (Z7 (pv 0) (pv 2) rfl) (A6 (Z7 (pv 0) (pv 3) rfl)))), ?_⟩
 have l : ∀ (fs : List (Str × V)) (f : Str) (v : V) (n : Nat), fs.length <= n -> (V6 f v fs).length <= n + 1 := fun fs f v n h => Nat.le_trans (A0w f v fs) (Nat.succ_le_succ h)
 refine ⟨_, rfl, _, rfl, p, CR, dx, [], rfl, hp, R.cl, R.n_top, (by show 0 < 1000; decide), ?_⟩
 refine ⟨_, rfl, _, rfl, p, CR, dx, _, rfl, A7, R.cl, R.n_bottom, Nat.lt_of_le_of_lt (l _ _ _ 0 (Nat.le_refl _)) (by decide), ?_⟩
 refine ⟨_, rfl, _, rfl, p, CR, dx, _, rfl, A7, R.cl, R.n_power, Nat.lt_of_le_of_lt (l _ _ _ 1 (l _ _ _ 0 (Nat.le_refl _))) (by decide), ?_⟩
 refine k _ A7 fun b o e hb => ?_
 rw [G6 hb, G6 hb, G6 hb]
 exact e
def A6q (CR : Addr) : Sp := fun vs H Q _ => ∃ x t b n, vs = [.ref x] /\ B1z CR H x t b n /\ Sz t /\ Sz b /\ ∀ f H', C8 H H' -> A0x t b (n - f) -> Q (.int f) H'
def C9n (CR : Addr) : Sp := fun vs H Q _ => ∃ x t b n p, vs = [.ref x, .int p] /\ B1z CR H x t b n /\ Sz t /\ Sz b /\ -1500 <= n - p /\ n - p <= 1500 /\
 ∀ q H', C8 H H' -> H q = none -> H' q = some (.tup [.int (whI t b (n - p)), .int (ptI t b (n - p))]) -> Q (.ref q) H'
structure J5n (P : Program) (w : World) (K : Frag) (mg : Str -> Option Value) (base : Heap) (CR fI : Addr) (fdI : FuncData) (d0 : Value) (gP : List Value -> List Value -> List Value) (vP : List V -> List V -> List V) : Prop where
 m : Mk K CR fI
 g : A8 P w K mg base (CX1 P w) 1 fI fdI Q22 (G1e CR)
 b3 : Binds K fdI Q22 []
 b2 : Binds K fdI Q22 [d0]
 r0 : V0 (.int 0) d0
 kP : Y8k K fdI Q22 ["power"] gP vP
 eP : ∀ x a b c, vP [x, a, b] [c] = [x, a, b, c]
structure RatM (P : Program) (w : World) (K : Frag) (mg : Str -> Option Value) (base : Heap) (CR f1 f2 : Addr) (fd1 fd2 : FuncData) : Prop where
 m1 : Y5 K CR "first" f1
 g1 : A8 P w K mg base (CX1 P w) 4 f1 fd1 ["self"] (A6q CR)
 b1 : Binds K fd1 ["self"] []
 m2 : Y5 K CR "at" f2
 g2 : A8 P w K mg base (CX1 P w) 3 f2 fd2 Q15 (C9n CR)
 b2 : Binds K fd2 Q15 []
theorem J5e {CR x dx : Addr} {H : Hp} {Q : VK} {E : XK} {t b n : Int} (n1 : H x = none) (n2 : H dx = none) (ne : dx ≠ x) (k : ∀ H', C8 H H' -> B1z CR H' x t b n -> Q .non H') :
   G1e CR [.ref x, .int t, .int b, .int n] (upd (upd H dx (.own x)) x (.ins CR dx [])) Q E :=
 ⟨x, dx, _, _, _, rfl, A7, fun H' e s => k H' (fun c o z => s c o (by rw [G6 (G7 z n1), G6 (G7 z n2)]; exact z) (G7 z n1)) ⟨dx, e⟩⟩
abbrev A5h : Stmt := (top 8)
def C8z : Sp := fun vs H Q _ => ∃ l m : Int, vs = [.int (2 * l), .int m] /\ 0 <= l /\ 0 < m /\ Q (.int (Z4 l m)) H
theorem Y4f : C5 Q20 Q20 (A2 A5h) := scK
theorem A0gs {m : Int} (hm : 0 < m) : Z4 0 m = 0 := by
 unfold Z4
 rw [decide_eq_false (by omega : ¬ (0 : Int) < 0), decide_eq_false (by omega : ¬ m <= 2 * 0), decide_eq_false (by omega : ¬ m < 2 * 0)]
 rfl
theorem A0gh {l m : Int} (hl : 0 < l) (h : 2 * l < m) : Z4 l m = 1 := by
 unfold Z4
 rw [decide_eq_true hl, decide_eq_false (by omega : ¬ m <= 2 * l), decide_eq_false (by omega : ¬ m < 2 * l)]
 rfl
theorem A0ge {l m : Int} (hl : 0 < l) (h : 2 * l = m) : Z4 l m = 2 := by
 unfold Z4
 rw [decide_eq_true hl, decide_eq_true (by omega : m <= 2 * l), decide_eq_false (by omega : ¬ m < 2 * l)]
 rfl
theorem A0gv {l m : Int} (hl : 0 < l) (h : m < 2 * l) : Z4 l m = 3 := by
 unfold Z4
 rw [decide_eq_true hl, decide_eq_true (by omega : m <= 2 * l), decide_eq_true h]
 rfl
theorem V6g {f : Addr} {fd : FuncData} (D : Def K mg "part_of" Q20 A5h f fd) : A8 P w K mg base (CX1 P w) 1 f fd Q20 C8z := by
 refine A8.up (D.F.ok Y4f (fun vs H Q E h => ?_) (fun cdv A outer s H vs Q E hr h => ?_))
 . obtain ⟨l, m, rfl, _⟩ := h
   rfl
 obtain ⟨l, m, rfl, hl, hm, k⟩ := h
 refine ⟨_, (A3 (G4 (C7 G2 (pv 0) A1 (C6 _)) (A6 (B0 A1)) D0) (A3 (G4 (C7 B6t (pv 0) (pv 1) (C6 _)) (A6 (B0 A1)) D0) (A6 (B0 (V5 (C7 G2 (pv 0) (pv 1) (C6 _)) A1 A1))))), ?_⟩
 refine ⟨_, rfl, rfl, _, rfl, J1 (fun h0 => ?_) (fun h0 => ?_)⟩
 . have e : l = 0 := by
     have : 2 * l = 0 := by injection h0
     omega
   subst e
   rw [A0gs hm] at k
   exact k
 have hl' : 0 < l := by
   apply Classical.byContradiction
   intro z
   exact h0 (by rw [show l = 0 by omega]; rfl)
 refine ⟨_, rfl, _, rfl, _, _, rfl, rfl, _, rfl, J1 (fun h1 => ?_) (fun h1 => ?_)⟩
 . rw [A0gh hl' h1] at k
   exact k
 refine ⟨_, rfl, _, rfl, rfl, _, rfl, J1 (fun h2 => ?_) (fun h2 => ?_)⟩
 . rw [A0ge hl' (by injection h2)] at k
   exact k
 rw [A0gv hl' (by
   have : 2 * l ≠ m := fun z => h2 (by rw [z])
   omega)] at k
 exact k
abbrev A6e : Stmt := (top 9)
theorem U1d (k : Nat) : 10 ^ (k * 301029995 / 10 ^ 9) <= 2 ^ k := by
 have hm : k * 301029995 / 10 ^ 9 * 28738 <= k * 8651 := by
   have : k * 301029995 / 10 ^ 9 * 10 ^ 9 <= k * 301029995 := Nat.div_mul_le_self _ _
   omega
 generalize k * 301029995 / 10 ^ 9 = m at hm
 have c : (10 : Nat) ^ 8651 <= 2 ^ 28738 := by decide +kernel
 have a : (10 ^ m) ^ 8651 <= (2 ^ k) ^ 8651 := by
   calc (10 ^ m) ^ 8651 = (10 ^ 8651) ^ m := by rw [<- Nat.pow_mul, <- Nat.pow_mul, Nat.mul_comm]
     _ <= (2 ^ 28738) ^ m := Nat.pow_le_pow_left c m
     _ = 2 ^ (m * 28738) := by rw [<- Nat.pow_mul, Nat.mul_comm]
     _ <= 2 ^ (k * 8651) := Nat.pow_le_pow_right (by decide) hm
     _ = (2 ^ k) ^ 8651 := by rw [<- Nat.pow_mul]
 exact (Nat.pow_le_pow_iff_left (by decide)).mp a
def C7k : Sp := fun vs H Q _ => ∃ n : Nat, vs = [.int (n : Int)] /\ 1 <= n /\ n < 10 ^ 3000 /\ ∀ L : Nat, 10 ^ L <= n -> n < 10 ^ (L + 1) -> Q (.int (L : Int)) H
theorem scWLead : C5 ["whole", "lead", "beyond"] ["whole"] (A2 A6e) := scK
theorem Y6k {f f1 : Addr} {fd fd1 : FuncData} (D : Def K mg "whole_lead" ["whole"] A6e f fd) (D_ten_to : Def K mg "ten_to" ["count"] A0q f1 fd1) (G_ten_to : A8 P w K mg base (CX1 P w) 2 f1 fd1 ["count"] A2h) : A8 P w K mg base (CX1 P w) 3 f fd ["whole"] C7k := by
 refine A8.up (D.F.ok scWLead (fun vs H Q E h => ?_) (fun cdv A outer s H vs Q E hr h => ?_))
 . obtain ⟨n, rfl, _⟩ := h
   rfl
 obtain ⟨n, rfl, n1, n2, k⟩ := h
 have hx : U1 (A2a CX0 P w K mg base ["whole", "lead", "beyond"] "whole_lead" (A2 A6e) f cdv A outer s H E).nox EKF := Y1
 refine ⟨_, (A3 (B5 (D3 (i := 1) scWLead.nd rfl (Or.inl rfl) (A9 D8 (A9 G5 (A9 J8 (Y7p PySem.F.plainAttrs_int PySem.F.slot_int_bit_length PySem.F.type_int_bit_length B6u (pv 0)) A1) A1) (A9 Y6n A1 A1)))) (A3 (B5 (D3 (i := 2) scWLead.nd rfl (Or.inl rfl) (C9 D_ten_to G_ten_to hr hx (A0 (A9 J4 (pv 1) A1) A5)))) (A3 (B5 (A2q PassesOwn.never (C7 A0qt (pv 2) (pv 0) (C6 _)) (A3 (A0rs (i := 1) scWLead.nd rfl (Or.inl rfl) A1 A0sh) (A6 (D3 (i := 2) scWLead.nd rfl (Or.inl rfl) (A9 G5 (pv 2) A1)))))) (A6 (B0 (pv 1)))))), ?_⟩
 have mC : ∀ z n : Int, -(2 ^ 64) < n -> n < 2 ^ 64 -> IntMulOk z n := fun z n a b => A2u.ok (.inr ⟨a, b⟩)
 have pw : CPow 10 9 := ⟨by decide, by decide, by decide⟩
 have l3 : ∀ {L : Nat}, 10 ^ L <= n -> L < 3000 := fun hL => (Nat.pow_lt_pow_iff_right (by decide : 1 < 10)).mp (Nat.lt_of_le_of_lt hL n2)
 refine ⟨fun σ H' => H' = H /\ ∃ L : Nat, 10 ^ L <= n /\ σ = [some (.int (n : Int)), some (.int (L : Int)), none], ?_, ?_⟩
 . refine ⟨_, rfl, rfl, _, rfl, rfl, _, _, rfl, rfl, _, _, rfl, rfl, mC _ _ (by decide) (by decide), _, _, rfl, rfl, pw, _, _, rfl, rfl, ⟨by decide, by decide +kernel⟩, rfl, n.log2 * 301029995 / 10 ^ 9, ?_, ?_⟩
   . exact Nat.le_trans (U1d _) (Nat.log2_self_le (by omega))
   . have e : (Builtin.Int.intBits (n : Int) : Nat) = n.log2 + 1 := by
       unfold Builtin.Int.intBits
       rw [if_neg (by simp; omega)]
       rfl
     show [some (V.int (n : Int)), some (V.int ((((Builtin.Int.intBits (n : Int) : Nat) : Int) - 1) * 301029995 / (10 ^ Int.toNat 9 : Int))), none] = _
     rw [e, show ((n.log2 + 1 : Nat) : Int) - 1 = (n.log2 : Int) by omega]
     rfl
 rintro σ H' ⟨rfl, L0, hL0, rfl⟩
 refine ⟨fun σ H2 => H2 = H' /\ ∃ L : Nat, 10 ^ L <= n /\ σ = [some (.int (n : Int)), some (.int (L : Int)), some (.int ((10 ^ (L + 1) : Nat) : Int))], ?_, ?_⟩
 . have := l3 hL0
   exact ⟨_, rfl, _, _, rfl, rfl, L0 + 1, rfl, by omega, rfl, L0, hL0, rfl⟩
 rintro σ H2 ⟨rfl, L1, hL1, rfl⟩
 refine ⟨fun σ H3 => H3 = H2 /\ ∃ L : Nat, 10 ^ L <= n /\ n < 10 ^ (L + 1) /\ σ = [some (.int (n : Int)), some (.int (L : Int)), some (.int ((10 ^ (L + 1) : Nat) : Int))], ?_, ?_⟩
 . refine A0z (fun σ H3 => H3 = H2 /\ ∃ L : Nat, 10 ^ L <= n /\ σ = [some (.int (n : Int)), some (.int (L : Int)), some (.int ((10 ^ (L + 1) : Nat) : Int))]) (fun σ _ => match σ with | [_, some (.int c), _] => n - c.toNat | _ => 0) ?_ ?_ ?_
   . exact ⟨rfl, L1, hL1, rfl⟩
   . rintro σ H3 ⟨rfl, L, hL, rfl⟩
     refine ⟨_, rfl, _, rfl, _, _, rfl, rfl, _, rfl, J1 (fun hle => ?_) (fun hgt => ?_)⟩
     . have hle : 10 ^ (L + 1) <= n := Int.ofNat_le.mp hle
       refine ⟨_, rfl, _, _, rfl, rfl, _, rfl, _, _, rfl, rfl, mC _ _ (by decide) (by decide), ⟨rfl, L + 1, hle, ?_⟩, ?_⟩
       . show [some (V.int (n : Int)), some (V.int ((L : Int) + 1)), some (V.int (((10 ^ (L + 1) : Nat) : Int) * 10))] = _
         rw [show ((10 ^ (L + 1) : Nat) : Int) * 10 = ((10 ^ (L + 1 + 1) : Nat) : Int) by rw [Nat.pow_succ 10 (L + 1)]; rfl]
         rfl
       have lt : L + 1 < 10 ^ (L + 1) := Nat.lt_pow_self (by decide)
       show n - ((L : Int) + 1).toNat < n - (L : Int).toNat
       omega
     . have hgt : ¬ 10 ^ (L + 1) <= n := fun z => hgt (Int.ofNat_le.mpr z)
       exact ⟨rfl, L, hL, by omega, rfl⟩
   . rintro σ H2 Q1 Q2 hQ ⟨v, e, v2, e4, i2, j2, e5, e6, b, e7, q⟩
     exact ⟨v, e, v2, e4, i2, j2, e5, e6, b, e7, hQ _ _ q⟩
 rintro σ H3 ⟨rfl, L, h1, h2, rfl⟩
 exact ⟨_, rfl, k L h1 h2⟩
abbrev C8c : Stmt := (J2 (top 6) 2)
abbrev A4y : Stmt := (J2 (top 6) 1)
theorem scRAt : C5 Q52 Q15 (A2 C8c) := scK
theorem A0sv {f f1 f2 CR CE : Addr} {fd fd1 fd2 : FuncData} (F : Fun K "at" "Ratio.at" C8c f fd) (D_ten_to : Def K mg "ten_to" ["count"] A0q f1 fd1) (G_ten_to : A8 P w K mg base (CX1 P w) 2 f1 fd1 ["count"] A2h)
   (D_part_of : Def K mg "part_of" Q20 A5h f2 fd2) (G_part_of : A8 P w K mg base (CX1 P w) 1 f2 fd2 Q20 C8z) (R : G2r K mg CR CE) (O : Own mg) : A8 P w K mg base (CX1 P w) 3 f fd Q15 (C9n CR) := by
 refine A8.up (F.ok scRAt (fun vs H Q E h => ?_) (fun cdv A outer s H vs Q E hr h => ?_))
 . obtain ⟨x, t, b, n, p, rfl, _⟩ := h
   rfl
 obtain ⟨x, t, b, n, p, rfl, ⟨dx, e⟩, ht, hb, h1, h2, k⟩ := h
 have hx : U1 (A2a CX0 P w K mg base Q52 "Ratio.at" (A2 C8c) f cdv A outer s H E).nox EKF := Y1
 refine ⟨_, (A3 (D3 (i := 2) scRAt.nd rfl (Or.inl rfl) (A9 J8 (D6 (pv 0) rfl) (pv 1))) (A3 (D3 (i := 3) scRAt.nd rfl (Or.inl rfl) (A9 G5 (D6 (pv 0) rfl) (C9 D_ten_to G_ten_to hr hx (A0 (J3 (Y3 rfl) (by rfl) O.max_ boot_max (A0 (pv 2) (A0 A1 A5))) A5)))) (A3 (D3 (i := 4) scRAt.nd rfl (Or.inl rfl) (A9 G5 (D6 (pv 0) rfl) (C9 D_ten_to G_ten_to hr hx (A0 (J3 (Y3 rfl) (by rfl) O.max_ boot_max (A0 (B1f A4h (pv 2)) (A0 A1 A5))) A5)))) (A3 (D3 (i := 5) scRAt.nd rfl (Or.inl rfl) (A9 D8 (pv 3) (pv 4))) (A6 (B0 (U6 (A0 (pv 5) (A0 (C9 D_part_of G_part_of hr hx (A0 (A9 G5 A1 (A9 J8 (pv 3) (A9 G5 (pv 5) (pv 4)))) (A0 (pv 4) A5))) A5))))))))), ?_⟩
 have z2 : 2 <= sizeLine := D7 (by decide)
 have mC' : ∀ z n : Int, -(2 ^ 64) < n -> n < 2 ^ 64 -> IntMulOk n z := fun z n a b => A2u.ok (.inl ⟨a, b⟩)
 have hb0 : 0 < b := by have := hb.1; omega
 refine ⟨_, rfl, x, CR, dx, _, _, rfl, e, R.cl, R.n_power, D9x _ _ _, _, rfl, _, _, rfl, rfl, ?_⟩
 refine ⟨_, rfl, x, CR, dx, _, _, rfl, e, R.cl, R.n_top, V2w _ _ _, _, rfl, _, _, rfl, (n - p).toNat, congrArg (fun z => [V.int z]) (maxT (n - p)), by omega, _, _, rfl, rfl, B1m ht h2, ?_⟩
 refine ⟨_, rfl, x, CR, dx, _, _, rfl, e, R.cl, R.n_bottom, D0f _ _ _, _, rfl, _, rfl, _, _, rfl, (-(n - p)).toNat, congrArg (fun z => [V.int z]) (maxT (-(n - p))), by omega, _, _, rfl, rfl, B1m hb (by omega), ?_⟩
 have lp : 0 < b * A4 (-(n - p)) := Int.mul_pos hb0 (D4 _)
 have ll : (b * A4 (-(n - p))).natAbs.log2 < 9000 := J9y hb (by omega)
 refine ⟨_, rfl, _, rfl, _, _, rfl, rfl, ⟨lp, ll⟩, ?_⟩
 have lf := V4h (t := t) (s := n - p) hb0
 refine ⟨_, rfl, _, rfl, _, rfl, _, rfl, _, _, rfl, rfl, A0zu ht hb h1 h2, _, _, rfl, rfl, _, _, rfl, rfl, mC' _ _ (by decide) (by decide), _, rfl, _, _, rfl, lf.1, lp, z2, fun q nq => k q _ (C8.upd nq) nq A7⟩
theorem A0sr {t b L M u v : Nat} (h : L + u = M + v) (t2 : t < 10 ^ (L + 1)) (b1 : 10 ^ M <= b) : t * 10 ^ u < 10 * (b * 10 ^ v) := by
 have p : 0 < 10 ^ u := Nat.pow_pos (by decide)
 calc t * 10 ^ u < 10 ^ (L + 1) * 10 ^ u := Nat.mul_lt_mul_of_pos_right t2 p
   _ = 10 * (10 ^ M * 10 ^ v) := by rw [<- Nat.pow_add, <- Nat.pow_add, <- h, show L + 1 + u = (L + u) + 1 by omega, Nat.pow_succ, Nat.mul_comm]
   _ <= 10 * (b * 10 ^ v) := Nat.mul_le_mul_left 10 (Nat.mul_le_mul_right _ b1)
theorem A0sc {t b L M u v : Nat} (h : L + u = M + 1 + v) (t1 : 10 ^ L <= t) (b2 : b < 10 ^ (M + 1)) : b * 10 ^ v <= t * 10 ^ u := by
 calc b * 10 ^ v <= 10 ^ (M + 1) * 10 ^ v := Nat.mul_le_mul_right _ (Nat.le_of_lt b2)
   _ = 10 ^ L * 10 ^ u := by rw [<- Nat.pow_add, <- Nat.pow_add, h]
   _ <= t * 10 ^ u := Nat.mul_le_mul_right _ t1
theorem D9y {t b L M : Nat} (t1 : 10 ^ L <= t) (t2 : t < 10 ^ (L + 1)) (b1 : 10 ^ M <= b) (b2 : b < 10 ^ (M + 1)) (h : (b : Int) * A4 (-((M : Int) - L)) <= (t : Int) * A4 ((M : Int) - L)) : A0x t b ((M : Int) - L) := by
 refine ⟨h, ?_⟩
 unfold A4
 have := A0sr (t := t) (b := b) (L := L) (M := M) (u := ((M : Int) - L).toNat) (v := (-((M : Int) - L)).toNat) (by omega) t2 b1
 exact Int.ofNat_lt.mpr this
theorem C8a {t b L M : Nat} (t1 : 10 ^ L <= t) (t2 : t < 10 ^ (L + 1)) (b1 : 10 ^ M <= b) (b2 : b < 10 ^ (M + 1)) (h : (t : Int) * A4 ((M : Int) - L) < (b : Int) * A4 (-((M : Int) - L))) : A0x t b ((M : Int) - L + 1) := by
 refine ⟨?_, ?_⟩
 . unfold A4
   have := A0sc (t := t) (b := b) (L := L) (M := M) (u := ((M : Int) - L + 1).toNat) (v := (-((M : Int) - L + 1)).toNat) (by omega) t1 b2
   exact Int.ofNat_le.mpr this
 have hb : 0 < (b : Int) := by
   have : 0 < 10 ^ M := Nat.pow_pos (by decide)
   omega
 generalize (M : Int) - L = s at h
 have c := Z8 (s := s) (r := s + 1) (by omega)
 have e1 : A4 (s + 1 - s) = 10 := by rw [show s + 1 - s = 1 by omega]; rfl
 rw [e1] at c
 have l := Int.mul_pos hb (D4 (-s))
 have l' := Int.mul_pos hb (D4 (-(s + 1)))
 have e : (t : Int) * A4 (s + 1) * ((b : Int) * A4 (-s)) = (t : Int) * A4 s * ((b : Int) * A4 (-(s + 1))) * 10 := by
   calc (t : Int) * A4 (s + 1) * ((b : Int) * A4 (-s)) = t * b * (A4 (s + 1) * A4 (-s)) := by ac_rfl
     _ = t * b * (A4 s * A4 (-(s + 1)) * 10) := by rw [c]
     _ = (t : Int) * A4 s * ((b : Int) * A4 (-(s + 1))) * 10 := by ac_rfl
 have a : (t : Int) * A4 s * ((b : Int) * A4 (-(s + 1))) < (b : Int) * A4 (-s) * ((b : Int) * A4 (-(s + 1))) := Int.mul_lt_mul_of_pos_right h l'
 have a2 : (t : Int) * A4 (s + 1) * ((b : Int) * A4 (-s)) < 10 * ((b : Int) * A4 (-(s + 1))) * ((b : Int) * A4 (-s)) := by
   rw [e, show 10 * ((b : Int) * A4 (-(s + 1))) * ((b : Int) * A4 (-s)) = (b : Int) * A4 (-s) * ((b : Int) * A4 (-(s + 1))) * 10 by ac_rfl]
   exact Int.mul_lt_mul_of_pos_right a (by decide)
 exact Int.lt_of_mul_lt_mul_right a2 (Int.le_of_lt l)
theorem scRFirst : C5 ["self", "guess"] ["self"] (A2 A4y) := scK
theorem V7q {f f1 f2 CR CE : Addr} {fd fd1 fd2 : FuncData} (F : Fun K "first" "Ratio.first" A4y f fd) (D_whole_lead : Def K mg "whole_lead" ["whole"] A6e f1 fd1) (G_whole_lead : A8 P w K mg base (CX1 P w) 3 f1 fd1 ["whole"] C7k)
   (MA : Y5 K CR "at" f2) (GA : A8 P w K mg base (CX1 P w) 3 f2 fd2 Q15 (C9n CR)) (BA : Binds K fd2 Q15 []) (R : G2r K mg CR CE) : A8 P w K mg base (CX1 P w) 4 f fd ["self"] (A6q CR) := by
 refine A8.up (F.ok scRFirst (fun vs H Q E h => ?_) (fun cdv A outer s H vs Q E hr h => ?_))
 . obtain ⟨x, t, b, n, rfl, _⟩ := h
   rfl
 obtain ⟨x, t, b, n, rfl, ra, ht, hb, k⟩ := h
 have hx : U1 (A2a CX0 P w K mg base ["self", "guess"] "Ratio.first" (A2 A4y) f cdv A outer s H E).nox EKF := Y1
 refine ⟨_, (A3 (D3 (i := 1) scRFirst.nd rfl (Or.inl rfl) (A9 J4 (A9 J8 (C9 D_whole_lead G_whole_lead hr hx (A0 (D6 (pv 0) rfl) A5)) (C9 D_whole_lead G_whole_lead hr hx (A0 (D6 (pv 0) rfl) A5))) (D6 (pv 0) rfl))) (A6 (B0 (V5 (C7 A6u (D9 G3 (C6r (pv 0) R.cl MA GA hr BA .nil hx (A0 (pv 1) A5)) A1 (fun _ _ => rfl)) A1 (C6 _)) (pv 1) (A9 J8 (pv 1) A1))))), ?_⟩
 obtain ⟨tn, rfl, ta, tb⟩ := ht.nat
 obtain ⟨bn, rfl, ba, bb⟩ := hb.nat
 obtain ⟨dx, e⟩ := id ra
 have p30 : (10 : Nat) ^ 1000 < 10 ^ 3000 := Nat.pow_lt_pow_right (by decide) (by decide)
 have p30' : ∀ {L m : Nat}, 10 ^ L <= m -> m < 10 ^ 1000 -> L < 1000 := fun h1 h2 => (Nat.pow_lt_pow_iff_right (by decide : 1 < 10)).mp (Nat.lt_of_le_of_lt h1 h2)
 refine ⟨_, rfl, x, CR, dx, _, _, rfl, e, R.cl, R.n_top, V2w _ _ _, tn, rfl, ta, Nat.lt_trans tb p30, fun L L1 L2 => ?_⟩
 refine ⟨_, rfl, x, CR, dx, _, _, rfl, e, R.cl, R.n_bottom, D0f _ _ _, bn, rfl, ba, Nat.lt_trans bb p30, fun M' M1 M2 => ?_⟩
 have l30 := p30' L1 tb
 have m30 := p30' M1 bb
 refine ⟨_, _, rfl, rfl, _, rfl, x, CR, dx, _, _, rfl, e, R.cl, R.n_power, D9x _ _ _, _, _, rfl, rfl, ?_⟩
 have es : n - ((L : Int) - M' + n) = (M' : Int) - L := by omega
 refine ⟨_, rfl, x, dx, _, rfl, e, D9g _ _ _, _, rfl, x, tn, bn, n, _, rfl, ra, ht, hb, by omega, by omega, fun q H1 s1 nq hq => ?_⟩
 rw [es] at hq
 refine ⟨q, _, 0, _, rfl, rfl, SqT.of hq, B8 (j := 0) rfl, _, _, rfl, rfl, _, rfl, ?_⟩
 have lp : 0 < (bn : Int) * A4 (-((M' : Int) - L)) := Int.mul_pos (by omega) (D4 _)
 refine J1 (fun hg => ?_) (fun hg => ?_)
 . have hle : (bn : Int) * A4 (-((M' : Int) - L)) <= (tn : Int) * A4 ((M' : Int) - L) := by
     have := (Int.le_ediv_iff_mul_le lp).mp (show (1 : Int) <= (tn : Int) * A4 ((M' : Int) - L) / ((bn : Int) * A4 (-((M' : Int) - L))) from hg)
     omega
   refine ⟨_, rfl, k _ H1 s1 ?_⟩
   rw [es]
   exact D9y L1 L2 M1 M2 hle
 have hlt : (tn : Int) * A4 ((M' : Int) - L) < (bn : Int) * A4 (-((M' : Int) - L)) := by
   apply Classical.byContradiction
   intro z
   exact hg ((Int.le_ediv_iff_mul_le lp).mpr (by omega))
 refine ⟨_, rfl, _, _, rfl, rfl, k _ H1 s1 ?_⟩
 rw [show n - ((L : Int) - M' + n - 1) = (M' : Int) - L + 1 by omega]
 exact C8a L1 L2 M1 M2 hlt
inductive Wy where
 | down
 | up
 | floor
 | ceiling
 | halfUp
 | halfDown
 | halfEven
 | fiveUp
def Wy.name : Wy -> Str
 | .down => "down"
 | .up => "up"
 | .floor => "floor"
 | .ceiling => "ceiling"
 | .halfUp => "half up"
 | .halfDown => "half down"
 | .halfEven => "half even"
 | .fiveUp => "five up"
def Wy.cls : Wy -> Str
 | .down => "Down"
 | .up => "Up"
 | .floor => "Floor"
 | .ceiling => "Ceiling"
 | .halfUp => "HalfUp"
 | .halfDown => "HalfDown"
 | .halfEven => "HalfEven"
 | .fiveUp => "FiveUp"
theorem Wy.inj {a b : Wy} (h : a.name = b.name) : a = b := by
 cases a <;> cases b <;> first | rfl | exact absurd h (by decide +kernel)
structure C7f (K : Frag) (mg : Str -> Option Value) (x : Str) (C CW : Addr) : Prop where
 g : mg x = some (.ref C)
 cl : Cls K C
 mk0 : Mk0 K C
 ca : findIn K (.ref C) "__class__" = some (some (.builtin "object.__class__"))
 sn : specialIn K (.builtin "object.__class__") "__get__" = some (some (.builtin "getset_descriptor.__get__"))
 tk : takesIn K (.builtin "object.__class__") = some true
 ob : mroIn K C (.type "object") = some true
 up : kitOne K (.ref C) (.ref CW) = some true
def A7w (s : Str) : Sp := fun vs H Q _ => ∃ p, vs = [.ref p] /\ Q (.str s) H
def WayN (P : Program) (w : World) (K : Frag) (mg : Str -> Option Value) (base : Heap) (C : Addr) (s : Str) : Prop := Has P w K mg base C "name" 1 ["self"] (A7w s)
abbrev sN0 : Stmt := (J2 (top 56) 0)
theorem scN0 : C5 ["self"] ["self"] (A2 sN0) := scK
theorem A0yj {f : Addr} {fd : FuncData} (F : Fun K "name" "Down.name" sN0 f fd) : A8 P w K mg base (CX1 P w) 1 f fd ["self"] (A7w "down") := by
 refine A8.up (F.ok scN0 (fun vs H Q E h => ?_) (fun cdv A outer s H vs Q E hr h => ?_))
 . obtain ⟨p, rfl, _⟩ := h
   rfl
 obtain ⟨p, rfl, k⟩ := h
 exact ⟨_, A6 (B0 D5), k⟩
abbrev sN1 : Stmt := (J2 (top 57) 0)
theorem scN1 : C5 ["self"] ["self"] (A2 sN1) := scK
theorem A0zp {f : Addr} {fd : FuncData} (F : Fun K "name" "Up.name" sN1 f fd) : A8 P w K mg base (CX1 P w) 1 f fd ["self"] (A7w "up") := by
 refine A8.up (F.ok scN1 (fun vs H Q E h => ?_) (fun cdv A outer s H vs Q E hr h => ?_))
 . obtain ⟨p, rfl, _⟩ := h
   rfl
 obtain ⟨p, rfl, k⟩ := h
 exact ⟨_, A6 (B0 D5), k⟩
abbrev sN2 : Stmt := (J2 (top 58) 0)
theorem scN2 : C5 ["self"] ["self"] (A2 sN2) := scK
theorem A0xk {f : Addr} {fd : FuncData} (F : Fun K "name" "Floor.name" sN2 f fd) : A8 P w K mg base (CX1 P w) 1 f fd ["self"] (A7w "floor") := by
 refine A8.up (F.ok scN2 (fun vs H Q E h => ?_) (fun cdv A outer s H vs Q E hr h => ?_))
 . obtain ⟨p, rfl, _⟩ := h
   rfl
 obtain ⟨p, rfl, k⟩ := h
 exact ⟨_, A6 (B0 D5), k⟩
abbrev sN3 : Stmt := (J2 (top 59) 0)
theorem scN3 : C5 ["self"] ["self"] (A2 sN3) := scK
theorem A0zm {f : Addr} {fd : FuncData} (F : Fun K "name" "Ceiling.name" sN3 f fd) : A8 P w K mg base (CX1 P w) 1 f fd ["self"] (A7w "ceiling") := by
 refine A8.up (F.ok scN3 (fun vs H Q E h => ?_) (fun cdv A outer s H vs Q E hr h => ?_))
 . obtain ⟨p, rfl, _⟩ := h
   rfl
 obtain ⟨p, rfl, k⟩ := h
 exact ⟨_, A6 (B0 D5), k⟩
abbrev sN4 : Stmt := (J2 (top 60) 0)
theorem scN4 : C5 ["self"] ["self"] (A2 sN4) := scK
theorem A0yy {f : Addr} {fd : FuncData} (F : Fun K "name" "HalfUp.name" sN4 f fd) : A8 P w K mg base (CX1 P w) 1 f fd ["self"] (A7w "half up") := by
 refine A8.up (F.ok scN4 (fun vs H Q E h => ?_) (fun cdv A outer s H vs Q E hr h => ?_))
 . obtain ⟨p, rfl, _⟩ := h
   rfl
 obtain ⟨p, rfl, k⟩ := h
 exact ⟨_, A6 (B0 D5), k⟩
abbrev sN5 : Stmt := (J2 (top 61) 0)
theorem scN5 : C5 ["self"] ["self"] (A2 sN5) := scK
theorem A0zf {f : Addr} {fd : FuncData} (F : Fun K "name" "HalfDown.name" sN5 f fd) : A8 P w K mg base (CX1 P w) 1 f fd ["self"] (A7w "half down") := by
 refine A8.up (F.ok scN5 (fun vs H Q E h => ?_) (fun cdv A outer s H vs Q E hr h => ?_))
 . obtain ⟨p, rfl, _⟩ := h
   rfl
 obtain ⟨p, rfl, k⟩ := h
 exact ⟨_, A6 (B0 D5), k⟩
abbrev sN6 : Stmt := (J2 (top 62) 0)
theorem scN6 : C5 ["self"] ["self"] (A2 sN6) := scK
theorem A0yu {f : Addr} {fd : FuncData} (F : Fun K "name" "HalfEven.name" sN6 f fd) : A8 P w K mg base (CX1 P w) 1 f fd ["self"] (A7w "half even") := by
 refine A8.up (F.ok scN6 (fun vs H Q E h => ?_) (fun cdv A outer s H vs Q E hr h => ?_))
 . obtain ⟨p, rfl, _⟩ := h
   rfl
 obtain ⟨p, rfl, k⟩ := h
 exact ⟨_, A6 (B0 D5), k⟩
abbrev sN7 : Stmt := (J2 (top 63) 0)
theorem scN7 : C5 ["self"] ["self"] (A2 sN7) := scK
theorem A0xm {f : Addr} {fd : FuncData} (F : Fun K "name" "FiveUp.name" sN7 f fd) : A8 P w K mg base (CX1 P w) 1 f fd ["self"] (A7w "five up") := by
 refine A8.up (F.ok scN7 (fun vs H Q E h => ?_) (fun cdv A outer s H vs Q E hr h => ?_))
 . obtain ⟨p, rfl, _⟩ := h
   rfl
 obtain ⟨p, rfl, k⟩ := h
 exact ⟨_, A6 (B0 D5), k⟩
def A0qy (K : Frag) (H : Hp) (v : V) : Prop := ∃ t b, TyE K H v t /\ kitOne K t (.type "str") = some b /\ (b = false \/ ∃ z, v = .str z /\ ∀ y : Wy, z ≠ y.name)
theorem B1a {C : Addr} {σ : L2.St} {H : Hp} {Q : VK} (k : ∀ p dx H', H p = none -> C8 H H' -> H' p = some (.ins C dx []) -> Q (.ref p) H') : tNew C σ H Q := fun x dx n1 n2 ne =>
 k x dx _ n1 ((C8.upd n2).trans (C8.upd (by rw [G6 (Ne.symm ne)]; exact n1))) A7
abbrev B1d : Stmt := (top 64)
def G1w (K : Frag) (CB : Addr) (cw : Wy -> Addr) : Sp := fun vs H Q E => ∃ v, vs = [v] /\ ((∃ y : Wy, v = .str y.name /\ ∀ p dx H', H p = none -> C8 H H' -> H' p = some (.ins (cw y) dx []) -> Q (.ref p) H') \/ (A0qy K H v /\ E (.ref CB) none H))
theorem A0gw : C5 ["name"] ["name"] (A2 B1d) := scK
theorem Y4y {f CB CW : Addr} {cw : Wy -> Addr} {fd : FuncData} (D : Def K mg "way_of" ["name"] B1d f fd) (O : Own mg) (T : Kit K) (B : Err K mg "BadContext" CB) (W : ∀ y : Wy, C7f K mg y.cls (cw y) CW) :
   A8 P w K mg base (CX1 P w) 1 f fd ["name"] (G1w K CB cw) := by
 refine D.F.okE A0gw (fun vs H Q E h => ?_) (fun X cdv A outer s H vs Q E hX hr hx h => ?_)
 . obtain ⟨v, rfl, _⟩ := h
   rfl
 subst hX
 obtain ⟨v, rfl, h⟩ := h
 refine ⟨_, (A3 (G4 (A4g (Y2 (V6t O.isi (pv 0) (pty O.str_ boot_str)))) (A6 (A2r (by rfl) B.g B.q PySem.F.excBase_ValueError hr.hd hx (A0 D5 A5))) D0) (A3 (G4 (C7 G2 (pv 0) D5 (C6 _)) (A6 (B0 (B1p (W .down).mk0 rfl (W .down).g))) D0) (A3 (G4 (C7 G2 (pv 0) D5 (C6 _)) (A6 (B0 (B1p (W .up).mk0 rfl (W .up).g))) D0) (A3 (G4 (C7 G2 (pv 0) D5 (C6 _)) (A6 (B0 (B1p (W .floor).mk0 rfl (W .floor).g))) D0) (A3 (G4 (C7 G2 (pv 0) D5 (C6 _)) (A6 (B0 (B1p (W .ceiling).mk0 rfl (W .ceiling).g))) D0) (A3 (G4 (C7 G2 (pv 0) D5 (C6 _)) (A6 (B0 (B1p (W .halfUp).mk0 rfl (W .halfUp).g))) D0) (A3 (G4 (C7 G2 (pv 0) D5 (C6 _)) (A6 (B0 (B1p (W .halfDown).mk0 rfl (W .halfDown).g))) D0) (A3 (G4 (C7 G2 (pv 0) D5 (C6 _)) (A6 (B0 (B1p (W .halfEven).mk0 rfl (W .halfEven).g))) D0) (A3 (G4 (C7 G2 (pv 0) D5 (C6 _)) (A6 (B0 (B1p (W .fiveUp).mk0 rfl (W .fiveUp).g))) D0) (A6 (A2r (by rfl) B.g B.q PySem.F.excBase_ValueError hr.hd hx (A0 D5 A5)))))))))))), ?_⟩
 have z1 : 1 <= sizeLine := D7 (by decide)
 rcases h with ⟨y, rfl, k⟩ | ⟨⟨t, b, ty, kk, bad⟩, k⟩
 . refine ⟨_, rfl, _, _, _, _, true, rfl, rfl, Y6d _, T.str_str, _, rfl, V3 ?_⟩
   refine ⟨_, rfl, rfl, _, rfl, J1 (fun e => ?_) (fun n0 => ?_)⟩
   . have q : y = .down := Wy.inj (V.str.inj (e : V.str y.name = V.str (Wy.name .down)))
     subst q
     exact B1a k
   refine ⟨_, rfl, rfl, _, rfl, J1 (fun e => ?_) (fun n1 => ?_)⟩
   . have q : y = .up := Wy.inj (V.str.inj (e : V.str y.name = V.str (Wy.name .up)))
     subst q
     exact B1a k
   refine ⟨_, rfl, rfl, _, rfl, J1 (fun e => ?_) (fun n2 => ?_)⟩
   . have q : y = .floor := Wy.inj (V.str.inj (e : V.str y.name = V.str (Wy.name .floor)))
     subst q
     exact B1a k
   refine ⟨_, rfl, rfl, _, rfl, J1 (fun e => ?_) (fun n3 => ?_)⟩
   . have q : y = .ceiling := Wy.inj (V.str.inj (e : V.str y.name = V.str (Wy.name .ceiling)))
     subst q
     exact B1a k
   refine ⟨_, rfl, rfl, _, rfl, J1 (fun e => ?_) (fun n4 => ?_)⟩
   . have q : y = .halfUp := Wy.inj (V.str.inj (e : V.str y.name = V.str (Wy.name .halfUp)))
     subst q
     exact B1a k
   refine ⟨_, rfl, rfl, _, rfl, J1 (fun e => ?_) (fun n5 => ?_)⟩
   . have q : y = .halfDown := Wy.inj (V.str.inj (e : V.str y.name = V.str (Wy.name .halfDown)))
     subst q
     exact B1a k
   refine ⟨_, rfl, rfl, _, rfl, J1 (fun e => ?_) (fun n6 => ?_)⟩
   . have q : y = .halfEven := Wy.inj (V.str.inj (e : V.str y.name = V.str (Wy.name .halfEven)))
     subst q
     exact B1a k
   refine ⟨_, rfl, rfl, _, rfl, J1 (fun e => ?_) (fun n7 => ?_)⟩
   . have q : y = .fiveUp := Wy.inj (V.str.inj (e : V.str y.name = V.str (Wy.name .fiveUp)))
     subst q
     exact B1a k
   cases y with
   | down => exact absurd rfl n0
   | up => exact absurd rfl n1
   | floor => exact absurd rfl n2
   | ceiling => exact absurd rfl n3
   | halfUp => exact absurd rfl n4
   | halfDown => exact absurd rfl n5
   | halfEven => exact absurd rfl n6
   | fiveUp => exact absurd rfl n7
 refine ⟨_, rfl, _, _, _, _, b, rfl, rfl, ty, kk, _, rfl, ?_⟩
 cases b with
 | false => exact Z5 ⟨z1, k⟩
 | true =>
   obtain ⟨z, rfl, nz⟩ := bad.resolve_left (by decide)
   refine V3 ?_
   refine ⟨_, rfl, rfl, _, rfl, J1 (fun e => absurd (V.str.inj e) (nz .down)) (fun n0 => ?_)⟩
   refine ⟨_, rfl, rfl, _, rfl, J1 (fun e => absurd (V.str.inj e) (nz .up)) (fun n1 => ?_)⟩
   refine ⟨_, rfl, rfl, _, rfl, J1 (fun e => absurd (V.str.inj e) (nz .floor)) (fun n2 => ?_)⟩
   refine ⟨_, rfl, rfl, _, rfl, J1 (fun e => absurd (V.str.inj e) (nz .ceiling)) (fun n3 => ?_)⟩
   refine ⟨_, rfl, rfl, _, rfl, J1 (fun e => absurd (V.str.inj e) (nz .halfUp)) (fun n4 => ?_)⟩
   refine ⟨_, rfl, rfl, _, rfl, J1 (fun e => absurd (V.str.inj e) (nz .halfDown)) (fun n5 => ?_)⟩
   refine ⟨_, rfl, rfl, _, rfl, J1 (fun e => absurd (V.str.inj e) (nz .halfEven)) (fun n6 => ?_)⟩
   refine ⟨_, rfl, rfl, _, rfl, J1 (fun e => absurd (V.str.inj e) (nz .fiveUp)) (fun n7 => ?_)⟩
   exact ⟨z1, k⟩
def B8e : List Str := ["void", "split", "burst", "sunk", "faint", "off", "cut"]
def U0q : List V := B8e.map V.str
structure SigK (K : Frag) (mg : Str -> Option Value) (aS : Addr) : Prop where
 g : mg "SIGNALS" = some (.ref aS)
 ty : ∃ o, K.lookup aS = some o /\ o.cls = .type "tuple"
 sq : ∀ H, SqT K H aS U0q
abbrev B8b : Stmt := (top 69)
def BadS (K : Frag) (H : Hp) (x : V) : Prop := ∃ t b, TyE K H x t /\ kitOne K t (.type "str") = some b /\ (b = false \/ ∃ z, x = .str z /\ z ∉ B8e)
def Y6f (K : Frag) (H : Hp) (v : V) : Prop := (∃ t, TyE K H v t /\ kitOne K t (.type "list") = some false) \/ (∃ (p : Addr) (zs : List Str) (x : V) (r : List V), v = .ref p /\ H p = some (.lst (zs.map V.str ++ x :: r)) /\ (∀ z ∈ zs, z ∈ B8e) /\ BadS K H x)
def V3y (K : Frag) (CB : Addr) : Sp := fun vs H Q E => ∃ v, vs = [v] /\ ((∃ (p : Addr) (zs : List Str), v = .ref p /\ H p = some (.lst (zs.map V.str)) /\ (∀ z ∈ zs, z ∈ B8e) /\ Q .non H) \/ (Y6f K H v /\ E (.ref CB) none H))
theorem scNeedS : C5 ["names", "name"] ["names"] (A2 B8b) := scK
theorem Y6j {f CB aS : Addr} {fd : FuncData} (D : Def K mg "need_signals" ["names"] B8b f fd) (O : Own mg) (T : Kit K) (B : Err K mg "BadContext" CB) (SG : SigK K mg aS) : A8 P w K mg base (CX1 P w) 1 f fd ["names"] (V3y K CB) := by
 refine D.F.okE scNeedS (fun vs H Q E h => ?_) (fun X cdv A outer s H vs Q E hX hr hx h => ?_)
 . obtain ⟨v, rfl, _⟩ := h
   rfl
 subst hX
 obtain ⟨v, rfl, h⟩ := h
 refine ⟨_, (A3 (G4 (A4g (Y2 (V6t O.isi (pv 0) (pty O.list_ boot_list)))) (A6 (A2r (by rfl) B.g B.q PySem.F.excBase_ValueError hr.hd hx (A0 D5 A5))) D0) (A6 (B7f PassesOwn.leaving rfl (G2f (pv 0)) (J7 (i := 1) scNeedS.nd rfl (Or.inl rfl)) (A6 (G4 (PW.pt (D9j (A4g (Y2 (V6t O.isi (pv 1) (pty O.str_ boot_str)))) (C1h (C7 G2h (pv 1) (pcls SG.g) (by rfl))))) (A6 (A2r (by rfl) B.g B.q PySem.F.excBase_ValueError hr.hd hx (A0 D5 A5))) D0))))), ?_⟩
 have z1 : 1 <= sizeLine := D7 (by decide)
 rcases h with ⟨p, zs, rfl, hp, hz, k⟩ | ⟨(⟨t, ty, kk⟩ | ⟨p, zs, x, r, rfl, hp, hz, t, b, ty, kk, bad⟩), k⟩
 . refine ⟨_, rfl, _, _, _, _, true, rfl, rfl, A0qs hp, T.list_list, _, rfl, V3 ?_⟩
   refine ⟨_, rfl, p, rfl, ⟨_, SqL.of hp⟩, B1w (xs := zs.map V.str) (fun i σ H' => H' = H /\ ∃ v, σ = [some (.ref p), v]) ⟨rfl, none, rfl⟩ ?_ ?_ ?_⟩
   . rintro i σ H' _ ⟨rfl, _⟩
     exact SqL.of hp
   . rintro i x σ H' hi ⟨rfl, v, rfl⟩
     obtain ⟨z, hzm, rfl⟩ := List.mem_map.mp (List.mem_of_getElem? hi)
     refine ⟨_, rfl, _, _, _, _, true, rfl, rfl, Y6d _, T.str_str, _, rfl, V3 ?_⟩
     refine ⟨_, rfl, aS, U0q, rfl, .inr (SG.sq _), rfl, A1w _, _, rfl, ?_⟩
     have e : inV (.str z) U0q = true := by
       show inV (.str z) (B8e.map V.str) = true
       rw [A7r]
       simpa using hz z hzm
     rw [e]
     exact V3 ⟨rfl, _, rfl⟩
   . rintro σ H' ⟨rfl, v, rfl⟩
     exact k
 . exact ⟨_, rfl, _, _, _, _, false, rfl, rfl, ty, kk, _, rfl, Z5 ⟨z1, k⟩⟩
 refine ⟨_, rfl, _, _, _, _, true, rfl, rfl, A0qs hp, T.list_list, _, rfl, V3 ?_⟩
 refine ⟨_, rfl, p, rfl, ⟨_, SqL.of hp⟩, B1w (xs := zs.map V.str ++ x :: r) (fun i σ H' => H' = H /\ i <= zs.length /\ ∃ v, σ = [some (.ref p), v]) ⟨rfl, Nat.zero_le _, none, rfl⟩ ?_ ?_ ?_⟩
 . rintro i σ H' _ ⟨rfl, _⟩
   exact SqL.of hp
 . rintro i y σ H' hi ⟨rfl, hl, v, rfl⟩
   by_cases hlt : i < zs.length
   . rw [List.getElem?_append_left (by simpa using hlt)] at hi
     obtain ⟨z, hzm, rfl⟩ := List.mem_map.mp (List.mem_of_getElem? hi)
     refine ⟨_, rfl, _, _, _, _, true, rfl, rfl, Y6d _, T.str_str, _, rfl, V3 ?_⟩
     refine ⟨_, rfl, aS, U0q, rfl, .inr (SG.sq _), rfl, A1w _, _, rfl, ?_⟩
     have e : inV (.str z) U0q = true := by
       show inV (.str z) (B8e.map V.str) = true
       rw [A7r]
       simpa using hz z hzm
     rw [e]
     exact V3 ⟨rfl, by omega, _, rfl⟩
   . have e : i = zs.length := by omega
     subst e
     rw [List.getElem?_append_right (by simp)] at hi
     simp at hi
     subst hi
     refine ⟨_, rfl, _, _, _, _, b, rfl, rfl, ty, kk, _, rfl, ?_⟩
     cases b with
     | false => exact Z5 (Z5 ⟨z1, k⟩)
     | true =>
       obtain ⟨z, rfl, nz⟩ := bad.resolve_left (by decide)
       refine V3 ⟨_, rfl, aS, U0q, rfl, .inr (SG.sq _), rfl, A1w _, _, rfl, ?_⟩
       have e : inV (.str z) U0q = false := by
         show inV (.str z) (B8e.map V.str) = false
         rw [A7r]
         simpa using nz
       rw [e]
       exact Z5 ⟨z1, k⟩
 rintro σ H' ⟨rfl, hl, _⟩
 exfalso
 rw [List.length_append, List.length_map, List.length_cons] at hl
 omega
abbrev B7w : Stmt := (top 70)
def Z2 (zs : List Str) : List Str := B8e.filter fun z => zs.contains z
def V2s (K : Frag) : Sp := fun vs H Q _ => ∃ (p : Addr) (zs : List Str), vs = [.ref p] /\ SqL K H p (zs.map V.str) /\ ∀ l H', C8 H H' -> H l = none -> H' l = some (.lst ((Z2 zs).map V.str)) -> Q (.ref l) H'
theorem A0hx : C5 ["names"] ["names"] (A2 B7w) := scK
theorem Y5m {f aS : Addr} {fd : FuncData} (D : Def K mg "in_order" ["names"] B7w f fd) (SG : SigK K mg aS) : A8 P w K mg base (CX1 P w) 1 f fd ["names"] (V2s K) := by
 refine A8.up (D.F.ok A0hx (fun vs H Q E h => ?_) (fun cdv A outer s H vs Q E hr h => ?_))
 . obtain ⟨p, zs, rfl, _⟩ := h
   rfl
 obtain ⟨p, zs, rfl, hp, k⟩ := h
 refine ⟨_, (A6 (B0 (Y5w (N := ["name"]) (F := ["names"]) (js := [0]) (U7.of1 ⟨rfl, by decide +kernel, by decide +kernel, by decide +kernel, by decide +kernel⟩ (by rfl) (by rfl) ⟨_, by rfl⟩ (by rfl) (by rfl)) (.inl hr.hd) (A0hu (pcls SG.g)) rfl (fun C s₀ H₀ ex pn h => J7 (i := 0) (by decide +kernel : (["name", "names"] : List Str).Nodup) rfl (Or.inl rfl)) (fun C s₀ H₀ ex pn h => (C7 (U0s (K := K) rfl) (pv 0) (pv 1) (by rfl))) (fun C s₀ H₀ ex pn h => (pv 0))))), ?_⟩
 refine Y4z (zs := B8e) (f := fun z => zs.contains z) (σf := [some (.ref p)]) SG.sq (by decide) (fun z H' Qb sm q => ?_) (fun z H' Qv q => ⟨_, rfl, q⟩) (fun D H' sm nd e => k D H' sm nd e) rfl
 refine ⟨_, rfl, _, rfl, p, _, rfl, .inl (sm.seq hp), rfl, A1w _, _, rfl, ?_⟩
 show Qb (inV (.str z) (zs.map V.str)) H'
 rw [A7r]
 exact q
structure D5f (K : Frag) (mg : Str -> Option Value) (CC : Addr) : Prop where
 g : mg "Context" = some (.ref CC)
 cl : Cls K CC
 n_room : Y6 K CC "room"
 n_rule : Y6 K CC "rule"
 n_least : Y6 K CC "least"
 n_most : Y6 K CC "most"
 n_risen : Y6 K CC "risen"
 n_trapped : Y6 K CC "trapped"
def A4u (r s l m a b : V) : List (Str × V) := V6 "trapped" b (V6 "risen" a (V6 "most" m (V6 "least" l (V6 "rule" s (V6 "room" r [])))))
theorem A4k (r s l m a b : V) (n : Str) : (A4u r s l m a b).lookup n = if n = "trapped" then some b else if n = "risen" then some a else if n = "most" then some m else if n = "least" then some l else if n = "rule" then some s else if n = "room" then some r else none := by
 unfold A4u
 rw [G8, G8, G8, G8, G8, G8]
 rfl
theorem A4w (r s l m a b : V) : (A4u r s l m a b).lookup ("room" : Str) = some r := by rw [A4k, if_neg (by decide +kernel), if_neg (by decide +kernel), if_neg (by decide +kernel), if_neg (by decide +kernel), if_neg (by decide +kernel), if_pos rfl]
theorem Y4x (r s l m a b : V) : (A4u r s l m a b).lookup ("rule" : Str) = some s := by rw [A4k, if_neg (by decide +kernel), if_neg (by decide +kernel), if_neg (by decide +kernel), if_neg (by decide +kernel), if_pos rfl]
theorem D9k (r s l m a b : V) : (A4u r s l m a b).lookup ("least" : Str) = some l := by rw [A4k, if_neg (by decide +kernel), if_neg (by decide +kernel), if_neg (by decide +kernel), if_pos rfl]
theorem C9e (r s l m a b : V) : (A4u r s l m a b).lookup ("most" : Str) = some m := by rw [A4k, if_neg (by decide +kernel), if_neg (by decide +kernel), if_pos rfl]
theorem D9u (r s l m a b : V) : (A4u r s l m a b).lookup ("risen" : Str) = some a := by rw [A4k, if_neg (by decide +kernel), if_pos rfl]
theorem J5b (r s l m a b : V) : (A4u r s l m a b).lookup ("trapped" : Str) = some b := by rw [A4k, if_pos rfl]
theorem C8e (r s l m a b : V) : (A4u r s l m a b).lookup ("way" : Str) = none := by rw [A4k, if_neg (by decide +kernel), if_neg (by decide +kernel), if_neg (by decide +kernel), if_neg (by decide +kernel), if_neg (by decide +kernel), if_neg (by decide +kernel)]
theorem A6g (r s l m a b : V) : (A4u r s l m a b).lookup ("lowest" : Str) = none := by rw [A4k, if_neg (by decide +kernel), if_neg (by decide +kernel), if_neg (by decide +kernel), if_neg (by decide +kernel), if_neg (by decide +kernel), if_neg (by decide +kernel)]
theorem G1k (r s l m a b : V) : (A4u r s l m a b).lookup ("flags" : Str) = none := by rw [A4k, if_neg (by decide +kernel), if_neg (by decide +kernel), if_neg (by decide +kernel), if_neg (by decide +kernel), if_neg (by decide +kernel), if_neg (by decide +kernel)]
theorem G1y (r s l m a b : V) : (A4u r s l m a b).lookup ("clear" : Str) = none := by rw [A4k, if_neg (by decide +kernel), if_neg (by decide +kernel), if_neg (by decide +kernel), if_neg (by decide +kernel), if_neg (by decide +kernel), if_neg (by decide +kernel)]
theorem A2j (r s l m a b : V) : (A4u r s l m a b).lookup ("raised" : Str) = none := by rw [A4k, if_neg (by decide +kernel), if_neg (by decide +kernel), if_neg (by decide +kernel), if_neg (by decide +kernel), if_neg (by decide +kernel), if_neg (by decide +kernel)]
structure A1s (CC : Addr) (H : Hp) (c : Addr) (r : Int) (y : Wy) (l m : Int) (a b : Addr) (xs ys : List V) : Prop where
 ins : ∃ dx, H c = some (.ins CC dx (A4u (.int r) (.str y.name) (.int l) (.int m) (.ref a) (.ref b)))
 ha : H a = some (.lst xs)
 hb : H b = some (.lst ys)
theorem A1s.same {CC : Addr} {H H' : Hp} {c : Addr} {r : Int} {y : Wy} {l m : Int} {a b : Addr} {xs ys : List V} (h : A1s CC H c r y l m a b xs ys) (e : C8 H H') : A1s CC H' c r y l m a b xs ys := by
 obtain ⟨⟨dx, z⟩, z1, z2⟩ := h
 exact ⟨⟨dx, e _ _ z⟩, e _ _ z1, e _ _ z2⟩
abbrev A1a : Stmt := (J2 (top 67) 0)
abbrev B5k : Stmt := (J2 (top 67) 1)
abbrev B5n : Stmt := (J2 (top 67) 2)
abbrev A4b : Stmt := (J2 (top 67) 3)
def U1r (l : Int) (v : V) : Prop := (v = .non /\ l = -60) \/ (v = .int l /\ -60 <= l /\ l <= 0)
def A0ts (K : Frag) (S : Hp -> Prop) (v1 v2 v3 v4 : V) : Prop := (∀ H', S H' -> D5c K H' 1 24 v1) \/ (B6s 1 24 v1 /\ ((∀ H', S H' -> A0qy K H' v2) \/ ((∃ y : Wy, v2 = .str y.name) /\ ((v3 ≠ .non /\ ∀ H', S H' -> D5c K H' (-60) 0 v3) \/ ((∃ l, U1r l v3) /\ ∀ H', S H' -> D5c K H' 0 60 v4)))))
theorem Exc.none {p a : Addr} {H H' : Hp} {o : HO} (x : Exc p H H') (hp : H' p = some o) (n : H' a = none) : H a = none := by
 cases q : H a with
 | none => rfl
 | some u =>
   have := x a u q (fun e => by rw [e, hp] at n; cases n)
   rw [n] at this
   cases this
def C1q (K : Frag) (CC CB : Addr) : Sp := fun vs H Q E => ∃ p dx v1 v2 v3 v4, vs = [.ref p, v1, v2, v3, v4] /\ H p = some (.ins CC dx []) /\
 ((∃ r y l m, v1 = .int r /\ 1 <= r /\ r <= 24 /\ v2 = .str (Wy.name y) /\ U1r l v3 /\ v4 = .int m /\ 0 <= m /\ m <= 60 /\ ∀ a b H', Exc p H H' -> H a = none -> H b = none -> A1s CC H' p r y l m a b [] [] -> Q .non H') \/
  (A0ts K (Exc p H) v1 v2 v3 v4 /\ ∀ H', Exc p H H' -> E (.ref CB) none H'))
theorem V7p : C5 Q45 Q45 (A2 A1a) := scK
theorem Y5s : C0a 1 24 := by unfold C0a; decide +kernel
theorem U1g : C0a (-60) 0 := by unfold C0a; decide +kernel
theorem Y4t : C0a 0 60 := by unfold C0a; decide +kernel
theorem U1n {f fB fW CC CB CW : Addr} {dV : Value} {cw : Wy -> Addr} {fd fdB fdW : FuncData} (F : V8a K "__init__" "Context.__init__" A1a dV f fd) (D_bounded : Def K mg "bounded" Q6 A4t fB fdB) (D_way_of : Def K mg "way_of" ["name"] B1d fW fdW)
   (G_bounded : A8 P w K mg base (CX1 P w) 2 fB fdB Q6 (D9d K CB)) (G_way_of : A8 P w K mg base (CX1 P w) 1 fW fdW ["name"] (G1w K CB cw)) (C : D5f K mg CC)
   (W : ∀ y : Wy, C7f K mg y.cls (cw y) CW) (N : ∀ y : Wy, WayN P w K mg base (cw y) y.name) : A8 P w K mg base (CX1 P w) 3 f fd Q45 (C1q K CC CB) := by
 refine F.okE V7p (fun vs H Q E h => ?_) (fun X cdv A outer s H vs Q E hX hr hx h => ?_)
 . obtain ⟨p, dx, v1, v2, v3, v4, rfl, _⟩ := h
   rfl
 subst hX
 obtain ⟨p, dx, v1, v2, v3, v4, rfl, hp, h⟩ := h
 obtain ⟨y, hy⟩ : ∃ y : Wy, ∀ z : Wy, v2 = .str z.name -> z = y := by
   by_cases q : ∃ z : Wy, v2 = .str z.name
   . obtain ⟨z, rfl⟩ := q
     exact ⟨z, fun u e => Wy.inj (V.str.inj e.symm)⟩
   . exact ⟨.down, fun z e => absurd ⟨z, e⟩ q⟩
 obtain ⟨fN, fdN, mN, gN, bN⟩ := N y
 refine ⟨_, (A3 (Z7 (pv 0) (C9 D_bounded G_bounded hr hx (A0 (pv 1) (A0 A1 (A0 A1 A5)))) rfl) (A3 (Z7 (pv 0) (A6f (C9 D_way_of G_way_of hr hx (A0 (pv 2) A5)) (W y).cl mN gN hr bN .nil hx) rfl) (A3 (B5 (Z7 (pv 0) (V5 (C7 A0tg (pv 3) A0tf (C6 _)) (B1f A4h A1) (C9 D_bounded G_bounded hr hx (A0 (pv 3) (A0 (B1f A4h A1) (A0 A1 A5))))) rfl)) (A3 (Z7 (pv 0) (C9 D_bounded G_bounded hr hx (A0 (pv 4) (A0 A1 (A0 A1 A5)))) rfl) (A3 (Z7 (pv 0) (U4 A5) rfl) (A6 (Z7 (pv 0) (U4 A5) rfl))))))), ?_⟩
 have lz : ∀ (fs : List (Str × V)) (f : Str) (v : V) (n : Nat), fs.length <= n -> (V6 f v fs).length <= n + 1 := fun fs f v n h => Nat.le_trans (A0w f v fs) (Nat.succ_le_succ h)
 have q0 : (([] : List (Str × V))).length <= 0 := Nat.le_refl _
 have z0 : 0 <= sizeLine := Nat.zero_le _
 rcases h with ⟨r, y', l, m, rfl, r1, r2, rfl, hl, rfl, m1, m2, k⟩ | ⟨bad, k⟩
 . obtain rfl := hy _ rfl
   refine ⟨_, rfl, _, _, _, rfl, Y5s, .inl ⟨⟨r, rfl, r1, r2⟩, ?_⟩⟩
   refine ⟨_, rfl, p, CC, dx, [], rfl, hp, C.cl, C.n_room, by show 0 < 1000; decide, ?_⟩
   refine ⟨_, rfl, _, rfl, .inl ⟨_, rfl, fun q dq H2 nq s2 eq => ⟨q, dq, [], rfl, eq, rfl, _, rfl, ?_⟩⟩⟩
   have hp2 := s2 _ _ (A7 (H := H) (a := p) (o := .ins CC dx (V6 "room" (.int r) [])))
   have x2 : Exc p H H2 := (Exc.upd (H := H) (o := .ins CC dx (V6 "room" (.int r) []))).trans (.of s2)
   refine ⟨_, rfl, p, CC, dx, _, rfl, hp2, C.cl, C.n_rule, Nat.lt_of_le_of_lt (lz _ _ _ 0 q0) (by decide), ?_⟩
   refine ⟨fun σ' H' => σ' = [some (.ref p), some (.int r), some (.str y'.name), some v3, some (.int m)] /\ Exc p H H' /\ H' p = some (.ins CC dx (V6 "least" (.int l) (V6 "rule" (.str y'.name) (V6 "room" (.int r) [])))), ?_, ?_⟩
   . refine ⟨_, rfl, rfl, _, rfl, ?_⟩
     rcases hl with ⟨rfl, rfl⟩ | ⟨rfl, l1, l2⟩
     . refine A0p rfl ⟨_, rfl, ?_⟩
       exact ⟨_, rfl, p, CC, dx, _, rfl, A7, C.cl, C.n_least, Nat.lt_of_le_of_lt (lz _ _ _ 1 (lz _ _ _ 0 q0)) (by decide), rfl, (x2.trans Exc.upd).trans Exc.upd, A7⟩
     . refine J9 (by intro z; cases z) ⟨_, rfl, _, rfl, _, _, _, rfl, U1g, .inl ⟨⟨l, rfl, l1, l2⟩, ?_⟩⟩
       exact ⟨_, rfl, p, CC, dx, _, rfl, A7, C.cl, C.n_least, Nat.lt_of_le_of_lt (lz _ _ _ 1 (lz _ _ _ 0 q0)) (by decide), rfl, (x2.trans Exc.upd).trans Exc.upd, A7⟩
   rintro σ' H4 ⟨rfl, x4, hp4⟩
   refine ⟨_, rfl, _, _, _, rfl, Y4t, .inl ⟨⟨m, rfl, m1, m2⟩, ?_⟩⟩
   refine ⟨_, rfl, p, CC, dx, _, rfl, hp4, C.cl, C.n_most, Nat.lt_of_le_of_lt (lz _ _ _ 2 (lz _ _ _ 1 (lz _ _ _ 0 q0))) (by decide), ?_⟩
   refine ⟨z0, fun a na => ?_⟩
   refine ⟨_, rfl, p, CC, dx, _, rfl, C8.upd na _ _ A7, C.cl, C.n_risen, Nat.lt_of_le_of_lt (lz _ _ _ 3 (lz _ _ _ 2 (lz _ _ _ 1 (lz _ _ _ 0 q0)))) (by decide), ?_⟩
   refine ⟨z0, fun b nb => ?_⟩
   refine ⟨_, rfl, p, CC, dx, _, rfl, C8.upd nb _ _ A7, C.cl, C.n_trapped, Nat.lt_of_le_of_lt (lz _ _ _ 4 (lz _ _ _ 3 (lz _ _ _ 2 (lz _ _ _ 1 (lz _ _ _ 0 q0))))) (by decide), ?_⟩
   have x5 := x4.trans (Exc.upd (H := H4) (o := .ins CC dx (V6 "most" (.int m) (V6 "least" (.int l) (V6 "rule" (.str y'.name) (V6 "room" (.int r) []))))))
   have nap : a ≠ p := fun e => by rw [e, A7] at na; cases na
   have nbp : b ≠ p := fun e => by rw [e, A7] at nb; cases nb
   have x6 := (x5.trans (.of (C8.upd (o := .lst []) na))).trans (Exc.upd (o := .ins CC dx (V6 "risen" (.ref a) (V6 "most" (.int m) (V6 "least" (.int l) (V6 "rule" (.str y'.name) (V6 "room" (.int r) [])))))))
   have x7 := (x6.trans (.of (C8.upd (o := .lst []) nb))).trans (Exc.upd (o := .ins CC dx (A4u (.int r) (.str y'.name) (.int l) (.int m) (.ref a) (.ref b))))
   refine k a b _ x7 (x5.none A7 na) (x6.none A7 nb) ⟨⟨dx, A7⟩, ?_, ?_⟩
   . rw [G6 nap]
     refine C8.upd nb _ _ ?_
     rw [G6 nap]
     exact A7
   . rw [G6 nbp]
     exact A7
 rcases bad with b1 | ⟨⟨r, rfl, r1, r2⟩, bad⟩
 . exact ⟨_, rfl, _, _, _, rfl, Y5s, .inr ⟨b1 _ (Exc.refl p H), k _ (Exc.refl p H)⟩⟩
 refine ⟨_, rfl, _, _, _, rfl, Y5s, .inl ⟨⟨r, rfl, r1, r2⟩, ?_⟩⟩
 refine ⟨_, rfl, p, CC, dx, [], rfl, hp, C.cl, C.n_room, by show 0 < 1000; decide, ?_⟩
 have x1 : Exc p H (upd H p (.ins CC dx (V6 "room" (.int r) []))) := Exc.upd
 rcases bad with b2 | ⟨⟨y', rfl⟩, bad⟩
 . exact ⟨_, rfl, _, rfl, .inr ⟨b2 _ x1, k _ x1⟩⟩
 obtain rfl := hy _ rfl
 refine ⟨_, rfl, _, rfl, .inl ⟨_, rfl, fun q dq H2 nq s2 eq => ⟨q, dq, [], rfl, eq, rfl, _, rfl, ?_⟩⟩⟩
 have hp2 := s2 _ _ (A7 (H := H) (a := p) (o := .ins CC dx (V6 "room" (.int r) [])))
 have x2 : Exc p H H2 := x1.trans (.of s2)
 refine ⟨_, rfl, p, CC, dx, _, rfl, hp2, C.cl, C.n_rule, Nat.lt_of_le_of_lt (lz _ _ _ 0 q0) (by decide), ?_⟩
 rcases bad with ⟨n3, b3⟩ | ⟨⟨l, hl⟩, b4⟩
 . refine ⟨fun _ _ => False, ?_, fun _ _ z => z.elim⟩
   refine ⟨_, rfl, rfl, _, rfl, J9 n3 ?_⟩
   exact ⟨_, rfl, _, rfl, _, _, _, rfl, U1g, .inr ⟨b3 _ (x2.trans Exc.upd), k _ (x2.trans Exc.upd)⟩⟩
 refine ⟨fun σ' H' => σ' = [some (.ref p), some (.int r), some (.str y'.name), some v3, some v4] /\ Exc p H H', ?_, ?_⟩
 . refine ⟨_, rfl, rfl, _, rfl, ?_⟩
   rcases hl with ⟨rfl, rfl⟩ | ⟨rfl, l1, l2⟩
   . refine A0p rfl ⟨_, rfl, ?_⟩
     exact ⟨_, rfl, p, CC, dx, _, rfl, A7, C.cl, C.n_least, Nat.lt_of_le_of_lt (lz _ _ _ 1 (lz _ _ _ 0 q0)) (by decide), rfl, (x2.trans Exc.upd).trans Exc.upd⟩
   . refine J9 (by intro z; cases z) ⟨_, rfl, _, rfl, _, _, _, rfl, U1g, .inl ⟨⟨l, rfl, l1, l2⟩, ?_⟩⟩
     exact ⟨_, rfl, p, CC, dx, _, rfl, A7, C.cl, C.n_least, Nat.lt_of_le_of_lt (lz _ _ _ 1 (lz _ _ _ 0 q0)) (by decide), rfl, (x2.trans Exc.upd).trans Exc.upd⟩
 rintro σ' H4 ⟨rfl, x4⟩
 exact ⟨_, rfl, _, _, _, rfl, Y4t, .inr ⟨b4 _ x4, k _ x4⟩⟩
def C9r (CC : Addr) (cw : Wy -> Addr) : Sp := fun vs H Q _ => ∃ c r y l m a b xs ys, vs = [.ref c] /\ A1s CC H c r y l m a b xs ys /\ ∀ p dx H', H p = none -> C8 H H' -> H' p = some (.ins (cw y) dx []) -> Q (.ref p) H'
theorem Y7z : C5 ["self"] ["self"] (A2 B5k) := scK
theorem V6q {f fW CC CB : Addr} {cw : Wy -> Addr} {fd fdW : FuncData} (F : Fun K "way" "Context.way" B5k f fd) (D_way_of : Def K mg "way_of" ["name"] B1d fW fdW) (G_way_of : A8 P w K mg base (CX1 P w) 1 fW fdW ["name"] (G1w K CB cw)) (C : D5f K mg CC) :
   A8 P w K mg base (CX1 P w) 2 f fd ["self"] (C9r CC cw) := by
 refine F.okE Y7z (fun vs H Q E h => ?_) (fun X cdv A outer s H vs Q E hX hr hx h => ?_)
 . obtain ⟨c, r, y, l, m, a, b, xs, ys, rfl, _⟩ := h
   rfl
 subst hX
 obtain ⟨c, r, y, l, m, a, b, xs, ys, rfl, ⟨⟨dx, e⟩, _, _⟩, k⟩ := h
 refine ⟨_, (A6 (B0 (C9 D_way_of G_way_of hr hx (A0 (D6 (pv 0) rfl) A5)))), ?_⟩
 exact ⟨_, rfl, c, CC, dx, _, _, rfl, e, C.cl, C.n_rule, Y4x _ _ _ _ _ _, _, rfl, .inl ⟨y, rfl, k⟩⟩
def C9y (CC : Addr) : Sp := fun vs H Q _ => ∃ c r y l m a b xs ys, vs = [.ref c] /\ A1s CC H c r y l m a b xs ys /\ Q (.int (l - r + 1)) H
theorem Y7b : C5 ["self"] ["self"] (A2 B5n) := scK
theorem V6f {f CC : Addr} {fd : FuncData} (F : Fun K "lowest" "Context.lowest" B5n f fd) (C : D5f K mg CC) : A8 P w K mg base (CX1 P w) 1 f fd ["self"] (C9y CC) := by
 refine A8.up (F.ok Y7b (fun vs H Q E h => ?_) (fun cdv A outer s H vs Q E hr h => ?_))
 . obtain ⟨c, r, y, l, m, a, b, xs, ys, rfl, _⟩ := h
   rfl
 obtain ⟨c, r, y, l, m, a, b, xs, ys, rfl, ⟨⟨dx, e⟩, _, _⟩, k⟩ := h
 refine ⟨_, (A6 (B0 (A9 J4 (A9 J8 (D6 (pv 0) rfl) (D6 (pv 0) rfl)) A1))), ?_⟩
 exact ⟨_, rfl, c, CC, dx, _, _, rfl, e, C.cl, C.n_least, D9k _ _ _ _ _ _, _, rfl, c, CC, dx, _, _, rfl, e, C.cl, C.n_room, A4w _ _ _ _ _ _, _, _, rfl, rfl, _, _, rfl, rfl, k⟩
def B7k (CC : Addr) : Sp := fun vs H Q _ => ∃ c r y l m a b xs ys, vs = [.ref c] /\ A1s CC H c r y l m a b xs ys /\ ∀ p, H p = none -> Q (.ref p) (upd H p (.lst xs))
theorem U1f : C5 ["self"] ["self"] (A2 A4b) := scK
theorem J3z {f CC : Addr} {fd : FuncData} (F : Fun K "flags" "Context.flags" A4b f fd) (C : D5f K mg CC) (O : Own mg) : A8 P w K mg base (CX1 P w) 1 f fd ["self"] (B7k CC) := by
 refine A8.up (F.ok U1f (fun vs H Q E h => ?_) (fun cdv A outer s H vs Q E hr h => ?_))
 . obtain ⟨c, r, y, l, m, a, b, xs, ys, rfl, _⟩ := h
   rfl
 obtain ⟨c, r, y, l, m, a, b, xs, ys, rfl, ⟨⟨dx, e⟩, ha, _⟩, k⟩ := h
 refine ⟨_, (A6 (B0 (A0k G2d (by rfl) O.list_ boot_list (A0 (D6 (pv 0) rfl) A5)))), ?_⟩
 exact ⟨_, rfl, c, CC, dx, _, _, rfl, e, C.cl, C.n_risen, D9u _ _ _ _ _ _, a, xs, rfl, .inl (SqL.of ha), k⟩
structure A0qz (P : Program) (w : World) (K : Frag) (mg : Str -> Option Value) (base : Heap) (CC CB fI : Addr) (fdI : FuncData) : Prop where
 m : Mk K CC fI
 g : A8 P w K mg base (CX1 P w) 3 fI fdI Q45 (C1q K CC CB)
theorem A0jm {C x dx : Addr} {H H' : Hp} (n1 : H x = none) (n2 : H dx = none) (ne : dx ≠ x) (e : Exc x (upd (upd H dx (.own x)) x (.ins C dx [])) H') : C8 H H' := fun b o h =>
 e b o (by rw [G6 (G7 h n1), G6 (G7 h n2)]; exact h) (G7 h n1)
theorem A0yd {CC CB x dx : Addr} {H : Hp} {Q : VK} {E : XK} {v1 v2 v3 v4 : V} {r : Int} {y : Wy} {l m : Int} (n1 : H x = none) (n2 : H dx = none) (ne : dx ≠ x) (h1 : v1 = .int r) (r1 : 1 <= r) (r2 : r <= 24) (h2 : v2 = .str y.name) (h3 : U1r l v3) (h4 : v4 = .int m) (m1 : 0 <= m) (m2 : m <= 60)
   (k : ∀ a b H', C8 H H' -> A1s CC H' x r y l m a b [] [] -> Q .non H') : C1q K CC CB [.ref x, v1, v2, v3, v4] (upd (upd H dx (.own x)) x (.ins CC dx [])) Q E :=
 ⟨x, dx, v1, v2, v3, v4, rfl, A7, .inl ⟨r, y, l, m, h1, r1, r2, h2, h3, h4, m1, m2, fun a b H' e _ _ c => k a b H' (A0jm n1 n2 ne e) c⟩⟩
abbrev B5r : Stmt := (J2 (top 16) 0)
theorem Y5f : C5 Q46 Q46 (A2 B5r) := scK
theorem V6y {f CT fI : Addr} {fd : FuncData} (F : Fun K "__init__" "Trapped.__init__" B5r f fd) (XI : V7z K CT fI) (hn : findIn K (.ref CT) "signal" = some none) : A8 P w K mg base CX0 1 f fd Q46 (G1u CT "signal") := by
 refine F.ok Y5f (fun vs H Q E h => ?_) (fun cdv A outer s H vs Q E hr h => ?_)
 . obtain ⟨e, t, v, rfl, _⟩ := h
   rfl
 obtain ⟨e, t, v, rfl, he, k⟩ := h
 refine ⟨_, (A6 (A0jp XI hn (pv 0) (pv 1) rfl)), ?_⟩
 exact ⟨_, rfl, _, rfl, e, t, rfl, he, fun d nd ne => k d nd ne⟩
abbrev A1t : Stmt := (J2 (top 67) 7)
theorem J4d (r s l m a b : V) : (A4u r s l m a b).length = 6 := rfl
theorem C8s (r s l m a b v : V) : V6 "risen" v (A4u r s l m a b) = A4u r s l m v b := rfl
def hit (ys zs : List Str) : Option Str := ys.find? fun t => zs.contains t
def C9j (K : Frag) (CC CB CT : Addr) : Sp := fun vs H Q E => ∃ c r y l m a b, ∃ (xs ys : List Str) (v : V), vs = [.ref c, v] /\ A1s CC H c r y l m a b (xs.map V.str) (ys.map V.str) /\ xs.length + 100 <= 1000 /\
 ((∃ (p : Addr) (zs : List Str), v = .ref p /\ H p = some (.lst (zs.map V.str)) /\ zs.length <= 100 /\ (∀ z ∈ zs, z ∈ B8e) /\
     (hit ys zs = none -> ∀ a' H', Exc c H H' -> H a' = none -> A1s CC H' c r y l m a' b ((Z2 (xs ++ zs)).map V.str) (ys.map V.str) -> Q .non H') /\
     (∀ t, hit ys zs = some t -> ∀ a' d H', Exc c H H' -> H a' = none -> A1s CC H' c r y l m a' b ((Z2 (xs ++ zs)).map V.str) (ys.map V.str) -> H d = none -> H' d = some (.xd [("signal", .str t)]) -> E (.ref CT) (some d) H')) \/
  (Y6f K H v /\ E (.ref CB) none H))
theorem scRaised : C5 ["self", "names", "name"] ["self", "names"] (A2 A1t) := scK
theorem V6m {f f1 f2 fX CC CB CT : Addr} {fd fd1 fd2 fdX : FuncData} (F : Fun K "raised" "Context.raised" A1t f fd) (D_need_signals : Def K mg "need_signals" ["names"] B8b f1 fd1) (G_need_signals : A8 P w K mg base (CX1 P w) 1 f1 fd1 ["names"] (V3y K CB))
   (D_in_order : Def K mg "in_order" ["names"] B7w f2 fd2) (G_in_order : A8 P w K mg base (CX1 P w) 1 f2 fd2 ["names"] (V2s K)) (C : D5f K mg CC)
   (gT : mg "Trapped" = some (.ref CT)) (XI : V7z K CT fX) (GX : A8 P w K mg base CX0 1 fX fdX Q46 (G1u CT "signal")) (BX : Binds K fdX Q46 []) : A8 P w K mg base (CX1 P w) 3 f fd ["self", "names"] (C9j K CC CB CT) := by
 refine F.okE scRaised (fun vs H Q E h => ?_) (fun X cdv A outer s H vs Q E hX hr hx h => ?_)
 . obtain ⟨c, r, y, l, m, a, b, xs, ys, v, rfl, _⟩ := h
   rfl
 subst hX
 obtain ⟨c, r, y, l, m, a, b, xs, ys, v, rfl, ⟨⟨dx, e⟩, ha, hb⟩, lx, h⟩ := h
 refine ⟨_, (A3 (V8 (C9 D_need_signals G_need_signals hr hx (A0 (pv 1) A5))) (A3 (Z7 (pv 0) (C9 D_in_order G_in_order hr hx (A0 (A9 G2a (D6 (pv 0) rfl) (pv 1)) A5)) rfl) (A6 (B7f PassesOwn.leaving rfl (G2f (D6 (pv 0) rfl)) (J7 (i := 2) scRaised.nd rfl (Or.inl rfl)) (A6 (G4 (C7 A4c (pv 2) (pv 1) (by rfl)) (A6 (V7u gT XI GX BX hr hx (A0 (pv 2) A5))) D0)))))), ?_⟩
 rcases h with ⟨p, zs, rfl, hp, lz, hz, k1, k2⟩ | ⟨bad, k⟩
 . refine ⟨_, rfl, _, rfl, .inl ⟨p, zs, rfl, hp, hz, ?_⟩⟩
   refine ⟨_, rfl, c, CC, dx, _, _, rfl, e, C.cl, C.n_risen, D9u _ _ _ _ _ _, _, rfl, a, p, _, _, rfl, rfl, ha, hp, D7 (by rw [List.length_map, List.length_map]; omega), fun q nq => ?_⟩
   have u1 := C8.upd (o := .lst (xs.map V.str ++ zs.map V.str)) nq
   refine ⟨q, xs ++ zs, rfl, SqL.of (by rw [A7, List.map_append]), fun a' H1 s1 n1 e1 => ?_⟩
   have s2 := u1.trans s1
   refine ⟨_, rfl, c, CC, dx, _, rfl, s2 _ _ e, C.cl, C.n_risen, by rw [J4d]; decide, ?_⟩
   rw [C8s]
   have nbc : b ≠ c := A7b hb e (by intro z; cases z)
   have npc : p ≠ c := A7b hp e (by intro z; cases z)
   have nac : a' ≠ c := A7b e1 (s2 _ _ e) (by intro z; cases z)
   have x2 : Exc c H (upd H1 c (.ins CC dx (A4u (.int r) (.str y.name) (.int l) (.int m) (.ref a') (.ref b)))) := (Exc.of s2).trans Exc.upd
   have hb2 : (upd H1 c (.ins CC dx (A4u (.int r) (.str y.name) (.int l) (.int m) (.ref a') (.ref b)))) b = some (.lst (ys.map V.str)) := by rw [G6 nbc]; exact s2 _ _ hb
   have hp2 : (upd H1 c (.ins CC dx (A4u (.int r) (.str y.name) (.int l) (.int m) (.ref a') (.ref b)))) p = some (.lst (zs.map V.str)) := by rw [G6 npc]; exact s2 _ _ hp
   have ct : A1s CC (upd H1 c (.ins CC dx (A4u (.int r) (.str y.name) (.int l) (.int m) (.ref a') (.ref b)))) c r y l m a' b ((Z2 (xs ++ zs)).map V.str) (ys.map V.str) := ⟨⟨dx, A7⟩, by rw [G6 nac]; exact e1, hb2⟩
   refine ⟨_, rfl, c, CC, dx, _, _, rfl, A7, C.cl, C.n_trapped, J5b _ _ _ _ _ _, b, rfl, ⟨_, SqL.of hb2⟩, ?_⟩
   generalize upd H1 c (.ins CC dx (A4u (.int r) (.str y.name) (.int l) (.int m) (.ref a') (.ref b))) = H3 at x2 hb2 hp2 ct ⊢
   refine B1w (xs := ys.map V.str) (fun i σ H' => H' = H3 /\ (∀ t ∈ ys.take i, zs.contains t = false) /\ ∃ v, σ = [some (.ref c), some (.ref p), v]) ⟨rfl, by simp, none, rfl⟩ ?_ ?_ ?_
   . rintro i σ H' _ ⟨rfl, _⟩
     exact SqL.of hb2
   . rintro i x σ H' hi ⟨rfl, ht, v, rfl⟩
     rw [List.getElem?_map] at hi
     obtain ⟨t, hti, rfl⟩ := Option.map_eq_some_iff.mp hi
     refine ⟨_, rfl, _, rfl, p, _, rfl, .inl (SqL.of hp2), rfl, A1w _, _, rfl, ?_⟩
     have hlt : i < ys.length := (List.getElem?_eq_some_iff.mp hti).1
     have et : ys.take (i + 1) = ys.take i ++ [t] := by
       rw [List.take_succ_eq_append_getElem hlt, (List.getElem?_eq_some_iff.mp hti).2]
     cases hc : zs.contains t with
     | false =>
       rw [show (if false = true then !inV (V.str t) (zs.map V.str) else inV (V.str t) (zs.map V.str)) = false by rw [if_neg Bool.false_ne_true, A7r, hc]]
       refine V3 ⟨rfl, fun t' h' => ?_, _, rfl⟩
       rw [et] at h'
       rcases List.mem_append.mp h' with h' | h'
       . exact ht t' h'
       . rw [List.mem_singleton.mp h']; exact hc
     | true =>
       rw [show (if false = true then !inV (V.str t) (zs.map V.str) else inV (V.str t) (zs.map V.str)) = true by rw [if_neg Bool.false_ne_true, A7r, hc]]
       obtain ⟨dx', hc3⟩ := ct.ins
       refine Z5 ⟨_, rfl, _, rfl, fun d H4 s4 nd e4 => ?_⟩
       refine k2 t ?_ a' d H4 (x2.trans (.of s4)) ((u1.free n1)) (ct.same s4) (x2.none hc3 nd) e4
       unfold hit
       rw [List.find?_eq_some_iff_append]
       refine ⟨hc, ys.take i, ys.drop (i + 1), ?_, fun t' h' => by rw [ht t' h']; rfl⟩
       have := List.take_append_drop (i + 1) ys
       rw [et] at this
       rw [List.append_assoc] at this
       exact this.symm
   . rintro σ H' ⟨rfl, ht, v, rfl⟩
     refine k1 ?_ a' _ x2 (u1.free n1) ct
     unfold hit
     rw [List.find?_eq_none]
     rw [List.length_map, List.take_length] at ht
     intro t hm
     rw [ht t hm]
     exact Bool.false_ne_true
 exact ⟨_, rfl, _, rfl, .inr ⟨bad, k⟩⟩
def Wy.goes (y : Wy) (s last part : Int) : Bool := match y with
 | .down => false
 | .up => true
 | .floor => decide (V.int s = V.int 1)
 | .ceiling => decide (V.int s = V.int 0)
 | .halfUp => decide (part >= 2)
 | .halfDown => decide (V.int part = V.int 3)
 | .halfEven => if decide (V.int part = V.int 3) = true then true else if decide (V.int part = V.int 2) = true then decide (V.int (last % 2) = V.int 1) else false
 | .fiveUp => inV (.int last) [.int 0, .int 5]
def Wy.toEnd (y : Wy) (s : Int) : Bool := match y with
 | .down => false
 | .up => true
 | .floor => decide (V.int s = V.int 1)
 | .ceiling => decide (V.int s = V.int 0)
 | .halfUp => true
 | .halfDown => true
 | .halfEven => true
 | .fiveUp => false
def A8d (y : Wy) : Sp := fun vs H Q _ => ∃ p s l t, vs = [.ref p, .int s, .int l, .int t] /\ ∀ H', C8 H H' -> Q (.bl (y.goes s l t)) H'
def A3q (y : Wy) : Sp := fun vs H Q _ => ∃ p s, vs = [.ref p, .int s] /\ ∀ H', C8 H H' -> Q (.bl (y.toEnd s)) H'
def WayU (P : Program) (w : World) (K : Frag) (mg : Str -> Option Value) (base : Heap) (C : Addr) (y : Wy) : Prop := Has P w K mg base C "goes_up" 1 Q0 (A8d y)
def WayE (P : Program) (w : World) (K : Frag) (mg : Str -> Option Value) (base : Heap) (C : Addr) (y : Wy) : Prop := Has P w K mg base C "to_end" 1 Q3 (A3q y)
abbrev sU0 : Stmt := (J2 (top 56) 1)
theorem scU0 : C5 Q0 Q0 (A2 sU0) := scK
theorem A0zw {f : Addr} {fd : FuncData} (F : Fun K "goes_up" "Down.goes_up" sU0 f fd) : A8 P w K mg base (CX1 P w) 1 f fd Q0 (A8d .down) := by
 refine A8.up (F.ok scU0 (fun vs H Q E h => ?_) (fun cdv A outer s H vs Q E hr h => ?_))
 . obtain ⟨p, z, l, t, rfl, _⟩ := h
   rfl
 obtain ⟨p, z, l, t, rfl, k⟩ := h
 refine ⟨_, (A6 (B0 A3k)), ?_⟩
 exact k H (C8.refl H)
abbrev sT0 : Stmt := (J2 (top 56) 2)
theorem scT0 : C5 Q3 Q3 (A2 sT0) := scK
theorem A0yz {f : Addr} {fd : FuncData} (F : Fun K "to_end" "Down.to_end" sT0 f fd) : A8 P w K mg base (CX1 P w) 1 f fd Q3 (A3q .down) := by
 refine A8.up (F.ok scT0 (fun vs H Q E h => ?_) (fun cdv A outer s H vs Q E hr h => ?_))
 . obtain ⟨p, z, rfl, _⟩ := h
   rfl
 obtain ⟨p, z, rfl, k⟩ := h
 refine ⟨_, (A6 (B0 A3k)), ?_⟩
 exact k H (C8.refl H)
abbrev sU1 : Stmt := (J2 (top 57) 1)
theorem scU1 : C5 Q0 Q0 (A2 sU1) := scK
theorem A0zj {f : Addr} {fd : FuncData} (F : Fun K "goes_up" "Up.goes_up" sU1 f fd) : A8 P w K mg base (CX1 P w) 1 f fd Q0 (A8d .up) := by
 refine A8.up (F.ok scU1 (fun vs H Q E h => ?_) (fun cdv A outer s H vs Q E hr h => ?_))
 . obtain ⟨p, z, l, t, rfl, _⟩ := h
   rfl
 obtain ⟨p, z, l, t, rfl, k⟩ := h
 refine ⟨_, (A6 (B0 A3k)), ?_⟩
 exact k H (C8.refl H)
abbrev sT1 : Stmt := (J2 (top 57) 2)
theorem scT1 : C5 Q3 Q3 (A2 sT1) := scK
theorem A0xq {f : Addr} {fd : FuncData} (F : Fun K "to_end" "Up.to_end" sT1 f fd) : A8 P w K mg base (CX1 P w) 1 f fd Q3 (A3q .up) := by
 refine A8.up (F.ok scT1 (fun vs H Q E h => ?_) (fun cdv A outer s H vs Q E hr h => ?_))
 . obtain ⟨p, z, rfl, _⟩ := h
   rfl
 obtain ⟨p, z, rfl, k⟩ := h
 refine ⟨_, (A6 (B0 A3k)), ?_⟩
 exact k H (C8.refl H)
abbrev sU2 : Stmt := (J2 (top 58) 1)
theorem scU2 : C5 Q0 Q0 (A2 sU2) := scK
theorem A0xz {f : Addr} {fd : FuncData} (F : Fun K "goes_up" "Floor.goes_up" sU2 f fd) : A8 P w K mg base (CX1 P w) 1 f fd Q0 (A8d .floor) := by
 refine A8.up (F.ok scU2 (fun vs H Q E h => ?_) (fun cdv A outer s H vs Q E hr h => ?_))
 . obtain ⟨p, z, l, t, rfl, _⟩ := h
   rfl
 obtain ⟨p, z, l, t, rfl, k⟩ := h
 refine ⟨_, (A6 (B0 (G9 G2 (pv 1) A1 (C6 _)))), ?_⟩
 exact ⟨_, rfl, rfl, k H (C8.refl H)⟩
abbrev sT2 : Stmt := (J2 (top 58) 2)
theorem scT2 : C5 Q3 Q3 (A2 sT2) := scK
theorem A0xj {f : Addr} {fd : FuncData} (F : Fun K "to_end" "Floor.to_end" sT2 f fd) : A8 P w K mg base (CX1 P w) 1 f fd Q3 (A3q .floor) := by
 refine A8.up (F.ok scT2 (fun vs H Q E h => ?_) (fun cdv A outer s H vs Q E hr h => ?_))
 . obtain ⟨p, z, rfl, _⟩ := h
   rfl
 obtain ⟨p, z, rfl, k⟩ := h
 refine ⟨_, (A6 (B0 (G9 G2 (pv 1) A1 (C6 _)))), ?_⟩
 exact ⟨_, rfl, rfl, k H (C8.refl H)⟩
abbrev sU3 : Stmt := (J2 (top 59) 1)
theorem scU3 : C5 Q0 Q0 (A2 sU3) := scK
theorem A0yc {f : Addr} {fd : FuncData} (F : Fun K "goes_up" "Ceiling.goes_up" sU3 f fd) : A8 P w K mg base (CX1 P w) 1 f fd Q0 (A8d .ceiling) := by
 refine A8.up (F.ok scU3 (fun vs H Q E h => ?_) (fun cdv A outer s H vs Q E hr h => ?_))
 . obtain ⟨p, z, l, t, rfl, _⟩ := h
   rfl
 obtain ⟨p, z, l, t, rfl, k⟩ := h
 refine ⟨_, (A6 (B0 (G9 G2 (pv 1) A1 (C6 _)))), ?_⟩
 exact ⟨_, rfl, rfl, k H (C8.refl H)⟩
abbrev sT3 : Stmt := (J2 (top 59) 2)
theorem scT3 : C5 Q3 Q3 (A2 sT3) := scK
theorem A0yv {f : Addr} {fd : FuncData} (F : Fun K "to_end" "Ceiling.to_end" sT3 f fd) : A8 P w K mg base (CX1 P w) 1 f fd Q3 (A3q .ceiling) := by
 refine A8.up (F.ok scT3 (fun vs H Q E h => ?_) (fun cdv A outer s H vs Q E hr h => ?_))
 . obtain ⟨p, z, rfl, _⟩ := h
   rfl
 obtain ⟨p, z, rfl, k⟩ := h
 refine ⟨_, (A6 (B0 (G9 G2 (pv 1) A1 (C6 _)))), ?_⟩
 exact ⟨_, rfl, rfl, k H (C8.refl H)⟩
abbrev sU4 : Stmt := (J2 (top 60) 1)
theorem scU4 : C5 Q0 Q0 (A2 sU4) := scK
theorem A0zv {f : Addr} {fd : FuncData} (F : Fun K "goes_up" "HalfUp.goes_up" sU4 f fd) : A8 P w K mg base (CX1 P w) 1 f fd Q0 (A8d .halfUp) := by
 refine A8.up (F.ok scU4 (fun vs H Q E h => ?_) (fun cdv A outer s H vs Q E hr h => ?_))
 . obtain ⟨p, z, l, t, rfl, _⟩ := h
   rfl
 obtain ⟨p, z, l, t, rfl, k⟩ := h
 refine ⟨_, (A6 (B0 (G9 D9e (pv 3) A1 (C6 _)))), ?_⟩
 exact ⟨_, rfl, _, _, rfl, rfl, k H (C8.refl H)⟩
abbrev sT4 : Stmt := (J2 (top 60) 2)
theorem scT4 : C5 Q3 Q3 (A2 sT4) := scK
theorem A0ya {f : Addr} {fd : FuncData} (F : Fun K "to_end" "HalfUp.to_end" sT4 f fd) : A8 P w K mg base (CX1 P w) 1 f fd Q3 (A3q .halfUp) := by
 refine A8.up (F.ok scT4 (fun vs H Q E h => ?_) (fun cdv A outer s H vs Q E hr h => ?_))
 . obtain ⟨p, z, rfl, _⟩ := h
   rfl
 obtain ⟨p, z, rfl, k⟩ := h
 refine ⟨_, (A6 (B0 A3k)), ?_⟩
 exact k H (C8.refl H)
abbrev sU5 : Stmt := (J2 (top 61) 1)
theorem scU5 : C5 Q0 Q0 (A2 sU5) := scK
theorem A0xf {f : Addr} {fd : FuncData} (F : Fun K "goes_up" "HalfDown.goes_up" sU5 f fd) : A8 P w K mg base (CX1 P w) 1 f fd Q0 (A8d .halfDown) := by
 refine A8.up (F.ok scU5 (fun vs H Q E h => ?_) (fun cdv A outer s H vs Q E hr h => ?_))
 . obtain ⟨p, z, l, t, rfl, _⟩ := h
   rfl
 obtain ⟨p, z, l, t, rfl, k⟩ := h
 refine ⟨_, (A6 (B0 (G9 G2 (pv 3) A1 (C6 _)))), ?_⟩
 exact ⟨_, rfl, rfl, k H (C8.refl H)⟩
abbrev sT5 : Stmt := (J2 (top 61) 2)
theorem scT5 : C5 Q3 Q3 (A2 sT5) := scK
theorem A0yw {f : Addr} {fd : FuncData} (F : Fun K "to_end" "HalfDown.to_end" sT5 f fd) : A8 P w K mg base (CX1 P w) 1 f fd Q3 (A3q .halfDown) := by
 refine A8.up (F.ok scT5 (fun vs H Q E h => ?_) (fun cdv A outer s H vs Q E hr h => ?_))
 . obtain ⟨p, z, rfl, _⟩ := h
   rfl
 obtain ⟨p, z, rfl, k⟩ := h
 refine ⟨_, (A6 (B0 A3k)), ?_⟩
 exact k H (C8.refl H)
abbrev sU6 : Stmt := (J2 (top 62) 1)
theorem scU6 : C5 Q0 Q0 (A2 sU6) := scK
theorem A0zt {f : Addr} {fd : FuncData} (F : Fun K "goes_up" "HalfEven.goes_up" sU6 f fd) : A8 P w K mg base (CX1 P w) 1 f fd Q0 (A8d .halfEven) := by
 refine A8.up (F.ok scU6 (fun vs H Q E h => ?_) (fun cdv A outer s H vs Q E hr h => ?_))
 . obtain ⟨p, z, l, t, rfl, _⟩ := h
   rfl
 obtain ⟨p, z, l, t, rfl, k⟩ := h
 refine ⟨_, (A6 (B0 (V2x (G9 G2 (pv 3) A1 (C6 _)) (A6d (B1x (G9 G2 (pv 3) A1 (C6 _)) (A6d (G9 G2 (A9 J0 (pv 2) A1) A1 (C6 _)))))))), ?_⟩
 have k := k H (C8.refl H)
 unfold Wy.goes at k
 refine ⟨_, rfl, rfl, _, rfl, ?_⟩
 cases e : decide (V.int t = V.int 3) with
 | true => rw [e] at k; exact Z5 k
 | false =>
   rw [e] at k
   refine V3 ⟨_, rfl, rfl, _, rfl, ?_⟩
   cases e2 : decide (V.int t = V.int 2) with
   | true => rw [e2] at k; exact Z5 ⟨_, rfl, _, _, rfl, rfl, (by decide : (0 : Int) < 2), rfl, k⟩
   | false => rw [e2] at k; exact V3 k
abbrev sT6 : Stmt := (J2 (top 62) 2)
theorem scT6 : C5 Q3 Q3 (A2 sT6) := scK
theorem A0xc {f : Addr} {fd : FuncData} (F : Fun K "to_end" "HalfEven.to_end" sT6 f fd) : A8 P w K mg base (CX1 P w) 1 f fd Q3 (A3q .halfEven) := by
 refine A8.up (F.ok scT6 (fun vs H Q E h => ?_) (fun cdv A outer s H vs Q E hr h => ?_))
 . obtain ⟨p, z, rfl, _⟩ := h
   rfl
 obtain ⟨p, z, rfl, k⟩ := h
 refine ⟨_, (A6 (B0 A3k)), ?_⟩
 exact k H (C8.refl H)
abbrev sU7 : Stmt := (J2 (top 63) 1)
theorem scU7 : C5 Q0 Q0 (A2 sU7) := scK
theorem A0xe {f : Addr} {fd : FuncData} (F : Fun K "goes_up" "FiveUp.goes_up" sU7 f fd) : A8 P w K mg base (CX1 P w) 1 f fd Q0 (A8d .fiveUp) := by
 refine A8.up (F.ok scU7 (fun vs H Q E h => ?_) (fun cdv A outer s H vs Q E hr h => ?_))
 . obtain ⟨p, z, l, t, rfl, _⟩ := h
   rfl
 obtain ⟨p, z, l, t, rfl, k⟩ := h
 refine ⟨_, (A6 (B0 (G9 A4c (pv 2) (U6 (A0 A1 (A0 A1 A5))) (by rfl)))), ?_⟩
 exact ⟨_, rfl, D7 (by decide), fun q nq => ⟨q, _, rfl, .inr (SqT.of A7), rfl, rfl, k _ (C8.upd nq)⟩⟩
abbrev sT7 : Stmt := (J2 (top 63) 2)
theorem scT7 : C5 Q3 Q3 (A2 sT7) := scK
theorem A0xt {f : Addr} {fd : FuncData} (F : Fun K "to_end" "FiveUp.to_end" sT7 f fd) : A8 P w K mg base (CX1 P w) 1 f fd Q3 (A3q .fiveUp) := by
 refine A8.up (F.ok scT7 (fun vs H Q E h => ?_) (fun cdv A outer s H vs Q E hr h => ?_))
 . obtain ⟨p, z, rfl, _⟩ := h
   rfl
 obtain ⟨p, z, rfl, k⟩ := h
 refine ⟨_, (A6 (B0 A3k)), ?_⟩
 exact k H (C8.refl H)
abbrev A5g : Stmt := (top 34)
abbrev A2s : Stmt := (top 35)
abbrev A0d : Stmt := (top 36)
abbrev A5n : Stmt := (top 37)
abbrev A5p : Stmt := (top 38)
abbrev B1c : Stmt := (top 39)
abbrev B1n : Stmt := (top 40)
abbrev A4j : Stmt := (top 41)
abbrev A4p : Stmt := (top 42)
abbrev A0h : Stmt := (top 43)
structure Cv where
 r : Int
 y : Wy
 l : Int
 m : Int
structure Cv.Ok (c : Cv) : Prop where
 r1 : 1 <= c.r
 r2 : c.r <= 24
 l1 : -60 <= c.l
 l2 : c.l <= 0
 m1 : 0 <= c.m
 m2 : c.m <= 60
def C6q (ideal : Int) : Nat -> Int -> Int -> Int × Int
 | 0, f, p => (f, p)
 | n + 1, f, p => if f % 10 = 0 then C6q ideal n (f / 10) (p + 1) else (f, p)
def Z1 (ideal f p : Int) : Int × Int := C6q ideal (ideal - p).toNat f p
theorem C9p {ideal f p : Int} (h : p < ideal) (z : f % 10 = 0) : Z1 ideal f p = Z1 ideal (f / 10) (p + 1) := by
 unfold Z1
 obtain ⟨n, hn⟩ : ∃ n, (ideal - p).toNat = n + 1 := ⟨(ideal - p).toNat - 1, by omega⟩
 rw [hn, show (ideal - (p + 1)).toNat = n by omega]
 show (if f % 10 = 0 then C6q ideal n (f / 10) (p + 1) else (f, p)) = _
 rw [if_pos z]
theorem C9x {ideal f p : Int} (h : ¬ (p < ideal /\ f % 10 = 0)) : Z1 ideal f p = (f, p) := by
 unfold Z1
 by_cases q : p < ideal
 . obtain ⟨n, hn⟩ : ∃ n, (ideal - p).toNat = n + 1 := ⟨(ideal - p).toNat - 1, by omega⟩
   rw [hn]
   show (if f % 10 = 0 then C6q ideal n (f / 10) (p + 1) else (f, p)) = _
   rw [if_neg fun z => h ⟨q, z⟩]
 rw [show (ideal - p).toNat = 0 by omega]
 rfl
def V4 (f : Int) : Int := ((Str.ofString (toString f)).length : Nat)
def upI (y : Wy) (s wh pt : Int) : Int := if (if pt = 0 then false else y.goes s (wh % 10) pt) = true then wh + 1 else wh
def B6r (r f q : Int) : Int × Int := if f = A4 r then (f / 10, q + 1) else (f, q)
def Z3 (c : Cv) (s wh pt q ideal : Int) : Int × Int := if pt = 0 then Z1 ideal wh q else B6r c.r (upI c.y s wh pt) q
def A3p (m f p : Int) : Bool := if f = 0 then false else decide (p + V4 f - 1 > m)
def C9z (c : Cv) (s : Int) : Nm := if c.y.toEnd s = true then ⟨.end_, s, 0, 0⟩ else ⟨.plain, s, A4 c.r - 1, c.m - c.r + 1⟩
def Y0 (pt : Int) (cut : Bool) : List Str := if pt = 0 then (if cut = true then ["cut"] else []) else ["off", "cut"]
def A1b (l L pt : Int) : List Str := if L >= l then [] else if pt = 0 then ["faint"] else ["sunk", "faint"]
def C0m (c : Cv) (s wh pt L q ideal : Int) : Nm × List Str :=
 if A3p c.m (Z3 c s wh pt q ideal).1 (Z3 c s wh pt q ideal).2 = true then (C9z c s, Q53)
 else (⟨.plain, s, (Z3 c s wh pt q ideal).1, (Z3 c s wh pt q ideal).2⟩, Y0 pt (decide ((Z3 c s wh pt q ideal).2 > ideal)) ++ A1b c.l L pt)
def A0v (a b : Int) : Int := if b > a then b else a
def J4a (a b : Int) : Int := if b < a then b else a
def A0n (CC : Addr) (H : Hp) (c : Addr) (v : Cv) (a b : Addr) (xs ys : List Str) : Prop := A1s CC H c v.r v.y v.l v.m a b (xs.map V.str) (ys.map V.str)
theorem A0n.same {CC : Addr} {H H' : Hp} {c : Addr} {v : Cv} {a b : Addr} {xs ys : List Str} (h : A0n CC H c v a b xs ys) (e : C8 H H') : A0n CC H' c v a b xs ys := A1s.same h e
theorem C9a {CN : Addr} {H : Hp} {Q : VK} {E : XK} {k s f p : V} (h : ∀ n H', H n = none -> C8 H H' -> A5a CN H' n k s f p -> Q (.ref n) H') :
   ∀ x dx, H x = none -> H dx = none -> dx ≠ x -> G1c CN (.ref x :: ([k, s, f, p] ++ [])) (upd (upd H dx (.own x)) x (.ins CN dx [])) (fun v H2 => v = .non /\ Q (.ref x) H2) E := by
 intro x dx nx nd ne
 refine ⟨x, dx, k, s, f, p, rfl, A7, fun H' e kp => ⟨rfl, h x H' nx (fun b o z => ?_) ⟨dx, e⟩⟩⟩
 refine kp b o ?_ (G7 z nx)
 rw [G6 (G7 z nx), G6 (G7 z nd)]
 exact z
structure B8d (P : Program) (w : World) (K : Frag) (mg : Str -> Option Value) (base : Heap) (CC CB CT CW : Addr) (cw : Wy -> Addr) : Prop where
 c : D5f K mg CC
 way : Has P w K mg base CC "way" 2 ["self"] (C9r CC cw)
 low : Has P w K mg base CC "lowest" 1 ["self"] (C9y CC)
 raised : Has P w K mg base CC "raised" 3 ["self", "names"] (C9j K CC CB CT)
 wc : ∀ y : Wy, C7f K mg y.cls (cw y) CW
 u : ∀ y : Wy, WayU P w K mg base (cw y) y
 e : ∀ y : Wy, WayE P w K mg base (cw y) y
def D8x (CN : Addr) : Sp := fun vs H Q _ => ∃ i s f p : Int, vs = [.int i, .int s, .int f, .int p] /\ ∀ n H', H n = none -> C8 H H' -> V1 CN H' n ⟨.plain, s, (Z1 i f p).1, (Z1 i f p).2⟩ -> Q (.ref n) H'
theorem scNearest : C5 Q23 Q23 (A2 A2s) := scK
theorem U1b {f fI CN : Addr} {fd fdI : FuncData} (D : Def K mg "nearest_to" Q23 A2s f fd) (N : Num K mg CN) (M : C0n P w K mg base CN fI fdI) : A8 P w K mg base (CX1 P w) 3 f fd Q23 (D8x CN) := by
 refine A8.up (D.F.ok scNearest (fun vs H Q E h => ?_) (fun cdv A outer s H vs Q E hr h => ?_))
 . obtain ⟨i, s, f, p, rfl, _⟩ := h
   rfl
 obtain ⟨i, sg, fg, pw, rfl, k⟩ := h
 have hx : U1 (A2a CX0 P w K mg base Q23 "nearest_to" (A2 A2s) f cdv A outer s H E).nox EKF := Y1
 refine ⟨_, (A3 (A2q PassesOwn.never (PW.pt (C1u (C7 B6t (pv 3) (pv 0) (C6 _)) (B5v (C7 G2 (A9 J0 (pv 2) A1) A1 (C6 _))))) (A3 (D3 (i := 2) scNearest.nd rfl (Or.inl rfl) (A9 D8 (pv 2) A1)) (A6 (D3 (i := 3) scNearest.nd rfl (Or.inl rfl) (A9 J4 (pv 3) A1))))) (A6 (B0 (A6v M.m (A8.up M.g) hr N.g M.b .nil hx (A0 D5 (A0 (pv 1) (A0 (pv 2) (A0 (pv 3) A5)))))))), ?_⟩
 have d10 : (0 : Int) < 10 /\ (10 : Int).natAbs.log2 < 9000 := ⟨by decide, by decide +kernel⟩
 refine A0z (fun σ H2 => H2 = H /\ ∃ f p : Int, Z1 i f p = Z1 i fg pw /\ σ = [some (.int i), some (.int sg), some (.int f), some (.int p)]) (fun σ _ => match σ with | [_, _, _, some (.int p)] => (i - p).toNat | _ => 0) ?_ ?_ ?_
 . exact ⟨rfl, fg, pw, rfl, rfl⟩
 . rintro σ H2 ⟨rfl, f, p, e, rfl⟩
   have stop : ¬ (p < i /\ f % 10 = 0) -> ∀ n H', H2 n = none -> C8 H2 H' -> A5a CN H' n (.str "plain") (.int sg) (.int f) (.int p) -> Q (.ref n) H' := fun h n H' nn sm num => by
     refine k n H' nn sm ?_
     rw [<- e, C9x h]
     exact num
   refine ⟨_, rfl, _, rfl, _, _, rfl, rfl, _, rfl, J1 (fun h1 => ?_) (fun h1 => V3 ⟨_, rfl, _, rfl, _, rfl, C9a (stop fun q => h1 q.1)⟩)⟩
   refine ⟨_, rfl, _, _, rfl, rfl, d10.1, rfl, _, rfl, J1 (fun h2 => ?_) (fun h2 => ⟨_, rfl, _, rfl, _, rfl, C9a (stop fun q => h2 (congrArg V.int q.2))⟩)⟩
   have h1 : p < i := h1
   have h2 : f % 10 = 0 := by injection h2
   refine ⟨_, rfl, _, _, rfl, rfl, d10, _, rfl, _, _, rfl, rfl, ⟨rfl, f / 10, p + 1, (C9p h1 h2).symm.trans e, rfl⟩, ?_⟩
   show (i - (p + 1)).toNat < (i - p).toNat
   omega
 rintro σ H2 Q1 Q2 hQ ⟨v, e, v2, e2, a, b, e3, e4, c, e5, q⟩
 refine ⟨v, e, v2, e2, a, b, e3, e4, c, e5, ?_⟩
 cases c with
 | false => exact V3 (hQ _ _ (by simpa using q))
 | true =>
   have q : _ := q
   rw [if_pos rfl] at q ⊢
   obtain ⟨v3, e6, a2, b2, e7, e8, e9, e10, e11, e12, q⟩ := q
   exact ⟨v3, e6, a2, b2, e7, e8, e9, e10, e11, e12, hQ _ _ q⟩
def C6j (CC : Addr) : Sp := fun vs H Q _ => ∃ c v a b xs ys p, ∃ s wh pt : Int, vs = [.ref c, .int s, .ref p] /\ A0n CC H c v a b xs ys /\ H p = some (.tup [.int wh, .int pt]) /\ ∀ H', C8 H H' -> Q (.int (upI v.y s wh pt)) H'
theorem J4u : C5 Q24 Q24 (A2 A0d) := scK
theorem G2p {f CC CB CT CW : Addr} {cw : Wy -> Addr} {fd : FuncData} (D : Def K mg "neighbour" Q24 A0d f fd) (C : B8d P w K mg base CC CB CT CW cw) : A8 P w K mg base (CX1 P w) 3 f fd Q24 (C6j CC) := by
 refine A8.up (D.F.ok J4u (fun vs H Q E h => ?_) (fun cdv A outer s H vs Q E hr h => ?_))
 . obtain ⟨c, v, a, b, xs, ys, p, sg, wh, pt, rfl, _⟩ := h
   rfl
 obtain ⟨c, v, a, b, xs, ys, p, sg, wh, pt, rfl, hc, hp, k⟩ := h
 have hx : U1 (A2a CX0 P w K mg base Q24 "neighbour" (A2 A0d) f cdv A outer s H E).nox EKF := Y1
 obtain ⟨fW, fdW, mW, gW, bW⟩ := C.way
 obtain ⟨fU, fdU, mU, gU, bU⟩ := C.u v.y
 refine ⟨_, (A3 (G4 (PW.pt (C1u (C7 C9f (D9 G3 (pv 2) A1 (fun _ _ => rfl)) A1 (C6 _)) (B5v (Y2 (C6r (A6f (pv 0) C.c.cl mW gW hr bW .nil hx) (C.wc v.y).cl mU gU hr bU .nil hx (A0 (pv 1) (A0 (A9 J0 (D9 G3 (pv 2) A1 (fun _ _ => rfl)) A1) (A0 (D9 G3 (pv 2) A1 (fun _ _ => rfl)) A5)))))))) (A6 (B0 (A9 J4 (D9 G3 (pv 2) A1 (fun _ _ => rfl)) A1))) D0) (A6 (B0 (D9 G3 (pv 2) A1 (fun _ _ => rfl))))), ?_⟩
 obtain ⟨⟨dx, e⟩, _, _⟩ := id hc
 unfold upI at k
 refine ⟨_, rfl, p, _, _, _, rfl, rfl, SqT.of hp, B8 (j := 1) rfl, rfl, _, rfl, ?_⟩
 by_cases h0 : pt = 0
 . subst h0
   rw [if_pos rfl, if_neg Bool.false_ne_true] at k
   exact C8j rfl (V3 ⟨_, rfl, p, _, _, _, rfl, rfl, SqT.of hp, B8 (j := 0) rfl, k H (C8.refl H)⟩)
 rw [if_neg h0] at k
 rw [decide_eq_false (fun q => h0 (by injection q) : ¬ V.int pt = V.int 0)]
 refine Z5 ⟨_, rfl, c, dx, _, rfl, e, C8e _ _ _ _ _ _, c, v.r, v.y, v.l, v.m, a, b, _, _, rfl, hc, fun q dq H1 nq s1 eq => ?_⟩
 refine ⟨q, dq, _, rfl, eq, rfl, _, rfl, _, rfl, p, _, _, _, rfl, rfl, SqT.of (s1 _ _ hp), B8 (j := 0) rfl, _, _, rfl, rfl, (by decide : (0 : Int) < 10), _, rfl, p, _, _, _, rfl, rfl, SqT.of (s1 _ _ hp), B8 (j := 1) rfl, q, sg, wh % 10, pt, rfl, fun H2 s2 => ⟨_, rfl, ?_⟩⟩
 have s3 := s1.trans s2
 cases g : v.y.goes sg (wh % 10) pt with
 | true =>
   rw [g, if_pos rfl] at k
   exact Z5 ⟨_, rfl, p, _, _, _, rfl, rfl, SqT.of (s3 _ _ hp), B8 (j := 0) rfl, _, _, rfl, rfl, k H2 s3⟩
 | false =>
   rw [g, if_neg Bool.false_ne_true] at k
   exact V3 ⟨_, rfl, p, _, _, _, rfl, rfl, SqT.of (s3 _ _ hp), B8 (j := 0) rfl, k H2 s3⟩
def J5f (CN CC : Addr) : Sp := fun vs H Q _ => ∃ c v a b xs ys, ∃ s f q : Int, vs = [.ref c, .int s, .int f, .int q] /\ A0n CC H c v a b xs ys /\ v.Ok /\ ∀ n H', H n = none -> C8 H H' -> V1 CN H' n ⟨.plain, s, (B6r v.r f q).1, (B6r v.r f q).2⟩ -> Q (.ref n) H'
theorem Y5b : C5 Q25 Q25 (A2 A5n) := scK
theorem V6e {f f1 fI CN CC CB CT CW : Addr} {cw : Wy -> Addr} {fd fd1 fdI : FuncData} (D : Def K mg "within_room" Q25 A5n f fd) (D_ten_to : Def K mg "ten_to" ["count"] A0q f1 fd1) (G_ten_to : A8 P w K mg base (CX1 P w) 2 f1 fd1 ["count"] A2h) (C : B8d P w K mg base CC CB CT CW cw) (N : Num K mg CN) (M : C0n P w K mg base CN fI fdI) :
   A8 P w K mg base (CX1 P w) 3 f fd Q25 (J5f CN CC) := by
 refine A8.up (D.F.ok Y5b (fun vs H Q E h => ?_) (fun cdv A outer s H vs Q E hr h => ?_))
 . obtain ⟨c, v, a, b, xs, ys, sg, f, q, rfl, _⟩ := h
   rfl
 obtain ⟨c, v, a, b, xs, ys, sg, fg, q, rfl, hc, ok, k⟩ := h
 have hx : U1 (A2a CX0 P w K mg base Q25 "within_room" (A2 A5n) f cdv A outer s H E).nox EKF := Y1
 refine ⟨_, (A3 (G4 (C7 G2 (pv 2) (C9 D_ten_to G_ten_to hr hx (A0 (D6 (pv 0) rfl) A5)) (C6 _)) (A6 (B0 (A6v M.m (A8.up M.g) hr N.g M.b .nil hx (A0 D5 (A0 (pv 1) (A0 (A9 D8 (pv 2) A1) (A0 (A9 J4 (pv 3) A1) A5))))))) D0) (A6 (B0 (A6v M.m (A8.up M.g) hr N.g M.b .nil hx (A0 D5 (A0 (pv 1) (A0 (pv 2) (A0 (pv 3) A5)))))))), ?_⟩
 have d10 : (0 : Int) < 10 /\ (10 : Int).natAbs.log2 < 9000 := ⟨by decide, by decide +kernel⟩
 obtain ⟨⟨dx, e⟩, _, _⟩ := id hc
 have r1 := ok.r1; have r2 := ok.r2
 refine ⟨_, rfl, _, rfl, c, CC, dx, _, _, rfl, e, C.c.cl, C.c.n_room, A4w _ _ _ _ _ _, v.r.toNat, (by rw [Int.toNat_of_nonneg (by omega)]; rfl), by omega, rfl, _, rfl, ?_⟩
 unfold B6r at k
 refine J1 (fun h => ?_) (fun h => ?_)
 . have h : fg = A4 v.r := by injection h
   rw [if_pos h] at k
   exact ⟨_, rfl, _, rfl, _, _, rfl, rfl, d10, _, rfl, _, _, rfl, rfl, C9a k⟩
 have h : ¬ fg = A4 v.r := fun z => h (congrArg V.int z)
 rw [if_neg h] at k
 exact ⟨_, rfl, _, rfl, _, rfl, C9a k⟩
def J4y (CN CC : Addr) : Sp := fun vs H Q _ => ∃ c v a b xs ys n x, vs = [.ref c, .ref n] /\ A0n CC H c v a b xs ys /\ V1 CN H n x /\ x.f.natAbs < 2 ^ 300 /\ Q (.bl (A3p v.m x.f x.p)) H
theorem Y6w : C5 Q12 Q12 (A2 A5p) := scK
theorem V7s {f f1 CN CC CB CT CW : Addr} {cw : Wy -> Addr} {fd fd1 : FuncData} (D : Def K mg "is_beyond" Q12 A5p f fd) (D_lead_of : Def K mg "lead_of" ["number"] C8f f1 fd1) (G_lead_of : A8 P w K mg base (CX1 P w) 1 f1 fd1 ["number"] (Y4u CN)) (C : B8d P w K mg base CC CB CT CW cw) (N : Num K mg CN) :
   A8 P w K mg base (CX1 P w) 2 f fd Q12 (J4y CN CC) := by
 refine A8.up (D.F.ok Y6w (fun vs H Q E h => ?_) (fun cdv A outer s H vs Q E hr h => ?_))
 . obtain ⟨c, v, a, b, xs, ys, n, x, rfl, _⟩ := h
   rfl
 obtain ⟨c, v, a, b, xs, ys, n, x, rfl, hc, hn, hf, k⟩ := h
 have hx : U1 (A2a CX0 P w K mg base Q12 "is_beyond" (A2 A5p) f cdv A outer s H E).nox EKF := Y1
 refine ⟨_, (A6 (B0 (B1x (G9 C9f (D6 (pv 1) rfl) A1 (C6 _)) (A6d (G9 A6u (C9 D_lead_of G_lead_of hr hx (A0 (pv 1) A5)) (D6 (pv 0) rfl) (C6 _)))))), ?_⟩
 obtain ⟨⟨dx, e⟩, _, _⟩ := id hc
 obtain ⟨dn, en⟩ := id hn
 unfold A3p at k
 refine ⟨_, rfl, n, CN, dn, _, _, rfl, en, N.cl, N.n3, B6m _ _ _ _, rfl, _, rfl, ?_⟩
 by_cases h0 : x.f = 0
 . rw [if_pos h0] at k
   rw [decide_eq_true (congrArg V.int h0)]
   exact V3 k
 rw [if_neg h0] at k
 rw [decide_eq_false (fun q => h0 (by injection q) : ¬ V.int x.f = V.int 0)]
 exact Z5 ⟨_, rfl, n, _, _, _, _, rfl, hn, hf, _, rfl, c, CC, dx, _, _, rfl, e, C.c.cl, C.c.n_most, C9e _ _ _ _ _ _, _, _, rfl, rfl, k⟩
def V4j (CN CC : Addr) : Sp := fun vs H Q _ => ∃ c v a b xs ys, ∃ s : Int, vs = [.ref c, .int s] /\ A0n CC H c v a b xs ys /\ v.Ok /\ ∀ n H', H n = none -> C8 H H' -> V1 CN H' n ⟨.plain, s, A4 v.r - 1, v.m - v.r + 1⟩ -> Q (.ref n) H'
theorem A0hv : C5 Q5 Q5 (A2 B1n) := scK
theorem Y8f {f f1 fI CN CC CB CT CW : Addr} {cw : Wy -> Addr} {fd fd1 fdI : FuncData} (D : Def K mg "nines" Q5 B1n f fd) (D_ten_to : Def K mg "ten_to" ["count"] A0q f1 fd1) (G_ten_to : A8 P w K mg base (CX1 P w) 2 f1 fd1 ["count"] A2h) (C : B8d P w K mg base CC CB CT CW cw) (N : Num K mg CN) (M : C0n P w K mg base CN fI fdI) :
   A8 P w K mg base (CX1 P w) 3 f fd Q5 (V4j CN CC) := by
 refine A8.up (D.F.ok A0hv (fun vs H Q E h => ?_) (fun cdv A outer s H vs Q E hr h => ?_))
 . obtain ⟨c, v, a, b, xs, ys, sg, rfl, _⟩ := h
   rfl
 obtain ⟨c, v, a, b, xs, ys, sg, rfl, hc, ok, k⟩ := h
 have hx : U1 (A2a CX0 P w K mg base Q5 "nines" (A2 B1n) f cdv A outer s H E).nox EKF := Y1
 refine ⟨_, (A6 (B0 (A6v M.m (A8.up M.g) hr N.g M.b .nil hx (A0 D5 (A0 (pv 1) (A0 (A9 J8 (C9 D_ten_to G_ten_to hr hx (A0 (D6 (pv 0) rfl) A5)) A1) (A0 (A9 J4 (A9 J8 (D6 (pv 0) rfl) (D6 (pv 0) rfl)) A1) A5))))))), ?_⟩
 obtain ⟨⟨dx, e⟩, _, _⟩ := id hc
 have r1 := ok.r1; have r2 := ok.r2
 exact ⟨_, rfl, _, rfl, c, CC, dx, _, _, rfl, e, C.c.cl, C.c.n_room, A4w _ _ _ _ _ _, v.r.toNat, (by rw [Int.toNat_of_nonneg (by omega)]; rfl), by omega, _, _, rfl, rfl, _, rfl, c, CC, dx, _, _, rfl, e, C.c.cl, C.c.n_most, C9e _ _ _ _ _ _, _, rfl, c, CC, dx, _, _, rfl, e, C.c.cl, C.c.n_room, A4w _ _ _ _ _ _, _, _, rfl, rfl, _, _, rfl, rfl, C9a k⟩
def V3s (CN CC : Addr) : Sp := fun vs H Q _ => ∃ c v a b xs ys, ∃ s : Int, vs = [.ref c, .int s] /\ A0n CC H c v a b xs ys /\ v.Ok /\ 0 <= s /\ s <= 1 /\ ∀ n H', C8 H H' -> V1 CN H' n (C9z v s) -> Q (.ref n) H'
theorem A0ja : C5 Q5 Q5 (A2 B1c) := scK
theorem Y6c {f f1 f2 CN CN' CC CB CT CW : Addr} {cw : Wy -> Addr} {fd fd1 fd2 : FuncData} (D : Def K mg "burst" Q5 B1c f fd) (D_nines : Def K mg "nines" Q5 B1n f1 fd1) (G_nines : A8 P w K mg base (CX1 P w) 3 f1 fd1 Q5 (V4j CN CC)) (D_end : Def K mg "end" ["sign"] G2e f2 fd2) (G_end : A8 P w K mg base (CX1 P w) 3 f2 fd2 ["sign"] (V4c K CN CN')) (C : B8d P w K mg base CC CB CT CW cw) :
   A8 P w K mg base (CX1 P w) 4 f fd Q5 (V3s CN CC) := by
 refine A8.up (D.F.ok A0ja (fun vs H Q E h => ?_) (fun cdv A outer s H vs Q E hr h => ?_))
 . obtain ⟨c, v, a, b, xs, ys, sg, rfl, _⟩ := h
   rfl
 obtain ⟨c, v, a, b, xs, ys, sg, rfl, hc, ok, s0, s1, k⟩ := h
 have hx : U1 (A2a CX0 P w K mg base Q5 "burst" (A2 B1c) f cdv A outer s H E).nox EKF := Y1
 obtain ⟨fW, fdW, mW, gW, bW⟩ := C.way
 obtain ⟨fU, fdU, mU, gU, bU⟩ := C.e v.y
 refine ⟨_, (A6 (B0 (V5 (Y2 (C6r (A6f (pv 0) C.c.cl mW gW hr bW .nil hx) (C.wc v.y).cl mU gU hr bU .nil hx (A0 (pv 1) A5))) (C9 D_end G_end hr hx (A0 (pv 1) A5)) (C9 D_nines G_nines hr hx (A0 (pv 0) (A0 (pv 1) A5)))))), ?_⟩
 obtain ⟨⟨dx, e⟩, _, _⟩ := id hc
 unfold C9z at k
 refine ⟨_, rfl, c, dx, _, rfl, e, C8e _ _ _ _ _ _, c, v.r, v.y, v.l, v.m, a, b, _, _, rfl, hc, fun q dq H1 nq t1 eq => ?_⟩
 refine ⟨q, dq, _, rfl, eq, rfl, _, rfl, q, sg, rfl, fun H2 t2 => ⟨_, rfl, ?_⟩⟩
 have t3 := t1.trans t2
 cases g : v.y.toEnd sg with
 | true =>
   rw [g, if_pos rfl] at k
   exact Z5 ⟨_, rfl, _, rfl, .inl ⟨⟨sg, rfl, s0, s1⟩, fun n H' _ sm num => k n H' (t3.trans sm) num⟩⟩
 | false =>
   rw [g, if_neg Bool.false_ne_true] at k
   exact V3 ⟨_, rfl, _, rfl, c, v, a, b, xs, ys, sg, rfl, hc.same t3, ok, fun n H' _ sm num => k n H' (t3.trans sm) num⟩
def D9r : Sp := fun vs H Q _ => ∃ (pt : Int) (cut : Bool), vs = [.int pt, .bl cut] /\ ∀ l, H l = none -> Q (.ref l) (upd H l (.lst ((Y0 pt cut).map V.str)))
theorem V6c : C5 Q33 Q33 (A2 A4j) := scK
theorem U1p {f : Addr} {fd : FuncData} (D : Def K mg "signals_of_rest" Q33 A4j f fd) : A8 P w K mg base (CX1 P w) 1 f fd Q33 D9r := by
 refine A8.up (D.F.ok V6c (fun vs H Q E h => ?_) (fun cdv A outer s H vs Q E hr h => ?_))
 . obtain ⟨pt, cut, rfl, _⟩ := h
   rfl
 obtain ⟨pt, cut, rfl, k⟩ := h
 refine ⟨_, (A3 (G4 (C7 C9f (pv 0) A1 (C6 _)) (A6 (B0 (U4 (A0 D5 (A0 D5 A5))))) D0) (A6 (B0 (V5 (Y2 (pv 1)) (U4 (A0 D5 A5)) (U4 A5))))), ?_⟩
 unfold Y0 at k
 refine ⟨_, rfl, rfl, _, rfl, ?_⟩
 by_cases h0 : pt = 0
 . subst h0
   rw [if_pos rfl] at k
   refine C8j rfl ⟨_, rfl, _, rfl, ?_⟩
   cases cut with
   | true => exact Z5 ⟨D7 (by decide), k⟩
   | false => exact V3 ⟨D7 (by decide), k⟩
 rw [if_neg h0] at k
 rw [decide_eq_false (fun q => h0 (by injection q) : ¬ V.int pt = V.int 0)]
 exact Z5 ⟨D7 (by decide), k⟩
def D9p (CC : Addr) : Sp := fun vs H Q _ => ∃ c v a b xs ys, ∃ L pt : Int, vs = [.ref c, .int L, .int pt] /\ A0n CC H c v a b xs ys /\ ∀ l, H l = none -> Q (.ref l) (upd H l (.lst ((A1b v.l L pt).map V.str)))
theorem V6d : C5 Q34 Q34 (A2 A4p) := scK
theorem U0w {f CC CB CT CW : Addr} {cw : Wy -> Addr} {fd : FuncData} (D : Def K mg "signals_of_lead" Q34 A4p f fd) (C : B8d P w K mg base CC CB CT CW cw) : A8 P w K mg base (CX1 P w) 1 f fd Q34 (D9p CC) := by
 refine A8.up (D.F.ok V6d (fun vs H Q E h => ?_) (fun cdv A outer s H vs Q E hr h => ?_))
 . obtain ⟨c, v, a, b, xs, ys, L, pt, rfl, _⟩ := h
   rfl
 obtain ⟨c, v, a, b, xs, ys, L, pt, rfl, hc, k⟩ := h
 refine ⟨_, (A3 (G4 (C7 D9e (pv 1) (D6 (pv 0) rfl) (C6 _)) (A6 (B0 (U4 A5))) D0) (A6 (B0 (V5 (C7 G2 (pv 2) A1 (C6 _)) (U4 (A0 D5 A5)) (U4 (A0 D5 (A0 D5 A5))))))), ?_⟩
 obtain ⟨⟨dx, e⟩, _, _⟩ := id hc
 unfold A1b at k
 refine ⟨_, rfl, _, rfl, c, CC, dx, _, _, rfl, e, C.c.cl, C.c.n_least, D9k _ _ _ _ _ _, _, _, rfl, rfl, _, rfl, J1 (fun h => ?_) (fun h => ?_)⟩
 . rw [if_pos h] at k
   exact ⟨D7 (by decide), k⟩
 rw [if_neg h] at k
 refine ⟨_, rfl, rfl, _, rfl, J1 (fun h => ?_) (fun h => ?_)⟩
 . rw [if_pos (by injection h)] at k
   exact ⟨D7 (by decide), k⟩
 rw [if_neg fun q => h (congrArg V.int q)] at k
 exact ⟨D7 (by decide), k⟩
def A4m (CN CC : Addr) : Sp := fun vs H Q _ => ∃ c v a b xs ys, ∃ s i : Int, vs = [.ref c, .int s, .int i] /\ A0n CC H c v a b xs ys /\ ∀ n H', H n = none -> C8 H H' -> V1 CN H' n ⟨.plain, s, 0, J4a (A0v i (v.l - v.r + 1)) v.m⟩ -> Q (.ref n) H'
theorem Y7n : C5 Q7 Q7 (A2 A0h) := scK
theorem V7v {f fI CN CC CB CT CW : Addr} {cw : Wy -> Addr} {fd fdI : FuncData} (D : Def K mg "nought" Q7 A0h f fd) (C : B8d P w K mg base CC CB CT CW cw) (N : Num K mg CN) (M : C0n P w K mg base CN fI fdI) (O : Own mg) : A8 P w K mg base (CX1 P w) 3 f fd Q7 (A4m CN CC) := by
 refine A8.up (D.F.ok Y7n (fun vs H Q E h => ?_) (fun cdv A outer s H vs Q E hr h => ?_))
 . obtain ⟨c, v, a, b, xs, ys, sg, i, rfl, _⟩ := h
   rfl
 obtain ⟨c, v, a, b, xs, ys, sg, i, rfl, hc, k⟩ := h
 have hx : U1 (A2a CX0 P w K mg base Q7 "nought" (A2 A0h) f cdv A outer s H E).nox EKF := Y1
 obtain ⟨fL, fdL, mL, gL, bL⟩ := C.low
 refine ⟨_, (A6 (B0 (A6v M.m (A8.up M.g) hr N.g M.b .nil hx (A0 D5 (A0 (pv 1) (A0 A1 (A0 (J3 (A1u rfl) (by rfl) O.min_ boot_min (A0 (J3 (Y3 rfl) (by rfl) O.max_ boot_max (A0 (pv 2) (A0 (A6f (pv 0) C.c.cl mL gL hr bL .nil hx) A5))) (A0 (D6 (pv 0) rfl) A5))) A5))))))), ?_⟩
 obtain ⟨⟨dx, e⟩, _, _⟩ := id hc
 exact ⟨_, rfl, _, rfl, _, rfl, c, dx, _, rfl, e, A6g _ _ _ _ _ _, c, v.r, v.y, v.l, v.m, a, b, _, _, rfl, hc, _, _, rfl, _, rfl, c, CC, dx, _, _, rfl, e, C.c.cl, C.c.n_most, C9e _ _ _ _ _ _, _, _, rfl, C9a k⟩
abbrev A0c : Stmt := (top 33)
abbrev A4r : Stmt := (top 46)
theorem D0a (i : Int) : ∀ (n : Nat) (f p : Int), 0 <= f -> 0 <= (C6q i n f p).1 /\ (C6q i n f p).1 <= f
 | 0, f, p, h => ⟨h, Int.le_refl _⟩
 | n + 1, f, p, h => by
   show 0 <= (if f % 10 = 0 then C6q i n (f / 10) (p + 1) else (f, p)).1 /\ (if f % 10 = 0 then C6q i n (f / 10) (p + 1) else (f, p)).1 <= f
   by_cases z : f % 10 = 0
   . rw [if_pos z]
     have := D0a i n (f / 10) (p + 1) (by omega)
     omega
   . rw [if_neg z]
     exact ⟨h, Int.le_refl _⟩
theorem Y4w {t b u1 v1 u2 v2 d : Nat} (h : t * 10 ^ u1 < 10 * (b * 10 ^ v1)) (e : u2 + v1 <= u1 + v2 + d) : t * 10 ^ u2 < 10 ^ (d + 1) * (b * 10 ^ v2) := by
 have p : 0 < 10 ^ v1 := Nat.pow_pos (by decide)
 apply Nat.lt_of_mul_lt_mul_right (a := 10 ^ v1)
 calc t * 10 ^ u2 * 10 ^ v1 = t * 10 ^ (u2 + v1) := by rw [Nat.mul_assoc, <- Nat.pow_add]
   _ <= t * 10 ^ (u1 + v2 + d) := Nat.mul_le_mul_left t (Nat.pow_le_pow_right (by decide) e)
   _ = t * 10 ^ u1 * (10 ^ v2 * 10 ^ d) := by rw [Nat.mul_assoc, <- Nat.pow_add, <- Nat.pow_add, Nat.add_assoc]
   _ < 10 * (b * 10 ^ v1) * (10 ^ v2 * 10 ^ d) := Nat.mul_lt_mul_of_pos_right h (Nat.mul_pos (Nat.pow_pos (by decide)) (Nat.pow_pos (by decide)))
   _ = 10 ^ (d + 1) * (b * 10 ^ v2) * 10 ^ v1 := by rw [Nat.pow_succ]; ac_rfl
theorem V3q {t b s1 s2 r : Int} (ht : Sz t) (hb : Sz b) (h : A0x t b s1) (hr : 1 <= r) (e : s2 <= s1 + (r - 1)) : 0 <= whI t b s2 /\ whI t b s2 < A4 r := by
 obtain ⟨tn, rfl, _, _⟩ := ht.nat
 obtain ⟨bn, rfl, b1, _⟩ := hb.nat
 have lp : 0 < (bn : Int) * A4 (-s2) := Int.mul_pos (by omega) (D4 _)
 refine ⟨Int.ediv_nonneg (Int.mul_nonneg (by omega) (Int.le_of_lt (D4 _))) (Int.le_of_lt lp), ?_⟩
 refine Int.ediv_lt_of_lt_mul lp ?_
 have a : tn * 10 ^ s1.toNat < 10 * (bn * 10 ^ (-s1).toNat) := Int.ofNat_lt.mp h.2
 have c := Y4w (u2 := s2.toNat) (v2 := (-s2).toNat) (d := (r - 1).toNat) a (by omega)
 rw [show (r - 1).toNat + 1 = r.toNat by omega] at c
 exact Int.ofNat_lt.mpr c
theorem V2p {r : Int} (h : r <= 24) : A4 r <= 10 ^ 24 := by
 unfold A4
 have : 10 ^ r.toNat <= 10 ^ 24 := Nat.pow_le_pow_right (by decide) (by omega)
 exact Int.ofNat_le.mpr this
theorem J9w {c : Cv} {s wh pt q i : Int} (ok : c.Ok) (h0 : 0 <= wh) (h1 : wh < A4 c.r) : (Z3 c s wh pt q i).1.natAbs < 2 ^ 300 := by
 have t := V2p ok.r2
 have big : ((10 ^ 24 : Nat) : Int) = 10 ^ 24 := by decide +kernel
 have lt : ∀ z : Int, 0 <= z -> z <= 10 ^ 24 -> z.natAbs < 2 ^ 300 := fun z a b => Nat.lt_of_le_of_lt (show z.natAbs <= 10 ^ 24 by omega) (by decide +kernel)
 unfold Z3
 split
 . have := D0a i (i - q).toNat wh q h0
   exact lt _ this.1 (by unfold Z1; omega)
 have hu : 0 <= upI c.y s wh pt /\ upI c.y s wh pt <= A4 c.r := by
   have e : upI c.y s wh pt = wh + 1 \/ upI c.y s wh pt = wh := by
     unfold upI
     generalize (if pt = 0 then false else c.y.goes s (wh % 10) pt) = g
     cases g with
     | true => exact .inl rfl
     | false => exact .inr rfl
   omega
 generalize upI c.y s wh pt = u at hu
 unfold B6r
 split
 . exact lt (u / 10) (by omega) (by omega)
 exact lt u (by omega) (by omega)
theorem Y7x : C5 Q26 Q26 (A2 A5g) := scK
def Cv.fin (v : Cv) (L : Int) : Int := A0v (L - v.r + 1) (v.l - v.r + 1)
def C0h (v : Cv) (s t bo n L i : Int) : Nm × List Str := C0m v s (whI t bo (n - v.fin L)) (ptI t bo (n - v.fin L)) L (v.fin L) i
def A1r (CN CC CT : Addr) (H : Hp) (c : Addr) (v : Cv) (b : Addr) (xs ys : List Str) (res : Nm × List Str) (Q : VK) (E : XK) : Prop :=
 (hit ys res.2 = none -> ∀ m a' H', Exc c H H' -> A0n CC H' c v a' b (Z2 (xs ++ res.2)) ys -> V1 CN H' m res.1 -> Q (.ref m) H') /\
 (∀ z, hit ys res.2 = some z -> ∀ a' d H', Exc c H H' -> A0n CC H' c v a' b (Z2 (xs ++ res.2)) ys -> H' d = some (.xd [("signal", .str z)]) -> E (.ref CT) (some d) H')
def A4d (CN CC CT CR : Addr) : Sp := fun vs H Q E => ∃ c v a b xs ys x, ∃ t bo n L s i : Int, vs = [.ref c, .int s, .ref x, .int i] /\ A0n CC H c v a b xs ys /\ v.Ok /\ xs.length <= 900 /\ B1z CR H x t bo n /\ Sz t /\ Sz bo /\ A0x t bo (n - L) /\ -1500 <= n - v.fin L /\ n - v.fin L <= 1500 /\ 0 <= s /\ s <= 1 /\
 A1r CN CC CT H c v b xs ys (C0h v s t bo n L i) Q E
theorem scSettled : C5 ["context", "sign", "exact", "ideal", "finest", "pair", "number", "names"] Q13 (A2 A0c) := scK
theorem V5y : ∀ z ∈ (Q53 : List Str), z ∈ B8e := by decide +kernel
theorem Y7u {pt : Int} {cut : Bool} {l L : Int} : ∀ z ∈ Y0 pt cut ++ A1b l L pt, z ∈ B8e := by
 have r : ∀ z ∈ Y0 pt cut, z ∈ B8e := by
   unfold Y0
   split
   . split
     . decide +kernel
     . decide +kernel
   . decide +kernel
 have d : ∀ z ∈ A1b l L pt, z ∈ B8e := by
   unfold A1b
   split
   . decide +kernel
   . split
     . decide +kernel
     . decide +kernel
 intro z hz
 rcases List.mem_append.mp hz with h | h
 . exact r z h
 exact d z h
theorem Y8a {pt : Int} {cut : Bool} {l L : Int} : (Y0 pt cut ++ A1b l L pt).length <= 4 := by
 have r : (Y0 pt cut).length <= 2 := by
   unfold Y0
   split
   . split <;> decide
   . decide
 have d : (A1b l L pt).length <= 2 := by
   unfold A1b
   split
   . decide
   . split <;> decide
 rw [List.length_append]
 omega
def B7p (v : Cv) (x : Nm) (L : Int) : Nm × List Str := match x.k with
 | .plain => if x.f = 0 then (⟨.plain, x.s, 0, J4a (A0v x.p (v.l - v.r + 1)) v.m⟩, []) else C0h v x.s x.f 1 x.p L x.p
 | _ => (x, [])
structure Exa where
 At : Hp -> Addr -> Prop
 L : Int
 wh : Int -> Int
 pt : Int -> Int
 okq : Int -> Prop
structure ExV (CR : Addr) (sp1 sp2 : Sp) (e : Exa) : Prop where
 same : ∀ H H' x, e.At H x -> C8 H H' -> e.At H' x
 ins : ∀ H x, e.At H x -> ∃ dx fs, H x = some (.ins CR dx fs) /\ fs.lookup ("first" : Str) = none /\ fs.lookup ("at" : Str) = none
 first : ∀ H x (Q : VK) (E : XK), e.At H x -> (∀ H', C8 H H' -> Q (.int e.L) H') -> sp1 [.ref x] H Q E
 at_ : ∀ H x q (Q : VK) (E : XK), e.At H x -> e.okq q -> (∀ p H', C8 H H' -> H p = none -> H' p = some (.tup [.int (e.wh q), .int (e.pt q)]) -> Q (.ref p) H') -> sp2 [.ref x, .int q] H Q E
structure ExM (P : Program) (w : World) (K : Frag) (mg : Str -> Option Value) (base : Heap) (CR f1 f2 : Addr) (fd1 fd2 : FuncData) (sp1 sp2 : Sp) : Prop where
 cl : Cls K CR
 m1 : Y5 K CR "first" f1
 g1 : A8 P w K mg base (CX1 P w) 4 f1 fd1 ["self"] sp1
 b1 : Binds K fd1 ["self"] []
 m2 : Y5 K CR "at" f2
 g2 : A8 P w K mg base (CX1 P w) 5 f2 fd2 Q15 sp2
 b2 : Binds K fd2 Q15 []
theorem A8.lift {P : Program} {w : World} {K : Frag} {mg : Str -> Option Value} {base : Heap} {CX : CXT} {j k : Nat} {f : Addr} {fd : FuncData} {ps : List Str} {sp : Sp} (h : j <= k) (F : A8 P w K mg base CX j f fd ps sp) : A8 P w K mg base CX k f fd ps sp :=
 ⟨F.len, fun A outer s H args us vs Q E hr => F.run A outer s H args us vs Q E (hr.mono h)⟩
theorem A8.weak {P : Program} {w : World} {K : Frag} {mg : Str -> Option Value} {base : Heap} {CX : CXT} {k : Nat} {f : Addr} {fd : FuncData} {ps : List Str} {sp sp' : Sp} (h : ∀ vs H Q E, sp' vs H Q E -> sp vs H Q E) (F : A8 P w K mg base CX k f fd ps sp) : A8 P w K mg base CX k f fd ps sp' :=
 ⟨fun vs H Q E z => F.len vs H Q E (h _ _ _ _ z), fun A outer s H args us vs Q E hr e0 hb r z => F.run A outer s H args us vs Q E hr e0 hb r (h _ _ _ _ z)⟩
theorem A8.both {P : Program} {w : World} {K : Frag} {mg : Str -> Option Value} {base : Heap} {CX : CXT} {k : Nat} {f : Addr} {fd : FuncData} {ps : List Str} {sp sp' : Sp} (F : A8 P w K mg base CX k f fd ps sp) (G : A8 P w K mg base CX k f fd ps sp') : A8 P w K mg base CX k f fd ps (fun vs H Q E => sp vs H Q E \/ sp' vs H Q E) :=
 ⟨fun vs H Q E z => z.elim (F.len vs H Q E) (G.len vs H Q E), fun A outer s H args us vs Q E hr e0 hb r z => z.elim (F.run A outer s H args us vs Q E hr e0 hb r) (G.run A outer s H args us vs Q E hr e0 hb r)⟩
def D9w (CC CR : Addr) (sp1 sp2 : Sp) : Sp := fun vs H Q _ => ∃ c v a b xs ys x, ∃ ex : Exa, vs = [.ref c, .ref x] /\ A0n CC H c v a b xs ys /\ ExV CR sp1 sp2 ex /\ ex.At H x /\ ∀ H', C8 H H' -> Q (.int (A0v (ex.L - v.r + 1) (v.l - v.r + 1))) H'
theorem C9t {f CC CB CT CW CR CE g1 g2 : Addr} {cw : Wy -> Addr} {fd gd1 gd2 : FuncData} (D : Def K mg "finest_power" Q26 A5g f fd) (C : B8d P w K mg base CC CB CT CW cw) {sp1 sp2 : Sp} (RM : ExM P w K mg base CR g1 g2 gd1 gd2 sp1 sp2) (O : Own mg) : A8 P w K mg base (CX1 P w) 5 f fd Q26 (D9w CC CR sp1 sp2) := by
 refine A8.up (D.F.ok Y7x (fun vs H Q E h => ?_) (fun cdv A outer s H vs Q E hr h => ?_))
 . obtain ⟨c, v, a, b, xs, ys, x, ex, rfl, _⟩ := h
   rfl
 obtain ⟨c, v, a, b, xs, ys, x, ex, rfl, hc, ev, ra, k⟩ := h
 have hx : U1 (A2a CX0 P w K mg base Q26 "finest_power" (A2 A5g) f cdv A outer s H E).nox EKF := Y1
 obtain ⟨fL, fdL, mL, gL, bL⟩ := C.low
 refine ⟨_, (A6 (B0 (J3 (Y3 rfl) (by rfl) O.max_ boot_max (A0 (A9 J4 (A9 J8 (A6f (pv 1) RM.cl RM.m1 RM.g1 hr RM.b1 .nil hx) (D6 (pv 0) rfl)) A1) (A0 (A6f (pv 0) C.c.cl mL gL hr bL .nil hx) A5))))), ?_⟩
 obtain ⟨dr, fs, er, nf, _⟩ := ev.ins _ _ ra
 refine ⟨_, rfl, x, dr, _, rfl, er, nf, ev.first _ _ _ _ ra fun H1 s1 => ?_⟩
 have hc1 := hc.same s1
 obtain ⟨⟨dx, e⟩, _, _⟩ := id hc1
 exact ⟨_, rfl, c, CC, dx, _, _, rfl, e, C.c.cl, C.c.n_room, A4w _ _ _ _ _ _, _, _, rfl, rfl, _, _, rfl, rfl, _, rfl, c, dx, _, rfl, e, A6g _ _ _ _ _ _, c, v.r, v.y, v.l, v.m, a, b, _, _, rfl, hc1, _, _, rfl, k H1 s1⟩
def A7x (CN CC CT CR : Addr) (sp1 sp2 : Sp) : Sp := fun vs H Q E => ∃ c v a b xs ys x, ∃ (ex : Exa) (s i : Int), vs = [.ref c, .int s, .ref x, .int i] /\ A0n CC H c v a b xs ys /\ v.Ok /\ xs.length <= 900 /\ ExV CR sp1 sp2 ex /\ ex.At H x /\ ex.okq (v.fin ex.L) /\ 0 <= ex.wh (v.fin ex.L) /\ ex.wh (v.fin ex.L) < A4 v.r /\ 0 <= s /\ s <= 1 /\
 A1r CN CC CT H c v b xs ys (C0m v s (ex.wh (v.fin ex.L)) (ex.pt (v.fin ex.L)) ex.L (v.fin ex.L) i) Q E
theorem C6p {f f1 f2 f3 f4 f5 f6 f7 f8 CN CC CB CT CW CR CE g1 g2 : Addr} {cw : Wy -> Addr} {sp1 sp2 : Sp} {fd fd1 fd2 fd3 fd4 fd5 fd6 fd7 fd8 gd1 gd2 : FuncData} (D : Def K mg "settled" Q13 A0c f fd)
   (D_finest_power : Def K mg "finest_power" Q26 A5g f1 fd1) (G_finest_power : A8 P w K mg base (CX1 P w) 5 f1 fd1 Q26 (D9w CC CR sp1 sp2)) (D_nearest_to : Def K mg "nearest_to" Q23 A2s f2 fd2) (G_nearest_to : A8 P w K mg base (CX1 P w) 3 f2 fd2 Q23 (D8x CN))
   (D_neighbour : Def K mg "neighbour" Q24 A0d f3 fd3) (G_neighbour : A8 P w K mg base (CX1 P w) 3 f3 fd3 Q24 (C6j CC)) (D_within_room : Def K mg "within_room" Q25 A5n f4 fd4) (G_within_room : A8 P w K mg base (CX1 P w) 3 f4 fd4 Q25 (J5f CN CC))
   (D_is_beyond : Def K mg "is_beyond" Q12 A5p f5 fd5) (G_is_beyond : A8 P w K mg base (CX1 P w) 2 f5 fd5 Q12 (J4y CN CC)) (D_burst : Def K mg "burst" Q5 B1c f6 fd6) (G_burst : A8 P w K mg base (CX1 P w) 4 f6 fd6 Q5 (V3s CN CC))
   (D_signals_of_rest : Def K mg "signals_of_rest" Q33 A4j f7 fd7) (G_signals_of_rest : A8 P w K mg base (CX1 P w) 1 f7 fd7 Q33 D9r) (D_signals_of_lead : Def K mg "signals_of_lead" Q34 A4p f8 fd8) (G_signals_of_lead : A8 P w K mg base (CX1 P w) 1 f8 fd8 Q34 (D9p CC))
   (C : B8d P w K mg base CC CB CT CW cw) (RM : ExM P w K mg base CR g1 g2 gd1 gd2 sp1 sp2) (N : Num K mg CN) : A8 P w K mg base (CX1 P w) 6 f fd Q13 (A7x CN CC CT CR sp1 sp2) := by
 refine D.F.okE scSettled (fun vs H Q E h => ?_) (fun X cdv A outer s H vs Q E hX hr hx h => ?_)
 . obtain ⟨c, v, a, b, xs, ys, x, ex, sg, i, rfl, _⟩ := h
   rfl
 subst hX
 obtain ⟨c, v, a, b, xs, ys, x, ex, sg, i, rfl, hc, ok, lx, ev, ra, q0, wr0, wr1, s0, s1, k⟩ := h
 obtain ⟨fR, fdR, mR, gR, bR⟩ := C.raised
 refine ⟨_, (A3 (B5 (D3 (i := 4) scSettled.nd rfl (Or.inl rfl) (C9 D_finest_power G_finest_power hr hx (A0 (pv 0) (A0 (pv 2) A5))))) (A3 (B5 (D3 (i := 5) scSettled.nd rfl (Or.inl rfl) (C6r (pv 2) RM.cl RM.m2 RM.g2 hr RM.b2 .nil hx (A0 (pv 4) A5)))) (A3 (B5 (G4 (C7 G2 (D9 G3 (pv 5) A1 (fun _ _ => rfl)) A1 (C6 _)) (A6 (D3 (i := 6) scSettled.nd rfl (Or.inl rfl) (C9 D_nearest_to G_nearest_to hr hx (A0 (pv 3) (A0 (pv 1) (A0 (D9 G3 (pv 5) A1 (fun _ _ => rfl)) (A0 (pv 4) A5))))))) (A6 (D3 (i := 6) scSettled.nd rfl (Or.inl rfl) (C9 D_within_room G_within_room hr hx (A0 (pv 0) (A0 (pv 1) (A0 (C9 D_neighbour G_neighbour hr hx (A0 (pv 0) (A0 (pv 1) (A0 (pv 5) A5)))) (A0 (pv 4) A5))))))))) (A3 (B5 (G4 (Y2 (C9 D_is_beyond G_is_beyond hr hx (A0 (pv 0) (A0 (pv 6) A5)))) (A3 (V8 (C6r (pv 0) C.c.cl mR gR hr bR .nil hx (A0 (U4 (A0 D5 (A0 D5 (A0 D5 A5)))) A5))) (A6 (B0 (C9 D_burst G_burst hr hx (A0 (pv 0) (A0 (pv 1) A5)))))) D0)) (A3 (B5 (D3 (i := 7) scSettled.nd rfl (Or.inl rfl) (C9 D_signals_of_rest G_signals_of_rest hr hx (A0 (D9 G3 (pv 5) A1 (fun _ _ => rfl)) (A0 (G9 A6u (D6 (pv 6) rfl) (pv 3) (C6 _)) A5))))) (A3 (B5 (V8 (C6r (pv 0) C.c.cl mR gR hr bR .nil hx (A0 (A9 G2a (pv 7) (C9 D_signals_of_lead G_signals_of_lead hr hx (A0 (pv 0) (A0 (A6f (pv 2) RM.cl RM.m1 RM.g1 hr RM.b1 .nil hx) (A0 (D9 G3 (pv 5) A1 (fun _ _ => rfl)) A5))))) A5)))) (A6 (B0 (pv 6))))))))), ?_⟩
 have wr := And.intro wr0 wr1
 unfold C0m at k
 refine ⟨fun σ' H' => C8 H H' /\ σ' = [some (.ref c), some (.int sg), some (.ref x), some (.int i), some (.int (v.fin ex.L)), none, none, none], ?_, ?_⟩
 . exact ⟨_, rfl, _, rfl, c, v, a, b, xs, ys, x, ex, rfl, hc, ev, ra, fun H' s' => ⟨s', rfl⟩⟩
 rintro σ' H1 ⟨t1, rfl⟩
 have hc1 := hc.same t1
 have ra1 := ev.same _ _ _ ra t1
 generalize v.fin ex.L = q at *
 generalize hwh : ex.wh q = wh at *
 generalize hpt : ex.pt q = pt at *
 refine ⟨fun σ' H' => ∃ p, C8 H1 H' /\ H' p = some (.tup [.int wh, .int pt]) /\ σ' = [some (.ref c), some (.int sg), some (.ref x), some (.int i), some (.int q), some (.ref p), none, none], ?_, ?_⟩
 . obtain ⟨dr, fs, er, _, na⟩ := ev.ins _ _ ra1
   refine ⟨_, rfl, x, dr, _, rfl, er, na, _, rfl, ev.at_ _ _ _ _ _ ra1 q0 fun p H' s' np ep => ⟨p, s', ?_, rfl⟩⟩
   rw [hwh, hpt] at ep
   exact ep
 rintro σ' H2 ⟨p, t2, hp, rfl⟩
 have hc2 := hc1.same t2
 have sm := J9w (s := sg) (pt := pt) (q := q) (i := i) ok wr.1 wr.2
 refine ⟨fun σ' H' => ∃ m, C8 H2 H' /\ H2 m = none /\ V1 CN H' m ⟨.plain, sg, (Z3 v sg wh pt q i).1, (Z3 v sg wh pt q i).2⟩ /\ σ' = [some (.ref c), some (.int sg), some (.ref x), some (.int i), some (.int q), some (.ref p), some (.ref m), none], ?_, ?_⟩
 . refine ⟨_, rfl, p, _, _, _, rfl, rfl, SqT.of hp, B8 (j := 1) rfl, rfl, _, rfl, J1 (fun h => ?_) (fun h => ?_)⟩
   . have h : pt = 0 := by injection h
     refine ⟨_, rfl, _, rfl, _, rfl, p, _, _, _, rfl, rfl, SqT.of hp, B8 (j := 0) rfl, _, rfl, i, sg, wh, q, rfl, fun m H' nm s' num => ⟨m, s', nm, ?_, rfl⟩⟩
     unfold Z3
     rw [if_pos h]
     exact num
   . have h : ¬ pt = 0 := fun z => h (congrArg V.int z)
     refine ⟨_, rfl, _, rfl, _, rfl, _, rfl, _, rfl, c, v, a, b, xs, ys, p, sg, wh, pt, rfl, hc2, hp, fun H3 s3 => ?_⟩
     refine ⟨_, rfl, c, v, a, b, xs, ys, sg, _, q, rfl, hc2.same s3, ok, fun m H' nm s' num => ⟨m, s3.trans s', s3.free nm, ?_, rfl⟩⟩
     unfold Z3
     rw [if_neg h]
     exact num
 rintro σ' H3 ⟨m, t3, nm, num, rfl⟩
 have hc3 := hc2.same t3
 have tA := (t1.trans t2).trans t3
 have nmc : m ≠ c := fun z => by
   obtain ⟨⟨dx, e⟩, _, _⟩ := hc2
   rw [z, e] at nm
   cases nm
 obtain ⟨⟨dx, e3⟩, _, _⟩ := id hc3
 generalize hf : (Z3 v sg wh pt q i).1 = fg at *
 generalize hg : (Z3 v sg wh pt q i).2 = pw at *
 refine ⟨fun σ' H' => H' = H3 /\ A3p v.m fg pw = false /\ σ' = [some (.ref c), some (.int sg), some (.ref x), some (.int i), some (.int q), some (.ref p), some (.ref m), none], ?_, ?_⟩
 . refine ⟨_, rfl, _, rfl, c, v, a, b, xs, ys, m, _, rfl, hc3, num, sm, _, rfl, ?_⟩
   cases e : A3p v.m fg pw with
   | false => exact V3 ⟨rfl, rfl, rfl⟩
   | true =>
     rw [e, if_pos rfl] at k
     refine Z5 ⟨_, rfl, c, dx, _, rfl, e3, A2j _ _ _ _ _ _, D7 (by decide), fun l nl => ?_⟩
     have u := C8.upd (o := .lst [.str "burst", .str "off", .str "cut"]) nl
     refine ⟨c, v.r, v.y, v.l, v.m, a, b, xs, ys, .ref l, rfl, hc3.same u, by omega, .inl ⟨l, Q53, rfl, A7, by decide, V5y, fun hn a' H4 x4 na ct => ?_, fun z hz a' d H4 x4 na ct nd ed => ?_⟩⟩
     . refine ⟨_, rfl, _, rfl, c, v, a', b, _, ys, sg, rfl, ct, ok, s0, s1, fun m' H5 s5 num5 => k.1 hn m' a' H5 (((Exc.of (tA.trans u)).trans x4).trans (.of s5)) (A0n.same ct s5) num5⟩
     . exact k.2 z hz a' d H4 ((Exc.of (tA.trans u)).trans x4) ct ed
 rintro σ' H4 ⟨rfl, e, rfl⟩
 rw [e, if_neg Bool.false_ne_true] at k
 refine ⟨fun σ' H' => ∃ l, C8 H4 H' /\ H' l = some (.lst ((Y0 pt (decide (pw > i))).map V.str)) /\ σ' = [some (.ref c), some (.int sg), some (.ref x), some (.int i), some (.int q), some (.ref p), some (.ref m), some (.ref l)], ?_, ?_⟩
 . obtain ⟨dn, en⟩ := id num
   exact ⟨_, rfl, p, _, _, _, rfl, rfl, SqT.of (t3 _ _ hp), B8 (j := 1) rfl, _, rfl, m, CN, dn, _, _, rfl, en, N.cl, N.n4, A6z _ _ _ _, _, rfl, _, _, rfl, rfl, pt, _, rfl, fun l nl => ⟨l, C8.upd nl, A7, rfl⟩⟩
 rintro σ' H5 ⟨l, t5, hl, rfl⟩
 refine ⟨fun σ' H' => hit ys (Y0 pt (decide (pw > i)) ++ A1b v.l ex.L pt) = none /\ ∃ a', Exc c H H' /\ A0n CC H' c v a' b (Z2 (xs ++ (Y0 pt (decide (pw > i)) ++ A1b v.l ex.L pt))) ys /\ V1 CN H' m ⟨.plain, sg, fg, pw⟩ /\ σ' = [some (.ref c), some (.int sg), some (.ref x), some (.int i), some (.int q), some (.ref p), some (.ref m), some (.ref l)], ?_, ?_⟩
 . have ra5 := ev.same _ _ _ ra1 ((t2.trans t3).trans t5)
   obtain ⟨dr, fs, er, nf, _⟩ := ev.ins _ _ ra5
   have hc5 := hc3.same t5
   refine ⟨_, rfl, c, dx, _, rfl, t5 _ _ e3, A2j _ _ _ _ _ _, _, rfl, _, rfl, _, rfl, x, dr, _, rfl, er, nf, ev.first _ _ _ _ ra5 fun H6 t6 => ?_⟩
   generalize ex.L = f at *
   refine ⟨_, rfl, p, _, _, _, rfl, rfl, SqT.of ((t5.trans t6) _ _ (t3 _ _ hp)), B8 (j := 1) rfl, c, v, a, b, xs, ys, f, pt, rfl, hc5.same t6, fun l2 nl2 => ?_⟩
   have u2 := C8.upd (o := .lst ((A1b v.l f pt).map V.str)) nl2
   have rl := Y8a (pt := pt) (cut := decide (pw > i)) (l := v.l) (L := f)
   rw [List.length_append] at rl
   refine ⟨l, l2, _, _, rfl, rfl, (t6.trans u2) _ _ hl, A7, D7 (by rw [List.length_map, List.length_map]; omega), fun l3 nl3 => ?_⟩
   have u3 := C8.upd (o := .lst ((Y0 pt (decide (pw > i))).map V.str ++ (A1b v.l f pt).map V.str)) nl3
   have tB := (t6.trans u2).trans u3
   have num7 := (num.same t5).same tB
   obtain ⟨dn7, en7⟩ := id num7
   have keep : ∀ {H' : Hp}, Exc c _ H' -> V1 CN H' m ⟨.plain, sg, fg, pw⟩ := fun x7 => ⟨dn7, x7 _ _ en7 nmc⟩
   refine ⟨c, v.r, v.y, v.l, v.m, a, b, xs, ys, .ref l3, rfl, (hc5.same tB), by omega, .inl ⟨l3, Y0 pt (decide (pw > i)) ++ A1b v.l f pt, rfl, by rw [A7, List.map_append], by rw [List.length_append]; omega, Y7u, fun hn a' H8 x8 na ct => ?_, fun z hz a' d H8 x8 na ct nd ed => ?_⟩⟩
   . exact ⟨hn, a', (Exc.of (tA.trans (t5.trans tB))).trans x8, ct, keep x8, rfl⟩
   . exact k.2 z hz a' d H8 ((Exc.of (tA.trans (t5.trans tB))).trans x8) ct ed
 rintro σ' H6 ⟨hn, a', x6, ct, num6, rfl⟩
 exact ⟨_, rfl, k.1 hn m a' H6 x6 ct num6⟩
def ratE (CR : Addr) (t bo n L : Int) : Exa := ⟨fun H x => B1z CR H x t bo n, L, fun q => whI t bo (n - q), fun q => ptI t bo (n - q), fun q => -1500 <= n - q /\ n - q <= 1500⟩
theorem ratV {CR : Addr} {t bo n L : Int} (ht : Sz t) (hb : Sz bo) (hL : A0x t bo (n - L)) : ExV CR (A6q CR) (C9n CR) (ratE CR t bo n L) where
 same := fun _ _ _ h s => B1z.same h s
 ins := fun _ _ h => by
   obtain ⟨dx, e⟩ := h
   exact ⟨dx, _, e, G1p _ _ _, D9g _ _ _⟩
 first := fun H x Q E h k => ⟨x, t, bo, n, rfl, h, ht, hb, fun f H' s ld => by
   have ef : f = L := by
     have := A0gj (show 0 < bo by have := hb.1; omega) ld hL
     omega
   rw [ef]
   exact k H' s⟩
 at_ := fun H x q Q E h ok k => ⟨x, t, bo, n, q, rfl, h, ht, hb, ok.1, ok.2, fun p H' s np ep => k p H' s np ep⟩
theorem ratM {CR CE g1 g2 : Addr} {gd1 gd2 : FuncData} (RM : RatM P w K mg base CR g1 g2 gd1 gd2) (R : G2r K mg CR CE) : ExM P w K mg base CR g1 g2 gd1 gd2 (A6q CR) (C9n CR) := ⟨R.cl, RM.m1, RM.g1, RM.b1, RM.m2, A8.lift (by decide) RM.g2, RM.b2⟩
theorem J5d {CN CC CT CR : Addr} {vs : List V} {H : Hp} {Q : VK} {E : XK} (h : A4d CN CC CT CR vs H Q E) : A7x CN CC CT CR (A6q CR) (C9n CR) vs H Q E := by
 obtain ⟨c, v, a, b, xs, ys, x, t, bo, n, L, sg, i, rfl, hc, ok, lx, ra, ht, hb, hL, q0, q1, s0, s1, k⟩ := h
 have wr := V3q (s2 := n - v.fin L) ht hb hL ok.r1 (by
   unfold Cv.fin A0v
   split <;> omega)
 exact ⟨c, v, a, b, xs, ys, x, ratE CR t bo n L, sg, i, rfl, hc, ok, lx, ratV ht hb hL, ra, ⟨q0, q1⟩, wr.1, wr.2, s0, s1, k⟩
def A7c (t s : Int) : Prop := A4 (-s) <= t * A4 s /\ t * A4 s < 100 * A4 (-s)
def A1y (t s wh : Int) : Prop := 0 <= wh /\ wh * wh * A4 (-s) <= t * A4 s /\ t * A4 s < (wh + 1) * (wh + 1) * A4 (-s)
def C7d (t s wh : Int) : Int := if wh * wh * A4 (-s) = t * A4 s then 0 else 1 + (if decide ((2 * wh + 1) * (2 * wh + 1) * A4 (-s) <= 4 * (t * A4 s)) = true then 1 else 0) + (if decide ((2 * wh + 1) * (2 * wh + 1) * A4 (-s) < 4 * (t * A4 s)) = true then 1 else 0)
structure Muls (t s wh : Int) : Prop where
 o1 : IntMulOk t (A4 s)
 o2 : IntMulOk wh wh
 o3 : IntMulOk (wh * wh) (A4 (-s))
 o4 : IntMulOk (wh + 1) (wh + 1)
 o5 : IntMulOk ((wh + 1) * (wh + 1)) (A4 (-s))
 o6 : IntMulOk (2 * wh + 1) (2 * wh + 1)
 o7 : IntMulOk ((2 * wh + 1) * (2 * wh + 1)) (A4 (-s))
theorem Y4r {s : Int} (h : s <= 0) : A4 s = 1 := by unfold A4; rw [show s.toNat = 0 by omega]; rfl
theorem J4t {t s r : Int} (ht : 0 < t) (h1 : A7c t s) (h2 : A7c t r) (hp : (r - s) % 2 = 0) : r <= s := by
 apply Classical.byContradiction
 intro h
 have hs : s <= r := by omega
 have c := Z8 hs
 have g : A4 2 <= A4 (r - s) := V7 (by omega)
 have e100 : A4 2 = 100 := by decide +kernel
 rw [e100] at g
 have p1 := D4 (-s)
 have p2 := D4 (-r)
 have e : t * A4 r * A4 (-s) = t * A4 s * A4 (-r) * A4 (r - s) := by
   calc t * A4 r * A4 (-s) = t * (A4 r * A4 (-s)) := by ac_rfl
     _ = t * (A4 s * A4 (-r) * A4 (r - s)) := by rw [c]
     _ = t * A4 s * A4 (-r) * A4 (r - s) := by ac_rfl
 have a1 : t * A4 r * A4 (-s) < 100 * A4 (-r) * A4 (-s) := Int.mul_lt_mul_of_pos_right h2.2 p1
 have hp : 0 < t * A4 s := Int.mul_pos ht (D4 s)
 have a2 : t * A4 s * A4 (-r) * 100 <= t * A4 s * A4 (-r) * A4 (r - s) := Int.mul_le_mul_of_nonneg_left g (Int.le_of_lt (Int.mul_pos hp p2))
 have a3 : A4 (-s) * A4 (-r) <= t * A4 s * A4 (-r) := Int.mul_le_mul_of_nonneg_right h1.1 (Int.le_of_lt p2)
 have e2 : 100 * A4 (-r) * A4 (-s) = A4 (-s) * A4 (-r) * 100 := by ac_rfl
 have a4 : A4 (-s) * A4 (-r) * 100 <= t * A4 s * A4 (-r) * 100 := Int.mul_le_mul_of_nonneg_right a3 (by decide)
 rw [e, e2] at a1
 exact absurd (Int.lt_of_lt_of_le a1 (Int.le_trans a4 a2)) (Int.lt_irrefl _)
theorem Y7k {t n f g : Int} (ht : 0 < t) (h1 : A7c t (n - 2 * f)) (h2 : A7c t (n - 2 * g)) : f = g := by
 have a := J4t ht h1 h2 (by omega)
 have b := J4t ht h2 h1 (by omega)
 omega
def SzQ (t : Int) : Prop := 1 <= t /\ t < 10 ^ 61
theorem C6t {t s : Int} (ht : SzQ t) (h : A7c t s) : -61 <= s /\ s <= 1 := by
 refine ⟨?_, ?_⟩
 . apply Classical.byContradiction
   intro hs
   have g : A4 61 <= A4 (-s) := V7 (by omega)
   have e61 : A4 61 = 10 ^ 61 := by decide +kernel
   have a := h.1
   rw [Y4r (by omega : s <= 0), Int.mul_one] at a
   rw [e61] at g
   have := ht.2
   omega
 apply Classical.byContradiction
 intro hs
 have g : A4 2 <= A4 s := V7 (by omega)
 have e2 : A4 2 = 100 := by decide +kernel
 have a := h.2
 rw [Y4r (by omega : -s <= 0)] at a
 have : 1 * A4 s <= t * A4 s := Int.mul_le_mul_of_nonneg_right ht.1 (Int.le_of_lt (D4 _))
 omega
theorem A4n {s : Int} (h : s <= 200) : (A4 s).natAbs < 2 ^ 700 := by
 unfold A4
 rw [Int.natAbs_natCast]
 exact Nat.lt_of_le_of_lt (Nat.pow_le_pow_right (by decide) (show s.toNat <= 200 by omega)) (by decide +kernel)
theorem SzQ.small {t : Int} (h : SzQ t) : t.natAbs < 2 ^ 203 := by
 have e : (10 ^ 61 : Int).natAbs < 2 ^ 203 := by decide +kernel
 have := h.1; have := h.2
 omega
theorem C9c {k : Nat} (h : k <= 1000) : (2 : Nat) ^ k <= 2 ^ 1000 := Nat.pow_le_pow_right (by decide) h
theorem C8h {t s : Int} (ht : SzQ t) (h : s <= 200) : (t * A4 s).natAbs < 2 ^ 903 := by
 rw [Int.natAbs_mul]
 exact Nat.lt_of_lt_of_le (Nat.mul_lt_mul'' ht.small (A4n h)) (Nat.le_of_eq (Nat.pow_add 2 203 700).symm)
theorem J9z {t s wh : Int} (ht : SzQ t) (h2 : s <= 200) (r : A1y t s wh) : wh.natAbs < 2 ^ 452 := by
 obtain ⟨w0, w1, _⟩ := r
 obtain ⟨n, rfl⟩ := Int.eq_ofNat_of_zero_le w0
 rw [Int.natAbs_natCast]
 have hh := C8h ht h2
 have l1 : (1 : Int) <= A4 (-s) := D4 (-s)
 have a : (n : Int) * n * 1 <= (n : Int) * n * A4 (-s) := Int.mul_le_mul_of_nonneg_left l1 (Int.mul_nonneg w0 w0)
 have b : (n : Int) * n <= t * A4 s := by omega
 have c : n * n < 2 ^ 903 := by
   have : ((n * n : Nat) : Int) <= t * A4 s := b
   omega
 apply Classical.byContradiction
 intro z
 have : 2 ^ 452 * 2 ^ 452 <= n * n := Nat.mul_le_mul (by omega) (by omega)
 rw [<- Nat.pow_add] at this
 have q : (2 : Nat) ^ 903 <= 2 ^ (452 + 452) := Nat.pow_le_pow_right (by decide) (by decide)
 exact absurd (Nat.lt_of_lt_of_le c (Nat.le_trans q this)) (Nat.lt_irrefl _)
theorem Y5e {a : Int} {k : Nat} (h : a.natAbs < 2 ^ k) : (a * a).natAbs < 2 ^ (k + k) := by
 rw [Int.natAbs_mul, Nat.pow_add]
 exact Nat.mul_lt_mul'' h h
theorem V2v {t s wh : Int} (ht : SzQ t) (h1 : -200 <= s) (h2 : s <= 200) (r : A1y t s wh) : Muls t s wh := by
 have rs := J9z ht h2 r
 have w0 := r.1
 have l : (A4 (-s)).natAbs < 2 ^ 1000 := Nat.lt_of_lt_of_le (A4n (by omega)) (C9c (by decide))
 have d : (2 : Nat) ^ 454 = 4 * 2 ^ 452 := by rw [show 454 = 2 + 452 from rfl, Nat.pow_add]
 have e : ∀ {a : Int}, a.natAbs < 2 ^ 454 -> a.natAbs < 2 ^ 1000 := fun h => Nat.lt_of_lt_of_le h (C9c (by decide))
 have e2 : ∀ {a : Int}, a.natAbs < 2 ^ 454 -> (a * a).natAbs < 2 ^ 1000 := fun h => Nat.lt_of_lt_of_le (Y5e h) (C9c (by decide))
 have b1 : wh.natAbs < 2 ^ 454 := by omega
 have b2 : (wh + 1).natAbs < 2 ^ 454 := by omega
 have b3 : (2 * wh + 1).natAbs < 2 ^ 454 := by omega
 exact ⟨Y8 (Nat.lt_of_lt_of_le ht.small (C9c (by decide))) (Nat.lt_of_lt_of_le (A4n h2) (C9c (by decide))), Y8 (e b1) (e b1), Y8 (e2 b1) l, Y8 (e b2) (e b2), Y8 (e2 b2) l, Y8 (e b3) (e b3), Y8 (e2 b3) l⟩
theorem V3a {t s a b : Int} (ha : A1y t s a) (hb : A1y t s b) : b <= a := by
 apply Classical.byContradiction
 intro h
 have p := D4 (-s)
 have q : (a + 1) * (a + 1) <= b * b := Int.mul_le_mul (by omega) (by omega) (by have := ha.1; omega) hb.1
 have q2 : (a + 1) * (a + 1) * A4 (-s) <= b * b * A4 (-s) := Int.mul_le_mul_of_nonneg_right q (Int.le_of_lt p)
 have := ha.2.2
 have := hb.2.1
 omega
theorem A0jw {t s a b : Int} (ha : A1y t s a) (hb : A1y t s b) : a = b := Int.le_antisymm (V3a hb ha) (V3a ha hb)
abbrev A8g : Stmt := (J2 (top 7) 0)
structure V8b (K : Frag) (mg : Str -> Option Value) (CR CE : Addr) : Prop where
 g : mg "Root" = some (.ref CR)
 ge : mg "Exact" = some (.ref CE)
 cl : Cls K CR
 n_top : Y6 K CR "top"
 n_power : Y6 K CR "power"
 ca : findIn K (.ref CR) "__class__" = some (some (.builtin "object.__class__"))
 sn : specialIn K (.builtin "object.__class__") "__get__" = some (some (.builtin "getset_descriptor.__get__"))
 tk : takesIn K (.builtin "object.__class__") = some true
 ob : mroIn K CR (.type "object") = some true
 up : kitOne K (.ref CR) (.ref CE) = some true
def J4h (t n : V) : List (Str × V) := V6 "power" n (V6 "top" t [])
theorem G1n (t n : V) (x : Str) : (J4h t n).lookup x = if x = "power" then some n else if x = "top" then some t else none := by
 unfold J4h
 rw [G8, G8]
 rfl
theorem V3b (t n : V) : (J4h t n).lookup ("top" : Str) = some t := by rw [G1n, if_neg (by decide +kernel), if_pos rfl]
theorem D8v (t n : V) : (J4h t n).lookup ("power" : Str) = some n := by rw [G1n, if_pos rfl]
theorem G1d (t n : V) : (J4h t n).lookup ("first" : Str) = none := by rw [G1n, if_neg (by decide +kernel), if_neg (by decide +kernel)]
theorem V7a (t n : V) : (J4h t n).lookup ("at" : Str) = none := by rw [G1n, if_neg (by decide +kernel), if_neg (by decide +kernel)]
def C6u (CR : Addr) (H : Hp) (x : Addr) (t n : Int) : Prop := ∃ dx, H x = some (.ins CR dx (J4h (.int t) (.int n)))
theorem C6u.same {CR : Addr} {H H' : Hp} {x : Addr} {t n : Int} (h : C6u CR H x t n) (s : C8 H H') : C6u CR H' x t n := by
 obtain ⟨dx, e⟩ := h
 exact ⟨dx, s _ _ e⟩
def G1h (CR : Addr) : Sp := fun vs H Q _ => ∃ (p dx : Addr) (t n : V), vs = [.ref p, t, n] /\ H p = some (.ins CR dx []) /\ ∀ H', H' p = some (.ins CR dx (J4h t n)) -> Exc p H H' -> Q .non H'
theorem A0jb : C5 Q27 Q27 (A2 A8g) := scK
theorem Y7d {f CR CE : Addr} {fd : FuncData} {dV : Value} (F : V8a K "__init__" "Root.__init__" A8g dV f fd) (R : V8b K mg CR CE) : A8 P w K mg base (CX1 P w) 1 f fd Q27 (G1h CR) := by
 refine F.okE A0jb (fun vs H Q E h => ?_) (fun X cdv A outer s H vs Q E hX hr hx h => ?_)
 . obtain ⟨p, dx, a, c, rfl, _⟩ := h
   rfl
 subst hX
 obtain ⟨p, dx, a, c, rfl, hp, k⟩ := h
 refine ⟨_, (A3 (Z7 (pv 0) (pv 1) rfl) (A6 (Z7 (pv 0) (pv 2) rfl))), ?_⟩
 have l : ∀ (fs : List (Str × V)) (f : Str) (v : V) (n : Nat), fs.length <= n -> (V6 f v fs).length <= n + 1 := fun fs f v n h => Nat.le_trans (A0w f v fs) (Nat.succ_le_succ h)
 refine ⟨_, rfl, _, rfl, p, CR, dx, [], rfl, hp, R.cl, R.n_top, (by show 0 < 1000; decide), ?_⟩
 refine ⟨_, rfl, _, rfl, p, CR, dx, _, rfl, A7, R.cl, R.n_power, Nat.lt_of_le_of_lt (l _ _ _ 0 (Nat.le_refl _)) (by decide), ?_⟩
 refine k _ A7 fun b o e hb => ?_
 rw [G6 hb, G6 hb]
 exact e
def B1s (CR : Addr) : Sp := fun vs H Q _ => ∃ x t n, vs = [.ref x] /\ C6u CR H x t n /\ SzQ t /\ -900 <= n /\ n <= 900 /\ ∀ f H', C8 H H' -> A7c t (n - 2 * f) -> Q (.int f) H'
def J4x (CR : Addr) : Sp := fun vs H Q _ => ∃ x t n p, vs = [.ref x, .int p] /\ C6u CR H x t n /\ SzQ t /\ -200 <= n - 2 * p /\ n - 2 * p <= 200 /\
 ∀ wh q H', C8 H H' -> H q = none -> A1y t (n - 2 * p) wh -> H' q = some (.tup [.int wh, .int (C7d t (n - 2 * p) wh)]) -> Q (.ref q) H'
structure A0ra (P : Program) (w : World) (K : Frag) (mg : Str -> Option Value) (base : Heap) (CR fI : Addr) (fdI : FuncData) (d0 : Value) (gP : List Value -> List Value -> List Value) (vP : List V -> List V -> List V) : Prop where
 m : Mk K CR fI
 g : A8 P w K mg base (CX1 P w) 1 fI fdI Q27 (G1h CR)
 b3 : Binds K fdI Q27 []
 b2 : Binds K fdI Q27 [d0]
 r0 : V0 (.int 0) d0
 kP : Y8k K fdI Q27 ["power"] gP vP
 eP : ∀ x a c, vP [x, a] [c] = [x, a, c]
structure RooM (P : Program) (w : World) (K : Frag) (mg : Str -> Option Value) (base : Heap) (CR f1 f2 : Addr) (fd1 fd2 : FuncData) : Prop where
 m1 : Y5 K CR "first" f1
 g1 : A8 P w K mg base (CX1 P w) 4 f1 fd1 ["self"] (B1s CR)
 b1 : Binds K fd1 ["self"] []
 m2 : Y5 K CR "at" f2
 g2 : A8 P w K mg base (CX1 P w) 5 f2 fd2 Q15 (J4x CR)
 b2 : Binds K fd2 Q15 []
theorem A0yx {CR x dx : Addr} {H : Hp} {Q : VK} {E : XK} {t n : Int} (n1 : H x = none) (n2 : H dx = none) (ne : dx ≠ x) (k : ∀ H', C8 H H' -> C6u CR H' x t n -> Q .non H') :
   G1h CR [.ref x, .int t, .int n] (upd (upd H dx (.own x)) x (.ins CR dx [])) Q E :=
 ⟨x, dx, _, _, rfl, A7, fun H' e s => k H' (fun c o z => s c o (by rw [G6 (G7 z n1), G6 (G7 z n2)]; exact z) (G7 z n1)) ⟨dx, e⟩⟩
abbrev B1h : Stmt := (top 10)
theorem Y5d {n g : Nat} (hg : 1 <= g) : n < ((g + n / g) / 2 + 1) * ((g + n / g) / 2 + 1) := by
 have q : n < g * (n / g + 1) := by
   have := Nat.div_add_mod n g
   have := Nat.mod_lt n hg
   rw [Nat.mul_add, Nat.mul_one]
   omega
 generalize n / g = d at q
 have b : g + (d + 1) <= 2 * ((g + d) / 2 + 1) := by omega
 generalize (g + d) / 2 + 1 = c at b
 have s1 : (g + (d + 1)) * (g + (d + 1)) <= 2 * c * (2 * c) := Nat.mul_le_mul b b
 have s2 : 4 * (g * (d + 1)) <= (g + (d + 1)) * (g + (d + 1)) := by
   generalize d + 1 = e
   rcases Nat.le_total g e with h | h
   . obtain ⟨k, rfl⟩ := Nat.exists_eq_add_of_le h
     have e1 : (g + (g + k)) * (g + (g + k)) = 4 * (g * (g + k)) + k * k := by
       simp only [Nat.mul_add, Nat.add_mul]
       have := Nat.mul_comm k g
       omega
     omega
   . obtain ⟨k, rfl⟩ := Nat.exists_eq_add_of_le h
     have e1 : (e + k + e) * (e + k + e) = 4 * ((e + k) * e) + k * k := by
       simp only [Nat.mul_add, Nat.add_mul]
       have := Nat.mul_comm k e
       omega
     omega
 have s3 : 2 * c * (2 * c) = 4 * (c * c) := by
   rw [Nat.mul_mul_mul_comm]
 omega
def V3z : Sp := fun vs H Q _ => ∃ n : Nat, vs = [.int (n : Int)] /\ n < 10 ^ 300 /\ ∀ r : Nat, r * r <= n -> n < (r + 1) * (r + 1) -> Q (.int (r : Int)) H
theorem scWRoot : C5 ["whole", "guess", "better"] ["whole"] (A2 B1h) := scK
theorem Y5a {f f1 f2 : Addr} {fd fd1 fd2 : FuncData} (D : Def K mg "whole_root" ["whole"] B1h f fd) (D_ten_to : Def K mg "ten_to" ["count"] A0q f1 fd1) (G_ten_to : A8 P w K mg base (CX1 P w) 2 f1 fd1 ["count"] A2h) (D_whole_lead : Def K mg "whole_lead" ["whole"] A6e f2 fd2) (G_whole_lead : A8 P w K mg base (CX1 P w) 3 f2 fd2 ["whole"] C7k) : A8 P w K mg base (CX1 P w) 4 f fd ["whole"] V3z := by
 refine A8.up (D.F.ok scWRoot (fun vs H Q E h => ?_) (fun cdv A outer s H vs Q E hr h => ?_))
 . obtain ⟨n, rfl, _⟩ := h
   rfl
 obtain ⟨n, rfl, n2, k⟩ := h
 have hx : U1 (A2a CX0 P w K mg base ["whole", "guess", "better"] "whole_root" (A2 B1h) f cdv A outer s H E).nox EKF := Y1
 refine ⟨_, (A3 (G4 (C7 G2 (pv 0) A1 (C6 _)) (A6 (B0 A1)) D0) (A3 (D3 (i := 1) scWRoot.nd rfl (Or.inl rfl) (C9 D_ten_to G_ten_to hr hx (A0 (A9 J4 (A9 D8 (C9 D_whole_lead G_whole_lead hr hx (A0 (pv 0) A5)) A1) A1) A5))) (A3 (D3 (i := 2) scWRoot.nd rfl (Or.inl rfl) (A9 D8 (A9 J4 (pv 1) (A9 D8 (pv 0) (pv 1))) A1)) (A3 (A2q PassesOwn.never (C7 B6t (pv 2) (pv 1) (C6 _)) (A3 (D3 (i := 1) scWRoot.nd rfl (Or.inl rfl) (pv 2)) (A6 (D3 (i := 2) scWRoot.nd rfl (Or.inl rfl) (A9 D8 (A9 J4 (pv 1) (A9 D8 (pv 0) (pv 1))) A1))))) (A6 (B0 (pv 1))))))), ?_⟩
 have d2 : (0 : Int) < 2 /\ (2 : Int).natAbs.log2 < 9000 := ⟨by decide, by decide +kernel⟩
 refine ⟨_, rfl, rfl, _, rfl, J1 (fun h0 => ?_) (fun h0 => ?_)⟩
 . have e : n = 0 := by
     have : (n : Int) = 0 := by injection h0
     omega
   subst e
   exact k 0 (Nat.le_refl _) (by decide)
 have n1 : 1 <= n := by
   apply Classical.byContradiction
   intro z
   exact h0 (by rw [show n = 0 by omega]; rfl)
 have lg : ∀ {g : Nat}, 1 <= g -> g < 2 ^ 1000 -> 0 < (g : Int) /\ (g : Int).natAbs.log2 < 9000 := fun h1 h2 => ⟨by omega, Nat.lt_trans (A0s (k := 1000) (by rw [Int.natAbs_natCast]; exact h2) (by decide)) (by decide)⟩
 refine ⟨_, rfl, n, rfl, n1, Nat.lt_trans n2 (Nat.pow_lt_pow_right (by decide) (by decide)), fun L L1 L2 => ?_⟩
 have l3 : L < 300 := (Nat.pow_lt_pow_iff_right (by decide : 1 < 10)).mp (Nat.lt_of_le_of_lt L1 n2)
 refine ⟨_, _, rfl, rfl, d2, _, _, rfl, rfl, L / 2 + 1, rfl, by omega, ?_⟩
 have g1 : 1 <= 10 ^ (L / 2 + 1) := Nat.pow_pos (by decide)
 have g2 : 10 ^ (L / 2 + 1) < 2 ^ 1000 := Nat.lt_of_le_of_lt (Nat.pow_le_pow_right (by decide) (show L / 2 + 1 <= 200 by omega)) (by decide +kernel)
 have g3 : n < (10 ^ (L / 2 + 1) + 1) * (10 ^ (L / 2 + 1) + 1) := by
   have a : 10 ^ (L + 1) <= 10 ^ (L / 2 + 1) * 10 ^ (L / 2 + 1) := by
     rw [<- Nat.pow_add]
     exact Nat.pow_le_pow_right (by decide) (by omega)
   have b : 10 ^ (L / 2 + 1) * 10 ^ (L / 2 + 1) <= (10 ^ (L / 2 + 1) + 1) * (10 ^ (L / 2 + 1) + 1) := Nat.mul_le_mul (Nat.le_succ _) (Nat.le_succ _)
   omega
 refine ⟨_, rfl, _, rfl, _, rfl, _, _, rfl, rfl, lg g1 g2, _, _, rfl, rfl, _, _, rfl, rfl, d2, ?_⟩
 refine A0z (fun σ H2 => H2 = H /\ ∃ g : Nat, 1 <= g /\ g < 2 ^ 1000 /\ n < (g + 1) * (g + 1) /\ σ = [some (.int (n : Int)), some (.int (g : Int)), some (.int (((g + n / g) / 2 : Nat) : Int))]) (fun σ _ => match σ with | [_, some (.int c), _] => c.toNat | _ => 0) ?_ ?_ ?_
 . exact ⟨rfl, 10 ^ (L / 2 + 1), g1, g2, g3, rfl⟩
 . rintro σ H2 ⟨rfl, g, g1, g2, g3, rfl⟩
   refine ⟨_, rfl, _, rfl, _, _, rfl, rfl, _, rfl, J1 (fun hlt => ?_) (fun hge => ?_)⟩
   . have hlt : (g + n / g) / 2 < g := Int.ofNat_lt.mp hlt
     have b1 : 1 <= (g + n / g) / 2 := by
       rcases (by omega : g = 1 \/ 2 <= g) with rfl | h
       . rw [Nat.div_one]; omega
       . clear hlt
         generalize n / g = d
         omega
     have b3 := Y5d (n := n) g1
     generalize (g + n / g) / 2 = b at hlt b1 b3
     refine ⟨_, rfl, _, rfl, _, rfl, _, rfl, _, _, rfl, rfl, lg b1 (Nat.lt_trans hlt g2), _, _, rfl, rfl, _, _, rfl, rfl, d2, ⟨rfl, b, b1, Nat.lt_trans hlt g2, b3, rfl⟩, ?_⟩
     show (b : Int).toNat < (g : Int).toNat
     omega
   . have hge : g <= (g + n / g) / 2 := by
       have : ¬ ((g + n / g) / 2 < g) := fun z => hge (Int.ofNat_lt.mpr z)
       omega
     refine ⟨_, rfl, k g ?_ g3⟩
     have : g <= n / g := by omega
     exact (Nat.le_div_iff_mul_le (by omega)).mp this
 rintro σ H2 Q1 Q2 hQ ⟨v, e, v2, e2, i, j, e3, e4, b, e5, q⟩
 exact ⟨v, e, v2, e2, i, j, e3, e4, b, e5, hQ _ _ q⟩
abbrev C8q : Stmt := (J2 (top 7) 2)
abbrev A4s : Stmt := (J2 (top 7) 1)
theorem V3t {t : Int} (h : SzQ t) : ∃ n : Nat, t = (n : Int) /\ 1 <= n /\ n < 10 ^ 61 := by
 obtain ⟨n, rfl⟩ := Int.eq_ofNat_of_zero_le (show 0 <= t by have := h.1; omega)
 have := h.1; have := h.2
 exact ⟨n, rfl, by omega, by omega⟩
theorem A0ju {h m : Int} (hp : 0 < h) : Z4 (2 * h) m = 1 + (if decide (m <= 4 * h) = true then 1 else 0) + (if decide (m < 4 * h) = true then 1 else 0) := by
 unfold Z4
 rw [decide_eq_true (by omega : 0 < 2 * h), show 2 * (2 * h) = 4 * h by omega]
 rfl
theorem D8w {t L : Nat} {n f : Int} (t1 : 10 ^ L <= t) (t2 : t < 10 ^ (L + 1)) (e : f = ((L : Int) + n) / 2) : A7c t (n - 2 * f) := by
 have hs : n - 2 * f = -(L : Int) \/ n - 2 * f = 1 - (L : Int) := by omega
 have key : ∀ u v : Nat, (u = 0 /\ (v = L \/ v + 1 = L)) \/ (u = 1 /\ v = 0 /\ L = 0) -> 10 ^ v <= t * 10 ^ u /\ t * 10 ^ u < 100 * 10 ^ v := by
   rintro u v (⟨rfl, rfl | rfl⟩ | ⟨rfl, rfl, rfl⟩)
   . rw [Nat.pow_succ] at t2
     omega
   . rw [Nat.pow_succ] at t1
     rw [Nat.pow_succ, Nat.pow_succ] at t2
     omega
   . simp at t1 t2 ⊢
     omega
 have := key (n - 2 * f).toNat (-(n - 2 * f)).toNat (by omega)
 unfold A7c A4
 exact ⟨Int.ofNat_le.mpr this.1, Int.ofNat_lt.mpr this.2⟩
theorem Y5x : C5 ["self"] ["self"] (A2 A4s) := scK
theorem V6n {f f1 CR CE : Addr} {fd fd1 : FuncData} (F : Fun K "first" "Root.first" A4s f fd) (D_whole_lead : Def K mg "whole_lead" ["whole"] A6e f1 fd1) (G_whole_lead : A8 P w K mg base (CX1 P w) 3 f1 fd1 ["whole"] C7k) (R : V8b K mg CR CE) : A8 P w K mg base (CX1 P w) 4 f fd ["self"] (B1s CR) := by
 refine A8.up (F.ok Y5x (fun vs H Q E h => ?_) (fun cdv A outer s H vs Q E hr h => ?_))
 . obtain ⟨x, t, n, rfl, _⟩ := h
   rfl
 obtain ⟨x, t, n, rfl, ra, ht, _, _, k⟩ := h
 have hx : U1 (A2a CX0 P w K mg base ["self"] "Root.first" (A2 A4s) f cdv A outer s H E).nox EKF := Y1
 refine ⟨_, (A6 (B0 (A9 D8 (A9 J4 (C9 D_whole_lead G_whole_lead hr hx (A0 (D6 (pv 0) rfl) A5)) (D6 (pv 0) rfl)) A1))), ?_⟩
 obtain ⟨tn, rfl, ta, tb⟩ := V3t ht
 obtain ⟨dx, e⟩ := id ra
 have d2 : (0 : Int) < 2 /\ (2 : Int).natAbs.log2 < 9000 := ⟨by decide, by decide +kernel⟩
 refine ⟨_, rfl, x, CR, dx, _, _, rfl, e, R.cl, R.n_top, V3b _ _, tn, rfl, ta, Nat.lt_trans tb (Nat.pow_lt_pow_right (by decide) (by decide)), fun L L1 L2 => ?_⟩
 exact ⟨_, rfl, x, CR, dx, _, _, rfl, e, R.cl, R.n_power, D8v _ _, _, _, rfl, rfl, _, _, rfl, rfl, d2, k _ H (C8.refl H) (D8w L1 L2 rfl)⟩
theorem scQAt : C5 Q52 Q15 (A2 C8q) := scK
theorem A0sa {f f1 f2 f3 CR CE : Addr} {fd fd1 fd2 fd3 : FuncData} (F : Fun K "at" "Root.at" C8q f fd) (D_ten_to : Def K mg "ten_to" ["count"] A0q f1 fd1) (G_ten_to : A8 P w K mg base (CX1 P w) 2 f1 fd1 ["count"] A2h)
   (D_part_of : Def K mg "part_of" Q20 A5h f2 fd2) (G_part_of : A8 P w K mg base (CX1 P w) 1 f2 fd2 Q20 C8z) (D_whole_root : Def K mg "whole_root" ["whole"] B1h f3 fd3) (G_whole_root : A8 P w K mg base (CX1 P w) 4 f3 fd3 ["whole"] V3z) (R : V8b K mg CR CE) (O : Own mg) : A8 P w K mg base (CX1 P w) 5 f fd Q15 (J4x CR) := by
 refine A8.up (F.ok scQAt (fun vs H Q E h => ?_) (fun cdv A outer s H vs Q E hr h => ?_))
 . obtain ⟨x, t, n, p, rfl, _⟩ := h
   rfl
 obtain ⟨x, t, n, p, rfl, ⟨dx, e⟩, ht, h1, h2, k⟩ := h
 have hx : U1 (A2a CX0 P w K mg base Q52 "Root.at" (A2 C8q) f cdv A outer s H E).nox EKF := Y1
 refine ⟨_, (A3 (D3 (i := 2) scQAt.nd rfl (Or.inl rfl) (A9 J8 (D6 (pv 0) rfl) (A9 G5 A1 (pv 1)))) (A3 (D3 (i := 3) scQAt.nd rfl (Or.inl rfl) (A9 G5 (D6 (pv 0) rfl) (C9 D_ten_to G_ten_to hr hx (A0 (J3 (Y3 rfl) (by rfl) O.max_ boot_max (A0 (pv 2) (A0 A1 A5))) A5)))) (A3 (D3 (i := 4) scQAt.nd rfl (Or.inl rfl) (C9 D_ten_to G_ten_to hr hx (A0 (J3 (Y3 rfl) (by rfl) O.max_ boot_max (A0 (B1f A4h (pv 2)) (A0 A1 A5))) A5))) (A3 (D3 (i := 5) scQAt.nd rfl (Or.inl rfl) (C9 D_whole_root G_whole_root hr hx (A0 (A9 D8 (pv 3) (pv 4)) A5))) (A3 (G4 (C7 G2 (A9 G5 (A9 G5 (pv 5) (pv 5)) (pv 4)) (pv 3) (C6 _)) (A6 (B0 (U6 (A0 (pv 5) (A0 A1 A5))))) D0) (A6 (B0 (U6 (A0 (pv 5) (A0 (C9 D_part_of G_part_of hr hx (A0 (A9 G5 A1 (pv 3)) (A0 (A9 G5 (A9 G5 (A9 J4 (A9 G5 A1 (pv 5)) A1) (A9 J4 (A9 G5 A1 (pv 5)) A1)) (pv 4)) A5))) A5)))))))))), ?_⟩
 have z2 : 2 <= sizeLine := D7 (by decide)
 have mC' : ∀ z n : Int, -(2 ^ 64) < n -> n < 2 ^ 64 -> IntMulOk n z := fun z n a b => A2u.ok (.inl ⟨a, b⟩)
 have oT : IntMulOk t (A4 (n - 2 * p)) := Y8 (Nat.lt_of_lt_of_le ht.small (C9c (by decide))) (Nat.lt_of_lt_of_le (A4n h2) (C9c (by decide)))
 refine ⟨_, rfl, x, CR, dx, _, _, rfl, e, R.cl, R.n_power, D8v _ _, _, rfl, _, _, rfl, rfl, mC' _ _ (by decide) (by decide), _, _, rfl, rfl, ?_⟩
 refine ⟨_, rfl, x, CR, dx, _, _, rfl, e, R.cl, R.n_top, V3b _ _, _, rfl, _, _, rfl, (n - 2 * p).toNat, congrArg (fun z => [V.int z]) (maxT (n - 2 * p)), by omega, _, _, rfl, rfl, oT, ?_⟩
 refine ⟨_, rfl, _, rfl, _, _, rfl, (-(n - 2 * p)).toNat, congrArg (fun z => [V.int z]) (maxT (-(n - 2 * p))), by omega, ?_⟩
 have lp : 0 < A4 (-(n - 2 * p)) := D4 _
 have ll : (A4 (-(n - 2 * p))).natAbs.log2 < 9000 := Nat.lt_trans (A0s (A4n (by omega)) (by decide)) (by decide)
 have hp : 0 < t * A4 (n - 2 * p) := Int.mul_pos (by have := ht.1; omega) (D4 _)
 have hs := C8h ht h2
 obtain ⟨hi, ehi⟩ := Int.eq_ofNat_of_zero_le (Int.le_of_lt hp)
 obtain ⟨lo, elo⟩ := Int.eq_ofNat_of_zero_le (Int.le_of_lt lp)
 have b300 : hi / lo < 10 ^ 300 := by
   have a : hi < 2 ^ 903 := by rw [ehi, Int.natAbs_natCast] at hs; exact hs
   exact Nat.lt_of_le_of_lt (Nat.div_le_self _ _) (Nat.lt_trans a (by decide +kernel))
 refine ⟨_, rfl, _, rfl, _, _, rfl, rfl, ⟨lp, ll⟩, hi / lo, (by show [V.int (t * A4 (n - 2 * p) / A4 (-(n - 2 * p)))] = _; rw [ehi, elo]; rfl), b300, fun r r1 r2 => ?_⟩
 have lo0 : 0 < lo := by omega
 have rt : A1y t (n - 2 * p) (r : Int) := by
   refine ⟨by omega, ?_, ?_⟩
   . rw [ehi, elo]
     have := (Nat.le_div_iff_mul_le lo0).mp r1
     exact Int.ofNat_le.mpr this
   . rw [ehi, elo]
     have := (Nat.div_lt_iff_lt_mul lo0).mp r2
     exact Int.ofNat_lt.mpr this
 have m := V2v ht h1 h2 rt
 refine ⟨_, rfl, _, rfl, _, _, rfl, rfl, m.o2, _, rfl, _, _, rfl, rfl, m.o3, _, rfl, rfl, _, rfl, J1 (fun he => ?_) (fun hn => ?_)⟩
 . have he : (r : Int) * r * A4 (-(n - 2 * p)) = t * A4 (n - 2 * p) := by injection he
   refine ⟨_, rfl, z2, fun q nq => k r q _ (C8.upd nq) nq rt ?_⟩
   rw [A7]
   unfold C7d
   rw [if_pos he]
 have hn : ¬ (r : Int) * r * A4 (-(n - 2 * p)) = t * A4 (n - 2 * p) := fun z => hn (congrArg V.int z)
 have m0 : 0 < (2 * (r : Int) + 1) * (2 * (r : Int) + 1) * A4 (-(n - 2 * p)) := Int.mul_pos (Int.mul_pos (by omega) (by omega)) lp
 refine ⟨_, rfl, _, rfl, _, _, rfl, rfl, mC' _ _ (by decide) (by decide), _, rfl, _, _, rfl, rfl, mC' _ _ (by decide) (by decide), _, _, rfl, rfl, _, rfl, _, _, rfl, rfl, mC' _ _ (by decide) (by decide), _, _, rfl, rfl, _, _, rfl, rfl, m.o6, _, rfl, _, _, rfl, rfl, m.o7, 2 * (t * A4 (n - 2 * p)), (2 * (r : Int) + 1) * (2 * (r : Int) + 1) * A4 (-(n - 2 * p)), ?_, by omega, m0, z2, fun q nq => k r q _ (C8.upd nq) nq rt ?_⟩
 . show [V.int (4 * (t * A4 (n - 2 * p))), _] = [V.int (2 * (2 * (t * A4 (n - 2 * p)))), _]
   rw [show 2 * (2 * (t * A4 (n - 2 * p))) = 4 * (t * A4 (n - 2 * p)) by omega]
   rfl
 rw [A7, A0ju hp]
 unfold C7d
 rw [if_neg hn]
theorem V3f : ∀ n : Nat, ∃ r : Nat, r * r <= n /\ n < (r + 1) * (r + 1)
 | 0 => ⟨0, by decide, by decide⟩
 | n + 1 => by
   obtain ⟨r, h1, h2⟩ := V3f n
   by_cases h : n + 1 < (r + 1) * (r + 1)
   . exact ⟨r, by omega, h⟩
   . refine ⟨r + 1, by omega, ?_⟩
     have : (r + 1 + 1) * (r + 1 + 1) = (r + 1) * (r + 1) + 2 * (r + 1) + 1 := by
       simp only [Nat.add_mul, Nat.mul_add]
       omega
     omega
theorem A0hj {t s : Int} (ht : 1 <= t) : ∃ w, A1y t s w := by
 obtain ⟨hi, ehi⟩ := Int.eq_ofNat_of_zero_le (Int.le_of_lt (Int.mul_pos (show 0 < t by omega) (D4 s)))
 obtain ⟨lo, elo⟩ := Int.eq_ofNat_of_zero_le (Int.le_of_lt (D4 (-s)))
 have lo0 : 0 < lo := by have := D4 (-s); omega
 obtain ⟨r, r1, r2⟩ := V3f (hi / lo)
 refine ⟨r, by omega, ?_, ?_⟩
 . rw [ehi, elo]
   exact Int.ofNat_le.mpr ((Nat.le_div_iff_mul_le lo0).mp r1)
 rw [ehi, elo]
 exact Int.ofNat_lt.mpr ((Nat.div_lt_iff_lt_mul lo0).mp r2)
noncomputable def whQ (t s : Int) : Int := by
 classical exact if h : ∃ w, A1y t s w then Classical.choose h else 0
theorem A6x {t s : Int} (ht : 1 <= t) : A1y t s (whQ t s) := by
 have h := A0hj (s := s) ht
 unfold whQ
 rw [dif_pos h]
 exact Classical.choose_spec h
theorem U1h {t s w : Int} (ht : 1 <= t) (h : A1y t s w) : whQ t s = w := A0jw (A6x ht) h
noncomputable def rooE (CR : Addr) (t n L : Int) : Exa := ⟨fun H x => C6u CR H x t n, L, fun q => whQ t (n - 2 * q), fun q => C7d t (n - 2 * q) (whQ t (n - 2 * q)), fun q => -200 <= n - 2 * q /\ n - 2 * q <= 200⟩
theorem rooV {CR : Addr} {t n L : Int} (ht : SzQ t) (n1 : -900 <= n) (n2 : n <= 900) (hL : A7c t (n - 2 * L)) : ExV CR (B1s CR) (J4x CR) (rooE CR t n L) where
 same := fun _ _ _ h s => C6u.same h s
 ins := fun _ _ h => by
   obtain ⟨dx, e⟩ := h
   exact ⟨dx, _, e, G1d _ _, V7a _ _⟩
 first := fun H x Q E h k => ⟨x, t, n, rfl, h, ht, n1, n2, fun f H' s ld => by
   have ef : f = L := Y7k (show 0 < t by have := ht.1; omega) ld hL
   rw [ef]
   exact k H' s⟩
 at_ := fun H x q Q E h ok k => ⟨x, t, n, q, rfl, h, ht, ok.1, ok.2, fun wh p H' s np rt ep => by
   have e := U1h ht.1 rt
   refine k p H' s np ?_
   show H' p = some (.tup [.int (whQ t (n - 2 * q)), .int (C7d t (n - 2 * q) (whQ t (n - 2 * q)))])
   rw [e]
   exact ep⟩
theorem rooM {CR CE g1 g2 : Addr} {gd1 gd2 : FuncData} (RM : RooM P w K mg base CR g1 g2 gd1 gd2) (R : V8b K mg CR CE) : ExM P w K mg base CR g1 g2 gd1 gd2 (B1s CR) (J4x CR) := ⟨R.cl, RM.m1, RM.g1, RM.b1, RM.m2, RM.g2, RM.b2⟩
abbrev A3n : Stmt := (top 25)
abbrev A7u : Stmt := (top 26)
def C0c (K : Frag) (CN CB : Addr) : Sp := fun vs H Q E => ∃ l ns, vs = [.ref l] /\ (∀ p ∈ (ns : List (Addr × Nm)), V1 CN H p.1 p.2) /\
 ((H l = some (.lst (ns.map fun p => V.ref p.1)) /\ Q .non H) \/ (∃ v r, H l = some (.lst ((ns.map fun p => V.ref p.1) ++ v :: r)) /\ U0d K CN H v /\ E (.ref CB) none H))
theorem scNeedNs : C5 ["things", "thing"] ["things"] (A2 A3n) := scK
theorem V6a {f f1 CN CB : Addr} {fd fd1 : FuncData} (D : Def K mg "need_numbers" ["things"] A3n f fd) (D_need_number : Def K mg "need_number" ["thing"] A4q f1 fd1) (G_need_number : A8 P w K mg base (CX1 P w) 1 f1 fd1 ["thing"] (B9z K CN CB)) : A8 P w K mg base (CX1 P w) 2 f fd ["things"] (C0c K CN CB) := by
 refine D.F.okE scNeedNs (fun vs H Q E h => ?_) (fun X cdv A outer s H vs Q E hX hr hx h => ?_)
 . obtain ⟨l, ns, rfl, _⟩ := h
   rfl
 subst hX
 obtain ⟨l, ns, rfl, hn, h⟩ := h
 refine ⟨_, (A6 (B7f PassesOwn.leaving rfl (G2f (pv 0)) (J7 (i := 1) scNeedNs.nd rfl (Or.inl rfl)) (A6 (V8 (C9 D_need_number G_need_number hr hx (A0 (pv 1) A5)))))), ?_⟩
 rcases h with ⟨hl, k⟩ | ⟨v, r, hl, nv, k⟩
 . refine ⟨_, rfl, l, rfl, ⟨_, SqL.of hl⟩, B1w (xs := ns.map fun p => V.ref p.1) (fun i σ H' => H' = H /\ ∃ v, σ = [some (.ref l), v]) ⟨rfl, none, rfl⟩ ?_ ?_ ?_⟩
   . rintro i σ H' _ ⟨rfl, _⟩
     exact SqL.of hl
   . rintro i x σ H' hi ⟨rfl, v, rfl⟩
     obtain ⟨p, hp, rfl⟩ := List.mem_map.mp (List.mem_of_getElem? hi)
     exact ⟨_, rfl, _, rfl, .inl ⟨p.1, _, _, _, _, rfl, hn p hp, rfl, _, rfl⟩⟩
   . rintro σ H' ⟨rfl, v, rfl⟩
     exact k
 refine ⟨_, rfl, l, rfl, ⟨_, SqL.of hl⟩, B1w (xs := (ns.map fun p => V.ref p.1) ++ v :: r) (fun i σ H' => H' = H /\ i <= ns.length /\ ∃ v, σ = [some (.ref l), v]) ⟨rfl, Nat.zero_le _, none, rfl⟩ ?_ ?_ ?_⟩
 . rintro i σ H' _ ⟨rfl, _⟩
   exact SqL.of hl
 . rintro i x σ H' hi ⟨rfl, hle, u, rfl⟩
   by_cases hlt : i < ns.length
   . rw [List.getElem?_append_left (by simpa using hlt)] at hi
     obtain ⟨p, hp, rfl⟩ := List.mem_map.mp (List.mem_of_getElem? hi)
     exact ⟨_, rfl, _, rfl, .inl ⟨p.1, _, _, _, _, rfl, hn p hp, rfl, by omega, _, rfl⟩⟩
   . have e : i = ns.length := by omega
     subst e
     rw [List.getElem?_append_right (by simp)] at hi
     simp at hi
     subst hi
     exact ⟨_, rfl, _, rfl, .inr ⟨nv, k⟩⟩
 rintro σ H' ⟨rfl, hle, _⟩
 exfalso
 rw [List.length_append, List.length_map, List.length_cons] at hle
 omega
def C7h (CN : Addr) : Sp := fun vs H Q _ => ∃ l ns z, vs = [.ref l, .str z] /\ Y8j CN H l ns /\ ns.length <= 1000 /\ ∀ H', C8 H H' -> Q (.bl (ns.any fun p => decide (p.2.k.str = z))) H'
theorem A0he : C5 Q17 Q17 (A2 A7u) := scK
theorem A0te (ns : List (Addr × Nm)) (z : Str) : (ns.map fun p => decide (p.2.k.str = z)).any id = ns.any fun p => decide (p.2.k.str = z) := by rw [List.any_map]; rfl
theorem dec_str {a b : Str} : decide (V.str a = V.str b) = decide (a = b) := by
 by_cases h : a = b
 . rw [decide_eq_true h, decide_eq_true (congrArg V.str h)]
 rw [decide_eq_false h, decide_eq_false fun q => h (by injection q)]
theorem Y7t {f CN : Addr} {fd : FuncData} (D : Def K mg "some_of_kind" Q17 A7u f fd) (O : Own mg) (N : Num K mg CN) : A8 P w K mg base (CX1 P w) 1 f fd Q17 (C7h CN) := by
 refine A8.up (D.F.ok A0he (fun vs H Q E h => ?_) (fun cdv A outer s H vs Q E hr h => ?_))
 . obtain ⟨l, ns, z, rfl, _⟩ := h
   rfl
 obtain ⟨l, ns, z, rfl, ⟨hl, hn⟩, hz, k⟩ := h
 refine ⟨_, (A6 (B0 (J3 (Y4q hr.hd) (by rfl) O.any_ boot_any (A0 (V6p (N := ["number"]) (F := ["kind"]) (js := [1]) (U7.of1 ⟨rfl, by decide +kernel, by decide +kernel, by decide +kernel, by decide +kernel⟩ (by rfl) (by rfl) ⟨_, by rfl⟩ (by rfl) (by rfl)) (.inl hr.hd) (C0j (pv 0)) rfl (fun C s₀ H₀ ex pn h => J7 (i := 0) (by decide +kernel : (["number", "kind"] : List Str).Nodup) rfl (Or.inl rfl)) (fun C s₀ H₀ ex pn h => (G9 G2 (A0gq (K := K) rfl (pv 0) rfl) (pv 1) (C6 _)))) A5)))), ?_⟩
 refine ⟨_, rfl, l, rfl, ⟨_, SqL.of hl⟩, B5t (J := Itl K l) (n := ns.length) (fun i y _ => ∃ p, ns[i]? = some p /\ y = .bl (decide (p.2.k.str = z))) hz (fun _ _ _ _ _ _ h _ _ => h) (fun i H2 Qy hi sm hy => ⟨⟨_, V.ref ns[i].1, SqL.of (sm _ _ hl), by simp [hi]⟩, fun x H3 yl => ?_⟩) (fun H2 sm => ⟨_, SqL.of (sm _ _ hl), by simp⟩) (fun D H' ys sm nD eD hlen hR => ?_)⟩
 . obtain ⟨rfl, yl⟩ := yl
   have ex : x = V.ref ns[i].1 := by
     have := yl _ (SqL.of (sm _ _ hl))
     simp [hi] at this
     exact this.symm
   subst ex
   obtain ⟨dx, e⟩ := (hn _ (List.getElem_mem hi)).same sm
   refine ⟨_, rfl, ns[i].1, CN, dx, _, _, rfl, e, N.cl, N.n1, B1q _ _ _ _, _, rfl, rfl, hy _ _ (C8.refl _) ⟨ns[i], by simp [hi], ?_⟩⟩
   rw [dec_str]
 have ey : ys = (ns.map fun p => decide (p.2.k.str = z)).map V.bl := by
   apply List.ext_getElem?
   intro i
   by_cases hi : i < ns.length
   . obtain ⟨p, hp, hy⟩ := hR i ys[i] (by simp [hlen, hi])
     rw [List.getElem?_eq_getElem (by omega), hy]
     simp [hp]
   . rw [List.getElem?_eq_none (by omega), List.getElem?_eq_none (by simp; omega)]
 subst ey
 refine ⟨D, _, rfl, SqL.of eD, ?_⟩
 rw [A0te]
 exact k H' sm
theorem C8k {v : Cv} {L n : Int} (ok : v.Ok) (h1 : -1000 <= n - L) (h2 : n - L <= 1000) (n1 : -400 <= n) (n2 : n <= 400) : -1500 <= n - v.fin L /\ n - v.fin L <= 1500 := by
 have := ok.r1; have := ok.r2; have := ok.l1; have := ok.l2
 unfold Cv.fin A0v
 split <;> omega
theorem A8c {t b s : Int} (ht : Sz t) (hb : Sz b) (h : A0x t b s) : -1000 <= s /\ s <= 1000 := by
 have e := D4 1000
 refine ⟨?_, ?_⟩
 . apply Classical.byContradiction
   intro hs
   have z : A4 s = 1 := by unfold A4; rw [show s.toNat = 0 by omega]; rfl
   have g : A4 1000 <= A4 (-s) := V7 (by omega)
   have a := h.1
   rw [z, Int.mul_one] at a
   have : 1 * A4 (-s) <= b * A4 (-s) := Int.mul_le_mul_of_nonneg_right hb.1 (Int.le_of_lt (D4 _))
   have := ht.2
   omega
 apply Classical.byContradiction
 intro hs
 have z : A4 (-s) = 1 := by unfold A4; rw [show (-s).toNat = 0 by omega]; rfl
 have g : A4 1001 <= A4 s := V7 (by omega)
 have e1 : A4 1001 = 10 * A4 1000 := by
   unfold A4
   rw [show (1001 : Int).toNat = (1000 : Int).toNat + 1 by decide, Nat.pow_succ, Nat.mul_comm]
   rfl
 have a := h.2
 rw [z, Int.mul_one] at a
 have : 1 * A4 s <= t * A4 s := Int.mul_le_mul_of_nonneg_right ht.1 (Int.le_of_lt (D4 _))
 have := hb.2
 omega
theorem A4v : Sz 1 := ⟨by decide, by
 have : A4 1 <= A4 1000 := V7 (by decide)
 have e : A4 1 = 10 := rfl
 omega⟩
theorem G1f {f : Int} (h0 : 0 <= f) (h : f ≠ 0) (h1 : f <= 10 ^ 60 - 1) : Sz f := by
 refine ⟨by omega, ?_⟩
 have : A4 60 <= A4 1000 := V7 (by decide)
 have e : A4 60 = 10 ^ 60 := by decide +kernel
 omega
theorem B5w (n : Nat) (h : 1 <= n) : ∃ L : Nat, 10 ^ L <= n /\ n < 10 ^ (L + 1) := by
 induction n using Nat.strongRecOn with
 | ind n ih =>
   by_cases h10 : n < 10
   . exact ⟨0, by simpa using h, by simpa using h10⟩
   . obtain ⟨L, a, b⟩ := ih (n / 10) (by omega) (by omega)
     refine ⟨L + 1, ?_, ?_⟩
     . rw [Nat.pow_succ]; omega
     . rw [Nat.pow_succ]; omega
theorem A7z {n j : Nat} (h1 : n < 10 ^ (j + 1)) (h2 : 10 ^ j <= n) : V4 (n : Int) = (j : Int) + 1 := by
 unfold V4
 have e : (Str.ofString (toString (n : Int))).length = (Nat.toDigits 10 n).length := by
   have := congrArg List.length (KIN.signs_num n)
   rw [List.length_map] at this
   rw [<- this]; rfl
 rw [e]
 have a : (Nat.toDigits 10 n).length <= j + 1 := digits10_le (by omega) h1
 have b : j + 1 <= (Nat.toDigits 10 n).length := digits10_ge h2
 omega
theorem C8x {c A B : Prop} [Decidable c] (h : ¬ c) (a : A) : if (!decide c) = true then A else B := by rw [decide_eq_false h]; exact Z5 a
def SzL (t : Int) : Prop := 1 <= t /\ t < A4 500
theorem SzL.nat {t : Int} (h : SzL t) : ∃ n : Nat, t = (n : Int) /\ 1 <= n /\ n < 10 ^ 500 := by
 obtain ⟨n, rfl⟩ := Int.eq_ofNat_of_zero_le (show 0 <= t by have := h.1; omega)
 exact ⟨n, rfl, Int.ofNat_le.mp h.1, Int.ofNat_lt.mp h.2⟩
theorem SzL.sz {t : Int} (h : SzL t) : Sz t := ⟨h.1, Int.lt_of_lt_of_le h.2 (V7 (by decide))⟩
theorem SzL.log {t : Int} (h : SzL t) : t.natAbs.log2 < 1920 := by
 obtain ⟨n, rfl, _, hn⟩ := h.nat
 have : n < 2 ^ 1670 := Nat.lt_of_lt_of_le (Nat.lt_of_lt_of_le hn (Nat.pow_le_pow_right (by decide) (by decide : 500 <= 3 * 167))) (J4b 167)
 exact Nat.lt_trans (A0s (i := (n : Int)) (k := 1670) (by rw [Int.natAbs_natCast]; exact this) (by decide)) (by decide)
abbrev A3r : Stmt := (top 27)
abbrev B1k : Stmt := (top 44)
abbrev B1r : Stmt := (top 45)
abbrev C6s : Stmt := (top 51)
abbrev C6k : Stmt := (top 52)
deriving instance DecidableEq for Kd
def A0j (a b : Int) : Int := if a = b then 0 else 1
theorem C1v (a b : Int) : 0 <= A0j a b /\ A0j a b <= 1 := by
 unfold A0j
 split <;> decide
def A1q : Nm := ⟨.none, 0, 0, 0⟩
def A1d (v : Cv) (s i : Int) : Nm := ⟨.plain, s, 0, J4a (A0v i (v.l - v.r + 1)) v.m⟩
def V7y (v : Cv) (x1 x2 : Nm) (i : Int) : Nm × List Str :=
 if x1.k = .end_ then (if x2.k = .end_ then (A1q, ["void"]) else (⟨.end_, A0j x1.s x2.s, 0, 0⟩, []))
 else if x2.k = .end_ then (A1d v (A0j x1.s x2.s) i, []) else if x1.f = 0 then (A1q, ["void"]) else (⟨.end_, A0j x1.s x2.s, 0, 0⟩, ["split"])
def A0f (x1 x2 : Nm) : Prop := x1.k = .plain /\ x2.k = .plain /\ x2.f ≠ 0
instance (x1 x2 : Nm) : Decidable (A0f x1 x2) := by unfold A0f; exact inferInstance
def Two (CN : Addr) (H : Hp) (n1 n2 : Addr) (x1 x2 : Nm) : Prop := V1 CN H n1 x1 /\ V1 CN H n2 x2
theorem Two.same {CN : Addr} {H H' : Hp} {n1 n2 : Addr} {x1 x2 : Nm} (h : Two CN H n1 n2 x1 x2) (e : C8 H H') : Two CN H' n1 n2 x1 x2 := ⟨h.1.same e, h.2.same e⟩
theorem A7a {CN : Addr} {H : Hp} {l n1 n2 : Addr} {x1 x2 : Nm} (h : Two CN H n1 n2 x1 x2) (hl : H l = some (.lst [.ref n1, .ref n2])) : Y8j CN H l [(n1, x1), (n2, x2)] := ⟨hl, List.forall_mem_cons.2 ⟨h.1, List.forall_mem_cons.2 ⟨h.2, by simp⟩⟩⟩
theorem A1r.same {CN CC CT : Addr} {H H1 : Hp} {c : Addr} {v : Cv} {b : Addr} {xs ys : List Str} {res : Nm × List Str} {Q : VK} {E : XK} (k : A1r CN CC CT H c v b xs ys res Q E) (s : C8 H H1) : A1r CN CC CT H1 c v b xs ys res Q E :=
 ⟨fun hn m a' H' x => k.1 hn m a' H' ((Exc.of s).trans x), fun z hz a' d H' x => k.2 z hz a' d H' ((Exc.of s).trans x)⟩
theorem A0js (tr : List Str) : hit tr [] = none := by
 unfold hit
 rw [List.find?_eq_none]
 simp
theorem A1r.calm {CN CC CT : Addr} {H H1 : Hp} {c n a : Addr} {v : Cv} {b : Addr} {xs ys : List Str} {x : Nm} {Q : VK} {E : XK} (k : A1r CN CC CT H c v b xs ys (x, []) Q E) (ox : Z2 xs = xs) (s : C8 H H1) (hc : A0n CC H c v a b xs ys) (hn : V1 CN H1 n x) : Q (.ref n) H1 :=
 k.1 (A0js _) n a H1 (Exc.of s) (by show A0n CC H1 c v a b (Z2 (xs ++ [])) ys; rw [List.append_nil, ox]; exact hc.same s) hn
def C0d (CN : Addr) : Sp := fun vs H Q _ => ∃ n1 n2 x1 x2, vs = [.ref n1, .ref n2] /\ Two CN H n1 n2 x1 x2 /\ Q (.int (A0j x1.s x2.s)) H
theorem Y7a : C5 Q4 Q4 (A2 A3r) := scK
theorem V6r {f CN : Addr} {fd : FuncData} (D : Def K mg "unlike_sign" Q4 A3r f fd) (N : Num K mg CN) : A8 P w K mg base (CX1 P w) 1 f fd Q4 (C0d CN) := by
 refine D.F.okE Y7a (fun vs H Q E h => ?_) (fun X cdv A outer s H vs Q E hX hr hx h => ?_)
 . obtain ⟨n1, n2, x1, x2, rfl, _⟩ := h
   rfl
 subst hX
 obtain ⟨n1, n2, x1, x2, rfl, ⟨⟨d1, e1⟩, ⟨d2, e2⟩⟩, k⟩ := h
 refine ⟨_, (A6 (B0 (V5 (C7 C9f (D6 (pv 0) rfl) (D6 (pv 1) rfl) (C6 _)) A1 A1))), ?_⟩
 refine ⟨_, rfl, n1, CN, d1, _, _, rfl, e1, N.cl, N.n2, D5e _ _ _ _, _, rfl, n2, CN, d2, _, _, rfl, e2, N.cl, N.n2, D5e _ _ _ _, rfl, _, rfl, ?_⟩
 unfold A0j at k
 by_cases h : x1.s = x2.s
 . rw [if_pos h] at k
   exact C8j (congrArg V.int h) k
 rw [if_neg h] at k
 rw [decide_eq_false (fun z => h (by injection z) : ¬ V.int x1.s = V.int x2.s)]
 exact Z5 k
def C1w (CN CC CT : Addr) : Sp := fun vs H Q E => ∃ c v a b xs ys, vs = [.ref c] /\ A0n CC H c v a b xs ys /\ xs.length <= 900 /\ A1r CN CC CT H c v b xs ys (A1q, ["void"]) Q E
theorem A0rx : C5 ["context"] ["context"] (A2 B1k) := scK
theorem A0hz {f f1 CN CC CB CT CW : Addr} {cw : Wy -> Addr} {fd fd1 : FuncData} (D : Def K mg "void" ["context"] B1k f fd) (D_nothing : Def K mg "nothing" [] Z0 f1 fd1) (G_nothing : A8 P w K mg base (CX1 P w) 3 f1 fd1 [] (A1v CN)) (C : B8d P w K mg base CC CB CT CW cw) : A8 P w K mg base (CX1 P w) 4 f fd ["context"] (C1w CN CC CT) := by
 refine D.F.okE A0rx (fun vs H Q E h => ?_) (fun X cdv A outer s H vs Q E hX hr hx h => ?_)
 . obtain ⟨c, v, a, b, xs, ys, rfl, _⟩ := h
   rfl
 subst hX
 obtain ⟨c, v, a, b, xs, ys, rfl, hc, lx, k⟩ := h
 obtain ⟨fR, fdR, mR, gR, bR⟩ := C.raised
 refine ⟨_, (A3 (V8 (C6r (pv 0) C.c.cl mR gR hr bR .nil hx (A0 (U4 (A0 D5 A5)) A5))) (A6 (B0 (A3f D_nothing G_nothing hr hx)))), ?_⟩
 have z1 : 1 <= sizeLine := D7 (by decide)
 obtain ⟨dx, e⟩ := hc.ins
 refine ⟨_, rfl, c, dx, _, rfl, e, A2j _ _ _ _ _ _, z1, fun p np => ?_⟩
 have u := C8.upd (o := .lst [.str "void"]) np
 refine ⟨c, v.r, v.y, v.l, v.m, a, b, xs, ys, _, rfl, hc.same u, by omega, .inl ⟨p, ["void"], rfl, A7, by decide, by decide +kernel, fun hn a' H' x na ct => ?_, fun t ht a' d H' x na ct nd ed => ?_⟩⟩
 . exact ⟨rfl, fun n H2 nn s2 num => k.1 hn n a' H2 ((Exc.of u).trans (x.trans (Exc.of s2))) (A1s.same ct s2) num⟩
 exact k.2 t ht a' d H' ((Exc.of u).trans x) ct ed
def G2q (CN CC CT : Addr) : Sp := fun vs H Q E => ∃ c v a b xs ys, ∃ sg : Int, vs = [.ref c, .int sg] /\ A0n CC H c v a b xs ys /\ xs.length <= 900 /\ 0 <= sg /\ sg <= 1 /\ A1r CN CC CT H c v b xs ys (⟨.end_, sg, 0, 0⟩, ["split"]) Q E
theorem A0jh : C5 Q5 Q5 (A2 B1r) := scK
theorem Y6g {f f1 CN CC CB CB' CT CW : Addr} {cw : Wy -> Addr} {fd fd1 : FuncData} (D : Def K mg "split_to_end" Q5 B1r f fd) (D_end : Def K mg "end" ["sign"] G2e f1 fd1) (G_end : A8 P w K mg base (CX1 P w) 3 f1 fd1 ["sign"] (V4c K CN CB')) (C : B8d P w K mg base CC CB CT CW cw) : A8 P w K mg base (CX1 P w) 4 f fd Q5 (G2q CN CC CT) := by
 refine D.F.okE A0jh (fun vs H Q E h => ?_) (fun X cdv A outer s H vs Q E hX hr hx h => ?_)
 . obtain ⟨c, v, a, b, xs, ys, sg, rfl, _⟩ := h
   rfl
 subst hX
 obtain ⟨c, v, a, b, xs, ys, sg, rfl, hc, lx, s0, s1, k⟩ := h
 obtain ⟨fR, fdR, mR, gR, bR⟩ := C.raised
 refine ⟨_, (A3 (V8 (C6r (pv 0) C.c.cl mR gR hr bR .nil hx (A0 (U4 (A0 D5 A5)) A5))) (A6 (B0 (C9 D_end G_end hr hx (A0 (pv 1) A5))))), ?_⟩
 have z1 : 1 <= sizeLine := D7 (by decide)
 obtain ⟨dx, e⟩ := hc.ins
 refine ⟨_, rfl, c, dx, _, rfl, e, A2j _ _ _ _ _ _, z1, fun p np => ?_⟩
 have u := C8.upd (o := .lst [.str "split"]) np
 refine ⟨c, v.r, v.y, v.l, v.m, a, b, xs, ys, _, rfl, hc.same u, by omega, .inl ⟨p, ["split"], rfl, A7, by decide, by decide +kernel, fun hn a' H' x na ct => ?_, fun t ht a' d H' x na ct nd ed => ?_⟩⟩
 . exact ⟨_, rfl, _, rfl, .inl ⟨⟨sg, rfl, s0, s1⟩, fun n H2 nn s2 num => k.1 hn n a' H2 ((Exc.of u).trans (x.trans (Exc.of s2))) (A1s.same ct s2) num⟩⟩
 exact k.2 t ht a' d H' ((Exc.of u).trans x) ct ed
def U0t (CN : Addr) : Sp := fun vs H Q _ => ∃ n1 n2 x1 x2, vs = [.ref n1, .ref n2] /\ Two CN H n1 n2 x1 x2 /\ Q (.bl (decide (A0f x1 x2))) H
theorem A0rz : C5 Q4 Q4 (A2 C6s) := scK
theorem V4m {f CN : Addr} {fd : FuncData} (D : Def K mg "has_plain_quotient" Q4 C6s f fd) (N : Num K mg CN) : A8 P w K mg base (CX1 P w) 1 f fd Q4 (U0t CN) := by
 refine D.F.okE A0rz (fun vs H Q E h => ?_) (fun X cdv A outer s H vs Q E hX hr hx h => ?_)
 . obtain ⟨n1, n2, x1, x2, rfl, _⟩ := h
   rfl
 subst hX
 obtain ⟨n1, n2, x1, x2, rfl, ⟨⟨d1, e1⟩, ⟨d2, e2⟩⟩, k⟩ := h
 refine ⟨_, (A6 (B0 (B1x (G9 G2 (D6 (pv 0) rfl) D5 (C6 _)) (B1x (G9 G2 (D6 (pv 1) rfl) D5 (C6 _)) (A6d (G9 C9f (D6 (pv 1) rfl) A1 (C6 _))))))), ?_⟩
 refine ⟨_, rfl, n1, CN, d1, _, _, rfl, e1, N.cl, N.n1, B1q _ _ _ _, rfl, _, rfl, J1 (fun h => ?_) (fun h => ?_)⟩
 . have h1 : x1.k = .plain := eqS (b := .plain) h
   refine ⟨_, rfl, n2, CN, d2, _, _, rfl, e2, N.cl, N.n1, B1q _ _ _ _, rfl, _, rfl, J1 (fun h' => ?_) (fun h' => ?_)⟩
   . have h2 : x2.k = .plain := eqS (b := .plain) h'
     refine ⟨_, rfl, n2, CN, d2, _, _, rfl, e2, N.cl, N.n3, B6m _ _ _ _, rfl, ?_⟩
     by_cases hf : x2.f = 0
     . rw [decide_eq_false (fun z => z.2.2 hf : ¬ A0f x1 x2)] at k
       rw [decide_eq_true (congrArg V.int hf)]
       exact k
     . have hp : A0f x1 x2 := ⟨h1, h2, hf⟩
       rw [decide_eq_true hp] at k
       rw [decide_eq_false (fun z => hf (V.int.inj z) : ¬ V.int x2.f = V.int 0)]
       exact k
   . rw [decide_eq_false (fun z => h' (by rw [z.2.1]; rfl) : ¬ A0f x1 x2)] at k
     exact k
 rw [decide_eq_false (fun z => h (by rw [z.1]; rfl) : ¬ A0f x1 x2)] at k
 exact k
def U1a (CN CC CT : Addr) : Sp := fun vs H Q E => ∃ c v a b xs ys n1 n2 x1 x2, ∃ i : Int, vs = [.ref c, .ref n1, .ref n2, .int i] /\ A0n CC H c v a b xs ys /\ v.Ok /\ xs.length <= 900 /\ Z2 xs = xs /\ Two CN H n1 n2 x1 x2 /\ A1r CN CC CT H c v b xs ys (V7y v x1 x2 i) Q E
theorem scOddQ : C5 ["context", "one", "other", "ideal", "sign"] Q28 (A2 C6k) := scK
theorem A0gd {f f1 f2 f3 f4 f5 CN CC CB' CT : Addr} {fd fd1 fd2 fd3 fd4 fd5 : FuncData} (D : Def K mg "odd_quotient" Q28 C6k f fd) (D_unlike_sign : Def K mg "unlike_sign" Q4 A3r f1 fd1) (G_unlike_sign : A8 P w K mg base (CX1 P w) 1 f1 fd1 Q4 (C0d CN))
   (D_void : Def K mg "void" ["context"] B1k f2 fd2) (G_void : A8 P w K mg base (CX1 P w) 4 f2 fd2 ["context"] (C1w CN CC CT)) (D_end : Def K mg "end" ["sign"] G2e f3 fd3) (G_end : A8 P w K mg base (CX1 P w) 3 f3 fd3 ["sign"] (V4c K CN CB'))
   (D_nought : Def K mg "nought" Q7 A0h f4 fd4) (G_nought : A8 P w K mg base (CX1 P w) 3 f4 fd4 Q7 (A4m CN CC)) (D_split_to_end : Def K mg "split_to_end" Q5 B1r f5 fd5) (G_split_to_end : A8 P w K mg base (CX1 P w) 4 f5 fd5 Q5 (G2q CN CC CT)) (N : Num K mg CN) :
   A8 P w K mg base (CX1 P w) 5 f fd Q28 (U1a CN CC CT) := by
 refine D.F.okE scOddQ (fun vs H Q E h => ?_) (fun X cdv A outer s H vs Q E hX hr hx h => ?_)
 . obtain ⟨c, v, a, b, xs, ys, n1, n2, x1, x2, i, rfl, _⟩ := h
   rfl
 subst hX
 obtain ⟨c, v, a, b, xs, ys, n1, n2, x1, x2, i, rfl, hc, ok, lx, ox, tw, k⟩ := h
 refine ⟨_, (A3 (D3 (i := 4) scOddQ.nd rfl (Or.inl rfl) (C9 D_unlike_sign G_unlike_sign hr hx (A0 (pv 1) (A0 (pv 2) A5)))) (A3 (G4 (C7 G2 (D6 (pv 1) rfl) D5 (C6 _)) (A6 (B0 (V5 (C7 G2 (D6 (pv 2) rfl) D5 (C6 _)) (C9 D_void G_void hr hx (A0 (pv 0) A5)) (C9 D_end G_end hr hx (A0 (pv 4) A5))))) D0) (A3 (G4 (C7 G2 (D6 (pv 2) rfl) D5 (C6 _)) (A6 (B0 (C9 D_nought G_nought hr hx (A0 (pv 0) (A0 (pv 4) (A0 (pv 3) A5)))))) D0) (A6 (B0 (V5 (C7 G2 (D6 (pv 1) rfl) A1 (C6 _)) (C9 D_void G_void hr hx (A0 (pv 0) A5)) (C9 D_split_to_end G_split_to_end hr hx (A0 (pv 0) (A0 (pv 4) A5))))))))), ?_⟩
 have us := C1v x1.s x2.s
 unfold V7y at k
 refine ⟨_, rfl, _, rfl, n1, n2, x1, x2, rfl, tw, ?_⟩
 obtain ⟨⟨d1, e1⟩, ⟨d2, e2⟩⟩ := id tw
 refine ⟨_, rfl, n1, CN, d1, _, _, rfl, e1, N.cl, N.n1, B1q _ _ _ _, rfl, _, rfl, J1 (fun h => ?_) (fun h => ?_)⟩
 . have h1 : x1.k = .end_ := eqS (b := .end_) h
   rw [if_pos h1] at k
   refine ⟨_, rfl, n2, CN, d2, _, _, rfl, e2, N.cl, N.n1, B1q _ _ _ _, rfl, _, rfl, J1 (fun h' => ?_) (fun h' => ?_)⟩
   . have h2 : x2.k = .end_ := eqS (b := .end_) h'
     rw [if_pos h2] at k
     exact ⟨_, rfl, c, v, a, b, xs, ys, rfl, hc, lx, k⟩
   . have h2 : x2.k ≠ .end_ := neS (b := .end_) h'
     rw [if_neg h2] at k
     exact ⟨_, rfl, _, rfl, .inl ⟨⟨_, rfl, us.1, us.2⟩, fun n H' nn s' num => k.calm ox s' hc num⟩⟩
 have h1 : x1.k ≠ .end_ := neS (b := .end_) h
 rw [if_neg h1] at k
 refine ⟨_, rfl, n2, CN, d2, _, _, rfl, e2, N.cl, N.n1, B1q _ _ _ _, rfl, _, rfl, J1 (fun h' => ?_) (fun h' => ?_)⟩
 . have h2 : x2.k = .end_ := eqS (b := .end_) h'
   rw [if_pos h2] at k
   exact ⟨_, rfl, _, rfl, _, rfl, c, v, a, b, xs, ys, A0j x1.s x2.s, i, rfl, hc, fun n H' nn s' num => k.calm ox s' hc num⟩
 have h2 : x2.k ≠ .end_ := neS (b := .end_) h'
 rw [if_neg h2] at k
 refine ⟨_, rfl, n1, CN, d1, _, _, rfl, e1, N.cl, N.n3, B6m _ _ _ _, rfl, _, rfl, J1 (fun h3 => ?_) (fun h3 => ?_)⟩
 . have h3 : x1.f = 0 := V.int.inj h3
   rw [if_pos h3] at k
   exact ⟨_, rfl, c, v, a, b, xs, ys, rfl, hc, lx, k⟩
 have h3 : ¬ x1.f = 0 := fun z => h3 (congrArg V.int z)
 rw [if_neg h3] at k
 exact ⟨_, rfl, _, rfl, c, v, a, b, xs, ys, _, rfl, hc, lx, us.1, us.2, k⟩
theorem C8u {n1 n2 : Addr} {x1 x2 : Nm} : ([(n1, x1), (n2, x2)].any fun p => decide (p.2.k.str = ("none" : Str))) = decide (x1.k = .none \/ x2.k = .none) := by
 have q : ∀ k : Kd, decide (k.str = ("none" : Str)) = decide (k = .none) := fun k => by cases k <;> decide +kernel
 simp [q]
abbrev C9q : Stmt := (top 48)
def V4k (v : Cv) (x1 x2 : Nm) (L : Int) : Nm × List Str :=
 if x1.k = .none \/ x2.k = .none then (A1q, [])
 else if A0f x1 x2 then (if x1.f = 0 then (A1d v (A0j x1.s x2.s) (x1.p - x2.p), []) else C0h v (A0j x1.s x2.s) x1.f x2.f (x1.p - x2.p) L (x1.p - x2.p))
 else V7y v x1 x2 (v.l - v.r + 1)
def Y8b (CN CC CT : Addr) : Sp := fun vs H Q E => ∃ c v a b xs ys n1 n2 x1 x2 L, vs = [.ref c, .ref n1, .ref n2] /\ A0n CC H c v a b xs ys /\ v.Ok /\ xs.length <= 900 /\ Z2 xs = xs /\ Two CN H n1 n2 x1 x2 /\ x1.Ok /\ x2.Ok /\
 (A0f x1 x2 -> x1.f ≠ 0 -> A0x x1.f x2.f (x1.p - x2.p - L)) /\ A1r CN CC CT H c v b xs ys (V4k v x1 x2 L) Q E
theorem scOver : C5 ["context", "one", "other", "sign", "ideal"] Q9 (A2 C9q) := scK
theorem A0ht {f f1 f2 f3 f4 f5 f6 f7 f8 fR CN CC CB CB' CT CW CR CE : Addr} {cw : Wy -> Addr} {fd fd1 fd2 fd3 fd4 fd5 fd6 fd7 fd8 fdR : FuncData} {d0 : Value} {gP : List Value -> List Value -> List Value} {vP : List V -> List V -> List V} (D : Def K mg "over" Q9 C9q f fd) (D_need_numbers : Def K mg "need_numbers" ["things"] A3n f1 fd1) (G_need_numbers : A8 P w K mg base (CX1 P w) 2 f1 fd1 ["things"] (C0c K CN CB'))
   (D_some_of_kind : Def K mg "some_of_kind" Q17 A7u f2 fd2) (G_some_of_kind : A8 P w K mg base (CX1 P w) 1 f2 fd2 Q17 (C7h CN)) (D_has_plain_quotient : Def K mg "has_plain_quotient" Q4 C6s f3 fd3) (G_has_plain_quotient : A8 P w K mg base (CX1 P w) 1 f3 fd3 Q4 (U0t CN))
   (D_odd_quotient : Def K mg "odd_quotient" Q28 C6k f4 fd4) (G_odd_quotient : A8 P w K mg base (CX1 P w) 5 f4 fd4 Q28 (U1a CN CC CT)) (D_unlike_sign : Def K mg "unlike_sign" Q4 A3r f5 fd5) (G_unlike_sign : A8 P w K mg base (CX1 P w) 1 f5 fd5 Q4 (C0d CN)) (D_nought : Def K mg "nought" Q7 A0h f6 fd6) (G_nought : A8 P w K mg base (CX1 P w) 3 f6 fd6 Q7 (A4m CN CC))
   (D_settled : Def K mg "settled" Q13 A0c f7 fd7) (G_settled : A8 P w K mg base (CX1 P w) 6 f7 fd7 Q13 (A4d CN CC CT CR)) (D_nothing : Def K mg "nothing" [] Z0 f8 fd8) (G_nothing : A8 P w K mg base (CX1 P w) 3 f8 fd8 [] (A1v CN))
   (C : B8d P w K mg base CC CB CT CW cw) (N : Num K mg CN) (MR : J5n P w K mg base CR fR fdR d0 gP vP) (R : G2r K mg CR CE) : A8 P w K mg base (CX1 P w) 7 f fd Q9 (Y8b CN CC CT) := by
 refine D.F.okE scOver (fun vs H Q E h => ?_) (fun X cdv A outer s H vs Q E hX hr hx h => ?_)
 . obtain ⟨c, v, a, b, xs, ys, n1, n2, x1, x2, L, rfl, _⟩ := h
   rfl
 subst hX
 obtain ⟨c, v, a, b, xs, ys, n1, n2, x1, x2, L, rfl, hc, ok, lx, ox, tw, o1, o2, hL, k⟩ := h
 obtain ⟨fL, fdL, mL, gL, bL⟩ := C.low
 refine ⟨_, (A3 (V8 (C9 D_need_numbers G_need_numbers hr hx (A0 (U4 (A0 (pv 1) (A0 (pv 2) A5))) A5))) (A3 (G4 (Y2 (C9 D_some_of_kind G_some_of_kind hr hx (A0 (U4 (A0 (pv 1) (A0 (pv 2) A5))) (A0 D5 A5)))) (A6 (B0 (A3f D_nothing G_nothing hr hx))) D0) (A3 (G4 (A4g (Y2 (C9 D_has_plain_quotient G_has_plain_quotient hr hx (A0 (pv 1) (A0 (pv 2) A5))))) (A6 (B0 (C9 D_odd_quotient G_odd_quotient hr hx (A0 (pv 0) (A0 (pv 1) (A0 (pv 2) (A0 (A6f (pv 0) C.c.cl mL gL hr bL .nil hx) A5))))))) D0) (A3 (D3 (i := 3) scOver.nd rfl (Or.inl rfl) (C9 D_unlike_sign G_unlike_sign hr hx (A0 (pv 1) (A0 (pv 2) A5)))) (A3 (D3 (i := 4) scOver.nd rfl (Or.inl rfl) (A9 J8 (D6 (pv 1) rfl) (D6 (pv 2) rfl))) (A3 (G4 (C7 G2 (D6 (pv 1) rfl) A1 (C6 _)) (A6 (B0 (C9 D_nought G_nought hr hx (A0 (pv 0) (A0 (pv 3) (A0 (pv 4) A5)))))) D0) (A6 (B0 (C9 D_settled G_settled hr hx (A0 (pv 0) (A0 (pv 3) (A0 (A6v MR.m MR.g hr R.g MR.b3 .nil hx (A0 (D6 (pv 1) rfl) (A0 (D6 (pv 2) rfl) (A0 (pv 4) A5)))) (A0 (pv 4) A5))))))))))))), ?_⟩
 have z2 : 2 <= sizeLine := D7 (by decide)
 unfold V4k at k
 refine ⟨_, rfl, _, rfl, z2, fun l nl => ?_⟩
 have u := C8.upd (o := .lst [.ref n1, .ref n2]) nl
 refine ⟨l, [(n1, x1), (n2, x2)], rfl, (A7a (tw.same u) A7).n, .inl ⟨A7, ?_⟩⟩
 refine ⟨_, rfl, _, rfl, z2, fun l2 nl2 => ?_⟩
 have u2 := u.trans (C8.upd (o := .lst [.ref n1, .ref n2]) nl2)
 refine ⟨l2, _, _, rfl, A7a (tw.same u2) A7, (by show 2 <= 1000; decide), fun H3 s3 => ⟨_, rfl, ?_⟩⟩
 rw [C8u]
 have sm3 := u2.trans s3
 have tw3 := tw.same sm3
 have hc3 := hc.same sm3
 refine J1 (fun hn => ?_) (fun hn => ?_)
 . rw [if_pos hn] at k
   exact ⟨rfl, fun n H' nn s' num => k.calm ox (sm3.trans s') hc num⟩
 rw [if_neg hn] at k
 refine ⟨_, rfl, _, rfl, n1, n2, x1, x2, rfl, tw3, _, rfl, ?_⟩
 by_cases hq : A0f x1 x2
 . rw [if_pos hq] at k
   rw [decide_eq_true hq]
   refine V3 ?_
   refine ⟨_, rfl, _, rfl, n1, n2, x1, x2, rfl, tw3, ?_⟩
   obtain ⟨⟨d1, e1⟩, ⟨d2, e2⟩⟩ := id tw3
   refine ⟨_, rfl, n1, CN, d1, _, _, rfl, e1, N.cl, N.n4, A6z _ _ _ _, _, rfl, n2, CN, d2, _, _, rfl, e2, N.cl, N.n4, A6z _ _ _ _, _, _, rfl, rfl, ?_⟩
   refine ⟨_, rfl, n1, CN, d1, _, _, rfl, e1, N.cl, N.n3, B6m _ _ _ _, rfl, _, rfl, J1 (fun hf => ?_) (fun hf => ?_)⟩
   . have hf : x1.f = 0 := V.int.inj hf
     rw [if_pos hf] at k
     exact ⟨_, rfl, _, rfl, _, rfl, c, v, a, b, xs, ys, A0j x1.s x2.s, x1.p - x2.p, rfl, hc3, fun n H' nn s' num => k.calm ox (sm3.trans s') hc num⟩
   . have hf : ¬ x1.f = 0 := fun z => hf (congrArg V.int z)
     rw [if_neg hf] at k
     have f10 := o1.f0; have f11 := o1.f1; have f20 := o2.f0; have f21 := o2.f1
     have p10 := o1.p0; have p11 := o1.p1; have p20 := o2.p0; have p21 := o2.p1
     have z1 : Sz x1.f := G1f f10 hf f11
     have z3 : Sz x2.f := G1f f20 hq.2.2 f21
     have hl := hL hq hf
     have ls := A8c z1 z3 hl
     have fn := C8k (v := v) ok ls.1 ls.2 (by omega) (by omega)
     refine ⟨_, rfl, _, rfl, _, rfl, n1, CN, d1, _, _, rfl, e1, N.cl, N.n3, B6m _ _ _ _, _, rfl, n2, CN, d2, _, _, rfl, e2, N.cl, N.n3, B6m _ _ _ _, _, rfl, fun q dq m1 m2 me => J5e m1 m2 me fun H4 s4 ra => ⟨rfl, ?_⟩⟩
     have sm4 := sm3.trans s4
     have us := C1v x1.s x2.s
     exact ⟨_, rfl, c, v, a, b, xs, ys, q, x1.f, x2.f, x1.p - x2.p, L, A0j x1.s x2.s, x1.p - x2.p, rfl, hc.same sm4, ok, lx, ra, z1, z3, hl, fn.1, fn.2, us.1, us.2, k.same sm4⟩
 rw [if_neg hq] at k
 rw [decide_eq_false hq]
 refine Z5 ?_
 obtain ⟨dx, e⟩ := hc3.ins
 refine ⟨_, rfl, _, rfl, _, rfl, _, rfl, c, dx, _, rfl, e, A6g _ _ _ _ _ _, c, v.r, v.y, v.l, v.m, a, b, _, _, rfl, hc3, ?_⟩
 exact ⟨c, v, a, b, xs, ys, n1, n2, x1, x2, _, rfl, hc3, ok, lx, ox, tw3, k.same sm3⟩
abbrev A2n : Stmt := (top 28)
abbrev Z9 : Stmt := (top 53)
def V9 (x1 x2 : Nm) : Int := J4a x1.p x2.p
def Y9 (x : Nm) (q : Int) : Int := x.f * A4 (x.p - q)
def G0a (x : Nm) (q : Int) : Int := if x.s = 1 then -Y9 x q else Y9 x q
def U0 (x1 x2 : Nm) : Int := Y9 x1 (V9 x1 x2) / Y9 x2 (V9 x1 x2)
theorem C1k {x : Nm} {q : Int} (ok : x.Ok) : 0 <= Y9 x q := Int.mul_nonneg ok.f0 (Int.le_of_lt (D4 _))
theorem A6y {x : Nm} {q : Int} (ok : x.Ok) : (if G0a x q < 0 then -G0a x q else G0a x q) = Y9 x q := by
 have h := C1k (q := q) ok
 unfold G0a
 by_cases hs : x.s = 1
 . rw [if_pos hs]
   split <;> omega
 rw [if_neg hs]
 split <;> omega
theorem G0b (x1 x2 : Nm) : V9 x1 x2 <= x1.p /\ V9 x1 x2 <= x2.p /\ (V9 x1 x2 = x1.p \/ V9 x1 x2 = x2.p) := by
 unfold V9 J4a
 split <;> omega
theorem B5m {x : Nm} {q : Int} (ok : x.Ok) (hf : x.f ≠ 0) (h : x.p - q <= 400) : SzL (Y9 x q) := by
 have tp := D4 (x.p - q)
 have f0 := ok.f0
 refine ⟨Int.mul_pos (by omega) tp, ?_⟩
 have e : A4 (x.p - q) <= A4 400 := V7 (by omega)
 have a : x.f * A4 (x.p - q) <= (10 ^ 60 - 1) * A4 400 := Int.mul_le_mul ok.f1 e (Int.le_of_lt tp) (by decide +kernel)
 exact Int.lt_of_le_of_lt a (by decide +kernel)
def C1j (CN : Addr) : Sp := fun vs H Q _ => ∃ n x, ∃ q : Int, vs = [.ref n, .int q] /\ V1 CN H n x /\ x.Ok /\ q <= x.p /\ x.p - q <= 400 /\ Q (.int (G0a x q)) H
theorem scWholeAt : C5 ["number", "power", "size"] Q29 (A2 A2n) := scK
theorem U0c {f f1 CN : Addr} {fd fd1 : FuncData} (D : Def K mg "whole_at" Q29 A2n f fd) (D_ten_to : Def K mg "ten_to" ["count"] A0q f1 fd1) (G_ten_to : A8 P w K mg base (CX1 P w) 2 f1 fd1 ["count"] A2h) (N : Num K mg CN) : A8 P w K mg base (CX1 P w) 3 f fd Q29 (C1j CN) := by
 refine D.F.okE scWholeAt (fun vs H Q E h => ?_) (fun X cdv A outer s H vs Q E hX hr hx h => ?_)
 . obtain ⟨n, x, q, rfl, _⟩ := h
   rfl
 subst hX
 obtain ⟨n, x, q, rfl, num, ok, h0, h1, k⟩ := h
 refine ⟨_, (A3 (D3 (i := 2) scWholeAt.nd rfl (Or.inl rfl) (A9 G5 (D6 (pv 0) rfl) (C9 D_ten_to G_ten_to hr hx (A0 (A9 J8 (D6 (pv 0) rfl) (pv 1)) A5)))) (A6 (B0 (V5 (C7 G2 (D6 (pv 0) rfl) A1 (C6 _)) (B1f A4h (pv 2)) (pv 2))))), ?_⟩
 obtain ⟨dn, en⟩ := id num
 have mul : IntMulOk x.f (A4 (x.p - q)) := by
   by_cases z : x.f = 0
   . rw [z]; exact A2u.ok (.inl ⟨by decide, by decide⟩)
   . exact B1m (G1f ok.f0 z ok.f1) (by omega)
 refine ⟨_, rfl, n, CN, dn, _, _, rfl, en, N.cl, N.n3, B6m _ _ _ _, _, rfl, n, CN, dn, _, _, rfl, en, N.cl, N.n4, A6z _ _ _ _, _, rfl, _, _, rfl, rfl, (x.p - q).toNat, (by rw [Int.toNat_of_nonneg (by omega)]; rfl), by omega, _, _, rfl, rfl, mul, ?_⟩
 unfold G0a at k
 refine ⟨_, rfl, n, CN, dn, _, _, rfl, en, N.cl, N.n2, D5e _ _ _ _, rfl, _, rfl, J1 (fun h => ?_) (fun h => ?_)⟩
 . rw [if_pos (V.int.inj h)] at k
   exact ⟨_, rfl, _, rfl, k⟩
 rw [if_neg fun z => h (congrArg V.int z)] at k
 exact ⟨_, rfl, k⟩
def B1b (CN : Addr) : Sp := fun vs H Q _ => ∃ n1 n2 x1 x2, vs = [.ref n1, .ref n2] /\ Two CN H n1 n2 x1 x2 /\ x1.Ok /\ x2.Ok /\ x2.f ≠ 0 /\ Q (.int (U0 x1 x2)) H
theorem scWholePart : C5 ["one", "other", "low"] Q4 (A2 Z9) := scK
theorem G1m {f f1 CN : Addr} {fd fd1 : FuncData} (D : Def K mg "whole_part" Q4 Z9 f fd) (D_whole_at : Def K mg "whole_at" Q29 A2n f1 fd1) (G_whole_at : A8 P w K mg base (CX1 P w) 3 f1 fd1 Q29 (C1j CN)) (N : Num K mg CN) (O : Own mg) : A8 P w K mg base (CX1 P w) 4 f fd Q4 (B1b CN) := by
 refine D.F.okE scWholePart (fun vs H Q E h => ?_) (fun X cdv A outer s H vs Q E hX hr hx h => ?_)
 . obtain ⟨n1, n2, x1, x2, rfl, _⟩ := h
   rfl
 subst hX
 obtain ⟨n1, n2, x1, x2, rfl, tw, o1, o2, hf, k⟩ := h
 refine ⟨_, (A3 (D3 (i := 2) scWholePart.nd rfl (Or.inl rfl) (J3 (A1u rfl) (by rfl) O.min_ boot_min (A0 (D6 (pv 0) rfl) (A0 (D6 (pv 1) rfl) A5)))) (A6 (B0 (A9 D8 (J3 A6r (by rfl) O.abs_ boot_abs (A0 (C9 D_whole_at G_whole_at hr hx (A0 (pv 0) (A0 (pv 2) A5))) A5)) (J3 A6r (by rfl) O.abs_ boot_abs (A0 (C9 D_whole_at G_whole_at hr hx (A0 (pv 1) (A0 (pv 2) A5))) A5)))))), ?_⟩
 obtain ⟨⟨d1, e1⟩, ⟨d2, e2⟩⟩ := id tw
 have p10 := o1.p0; have p11 := o1.p1; have p20 := o2.p0; have p21 := o2.p1
 obtain ⟨b1, b2, b3⟩ := G0b x1 x2
 refine ⟨_, rfl, n1, CN, d1, _, _, rfl, e1, N.cl, N.n4, A6z _ _ _ _, _, rfl, n2, CN, d2, _, _, rfl, e2, N.cl, N.n4, A6z _ _ _ _, _, _, rfl, ?_⟩
 show tSeq _ _ _ [some (V.ref n1), some (V.ref n2), some (V.int (V9 x1 x2))] H
 have hs := B5m (q := V9 x1 x2) o2 hf (by omega)
 refine ⟨_, rfl, _, rfl, n1, x1, V9 x1 x2, rfl, tw.1, o1, b1, by omega, _, rfl, _, rfl, _, rfl, n2, x2, V9 x1 x2, rfl, tw.2, o2, b2, by omega, _, rfl, _, _, rfl, rfl, ?_, ?_⟩
 . rw [A6y o2]
   exact ⟨hs.1, Nat.lt_trans hs.log (by decide)⟩
 rw [A6y o1, A6y o2]
 exact k
abbrev A0t : Stmt := (top 49)
def woR (v : Cv) (x1 x2 : Nm) (L : Int) : Nm × List Str :=
 if x1.k = .none \/ x2.k = .none then (A1q, [])
 else if A0f x1 x2 then
   (if U0 x1 x2 >= A4 v.r then (A1q, ["void"]) else if U0 x1 x2 = 0 then (A1d v (A0j x1.s x2.s) (A0v (x1.p - x2.p) 0), []) else C0h v (A0j x1.s x2.s) (U0 x1 x2) 1 0 L (A0v (x1.p - x2.p) 0))
 else V7y v x1 x2 0
def PreW (x1 x2 : Nm) (L : Int) : Prop := A0f x1 x2 -> U0 x1 x2 ≠ 0 -> A0x (U0 x1 x2) 1 (0 - L)
theorem G1g {x1 x2 : Nm} (o1 : x1.Ok) (o2 : x2.Ok) : 0 <= U0 x1 x2 /\ U0 x1 x2 < A4 500 := by
 have p10 := o1.p0; have p11 := o1.p1; have p20 := o2.p0; have p21 := o2.p1
 obtain ⟨b1, b2, b3⟩ := G0b x1 x2
 have w0 : 0 <= U0 x1 x2 := Int.ediv_nonneg (C1k o1) (C1k o2)
 have wl : U0 x1 x2 <= Y9 x1 (V9 x1 x2) := Int.ediv_le_self _ (C1k o1)
 refine ⟨w0, Int.lt_of_le_of_lt wl ?_⟩
 by_cases z : x1.f = 0
 . unfold Y9; rw [z, Int.zero_mul]; exact D4 _
 exact (B5m o1 z (by omega)).2
theorem max0 (i : Int) : (if (0 : Int) > i then 0 else i) = A0v i 0 := rfl
def C6m (CN CC CT : Addr) : Sp := fun vs H Q E => ∃ c v a b xs ys n1 n2 x1 x2 L, vs = [.ref c, .ref n1, .ref n2] /\ A0n CC H c v a b xs ys /\ v.Ok /\ xs.length <= 900 /\ Z2 xs = xs /\ Two CN H n1 n2 x1 x2 /\ x1.Ok /\ x2.Ok /\ PreW x1 x2 L /\ A1r CN CC CT H c v b xs ys (woR v x1 x2 L) Q E
theorem scWholeOver : C5 ["context", "one", "other", "whole", "sign", "ideal"] Q9 (A2 A0t) := scK
theorem G1t {f f1 f2 f3 f4 f5 f6 f7 f8 f9 g1 g2 fR CN CC CB CB' CT CW CR CE : Addr} {cw : Wy -> Addr} {fd fd1 fd2 fd3 fd4 fd5 fd6 fd7 fd8 fd9 gd1 gd2 fdR : FuncData} {d0 : Value} {gP : List Value -> List Value -> List Value} {vP : List V -> List V -> List V} (D : Def K mg "whole_over" Q9 A0t f fd) (D_need_numbers : Def K mg "need_numbers" ["things"] A3n f1 fd1) (G_need_numbers : A8 P w K mg base (CX1 P w) 2 f1 fd1 ["things"] (C0c K CN CB'))
   (D_some_of_kind : Def K mg "some_of_kind" Q17 A7u f2 fd2) (G_some_of_kind : A8 P w K mg base (CX1 P w) 1 f2 fd2 Q17 (C7h CN)) (D_has_plain_quotient : Def K mg "has_plain_quotient" Q4 C6s f3 fd3) (G_has_plain_quotient : A8 P w K mg base (CX1 P w) 1 f3 fd3 Q4 (U0t CN))
   (D_odd_quotient : Def K mg "odd_quotient" Q28 C6k f4 fd4) (G_odd_quotient : A8 P w K mg base (CX1 P w) 5 f4 fd4 Q28 (U1a CN CC CT)) (D_unlike_sign : Def K mg "unlike_sign" Q4 A3r f5 fd5) (G_unlike_sign : A8 P w K mg base (CX1 P w) 1 f5 fd5 Q4 (C0d CN)) (D_nought : Def K mg "nought" Q7 A0h f6 fd6) (G_nought : A8 P w K mg base (CX1 P w) 3 f6 fd6 Q7 (A4m CN CC))
   (D_settled : Def K mg "settled" Q13 A0c f7 fd7) (G_settled : A8 P w K mg base (CX1 P w) 6 f7 fd7 Q13 (A4d CN CC CT CR)) (D_nothing : Def K mg "nothing" [] Z0 f8 fd8) (G_nothing : A8 P w K mg base (CX1 P w) 3 f8 fd8 [] (A1v CN)) (D_void : Def K mg "void" ["context"] B1k f9 fd9) (G_void : A8 P w K mg base (CX1 P w) 4 f9 fd9 ["context"] (C1w CN CC CT))
   (D_whole_part : Def K mg "whole_part" Q4 Z9 g1 gd1) (G_whole_part : A8 P w K mg base (CX1 P w) 4 g1 gd1 Q4 (B1b CN)) (D_ten_to : Def K mg "ten_to" ["count"] A0q g2 gd2) (G_ten_to : A8 P w K mg base (CX1 P w) 2 g2 gd2 ["count"] A2h)
   (C : B8d P w K mg base CC CB CT CW cw) (N : Num K mg CN) (MR : J5n P w K mg base CR fR fdR d0 gP vP) (R : G2r K mg CR CE) (O : Own mg) : A8 P w K mg base (CX1 P w) 7 f fd Q9 (C6m CN CC CT) := by
 refine D.F.okE scWholeOver (fun vs H Q E h => ?_) (fun X cdv A outer s H vs Q E hX hr hx h => ?_)
 . obtain ⟨c, v, a, b, xs, ys, n1, n2, x1, x2, L, rfl, _⟩ := h
   rfl
 subst hX
 obtain ⟨c, v, a, b, xs, ys, n1, n2, x1, x2, L, rfl, hc, ok, lx, ox, tw, o1, o2, hL, k⟩ := h
 have V2 : U2 [.int 0] [d0] := .cons MR.r0 .nil
 refine ⟨_, (A3 (V8 (C9 D_need_numbers G_need_numbers hr hx (A0 (U4 (A0 (pv 1) (A0 (pv 2) A5))) A5))) (A3 (G4 (Y2 (C9 D_some_of_kind G_some_of_kind hr hx (A0 (U4 (A0 (pv 1) (A0 (pv 2) A5))) (A0 D5 A5)))) (A6 (B0 (A3f D_nothing G_nothing hr hx))) D0) (A3 (G4 (A4g (Y2 (C9 D_has_plain_quotient G_has_plain_quotient hr hx (A0 (pv 1) (A0 (pv 2) A5))))) (A6 (B0 (C9 D_odd_quotient G_odd_quotient hr hx (A0 (pv 0) (A0 (pv 1) (A0 (pv 2) (A0 A1 A5))))))) D0) (A3 (D3 (i := 3) scWholeOver.nd rfl (Or.inl rfl) (C9 D_whole_part G_whole_part hr hx (A0 (pv 1) (A0 (pv 2) A5)))) (A3 (G4 (C7 D9e (pv 3) (C9 D_ten_to G_ten_to hr hx (A0 (D6 (pv 0) rfl) A5)) (C6 _)) (A6 (B0 (C9 D_void G_void hr hx (A0 (pv 0) A5)))) D0) (A3 (D3 (i := 4) scWholeOver.nd rfl (Or.inl rfl) (C9 D_unlike_sign G_unlike_sign hr hx (A0 (pv 1) (A0 (pv 2) A5)))) (A3 (D3 (i := 5) scWholeOver.nd rfl (Or.inl rfl) (J3 (Y3 rfl) (by rfl) O.max_ boot_max (A0 (A9 J8 (D6 (pv 1) rfl) (D6 (pv 2) rfl)) (A0 A1 A5)))) (A3 (G4 (C7 G2 (pv 3) A1 (C6 _)) (A6 (B0 (C9 D_nought G_nought hr hx (A0 (pv 0) (A0 (pv 4) (A0 (pv 5) A5)))))) D0) (A6 (B0 (C9 D_settled G_settled hr hx (A0 (pv 0) (A0 (pv 4) (A0 (A6v MR.m MR.g hr R.g MR.b2 V2 hx (A0 (pv 3) (A0 A1 A5))) (A0 (pv 5) A5))))))))))))))), ?_⟩
 have z2 : 2 <= sizeLine := D7 (by decide)
 unfold woR at k
 refine ⟨_, rfl, _, rfl, z2, fun l nl => ?_⟩
 have u := C8.upd (o := .lst [.ref n1, .ref n2]) nl
 refine ⟨l, [(n1, x1), (n2, x2)], rfl, (A7a (tw.same u) A7).n, .inl ⟨A7, ?_⟩⟩
 refine ⟨_, rfl, _, rfl, z2, fun l2 nl2 => ?_⟩
 have u2 := u.trans (C8.upd (o := .lst [.ref n1, .ref n2]) nl2)
 refine ⟨l2, _, _, rfl, A7a (tw.same u2) A7, (by show 2 <= 1000; decide), fun H3 s3 => ⟨_, rfl, ?_⟩⟩
 rw [C8u]
 have sm3 := u2.trans s3
 have tw3 := tw.same sm3
 have hc3 := hc.same sm3
 refine J1 (fun hn => ?_) (fun hn => ?_)
 . rw [if_pos hn] at k
   exact ⟨rfl, fun n H' nn s' num => k.calm ox (sm3.trans s') hc num⟩
 rw [if_neg hn] at k
 refine ⟨_, rfl, _, rfl, n1, n2, x1, x2, rfl, tw3, _, rfl, ?_⟩
 by_cases hq : A0f x1 x2
 . rw [if_pos hq] at k
   rw [decide_eq_true hq]
   refine V3 ?_
   have r1 := ok.r1; have r2 := ok.r2
   obtain ⟨w0, w1⟩ := G1g o1 o2
   have us := C1v x1.s x2.s
   have p10 := o1.p0; have p11 := o1.p1; have p20 := o2.p0; have p21 := o2.p1
   obtain ⟨dx, ec⟩ := hc3.ins
   refine ⟨_, rfl, _, rfl, n1, n2, x1, x2, rfl, tw3, o1, o2, hq.2.2, ?_⟩
   refine ⟨_, rfl, _, rfl, c, CC, dx, _, _, rfl, ec, C.c.cl, C.c.n_room, A4w _ _ _ _ _ _, v.r.toNat, (by rw [Int.toNat_of_nonneg (by omega)]; rfl), by omega, _, _, rfl, rfl, _, rfl, J1 (fun h5 => ?_) (fun h5 => ?_)⟩
   . have h5 : U0 x1 x2 >= A4 v.r := h5
     rw [if_pos h5] at k
     exact ⟨_, rfl, c, v, a, b, xs, ys, rfl, hc3, lx, k.same sm3⟩
   have h5 : ¬ U0 x1 x2 >= A4 v.r := h5
   rw [if_neg h5] at k
   refine ⟨_, rfl, _, rfl, n1, n2, x1, x2, rfl, tw3, ?_⟩
   obtain ⟨⟨d1, e1⟩, ⟨d2, e2⟩⟩ := id tw3
   refine ⟨_, rfl, n1, CN, d1, _, _, rfl, e1, N.cl, N.n4, A6z _ _ _ _, _, rfl, n2, CN, d2, _, _, rfl, e2, N.cl, N.n4, A6z _ _ _ _, _, _, rfl, rfl, _, _, rfl, ?_⟩
   rw [max0]
   have mb : 0 <= A0v (x1.p - x2.p) 0 /\ A0v (x1.p - x2.p) 0 <= 400 := by unfold A0v; split <;> omega
   refine ⟨_, rfl, rfl, _, rfl, J1 (fun hf => ?_) (fun hf => ?_)⟩
   . have hf : U0 x1 x2 = 0 := V.int.inj hf
     rw [if_pos hf] at k
     exact ⟨_, rfl, _, rfl, _, rfl, c, v, a, b, xs, ys, A0j x1.s x2.s, A0v (x1.p - x2.p) 0, rfl, hc3, fun n H' nn s' num => k.calm ox (sm3.trans s') hc num⟩
   . have hf : ¬ U0 x1 x2 = 0 := fun z => hf (congrArg V.int z)
     rw [if_neg hf] at k
     have zl : SzL (U0 x1 x2) := ⟨by omega, w1⟩
     have hl := hL hq hf
     have ls := A8c zl.sz A4v hl
     have fn := C8k (v := v) ok ls.1 ls.2 (by decide) (by decide)
     refine ⟨_, rfl, _, rfl, _, rfl, fun q dq m1 m2 me => J5e m1 m2 me fun H4 s4 ra => ⟨rfl, ?_⟩⟩
     have sm4 := sm3.trans s4
     exact ⟨_, rfl, c, v, a, b, xs, ys, q, U0 x1 x2, 1, 0, L, A0j x1.s x2.s, A0v (x1.p - x2.p) 0, rfl, hc.same sm4, ok, lx, ra, zl.sz, A4v, hl, fn.1, fn.2, us.1, us.2, k.same sm4⟩
 rw [if_neg hq] at k
 rw [decide_eq_false hq]
 refine Z5 ?_
 exact ⟨_, rfl, _, rfl, _, rfl, c, v, a, b, xs, ys, n1, n2, x1, x2, 0, rfl, hc3, ok, lx, ox, tw3, k.same sm3⟩
abbrev A8a : Stmt := (top 50)
def C8d (CN CC CT : Addr) : Sp := fun vs H Q E => ∃ c v a b xs ys n x, ∃ L : Int, vs = [.ref c, .ref n] /\ A0n CC H c v a b xs ys /\ v.Ok /\ xs.length <= 900 /\ Z2 xs = xs /\ V1 CN H n x /\ 0 <= x.s /\ x.s <= 1 /\ 0 <= x.f /\ x.f < A4 500 /\ -200 <= x.p /\ x.p <= 200 /\ (x.k = .plain -> x.f ≠ 0 -> A0x x.f 1 (x.p - L)) /\ A1r CN CC CT H c v b xs ys (B7p v x L) Q E
def A0e (x1 x2 : Nm) : Nm := ⟨.plain, x1.s, Y9 x1 (V9 x1 x2) - U0 x1 x2 * Y9 x2 (V9 x1 x2), V9 x1 x2⟩
def C8t (x1 x2 : Nm) : Nm := if x2.k = .end_ then x1 else A0e x1 x2
def reR (v : Cv) (x1 x2 : Nm) (L : Int) : Nm × List Str :=
 if x1.k = .none \/ x2.k = .none then (A1q, [])
 else if x1.k = .end_ then (A1q, ["void"])
 else if x2.k = .plain /\ x2.f = 0 then (A1q, ["void"])
 else if x2.k = .end_ then B7p v x1 L
 else if U0 x1 x2 >= A4 v.r then (A1q, ["void"]) else B7p v (A0e x1 x2) L
def Y8c (x1 x2 : Nm) (L : Int) : Prop := (C8t x1 x2).k = .plain -> (C8t x1 x2).f ≠ 0 -> A0x (C8t x1 x2).f 1 ((C8t x1 x2).p - L)
theorem G1j {x1 x2 : Nm} (o1 : x1.Ok) (o2 : x2.Ok) (hf : x2.f ≠ 0) : 0 <= (A0e x1 x2).f /\ (A0e x1 x2).f < A4 500 /\ -200 <= (A0e x1 x2).p /\ (A0e x1 x2).p <= 200 /\ (A0e x1 x2).f = Y9 x1 (V9 x1 x2) % Y9 x2 (V9 x1 x2) := by
 have p10 := o1.p0; have p11 := o1.p1; have p20 := o2.p0; have p21 := o2.p1
 obtain ⟨b1, b2, b3⟩ := G0b x1 x2
 have hs := B5m (q := V9 x1 x2) o2 hf (by omega)
 have e : Y9 x1 (V9 x1 x2) - U0 x1 x2 * Y9 x2 (V9 x1 x2) = Y9 x1 (V9 x1 x2) % Y9 x2 (V9 x1 x2) := by
   unfold U0
   rw [Int.emod_def, Int.mul_comm]
 have s0 : 0 < Y9 x2 (V9 x1 x2) := hs.1
 have m0 := Int.emod_nonneg (Y9 x1 (V9 x1 x2)) (Int.ne_of_gt s0)
 have m1 := Int.emod_lt_of_pos (Y9 x1 (V9 x1 x2)) s0
 have h2 := hs.2
 unfold A0e
 dsimp only
 rw [e]
 exact ⟨m0, by omega, by omega, by omega, rfl⟩
theorem V5w : C5 Q12 Q12 (A2 A4r) := scK
theorem V6x {f f1 f2 f3 fI CN CC CB CB' CT CW CR CE : Addr} {cw : Wy -> Addr} {fd fd1 fd2 fd3 fdI : FuncData} {d0 : Value} {gP : List Value -> List Value -> List Value} {vP : List V -> List V -> List V} (D : Def K mg "rounded" Q12 A4r f fd)
   (D_need_number : Def K mg "need_number" ["thing"] A4q f1 fd1) (G_need_number : A8 P w K mg base (CX1 P w) 1 f1 fd1 ["thing"] (B9z K CN CB')) (D_nought : Def K mg "nought" Q7 A0h f2 fd2) (G_nought : A8 P w K mg base (CX1 P w) 3 f2 fd2 Q7 (A4m CN CC))
   (D_settled : Def K mg "settled" Q13 A0c f3 fd3) (G_settled : A8 P w K mg base (CX1 P w) 6 f3 fd3 Q13 (A4d CN CC CT CR)) (MR : J5n P w K mg base CR fI fdI d0 gP vP) (R : G2r K mg CR CE) (N : Num K mg CN) :
   A8 P w K mg base (CX1 P w) 7 f fd Q12 (C8d CN CC CT) := by
 refine D.F.okE V5w (fun vs H Q E h => ?_) (fun X cdv A outer s H vs Q E hX hr hx h => ?_)
 . obtain ⟨c, v, a, b, xs, ys, n, x, L, rfl, _⟩ := h
   rfl
 subst hX
 obtain ⟨c, v, a, b, xs, ys, n, x, L, rfl, hc, ok, lx, ox, num, s0, s1, f0, f1, p0, p1, hL, k⟩ := h
 refine ⟨_, (A3 (V8 (C9 D_need_number G_need_number hr hx (A0 (pv 1) A5))) (A3 (G4 (C7 C9f (D6 (pv 1) rfl) D5 (C6 _)) (A6 (B0 (pv 1))) D0) (A3 (G4 (C7 G2 (D6 (pv 1) rfl) A1 (C6 _)) (A6 (B0 (C9 D_nought G_nought hr hx (A0 (pv 0) (A0 (D6 (pv 1) rfl) (A0 (D6 (pv 1) rfl) A5)))))) D0) (A6 (B0 (C9 D_settled G_settled hr hx (A0 (pv 0) (A0 (D6 (pv 1) rfl) (A0 (A6v MR.m MR.g hr R.g MR.b3 .nil hx (A0 (D6 (pv 1) rfl) (A0 A1 (A0 (D6 (pv 1) rfl) A5)))) (A0 (D6 (pv 1) rfl) A5)))))))))), ?_⟩
 obtain ⟨dn, en⟩ := id num
 refine ⟨_, rfl, _, rfl, Or.inl ⟨n, _, _, _, _, rfl, num, ?_⟩⟩
 refine ⟨_, rfl, n, CN, dn, _, _, rfl, en, N.cl, N.n1, B1q _ _ _ _, rfl, _, rfl, ?_⟩
 by_cases hk : x.k = .plain
 . have eR : B7p v x L = if x.f = 0 then (⟨.plain, x.s, 0, J4a (A0v x.p (v.l - v.r + 1)) v.m⟩, []) else C0h v x.s x.f 1 x.p L x.p := by unfold B7p; rw [hk]
   rw [eR] at k
   refine C8j (by rw [hk]; rfl) ⟨_, rfl, n, CN, dn, _, _, rfl, en, N.cl, N.n3, B6m _ _ _ _, rfl, _, rfl, J1 (fun hf => ?_) (fun hf => ?_)⟩
   . have hf : x.f = 0 := V.int.inj hf
     rw [if_pos hf] at k
     exact ⟨_, rfl, _, rfl, n, CN, dn, _, _, rfl, en, N.cl, N.n2, D5e _ _ _ _, _, rfl, n, CN, dn, _, _, rfl, en, N.cl, N.n4, A6z _ _ _ _, c, v, a, b, xs, ys, x.s, x.p, rfl, hc, fun n' H' nn s' num' => k.calm ox s' hc num'⟩
   . have hf : ¬ x.f = 0 := fun z => hf (congrArg V.int z)
     rw [if_neg hf] at k
     have zl : SzL x.f := ⟨by omega, f1⟩
     have z1 : Sz x.f := zl.sz
     have hl := hL hk hf
     have ls := A8c z1 A4v hl
     have fn := C8k (v := v) ok ls.1 ls.2 (by omega) (by omega)
     refine ⟨_, rfl, _, rfl, n, CN, dn, _, _, rfl, en, N.cl, N.n2, D5e _ _ _ _, _, rfl, n, CN, dn, _, _, rfl, en, N.cl, N.n3, B6m _ _ _ _, _, rfl, n, CN, dn, _, _, rfl, en, N.cl, N.n4, A6z _ _ _ _, fun r dr m1 m2 me => J5e m1 m2 me fun H1 s1' ra => ⟨rfl, ?_⟩⟩
     obtain ⟨dn1, en1⟩ := num.same s1'
     exact ⟨_, rfl, n, CN, dn1, _, _, rfl, en1, N.cl, N.n4, A6z _ _ _ _, c, v, a, b, xs, ys, r, x.f, 1, x.p, L, x.s, x.p, rfl, hc.same s1', ok, lx, ra, z1, A4v, hl, fn.1, fn.2, s0, s1, k.same s1'⟩
 have eR : B7p v x L = (x, []) := by
   unfold B7p
   cases hx : x.k with
   | plain => exact absurd hx hk
   | end_ => rfl
   | none => rfl
 rw [eR] at k
 exact C8x (fun z => hk (eqS (b := .plain) z)) ⟨_, rfl, k.calm ox (C8.refl _) hc num⟩
def Y4s (CN CC CT : Addr) : Sp := fun vs H Q E => ∃ c v a b xs ys n1 n2 x1 x2 L, vs = [.ref c, .ref n1, .ref n2] /\ A0n CC H c v a b xs ys /\ v.Ok /\ xs.length <= 900 /\ Z2 xs = xs /\ Two CN H n1 n2 x1 x2 /\ x1.Ok /\ x2.Ok /\ Y8c x1 x2 L /\ A1r CN CC CT H c v b xs ys (reR v x1 x2 L) Q E
theorem scRestOf : C5 ["context", "one", "other", "whole", "low", "left"] Q9 (A2 A8a) := scK
theorem V7j {f f1 f2 f3 f4 f5 f6 f7 f8 fI CN CC CB CB' CT CW : Addr} {cw : Wy -> Addr} {fd fd1 fd2 fd3 fd4 fd5 fd6 fd7 fd8 fdI : FuncData} (D : Def K mg "rest_of" Q9 A8a f fd) (D_need_numbers : Def K mg "need_numbers" ["things"] A3n f1 fd1) (G_need_numbers : A8 P w K mg base (CX1 P w) 2 f1 fd1 ["things"] (C0c K CN CB'))
   (D_some_of_kind : Def K mg "some_of_kind" Q17 A7u f2 fd2) (G_some_of_kind : A8 P w K mg base (CX1 P w) 1 f2 fd2 Q17 (C7h CN)) (D_nothing : Def K mg "nothing" [] Z0 f3 fd3) (G_nothing : A8 P w K mg base (CX1 P w) 3 f3 fd3 [] (A1v CN))
   (D_void : Def K mg "void" ["context"] B1k f4 fd4) (G_void : A8 P w K mg base (CX1 P w) 4 f4 fd4 ["context"] (C1w CN CC CT)) (D_rounded : Def K mg "rounded" Q12 A4r f5 fd5) (G_rounded : A8 P w K mg base (CX1 P w) 7 f5 fd5 Q12 (C8d CN CC CT))
   (D_whole_part : Def K mg "whole_part" Q4 Z9 f6 fd6) (G_whole_part : A8 P w K mg base (CX1 P w) 4 f6 fd6 Q4 (B1b CN)) (D_ten_to : Def K mg "ten_to" ["count"] A0q f7 fd7) (G_ten_to : A8 P w K mg base (CX1 P w) 2 f7 fd7 ["count"] A2h) (D_whole_at : Def K mg "whole_at" Q29 A2n f8 fd8) (G_whole_at : A8 P w K mg base (CX1 P w) 3 f8 fd8 Q29 (C1j CN))
   (C : B8d P w K mg base CC CB CT CW cw) (N : Num K mg CN) (M : C0n P w K mg base CN fI fdI) (O : Own mg) : A8 P w K mg base (CX1 P w) 8 f fd Q9 (Y4s CN CC CT) := by
 refine D.F.okE scRestOf (fun vs H Q E h => ?_) (fun X cdv A outer s H vs Q E hX hr hx h => ?_)
 . obtain ⟨c, v, a, b, xs, ys, n1, n2, x1, x2, L, rfl, _⟩ := h
   rfl
 subst hX
 obtain ⟨c, v, a, b, xs, ys, n1, n2, x1, x2, L, rfl, hc, ok, lx, ox, tw, o1, o2, hL, k⟩ := h
 refine ⟨_, (A3 (V8 (C9 D_need_numbers G_need_numbers hr hx (A0 (U4 (A0 (pv 1) (A0 (pv 2) A5))) A5))) (A3 (G4 (Y2 (C9 D_some_of_kind G_some_of_kind hr hx (A0 (U4 (A0 (pv 1) (A0 (pv 2) A5))) (A0 D5 A5)))) (A6 (B0 (A3f D_nothing G_nothing hr hx))) D0) (A3 (G4 (PW.pt (D9j (C7 G2 (D6 (pv 1) rfl) D5 (C6 _)) (C1h (PW.pt (C1u (C7 G2 (D6 (pv 2) rfl) D5 (C6 _)) (B5v (C7 G2 (D6 (pv 2) rfl) A1 (C6 _)))))))) (A6 (B0 (C9 D_void G_void hr hx (A0 (pv 0) A5)))) D0) (A3 (G4 (C7 G2 (D6 (pv 2) rfl) D5 (C6 _)) (A6 (B0 (C9 D_rounded G_rounded hr hx (A0 (pv 0) (A0 (pv 1) A5))))) D0) (A3 (D3 (i := 3) scRestOf.nd rfl (Or.inl rfl) (C9 D_whole_part G_whole_part hr hx (A0 (pv 1) (A0 (pv 2) A5)))) (A3 (G4 (C7 D9e (pv 3) (C9 D_ten_to G_ten_to hr hx (A0 (D6 (pv 0) rfl) A5)) (C6 _)) (A6 (B0 (C9 D_void G_void hr hx (A0 (pv 0) A5)))) D0) (A3 (D3 (i := 4) scRestOf.nd rfl (Or.inl rfl) (J3 (A1u rfl) (by rfl) O.min_ boot_min (A0 (D6 (pv 1) rfl) (A0 (D6 (pv 2) rfl) A5)))) (A3 (D3 (i := 5) scRestOf.nd rfl (Or.inl rfl) (A9 J8 (J3 A6r (by rfl) O.abs_ boot_abs (A0 (C9 D_whole_at G_whole_at hr hx (A0 (pv 1) (A0 (pv 4) A5))) A5)) (A9 G5 (pv 3) (J3 A6r (by rfl) O.abs_ boot_abs (A0 (C9 D_whole_at G_whole_at hr hx (A0 (pv 2) (A0 (pv 4) A5))) A5))))) (A6 (B0 (C9 D_rounded G_rounded hr hx (A0 (pv 0) (A0 (A6v M.m (A8.up M.g) hr N.g M.b .nil hx (A0 D5 (A0 (D6 (pv 1) rfl) (A0 (pv 5) (A0 (pv 4) A5))))) A5))))))))))))), ?_⟩
 have z2 : 2 <= sizeLine := D7 (by decide)
 unfold reR at k
 refine ⟨_, rfl, _, rfl, z2, fun l nl => ?_⟩
 have u := C8.upd (o := .lst [.ref n1, .ref n2]) nl
 refine ⟨l, [(n1, x1), (n2, x2)], rfl, (A7a (tw.same u) A7).n, .inl ⟨A7, ?_⟩⟩
 refine ⟨_, rfl, _, rfl, z2, fun l2 nl2 => ?_⟩
 have u2 := u.trans (C8.upd (o := .lst [.ref n1, .ref n2]) nl2)
 refine ⟨l2, _, _, rfl, A7a (tw.same u2) A7, (by show 2 <= 1000; decide), fun H3 s3 => ⟨_, rfl, ?_⟩⟩
 rw [C8u]
 have sm3 := u2.trans s3
 have tw3 := tw.same sm3
 have hc3 := hc.same sm3
 obtain ⟨⟨d1, e1⟩, ⟨d2, e2⟩⟩ := id tw3
 obtain ⟨dx, ec⟩ := hc3.ins
 refine J1 (fun hn => ?_) (fun hn => ?_)
 . rw [if_pos hn] at k
   exact ⟨rfl, fun n H' nn s' num => k.calm ox (sm3.trans s') hc num⟩
 rw [if_neg hn] at k
 have hn1 : x1.k ≠ .none := fun z => hn (.inl z)
 have hn2 : x2.k ≠ .none := fun z => hn (.inr z)
 have p10 := o1.p0; have p11 := o1.p1; have p20 := o2.p0; have p21 := o2.p1
 have r1 := ok.r1; have r2 := ok.r2
 obtain ⟨lb1, lb2, lb3⟩ := G0b x1 x2
 have big : (10 : Int) ^ 60 <= A4 500 := by decide +kernel
 refine ⟨_, rfl, n1, CN, d1, _, _, rfl, e1, N.cl, N.n1, B1q _ _ _ _, rfl, _, rfl, J1 (fun h1 => Z5 ?_) (fun h1 => ?_)⟩
 . have h1 : x1.k = .end_ := eqS (b := .end_) h1
   rw [if_pos h1] at k
   exact ⟨_, rfl, c, v, a, b, xs, ys, rfl, hc3, lx, k.same sm3⟩
 have h1 : x1.k ≠ .end_ := neS (b := .end_) h1
 rw [if_neg h1] at k
 have p1 : x1.k = .plain := by
   cases h : x1.k with
   | plain => rfl
   | end_ => exact absurd h h1
   | none => exact absurd h hn1
 have f11 := o1.f1
 refine ⟨_, rfl, n2, CN, d2, _, _, rfl, e2, N.cl, N.n1, B1q _ _ _ _, rfl, _, rfl, J1 (fun h2 => ?_) (fun h2 => ?_)⟩
 . have h2 : x2.k = .plain := eqS (b := .plain) h2
   refine ⟨_, rfl, n2, CN, d2, _, _, rfl, e2, N.cl, N.n3, B6m _ _ _ _, rfl, _, rfl, J1 (fun h3 => ?_) (fun h3 => ?_)⟩
   . have h3 : x2.f = 0 := V.int.inj h3
     rw [if_pos ⟨h2, h3⟩] at k
     exact ⟨_, rfl, c, v, a, b, xs, ys, rfl, hc3, lx, k.same sm3⟩
   have h3 : ¬ x2.f = 0 := fun z => h3 (congrArg V.int z)
   have h4 : x2.k ≠ .end_ := fun z => by rw [h2] at z; cases z
   rw [if_neg (fun z => h3 z.2), if_neg h4] at k
   refine ⟨_, rfl, n2, CN, d2, _, _, rfl, e2, N.cl, N.n1, B1q _ _ _ _, rfl, _, rfl, J9 (fun z => h4 (eqS (b := .end_) z)) ?_⟩
   refine ⟨_, rfl, _, rfl, n1, n2, x1, x2, rfl, tw3, o1, o2, h3, ?_⟩
   refine ⟨_, rfl, _, rfl, c, CC, dx, _, _, rfl, ec, C.c.cl, C.c.n_room, A4w _ _ _ _ _ _, v.r.toNat, (by rw [Int.toNat_of_nonneg (by omega)]; rfl), by omega, _, _, rfl, rfl, _, rfl, J1 (fun h5 => ?_) (fun h5 => ?_)⟩
   . have h5 : U0 x1 x2 >= A4 v.r := h5
     rw [if_pos h5] at k
     exact ⟨_, rfl, c, v, a, b, xs, ys, rfl, hc3, lx, k.same sm3⟩
   have h5 : ¬ U0 x1 x2 >= A4 v.r := h5
   rw [if_neg h5] at k
   have t24 := V2p r2
   obtain ⟨g0, g1, g2, g3, g4⟩ := G1j o1 o2 h3
   have hs := B5m (q := V9 x1 x2) o2 h3 (by omega)
   have w0 : 0 <= U0 x1 x2 := Int.ediv_nonneg (C1k o1) (C1k o2)
   have mul : IntMulOk (U0 x1 x2) (Y9 x2 (V9 x1 x2)) := by
     by_cases z : U0 x1 x2 = 0
     . rw [z]; exact A2u.ok (.inl ⟨by decide, by decide⟩)
     . have zs : Sz (U0 x1 x2) := ⟨by omega, Int.lt_of_lt_of_le (show U0 x1 x2 < 10 ^ 24 by omega) (by decide +kernel)⟩
       exact IntMulOk.of_bits (C7n zs) (C7n hs.sz)
   refine ⟨_, rfl, n1, CN, d1, _, _, rfl, e1, N.cl, N.n4, A6z _ _ _ _, _, rfl, n2, CN, d2, _, _, rfl, e2, N.cl, N.n4, A6z _ _ _ _, _, _, rfl, ?_⟩
   show tSeq _ _ _ [some (V.ref c), some (V.ref n1), some (V.ref n2), some (V.int (U0 x1 x2)), some (V.int (V9 x1 x2)), none] H3
   refine ⟨_, rfl, _, rfl, n1, x1, V9 x1 x2, rfl, tw3.1, o1, lb1, by omega, _, rfl, _, rfl, _, rfl, _, rfl, n2, x2, V9 x1 x2, rfl, tw3.2, o2, lb2, by omega, _, rfl, _, _, rfl, rfl, (by rw [A6y o2]; exact mul), _, _, rfl, rfl, ?_⟩
   rw [A6y o1, A6y o2]
   refine ⟨_, rfl, _, rfl, n1, CN, d1, _, _, rfl, e1, N.cl, N.n2, D5e _ _ _ _, _, rfl, _, rfl, ?_⟩
   refine C9a (Q := fun u H' => C8d CN CC CT ([V.ref c, u] ++ []) H' Q (fun C d H' => E C d H')) fun n' H4 nn s4 num' => ?_
   exact ⟨c, v, a, b, xs, ys, n', A0e x1 x2, L, rfl, hc3.same s4, ok, lx, ox, num', o1.s0, o1.s1, g0, g1, g2, g3, (by have := hL; unfold Y8c C8t at this; rw [if_neg h4] at this; exact this), k.same (sm3.trans s4)⟩
 have h2 : x2.k ≠ .plain := neS (b := .plain) h2
 have h4 : x2.k = .end_ := by
   cases h : x2.k with
   | plain => exact absurd h h2
   | end_ => rfl
   | none => exact absurd h hn2
 rw [if_neg (fun z => h2 z.1), if_pos h4] at k
 refine V3 ⟨_, rfl, n2, CN, d2, _, _, rfl, e2, N.cl, N.n1, B1q _ _ _ _, rfl, _, rfl, A0p (by rw [h4]; rfl) ?_⟩
 exact ⟨_, rfl, _, rfl, c, v, a, b, xs, ys, n1, x1, L, rfl, hc3, ok, lx, ox, tw3.1, o1.s0, o1.s1, o1.f0, by omega, p10, p11, (by have := hL; unfold Y8c C8t at this; rw [if_pos h4] at this; exact this), k.same sm3⟩
abbrev B7h : Stmt := (top 31)
def V4f : Sp := fun vs H Q _ => ∃ n m : Int, vs = [.int n, .int m] /\ -m <= n /\ n <= m /\ Q .non H
theorem A0hf : C5 Q35 Q35 (A2 B7h) := scK
theorem Y6t {f f1 CB : Addr} {fd fd1 : FuncData} (D : Def K mg "need_count" Q35 B7h f fd) (D1 : Def K mg "is_between" Q6 C9s f1 fd1) (O : Own mg) (T : Kit K) (B : Err K mg "BadCount" CB) : A8 P w K mg base (CX1 P w) 2 f fd Q35 V4f := by
 have G1 := U0n (P := P) (w := w) (base := base) D1 O T
 refine D.F.okE A0hf (fun vs H Q E h => ?_) (fun X cdv A outer s H vs Q E hX hr hx h => ?_)
 . obtain ⟨n, m, rfl, _⟩ := h
   rfl
 subst hX
 obtain ⟨n, m, rfl, h1, h2, k⟩ := h
 refine ⟨_, (A6 (G4 (A4g (Y2 (C9 D1 G1 hr hx (A0 (pv 0) (A0 (B1f A4h (pv 1)) (A0 (pv 1) A5)))))) (A6 (A2r (by rfl) B.g B.q PySem.F.excBase_ValueError hr.hd hx (A0 (G2g (.cons .lit (.cons (.int (pv 1)) (.cons .lit (.cons (.int (pv 1)) .nil))))) A5))) D0)), ?_⟩
 exact ⟨_, rfl, _, rfl, _, rfl, _, rfl, _, _, _, rfl, .inl ⟨⟨n, rfl, h1, h2⟩, _, rfl, V3 k⟩⟩
abbrev D0e : Stmt := (top 77)
def Y4e (K : Frag) : Sp := fun vs H Q _ => ∃ a ns k, vs = [.ref a, .int k] /\ SqL K H a ((ns : List Int).map V.int) /\ 0 <= k /\ ∀ i, Q (.int i) H
theorem A0rn : C5 Q36 Q36 (A2 D0e) := scK
theorem A0gz {f : Addr} {fd : FuncData} (D : Def K mg "_law_cell_at" Q36 D0e f fd) (O : Own mg) : A8 P w K mg base (CX1 P w) 1 f fd Q36 (Y4e K) := by
 refine A8.up (D.F.ok A0rn (fun vs H Q E h => ?_) (fun cdv A outer s H vs Q E hr h => ?_))
 . obtain ⟨a, ns, k, rfl, _⟩ := h
   rfl
 obtain ⟨a, ns, i, rfl, hs, h0, k⟩ := h
 refine ⟨_, (A3 (G4 (C7 B6t (pv 1) (J3 G1q (by rfl) O.len_ PySem.boot_len (A0 (pv 0) A5)) (C6 _)) (A6 (B0 (D9 U5 (pv 0) (pv 1) (fun _ _ => rfl)))) D0) (A6 (B0 A1))), ?_⟩
 refine ⟨_, rfl, _, rfl, a, _, rfl, .inl hs, _, _, rfl, rfl, _, rfl, ?_⟩
 refine J1 (fun hlt => ?_) (fun _ => k 0)
 rw [List.length_map] at hlt
 obtain ⟨j, rfl⟩ := Int.eq_ofNat_of_zero_le h0
 have hj : j < ns.length := by omega
 exact ⟨_, rfl, _, rfl, a, _, _, _, rfl, rfl, hs, B8 (v := V.int ns[j]) (by simp [hj]), k _⟩
abbrev A7q : Stmt := (top 78)
def C7r : Sp := fun vs H Q _ => ∃ c k, vs = [.int c, .int k] /\ 0 <= k /\ k <= 100 /\ ∀ m, 0 <= m -> m < 2147483629 -> Q (.int m) H
theorem A0fz : C5 Q18 Q18 (A2 A7q) := scK
theorem Y5z {f : Addr} {fd : FuncData} (D : Def K mg "_law_mixed" Q18 A7q f fd) : A8 P w K mg base (CX1 P w) 1 f fd Q18 C7r := by
 refine A8.up (D.F.ok A0fz (fun vs H Q E h => ?_) (fun cdv A outer s H vs Q E hr h => ?_))
 . obtain ⟨c, k, rfl, _⟩ := h
   rfl
 obtain ⟨c, i, rfl, h0, h1, k⟩ := h
 refine ⟨_, (A6 (B0 (A9 J0 (A9 G5 (A9 J0 (A9 J4 (A9 J4 (A9 G5 (pv 0) (A9 J4 A1 (A9 G5 (A9 G5 A1 (pv 1)) (pv 1)))) (A9 G5 A1 (pv 1))) A1) A1) A1) A1))), ?_⟩
 have q0 : (0 : Int) <= 2 * i * i := Int.mul_nonneg (by omega) h0
 have q1 : 2 * i * i <= 200 * 100 := Int.mul_le_mul (by omega) h1 h0 (by decide)
 have m1 : IntMulOk 2 i := A2u.ok (.inl ⟨by decide, by decide⟩)
 have m2 : IntMulOk (2 * i) i := A2u.ok (.inr ⟨by omega, by omega⟩)
 have m3 : IntMulOk c (48271 + 2 * i * i) := A2u.ok (.inr ⟨by omega, by omega⟩)
 have m4 : IntMulOk 69621 i := A2u.ok (.inl ⟨by decide, by decide⟩)
 have m5 : ∀ z : Int, IntMulOk z 69621 := fun z => A2u.ok (.inr ⟨by decide, by decide⟩)
 refine ⟨_, rfl, _, rfl, _, _, rfl, rfl, m1, _, rfl, _, _, rfl, rfl, m2, _, _, rfl, rfl, _, _, rfl, rfl, m3, _, rfl, _, _, rfl, rfl, m4, _, _, rfl, rfl, _, _, rfl, rfl, _, _, rfl, rfl, (by show (0 : Int) < 2147483647; decide), _, _, rfl, rfl, m5 _, _, _, rfl, rfl, (by show (0 : Int) < 2147483629; decide), ?_⟩
 exact k _ (Int.emod_nonneg _ (by decide)) (Int.emod_lt_of_pos _ (by decide))
abbrev B0y : Stmt := (top 79)
abbrev C8g : Stmt := (top 80)
abbrev A8b : Stmt := (top 81)
abbrev C8p : Stmt := (top 82)
abbrev A7s : Stmt := (top 83)
theorem dv {n : Int} (h : 0 < n) (h2 : n.natAbs.log2 < 9000) : (0 : Int) < n /\ n.natAbs.log2 < 9000 := ⟨h, h2⟩
structure C7s (r l m : Int) : Prop where
 r1 : 1 <= r
 r2 : r <= 24
 l1 : -60 <= l
 l2 : l <= 0
 m1 : 0 <= m
 m2 : m <= 60
theorem at3 (a b c n : Int) : ∃ v, (v = a \/ v = b \/ v = c) /\ atI ([.int a, .int b, .int c] : List V) (n % 3) = some (.int v) := by
 rcases (by omega : n % 3 = 0 \/ n % 3 = 1 \/ n % 3 = 2) with h | h | h
 . exact ⟨a, .inl rfl, by rw [h]; exact B8 (j := 0) rfl⟩
 . exact ⟨b, .inr (.inl rfl), by rw [h]; exact B8 (j := 1) rfl⟩
 exact ⟨c, .inr (.inr rfl), by rw [h]; exact B8 (j := 2) rfl⟩
theorem at4 (a b c d n : Int) : ∃ v, (v = a \/ v = b \/ v = c \/ v = d) /\ atI ([.int a, .int b, .int c, .int d] : List V) (n % 8 / 2) = some (.int v) := by
 rcases (by omega : n % 8 / 2 = 0 \/ n % 8 / 2 = 1 \/ n % 8 / 2 = 2 \/ n % 8 / 2 = 3) with h | h | h | h
 . exact ⟨a, .inl rfl, by rw [h]; exact B8 (j := 0) rfl⟩
 . exact ⟨b, .inr (.inl rfl), by rw [h]; exact B8 (j := 1) rfl⟩
 . exact ⟨c, .inr (.inr (.inl rfl)), by rw [h]; exact B8 (j := 2) rfl⟩
 exact ⟨d, .inr (.inr (.inr rfl)), by rw [h]; exact B8 (j := 3) rfl⟩
theorem at8 (n : Int) : ∃ y : Wy, atI ([.str "down", .str "up", .str "floor", .str "ceiling", .str "half up", .str "half down", .str "half even", .str "five up"] : List V) (n % 8) = some (.str y.name) := by
 rcases (by omega : n % 8 = 0 \/ n % 8 = 1 \/ n % 8 = 2 \/ n % 8 = 3 \/ n % 8 = 4 \/ n % 8 = 5 \/ n % 8 = 6 \/ n % 8 = 7) with h | h | h | h | h | h | h | h <;> rw [h]
 . exact ⟨.down, B8 (j := 0) rfl⟩
 . exact ⟨.up, B8 (j := 1) rfl⟩
 . exact ⟨.floor, B8 (j := 2) rfl⟩
 . exact ⟨.ceiling, B8 (j := 3) rfl⟩
 . exact ⟨.halfUp, B8 (j := 4) rfl⟩
 . exact ⟨.halfDown, B8 (j := 5) rfl⟩
 . exact ⟨.halfEven, B8 (j := 6) rfl⟩
 exact ⟨.fiveUp, B8 (j := 7) rfl⟩
theorem A0su {a b : Int} (h : a < b) (h0 : 0 <= a) : A4 a < A4 b := by
 unfold A4
 exact Int.ofNat_lt.mpr ((Nat.pow_lt_pow_iff_right (by decide)).mpr (by omega))
theorem V3g {e : Int} (h : e <= 1500) : (0 : Int) < A4 e /\ (A4 e).natAbs.log2 < 9000 := by
 have := J9y A4v h
 rw [Int.one_mul] at this
 exact ⟨D4 e, this⟩
theorem U1c {f : Int} (h0 : 0 <= f) (h : f < A4 60) : Builtin.Int.intBits f <= 2 ^ 20 := by
 obtain ⟨n, rfl⟩ := Int.eq_ofNat_of_zero_le h0
 refine B9y (k := 200) ?_ (by decide)
 have : n < 10 ^ 60 := Int.ofNat_lt.mp h
 exact Nat.lt_trans this (by decide +kernel)
def B7u : Sp := fun vs H Q _ => ∃ p : Int, vs = [.int p] /\ -(2 ^ 62) <= p /\ p < 2 ^ 62 /\ Q (.int (A4 p)) H
theorem scLTen : C5 ["_law_power_here", "_law_found", "_law_turn"] Q10 (A2 B0y) := scK
theorem A0gn {f : Addr} {fd : FuncData} (D : Def K mg "_law_ten" Q10 B0y f fd) (O : Own mg) : A8 P w K mg base (CX1 P w) 1 f fd Q10 B7u := by
 refine D.F.okE scLTen (fun vs H Q E h => ?_) (fun X cdv A outer s H vs Q E hX hr hx h => ?_)
 . obtain ⟨p, rfl, _⟩ := h
   rfl
 subst hX
 obtain ⟨p, rfl, p0, p1, k⟩ := h
 refine ⟨_, (A3 (B5 (D3 (i := 1) scLTen.nd rfl (Or.inl rfl) A1)) (A3 (B5 (B7f PassesOwn.leaving rfl (B5j rfl O.range_ (A0 (pv 0) A5)) (J7 (i := 2) scLTen.nd rfl (Or.inl rfl)) (A6 (B5 (D3 (i := 1) scLTen.nd rfl (Or.inl rfl) (A9 G5 (pv 1) A1)))))) (A6 (B0 (pv 1))))), ?_⟩
 refine ⟨fun σ' H' => H' = H /\ σ' = [some (.int p), some (.int 1), none], ⟨rfl, rfl⟩, ?_⟩
 rintro σ' H1 ⟨rfl, rfl⟩
 refine ⟨fun σ' H' => H' = H1 /\ ∃ v, σ' = [some (.int p), some (.int (A4 p)), v], ?_, ?_⟩
 . refine ⟨_, rfl, p, rfl, p0, p1, B5q (n := p.toNat) (fun i σ' H' => H' = H1 /\ ∃ v, σ' = [some (.int p), some (.int ((10 ^ i : Nat) : Int)), v]) ⟨rfl, none, rfl⟩ ?_ ?_⟩
   . rintro i σ' H' hi ⟨rfl, v, rfl⟩
     refine ⟨_, ?_, fun _ _ h => h⟩
     refine ⟨_, rfl, _, _, rfl, rfl, A2u.ok (.inr ⟨by decide, by decide⟩), rfl, some (.int (0 + (i : Int))), ?_⟩
     rw [Nat.pow_succ, Int.natCast_mul]
     rfl
   . rintro σ' H' ⟨rfl, v, rfl⟩
     exact ⟨rfl, v, rfl⟩
 rintro σ' H2 ⟨rfl, v, rfl⟩
 exact ⟨_, rfl, k⟩
def Y7r : Sp := fun vs H Q _ => ∃ c m : Int, vs = [.int c, .int m] /\ 1 <= m /\ m <= 60 /\ ∀ f H', 0 <= f -> f < A4 m -> C8 H H' -> Q (.int f) H'
theorem scLFig : C5 ["_law_cell", "_law_most", "_law_number", "_law_j", "_law_more", "_law_many", "_law_figures_here", "_law_way", "_law_behind"] Q19 (A2 C8g) := scK
theorem A0hs {f f1 f2 : Addr} {fd fd1 fd2 : FuncData} (D : Def K mg "_law_figures" Q19 C8g f fd) (D_l_mixed : Def K mg "_law_mixed" Q18 A7q f1 fd1) (G_l_mixed : A8 P w K mg base (CX1 P w) 1 f1 fd1 Q18 C7r)
   (D_l_ten : Def K mg "_law_ten" Q10 B0y f2 fd2) (G_l_ten : A8 P w K mg base (CX1 P w) 1 f2 fd2 Q10 B7u) (O : Own mg) : A8 P w K mg base (CX1 P w) 2 f fd Q19 Y7r := by
 refine D.F.okE scLFig (fun vs H Q E h => ?_) (fun X cdv A outer s H vs Q E hX hr hx h => ?_)
 . obtain ⟨c, m, rfl, _⟩ := h
   rfl
 subst hX
 obtain ⟨c, mo, rfl, o1, o2, k⟩ := h
 refine ⟨_, (A3 (B5 (D3 (i := 2) scLFig.nd rfl (Or.inl rfl) A1)) (A3 (B5 (B7f PassesOwn.leaving rfl (B5j rfl O.range_ (A0 A1 A5)) (J7 (i := 3) scLFig.nd rfl (Or.inl rfl)) (A6 (B5 (D3 (i := 2) scLFig.nd rfl (Or.inl rfl) (A9 J4 (A9 G5 (pv 2) A1) (C9 D_l_mixed G_l_mixed hr hx (A0 (pv 0) (A0 (pv 3) A5))))))))) (A3 (B5 (D3 (i := 4) scLFig.nd rfl (Or.inl rfl) (C9 D_l_mixed G_l_mixed hr hx (A0 (pv 0) (A0 A1 A5))))) (A3 (B5 (D3 (i := 5) scLFig.nd rfl (Or.inl rfl) (D9 U5 (U4 (A0 (A9 J4 A1 (A9 J0 (A9 D8 (pv 4) A1) (pv 1))) (A0 (A9 J4 A1 (A9 J0 (A9 D8 (pv 4) A1) (J3 (A1u rfl) (by rfl) O.min_ boot_min (A0 A1 (A0 (pv 1) A5))))) (A0 (pv 1) A5)))) (A9 J0 (pv 4) A1) (fun _ _ => rfl)))) (A3 (B5 (D3 (i := 6) scLFig.nd rfl (Or.inl rfl) (A9 J0 (pv 2) (C9 D_l_ten G_l_ten hr hx (A0 (pv 5) A5))))) (A3 (B5 (D3 (i := 7) scLFig.nd rfl (Or.inl rfl) (A9 J0 (A9 D8 (pv 4) A1) A1))) (A3 (B5 (G4 (C7 G2 (pv 7) A1 (C6 _)) (A6 (B5 (D3 (i := 6) scLFig.nd rfl (Or.inl rfl) (A9 J8 (C9 D_l_ten G_l_ten hr hx (A0 (pv 5) A5)) A1)))) D0)) (A3 (B5 (G4 (C7 G2 (pv 7) A1 (C6 _)) (A3 (B5 (D3 (i := 8) scLFig.nd rfl (Or.inl rfl) (C9 D_l_ten G_l_ten hr hx (A0 (A9 J0 (A9 D8 (pv 4) A1) (pv 5)) A5)))) (A6 (B5 (D3 (i := 6) scLFig.nd rfl (Or.inl rfl) (A9 G5 (A9 D8 (pv 6) (pv 8)) (pv 8)))))) D0)) (A3 (B5 (G4 (C7 G2 (pv 7) A1 (C6 _)) (A6 (B5 (D3 (i := 6) scLFig.nd rfl (Or.inl rfl) (C9 D_l_ten G_l_ten hr hx (A0 (A9 J0 (A9 D8 (pv 4) A1) (pv 5)) A5))))) D0)) (A6 (B0 (D9 U5 (U4 (A0 (pv 6) (A0 (pv 6) (A0 A1 A5)))) (A9 G5 (A0k A1x (by rfl) O.int_ boot_int (A0 (G9 G2 (pv 7) A1 (C6 _)) A5)) A1) (fun _ _ => rfl))))))))))))), ?_⟩
 have z3 : 3 <= sizeLine := D7 (by decide)
 have mC : ∀ z n : Int, -(2 ^ 64) < n -> n < 2 ^ 64 -> IntMulOk z n := fun z n a b => A2u.ok (.inr ⟨a, b⟩)
 refine ⟨fun σ' H' => H' = H /\ σ' = [some (.int c), some (.int mo), some (.int 0), none, none, none, none, none, none], ⟨rfl, rfl⟩, ?_⟩
 rintro σ' H1 ⟨rfl, rfl⟩
 refine ⟨fun σ' H' => H' = H1 /\ ∃ (n : Int) (v : Option V), σ' = [some (.int c), some (.int mo), some (.int n), v, none, none, none, none, none], ⟨7, rfl, by decide, by decide, B5q (n := 7) (fun i σ' H' => H' = H1 /\ ∃ (n : Int) (v : Option V), σ' = [some (.int c), some (.int mo), some (.int n), v, none, none, none, none, none]) ⟨rfl, 0, none, rfl⟩ ?_ (fun σ' H' h => h)⟩, ?_⟩
 . rintro i σ' H3 hi ⟨rfl, n, v, rfl⟩
   refine ⟨_, ?_, fun _ _ h => h⟩
   exact ⟨_, rfl, _, _, rfl, rfl, mC _ _ (by decide) (by decide), _, rfl, _, rfl, c, _, rfl, (by show (0 : Int) <= 0 + (i : Int); omega), (by show 0 + (i : Int) <= 100; omega), fun m' _ _ => ⟨_, _, rfl, rfl, rfl, _, _, rfl⟩⟩
 rintro σ' H2 ⟨rfl, n, v, rfl⟩
 refine ⟨fun σ' H' => ∃ m : Int, H' = H2 /\ 0 <= m /\ σ' = [some (.int c), some (.int mo), some (.int n), v, some (.int m), none, none, none, none], ⟨_, rfl, c, 7, rfl, by decide, by decide, fun m m0 _ => ⟨m, rfl, m0, rfl⟩⟩, ?_⟩
 rintro σ' H3 ⟨m, rfl, m0, rfl⟩
 refine ⟨fun σ' H' => ∃ y : Int, C8 H3 H' /\ 1 <= y /\ y <= mo /\ σ' = [some (.int c), some (.int mo), some (.int n), v, some (.int m), some (.int y), none, none, none], ?_, ?_⟩
 . have mb : 0 < (if mo < 4 then mo else 4) /\ (if mo < 4 then mo else 4) <= mo := by split <;> omega
   obtain ⟨y, hy, ix⟩ := at3 (1 + m / 8 % mo) (1 + m / 8 % (if mo < 4 then mo else 4)) mo m
   have a0 := Int.emod_nonneg (m / 8) (show mo ≠ 0 by omega)
   have a1 := Int.emod_lt_of_pos (m / 8) (show 0 < mo by omega)
   have b0 := Int.emod_nonneg (m / 8) (show (if mo < 4 then mo else 4) ≠ 0 by omega)
   have b1 := Int.emod_lt_of_pos (m / 8) mb.1
   refine ⟨_, rfl, _, _, rfl, rfl, dv (n := 8) (by decide) (by decide +kernel), _, rfl, _, _, rfl, rfl, (show 0 < mo by omega), _, _, rfl, rfl, _, rfl, _, _, rfl, rfl, dv (n := 8) (by decide) (by decide +kernel), _, rfl, _, _, rfl, _, _, rfl, rfl, mb.1, _, _, rfl, rfl, _, rfl, z3, fun p np => ⟨_, rfl, _, _, rfl, rfl, (by decide : (0 : Int) < 3), p, _, _, _, rfl, rfl, SqL.of A7, ix, y, C8.upd np, ?_, ?_, rfl⟩⟩
   . rcases hy with rfl | rfl | rfl <;> omega
   . rcases hy with rfl | rfl | rfl <;> omega
 rintro σ' H4 ⟨y, s4, y1, y2, rfl⟩
 have tl : A4 y <= A4 mo := V7 y2
 refine ⟨fun σ' H' => ∃ g : Int, H' = H4 /\ 0 <= g /\ g < A4 mo /\ σ' = [some (.int c), some (.int mo), some (.int n), v, some (.int m), some (.int y), some (.int g), none, none], ?_, ?_⟩
 . exact ⟨_, rfl, _, rfl, y, rfl, by omega, by omega, _, _, rfl, rfl, D4 _, _, rfl, Int.emod_nonneg _ (Int.ne_of_gt (D4 _)), Int.lt_of_lt_of_le (Int.emod_lt_of_pos _ (D4 _)) tl, rfl⟩
 rintro σ' H5 ⟨g, rfl, g0, g1, rfl⟩
 refine ⟨fun σ' H' => ∃ w : Int, H' = H5 /\ σ' = [some (.int c), some (.int mo), some (.int n), v, some (.int m), some (.int y), some (.int g), some (.int w), none], ⟨_, rfl, _, _, rfl, rfl, dv (n := 480) (by decide) (by decide +kernel), _, _, rfl, rfl, (by decide : (0 : Int) < 9), _, rfl, rfl⟩, ?_⟩
 rintro σ' H6 ⟨wy, rfl, rfl⟩
 refine ⟨fun σ' H' => ∃ g : Int, H' = H6 /\ 0 <= g /\ g < A4 mo /\ σ' = [some (.int c), some (.int mo), some (.int n), v, some (.int m), some (.int y), some (.int g), some (.int wy), none], ?_, ?_⟩
 . refine ⟨_, rfl, rfl, _, rfl, J1 (fun h => ?_) (fun h => ⟨g, rfl, g0, g1, rfl⟩)⟩
   refine ⟨_, ?_, fun _ _ h => h⟩
   have tp := D4 y
   exact ⟨_, rfl, y, rfl, by omega, by omega, _, _, rfl, rfl, A4 y - 1, rfl, by omega, by omega, rfl⟩
 clear g0 g1
 rintro σ' H7 ⟨g, rfl, g0, g1, rfl⟩
 have e0 := Int.emod_nonneg (m / 4320) (show y ≠ 0 by omega)
 have e1 := Int.emod_lt_of_pos (m / 4320) (show 0 < y by omega)
 refine ⟨fun σ' H' => ∃ (g : Int) (u : Option V), H' = H7 /\ 0 <= g /\ g < A4 mo /\ σ' = [some (.int c), some (.int mo), some (.int n), v, some (.int m), some (.int y), some (.int g), some (.int wy), u], ?_, ?_⟩
 . refine ⟨_, rfl, rfl, _, rfl, J1 (fun h => ?_) (fun h => ⟨g, none, rfl, g0, g1, rfl⟩)⟩
   refine ⟨fun σ' H' => H' = H7 /\ σ' = [some (.int c), some (.int mo), some (.int n), v, some (.int m), some (.int y), some (.int g), some (.int wy), some (.int (A4 (m / 4320 % y)))], ⟨_, rfl, _, _, rfl, rfl, dv (n := 4320) (by decide) (by decide +kernel), _, rfl, _, _, rfl, rfl, (show 0 < y by omega), m / 4320 % y, rfl, by omega, by omega, rfl, rfl⟩, ?_⟩
   rintro σ' H8 ⟨rfl, rfl⟩
   refine ⟨_, ?_, fun _ _ h => h⟩
   have tp := D4 (m / 4320 % y)
   have q0 : 0 <= g / A4 (m / 4320 % y) := Int.ediv_nonneg g0 (Int.le_of_lt tp)
   have q1 : g / A4 (m / 4320 % y) * A4 (m / 4320 % y) <= g := Int.ediv_mul_le _ (Int.ne_of_gt tp)
   have q2 : g / A4 (m / 4320 % y) <= g := Int.ediv_le_self _ g0
   have t60 : A4 mo <= A4 60 := V7 o2
   refine ⟨_, rfl, _, rfl, _, _, rfl, rfl, V3g (by omega), _, rfl, _, _, rfl, rfl, IntMulOk.of_bits (U1c q0 (by omega)) (D9n (by omega)), _, _, rfl, Int.mul_nonneg q0 (Int.le_of_lt tp), Int.lt_of_le_of_lt q1 g1, rfl⟩
 clear g0 g1
 rintro σ' H8 ⟨g, u, rfl, g0, g1, rfl⟩
 refine ⟨fun σ' H' => ∃ g : Int, H' = H8 /\ 0 <= g /\ g < A4 mo /\ σ' = [some (.int c), some (.int mo), some (.int n), v, some (.int m), some (.int y), some (.int g), some (.int wy), u], ?_, ?_⟩
 . refine ⟨_, rfl, rfl, _, rfl, J1 (fun h => ?_) (fun h => ⟨g, rfl, g0, g1, rfl⟩)⟩
   refine ⟨_, ?_, fun _ _ h => h⟩
   exact ⟨_, rfl, _, _, rfl, rfl, dv (n := 4320) (by decide) (by decide +kernel), _, rfl, _, _, rfl, rfl, (show 0 < y by omega), m / 4320 % y, rfl, by omega, by omega, _, rfl, Int.le_of_lt (D4 _), A0su (by omega) e0, rfl⟩
 clear g0 g1
 rintro σ' H9 ⟨g, rfl, g0, g1, rfl⟩
 refine ⟨_, rfl, _, rfl, z3, fun p np => ⟨_, rfl, rfl, .inr ⟨_, rfl, _, _, rfl, rfl, mC _ _ (by decide) (by decide), ?_⟩⟩⟩
 have s9 : C8 H3 (upd H9 p (.lst [.int g, .int g, .int 0])) := s4.trans (C8.upd np)
 cases decide (V.int wy = V.int 4) with
 | true => exact ⟨p, _, _, _, rfl, rfl, SqL.of A7, B8 (j := 2) rfl, k 0 _ (Int.le_refl _) (D4 _) s9⟩
 | false => exact ⟨p, _, _, _, rfl, rfl, SqL.of A7, B8 (j := 0) rfl, k g _ g0 g1 s9⟩
def frV (r : Int) (y : Wy) (l m : Int) : List V := [.int r, .str y.name, .int l, .int m]
def J4g : Sp := fun vs H Q _ => ∃ c : Int, vs = [.int c] /\ 0 <= c /\ ∀ r y l m q H', C7s r l m -> C8 H H' -> H' q = some (.tup (frV r y l m)) -> Q (.ref q) H'
theorem scLFrame : C5 ["_law_cell", "_law_names", "_law_room", "_law_least", "_law_most"] ["_law_cell"] (A2 A8b) := scK
theorem V7r {f : Addr} {fd : FuncData} (D : Def K mg "_law_frame" ["_law_cell"] A8b f fd) : A8 P w K mg base (CX1 P w) 1 f fd ["_law_cell"] J4g := by
 refine D.F.okE scLFrame (fun vs H Q E h => ?_) (fun X cdv A outer s H vs Q E hX hr hx h => ?_)
 . obtain ⟨c, rfl, _⟩ := h
   rfl
 subst hX
 obtain ⟨c, rfl, c0, k⟩ := h
 refine ⟨_, (A3 (B5 (D3 (i := 1) scLFrame.nd rfl (Or.inl rfl) (U4 (A0 D5 (A0 D5 (A0 D5 (A0 D5 (A0 D5 (A0 D5 (A0 D5 (A0 D5 A5))))))))))) (A3 (B5 (D3 (i := 2) scLFrame.nd rfl (Or.inl rfl) (D9 U5 (U4 (A0 (A9 J4 A1 (A9 J0 (A9 D8 (pv 0) A1) A1)) (A0 (A9 J4 A1 (A9 J0 (A9 D8 (pv 0) A1) A1)) (A0 A1 A5)))) (A9 J0 (pv 0) A1) (fun _ _ => rfl)))) (A3 (B5 (D3 (i := 3) scLFrame.nd rfl (Or.inl rfl) (D9 U5 (U4 (A0 (B1f A4h A1) (A0 (B1f A4h (A9 J0 (A9 D8 (pv 0) A1) A1)) (A0 (B1f A4h (A9 J0 (A9 D8 (pv 0) A1) A1)) A5)))) (A9 J0 (A9 D8 (pv 0) A1) A1) (fun _ _ => rfl)))) (A3 (B5 (D3 (i := 4) scLFrame.nd rfl (Or.inl rfl) (D9 U5 (U4 (A0 A1 (A0 (A9 J0 (A9 D8 (pv 0) A1) A1) (A0 (A9 J0 (A9 D8 (pv 0) A1) A1) A5)))) (A9 J0 (A9 D8 (pv 0) A1) A1) (fun _ _ => rfl)))) (A6 (B0 (U6 (A0 (pv 2) (A0 (D9 U5 (pv 1) (A9 J0 (A9 D8 (pv 0) A1) A1) (fun _ _ => rfl)) (A0 (pv 3) (A0 (pv 4) A5))))))))))), ?_⟩
 have z8 : 8 <= sizeLine := D7 (by decide)
 have z4 : 4 <= sizeLine := D7 (by decide)
 have z3 : 3 <= sizeLine := D7 (by decide)
 refine ⟨fun σ' H' => ∃ a, C8 H H' /\ H' a = some (.lst [.str "down", .str "up", .str "floor", .str "ceiling", .str "half up", .str "half down", .str "half even", .str "five up"]) /\ σ' = [some (.int c), some (.ref a), none, none, none], ⟨z8, fun a n => ⟨a, C8.upd n, A7, rfl⟩⟩, ?_⟩
 rintro σ' H1 ⟨a, s1, ea, rfl⟩
 refine ⟨fun σ' H' => ∃ r : Int, C8 H1 H' /\ 1 <= r /\ r <= 24 /\ σ' = [some (.int c), some (.ref a), some (.int r), none, none], ?_, ?_⟩
 . obtain ⟨r, hr, ix⟩ := at3 (1 + c / 3 % 4) (1 + c / 3 % 24) 5 c
   refine ⟨_, rfl, _, _, rfl, rfl, dv (n := 3) (by decide) (by decide +kernel), _, _, rfl, rfl, (by decide : (0 : Int) < 4), _, _, rfl, rfl, _, rfl, _, _, rfl, rfl, dv (n := 3) (by decide) (by decide +kernel), _, _, rfl, rfl, (by decide : (0 : Int) < 24), _, _, rfl, rfl, z3, fun p np => ⟨_, rfl, _, _, rfl, rfl, (by decide : (0 : Int) < 3), p, _, _, _, rfl, rfl, SqL.of A7, ix, r, C8.upd np, ?_, ?_, rfl⟩⟩
   . rcases hr with rfl | rfl | rfl <;> omega
   . rcases hr with rfl | rfl | rfl <;> omega
 rintro σ' H2 ⟨r, s2, r1, r2, rfl⟩
 refine ⟨fun σ' H' => ∃ l : Int, C8 H1 H' /\ -60 <= l /\ l <= 0 /\ σ' = [some (.int c), some (.ref a), some (.int r), some (.int l), none], ?_, ?_⟩
 . obtain ⟨l, hl, ix⟩ := at3 (-60) (-(c / 72 % 61)) (-(c / 72 % 6)) (c / 576)
   refine ⟨_, rfl, _, rfl, _, _, rfl, rfl, dv (n := 72) (by decide) (by decide +kernel), _, _, rfl, rfl, (by decide : (0 : Int) < 61), _, rfl, _, rfl, _, _, rfl, rfl, dv (n := 72) (by decide) (by decide +kernel), _, _, rfl, rfl, (by decide : (0 : Int) < 6), _, rfl, z3, fun p np => ⟨_, rfl, _, _, rfl, rfl, dv (n := 576) (by decide) (by decide +kernel), _, _, rfl, rfl, (by decide : (0 : Int) < 3), p, _, _, _, rfl, rfl, SqL.of A7, ix, l, s2.trans (C8.upd np), ?_, ?_, rfl⟩⟩
   . rcases hl with rfl | rfl | rfl <;> omega
   . rcases hl with rfl | rfl | rfl <;> omega
 rintro σ' H3 ⟨l, s3, l1, l2, rfl⟩
 refine ⟨fun σ' H' => ∃ m : Int, C8 H1 H' /\ 0 <= m /\ m <= 60 /\ σ' = [some (.int c), some (.ref a), some (.int r), some (.int l), some (.int m)], ?_, ?_⟩
 . obtain ⟨m, hm, ix⟩ := at3 60 (c / 1728 % 61) (c / 1728 % 6) (c / 105408)
   refine ⟨_, rfl, _, _, rfl, rfl, dv (n := 1728) (by decide) (by decide +kernel), _, _, rfl, rfl, (by decide : (0 : Int) < 61), _, rfl, _, _, rfl, rfl, dv (n := 1728) (by decide) (by decide +kernel), _, _, rfl, rfl, (by decide : (0 : Int) < 6), z3, fun p np => ⟨_, rfl, _, _, rfl, rfl, dv (n := 105408) (by decide) (by decide +kernel), _, _, rfl, rfl, (by decide : (0 : Int) < 3), p, _, _, _, rfl, rfl, SqL.of A7, ix, m, s3.trans (C8.upd np), ?_, ?_, rfl⟩⟩
   . rcases hm with rfl | rfl | rfl <;> omega
   . rcases hm with rfl | rfl | rfl <;> omega
 rintro σ' H4 ⟨m, s4, m1, m2, rfl⟩
 obtain ⟨y, ix⟩ := at8 (c / 72)
 refine ⟨_, rfl, _, rfl, _, rfl, _, _, rfl, rfl, dv (n := 72) (by decide) (by decide +kernel), _, _, rfl, rfl, (by decide : (0 : Int) < 8), a, _, _, _, rfl, rfl, SqL.of (s4 _ _ ea), ix, _, rfl, _, rfl, z4, fun q nq => ?_⟩
 exact k r y l m q _ ⟨r1, r2, l1, l2, m1, m2⟩ (s1.trans (s4.trans (C8.upd nq))) A7
def Y4d (CC : Addr) : Sp := fun vs H Q _ => ∃ q r y l m, vs = [.ref q] /\ H q = some (.tup (frV r y l m)) /\ C7s r l m /\ ∀ c a b H', H c = none -> C8 H H' -> A0n CC H' c ⟨r, y, l, m⟩ a b [] [] -> Q (.ref c) H'
theorem A0sf : C5 Q37 Q37 (A2 C8p) := scK
theorem A0hq {f fI CC CB : Addr} {fd fdI : FuncData} (D : Def K mg "_law_context" Q37 C8p f fd) (MC : A0qz P w K mg base CC CB fI fdI) (B4 : L2.Binds K fdI Q45 []) (C : D5f K mg CC) : A8 P w K mg base (CX1 P w) 5 f fd Q37 (Y4d CC) := by
 refine D.F.okE A0sf (fun vs H Q E h => ?_) (fun X cdv A outer s H vs Q E hX hr hx h => ?_)
 . obtain ⟨q, r, y, l, m, rfl, _⟩ := h
   rfl
 subst hX
 obtain ⟨q, r, y, l, m, rfl, eq, fr, k⟩ := h
 refine ⟨_, (A6 (B0 (A6v MC.m MC.g hr C.g B4 .nil hx (A0 (D9 G3 (pv 0) A1 (fun _ _ => rfl)) (A0 (D9 G3 (pv 0) A1 (fun _ _ => rfl)) (A0 (D9 G3 (pv 0) A1 (fun _ _ => rfl)) (A0 (D9 G3 (pv 0) A1 (fun _ _ => rfl)) A5))))))), ?_⟩
 refine ⟨_, rfl, q, _, _, _, rfl, rfl, SqT.of eq, B8 (j := 0) rfl, _, rfl, q, _, _, _, rfl, rfl, SqT.of eq, B8 (j := 1) rfl, _, rfl, q, _, _, _, rfl, rfl, SqT.of eq, B8 (j := 2) rfl, _, rfl, q, _, _, _, rfl, rfl, SqT.of eq, B8 (j := 3) rfl, fun x dx n1 n2 ne => ?_⟩
 exact A0yd n1 n2 ne rfl fr.r1 fr.r2 rfl (.inr ⟨rfl, fr.l1, fr.l2⟩) rfl fr.m1 fr.m2 fun a b H4 s4 hc => ⟨rfl, k x a b H4 n1 s4 hc⟩
def Nm.pv (x : Nm) : List V := [.int x.s, .int x.f, .int x.p]
def J4k : Sp := fun vs H Q _ => ∃ c m : Int, vs = [.int c, .int m] /\ 1 <= m /\ m <= 60 /\ ∀ (x : Nm) q H', x.k = .plain -> x.Ok -> x.f < A4 m -> C8 H H' -> H' q = some (.tup x.pv) -> Q (.ref q) H'
theorem scLPlain : C5 ["_law_cell", "_law_most", "_law_more", "_law_power_here"] Q19 (A2 A7s) := scK
theorem V7n {f f1 f2 : Addr} {fd fd1 fd2 : FuncData} (D : Def K mg "_law_plain" Q19 A7s f fd) (D_l_mixed : Def K mg "_law_mixed" Q18 A7q f1 fd1) (G_l_mixed : A8 P w K mg base (CX1 P w) 1 f1 fd1 Q18 C7r)
   (D_l_figures : Def K mg "_law_figures" Q19 C8g f2 fd2) (G_l_figures : A8 P w K mg base (CX1 P w) 2 f2 fd2 Q19 Y7r) : A8 P w K mg base (CX1 P w) 3 f fd Q19 J4k := by
 refine D.F.okE scLPlain (fun vs H Q E h => ?_) (fun X cdv A outer s H vs Q E hX hr hx h => ?_)
 . obtain ⟨c, m, rfl, _⟩ := h
   rfl
 subst hX
 obtain ⟨c, mo, rfl, o1, o2, k⟩ := h
 refine ⟨_, (A3 (B5 (D3 (i := 2) scLPlain.nd rfl (Or.inl rfl) (C9 D_l_mixed G_l_mixed hr hx (A0 (pv 0) (A0 A1 A5))))) (A3 (B5 (D3 (i := 3) scLPlain.nd rfl (Or.inl rfl) (D9 U5 (U4 (A0 (A9 J8 (A9 J0 (A9 D8 (pv 2) A1) A1) A1) (A0 (A9 J8 (A9 J0 (A9 D8 (pv 2) A1) A1) A1) (A0 (A9 J8 (A9 J0 (A9 D8 (pv 2) A1) A1) A1) (A0 (A9 J8 (A9 J0 (A9 D8 (pv 2) A1) A1) A1) A5))))) (A9 D8 (A9 J0 (A9 D8 (pv 2) A1) A1) A1) (fun _ _ => rfl)))) (A6 (B0 (U6 (A0 (A9 J0 (pv 2) A1) (A0 (C9 D_l_figures G_l_figures hr hx (A0 (pv 0) (A0 (pv 1) A5))) (A0 (pv 3) A5)))))))), ?_⟩
 have z4 : 4 <= sizeLine := D7 (by decide)
 have z3 : 3 <= sizeLine := D7 (by decide)
 have d2 := dv (n := 2) (by decide) (by decide +kernel)
 refine ⟨fun σ' H' => ∃ m : Int, H' = H /\ 0 <= m /\ σ' = [some (.int c), some (.int mo), some (.int m), none], ⟨_, rfl, c, 9, rfl, by decide, by decide, fun m m0 _ => ⟨m, rfl, m0, rfl⟩⟩, ?_⟩
 rintro σ' H1 ⟨m, rfl, m0, rfl⟩
 refine ⟨fun σ' H' => ∃ p : Int, C8 H1 H' /\ -200 <= p /\ p <= 200 /\ σ' = [some (.int c), some (.int mo), some (.int m), some (.int p)], ?_, ?_⟩
 . obtain ⟨p, hp, ix⟩ := at4 (m / 2 % 13 - 6) (m / 2 % 61 - 30) (m / 2 % 401 - 200) (m / 2 % 3 - 1) (m / 802)
   refine ⟨_, rfl, _, _, rfl, rfl, d2, _, _, rfl, rfl, (by decide : (0 : Int) < 13), _, _, rfl, rfl, _, rfl, _, _, rfl, rfl, d2, _, _, rfl, rfl, (by decide : (0 : Int) < 61), _, _, rfl, rfl, _, rfl, _, _, rfl, rfl, d2, _, _, rfl, rfl, (by decide : (0 : Int) < 401), _, _, rfl, rfl, _, rfl, _, _, rfl, rfl, d2, _, _, rfl, rfl, (by decide : (0 : Int) < 3), _, _, rfl, rfl, z4, fun q nq => ⟨_, rfl, _, _, rfl, rfl, dv (n := 802) (by decide) (by decide +kernel), _, _, rfl, rfl, (by decide : (0 : Int) < 8), _, _, rfl, rfl, d2, q, _, _, _, rfl, rfl, SqL.of A7, ix, p, C8.upd nq, ?_, ?_, rfl⟩⟩
   . rcases hp with rfl | rfl | rfl | rfl <;> omega
   . rcases hp with rfl | rfl | rfl | rfl <;> omega
 rintro σ' H2 ⟨p, s2, p0, p1, rfl⟩
 have a0 := Int.emod_nonneg m (by decide : (2 : Int) ≠ 0)
 have a1 := Int.emod_lt_of_pos m (by decide : (0 : Int) < 2)
 have t60 : A4 mo <= A4 60 := V7 o2
 have e60 : A4 60 = 10 ^ 60 := by decide +kernel
 refine ⟨_, rfl, _, _, rfl, rfl, (by decide : (0 : Int) < 2), _, rfl, _, rfl, c, mo, rfl, o1, o2, fun f H' f0 f1 s' => ⟨_, rfl, z3, fun q nq => ?_⟩⟩
 exact k ⟨.plain, m % 2, f, p⟩ q _ rfl ⟨a0, by show m % 2 <= 1; omega, f0, by show f <= 10 ^ 60 - 1; omega, p0, p1⟩ f1 (s2.trans (s'.trans (C8.upd nq))) A7
abbrev A2k : Stmt := (top 84)
abbrev A7t : Stmt := (top 85)
abbrev J4c : Stmt := (top 86)
abbrev B7n : Stmt := (top 87)
abbrev B8a : Stmt := (top 88)
abbrev A7y : Stmt := (top 89)
abbrev A0b : Stmt := (top 91)
def Wy.code : Wy -> Nat
 | .down => 0
 | .up => 1
 | .floor => 2
 | .ceiling => 3
 | .halfUp => 4
 | .halfDown => 5
 | .halfEven => 6
 | .fiveUp => 7
theorem nW {y z : Wy} (h : y.code ≠ z.code) : ¬ V.str y.name = V.str z.name := fun q => h (by rw [Wy.inj (V.str.inj q)])
theorem A0sd {a b : Int} (h : 0 < a) (h2 : b < 2 * a) : Z4 a b = 3 := by
 unfold Z4
 rw [decide_eq_true h, decide_eq_true (show b <= 2 * a by omega), decide_eq_true h2]
 rfl
theorem A0rk {a b : Int} (h : 0 < a) (h2 : 2 * a = b) : Z4 a b = 2 := by
 unfold Z4
 rw [decide_eq_true h, decide_eq_true (show b <= 2 * a by omega), decide_eq_false (show ¬ b < 2 * a by omega)]
 rfl
theorem A0rg {a b : Int} (h : 0 < a) (h2 : 2 * a < b) : Z4 a b = 1 := by
 unfold Z4
 rw [decide_eq_true h, decide_eq_false (show ¬ b <= 2 * a by omega), decide_eq_false (show ¬ b < 2 * a by omega)]
 rfl
theorem A0rh {a b : Int} (h : a = 0) (hb : 0 < b) : Z4 a b = 0 := by
 subst h
 unfold Z4
 rw [decide_eq_false (show ¬ (0 : Int) < 0 by omega), decide_eq_false (show ¬ b <= 2 * 0 by omega), decide_eq_false (show ¬ b < 2 * 0 by omega)]
 rfl
def B6v (H : Hp) (q : Addr) (x : Nm) (zs : List Str) : Prop := ∃ t l, H q = some (.tup [.ref t, .ref l]) /\ H t = some (.tup x.vs) /\ H l = some (.lst (zs.map V.str))
inductive Lv where
 | rat (t b n : Int)
 | roo (t n : Int)
def A0r (t b : Int) : Int := if t * A4 (-(V4 t - V4 b)) < b * A4 (V4 t - V4 b) then V4 t - V4 b - 1 else V4 t - V4 b
def A6s (t n : Int) : Int := (V4 t - 1 + n) / 2
def Lv.vs : Lv -> List V
 | .rat t b n => [.int t, .int b, .int n, .bl false]
 | .roo t n => [.int t, .int 1, .int n, .bl true]
def Lv.L : Lv -> Int
 | .rat t b n => n + A0r t b
 | .roo t n => A6s t n
noncomputable def Lv.wh : Lv -> Int -> Int
 | .rat t b n, p => whI t b (n - p)
 | .roo t n, p => whQ t (n - 2 * p)
noncomputable def Lv.pt : Lv -> Int -> Int
 | .rat t b n, p => ptI t b (n - p)
 | .roo t n, p => C7d t (n - 2 * p) (whQ t (n - 2 * p))
def Lv.Ok : Lv -> Prop
 | .rat t b _ => Sz t /\ Sz b
 | .roo t n => SzQ t /\ -200 <= n /\ n <= 200
def Lv.In : Lv -> Int -> Prop
 | .rat _ _ n, p => -1500 <= n - p /\ n - p <= 1500
 | .roo _ n, p => -200 <= n - 2 * p /\ n - 2 * p <= 200
theorem V6k {f : Int} (h0 : 0 <= f) (h : f <= 9) : V4 f = 1 := by
 rcases (by omega : f = 0 \/ f = 1 \/ f = 2 \/ f = 3 \/ f = 4 \/ f = 5 \/ f = 6 \/ f = 7 \/ f = 8 \/ f = 9) with rfl | rfl | rfl | rfl | rfl | rfl | rfl | rfl | rfl | rfl <;> decide +kernel
theorem A0hd {f : Int} (h : 9 < f) : V4 f = V4 (f / 10) + 1 := by
 obtain ⟨n, rfl⟩ : ∃ n : Nat, f = (n : Int) := ⟨f.toNat, by omega⟩
 obtain ⟨j, a, b⟩ := B5w n (by omega)
 rcases j with _ | j
 . exfalso
   have : n < 10 := by simpa using b
   omega
 rw [A7z b a, show (n : Int) / 10 = ((n / 10 : Nat) : Int) by omega]
 rw [Nat.pow_succ] at a b
 rw [A7z (n := n / 10) (j := j) (by omega) (by omega)]
 omega
theorem B7v {t : Int} (h : Sz t) : A4 (V4 t - 1) <= t /\ t < A4 (V4 t) /\ 1 <= V4 t := by
 obtain ⟨n, rfl, h1, _⟩ := h.nat
 obtain ⟨j, a, b⟩ := B5w n h1
 rw [A7z b a]
 have e1 : A4 ((j : Int) + 1 - 1) = ((10 ^ j : Nat) : Int) := by unfold A4; rw [show ((j : Int) + 1 - 1).toNat = j by omega]
 have e2 : A4 ((j : Int) + 1) = ((10 ^ (j + 1) : Nat) : Int) := by unfold A4; rw [show ((j : Int) + 1).toNat = j + 1 by omega]
 rw [e1, e2]
 exact ⟨Int.ofNat_le.mpr a, Int.ofNat_lt.mpr b, by omega⟩
theorem V3u {t b s s0 : Int} (hb : 0 < b) (ht : 0 < t) (h : A0x t b s0) (e : s0 <= s) : b * A4 (-s) <= t * A4 s := by
 have c := Z8 e
 have p0 := D4 (-s0)
 have p1 := D4 (s - s0)
 have q : t * A4 s * A4 (-s0) = t * A4 s0 * A4 (-s) * A4 (s - s0) := by
   calc t * A4 s * A4 (-s0) = t * (A4 s * A4 (-s0)) := by ac_rfl
     _ = t * (A4 s0 * A4 (-s) * A4 (s - s0)) := by rw [c]
     _ = t * A4 s0 * A4 (-s) * A4 (s - s0) := by ac_rfl
 have a1 : b * A4 (-s0) * A4 (-s) <= t * A4 s0 * A4 (-s) := Int.mul_le_mul_of_nonneg_right h.1 (Int.le_of_lt (D4 _))
 have a2 : t * A4 s0 * A4 (-s) * 1 <= t * A4 s0 * A4 (-s) * A4 (s - s0) := Int.mul_le_mul_of_nonneg_left (by omega) (Int.le_of_lt (Int.mul_pos (Int.mul_pos ht (D4 _)) (D4 _)))
 have e2 : b * A4 (-s) * A4 (-s0) = b * A4 (-s0) * A4 (-s) := by ac_rfl
 exact Int.le_of_mul_le_mul_right (by rw [e2, q]; omega) p0
theorem A0fy {t b s s0 : Int} (ht : 0 < t) (h : A0x t b s0) (e : s < s0) : t * A4 s < b * A4 (-s) := by
 have c := Z8 (Int.le_of_lt e)
 have g := V4g (d := s0 - s) (by omega)
 have p0 := D4 (-s0)
 have q : t * A4 s0 * A4 (-s) = t * A4 s * A4 (-s0) * A4 (s0 - s) := by
   calc t * A4 s0 * A4 (-s) = t * (A4 s0 * A4 (-s)) := by ac_rfl
     _ = t * (A4 s * A4 (-s0) * A4 (s0 - s)) := by rw [c]
     _ = t * A4 s * A4 (-s0) * A4 (s0 - s) := by ac_rfl
 have a1 : t * A4 s0 * A4 (-s) < 10 * (b * A4 (-s0)) * A4 (-s) := Int.mul_lt_mul_of_pos_right h.2 (D4 _)
 have a2 : t * A4 s * A4 (-s0) * 10 <= t * A4 s * A4 (-s0) * A4 (s0 - s) := Int.mul_le_mul_of_nonneg_left g (Int.le_of_lt (Int.mul_pos (Int.mul_pos ht (D4 _)) p0))
 have e2 : 10 * (b * A4 (-s0)) * A4 (-s) = b * A4 (-s) * A4 (-s0) * 10 := by ac_rfl
 have a3 : t * A4 s * A4 (-s0) * 10 < b * A4 (-s) * A4 (-s0) * 10 := by rw [<- e2]; rw [q] at a1; omega
 exact Int.lt_of_mul_lt_mul_right (Int.lt_of_mul_lt_mul_right a3 (by decide)) (Int.le_of_lt p0)
theorem A0qx {t b s s0 : Int} (hb : 0 < b) (ht : 0 < t) (h : A0x t b s0) : whI t b s = 0 ↔ s < s0 := by
 have lp : 0 < b * A4 (-s) := Int.mul_pos hb (D4 _)
 have tp : 0 <= t * A4 s := Int.le_of_lt (Int.mul_pos ht (D4 _))
 unfold whI
 constructor
 . intro z
   apply Classical.byContradiction
   intro hh
   have a := V3u hb ht h (show s0 <= s by omega)
   have b1 : 1 <= t * A4 s / (b * A4 (-s)) := (Int.le_ediv_iff_mul_le lp).mpr (by rw [Int.one_mul]; exact a)
   omega
 intro e
 exact Int.ediv_eq_zero_of_lt tp (A0fy ht h e)
theorem Y5h {t b s0 : Int} (ht : Sz t) (hb : Sz b) (h : A0x t b s0) : V4 b - V4 t - 1 <= s0 := by
 obtain ⟨a1, a2, a3⟩ := B7v ht
 obtain ⟨b1, b2, b3⟩ := B7v hb
 apply Classical.byContradiction
 intro z
 have g := V3u (s := V4 b - V4 t - 1) (by have := hb.1; omega) (by have := ht.1; omega) h (by omega)
 generalize V4 t = T at *
 generalize V4 b = B at *
 have e : A4 T * A4 (B - T - 1) = A4 (B - 1) * A4 (-(B - T - 1)) := by
   unfold A4
   rw [<- Int.natCast_mul, <- Int.natCast_mul, <- Nat.pow_add, <- Nat.pow_add]
   congr 2
   omega
 have c1 : t * A4 (B - T - 1) < A4 T * A4 (B - T - 1) := Int.mul_lt_mul_of_pos_right a2 (D4 _)
 have c2 : A4 (B - 1) * A4 (-(B - T - 1)) <= b * A4 (-(B - T - 1)) := Int.mul_le_mul_of_nonneg_right b1 (Int.le_of_lt (D4 _))
 omega
theorem A0sw (r : Int) (y : Wy) (l m L : Int) : (if l > L then l else L) - r + 1 = Cv.fin ⟨r, y, l, m⟩ L := by
 unfold Cv.fin A0v
 dsimp only
 split <;> split <;> omega
theorem part_of {a b : Int} (hb : 0 < b) (h : 0 < a) : 2 + (if decide (2 * a - b > 0) = true then (1 : Int) else 0) - (if decide (2 * a - b < 0) = true then (1 : Int) else 0) = Z4 a b := by
 rcases (by omega : 2 * a < b \/ 2 * a = b \/ b < 2 * a) with h2 | h2 | h2
 . rw [A0rg h h2, decide_eq_false (by omega), decide_eq_true (by omega)]; rfl
 . rw [A0rk h h2, decide_eq_false (by omega), decide_eq_false (by omega)]; rfl
 rw [A0sd h h2, decide_eq_true (by omega), decide_eq_false (by omega)]; rfl
theorem B1y (e : Int) : A4 (if e > 0 then e else 0) = A4 e := by
 unfold A4
 split
 . rfl
 rw [show e.toNat = 0 by omega]; rfl
def B1t : Sp := fun vs H Q _ => ∃ n : Int, vs = [.int n] /\ 0 <= n /\ Q (.int (V4 n)) H
theorem scLCount : C5 ["_law_figures_here", "_law_many"] Q16 (A2 A2k) := scK
theorem V5v {f : Addr} {fd : FuncData} (D : Def K mg "_law_count" Q16 A2k f fd) : A8 P w K mg base (CX1 P w) 1 f fd Q16 B1t := by
 refine D.F.okE scLCount (fun vs H Q E h => ?_) (fun X cdv A outer s H vs Q E hX hr hx h => ?_)
 . obtain ⟨n, rfl, _⟩ := h
   rfl
 subst hX
 obtain ⟨n, rfl, n0, k⟩ := h
 refine ⟨_, (A3 (B5 (D3 (i := 1) scLCount.nd rfl (Or.inl rfl) A1)) (A3 (B5 (A2q PassesOwn.leaving (C7 A6u (pv 0) A1 (C6 _)) (A3 (B5 (D3 (i := 0) scLCount.nd rfl (Or.inl rfl) (A9 D8 (pv 0) A1))) (A6 (B5 (D3 (i := 1) scLCount.nd rfl (Or.inl rfl) (A9 J4 (pv 1) A1))))))) (A6 (B0 (pv 1))))), ?_⟩
 refine ⟨fun σ' H' => H' = H /\ σ' = [some (.int n), some (.int 1)], ⟨rfl, rfl⟩, ?_⟩
 rintro σ' H1 ⟨rfl, rfl⟩
 refine ⟨fun σ' H' => H' = H1 /\ ∃ f : Int, σ' = [some (.int f), some (.int (V4 n))], ?_, ?_⟩
 . refine A0z (fun σ H3 => H3 = H1 /\ ∃ f m : Int, 0 <= f /\ V4 f + m - 1 = V4 n /\ σ = [some (.int f), some (.int m)]) (fun σ _ => match σ with | [some (.int f), _] => f.toNat | _ => 0) ⟨rfl, n, 1, n0, by omega, rfl⟩ ?_ ?_
   . rintro σ H3 ⟨rfl, f, m, f0, e, rfl⟩
     refine ⟨_, rfl, _, _, rfl, rfl, _, rfl, J1 (fun h => ?_) (fun h => ?_)⟩
     . have h : f > 9 := h
       refine ⟨fun σ' H' => H' = H3 /\ σ' = [some (.int (f / 10)), some (.int m)], ⟨_, rfl, _, _, rfl, rfl, dv (n := 10) (by decide) (by decide +kernel), rfl, rfl⟩, ?_⟩
       rintro σ' H4 ⟨rfl, rfl⟩
       refine ⟨_, ?_, fun _ _ h => h⟩
       have := A0hd (f := f) h
       refine ⟨_, rfl, _, _, rfl, rfl, ⟨rfl, f / 10, m + 1, by omega, by omega, rfl⟩, ?_⟩
       show (f / 10).toNat < f.toNat
       omega
     . have h : ¬ f > 9 := h
       have := V6k f0 (by omega)
       refine ⟨rfl, f, ?_⟩
       rw [show V4 n = m by omega]
   . rintro σ H3 Q1 Q2 hQ ⟨v1, e1, a1, a2, f1, f2, bb, eb, q⟩
     exact ⟨v1, e1, a1, a2, f1, f2, bb, eb, hQ _ _ q⟩
 rintro σ' H2 ⟨rfl, f, rfl⟩
 exact ⟨_, rfl, k⟩
def J4e : Sp := fun vs H Q _ => ∃ n : Nat, vs = [.int (n : Int)] /\ n < 2 ^ 1000 /\ ∀ r : Nat, r * r <= n -> n < (r + 1) * (r + 1) -> Q (.int (r : Int)) H
theorem scLIsqrt : C5 ["_law_number", "_law_found"] ["_law_number"] (A2 A7t) := scK
theorem V5u {f : Addr} {fd : FuncData} (D : Def K mg "_law_isqrt" ["_law_number"] A7t f fd) : A8 P w K mg base (CX1 P w) 1 f fd ["_law_number"] J4e := by
 refine D.F.okE scLIsqrt (fun vs H Q E h => ?_) (fun X cdv A outer s H vs Q E hX hr hx h => ?_)
 . obtain ⟨n, rfl, _⟩ := h
   rfl
 subst hX
 obtain ⟨n, rfl, n2, k⟩ := h
 refine ⟨_, (A3 (B5 (G4 (C7 B6t (pv 0) A1 (C6 _)) (A6 (B0 (pv 0))) D0)) (A3 (B5 (D3 (i := 1) scLIsqrt.nd rfl (Or.inl rfl) (A9 A0tn A1 (A9 D8 (A9 J4 (Y7p PySem.F.plainAttrs_int PySem.F.slot_int_bit_length PySem.F.type_int_bit_length B6u (pv 0)) A1) A1)))) (A3 (B5 (A2q PassesOwn.leaving (C7 A6u (A9 G5 (pv 1) (pv 1)) (pv 0) (C6 _)) (A6 (B5 (D3 (i := 1) scLIsqrt.nd rfl (Or.inl rfl) (A9 D8 (A9 J4 (pv 1) (A9 D8 (pv 0) (pv 1))) A1)))))) (A6 (B0 (pv 1)))))), ?_⟩
 have d2 : (0 : Int) < 2 /\ (2 : Int).natAbs.log2 < 9000 := ⟨by decide, by decide +kernel⟩
 refine ⟨fun σ' H' => H' = H /\ 2 <= n /\ σ' = [some (.int (n : Int)), none], ?_, ?_⟩
 . refine ⟨_, rfl, _, _, rfl, rfl, _, rfl, J1 (fun h => ?_) (fun h => ⟨rfl, by have : ¬ (n : Int) < 2 := h; omega, rfl⟩)⟩
   have h : (n : Int) < 2 := h
   exact ⟨_, rfl, k n (by rcases (by omega : n = 0 \/ n = 1) with rfl | rfl <;> decide) (by rcases (by omega : n = 0 \/ n = 1) with rfl | rfl <;> decide)⟩
 rintro σ' H1 ⟨rfl, n1, rfl⟩
 have lgb : n.log2 < 1000 := (Nat.log2_lt (by omega)).mpr n2
 refine ⟨fun σ' H' => H' = H1 /\ ∃ g : Nat, 1 <= g /\ g < 2 ^ 502 /\ n < (g + 1) * (g + 1) /\ σ' = [some (.int (n : Int)), some (.int (g : Int))], ?_, ?_⟩
 . have e : (Builtin.Int.intBits (n : Int) : Nat) = n.log2 + 1 := by
     unfold Builtin.Int.intBits
     rw [if_neg (by simp; omega)]
     rfl
   refine ⟨_, rfl, rfl, _, rfl, rfl, _, _, rfl, rfl, _, _, rfl, rfl, d2, _, _, rfl, rfl, ⟨?_, ?_, by decide⟩, rfl, 2 ^ ((n.log2 + 2) / 2), Nat.pow_pos (by decide), Nat.pow_lt_pow_right (by decide) (by omega), ?_, ?_⟩
   . rw [e]; omega
   . rw [e]; omega
   . have a : n < 2 ^ (n.log2 + 1) := Nat.lt_log2_self
     have b : 2 ^ (n.log2 + 1) <= 2 ^ ((n.log2 + 2) / 2) * 2 ^ ((n.log2 + 2) / 2) := by
       rw [<- Nat.pow_add]
       exact Nat.pow_le_pow_right (by decide) (by omega)
     have c : 2 ^ ((n.log2 + 2) / 2) * 2 ^ ((n.log2 + 2) / 2) <= (2 ^ ((n.log2 + 2) / 2) + 1) * (2 ^ ((n.log2 + 2) / 2) + 1) := Nat.mul_le_mul (Nat.le_succ _) (Nat.le_succ _)
     omega
   . show [some (V.int (n : Int)), some (V.int (1 * 2 ^ ((((Builtin.Int.intBits (n : Int) : Nat) : Int) + 1) / 2).toNat))] = _
     rw [e, show (((n.log2 + 1 : Nat) : Int) + 1) / 2 = (((n.log2 + 2) / 2 : Nat) : Int) by omega, Int.toNat_natCast, Int.one_mul, Int.natCast_pow]
     rfl
 rintro σ' H2 ⟨rfl, g, g1, g2, g3, rfl⟩
 refine ⟨fun σ' H' => H' = H2 /\ ∃ g : Nat, g * g <= n /\ n < (g + 1) * (g + 1) /\ σ' = [some (.int (n : Int)), some (.int (g : Int))], ?_, ?_⟩
 . refine A0z (fun σ H3 => H3 = H2 /\ ∃ g : Nat, 1 <= g /\ g < 2 ^ 502 /\ n < (g + 1) * (g + 1) /\ σ = [some (.int (n : Int)), some (.int (g : Int))]) (fun σ _ => match σ with | [_, some (.int g)] => g.toNat | _ => 0) ⟨rfl, g, g1, g2, g3, rfl⟩ ?_ ?_
   . rintro σ H3 ⟨rfl, g, g1, g2, g3, rfl⟩
     have gb : Builtin.Int.intBits (g : Int) <= 2 ^ 20 := B9y (k := 502) g2 (by decide)
     refine ⟨_, rfl, _, rfl, _, _, rfl, rfl, IntMulOk.of_bits gb gb, _, rfl, _, _, rfl, rfl, _, rfl, J1 (fun h => ?_) (fun h => ?_)⟩
     . have h : (g : Int) * (g : Int) > (n : Int) := h
       have h : n < g * g := by rw [<- Int.natCast_mul] at h; omega
       refine ⟨_, ?_, fun _ _ h => h⟩
       have lg : 0 < (g : Int) /\ (g : Int).natAbs.log2 < 9000 := ⟨by omega, Nat.lt_trans (A0s (k := 502) (by rw [Int.natAbs_natCast]; exact g2) (by decide)) (by decide)⟩
       have q : n / g < g := Nat.div_lt_of_lt_mul h
       have ne := Y5d (n := n) g1
       have g1' : 1 <= (g + n / g) / 2 := by
         apply Classical.byContradiction
         intro z
         revert ne z
         generalize n / g = d
         intro ne z
         rw [show (g + d) / 2 = 0 by omega] at ne
         omega
       have g2' : (g + n / g) / 2 < g := by
         revert q
         generalize n / g = d
         intro q
         omega
       refine ⟨_, rfl, _, rfl, _, rfl, _, _, rfl, rfl, lg, _, _, rfl, rfl, _, _, rfl, rfl, d2, ⟨rfl, (g + n / g) / 2, g1', Nat.lt_trans g2' g2, ne, ?_⟩, ?_⟩
       . show [some (V.int (n : Int)), some (V.int (((g : Int) + (n : Int) / (g : Int)) / 2))] = _
         rw [show ((g : Int) + (n : Int) / (g : Int)) / 2 = (((g + n / g) / 2 : Nat) : Int) by rw [Int.natCast_ediv, Int.natCast_add, Int.natCast_ediv]; rfl]
       . show (((g : Int) + (n : Int) / (g : Int)) / 2).toNat < ((g : Int)).toNat
         rw [show ((g : Int) + (n : Int) / (g : Int)) / 2 = (((g + n / g) / 2 : Nat) : Int) by rw [Int.natCast_ediv, Int.natCast_add, Int.natCast_ediv]; rfl, Int.toNat_natCast, Int.toNat_natCast]
         exact g2'
     . have h : ¬ (g : Int) * (g : Int) > (n : Int) := h
       exact ⟨rfl, g, by rw [<- Int.natCast_mul] at h; omega, g3, rfl⟩
   . rintro σ H3 Q1 Q2 hQ ⟨v1, e1, v2, e2, a1, a2, f1, f2, m1, v3, e3, a3, a4, f3, f4, bb, eb, q⟩
     exact ⟨v1, e1, v2, e2, a1, a2, f1, f2, m1, v3, e3, a3, a4, f3, f4, bb, eb, hQ _ _ q⟩
 rintro σ' H3 ⟨rfl, g, h1, h2, rfl⟩
 exact ⟨_, rfl, k g h1 h2⟩
def V3x : Sp := fun vs H Q _ => ∃ (y : Wy) (s l pt : Int), vs = [.str y.name, .int s, .int l, .int pt] /\ 0 <= s /\ s <= 1 /\ 0 <= l /\ l <= 9 /\ 1 <= pt /\ pt <= 3 /\ ∀ H', C8 H H' -> Q (.bl (y.goes s l pt)) H'
theorem A0gt : C5 Q38 Q38 (A2 B8a) := scK
theorem Y7g {f : Addr} {fd : FuncData} (D : Def K mg "_law_goes_up" Q38 B8a f fd) : A8 P w K mg base (CX1 P w) 1 f fd Q38 V3x := by
 refine A8.up (D.F.ok A0gt (fun vs H Q E h => ?_) (fun cdv A outer s H vs Q E hr h => ?_))
 . obtain ⟨y, z, l, pt, rfl, _⟩ := h
   rfl
 obtain ⟨y, z, l, pt, rfl, s0, s1, l0, l9, p1, p3, k⟩ := h
 refine ⟨_, (A3 (G4 (PW.pt (D9j (C7 G2 (pv 0) D5 (C6 _)) (C1h (C7 G2 (pv 0) D5 (C6 _))))) (A6 (B0 (G9 G2 (pv 0) D5 (C6 _)))) D0) (A3 (G4 (PW.pt (D9j (C7 G2 (pv 0) D5 (C6 _)) (C1h (C7 G2 (pv 0) D5 (C6 _))))) (A6 (B0 (G9 G2 (G9 G2 (pv 1) A1 (C6 _)) (G9 G2 (pv 0) D5 (C6 _)) (C6 _)))) D0) (A3 (G4 (C7 G2 (pv 0) D5 (C6 _)) (A6 (B0 (G9 A4c (pv 2) (U6 (A0 A1 (A0 A1 A5))) (by rfl)))) D0) (A3 (G4 (C7 C9f (pv 3) A1 (C6 _)) (A6 (B0 (G9 G2 (pv 3) A1 (C6 _)))) D0) (A6 (B0 (V2x (G9 G2 (pv 0) D5 (C6 _)) (A6d (B1x (G9 G2 (pv 0) D5 (C6 _)) (A6d (G9 G2 (A9 J0 (pv 2) A1) A1 (C6 _)))))))))))), ?_⟩
 have z2 : 2 <= sizeLine := D7 (by decide)
 have k1 := k H (C8.refl _)
 have kB : ∀ b : Bool, Q (.bl b) H -> ∀ b' : Bool, b' = b -> Q (.bl b') H := fun b h b' e => by rw [e]; exact h
 cases y with
 | down => exact ⟨_, rfl, rfl, _, rfl, A0p rfl (Z5 ⟨_, rfl, rfl, kB false k1 _ (decide_eq_false (nW (y := .down) (z := .up) (by decide)))⟩)⟩
 | up => exact ⟨_, rfl, rfl, _, rfl, J9 (nW (y := .up) (z := .down) (by decide)) ⟨_, rfl, rfl, _, rfl, A0p rfl ⟨_, rfl, rfl, kB true k1 _ (decide_eq_true rfl)⟩⟩⟩
 | floor =>
   refine ⟨_, rfl, rfl, _, rfl, J9 (nW (y := .floor) (z := .down) (by decide)) ⟨_, rfl, rfl, _, rfl, J9 (nW (y := .floor) (z := .up) (by decide)) ⟨_, rfl, rfl, _, rfl, A0p rfl (Z5 ⟨_, rfl, rfl, _, rfl, rfl, rfl, ?_⟩)⟩⟩⟩
   rcases (by omega : z = 0 \/ z = 1) with rfl | rfl <;> exact k1
 | ceiling =>
   refine ⟨_, rfl, rfl, _, rfl, J9 (nW (y := .ceiling) (z := .down) (by decide)) ⟨_, rfl, rfl, _, rfl, J9 (nW (y := .ceiling) (z := .up) (by decide)) ⟨_, rfl, rfl, _, rfl, J9 (nW (y := .ceiling) (z := .floor) (by decide)) ⟨_, rfl, rfl, _, rfl, A0p rfl ⟨_, rfl, rfl, _, rfl, rfl, rfl, ?_⟩⟩⟩⟩⟩
   rcases (by omega : z = 0 \/ z = 1) with rfl | rfl <;> exact k1
 | fiveUp =>
   refine ⟨_, rfl, rfl, _, rfl, J9 (nW (y := .fiveUp) (z := .down) (by decide)) ⟨_, rfl, rfl, _, rfl, J9 (nW (y := .fiveUp) (z := .up) (by decide)) ⟨_, rfl, rfl, _, rfl, J9 (nW (y := .fiveUp) (z := .floor) (by decide)) ⟨_, rfl, rfl, _, rfl, J9 (nW (y := .fiveUp) (z := .ceiling) (by decide)) ⟨_, rfl, rfl, _, rfl, A0p rfl ⟨_, rfl, z2, fun p np => ⟨p, _, rfl, .inr (SqT.of A7), rfl, rfl, ?_⟩⟩⟩⟩⟩⟩⟩
   exact k _ (C8.upd np)
 | halfUp =>
   refine ⟨_, rfl, rfl, _, rfl, J9 (nW (y := .halfUp) (z := .down) (by decide)) ⟨_, rfl, rfl, _, rfl, J9 (nW (y := .halfUp) (z := .up) (by decide)) ⟨_, rfl, rfl, _, rfl, J9 (nW (y := .halfUp) (z := .floor) (by decide)) ⟨_, rfl, rfl, _, rfl, J9 (nW (y := .halfUp) (z := .ceiling) (by decide)) ⟨_, rfl, rfl, _, rfl, J9 (nW (y := .halfUp) (z := .fiveUp) (by decide)) ⟨_, rfl, rfl, _, rfl, ?_⟩⟩⟩⟩⟩⟩
   rcases (by omega : pt = 1 \/ pt = 2 \/ pt = 3) with rfl | rfl | rfl
   . exact C8x (by decide) ⟨_, rfl, rfl, k1⟩
   . exact C8j rfl ⟨_, rfl, rfl, _, rfl, A0p rfl k1⟩
   . exact C8x (by decide) ⟨_, rfl, rfl, k1⟩
 | halfDown =>
   refine ⟨_, rfl, rfl, _, rfl, J9 (nW (y := .halfDown) (z := .down) (by decide)) ⟨_, rfl, rfl, _, rfl, J9 (nW (y := .halfDown) (z := .up) (by decide)) ⟨_, rfl, rfl, _, rfl, J9 (nW (y := .halfDown) (z := .floor) (by decide)) ⟨_, rfl, rfl, _, rfl, J9 (nW (y := .halfDown) (z := .ceiling) (by decide)) ⟨_, rfl, rfl, _, rfl, J9 (nW (y := .halfDown) (z := .fiveUp) (by decide)) ⟨_, rfl, rfl, _, rfl, ?_⟩⟩⟩⟩⟩⟩
   rcases (by omega : pt = 1 \/ pt = 2 \/ pt = 3) with rfl | rfl | rfl
   . exact C8x (by decide) ⟨_, rfl, rfl, k1⟩
   . exact C8j rfl ⟨_, rfl, rfl, _, rfl, J9 (nW (y := .halfDown) (z := .halfUp) (by decide)) ⟨_, rfl, rfl, _, rfl, J9 (nW (y := .halfDown) (z := .halfEven) (by decide)) k1⟩⟩
   . exact C8x (by decide) ⟨_, rfl, rfl, k1⟩
 | halfEven =>
   refine ⟨_, rfl, rfl, _, rfl, J9 (nW (y := .halfEven) (z := .down) (by decide)) ⟨_, rfl, rfl, _, rfl, J9 (nW (y := .halfEven) (z := .up) (by decide)) ⟨_, rfl, rfl, _, rfl, J9 (nW (y := .halfEven) (z := .floor) (by decide)) ⟨_, rfl, rfl, _, rfl, J9 (nW (y := .halfEven) (z := .ceiling) (by decide)) ⟨_, rfl, rfl, _, rfl, J9 (nW (y := .halfEven) (z := .fiveUp) (by decide)) ⟨_, rfl, rfl, _, rfl, ?_⟩⟩⟩⟩⟩⟩
   rcases (by omega : pt = 1 \/ pt = 2 \/ pt = 3) with rfl | rfl | rfl
   . exact C8x (by decide) ⟨_, rfl, rfl, k1⟩
   . exact C8j rfl ⟨_, rfl, rfl, _, rfl, J9 (nW (y := .halfEven) (z := .halfUp) (by decide)) ⟨_, rfl, rfl, _, rfl, A0p rfl ⟨_, rfl, _, _, rfl, rfl, (by decide : (0 : Int) < 2), rfl, k1⟩⟩⟩
   . exact C8x (by decide) ⟨_, rfl, rfl, k1⟩
theorem A5m {t b : Int} (ht : Sz t) (hb : Sz b) (n : Int) : A0x t b (n - (n + A0r t b)) := by
 obtain ⟨tn', et, t1, _⟩ := ht.nat
 obtain ⟨bn, eb, b1, _⟩ := hb.nat
 obtain ⟨L, l1, l2⟩ := B5w tn' t1
 obtain ⟨M, m1, m2⟩ := B5w bn b1
 subst et eb
 rw [show n - (n + A0r (tn' : Int) (bn : Int)) = 0 - A0r (tn' : Int) (bn : Int) by omega]
 unfold A0r
 rw [A7z l2 l1, A7z m2 m1, show (L : Int) + 1 - ((M : Int) + 1) = (L : Int) - M by omega]
 split
 . rename_i h
   have := C8a l1 l2 m1 m2 (by rw [show (M : Int) - L = -((L : Int) - M) by omega, Int.neg_neg]; exact h)
   rw [show (0 : Int) - ((L : Int) - M - 1) = (M : Int) - L + 1 by omega]
   exact this
 rename_i h
 have := D9y l1 l2 m1 m2 (by rw [show (M : Int) - L = -((L : Int) - M) by omega, Int.neg_neg]; omega)
 rw [show (0 : Int) - ((L : Int) - M) = (M : Int) - L by omega]
 exact this
theorem C9w {t : Int} (ht : SzQ t) (n : Int) : A7c t (n - 2 * A6s t n) := by
 obtain ⟨m, rfl, h1, _⟩ := V3t ht
 obtain ⟨L, l1, l2⟩ := B5w m h1
 refine D8w l1 l2 ?_
 unfold A6s
 rw [A7z l2 l1]
 congr 1
 omega
theorem A0sm {t : Int} (h : SzQ t) : Sz t := ⟨h.1, Int.lt_trans h.2 (by decide +kernel)⟩
theorem A0zc {t s : Int} {r : Nat} (h1 : (r * r : Nat) <= (t * A4 s / A4 (-s)).toNat) (h2 : (t * A4 s / A4 (-s)).toNat < (r + 1) * (r + 1)) (ht : 0 < t) : A1y t s (r : Int) := by
 have bp := D4 (-s)
 have tp : 0 <= t * A4 s := Int.le_of_lt (Int.mul_pos ht (D4 _))
 have d0 : 0 <= t * A4 s / A4 (-s) := Int.ediv_nonneg tp (Int.le_of_lt bp)
 have a : ((r * r : Nat) : Int) <= t * A4 s / A4 (-s) := by omega
 have b : t * A4 s / A4 (-s) < (((r + 1) * (r + 1) : Nat) : Int) := by omega
 refine ⟨Int.natCast_nonneg _, ?_, ?_⟩
 . have := (Int.le_ediv_iff_mul_le bp).mp a
   rw [Int.natCast_mul] at this
   exact this
 have := (Int.ediv_lt_iff_lt_mul bp).mp b
 rw [Int.natCast_mul, Int.natCast_add] at this
 exact this
theorem A0rf {T M lf : Int} {wh B : Int} (e : lf = T - wh * wh * B) (h : lf ≠ 0) : 2 + (if decide (4 * T - M > 0) = true then (1 : Int) else 0) - (if decide (4 * T - M < 0) = true then (1 : Int) else 0) = (if wh * wh * B = T then 0 else 1 + (if decide (M <= 4 * T) = true then 1 else 0) + (if decide (M < 4 * T) = true then 1 else 0)) := by
 rw [if_neg (show ¬ wh * wh * B = T by omega)]
 rcases (by omega : M < 4 * T \/ M = 4 * T \/ 4 * T < M) with h2 | h2 | h2
 . rw [decide_eq_true (show 4 * T - M > 0 by omega), decide_eq_false (show ¬ 4 * T - M < 0 by omega), decide_eq_true (show M <= 4 * T by omega), decide_eq_true (show M < 4 * T by omega)]; rfl
 . rw [decide_eq_false (show ¬ 4 * T - M > 0 by omega), decide_eq_false (show ¬ 4 * T - M < 0 by omega), decide_eq_true (show M <= 4 * T by omega), decide_eq_false (show ¬ M < 4 * T by omega)]; rfl
 rw [decide_eq_false (show ¬ 4 * T - M > 0 by omega), decide_eq_true (show 4 * T - M < 0 by omega), decide_eq_false (show ¬ M <= 4 * T by omega), decide_eq_false (show ¬ M < 4 * T by omega)]; rfl
theorem A0zx {t s wh : Int} : 0 <= C7d t s wh /\ C7d t s wh <= 3 := by
 unfold C7d
 split
 . decide
 generalize decide ((2 * wh + 1) * (2 * wh + 1) * A4 (-s) <= 4 * (t * A4 s)) = x
 generalize decide ((2 * wh + 1) * (2 * wh + 1) * A4 (-s) < 4 * (t * A4 s)) = y
 cases x <;> cases y <;> decide
theorem A0gk {t s s0 : Int} (ht : 0 < t) (h : A7c t s0) (e : s + 2 <= s0) : t * A4 s < A4 (-s) := by
 have c := Z8 (show s <= s0 by omega)
 have g : 100 <= A4 (s0 - s) := by
   have : A4 2 <= A4 (s0 - s) := V7 (by omega)
   have e : A4 2 = 100 := rfl
   omega
 have p0 := D4 (-s0)
 have q : t * A4 s0 * A4 (-s) = t * A4 s * A4 (-s0) * A4 (s0 - s) := by
   calc t * A4 s0 * A4 (-s) = t * (A4 s0 * A4 (-s)) := by ac_rfl
     _ = t * (A4 s * A4 (-s0) * A4 (s0 - s)) := by rw [c]
     _ = t * A4 s * A4 (-s0) * A4 (s0 - s) := by ac_rfl
 have a1 : t * A4 s0 * A4 (-s) < 100 * A4 (-s0) * A4 (-s) := Int.mul_lt_mul_of_pos_right h.2 (D4 _)
 have a2 : t * A4 s * A4 (-s0) * 100 <= t * A4 s * A4 (-s0) * A4 (s0 - s) := Int.mul_le_mul_of_nonneg_left g (Int.le_of_lt (Int.mul_pos (Int.mul_pos ht (D4 _)) p0))
 have e2 : 100 * A4 (-s0) * A4 (-s) = A4 (-s) * A4 (-s0) * 100 := by ac_rfl
 have a3 : t * A4 s * A4 (-s0) * 100 < A4 (-s) * A4 (-s0) * 100 := by rw [<- e2]; rw [q] at a1; omega
 exact Int.lt_of_mul_lt_mul_right (Int.lt_of_mul_lt_mul_right a3 (by decide)) (Int.le_of_lt p0)
theorem A0yp {t s : Int} (ht : 1 <= t) (h : t * A4 s < A4 (-s)) : whQ t s = 0 := U1h ht ⟨Int.le_refl _, by rw [Int.zero_mul, Int.zero_mul]; exact Int.le_of_lt (Int.mul_pos (by omega) (D4 _)), by rw [show ((0 : Int) + 1) * (0 + 1) * A4 (-s) = A4 (-s) by omega]; exact h⟩
theorem A0zb {t s : Int} (ht : 1 <= t) (h : A7c t s) : whQ t s ≠ 0 := fun z => by
 have r := A6x (s := s) ht
 rw [z] at r
 have := r.2.2
 rw [show ((0 : Int) + 1) * (0 + 1) * A4 (-s) = A4 (-s) by omega] at this
 have := h.1
 omega
def Y5y : Sp := fun vs H Q _ => ∃ q lv p, vs = [.ref q, .int p] /\ H q = some (.tup (Lv.vs lv)) /\ lv.Ok /\ lv.In p /\ ∀ r H', C8 H H' -> H' r = some (.tup [.int (lv.wh p), .int (lv.pt p)]) -> Q (.ref r) H'
theorem scLAt : C5 ["_law_value", "_law_power_here", "_law_top", "_law_bottom", "_law_ten_here", "_law_is_root", "_law_many", "_law_found", "_law_left", "_law_twice"] Q30 (A2 J4c) := scK
theorem A0st {f f1 f2 : Addr} {fd fd1 fd2 : FuncData} (D : Def K mg "_law_at" Q30 J4c f fd) (D_l_ten : Def K mg "_law_ten" Q10 B0y f1 fd1) (G_l_ten : A8 P w K mg base (CX1 P w) 1 f1 fd1 Q10 B7u) (D_l_isqrt : Def K mg "_law_isqrt" ["_law_number"] A7t f2 fd2) (G_l_isqrt : A8 P w K mg base (CX1 P w) 1 f2 fd2 ["_law_number"] J4e) (O : Own mg) : A8 P w K mg base (CX1 P w) 2 f fd Q30 Y5y := by
 refine D.F.okE scLAt (fun vs H Q E h => ?_) (fun X cdv A outer s H vs Q E hX hr hx h => ?_)
 . obtain ⟨q, lv, p, rfl, _⟩ := h
   rfl
 subst hX
 obtain ⟨vq, lv, p, rfl, ev, ho, hi, k⟩ := h
 refine ⟨_, (A3 (B5 (A6b (pv 0) (B7g rfl (U9 (J7 (i := 2) scLAt.nd rfl (Or.inl rfl)) (U9 (J7 (i := 3) scLAt.nd rfl (Or.inl rfl)) (U9 (J7 (i := 4) scLAt.nd rfl (Or.inl rfl)) (U9 (J7 (i := 5) scLAt.nd rfl (Or.inl rfl)) A7p))))))) (A3 (B5 (D3 (i := 6) scLAt.nd rfl (Or.inl rfl) (A9 J8 (pv 4) (A9 G5 (pv 1) (V5 (Y2 (pv 5)) A1 A1))))) (A3 (B5 (D3 (i := 2) scLAt.nd rfl (Or.inl rfl) (A9 G5 (pv 2) (C9 D_l_ten G_l_ten hr hx (A0 (J3 (Y3 rfl) (by rfl) O.max_ boot_max (A0 A1 (A0 (pv 6) A5))) A5))))) (A3 (B5 (D3 (i := 3) scLAt.nd rfl (Or.inl rfl) (A9 G5 (pv 3) (C9 D_l_ten G_l_ten hr hx (A0 (J3 (Y3 rfl) (by rfl) O.max_ boot_max (A0 A1 (A0 (B1f A4h (pv 6)) A5))) A5))))) (A3 (B5 (G4 (A4g (Y2 (pv 5))) (A3 (B5 (A6b (J3 C0f (by rfl) O.divmod_ PyProof.Rows.boot_divmod (A0 (pv 2) (A0 (pv 3) A5))) (B7g rfl (U9 (J7 (i := 7) scLAt.nd rfl (Or.inl rfl)) (U9 (J7 (i := 8) scLAt.nd rfl (Or.inl rfl)) A7p))))) (A6 (B5 (D3 (i := 9) scLAt.nd rfl (Or.inl rfl) (A9 J8 (A9 G5 A1 (pv 8)) (pv 3)))))) (A3 (B5 (D3 (i := 7) scLAt.nd rfl (Or.inl rfl) (C9 D_l_isqrt G_l_isqrt hr hx (A0 (A9 D8 (pv 2) (pv 3)) A5)))) (A3 (B5 (D3 (i := 8) scLAt.nd rfl (Or.inl rfl) (A9 J8 (pv 2) (A9 G5 (A9 G5 (pv 7) (pv 7)) (pv 3))))) (A6 (B5 (D3 (i := 9) scLAt.nd rfl (Or.inl rfl) (A9 J8 (A9 G5 A1 (pv 2)) (A9 G5 (A9 G5 (A9 J4 (A9 G5 A1 (pv 7)) A1) (A9 J4 (A9 G5 A1 (pv 7)) A1)) (pv 3)))))))))) (A3 (B5 (G4 (C7 G2 (pv 8) A1 (C6 _)) (A6 (B0 (U6 (A0 (pv 7) (A0 A1 A5))))) D0)) (A6 (B0 (U6 (A0 (pv 7) (A0 (A9 J8 (A9 J4 A1 (A0k A1x (by rfl) O.int_ boot_int (A0 (G9 A6u (pv 9) A1 (C6 _)) A5))) (A0k A1x (by rfl) O.int_ boot_int (A0 (G9 B6t (pv 9) A1 (C6 _)) A5))) A5))))))))))), ?_⟩
 cases lv with
 | rat t b n =>
   obtain ⟨ht, hb⟩ := ho
   obtain ⟨n0, n1⟩ := hi
   have k : ∀ r H', C8 H H' -> H' r = some (.tup [.int (whI t b (n - p)), .int (ptI t b (n - p))]) -> Q (.ref r) H' := k
   have z2 : 2 <= sizeLine := D7 (by decide)
   have mC : ∀ z n : Int, -(2 ^ 64) < n -> n < 2 ^ 64 -> IntMulOk z n := fun z n a b => A2u.ok (.inr ⟨a, b⟩)
   have mC' : ∀ z n : Int, -(2 ^ 64) < n -> n < 2 ^ 64 -> IntMulOk n z := fun z n a b => A2u.ok (.inl ⟨a, b⟩)
   refine ⟨fun σ' H' => H' = H /\ σ' = [some (.ref vq), some (.int p), some (.int t), some (.int b), some (.int n), some (.bl false), none, none, none, none], ⟨_, rfl, vq, _, rfl, SqT.of ev, rfl, _, _, rfl, _, _, rfl, _, _, rfl, _, _, rfl, rfl, rfl, rfl⟩, ?_⟩
   rintro σ' H1 ⟨rfl, rfl⟩
   refine ⟨fun σ' H' => H' = H1 /\ σ' = [some (.ref vq), some (.int p), some (.int t), some (.int b), some (.int n), some (.bl false), some (.int (n - p)), none, none, none], ?_, ?_⟩
   . refine ⟨_, rfl, _, rfl, _, rfl, _, rfl, V3 ⟨_, _, rfl, rfl, mC _ _ (by decide) (by decide), _, _, rfl, rfl, rfl, ?_⟩⟩
     rw [Int.mul_one]
     rfl
   rintro σ' H2 ⟨rfl, rfl⟩
   generalize n - p = s at *
   have b1 : 0 < b := by have := hb.1; omega
   have lp : 0 < b * A4 (-s) := Int.mul_pos b1 (D4 _)
   refine ⟨fun σ' H' => H' = H2 /\ σ' = [some (.ref vq), some (.int p), some (.int (t * A4 s)), some (.int b), some (.int n), some (.bl false), some (.int s), none, none, none], ?_, ?_⟩
   . refine ⟨_, rfl, _, rfl, _, _, rfl, _, rfl, ?_, ?_, _, _, rfl, rfl, ?_, rfl, ?_⟩
     . split <;> omega
     . split <;> omega
     . rw [B1y]; exact B1m ht (by omega)
     . rw [B1y]; rfl
   rintro σ' H3 ⟨rfl, rfl⟩
   refine ⟨fun σ' H' => H' = H3 /\ σ' = [some (.ref vq), some (.int p), some (.int (t * A4 s)), some (.int (b * A4 (-s))), some (.int n), some (.bl false), some (.int s), none, none, none], ?_, ?_⟩
   . refine ⟨_, rfl, _, rfl, _, rfl, _, _, rfl, _, rfl, ?_, ?_, _, _, rfl, rfl, ?_, rfl, ?_⟩
     . split <;> omega
     . split <;> omega
     . rw [B1y]; exact B1m hb (by omega)
     . rw [B1y]; rfl
   rintro σ' H4 ⟨rfl, rfl⟩
   have ll := J9y hb (s := -s) (by omega)
   have hm : t * A4 s % (b * A4 (-s)) = t * A4 s - whI t b s * (b * A4 (-s)) := by
     unfold whI
     rw [Int.emod_def, Int.mul_comm (b * A4 (-s))]
   have lf0 := (V4h (t := t) (s := s) b1).1
   refine ⟨fun σ' H' => C8 H4 H' /\ σ' = [some (.ref vq), some (.int p), some (.int (t * A4 s)), some (.int (b * A4 (-s))), some (.int n), some (.bl false), some (.int s), some (.int (whI t b s)), some (.int (t * A4 s - whI t b s * (b * A4 (-s)))), some (.int (2 * (t * A4 s - whI t b s * (b * A4 (-s))) - b * A4 (-s)))], ?_, ?_⟩
   . refine ⟨_, rfl, _, rfl, Z5 ?_⟩
     refine ⟨fun σ' H' => C8 H4 H' /\ σ' = [some (.ref vq), some (.int p), some (.int (t * A4 s)), some (.int (b * A4 (-s))), some (.int n), some (.bl false), some (.int s), some (.int (whI t b s)), some (.int (t * A4 s - whI t b s * (b * A4 (-s)))), none], ?_, ?_⟩
     . refine ⟨_, rfl, _, rfl, _, _, rfl, ⟨lp, ll⟩, fun d nd => ?_⟩
       rw [hm]
       exact ⟨d, _, rfl, SqT.of A7, rfl, _, _, rfl, _, _, rfl, rfl, C8.upd nd, rfl⟩
     rintro σ' H5 ⟨s5, rfl⟩
     refine ⟨_, ?_, fun _ _ h => h⟩
     exact ⟨_, rfl, _, _, rfl, rfl, mC' _ _ (by decide) (by decide), _, rfl, _, _, rfl, rfl, s5, rfl⟩
   rintro σ' H5 ⟨s5, rfl⟩
   unfold ptI at k
   generalize t * A4 s - whI t b s * (b * A4 (-s)) = lf at *
   generalize b * A4 (-s) = lo at *
   generalize whI t b s = wh at *
   refine ⟨fun σ' H' => H' = H5 /\ lf ≠ 0 /\ σ' = [some (.ref vq), some (.int p), some (.int (t * A4 s)), some (.int lo), some (.int n), some (.bl false), some (.int s), some (.int wh), some (.int lf), some (.int (2 * lf - lo))], ?_, ?_⟩
   . refine ⟨_, rfl, rfl, _, rfl, J1 (fun h => ?_) (fun h => ⟨rfl, fun z => h (congrArg V.int z), rfl⟩)⟩
     have h : lf = 0 := V.int.inj h
     rw [A0rh h lp] at k
     exact ⟨_, rfl, z2, fun r nr => k r _ (s5.trans (C8.upd nr)) A7⟩
   rintro σ' H6 ⟨rfl, h, rfl⟩
   rw [<- part_of lp (by omega)] at k
   exact ⟨_, rfl, _, rfl, _, _, rfl, rfl, .inr ⟨_, rfl, _, _, rfl, rfl, _, rfl, _, _, rfl, rfl, .inr ⟨_, rfl, _, _, rfl, rfl, z2, fun r nr => k r _ (s5.trans (C8.upd nr)) A7⟩⟩⟩
 | roo t n =>
   obtain ⟨ht, m0, m1⟩ := ho
   obtain ⟨n0, n1⟩ := hi
   have k : ∀ r H', C8 H H' -> H' r = some (.tup [.int (whQ t (n - 2 * p)), .int (C7d t (n - 2 * p) (whQ t (n - 2 * p)))]) -> Q (.ref r) H' := k
   have z2 : 2 <= sizeLine := D7 (by decide)
   have mC : ∀ z n : Int, -(2 ^ 64) < n -> n < 2 ^ 64 -> IntMulOk z n := fun z n a b => A2u.ok (.inr ⟨a, b⟩)
   have mC' : ∀ z n : Int, -(2 ^ 64) < n -> n < 2 ^ 64 -> IntMulOk n z := fun z n a b => A2u.ok (.inl ⟨a, b⟩)
   refine ⟨fun σ' H' => H' = H /\ σ' = [some (.ref vq), some (.int p), some (.int t), some (.int 1), some (.int n), some (.bl true), none, none, none, none], ⟨_, rfl, vq, _, rfl, SqT.of ev, rfl, _, _, rfl, _, _, rfl, _, _, rfl, _, _, rfl, rfl, rfl, rfl⟩, ?_⟩
   rintro σ' H1 ⟨rfl, rfl⟩
   refine ⟨fun σ' H' => H' = H1 /\ σ' = [some (.ref vq), some (.int p), some (.int t), some (.int 1), some (.int n), some (.bl true), some (.int (n - 2 * p)), none, none, none], ?_, ?_⟩
   . refine ⟨_, rfl, _, rfl, _, rfl, _, rfl, Z5 ⟨_, _, rfl, rfl, mC _ _ (by decide) (by decide), _, _, rfl, rfl, rfl, ?_⟩⟩
     rw [Int.mul_comm 2 p]
     rfl
   rintro σ' H2 ⟨rfl, rfl⟩
   generalize n - 2 * p = s at *
   have t1 := ht.1
   have bp := D4 (-s)
   have tp : 0 < t * A4 s := Int.mul_pos (by omega) (D4 _)
   have sz := A0sm ht
   refine ⟨fun σ' H' => H' = H2 /\ σ' = [some (.ref vq), some (.int p), some (.int (t * A4 s)), some (.int 1), some (.int n), some (.bl true), some (.int s), none, none, none], ?_, ?_⟩
   . refine ⟨_, rfl, _, rfl, _, _, rfl, _, rfl, ?_, ?_, _, _, rfl, rfl, ?_, rfl, ?_⟩
     . split <;> omega
     . split <;> omega
     . rw [B1y]; exact B1m sz (by omega)
     . rw [B1y]; rfl
   rintro σ' H3 ⟨rfl, rfl⟩
   refine ⟨fun σ' H' => H' = H3 /\ σ' = [some (.ref vq), some (.int p), some (.int (t * A4 s)), some (.int (A4 (-s))), some (.int n), some (.bl true), some (.int s), none, none, none], ?_, ?_⟩
   . refine ⟨_, rfl, _, rfl, _, rfl, _, _, rfl, _, rfl, ?_, ?_, _, _, rfl, rfl, ?_, rfl, ?_⟩
     . split <;> omega
     . split <;> omega
     . rw [B1y]; exact B1m A4v (by omega)
     . show [_, _, _, some (V.int (1 * _)), _, _, _, _, _, _] = _
       rw [B1y, Int.one_mul]
   rintro σ' H4 ⟨rfl, rfl⟩
   have ll := V3g (e := -s) (by omega)
   have d0 : 0 <= t * A4 s / A4 (-s) := Int.ediv_nonneg (Int.le_of_lt tp) (Int.le_of_lt bp)
   have dl : (t * A4 s / A4 (-s)).toNat < 2 ^ 1000 := by
     have a : t * A4 s / A4 (-s) <= t * A4 s := Int.ediv_le_self _ (Int.le_of_lt tp)
     have b := C8h ht (s := s) (by omega)
     have c : (2 : Nat) ^ 903 <= 2 ^ 1000 := Nat.pow_le_pow_right (by decide) (by decide)
     omega
   have wq := A6x (s := s) t1
   have mu := V2v ht n0 n1 wq
   generalize hw : whQ t s = wh at *
   refine ⟨fun σ' H' => H' = H4 /\ σ' = [some (.ref vq), some (.int p), some (.int (t * A4 s)), some (.int (A4 (-s))), some (.int n), some (.bl true), some (.int s), some (.int wh), some (.int (t * A4 s - wh * wh * A4 (-s))), some (.int (4 * (t * A4 s) - (2 * wh + 1) * (2 * wh + 1) * A4 (-s)))], ?_, ?_⟩
   . refine ⟨_, rfl, _, rfl, V3 ?_⟩
     refine ⟨fun σ' H' => H' = H4 /\ σ' = [some (.ref vq), some (.int p), some (.int (t * A4 s)), some (.int (A4 (-s))), some (.int n), some (.bl true), some (.int s), some (.int wh), none, none], ?_, ?_⟩
     . refine ⟨_, rfl, _, rfl, _, _, rfl, rfl, ll, (t * A4 s / A4 (-s)).toNat, (by rw [Int.toNat_of_nonneg d0]; rfl), dl, fun r h1 h2 => ?_⟩
       have := U1h t1 (A0zc h1 h2 (by omega))
       rw [hw] at this
       rw [this]
       exact ⟨rfl, rfl⟩
     rintro σ' H5 ⟨rfl, rfl⟩
     refine ⟨fun σ' H' => H' = H5 /\ σ' = [some (.ref vq), some (.int p), some (.int (t * A4 s)), some (.int (A4 (-s))), some (.int n), some (.bl true), some (.int s), some (.int wh), some (.int (t * A4 s - wh * wh * A4 (-s))), none], ⟨_, rfl, _, rfl, _, rfl, _, _, rfl, rfl, mu.o2, _, rfl, _, _, rfl, rfl, mu.o3, _, _, rfl, rfl, rfl, rfl⟩, ?_⟩
     rintro σ' H6 ⟨rfl, rfl⟩
     refine ⟨_, ?_, fun _ _ h => h⟩
     exact ⟨_, rfl, _, _, rfl, rfl, mC' _ _ (by decide) (by decide), _, rfl, _, _, rfl, rfl, mC' _ _ (by decide) (by decide), _, _, rfl, rfl, _, rfl, _, _, rfl, rfl, mC' _ _ (by decide) (by decide), _, _, rfl, rfl, _, _, rfl, rfl, mu.o6, _, rfl, _, _, rfl, rfl, mu.o7, _, _, rfl, rfl, rfl, rfl⟩
   rintro σ' H5 ⟨rfl, rfl⟩
   generalize hlf : t * A4 s - wh * wh * A4 (-s) = lf
   refine ⟨fun σ' H' => H' = H5 /\ lf ≠ 0 /\ σ' = [some (.ref vq), some (.int p), some (.int (t * A4 s)), some (.int (A4 (-s))), some (.int n), some (.bl true), some (.int s), some (.int wh), some (.int lf), some (.int (4 * (t * A4 s) - (2 * wh + 1) * (2 * wh + 1) * A4 (-s)))], ?_, ?_⟩
   . refine ⟨_, rfl, rfl, _, rfl, J1 (fun h => ?_) (fun h => ⟨rfl, fun z => h (congrArg V.int z), rfl⟩)⟩
     have h : lf = 0 := V.int.inj h
     unfold C7d at k
     rw [if_pos (by omega)] at k
     exact ⟨_, rfl, z2, fun r nr => k r _ (C8.upd nr) A7⟩
   rintro σ' H6 ⟨rfl, h, rfl⟩
   unfold C7d at k
   rw [<- A0rf (M := (2 * wh + 1) * (2 * wh + 1) * A4 (-s)) hlf.symm h] at k
   exact ⟨_, rfl, _, rfl, _, _, rfl, rfl, .inr ⟨_, rfl, _, _, rfl, rfl, _, rfl, _, _, rfl, rfl, .inr ⟨_, rfl, _, _, rfl, rfl, z2, fun r nr => k r _ (C8.upd nr) A7⟩⟩⟩
def V3h : Sp := fun vs H Q _ => ∃ q lv, vs = [.ref q] /\ H q = some (.tup (Lv.vs lv)) /\ lv.Ok /\ ∀ H', C8 H H' -> Q (.int lv.L) H'
theorem scLLead : C5 ["_law_value", "_law_top", "_law_bottom", "_law_ten_here", "_law_is_root", "_law_first"] ["_law_value"] (A2 B7n) := scK
theorem Y7j {f f1 f2 : Addr} {fd fd1 fd2 : FuncData} (D : Def K mg "_law_lead" ["_law_value"] B7n f fd) (D_l_count : Def K mg "_law_count" Q16 A2k f1 fd1) (G_l_count : A8 P w K mg base (CX1 P w) 1 f1 fd1 Q16 B1t) (D_l_at : Def K mg "_law_at" Q30 J4c f2 fd2) (G_l_at : A8 P w K mg base (CX1 P w) 2 f2 fd2 Q30 Y5y) : A8 P w K mg base (CX1 P w) 3 f fd ["_law_value"] V3h := by
 refine D.F.okE scLLead (fun vs H Q E h => ?_) (fun X cdv A outer s H vs Q E hX hr hx h => ?_)
 . obtain ⟨q, lv, rfl, _⟩ := h
   rfl
 subst hX
 obtain ⟨vq, lv, rfl, ev, ho, k⟩ := h
 refine ⟨_, (A3 (B5 (A6b (pv 0) (B7g rfl (U9 (J7 (i := 1) scLLead.nd rfl (Or.inl rfl)) (U9 (J7 (i := 2) scLLead.nd rfl (Or.inl rfl)) (U9 (J7 (i := 3) scLLead.nd rfl (Or.inl rfl)) (U9 (J7 (i := 4) scLLead.nd rfl (Or.inl rfl)) A7p))))))) (A3 (B5 (D3 (i := 5) scLLead.nd rfl (Or.inl rfl) (A9 J4 (A9 J8 (C9 D_l_count G_l_count hr hx (A0 (pv 1) A5)) (C9 D_l_count G_l_count hr hx (A0 (pv 2) A5))) (pv 3)))) (A3 (B5 (G4 (Y2 (pv 4)) (A6 (B5 (D3 (i := 5) scLLead.nd rfl (Or.inl rfl) (A9 J4 (A9 D8 (pv 5) A1) A1)))) D0)) (A3 (B5 (D3 (i := 5) scLLead.nd rfl (Or.inl rfl) (A9 J4 (pv 5) A1))) (A3 (B5 (A2q PassesOwn.leaving (C7 G2 (D9 G3 (C9 D_l_at G_l_at hr hx (A0 (pv 0) (A0 (pv 5) A5))) A1 (fun _ _ => rfl)) A1 (C6 _)) (A6 (B5 (D3 (i := 5) scLLead.nd rfl (Or.inl rfl) (A9 J8 (pv 5) A1)))))) (A6 (B0 (pv 5)))))))), ?_⟩
 cases lv with
 | rat t b n =>
   obtain ⟨ht, hb⟩ := ho
   have ld := A5m ht hb n
   have k : ∀ H', C8 H H' -> Q (.int (n + A0r t b)) H' := k
   generalize hL : n + A0r t b = L at *
   have t1 := ht.1; have b1 := hb.1
   have ls := A8c ht hb ld
   have lt := Y5h ht hb ld
   obtain ⟨_, _, ft⟩ := B7v ht
   obtain ⟨_, _, fb⟩ := B7v hb
   have ftl : V4 t <= 1001 := by
     apply Classical.byContradiction
     intro z
     have a : A4 1000 <= A4 (V4 t - 1) := V7 (by omega)
     have := (B7v ht).1; have := ht.2
     omega
   have fbl : V4 b <= 1001 := by
     apply Classical.byContradiction
     intro z
     have a : A4 1000 <= A4 (V4 b - 1) := V7 (by omega)
     have := (B7v hb).1; have := hb.2
     omega
   refine ⟨fun σ' H' => H' = H /\ σ' = [some (.ref vq), some (.int t), some (.int b), some (.int n), some (.bl false), none], ⟨_, rfl, vq, _, rfl, SqT.of ev, rfl, _, _, rfl, _, _, rfl, _, _, rfl, _, _, rfl, rfl, rfl, rfl⟩, ?_⟩
   rintro σ' H1 ⟨rfl, rfl⟩
   refine ⟨fun σ' H' => H' = H1 /\ σ' = [some (.ref vq), some (.int t), some (.int b), some (.int n), some (.bl false), some (.int (V4 t - V4 b + n))], ⟨_, rfl, t, rfl, by omega, _, rfl, b, rfl, by omega, _, _, rfl, rfl, _, rfl, _, _, rfl, rfl, rfl, rfl⟩, ?_⟩
   rintro σ' H2 ⟨rfl, rfl⟩
   refine ⟨fun σ' H' => H' = H2 /\ σ' = [some (.ref vq), some (.int t), some (.int b), some (.int n), some (.bl false), some (.int (V4 t - V4 b + n))], ⟨_, rfl, _, rfl, V3 ⟨rfl, rfl⟩⟩, ?_⟩
   rintro σ' H3 ⟨rfl, rfl⟩
   refine ⟨fun σ' H' => H' = H3 /\ σ' = [some (.ref vq), some (.int t), some (.int b), some (.int n), some (.bl false), some (.int (V4 t - V4 b + n + 1))], ⟨_, rfl, _, _, rfl, rfl, rfl, rfl⟩, ?_⟩
   rintro σ' H4 ⟨rfl, rfl⟩
   refine ⟨fun σ' H' => C8 H4 H' /\ σ' = [some (.ref vq), some (.int t), some (.int b), some (.int n), some (.bl false), some (.int L)], ?_, ?_⟩
   . refine A0z (fun σ H5 => C8 H4 H5 /\ ∃ g : Int, L <= g /\ g <= V4 t - V4 b + n + 1 /\ σ = [some (.ref vq), some (.int t), some (.int b), some (.int n), some (.bl false), some (.int g)]) (fun σ _ => match σ with | [_, _, _, _, _, some (.int g)] => (g - L).toNat | _ => 0) ⟨C8.refl _, _, by omega, Int.le_refl _, rfl⟩ ?_ ?_
     . rintro σ H5 ⟨s5, g, g0, g1, rfl⟩
       have ev5 := s5 _ _ ev
       refine ⟨_, rfl, _, rfl, vq, .rat t b n, g, rfl, ev5, ⟨ht, hb⟩, ⟨by omega, by omega⟩, fun r H6 s6 er => ⟨r, _, _, _, rfl, rfl, SqT.of er, B8 (j := 0) rfl, rfl, _, rfl, J1 (fun h => ?_) (fun h => ?_)⟩⟩
       . have h : whI t b (n - g) = 0 := V.int.inj h
         have := (A0qx (by omega) (by omega) ld).mp h
         refine ⟨_, ?_, fun _ _ h => h⟩
         refine ⟨_, rfl, _, _, rfl, rfl, ⟨s5.trans s6, g - 1, by omega, by omega, rfl⟩, ?_⟩
         show (g - 1 - L).toNat < (g - L).toNat
         omega
       . have h : ¬ whI t b (n - g) = 0 := fun z => h (congrArg V.int z)
         have : ¬ n - g < n - L := fun z => h ((A0qx (by omega) (by omega) ld).mpr z)
         obtain rfl : g = L := by omega
         exact ⟨s5.trans s6, rfl⟩
     . rintro σ H5 Q1 Q2 hQ ⟨v1, e1, v2, e2, q, lv', p', e3, c1, c2, c3, c6⟩
       refine ⟨v1, e1, v2, e2, q, lv', p', e3, c1, c2, c3, fun r H6 s6 er => ?_⟩
       obtain ⟨a1, a2, a3, a4, a5, a6, a7, a8, a9, bb, eb, z⟩ := c6 r H6 s6 er
       exact ⟨a1, a2, a3, a4, a5, a6, a7, a8, a9, bb, eb, hQ _ _ z⟩
   rintro σ' H5 ⟨s5, rfl⟩
   exact ⟨_, rfl, k H5 s5⟩
 | roo t n =>
   obtain ⟨ht, m0, m1⟩ := ho
   have t1 := ht.1
   have ld := C9w ht n
   have lb := C6t ht ld
   have k : ∀ H', C8 H H' -> Q (.int (A6s t n)) H' := k
   have f1 : V4 1 = 1 := by decide +kernel
   have e0 : V4 t - V4 1 + n = V4 t - 1 + n := by omega
   have eL : (V4 t - 1 + n) / 2 = A6s t n := rfl
   generalize A6s t n = L at *
   have d2 : (0 : Int) < 2 /\ (2 : Int).natAbs.log2 < 9000 := ⟨by decide, by decide +kernel⟩
   refine ⟨fun σ' H' => H' = H /\ σ' = [some (.ref vq), some (.int t), some (.int 1), some (.int n), some (.bl true), none], ⟨_, rfl, vq, _, rfl, SqT.of ev, rfl, _, _, rfl, _, _, rfl, _, _, rfl, _, _, rfl, rfl, rfl, rfl⟩, ?_⟩
   rintro σ' H1 ⟨rfl, rfl⟩
   refine ⟨fun σ' H' => H' = H1 /\ σ' = [some (.ref vq), some (.int t), some (.int 1), some (.int n), some (.bl true), some (.int (V4 t - 1 + n))], ⟨_, rfl, t, rfl, by omega, _, rfl, 1, rfl, by decide, _, _, rfl, rfl, _, rfl, _, _, rfl, rfl, rfl, ?_⟩, ?_⟩
   . rw [<- e0]
     rfl
   rintro σ' H2 ⟨rfl, rfl⟩
   refine ⟨fun σ' H' => H' = H2 /\ σ' = [some (.ref vq), some (.int t), some (.int 1), some (.int n), some (.bl true), some (.int (L + 1))], ?_, ?_⟩
   . refine ⟨_, rfl, _, rfl, Z5 ⟨_, ?_, fun _ _ h => h⟩⟩
     refine ⟨_, rfl, _, _, rfl, rfl, d2, _, _, rfl, rfl, rfl, ?_⟩
     rw [<- eL]
     rfl
   rintro σ' H3 ⟨rfl, rfl⟩
   refine ⟨fun σ' H' => H' = H3 /\ σ' = [some (.ref vq), some (.int t), some (.int 1), some (.int n), some (.bl true), some (.int (L + 1 + 1))], ⟨_, rfl, _, _, rfl, rfl, rfl, rfl⟩, ?_⟩
   rintro σ' H4 ⟨rfl, rfl⟩
   refine ⟨fun σ' H' => C8 H4 H' /\ σ' = [some (.ref vq), some (.int t), some (.int 1), some (.int n), some (.bl true), some (.int L)], ?_, ?_⟩
   . refine A0z (fun σ H5 => C8 H4 H5 /\ ∃ g : Int, L <= g /\ g <= L + 2 /\ σ = [some (.ref vq), some (.int t), some (.int 1), some (.int n), some (.bl true), some (.int g)]) (fun σ _ => match σ with | [_, _, _, _, _, some (.int g)] => (g - L).toNat | _ => 0) ⟨C8.refl _, _, by omega, by omega, rfl⟩ ?_ ?_
     . rintro σ H5 ⟨s5, g, g0, g1, rfl⟩
       have ev5 := s5 _ _ ev
       refine ⟨_, rfl, _, rfl, vq, .roo t n, g, rfl, ev5, ⟨ht, m0, m1⟩, ⟨by omega, by omega⟩, fun r H6 s6 er => ⟨r, _, _, _, rfl, rfl, SqT.of er, B8 (j := 0) rfl, rfl, _, rfl, J1 (fun h => ?_) (fun h => ?_)⟩⟩
       . have h : whQ t (n - 2 * g) = 0 := V.int.inj h
         have : g ≠ L := fun z => A0zb t1 ld (z ▸ h)
         refine ⟨_, ?_, fun _ _ h => h⟩
         refine ⟨_, rfl, _, _, rfl, rfl, ⟨s5.trans s6, g - 1, by omega, by omega, rfl⟩, ?_⟩
         show (g - 1 - L).toNat < (g - L).toNat
         omega
       . have h : ¬ whQ t (n - 2 * g) = 0 := fun z => h (congrArg V.int z)
         have : ¬ L < g := fun z => h (A0yp t1 (A0gk (by omega) ld (by omega)))
         obtain rfl : g = L := by omega
         exact ⟨s5.trans s6, rfl⟩
     . rintro σ H5 Q1 Q2 hQ ⟨v1, e1, v2, e2, q, lv', p', e3, c1, c2, c3, c6⟩
       refine ⟨v1, e1, v2, e2, q, lv', p', e3, c1, c2, c3, fun r H6 s6 er => ?_⟩
       obtain ⟨a1, a2, a3, a4, a5, a6, a7, a8, a9, bb, eb, z⟩ := c6 r H6 s6 er
       exact ⟨a1, a2, a3, a4, a5, a6, a7, a8, a9, bb, eb, hQ _ _ z⟩
   rintro σ' H5 ⟨s5, rfl⟩
   exact ⟨_, rfl, k H5 s5⟩
abbrev Y7 : Stmt := (top 90)
theorem Y8g (x : Str) (b : Bool) : (List.replicate (if b = true then (1 : Int) else 0).toNat [V.str x]).flatten = (V6z x b).map V.str := by cases b <;> rfl
theorem A0tx {pt l L : Int} {c : Bool} (h : L < l) : V6z "sunk" (!decide (pt = 0)) ++ (["faint"] : List Str) ++ Y0 pt c = Z2 (Y0 pt c ++ A1b l L pt) := by
 unfold Y0 A1b
 rw [if_neg (by omega : ¬ L >= l)]
 by_cases z : pt = 0
 . rw [if_pos z, if_pos z, decide_eq_true z]
   cases c <;> decide +kernel
 rw [if_neg z, if_neg z, decide_eq_false z]
 decide +kernel
theorem A0gr {pt l L : Int} {c : Bool} (h : ¬ L < l) : Y0 pt c = Z2 (Y0 pt c ++ A1b l L pt) := by
 unfold Y0 A1b
 rw [if_pos (by omega : L >= l)]
 by_cases z : pt = 0
 . rw [if_pos z]
   cases c <;> decide +kernel
 rw [if_neg z]
 decide +kernel
theorem A0tq {pt : Int} {c : Bool} : inV (.str "off") ((Y0 pt c).map V.str) = !decide (pt = 0) := by
 unfold Y0
 by_cases z : pt = 0
 . rw [if_pos z, decide_eq_true z]
   cases c <;> decide +kernel
 rw [if_neg z, decide_eq_false z]
 decide +kernel
theorem V7x {pt : Int} {c : Bool} : (Y0 pt c).length <= 2 := by
 unfold Y0
 split
 . cases c <;> decide
 decide
theorem A0gu {a b : Int} : 0 <= Z4 a b /\ Z4 a b <= 3 := by
 unfold Z4
 generalize decide (0 < a) = x
 generalize decide (b <= 2 * a) = y
 generalize decide (b < 2 * a) = z
 cases x <;> cases y <;> cases z <;> decide
theorem pt_b (lv : Lv) (q : Int) : 0 <= lv.pt q /\ lv.pt q <= 3 := by
 cases lv with
 | rat t b n => exact A0gu
 | roo t n => exact A0zx
noncomputable def setL (v : Cv) (s : Int) (lv : Lv) (i : Int) : Nm × List Str := C0m v s (lv.wh (v.fin lv.L)) (lv.pt (v.fin lv.L)) lv.L (v.fin lv.L) i
def J4v : Sp := fun vs H Q _ => ∃ r y l m s, vs = [.int r, .str (Wy.name y), .int m, .int s] /\ 1 <= r /\ r <= 24 /\ 0 <= s /\ s <= 1 /\ ∀ q H', C8 H H' -> H' q = some (.tup (C9z ⟨r, y, l, m⟩ s).vs) -> Q (.ref q) H'
theorem scLBurst : C5 ["_law_room", "_law_way", "_law_most", "_law_sign", "_law_low"] Q47 (A2 A7y) := scK
theorem V6u {f f1 : Addr} {fd fd1 : FuncData} (D : Def K mg "_law_burst" Q47 A7y f fd) (D_l_ten : Def K mg "_law_ten" Q10 B0y f1 fd1) (G_l_ten : A8 P w K mg base (CX1 P w) 1 f1 fd1 Q10 B7u) : A8 P w K mg base (CX1 P w) 2 f fd Q47 J4v := by
 refine D.F.okE scLBurst (fun vs H Q E h => ?_) (fun X cdv A outer s H vs Q E hX hr hx h => ?_)
 . obtain ⟨r, y, l, m, sg, rfl, _⟩ := h
   rfl
 subst hX
 obtain ⟨r, y, l, m, sg, rfl, r1, r2, s0, s1, k⟩ := h
 refine ⟨_, (A3 (B5 (D3 (i := 4) scLBurst.nd rfl (Or.inl rfl) (V2x (G9 A4c (pv 1) (U6 (A0 D5 (A0 D5 A5))) (by rfl)) (V2x (B1x (G9 G2 (pv 1) D5 (C6 _)) (A6d (G9 G2 (pv 3) A1 (C6 _)))) (A6d (B1x (G9 G2 (pv 1) D5 (C6 _)) (A6d (G9 G2 (pv 3) A1 (C6 _))))))))) (A3 (B5 (G4 (Y2 (pv 4)) (A6 (B0 (U6 (A0 D5 (A0 (pv 3) (A0 (A9 J8 (C9 D_l_ten G_l_ten hr hx (A0 (pv 0) A5)) A1) (A0 (A9 J4 (A9 J8 (pv 2) (pv 0)) A1) A5))))))) D0)) (A6 (B0 (U6 (A0 D5 (A0 (pv 3) (A0 A1 (A0 A1 A5))))))))), ?_⟩
 have z2 : 2 <= sizeLine := D7 (by decide)
 have z4 : 4 <= sizeLine := D7 (by decide)
 refine ⟨fun σ' H' => C8 H H' /\ σ' = [some (.int r), some (.str y.name), some (.int m), some (.int sg), some (.bl (!y.toEnd sg))], ?_, ?_⟩
 . refine ⟨_, rfl, z2, fun p np => ⟨p, _, rfl, .inr (SqT.of A7), rfl, rfl, _, rfl, ?_⟩⟩
   have u := C8.upd (o := .tup [.str "down", .str "five up"]) np
   generalize upd H p (.tup [.str "down", .str "five up"]) = H1 at u
   show if (inV (.str y.name) [.str "down", .str "five up"]) = true then _ else _
   have fin : ∀ b : Bool, b = (!y.toEnd sg) -> C8 H H1 /\ [some (.int r), some (.str y.name), some (.int m), some (.int sg), some (.bl b)] = [some (V.int r), some (.str y.name), some (.int m), some (.int sg), some (.bl (!y.toEnd sg))] := fun b e => ⟨u, by rw [e]⟩
   cases y with
   | down => exact Z5 (fin true rfl)
   | fiveUp => exact Z5 (fin true rfl)
   | up => exact V3 ⟨_, rfl, rfl, _, rfl, J9 (nW (y := .up) (z := .floor) (by decide)) ⟨_, rfl, V3 ⟨_, rfl, rfl, _, rfl, J9 (nW (y := .up) (z := .ceiling) (by decide)) (fin false rfl)⟩⟩⟩
   | halfUp => exact V3 ⟨_, rfl, rfl, _, rfl, J9 (nW (y := .halfUp) (z := .floor) (by decide)) ⟨_, rfl, V3 ⟨_, rfl, rfl, _, rfl, J9 (nW (y := .halfUp) (z := .ceiling) (by decide)) (fin false rfl)⟩⟩⟩
   | halfDown => exact V3 ⟨_, rfl, rfl, _, rfl, J9 (nW (y := .halfDown) (z := .floor) (by decide)) ⟨_, rfl, V3 ⟨_, rfl, rfl, _, rfl, J9 (nW (y := .halfDown) (z := .ceiling) (by decide)) (fin false rfl)⟩⟩⟩
   | halfEven => exact V3 ⟨_, rfl, rfl, _, rfl, J9 (nW (y := .halfEven) (z := .floor) (by decide)) ⟨_, rfl, V3 ⟨_, rfl, rfl, _, rfl, J9 (nW (y := .halfEven) (z := .ceiling) (by decide)) (fin false rfl)⟩⟩⟩
   | floor =>
     rcases (by omega : sg = 0 \/ sg = 1) with rfl | rfl
     . exact V3 ⟨_, rfl, rfl, _, rfl, A0p rfl ⟨_, rfl, rfl, _, rfl, A0p rfl (fin true (by decide +kernel))⟩⟩
     . exact V3 ⟨_, rfl, rfl, _, rfl, A0p rfl ⟨_, rfl, rfl, _, rfl, J9 (by decide) ⟨_, rfl, rfl, _, rfl, J9 (nW (y := .floor) (z := .ceiling) (by decide)) (fin false (by decide +kernel))⟩⟩⟩
   | ceiling =>
     rcases (by omega : sg = 0 \/ sg = 1) with rfl | rfl
     . exact V3 ⟨_, rfl, rfl, _, rfl, J9 (nW (y := .ceiling) (z := .floor) (by decide)) ⟨_, rfl, V3 ⟨_, rfl, rfl, _, rfl, A0p rfl ⟨_, rfl, rfl, fin _ (by decide +kernel)⟩⟩⟩⟩
     . exact V3 ⟨_, rfl, rfl, _, rfl, J9 (nW (y := .ceiling) (z := .floor) (by decide)) ⟨_, rfl, V3 ⟨_, rfl, rfl, _, rfl, A0p rfl ⟨_, rfl, rfl, fin _ (by decide +kernel)⟩⟩⟩⟩
 rintro σ' H1 ⟨u, rfl⟩
 unfold C9z at k
 refine ⟨fun σ' H' => H' = H1 /\ y.toEnd sg = true /\ σ' = [some (.int r), some (.str y.name), some (.int m), some (.int sg), some (.bl (!y.toEnd sg))], ?_, ?_⟩
 . refine ⟨_, rfl, _, rfl, ?_⟩
   cases e : y.toEnd sg with
   | true => exact V3 ⟨rfl, rfl, rfl⟩
   | false =>
     rw [e, if_neg Bool.false_ne_true] at k
     exact Z5 ⟨_, rfl, _, rfl, r, rfl, by omega, by omega, _, _, rfl, rfl, _, rfl, _, rfl, _, _, rfl, rfl, _, _, rfl, rfl, z4, fun q nq => k q _ (u.trans (C8.upd nq)) A7⟩
 rintro σ' H2 ⟨rfl, e, rfl⟩
 rw [e, if_pos rfl] at k
 exact ⟨_, rfl, z4, fun q nq => k q _ (u.trans (C8.upd nq)) A7⟩
def A4e : Sp := fun vs H Q _ => ∃ fq r y l m s i, vs = [.ref fq, .int s, .int i] /\ H fq = some (.tup (frV r y l m)) /\ ∀ q H', C8 H H' -> B6v H' q (A1d ⟨r, y, l, m⟩ s i) [] -> Q (.ref q) H'
theorem V6h : C5 Q11 Q11 (A2 A0b) := scK
theorem Y4v (i lo m : Int) : (if (if i > lo then i else lo) < m then (if i > lo then i else lo) else m) = J4a (A0v i lo) m := by
 unfold J4a A0v
 repeat' split
 all_goals omega
theorem U1j {f : Addr} {fd : FuncData} (D : Def K mg "_law_nought" Q11 A0b f fd) (O : Own mg) : A8 P w K mg base (CX1 P w) 1 f fd Q11 A4e := by
 refine D.F.okE V6h (fun vs H Q E h => ?_) (fun X cdv A outer s H vs Q E hX hr hx h => ?_)
 . obtain ⟨fq, r, y, l, m, sg, i, rfl, _⟩ := h
   rfl
 subst hX
 obtain ⟨fq, r, y, l, m, sg, i, rfl, ef, k⟩ := h
 refine ⟨_, (A6 (B0 (U6 (A0 (U6 (A0 D5 (A0 (pv 1) (A0 A1 (A0 (J3 (A1u rfl) (by rfl) O.min_ boot_min (A0 (D9 G3 (pv 0) A1 (fun _ _ => rfl)) (A0 (J3 (Y3 rfl) (by rfl) O.max_ boot_max (A0 (A9 J4 (A9 J8 (D9 G3 (pv 0) A1 (fun _ _ => rfl)) (D9 G3 (pv 0) A1 (fun _ _ => rfl))) A1) (A0 (pv 2) A5))) A5))) A5))))) (A0 (U4 A5) A5))))), ?_⟩
 have z0 : 0 <= sizeLine := Nat.zero_le _
 have z2 : 2 <= sizeLine := D7 (by decide)
 have z4 : 4 <= sizeLine := D7 (by decide)
 refine ⟨_, rfl, _, rfl, fq, _, _, _, rfl, rfl, SqT.of ef, B8 (j := 3) rfl, _, rfl, fq, _, _, _, rfl, rfl, SqT.of ef, B8 (j := 2) rfl, _, rfl, fq, _, _, _, rfl, rfl, SqT.of ef, B8 (j := 0) rfl, _, _, rfl, rfl, _, _, rfl, rfl, _, rfl, _, _, rfl, _, _, rfl, ?_⟩
 rw [Y4v]
 refine ⟨z4, fun a na => ⟨z0, fun b nb => ⟨z2, fun q nq => ?_⟩⟩⟩
 have u1 := C8.upd (o := .tup (A1d ⟨r, y, l, m⟩ sg i).vs) na
 have u2 := C8.upd (o := .lst []) nb
 have u3 := C8.upd (o := .tup [.ref a, .ref b]) nq
 exact k q _ (u1.trans (u2.trans u3)) ⟨a, b, A7, (u2.trans u3) _ _ A7, u3 _ _ A7⟩
def A1z : Sp := fun vs H Q _ => ∃ fq r y l m s vq lv i, vs = [.ref fq, .int s, .ref vq, .int i] /\ H fq = some (.tup (frV r y l m)) /\ C7s r l m /\ 0 <= s /\ s <= 1 /\ H vq = some (.tup (Lv.vs lv)) /\ lv.Ok /\ lv.In (Cv.fin ⟨r, y, l, m⟩ lv.L) /\ 0 <= lv.wh (Cv.fin ⟨r, y, l, m⟩ lv.L) /\ lv.wh (Cv.fin ⟨r, y, l, m⟩ lv.L) < A4 r /\
 ∀ q H', C8 H H' -> B6v H' q (setL ⟨r, y, l, m⟩ s lv i).1 (Z2 (setL ⟨r, y, l, m⟩ s lv i).2) -> Q (.ref q) H'
theorem scLSettled : C5 ["_law_frame_here", "_law_sign", "_law_value", "_law_ideal", "_law_room", "_law_way", "_law_least", "_law_most", "_law_first", "_law_power_here", "_law_figures_here", "_law_part", "_law_names"] Q14 (A2 Y7) := scK
theorem J5j {f f1 f2 f3 f4 f5 f6 : Addr} {fd fd1 fd2 fd3 fd4 fd5 fd6 : FuncData} (D : Def K mg "_law_settled" Q14 Y7 f fd) (D_l_lead : Def K mg "_law_lead" ["_law_value"] B7n f1 fd1) (G_l_lead : A8 P w K mg base (CX1 P w) 3 f1 fd1 ["_law_value"] V3h)
   (D_l_at : Def K mg "_law_at" Q30 J4c f2 fd2) (G_l_at : A8 P w K mg base (CX1 P w) 2 f2 fd2 Q30 Y5y) (D_l_goes_up : Def K mg "_law_goes_up" Q38 B8a f3 fd3) (G_l_goes_up : A8 P w K mg base (CX1 P w) 1 f3 fd3 Q38 V3x) (D_l_ten : Def K mg "_law_ten" Q10 B0y f4 fd4) (G_l_ten : A8 P w K mg base (CX1 P w) 1 f4 fd4 Q10 B7u)
   (D_l_count : Def K mg "_law_count" Q16 A2k f5 fd5) (G_l_count : A8 P w K mg base (CX1 P w) 1 f5 fd5 Q16 B1t) (D_l_burst : Def K mg "_law_burst" Q47 A7y f6 fd6) (G_l_burst : A8 P w K mg base (CX1 P w) 2 f6 fd6 Q47 J4v) (O : Own mg) : A8 P w K mg base (CX1 P w) 4 f fd Q14 A1z := by
 refine D.F.okE scLSettled (fun vs H Q E h => ?_) (fun X cdv A outer s H vs Q E hX hr hx h => ?_)
 . obtain ⟨fq, r, y, l, m, sg, vq, lv, i, rfl, _⟩ := h
   rfl
 subst hX
 obtain ⟨fq, r, y, l, m, sg, vq, lv, i, rfl, ef, fr, s0, s1, ev, lo, li, w0, w1, k⟩ := h
 unfold setL at k
 refine ⟨_, (A3 (B5 (A6b (pv 0) (B7g rfl (U9 (J7 (i := 4) scLSettled.nd rfl (Or.inl rfl)) (U9 (J7 (i := 5) scLSettled.nd rfl (Or.inl rfl)) (U9 (J7 (i := 6) scLSettled.nd rfl (Or.inl rfl)) (U9 (J7 (i := 7) scLSettled.nd rfl (Or.inl rfl)) A7p))))))) (A3 (B5 (D3 (i := 8) scLSettled.nd rfl (Or.inl rfl) (C9 D_l_lead G_l_lead hr hx (A0 (pv 2) A5)))) (A3 (B5 (D3 (i := 9) scLSettled.nd rfl (Or.inl rfl) (A9 J4 (A9 J8 (J3 (Y3 rfl) (by rfl) O.max_ boot_max (A0 (pv 8) (A0 (pv 6) A5))) (pv 4)) A1))) (A3 (B5 (A6b (C9 D_l_at G_l_at hr hx (A0 (pv 2) (A0 (pv 9) A5))) (B7g rfl (U9 (J7 (i := 10) scLSettled.nd rfl (Or.inl rfl)) (U9 (J7 (i := 11) scLSettled.nd rfl (Or.inl rfl)) A7p))))) (A3 (B5 (D3 (i := 12) scLSettled.nd rfl (Or.inl rfl) (U4 A5))) (A3 (B5 (G4 (C7 G2 (pv 11) A1 (C6 _)) (A3 (B5 (A2q PassesOwn.leaving (PW.pt (C1u (C7 G2 (A9 J0 (pv 10) A1) A1 (C6 _)) (B5v (C7 B6t (pv 9) (pv 3) (C6 _))))) (A3 (B5 (D3 (i := 10) scLSettled.nd rfl (Or.inl rfl) (A9 D8 (pv 10) A1))) (A6 (B5 (D3 (i := 9) scLSettled.nd rfl (Or.inl rfl) (A9 J4 (pv 9) A1))))))) (A6 (B5 (D3 (i := 12) scLSettled.nd rfl (Or.inl rfl) (A9 Y7v (U4 (A0 D5 A5)) (A0k A1x (by rfl) O.int_ boot_int (A0 (G9 A6u (pv 9) (pv 3) (C6 _)) A5))))))) (A3 (B5 (D3 (i := 10) scLSettled.nd rfl (Or.inl rfl) (A9 J4 (pv 10) (A0k A1x (by rfl) O.int_ boot_int (A0 (C9 D_l_goes_up G_l_goes_up hr hx (A0 (pv 5) (A0 (pv 1) (A0 (A9 J0 (pv 10) A1) (A0 (pv 11) A5))))) A5))))) (A3 (B5 (G4 (C7 G2 (pv 10) (C9 D_l_ten G_l_ten hr hx (A0 (pv 4) A5)) (C6 _)) (A3 (B5 (D3 (i := 10) scLSettled.nd rfl (Or.inl rfl) (A9 D8 (pv 10) A1))) (A6 (B5 (D3 (i := 9) scLSettled.nd rfl (Or.inl rfl) (A9 J4 (pv 9) A1))))) D0)) (A6 (B5 (D3 (i := 12) scLSettled.nd rfl (Or.inl rfl) (U4 (A0 D5 (A0 D5 A5)))))))))) (A3 (B5 (G4 (C7 B6t (pv 8) (pv 6) (C6 _)) (A6 (B5 (D3 (i := 12) scLSettled.nd rfl (Or.inl rfl) (A9 G2a (A9 G2a (A9 Y7v (U4 (A0 D5 A5)) (A0k A1x (by rfl) O.int_ boot_int (A0 (G9 A4c D5 (pv 12) (by rfl)) A5))) (U4 (A0 D5 A5))) (pv 12))))) D0)) (A3 (B5 (G4 (PW.pt (C1u (C7 A6u (pv 10) A1 (C6 _)) (B5v (C7 A6u (A9 J8 (A9 J4 (pv 9) (C9 D_l_count G_l_count hr hx (A0 (pv 10) A5))) A1) (pv 7) (C6 _))))) (A6 (B0 (U6 (A0 (C9 D_l_burst G_l_burst hr hx (A0 (pv 4) (A0 (pv 5) (A0 (pv 7) (A0 (pv 1) A5))))) (A0 (U4 (A0 D5 (A0 D5 (A0 D5 A5)))) A5))))) D0)) (A6 (B0 (U6 (A0 (U6 (A0 D5 (A0 (pv 1) (A0 (pv 10) (A0 (pv 9) A5))))) (A0 (pv 12) A5))))))))))))), ?_⟩
 have z0 : 0 <= sizeLine := Nat.zero_le _
 have z1 : 1 <= sizeLine := D7 (by decide)
 have z2 : 2 <= sizeLine := D7 (by decide)
 have z3 : 3 <= sizeLine := D7 (by decide)
 have z4 : 4 <= sizeLine := D7 (by decide)
 have d10 : (0 : Int) < 10 /\ (10 : Int).natAbs.log2 < 9000 := ⟨by decide, by decide +kernel⟩
 have kb : ∀ b : Bool, -(2 ^ 63 : Int) <= (if b = true then (1 : Int) else 0) /\ (if b = true then (1 : Int) else 0) < 2 ^ 63 /\ 1 * (if b = true then (1 : Int) else 0).toNat <= sizeLine := fun b => by
   cases b
   . exact ⟨by decide, by decide, Nat.zero_le _⟩
   . exact ⟨by decide, by decide, z1⟩
 have ok : (Cv.mk r y l m).Ok := ⟨fr.r1, fr.r2, fr.l1, fr.l2, fr.m1, fr.m2⟩
 have r1 := fr.r1; have r2 := fr.r2
 refine ⟨fun σ' H' => H' = H /\ σ' = [some (.ref fq), some (.int sg), some (.ref vq), some (.int i), some (.int r), some (.str y.name), some (.int l), some (.int m), none, none, none, none, none], ⟨_, rfl, fq, _, rfl, SqT.of ef, rfl, _, _, rfl, _, _, rfl, _, _, rfl, _, _, rfl, rfl, rfl, rfl⟩, ?_⟩
 rintro σ' H1 ⟨rfl, rfl⟩
 refine ⟨fun σ' H' => C8 H1 H' /\ σ' = [some (.ref fq), some (.int sg), some (.ref vq), some (.int i), some (.int r), some (.str y.name), some (.int l), some (.int m), some (.int lv.L), none, none, none, none], ⟨_, rfl, vq, lv, rfl, ev, lo, fun H' s' => ⟨s', rfl⟩⟩, ?_⟩
 rintro σ' H2 ⟨t2, rfl⟩
 have pb := pt_b lv (Cv.fin ⟨r, y, l, m⟩ lv.L)
 have wr : 0 <= lv.wh (Cv.fin ⟨r, y, l, m⟩ lv.L) /\ lv.wh (Cv.fin ⟨r, y, l, m⟩ lv.L) < A4 r := ⟨w0, w1⟩
 have fe := A0sw r y l m lv.L
 clear w0 w1
 generalize Cv.fin ⟨r, y, l, m⟩ lv.L = q at *
 refine ⟨fun σ' H' => H' = H2 /\ σ' = [some (.ref fq), some (.int sg), some (.ref vq), some (.int i), some (.int r), some (.str y.name), some (.int l), some (.int m), some (.int lv.L), some (.int q), none, none, none], ?_, ?_⟩
 . refine ⟨_, rfl, _, rfl, _, _, rfl, _, rfl, _, _, rfl, rfl, _, _, rfl, rfl, rfl, ?_⟩
   rw [<- fe]
   rfl
 rintro σ' H3 ⟨rfl, rfl⟩
 refine ⟨fun σ' H' => C8 H1 H' /\ σ' = [some (.ref fq), some (.int sg), some (.ref vq), some (.int i), some (.int r), some (.str y.name), some (.int l), some (.int m), some (.int lv.L), some (.int q), some (.int (lv.wh q)), some (.int (lv.pt q)), none], ?_, ?_⟩
 . exact ⟨_, rfl, _, rfl, vq, lv, q, rfl, t2 _ _ ev, lo, li, fun rr H' s' er => ⟨rr, _, rfl, SqT.of er, rfl, _, _, rfl, _, _, rfl, rfl, t2.trans s', rfl⟩⟩
 rintro σ' H4 ⟨t4, rfl⟩
 generalize lv.pt q = pt at *
 generalize lv.wh q = wh at *
 generalize lv.L = L at *
 refine ⟨fun σ' H' => ∃ a, C8 H1 H' /\ H' a = some (.lst []) /\ σ' = [some (.ref fq), some (.int sg), some (.ref vq), some (.int i), some (.int r), some (.str y.name), some (.int l), some (.int m), some (.int L), some (.int q), some (.int wh), some (.int pt), some (.ref a)], ⟨z0, fun a na => ⟨a, t4.trans (C8.upd na), A7, rfl⟩⟩, ?_⟩
 rintro σ' H5 ⟨a, t5, ea, rfl⟩
 have nn : 0 <= (Z3 ⟨r, y, l, m⟩ sg wh pt q i).1 := by
   unfold Z3
   split
   . exact (D0a i (i - q).toNat wh q wr.1).1
   . have hu : 0 <= upI y sg wh pt := by
       unfold upI
       generalize (if pt = 0 then false else y.goes sg (wh % 10) pt) = g
       cases g with
       | true => show 0 <= wh + 1; omega
       | false => exact wr.1
     generalize upI y sg wh pt = u at hu
     unfold B6r
     split
     . show 0 <= u / 10; omega
     . exact hu
 refine ⟨fun σ' H' => ∃ a, C8 H1 H' /\ H' a = some (.lst ((Y0 pt (decide ((Z3 ⟨r, y, l, m⟩ sg wh pt q i).2 > i))).map V.str)) /\ σ' = [some (.ref fq), some (.int sg), some (.ref vq), some (.int i), some (.int r), some (.str y.name), some (.int l), some (.int m), some (.int L), some (.int (Z3 ⟨r, y, l, m⟩ sg wh pt q i).2), some (.int (Z3 ⟨r, y, l, m⟩ sg wh pt q i).1), some (.int pt), some (.ref a)], ?_, ?_⟩
 . refine ⟨_, rfl, rfl, _, rfl, J1 (fun h => ?_) (fun h => ?_)⟩
   . have h : pt = 0 := V.int.inj h
     subst h
     have en : Z3 ⟨r, y, l, m⟩ sg wh 0 q i = Z1 i wh q := by unfold Z3; rw [if_pos rfl]
     rw [en]
     refine ⟨fun σ' H' => H' = H5 /\ σ' = [some (.ref fq), some (.int sg), some (.ref vq), some (.int i), some (.int r), some (.str y.name), some (.int l), some (.int m), some (.int L), some (.int (Z1 i wh q).2), some (.int (Z1 i wh q).1), some (.int 0), some (.ref a)], ?_, ?_⟩
     . refine A0z (fun σ H6 => H6 = H5 /\ ∃ f p : Int, Z1 i f p = Z1 i wh q /\ σ = [some (.ref fq), some (.int sg), some (.ref vq), some (.int i), some (.int r), some (.str y.name), some (.int l), some (.int m), some (.int L), some (.int p), some (.int f), some (.int 0), some (.ref a)]) (fun σ _ => match σ with | _ :: _ :: _ :: _ :: _ :: _ :: _ :: _ :: _ :: some (.int p) :: _ => (i - p).toNat | _ => 0) ⟨rfl, wh, q, rfl, rfl⟩ ?_ ?_
       . rintro σ H6 ⟨rfl, f, p, e, rfl⟩
         have stop : ¬ (p < i /\ f % 10 = 0) -> (f, p) = Z1 i wh q := fun h => by rw [<- e, C9x h]
         refine ⟨_, rfl, _, _, rfl, rfl, d10.1, rfl, _, rfl, J1 (fun h2 => ?_) (fun h2 => V3 ⟨rfl, by rw [<- stop fun q => h2 (congrArg V.int q.2)]⟩)⟩
         refine ⟨_, rfl, _, rfl, _, _, rfl, rfl, _, rfl, J1 (fun h1 => ?_) (fun h1 => ⟨rfl, by rw [<- stop fun q => h1 q.1]⟩)⟩
         have h1 : p < i := h1
         have h2 : f % 10 = 0 := V.int.inj h2
         refine ⟨fun σ' H' => H' = H6 /\ σ' = [some (.ref fq), some (.int sg), some (.ref vq), some (.int i), some (.int r), some (.str y.name), some (.int l), some (.int m), some (.int L), some (.int p), some (.int (f / 10)), some (.int 0), some (.ref a)], ⟨_, rfl, _, _, rfl, rfl, d10, rfl, rfl⟩, ?_⟩
         rintro σ' H7 ⟨rfl, rfl⟩
         refine ⟨_, ?_, fun _ _ h => h⟩
         refine ⟨_, rfl, _, _, rfl, rfl, ⟨rfl, f / 10, p + 1, (C9p h1 h2).symm.trans e, rfl⟩, ?_⟩
         show (i - (p + 1)).toNat < (i - p).toNat
         omega
       . rintro σ H6 Q1 Q2 hQ ⟨v1, e1, a1, a2, e2, e3, e4, e5, c, ec, q⟩
         refine ⟨v1, e1, a1, a2, e2, e3, e4, e5, c, ec, ?_⟩
         cases c with
         | false => exact V3 (hQ _ _ (by simpa using q))
         | true =>
           rw [if_pos rfl] at q ⊢
           obtain ⟨v1, e, v2, e2, a, b, e3, e4, c, e5, q⟩ := q
           exact ⟨v1, e, v2, e2, a, b, e3, e4, c, e5, hQ _ _ q⟩
     rintro σ' H6 ⟨rfl, rfl⟩
     refine ⟨_, ?_, fun _ _ h => h⟩
     generalize (Z1 i wh q).2 = p'
     refine ⟨z1, fun a1 n1 => ⟨_, rfl, _, rfl, _, _, rfl, rfl, .inr ⟨_, rfl, a1, _, _, rfl, rfl, A7, (kb (decide (p' > i))).1, (kb (decide (p' > i))).2.1, (kb (decide (p' > i))).2.2, fun a2 n2 => ?_⟩⟩⟩
     rw [Y8g]
     refine ⟨a2, t5.trans ((C8.upd n1).trans (C8.upd n2)), ?_, rfl⟩
     rw [A7]
     unfold Y0 V6z
     rw [if_pos rfl]
   . have h : ¬ pt = 0 := fun z => h (congrArg V.int z)
     have en : Z3 ⟨r, y, l, m⟩ sg wh pt q i = B6r r (upI y sg wh pt) q := by unfold Z3; rw [if_neg h]
     have er : ∀ c, Y0 pt c = (["off", "cut"] : List Str) := fun c => by unfold Y0; rw [if_neg h]
     rw [en, er]
     have m0 := Int.emod_nonneg wh (by decide : (10 : Int) ≠ 0)
     have m1 := Int.emod_lt_of_pos wh (by decide : (0 : Int) < 10)
     refine ⟨fun σ' H' => C8 H1 H' /\ σ' = [some (.ref fq), some (.int sg), some (.ref vq), some (.int i), some (.int r), some (.str y.name), some (.int l), some (.int m), some (.int L), some (.int q), some (.int (upI y sg wh pt)), some (.int pt), some (.ref a)], ?_, ?_⟩
     . refine ⟨_, rfl, _, rfl, _, rfl, _, rfl, _, _, rfl, rfl, d10.1, _, rfl, y, sg, wh % 10, pt, rfl, s0, s1, m0, by omega, by omega, pb.2, fun H6 s6 => .inr ⟨_, rfl, _, _, rfl, rfl, t5.trans s6, ?_⟩⟩
       have eu : upI y sg wh pt = wh + (if y.goes sg (wh % 10) pt = true then 1 else 0) := by
         unfold upI
         rw [if_neg h]
         cases y.goes sg (wh % 10) pt with
         | true => rfl
         | false => show wh = wh + 0; omega
       rw [eu]
       rfl
     rintro σ' H6 ⟨t6, rfl⟩
     generalize upI y sg wh pt = v
     refine ⟨fun σ' H' => H' = H6 /\ σ' = [some (.ref fq), some (.int sg), some (.ref vq), some (.int i), some (.int r), some (.str y.name), some (.int l), some (.int m), some (.int L), some (.int (B6r r v q).2), some (.int (B6r r v q).1), some (.int pt), some (.ref a)], ?_, ?_⟩
     . unfold B6r
       refine ⟨_, rfl, _, rfl, r, rfl, by omega, by omega, rfl, _, rfl, J1 (fun e => ?_) (fun e => ?_)⟩
       . have e : v = A4 r := V.int.inj e
         rw [if_pos e]
         refine ⟨fun σ' H' => H' = H6 /\ σ' = [some (.ref fq), some (.int sg), some (.ref vq), some (.int i), some (.int r), some (.str y.name), some (.int l), some (.int m), some (.int L), some (.int q), some (.int (v / 10)), some (.int pt), some (.ref a)], ⟨_, rfl, _, _, rfl, rfl, d10, rfl, rfl⟩, ?_⟩
         rintro σ' H7 ⟨rfl, rfl⟩
         refine ⟨_, ?_, fun _ _ h => h⟩
         exact ⟨_, rfl, _, _, rfl, rfl, rfl, rfl⟩
       . have e : ¬ v = A4 r := fun z => e (congrArg V.int z)
         rw [if_neg e]
         exact ⟨rfl, rfl⟩
     rintro σ' H7 ⟨rfl, rfl⟩
     refine ⟨_, ?_, fun _ _ h => h⟩
     exact ⟨z2, fun a1 n1 => ⟨a1, t6.trans (C8.upd n1), A7, rfl⟩⟩
 rintro σ' H6 ⟨a, t6, ea, rfl⟩
 unfold C0m at k
 generalize (Z3 ⟨r, y, l, m⟩ sg wh pt q i).1 = f' at *
 generalize (Z3 ⟨r, y, l, m⟩ sg wh pt q i).2 = p' at *
 generalize decide (p' > i) = cu at *
 have rl := V7x (pt := pt) (c := cu)
 refine ⟨fun σ' H' => ∃ a, C8 H1 H' /\ H' a = some (.lst ((Z2 (Y0 pt cu ++ A1b l L pt)).map V.str)) /\ σ' = [some (.ref fq), some (.int sg), some (.ref vq), some (.int i), some (.int r), some (.str y.name), some (.int l), some (.int m), some (.int L), some (.int p'), some (.int f'), some (.int pt), some (.ref a)], ?_, ?_⟩
 . refine ⟨_, rfl, _, rfl, _, _, rfl, rfl, _, rfl, J1 (fun h => ?_) (fun h => ⟨a, t6, by rw [<- A0gr h]; exact ea, rfl⟩)⟩
   refine ⟨_, ?_, fun _ _ h => h⟩
   refine ⟨z1, fun a1 n1 => ⟨_, rfl, a, _, rfl, .inl (SqL.of ((C8.upd n1) _ _ ea)), rfl, A1w _, .inr ⟨_, rfl, ?_⟩⟩⟩
   have u1 := C8.upd (o := .lst [.str "sunk"]) n1
   have e1 : (upd H6 a1 (.lst [.str "sunk"])) a1 = some (.lst [.str "sunk"]) := A7
   generalize upd H6 a1 (.lst [.str "sunk"]) = H7 at u1 e1
   have ei : (if false = true then !inV (V.str "off") ((Y0 pt cu).map V.str) else inV (V.str "off") ((Y0 pt cu).map V.str)) = !decide (pt = 0) := by rw [if_neg Bool.false_ne_true, A0tq]
   rw [ei]
   refine ⟨a1, _, _, rfl, rfl, e1, (kb _).1, (kb _).2.1, (kb _).2.2, fun a2 n2 => ?_⟩
   rw [Y8g]
   refine ⟨z1, fun a3 n3 => ?_⟩
   have u2 := C8.upd (o := .lst ((V6z "sunk" !decide (pt = 0)).map V.str)) n2
   have u3 := C8.upd (o := .lst [.str "faint"]) n3
   have rl2 : (V6z "sunk" !decide (pt = 0)).length <= 1 := by cases decide (pt = 0) <;> decide
   refine ⟨a2, a3, _, _, rfl, rfl, u3 _ _ A7, A7, D7 (by rw [List.length_map]; show _ + 1 <= _; omega), fun a4 n4 => ?_⟩
   have u4 := C8.upd (o := .lst ((V6z "sunk" !decide (pt = 0)).map V.str ++ [.str "faint"])) n4
   refine ⟨_, rfl, a4, a, _, _, rfl, rfl, A7, (u1.trans (u2.trans (u3.trans u4))) _ _ ea, D7 (by rw [List.length_append, List.length_map, List.length_map]; show _ + 1 + _ <= _; omega), fun a5 n5 => ?_⟩
   refine ⟨a5, t6.trans (u1.trans (u2.trans (u3.trans (u4.trans (C8.upd n5))))), ?_, rfl⟩
   rw [A7, <- A0tx h, List.map_append, List.map_append]
   rfl
 clear ea
 rintro σ' H7 ⟨a, t7, ea, rfl⟩
 refine ⟨fun σ' H' => H' = H7 /\ A3p m f' p' = false /\ σ' = [some (.ref fq), some (.int sg), some (.ref vq), some (.int i), some (.int r), some (.str y.name), some (.int l), some (.int m), some (.int L), some (.int p'), some (.int f'), some (.int pt), some (.ref a)], ?_, ?_⟩
 . refine ⟨_, rfl, _, _, rfl, rfl, _, rfl, J1 (fun h => ?_) (fun h => V3 ⟨rfl, ?_, rfl⟩)⟩
   . have h : f' > 0 := h
     have eb : A3p m f' p' = decide (p' + V4 f' - 1 > m) := by unfold A3p; rw [if_neg (by omega)]
     rw [eb] at k
     refine ⟨_, rfl, _, rfl, f', rfl, nn, _, _, rfl, rfl, _, _, rfl, rfl, _, rfl, _, _, rfl, rfl, _, rfl, J1 (fun h2 => ?_) (fun h2 => ⟨rfl, by rw [eb]; exact decide_eq_false h2, rfl⟩)⟩
     rw [decide_eq_true (show p' + V4 f' - 1 > m from h2), if_pos rfl] at k
     refine ⟨_, rfl, _, rfl, _, rfl, _, rfl, r, y, l, m, sg, rfl, r1, r2, s0, s1, fun q' H' s' eq' => ⟨z3, fun a1 n1 => ⟨z2, fun a2 n2 => ?_⟩⟩⟩
     have u1 := C8.upd (o := .lst [.str "burst", .str "off", .str "cut"]) n1
     have u2 := C8.upd (o := .tup [.ref q', .ref a1]) n2
     exact k a2 _ (t7.trans (s'.trans (u1.trans u2))) ⟨q', a1, A7, (u1.trans u2) _ _ eq', u2 _ _ A7⟩
   . have h : ¬ f' > 0 := h
     unfold A3p
     rw [if_pos (by omega)]
 rintro σ' H8 ⟨rfl, e, rfl⟩
 rw [e, if_neg Bool.false_ne_true] at k
 refine ⟨_, rfl, _, rfl, _, rfl, z4, fun t1 n1 => ⟨_, rfl, z2, fun q' nq => ?_⟩⟩
 have u1 := C8.upd (o := .tup (Nm.vs ⟨.plain, sg, f', p'⟩)) n1
 have u2 := C8.upd (o := .tup [.ref t1, .ref a]) nq
 exact k q' _ (t7.trans (u1.trans u2)) ⟨t1, a, A7, u2 _ _ A7, (u1.trans u2) _ _ ea⟩
abbrev C9m : Stmt := (top 72)
abbrev B7m : Stmt := (top 73)
abbrev A0u : Stmt := (top 75)
abbrev C7j : Stmt := (top 74)
theorem A8.never {P : Program} {w : World} {K : Frag} {mg : Str -> Option Value} {base : Heap} {CX : CXT} {k : Nat} {f : Addr} {fd : FuncData} {ps : List Str} : A8 P w K mg base CX k f fd ps (fun _ _ _ _ => False) := ⟨fun _ _ _ _ h => h.elim, fun _ _ _ _ _ _ _ _ _ _ _ _ _ h => h.elim⟩
theorem V3j {t : Int} (h : SzL t) : 1 <= V4 t /\ V4 t <= 500 := by
 have fb := B7v h.sz
 refine ⟨fb.2.2, ?_⟩
 apply Classical.byContradiction
 intro z
 have a : A4 500 <= A4 (V4 t - 1) := V7 (by omega)
 have := h.2
 omega
theorem B7s {v : Cv} {t b n : Int} (ok : v.Ok) (ht : SzL t) (hb : SzL b) (n0 : -1300 <= n) (n1 : n <= 1300) : (Lv.rat t b n).In (v.fin (n + A0r t b)) /\ 0 <= whI t b (n - v.fin (n + A0r t b)) /\ whI t b (n - v.fin (n + A0r t b)) < A4 v.r := by
 have ft := V3j ht; have fb := V3j hb
 have r1 := ok.r1; have r2 := ok.r2; have l1 := ok.l1; have l2 := ok.l2
 have lf : -501 <= A0r t b /\ A0r t b <= 501 := by
   unfold A0r
   split <;> omega
 have wr := V3q (s1 := n - (n + A0r t b)) (s2 := n - v.fin (n + A0r t b)) (r := v.r) ht.sz hb.sz (A5m ht.sz hb.sz n) r1 (by
   unfold Cv.fin A0v
   split <;> omega)
 refine ⟨?_, wr⟩
 show -1500 <= n - v.fin (n + A0r t b) /\ n - v.fin (n + A0r t b) <= 1500
 unfold Cv.fin A0v
 split <;> omega
theorem V7f {t s s0 r : Int} (ht : 1 <= t) (h : A7c t s0) (hr : 1 <= r) (e : s <= s0 + 2 * (r - 1)) : whQ t s < A4 r := by
 have wq := A6x (s := s) ht
 have bp := D4 (-s)
 have key : t * A4 s < A4 (2 * r) * A4 (-s) := by
   have p0 := D4 (-s0)
   by_cases hs : s0 <= s
   . have c := Z8 hs
     have q : t * A4 s * A4 (-s0) = t * A4 s0 * A4 (-s) * A4 (s - s0) := by
       calc t * A4 s * A4 (-s0) = t * (A4 s * A4 (-s0)) := by ac_rfl
         _ = t * (A4 s0 * A4 (-s) * A4 (s - s0)) := by rw [c]
         _ = t * A4 s0 * A4 (-s) * A4 (s - s0) := by ac_rfl
     have a1 : t * A4 s0 * A4 (-s) < 100 * A4 (-s0) * A4 (-s) := Int.mul_lt_mul_of_pos_right h.2 bp
     have a2 : t * A4 s0 * A4 (-s) * A4 (s - s0) < 100 * A4 (-s0) * A4 (-s) * A4 (s - s0) := Int.mul_lt_mul_of_pos_right a1 (D4 _)
     have g : A4 (s - s0) <= A4 (2 * (r - 1)) := V7 (by omega)
     have a3 : 100 * A4 (-s0) * A4 (-s) * A4 (s - s0) <= 100 * A4 (-s0) * A4 (-s) * A4 (2 * (r - 1)) := Int.mul_le_mul_of_nonneg_left g (Int.le_of_lt (Int.mul_pos (Int.mul_pos (by decide) p0) bp))
     have e2 : A4 (2 * r) = 100 * A4 (2 * (r - 1)) := by
       unfold A4
       rw [show (2 * r).toNat = (2 * (r - 1)).toNat + 2 by omega, Nat.pow_add, Int.natCast_mul, Int.mul_comm]
       rfl
     have e3 : 100 * A4 (-s0) * A4 (-s) * A4 (2 * (r - 1)) = A4 (2 * r) * A4 (-s) * A4 (-s0) := by rw [e2]; ac_rfl
     exact Int.lt_of_mul_lt_mul_right (by rw [q, <- e3]; omega) (Int.le_of_lt p0)
   . have c := Z8 (show s <= s0 by omega)
     have q : t * A4 s0 * A4 (-s) = t * A4 s * A4 (-s0) * A4 (s0 - s) := by
       calc t * A4 s0 * A4 (-s) = t * (A4 s0 * A4 (-s)) := by ac_rfl
         _ = t * (A4 s * A4 (-s0) * A4 (s0 - s)) := by rw [c]
         _ = t * A4 s * A4 (-s0) * A4 (s0 - s) := by ac_rfl
     have a1 : t * A4 s0 * A4 (-s) < 100 * A4 (-s0) * A4 (-s) := Int.mul_lt_mul_of_pos_right h.2 bp
     have d := D4 (s0 - s)
     have a2 : t * A4 s * A4 (-s0) * 1 <= t * A4 s * A4 (-s0) * A4 (s0 - s) := Int.mul_le_mul_of_nonneg_left (by omega) (Int.le_of_lt (Int.mul_pos (Int.mul_pos (by omega) (D4 _)) p0))
     have g : 100 <= A4 (2 * r) := by
       have : A4 2 <= A4 (2 * r) := V7 (by omega)
       have e : A4 2 = 100 := rfl
       omega
     have a3 : 100 * (A4 (-s0) * A4 (-s)) <= A4 (2 * r) * (A4 (-s0) * A4 (-s)) := Int.mul_le_mul_of_nonneg_right g (Int.le_of_lt (Int.mul_pos p0 bp))
     have e3 : 100 * A4 (-s0) * A4 (-s) = 100 * (A4 (-s0) * A4 (-s)) := by ac_rfl
     have e4 : A4 (2 * r) * (A4 (-s0) * A4 (-s)) = A4 (2 * r) * A4 (-s) * A4 (-s0) := by ac_rfl
     exact Int.lt_of_mul_lt_mul_right (a := A4 (-s0)) (by rw [q] at a1; rw [<- e4]; omega) (Int.le_of_lt p0)
 apply Classical.byContradiction
 intro z
 have w : A4 r <= whQ t s := by omega
 have ww : A4 r * A4 r <= whQ t s * whQ t s := Int.mul_le_mul w w (Int.le_of_lt (D4 _)) wq.1
 have e : A4 (2 * r) = A4 r * A4 r := by
   unfold A4
   rw [<- Int.natCast_mul, <- Nat.pow_add]
   congr 2
   omega
 have := wq.2.1
 have b : A4 r * A4 r * A4 (-s) <= whQ t s * whQ t s * A4 (-s) := Int.mul_le_mul_of_nonneg_right ww (Int.le_of_lt bp)
 rw [e] at key
 omega
theorem V2y {v : Cv} {t n : Int} (ok : v.Ok) (ht : SzQ t) (n0 : -200 <= n) (n1 : n <= 200) : -200 <= n - 2 * v.fin (A6s t n) /\ n - 2 * v.fin (A6s t n) <= 200 /\ whQ t (n - 2 * v.fin (A6s t n)) < A4 v.r := by
 have ld := C9w ht n
 have lb := C6t ht ld
 have r1 := ok.r1; have r2 := ok.r2; have l1 := ok.l1; have l2 := ok.l2
 have rm := V7f (s := n - 2 * v.fin (A6s t n)) (r := v.r) ht.1 ld r1 (by
   unfold Cv.fin A0v
   split <;> omega)
 refine ⟨?_, ?_, rm⟩
 . unfold Cv.fin A0v
   split <;> omega
 unfold Cv.fin A0v
 split <;> omega
def A6c (f k : Int) : Int := ((f.toNat ^ k.natAbs : Nat) : Int)
def sgI (s k : Int) : Int := if k % 2 = 1 then s else 0
theorem A0qr {s k : Int} (h0 : 0 <= s) (h1 : s <= 1) : 0 <= sgI s k /\ sgI s k <= 1 := by unfold sgI; split <;> omega
theorem U1e {f k : Int} (f0 : 0 < f) (f1 : f < A4 24) (k0 : -20 <= k) (k1 : k <= 20) : SzL (A6c f k) := by
 unfold A6c
 have a : 0 < f.toNat ^ k.natAbs := Nat.pow_pos (by omega)
 refine ⟨by omega, ?_⟩
 have e : A4 24 = ((10 ^ 24 : Nat) : Int) := rfl
 have b : f.toNat ^ k.natAbs <= (10 ^ 24) ^ k.natAbs := Nat.pow_le_pow_left (by omega) _
 have c : (10 ^ 24) ^ k.natAbs <= (10 ^ 24) ^ 20 := Nat.pow_le_pow_right (by decide) (by omega)
 have d : (10 ^ 24) ^ 20 < 10 ^ 500 := by decide +kernel
 have g : A4 500 = ((10 ^ 500 : Nat) : Int) := rfl
 rw [g]
 exact Int.ofNat_lt.mpr (by omega)
theorem szl_one : SzL 1 := ⟨by decide, by decide +kernel⟩
noncomputable def rootR (v : Cv) (x : Nm) : Nm × List Str := if x.f = 0 then (A1d v x.s (x.p / 2), []) else if x.s = 1 then (A1q, ["void"]) else setL v 0 (.roo x.f x.p) (x.p / 2)
noncomputable def powR (v : Cv) (x : Nm) (k : Int) : Nm × List Str :=
 if x.f = 0 then (if k = 0 then (A1q, ["void"]) else if k < 0 then (⟨.end_, sgI x.s k, 0, 0⟩, ["split"]) else (A1d v (sgI x.s k) (k * x.p), []))
 else if k < 0 then setL v (sgI x.s k) (.rat 1 (A6c x.f k) (k * x.p)) (k * x.p) else setL v (sgI x.s k) (.rat (A6c x.f k) 1 (k * x.p)) (k * x.p)
def C7y (CN CC CT CR CQ : Addr) : Sp := fun vs H Q E => A7x CN CC CT CR (A6q CR) (C9n CR) vs H Q E \/ A7x CN CC CT CQ (B1s CQ) (J4x CQ) vs H Q E
def Y5g (CN CC CT : Addr) : Sp := fun vs H Q E => ∃ c v a b xs ys n x, vs = [.ref c, .ref n] /\ A0n CC H c v a b xs ys /\ v.Ok /\ xs.length <= 900 /\ Z2 xs = xs /\ V1 CN H n x /\ x.k = .plain /\ x.Ok /\ A1r CN CC CT H c v b xs ys (rootR v x) Q E
theorem A0rp : C5 Q39 Q39 (A2 C9m) := scK
theorem A0gb {f f1 f2 f3 f4 f5 fQ CN CC CB' CT CR CQ CE : Addr} {fd fd1 fd2 fd3 fd4 fd5 fdQ : FuncData} {d0 : Value} {gP : List Value -> List Value -> List Value} {vP : List V -> List V -> List V} (D : Def K mg "root" Q39 C9m f fd) (D_need_number : Def K mg "need_number" ["thing"] A4q f1 fd1) (G_need_number : A8 P w K mg base (CX1 P w) 1 f1 fd1 ["thing"] (B9z K CN CB'))
   (D_nothing : Def K mg "nothing" [] Z0 f2 fd2) (G_nothing : A8 P w K mg base (CX1 P w) 3 f2 fd2 [] (A1v CN)) (D_nought : Def K mg "nought" Q7 A0h f3 fd3) (G_nought : A8 P w K mg base (CX1 P w) 3 f3 fd3 Q7 (A4m CN CC)) (D_void : Def K mg "void" ["context"] B1k f4 fd4) (G_void : A8 P w K mg base (CX1 P w) 4 f4 fd4 ["context"] (C1w CN CC CT))
   (D_settled : Def K mg "settled" Q13 A0c f5 fd5) (G_settled : A8 P w K mg base (CX1 P w) 6 f5 fd5 Q13 (C7y CN CC CT CR CQ)) (N : Num K mg CN) (MQ : A0ra P w K mg base CQ fQ fdQ d0 gP vP) (RQ : V8b K mg CQ CE) : A8 P w K mg base (CX1 P w) 7 f fd Q39 (Y5g CN CC CT) := by
 refine D.F.okE A0rp (fun vs H Q E h => ?_) (fun X cdv A outer s H vs Q E hX hr hx h => ?_)
 . obtain ⟨c, v, a, b, xs, ys, n, x, rfl, _⟩ := h
   rfl
 subst hX
 obtain ⟨c, v, a, b, xs, ys, n, x, rfl, hc, ok, lx, ox, hn, hk, xo, kk⟩ := h
 refine ⟨_, (A3 (V8 (C9 D_need_number G_need_number hr hx (A0 (pv 1) A5))) (A3 (G4 (C7 G2 (D6 (pv 1) rfl) D5 (C6 _)) (A6 (B0 (A3f D_nothing G_nothing hr hx))) D0) (A3 (G4 (PW.pt (C1u (C7 G2 (D6 (pv 1) rfl) D5 (C6 _)) (B5v (C7 G2 (D6 (pv 1) rfl) A1 (C6 _))))) (A6 (B0 (C9 D_nought G_nought hr hx (A0 (pv 0) (A0 (D6 (pv 1) rfl) (A0 (A9 D8 (D6 (pv 1) rfl) A1) A5)))))) D0) (A3 (G4 (C7 G2 (D6 (pv 1) rfl) A1 (C6 _)) (A6 (B0 (C9 D_void G_void hr hx (A0 (pv 0) A5)))) D0) (A3 (G4 (C7 G2 (D6 (pv 1) rfl) D5 (C6 _)) (A6 (B0 (pv 1))) D0) (A6 (B0 (C9 D_settled G_settled hr hx (A0 (pv 0) (A0 A1 (A0 (A6v MQ.m MQ.g hr RQ.g MQ.b3 .nil hx (A0 (D6 (pv 1) rfl) (A0 (D6 (pv 1) rfl) A5))) (A0 (A9 D8 (D6 (pv 1) rfl) A1) A5)))))))))))), ?_⟩
 obtain ⟨dn, en⟩ := id hn
 have xp0 := xo.p0; have xp1 := xo.p1; have xf0 := xo.f0; have xf1 := xo.f1
 have npl : ∀ {z : Str}, Kd.plain.str ≠ z -> ¬ V.str x.k.str = V.str z := fun hz e => by
   rw [hk] at e
   exact hz (by injection e)
 have d2 : (0 : Int) < 2 /\ (2 : Int).natAbs.log2 < 9000 := ⟨by decide, by decide +kernel⟩
 refine ⟨_, rfl, _, rfl, .inl ⟨n, _, _, _, _, rfl, hn, ?_⟩⟩
 refine ⟨_, rfl, n, CN, dn, _, _, rfl, en, N.cl, N.n1, B1q _ _ _ _, rfl, _, rfl, J9 (npl (by decide +kernel)) ?_⟩
 refine ⟨_, rfl, n, CN, dn, _, _, rfl, en, N.cl, N.n1, B1q _ _ _ _, rfl, _, rfl, A0p (by rw [hk]; rfl) ?_⟩
 refine ⟨_, rfl, n, CN, dn, _, _, rfl, en, N.cl, N.n3, B6m _ _ _ _, rfl, _, rfl, ?_⟩
 unfold rootR at kk
 by_cases hf : x.f = 0
 . rw [if_pos hf] at kk
   refine A0p (congrArg V.int hf) ?_
   exact ⟨_, rfl, _, rfl, n, CN, dn, _, _, rfl, en, N.cl, N.n2, D5e _ _ _ _, _, rfl, n, CN, dn, _, _, rfl, en, N.cl, N.n4, A6z _ _ _ _, _, _, rfl, rfl, d2, c, v, a, b, xs, ys, x.s, x.p / 2, rfl, hc, fun m H' nm sm num => kk.calm ox sm hc num⟩
 rw [if_neg hf] at kk
 refine J9 (fun z => hf (by injection z)) ?_
 refine ⟨_, rfl, n, CN, dn, _, _, rfl, en, N.cl, N.n2, D5e _ _ _ _, rfl, _, rfl, J1 (fun hs => ?_) (fun hs => ?_)⟩
 . rw [if_pos (V.int.inj hs)] at kk
   exact ⟨_, rfl, c, v, a, b, xs, ys, rfl, hc, lx, kk⟩
 rw [if_neg fun z => hs (congrArg V.int z)] at kk
 refine ⟨_, rfl, n, CN, dn, _, _, rfl, en, N.cl, N.n1, B1q _ _ _ _, rfl, _, rfl, J9 (npl (by decide +kernel)) ?_⟩
 refine ⟨_, rfl, _, rfl, n, CN, dn, _, _, rfl, en, N.cl, N.n3, B6m _ _ _ _, _, rfl, n, CN, dn, _, _, rfl, en, N.cl, N.n4, A6z _ _ _ _, fun q dq m1 m2 me => A0yx m1 m2 me fun H4 s4 ra => ⟨rfl, ?_⟩⟩
 have szq : SzQ x.f := ⟨by omega, Int.lt_of_le_of_lt xf1 (by decide +kernel)⟩
 obtain ⟨q0, q1, wr⟩ := V2y ok szq xp0 xp1
 have ld := C9w szq x.p
 have wq := A6x (t := x.f) (s := x.p - 2 * v.fin (A6s x.f x.p)) (by omega)
 obtain ⟨dn4, en4⟩ := hn.same s4
 refine ⟨_, rfl, n, CN, dn4, _, _, rfl, en4, N.cl, N.n4, A6z _ _ _ _, _, _, rfl, rfl, d2, .inr ⟨c, v, a, b, xs, ys, q, rooE CQ x.f x.p (A6s x.f x.p), 0, x.p / 2, rfl, hc.same s4, ok, lx, rooV szq (by omega) (by omega) ld, ra, ⟨q0, q1⟩, wq.1, wr, by decide, by decide, kk.same s4⟩⟩
def Y5v (CN CC CT : Addr) : Sp := fun vs H Q E => ∃ c v a b xs ys, ∃ s p k : Int, vs = [.ref c, .int s, .int p, .int k] /\ A0n CC H c v a b xs ys /\ xs.length <= 900 /\ Z2 xs = xs /\ 0 <= s /\ s <= 1 /\ -20 <= k /\ k <= 20 /\
 A1r CN CC CT H c v b xs ys (if k = 0 then (A1q, ["void"]) else if k < 0 then (⟨.end_, s, 0, 0⟩, ["split"]) else (A1d v s (k * p), [])) Q E
theorem A0tt : C5 Q40 Q40 (A2 A0u) := scK
theorem A0jt {f f1 f2 f3 CN CC CT : Addr} {fd fd1 fd2 fd3 : FuncData} (D : Def K mg "power_of_nought" Q40 A0u f fd) (D_void : Def K mg "void" ["context"] B1k f1 fd1) (G_void : A8 P w K mg base (CX1 P w) 4 f1 fd1 ["context"] (C1w CN CC CT)) (D_nought : Def K mg "nought" Q7 A0h f2 fd2) (G_nought : A8 P w K mg base (CX1 P w) 3 f2 fd2 Q7 (A4m CN CC))
   (D_split_to_end : Def K mg "split_to_end" Q5 B1r f3 fd3) (G_split_to_end : A8 P w K mg base (CX1 P w) 4 f3 fd3 Q5 (G2q CN CC CT)) : A8 P w K mg base (CX1 P w) 5 f fd Q40 (Y5v CN CC CT) := by
 refine D.F.okE A0tt (fun vs H Q E h => ?_) (fun X cdv A outer s H vs Q E hX hr hx h => ?_)
 . obtain ⟨c, v, a, b, xs, ys, sg, p, n, rfl, _⟩ := h
   rfl
 subst hX
 obtain ⟨c, v, a, b, xs, ys, sg, p, n, rfl, hc, lx, ox, s0, s1, n0, n1, k⟩ := h
 refine ⟨_, (A3 (G4 (C7 G2 (pv 3) A1 (C6 _)) (A6 (B0 (C9 D_void G_void hr hx (A0 (pv 0) A5)))) D0) (A6 (B0 (V5 (C7 A6u (pv 3) A1 (C6 _)) (C9 D_nought G_nought hr hx (A0 (pv 0) (A0 (pv 1) (A0 (A9 G5 (pv 3) (pv 2)) A5)))) (C9 D_split_to_end G_split_to_end hr hx (A0 (pv 0) (A0 (pv 1) A5))))))), ?_⟩
 refine ⟨_, rfl, rfl, _, rfl, J1 (fun h => ?_) (fun h => ?_)⟩
 . rw [if_pos (V.int.inj h)] at k
   exact ⟨_, rfl, c, v, a, b, xs, ys, rfl, hc, lx, k⟩
 have hn : ¬ n = 0 := fun z => h (congrArg V.int z)
 rw [if_neg hn] at k
 refine ⟨_, rfl, _, _, rfl, rfl, _, rfl, J1 (fun h => ?_) (fun h => ?_)⟩
 . have h : n > 0 := h
   rw [if_neg (by omega)] at k
   exact ⟨_, rfl, _, rfl, _, rfl, _, rfl, _, _, rfl, rfl, A2u.ok (.inl ⟨by omega, by omega⟩), c, v, a, b, xs, ys, sg, _, rfl, hc, fun m H' nm sm num => k.calm ox sm hc num⟩
 have h : ¬ n > 0 := h
 rw [if_pos (by omega)] at k
 exact ⟨_, rfl, _, rfl, c, v, a, b, xs, ys, sg, rfl, hc, lx, s0, s1, k⟩
def A0qu (CN CC CT : Addr) : Sp := fun vs H Q E => ∃ c v a b xs ys n x, ∃ k : Int, vs = [.ref c, .ref n, .int k] /\ A0n CC H c v a b xs ys /\ v.Ok /\ xs.length <= 900 /\ Z2 xs = xs /\ V1 CN H n x /\ x.k = .plain /\ x.Ok /\ x.f < A4 24 /\ -60 <= x.p /\ x.p <= 60 /\ -20 <= k /\ k <= 20 /\ A1r CN CC CT H c v b xs ys (powR v x k) Q E
theorem scPow : C5 ["context", "one", "count", "sign", "ideal", "product", "exact"] Q48 (A2 B7m) := scK
theorem kp_b {k p : Int} (k0 : -20 <= k) (k1 : k <= 20) (p0 : -60 <= p) (p1 : p <= 60) : -1300 <= k * p /\ k * p <= 1300 := by
 have a : (k * p).natAbs <= 20 * 60 := by
   rw [Int.natAbs_mul]
   exact Nat.mul_le_mul (by omega) (by omega)
 omega
theorem A0tj {f f1 f2 f3 f4 f5 f6 f7 fR CN CC CB' CT CR CE CQ : Addr} {fd fd1 fd2 fd3 fd4 fd5 fd6 fd7 fdR : FuncData} {sEn : Stmt} {d0 : Value} {gP : List Value -> List Value -> List Value} {vP : List V -> List V -> List V} (D : Def K mg "to_power" Q48 B7m f fd) (D_need_number : Def K mg "need_number" ["thing"] A4q f1 fd1) (G_need_number : A8 P w K mg base (CX1 P w) 1 f1 fd1 ["thing"] (B9z K CN CB'))
   (D_need_count : Def K mg "need_count" Q35 B7h f2 fd2) (G_need_count : A8 P w K mg base (CX1 P w) 2 f2 fd2 Q35 V4f) (D_nothing : Def K mg "nothing" [] Z0 f3 fd3) (G_nothing : A8 P w K mg base (CX1 P w) 3 f3 fd3 [] (A1v CN)) (D_power_of_end : Def K mg "power_of_end" ["context", "sign", "count"] sEn f4 fd4)
   (D_power_of_nought : Def K mg "power_of_nought" Q40 A0u f5 fd5) (G_power_of_nought : A8 P w K mg base (CX1 P w) 5 f5 fd5 Q40 (Y5v CN CC CT)) (D_product_of : Def K mg "product_of" Q21 Z6 f6 fd6) (G_product_of : A8 P w K mg base (CX1 P w) 1 f6 fd6 Q21 B1u)
   (D_settled : Def K mg "settled" Q13 A0c f7 fd7) (G_settled : A8 P w K mg base (CX1 P w) 6 f7 fd7 Q13 (A4d CN CC CT CR)) (N : Num K mg CN) (MR : J5n P w K mg base CR fR fdR d0 gP vP) (R : G2r K mg CR CE) (O : Own mg) : A8 P w K mg base (CX1 P w) 7 f fd Q48 (A0qu CN CC CT) := by
 have G_power_of_end : A8 P w K mg base (CX1 P w) 1 f4 fd4 ["context", "sign", "count"] (fun _ _ _ _ => False) := A8.never
 refine D.F.okE scPow (fun vs H Q E h => ?_) (fun X cdv A outer s H vs Q E hX hr hx h => ?_)
 . obtain ⟨c, v, a, b, xs, ys, n, x, k, rfl, _⟩ := h
   rfl
 subst hX
 obtain ⟨c, v, a, b, xs, ys, n, x, k, rfl, hc, ok, lx, ox, hn, hk, xo, f24, p0, p1, k0, k1, kk⟩ := h
 refine ⟨_, (A3 (B5 (V8 (C9 D_need_number G_need_number hr hx (A0 (pv 1) A5)))) (A3 (B5 (V8 (C9 D_need_count G_need_count hr hx (A0 (pv 2) (A0 A1 A5))))) (A3 (B5 (G4 (C7 G2 (D6 (pv 1) rfl) D5 (C6 _)) (A6 (B0 (A3f D_nothing G_nothing hr hx))) D0)) (A3 (B5 (D3 (i := 3) scPow.nd rfl (Or.inl rfl) (V5 (C7 G2 (A9 J0 (pv 2) A1) A1 (C6 _)) (D6 (pv 1) rfl) A1))) (A3 (B5 (G4 (C7 G2 (D6 (pv 1) rfl) D5 (C6 _)) (A6 (B0 (C9 D_power_of_end G_power_of_end hr hx (A0 (pv 0) (A0 (pv 3) (A0 (pv 2) A5)))))) D0)) (A3 (B5 (G4 (C7 G2 (D6 (pv 1) rfl) A1 (C6 _)) (A6 (B0 (C9 D_power_of_nought G_power_of_nought hr hx (A0 (pv 0) (A0 (pv 3) (A0 (D6 (pv 1) rfl) (A0 (pv 2) A5))))))) D0)) (A3 (B5 (D3 (i := 4) scPow.nd rfl (Or.inl rfl) (A9 G5 (pv 2) (D6 (pv 1) rfl)))) (A3 (B5 (D3 (i := 5) scPow.nd rfl (Or.inl rfl) (C9 D_product_of G_product_of hr hx (A0 (D6 (pv 1) rfl) (A0 (J3 A6r (by rfl) O.abs_ boot_abs (A0 (pv 2) A5)) A5))))) (A3 (B5 (D3 (i := 6) scPow.nd rfl (Or.inl rfl) (V5 (C7 B6t (pv 2) A1 (C6 _)) (A6v MR.m MR.g hr R.g MR.b3 .nil hx (A0 A1 (A0 (pv 5) (A0 (pv 4) A5)))) (A6v MR.m MR.g hr R.g MR.b3 .nil hx (A0 (pv 5) (A0 A1 (A0 (pv 4) A5))))))) (A6 (B0 (C9 D_settled G_settled hr hx (A0 (pv 0) (A0 (pv 3) (A0 (pv 6) (A0 (pv 4) A5)))))))))))))))), ?_⟩
 obtain ⟨dn, en⟩ := id hn
 have npl : ∀ {z : Str}, Kd.plain.str ≠ z -> ¬ V.str x.k.str = V.str z := fun hz e => by
   rw [hk] at e
   exact hz (by injection e)
 refine ⟨fun σ' H' => H' = H /\ σ' = [some (.ref c), some (.ref n), some (.int k), none, none, none, none], ⟨_, rfl, _, rfl, .inl ⟨n, _, _, _, _, rfl, hn, rfl, rfl⟩⟩, ?_⟩
 rintro σ' H1 ⟨rfl, rfl⟩
 refine ⟨fun σ' H' => H' = H1 /\ σ' = [some (.ref c), some (.ref n), some (.int k), none, none, none, none], ⟨_, rfl, k, 20, rfl, by omega, by omega, rfl, rfl⟩, ?_⟩
 rintro σ' H2 ⟨rfl, rfl⟩
 refine ⟨fun σ' H' => H' = H2 /\ σ' = [some (.ref c), some (.ref n), some (.int k), none, none, none, none], ⟨_, rfl, n, CN, dn, _, _, rfl, en, N.cl, N.n1, B1q _ _ _ _, rfl, _, rfl, J9 (npl (by decide +kernel)) ⟨rfl, rfl⟩⟩, ?_⟩
 rintro σ' H3 ⟨rfl, rfl⟩
 have so := A0qr (k := k) xo.s0 xo.s1
 refine ⟨fun σ' H' => H' = H3 /\ σ' = [some (.ref c), some (.ref n), some (.int k), some (.int (sgI x.s k)), none, none, none], ?_, ?_⟩
 . refine ⟨_, rfl, _, _, rfl, rfl, (by decide : (0 : Int) < 2), rfl, _, rfl, ?_⟩
   by_cases h2 : k % 2 = 1
   . refine A0p (congrArg V.int h2) ⟨_, rfl, n, CN, dn, _, _, rfl, en, N.cl, N.n2, D5e _ _ _ _, rfl, ?_⟩
     show _ = [some (V.ref c), some (V.ref n), some (V.int k), some (V.int (sgI x.s k)), none, none, none]
     unfold sgI
     rw [if_pos h2]
     rfl
   . refine J9 (fun z => h2 (by injection z)) ⟨rfl, ?_⟩
     show _ = [some (V.ref c), some (V.ref n), some (V.int k), some (V.int (sgI x.s k)), none, none, none]
     unfold sgI
     rw [if_neg h2]
     rfl
 rintro σ' H4 ⟨rfl, rfl⟩
 refine ⟨fun σ' H' => H' = H4 /\ σ' = [some (.ref c), some (.ref n), some (.int k), some (.int (sgI x.s k)), none, none, none], ⟨_, rfl, n, CN, dn, _, _, rfl, en, N.cl, N.n1, B1q _ _ _ _, rfl, _, rfl, J9 (npl (by decide +kernel)) ⟨rfl, rfl⟩⟩, ?_⟩
 rintro σ' H5 ⟨rfl, rfl⟩
 unfold powR at kk
 refine ⟨fun σ' H' => H' = H5 /\ x.f ≠ 0 /\ σ' = [some (.ref c), some (.ref n), some (.int k), some (.int (sgI x.s k)), none, none, none], ?_, ?_⟩
 . refine ⟨_, rfl, n, CN, dn, _, _, rfl, en, N.cl, N.n3, B6m _ _ _ _, rfl, _, rfl, J1 (fun h0 => ?_) (fun h0 => ⟨rfl, fun z => h0 (congrArg V.int z), rfl⟩)⟩
   rw [if_pos (V.int.inj h0)] at kk
   exact ⟨_, rfl, _, rfl, _, rfl, n, CN, dn, _, _, rfl, en, N.cl, N.n4, A6z _ _ _ _, _, rfl, c, v, a, b, xs, ys, _, x.p, k, rfl, hc, lx, ox, so.1, so.2, k0, k1, kk⟩
 rintro σ' H6 ⟨rfl, hf, rfl⟩
 rw [if_neg hf] at kk
 have xp0 := xo.p0; have xp1 := xo.p1; have xf0 := xo.f0; have xf1 := xo.f1
 refine ⟨fun σ' H' => H' = H6 /\ σ' = [some (.ref c), some (.ref n), some (.int k), some (.int (sgI x.s k)), some (.int (k * x.p)), none, none], ⟨_, rfl, _, rfl, n, CN, dn, _, _, rfl, en, N.cl, N.n4, A6z _ _ _ _, _, _, rfl, rfl, A2u.ok (.inl ⟨by omega, by omega⟩), rfl, rfl⟩, ?_⟩
 rintro σ' H7 ⟨rfl, rfl⟩
 refine ⟨fun σ' H' => H' = H7 /\ σ' = [some (.ref c), some (.ref n), some (.int k), some (.int (sgI x.s k)), some (.int (k * x.p)), some (.int (A6c x.f k)), none], ?_, ?_⟩
 . have e60 : ((10 ^ 60 : Nat) : Int) = 10 ^ 60 := by decide +kernel
   have b : x.f.toNat < 2 ^ 200 := Nat.lt_of_lt_of_le (m := 10 ^ 60) (by omega) (by decide +kernel)
   refine ⟨_, rfl, n, CN, dn, _, _, rfl, en, N.cl, N.n3, B6m _ _ _ _, _, rfl, k, rfl, x.f.toNat, k.natAbs, 200, ?_, b, by omega, rfl, rfl⟩
   show [V.int x.f, V.int (if k < 0 then -k else k)] = [V.int (x.f.toNat : Int), V.int (k.natAbs : Int)]
   rw [Int.toNat_of_nonneg xf0]
   congr 3
   split <;> omega
 rintro σ' H8 ⟨rfl, rfl⟩
 have sz := U1e (k := k) (show 0 < x.f by omega) f24 k0 k1
 have kb := kp_b k0 k1 p0 p1
 by_cases hk0 : k < 0
 . rw [if_pos hk0] at kk
   have ri := B7s (v := v) ok szl_one sz kb.1 kb.2
   have ld := A5m szl_one.sz sz.sz (k * x.p)
   refine ⟨fun σ' H' => ∃ q, C8 H8 H' /\ B1z CR H' q 1 (A6c x.f k) (k * x.p) /\ σ' = [some (.ref c), some (.ref n), some (.int k), some (.int (sgI x.s k)), some (.int (k * x.p)), some (.int (A6c x.f k)), some (.ref q)], ?_, ?_⟩
   . exact ⟨_, rfl, _, _, rfl, rfl, _, rfl, A0p hk0 ⟨_, rfl, _, rfl, fun q dq m1 m2 me => J5e m1 m2 me fun H9 s9 ra => ⟨rfl, q, s9, ra, rfl⟩⟩⟩
   rintro σ' H9 ⟨q, s9, ra, rfl⟩
   exact ⟨_, rfl, _, rfl, _, rfl, _, rfl, c, v, a, b, xs, ys, q, 1, A6c x.f k, k * x.p, _, sgI x.s k, k * x.p, rfl, hc.same s9, ok, lx, ra, A4v, sz.sz, ld, ri.1.1, ri.1.2, so.1, so.2, kk.same s9⟩
 rw [if_neg hk0] at kk
 have ri := B7s (v := v) ok sz szl_one kb.1 kb.2
 have ld := A5m sz.sz szl_one.sz (k * x.p)
 refine ⟨fun σ' H' => ∃ q, C8 H8 H' /\ B1z CR H' q (A6c x.f k) 1 (k * x.p) /\ σ' = [some (.ref c), some (.ref n), some (.int k), some (.int (sgI x.s k)), some (.int (k * x.p)), some (.int (A6c x.f k)), some (.ref q)], ?_, ?_⟩
 . exact ⟨_, rfl, _, _, rfl, rfl, _, rfl, J9 hk0 ⟨_, rfl, _, rfl, fun q dq m1 m2 me => J5e m1 m2 me fun H9 s9 ra => ⟨rfl, q, s9, ra, rfl⟩⟩⟩
 rintro σ' H9 ⟨q, s9, ra, rfl⟩
 exact ⟨_, rfl, _, rfl, _, rfl, _, rfl, c, v, a, b, xs, ys, q, A6c x.f k, 1, k * x.p, _, sgI x.s k, k * x.p, rfl, hc.same s9, ok, lx, ra, sz.sz, A4v, ld, ri.1.1, ri.1.2, so.1, so.2, kk.same s9⟩
abbrev A4x : Stmt := (top 92)
abbrev A5j : Stmt := (top 93)
abbrev B1v : Stmt := (top 94)
abbrev A2t : Stmt := (top 95)
abbrev A0a : Stmt := (top 96)
abbrev B7q : Stmt := (top 97)
abbrev B7r : Stmt := (top 98)
abbrev A4z : Stmt := (top 99)
abbrev A8h : Stmt := (top 100)
theorem V3p {a b : Int} (a0 : 0 <= a) (a1 : a <= 1) (b0 : 0 <= b) (b1 : b <= 1) : (a + b) % 2 = A0j a b := by
 unfold A0j
 split <;> omega
theorem B9x : Z2 [] = [] := by decide +kernel
theorem A6t : Z2 (["void"] : List Str) = (["void"] : List Str) := by decide +kernel
theorem D9f : Z2 (["split"] : List Str) = (["split"] : List Str) := by decide +kernel
structure J5 (H : Hp) (q : Addr) (x : Nm) : Prop where
 e : H q = some (.tup x.pv)
 o : x.Ok
 k : x.k = .plain
theorem J5.same {H H' : Hp} {q : Addr} {x : Nm} (h : J5 H q x) (s : C8 H H') : J5 H' q x := ⟨s _ _ h.e, h.o, h.k⟩
structure B8c (H : Hp) (q : Addr) (v : Cv) : Prop where
 e : H q = some (.tup (frV v.r v.y v.l v.m))
 ok : C7s v.r v.l v.m
theorem B8c.same {H H' : Hp} {q : Addr} {v : Cv} (h : B8c H q v) (s : C8 H H') : B8c H' q v := ⟨s _ _ h.e, h.ok⟩
theorem B8c.cv {H : Hp} {q : Addr} {v : Cv} (h : B8c H q v) : v.Ok := ⟨h.ok.r1, h.ok.r2, h.ok.l1, h.ok.l2, h.ok.m1, h.ok.m2⟩
theorem G1b {W r : Int} (h0 : 0 <= W) (hr : 1 <= r) : V4 W > r ↔ W >= A4 r := by
 have tp := D4 r
 by_cases z : W = 0
 . subst z
   have : V4 0 = 1 := by decide +kernel
   constructor
   . intro h; omega
   . intro h; omega
 obtain ⟨n, rfl⟩ : ∃ n : Nat, W = (n : Int) := ⟨W.toNat, by omega⟩
 obtain ⟨j, h1, h2⟩ := B5w n (by omega)
 rw [A7z h2 h1]
 obtain ⟨k, rfl⟩ : ∃ k : Nat, r = (k : Int) := ⟨r.toNat, by omega⟩
 have e : A4 (k : Int) = ((10 ^ k : Nat) : Int) := by unfold A4; rw [Int.toNat_natCast]
 rw [e]
 constructor
 . intro h
   exact Int.ofNat_le.mpr (Nat.le_trans (Nat.pow_le_pow_right (by decide) (by omega)) h1)
 intro h
 have h3 : 10 ^ k <= n := Int.ofNat_le.mp h
 have : 10 ^ k < 10 ^ (j + 1) := Nat.lt_of_le_of_lt h3 h2
 have := (Nat.pow_lt_pow_iff_right (by decide : 1 < 10)).mp this
 omega
theorem C7q {f : Int} (h0 : 0 <= f) (h : f ≠ 0) (h1 : f <= 10 ^ 60 - 1) : SzL f := by
 have e : (10 : Int) ^ 60 <= A4 500 := by decide +kernel
 exact ⟨by omega, by omega⟩
def J5h (x1 x2 : Nm) : Nm × List Str := if x1.f = 0 then (A1q, ["void"]) else (⟨.end_, A0j x1.s x2.s, 0, 0⟩, ["split"])
noncomputable def ovR (v : Cv) (x1 x2 : Nm) : Nm × List Str := if x2.f = 0 then J5h x1 x2 else if x1.f = 0 then (A1d v (A0j x1.s x2.s) (x1.p - x2.p), []) else setL v (A0j x1.s x2.s) (.rat x1.f x2.f (x1.p - x2.p)) (x1.p - x2.p)
noncomputable def whR (v : Cv) (x1 x2 : Nm) : Nm × List Str := if x2.f = 0 then J5h x1 x2 else if U0 x1 x2 >= A4 v.r then (A1q, ["void"]) else if U0 x1 x2 = 0 then (A1d v (A0j x1.s x2.s) (A0v (x1.p - x2.p) 0), []) else setL v (A0j x1.s x2.s) (.rat (U0 x1 x2) 1 0) (A0v (x1.p - x2.p) 0)
noncomputable def rsR (v : Cv) (x1 x2 : Nm) : Nm × List Str := if x2.f = 0 then (A1q, ["void"]) else if U0 x1 x2 >= A4 v.r then (A1q, ["void"]) else if (A0e x1 x2).f = 0 then (A1d v x1.s (V9 x1 x2), []) else setL v x1.s (.rat (A0e x1 x2).f 1 (V9 x1 x2)) (V9 x1 x2)
theorem J5k {t b n : Int} (ht : SzL t) (hb : SzL b) : (Lv.rat t b n).Ok := ⟨ht.sz, hb.sz⟩
def B5u : Sp := fun vs H Q _ => vs = [] /\ ∀ q H', C8 H H' -> B6v H' q A1q ["void"] -> Q (.ref q) H'
theorem A0gx : C5 [] [] (A2 A4x) := scK
theorem Y4g {f : Addr} {fd : FuncData} (D : Def K mg "_law_void" [] A4x f fd) : A8 P w K mg base (CX1 P w) 1 f fd [] B5u := by
 refine D.F.okE A0gx (fun vs H Q E h => ?_) (fun X cdv A outer s H vs Q E hX hr hx h => ?_)
 . obtain ⟨rfl, _⟩ := h
   rfl
 subst hX
 obtain ⟨rfl, k⟩ := h
 refine ⟨_, (A6 (B0 (U6 (A0 (U6 (A0 D5 (A0 A1 (A0 A1 (A0 A1 A5))))) (A0 (U4 (A0 D5 A5)) A5))))), ?_⟩
 refine ⟨D7 (show 4 <= 1000 by decide), fun a na => ⟨D7 (show 1 <= 1000 by decide), fun b nb => ⟨D7 (show 2 <= 1000 by decide), fun q nq => ?_⟩⟩⟩
 exact k q _ ((C8.upd na).trans ((C8.upd nb).trans (C8.upd nq))) ⟨a, b, A7, ((C8.upd nb).trans (C8.upd nq)) _ _ A7, (C8.upd nq) _ _ A7⟩
def D0b : Sp := fun vs H Q _ => ∃ s : Int, vs = [.int s] /\ ∀ q H', C8 H H' -> B6v H' q ⟨.end_, s, 0, 0⟩ ["split"] -> Q (.ref q) H'
theorem Y7q : C5 ["_law_sign"] ["_law_sign"] (A2 A5j) := scK
theorem V6s {f : Addr} {fd : FuncData} (D : Def K mg "_law_split" ["_law_sign"] A5j f fd) : A8 P w K mg base (CX1 P w) 1 f fd ["_law_sign"] D0b := by
 refine D.F.okE Y7q (fun vs H Q E h => ?_) (fun X cdv A outer s H vs Q E hX hr hx h => ?_)
 . obtain ⟨s, rfl, _⟩ := h
   rfl
 subst hX
 obtain ⟨sg, rfl, k⟩ := h
 refine ⟨_, (A6 (B0 (U6 (A0 (U6 (A0 D5 (A0 (pv 0) (A0 A1 (A0 A1 A5))))) (A0 (U4 (A0 D5 A5)) A5))))), ?_⟩
 refine ⟨_, rfl, D7 (show 4 <= 1000 by decide), fun a na => ⟨D7 (show 1 <= 1000 by decide), fun b nb => ⟨D7 (show 2 <= 1000 by decide), fun q nq => ?_⟩⟩⟩
 exact k q _ ((C8.upd na).trans ((C8.upd nb).trans (C8.upd nq))) ⟨a, b, A7, ((C8.upd nb).trans (C8.upd nq)) _ _ A7, (C8.upd nq) _ _ A7⟩
def G2n : Sp := fun vs H Q _ => ∃ fq v q1 q2 x1 x2, vs = [.ref fq, .ref q1, .ref q2] /\ B8c H fq v /\ J5 H q1 x1 /\ J5 H q2 x2 /\ ∀ q H', C8 H H' -> B6v H' q (ovR v x1 x2).1 (Z2 (ovR v x1 x2).2) -> Q (.ref q) H'
theorem scLOver : C5 ["_law_frame_here", "_law_one", "_law_other", "_law_sign", "_law_ten_here"] Q8 (A2 B1v) := scK
theorem Y6u {f f1 f2 f3 f4 : Addr} {fd fd1 fd2 fd3 fd4 : FuncData} (D : Def K mg "_law_over" Q8 B1v f fd) (D_l_void : Def K mg "_law_void" [] A4x f1 fd1) (G_l_void : A8 P w K mg base (CX1 P w) 1 f1 fd1 [] B5u)
   (D_l_split : Def K mg "_law_split" ["_law_sign"] A5j f2 fd2) (G_l_split : A8 P w K mg base (CX1 P w) 1 f2 fd2 ["_law_sign"] D0b)
   (D_l_nought : Def K mg "_law_nought" Q11 A0b f3 fd3) (G_l_nought : A8 P w K mg base (CX1 P w) 1 f3 fd3 Q11 A4e)
   (D_l_settled : Def K mg "_law_settled" Q14 Y7 f4 fd4) (G_l_settled : A8 P w K mg base (CX1 P w) 4 f4 fd4 Q14 A1z) (O : Own mg) : A8 P w K mg base (CX1 P w) 5 f fd Q8 G2n := by
 refine D.F.okE scLOver (fun vs H Q E h => ?_) (fun X cdv A outer s H vs Q E hX hr hx h => ?_)
 . obtain ⟨fq, v, q1, q2, x1, x2, rfl, _⟩ := h
   rfl
 subst hX
 obtain ⟨fq, v, q1, q2, x1, x2, rfl, fr, a1, a2, k⟩ := h
 refine ⟨_, (A3 (B5 (D3 (i := 3) scLOver.nd rfl (Or.inl rfl) (A9 J0 (A9 J4 (D9 G3 (pv 1) A1 (fun _ _ => rfl)) (D9 G3 (pv 2) A1 (fun _ _ => rfl))) A1))) (A3 (B5 (D3 (i := 4) scLOver.nd rfl (Or.inl rfl) (A9 J8 (D9 G3 (pv 1) A1 (fun _ _ => rfl)) (D9 G3 (pv 2) A1 (fun _ _ => rfl))))) (A3 (B5 (G4 (C7 G2 (D9 G3 (pv 2) A1 (fun _ _ => rfl)) A1 (C6 _)) (A6 (B0 (V5 (C7 G2 (D9 G3 (pv 1) A1 (fun _ _ => rfl)) A1 (C6 _)) (A3f D_l_void G_l_void hr hx) (C9 D_l_split G_l_split hr hx (A0 (pv 3) A5))))) D0)) (A3 (B5 (G4 (C7 G2 (D9 G3 (pv 1) A1 (fun _ _ => rfl)) A1 (C6 _)) (A6 (B0 (C9 D_l_nought G_l_nought hr hx (A0 (pv 0) (A0 (pv 3) (A0 (pv 4) A5)))))) D0)) (A6 (B0 (C9 D_l_settled G_l_settled hr hx (A0 (pv 0) (A0 (pv 3) (A0 (U6 (A0 (D9 G3 (pv 1) A1 (fun _ _ => rfl)) (A0 (D9 G3 (pv 2) A1 (fun _ _ => rfl)) (A0 (pv 4) (A0 A3k A5))))) (A0 (pv 4) A5))))))))))), ?_⟩
 have o1 := a1.o; have o2 := a2.o
 have s10 := o1.s0; have s11 := o1.s1; have s20 := o2.s0; have s21 := o2.s1
 have p10 := o1.p0; have p11 := o1.p1; have p20 := o2.p0; have p21 := o2.p1
 have f10 := o1.f0; have f11 := o1.f1; have f20 := o2.f0; have f21 := o2.f1
 have ok := fr.cv
 have us := C1v x1.s x2.s
 have z4 : 4 <= sizeLine := D7 (by decide)
 refine ⟨fun σ' H' => H' = H /\ σ' = [some (.ref fq), some (.ref q1), some (.ref q2), some (.int (A0j x1.s x2.s)), none], ?_, ?_⟩
 . refine ⟨_, rfl, q1, _, _, _, rfl, rfl, SqT.of a1.e, B8 (j := 0) rfl, _, rfl, q2, _, _, _, rfl, rfl, SqT.of a2.e, B8 (j := 0) rfl, _, _, rfl, rfl, _, _, rfl, rfl, (by decide : (0 : Int) < 2), rfl, ?_⟩
   rw [<- V3p s10 s11 s20 s21]
   rfl
 rintro σ' H1 ⟨rfl, rfl⟩
 refine ⟨fun σ' H' => H' = H1 /\ σ' = [some (.ref fq), some (.ref q1), some (.ref q2), some (.int (A0j x1.s x2.s)), some (.int (x1.p - x2.p))], ⟨_, rfl, q1, _, _, _, rfl, rfl, SqT.of a1.e, B8 (j := 2) rfl, _, rfl, q2, _, _, _, rfl, rfl, SqT.of a2.e, B8 (j := 2) rfl, _, _, rfl, rfl, rfl, rfl⟩, ?_⟩
 rintro σ' H2 ⟨rfl, rfl⟩
 unfold ovR J5h at k
 refine ⟨fun σ' H' => H' = H2 /\ x2.f ≠ 0 /\ σ' = [some (.ref fq), some (.ref q1), some (.ref q2), some (.int (A0j x1.s x2.s)), some (.int (x1.p - x2.p))], ?_, ?_⟩
 . refine ⟨_, rfl, q2, _, _, _, rfl, rfl, SqT.of a2.e, B8 (j := 1) rfl, rfl, _, rfl, J1 (fun h => ?_) (fun h => ⟨rfl, fun z => h (congrArg V.int z), rfl⟩)⟩
   rw [if_pos (V.int.inj h)] at k
   refine ⟨_, rfl, q1, _, _, _, rfl, rfl, SqT.of a1.e, B8 (j := 1) rfl, rfl, _, rfl, J1 (fun h2 => ?_) (fun h2 => ?_)⟩
   . rw [if_pos (V.int.inj h2), A6t] at k
     exact ⟨rfl, k⟩
   . rw [if_neg fun z => h2 (congrArg V.int z), D9f] at k
     exact ⟨_, rfl, _, rfl, k⟩
 rintro σ' H3 ⟨rfl, hf2, rfl⟩
 rw [if_neg hf2] at k
 refine ⟨fun σ' H' => H' = H3 /\ x1.f ≠ 0 /\ σ' = [some (.ref fq), some (.ref q1), some (.ref q2), some (.int (A0j x1.s x2.s)), some (.int (x1.p - x2.p))], ?_, ?_⟩
 . refine ⟨_, rfl, q1, _, _, _, rfl, rfl, SqT.of a1.e, B8 (j := 1) rfl, rfl, _, rfl, J1 (fun h => ?_) (fun h => ⟨rfl, fun z => h (congrArg V.int z), rfl⟩)⟩
   rw [if_pos (V.int.inj h), B9x] at k
   exact ⟨_, rfl, _, rfl, _, rfl, fq, v.r, v.y, v.l, v.m, _, _, rfl, fr.e, k⟩
 rintro σ' H4 ⟨rfl, hf1, rfl⟩
 rw [if_neg hf1] at k
 have t1 := C7q f10 hf1 f11
 have t2 := C7q f20 hf2 f21
 have ri := B7s (v := v) (n := x1.p - x2.p) ok t1 t2 (by omega) (by omega)
 refine ⟨_, rfl, _, rfl, _, rfl, q1, _, _, _, rfl, rfl, SqT.of a1.e, B8 (j := 1) rfl, _, rfl, q2, _, _, _, rfl, rfl, SqT.of a2.e, B8 (j := 1) rfl, _, rfl, z4, fun vq nv => ?_⟩
 have u := C8.upd (o := .tup (Lv.vs (.rat x1.f x2.f (x1.p - x2.p)))) nv
 exact ⟨_, rfl, fq, v.r, v.y, v.l, v.m, _, vq, .rat x1.f x2.f (x1.p - x2.p), _, rfl, u _ _ fr.e, fr.ok, us.1, us.2, A7, J5k t1 t2, ri.1, ri.2.1, ri.2.2, fun q H' s' => k q H' (u.trans s')⟩
def C1m : Sp := fun vs H Q _ => ∃ q1 q2 x1 x2, vs = [.ref q1, .ref q2] /\ J5 H q1 x1 /\ J5 H q2 x2 /\ x2.f ≠ 0 /\ ∀ q H', C8 H H' -> H' q = some (.tup [.int (U0 x1 x2), .int (A0e x1 x2).f]) -> Q (.ref q) H'
theorem scLParted : C5 ["_law_one", "_law_other", "_law_ten_here"] Q31 (A2 A2t) := scK
theorem U1k {f f1 : Addr} {fd fd1 : FuncData} (D : Def K mg "_law_parted" Q31 A2t f fd) (D_l_ten : Def K mg "_law_ten" Q10 B0y f1 fd1) (G_l_ten : A8 P w K mg base (CX1 P w) 1 f1 fd1 Q10 B7u) (O : Own mg) : A8 P w K mg base (CX1 P w) 2 f fd Q31 C1m := by
 refine D.F.okE scLParted (fun vs H Q E h => ?_) (fun X cdv A outer s H vs Q E hX hr hx h => ?_)
 . obtain ⟨q1, q2, x1, x2, rfl, _⟩ := h
   rfl
 subst hX
 obtain ⟨q1, q2, x1, x2, rfl, a1, a2, hf, k⟩ := h
 refine ⟨_, (A3 (B5 (D3 (i := 2) scLParted.nd rfl (Or.inl rfl) (J3 (A1u rfl) (by rfl) O.min_ boot_min (A0 (D9 G3 (pv 0) A1 (fun _ _ => rfl)) (A0 (D9 G3 (pv 1) A1 (fun _ _ => rfl)) A5))))) (A6 (B0 (J3 C0f (by rfl) O.divmod_ PyProof.Rows.boot_divmod (A0 (A9 G5 (D9 G3 (pv 0) A1 (fun _ _ => rfl)) (C9 D_l_ten G_l_ten hr hx (A0 (A9 J8 (D9 G3 (pv 0) A1 (fun _ _ => rfl)) (pv 2)) A5))) (A0 (A9 G5 (D9 G3 (pv 1) A1 (fun _ _ => rfl)) (C9 D_l_ten G_l_ten hr hx (A0 (A9 J8 (D9 G3 (pv 1) A1 (fun _ _ => rfl)) (pv 2)) A5))) A5)))))), ?_⟩
 have o1 := a1.o; have o2 := a2.o
 have p10 := o1.p0; have p11 := o1.p1; have p20 := o2.p0; have p21 := o2.p1
 obtain ⟨b1, b2, b3⟩ := G0b x1 x2
 have hs := B5m (q := V9 x1 x2) o2 hf (by omega)
 have mul : ∀ x : Nm, x.Ok -> ∀ e : Int, e <= 1500 -> IntMulOk x.f (A4 e) := fun x ok e he => by
   by_cases z : x.f = 0
   . rw [z]; exact A2u.ok (.inl ⟨by decide, by decide⟩)
   . exact B1m (G1f ok.f0 z ok.f1) he
 refine ⟨fun σ' H' => H' = H /\ σ' = [some (.ref q1), some (.ref q2), some (.int (V9 x1 x2))], ⟨_, rfl, q1, _, _, _, rfl, rfl, SqT.of a1.e, B8 (j := 2) rfl, _, rfl, q2, _, _, _, rfl, rfl, SqT.of a2.e, B8 (j := 2) rfl, _, _, rfl, rfl, rfl⟩, ?_⟩
 rintro σ' H1 ⟨rfl, rfl⟩
 refine ⟨_, rfl, q1, _, _, _, rfl, rfl, SqT.of a1.e, B8 (j := 1) rfl, _, rfl, q1, _, _, _, rfl, rfl, SqT.of a1.e, B8 (j := 2) rfl, _, rfl, _, _, rfl, rfl, _, rfl, by omega, by omega, _, _, rfl, rfl, mul x1 o1 _ (by omega), _, rfl, q2, _, _, _, rfl, rfl, SqT.of a2.e, B8 (j := 1) rfl, _, rfl, q2, _, _, _, rfl, rfl, SqT.of a2.e, B8 (j := 2) rfl, _, rfl, _, _, rfl, rfl, _, rfl, by omega, by omega, _, _, rfl, rfl, mul x2 o2 _ (by omega), _, _, rfl, ⟨hs.1, Nat.lt_trans hs.log (by decide)⟩, fun q nq => k q _ (C8.upd nq) ?_⟩
 rw [A7, (G1j o1 o2 hf).2.2.2.2]
 rfl
def C0g : Sp := fun vs H Q _ => ∃ fq v q1 q2 x1 x2, vs = [.ref fq, .ref q1, .ref q2] /\ B8c H fq v /\ J5 H q1 x1 /\ J5 H q2 x2 /\ ∀ q H', C8 H H' -> B6v H' q (whR v x1 x2).1 (Z2 (whR v x1 x2).2) -> Q (.ref q) H'
theorem scLWholeOver : C5 ["_law_frame_here", "_law_one", "_law_other", "_law_sign", "_law_whole", "_law_ideal"] Q8 (A2 A0a) := scK
theorem D5a {f f1 f2 f3 f4 f5 f6 : Addr} {fd fd1 fd2 fd3 fd4 fd5 fd6 : FuncData} (D : Def K mg "_law_whole_over" Q8 A0a f fd) (D_l_over : Def K mg "_law_over" Q8 B1v f1 fd1) (G_l_over : A8 P w K mg base (CX1 P w) 5 f1 fd1 Q8 G2n)
   (D_l_parted : Def K mg "_law_parted" Q31 A2t f2 fd2) (G_l_parted : A8 P w K mg base (CX1 P w) 2 f2 fd2 Q31 C1m)
   (D_l_nought : Def K mg "_law_nought" Q11 A0b f3 fd3) (G_l_nought : A8 P w K mg base (CX1 P w) 1 f3 fd3 Q11 A4e)
   (D_l_count : Def K mg "_law_count" Q16 A2k f4 fd4) (G_l_count : A8 P w K mg base (CX1 P w) 1 f4 fd4 Q16 B1t)
   (D_l_void : Def K mg "_law_void" [] A4x f5 fd5) (G_l_void : A8 P w K mg base (CX1 P w) 1 f5 fd5 [] B5u)
   (D_l_settled : Def K mg "_law_settled" Q14 Y7 f6 fd6) (G_l_settled : A8 P w K mg base (CX1 P w) 4 f6 fd6 Q14 A1z) (O : Own mg) : A8 P w K mg base (CX1 P w) 6 f fd Q8 C0g := by
 refine D.F.okE scLWholeOver (fun vs H Q E h => ?_) (fun X cdv A outer s H vs Q E hX hr hx h => ?_)
 . obtain ⟨fq, v, q1, q2, x1, x2, rfl, _⟩ := h
   rfl
 subst hX
 obtain ⟨fq, v, q1, q2, x1, x2, rfl, fr, a1, a2, k⟩ := h
 refine ⟨_, (A3 (B5 (D3 (i := 3) scLWholeOver.nd rfl (Or.inl rfl) (A9 J0 (A9 J4 (D9 G3 (pv 1) A1 (fun _ _ => rfl)) (D9 G3 (pv 2) A1 (fun _ _ => rfl))) A1))) (A3 (B5 (G4 (C7 G2 (D9 G3 (pv 2) A1 (fun _ _ => rfl)) A1 (C6 _)) (A6 (B0 (C9 D_l_over G_l_over hr hx (A0 (pv 0) (A0 (pv 1) (A0 (pv 2) A5)))))) D0)) (A3 (B5 (D3 (i := 4) scLWholeOver.nd rfl (Or.inl rfl) (D9 G3 (C9 D_l_parted G_l_parted hr hx (A0 (pv 1) (A0 (pv 2) A5))) A1 (fun _ _ => rfl)))) (A3 (B5 (D3 (i := 5) scLWholeOver.nd rfl (Or.inl rfl) (J3 (Y3 rfl) (by rfl) O.max_ boot_max (A0 A1 (A0 (A9 J8 (D9 G3 (pv 1) A1 (fun _ _ => rfl)) (D9 G3 (pv 2) A1 (fun _ _ => rfl))) A5))))) (A3 (B5 (G4 (C7 G2 (pv 4) A1 (C6 _)) (A6 (B0 (C9 D_l_nought G_l_nought hr hx (A0 (pv 0) (A0 (pv 3) (A0 (pv 5) A5)))))) D0)) (A3 (B5 (G4 (C7 A6u (C9 D_l_count G_l_count hr hx (A0 (pv 4) A5)) (D9 G3 (pv 0) A1 (fun _ _ => rfl)) (C6 _)) (A6 (B0 (A3f D_l_void G_l_void hr hx))) D0)) (A6 (B0 (C9 D_l_settled G_l_settled hr hx (A0 (pv 0) (A0 (pv 3) (A0 (U6 (A0 (pv 4) (A0 A1 (A0 A1 (A0 A3k A5))))) (A0 (pv 5) A5))))))))))))), ?_⟩
 have o1 := a1.o; have o2 := a2.o
 have s10 := o1.s0; have s11 := o1.s1; have s20 := o2.s0; have s21 := o2.s1
 have p10 := o1.p0; have p11 := o1.p1; have p20 := o2.p0; have p21 := o2.p1
 have f10 := o1.f0; have f11 := o1.f1; have f20 := o2.f0; have f21 := o2.f1
 have ok := fr.cv
 have us := C1v x1.s x2.s
 have z4 : 4 <= sizeLine := D7 (by decide)
 refine ⟨fun σ' H' => H' = H /\ σ' = [some (.ref fq), some (.ref q1), some (.ref q2), some (.int (A0j x1.s x2.s)), none, none], ?_, ?_⟩
 . refine ⟨_, rfl, q1, _, _, _, rfl, rfl, SqT.of a1.e, B8 (j := 0) rfl, _, rfl, q2, _, _, _, rfl, rfl, SqT.of a2.e, B8 (j := 0) rfl, _, _, rfl, rfl, _, _, rfl, rfl, (by decide : (0 : Int) < 2), rfl, ?_⟩
   rw [<- V3p s10 s11 s20 s21]
   rfl
 rintro σ' H1 ⟨rfl, rfl⟩
 unfold whR at k
 refine ⟨fun σ' H' => H' = H1 /\ x2.f ≠ 0 /\ σ' = [some (.ref fq), some (.ref q1), some (.ref q2), some (.int (A0j x1.s x2.s)), none, none], ?_, ?_⟩
 . refine ⟨_, rfl, q2, _, _, _, rfl, rfl, SqT.of a2.e, B8 (j := 1) rfl, rfl, _, rfl, J1 (fun h => ?_) (fun h => ⟨rfl, fun z => h (congrArg V.int z), rfl⟩)⟩
   have h : x2.f = 0 := V.int.inj h
   rw [if_pos h] at k
   refine ⟨_, rfl, _, rfl, _, rfl, fq, v, q1, q2, x1, x2, rfl, fr, a1, a2, fun q H' s' du => k q H' s' ?_⟩
   unfold ovR at du
   rw [if_pos h] at du
   exact du
 rintro σ' H2 ⟨rfl, hf2, rfl⟩
 rw [if_neg hf2] at k
 obtain ⟨w0, wT⟩ := G1g o1 o2
 refine ⟨fun σ' H' => C8 H2 H' /\ σ' = [some (.ref fq), some (.ref q1), some (.ref q2), some (.int (A0j x1.s x2.s)), some (.int (U0 x1 x2)), none], ⟨_, rfl, _, rfl, q1, q2, x1, x2, rfl, a1, a2, hf2, fun q H' s' eq => ⟨q, _, _, _, rfl, rfl, SqT.of eq, B8 (j := 0) rfl, s', rfl⟩⟩, ?_⟩
 rintro σ' H3 ⟨s3, rfl⟩
 have a1 := a1.same s3; have a2 := a2.same s3; have fr := fr.same s3
 refine ⟨fun σ' H' => H' = H3 /\ σ' = [some (.ref fq), some (.ref q1), some (.ref q2), some (.int (A0j x1.s x2.s)), some (.int (U0 x1 x2)), some (.int (A0v (x1.p - x2.p) 0))], ?_, ?_⟩
 . refine ⟨_, rfl, q1, _, _, _, rfl, rfl, SqT.of a1.e, B8 (j := 2) rfl, _, rfl, q2, _, _, _, rfl, rfl, SqT.of a2.e, B8 (j := 2) rfl, _, _, rfl, rfl, _, _, rfl, rfl, ?_⟩
   have e : (if x1.p - x2.p > 0 then x1.p - x2.p else (0 : Int)) = A0v (x1.p - x2.p) 0 := by unfold A0v; split <;> split <;> omega
   rw [e]
   rfl
 rintro σ' H4 ⟨rfl, rfl⟩
 have r1 := ok.r1
 refine ⟨fun σ' H' => H' = H4 /\ U0 x1 x2 ≠ 0 /\ σ' = [some (.ref fq), some (.ref q1), some (.ref q2), some (.int (A0j x1.s x2.s)), some (.int (U0 x1 x2)), some (.int (A0v (x1.p - x2.p) 0))], ?_, ?_⟩
 . refine ⟨_, rfl, rfl, _, rfl, J1 (fun h => ?_) (fun h => ⟨rfl, fun z => h (congrArg V.int z), rfl⟩)⟩
   have h : U0 x1 x2 = 0 := V.int.inj h
   have tp := D4 v.r
   rw [if_neg (by omega), if_pos h, B9x] at k
   exact ⟨_, rfl, _, rfl, _, rfl, fq, v.r, v.y, v.l, v.m, _, _, rfl, fr.e, fun q H' s' => k q H' (s3.trans s')⟩
 rintro σ' H5 ⟨rfl, hw, rfl⟩
 refine ⟨fun σ' H' => H' = H5 /\ ¬ U0 x1 x2 >= A4 v.r /\ σ' = [some (.ref fq), some (.ref q1), some (.ref q2), some (.int (A0j x1.s x2.s)), some (.int (U0 x1 x2)), some (.int (A0v (x1.p - x2.p) 0))], ?_, ?_⟩
 . refine ⟨_, rfl, U0 x1 x2, rfl, w0, _, rfl, fq, _, _, _, rfl, rfl, SqT.of fr.e, B8 (j := 0) rfl, _, _, rfl, rfl, _, rfl, J1 (fun h => ?_) (fun h => ⟨rfl, fun z => h ((G1b w0 r1).mpr z), rfl⟩)⟩
   rw [if_pos ((G1b w0 r1).mp h), A6t] at k
   exact ⟨rfl, fun q H' s' => k q H' (s3.trans s')⟩
 rintro σ' H6 ⟨rfl, hr', rfl⟩
 rw [if_neg hr', if_neg hw] at k
 have tw : SzL (U0 x1 x2) := ⟨by omega, wT⟩
 have ri := B7s (v := v) (n := 0) ok tw szl_one (by decide) (by decide)
 refine ⟨_, rfl, _, rfl, _, rfl, z4, fun vq nv => ?_⟩
 have u := C8.upd (o := .tup (Lv.vs (.rat (U0 x1 x2) 1 0))) nv
 exact ⟨_, rfl, fq, v.r, v.y, v.l, v.m, _, vq, .rat (U0 x1 x2) 1 0, _, rfl, u _ _ fr.e, fr.ok, us.1, us.2, A7, J5k tw szl_one, ri.1, ri.2.1, ri.2.2, fun q H' s' => k q H' (s3.trans (u.trans s'))⟩
def V4b : Sp := fun vs H Q _ => ∃ fq v q1 q2 x1 x2, vs = [.ref fq, .ref q1, .ref q2] /\ B8c H fq v /\ J5 H q1 x1 /\ J5 H q2 x2 /\ ∀ q H', C8 H H' -> B6v H' q (rsR v x1 x2).1 (Z2 (rsR v x1 x2).2) -> Q (.ref q) H'
theorem scLRest : C5 ["_law_frame_here", "_law_one", "_law_other", "_law_whole", "_law_left", "_law_ten_here"] Q8 (A2 B7q) := scK
theorem Y6p {f f2 f3 f4 f5 f6 : Addr} {fd fd2 fd3 fd4 fd5 fd6 : FuncData} (D : Def K mg "_law_rest" Q8 B7q f fd) (D_l_parted : Def K mg "_law_parted" Q31 A2t f2 fd2) (G_l_parted : A8 P w K mg base (CX1 P w) 2 f2 fd2 Q31 C1m)
   (D_l_nought : Def K mg "_law_nought" Q11 A0b f3 fd3) (G_l_nought : A8 P w K mg base (CX1 P w) 1 f3 fd3 Q11 A4e)
   (D_l_count : Def K mg "_law_count" Q16 A2k f4 fd4) (G_l_count : A8 P w K mg base (CX1 P w) 1 f4 fd4 Q16 B1t)
   (D_l_void : Def K mg "_law_void" [] A4x f5 fd5) (G_l_void : A8 P w K mg base (CX1 P w) 1 f5 fd5 [] B5u)
   (D_l_settled : Def K mg "_law_settled" Q14 Y7 f6 fd6) (G_l_settled : A8 P w K mg base (CX1 P w) 4 f6 fd6 Q14 A1z) (O : Own mg) : A8 P w K mg base (CX1 P w) 5 f fd Q8 V4b := by
 refine D.F.okE scLRest (fun vs H Q E h => ?_) (fun X cdv A outer s H vs Q E hX hr hx h => ?_)
 . obtain ⟨fq, v, q1, q2, x1, x2, rfl, _⟩ := h
   rfl
 subst hX
 obtain ⟨fq, v, q1, q2, x1, x2, rfl, fr, a1, a2, k⟩ := h
 refine ⟨_, (A3 (B5 (G4 (C7 G2 (D9 G3 (pv 2) A1 (fun _ _ => rfl)) A1 (C6 _)) (A6 (B0 (A3f D_l_void G_l_void hr hx))) D0)) (A3 (B5 (A6b (C9 D_l_parted G_l_parted hr hx (A0 (pv 1) (A0 (pv 2) A5))) (B7g rfl (U9 (J7 (i := 3) scLRest.nd rfl (Or.inl rfl)) (U9 (J7 (i := 4) scLRest.nd rfl (Or.inl rfl)) A7p))))) (A3 (B5 (D3 (i := 5) scLRest.nd rfl (Or.inl rfl) (J3 (A1u rfl) (by rfl) O.min_ boot_min (A0 (D9 G3 (pv 1) A1 (fun _ _ => rfl)) (A0 (D9 G3 (pv 2) A1 (fun _ _ => rfl)) A5))))) (A3 (B5 (G4 (C7 A6u (C9 D_l_count G_l_count hr hx (A0 (pv 3) A5)) (D9 G3 (pv 0) A1 (fun _ _ => rfl)) (C6 _)) (A6 (B0 (A3f D_l_void G_l_void hr hx))) D0)) (A3 (B5 (G4 (C7 G2 (pv 4) A1 (C6 _)) (A6 (B0 (C9 D_l_nought G_l_nought hr hx (A0 (pv 0) (A0 (D9 G3 (pv 1) A1 (fun _ _ => rfl)) (A0 (pv 5) A5)))))) D0)) (A6 (B0 (C9 D_l_settled G_l_settled hr hx (A0 (pv 0) (A0 (D9 G3 (pv 1) A1 (fun _ _ => rfl)) (A0 (U6 (A0 (pv 4) (A0 A1 (A0 (pv 5) (A0 A3k A5))))) (A0 (pv 5) A5)))))))))))), ?_⟩
 have o1 := a1.o; have o2 := a2.o
 have s10 := o1.s0; have s11 := o1.s1; have s20 := o2.s0; have s21 := o2.s1
 have p10 := o1.p0; have p11 := o1.p1; have p20 := o2.p0; have p21 := o2.p1
 have f10 := o1.f0; have f11 := o1.f1; have f20 := o2.f0; have f21 := o2.f1
 have ok := fr.cv
 have us := C1v x1.s x2.s
 have z4 : 4 <= sizeLine := D7 (by decide)
 unfold rsR at k
 refine ⟨fun σ' H' => H' = H /\ x2.f ≠ 0 /\ σ' = [some (.ref fq), some (.ref q1), some (.ref q2), none, none, none], ?_, ?_⟩
 . refine ⟨_, rfl, q2, _, _, _, rfl, rfl, SqT.of a2.e, B8 (j := 1) rfl, rfl, _, rfl, J1 (fun h => ?_) (fun h => ⟨rfl, fun z => h (congrArg V.int z), rfl⟩)⟩
   rw [if_pos (V.int.inj h), A6t] at k
   exact ⟨rfl, k⟩
 rintro σ' H2 ⟨rfl, hf2, rfl⟩
 rw [if_neg hf2] at k
 obtain ⟨w0, wT⟩ := G1g o1 o2
 obtain ⟨g0, g1, g2, g3, g4⟩ := G1j o1 o2 hf2
 refine ⟨fun σ' H' => C8 H2 H' /\ σ' = [some (.ref fq), some (.ref q1), some (.ref q2), some (.int (U0 x1 x2)), some (.int (A0e x1 x2).f), none], ⟨_, rfl, _, rfl, q1, q2, x1, x2, rfl, a1, a2, hf2, fun q H' s' eq => ⟨q, _, rfl, SqT.of eq, rfl, _, _, rfl, _, _, rfl, rfl, s', rfl⟩⟩, ?_⟩
 rintro σ' H3 ⟨s3, rfl⟩
 have a1 := a1.same s3; have a2 := a2.same s3; have fr := fr.same s3
 refine ⟨fun σ' H' => H' = H3 /\ σ' = [some (.ref fq), some (.ref q1), some (.ref q2), some (.int (U0 x1 x2)), some (.int (A0e x1 x2).f), some (.int (V9 x1 x2))], ⟨_, rfl, q1, _, _, _, rfl, rfl, SqT.of a1.e, B8 (j := 2) rfl, _, rfl, q2, _, _, _, rfl, rfl, SqT.of a2.e, B8 (j := 2) rfl, _, _, rfl, rfl, rfl⟩, ?_⟩
 rintro σ' H4 ⟨rfl, rfl⟩
 have r1 := ok.r1
 refine ⟨fun σ' H' => H' = H4 /\ ¬ U0 x1 x2 >= A4 v.r /\ σ' = [some (.ref fq), some (.ref q1), some (.ref q2), some (.int (U0 x1 x2)), some (.int (A0e x1 x2).f), some (.int (V9 x1 x2))], ?_, ?_⟩
 . refine ⟨_, rfl, U0 x1 x2, rfl, w0, _, rfl, fq, _, _, _, rfl, rfl, SqT.of fr.e, B8 (j := 0) rfl, _, _, rfl, rfl, _, rfl, J1 (fun h => ?_) (fun h => ⟨rfl, fun z => h ((G1b w0 r1).mpr z), rfl⟩)⟩
   rw [if_pos ((G1b w0 r1).mp h), A6t] at k
   exact ⟨rfl, fun q H' s' => k q H' (s3.trans s')⟩
 rintro σ' H5 ⟨rfl, hr', rfl⟩
 rw [if_neg hr'] at k
 refine ⟨fun σ' H' => H' = H5 /\ (A0e x1 x2).f ≠ 0 /\ σ' = [some (.ref fq), some (.ref q1), some (.ref q2), some (.int (U0 x1 x2)), some (.int (A0e x1 x2).f), some (.int (V9 x1 x2))], ?_, ?_⟩
 . refine ⟨_, rfl, rfl, _, rfl, J1 (fun h => ?_) (fun h => ⟨rfl, fun z => h (congrArg V.int z), rfl⟩)⟩
   rw [if_pos (V.int.inj h), B9x] at k
   exact ⟨_, rfl, _, rfl, q1, _, _, _, rfl, rfl, SqT.of a1.e, B8 (j := 0) rfl, _, rfl, fq, v.r, v.y, v.l, v.m, _, _, rfl, fr.e, fun q H' s' => k q H' (s3.trans s')⟩
 rintro σ' H6 ⟨rfl, hl, rfl⟩
 rw [if_neg hl] at k
 have tw : SzL (A0e x1 x2).f := ⟨by omega, g1⟩
 have g2 : -200 <= V9 x1 x2 := g2
 have g3 : V9 x1 x2 <= 200 := g3
 have ri := B7s (v := v) (n := V9 x1 x2) ok tw szl_one (by omega) (by omega)
 refine ⟨_, rfl, _, rfl, q1, _, _, _, rfl, rfl, SqT.of a1.e, B8 (j := 0) rfl, _, rfl, _, rfl, z4, fun vq nv => ?_⟩
 have u := C8.upd (o := .tup (Lv.vs (.rat (A0e x1 x2).f 1 (V9 x1 x2)))) nv
 exact ⟨_, rfl, fq, v.r, v.y, v.l, v.m, _, vq, .rat (A0e x1 x2).f 1 (V9 x1 x2), _, rfl, u _ _ fr.e, fr.ok, s10, s11, A7, J5k tw szl_one, ri.1, ri.2.1, ri.2.2, fun q H' s' => k q H' (s3.trans (u.trans s'))⟩
def V3n : Sp := fun vs H Q _ => ∃ fq v q1 x, vs = [.ref fq, .ref q1] /\ B8c H fq v /\ J5 H q1 x /\ ∀ q H', C8 H H' -> B6v H' q (rootR v x).1 (Z2 (rootR v x).2) -> Q (.ref q) H'
theorem A0jr : C5 Q41 Q41 (A2 B7r) := scK
theorem Y5j {f f3 f5 f6 : Addr} {fd fd3 fd5 fd6 : FuncData} (D : Def K mg "_law_root" Q41 B7r f fd) (D_l_nought : Def K mg "_law_nought" Q11 A0b f3 fd3) (G_l_nought : A8 P w K mg base (CX1 P w) 1 f3 fd3 Q11 A4e) (D_l_void : Def K mg "_law_void" [] A4x f5 fd5) (G_l_void : A8 P w K mg base (CX1 P w) 1 f5 fd5 [] B5u)
   (D_l_settled : Def K mg "_law_settled" Q14 Y7 f6 fd6) (G_l_settled : A8 P w K mg base (CX1 P w) 4 f6 fd6 Q14 A1z) : A8 P w K mg base (CX1 P w) 5 f fd Q41 V3n := by
 refine D.F.okE A0jr (fun vs H Q E h => ?_) (fun X cdv A outer s H vs Q E hX hr hx h => ?_)
 . obtain ⟨fq, v, q1, x, rfl, _⟩ := h
   rfl
 subst hX
 obtain ⟨fq, v, q1, x, rfl, fr, a1, k⟩ := h
 refine ⟨_, (A3 (G4 (C7 G2 (D9 G3 (pv 1) A1 (fun _ _ => rfl)) A1 (C6 _)) (A6 (B0 (C9 D_l_nought G_l_nought hr hx (A0 (pv 0) (A0 (D9 G3 (pv 1) A1 (fun _ _ => rfl)) (A0 (A9 D8 (D9 G3 (pv 1) A1 (fun _ _ => rfl)) A1) A5)))))) D0) (A3 (G4 (C7 G2 (D9 G3 (pv 1) A1 (fun _ _ => rfl)) A1 (C6 _)) (A6 (B0 (A3f D_l_void G_l_void hr hx))) D0) (A6 (B0 (C9 D_l_settled G_l_settled hr hx (A0 (pv 0) (A0 A1 (A0 (U6 (A0 (D9 G3 (pv 1) A1 (fun _ _ => rfl)) (A0 A1 (A0 (D9 G3 (pv 1) A1 (fun _ _ => rfl)) (A0 A3k A5))))) (A0 (A9 D8 (D9 G3 (pv 1) A1 (fun _ _ => rfl)) A1) A5))))))))), ?_⟩
 have d2 := dv (n := 2) (by decide) (by decide +kernel)
 have z4 : 4 <= sizeLine := D7 (by decide)
 have o1 := a1.o
 have f10 := o1.f0; have f11 := o1.f1
 unfold rootR at k
 refine ⟨_, rfl, q1, _, _, _, rfl, rfl, SqT.of a1.e, B8 (j := 1) rfl, rfl, _, rfl, J1 (fun h => ?_) (fun h => ?_)⟩
 . rw [if_pos (V.int.inj h), B9x] at k
   exact ⟨_, rfl, _, rfl, q1, _, _, _, rfl, rfl, SqT.of a1.e, B8 (j := 0) rfl, _, rfl, q1, _, _, _, rfl, rfl, SqT.of a1.e, B8 (j := 2) rfl, _, _, rfl, rfl, d2, fq, v.r, v.y, v.l, v.m, _, _, rfl, fr.e, k⟩
 have hf : ¬ x.f = 0 := fun z => h (congrArg V.int z)
 rw [if_neg hf] at k
 clear h
 refine ⟨_, rfl, q1, _, _, _, rfl, rfl, SqT.of a1.e, B8 (j := 0) rfl, rfl, _, rfl, J1 (fun h => ?_) (fun h => ?_)⟩
 . rw [if_pos (V.int.inj h), A6t] at k
   exact ⟨rfl, k⟩
 rw [if_neg fun z => h (congrArg V.int z)] at k
 have szq : SzQ x.f := ⟨by omega, Int.lt_of_le_of_lt f11 (by decide +kernel)⟩
 obtain ⟨r0, r1, wr⟩ := V2y fr.cv szq o1.p0 o1.p1
 have wq := A6x (t := x.f) (s := x.p - 2 * v.fin (A6s x.f x.p)) (by omega)
 refine ⟨_, rfl, _, rfl, q1, _, _, _, rfl, rfl, SqT.of a1.e, B8 (j := 1) rfl, _, rfl, q1, _, _, _, rfl, rfl, SqT.of a1.e, B8 (j := 2) rfl, z4, fun vq nv => ?_⟩
 have u := C8.upd (o := .tup (Lv.vs (.roo x.f x.p))) nv
 have e1 := u _ _ a1.e
 exact ⟨_, rfl, q1, _, _, _, rfl, rfl, SqT.of e1, B8 (j := 2) rfl, _, _, rfl, rfl, d2, fq, v.r, v.y, v.l, v.m, 0, vq, .roo x.f x.p, _, rfl, u _ _ fr.e, fr.ok, by decide, by decide, A7, ⟨szq, o1.p0, o1.p1⟩, ⟨r0, r1⟩, wq.1, wr, fun q H' s' => k q H' (u.trans s')⟩
def D9t : Sp := fun vs H Q _ => ∃ f k : Int, vs = [.int f, .int (k.natAbs : Int)] /\ 0 < f /\ f < A4 24 /\ -20 <= k /\ k <= 20 /\ Q (.int (A6c f k)) H
theorem scLRaised : C5 ["_law_number", "_law_count_here", "_law_found", "_law_turn"] Q49 (A2 A4z) := scK
theorem U0m {f : Addr} {fd : FuncData} (D : Def K mg "_law_raised" Q49 A4z f fd) (O : Own mg) : A8 P w K mg base (CX1 P w) 1 f fd Q49 D9t := by
 refine D.F.okE scLRaised (fun vs H Q E h => ?_) (fun X cdv A outer s H vs Q E hX hr hx h => ?_)
 . obtain ⟨f, k, rfl, _⟩ := h
   rfl
 subst hX
 obtain ⟨g, c, rfl, g0, g1, c0, c1, k⟩ := h
 refine ⟨_, (A3 (B5 (D3 (i := 2) scLRaised.nd rfl (Or.inl rfl) A1)) (A3 (B5 (B7f PassesOwn.leaving rfl (B5j rfl O.range_ (A0 (pv 1) A5)) (J7 (i := 3) scLRaised.nd rfl (Or.inl rfl)) (A6 (B5 (D3 (i := 2) scLRaised.nd rfl (Or.inl rfl) (A9 G5 (pv 2) (pv 0))))))) (A6 (B0 (pv 2))))), ?_⟩
 obtain ⟨m, rfl⟩ : ∃ m : Nat, g = (m : Int) := ⟨g.toNat, by omega⟩
 refine ⟨fun σ' H' => H' = H /\ σ' = [some (.int (m : Int)), some (.int (c.natAbs : Int)), some (.int 1), none], ⟨rfl, rfl⟩, ?_⟩
 rintro σ' H1 ⟨rfl, rfl⟩
 refine ⟨fun σ' H' => H' = H1 /\ ∃ v, σ' = [some (.int (m : Int)), some (.int (c.natAbs : Int)), some (.int (A6c (m : Int) c)), v], ?_, ?_⟩
 . refine ⟨_, rfl, (c.natAbs : Int), rfl, by omega, by omega, B5q (n := (c.natAbs : Int).toNat) (fun i σ' H' => i <= 20 /\ H' = H1 /\ ∃ v, σ' = [some (.int (m : Int)), some (.int (c.natAbs : Int)), some (.int ((m ^ i : Nat) : Int)), v]) ⟨by decide, rfl, none, rfl⟩ ?_ ?_⟩
   . rintro i σ' H' hi ⟨i20, rfl, v, rfl⟩
     have hi : i < c.natAbs := by omega
     refine ⟨_, ?_, fun _ _ h => h⟩
     have sz := U1e (f := (m : Int)) (k := (i : Int)) g0 g1 (by omega) (by omega)
     have e : A6c (m : Int) (i : Int) = ((m ^ i : Nat) : Int) := by unfold A6c; rw [Int.toNat_natCast, Int.natAbs_natCast]
     rw [e] at sz
     have mb : Builtin.Int.intBits (m : Int) <= 2 ^ 20 := U1c (Int.natCast_nonneg _) (Int.lt_of_lt_of_le g1 (V7 (by decide)))
     refine ⟨_, rfl, _, rfl, _, _, rfl, rfl, IntMulOk.of_bits (C7n sz.sz) mb, by omega, rfl, some (.int (0 + (i : Int))), ?_⟩
     rw [Nat.pow_succ, Int.natCast_mul]
     rfl
   . rintro σ' H' ⟨_, rfl, v, rfl⟩
     refine ⟨rfl, v, ?_⟩
     unfold A6c
     rw [Int.toNat_natCast, Int.toNat_natCast]
 rintro σ' H2 ⟨rfl, v, rfl⟩
 exact ⟨_, rfl, k⟩
theorem A0sz {s k : Int} (s0 : 0 <= s) (s1 : s <= 1) : s * (k % 2) = sgI s k := by
 unfold sgI
 rcases (by omega : k % 2 = 0 \/ k % 2 = 1) with h | h
 . rw [h, if_neg (by decide), Int.mul_zero]
 rw [h, if_pos rfl, Int.mul_one]
def J5g : Sp := fun vs H Q _ => ∃ fq v q1 x, ∃ c : Int, vs = [.ref fq, .ref q1, .int c] /\ B8c H fq v /\ J5 H q1 x /\ x.f < A4 24 /\ -60 <= x.p /\ x.p <= 60 /\ -20 <= c /\ c <= 20 /\ ∀ q H', C8 H H' -> B6v H' q (powR v x c).1 (Z2 (powR v x c).2) -> Q (.ref q) H'
theorem scLPower : C5 ["_law_frame_here", "_law_one", "_law_count_here", "_law_sign", "_law_raised_here", "_law_value"] Q50 (A2 A8h) := scK
theorem V7b {f f1 f2 f3 f5 f6 : Addr} {fd fd1 fd2 fd3 fd5 fd6 : FuncData} (D : Def K mg "_law_power" Q50 A8h f fd) (D_l_raised : Def K mg "_law_raised" Q49 A4z f1 fd1) (G_l_raised : A8 P w K mg base (CX1 P w) 1 f1 fd1 Q49 D9t) (D_l_split : Def K mg "_law_split" ["_law_sign"] A5j f2 fd2) (G_l_split : A8 P w K mg base (CX1 P w) 1 f2 fd2 ["_law_sign"] D0b) (D_l_nought : Def K mg "_law_nought" Q11 A0b f3 fd3) (G_l_nought : A8 P w K mg base (CX1 P w) 1 f3 fd3 Q11 A4e) (D_l_void : Def K mg "_law_void" [] A4x f5 fd5) (G_l_void : A8 P w K mg base (CX1 P w) 1 f5 fd5 [] B5u)
   (D_l_settled : Def K mg "_law_settled" Q14 Y7 f6 fd6) (G_l_settled : A8 P w K mg base (CX1 P w) 4 f6 fd6 Q14 A1z) (O : Own mg) : A8 P w K mg base (CX1 P w) 5 f fd Q50 J5g := by
 refine D.F.okE scLPower (fun vs H Q E h => ?_) (fun X cdv A outer s H vs Q E hX hr hx h => ?_)
 . obtain ⟨fq, v, q1, x, c, rfl, _⟩ := h
   rfl
 subst hX
 obtain ⟨fq, v, q1, x, c, rfl, fr, a1, f24, p0, p1, c0, c1, k⟩ := h
 refine ⟨_, (A3 (B5 (D3 (i := 3) scLPower.nd rfl (Or.inl rfl) (A9 G5 (D9 G3 (pv 1) A1 (fun _ _ => rfl)) (A9 J0 (pv 2) A1)))) (A3 (B5 (G4 (C7 G2 (D9 G3 (pv 1) A1 (fun _ _ => rfl)) A1 (C6 _)) (A3 (B5 (G4 (C7 G2 (pv 2) A1 (C6 _)) (A6 (B0 (A3f D_l_void G_l_void hr hx))) D0)) (A6 (B0 (V5 (C7 B6t (pv 2) A1 (C6 _)) (C9 D_l_split G_l_split hr hx (A0 (pv 3) A5)) (C9 D_l_nought G_l_nought hr hx (A0 (pv 0) (A0 (pv 3) (A0 (A9 G5 (pv 2) (D9 G3 (pv 1) A1 (fun _ _ => rfl))) A5)))))))) D0)) (A3 (B5 (D3 (i := 4) scLPower.nd rfl (Or.inl rfl) (C9 D_l_raised G_l_raised hr hx (A0 (D9 G3 (pv 1) A1 (fun _ _ => rfl)) (A0 (J3 A6r (by rfl) O.abs_ boot_abs (A0 (pv 2) A5)) A5))))) (A3 (B5 (D3 (i := 5) scLPower.nd rfl (Or.inl rfl) (V5 (C7 D9e (pv 2) A1 (C6 _)) (U6 (A0 (pv 4) (A0 A1 (A0 (A9 G5 (pv 2) (D9 G3 (pv 1) A1 (fun _ _ => rfl))) (A0 A3k A5))))) (U6 (A0 A1 (A0 (pv 4) (A0 (A9 G5 (pv 2) (D9 G3 (pv 1) A1 (fun _ _ => rfl))) (A0 A3k A5)))))))) (A6 (B0 (C9 D_l_settled G_l_settled hr hx (A0 (pv 0) (A0 (pv 3) (A0 (pv 5) (A0 (A9 G5 (pv 2) (D9 G3 (pv 1) A1 (fun _ _ => rfl))) A5))))))))))), ?_⟩
 have z4 : 4 <= sizeLine := D7 (by decide)
 have o1 := a1.o
 have s0 := o1.s0; have s1 := o1.s1; have f10 := o1.f0
 have so := A0qr (k := c) s0 s1
 have mc : IntMulOk c x.p := A2u.ok (.inl ⟨by omega, by omega⟩)
 refine ⟨fun σ' H' => H' = H /\ σ' = [some (.ref fq), some (.ref q1), some (.int c), some (.int (sgI x.s c)), none, none], ?_, ?_⟩
 . refine ⟨_, rfl, q1, _, _, _, rfl, rfl, SqT.of a1.e, B8 (j := 0) rfl, _, rfl, _, _, rfl, rfl, (by decide : (0 : Int) < 2), _, _, rfl, rfl, A2u.ok (.inl ⟨by omega, by omega⟩), rfl, ?_⟩
   rw [<- A0sz s0 s1]
   rfl
 rintro σ' H1 ⟨rfl, rfl⟩
 unfold powR at k
 refine ⟨fun σ' H' => H' = H1 /\ x.f ≠ 0 /\ σ' = [some (.ref fq), some (.ref q1), some (.int c), some (.int (sgI x.s c)), none, none], ?_, ?_⟩
 . refine ⟨_, rfl, q1, _, _, _, rfl, rfl, SqT.of a1.e, B8 (j := 1) rfl, rfl, _, rfl, J1 (fun h => ?_) (fun h => ⟨rfl, fun z => h (congrArg V.int z), rfl⟩)⟩
   rw [if_pos (V.int.inj h)] at k
   refine ⟨fun σ' H' => H' = H1 /\ c ≠ 0 /\ σ' = [some (.ref fq), some (.ref q1), some (.int c), some (.int (sgI x.s c)), none, none], ?_, ?_⟩
   . refine ⟨_, rfl, rfl, _, rfl, J1 (fun h2 => ?_) (fun h2 => ⟨rfl, fun z => h2 (congrArg V.int z), rfl⟩)⟩
     rw [if_pos (V.int.inj h2), A6t] at k
     exact ⟨rfl, k⟩
   rintro σ' H2 ⟨rfl, hc0, rfl⟩
   rw [if_neg hc0] at k
   refine ⟨_, rfl, _, _, rfl, rfl, _, rfl, J1 (fun h2 => ?_) (fun h2 => ?_)⟩
   . rw [if_pos h2, D9f] at k
     exact ⟨_, rfl, _, rfl, k⟩
   . rw [if_neg h2, B9x] at k
     exact ⟨_, rfl, _, rfl, _, rfl, _, rfl, q1, _, _, _, rfl, rfl, SqT.of a1.e, B8 (j := 2) rfl, _, _, rfl, rfl, mc, fq, v.r, v.y, v.l, v.m, _, _, rfl, fr.e, k⟩
 rintro σ' H2 ⟨rfl, hf, rfl⟩
 rw [if_neg hf] at k
 refine ⟨fun σ' H' => H' = H2 /\ σ' = [some (.ref fq), some (.ref q1), some (.int c), some (.int (sgI x.s c)), some (.int (A6c x.f c)), none], ?_, ?_⟩
 . refine ⟨_, rfl, q1, _, _, _, rfl, rfl, SqT.of a1.e, B8 (j := 1) rfl, _, rfl, _, rfl, x.f, c, ?_, by omega, f24, c0, c1, rfl, rfl⟩
   show [V.int x.f, V.int (if c < 0 then -c else c)] = [V.int x.f, V.int (c.natAbs : Int)]
   congr 3
   split <;> omega
 rintro σ' H3 ⟨rfl, rfl⟩
 have sz := U1e (k := c) (show 0 < x.f by omega) f24 c0 c1
 have kb := kp_b c0 c1 p0 p1
 by_cases hc : c < 0
 . rw [if_pos hc] at k
   have ri := B7s (v := v) fr.cv szl_one sz kb.1 kb.2
   refine ⟨fun σ' H' => ∃ vq, C8 H3 H' /\ H' vq = some (.tup (Lv.vs (.rat 1 (A6c x.f c) (c * x.p)))) /\ σ' = [some (.ref fq), some (.ref q1), some (.int c), some (.int (sgI x.s c)), some (.int (A6c x.f c)), some (.ref vq)], ⟨_, rfl, _, _, rfl, rfl, _, rfl, J9 (by omega) ⟨_, rfl, _, rfl, _, rfl, q1, _, _, _, rfl, rfl, SqT.of a1.e, B8 (j := 2) rfl, _, _, rfl, rfl, mc, z4, fun vq nv => ⟨vq, C8.upd nv, A7, rfl⟩⟩⟩, ?_⟩
   rintro σ' H4 ⟨vq, s4, ev, rfl⟩
   have e1 := s4 _ _ a1.e
   exact ⟨_, rfl, _, rfl, _, rfl, _, rfl, _, rfl, q1, _, _, _, rfl, rfl, SqT.of e1, B8 (j := 2) rfl, _, _, rfl, rfl, mc, fq, v.r, v.y, v.l, v.m, _, vq, _, _, rfl, s4 _ _ fr.e, fr.ok, so.1, so.2, ev, J5k szl_one sz, ri.1, ri.2.1, ri.2.2, fun q H' s' => k q H' (s4.trans s')⟩
 rw [if_neg hc] at k
 have ri := B7s (v := v) fr.cv sz szl_one kb.1 kb.2
 refine ⟨fun σ' H' => ∃ vq, C8 H3 H' /\ H' vq = some (.tup (Lv.vs (.rat (A6c x.f c) 1 (c * x.p)))) /\ σ' = [some (.ref fq), some (.ref q1), some (.int c), some (.int (sgI x.s c)), some (.int (A6c x.f c)), some (.ref vq)], ⟨_, rfl, _, _, rfl, rfl, _, rfl, A0p (by omega) ⟨_, rfl, _, rfl, _, rfl, q1, _, _, _, rfl, rfl, SqT.of a1.e, B8 (j := 2) rfl, _, _, rfl, rfl, mc, z4, fun vq nv => ⟨vq, C8.upd nv, A7, rfl⟩⟩⟩, ?_⟩
 rintro σ' H4 ⟨vq, s4, ev, rfl⟩
 have e1 := s4 _ _ a1.e
 exact ⟨_, rfl, _, rfl, _, rfl, _, rfl, _, rfl, q1, _, _, _, rfl, rfl, SqT.of e1, B8 (j := 2) rfl, _, _, rfl, rfl, mc, fq, v.r, v.y, v.l, v.m, _, vq, _, _, rfl, s4 _ _ fr.e, fr.ok, so.1, so.2, ev, J5k sz szl_one, ri.1, ri.2.1, ri.2.2, fun q H' s' => k q H' (s4.trans s')⟩
abbrev C9g : Stmt := (top 101)
abbrev B7j : Stmt := (top 102)
abbrev B7t : Stmt := (top 103)
noncomputable def opR (v : Cv) (k : Int) (x1 x2 x3 : Nm) (c : Int) : Nm × List Str := if k = 0 then ovR v x1 x2 else if k = 1 then whR v x1 x2 else if k = 2 then rsR v x1 x2 else if k = 3 then rootR v x1 else powR v x3 c
theorem A0hm {v : Cv} {x1 x2 : Nm} (h1 : x1.k = .plain) (h2 : x2.k = .plain) : V4k v x1 x2 (x1.p - x2.p + A0r x1.f x2.f) = ovR v x1 x2 := by
 have hn : ¬ (x1.k = .none \/ x2.k = .none) := fun z => by rcases z with z | z <;> simp [h1, h2] at z
 have e1 : x1.k ≠ .end_ := fun z => by simp [h1] at z
 have e2 : x2.k ≠ .end_ := fun z => by simp [h2] at z
 unfold V4k ovR J5h
 rw [if_neg hn]
 by_cases hf : x2.f = 0
 . rw [if_neg (fun z : A0f x1 x2 => z.2.2 hf), if_pos hf]
   unfold V7y
   rw [if_neg e1, if_neg e2]
 rw [if_pos (show A0f x1 x2 from ⟨h1, h2, hf⟩), if_neg hf]
 rfl
theorem Y4k {v : Cv} {x1 x2 : Nm} (h1 : x1.k = .plain) (h2 : x2.k = .plain) : woR v x1 x2 (0 + A0r (U0 x1 x2) 1) = whR v x1 x2 := by
 have hn : ¬ (x1.k = .none \/ x2.k = .none) := fun z => by rcases z with z | z <;> simp [h1, h2] at z
 have e1 : x1.k ≠ .end_ := fun z => by simp [h1] at z
 have e2 : x2.k ≠ .end_ := fun z => by simp [h2] at z
 unfold woR whR J5h
 rw [if_neg hn]
 by_cases hf : x2.f = 0
 . rw [if_neg (fun z : A0f x1 x2 => z.2.2 hf), if_pos hf]
   unfold V7y
   rw [if_neg e1, if_neg e2]
 rw [if_pos (show A0f x1 x2 from ⟨h1, h2, hf⟩), if_neg hf]
 rfl
theorem A0ga {v : Cv} {x1 x2 : Nm} (h1 : x1.k = .plain) (h2 : x2.k = .plain) : reR v x1 x2 (V9 x1 x2 + A0r (A0e x1 x2).f 1) = rsR v x1 x2 := by
 have hn : ¬ (x1.k = .none \/ x2.k = .none) := fun z => by rcases z with z | z <;> simp [h1, h2] at z
 have e1 : x1.k ≠ .end_ := fun z => by simp [h1] at z
 have e2 : x2.k ≠ .end_ := fun z => by simp [h2] at z
 unfold reR rsR
 rw [if_neg hn, if_neg e1]
 by_cases hf : x2.f = 0
 . rw [if_pos ⟨h2, hf⟩, if_pos hf]
 rw [if_neg (fun z => hf z.2), if_neg e2, if_neg hf]
 rfl
def Y4h : Sp := fun vs H Q _ => ∃ fq v pq q1 q2 q3 x1 x2 x3, ∃ k c : Int, vs = [.ref fq, .int k, .ref pq, .int c] /\ B8c H fq v /\ H pq = some (.lst [.ref q1, .ref q2, .ref q3]) /\ J5 H q1 x1 /\ J5 H q2 x2 /\ J5 H q3 x3 /\ x3.f < A4 24 /\ -60 <= x3.p /\ x3.p <= 60 /\ -20 <= c /\ c <= 20 /\
 ∀ q H', C8 H H' -> B6v H' q (opR v k x1 x2 x3 c).1 (Z2 (opR v k x1 x2 x3 c).2) -> Q (.ref q) H'
theorem A0rm : C5 Q42 Q42 (A2 C9g) := scK
theorem A0hk {f f1 f2 f3 f4 f5 : Addr} {fd fd1 fd2 fd3 fd4 fd5 : FuncData} (D : Def K mg "_law_due" Q42 C9g f fd) (D_l_over : Def K mg "_law_over" Q8 B1v f1 fd1) (G_l_over : A8 P w K mg base (CX1 P w) 5 f1 fd1 Q8 G2n)
   (D_l_whole_over : Def K mg "_law_whole_over" Q8 A0a f2 fd2) (G_l_whole_over : A8 P w K mg base (CX1 P w) 6 f2 fd2 Q8 C0g) (D_l_rest : Def K mg "_law_rest" Q8 B7q f3 fd3) (G_l_rest : A8 P w K mg base (CX1 P w) 5 f3 fd3 Q8 V4b)
   (D_l_root : Def K mg "_law_root" Q41 B7r f4 fd4) (G_l_root : A8 P w K mg base (CX1 P w) 5 f4 fd4 Q41 V3n) (D_l_power : Def K mg "_law_power" Q50 A8h f5 fd5) (G_l_power : A8 P w K mg base (CX1 P w) 5 f5 fd5 Q50 J5g) : A8 P w K mg base (CX1 P w) 7 f fd Q42 Y4h := by
 refine D.F.okE A0rm (fun vs H Q E h => ?_) (fun X cdv A outer s H vs Q E hX hr hx h => ?_)
 . obtain ⟨fq, v, pq, q1, q2, q3, x1, x2, x3, k, c, rfl, _⟩ := h
   rfl
 subst hX
 obtain ⟨fq, v, pq, q1, q2, q3, x1, x2, x3, n, c, rfl, fr, ep, a1, a2, a3, f24, p0, p1, c0, c1, k⟩ := h
 refine ⟨_, (A3 (G4 (C7 G2 (pv 1) A1 (C6 _)) (A6 (B0 (C9 D_l_over G_l_over hr hx (A0 (pv 0) (A0 (D9 U5 (pv 2) A1 (fun _ _ => rfl)) (A0 (D9 U5 (pv 2) A1 (fun _ _ => rfl)) A5)))))) D0) (A3 (G4 (C7 G2 (pv 1) A1 (C6 _)) (A6 (B0 (C9 D_l_whole_over G_l_whole_over hr hx (A0 (pv 0) (A0 (D9 U5 (pv 2) A1 (fun _ _ => rfl)) (A0 (D9 U5 (pv 2) A1 (fun _ _ => rfl)) A5)))))) D0) (A3 (G4 (C7 G2 (pv 1) A1 (C6 _)) (A6 (B0 (C9 D_l_rest G_l_rest hr hx (A0 (pv 0) (A0 (D9 U5 (pv 2) A1 (fun _ _ => rfl)) (A0 (D9 U5 (pv 2) A1 (fun _ _ => rfl)) A5)))))) D0) (A3 (G4 (C7 G2 (pv 1) A1 (C6 _)) (A6 (B0 (C9 D_l_root G_l_root hr hx (A0 (pv 0) (A0 (D9 U5 (pv 2) A1 (fun _ _ => rfl)) A5))))) D0) (A6 (B0 (C9 D_l_power G_l_power hr hx (A0 (pv 0) (A0 (D9 U5 (pv 2) A1 (fun _ _ => rfl)) (A0 (pv 3) A5)))))))))), ?_⟩
 unfold opR at k
 refine ⟨_, rfl, rfl, _, rfl, J1 (fun h => ?_) (fun h => ?_)⟩
 . rw [if_pos (V.int.inj h)] at k
   exact ⟨_, rfl, _, rfl, pq, _, _, _, rfl, rfl, SqL.of ep, B8 (j := 0) rfl, _, rfl, pq, _, _, _, rfl, rfl, SqL.of ep, B8 (j := 1) rfl, fq, v, q1, q2, x1, x2, rfl, fr, a1, a2, k⟩
 rw [if_neg fun z => h (congrArg V.int z)] at k
 clear h
 refine ⟨_, rfl, rfl, _, rfl, J1 (fun h => ?_) (fun h => ?_)⟩
 . rw [if_pos (V.int.inj h)] at k
   exact ⟨_, rfl, _, rfl, pq, _, _, _, rfl, rfl, SqL.of ep, B8 (j := 0) rfl, _, rfl, pq, _, _, _, rfl, rfl, SqL.of ep, B8 (j := 1) rfl, fq, v, q1, q2, x1, x2, rfl, fr, a1, a2, k⟩
 rw [if_neg fun z => h (congrArg V.int z)] at k
 clear h
 refine ⟨_, rfl, rfl, _, rfl, J1 (fun h => ?_) (fun h => ?_)⟩
 . rw [if_pos (V.int.inj h)] at k
   exact ⟨_, rfl, _, rfl, pq, _, _, _, rfl, rfl, SqL.of ep, B8 (j := 0) rfl, _, rfl, pq, _, _, _, rfl, rfl, SqL.of ep, B8 (j := 1) rfl, fq, v, q1, q2, x1, x2, rfl, fr, a1, a2, k⟩
 rw [if_neg fun z => h (congrArg V.int z)] at k
 clear h
 refine ⟨_, rfl, rfl, _, rfl, J1 (fun h => ?_) (fun h => ?_)⟩
 . rw [if_pos (V.int.inj h)] at k
   exact ⟨_, rfl, _, rfl, pq, _, _, _, rfl, rfl, SqL.of ep, B8 (j := 0) rfl, fq, v, q1, x1, rfl, fr, a1, k⟩
 rw [if_neg fun z => h (congrArg V.int z)] at k
 exact ⟨_, rfl, _, rfl, pq, _, _, _, rfl, rfl, SqL.of ep, B8 (j := 2) rfl, _, rfl, fq, v, q3, x3, c, rfl, fr, a3, f24, p0, p1, c0, c1, k⟩
def V3w (CN CC CT : Addr) : Sp := fun vs H Q E => ∃ c v a b xs ys l n1 n2 n3 x1 x2 x3, ∃ k m : Int, vs = [.ref c, .int k, .ref l, .int m] /\ A0n CC H c v a b xs ys /\ v.Ok /\ xs.length <= 900 /\ Z2 xs = xs /\ H l = some (.lst [.ref n1, .ref n2, .ref n3]) /\ Two CN H n1 n2 x1 x2 /\ V1 CN H n3 x3 /\ x1.k = .plain /\ x2.k = .plain /\ x3.k = .plain /\ x1.Ok /\ x2.Ok /\ x3.Ok /\ x3.f < A4 24 /\ -60 <= x3.p /\ x3.p <= 60 /\ -20 <= m /\ m <= 20 /\ A1r CN CC CT H c v b xs ys (opR v k x1 x2 x3 m) Q E
theorem A0jn : C5 Q43 Q43 (A2 B7j) := scK
theorem Y4n {f f1 f2 f3 f4 f5 CN CC CT : Addr} {fd fd1 fd2 fd3 fd4 fd5 : FuncData} (D : Def K mg "_law_told" Q43 B7j f fd) (D_over : Def K mg "over" Q9 C9q f1 fd1) (G_over : A8 P w K mg base (CX1 P w) 7 f1 fd1 Q9 (Y8b CN CC CT))
   (D_whole_over : Def K mg "whole_over" Q9 A0t f2 fd2) (G_whole_over : A8 P w K mg base (CX1 P w) 7 f2 fd2 Q9 (C6m CN CC CT)) (D_rest_of : Def K mg "rest_of" Q9 A8a f3 fd3) (G_rest_of : A8 P w K mg base (CX1 P w) 8 f3 fd3 Q9 (Y4s CN CC CT))
   (D_root : Def K mg "root" Q39 C9m f4 fd4) (G_root : A8 P w K mg base (CX1 P w) 7 f4 fd4 Q39 (Y5g CN CC CT)) (D_to_power : Def K mg "to_power" Q48 B7m f5 fd5) (G_to_power : A8 P w K mg base (CX1 P w) 7 f5 fd5 Q48 (A0qu CN CC CT)) : A8 P w K mg base (CX1 P w) 9 f fd Q43 (V3w CN CC CT) := by
 refine D.F.okE A0jn (fun vs H Q E h => ?_) (fun X cdv A outer s H vs Q E hX hr hx h => ?_)
 . obtain ⟨c, v, a, b, xs, ys, l, n1, n2, n3, x1, x2, x3, k, m, rfl, _⟩ := h
   rfl
 subst hX
 obtain ⟨c, v, a, b, xs, ys, l, n1, n2, n3, x1, x2, x3, n, m, rfl, hc, ok, lx, ox, el, tw, m3, h1, h2, h3, o1, o2, o3, f24, p0, p1, c0, c1, k⟩ := h
 refine ⟨_, (A3 (G4 (C7 G2 (pv 1) A1 (C6 _)) (A6 (B0 (C9 D_over G_over hr hx (A0 (pv 0) (A0 (D9 U5 (pv 2) A1 (fun _ _ => rfl)) (A0 (D9 U5 (pv 2) A1 (fun _ _ => rfl)) A5)))))) D0) (A3 (G4 (C7 G2 (pv 1) A1 (C6 _)) (A6 (B0 (C9 D_whole_over G_whole_over hr hx (A0 (pv 0) (A0 (D9 U5 (pv 2) A1 (fun _ _ => rfl)) (A0 (D9 U5 (pv 2) A1 (fun _ _ => rfl)) A5)))))) D0) (A3 (G4 (C7 G2 (pv 1) A1 (C6 _)) (A6 (B0 (C9 D_rest_of G_rest_of hr hx (A0 (pv 0) (A0 (D9 U5 (pv 2) A1 (fun _ _ => rfl)) (A0 (D9 U5 (pv 2) A1 (fun _ _ => rfl)) A5)))))) D0) (A3 (G4 (C7 G2 (pv 1) A1 (C6 _)) (A6 (B0 (C9 D_root G_root hr hx (A0 (pv 0) (A0 (D9 U5 (pv 2) A1 (fun _ _ => rfl)) A5))))) D0) (A6 (B0 (C9 D_to_power G_to_power hr hx (A0 (pv 0) (A0 (D9 U5 (pv 2) A1 (fun _ _ => rfl)) (A0 (pv 3) A5)))))))))), ?_⟩
 have f10 := o1.f0; have f11 := o1.f1; have f20 := o2.f0; have f21 := o2.f1
 unfold opR at k
 refine ⟨_, rfl, rfl, _, rfl, J1 (fun h => ?_) (fun h => ?_)⟩
 . rw [if_pos (V.int.inj h), <- A0hm h1 h2] at k
   exact ⟨_, rfl, _, rfl, l, _, _, _, rfl, rfl, SqL.of el, B8 (j := 0) rfl, _, rfl, l, _, _, _, rfl, rfl, SqL.of el, B8 (j := 1) rfl, c, v, a, b, xs, ys, n1, n2, x1, x2, _, rfl, hc, ok, lx, ox, tw, o1, o2, fun hq hf => A5m (C7q f10 hf f11).sz (C7q f20 hq.2.2 f21).sz _, k⟩
 rw [if_neg fun z => h (congrArg V.int z)] at k
 clear h
 refine ⟨_, rfl, rfl, _, rfl, J1 (fun h => ?_) (fun h => ?_)⟩
 . rw [if_pos (V.int.inj h), <- Y4k h1 h2] at k
   obtain ⟨w0, wT⟩ := G1g o1 o2
   exact ⟨_, rfl, _, rfl, l, _, _, _, rfl, rfl, SqL.of el, B8 (j := 0) rfl, _, rfl, l, _, _, _, rfl, rfl, SqL.of el, B8 (j := 1) rfl, c, v, a, b, xs, ys, n1, n2, x1, x2, _, rfl, hc, ok, lx, ox, tw, o1, o2, fun hq hf => A5m (SzL.sz ⟨by omega, wT⟩) A4v 0, k⟩
 rw [if_neg fun z => h (congrArg V.int z)] at k
 clear h
 refine ⟨_, rfl, rfl, _, rfl, J1 (fun h => ?_) (fun h => ?_)⟩
 . rw [if_pos (V.int.inj h), <- A0ga h1 h2] at k
   have pr : Y8c x1 x2 (V9 x1 x2 + A0r (A0e x1 x2).f 1) := by
     unfold Y8c C8t
     rw [if_neg (fun z => by simp [h2] at z : ¬ x2.k = .end_)]
     intro _ hf
     by_cases hz : x2.f = 0
     . have e : (A0e x1 x2).f = Y9 x1 (V9 x1 x2) := by
         show Y9 x1 (V9 x1 x2) - U0 x1 x2 * Y9 x2 (V9 x1 x2) = _
         unfold U0 Y9
         rw [hz, Int.zero_mul, Int.ediv_zero, Int.zero_mul, Int.sub_zero]
       have f1 : x1.f ≠ 0 := fun z => hf (by rw [e]; unfold Y9; rw [z, Int.zero_mul])
       have lb := G0b x1 x2
       have p10 := o1.p0; have p11 := o1.p1; have p20 := o2.p0; have p21 := o2.p1
       have sz := B5m (q := V9 x1 x2) o1 f1 (by omega)
       rw [<- e] at sz
       exact A5m sz.sz A4v _
     . obtain ⟨g0, g1, _⟩ := G1j o1 o2 hz
       exact A5m (SzL.sz ⟨by omega, g1⟩) A4v _
   exact ⟨_, rfl, _, rfl, l, _, _, _, rfl, rfl, SqL.of el, B8 (j := 0) rfl, _, rfl, l, _, _, _, rfl, rfl, SqL.of el, B8 (j := 1) rfl, c, v, a, b, xs, ys, n1, n2, x1, x2, _, rfl, hc, ok, lx, ox, tw, o1, o2, pr, k⟩
 rw [if_neg fun z => h (congrArg V.int z)] at k
 clear h
 refine ⟨_, rfl, rfl, _, rfl, J1 (fun h => ?_) (fun h => ?_)⟩
 . rw [if_pos (V.int.inj h)] at k
   exact ⟨_, rfl, _, rfl, l, _, _, _, rfl, rfl, SqL.of el, B8 (j := 0) rfl, c, v, a, b, xs, ys, n1, x1, rfl, hc, ok, lx, ox, tw.1, h1, o1, k⟩
 rw [if_neg fun z => h (congrArg V.int z)] at k
 exact ⟨_, rfl, _, rfl, l, _, _, _, rfl, rfl, SqL.of el, B8 (j := 2) rfl, _, rfl, c, v, a, b, xs, ys, n3, x3, m, rfl, hc, ok, lx, ox, m3, h3, o3, f24, p0, p1, c0, c1, k⟩
def V3m : Sp := fun vs H Q _ => ∃ pq q1 q2 x1 x2, ∃ m : Int, vs = [.ref pq, .int m] /\ H pq = some (.lst [.ref q1, .ref q2]) /\ J5 H q1 x1 /\ J5 H q2 x2 /\ 0 <= m /\
 ∀ q1 q2 x1 x2 H', Exc pq H H' -> H' pq = some (.lst [.ref q1, .ref q2]) -> J5 H' q1 x1 -> J5 H' q2 x2 -> Q (.ref pq) H'
theorem scLBent : C5 ["_law_parts", "_law_more", "_law_one", "_law_other", "_law_few", "_law_root_of"] Q51 (A2 B7t) := scK
theorem Y7w {f f1 : Addr} {fd fd1 : FuncData} (D : Def K mg "_law_bent" Q51 B7t f fd) (D_l_ten : Def K mg "_law_ten" Q10 B0y f1 fd1) (G_l_ten : A8 P w K mg base (CX1 P w) 1 f1 fd1 Q10 B7u) (O : Own mg) : A8 P w K mg base (CX1 P w) 2 f fd Q51 V3m := by
 refine D.F.okE scLBent (fun vs H Q E h => ?_) (fun X cdv A outer s H vs Q E hX hr hx h => ?_)
 . obtain ⟨pq, q1, q2, x1, x2, m, rfl, _⟩ := h
   rfl
 subst hX
 obtain ⟨pq, q1, q2, x1, x2, m, rfl, ep, a1, a2, m0, k⟩ := h
 refine ⟨_, (A3 (B5 (Y8d (i := 2) (j := 3) rfl scLBent.nd rfl rfl (Or.inl rfl) (Or.inl rfl) (U6 (A0 (D9 U5 (pv 0) A1 (fun _ _ => rfl)) (A0 (D9 U5 (pv 0) A1 (fun _ _ => rfl)) A5))))) (A3 (B5 (D3 (i := 4) scLBent.nd rfl (Or.inl rfl) (A9 J0 (D9 G3 (pv 3) A1 (fun _ _ => rfl)) (C9 D_l_ten G_l_ten hr hx (A0 A1 A5))))) (A3 (B5 (G4 (C7 G2 (A9 J0 (pv 1) A1) A1 (C6 _)) (A3 (B5 (A6b (U6 (A0 (D9 G3 (pv 2) A1 (fun _ _ => rfl)) (A0 (A9 G5 (pv 4) (A9 J0 (A9 D8 (pv 1) A1) A1)) (A0 (D9 G3 (pv 3) A1 (fun _ _ => rfl)) A5)))) (U0j (pv 0) A1 C9v))) (A6 (B5 (A6b (U6 (A0 (D9 G3 (pv 3) A1 (fun _ _ => rfl)) (A0 (pv 4) (A0 (D9 G3 (pv 3) A1 (fun _ _ => rfl)) A5)))) (U0j (pv 0) A1 C9v))))) D0)) (A3 (B5 (G4 (C7 G2 (A9 J0 (pv 1) A1) A1 (C6 _)) (A3 (B5 (D3 (i := 5) scLBent.nd rfl (Or.inl rfl) (A9 J0 (D9 G3 (pv 2) A1 (fun _ _ => rfl)) (C9 D_l_ten G_l_ten hr hx (A0 A1 A5))))) (A6 (B5 (A6b (U6 (A0 (A0k A1x (by rfl) O.int_ boot_int (A0 (G9 G2 (A9 J0 (pv 1) A1) A1 (C6 _)) A5)) (A0 (A9 G5 (pv 5) (pv 5)) (A0 (A9 G5 (A9 D8 (D9 G3 (pv 2) A1 (fun _ _ => rfl)) A1) A1) A5)))) (U0j (pv 0) A1 C9v))))) D0)) (A6 (B0 (pv 0))))))), ?_⟩
 have z2 : 2 <= sizeLine := D7 (by decide)
 have z3 : 3 <= sizeLine := D7 (by decide)
 have o1 := a1.o; have o2 := a2.o
 have p10 := o1.p0; have p11 := o1.p1; have p20 := o2.p0; have p21 := o2.p1
 refine ⟨fun σ' H' => C8 H H' /\ σ' = [some (.ref pq), some (.int m), some (.ref q1), some (.ref q2), none, none], ⟨_, rfl, pq, _, _, _, rfl, rfl, SqL.of ep, B8 (j := 0) rfl, _, rfl, pq, _, _, _, rfl, rfl, SqL.of ep, B8 (j := 1) rfl, z2, fun t nt => ⟨t, _, _, rfl, SqT.of A7, C8.upd nt, rfl⟩⟩, ?_⟩
 rintro σ' H1 ⟨s1, rfl⟩
 have b1 := a1.same s1; have b2 := a2.same s1
 have g0 := Int.emod_nonneg x2.f (Int.ne_of_gt (D4 20))
 have g1 := Int.emod_lt_of_pos x2.f (D4 20)
 refine ⟨fun σ' H' => H' = H1 /\ σ' = [some (.ref pq), some (.int m), some (.ref q1), some (.ref q2), some (.int (x2.f % A4 20)), none], ⟨_, rfl, q2, _, _, _, rfl, rfl, SqT.of b2.e, B8 (j := 1) rfl, 20, rfl, by decide, by decide, _, _, rfl, rfl, D4 _, rfl, rfl⟩, ?_⟩
 rintro σ' H2 ⟨rfl, rfl⟩
 generalize x2.f % A4 20 = fw at *
 have t20 : A4 20 = 100000000000000000000 := by decide +kernel
 have t60 : (10 : Int) ^ 60 - 1 >= 100000000000000000000 * 1000 := by decide +kernel
 have put : ∀ {G : Hp} {q : Addr} {j : Nat} {ys : List V} {z : Nm}, Exc pq H G -> G q = none -> G pq = some (.lst ys) -> z.Ok -> z.k = .plain -> Exc pq H (upd (upd G q (.tup z.pv)) pq (.lst (ys.set j (.ref q)))) /\ J5 (upd (upd G q (.tup z.pv)) pq (.lst (ys.set j (.ref q)))) q z /\ ∀ {b : Addr} {x : Nm}, J5 G b x -> J5 (upd (upd G q (.tup z.pv)) pq (.lst (ys.set j (.ref q)))) b x := fun {G q j ys z} xG nq e zo zk => by
   have u := C8.upd (o := .tup z.pv) nq
   have tp : ∀ {b : Addr} {xs : List V}, (upd G q (.tup z.pv)) b = some (.tup xs) -> (upd (upd G q (.tup z.pv)) pq (.lst (ys.set j (.ref q)))) b = some (.tup xs) := fun e' => by rw [G6 (A7b e' (u _ _ e) (by intro z; cases z))]; exact e'
   exact ⟨xG.trans ((Exc.of u).trans Exc.upd), ⟨tp A7, zo, zk⟩, fun h => ⟨tp (u _ _ h.e), h.o, h.k⟩⟩
 have s1' : Exc pq H H2 := Exc.of s1
 have ep2 := s1 _ _ ep
 refine ⟨fun σ' H' => ∃ r1 r2 y1 y2, Exc pq H H' /\ H' pq = some (.lst [.ref r1, .ref r2]) /\ J5 H' r1 y1 /\ J5 H' r2 y2 /\ J5 H' q1 x1 /\ σ' = [some (.ref pq), some (.int m), some (.ref q1), some (.ref q2), some (.int fw), none], ?_, ?_⟩
 . refine ⟨_, rfl, _, _, rfl, rfl, (by decide : (0 : Int) < 5), rfl, _, rfl, J1 (fun h => ?_) (fun h => ⟨q1, q2, x1, x2, s1', ep2, b1, b2, b1, rfl⟩)⟩
   have c0 := Int.emod_nonneg (m / 5) (by decide : (1000 : Int) ≠ 0)
   have c1 := Int.emod_lt_of_pos (m / 5) (by decide : (0 : Int) < 1000)
   have mb : 0 <= fw * (m / 5 % 1000) /\ fw * (m / 5 % 1000) <= 100000000000000000000 * 1000 := ⟨Int.mul_nonneg g0 c0, Int.mul_le_mul (by omega) (by omega) c0 (by decide)⟩
   refine ⟨fun σ' H' => ∃ r1, Exc pq H H' /\ H' pq = some (.lst [.ref r1, .ref q2]) /\ J5 H' r1 ⟨.plain, x1.s, fw * (m / 5 % 1000), x2.p⟩ /\ J5 H' q1 x1 /\ J5 H' q2 x2 /\ σ' = [some (.ref pq), some (.int m), some (.ref q1), some (.ref q2), some (.int fw), none], ?_, ?_⟩
   . refine ⟨_, rfl, q1, _, _, _, rfl, rfl, SqT.of b1.e, B8 (j := 0) rfl, _, rfl, _, rfl, _, _, rfl, rfl, dv (n := 5) (by decide) (by decide +kernel), _, _, rfl, rfl, (by decide : (0 : Int) < 1000), _, _, rfl, rfl, A2u.ok (.inr ⟨by omega, by omega⟩), _, rfl, q2, _, _, _, rfl, rfl, SqT.of b2.e, B8 (j := 2) rfl, z3, fun q nq => ?_⟩
     obtain ⟨d1, d2, d3⟩ := put (j := 0) (z := ⟨.plain, x1.s, fw * (m / 5 % 1000), x2.p⟩) s1' nq ep2 ⟨o1.s0, o1.s1, mb.1, by show fw * (m / 5 % 1000) <= 10 ^ 60 - 1; omega, o2.p0, o2.p1⟩ rfl
     exact ⟨_, rfl, pq, _, 0, 0, rfl, rfl, (C8.upd nq) _ _ ep2, rfl, q, d1, A7, d2, d3 b1, d3 b2, rfl⟩
   rintro σ' H3 ⟨r1, x3, e3, c1', d1, d2, rfl⟩
   refine ⟨_, ?_, fun _ _ h => h⟩
   refine ⟨_, rfl, q2, _, _, _, rfl, rfl, SqT.of d2.e, B8 (j := 0) rfl, _, rfl, _, rfl, q2, _, _, _, rfl, rfl, SqT.of d2.e, B8 (j := 2) rfl, z3, fun q nq => ?_⟩
   obtain ⟨w1, w2, w3⟩ := put (j := 1) (z := ⟨.plain, x2.s, fw, x2.p⟩) x3 nq e3 ⟨o2.s0, o2.s1, g0, by show fw <= 10 ^ 60 - 1; omega, o2.p0, o2.p1⟩ rfl
   exact ⟨_, rfl, pq, _, 1, 1, rfl, rfl, (C8.upd nq) _ _ e3, rfl, r1, q, _, _, w1, A7, w3 c1', w2, w3 d1, rfl⟩
 rintro σ' H3 ⟨r1, r2, y1, y2, x3, e3, c1, c2, d1, rfl⟩
 refine ⟨fun σ' H' => ∃ r1 r2 y1 y2 v5, Exc pq H H' /\ H' pq = some (.lst [.ref r1, .ref r2]) /\ J5 H' r1 y1 /\ J5 H' r2 y2 /\ σ' = [some (.ref pq), some (.int m), some (.ref q1), some (.ref q2), some (.int fw), v5], ?_, ?_⟩
 . refine ⟨_, rfl, _, _, rfl, rfl, (by decide : (0 : Int) < 5), rfl, _, rfl, J1 (fun h => ?_) (fun h => ⟨r1, r2, y1, y2, none, x3, e3, c1, c2, rfl⟩)⟩
   have h0 := Int.emod_nonneg x1.f (Int.ne_of_gt (D4 24))
   have h1 := Int.emod_lt_of_pos x1.f (D4 24)
   refine ⟨fun σ' H' => H' = H3 /\ σ' = [some (.ref pq), some (.int m), some (.ref q1), some (.ref q2), some (.int fw), some (.int (x1.f % A4 24))], ⟨_, rfl, q1, _, _, _, rfl, rfl, SqT.of d1.e, B8 (j := 1) rfl, 24, rfl, by decide, by decide, _, _, rfl, rfl, D4 _, rfl, rfl⟩, ?_⟩
   rintro σ' H4 ⟨rfl, rfl⟩
   generalize x1.f % A4 24 = rt at *
   refine ⟨_, ?_, fun _ _ h => h⟩
   have t24 : A4 24 * A4 24 <= 10 ^ 60 - 1 := by decide +kernel
   have mb : 0 <= rt * rt /\ rt * rt <= A4 24 * A4 24 := ⟨Int.mul_nonneg h0 h0, Int.mul_le_mul (Int.le_of_lt h1) (Int.le_of_lt h1) h0 (Int.le_of_lt (D4 _))⟩
   have rb : Builtin.Int.intBits rt <= 2 ^ 20 := U1c h0 (Int.lt_of_lt_of_le h1 (V7 (by decide)))
   have d2 := dv (n := 2) (by decide) (by decide +kernel)
   refine ⟨_, rfl, _, _, rfl, rfl, (by decide : (0 : Int) < 55), rfl, .inr ⟨_, rfl, _, rfl, _, rfl, _, _, rfl, rfl, IntMulOk.of_bits rb rb, _, rfl, q1, _, _, _, rfl, rfl, SqT.of d1.e, B8 (j := 2) rfl, _, _, rfl, rfl, d2, _, _, rfl, rfl, A2u.ok (.inr ⟨by decide, by decide⟩), z3, fun q nq => ?_⟩⟩
   have sb : 0 <= (if decide (V.int (m % 55) = V.int 2) = true then (1 : Int) else 0) /\ (if decide (V.int (m % 55) = V.int 2) = true then (1 : Int) else 0) <= 1 := by cases decide (V.int (m % 55) = V.int 2) <;> decide
   obtain ⟨w1, w2, w3⟩ := put (j := 0) (z := ⟨.plain, if decide (V.int (m % 55) = V.int 2) = true then (1 : Int) else 0, rt * rt, x1.p / 2 * 2⟩) x3 nq e3 ⟨sb.1, sb.2, mb.1, by show rt * rt <= 10 ^ 60 - 1; omega, by show -200 <= x1.p / 2 * 2; omega, by show x1.p / 2 * 2 <= 200; omega⟩ rfl
   exact ⟨_, rfl, pq, _, 0, 0, rfl, rfl, (C8.upd nq) _ _ e3, rfl, q, r2, _, _, _, w1, A7, w2, w3 c2, rfl⟩
 rintro σ' H4 ⟨r1, r2, y1, y2, v5, x4, e4, c1, c2, rfl⟩
 exact ⟨_, rfl, k r1 r2 y1 y2 H4 x4 e4 c1 c2⟩
def rdS (zs : List Str) : PyData := .list (zs.map PyData.str)
def OkL (zs : List Str) : Prop := zs.length <= 100 /\ ∀ z ∈ zs, PyData.strOk z = true
theorem layS : ∀ {zs : List Str}, (∀ z ∈ zs, PyData.strOk z = true) -> PyData.canLayAll0 (zs.map PyData.str) = true /\ PyData.depthAll (zs.map PyData.str) <= 1
 | [], _ => by simp [PyData.canLayAll0, PyData.depthAll]
 | z :: zs, h => by
   obtain ⟨a, b⟩ := layS (zs := zs) fun z' h' => h z' (List.mem_cons_of_mem _ h')
   have c := h z List.mem_cons_self
   constructor
   . simp [PyData.canLayAll0, PyData.canLay0, c, a]
   . simp only [List.map_cons, PyData.depthAll, PyData.depth]
     omega
theorem shS {zs : List Str} (h : OkL zs) : SeqAt.shaped (rdS zs) = true := by
 obtain ⟨a, b⟩ := layS h.2
 unfold SeqAt.shaped rdS
 simp only [PyData.canLay0, PyData.depth, a, Bool.and_true, Bool.and_eq_true, decide_eq_true_eq, List.length_map]
 exact ⟨trivial, decide_eq_true (by omega)⟩
theorem eqSs : ∀ zs : List Str, PyData.eqv (rdS zs) (rdS zs) = true := by
 have h : ∀ zs : List Str, PyData.eqvAll (zs.map PyData.str) (zs.map PyData.str) = true := fun zs => by
   induction zs with
   | nil => simp [PyData.eqvAll]
   | cons z zs ih => simp [PyData.eqvAll, PyData.eqv, ih]
 intro zs
 simp [rdS, PyData.eqv, h]
theorem rdsS {K : Frag} {H : Hp} : ∀ zs : List Str, D0g K H (zs.map V.str) (zs.map PyData.str)
 | [] => .nil
 | z :: zs => .cons (.str z) (rdsS zs)
theorem Y6a {K : Frag} {H : Hp} {p : Addr} {zs : List Str} (h : H p = some (.lst (zs.map V.str))) : RdD K H (.ref p) (rdS zs) := .lst (SqL.of h) (rdsS zs)
theorem A0yb : ∀ z ∈ B8e, PyData.strOk z = true := by decide +kernel
def C1p (k : Str) (s f p : Int) : PyData := .tuple [.str k, .int s, .int f, .int p]
theorem shD {k : Str} (s f p : Int) (h : PyData.strOk k = true) : SeqAt.shaped (C1p k s f p) = true := by
 unfold SeqAt.shaped C1p
 simp [PyData.canLay0, PyData.canLayAll0, PyData.depth, PyData.depthAll, h]
theorem eqD (k : Str) (s f p : Int) : PyData.eqv (C1p k s f p) (C1p k s f p) = true := by
 simp [C1p, PyData.eqv, PyData.eqvAll]
theorem rdD {K : Frag} {H : Hp} {d : Addr} {k : Str} {s f p : Int} (h : H d = some (.tup [.str k, .int s, .int f, .int p])) : RdD K H (.ref d) (C1p k s f p) := .tup (SqT.of h) (.cons (.str _) (.cons (.int _) (.cons (.int _) (.cons (.int _) .nil))))
theorem okK (k : Kd) : PyData.strOk k.str = true := by cases k <;> decide +kernel
abbrev A4a : Stmt := (J2 (top 67) 4)
def B7x (CC : Addr) : Sp := fun vs H Q _ => ∃ c r y l m a b xs ys, vs = [.ref c] /\ A1s CC H c r y l m a b xs ys /\ ∀ a' H', Exc c H H' -> H a' = none -> A1s CC H' c r y l m a' b [] ys -> Q .non H'
theorem U1m : C5 ["self"] ["self"] (A2 A4a) := scK
theorem J4w {f CC : Addr} {fd : FuncData} (F : Fun K "clear" "Context.clear" A4a f fd) (C : D5f K mg CC) : A8 P w K mg base (CX1 P w) 1 f fd ["self"] (B7x CC) := by
 refine A8.up (F.ok U1m (fun vs H Q E h => ?_) (fun cdv A outer s H vs Q E hr h => ?_))
 . obtain ⟨c, r, y, l, m, a, b, xs, ys, rfl, _⟩ := h
   rfl
 obtain ⟨c, r, y, l, m, a, b, xs, ys, rfl, ⟨⟨dx, e⟩, ha, hb⟩, k⟩ := h
 refine ⟨_, (A6 (Z7 (pv 0) (U4 A5) rfl)), ?_⟩
 refine ⟨Nat.zero_le _, fun p np => ?_⟩
 have u := C8.upd (o := .lst []) np
 refine ⟨_, rfl, c, CC, dx, _, rfl, u _ _ e, C.cl, C.n_risen, by rw [J4d]; decide, ?_⟩
 rw [C8s]
 have nac : p ≠ c := Ne.symm (G7 e np)
 have nbc : b ≠ c := A7b hb e (by intro z; cases z)
 exact k p _ ((Exc.of u).trans Exc.upd) np ⟨⟨dx, A7⟩, by rw [G6 nac]; exact A7, by rw [G6 nbc]; exact u _ _ hb⟩
abbrev G2j : Stmt := (top 104)
structure A5b (CN : Addr) (H : Hp) (fq pq lq q1 q2 q3 n1 n2 n3 : Addr) (v : Cv) (x1 x2 x3 : Nm) : Prop where
 fr : B8c H fq v
 ep : H pq = some (.lst [.ref q1, .ref q2, .ref q3])
 a1 : J5 H q1 x1
 a2 : J5 H q2 x2
 a3 : J5 H q3 x3
 el : H lq = some (.lst [.ref n1, .ref n2, .ref n3])
 m1 : V1 CN H n1 x1
 m2 : V1 CN H n2 x2
 m3 : V1 CN H n3 x3
theorem A5b.same {CN : Addr} {H H' : Hp} {fq pq lq q1 q2 q3 n1 n2 n3 : Addr} {v : Cv} {x1 x2 x3 : Nm} (h : A5b CN H fq pq lq q1 q2 q3 n1 n2 n3 v x1 x2 x3) (s : C8 H H') : A5b CN H' fq pq lq q1 q2 q3 n1 n2 n3 v x1 x2 x3 :=
 ⟨h.fr.same s, s _ _ h.ep, h.a1.same s, h.a2.same s, h.a3.same s, s _ _ h.el, h.m1.same s, h.m2.same s, h.m3.same s⟩
theorem A5b.exc {CN : Addr} {H H' : Hp} {fq pq lq q1 q2 q3 n1 n2 n3 c C0 d0 : Addr} {v : Cv} {x1 x2 x3 : Nm} {F : List (Str × V)} (h : A5b CN H fq pq lq q1 q2 q3 n1 n2 n3 v x1 x2 x3) (s : Exc c H H') (ec : H c = some (.ins C0 d0 F)) (c1 : n1 ≠ c) (c2 : n2 ≠ c) (c3 : n3 ≠ c) : A5b CN H' fq pq lq q1 q2 q3 n1 n2 n3 v x1 x2 x3 := by
 have tp : ∀ {q : Addr} {xs : List V}, H q = some (.tup xs) -> H' q = some (.tup xs) := fun e => s _ _ e (A7b e ec (by intro z; cases z))
 have ls : ∀ {q : Addr} {xs : List V}, H q = some (.lst xs) -> H' q = some (.lst xs) := fun e => s _ _ e (A7b e ec (by intro z; cases z))
 have nu : ∀ {n x}, n ≠ c -> V1 CN H n x -> V1 CN H' n x := fun ne ⟨dx, z⟩ => ⟨dx, s _ _ z ne⟩
 exact ⟨⟨tp h.fr.e, h.fr.ok⟩, ls h.ep, ⟨tp h.a1.e, h.a1.o, h.a1.k⟩, ⟨tp h.a2.e, h.a2.o, h.a2.k⟩, ⟨tp h.a3.e, h.a3.o, h.a3.k⟩, ls h.el, nu c1 h.m1, nu c2 h.m2, nu c3 h.m3⟩
theorem Y4b {ys : List V} (h : ys.length = 3) : ∃ a b c, ys = [a, b, c] := by
 match ys, h with
 | [a, b, c], _ => exact ⟨a, b, c, rfl⟩
theorem Y6h (zs : List Str) : OkL (Z2 zs) := ⟨Nat.le_trans (List.length_filter_le _ _) (by decide +kernel), fun z hz => A0yb z (List.mem_filter.mp hz).1⟩
def J4z (x1 x2 x3 : Nm) : PyData := .list [C1p x1.k.str x1.s x1.f x1.p, C1p x2.k.str x2.s x2.f x2.p, C1p x3.k.str x3.s x3.f x3.p]
theorem sh3 (x1 x2 x3 : Nm) : SeqAt.shaped (J4z x1 x2 x3) = true := by
 unfold SeqAt.shaped J4z C1p
 simp [PyData.canLay0, PyData.canLayAll0, PyData.depth, PyData.depthAll, okK]
theorem eq3 (x1 x2 x3 : Nm) : PyData.eqv (J4z x1 x2 x3) (J4z x1 x2 x3) = true := by
 simp [J4z, C1p, PyData.eqv, PyData.eqvAll]
theorem rd3 {K : Frag} {H : Hp} {d t1 t2 t3 : Addr} {x1 x2 x3 : Nm} (h : H d = some (.lst [.ref t1, .ref t2, .ref t3])) (h1 : H t1 = some (.tup x1.vs)) (h2 : H t2 = some (.tup x2.vs)) (h3 : H t3 = some (.tup x3.vs)) : RdD K H (.ref d) (J4z x1 x2 x3) :=
 .lst (SqL.of h) (.cons (rdD h1) (.cons (rdD h2) (.cons (rdD h3) .nil)))
def Y4c {α : Type} (a b c : α) : Nat -> α
 | 0 => a
 | 1 => b
 | _ => c
theorem get3 {a b c x : V} {i : Nat} (h : [a, b, c][i]? = some x) : i < 3 /\ x = Y4c a b c i := by
 rcases i with _ | _ | _ | i
 . cases h; exact ⟨by decide, rfl⟩
 . cases h; exact ⟨by decide, rfl⟩
 . cases h; exact ⟨by decide, rfl⟩
 cases h
theorem at3' {a b c : V} {i : Nat} (h : i < 3) : [a, b, c][i]? = some (Y4c a b c i) := by
 rcases (by omega : i = 0 \/ i = 1 \/ i = 2) with rfl | rfl | rfl <;> rfl
theorem at2 (a b n : Int) : ∃ v, (v = a \/ v = b) /\ atI ([.int a, .int b] : List V) (n % 2) = some (.int v) := by
 rcases (by omega : n % 2 = 0 \/ n % 2 = 1) with h | h
 . exact ⟨a, .inl rfl, by rw [h]; exact B8 (j := 0) rfl⟩
 exact ⟨b, .inr rfl, by rw [h]; exact B8 (j := 1) rfl⟩
def V4d (K : Frag) : Sp := fun vs H Q _ => ∃ a ns, vs = [.ref a] /\ (ns : List Int).length <= 63 /\ SqL K H a (ns.map V.int) /\ ∀ H', Q (.bl true) H'
theorem scLaw : C5 ["_law_script", "_law_frame_here", "_law_more", "_law_parts", "_law_few", "_law_numbers", "_law_count_here", "_law_context_here", "_law_k", "_law_way", "_law_due_here", "_law_names", "_law_found"] ["_law_script"] (A2 G2j) := scK
theorem A0ss {f f1 f2 f3 f4 f5 f6 f7 f8 f9 g1 CC CN CB CT : Addr} {fd fd1 fd2 fd3 fd4 fd5 fd6 fd7 fd8 fd9 gd1 : FuncData} (D : Def K mg "law" ["_law_script"] G2j f fd)
   (D_l_cell_at : Def K mg "_law_cell_at" Q36 D0e f1 fd1) (G_l_cell_at : A8 P w K mg base (CX1 P w) 1 f1 fd1 Q36 (Y4e K)) (D_l_mixed : Def K mg "_law_mixed" Q18 A7q f2 fd2) (G_l_mixed : A8 P w K mg base (CX1 P w) 1 f2 fd2 Q18 C7r)
   (D_l_frame : Def K mg "_law_frame" ["_law_cell"] A8b f3 fd3) (G_l_frame : A8 P w K mg base (CX1 P w) 1 f3 fd3 ["_law_cell"] J4g) (D_l_plain : Def K mg "_law_plain" Q19 A7s f4 fd4) (G_l_plain : A8 P w K mg base (CX1 P w) 3 f4 fd4 Q19 J4k)
   (D_l_context : Def K mg "_law_context" Q37 C8p f5 fd5) (G_l_context : A8 P w K mg base (CX1 P w) 5 f5 fd5 Q37 (Y4d CC)) (D_l_due : Def K mg "_law_due" Q42 C9g f6 fd6) (G_l_due : A8 P w K mg base (CX1 P w) 7 f6 fd6 Q42 Y4h)
   (D_l_told : Def K mg "_law_told" Q43 B7j f7 fd7) (G_l_told : A8 P w K mg base (CX1 P w) 9 f7 fd7 Q43 (V3w CN CC CT)) (D_l_bent : Def K mg "_law_bent" Q51 B7t g1 gd1) (G_l_bent : A8 P w K mg base (CX1 P w) 2 g1 gd1 Q51 V3m)
   (D_plain : Def K mg "plain" Q32 B7y f8 fd8) (G_plain : A8 P w K mg base (CX1 P w) 3 f8 fd8 Q32 (V3d K CN CB)) (D_told : Def K mg "told" ["number"] C9b f9 fd9) (G_told : A8 P w K mg base (CX1 P w) 2 f9 fd9 ["number"] (Y6b K CN CB))
   (C : D5f K mg CC) (MF : Has P w K mg base CC "flags" 1 ["self"] (B7k CC)) (ME : Has P w K mg base CC "clear" 1 ["self"] (B7x CC)) (O : Own mg) : A8 P w K mg base (CX1 P w) 10 f fd ["_law_script"] (V4d K) := by
 refine D.F.okE scLaw (fun vs H Q E h => ?_) (fun X cdv A outer s H vs Q E hX hr hx h => ?_)
 . obtain ⟨a, ns, rfl, _⟩ := h
   rfl
 subst hX
 obtain ⟨sc, ns, rfl, n63, hS, kk⟩ := h
 obtain ⟨ff, fdf, mf, gf, bf⟩ := MF
 obtain ⟨fe, fde, me, ge, be⟩ := ME
 refine ⟨_, (A3 (B5 (D3 (i := 1) scLaw.nd rfl (Or.inl rfl) (C9 D_l_frame G_l_frame hr hx (A0 (C9 D_l_mixed G_l_mixed hr hx (A0 (C9 D_l_cell_at G_l_cell_at hr hx (A0 (pv 0) (A0 A1 A5))) (A0 A1 A5))) A5)))) (A3 (B5 (D3 (i := 2) scLaw.nd rfl (Or.inl rfl) (C9 D_l_mixed G_l_mixed hr hx (A0 (C9 D_l_cell_at G_l_cell_at hr hx (A0 (pv 0) (A0 A1 A5))) (A0 A1 A5))))) (A3 (B5 (D3 (i := 3) scLaw.nd rfl (Or.inl rfl) (C9 D_l_bent G_l_bent hr hx (A0 (U4 (A0 (C9 D_l_plain G_l_plain hr hx (A0 (C9 D_l_cell_at G_l_cell_at hr hx (A0 (pv 0) (A0 A1 A5))) (A0 A1 A5))) (A0 (C9 D_l_plain G_l_plain hr hx (A0 (C9 D_l_cell_at G_l_cell_at hr hx (A0 (pv 0) (A0 A1 A5))) (A0 A1 A5))) A5))) (A0 (pv 2) A5))))) (A3 (B5 (D3 (i := 4) scLaw.nd rfl (Or.inl rfl) (C9 D_l_plain G_l_plain hr hx (A0 (C9 D_l_cell_at G_l_cell_at hr hx (A0 (pv 0) (A0 A1 A5))) (A0 A1 A5))))) (A3 (B5 (V8 (A0xy PySem.F.plainAttrs_list PySem.F.slot_list_append PySem.F.type_list_append B5s (pv 3) (A0 (U6 (A0 (D9 G3 (pv 4) A1 (fun _ _ => rfl)) (A0 (D9 G3 (pv 4) A1 (fun _ _ => rfl)) (A0 (A9 J8 (A9 J0 (D9 G3 (pv 4) A1 (fun _ _ => rfl)) A1) A1) A5)))) A5)))) (A3 (B5 (Y7s (i := 5) (N := ["_law_part"]) ⟨rfl, by decide +kernel, by decide +kernel, by decide +kernel, by decide +kernel⟩ (.inl hr.hd) (C0j (pv 3)) rfl (fun C s₀ H₀ ex pn h => J7 (i := 0) (by decide +kernel : (["_law_part"] : List Str).Nodup) rfl (Or.inl rfl)) (fun C s₀ H₀ ex pn h => (Y6z D_plain G_plain hr (A0 (D9 (B5p (K := K) rfl) (pv 0) A1 (fun _ _ => rfl)) (A0 (D9 (B5p (K := K) rfl) (pv 0) A1 (fun _ _ => rfl)) (A0 (D9 (B5p (K := K) rfl) (pv 0) A1 (fun _ _ => rfl)) A5))))) scLaw.nd rfl rfl)) (A3 (B5 (D3 (i := 6) scLaw.nd rfl (Or.inl rfl) (D9 U5 (U4 (A0 (A9 J8 (A9 J0 (A9 D8 (pv 2) A1) A1) A1) (A0 (A9 J8 (A9 J0 (A9 D8 (pv 2) A1) A1) A1) A5))) (A9 J0 (A9 D8 (pv 2) A1) A1) (fun _ _ => rfl)))) (A3 (B5 (D3 (i := 7) scLaw.nd rfl (Or.inl rfl) (C9 D_l_context G_l_context hr hx (A0 (pv 1) A5)))) (A3 (B5 (B7f PassesOwn.leaving rfl (B5j rfl O.range_ (A0 A1 A5)) (J7 (i := 8) scLaw.nd rfl (Or.inl rfl)) (A3 (B5 (D3 (i := 9) scLaw.nd rfl (Or.inl rfl) (A9 J0 (A9 J4 (A9 D8 (pv 2) A1) (A9 G5 (pv 8) (A9 J4 A1 (A9 J0 (A9 D8 (pv 2) A1) A1)))) A1))) (A3 (B5 (A6b (C9 D_l_due G_l_due hr hx (A0 (pv 1) (A0 (pv 9) (A0 (pv 3) (A0 (pv 6) A5))))) (B7g rfl (U9 (J7 (i := 10) scLaw.nd rfl (Or.inl rfl)) (U9 (J7 (i := 11) scLaw.nd rfl (Or.inl rfl)) A7p))))) (A3 (B5 (D3 (i := 12) scLaw.nd rfl (Or.inl rfl) (C9 D_l_told G_l_told hr hx (A0 (pv 7) (A0 (pv 9) (A0 (pv 5) (A0 (pv 6) A5))))))) (A3 (B5 (G4 (PW.pt (D9j (C7 (Y5c hr.units) (C9 D_told G_told hr hx (A0 (pv 12) A5)) (pv 10) (C6 _)) (C1h (C7 (Y5c hr.units) (A6f (pv 7) C.cl mf gf hr bf .nil hx) (pv 11) (C6 _))))) (A6 (B0 A3k)) D0)) (A6 (B5 (V8 (A6f (pv 7) C.cl me ge hr be .nil hx)))))))))) (A6 (B0 (G9 (A0sj hr.units) (J4m (N := ["_law_number"]) ⟨rfl, by decide +kernel, by decide +kernel, by decide +kernel, by decide +kernel⟩ (.inl hr.hd) (C0j (pv 5)) rfl (fun C s₀ H₀ ex pn h => J7 (i := 0) (by decide +kernel : (["_law_number"] : List Str).Nodup) rfl (Or.inl rfl)) (fun C s₀ H₀ ex pn h => (Y6z D_told G_told hr (A0 (pv 0) A5)))) (J4m (N := ["_law_part"]) ⟨rfl, by decide +kernel, by decide +kernel, by decide +kernel, by decide +kernel⟩ (.inl hr.hd) (C0j (pv 3)) rfl (fun C s₀ H₀ ex pn h => J7 (i := 0) (by decide +kernel : (["_law_part"] : List Str).Nodup) rfl (Or.inl rfl)) (fun C s₀ H₀ ex pn h => (U6 (A0 D5 (A0 (D9 (B5p (K := K) rfl) (pv 0) A1 (fun _ _ => rfl)) (A0 (D9 (B5p (K := K) rfl) (pv 0) A1 (fun _ _ => rfl)) (A0 (D9 (B5p (K := K) rfl) (pv 0) A1 (fun _ _ => rfl)) A5))))))) (C6 _))))))))))))), ?_⟩
 have z2 : 2 <= sizeLine := D7 (by decide)
 have z3 : 3 <= sizeLine := D7 (by decide)
 have z4 : 4 <= sizeLine := D7 (by decide)
 have mC' : ∀ z n : Int, -(2 ^ 64) < n -> n < 2 ^ 64 -> IntMulOk n z := fun z n a b => A2u.ok (.inl ⟨a, b⟩)
 refine ⟨fun σ' H' => ∃ fq v, C8 H H' /\ B8c H' fq v /\ σ' = [some (.ref sc), some (.ref fq), none, none, none, none, none, none, none, none, none, none, none], ?_, ?_⟩
 . exact ⟨_, rfl, sc, ns, 0, rfl, hS, by decide, fun c0 => ⟨c0, 0, rfl, by decide, by decide, fun m m0 _ => ⟨m, rfl, m0, fun r y l m q H' fo s' e => ⟨q, ⟨r, y, l, m⟩, s', ⟨e, fo⟩, rfl⟩⟩⟩⟩
 rintro σ' H1 ⟨fq, v, s1, fr, rfl⟩
 refine ⟨fun σ' H' => ∃ m : Int, H' = H1 /\ 0 <= m /\ σ' = [some (.ref sc), some (.ref fq), some (.int m), none, none, none, none, none, none, none, none, none, none], ⟨_, rfl, sc, ns, 4, rfl, s1.seq hS, by decide, fun c0 => ⟨c0, 4, rfl, by decide, by decide, fun m m0 _ => ⟨m, rfl, m0, rfl⟩⟩⟩, ?_⟩
 rintro σ' H2 ⟨m, rfl, m0, rfl⟩
 refine ⟨fun σ' H' => ∃ pq q1 q2 x1 x2, C8 H H' /\ H pq = none /\ B8c H' fq v /\ H' pq = some (.lst [.ref q1, .ref q2]) /\ J5 H' q1 x1 /\ J5 H' q2 x2 /\ σ' = [some (.ref sc), some (.ref fq), some (.int m), some (.ref pq), none, none, none, none, none, none, none, none, none], ?_, ?_⟩
 . refine ⟨_, rfl, sc, ns, 1, rfl, s1.seq hS, by decide, fun c1 => ⟨c1, 60, rfl, by decide, by decide, fun x1 q1 H3 k1 o1 _ s3 e1 => ?_⟩⟩
   refine ⟨_, rfl, sc, ns, 2, rfl, (s1.trans s3).seq hS, by decide, fun c2 => ⟨c2, 60, rfl, by decide, by decide, fun x2 q2 H4 k2 o2 _ s4 e2 => ⟨z2, fun pq np => ?_⟩⟩⟩
   have u := C8.upd (o := .lst [.ref q1, .ref q2]) np
   refine ⟨_, rfl, pq, q1, q2, x1, x2, m, rfl, A7, ⟨(s4.trans u) _ _ e1, o1, k1⟩, ⟨u _ _ e2, o2, k2⟩, m0, fun r1 r2 y1 y2 H5 x5 e5 c1 c2 => ?_⟩
   have sm : C8 H H4 := s1.trans (s3.trans s4)
   have npH := sm.free np
   have f5 := (fr.same (s3.trans s4)).same u
   exact ⟨pq, r1, r2, y1, y2, fun b o hb => x5 b o (u _ _ (sm _ _ hb)) (G7 hb npH), npH, ⟨x5 _ _ f5.e (A7b f5.e A7 (by intro z; cases z)), f5.ok⟩, e5, c1, c2, rfl⟩
 clear fr s1
 rintro σ' H3 ⟨pq, q1, q2, x1, x2, s3, np, fr, ep, p1, p2, rfl⟩
 refine ⟨fun σ' H' => ∃ q3 x3, C8 H3 H' /\ J5 H' q3 x3 /\ x3.f < A4 24 /\ σ' = [some (.ref sc), some (.ref fq), some (.int m), some (.ref pq), some (.ref q3), none, none, none, none, none, none, none, none], ⟨_, rfl, sc, ns, 3, rfl, s3.seq hS, by decide, fun c1 => ⟨c1, 24, rfl, by decide, by decide, fun x3 q3 H4 k3 o3 f3 s4 e3 => ⟨q3, x3, s4, ⟨e3, o3, k3⟩, f3, rfl⟩⟩⟩, ?_⟩
 rintro σ' H4 ⟨w3, y3, s4, pw, f24, rfl⟩
 refine ⟨fun σ' H' => ∃ q3 x3, C8 H H' /\ B8c H' fq v /\ H' pq = some (.lst [.ref q1, .ref q2, .ref q3]) /\ J5 H' q1 x1 /\ J5 H' q2 x2 /\ J5 H' q3 x3 /\ x3.f < A4 24 /\ -60 <= x3.p /\ x3.p <= 60 /\ σ' = [some (.ref sc), some (.ref fq), some (.int m), some (.ref pq), some (.ref w3), none, none, none, none, none, none, none, none], ?_, ?_⟩
 . have e4 := s4 _ _ ep
   have b0 := Int.emod_nonneg y3.p (by decide : (121 : Int) ≠ 0)
   have b1 := Int.emod_lt_of_pos y3.p (by decide : (0 : Int) < 121)
   refine ⟨_, rfl, .inl ⟨rfl, _, SqL.of e4⟩, _, rfl, w3, _, _, _, rfl, rfl, SqT.of pw.e, B8 (j := 0) rfl, _, rfl, w3, _, _, _, rfl, rfl, SqT.of pw.e, B8 (j := 1) rfl, _, rfl, w3, _, _, _, rfl, rfl, SqT.of pw.e, B8 (j := 2) rfl, _, _, rfl, rfl, (by decide : (0 : Int) < 121), _, _, rfl, rfl, z3, fun q nq => ?_⟩
   have u := C8.upd (o := .tup (Nm.pv ⟨.plain, y3.s, y3.f, y3.p % 121 - 60⟩)) nq
   have e5 := u _ _ e4
   refine ⟨pq, _, _, rfl, rfl, e5, Nat.lt_of_le_of_lt (show 2 <= 1000 by decide) (A0y (Nat.le_refl _)), ?_⟩
   have tp : ∀ {b : Addr} {xs : List V}, (upd H4 q (.tup (Nm.pv ⟨.plain, y3.s, y3.f, y3.p % 121 - 60⟩))) b = some (.tup xs) -> (upd (upd H4 q (.tup (Nm.pv ⟨.plain, y3.s, y3.f, y3.p % 121 - 60⟩))) pq (.lst [.ref q1, .ref q2, .ref q])) b = some (.tup xs) := fun e' => by rw [G6 (A7b e' e5 (by intro z; cases z))]; exact e'
   have pt : ∀ {b x}, J5 H3 b x -> J5 (upd (upd H4 q (.tup (Nm.pv ⟨.plain, y3.s, y3.f, y3.p % 121 - 60⟩))) pq (.lst [.ref q1, .ref q2, .ref q])) b x := fun h => ⟨tp ((s4.trans u) _ _ h.e), h.o, h.k⟩
   refine ⟨q, ⟨.plain, y3.s, y3.f, y3.p % 121 - 60⟩, fun b o hb => ?_, ⟨tp ((s4.trans u) _ _ fr.e), fr.ok⟩, A7, pt p1, pt p2, ⟨tp A7, ⟨pw.o.s0, pw.o.s1, pw.o.f0, pw.o.f1, by show -200 <= y3.p % 121 - 60; omega, by show y3.p % 121 - 60 <= 200; omega⟩, rfl⟩, f24, by show -60 <= y3.p % 121 - 60; omega, by show y3.p % 121 - 60 <= 60; omega, rfl⟩
   show upd _ pq _ b = _
   rw [G6 (G7 hb np)]
   exact u _ _ (s4 _ _ (s3 _ _ hb))
 clear s3 fr ep p1 p2 pw s4 f24
 rintro σ' H5 ⟨q3, x3, s2, fr, ep, p1, p2, p3, f24, pl, ph, rfl⟩
 have o1 := p1.o; have o2 := p2.o; have o3 := p3.o
 have k1 := p1.k; have k2 := p2.k; have k3 := p3.k
 refine ⟨fun σ' H' => ∃ lq n1 n2 n3, C8 H H' /\ A5b CN H' fq pq lq q1 q2 q3 n1 n2 n3 v x1 x2 x3 /\ σ' = [some (.ref sc), some (.ref fq), some (.int m), some (.ref pq), some (.ref w3), some (.ref lq), none, none, none, none, none, none, none], ?_, ?_⟩
 . refine ⟨_, rfl, pq, rfl, ⟨_, SqL.of ep⟩, B5t (J := Itl K pq) (n := 3) (fun i y H' => ∃ n, y = .ref n /\ V1 CN H' n (Y4c x1 x2 x3 i)) (by decide) (fun i y H1 H2 D l h hD e => ?_) (fun i H3 Qy hi sm hy => ⟨⟨_, _, SqL.of (sm _ _ ep), at3' hi⟩, fun x H4 yl => ?_⟩) (fun H3 sm => ⟨_, SqL.of (sm _ _ ep), Nat.le_refl _⟩) (fun D H' ys sm nD eD hlen hR => ?_)⟩
   . obtain ⟨n, rfl, hn⟩ := h
     exact ⟨n, rfl, hn.exc hD e⟩
   . obtain ⟨rfl, yl⟩ := yl
     have ex := (get3 (yl _ (SqL.of (sm _ _ ep)))).2
     subst ex
     rcases (by omega : i = 0 \/ i = 1 \/ i = 2) with rfl | rfl | rfl
     . have e := sm _ _ p1.e
       exact ⟨_, rfl, q1, _, _, _, rfl, rfl, SqT.of e, B8 (j := 0) rfl, _, rfl, q1, _, _, _, rfl, rfl, SqT.of e, B8 (j := 1) rfl, _, rfl, q1, _, _, _, rfl, rfl, SqT.of e, B8 (j := 2) rfl, _, _, _, rfl, .inl ⟨⟨_, rfl, o1.s0, o1.s1⟩, ⟨_, rfl, o1.f0, o1.f1⟩, ⟨_, rfl, o1.p0, o1.p1⟩, fun n H' nn s' num => hy _ _ s' ⟨n, rfl, by show V1 CN H' n x1; unfold V1; rw [k1]; exact num⟩⟩⟩
     . have e := sm _ _ p2.e
       exact ⟨_, rfl, q2, _, _, _, rfl, rfl, SqT.of e, B8 (j := 0) rfl, _, rfl, q2, _, _, _, rfl, rfl, SqT.of e, B8 (j := 1) rfl, _, rfl, q2, _, _, _, rfl, rfl, SqT.of e, B8 (j := 2) rfl, _, _, _, rfl, .inl ⟨⟨_, rfl, o2.s0, o2.s1⟩, ⟨_, rfl, o2.f0, o2.f1⟩, ⟨_, rfl, o2.p0, o2.p1⟩, fun n H' nn s' num => hy _ _ s' ⟨n, rfl, by show V1 CN H' n x2; unfold V1; rw [k2]; exact num⟩⟩⟩
     . have e := sm _ _ p3.e
       exact ⟨_, rfl, q3, _, _, _, rfl, rfl, SqT.of e, B8 (j := 0) rfl, _, rfl, q3, _, _, _, rfl, rfl, SqT.of e, B8 (j := 1) rfl, _, rfl, q3, _, _, _, rfl, rfl, SqT.of e, B8 (j := 2) rfl, _, _, _, rfl, .inl ⟨⟨_, rfl, o3.s0, o3.s1⟩, ⟨_, rfl, o3.f0, o3.f1⟩, ⟨_, rfl, o3.p0, o3.p1⟩, fun n H' nn s' num => hy _ _ s' ⟨n, rfl, by show V1 CN H' n x3; unfold V1; rw [k3]; exact num⟩⟩⟩
   . obtain ⟨y1, y2, y3, rfl⟩ := Y4b hlen
     obtain ⟨n1, rfl, h1⟩ := hR 0 _ rfl
     obtain ⟨n2, rfl, h2⟩ := hR 1 _ rfl
     obtain ⟨n3, rfl, h3⟩ := hR 2 _ rfl
     exact ⟨D, n1, n2, n3, s2.trans sm, ⟨fr.same sm, sm _ _ ep, p1.same sm, p2.same sm, p3.same sm, eD, h1, h2, h3⟩, rfl⟩
 clear s2 fr ep p1 p2 p3
 rintro σ' H6 ⟨lq, n1, n2, n3, s6, b6, rfl⟩
 refine ⟨fun σ' H' => ∃ ct : Int, C8 H6 H' /\ -20 <= ct /\ ct <= 20 /\ σ' = [some (.ref sc), some (.ref fq), some (.int m), some (.ref pq), some (.ref w3), some (.ref lq), some (.int ct), none, none, none, none, none, none], ?_, ?_⟩
 . obtain ⟨ct, hct, ix⟩ := at2 (m / 20 % 41 - 20) (m / 20 % 9 - 4) (m / 820)
   have b0 := Int.emod_nonneg (m / 20) (by decide : (41 : Int) ≠ 0)
   have b1 := Int.emod_lt_of_pos (m / 20) (by decide : (0 : Int) < 41)
   have c0 := Int.emod_nonneg (m / 20) (by decide : (9 : Int) ≠ 0)
   have c1 := Int.emod_lt_of_pos (m / 20) (by decide : (0 : Int) < 9)
   have d20 := dv (n := 20) (by decide) (by decide +kernel)
   refine ⟨_, rfl, _, _, rfl, rfl, d20, _, _, rfl, rfl, (by decide : (0 : Int) < 41), _, _, rfl, rfl, _, rfl, _, _, rfl, rfl, d20, _, _, rfl, rfl, (by decide : (0 : Int) < 9), _, _, rfl, rfl, z2, fun p np => ⟨_, rfl, _, _, rfl, rfl, dv (n := 820) (by decide) (by decide +kernel), _, _, rfl, rfl, (by decide : (0 : Int) < 2), p, _, _, _, rfl, rfl, SqL.of A7, ix, ct, C8.upd np, ?_, ?_, rfl⟩⟩
   . rcases hct with rfl | rfl <;> omega
   . rcases hct with rfl | rfl <;> omega
 rintro σ' H7 ⟨ct, s7, t0, t1, rfl⟩
 have b7 := b6.same s7
 refine ⟨fun σ' H' => ∃ c a b, A5b CN H' fq pq lq q1 q2 q3 n1 n2 n3 v x1 x2 x3 /\ A0n CC H' c v a b [] [] /\ n1 ≠ c /\ n2 ≠ c /\ n3 ≠ c /\ σ' = [some (.ref sc), some (.ref fq), some (.int m), some (.ref pq), some (.ref w3), some (.ref lq), some (.int ct), some (.ref c), none, none, none, none, none], ?_, ?_⟩
 . refine ⟨_, rfl, fq, v.r, v.y, v.l, v.m, rfl, b7.fr.e, b7.fr.ok, fun c a b H' nc s' hc => ⟨c, a, b, b7.same s', hc, ?_, ?_, ?_, rfl⟩⟩
   . obtain ⟨dx, e⟩ := b7.m1; exact G7 e nc
   . obtain ⟨dx, e⟩ := b7.m2; exact G7 e nc
   . obtain ⟨dx, e⟩ := b7.m3; exact G7 e nc
 clear b6 b7
 rintro σ' H8 ⟨c, a, b, b8, hc8, nc1, nc2, nc3, rfl⟩
 refine ⟨fun σ' H' => ∃ v8 v9 v10 v11 v12, A5b CN H' fq pq lq q1 q2 q3 n1 n2 n3 v x1 x2 x3 /\ σ' = [some (.ref sc), some (.ref fq), some (.int m), some (.ref pq), some (.ref w3), some (.ref lq), some (.int ct), some (.ref c), v8, v9, v10, v11, v12], ?_, ?_⟩
 . refine ⟨5, rfl, by decide, by decide, B5q (n := 5) (fun i σ' H' => ∃ a v8 v9 v10 v11 v12, A5b CN H' fq pq lq q1 q2 q3 n1 n2 n3 v x1 x2 x3 /\ A0n CC H' c v a b [] [] /\ σ' = [some (.ref sc), some (.ref fq), some (.int m), some (.ref pq), some (.ref w3), some (.ref lq), some (.int ct), some (.ref c), v8, v9, v10, v11, v12]) ⟨a, none, none, none, none, none, b8, hc8, rfl⟩ ?_ (fun σ' H' ⟨a, v8, v9, v10, v11, v12, bb, _, e⟩ => ⟨v8, v9, v10, v11, v12, bb, e⟩)⟩
   clear b8 hc8 a
   rintro i σ' H9 hi ⟨a, v8, v9, v10, v11, v12, b9, hc9, rfl⟩
   refine ⟨fun σ' H' => ∃ wy : Int, H' = H9 /\ σ' = [some (.ref sc), some (.ref fq), some (.int m), some (.ref pq), some (.ref w3), some (.ref lq), some (.int ct), some (.ref c), some (.int (0 + (i : Int))), some (.int wy), v10, v11, v12], ?_, ?_⟩
   . exact ⟨_, rfl, _, _, rfl, rfl, dv (n := 1640) (by decide) (by decide +kernel), _, rfl, _, rfl, _, _, rfl, rfl, dv (n := 8200) (by decide) (by decide +kernel), _, _, rfl, rfl, (by decide : (0 : Int) < 4), _, _, rfl, rfl, _, _, rfl, rfl, mC' _ _ (by omega) (by omega), _, _, rfl, rfl, _, _, rfl, rfl, (by decide : (0 : Int) < 5), _, rfl, rfl⟩
   rintro σ' H10 ⟨wy, rfl, rfl⟩
   have ok := b9.fr.cv
   refine ⟨fun σ' H' => ∃ dt dl, C8 H10 H' /\ H' dt = some (.tup (opR v wy x1 x2 x3 ct).1.vs) /\ H' dl = some (.lst ((Z2 (opR v wy x1 x2 x3 ct).2).map V.str)) /\ σ' = [some (.ref sc), some (.ref fq), some (.int m), some (.ref pq), some (.ref w3), some (.ref lq), some (.int ct), some (.ref c), some (.int (0 + (i : Int))), some (.int wy), some (.ref dt), some (.ref dl), v12], ?_, ?_⟩
   . exact ⟨_, rfl, _, rfl, _, rfl, _, rfl, fq, v, pq, q1, q2, q3, x1, x2, x3, wy, ct, rfl, b9.fr, b9.ep, b9.a1, b9.a2, b9.a3, f24, pl, ph, t0, t1, fun q H' s' ⟨dt, dl, eq, et, el⟩ => ⟨q, _, rfl, SqT.of eq, rfl, _, _, rfl, _, _, rfl, rfl, dt, dl, s', et, el, rfl⟩⟩
   rintro σ' H11 ⟨dt, dl, s11, et, el, rfl⟩
   have b11 := b9.same s11
   have hc11 := hc9.same s11
   obtain ⟨dx, ec⟩ := hc11.ins
   generalize hop : opR v wy x1 x2 x3 ct = op at *
   refine ⟨fun σ' H' => ∃ fm a, A5b CN H' fq pq lq q1 q2 q3 n1 n2 n3 v x1 x2 x3 /\ A0n CC H' c v a b (Z2 op.2) [] /\ V1 CN H' fm op.1 /\ H' dt = some (.tup op.1.vs) /\ H' dl = some (.lst ((Z2 op.2).map V.str)) /\ σ' = [some (.ref sc), some (.ref fq), some (.int m), some (.ref pq), some (.ref w3), some (.ref lq), some (.int ct), some (.ref c), some (.int (0 + (i : Int))), some (.int wy), some (.ref dt), some (.ref dl), some (.ref fm)], ?_, ?_⟩
   . refine ⟨_, rfl, _, rfl, _, rfl, _, rfl, c, v, a, b, [], [], lq, n1, n2, n3, x1, x2, x3, wy, ct, rfl, hc11, ok, Nat.zero_le _, by decide +kernel, b11.el, ⟨b11.m1, b11.m2⟩, b11.m3, k1, k2, k3, o1, o2, o3, f24, pl, ph, t0, t1, ?_, ?_⟩
     . intro _ fm a' H' x' ct' nm
       rw [hop] at ct' nm
       exact ⟨fm, a', b11.exc x' ec nc1 nc2 nc3, ct', nm, x' _ _ et (A7b et ec (by intro z; cases z)), x' _ _ el (A7b el ec (by intro z; cases z)), rfl⟩
     . intro z hz
       cases hz
   clear b11 hc11 ec et el s11 b9 hc9
   rintro σ' H12 ⟨fm, a, b12, hc12, num, et, el, rfl⟩
   obtain ⟨dx, ec⟩ := hc12.ins
   refine ⟨fun σ' H' => C8 H12 H' /\ σ' = [some (.ref sc), some (.ref fq), some (.int m), some (.ref pq), some (.ref w3), some (.ref lq), some (.int ct), some (.ref c), some (.int (0 + (i : Int))), some (.int wy), some (.ref dt), some (.ref dl), some (.ref fm)], ?_, ?_⟩
   . refine ⟨_, rfl, _, rfl, Or.inl ⟨fm, _, _, _, _, rfl, num, fun z nz => ⟨_, rfl, C1p op.1.k.str op.1.s op.1.f op.1.p, C1p op.1.k.str op.1.s op.1.f op.1.p, rdD A7, rdD ((C8.upd nz) _ _ et), shD _ _ _ (okK _), shD _ _ _ (okK _), _, rfl, ?_⟩⟩⟩
     rw [if_pos rfl, eqD]
     have uz := C8.upd (o := .tup op.1.vs) nz
     refine V3 ⟨_, rfl, c, dx, _, rfl, uz _ _ ec, G1k _ _ _ _ _ _, c, v.r, v.y, v.l, v.m, a, b, _, _, rfl, hc12.same uz, fun l2 n2 => ⟨_, rfl, rdS (Z2 op.2), rdS (Z2 op.2), Y6a A7, Y6a ((uz.trans (C8.upd n2)) _ _ el), shS (Y6h _), shS (Y6h _), _, rfl, ?_⟩⟩
     rw [if_pos rfl, eqSs]
     exact V3 ⟨uz.trans (C8.upd n2), rfl⟩
   rintro σ' H13 ⟨s13, rfl⟩
   have b13 := b12.same s13
   have hc13 := hc12.same s13
   obtain ⟨dx, ec⟩ := hc13.ins
   refine ⟨_, ?_, fun _ _ h => h⟩
   exact ⟨_, rfl, c, dx, _, rfl, ec, G1y _ _ _ _ _ _, c, v.r, v.y, v.l, v.m, a, b, _, _, rfl, hc13, fun a' H' x' na ct' => ⟨a', _, _, _, _, _, b13.exc x' ec nc1 nc2 nc3, ct', rfl⟩⟩
 clear b8 hc8
 rintro σ' H14 ⟨v8, v9, v10, v11, v12, b14, rfl⟩
 refine ⟨_, rfl, lq, rfl, ⟨_, SqL.of b14.el⟩, B5t (J := Itl K lq) (n := 3) (fun i y H' => ∃ t, y = .ref t /\ H' t = some (.tup (Y4c x1 x2 x3 i).vs)) (by decide) (fun i y H1 H2 D l h hD e => ?_) (fun i H3 Qy hi sm hy => ⟨⟨_, _, SqL.of (sm _ _ b14.el), at3' hi⟩, fun x H4 yl => ?_⟩) (fun H3 sm => ⟨_, SqL.of (sm _ _ b14.el), Nat.le_refl _⟩) (fun D H' ys sm nD eD hlen hR => ?_)⟩
 . obtain ⟨t, rfl, hn⟩ := h
   exact ⟨t, rfl, e _ _ hn (A7b hn hD (by intro z; cases z))⟩
 . obtain ⟨rfl, yl⟩ := yl
   have ex := (get3 (yl _ (SqL.of (sm _ _ b14.el)))).2
   subst ex
   rcases (by omega : i = 0 \/ i = 1 \/ i = 2) with rfl | rfl | rfl
   . exact ⟨_, rfl, _, rfl, .inl ⟨n1, _, _, _, _, rfl, b14.m1.same sm, fun t nt => hy _ _ (C8.upd nt) ⟨t, rfl, A7⟩⟩⟩
   . exact ⟨_, rfl, _, rfl, .inl ⟨n2, _, _, _, _, rfl, b14.m2.same sm, fun t nt => hy _ _ (C8.upd nt) ⟨t, rfl, A7⟩⟩⟩
   . exact ⟨_, rfl, _, rfl, .inl ⟨n3, _, _, _, _, rfl, b14.m3.same sm, fun t nt => hy _ _ (C8.upd nt) ⟨t, rfl, A7⟩⟩⟩
 obtain ⟨y1, y2, y3, rfl⟩ := Y4b hlen
 obtain ⟨t1', rfl, g1⟩ := hR 0 _ rfl
 obtain ⟨t2', rfl, g2⟩ := hR 1 _ rfl
 obtain ⟨t3', rfl, g3⟩ := hR 2 _ rfl
 have b15 := b14.same sm
 clear hR
 refine ⟨_, rfl, pq, rfl, ⟨_, SqL.of b15.ep⟩, B5t (J := Itl K pq) (n := 3) (fun i y H' => ∃ t, y = .ref t /\ H' t = some (.tup (Y4c x1 x2 x3 i).vs)) (by decide) (fun i y H1 H2 D l h hD e => ?_) (fun i H3 Qy hi sm hy => ⟨⟨_, _, SqL.of (sm _ _ b15.ep), at3' hi⟩, fun x H4 yl => ?_⟩) (fun H3 sm => ⟨_, SqL.of (sm _ _ b15.ep), Nat.le_refl _⟩) (fun D2 H2 ys sm2 nD2 eD2 hlen2 hR => ?_)⟩
 . obtain ⟨t, rfl, hn⟩ := h
   exact ⟨t, rfl, e _ _ hn (A7b hn hD (by intro z; cases z))⟩
 . obtain ⟨rfl, yl⟩ := yl
   have ex := (get3 (yl _ (SqL.of (sm _ _ b15.ep)))).2
   subst ex
   rcases (by omega : i = 0 \/ i = 1 \/ i = 2) with rfl | rfl | rfl
   . have e := sm _ _ b15.a1.e
     exact ⟨_, rfl, q1, _, _, _, rfl, rfl, SqT.of e, B8 (j := 0) rfl, _, rfl, q1, _, _, _, rfl, rfl, SqT.of e, B8 (j := 1) rfl, _, rfl, q1, _, _, _, rfl, rfl, SqT.of e, B8 (j := 2) rfl, z4, fun t nt => hy _ _ (C8.upd nt) ⟨t, rfl, by show upd H4 t _ t = some (.tup x1.vs); unfold Nm.vs; rw [k1]; exact A7⟩⟩
   . have e := sm _ _ b15.a2.e
     exact ⟨_, rfl, q2, _, _, _, rfl, rfl, SqT.of e, B8 (j := 0) rfl, _, rfl, q2, _, _, _, rfl, rfl, SqT.of e, B8 (j := 1) rfl, _, rfl, q2, _, _, _, rfl, rfl, SqT.of e, B8 (j := 2) rfl, z4, fun t nt => hy _ _ (C8.upd nt) ⟨t, rfl, by show upd H4 t _ t = some (.tup x2.vs); unfold Nm.vs; rw [k2]; exact A7⟩⟩
   . have e := sm _ _ b15.a3.e
     exact ⟨_, rfl, q3, _, _, _, rfl, rfl, SqT.of e, B8 (j := 0) rfl, _, rfl, q3, _, _, _, rfl, rfl, SqT.of e, B8 (j := 1) rfl, _, rfl, q3, _, _, _, rfl, rfl, SqT.of e, B8 (j := 2) rfl, z4, fun t nt => hy _ _ (C8.upd nt) ⟨t, rfl, by show upd H4 t _ t = some (.tup x3.vs); unfold Nm.vs; rw [k3]; exact A7⟩⟩
 obtain ⟨y1, y2, y3, rfl⟩ := Y4b hlen2
 obtain ⟨u1, rfl, e1⟩ := hR 0 _ rfl
 obtain ⟨u2, rfl, e2⟩ := hR 1 _ rfl
 obtain ⟨u3, rfl, e3⟩ := hR 2 _ rfl
 refine ⟨J4z x1 x2 x3, J4z x1 x2 x3, rd3 (sm2 _ _ eD) (sm2 _ _ g1) (sm2 _ _ g2) (sm2 _ _ g3), rd3 eD2 e1 e2 e3, sh3 _ _ _, sh3 _ _ _, ?_⟩
 rw [if_neg Bool.false_ne_true, eq3]
 exact kk _
end TR
namespace TR
open PySem L2 PySem.W PyProof.Rows
theorem all_mk {l : OpenLaw} {w : World} {K : Frag} {h : Heap} {mg : Str -> Option Value} {fa CW W0 A7m W1 A7g W2 A7e W3 A7d W4 A7j W5 A7f W6 A7k W7 A7n CN G0s A1m A3b A1g A2z A1p A2y A1e A2v A1h A3a A1k A3c A1j A2x A1n A3e CC G0y A0fw A5c A2w B3m A3d A5d CQ G1a A0es A2d B6k CE C1 C2 C3 C4 CR fX aS RO G0d Z1g A2f B6f B2c J0y D4p G2y J0b G9t A0dw C4y V1p U5q G9m B8w G8q D3g C5g Z2w C2a J0d A7h D1b C2f B3c D4k D0k G6p G6j C4h C5m D2s V1f G6d C3c V0g B4q D4t V0m V2g B2q G7f C4d G6n G4x U4t J0x D1m V2f U6j G8d U6y U4u D2g V0r D1e D0w D1w Z2r G8v J3r D2u B8g C5y G7r D2d G6f C5e A8x J3p G4z C5r D0s U5n J0a J2v Z1y : Addr} (X : K.In h) (G : h.Ns mainGlobals mg) (hfa : mg "law" = some (.ref fa)) {G3z G4b : Option Addr} {G8r : Array (Option Value)} {G7e G8n G5h J3m C0w G3k : Value} (B2t : nsIn K mainGlobals "product_of" = some (some (.ref B2c))) (B4g : K.lookup B2c = some ⟨G7e, G3z, .func (fnOf "product_of" "product_of" (B9 Z6) (B7 Z6) (A2 Z6) .none G8n G5h J3m G4b C0w G3k), G8r⟩) (B2z : codeIn K C0w "product_of" = true) (B5h : keepIn K (.ref B2c) = true) {Z5a Z6h : Option Addr} {A0bk : Array (Option Value)} {A0da Z4y Z1q Z5h J8d Z3s : Value} (J2j : nsIn K mainGlobals "ten_to" = some (some (.ref J0y))) (G7k : K.lookup J0y = some ⟨A0da, Z5a, .func (fnOf "ten_to" "ten_to" (B9 A0q) (B7 A0q) (A2 A0q) .none Z4y Z1q Z5h Z6h J8d Z3s), A0bk⟩) (J3v : codeIn K J8d "ten_to" = true) (J1j : keepIn K (.ref J0y) = true) {V9j Y0a : Option Addr} {Y0z : Array (Option Value)} {Y3f V9f Y0j V9e G0g V9b : Value} (D4h : nsIn K mainGlobals "part_of" = some (some (.ref D4p))) (D4u : K.lookup D4p = some ⟨Y3f, V9j, .func (fnOf "part_of" "part_of" (B9 A5h) (B7 A5h) (A2 A5h) .none V9f Y0j V9e Y0a G0g V9b), Y0z⟩) (D4v : codeIn K G0g "part_of" = true) (D1c : keepIn K (.ref D4p) = true) {A0ed Z1p : Option Addr} {Z0g : Array (Option Value)} {A0bj Z1u Z4d A0ex J8c Z1r : Value} (J1q : nsIn K mainGlobals "whole_lead" = some (some (.ref G2y))) (G8z : K.lookup G2y = some ⟨A0bj, A0ed, .func (fnOf "whole_lead" "whole_lead" (B9 A6e) (B7 A6e) (A2 A6e) .none Z1u Z4d A0ex Z1p J8c Z1r), Z0g⟩) (G2s : codeIn K J8c "whole_lead" = true) (J0w : keepIn K (.ref G2y) = true) {Y9v Z4w : Option Addr} {A0ad : Array (Option Value)} {Z2b A0bt Z2h Z4f J6m A0bq : Value} (J2s : nsIn K mainGlobals "whole_root" = some (some (.ref J0b))) (G3d : K.lookup J0b = some ⟨Z2b, Y9v, .func (fnOf "whole_root" "whole_root" (B9 B1h) (B7 B1h) (A2 B1h) .none A0bt Z2h Z4f Z4w J6m A0bq), A0ad⟩) (J0f : codeIn K J6m "whole_root" = true) (G2u : keepIn K (.ref J0b) = true) {Z8d A0cn : Option Addr} {A0ah : Array (Option Value)} {Z6e A0cg Z8n Z7f J8j Z4k : Value} (J3h : nsIn K mainGlobals "plain" = some (some (.ref G9t))) (G7n : K.lookup G9t = some ⟨Z6e, Z8d, .func (fnOf "plain" "plain" (B9 B7y) (B7 B7y) (A2 B7y) .none A0cg Z8n Z7f A0cn J8j Z4k), A0ah⟩) (G8x : codeIn K J8j "plain" = true) (J0u : keepIn K (.ref G9t) = true) {A0wb A0vt : Option Addr} {A0vu : Array (Option Value)} {A0vy A0wa A0uj A0uq Z6s A0wx : Value} (Z6d : nsIn K mainGlobals "end" = some (some (.ref A0dw))) (A0bw : K.lookup A0dw = some ⟨A0vy, A0wb, .func (fnOf "end" "end" (B9 G2e) (B7 G2e) (A2 G2e) .none A0wa A0uj A0uq A0vt Z6s A0wx), A0vu⟩) (Z5u : codeIn K Z6s "end" = true) (Z8v : keepIn K (.ref A0dw) = true) {U9y U6s : Option Addr} {V0a : Array (Option Value)} {U8k V0t U1w U2u D4j U4v : Value} (C3f : nsIn K mainGlobals "nothing" = some (some (.ref C4y))) (C2d : K.lookup C4y = some ⟨U8k, U9y, .func (fnOf "nothing" "nothing" (B9 Z0) (B7 Z0) (A2 Z0) .none V0t U1w U2u U6s D4j U4v), V0a⟩) (C4z : codeIn K D4j "nothing" = true) (C4a : keepIn K (.ref C4y) = true) {A0kz A0pj : Option Addr} {A0mt : Array (Option Value)} {A0kq A0jy A0na A0nx V5c A0pd : Value} (U5g : nsIn K mainGlobals "told" = some (some (.ref V1p))) (U8v : K.lookup V1p = some ⟨A0kq, A0kz, .func (fnOf "told" "told" (B9 C9b) (B7 C9b) (A2 C9b) .none A0jy A0na A0nx A0pj V5c A0pd), A0mt⟩) (U7y : codeIn K V5c "told" = true) (U1v : keepIn K (.ref V1p) = true) {A0pe A0ka : Option Addr} {A0ms : Array (Option Value)} {A0ky A0pp A0nz A0ku V5b A0mr : Value} (V1n : nsIn K mainGlobals "lead_of" = some (some (.ref U5q))) (U8e : K.lookup U5q = some ⟨A0ky, A0pe, .func (fnOf "lead_of" "lead_of" (B9 C8f) (B7 C8f) (A2 C8f) .none A0pp A0nz A0ku A0ka V5b A0mr), A0ms⟩) (U3g : codeIn K V5b "lead_of" = true) (U5x : keepIn K (.ref U5q) = true) {Z8a Z8r : Option Addr} {Z5b : Array (Option Value)} {A0dx Z0c Z5t Z3t J9c A0am : Value} (G3c : nsIn K mainGlobals "need_number" = some (some (.ref G9m))) (G9j : K.lookup G9m = some ⟨A0dx, Z8a, .func (fnOf "need_number" "need_number" (B9 A4q) (B7 A4q) (A2 A4q) .none Z0c Z5t Z3t Z8r J9c A0am), Z5b⟩) (J1r : codeIn K J9c "need_number" = true) (G7d : keepIn K (.ref G9m) = true) {J9g J5v : Option Addr} {J6v : Array (Option Value)} {J6n J6u J9t J8k C6x J6w : Value} (B8s : nsIn K mainGlobals "need_numbers" = some (some (.ref B8w))) (B9a : K.lookup B8w = some ⟨J6n, J9g, .func (fnOf "need_numbers" "need_numbers" (B9 A3n) (B7 A3n) (A2 A3n) .none J6u J9t J8k J5v C6x J6w), J6v⟩) (B9s : codeIn K C6x "need_numbers" = true) (B8f : keepIn K (.ref B8w) = true) {A0fc Z0y : Option Addr} {Y8q : Array (Option Value)} {A0bu Z7j A0ev A0ft J8f Z2x : Value} (G3v : nsIn K mainGlobals "some_of_kind" = some (some (.ref G8q))) (G5y : K.lookup G8q = some ⟨A0bu, A0fc, .func (fnOf "some_of_kind" "some_of_kind" (B9 A7u) (B7 A7u) (A2 A7u) .none Z7j A0ev A0ft Z0y J8f Z2x), Y8q⟩) (G6u : codeIn K J8f "some_of_kind" = true) (J0e : keepIn K (.ref G8q) = true) {V8q Y3n : Option Addr} {Y2v : Array (Option Value)} {V8m Y3v Y2z Y3u G0u Y3k : Value} (D4e : nsIn K mainGlobals "unlike_sign" = some (some (.ref D3g))) (D2r : K.lookup D3g = some ⟨V8m, V8q, .func (fnOf "unlike_sign" "unlike_sign" (B9 A3r) (B7 A3r) (A2 A3r) .none Y3v Y2z Y3u Y3n G0u Y3k), Y2v⟩) (D1a : codeIn K G0u "unlike_sign" = true) (D3s : keepIn K (.ref D3g) = true) {U6q U6a : Option Addr} {U3s : Array (Option Value)} {V1a U7e U3d U7p D2h U9c : Value} (C6b : nsIn K mainGlobals "whole_at" = some (some (.ref C5g))) (C3x : K.lookup C5g = some ⟨V1a, U6q, .func (fnOf "whole_at" "whole_at" (B9 A2n) (B7 A2n) (A2 A2n) .none U7e U3d U7p U6a D2h U9c), U3s⟩) (C4u : codeIn K D2h "whole_at" = true) (C2n : keepIn K (.ref C5g) = true) {A0wk A0um : Option Addr} {A0ua : Array (Option Value)} {A0ub A0wu A0vs A0we A0ba A0wf : Value} (Z9s : nsIn K mainGlobals "is_between" = some (some (.ref Z2w))) (A0dc : K.lookup Z2w = some ⟨A0ub, A0wk, .func (fnOf "is_between" "is_between" (B9 C9s) (B7 C9s) (A2 C9s) .none A0wu A0vs A0we A0um A0ba A0wf), A0ua⟩) (A0fk : codeIn K A0ba "is_between" = true) (Z4n : keepIn K (.ref Z2w) = true) {U5t U3t : Option Addr} {U9g : Array (Option Value)} {U6m U3x U6b V2c D4r U5u : Value} (C2g : nsIn K mainGlobals "need_between" = some (some (.ref C2a))) (C5f : K.lookup C2a = some ⟨U6m, U5t, .func (fnOf "need_between" "need_between" (B9 A2p) (B7 A2p) (A2 A2p) .none U3x U6b V2c U3t D4r U5u), U9g⟩) (C2y : codeIn K D4r "need_between" = true) (C5w : keepIn K (.ref C2a) = true) {A0as Z0x : Option Addr} {A0be : Array (Option Value)} {A0eu Z5f Y9b Y9p J8r A0ek : Value} (G7w : nsIn K mainGlobals "need_count" = some (some (.ref J0d))) (G4p : K.lookup J0d = some ⟨A0eu, A0as, .func (fnOf "need_count" "need_count" (B9 B7h) (B7 B7h) (A2 B7h) .none Z5f Y9b Y9p Z0x J8r A0ek), A0be⟩) (J2r : codeIn K J8r "need_count" = true) (G4n : keepIn K (.ref J0d) = true) {U9d U6k : Option Addr} {U1u : Array (Option Value)} {V1u V2h V1k U4m D2e U3j : Value} (C5c : nsIn K mainGlobals "settled" = some (some (.ref A7h))) (C5p : K.lookup A7h = some ⟨V1u, U9d, .func (fnOf "settled" "settled" (B9 A0c) (B7 A0c) (A2 A0c) .none V2h V1k U4m U6k D2e U3j), U1u⟩) (C3e : codeIn K D2e "settled" = true) (C5n : keepIn K (.ref A7h) = true) {V8e Y2c : Option Addr} {Y2h : Array (Option Value)} {Y3d Y1s Y0k Y3h G0z Y2y : Value} (D0v : nsIn K mainGlobals "finest_power" = some (some (.ref D1b))) (D2q : K.lookup D1b = some ⟨Y3d, V8e, .func (fnOf "finest_power" "finest_power" (B9 A5g) (B7 A5g) (A2 A5g) .none Y1s Y0k Y3h Y2c G0z Y2y), Y2h⟩) (D2x : codeIn K G0z "finest_power" = true) (D0q : keepIn K (.ref D1b) = true) {V0v V0c : Option Addr} {U3w : Array (Option Value)} {U7w U4e U7c U3r D2b U7f : Value} (C2w : nsIn K mainGlobals "nearest_to" = some (some (.ref C2f))) (C4g : K.lookup C2f = some ⟨U7w, V0v, .func (fnOf "nearest_to" "nearest_to" (B9 A2s) (B7 A2s) (A2 A2s) .none U4e U7c U3r V0c D2b U7f), U3w⟩) (C2s : codeIn K D2b "nearest_to" = true) (C4x : keepIn K (.ref C2f) = true) {J2g G5q : Option Addr} {J3t : Array (Option Value)} {G3q G6w J2f G4j C0q G3j : Value} (B2a : nsIn K mainGlobals "neighbour" = some (some (.ref B3c))) (B4n : K.lookup B3c = some ⟨G3q, J2g, .func (fnOf "neighbour" "neighbour" (B9 A0d) (B7 A0d) (A2 A0d) .none G6w J2f G4j G5q C0q G3j), J3t⟩) (B4x : codeIn K C0q "neighbour" = true) (B3y : keepIn K (.ref B3c) = true) {V8x V9q : Option Addr} {Y2g : Array (Option Value)} {Y2s Y1a Y1e Y0s G0c V8v : Value} (D0p : nsIn K mainGlobals "within_room" = some (some (.ref D4k))) (D4a : K.lookup D4k = some ⟨Y2s, V8x, .func (fnOf "within_room" "within_room" (B9 A5n) (B7 A5n) (A2 A5n) .none Y1a Y1e Y0s V9q G0c V8v), Y2g⟩) (D4s : codeIn K G0c "within_room" = true) (D2j : keepIn K (.ref D4k) = true) {Y0m Y0f : Option Addr} {Y2w : Array (Option Value)} {V8s Y3j Y1n V9m G0p Y0x : Value} (D0r : nsIn K mainGlobals "is_beyond" = some (some (.ref D0k))) (D3x : K.lookup D0k = some ⟨V8s, Y0m, .func (fnOf "is_beyond" "is_beyond" (B9 A5p) (B7 A5p) (A2 A5p) .none Y3j Y1n V9m Y0f G0p Y0x), Y2w⟩) (D2v : codeIn K G0p "is_beyond" = true) (D3k : keepIn K (.ref D0k) = true) {A0cj Z7k : Option Addr} {A0eg : Array (Option Value)} {A0bs Y8w A0em Z5q J5y Z0a : Value} (G4k : nsIn K mainGlobals "burst" = some (some (.ref G6p))) (G3x : K.lookup G6p = some ⟨A0bs, A0cj, .func (fnOf "burst" "burst" (B9 B1c) (B7 B1c) (A2 B1c) .none Y8w A0em Z5q Z7k J5y Z0a), A0eg⟩) (G3g : codeIn K J5y "burst" = true) (J0h : keepIn K (.ref G6p) = true) {A0bg Z6w : Option Addr} {Z8w : Array (Option Value)} {Z3e Y9h A0cs Z8b J6t Z3u : Value} (G6c : nsIn K mainGlobals "nines" = some (some (.ref G6j))) (G5n : K.lookup G6j = some ⟨Z3e, A0bg, .func (fnOf "nines" "nines" (B9 B1n) (B7 B1n) (A2 B1n) .none Y9h A0cs Z8b Z6w J6t Z3u), Z8w⟩) (G2v : codeIn K J6t "nines" = true) (G5p : keepIn K (.ref G6j) = true) {U9s U5k : Option Addr} {V1s : Array (Option Value)} {U3v U9q U6n U8s D3v V0j : Value} (C2z : nsIn K mainGlobals "signals_of_rest" = some (some (.ref C4h))) (C5h : K.lookup C4h = some ⟨U3v, U9s, .func (fnOf "signals_of_rest" "signals_of_rest" (B9 A4j) (B7 A4j) (A2 A4j) .none U9q U6n U8s U5k D3v V0j), V1s⟩) (C2x : codeIn K D3v "signals_of_rest" = true) (C3v : keepIn K (.ref C4h) = true) {U7v U3k : Option Addr} {U4g : Array (Option Value)} {U6w U6e U3a U8b D4q U3p : Value} (C4p : nsIn K mainGlobals "signals_of_lead" = some (some (.ref C5m))) (C3y : K.lookup C5m = some ⟨U6w, U7v, .func (fnOf "signals_of_lead" "signals_of_lead" (B9 A4p) (B7 A4p) (A2 A4p) .none U6e U3a U8b U3k D4q U3p), U4g⟩) (C3a : codeIn K D4q "signals_of_lead" = true) (C1z : keepIn K (.ref C5m) = true) {Y1y Y3r : Option Addr} {V9s : Array (Option Value)} {V8r Y0e V8f Y2u G0v V9u : Value} (D3p : nsIn K mainGlobals "nought" = some (some (.ref D2s))) (D2n : K.lookup D2s = some ⟨V8r, Y1y, .func (fnOf "nought" "nought" (B9 A0h) (B7 A0h) (A2 A0h) .none Y0e V8f Y2u Y3r G0v V9u), V9s⟩) (D1d : codeIn K G0v "nought" = true) (D1q : keepIn K (.ref D2s) = true) {A0pb A0kv : Option Addr} {A0qm : Array (Option Value)} {A0kf A0qn A0mm A0pc V4s A0ps : Value} (U1x : nsIn K mainGlobals "void" = some (some (.ref V1f))) (U5h : K.lookup V1f = some ⟨A0kf, A0pb, .func (fnOf "void" "void" (B9 B1k) (B7 B1k) (A2 B1k) .none A0qn A0mm A0pc A0kv V4s A0ps), A0qm⟩) (V0y : codeIn K V4s "void" = true) (U7r : keepIn K (.ref V1f) = true) {A0cq Z2m : Option Addr} {A0au : Array (Option Value)} {Z6r Z8h A0fn Z4z J8u A0ax : Value} (G6b : nsIn K mainGlobals "split_to_end" = some (some (.ref G6d))) (G9e : K.lookup G6d = some ⟨Z6r, A0cq, .func (fnOf "split_to_end" "split_to_end" (B9 B1r) (B7 B1r) (A2 B1r) .none Z8h A0fn Z4z Z2m J8u A0ax), A0au⟩) (G9c : codeIn K J8u "split_to_end" = true) (G9u : keepIn K (.ref G6d) = true) {U4r V0w : Option Addr} {U4x : Array (Option Value)} {U4f U5p U2y V2a D0y V1g : Value} (C3w : nsIn K mainGlobals "rounded" = some (some (.ref C3c))) (C3h : K.lookup C3c = some ⟨U4f, U4r, .func (fnOf "rounded" "rounded" (B9 A4r) (B7 A4r) (A2 A4r) .none U5p U2y V2a V0w D0y V1g), U4x⟩) (C3z : codeIn K D0y "rounded" = true) (C4j : keepIn K (.ref C3c) = true) {A0qf A0nn : Option Addr} {A0pq : Array (Option Value)} {A0kj A0ks A0ng A0kc V5a A0kk : Value} (U7b : nsIn K mainGlobals "over" = some (some (.ref V0g))) (U9f : K.lookup V0g = some ⟨A0kj, A0qf, .func (fnOf "over" "over" (B9 C9q) (B7 C9q) (A2 C9q) .none A0ks A0ng A0kc A0nn V5a A0kk), A0pq⟩) (U8t : codeIn K V5a "over" = true) (U9b : keepIn K (.ref V0g) = true) {G9a G8c : Option Addr} {J1t : Array (Option Value)} {J2e J1n J0c G4s C0x G9w : Value} (B4j : nsIn K mainGlobals "whole_over" = some (some (.ref B4q))) (B4v : K.lookup B4q = some ⟨J2e, G9a, .func (fnOf "whole_over" "whole_over" (B9 A0t) (B7 A0t) (A2 A0t) .none J1n J0c G4s G8c C0x G9w), J1t⟩) (B3q : codeIn K C0x "whole_over" = true) (B4h : keepIn K (.ref B4q) = true) {V8z V8h : Option Addr} {Y0p : Array (Option Value)} {Y1h V9t V9d Y0r G0h Y0t : Value} (D4g : nsIn K mainGlobals "rest_of" = some (some (.ref D4t))) (D2y : K.lookup D4t = some ⟨Y1h, V8z, .func (fnOf "rest_of" "rest_of" (B9 A8a) (B7 A8a) (A2 A8a) .none V9t V9d Y0r V8h G0h Y0t), Y0p⟩) (D1g : codeIn K G0h "rest_of" = true) (D0t : keepIn K (.ref D4t) = true) {A0nu A0ny : Option Addr} {A0ph : Array (Option Value)} {A0pf A0kg A0pu A0nb V4y A0pk : Value} (V1h : nsIn K mainGlobals "has_plain_quotient" = some (some (.ref V0m))) (U2c : K.lookup V0m = some ⟨A0pf, A0nu, .func (fnOf "has_plain_quotient" "has_plain_quotient" (B9 C6s) (B7 C6s) (A2 C6s) .none A0kg A0pu A0nb A0ny V4y A0pk), A0ph⟩) (U6z : codeIn K V4y "has_plain_quotient" = true) (V0q : keepIn K (.ref V0m) = true) {A0pr A0me : Option Addr} {A0px : Array (Option Value)} {A0pt A0mg A0qa A0mk V5m A0mn : Value} (U7x : nsIn K mainGlobals "odd_quotient" = some (some (.ref V2g))) (V0s : K.lookup V2g = some ⟨A0pt, A0pr, .func (fnOf "odd_quotient" "odd_quotient" (B9 C6k) (B7 C6k) (A2 C6k) .none A0mg A0qa A0mk A0me V5m A0mn), A0px⟩) (U9v : codeIn K V5m "odd_quotient" = true) (U2g : keepIn K (.ref V2g) = true) {G9x J1c : Option Addr} {G6q : Array (Option Value)} {J1k J2h G7j G8p C0s G9v : Value} (B5e : nsIn K mainGlobals "whole_part" = some (some (.ref B2q))) (B4m : K.lookup B2q = some ⟨J1k, G9x, .func (fnOf "whole_part" "whole_part" (B9 Z9) (B7 Z9) (A2 Z9) .none J2h G7j G8p J1c C0s G9v), G6q⟩) (B3a : codeIn K C0s "whole_part" = true) (B5d : keepIn K (.ref B2q) = true) {A0fp A0br : Option Addr} {Z6z : Array (Option Value)} {Z6y A0ep Y8s Z8q J9a Z5k : Value} (G8k : nsIn K mainGlobals "way_of" = some (some (.ref G7f))) (G5u : K.lookup G7f = some ⟨Z6y, A0fp, .func (fnOf "way_of" "way_of" (B9 B1d) (B7 B1d) (A2 B1d) .none A0ep Y8s Z8q A0br J9a Z5k), Z6z⟩) (J0k : codeIn K J9a "way_of" = true) (G4t : keepIn K (.ref G7f) = true) {U3u U4d : Option Addr} {U5m : Array (Option Value)} {U3z U2t U8w U4k D3c U8q : Value} (C6a : nsIn K mainGlobals "bounded" = some (some (.ref C4d))) (C2c : K.lookup C4d = some ⟨U3z, U3u, .func (fnOf "bounded" "bounded" (B9 A4t) (B7 A4t) (A2 A4t) .none U2t U8w U4k U4d D3c U8q), U5m⟩) (C5k : codeIn K D3c "bounded" = true) (C5b : keepIn K (.ref C4d) = true) {Z0m Z1a : Option Addr} {Z1z : Array (Option Value)} {Z1f A0fe Z0z A0ee J6e Y9y : Value} (J1u : nsIn K mainGlobals "need_signals" = some (some (.ref G6n))) (J3w : K.lookup G6n = some ⟨Z1f, Z0m, .func (fnOf "need_signals" "need_signals" (B9 B8b) (B7 B8b) (A2 B8b) .none A0fe Z0z A0ee Z1a J6e Y9y), Z1z⟩) (J1v : codeIn K J6e "need_signals" = true) (G8a : keepIn K (.ref G6n) = true) {Z5c Z8c : Option Addr} {Z5p : Array (Option Value)} {Z3c A0dk Y9a A0bd J5w Z6g : Value} (G9z : nsIn K mainGlobals "in_order" = some (some (.ref G4x))) (G5w : K.lookup G4x = some ⟨Z3c, Z5c, .func (fnOf "in_order" "in_order" (B9 B7w) (B7 B7w) (A2 B7w) .none A0dk Y9a A0bd Z8c J5w Z6g), Z5p⟩) (G4y : codeIn K J5w "in_order" = true) (J0r : keepIn K (.ref G4x) = true) {A0py A0qb : Option Addr} {A0ma : Array (Option Value)} {A0mw A0pg A0ns A0kd V5p A0qh : Value} (V1t : nsIn K mainGlobals "root" = some (some (.ref U4t))) (U2k : K.lookup U4t = some ⟨A0mw, A0py, .func (fnOf "root" "root" (B9 C9m) (B7 C9m) (A2 C9m) .none A0pg A0ns A0kd A0qb V5p A0qh), A0ma⟩) (U3y : codeIn K V5p "root" = true) (V2j : keepIn K (.ref U4t) = true) {A0ct A0dz : Option Addr} {A0fg : Array (Option Value)} {Z8y Y8y Z2g Z0w J9k Z3x : Value} (G7h : nsIn K mainGlobals "to_power" = some (some (.ref J0x))) (J0z : K.lookup J0x = some ⟨Z8y, A0ct, .func (fnOf "to_power" "to_power" (B9 B7m) (B7 B7m) (A2 B7m) .none Y8y Z2g Z0w A0dz J9k Z3x), A0fg⟩) (G6r : codeIn K J9k "to_power" = true) (J3g : keepIn K (.ref J0x) = true) {V9z Y2a : Option Addr} {Y1p : Array (Option Value)} {Y0v V9x Y1t Y0h G0q V8g : Value} (D0u : nsIn K mainGlobals "power_of_end" = some (some (.ref D1m))) (D3u : K.lookup D1m = some ⟨Y0v, V9z, .func (fnOf "power_of_end" "power_of_end" (B9 C7j) (B7 C7j) (A2 C7j) .none V9x Y1t Y0h Y2a G0q V8g), Y1p⟩) (D4b : codeIn K G0q "power_of_end" = true) (D2m : keepIn K (.ref D1m) = true) {A0pa A0kx : Option Addr} {A0kt : Array (Option Value)} {A0qg A0mq A0qj A0my V5q A0nf : Value} (V0z : nsIn K mainGlobals "power_of_nought" = some (some (.ref V2f))) (U2q : K.lookup V2f = some ⟨A0qg, A0pa, .func (fnOf "power_of_nought" "power_of_nought" (B9 A0u) (B7 A0u) (A2 A0u) .none A0mq A0qj A0my A0kx V5q A0nf), A0kt⟩) (U3c : codeIn K V5q "power_of_nought" = true) (U5d : keepIn K (.ref V2f) = true) {A0kn A0mu : Option Addr} {A0km : Array (Option Value)} {A0qc A0md A0qe A0kp V4t A0mj : Value} (U1z : nsIn K mainGlobals "_law_cell_at" = some (some (.ref U6j))) (U8j : K.lookup U6j = some ⟨A0qc, A0kn, .func (fnOf "_law_cell_at" "_law_cell_at" (B9 D0e) (B7 D0e) (A2 D0e) .none A0md A0qe A0kp A0mu V4t A0mj), A0km⟩) (U7t : codeIn K V4t "_law_cell_at" = true) (V1j : keepIn K (.ref U6j) = true) {A0bx Z4b : Option Addr} {Y9k : Array (Option Value)} {Z5z A0df Z7r Y8z J5t Z5v : Value} (G5g : nsIn K mainGlobals "_law_mixed" = some (some (.ref G8d))) (G4h : K.lookup G8d = some ⟨Z5z, A0bx, .func (fnOf "_law_mixed" "_law_mixed" (B9 A7q) (B7 A7q) (A2 A7q) .none A0df Z7r Y8z Z4b J5t Z5v), Y9k⟩) (J2m : codeIn K J5t "_law_mixed" = true) (G5v : keepIn K (.ref G8d) = true) {A0nh A0nw : Option Addr} {A0mz : Array (Option Value)} {A0pz A0qp A0kh A0ne V5e A0np : Value} (U6r : nsIn K mainGlobals "_law_ten" = some (some (.ref U6y))) (U6g : K.lookup U6y = some ⟨A0pz, A0nh, .func (fnOf "_law_ten" "_law_ten" (B9 B0y) (B7 B0y) (A2 B0y) .none A0qp A0kh A0ne A0nw V5e A0np), A0mz⟩) (U2x : codeIn K V5e "_law_ten" = true) (U2a : keepIn K (.ref U6y) = true) {A0mc A0kr : Option Addr} {A0pm : Array (Option Value)} {A0pv A0mb A0pn A0nm V4r A0mh : Value} (U7k : nsIn K mainGlobals "_law_figures" = some (some (.ref U4u))) (U3q : K.lookup U4u = some ⟨A0pv, A0mc, .func (fnOf "_law_figures" "_law_figures" (B9 C8g) (B7 C8g) (A2 C8g) .none A0mb A0pn A0nm A0kr V4r A0mh), A0pm⟩) (U6h : codeIn K V4r "_law_figures" = true) (U2s : keepIn K (.ref U4u) = true) {Y2b Y1j : Option Addr} {V8p : Array (Option Value)} {Y3t Y2p Y1u V9y G0t Y2j : Value} (D2k : nsIn K mainGlobals "_law_frame" = some (some (.ref D2g))) (D1f : K.lookup D2g = some ⟨Y3t, Y2b, .func (fnOf "_law_frame" "_law_frame" (B9 A8b) (B7 A8b) (A2 A8b) .none Y2p Y1u V9y Y1j G0t Y2j), V8p⟩) (D1p : codeIn K G0t "_law_frame" = true) (D1h : keepIn K (.ref D2g) = true) {A0nv A0pw : Option Addr} {A0nt : Array (Option Value)} {A0jz A0mp A0nc A0kw V4v A0kb : Value} (U7m : nsIn K mainGlobals "_law_context" = some (some (.ref V0r))) (V1z : K.lookup V0r = some ⟨A0jz, A0nv, .func (fnOf "_law_context" "_law_context" (B9 C8p) (B7 C8p) (A2 C8p) .none A0mp A0nc A0kw A0pw V4v A0kb), A0nt⟩) (V1e : codeIn K V4v "_law_context" = true) (U5a : keepIn K (.ref V0r) = true) {V8d V9g : Option Addr} {V8c : Array (Option Value)} {Y1f Y1b Y3q Y0b G0j V9w : Value} (D1n : nsIn K mainGlobals "_law_plain" = some (some (.ref D1e))) (D3e : K.lookup D1e = some ⟨Y1f, V8d, .func (fnOf "_law_plain" "_law_plain" (B9 A7s) (B7 A7s) (A2 A7s) .none Y1b Y3q Y0b V9g G0j V9w), V8c⟩) (D3t : codeIn K G0j "_law_plain" = true) (D4z : keepIn K (.ref D1e) = true) {Y1d V8j : Option Addr} {Y2m : Array (Option Value)} {Y2q Y1c Y3z Y2x G0x Y0g : Value} (D1v : nsIn K mainGlobals "_law_count" = some (some (.ref D0w))) (D3f : K.lookup D0w = some ⟨Y2q, Y1d, .func (fnOf "_law_count" "_law_count" (B9 A2k) (B7 A2k) (A2 A2k) .none Y1c Y3z Y2x V8j G0x Y0g), Y2m⟩) (D0n : codeIn K G0x "_law_count" = true) (D4f : keepIn K (.ref D0w) = true) {V9a Y3e : Option Addr} {V8u : Array (Option Value)} {Y3s V8k Y0d Y0q G0f V8w : Value} (D3b : nsIn K mainGlobals "_law_isqrt" = some (some (.ref D1w))) (D0z : K.lookup D1w = some ⟨Y3s, V9a, .func (fnOf "_law_isqrt" "_law_isqrt" (B9 A7t) (B7 A7t) (A2 A7t) .none V8k Y0d Y0q Y3e G0f V8w), V8u⟩) (D1y : codeIn K G0f "_law_isqrt" = true) (D0m : keepIn K (.ref D1w) = true) {A0uk A0wn : Option Addr} {A0ud : Array (Option Value)} {A0vh A0wm A0vb A0wd Z8g A0wc : Value} (Z3g : nsIn K mainGlobals "_law_at" = some (some (.ref Z2r))) (Z3f : K.lookup Z2r = some ⟨A0vh, A0uk, .func (fnOf "_law_at" "_law_at" (B9 J4c) (B7 J4c) (A2 J4c) .none A0wm A0vb A0wd A0wn Z8g A0wc), A0ud⟩) (Y9t : codeIn K Z8g "_law_at" = true) (Z7b : keepIn K (.ref Z2r) = true) {A0fa A0ae : Option Addr} {Z7p : Array (Option Value)} {Z6k Y8r A0af Z4p J9n Z0d : Value} (J2b : nsIn K mainGlobals "_law_lead" = some (some (.ref G8v))) (J1s : K.lookup G8v = some ⟨Z6k, A0fa, .func (fnOf "_law_lead" "_law_lead" (B9 B7n) (B7 B7n) (A2 B7n) .none Y8r A0af Z4p A0ae J9n Z0d), Z7p⟩) (G9b : codeIn K J9n "_law_lead" = true) (J1g : keepIn K (.ref G8v) = true) {Z1b Z3b : Option Addr} {A0cb : Array (Option Value)} {A0aw Z1c Z3z Y9u J7j Z9j : Value} (J0m : nsIn K mainGlobals "_law_goes_up" = some (some (.ref J3r))) (G5b : K.lookup J3r = some ⟨A0aw, Z1b, .func (fnOf "_law_goes_up" "_law_goes_up" (B9 B8a) (B7 B8a) (A2 B8a) .none Z1c Z3z Y9u Z3b J7j Z9j), A0cb⟩) (G3t : codeIn K J7j "_law_goes_up" = true) (G2w : keepIn K (.ref J3r) = true) {Y1z Y3g : Option Addr} {Y0u : Array (Option Value)} {V9v V9n V9r V8y G0r Y3x : Value} (D0j : nsIn K mainGlobals "_law_burst" = some (some (.ref D2u))) (D2p : K.lookup D2u = some ⟨V9v, Y1z, .func (fnOf "_law_burst" "_law_burst" (B9 A7y) (B7 A7y) (A2 A7y) .none V9n V9r V8y Y3g G0r Y3x), Y0u⟩) (D3z : codeIn K G0r "_law_burst" = true) (D1j : keepIn K (.ref D2u) = true) {J7k J5u : Option Addr} {J6a : Array (Option Value)} {J7n J6s J7a J9f C6y J7b : Value} (B9h : nsIn K mainGlobals "_law_settled" = some (some (.ref B8g))) (B8t : K.lookup B8g = some ⟨J7n, J7k, .func (fnOf "_law_settled" "_law_settled" (B9 Y7) (B7 Y7) (A2 Y7) .none J6s J7a J9f J5u C6y J7b), J6a⟩) (B8n : codeIn K C6y "_law_settled" = true) (B8j : keepIn K (.ref B8g) = true) {V0k V1r : Option Addr} {U5w : Array (Option Value)} {U2b V0d U7s U2p D2c U5e : Value} (C4m : nsIn K mainGlobals "_law_nought" = some (some (.ref C5y))) (C3n : K.lookup C5y = some ⟨U2b, V0k, .func (fnOf "_law_nought" "_law_nought" (B9 A0b) (B7 A0b) (A2 A0b) .none V0d U7s U2p V1r D2c U5e), U5w⟩) (C4c : codeIn K D2c "_law_nought" = true) (C2q : keepIn K (.ref C5y) = true) {Z9f Z3j : Option Addr} {A0eh : Array (Option Value)} {Z8z Z0p Z2v Z8j J6z A0de : Value} (G5j : nsIn K mainGlobals "_law_void" = some (some (.ref G7r))) (G9p : K.lookup G7r = some ⟨Z8z, Z9f, .func (fnOf "_law_void" "_law_void" (B9 A4x) (B7 A4x) (A2 A4x) .none Z0p Z2v Z8j Z3j J6z A0de), A0eh⟩) (G4d : codeIn K J6z "_law_void" = true) (J3x : keepIn K (.ref G7r) = true) {V9h Y0c : Option Addr} {Y3a : Array (Option Value)} {Y3m Y1q Y2e Y1x G0m Y0y : Value} (D3y : nsIn K mainGlobals "_law_split" = some (some (.ref D2d))) (D3j : K.lookup D2d = some ⟨Y3m, V9h, .func (fnOf "_law_split" "_law_split" (B9 A5j) (B7 A5j) (A2 A5j) .none Y1q Y2e Y1x Y0c G0m Y0y), Y3a⟩) (D1z : codeIn K G0m "_law_split" = true) (D4c : keepIn K (.ref D2d) = true) {Z4a A0fv : Option Addr} {Z0q : Array (Option Value)} {A0ca Z5r Z6b Z3k J6q Z2s : Value} (J3d : nsIn K mainGlobals "_law_over" = some (some (.ref G6f))) (J3f : K.lookup G6f = some ⟨A0ca, Z4a, .func (fnOf "_law_over" "_law_over" (B9 B1v) (B7 B1v) (A2 B1v) .none Z5r Z6b Z3k A0fv J6q Z2s), Z0q⟩) (J0j : codeIn K J6q "_law_over" = true) (G9g : keepIn K (.ref G6f) = true) {U2m V1m : Option Addr} {V0p : Array (Option Value)} {V2k U8c U5c U4p D4d V0h : Value} (C3q : nsIn K mainGlobals "_law_parted" = some (some (.ref C5e))) (C5q : K.lookup C5e = some ⟨V2k, U2m, .func (fnOf "_law_parted" "_law_parted" (B9 A2t) (B7 A2t) (A2 A2t) .none U8c U5c U4p V1m D4d V0h), V0p⟩) (C4r : codeIn K D4d "_law_parted" = true) (C5u : keepIn K (.ref C5e) = true) {D7e D8t : Option Addr} {D6r : Array (Option Value)} {D8s D7j D6u D5g B7d D5t : Value} (A8w : nsIn K mainGlobals "_law_whole_over" = some (some (.ref A8x))) (A9n : K.lookup A8x = some ⟨D8s, D7e, .func (fnOf "_law_whole_over" "_law_whole_over" (B9 A0a) (B7 A0a) (A2 A0a) .none D7j D6u D5g D8t B7d D5t), D6r⟩) (B0x : codeIn K B7d "_law_whole_over" = true) (A9z : keepIn K (.ref A8x) = true) {A0fq Z4v : Option Addr} {A0bv : Array (Option Value)} {Z2y A0cy A0ef Z3q J6f A0ew : Value} (G3s : nsIn K mainGlobals "_law_rest" = some (some (.ref J3p))) (G8t : K.lookup J3p = some ⟨Z2y, A0fq, .func (fnOf "_law_rest" "_law_rest" (B9 B7q) (B7 B7q) (A2 B7q) .none A0cy A0ef Z3q Z4v J6f A0ew), A0bv⟩) (G2t : codeIn K J6f "_law_rest" = true) (G4e : keepIn K (.ref J3p) = true) {A0ar Z7e : Option Addr} {Z3y : Array (Option Value)} {A0ap A0ab A0fd A0ez J8g Z0k : Value} (G4c : nsIn K mainGlobals "_law_root" = some (some (.ref G4z))) (J3n : K.lookup G4z = some ⟨A0ap, A0ar, .func (fnOf "_law_root" "_law_root" (B9 B7r) (B7 B7r) (A2 B7r) .none A0ab A0fd A0ez Z7e J8g Z0k), Z3y⟩) (G6m : codeIn K J8g "_law_root" = true) (J3y : keepIn K (.ref G4z) = true) {U7h U4c : Option Addr} {U9j : Array (Option Value)} {U5r U8f U2w U8a D3n U2v : Value} (C6e : nsIn K mainGlobals "_law_raised" = some (some (.ref C5r))) (C5s : K.lookup C5r = some ⟨U5r, U7h, .func (fnOf "_law_raised" "_law_raised" (B9 A4z) (B7 A4z) (A2 A4z) .none U8f U2w U8a U4c D3n U2v), U9j⟩) (C3j : codeIn K D3n "_law_raised" = true) (C2j : keepIn K (.ref C5r) = true) {Y1v Y2t : Option Addr} {Y2d : Array (Option Value)} {Y0w Y2n Y4a V9p G0n Y1k : Value} (D1u : nsIn K mainGlobals "_law_power" = some (some (.ref D0s))) (D4n : K.lookup D0s = some ⟨Y0w, Y1v, .func (fnOf "_law_power" "_law_power" (B9 A8h) (B7 A8h) (A2 A8h) .none Y2n Y4a V9p Y2t G0n Y1k), Y2d⟩) (D2t : codeIn K G0n "_law_power" = true) (D1k : keepIn K (.ref D0s) = true) {A0nq A0qk : Option Addr} {A0mf : Array (Option Value)} {A0nk A0qd A0mx A0ke V5r A0nj : Value} (U7z : nsIn K mainGlobals "_law_due" = some (some (.ref U5n))) (V0b : K.lookup U5n = some ⟨A0nk, A0nq, .func (fnOf "_law_due" "_law_due" (B9 C9g) (B7 C9g) (A2 C9g) .none A0qd A0mx A0ke A0qk V5r A0nj), A0mf⟩) (V1v : codeIn K V5r "_law_due" = true) (U7j : keepIn K (.ref U5n) = true) {A0dd Z0v : Option Addr} {Z0f : Array (Option Value)} {Z7z Z3n A0cp Z7g J6g A0bf : Value} (G7a : nsIn K mainGlobals "_law_told" = some (some (.ref J0a))) (G3b : K.lookup J0a = some ⟨Z7z, A0dd, .func (fnOf "_law_told" "_law_told" (B9 B7j) (B7 B7j) (A2 B7j) .none Z3n A0cp Z7g Z0v J6g A0bf), Z0f⟩) (G4u : codeIn K J6g "_law_told" = true) (J2w : keepIn K (.ref J0a) = true) {Z4e Z1x : Option Addr} {Z9e : Array (Option Value)} {Y8t Z8t Z6x Y9w J6d Z7y : Value} (J1a : nsIn K mainGlobals "_law_bent" = some (some (.ref J2v))) (G3u : K.lookup J2v = some ⟨Y8t, Z4e, .func (fnOf "_law_bent" "_law_bent" (B9 B7t) (B7 B7t) (A2 B7t) .none Z8t Z6x Y9w Z1x J6d Z7y), Z9e⟩) (J3j : codeIn K J6d "_law_bent" = true) (G7g : keepIn K (.ref J2v) = true) {A0wz Z6m : Option Addr} {A0vn : Array (Option Value)} {A0uu Z0j Z7x Z7c U9a A0bh : Value} (V5k : nsIn K mainGlobals "law" = some (some (.ref Z1y))) (Z7h : K.lookup Z1y = some ⟨A0uu, A0wz, .func (fnOf "law" "law" (B9 G2j) (B7 G2j) (A2 G2j) .none Z0j Z7x Z7c Z6m U9a A0bh), A0vn⟩) (A0cx : codeIn K U9a "law" = true) (A0aq : keepIn K (.ref Z1y) = true) (A9s : nsIn K mainGlobals "isinstance" = some none) (Z9r : nsIn K mainGlobals "int" = some none) (U5y : nsIn K mainGlobals "bool" = some none) (Z2p : nsIn K mainGlobals "str" = some none) (U8n : nsIn K mainGlobals "list" = some none) (G6x : nsIn K mainGlobals "tuple" = some none) (U7d : nsIn K mainGlobals "dict" = some none) (Z4x : nsIn K mainGlobals "len" = some none) (G3e : nsIn K mainGlobals "range" = some none) (Z9b : nsIn K mainGlobals "min" = some none) (Z9x : nsIn K mainGlobals "max" = some none) (Z3a : nsIn K mainGlobals "abs" = some none) (Y9n : nsIn K mainGlobals "any" = some none) (A0an : nsIn K mainGlobals "all" = some none) (A0db : nsIn K mainGlobals "sum" = some none) (V1y : nsIn K mainGlobals "repr" = some none) (B3k : nsIn K mainGlobals "enumerate" = some none) (B9c : nsIn K mainGlobals "reversed" = some none) (Y9c : nsIn K mainGlobals "zip" = some none) (D4m : nsIn K mainGlobals "sorted" = some none) (D1x : nsIn K mainGlobals "divmod" = some none) (A0cc : nsIn K mainGlobals "set" = some none) (A9u : nsIn K mainGlobals "ValueError" = some none) (B9u : kitOne K (.type "int") (.type "int") = some true) (B4s : kitOne K (.type "int") (.type "bool") = some false) (B9d : kitOne K (.type "int") (.type "str") = some false) (B5b : kitOne K (.type "int") (.type "list") = some false) (A9h : kitOne K (.type "int") (.type "tuple") = some false) (B4u : kitOne K (.type "int") (.type "dict") = some false) (B3j : kitOne K (.type "bool") (.type "int") = some true) (A9k : kitOne K (.type "bool") (.type "bool") = some true) (B2j : kitOne K (.type "bool") (.type "str") = some false) (A9e : kitOne K (.type "bool") (.type "list") = some false) (A6j : kitOne K (.type "bool") (.type "tuple") = some false) (A8p : kitOne K (.type "bool") (.type "dict") = some false) (B9g : kitOne K (.type "str") (.type "int") = some false) (B2s : kitOne K (.type "str") (.type "bool") = some false) (B9j : kitOne K (.type "str") (.type "str") = some true) (B3r : kitOne K (.type "str") (.type "list") = some false) (B0v : kitOne K (.type "str") (.type "tuple") = some false) (B2e : kitOne K (.type "str") (.type "dict") = some false) (B2k : kitOne K (.type "list") (.type "int") = some false) (A9f : kitOne K (.type "list") (.type "bool") = some false) (B3d : kitOne K (.type "list") (.type "str") = some false) (A9v : kitOne K (.type "list") (.type "list") = some true) (A6k : kitOne K (.type "list") (.type "tuple") = some false) (B0j : kitOne K (.type "list") (.type "dict") = some false) (A8q : kitOne K (.type "tuple") (.type "int") = some false) (A6p : kitOne K (.type "tuple") (.type "bool") = some false) (B0p : kitOne K (.type "tuple") (.type "str") = some false) (A6n : kitOne K (.type "tuple") (.type "list") = some false) (A5e : kitOne K (.type "tuple") (.type "tuple") = some true) (A6h : kitOne K (.type "tuple") (.type "dict") = some false) (B3u : kitOne K (.type "dict") (.type "int") = some false) (B0n : kitOne K (.type "dict") (.type "bool") = some false) (B3g : kitOne K (.type "dict") (.type "str") = some false) (A8m : kitOne K (.type "dict") (.type "list") = some false) (A6m : kitOne K (.type "dict") (.type "tuple") = some false) (B0m : kitOne K (.type "dict") (.type "dict") = some true) (A3j : kitOne K (.type "NoneType") (.type "int") = some false) (A2e : kitOne K (.type "NoneType") (.type "bool") = some false) (A3h : kitOne K (.type "NoneType") (.type "str") = some false) (A2c : kitOne K (.type "NoneType") (.type "list") = some false) (A1f : kitOne K (.type "NoneType") (.type "tuple") = some false) (A2g : kitOne K (.type "NoneType") (.type "dict") = some false) (sn : specialIn K (.builtin "object.__class__") "__get__" = some (some (.builtin "getset_descriptor.__get__"))) (tk : takesIn K (.builtin "object.__class__") = some true) (a_CW : nsIn K mainGlobals "Way" = some (some (.ref CW))) (a_W0 : nsIn K mainGlobals "Down" = some (some (.ref W0))) (Z8m : plainGet K W0 Str.empty = true) (Y8x : hasDictIn K W0 = true) (Z2z : plainOver K W0 = true) (Z2q : findIn K (.ref W0) "__setattr__" = some (some (.builtin "object.__setattr__"))) (A0ea : makesIn K W0 = true) (Y9z : keepIn K (.ref W0) = true) (A0ch : findIn K (.ref W0) "__class__" = some (some (.builtin "object.__class__"))) (Z7v : mroIn K W0 (.type "object") = some true) (Z6a : findIn K (.ref W0) "__init__" = some (some (.builtin "object.__init__"))) (Y9q : kitOne K (.ref W0) (.ref CW) = some true) (C4k : findIn K (.ref W0) "name" = some (some (.ref A7m))) (C2h : isFn K (.ref A7m) = true) {U6v V2b : Option Addr} {U2e : Array (Option Value)} {U2n U9r U2z U5z D2w U7g : Value} (C4v : K.lookup A7m = some ⟨U2n, U6v, .func (fnOf "name" "Down.name" (B9 sN0) (B7 sN0) (A2 sN0) .none U9r U2z U5z V2b D2w U7g), U2e⟩) (C2u : codeIn K D2w "Down.name" = true) (B6e : keepIn K (.ref A7m) = true) (a_W1 : nsIn K mainGlobals "Up" = some (some (.ref W1))) (Z9v : plainGet K W1 Str.empty = true) (A0dm : hasDictIn K W1 = true) (Z7d : plainOver K W1 = true) (A0dy : findIn K (.ref W1) "__setattr__" = some (some (.builtin "object.__setattr__"))) (Z5s : makesIn K W1 = true) (A0et : keepIn K (.ref W1) = true) (Z6t : findIn K (.ref W1) "__class__" = some (some (.builtin "object.__class__"))) (Z6j : mroIn K W1 (.type "object") = some true) (Y9s : findIn K (.ref W1) "__init__" = some (some (.builtin "object.__init__"))) (Z2j : kitOne K (.ref W1) (.ref CW) = some true) (C5d : findIn K (.ref W1) "name" = some (some (.ref A7g))) (C6f : isFn K (.ref A7g) = true) {V2d U8m : Option Addr} {U4w : Array (Option Value)} {U4q U9z U7n U9x D3h U3e : Value} (C5x : K.lookup A7g = some ⟨U4q, V2d, .func (fnOf "name" "Up.name" (B9 sN1) (B7 sN1) (A2 sN1) .none U9z U7n U9x U8m D3h U3e), U4w⟩) (C3s : codeIn K D3h "Up.name" = true) (B6j : keepIn K (.ref A7g) = true) (a_W2 : nsIn K mainGlobals "Floor" = some (some (.ref W2))) (Z9d : plainGet K W2 Str.empty = true) (A0ck : hasDictIn K W2 = true) (Z1h : plainOver K W2 = true) (Z7w : findIn K (.ref W2) "__setattr__" = some (some (.builtin "object.__setattr__"))) (A0eq : makesIn K W2 = true) (Z7t : keepIn K (.ref W2) = true) (Z3d : findIn K (.ref W2) "__class__" = some (some (.builtin "object.__class__"))) (Z4r : mroIn K W2 (.type "object") = some true) (Z5j : findIn K (.ref W2) "__init__" = some (some (.builtin "object.__init__"))) (A0ac : kitOne K (.ref W2) (.ref CW) = some true) (C4q : findIn K (.ref W2) "name" = some (some (.ref A7e))) (C6d : isFn K (.ref A7e) = true) {U8d V2e : Option Addr} {U4z : Array (Option Value)} {U9m U6d U8r U3b D2z V1x : Value} (C4t : K.lookup A7e = some ⟨U9m, U8d, .func (fnOf "name" "Floor.name" (B9 sN2) (B7 sN2) (A2 sN2) .none U6d U8r U3b V2e D2z V1x), U4z⟩) (C3k : codeIn K D2z "Floor.name" = true) (B6c : keepIn K (.ref A7e) = true) (a_W3 : nsIn K mainGlobals "Ceiling" = some (some (.ref W3))) (Z0e : plainGet K W3 Str.empty = true) (Z4h : hasDictIn K W3 = true) (A0ay : plainOver K W3 = true) (A0cw : findIn K (.ref W3) "__setattr__" = some (some (.builtin "object.__setattr__"))) (Y8p : makesIn K W3 = true) (A0bp : keepIn K (.ref W3) = true) (Z4t : findIn K (.ref W3) "__class__" = some (some (.builtin "object.__class__"))) (Z9m : mroIn K W3 (.type "object") = some true) (Z8p : findIn K (.ref W3) "__init__" = some (some (.builtin "object.__init__"))) (Z3p : kitOne K (.ref W3) (.ref CW) = some true) (C4e : findIn K (.ref W3) "name" = some (some (.ref A7d))) (C6c : isFn K (.ref A7d) = true) {U4j U3f : Option Addr} {U6c : Array (Option Value)} {U4b U2r U8p V1w D3w U4s : Value} (C2r : K.lookup A7d = some ⟨U4b, U4j, .func (fnOf "name" "Ceiling.name" (B9 sN3) (B7 sN3) (A2 sN3) .none U2r U8p V1w U3f D3w U4s), U6c⟩) (C5a : codeIn K D3w "Ceiling.name" = true) (B5z : keepIn K (.ref A7d) = true) (a_W4 : nsIn K mainGlobals "HalfUp" = some (some (.ref W4))) (Z0u : plainGet K W4 Str.empty = true) (Y9r : hasDictIn K W4 = true) (Z0t : plainOver K W4 = true) (Z2f : findIn K (.ref W4) "__setattr__" = some (some (.builtin "object.__setattr__"))) (Z8k : makesIn K W4 = true) (Z9t : keepIn K (.ref W4) = true) (Z3w : findIn K (.ref W4) "__class__" = some (some (.builtin "object.__class__"))) (A0fs : mroIn K W4 (.type "object") = some true) (A0dv : findIn K (.ref W4) "__init__" = some (some (.builtin "object.__init__"))) (A0eb : kitOne K (.ref W4) (.ref CW) = some true) (C3b : findIn K (.ref W4) "name" = some (some (.ref A7j))) (C4f : isFn K (.ref A7j) = true) {U6u V0n : Option Addr} {U5v : Array (Option Value)} {U5j U6t U2f V1c D0x V1q : Value} (C3g : K.lookup A7j = some ⟨U5j, U6u, .func (fnOf "name" "HalfUp.name" (B9 sN4) (B7 sN4) (A2 sN4) .none U6t U2f V1c V0n D0x V1q), U5v⟩) (C5v : codeIn K D0x "HalfUp.name" = true) (B6d : keepIn K (.ref A7j) = true) (a_W5 : nsIn K mainGlobals "HalfDown" = some (some (.ref W5))) (Z5e : plainGet K W5 Str.empty = true) (A0cm : hasDictIn K W5 = true) (A0ag : plainOver K W5 = true) (Z4s : findIn K (.ref W5) "__setattr__" = some (some (.builtin "object.__setattr__"))) (Z7q : makesIn K W5 = true) (A0ec : keepIn K (.ref W5) = true) (Z0b : findIn K (.ref W5) "__class__" = some (some (.builtin "object.__class__"))) (A0fu : mroIn K W5 (.type "object") = some true) (A0fj : findIn K (.ref W5) "__init__" = some (some (.builtin "object.__init__"))) (Z8u : kitOne K (.ref W5) (.ref CW) = some true) (C2v : findIn K (.ref W5) "name" = some (some (.ref A7f))) (C5t : isFn K (.ref A7f) = true) {V1b U5s : Option Addr} {U8h : Array (Option Value)} {U8y U3h U6x V1d D4y V0u : Value} (C3d : K.lookup A7f = some ⟨U8y, V1b, .func (fnOf "name" "HalfDown.name" (B9 sN5) (B7 sN5) (A2 sN5) .none U3h U6x V1d U5s D4y V0u), U8h⟩) (C2e : codeIn K D4y "HalfDown.name" = true) (B6a : keepIn K (.ref A7f) = true) (a_W6 : nsIn K mainGlobals "HalfEven" = some (some (.ref W6))) (Y8v : plainGet K W6 Str.empty = true) (Z3h : hasDictIn K W6 = true) (Z1m : plainOver K W6 = true) (A0cd : findIn K (.ref W6) "__setattr__" = some (some (.builtin "object.__setattr__"))) (Z2n : makesIn K W6 = true) (Z5y : keepIn K (.ref W6) = true) (A0dp : findIn K (.ref W6) "__class__" = some (some (.builtin "object.__class__"))) (A0dq : mroIn K W6 (.type "object") = some true) (A0az : findIn K (.ref W6) "__init__" = some (some (.builtin "object.__init__"))) (Z0h : kitOne K (.ref W6) (.ref CW) = some true) (C6g : findIn K (.ref W6) "name" = some (some (.ref A7k))) (C6h : isFn K (.ref A7k) = true) {V0e U9k : Option Addr} {U9h : Array (Option Value)} {U4y U2d U6f U7a D2f U9e : Value} (C3u : K.lookup A7k = some ⟨U4y, V0e, .func (fnOf "name" "HalfEven.name" (B9 sN6) (B7 sN6) (A2 sN6) .none U2d U6f U7a U9k D2f U9e), U9h⟩) (C2b : codeIn K D2f "HalfEven.name" = true) (B6h : keepIn K (.ref A7k) = true) (a_W7 : nsIn K mainGlobals "FiveUp" = some (some (.ref W7))) (A0ej : plainGet K W7 Str.empty = true) (Z6v : hasDictIn K W7 = true) (Z7m : plainOver K W7 = true) (Z6f : findIn K (.ref W7) "__setattr__" = some (some (.builtin "object.__setattr__"))) (Z4c : makesIn K W7 = true) (Z6c : keepIn K (.ref W7) = true) (Y8u : findIn K (.ref W7) "__class__" = some (some (.builtin "object.__class__"))) (Z9a : mroIn K W7 (.type "object") = some true) (Z4m : findIn K (.ref W7) "__init__" = some (some (.builtin "object.__init__"))) (A0fm : kitOne K (.ref W7) (.ref CW) = some true) (C5z : findIn K (.ref W7) "name" = some (some (.ref A7n))) (C3m : isFn K (.ref A7n) = true) {U4n U9t : Option Addr} {U2j : Array (Option Value)} {U8g U4a U4h U1y D1t V0f : Value} (C4n : K.lookup A7n = some ⟨U8g, U4n, .func (fnOf "name" "FiveUp.name" (B9 sN7) (B7 sN7) (A2 sN7) .none U4a U4h U1y U9t D1t V0f), U2j⟩) (C4s : codeIn K D1t "FiveUp.name" = true) (B5y : keepIn K (.ref A7n) = true) (a_CN : nsIn K mainGlobals "Number" = some (some (.ref CN))) (Z1j : plainGet K CN Str.empty = true) (Z4j : hasDictIn K CN = true) (A0dr : plainOver K CN = true) (Z8e : findIn K (.ref CN) "__setattr__" = some (some (.builtin "object.__setattr__"))) (Z9u : makesIn K CN = true) (Z1s : keepIn K (.ref CN) = true) (A0fh : findIn K (.ref CN) "__class__" = some (some (.builtin "object.__class__"))) (A0cu : mroIn K CN (.type "object") = some true) (C3p : findIn K (.ref CN) "kind" = some none) (C3t : findIn K (.ref CN) "sign" = some none) (A9c : findIn K (.ref CN) "figures" = some none) (B9f : findIn K (.ref CN) "power" = some none) (Y9f : findIn K (.ref CN) "__init__" = some (some (.ref G0s))) (A0dg : isFn K (.ref G0s) = true) {A0ue A0us : Option Addr} {A0wr : Array (Option Value)} {A0vc A0ug A0wy A0ut Y9g A0va : Value} (Z1k : K.lookup G0s = some ⟨A0vc, A0ue, .func (fnOf "__init__" "Number.__init__" (B9 D9m) (B7 D9m) (A2 D9m) .none A0ug A0wy A0ut A0us Y9g A0va), A0wr⟩) (Z6u : codeIn K Y9g "Number.__init__" = true) (Z3r : keepIn K (.ref G0s) = true) (G9y : kitOne K (.ref CN) (.ref CN) = some true) (A8y : findIn K (.ref W0) "goes_up" = some (some (.ref A1m))) (A8s : isFn K (.ref A1m) = true) {D6k D6p : Option Addr} {D8g : Array (Option Value)} {D7z D5x D7s D6d B6w D7q : Value} (B0w : K.lookup A1m = some ⟨D7z, D6k, .func (fnOf "goes_up" "Down.goes_up" (B9 sU0) (B7 sU0) (A2 sU0) .none D5x D7s D6d D6p B6w D7q), D8g⟩) (A9d : codeIn K B6w "Down.goes_up" = true) (A3x : keepIn K (.ref A1m) = true) (B4d : findIn K (.ref W0) "to_end" = some (some (.ref A3b))) (B4k : isFn K (.ref A3b) = true) {J2u J1p : Option Addr} {G5a : Array (Option Value)} {G7z G7m G4v J2k C0y G5r : Value} (B2g : K.lookup A3b = some ⟨G7z, J2u, .func (fnOf "to_end" "Down.to_end" (B9 sT0) (B7 sT0) (A2 sT0) .none G7m G4v J2k J1p C0y G5r), G5a⟩) (B2p : codeIn K C0y "Down.to_end" = true) (A5r : keepIn K (.ref A3b) = true) (A8n : findIn K (.ref W1) "goes_up" = some (some (.ref A1g))) (A9p : isFn K (.ref A1g) = true) {D7c D6w : Option Addr} {D7x : Array (Option Value)} {D5j D5y D7r D7p B6y D8e : Value} (A8z : K.lookup A1g = some ⟨D5j, D7c, .func (fnOf "goes_up" "Up.goes_up" (B9 sU1) (B7 sU1) (A2 sU1) .none D5y D7r D7p D6w B6y D8e), D7x⟩) (A9x : codeIn K B6y "Up.goes_up" = true) (A3z : keepIn K (.ref A1g) = true) (B3z : findIn K (.ref W1) "to_end" = some (some (.ref A2z))) (B2h : isFn K (.ref A2z) = true) {G3f G4w : Option Addr} {G9n : Array (Option Value)} {G3p G8f G3h G8u C1d J2d : Value} (B4r : K.lookup A2z = some ⟨G3p, G3f, .func (fnOf "to_end" "Up.to_end" (B9 sT1) (B7 sT1) (A2 sT1) .none G8f G3h G8u G4w C1d J2d), G9n⟩) (B4e : codeIn K C1d "Up.to_end" = true) (A5u : keepIn K (.ref A2z) = true) (B0s : findIn K (.ref W2) "goes_up" = some (some (.ref A1p))) (A9j : isFn K (.ref A1p) = true) {D5u D8d : Option Addr} {D7t : Array (Option Value)} {D8n D6v D5r D8a B7b D7k : Value} (B0c : K.lookup A1p = some ⟨D8n, D5u, .func (fnOf "goes_up" "Floor.goes_up" (B9 sU2) (B7 sU2) (A2 sU2) .none D6v D5r D8a D8d B7b D7k), D7t⟩) (B0q : codeIn K B7b "Floor.goes_up" = true) (A3t : keepIn K (.ref A1p) = true) (B2r : findIn K (.ref W2) "to_end" = some (some (.ref A2y))) (B2f : isFn K (.ref A2y) = true) {G8y G6v : Option Addr} {G7q : Array (Option Value)} {G2x G7s J3a G4a C0u J3k : Value} (B4w : K.lookup A2y = some ⟨G2x, G8y, .func (fnOf "to_end" "Floor.to_end" (B9 sT2) (B7 sT2) (A2 sT2) .none G7s J3a G4a G6v C0u J3k), G7q⟩) (B3s : codeIn K C0u "Floor.to_end" = true) (A5x : keepIn K (.ref A2y) = true) (B0k : findIn K (.ref W3) "goes_up" = some (some (.ref A1e))) (B0r : isFn K (.ref A1e) = true) {D7y D5k : Option Addr} {D8p : Array (Option Value)} {D7g D8k D5s D7h B7a D5z : Value} (B0f : K.lookup A1e = some ⟨D7g, D7y, .func (fnOf "goes_up" "Ceiling.goes_up" (B9 sU3) (B7 sU3) (A2 sU3) .none D8k D5s D7h D5k B7a D5z), D8p⟩) (A8t : codeIn K B7a "Ceiling.goes_up" = true) (A3s : keepIn K (.ref A1e) = true) (B4f : findIn K (.ref W3) "to_end" = some (some (.ref A2v))) (B3e : isFn K (.ref A2v) = true) {G4g G5x : Option Addr} {G5k : Array (Option Value)} {G5f G3a J2t G6g C1e J2x : Value} (B4b : K.lookup A2v = some ⟨G5f, G4g, .func (fnOf "to_end" "Ceiling.to_end" (B9 sT3) (B7 sT3) (A2 sT3) .none G3a J2t G6g G5x C1e J2x), G5k⟩) (B4y : codeIn K C1e "Ceiling.to_end" = true) (A5q : keepIn K (.ref A2v) = true) (A9a : findIn K (.ref W4) "goes_up" = some (some (.ref A1h))) (B0a : isFn K (.ref A1h) = true) {D5n D6g : Option Addr} {D6n : Array (Option Value)} {D7f D8j D8c D7b B6z D6c : Value} (A9q : K.lookup A1h = some ⟨D7f, D5n, .func (fnOf "goes_up" "HalfUp.goes_up" (B9 sU4) (B7 sU4) (A2 sU4) .none D8j D8c D7b D6g B6z D6c), D6n⟩) (A9g : codeIn K B6z "HalfUp.goes_up" = true) (A3w : keepIn K (.ref A1h) = true) (B2d : findIn K (.ref W4) "to_end" = some (some (.ref A3a))) (B3h : isFn K (.ref A3a) = true) {J3e G7c : Option Addr} {J2a : Array (Option Value)} {G6z G8h G6a J1h C0v J1y : Value} (B2m : K.lookup A3a = some ⟨G6z, J3e, .func (fnOf "to_end" "HalfUp.to_end" (B9 sT4) (B7 sT4) (A2 sT4) .none G8h G6a J1h G7c C0v J1y), J2a⟩) (B3x : codeIn K C0v "HalfUp.to_end" = true) (A5w : keepIn K (.ref A3a) = true) (A9t : findIn K (.ref W5) "goes_up" = some (some (.ref A1k))) (A9y : isFn K (.ref A1k) = true) {D7m D6y : Option Addr} {D6j : Array (Option Value)} {D6t D5h D6b D5w B7e D6m : Value} (B0e : K.lookup A1k = some ⟨D6t, D7m, .func (fnOf "goes_up" "HalfDown.goes_up" (B9 sU5) (B7 sU5) (A2 sU5) .none D5h D6b D5w D6y B7e D6m), D6j⟩) (B0h : codeIn K B7e "HalfDown.goes_up" = true) (A3u : keepIn K (.ref A1k) = true) (B2x : findIn K (.ref W5) "to_end" = some (some (.ref A3c))) (B2y : isFn K (.ref A3c) = true) {G9d G8m : Option Addr} {J3s : Array (Option Value)} {G5e G4m G9h G4r C1c G6h : Value} (B3p : K.lookup A3c = some ⟨G5e, G9d, .func (fnOf "to_end" "HalfDown.to_end" (B9 sT5) (B7 sT5) (A2 sT5) .none G4m G9h G4r G8m C1c G6h), J3s⟩) (B3t : codeIn K C1c "HalfDown.to_end" = true) (A6a : keepIn K (.ref A3c) = true) (A9m : findIn K (.ref W6) "goes_up" = some (some (.ref A1j))) (A9r : isFn K (.ref A1j) = true) {D8f D5m : Option Addr} {D5q : Array (Option Value)} {D6x D8b D6q D6a B6x D7d : Value} (B0d : K.lookup A1j = some ⟨D6x, D8f, .func (fnOf "goes_up" "HalfEven.goes_up" (B9 sU6) (B7 sU6) (A2 sU6) .none D8b D6q D6a D5m B6x D7d), D5q⟩) (B0b : codeIn K B6x "HalfEven.goes_up" = true) (A3y : keepIn K (.ref A1j) = true) (B2n : findIn K (.ref W6) "to_end" = some (some (.ref A2x))) (B4a : isFn K (.ref A2x) = true) {J0t G6t : Option Addr} {G9q : Array (Option Value)} {G9f G9r G5t G2z C0r J2y : Value} (B2u : K.lookup A2x = some ⟨G9f, J0t, .func (fnOf "to_end" "HalfEven.to_end" (B9 sT6) (B7 sT6) (A2 sT6) .none G9r G5t G2z G6t C0r J2y), G9q⟩) (B3w : codeIn K C0r "HalfEven.to_end" = true) (A5v : keepIn K (.ref A2x) = true) (A8v : findIn K (.ref W7) "goes_up" = some (some (.ref A1n))) (A8u : isFn K (.ref A1n) = true) {D6s D5p : Option Addr} {D7n : Array (Option Value)} {D5v D6z D6h D6f B7c D7u : Value} (A8k : K.lookup A1n = some ⟨D5v, D6s, .func (fnOf "goes_up" "FiveUp.goes_up" (B9 sU7) (B7 sU7) (A2 sU7) .none D6z D6h D6f D5p B7c D7u), D7n⟩) (B0u : codeIn K B7c "FiveUp.goes_up" = true) (A3v : keepIn K (.ref A1n) = true) (B3f : findIn K (.ref W7) "to_end" = some (some (.ref A3e))) (B5g : isFn K (.ref A3e) = true) {G4f J2c : Option Addr} {J3q : Array (Option Value)} {J3u G8s J0g J0q C1a G9s : Value} (B2b : K.lookup A3e = some ⟨J3u, G4f, .func (fnOf "to_end" "FiveUp.to_end" (B9 sT7) (B7 sT7) (A2 sT7) .none G8s J0g J0q J2c C1a G9s), J3q⟩) (B4c : codeIn K C1a "FiveUp.to_end" = true) (A5s : keepIn K (.ref A3e) = true) (a_CC : nsIn K mainGlobals "Context" = some (some (.ref CC))) (A0bn : plainGet K CC Str.empty = true) (Z9y : hasDictIn K CC = true) (A0bz : plainOver K CC = true) (A0aj : findIn K (.ref CC) "__setattr__" = some (some (.builtin "object.__setattr__"))) (Y9e : makesIn K CC = true) (Y9m : keepIn K (.ref CC) = true) (C2t : findIn K (.ref CC) "room" = some none) (C5j : findIn K (.ref CC) "rule" = some none) (B9p : findIn K (.ref CC) "least" = some none) (C3r : findIn K (.ref CC) "most" = some none) (B8m : findIn K (.ref CC) "risen" = some none) (B0g : findIn K (.ref CC) "trapped" = some none) (Z2c : findIn K (.ref CC) "__init__" = some (some (.ref G0y))) (Z9z : isFn K (.ref G0y) = true) {A0ve Z1e : Option Addr} {A0vp : Array (Option Value)} {A0uw Z5g Z5n Z5d U6p Z8f : Value} (A0er : K.lookup G0y = some ⟨A0uw, A0ve, .func (fnOf "__init__" "Context.__init__" (B9 A1a) (B7 A1a) (A2 A1a) (.ref A0fw) Z5g Z5n Z5d Z1e U6p Z8f), A0vp⟩) (Z6n : codeIn K U6p "Context.__init__" = true) (A0at : keepIn K (.ref G0y) = true) {A1bg A1aw A1bc : Tok} {A1bw : Nat} {A0uv : Option Addr} {A0uz : Value} {A0vr : Array (Option Value)} (Z7n : K.lookup A0fw = some ⟨A0uz, A0uv, .seq #[.int 9 A1bg, .str "half even" A1aw, .none, .int 60 A1bc] A1bw, A0vr⟩) (B9b : findIn K (.ref CC) "flags" = some (some (.ref A5c))) (B8r : isFn K (.ref A5c) = true) {J7s J5s : Option Addr} {J7r : Array (Option Value)} {J9m J7e J8z J8s C7a J8w : Value} (B9n : K.lookup A5c = some ⟨J9m, J7s, .func (fnOf "flags" "Context.flags" (B9 A4b) (B7 A4b) (A2 A4b) .none J7e J8z J8s J5s C7a J8w), J7r⟩) (B8k : codeIn K C7a "Context.flags" = true) (A8r : keepIn K (.ref A5c) = true) (B2w : findIn K (.ref CC) "lowest" = some (some (.ref A2w))) (B4t : isFn K (.ref A2w) = true) {J1x G7b : Option Addr} {J1e : Array (Option Value)} {G8b G7x J2z G5s C0p J0n : Value} (B5c : K.lookup A2w = some ⟨G8b, J1x, .func (fnOf "lowest" "Context.lowest" (B9 B5n) (B7 B5n) (A2 B5n) .none G7x J2z G5s G7b C0p J0n), J1e⟩) (B3v : codeIn K C0p "Context.lowest" = true) (A5y : keepIn K (.ref A2w) = true) (D3a : findIn K (.ref CC) "way" = some (some (.ref B3m))) (D4x : isFn K (.ref B3m) = true) {Y1m Y3c : Option Addr} {Y1g : Array (Option Value)} {V9k Y3y Y3b Y3w G0w Y2k : Value} (D4w : K.lookup B3m = some ⟨V9k, Y1m, .func (fnOf "way" "Context.way" (B9 B5k) (B7 B5k) (A2 B5k) .none Y3y Y3b Y3w Y3c G0w Y2k), Y1g⟩) (D2a : codeIn K G0w "Context.way" = true) (C0z : keepIn K (.ref B3m) = true) (B4p : findIn K (.ref CC) "raised" = some (some (.ref A3d))) (B4z : isFn K (.ref A3d) = true) {J1m J1f : Option Addr} {J0s : Array (Option Value)} {G7y J2n G5z J1b C1b G5m : Value} (B3b : K.lookup A3d = some ⟨G7y, J1m, .func (fnOf "raised" "Context.raised" (B9 A1t) (B7 A1t) (A2 A1t) .none J2n G5z J1b J1f C1b G5m), J0s⟩) (B2v : codeIn K C1b "Context.raised" = true) (A5z : keepIn K (.ref A3d) = true) (B9q : findIn K (.ref CC) "clear" = some (some (.ref A5d))) (B9r : isFn K (.ref A5d) = true) {J7h J8y : Option Addr} {J8p : Array (Option Value)} {J7d J8x J7m J9e C6z J8e : Value} (B8u : K.lookup A5d = some ⟨J7d, J7h, .func (fnOf "clear" "Context.clear" (B9 A4a) (B7 A4a) (A2 A4a) .none J8x J7m J9e J8y C6z J8e), J8p⟩) (B9t : codeIn K C6z "Context.clear" = true) (B0t : keepIn K (.ref A5d) = true) (a_CQ : nsIn K mainGlobals "Ratio" = some (some (.ref CQ))) (Z1t : plainGet K CQ Str.empty = true) (Z5w : hasDictIn K CQ = true) (A0dh : plainOver K CQ = true) (A0du : findIn K (.ref CQ) "__setattr__" = some (some (.builtin "object.__setattr__"))) (Z6p : makesIn K CQ = true) (A0fr : keepIn K (.ref CQ) = true) (A0cv : findIn K (.ref CQ) "__class__" = some (some (.builtin "object.__class__"))) (Z2e : mroIn K CQ (.type "object") = some true) (D3d : findIn K (.ref CQ) "top" = some none) (B5a : findIn K (.ref CQ) "bottom" = some none) (B8z : findIn K (.ref CQ) "power" = some none) (A0by : findIn K (.ref CQ) "__init__" = some (some (.ref G1a))) (Z1w : isFn K (.ref G1a) = true) {A0up A0bb : Option Addr} {A0uc : Array (Option Value)} {A0vv A0bc A0cr Y9j U9u Z2a : Value} (Z9k : K.lookup G1a = some ⟨A0vv, A0up, .func (fnOf "__init__" "Ratio.__init__" (B9 A7v) (B7 A7v) (A2 A7v) (.ref A0es) A0bc A0cr Y9j A0bb U9u Z2a), A0uc⟩) (Z9n : codeIn K U9u "Ratio.__init__" = true) (A0av : keepIn K (.ref G1a) = true) {A0rc : Tok} {A1ag : Nat} {A0vm : Option Addr} {A0ws : Value} {A0wj : Array (Option Value)} (J6h : K.lookup A0es = some ⟨A0ws, A0vm, .seq #[.int 0 A0rc] A1ag, A0wj⟩) (B8p : findIn K (.ref CQ) "first" = some (some (.ref A2d))) (B9e : isFn K (.ref A2d) = true) {J7y J9q : Option Addr} {J9h : Array (Option Value)} {J7v J9b J9d J9s C6w J9j : Value} (B9m : K.lookup A2d = some ⟨J7v, J7y, .func (fnOf "first" "Ratio.first" (B9 A4y) (B7 A4y) (A2 A4y) .none J9b J9d J9s J9q C6w J9j), J9h⟩) (B9k : codeIn K C6w "Ratio.first" = true) (A9w : keepIn K (.ref A2d) = true) (G3n : findIn K (.ref CQ) "at" = some (some (.ref B6k))) (J3c : isFn K (.ref B6k) = true) {Z5x Z7a : Option Addr} {Y8n : Array (Option Value)} {A0bm Z9c A0cz Z0s J7t Z5m : Value} (G3r : K.lookup B6k = some ⟨A0bm, Z5x, .func (fnOf "at" "Ratio.at" (B9 C8c) (B7 C8c) (A2 C8c) .none Z9c A0cz Z0s Z7a J7t Z5m), Y8n⟩) (G3m : codeIn K J7t "Ratio.at" = true) (C7x : keepIn K (.ref B6k) = true) (a_CE : nsIn K mainGlobals "Exact" = some (some (.ref CE))) (A0ak : kitOne K (.ref CQ) (.ref CE) = some true) (a_C1 : nsIn K mainGlobals "BadContext" = some (some (.ref C1))) (a_C2 : nsIn K mainGlobals "BadNumber" = some (some (.ref C2))) (a_C3 : nsIn K mainGlobals "BadCount" = some (some (.ref C3))) (a_C4 : nsIn K mainGlobals "Trapped" = some (some (.ref C4))) (a_CR : nsIn K mainGlobals "ReckonError" = some (some (.ref CR))) (cty : typeIn K (.ref CR) = some (.type "type")) {dR : ClassData} (ccl : clsIn K CR = some dR) (cex : subIn K (.ref CR) (.type "BaseException") = some true) (sub4 : subIn K (.ref C4) (.ref CR) = some true) (xga4 : findIn K (.ref C4) "__getattribute__" = some (some (.builtin "BaseException.__getattribute__"))) (xgh4 : findIn K (.ref C4) "__getattr__" = some none) (xca4 : findIn K (.ref C4) "__class__" = some (some (.builtin "object.__class__"))) (xob4 : mroIn K C4 (.type "object") = some true) (xbe4 : subIn K (.ref C4) (.type "BaseException") = some true) {d4 : ClassData} (xcl4 : clsIn K C4 = some d4) (h4_1 : kitOne K (.ref C4) (.ref C1) = some false) (h4_2 : kitOne K (.ref C4) (.ref C2) = some false) (h4_3 : kitOne K (.ref C4) (.ref C3) = some false) (h4_4 : kitOne K (.ref C4) (.ref C4) = some true) (hv4 : kitOne K (.ref C4) (.type "ValueError") = some true) {nmT qT : Str} {NT : Addr} {bsT bmT : List Value} {snT : List Str} {suT : List Value} {abT : Bool} {coT : Option Bool} {ddT : Option Addr} {kT0 kT1 kT2 kT3 kT5 : Option Value} (lT : K.lookup C4 = some (excClassObj nmT qT C4 NT bsT bmT true snT suT abT coT ddT kT0 kT1 kT2 kT3 kT5 "ValueError.__new__")) {ocN : Value} {odN : Option Addr} {esN : Array DictEntry} {epN : Nat} {slN : Array (Option Value)} (lN : K.lookup NT = some ⟨ocN, odN, .dict esN epN, slN⟩) (alN : (esN.all fun e => match e.key with | .str _ _ => true | _ => false) = true) (niT : nsIn K NT "__init__" = some (some (.ref fX))) {nmU qU : Str} {NU : Addr} {bsU : List Value} {snU : List Str} {suU : List Value} {abU : Bool} {coU : Option Bool} {ddU : Option Addr} {kU0 kU1 kU2 kU3 kU5 : Option Value} (lT1 : K.lookup C1 = some (excClassObj nmU qU C1 NU bsU bmT true snU suU abU coU ddU kU0 kU1 kU2 kU3 kU5 "ValueError.__new__")) (saT : findIn K (.ref C4) "__setattr__" = some (some (.builtin "object.__setattr__"))) (nsg4 : findIn K (.ref C4) "signal" = some none) {A1az A1ap : Option Addr} {A1aj : Array (Option Value)} {A0rb A1bh A1bk A1bu A0re A1br : Value} (l_iT : K.lookup fX = some ⟨A0rb, A1az, .func (fnOf "__init__" "Trapped.__init__" (B9 B5r) (B7 B5r) (A2 B5r) .none A1bh A1bk A1bu A1ap A0re A1br), A1aj⟩) (c_iT : codeIn K A0re "Trapped.__init__" = true) (k_iT : keepIn K (.ref fX) = true) (fcT : A0rb = .type "function") (kTR : kitOne K (.ref C4) (.ref CR) = some true) (q1 : excIn K C1 [.type "ValueError", .type "Exception", .type "BaseException", .type "object"] "ValueError.__new__" = true) (q2 : excIn K C2 [.type "ValueError", .type "Exception", .type "BaseException", .type "object"] "ValueError.__new__" = true) (q3 : excIn K C3 [.type "ValueError", .type "Exception", .type "BaseException", .type "object"] "ValueError.__new__" = true) (a_S : nsIn K mainGlobals "SIGNALS" = some (some (.ref aS))) {u0 u1 u2 u3 u4 u5 u6 : Tok} {nS : Nat} {odS : Option Addr} {slS : Array (Option Value)} (lS : K.lookup aS = some ⟨.type "tuple", odS, .seq #[.str "void" u0, .str "split" u1, .str "burst" u2, .str "sunk" u3, .str "faint" u4, .str "off" u5, .str "cut" u6] nS, slS⟩) (a_RO : nsIn K mainGlobals "Root" = some (some (.ref RO))) (A0ds : plainGet K RO Str.empty = true) (Z9p : hasDictIn K RO = true) (Z2d : plainOver K RO = true) (A0ff : findIn K (.ref RO) "__setattr__" = some (some (.builtin "object.__setattr__"))) (Y9x : makesIn K RO = true) (Z0r : keepIn K (.ref RO) = true) (A0cf : findIn K (.ref RO) "__class__" = some (some (.builtin "object.__class__"))) (Z1n : mroIn K RO (.type "object") = some true) (D1s : findIn K (.ref RO) "top" = some none) (B9v : findIn K (.ref RO) "power" = some none) (A0dn : findIn K (.ref RO) "__init__" = some (some (.ref G0d))) (Z3v : isFn K (.ref G0d) = true) {A0vq Z9h : Option Addr} {A0ww : Array (Option Value)} {A0xb Z1d A0ey Z9g U9n Y9d : Value} (Z7u : K.lookup G0d = some ⟨A0xb, A0vq, .func (fnOf "__init__" "Root.__init__" (B9 A8g) (B7 A8g) (A2 A8g) (.ref Z1g) Z1d A0ey Z9g Z9h U9n Y9d), A0ww⟩) (Z9q : codeIn K U9n "Root.__init__" = true) (Z4g : keepIn K (.ref G0d) = true) {A0rd : Tok} {A1as : Nat} {A0ux : Option Addr} {A0wh : Value} {A0vf : Array (Option Value)} (J5x : K.lookup Z1g = some ⟨A0wh, A0ux, .seq #[.int 0 A0rd] A1as, A0vf⟩) (B8h : findIn K (.ref RO) "first" = some (some (.ref A2f))) (B8q : isFn K (.ref A2f) = true) {J8h J6x : Option Addr} {J7z : Array (Option Value)} {J7x J6j J8m J6y C7b J9r : Value} (B8v : K.lookup A2f = some ⟨J7x, J8h, .func (fnOf "first" "Root.first" (B9 A4s) (B7 A4s) (A2 A4s) .none J6j J8m J6y J6x C7b J9r), J7z⟩) (B8x : codeIn K C7b "Root.first" = true) (A9b : keepIn K (.ref A2f) = true) (J2q : findIn K (.ref RO) "at" = some (some (.ref B6f))) (G8j : isFn K (.ref B6f) = true) {Z6q Z3m : Option Addr} {A0en : Array (Option Value)} {A0aa A0ce Z4q Z8s J6p A0fb : Value} (G5c : K.lookup B6f = some ⟨A0aa, Z6q, .func (fnOf "at" "Root.at" (B9 C8q) (B7 C8q) (A2 C8q) .none A0ce Z4q Z8s Z3m J6p A0fb), A0en⟩) (J0p : codeIn K J6p "Root.at" = true) (C7w : keepIn K (.ref B6f) = true) (Z2t : kitOne K (.ref RO) (.ref CE) = some true) : ∃ fd : FuncData, (∀ (s : Shared) (v : Value), BindsTo s fd ⟨[v], []⟩ [("_law_script", v)]) /\ ∀ base : Heap, K.In base -> base.Ns mainGlobals mg -> A8 l.prog w K mg base (CX1 l.prog w) 10 fa fd ["_law_script"] (V4d K) := by
 have e := hfa.symm.trans (mg_of X G V5k)
 cases e
 have A5t := G0 (ps := ["whole", "count"]) (st := Z6) X G B2t B4g B2z B5h fun _ _ _ _ _ _ us hl => match us, hl with | [_, _], _ => rfl
 have A2m := G0 (ps := ["count"]) (st := A0q) X G J2j G7k J3v J1j fun _ _ _ _ _ _ us hl => match us, hl with | [_], _ => rfl
 have D1r := G0 (ps := ["size", "middle"]) (st := A5h) X G D4h D4u D4v D1c fun _ _ _ _ _ _ us hl => match us, hl with | [_, _], _ => rfl
 have C7u := G0 (ps := ["whole"]) (st := A6e) X G J1q G8z G2s J0w fun _ _ _ _ _ _ us hl => match us, hl with | [_], _ => rfl
 have V5h := G0 (ps := ["whole"]) (st := B1h) X G J2s G3d J0f G2u fun _ _ _ _ _ _ us hl => match us, hl with | [_], _ => rfl
 have D_plain := G0 (ps := ["sign", "figures", "power"]) (st := B7y) X G J3h G7n G8x J0u fun _ _ _ _ _ _ us hl => match us, hl with | [_, _, _], _ => rfl
 have D_end := G0 (ps := ["sign"]) (st := G2e) X G Z6d A0bw Z5u Z8v fun _ _ _ _ _ _ us hl => match us, hl with | [_], _ => rfl
 have D_nothing := G0 (ps := []) (st := Z0) X G C3f C2d C4z C4a fun _ _ _ _ _ _ us hl => match us, hl with | [], _ => rfl
 have D_told := G0 (ps := ["number"]) (st := C9b) X G U5g U8v U7y U1v fun _ _ _ _ _ _ us hl => match us, hl with | [_], _ => rfl
 have Z7s := G0 (ps := ["number"]) (st := C8f) X G V1n U8e U3g U5x fun _ _ _ _ _ _ us hl => match us, hl with | [_], _ => rfl
 have B6g := G0 (ps := ["thing"]) (st := A4q) X G G3c G9j J1r G7d fun _ _ _ _ _ _ us hl => match us, hl with | [_], _ => rfl
 have A8j := G0 (ps := ["things"]) (st := A3n) X G B8s B9a B9s B8f fun _ _ _ _ _ _ us hl => match us, hl with | [_], _ => rfl
 have C7t := G0 (ps := ["numbers", "kind"]) (st := A7u) X G G3v G5y G6u J0e fun _ _ _ _ _ _ us hl => match us, hl with | [_, _], _ => rfl
 have C1f := G0 (ps := ["one", "other"]) (st := A3r) X G D4e D2r D1a D3s fun _ _ _ _ _ _ us hl => match us, hl with | [_, _], _ => rfl
 have C4w := G0 (ps := ["number", "power"]) (st := A2n) X G C6b C3x C4u C2n fun _ _ _ _ _ _ us hl => match us, hl with | [_, _], _ => rfl
 have V4q := G0 (ps := ["thing", "least", "most"]) (st := C9s) X G Z9s A0dc A0fk Z4n fun _ _ _ _ _ _ us hl => match us, hl with | [_, _, _], _ => rfl
 have G0k := G0 (ps := ["thing", "least", "most"]) (st := A2p) X G C2g C5f C2y C5w fun _ _ _ _ _ _ us hl => match us, hl with | [_, _, _], _ => rfl
 have V5j := G0 (ps := ["thing", "most"]) (st := B7h) X G G7w G4p J2r G4n fun _ _ _ _ _ _ us hl => match us, hl with | [_, _], _ => rfl
 have D_settled := G0 (ps := ["context", "sign", "exact", "ideal"]) (st := A0c) X G C5c C5p C3e C5n fun _ _ _ _ _ _ us hl => match us, hl with | [_, _, _, _], _ => rfl
 have C0t := G0 (ps := ["context", "exact"]) (st := A5g) X G D0v D2q D2x D0q fun _ _ _ _ _ _ us hl => match us, hl with | [_, _], _ => rfl
 have C2p := G0 (ps := ["ideal", "sign", "figures", "power"]) (st := A2s) X G C2w C4g C2s C4x fun _ _ _ _ _ _ us hl => match us, hl with | [_, _, _, _], _ => rfl
 have D_neighbour := G0 (ps := ["context", "sign", "pair"]) (st := A0d) X G B2a B4n B4x B3y fun _ _ _ _ _ _ us hl => match us, hl with | [_, _, _], _ => rfl
 have D3q := G0 (ps := ["context", "sign", "figures", "power"]) (st := A5n) X G D0p D4a D4s D2j fun _ _ _ _ _ _ us hl => match us, hl with | [_, _, _, _], _ => rfl
 have D3r := G0 (ps := ["context", "number"]) (st := A5p) X G D0r D3x D2v D3k fun _ _ _ _ _ _ us hl => match us, hl with | [_, _], _ => rfl
 have D_burst := G0 (ps := ["context", "sign"]) (st := B1c) X G G4k G3x G3g J0h fun _ _ _ _ _ _ us hl => match us, hl with | [_, _], _ => rfl
 have D_nines := G0 (ps := ["context", "sign"]) (st := B1n) X G G6c G5n G2v G5p fun _ _ _ _ _ _ us hl => match us, hl with | [_, _], _ => rfl
 have C2m := G0 (ps := ["part", "is_cut"]) (st := A4j) X G C2z C5h C2x C3v fun _ _ _ _ _ _ us hl => match us, hl with | [_, _], _ => rfl
 have C4b := G0 (ps := ["context", "lead", "part"]) (st := A4p) X G C4p C3y C3a C1z fun _ _ _ _ _ _ us hl => match us, hl with | [_, _, _], _ => rfl
 have D_nought := G0 (ps := ["context", "sign", "ideal"]) (st := A0h) X G D3p D2n D1d D1q fun _ _ _ _ _ _ us hl => match us, hl with | [_, _, _], _ => rfl
 have D_void := G0 (ps := ["context"]) (st := B1k) X G U1x U5h V0y U7r fun _ _ _ _ _ _ us hl => match us, hl with | [_], _ => rfl
 have G6k := G0 (ps := ["context", "sign"]) (st := B1r) X G G6b G9e G9c G9u fun _ _ _ _ _ _ us hl => match us, hl with | [_, _], _ => rfl
 have D_rounded := G0 (ps := ["context", "number"]) (st := A4r) X G C3w C3h C3z C4j fun _ _ _ _ _ _ us hl => match us, hl with | [_, _], _ => rfl
 have D_over := G0 (ps := ["context", "one", "other"]) (st := C9q) X G U7b U9f U8t U9b fun _ _ _ _ _ _ us hl => match us, hl with | [_, _, _], _ => rfl
 have C6v := G0 (ps := ["context", "one", "other"]) (st := A0t) X G B4j B4v B3q B4h fun _ _ _ _ _ _ us hl => match us, hl with | [_, _, _], _ => rfl
 have J8b := G0 (ps := ["context", "one", "other"]) (st := A8a) X G D4g D2y D1g D0t fun _ _ _ _ _ _ us hl => match us, hl with | [_, _, _], _ => rfl
 have J1d := G0 (ps := ["one", "other"]) (st := C6s) X G V1h U2c U6z V0q fun _ _ _ _ _ _ us hl => match us, hl with | [_, _], _ => rfl
 have U9w := G0 (ps := ["context", "one", "other", "ideal"]) (st := C6k) X G U7x V0s U9v U2g fun _ _ _ _ _ _ us hl => match us, hl with | [_, _, _, _], _ => rfl
 have B3n := G0 (ps := ["one", "other"]) (st := Z9) X G B5e B4m B3a B5d fun _ _ _ _ _ _ us hl => match us, hl with | [_, _], _ => rfl
 have G3w := G0 (ps := ["name"]) (st := B1d) X G G8k G5u J0k G4t fun _ _ _ _ _ _ us hl => match us, hl with | [_], _ => rfl
 have D_bounded := G0 (ps := ["thing", "least", "most"]) (st := A4t) X G C6a C2c C5k C5b fun _ _ _ _ _ _ us hl => match us, hl with | [_, _, _], _ => rfl
 have V5g := G0 (ps := ["names"]) (st := B8b) X G J1u J3w J1v G8a fun _ _ _ _ _ _ us hl => match us, hl with | [_], _ => rfl
 have V4u := G0 (ps := ["names"]) (st := B7w) X G G9z G5w G4y J0r fun _ _ _ _ _ _ us hl => match us, hl with | [_], _ => rfl
 have D_root := G0 (ps := ["context", "one"]) (st := C9m) X G V1t U2k U3y V2j fun _ _ _ _ _ _ us hl => match us, hl with | [_, _], _ => rfl
 have V5d := G0 (ps := ["context", "one", "count"]) (st := B7m) X G G7h J0z G6r J3g fun _ _ _ _ _ _ us hl => match us, hl with | [_, _, _], _ => rfl
 have Z1v := G0 (ps := ["context", "sign", "count"]) (st := C7j) X G D0u D3u D4b D2m fun _ _ _ _ _ _ us hl => match us, hl with | [_, _, _], _ => rfl
 have Z0n := G0 (ps := ["context", "sign", "power", "count"]) (st := A0u) X G V0z U2q U3c U5d fun _ _ _ _ _ _ us hl => match us, hl with | [_, _, _, _], _ => rfl
 have Z2k := G0 (ps := ["_law_script", "_law_k"]) (st := D0e) X G U1z U8j U7t V1j fun _ _ _ _ _ _ us hl => match us, hl with | [_, _], _ => rfl
 have C7v := G0 (ps := ["_law_cell", "_law_k"]) (st := A7q) X G G5g G4h J2m G5v fun _ _ _ _ _ _ us hl => match us, hl with | [_, _], _ => rfl
 have B8y := G0 (ps := ["_law_power_here"]) (st := B0y) X G U6r U6g U2x U2a fun _ _ _ _ _ _ us hl => match us, hl with | [_], _ => rfl
 have Z9w := G0 (ps := ["_law_cell", "_law_most"]) (st := C8g) X G U7k U3q U6h U2s fun _ _ _ _ _ _ us hl => match us, hl with | [_, _], _ => rfl
 have J6r := G0 (ps := ["_law_cell"]) (st := A8b) X G D2k D1f D1p D1h fun _ _ _ _ _ _ us hl => match us, hl with | [_], _ => rfl
 have A0dj := G0 (ps := ["_law_frame_here"]) (st := C8p) X G U7m V1z V1e U5a fun _ _ _ _ _ _ us hl => match us, hl with | [_], _ => rfl
 have J9p := G0 (ps := ["_law_cell", "_law_most"]) (st := A7s) X G D1n D3e D3t D4z fun _ _ _ _ _ _ us hl => match us, hl with | [_, _], _ => rfl
 have B5f := G0 (ps := ["_law_figures_here"]) (st := A2k) X G D1v D3f D0n D4f fun _ _ _ _ _ _ us hl => match us, hl with | [_], _ => rfl
 have J8a := G0 (ps := ["_law_number"]) (st := A7t) X G D3b D0z D1y D0m fun _ _ _ _ _ _ us hl => match us, hl with | [_], _ => rfl
 have Z2u := G0 (ps := ["_law_value", "_law_power_here"]) (st := J4c) X G Z3g Z3f Y9t Z7b fun _ _ _ _ _ _ us hl => match us, hl with | [_, _], _ => rfl
 have V4w := G0 (ps := ["_law_value"]) (st := B7n) X G J2b J1s G9b J1g fun _ _ _ _ _ _ us hl => match us, hl with | [_], _ => rfl
 have V5f := G0 (ps := ["_law_way", "_law_sign", "_law_last", "_law_part"]) (st := B8a) X G J0m G5b G3t G2w fun _ _ _ _ _ _ us hl => match us, hl with | [_, _, _, _], _ => rfl
 have J7f := G0 (ps := ["_law_room", "_law_way", "_law_most", "_law_sign"]) (st := A7y) X G D0j D2p D3z D1j fun _ _ _ _ _ _ us hl => match us, hl with | [_, _, _, _], _ => rfl
 have A2b := G0 (ps := ["_law_frame_here", "_law_sign", "_law_value", "_law_ideal"]) (st := Y7) X G B9h B8t B8n B8j fun _ _ _ _ _ _ us hl => match us, hl with | [_, _, _, _], _ => rfl
 have A4f := G0 (ps := ["_law_frame_here", "_law_sign", "_law_ideal"]) (st := A0b) X G C4m C3n C4c C2q fun _ _ _ _ _ _ us hl => match us, hl with | [_, _, _], _ => rfl
 have B6b := G0 (ps := []) (st := A4x) X G G5j G9p G4d J3x fun _ _ _ _ _ _ us hl => match us, hl with | [], _ => rfl
 have D3m := G0 (ps := ["_law_sign"]) (st := A5j) X G D3y D3j D1z D4c fun _ _ _ _ _ _ us hl => match us, hl with | [_], _ => rfl
 have J2p := G0 (ps := ["_law_frame_here", "_law_one", "_law_other"]) (st := B1v) X G J3d J3f J0j G9g fun _ _ _ _ _ _ us hl => match us, hl with | [_, _, _], _ => rfl
 have C2k := G0 (ps := ["_law_one", "_law_other"]) (st := A2t) X G C3q C5q C4r C5u fun _ _ _ _ _ _ us hl => match us, hl with | [_, _], _ => rfl
 have C1g := G0 (ps := ["_law_frame_here", "_law_one", "_law_other"]) (st := A0a) X G A8w A9n B0x A9z fun _ _ _ _ _ _ us hl => match us, hl with | [_, _, _], _ => rfl
 have V4x := G0 (ps := ["_law_frame_here", "_law_one", "_law_other"]) (st := B7q) X G G3s G8t G2t G4e fun _ _ _ _ _ _ us hl => match us, hl with | [_, _, _], _ => rfl
 have V5n := G0 (ps := ["_law_frame_here", "_law_one"]) (st := B7r) X G G4c J3n G6m J3y fun _ _ _ _ _ _ us hl => match us, hl with | [_, _], _ => rfl
 have G0e := G0 (ps := ["_law_number", "_law_count_here"]) (st := A4z) X G C6e C5s C3j C2j fun _ _ _ _ _ _ us hl => match us, hl with | [_, _], _ => rfl
 have J5r := G0 (ps := ["_law_frame_here", "_law_one", "_law_count_here"]) (st := A8h) X G D1u D4n D2t D1k fun _ _ _ _ _ _ us hl => match us, hl with | [_, _, _], _ => rfl
 have Z4u := G0 (ps := ["_law_frame_here", "_law_way", "_law_parts", "_law_count_here"]) (st := C9g) X G U7z V0b V1v U7j fun _ _ _ _ _ _ us hl => match us, hl with | [_, _, _, _], _ => rfl
 have V4n := G0 (ps := ["_law_context_here", "_law_way", "_law_numbers", "_law_count_here"]) (st := B7j) X G G7a G3b G4u J2w fun _ _ _ _ _ _ us hl => match us, hl with | [_, _, _, _], _ => rfl
 have V4z := G0 (ps := ["_law_parts", "_law_more"]) (st := B7t) X G J1a G3u J3j G7g fun _ _ _ _ _ _ us hl => match us, hl with | [_, _], _ => rfl
 have A1aq := G0 (ps := ["_law_script"]) (st := G2j) X G V5k Z7h A0cx A0aq fun _ _ _ _ _ _ us hl => match us, hl with | [_], _ => rfl
 have O : Own mg := ⟨mg_none_of X G A9s, mg_none_of X G Z9r, mg_none_of X G U5y, mg_none_of X G Z2p, mg_none_of X G U8n, mg_none_of X G G6x, mg_none_of X G U7d, mg_none_of X G Z4x, mg_none_of X G G3e, mg_none_of X G Z9b, mg_none_of X G Z9x, mg_none_of X G Z3a, mg_none_of X G Y9n, mg_none_of X G A0an, mg_none_of X G A0db, mg_none_of X G V1y, mg_none_of X G B3k, mg_none_of X G B9c, mg_none_of X G Y9c, mg_none_of X G D4m, mg_none_of X G D1x, mg_none_of X G A0cc, mg_none_of X G A9u⟩
 have T : Kit K := ⟨B9u, B4s, B9d, B5b, A9h, B4u, B3j, A9k, B2j, A9e, A6j, A8p, B9g, B2s, B9j, B3r, B0v, B2e, B2k, A9f, B3d, A9v, A6k, B0j, A8q, A6p, B0p, A6n, A5e, A6h, B3u, B0n, B3g, A8m, A6m, B0m, A3j, A2e, A3h, A2c, A1f, A2g⟩
 have A1be : Cls K W0 := ⟨Z8m, Y8x, Z2z, Z2q⟩
 have A1bq : Mk0 K W0 := ⟨A0ea, Z6a, Y9z⟩
 have F_name_W0 := U3 (st := sN0) C4v C2u B6e
 have Y2f := F_name_W0.binds (ps := ["self"]) fun _ _ _ _ _ _ us hl => match us, hl with | [_], _ => rfl
 have V0x : Y5 K W0 "name" A7m := ⟨C4k, C2h, B6e⟩
 have WC0 : C7f K mg "Down" W0 CW := ⟨mg_of X G a_W0, A1be, A1bq, A0ch, sn, tk, Z7v, Y9q⟩
 have A1bd : Cls K W1 := ⟨Z9v, A0dm, Z7d, A0dy⟩
 have A1bf : Mk0 K W1 := ⟨Z5s, Y9s, A0et⟩
 have F_name_W1 := U3 (st := sN1) C5x C3s B6j
 have V8n := F_name_W1.binds (ps := ["self"]) fun _ _ _ _ _ _ us hl => match us, hl with | [_], _ => rfl
 have U5f : Y5 K W1 "name" A7g := ⟨C5d, C6f, B6j⟩
 have WC1 : C7f K mg "Up" W1 CW := ⟨mg_of X G a_W1, A1bd, A1bf, Z6t, sn, tk, Z6j, Z2j⟩
 have A1ah : Cls K W2 := ⟨Z9d, A0ck, Z1h, Z7w⟩
 have A1by : Mk0 K W2 := ⟨A0eq, Z5j, Z7t⟩
 have F_name_W2 := U3 (st := sN2) C4t C3k B6c
 have V9c := F_name_W2.binds (ps := ["self"]) fun _ _ _ _ _ _ us hl => match us, hl with | [_], _ => rfl
 have U3n : Y5 K W2 "name" A7e := ⟨C4q, C6d, B6c⟩
 have WC2 : C7f K mg "Floor" W2 CW := ⟨mg_of X G a_W2, A1ah, A1by, Z3d, sn, tk, Z4r, A0ac⟩
 have A1at : Cls K W3 := ⟨Z0e, Z4h, A0ay, A0cw⟩
 have A1cb : Mk0 K W3 := ⟨Y8p, Z8p, A0bp⟩
 have F_name_W3 := U3 (st := sN3) C2r C5a B5z
 have Y0n := F_name_W3.binds (ps := ["self"]) fun _ _ _ _ _ _ us hl => match us, hl with | [_], _ => rfl
 have U7u : Y5 K W3 "name" A7d := ⟨C4e, C6c, B5z⟩
 have WC3 : C7f K mg "Ceiling" W3 CW := ⟨mg_of X G a_W3, A1at, A1cb, Z4t, sn, tk, Z9m, Z3p⟩
 have A1bb : Cls K W4 := ⟨Z0u, Y9r, Z0t, Z2f⟩
 have A1an : Mk0 K W4 := ⟨Z8k, A0dv, Z9t⟩
 have F_name_W4 := U3 (st := sN4) C3g C5v B6d
 have Y2r := F_name_W4.binds (ps := ["self"]) fun _ _ _ _ _ _ us hl => match us, hl with | [_], _ => rfl
 have U7q : Y5 K W4 "name" A7j := ⟨C3b, C4f, B6d⟩
 have WC4 : C7f K mg "HalfUp" W4 CW := ⟨mg_of X G a_W4, A1bb, A1an, Z3w, sn, tk, A0fs, A0eb⟩
 have A1au : Cls K W5 := ⟨Z5e, A0cm, A0ag, Z4s⟩
 have A1ca : Mk0 K W5 := ⟨Z7q, A0fj, A0ec⟩
 have F_name_W5 := U3 (st := sN5) C3d C2e B6a
 have Y3p := F_name_W5.binds (ps := ["self"]) fun _ _ _ _ _ _ us hl => match us, hl with | [_], _ => rfl
 have U8z : Y5 K W5 "name" A7f := ⟨C2v, C5t, B6a⟩
 have WC5 : C7f K mg "HalfDown" W5 CW := ⟨mg_of X G a_W5, A1au, A1ca, Z0b, sn, tk, A0fu, Z8u⟩
 have A1ax : Cls K W6 := ⟨Y8v, Z3h, Z1m, A0cd⟩
 have A1bj : Mk0 K W6 := ⟨Z2n, A0az, Z5y⟩
 have F_name_W6 := U3 (st := sN6) C3u C2b B6h
 have Y1r := F_name_W6.binds (ps := ["self"]) fun _ _ _ _ _ _ us hl => match us, hl with | [_], _ => rfl
 have U3m : Y5 K W6 "name" A7k := ⟨C6g, C6h, B6h⟩
 have WC6 : C7f K mg "HalfEven" W6 CW := ⟨mg_of X G a_W6, A1ax, A1bj, A0dp, sn, tk, A0dq, Z0h⟩
 have A1ae : Cls K W7 := ⟨A0ej, Z6v, Z7m, Z6f⟩
 have A1ay : Mk0 K W7 := ⟨Z4c, Z4m, Z6c⟩
 have F_name_W7 := U3 (st := sN7) C4n C4s B5y
 have V8t := F_name_W7.binds (ps := ["self"]) fun _ _ _ _ _ _ us hl => match us, hl with | [_], _ => rfl
 have U9p : Y5 K W7 "name" A7n := ⟨C5z, C3m, B5y⟩
 have WC7 : C7f K mg "FiveUp" W7 CW := ⟨mg_of X G a_W7, A1ae, A1ay, Y8u, sn, tk, Z9a, A0fm⟩
 let cw : Wy -> Addr := fun y => match y with | .down => W0 | .up => W1 | .floor => W2 | .ceiling => W3 | .halfUp => W4 | .halfDown => W5 | .halfEven => W6 | .fiveUp => W7
 have W : ∀ y : Wy, C7f K mg y.cls (cw y) CW := fun y => match y with | .down => WC0 | .up => WC1 | .floor => WC2 | .ceiling => WC3 | .halfUp => WC4 | .halfDown => WC5 | .halfEven => WC6 | .fiveUp => WC7
 have A1bp : Cls K CN := ⟨Z1j, Z4j, A0dr, Z8e⟩
 have FI_CN := U3 (st := D9m) Z1k Z6u Z3r
 have A1bz := FI_CN.binds (ps := ["self", "kind", "sign", "figures", "power"]) fun _ _ _ _ _ _ us hl => match us, hl with | [_, _, _, _, _], _ => rfl
 have M_CN : Mk K CN G0s := ⟨Z9u, Y9f, A0dg, Z1s⟩
 have N : Num K mg CN := ⟨mg_of X G a_CN, A1bp, C3p, C3t, A9c, B9f, A0fh, sn, tk, A0cu, G9y⟩
 have F_goes_up_W0 := U3 (st := sU0) B0w A9d A3x
 have G8w := F_goes_up_W0.binds (ps := ["self", "sign", "last", "part"]) fun _ _ _ _ _ _ us hl => match us, hl with | [_, _, _, _], _ => rfl
 have D7a : Y5 K W0 "goes_up" A1m := ⟨A8y, A8s, A3x⟩
 have F_to_end_W0 := U3 (st := sT0) B2g B2p A5r
 have J7q := F_to_end_W0.binds (ps := ["self", "sign"]) fun _ _ _ _ _ _ us hl => match us, hl with | [_, _], _ => rfl
 have J0v : Y5 K W0 "to_end" A3b := ⟨B4d, B4k, A5r⟩
 have F_goes_up_W1 := U3 (st := sU1) A8z A9x A3z
 have J1z := F_goes_up_W1.binds (ps := ["self", "sign", "last", "part"]) fun _ _ _ _ _ _ us hl => match us, hl with | [_, _, _, _], _ => rfl
 have D6e : Y5 K W1 "goes_up" A1g := ⟨A8n, A9p, A3z⟩
 have F_to_end_W1 := U3 (st := sT1) B4r B4e A5u
 have J7w := F_to_end_W1.binds (ps := ["self", "sign"]) fun _ _ _ _ _ _ us hl => match us, hl with | [_, _], _ => rfl
 have G5d : Y5 K W1 "to_end" A2z := ⟨B3z, B2h, A5u⟩
 have F_goes_up_W2 := U3 (st := sU2) B0c B0q A3t
 have G8e := F_goes_up_W2.binds (ps := ["self", "sign", "last", "part"]) fun _ _ _ _ _ _ us hl => match us, hl with | [_, _, _, _], _ => rfl
 have D8q : Y5 K W2 "goes_up" A1p := ⟨B0s, A9j, A3t⟩
 have F_to_end_W2 := U3 (st := sT2) B4w B3s A5x
 have J8q := F_to_end_W2.binds (ps := ["self", "sign"]) fun _ _ _ _ _ _ us hl => match us, hl with | [_, _], _ => rfl
 have G7u : Y5 K W2 "to_end" A2y := ⟨B2r, B2f, A5x⟩
 have F_goes_up_W3 := U3 (st := sU3) B0f A8t A3s
 have G3y := F_goes_up_W3.binds (ps := ["self", "sign", "last", "part"]) fun _ _ _ _ _ _ us hl => match us, hl with | [_, _, _, _], _ => rfl
 have D8h : Y5 K W3 "goes_up" A1e := ⟨B0k, B0r, A3s⟩
 have F_to_end_W3 := U3 (st := sT3) B4b B4y A5q
 have J5q := F_to_end_W3.binds (ps := ["self", "sign"]) fun _ _ _ _ _ _ us hl => match us, hl with | [_, _], _ => rfl
 have J1w : Y5 K W3 "to_end" A2v := ⟨B4f, B3e, A5q⟩
 have F_goes_up_W4 := U3 (st := sU4) A9q A9g A3w
 have G6y := F_goes_up_W4.binds (ps := ["self", "sign", "last", "part"]) fun _ _ _ _ _ _ us hl => match us, hl with | [_, _, _, _], _ => rfl
 have D7w : Y5 K W4 "goes_up" A1h := ⟨A9a, B0a, A3w⟩
 have F_to_end_W4 := U3 (st := sT4) B2m B3x A5w
 have J7p := F_to_end_W4.binds (ps := ["self", "sign"]) fun _ _ _ _ _ _ us hl => match us, hl with | [_, _], _ => rfl
 have G7v : Y5 K W4 "to_end" A3a := ⟨B2d, B3h, A5w⟩
 have F_goes_up_W5 := U3 (st := sU5) B0e B0h A3u
 have G8g := F_goes_up_W5.binds (ps := ["self", "sign", "last", "part"]) fun _ _ _ _ _ _ us hl => match us, hl with | [_, _, _, _], _ => rfl
 have D7v : Y5 K W5 "goes_up" A1k := ⟨A9t, A9y, A3u⟩
 have F_to_end_W5 := U3 (st := sT5) B3p B3t A6a
 have J6k := F_to_end_W5.binds (ps := ["self", "sign"]) fun _ _ _ _ _ _ us hl => match us, hl with | [_, _], _ => rfl
 have G9k : Y5 K W5 "to_end" A3c := ⟨B2x, B2y, A6a⟩
 have F_goes_up_W6 := U3 (st := sU6) B0d B0b A3y
 have G4q := F_goes_up_W6.binds (ps := ["self", "sign", "last", "part"]) fun _ _ _ _ _ _ us hl => match us, hl with | [_, _, _, _], _ => rfl
 have D8m : Y5 K W6 "goes_up" A1j := ⟨A9m, A9r, A3y⟩
 have F_to_end_W6 := U3 (st := sT6) B2u B3w A5v
 have J6b := F_to_end_W6.binds (ps := ["self", "sign"]) fun _ _ _ _ _ _ us hl => match us, hl with | [_, _], _ => rfl
 have G6e : Y5 K W6 "to_end" A2x := ⟨B2n, B4a, A5v⟩
 have F_goes_up_W7 := U3 (st := sU7) A8k B0u A3v
 have G7p := F_goes_up_W7.binds (ps := ["self", "sign", "last", "part"]) fun _ _ _ _ _ _ us hl => match us, hl with | [_, _, _, _], _ => rfl
 have D8r : Y5 K W7 "goes_up" A1n := ⟨A8v, A8u, A3v⟩
 have F_to_end_W7 := U3 (st := sT7) B2b B4c A5s
 have J6c := F_to_end_W7.binds (ps := ["self", "sign"]) fun _ _ _ _ _ _ us hl => match us, hl with | [_, _], _ => rfl
 have G7t : Y5 K W7 "to_end" A3e := ⟨B3f, B5g, A5s⟩
 have A1ak : Cls K CC := ⟨A0bn, Z9y, A0bz, A0aj⟩
 have A1bn := G2b (st := A1a) A0er Z6n A0at
 have M_CC : Mk K CC G0y := ⟨Y9e, Z2c, Z9z, Y9m⟩
 have F_flags_CC := U3 (st := A4b) B9n B8k A8r
 have U8u := F_flags_CC.binds (ps := ["self"]) fun _ _ _ _ _ _ us hl => match us, hl with | [_], _ => rfl
 have J8t : Y5 K CC "flags" A5c := ⟨B9b, B8r, A8r⟩
 have F_lowest_CC := U3 (st := B5n) B5c B3v A5y
 have J8v := F_lowest_CC.binds (ps := ["self"]) fun _ _ _ _ _ _ us hl => match us, hl with | [_], _ => rfl
 have J3b : Y5 K CC "lowest" A2w := ⟨B2w, B4t, A5y⟩
 have F_way_CC := U3 (st := B5k) D4w D2a C0z
 have A0dt := F_way_CC.binds (ps := ["self"]) fun _ _ _ _ _ _ us hl => match us, hl with | [_], _ => rfl
 have Y1w : Y5 K CC "way" B3m := ⟨D3a, D4x, C0z⟩
 have F_raised_CC := U3 (st := A1t) B3b B2v A5z
 have J5z := F_raised_CC.binds (ps := ["self", "names"]) fun _ _ _ _ _ _ us hl => match us, hl with | [_, _], _ => rfl
 have G6s : Y5 K CC "raised" A3d := ⟨B4p, B4z, A5z⟩
 have F_clear_CC := U3 (st := A4a) B8u B9t B0t
 have U5b := F_clear_CC.binds (ps := ["self"]) fun _ _ _ _ _ _ us hl => match us, hl with | [_], _ => rfl
 have J7c : Y5 K CC "clear" A5d := ⟨B9q, B9r, B0t⟩
 have A1av : Cls K CQ := ⟨Z1t, Z5w, A0dh, A0du⟩
 have A1bv := G2b (st := A7v) Z9k Z9n A0av
 have M_CQ : Mk K CQ G1a := ⟨Z6p, A0by, Z1w, A0fr⟩
 have F_first_CQ := U3 (st := A4y) B9m B9k A9w
 have U8x := F_first_CQ.binds (ps := ["self"]) fun _ _ _ _ _ _ us hl => match us, hl with | [_], _ => rfl
 have J7g : Y5 K CQ "first" A2d := ⟨B8p, B9e, A9w⟩
 have F_at_CQ := U3 (st := C8c) G3r G3m C7x
 have V4p := F_at_CQ.binds (ps := ["self", "power"]) fun _ _ _ _ _ _ us hl => match us, hl with | [_, _], _ => rfl
 have J8n : Y5 K CQ "at" B6k := ⟨G3n, J3c, C7x⟩
 have xk4 : ExcK K C4 := ⟨xga4, xgh4, xca4, sn, tk, xob4, xbe4, by rw [xcl4]; rfl⟩
 have nkT : nsOkIn K NT = true := by unfold nsOkIn; rw [lN]; exact alN
 have tlT : tailIn K V3r bmT = true := by
   have z := q1
   unfold excIn at z
   rw [lT1] at z
   simp only [excClassObj, Bool.and_eq_true] at z
   exact z.1.1.2
 have F_iT := U3 (st := B5r) l_iT c_iT k_iT
 have b_iT := F_iT.binds (ps := ["self", "signal"]) fun _ _ _ _ _ _ us hl => match us, hl with | [_, _], _ => rfl
 have XI4 : V7z K C4 fX := ⟨⟨_, _, _, _, _, _, _, _, _, _, _, _, _, _, _, lT, nkT, niT, tlT⟩, ⟨_, l_iT, fcT⟩, saT, xob4⟩
 have SG : SigK K mg aS := ⟨mg_of X G a_S, ⟨_, lS, rfl⟩, fun H => .inr ⟨_, _, _, lS, rfl, rfl, D7 (by show 7 <= 1000; decide), .cons ⟨_, rfl⟩ (.cons ⟨_, rfl⟩ (.cons ⟨_, rfl⟩ (.cons ⟨_, rfl⟩ (.cons ⟨_, rfl⟩ (.cons ⟨_, rfl⟩ (.cons ⟨_, rfl⟩ (.nil)))))))⟩⟩
 have A1am : Cls K RO := ⟨A0ds, Z9p, Z2d, A0ff⟩
 have A1bt := G2b (st := A8g) Z7u Z9q Z4g
 have M_RO : Mk K RO G0d := ⟨Y9x, A0dn, Z3v, Z0r⟩
 have F_first_RO := U3 (st := A4s) B8v B8x A9b
 have U2h := F_first_RO.binds (ps := ["self"]) fun _ _ _ _ _ _ us hl => match us, hl with | [_], _ => rfl
 have J7u : Y5 K RO "first" A2f := ⟨B8h, B8q, A9b⟩
 have F_at_RO := U3 (st := C8q) G5c J0p C7w
 have A0nd := F_at_RO.binds (ps := ["self", "power"]) fun _ _ _ _ _ _ us hl => match us, hl with | [_, _], _ => rfl
 have Z8x : Y5 K RO "at" B6f := ⟨J2q, G8j, C7w⟩
 have C : D5f K mg CC := ⟨mg_of X G a_CC, A1ak, C2t, C5j, B9p, C3r, B8m, B0g⟩
 have B1 : Err K mg "BadContext" C1 := ⟨mg_of X G a_C1, q1⟩
 have B2 : Err K mg "BadNumber" C2 := ⟨mg_of X G a_C2, q2⟩
 have B3 : Err K mg "BadCount" C3 := ⟨mg_of X G a_C3, q3⟩
 have R : G2r K mg CQ CE := ⟨mg_of X G a_CQ, mg_of X G a_CE, A1av, D3d, B5a, B8z, A0cv, sn, tk, Z2e, A0ak⟩
 have b4 := C8b (fd := fnOf "__init__" "Context.__init__" (B9 A1a) (B7 A1a) (A2 A1a) (.ref A0fw) Z5g Z5n Z5d Z1e U6p Z8f) (ps := ["self", "room", "way", "least", "most"]) (ds := []) rfl Z7n rfl fun us hl => by obtain ⟨a, b, c, d, e, rfl⟩ := len5 (J9v hl); exact ⟨_, rfl, rfl⟩
 refine ⟨fnOf "law" "law" (B9 G2j) (B7 G2j) (A2 G2j) .none Z0j Z7x Z7c Z6m U9a A0bh, fun s v => .of_eq rfl, fun base _ _ => ?_⟩
 have WN : ∀ y : Wy, WayN l.prog w K mg base (cw y) y.name := fun y => match y with | .down => ⟨_, _, V0x, A0yj F_name_W0, Y2f⟩ | .up => ⟨_, _, U5f, A0zp F_name_W1, V8n⟩ | .floor => ⟨_, _, U3n, A0xk F_name_W2, V9c⟩ | .ceiling => ⟨_, _, U7u, A0zm F_name_W3, Y0n⟩ | .halfUp => ⟨_, _, U7q, A0yy F_name_W4, Y2r⟩ | .halfDown => ⟨_, _, U8z, A0zf F_name_W5, Y3p⟩ | .halfEven => ⟨_, _, U3m, A0yu F_name_W6, Y1r⟩ | .fiveUp => ⟨_, _, U9p, A0xm F_name_W7, V8t⟩
 have U : ∀ y : Wy, WayU l.prog w K mg base (cw y) y := fun y => match y with | .down => ⟨_, _, D7a, A0zw F_goes_up_W0, G8w⟩ | .up => ⟨_, _, D6e, A0zj F_goes_up_W1, J1z⟩ | .floor => ⟨_, _, D8q, A0xz F_goes_up_W2, G8e⟩ | .ceiling => ⟨_, _, D8h, A0yc F_goes_up_W3, G3y⟩ | .halfUp => ⟨_, _, D7w, A0zv F_goes_up_W4, G6y⟩ | .halfDown => ⟨_, _, D7v, A0xf F_goes_up_W5, G8g⟩ | .halfEven => ⟨_, _, D8m, A0zt F_goes_up_W6, G4q⟩ | .fiveUp => ⟨_, _, D8r, A0xe F_goes_up_W7, G7p⟩
 have E2 : ∀ y : Wy, WayE l.prog w K mg base (cw y) y := fun y => match y with | .down => ⟨_, _, J0v, A0yz F_to_end_W0, J7q⟩ | .up => ⟨_, _, G5d, A0xq F_to_end_W1, J7w⟩ | .floor => ⟨_, _, G7u, A0xj F_to_end_W2, J8q⟩ | .ceiling => ⟨_, _, J1w, A0yv F_to_end_W3, J5q⟩ | .halfUp => ⟨_, _, G7v, A0ya F_to_end_W4, J7p⟩ | .halfDown => ⟨_, _, G9k, A0yw F_to_end_W5, J6k⟩ | .halfEven => ⟨_, _, G6e, A0xc F_to_end_W6, J6b⟩ | .fiveUp => ⟨_, _, G7t, A0xt F_to_end_W7, J6c⟩
 have Gb := U0v (P := l.prog) (w := w) (base := base) D_bounded V4q O T B1
 have Gw := Y4y (P := l.prog) (w := w) (base := base) G3w O T B1 W
 have MC : A0qz l.prog w K mg base CC C1 G0y _ := ⟨M_CC, U1n A1bn D_bounded G3w Gb Gw C W WN⟩
 have MR : J5n l.prog w K mg base CQ G1a (fnOf "__init__" "Ratio.__init__" (B9 A7v) (B7 A7v) (A2 A7v) (.ref A0es) A0bc A0cr Y9j A0bb U9u Z2a) (.int 0 A0rc) (fun us ws => match ws with | [a] => us ++ [a] | _ => []) (fun us ws => match ws with | [a] => us ++ [a] | _ => []) :=
   { m := M_CQ
     g := Y8e A1bv R
     b3 := C8b rfl J6h rfl fun us hl => by obtain ⟨a, b, c, d, rfl⟩ := len4 (J9v hl); exact ⟨_, rfl, rfl⟩
     b2 := C8b rfl J6h rfl fun us hl => by obtain ⟨a, b, c, rfl⟩ := len3 (J9v hl); exact ⟨_, rfl, rfl⟩
     r0 := ⟨_, rfl⟩
     kP := ⟨(fun s us ws XK hl => by
         rcases ws with _ | ⟨p, _ | ⟨q, t⟩⟩
         . cases hl
         . obtain ⟨a, b, c, rfl⟩ := len3 (J9v hl)
           exact binds_K XK rfl J6h rfl rfl rfl
         . cases hl), fun r z => match z with
       | .cons a .nil => r.append (.cons a .nil)
       | .nil => .nil
       | .cons _ (.cons _ _) => .nil⟩
     eP := fun _ _ _ _ => rfl }
 have M : C0n l.prog w K mg base CN G0s _ := ⟨M_CN, A0hb FI_CN N, A1bz⟩
 have Gn := Y6j (P := l.prog) (w := w) (base := base) V5g O T B1 SG
 have Go := Y5m (P := l.prog) (w := w) (base := base) V4u SG
 have GX := V6y (P := l.prog) (w := w) (mg := mg) (base := base) F_iT XI4 nsg4
 have MF : Has l.prog w K mg base CC "flags" 1 ["self"] (B7k CC) := ⟨_, _, J8t, J3z F_flags_CC C O, U8u⟩
 have ML : Has l.prog w K mg base CC "lowest" 1 ["self"] (C9y CC) := ⟨_, _, J3b, V6f F_lowest_CC C, J8v⟩
 have MW : Has l.prog w K mg base CC "way" 2 ["self"] (C9r CC cw) := ⟨_, _, Y1w, V6q F_way_CC G3w Gw C, A0dt⟩
 have ME : Has l.prog w K mg base CC "clear" 1 ["self"] (B7x CC) := ⟨_, _, J7c, J4w F_clear_CC C, U5b⟩
 have MD : Has l.prog w K mg base CC "raised" 3 ["self", "names"] (C9j K CC C1 C4) := ⟨_, _, G6s, V6m F_raised_CC V5g Gn V4u Go C (mg_of X G a_C4) XI4 GX b_iT, J5z⟩
 have CM : B8d l.prog w K mg base CC C1 C4 CW cw := ⟨C, MW, ML, MD, W, U, E2⟩
 have Gneedn := J4n (P := l.prog) (w := w) (base := base) B6g O T B2 N
 have Gtold := A0gp (P := l.prog) (w := w) (base := base) D_told B6g O T B2 N
 have Gplain := Y7y (P := l.prog) (w := w) (base := base) D_plain G0k V4q O T B2 N M
 have Gend := A0tu (P := l.prog) (w := w) (base := base) D_end G0k V4q O T B2 N M
 have Gnothing := U0b (P := l.prog) (w := w) (base := base) D_nothing N M
 have Glead := A0gc (P := l.prog) (w := w) (base := base) Z7s O N
 have Gto := Y7m (P := l.prog) (w := w) (base := base) A2m A5t (B9w A5t)
 have Gpart := V6g (P := l.prog) (w := w) (base := base) D1r
 have Gwl := Y6k (P := l.prog) (w := w) (base := base) C7u A2m Gto
 have Gat := A0sv (P := l.prog) (w := w) (base := base) F_at_CQ A2m Gto D1r Gpart R O
 have RM : RatM l.prog w K mg base CQ A2d B6k _ _ := ⟨J7g, V7q F_first_CQ C7u Gwl J8n Gat V4p R, U8x, J8n, Gat, V4p⟩
 have Gnea := U1b (P := l.prog) (w := w) (base := base) C2p N M
 have Gnei := G2p (P := l.prog) (w := w) (base := base) D_neighbour CM
 have Gwit := V6e (P := l.prog) (w := w) (base := base) D3q A2m Gto CM N M
 have Gbey := V7s (P := l.prog) (w := w) (base := base) D3r Z7s Glead CM N
 have Gnin := Y8f (P := l.prog) (w := w) (base := base) D_nines A2m Gto CM N M
 have Gbur := Y6c (P := l.prog) (w := w) (base := base) D_burst D_nines Gnin D_end Gend CM
 have Gsr := U1p (P := l.prog) (w := w) (base := base) C2m
 have Gsl := U0w (P := l.prog) (w := w) (base := base) C4b CM
 have Gnou := V7v (P := l.prog) (w := w) (base := base) D_nought CM N M O
 have RQ : V8b K mg RO CE := ⟨mg_of X G a_RO, mg_of X G a_CE, A1am, D1s, B9v, A0cf, sn, tk, Z1n, Z2t⟩
 have MQ : A0ra l.prog w K mg base RO G0d (fnOf "__init__" "Root.__init__" (B9 A8g) (B7 A8g) (A2 A8g) (.ref Z1g) Z1d A0ey Z9g Z9h U9n Y9d) (.int 0 A0rd) (fun us ws => match ws with | [a] => us ++ [a] | _ => []) (fun us ws => match ws with | [a] => us ++ [a] | _ => []) :=
   { m := M_RO
     g := Y7d A1bt RQ
     b3 := C8b rfl J5x rfl fun us hl => by obtain ⟨a, b, c, rfl⟩ := len3 (J9v hl); exact ⟨_, rfl, rfl⟩
     b2 := C8b rfl J5x rfl fun us hl => by obtain ⟨a, b, rfl⟩ := len2 (J9v hl); exact ⟨_, rfl, rfl⟩
     r0 := ⟨_, rfl⟩
     kP := ⟨(fun s us ws XK hl => by
         rcases ws with _ | ⟨p, _ | ⟨q, t⟩⟩
         . cases hl
         . obtain ⟨a, b, rfl⟩ := len2 (J9v hl)
           exact binds_K XK rfl J5x rfl rfl rfl
         . cases hl), fun r z => match z with
       | .cons a .nil => r.append (.cons a .nil)
       | .nil => .nil
       | .cons _ (.cons _ _) => .nil⟩
     eP := fun _ _ _ => rfl }
 have QM : RooM l.prog w K mg base RO A2f B6f _ _ := ⟨J7u, V6n F_first_RO C7u Gwl RQ, U2h, Z8x, A0sa F_at_RO A2m Gto D1r Gpart V5h (Y5a V5h A2m Gto C7u Gwl) RQ O, A0nd⟩
 have XR := ratM RM R
 have XQ := rooM QM RQ
 have GsR := C6p (CE := CE) (P := l.prog) (w := w) (base := base) D_settled C0t (C9t (CE := CE) C0t CM XR O) C2p Gnea D_neighbour Gnei D3q Gwit D3r Gbey D_burst Gbur C2m Gsr C4b Gsl CM XR N
 have GsQ := C6p (CE := CE) (P := l.prog) (w := w) (base := base) D_settled C0t (C9t (CE := CE) C0t CM XQ O) C2p Gnea D_neighbour Gnei D3q Gwit D3r Gbey D_burst Gbur C2m Gsr C4b Gsl CM XQ N
 have Gset : A8 l.prog w K mg base (CX1 l.prog w) 6 A7h _ ["context", "sign", "exact", "ideal"] (A4d CN CC C4 CQ) := A8.weak (fun _ _ _ _ h => J5d h) GsR
 have Gset2 : A8 l.prog w K mg base (CX1 l.prog w) 6 A7h _ ["context", "sign", "exact", "ideal"] (C7y CN CC C4 CQ RO) := A8.both GsR GsQ
 have Gneedns := V6a (P := l.prog) (w := w) (base := base) A8j B6g Gneedn
 have Gsomek := Y7t (P := l.prog) (w := w) (base := base) C7t O N
 have Gun := V6r (P := l.prog) (w := w) (base := base) C1f N
 have Gvo := A0hz (P := l.prog) (w := w) (base := base) D_void D_nothing Gnothing CM
 have Gsp := Y6g (P := l.prog) (w := w) (base := base) G6k D_end Gend CM
 have Godd := A0gd (P := l.prog) (w := w) (base := base) U9w C1f Gun D_void Gvo D_end Gend D_nought Gnou G6k Gsp N
 have Gov := A0ht (P := l.prog) (w := w) (base := base) D_over A8j Gneedns C7t Gsomek J1d (V4m J1d N) U9w Godd C1f Gun D_nought Gnou D_settled Gset D_nothing Gnothing CM N MR R
 have Gwa := U0c (P := l.prog) (w := w) (base := base) C4w A2m Gto N
 have Gwp := G1m (P := l.prog) (w := w) (base := base) B3n C4w Gwa N O
 have Gwo := G1t (P := l.prog) (w := w) (base := base) C6v A8j Gneedns C7t Gsomek J1d (V4m J1d N) U9w Godd C1f Gun D_nought Gnou D_settled Gset D_nothing Gnothing D_void Gvo B3n Gwp A2m Gto CM N MR R O
 have Gro := V6x (CB := C1) (CW := CW) (cw := cw) (P := l.prog) (w := w) (base := base) D_rounded B6g Gneedn D_nought Gnou D_settled Gset MR R N
 have Gre := V7j (P := l.prog) (w := w) (base := base) J8b A8j Gneedns C7t Gsomek D_nothing Gnothing D_void Gvo D_rounded Gro B3n Gwp A2m Gto C4w Gwa CM N M O
 have Groot := A0gb (P := l.prog) (w := w) (base := base) D_root B6g Gneedn D_nothing Gnothing D_nought Gnou D_void Gvo D_settled Gset2 N MQ RQ
 have Gpow := A0tj (P := l.prog) (w := w) (base := base) (CQ := RO) V5d B6g Gneedn V5j (Y6t V5j V4q O T B3) D_nothing Gnothing Z1v Z0n (A0jt Z0n D_void Gvo D_nought Gnou G6k Gsp) A5t (B9w A5t) D_settled Gset N MR R O
 have Gcell := A0gz (P := l.prog) (w := w) (base := base) Z2k O
 have Gmix := Y5z (P := l.prog) (w := w) (base := base) C7v
 have Glten := A0gn (P := l.prog) (w := w) (base := base) B8y O
 have Glfig := A0hs (P := l.prog) (w := w) (base := base) Z9w C7v Gmix B8y Glten O
 have Glfr := V7r (P := l.prog) (w := w) (base := base) J6r
 have Glpl := V7n (P := l.prog) (w := w) (base := base) J9p C7v Gmix Z9w Glfig
 have Glcx := A0hq (P := l.prog) (w := w) (base := base) A0dj MC b4 C
 have Glco := V5v (P := l.prog) (w := w) (base := base) B5f
 have Glis := V5u (P := l.prog) (w := w) (base := base) J8a
 have Glat := A0st (P := l.prog) (w := w) (base := base) Z2u B8y Glten J8a Glis O
 have Glle := Y7j (P := l.prog) (w := w) (base := base) V4w B5f Glco Z2u Glat
 have Glgo := Y7g (P := l.prog) (w := w) (base := base) V5f
 have Glbu := V6u (P := l.prog) (w := w) (base := base) J7f B8y Glten
 have Glno := U1j (P := l.prog) (w := w) (base := base) A4f O
 have Glse := J5j (P := l.prog) (w := w) (base := base) A2b V4w Glle Z2u Glat V5f Glgo B8y Glten B5f Glco J7f Glbu O
 have Glvo := Y4g (P := l.prog) (w := w) (base := base) B6b
 have Glsp := V6s (P := l.prog) (w := w) (base := base) D3m
 have Glov := Y6u (P := l.prog) (w := w) (base := base) J2p B6b Glvo D3m Glsp A4f Glno A2b Glse O
 have Glpa := U1k (P := l.prog) (w := w) (base := base) C2k B8y Glten O
 have Glwo := D5a (P := l.prog) (w := w) (base := base) C1g J2p Glov C2k Glpa A4f Glno B5f Glco B6b Glvo A2b Glse O
 have Glre := Y6p (P := l.prog) (w := w) (base := base) V4x C2k Glpa A4f Glno B5f Glco B6b Glvo A2b Glse O
 have Glro := Y5j (P := l.prog) (w := w) (base := base) V5n A4f Glno B6b Glvo A2b Glse
 have Glra := U0m (P := l.prog) (w := w) (base := base) G0e O
 have Glpo := V7b (P := l.prog) (w := w) (base := base) J5r G0e Glra D3m Glsp A4f Glno B6b Glvo A2b Glse O
 have Gldu := A0hk (P := l.prog) (w := w) (base := base) Z4u J2p Glov C1g Glwo V4x Glre V5n Glro J5r Glpo
 have Glto := Y4n (P := l.prog) (w := w) (base := base) V4n D_over Gov C6v Gwo J8b Gre D_root Groot V5d Gpow
 have Glbe := Y7w (P := l.prog) (w := w) (base := base) V4z B8y Glten O
 exact A0ss A1aq Z2k Gcell C7v Gmix J6r Glfr J9p Glpl A0dj Glcx Z4u Gldu V4n Glto V4z Glbe D_plain Gplain D_told Gtold C MF ME O
theorem walk {l : OpenLaw} {q : Program} {loose : List Str} {XP : (Str -> Option Value) -> Heap -> Prop} {YP : World -> Heap -> Prop} {d : DefRec} {K : Params -> Frag} (hn : l.most = some 63) (hdf : d.params.defaults = [])
   (hY : ∀ (w : World) (h : Heap), YP w h -> (K w.params).In h)
   (F : ∀ (w : World) (mg : Str -> Option Value) (fa : Addr) (h : Heap), (K w.params).In h -> h.Ns mainGlobals mg -> mg d.name = some (.ref fa) ->
     ∃ fd : FuncData, (∀ (s : Shared) (u : Value), BindsTo s fd ⟨[u], []⟩ [("_law_script", u)]) /\ ∀ base : Heap, (K w.params).In base -> base.Ns mainGlobals mg -> A8 l.prog w (K w.params) mg base (CX1 l.prog w) 10 fa fd ["_law_script"] ((V4d (K w.params)))) :
   WalkO q loose XP YP l.row.toRowW d [] (fun f vs => PySem.call f vs) :=
 L2.walk_of (n := 63) (k := 10) (x := "_law_script") (CX := fun w => CX1 l.prog w) (sp := fun w => (V4d (K w.params))) hn (by decide) hdf ⟨rfl, by decide, by decide⟩ hY F (fun _ _ a ns hl _ hS => ⟨a, ns, rfl, hl, hS, fun _ => rfl⟩) fun _ _ _ _ _ z => by
   obtain ⟨_, _, _, _, _, _, _, _, _, _, z, _⟩ := z
   exact z
end TR
def PySem.W.Fast.tw10021914885251457387 : Unit := ()
def PySem.W.Fast.tw13167525228220883279 : Unit := ()
def PySem.W.Fast.tw7957526589524445640 : Unit := ()
def PySem.W.Fast.tw16899797965509428557 : Unit := ()
def PySem.W.Fast.tw16778111984732555530 : Unit := ()
def PySem.W.Fast.tw17214575760153363291 : Unit := ()
def PySem.W.Fast.tw4698590118471776002 : Unit := ()
def PySem.W.Fast.tw2071124523571712790 : Unit := ()
def PySem.W.Fast.tw2995155907938136782 : Unit := ()
def PySem.W.Fast.tw14227874991415049562 : Unit := ()
def PySem.W.Fast.tw6432662419667498241 : Unit := ()
def PySem.W.Fast.tw3110117763278789003 : Unit := ()
def PySem.W.Fast.tw9023311225210790191 : Unit := ()
def PySem.W.Fast.tw3097047119451026815 : Unit := ()
def PySem.W.Fast.tw14009340311999677487 : Unit := ()
def PySem.W.Fast.tw6802838752777476740 : Unit := ()
def PySem.W.Fast.tw12920801144659953447 : Unit := ()
def PySem.W.Fast.tw10976768084204022071 : Unit := ()
def PySem.W.Fast.tw8426160305064719894 : Unit := ()
def PySem.W.Fast.tw3098280180251664546 : Unit := ()
def PySem.W.Fast.tw11359439986753691684 : Unit := ()
def PySem.W.Fast.tw1245866322200230729 : Unit := ()
def PySem.W.Fast.tw2268549089972437047 : Unit := ()
def PySem.W.Fast.tw2155072848786102272 : Unit := ()
def PySem.W.Fast.tw16254534362258569842 : Unit := ()
def PySem.W.Fast.tw8067699509445850580 : Unit := ()
def PySem.W.Fast.tw2252287665217280537 : Unit := ()
def PySem.W.Fast.tw4123523708688704225 : Unit := ()
def PySem.W.Fast.tw8164582536070223491 : Unit := ()
def PySem.W.Fast.tw11326507065115561534 : Unit := ()
def PySem.W.Fast.tw9078838746606786797 : Unit := ()
def PySem.W.Fast.tw9655908926416017826 : Unit := ()
def PySem.W.Fast.tw13455314893235802028 : Unit := ()
def PySem.W.Fast.tw5746880007628503000 : Unit := ()
def PySem.W.Fast.tw9795682335548547638 : Unit := ()
def PySem.W.Fast.tw13428050408487675178 : Unit := ()
def PySem.W.Fast.tw17408944911076126203 : Unit := ()
def PySem.W.Fast.tw3888698490081673550 : Unit := ()
def PySem.W.Fast.tw10940197078495290417 : Unit := ()
def PySem.W.Fast.tw18112823758851131956 : Unit := ()
def PySem.W.Fast.tw15566234402342845946 : Unit := ()
def PySem.W.Fast.tw4319413499531555617 : Unit := ()
def PySem.W.Fast.tw12306913509362195910 : Unit := ()
def PySem.W.Fast.tw13861643587805972619 : Unit := ()
def PySem.W.Fast.tw1951231279901958672 : Unit := ()
def PySem.W.Fast.tw7708883402060656183 : Unit := ()
def PySem.W.Fast.tw162763331161450964 : Unit := ()
def PySem.W.Fast.tw649404645792333797 : Unit := ()
def PySem.W.Fast.tw14732365497182190345 : Unit := ()
def PySem.W.Fast.tw9695518993998775433 : Unit := ()
def PySem.W.Fast.tw1794534054156258950 : Unit := ()
def PySem.W.Fast.tw8067843698330042850 : Unit := ()
def PySem.W.Fast.tw15266755909618724415 : Unit := ()
def PySem.W.Fast.tw4198174191741924418 : Unit := ()
def PySem.W.Fast.tw8524654240684300598 : Unit := ()
def PySem.W.Fast.tw8999966734038260863 : Unit := ()
def PySem.W.Fast.tw9187433503979607061 : Unit := ()
def PySem.W.Fast.tw1981354318865822634 : Unit := ()
def PySem.W.Fast.tw2627158979529022539 : Unit := ()
def PySem.W.Fast.tw16892082972358323579 : Unit := ()
def PySem.W.Fast.tw9031050492975691531 : Unit := ()
def PySem.W.Fast.tw294503444073284627 : Unit := ()
def PySem.W.Fast.tw3436010070938452554 : Unit := ()
def PySem.W.Fast.tw4463585301034473230 : Unit := ()
def PySem.W.Fast.tw4119260832171742664 : Unit := ()
def PySem.W.Fast.tw12234463062886553630 : Unit := ()
def PySem.W.Fast.tw14261391653798737344 : Unit := ()
def PySem.W.Fast.tw5480260057328205999 : Unit := ()
def PySem.W.Fast.tw8959473612786048393 : Unit := ()
def PySem.W.Fast.tw1998825075942625155 : Unit := ()
def PySem.W.Fast.tw13061123989488487103 : Unit := ()
def PySem.W.Fast.tw13555221477683437806 : Unit := ()
def PySem.W.Fast.tw10186696720431138429 : Unit := ()
def PySem.W.Fast.tw4288849698907159161 : Unit := ()
def PySem.W.Fast.tw12706985357875740374 : Unit := ()
def PySem.W.Fast.tw11933451497916807248 : Unit := ()
def PySem.W.Fast.tw16198946117238328494 : Unit := ()
def PySem.W.Fast.tw7930690530653009776 : Unit := ()
def PySem.W.Fast.tw8375152779326602706 : Unit := ()
def PySem.W.Fast.tw18244221803604705373 : Unit := ()
def PySem.W.Fast.tw7865885951231755176 : Unit := ()
def PySem.W.Fast.tw4297094644117072624 : Unit := ()
def PySem.W.Fast.tw7773334927326889811 : Unit := ()
def PySem.W.Fast.tw1303673982619607494 : Unit := ()
def PySem.W.Fast.tw1871360803733075183 : Unit := ()
def PySem.W.Fast.tw13659445516652462374 : Unit := ()
def PySem.W.Fast.tw9512565774000046913 : Unit := ()
def PySem.W.Fast.tw2488886389099999293 : Unit := ()
def PySem.W.Fast.tw5986154099641787421 : Unit := ()
def PySem.W.Fast.tw5386135003131775128 : Unit := ()
def PySem.W.Fast.tw11838502185327693542 : Unit := ()
def PySem.W.Fast.tw14000976385533384399 : Unit := ()
def PySem.W.Fast.tw9336045107475063901 : Unit := ()
def PySem.W.Fast.tw8034715747080390349 : Unit := ()
def PySem.W.Fast.tw9924751228663374072 : Unit := ()
def PySem.W.Fast.tw8493813687255060514 : Unit := ()
def PySem.W.Fast.tw8809501950443262537 : Unit := ()
def PySem.W.Fast.tw12777465314617520482 : Unit := ()
def PySem.W.Fast.tw360198530122826390 : Unit := ()
def PySem.W.Fast.tw15104624533315712830 : Unit := ()
def PySem.W.Fast.tw12374920735706131545 : Unit := ()
def PySem.W.Fast.tw9000590600718416358 : Unit := ()
def PySem.W.Fast.tw7098934098561617557 : Unit := ()
def PySem.W.Fast.tw6907064409814434960 : Unit := ()
def PySem.W.Fast.tw15103598466234586123 : Unit := ()
def PySem.W.Fast.tw938354515550757432 : Unit := ()
def PySem.W.Fast.tw14637387269361817505 : Unit := ()
def PySem.W.Fast.tw14479988032493944560 : Unit := ()
def PySem.W.Fast.tw10772314626390348423 : Unit := ()
def PySem.W.Fast.tw14566504566568740996 : Unit := ()
def PySem.W.Fast.tw13467202004491936642 : Unit := ()
def PySem.W.Fast.tw7845097505002184804 : Unit := ()
def PySem.W.Fast.tw9654296626130063029 : Unit := ()
def PySem.W.Fast.tw447115044791203014 : Unit := ()
def PySem.W.Fast.tw15949102609630137826 : Unit := ()
def PySem.W.Fast.tw14738360988475348867 : Unit := ()
def PySem.W.Fast.tw12238038161686835570 : Unit := ()
def PySem.W.Fast.tw9330189795236086748 : Unit := ()
def PySem.W.Fast.tw3735038135550040375 : Unit := ()
def PySem.W.Fast.tw13923134144431536599 : Unit := ()
def PySem.W.Fast.tw18108366798596886377 : Unit := ()
def PySem.W.Fast.tw1014662896912165705 : Unit := ()
open PySem PySem.W PyProof.Rows
set_option maxRecDepth 100000 in
set_option maxHeartbeats 0 in
theorem PySem.Challenge.cw_tenreckon_k35_whole_quotients_exactly_holds : PySem.Challenge.rw_tenreckon_k35_whole_quotients_exactly.Holds := by
 w_on; o_law; k_head; (case hw => w_witness2)
 k_fill
 refine TR.walk (l := PySem.Challenge.rw_tenreckon_k35_whole_quotients_exactly) rfl rfl (fun w h Y => PySem.W.kIn_of Y) ?F
 case F =>
   intro w mg fa h KX G hmg
   refine' TR.all_mk KX G hmg ?B2t ?B4g ?B2z ?B5h ?J2j ?G7k ?J3v ?J1j ?D4h ?D4u ?D4v ?D1c ?J1q ?G8z ?G2s ?J0w ?J2s ?G3d ?J0f ?G2u ?J3h ?G7n ?G8x ?J0u ?Z6d ?A0bw ?Z5u ?Z8v ?C3f ?C2d ?C4z ?C4a ?U5g ?U8v ?U7y ?U1v ?V1n ?U8e ?U3g ?U5x ?G3c ?G9j ?J1r ?G7d ?B8s ?B9a ?B9s ?B8f ?G3v ?G5y ?G6u ?J0e ?D4e ?D2r ?D1a ?D3s ?C6b ?C3x ?C4u ?C2n ?Z9s ?A0dc ?A0fk ?Z4n ?C2g ?C5f ?C2y ?C5w ?G7w ?G4p ?J2r ?G4n ?C5c ?C5p ?C3e ?C5n ?D0v ?D2q ?D2x ?D0q ?C2w ?C4g ?C2s ?C4x ?B2a ?B4n ?B4x ?B3y ?D0p ?D4a ?D4s ?D2j ?D0r ?D3x ?D2v ?D3k ?G4k ?G3x ?G3g ?J0h ?G6c ?G5n ?G2v ?G5p ?C2z ?C5h ?C2x ?C3v ?C4p ?C3y ?C3a ?C1z ?D3p ?D2n ?D1d ?D1q ?U1x ?U5h ?V0y ?U7r ?G6b ?G9e ?G9c ?G9u ?C3w ?C3h ?C3z ?C4j ?U7b ?U9f ?U8t ?U9b ?B4j ?B4v ?B3q ?B4h ?D4g ?D2y ?D1g ?D0t ?V1h ?U2c ?U6z ?V0q ?U7x ?V0s ?U9v ?U2g ?B5e ?B4m ?B3a ?B5d ?G8k ?G5u ?J0k ?G4t ?C6a ?C2c ?C5k ?C5b ?J1u ?J3w ?J1v ?G8a ?G9z ?G5w ?G4y ?J0r ?V1t ?U2k ?U3y ?V2j ?G7h ?J0z ?G6r ?J3g ?D0u ?D3u ?D4b ?D2m ?V0z ?U2q ?U3c ?U5d ?U1z ?U8j ?U7t ?V1j ?G5g ?G4h ?J2m ?G5v ?U6r ?U6g ?U2x ?U2a ?U7k ?U3q ?U6h ?U2s ?D2k ?D1f ?D1p ?D1h ?U7m ?V1z ?V1e ?U5a ?D1n ?D3e ?D3t ?D4z ?D1v ?D3f ?D0n ?D4f ?D3b ?D0z ?D1y ?D0m ?Z3g ?Z3f ?Y9t ?Z7b ?J2b ?J1s ?G9b ?J1g ?J0m ?G5b ?G3t ?G2w ?D0j ?D2p ?D3z ?D1j ?B9h ?B8t ?B8n ?B8j ?C4m ?C3n ?C4c ?C2q ?G5j ?G9p ?G4d ?J3x ?D3y ?D3j ?D1z ?D4c ?J3d ?J3f ?J0j ?G9g ?C3q ?C5q ?C4r ?C5u ?A8w ?A9n ?B0x ?A9z ?G3s ?G8t ?G2t ?G4e ?G4c ?J3n ?G6m ?J3y ?C6e ?C5s ?C3j ?C2j ?D1u ?D4n ?D2t ?D1k ?U7z ?V0b ?V1v ?U7j ?G7a ?G3b ?G4u ?J2w ?J1a ?G3u ?J3j ?G7g ?V5k ?Z7h ?A0cx ?A0aq ?A9s ?Z9r ?U5y ?Z2p ?U8n ?G6x ?U7d ?Z4x ?G3e ?Z9b ?Z9x ?Z3a ?Y9n ?A0an ?A0db ?V1y ?B3k ?B9c ?Y9c ?D4m ?D1x ?A0cc ?A9u ?B9u ?B4s ?B9d ?B5b ?A9h ?B4u ?B3j ?A9k ?B2j ?A9e ?A6j ?A8p ?B9g ?B2s ?B9j ?B3r ?B0v ?B2e ?B2k ?A9f ?B3d ?A9v ?A6k ?B0j ?A8q ?A6p ?B0p ?A6n ?A5e ?A6h ?B3u ?B0n ?B3g ?A8m ?A6m ?B0m ?A3j ?A2e ?A3h ?A2c ?A1f ?A2g ?sn ?tk ?a_CW ?a_W0 ?Z8m ?Y8x ?Z2z ?Z2q ?A0ea ?Y9z ?A0ch ?Z7v ?Z6a ?Y9q ?C4k ?C2h ?C4v ?C2u ?B6e ?a_W1 ?Z9v ?A0dm ?Z7d ?A0dy ?Z5s ?A0et ?Z6t ?Z6j ?Y9s ?Z2j ?C5d ?C6f ?C5x ?C3s ?B6j ?a_W2 ?Z9d ?A0ck ?Z1h ?Z7w ?A0eq ?Z7t ?Z3d ?Z4r ?Z5j ?A0ac ?C4q ?C6d ?C4t ?C3k ?B6c ?a_W3 ?Z0e ?Z4h ?A0ay ?A0cw ?Y8p ?A0bp ?Z4t ?Z9m ?Z8p ?Z3p ?C4e ?C6c ?C2r ?C5a ?B5z ?a_W4 ?Z0u ?Y9r ?Z0t ?Z2f ?Z8k ?Z9t ?Z3w ?A0fs ?A0dv ?A0eb ?C3b ?C4f ?C3g ?C5v ?B6d ?a_W5 ?Z5e ?A0cm ?A0ag ?Z4s ?Z7q ?A0ec ?Z0b ?A0fu ?A0fj ?Z8u ?C2v ?C5t ?C3d ?C2e ?B6a ?a_W6 ?Y8v ?Z3h ?Z1m ?A0cd ?Z2n ?Z5y ?A0dp ?A0dq ?A0az ?Z0h ?C6g ?C6h ?C3u ?C2b ?B6h ?a_W7 ?A0ej ?Z6v ?Z7m ?Z6f ?Z4c ?Z6c ?Y8u ?Z9a ?Z4m ?A0fm ?C5z ?C3m ?C4n ?C4s ?B5y ?a_CN ?Z1j ?Z4j ?A0dr ?Z8e ?Z9u ?Z1s ?A0fh ?A0cu ?C3p ?C3t ?A9c ?B9f ?Y9f ?A0dg ?Z1k ?Z6u ?Z3r ?G9y ?A8y ?A8s ?B0w ?A9d ?A3x ?B4d ?B4k ?B2g ?B2p ?A5r ?A8n ?A9p ?A8z ?A9x ?A3z ?B3z ?B2h ?B4r ?B4e ?A5u ?B0s ?A9j ?B0c ?B0q ?A3t ?B2r ?B2f ?B4w ?B3s ?A5x ?B0k ?B0r ?B0f ?A8t ?A3s ?B4f ?B3e ?B4b ?B4y ?A5q ?A9a ?B0a ?A9q ?A9g ?A3w ?B2d ?B3h ?B2m ?B3x ?A5w ?A9t ?A9y ?B0e ?B0h ?A3u ?B2x ?B2y ?B3p ?B3t ?A6a ?A9m ?A9r ?B0d ?B0b ?A3y ?B2n ?B4a ?B2u ?B3w ?A5v ?A8v ?A8u ?A8k ?B0u ?A3v ?B3f ?B5g ?B2b ?B4c ?A5s ?a_CC ?A0bn ?Z9y ?A0bz ?A0aj ?Y9e ?Y9m ?C2t ?C5j ?B9p ?C3r ?B8m ?B0g ?Z2c ?Z9z ?A0er ?Z6n ?A0at ?Z7n ?B9b ?B8r ?B9n ?B8k ?A8r ?B2w ?B4t ?B5c ?B3v ?A5y ?D3a ?D4x ?D4w ?D2a ?C0z ?B4p ?B4z ?B3b ?B2v ?A5z ?B9q ?B9r ?B8u ?B9t ?B0t ?a_CQ ?Z1t ?Z5w ?A0dh ?A0du ?Z6p ?A0fr ?A0cv ?Z2e ?D3d ?B5a ?B8z ?A0by ?Z1w ?Z9k ?Z9n ?A0av ?J6h ?B8p ?B9e ?B9m ?B9k ?A9w ?G3n ?J3c ?G3r ?G3m ?C7x ?a_CE ?A0ak ?a_C1 ?a_C2 ?a_C3 ?a_C4 ?a_CR ?cty ?ccl ?cex ?sub4 ?xga4 ?xgh4 ?xca4 ?xob4 ?xbe4 ?xcl4 ?h4_1 ?h4_2 ?h4_3 ?h4_4 ?hv4 ?lT ?lN ?alN ?niT ?lT1 ?saT ?nsg4 ?l_iT ?c_iT ?k_iT ?fcT ?kTR ?q1 ?q2 ?q3 ?a_S ?lS ?a_RO ?A0ds ?Z9p ?Z2d ?A0ff ?Y9x ?Z0r ?A0cf ?Z1n ?D1s ?B9v ?A0dn ?Z3v ?Z7u ?Z9q ?Z4g ?J5x ?B8h ?B8q ?B8v ?B8x ?A9b ?J2q ?G8j ?G5c ?J0p ?C7w ?Z2t
   case B2t|B4g|B2z|B5h|J2j|G7k|J3v|J1j|D4h|D4u|D4v|D1c|J1q|G8z|G2s|J0w|J2s|G3d|J0f|G2u|J3h|G7n|G8x|J0u|Z6d|A0bw|Z5u|Z8v|C3f|C2d|C4z|C4a|U5g|U8v|U7y|U1v|V1n|U8e|U3g|U5x|G3c|G9j|J1r|G7d|B8s|B9a|B9s|B8f|G3v|G5y|G6u|J0e|D4e|D2r|D1a|D3s|C6b|C3x|C4u|C2n => k_is
   case Z9s|A0dc|A0fk|Z4n|C2g|C5f|C2y|C5w|G7w|G4p|J2r|G4n|C5c|C5p|C3e|C5n|D0v|D2q|D2x|D0q|C2w|C4g|C2s|C4x|B2a|B4n|B4x|B3y|D0p|D4a|D4s|D2j|D0r|D3x|D2v|D3k|G4k|G3x|G3g|J0h|G6c|G5n|G2v|G5p|C2z|C5h|C2x|C3v|C4p|C3y|C3a|C1z|D3p|D2n|D1d|D1q|U1x|U5h|V0y|U7r => k_is
   case G6b|G9e|G9c|G9u|C3w|C3h|C3z|C4j|U7b|U9f|U8t|U9b|B4j|B4v|B3q|B4h|D4g|D2y|D1g|D0t|V1h|U2c|U6z|V0q|U7x|V0s|U9v|U2g|B5e|B4m|B3a|B5d|G8k|G5u|J0k|G4t|C6a|C2c|C5k|C5b|J1u|J3w|J1v|G8a|G9z|G5w|G4y|J0r|V1t|U2k|U3y|V2j|G7h|J0z|G6r|J3g|D0u|D3u|D4b|D2m => k_is
   case V0z|U2q|U3c|U5d|U1z|U8j|U7t|V1j|G5g|G4h|J2m|G5v|U6r|U6g|U2x|U2a|U7k|U3q|U6h|U2s|D2k|D1f|D1p|D1h|U7m|V1z|V1e|U5a|D1n|D3e|D3t|D4z|D1v|D3f|D0n|D4f|D3b|D0z|D1y|D0m|Z3g|Z3f|Y9t|Z7b|J2b|J1s|G9b|J1g|J0m|G5b|G3t|G2w|D0j|D2p|D3z|D1j|B9h|B8t|B8n|B8j => k_is
   case C4m|C3n|C4c|C2q|G5j|G9p|G4d|J3x|D3y|D3j|D1z|D4c|J3d|J3f|J0j|G9g|C3q|C5q|C4r|C5u|A8w|A9n|B0x|A9z|G3s|G8t|G2t|G4e|G4c|J3n|G6m|J3y|C6e|C5s|C3j|C2j|D1u|D4n|D2t|D1k|U7z|V0b|V1v|U7j|G7a|G3b|G4u|J2w|J1a|G3u|J3j|G7g|V5k|Z7h|A0cx|A0aq|A9s|Z9r|U5y|Z2p => k_is
   case U8n|G6x|U7d|Z4x|G3e|Z9b|Z9x|Z3a|Y9n|A0an|A0db|V1y|B3k|B9c|Y9c|D4m|D1x|A0cc|A9u => k_is
   case B9u|B4s|B9d|B5b|A9h|B4u|B3j|A9k|B2j|A9e|A6j|A8p|B9g|B2s|B9j|B3r|B0v|B2e|B2k|A9f|B3d|A9v|A6k|B0j|A8q|A6p|B0p|A6n|A5e|A6h|B3u|B0n|B3g|A8m|A6m|B0m|A3j|A2e|A3h|A2c|A1f|A2g => kit_is
   case sn|tk|a_CW|a_W0|Z8m|Y8x|Z2z|Z2q|A0ea|Y9z|A0ch|Z7v|Z6a => k_is
   case Y9q => kit_is
   case C4k|C2h|C4v|C2u|B6e|a_W1|Z9v|A0dm|Z7d|A0dy|Z5s|A0et|Z6t|Z6j|Y9s => k_is
   case Z2j => kit_is
   case C5d|C6f|C5x|C3s|B6j|a_W2|Z9d|A0ck|Z1h|Z7w|A0eq|Z7t|Z3d|Z4r|Z5j => k_is
   case A0ac => kit_is
   case C4q|C6d|C4t|C3k|B6c|a_W3|Z0e|Z4h|A0ay|A0cw|Y8p|A0bp|Z4t|Z9m|Z8p => k_is
   case Z3p => kit_is
   case C4e|C6c|C2r|C5a|B5z|a_W4|Z0u|Y9r|Z0t|Z2f|Z8k|Z9t|Z3w|A0fs|A0dv => k_is
   case A0eb => kit_is
   case C3b|C4f|C3g|C5v|B6d|a_W5|Z5e|A0cm|A0ag|Z4s|Z7q|A0ec|Z0b|A0fu|A0fj => k_is
   case Z8u => kit_is
   case C2v|C5t|C3d|C2e|B6a|a_W6|Y8v|Z3h|Z1m|A0cd|Z2n|Z5y|A0dp|A0dq|A0az => k_is
   case Z0h => kit_is
   case C6g|C6h|C3u|C2b|B6h|a_W7|A0ej|Z6v|Z7m|Z6f|Z4c|Z6c|Y8u|Z9a|Z4m => k_is
   case A0fm => kit_is
   case C5z|C3m|C4n|C4s|B5y|a_CN|Z1j|Z4j|A0dr|Z8e|Z9u|Z1s|A0fh|A0cu|C3p|C3t|A9c|B9f|Y9f|A0dg|Z1k|Z6u|Z3r => k_is
   case G9y => kit_is
   case A8y|A8s|B0w|A9d|A3x|B4d|B4k|B2g|B2p|A5r|A8n|A9p|A8z|A9x|A3z|B3z|B2h|B4r|B4e|A5u|B0s|A9j|B0c|B0q|A3t|B2r|B2f|B4w|B3s|A5x|B0k|B0r|B0f|A8t|A3s|B4f|B3e|B4b|B4y|A5q|A9a|B0a|A9q|A9g|A3w|B2d|B3h|B2m|B3x|A5w|A9t|A9y|B0e|B0h|A3u|B2x|B2y|B3p|B3t|A6a => k_is
   case A9m|A9r|B0d|B0b|A3y|B2n|B4a|B2u|B3w|A5v|A8v|A8u|A8k|B0u|A3v|B3f|B5g|B2b|B4c|A5s|a_CC|A0bn|Z9y|A0bz|A0aj|Y9e|Y9m|C2t|C5j|B9p|C3r|B8m|B0g|Z2c|Z9z|A0er|Z6n|A0at|Z7n|B9b|B8r|B9n|B8k|A8r|B2w|B4t|B5c|B3v|A5y|D3a|D4x|D4w|D2a|C0z|B4p|B4z|B3b|B2v|A5z|B9q => k_is
   case B9r|B8u|B9t|B0t|a_CQ|Z1t|Z5w|A0dh|A0du|Z6p|A0fr|A0cv|Z2e|D3d|B5a|B8z|A0by|Z1w|Z9k|Z9n|A0av|J6h|B8p|B9e|B9m|B9k|A9w|G3n|J3c|G3r|G3m|C7x|a_CE => k_is
   case A0ak => kit_is
   case a_C1|a_C2|a_C3|a_C4|a_CR|cty|ccl|cex|sub4|xga4|xgh4|xca4|xob4|xbe4|xcl4 => k_is
   case h4_1|h4_2|h4_3|h4_4|hv4 => kit_is
   case lT|lN => k_is
   case alN => simp
   case niT|lT1|saT|nsg4|l_iT|c_iT|k_iT => k_is
   case fcT => rfl
   case kTR => kit_is
   case q1|q2|q3 => k_exc
   case a_S|lS|a_RO|A0ds|Z9p|Z2d|A0ff|Y9x|Z0r|A0cf|Z1n|D1s|B9v|A0dn|Z3v|Z7u|Z9q|Z4g|J5x|B8h|B8q|B8v|B8x|A9b|J2q|G8j|G5c|J0p|C7w => k_is
   case Z2t => kit_is

