import PyProof.Rows.All
import Wide.All
import OpenK.AllK
import Wide.FinOn
import Lean
import PyProof.EqAt
import PyProof.EqKinds
import PyProof.TupleCall
import PyProof.Rows.Catch
import PyProof.Rows.TupIter
import PyProof.TupleIter
import PyProof.Seq
import PyProof.ExcInit
import PyProof.ExcClass2
import KE.KIntText
import PyProof.StrOps2
import PyProof.ConsumeWalk
import PyProof.Rows.RuleM_int
import PySem.Challenge.RW_tenreckon_k10_roots
set_option Elab.async false
set_option linter.all false
set_option maxRecDepth 100000
/-! THE HAND LAYER, for ints, bools, texts, own classes, LISTS and tuples (index, slices, in, append, pop ..), calls, loops. Paste it whole ahead of your own text; what your proof does not reach may be deleted. -/
namespace L2
open PySem PySem.Spec PyProof.Rows

/-- a key: an int or a str -/
abbrev Key := Sum Int Str
def keyIs : Key → Value → Bool
  | .inl k, v => Value.isInt k v
  | .inr x, v => Value.isStrOf x v
def keyH (w : World) : Key → Int
  | .inl k => hashInt k
  | .inr x => hashStr w x
theorem keyIs_shape : ∀ {k : Key} {v : Value}, keyIs k v = true → (∃ i t, k = Sum.inl i ∧ v = Value.int i t) ∨ (∃ x t, k = Sum.inr x ∧ v = Value.str x t)
  | .inl i, v, h => by
    obtain ⟨t, e⟩ := Value.isInt_shape (k := i) (v := v) h
    exact .inl ⟨i, t, rfl, e⟩
  | .inr x, v, h => by
    obtain ⟨t, e⟩ := Value.isStrOf_shape (x := x) (v := v) h
    exact .inr ⟨x, t, rfl, e⟩
theorem key_ll (a b : Int) : decide ((Sum.inl a : Key) = Sum.inl b) = (a == b) := by
  by_cases e : a = b
  · subst e; simp
  · have h : ¬ (Sum.inl a : Key) = Sum.inl b := fun q => e (Sum.inl.inj q)
    rw [decide_eq_false h]
    exact (beq_eq_false_iff_ne.mpr e).symm
theorem key_rr (a b : Str) : decide ((Sum.inr a : Key) = Sum.inr b) = decide (a = b) := by
  by_cases e : a = b
  · subst e; simp
  · have h : ¬ (Sum.inr a : Key) = Sum.inr b := fun q => e (Sum.inr.inj q)
    rw [decide_eq_false h, decide_eq_false e]
theorem key_lr (a : Int) (b : Str) : decide ((Sum.inl a : Key) = Sum.inr b) = false := decide_eq_false (fun q => nomatch q)
theorem key_rl (a : Str) (b : Int) : decide ((Sum.inr a : Key) = Sum.inl b) = false := decide_eq_false (fun q => nomatch q)

def mixKind (prog : Program) (w : World) : PySem.KeyKind prog w Key where
  is := keyIs
  hash := keyH w
  inj := fun v a b ha hb => by
    rcases keyIs_shape ha with ⟨i, t, rfl, rfl⟩ | ⟨x, t, rfl, rfl⟩
    · rcases keyIs_shape hb with ⟨j, u, rfl, e⟩ | ⟨y, u, rfl, e⟩
      · injection e with e1 _; rw [e1]
      · exact nomatch e
    · rcases keyIs_shape hb with ⟨j, u, rfl, e⟩ | ⟨y, u, rfl, e⟩
      · exact nomatch e
      · injection e with e1 _; rw [e1]
  byValue := fun k v h => by
    rcases keyIs_shape h with ⟨i, t, rfl, rfl⟩ | ⟨x, t, rfl, rfl⟩ <;> rfl
  pyHash := fun hv h => by
    rcases keyIs_shape hv with ⟨i, t, rfl, rfl⟩ | ⟨x, t, rfl, rfl⟩
    · exact wpAny_pyHash_int h
    · exact wpAny_pyHash_str h
  eqBool := fun hu hv h => by
    rcases keyIs_shape hu with ⟨i, t, rfl, rfl⟩ | ⟨x, t, rfl, rfl⟩
    · rcases keyIs_shape hv with ⟨j, u, rfl, rfl⟩ | ⟨y, u, rfl, rfl⟩
      · rw [key_ll] at h; exact wpAny_eqBool_int h
      · rw [key_lr] at h; exact SeqAt.EqAt.int_str i t y u _ _ _ _ h
    · rcases keyIs_shape hv with ⟨j, u, rfl, rfl⟩ | ⟨y, u, rfl, rfl⟩
      · rw [key_rl] at h; exact SeqAt.EqAt.str_int x t j u _ _ _ _ h
      · rw [key_rr] at h; exact wpAny_eqBool_str h
  «strs» := fun k x t v h => by
    rcases keyIs_shape h with ⟨i, u, rfl, e⟩ | ⟨y, u, rfl, e⟩
    · exact nomatch e
    · injection e with e1 _
      subst e1
      cases v <;> rfl

end L2

namespace L2
open PySem PySem.Spec PyProof.Rows

/-- a value, without the heap -/
inductive V where
  | non | bl (b : Bool) | int (i : Int) | str (x : Str) | byt (b : Array UInt8) | flt (b : UInt64) | ref (a : Addr) | ty (n : String)
  deriving DecidableEq

def RelV : V → Value → Prop
  | .non, u => u = Value.none
  | .bl b, u => u = Value.bool b
  | .int i, u => ∃ t, u = Value.int i t
  | .str x, u => ∃ t, u = Value.str x t
  | .byt b, u => ∃ t, u = Value.bytes b t
  | .flt b, u => ∃ t, u = Value.float b t
  | .ref a, u => u = Value.ref a
  | .ty n, u => u = Value.type n

abbrev Vals : List V → List Value → Prop := Paired RelV
theorem Vals.length {xs : List V} {us : List Value} (r : Vals xs us) : xs.length = us.length := Paired.length r
theorem Vals.get : ∀ {xs : List V} {us : List Value} {i : Nat} {x : V}, Vals xs us → xs[i]? = some x → ∃ u, us[i]? = some u ∧ RelV x u
  | _, _, _, _, .nil, e => by simp at e
  | _, _, 0, _, .cons r _, e => by simp at e; subst e; exact ⟨_, rfl, r⟩
  | _, _, i + 1, x, .cons _ t, e => by
    obtain ⟨u, h1, h2⟩ := Vals.get (i := i) (x := x) t (by simpa using e)
    exact ⟨u, by simpa using h1, h2⟩
theorem Vals.set {x : V} {u : Value} (r : RelV x u) : ∀ {xs : List V} {us : List Value} (i : Nat), Vals xs us → Vals (xs.set i x) (us.set i u)
  | _, _, _, .nil => .nil
  | _, _, 0, .cons _ t => .cons r t
  | _, _, i + 1, .cons q t => .cons q (Vals.set r i t)
theorem Vals.append : ∀ {xs ys : List V} {us ws : List Value}, Vals xs us → Vals ys ws → Vals (xs ++ ys) (us ++ ws)
  | _, _, _, _, .nil, s => s
  | _, _, _, _, .cons r t, s => .cons r (Vals.append t s)
theorem Vals.take : ∀ {xs : List V} {us : List Value} (n : Nat), Vals xs us → Vals (xs.take n) (us.take n)
  | _, _, 0, _ => .nil
  | _, _, _ + 1, .nil => .nil
  | _, _, n + 1, .cons r t => .cons r (Vals.take n t)
theorem Vals.none_of : ∀ {xs : List V} {us : List Value} {i : Nat}, Vals xs us → xs[i]? = none → us[i]? = none := fun {xs us i} r e => by
  have h1 := r.length
  have h2 : xs.length ≤ i := List.getElem?_eq_none_iff.mp e
  exact List.getElem?_eq_none_iff.mpr (by omega)

def RelO : Option V → Option Value → Prop
  | some v, some u => RelV v u
  | none, none => True
  | _, _ => False
def KV {κ : Type} : List (κ × V) → List (κ × Value) → Prop := Paired fun (p : κ × V) (q : κ × Value) => p.1 = q.1 ∧ RelV p.2 q.2

/-- a key of a dict (00_mix): an int or a text -/
def kV : Key → V
  | .inl i => .int i
  | .inr x => .str x

/-- what stands at a tracked address -/
inductive HO where
  /-- a list -/
  | lst (xs : List V)
  /-- a tuple (never changes) -/
  | tup (xs : List V)
  /-- a dict whose keys are ints and texts; one whose keys are tuples of ints and texts (the empty one is both) -/
  | dK (kvs : List (Key × V)) | dT (kvs : List (List Key × V))
  /-- a set of ints: its members, its size -/
  | set (S : Int → Bool) (n : Nat)
  /-- an instance of the class at C, its dict at dx, its attributes -/
  | ins (C dx : Addr) (fs : List (Str × V))
  /-- the dict of the instance at x -/
  | own (x : Addr)
  /-- the dict of an exception -/
  | xd (fs : List (Str × V))
  /-- a bound method, f of x -/
  | met (f x : Addr)
  /-- a range object lo, lo + 1, .. below hi -/
  | rng (lo hi : Int)
  /-- a thing that is known to the object (the script; a dict while a loop walks it): read, never written while it is so -/
  | frz (o : Obj) (u : HO)
  /-- a code object's table -/
  | tbl (ps : Array Value)
  /-- any other thing, by what is true of its one object (a def of one's own: SetO a S n := HO.ext fun h => ..) -/
  | ext (φ : Heap → Prop)

abbrev Hp := Addr → Option HO
def upd (H : Hp) (a : Addr) (o : HO) : Hp := fun b => if b = a then some o else H b
theorem upd_same {H : Hp} {a : Addr} {o : HO} : upd H a o a = some o := by unfold upd; rw [if_pos rfl]
theorem upd_ne {H : Hp} {a b : Addr} {o : HO} (h : b ≠ a) : upd H a o b = H b := by unfold upd; rw [if_neg h]
theorem upd_upd {H : Hp} {a : Addr} {o u : HO} : upd (upd H a o) a u = upd H a u := by
  funext b; unfold upd; split <;> rfl
/-- two objects of different content stand apart -/
theorem ne_of {H : Hp} {a b : Addr} {o u : HO} (h : H a = some o) (h' : H b = some u) (d : o ≠ u) : a ≠ b := by
  intro e; subst e; rw [h] at h'; exact d (Option.some.inj h')
theorem ne_of_none {H : Hp} {a b : Addr} {o : HO} (h : H a = some o) (h' : H b = none) : a ≠ b := by
  intro e; subst e; rw [h] at h'; cases h'

section
variable (P : Program) (w : World)
def ObjOk (H : Hp) (h : Heap) (a : Addr) : HO → Prop
  | .lst xs => xs.length ≤ sizeLine ∧ ∃ (its : List Value) (n : Nat), Vals xs its ∧ h.get? a = some { cls := .type "list", data := .seq its.toArray n }
  | .tup xs => xs.length ≤ sizeLine ∧ ∃ its : List Value, Vals xs its ∧ IsTup h a its.toArray
  | .dK kvs => kvs.length ≤ sizeLine ∧ (a == sysModules) = false ∧ ∃ vs, KV kvs vs ∧ h.DictOf (mixKind P w) a vs
  | .dT kvs => kvs.length ≤ sizeLine ∧ (a == sysModules) = false ∧ ∃ xs : List (List Key × Addr × Value),
      Paired (fun (p : List Key × V) (q : List Key × Addr × Value) => p.1 = q.1 ∧ H q.2.1 = some (.tup (p.1.map kV)) ∧ RelV p.2 q.2.2) kvs xs ∧
      ∃ o es ep, h.get? a = some o ∧ o.ExactDict ∧ o.data = .dict es ep ∧ es.toList = xs.map (entryOfKey (tupleKind (mixKind P w))) ∧ (xs.map (·.1)).Nodup
  | .set S n => h.SetOf (intKind P w) a S n
  | .ins C dx fs => H dx = some (.own a) ∧ fs.length ≤ 1000 ∧ dx ≠ a ∧ h.get? a = some (PySem.W.instObj C dx) ∧
      ∃ mA, h.Ns1 dx mA ∧ (∀ f, RelO (fs.lookup f) (mA f)) ∧ PySem.Within mA (fs.map (·.1))
  | .own _ => ∃ o, h.get? a = some o
  | .xd fs => ∃ mA, h.Ns1 a mA ∧ ∀ f, RelO (fs.lookup f) (mA f)
  | .rng lo hi => ∃ t u v, h.get? a = some { cls := .type "range", data := .fields #[.int lo t, .int hi u, .int 1 v] }
  | .frz o u => h.get? a = some o ∧ ObjOk H h a u
  | .tbl ps => h.get? a = some { cls := .none, data := .fields ps }
  | .met f x => h.get? a = some (PySem.W.methodObj (.ref f) (.ref x))
  | .ext φ => φ h ∧ (∃ o, h.get? a = some o) ∧ ∀ h1 h2 : Heap, φ h1 → (∀ o, h1.get? a = some o → h2.get? a = some o) → φ h2
/-- the abstract heap is held -/
def HOk (H : Hp) (h : Heap) : Prop := ∀ a o, H a = some o → ObjOk P w H h a o
end

section
variable {P : Program} {w : World} {H H' : Hp} {h h' : Heap} {a : Addr} {o : HO}
theorem ObjOk.lt (x : ObjOk P w H h a o) : a < h.objs.size := by
  cases o with
  | lst xs => obtain ⟨_, _, _, _, e⟩ := x; exact Heap.lt_size e
  | tup xs => obtain ⟨_, _, _, p⟩ := x; exact p.lt
  | dK kvs => obtain ⟨_, _, _, _, o, _, _, e, _⟩ := x; exact Heap.lt_size e
  | dT kvs => obtain ⟨_, _, _, _, o, _, _, e, _⟩ := x; exact Heap.lt_size e
  | set S n => obtain ⟨o, _, _, _, e, _⟩ := x; exact Heap.lt_size e
  | ins C dx fs => obtain ⟨_, _, _, e, _⟩ := x; exact Heap.lt_size e
  | own y => obtain ⟨_, e⟩ := x; exact Heap.lt_size e
  | xd fs => obtain ⟨_, ⟨_, _, _, e, _⟩, _⟩ := x; exact Heap.lt_size e
  | rng lo hi => obtain ⟨_, _, _, e⟩ := x; exact Heap.lt_size e
  | frz ob u => obtain ⟨e, _⟩ := x; exact Heap.lt_size e
  | tbl ps => exact Heap.lt_size (show h.get? a = some _ from x)
  | met f y => exact Heap.lt_size (show h.get? a = some _ from x)
  | ext φ => obtain ⟨_, ⟨_, e⟩, _⟩ := x; exact Heap.lt_size e
theorem Paired.mapP {α β : Type} {F G : α → β → Prop} : ∀ {l₁ : List α} {l₂ : List β}, Paired F l₁ l₂ → (∀ a b, F a b → G a b) → Paired G l₁ l₂
  | _, _, .nil, _ => .nil
  | _, _, .cons r t, f => .cons (f _ _ r) (Paired.mapP t f)
/-- what an object's description leans on: its own object, its own dict, the tuples -/
theorem ObjOk.stay (x : ObjOk P w H h a o) (k : ∀ b u, (b = a ∨ H b = some (.own a)) → h.get? b = some u → h'.get? b = some u)
    (ho : ∀ b, H b = some (.own a) → H' b = some (.own a)) (ht : ∀ b xs, H b = some (.tup xs) → H' b = some (.tup xs)) : ObjOk P w H' h' a o := by
  induction o with
  | lst xs => obtain ⟨z, its, n, r, e⟩ := x; exact ⟨z, its, n, r, k _ _ (.inl rfl) e⟩
  | tup xs => obtain ⟨z, its, r, ob, e, c⟩ := x; exact ⟨z, its, r, ob, k _ _ (.inl rfl) e, c⟩
  | dK kvs => obtain ⟨z, y, vs, r, ob, es, ep, e, c⟩ := x; exact ⟨z, y, vs, r, ob, es, ep, k _ _ (.inl rfl) e, c⟩
  | dT kvs =>
    obtain ⟨z, y, xs, r, ob, es, ep, e, c⟩ := x
    exact ⟨z, y, xs, Paired.mapP r fun p q z => ⟨z.1, ht _ _ z.2.1, z.2.2⟩, ob, es, ep, k _ _ (.inl rfl) e, c⟩
  | set S n => obtain ⟨ob, es, ep, t, e, c⟩ := x; exact ⟨ob, es, ep, t, k _ _ (.inl rfl) e, c⟩
  | ins C dx fs =>
    obtain ⟨d, z, ne, e, mA, ⟨od, es, ep, e2, c⟩, r⟩ := x
    exact ⟨ho _ d, z, ne, k _ _ (.inl rfl) e, mA, ⟨od, es, ep, k _ _ (.inr d) e2, c⟩, r⟩
  | own y => obtain ⟨ob, e⟩ := x; exact ⟨ob, k _ _ (.inl rfl) e⟩
  | xd fs => obtain ⟨mA, ⟨od, es, ep, e, c⟩, r⟩ := x; exact ⟨mA, ⟨od, es, ep, k _ _ (.inl rfl) e, c⟩, r⟩
  | rng lo hi => obtain ⟨t, u, v, e⟩ := x; exact ⟨t, u, v, k _ _ (.inl rfl) e⟩
  | frz ob u ih => obtain ⟨e, q⟩ := x; exact ⟨k _ _ (.inl rfl) e, ih q⟩
  | tbl ps =>
    have e : h.get? a = some { cls := .none, data := .fields ps } := x
    show h'.get? a = some { cls := .none, data := .fields ps }
    exact k a _ (.inl rfl) e
  | met f y =>
    have e : h.get? a = some (PySem.W.methodObj (.ref f) (.ref y)) := x
    show h'.get? a = some (PySem.W.methodObj (.ref f) (.ref y))
    exact k a _ (.inl rfl) e
  | ext φ => obtain ⟨p, ⟨o, e⟩, st⟩ := x; exact ⟨st _ _ p fun o q => k _ _ (.inl rfl) q, ⟨o, k _ _ (.inl rfl) e⟩, st⟩
theorem HOk.lt (x : HOk P w H h) (e : H a = some o) : a < h.objs.size := (x a o e).lt
theorem HOk.fresh (x : HOk P w H h) (e : h.objs.size ≤ a) : H a = none := by
  cases q : H a with
  | none => rfl
  | some u => exact absurd (Nat.lt_of_lt_of_le (x.lt q) e) (Nat.lt_irrefl _)
/-- every object of the heap is kept -/
theorem HOk.kept (x : HOk P w H h) (k : ∀ b u, h.get? b = some u → h'.get? b = some u) : HOk P w H h' := fun a o e =>
  (x a o e).stay (fun b u _ q => k b u q) (fun _ q => q) fun _ _ q => q
/-- a new object is laid and tracked -/
theorem HOk.laid (x : HOk P w H h) (k : ∀ b u, h.get? b = some u → h'.get? b = some u) (hp : h.objs.size ≤ a) (new : ObjOk P w (upd H a o) h' a o) : HOk P w (upd H a o) h' := fun b u e => by
  have hn := x.fresh hp
  by_cases hb : b = a
  · subst hb; rw [upd_same] at e; cases e; exact new
  · rw [upd_ne hb] at e
    exact (x b u e).stay (fun c v _ q => k c v q) (fun c q => by rw [upd_ne (ne_of_none q hn)]; exact q) fun c xs q => by rw [upd_ne (ne_of_none q hn)]; exact q
end

/-- what may be read as u: it is u, or a known u -/
def Rd (H : Hp) (a : Addr) (u : HO) : Prop := H a = some u ∨ ∃ o, H a = some (.frz o u)
theorem Rd.of {H : Hp} {a : Addr} {u : HO} (h : H a = some u) : Rd H a u := .inl h
theorem Rd.ok {P : Program} {w : World} {H : Hp} {h : Heap} {a : Addr} {u : HO} (r : Rd H a u) (x : HOk P w H h) : ObjOk P w H h a u := by
  rcases r with r | ⟨o, r⟩
  · exact x a u r
  · obtain ⟨_, q⟩ := x a _ r
    exact q
/-- what may be written -/
def Mut : Option HO → Prop
  | some (.lst _) => True
  | some (.dK _) => True
  | some (.dT _) => True
  | some (.set _ _) => True
  | some (.ins _ _ _) => True
  | some (.ext _) => True
  | _ => False
section
variable {P : Program} {w : World} {H : Hp} {h h' : Heap} {x e : Addr} {o' : HO}
/-- the object at e is changed: x itself, or the dict of the instance x -/
theorem HOk.write (ok : HOk P w H h) (mu : Mut (H x)) (he : e = x ∨ H e = some (.own x)) (k : ∀ b u, b ≠ e → h.get? b = some u → h'.get? b = some u) (heo : ∃ u, h'.get? e = some u)
    (new : ObjOk P w (upd H x o') h' x o') : HOk P w (upd H x o') h' := fun b u q => by
  have nown : ∀ c y, H c = some (.own y) → c ≠ x := fun c y r z => by subst z; rw [r] at mu; exact mu
  have ntup : ∀ c xs, H c = some (.tup xs) → c ≠ x := fun c xs r z => by subst z; rw [r] at mu; exact mu
  by_cases hb : b = x
  · subst hb; rw [upd_same] at q; cases q; exact new
  · rw [upd_ne hb] at q
    by_cases hbe : b = e
    · have q' : H b = some (.own x) := by
        rcases he with z | z
        · exact absurd (hbe.trans z) hb
        · rw [hbe]; exact z
      rw [q] at q'; cases q'
      obtain ⟨v, hv⟩ := heo
      exact ⟨v, by rw [hbe]; exact hv⟩
    · refine (ok b u q).stay (fun c v hc r => k c v ?_ r) (fun c r => by rw [upd_ne (nown c b r)]; exact r) fun c xs r => by rw [upd_ne (ntup c xs r)]; exact r
      rcases hc with rfl | hc
      · exact hbe
      · rintro rfl
        rcases he with z | z
        · exact nown c b hc z
        · rw [hc] at z; cases z; exact hb rfl
end

/-! ### kept unless tracked; of the frames at fs (the callers') the slots may change (an exception that passes writes there); of the records at ex (iterators) nothing is said -/
structure Un (fs ex : List Addr) (H H' : Hp) (h h' : Heap) : Prop where
  keep : ∀ b o, h.get? b = some o → H b = none → b ∉ fs → b ∉ ex → h'.get? b = some o
  slot : ∀ b o, h.get? b = some o → H b = none → b ∈ fs → b ∉ ex → ∃ sl, h'.get? b = some { o with slots := sl }
  free : ∀ b o, h.get? b = some o → H b = none → b ∉ ex → H' b = none
  there : ∀ b o, h.get? b = some o → b ∉ ex → ∃ o', h'.get? b = some o'
  tups : ∀ b xs, H b = some (.tup xs) → H' b = some (.tup xs)
  frzs : ∀ b o u, H b = some (.frz o u) → H' b = some (.frz o u)
  tbls : ∀ b ps, H b = some (.tbl ps) → ∃ more, H' b = some (.tbl (ps ++ more))
section
variable {fs fs' ex ex' : List Addr} {H H1 H2 : Hp} {h h1 h2 h' : Heap} {a x e : Addr} {o : HO}
theorem Un.any (u : Un fs ex H H1 h h1) {b : Addr} {ob : Obj} (q : h.get? b = some ob) (n : H b = none) (hx : b ∉ ex) : ∃ sl, h1.get? b = some { ob with slots := sl } := by
  by_cases hb : b ∈ fs
  · exact u.slot b ob q n hb hx
  · exact ⟨ob.slots, u.keep b ob q n hb hx⟩
theorem Un.trans (a : Un fs ex H H1 h h1) (b : Un fs ex H1 H2 h1 h2) : Un fs ex H H2 h h2 where
  keep := fun c ob q n hc hx => b.keep c ob (a.keep c ob q n hc hx) (a.free c ob q n hx) hc hx
  slot := fun c ob q n hc hx => by
    obtain ⟨sl, e1⟩ := a.slot c ob q n hc hx
    obtain ⟨sl', e2⟩ := b.slot c _ e1 (a.free c ob q n hx) hc hx
    exact ⟨sl', e2⟩
  free := fun c ob q n hx => by
    obtain ⟨o', e1⟩ := a.there c ob q hx
    exact b.free c o' e1 (a.free c ob q n hx) hx
  there := fun c ob q hx => by
    obtain ⟨o', e1⟩ := a.there c ob q hx
    exact b.there c o' e1 hx
  tups := fun c xs q => b.tups c xs (a.tups c xs q)
  frzs := fun c ob xs q => b.frzs c ob xs (a.frzs c ob xs q)
  tbls := fun c ps q => by
    obtain ⟨m1, e1⟩ := a.tbls c ps q
    obtain ⟨m2, e2⟩ := b.tbls c _ e1
    exact ⟨m1 ++ m2, by rw [e2, Array.append_assoc]⟩
theorem Un.kept (k : ∀ b u, h.get? b = some u → h'.get? b = some u) : Un fs ex H H h h' :=
  ⟨fun b ob q _ _ _ => k b ob q, fun b ob q _ _ _ => ⟨ob.slots, k b ob q⟩, fun _ _ _ n _ => n, fun b ob q _ => ⟨ob, k b ob q⟩, fun _ _ q => q, fun _ _ _ q => q, fun _ ps q => ⟨#[], by rw [q]; simp⟩⟩
theorem Un.refl : Un fs ex H H h h := Un.kept fun _ _ q => q
theorem Un.laid (k : ∀ b u, h.get? b = some u → h'.get? b = some u) (hp : h.objs.size ≤ a) (hn : H a = none) : Un fs ex H (upd H a o) h h' where
  keep := fun b u q _ _ _ => k b u q
  slot := fun b u q _ _ _ => ⟨u.slots, k b u q⟩
  free := fun b u q n _ => by rw [upd_ne (Nat.ne_of_lt (Nat.lt_of_lt_of_le (Heap.lt_size q) hp))]; exact n
  there := fun b u q _ => ⟨u, k b u q⟩
  tups := fun b xs q => by rw [upd_ne (ne_of_none q hn)]; exact q
  frzs := fun b u xs q => by rw [upd_ne (ne_of_none q hn)]; exact q
  tbls := fun b ps q => ⟨#[], by rw [upd_ne (ne_of_none q hn), q]; simp⟩
theorem Un.write (mu : Mut (H x)) (he : e = x ∨ H e = some (.own x)) (k : ∀ b u, b ≠ e → h.get? b = some u → h'.get? b = some u) (heo : ∃ u, h'.get? e = some u) : Un fs ex H (upd H x o) h h' := by
  have hx : ∀ b, H b = none → b ≠ x := fun b n z => by subst z; rw [n] at mu; exact mu
  have hb : ∀ b, H b = none → b ≠ e := fun b n z => by
    subst z
    rcases he with r | r
    · exact hx b n r
    · rw [n] at r; cases r
  have hm : ∀ b u, H b = some u → ¬ Mut (some u) → b ≠ x := fun b u q nm z => by subst z; rw [q] at mu; exact nm mu
  refine ⟨fun b u q n _ _ => k b u (hb b n) q, fun b u q n _ _ => ⟨u.slots, k b u (hb b n) q⟩, fun b u q n _ => by rw [upd_ne (hx b n)]; exact n, fun b u q _ => ?_,
    fun b xs q => by rw [upd_ne (hm b _ q fun z => z)]; exact q, fun b u xs q => by rw [upd_ne (hm b _ q fun z => z)]; exact q, fun b ps q => ⟨#[], by rw [upd_ne (hm b _ q fun z => z), q]; simp⟩⟩
  by_cases hbe : b = e
  · subst hbe; exact heo
  · exact ⟨u, k b u hbe q⟩
theorem Un.mono (u : Un fs ex H H1 h h1) (hs : ∀ b ∈ fs, b ∈ fs') (hx : ∀ b ∈ ex, b ∈ ex') : Un fs' ex' H H1 h h1 :=
  ⟨fun b ob q n hb he => u.keep b ob q n (fun z => hb (hs b z)) fun z => he (hx b z), fun _ _ q n _ he => u.any q n fun z => he (hx _ z), fun b ob q n he => u.free b ob q n fun z => he (hx b z), fun b ob q he => u.there b ob q fun z => he (hx b z), u.tups, u.frzs, u.tbls⟩
end

/-! ### the heap without what is tracked -/
def trk (h : Heap) (H : Hp) : List Addr := (List.range h.objs.size).filter fun a => (H a).isSome
def hidT (h : Heap) (H : Hp) : Heap := PySem.W.hideAll h (trk h H)
theorem hidT_size (h : Heap) (H : Hp) : (hidT h H).objs.size = h.objs.size := PySem.W.hideAll_size _ _
theorem hidT_get {h : Heap} {H : Hp} {b : Addr} {o : Obj} (e : h.get? b = some o) (n : H b = none) : (hidT h H).get? b = some o :=
  PySem.W.hideAll_get _ e fun hm => by
    have q : (H b).isSome = true := (List.mem_filter.mp hm).2
    rw [n] at q; simp at q
theorem of_hidT {h : Heap} {H : Hp} {b : Addr} {o : Obj} (e : (hidT h H).get? b = some o) : h.get? b = some o ∧ H b = none := by
  have e' : h.get? b = some o := PySem.W.of_hideAll (trk h H) e
  refine ⟨e', ?_⟩
  cases q : H b with
  | none => rfl
  | some x =>
    have hm : b ∈ trk h H := List.mem_filter.mpr ⟨List.mem_range.mpr (Heap.lt_size e'), by simp [q]⟩
    have z : (hidT h H).get? b = none := PySem.W.hideAll_none (trk h H) hm
    rw [z] at e; cases e

/-! ### OpenK's ledger, filled with every new object but one -/
def allNews (g h : Heap) (L : Addr) : List (Addr × Obj) := (List.range h.objs.size).filterMap fun a => if a = L ∨ (g.get? a).isSome = true then none else (h.get? a).map fun o => (a, o)
def rest (g h : Heap) (L d : Addr) : List (Addr × Obj) := (allNews g h L).filter fun p => decide (p.1 ≠ d)
end L2

namespace L2
open PySem PySem.Spec PyProof.Rows

/-- the module's facts, over the base: the heap at the law's entry without what is tracked there -/
structure Mod (K : PySem.W.Frag) (mg : Str → Option Value) (base : Heap) : Prop where
  kin : K.In base
  glob : base.Ns mainGlobals mg
  blt : ∃ mb, base.Ns builtinsNs mb ∧ ∀ x : Str, x ≠ "__name__" → mb x = bootBuiltins x
  nolimit : base.NoLimit

/-- the context: a def's body (or a comprehension's block) running. base: fixed through the whole law; s₀, H₀: the entry; outer: the frames whose slots others may change (a def's callers); stack: all frames that run;
   ex: iterators that were made ahead of the entry and are walked here (a comprehension's); fn: the names whose cells were made at the entry (a def: all; a comprehension's block: its own); calm: not within an except suite; pn: pins that every state bears; xe: what is wanted of an exception that leaves the code -/
structure Cx where
  prog : Program
  w : World
  K : PySem.W.Frag
  mg : Str → Option Value
  base : Heap
  A : Around
  N : List Str
  s₀ : Shared
  H₀ : Hp
  env : Env
  outer : List Env
  stack : List Env
  ex : List Addr
  fn : Str → Bool
  calm : Bool
  pn : List (Addr × Obj)
  xe : Value → Shared → Prop
/-- the callers' frames -/
def frs (l : List Env) : List Addr := l.filterMap (·.frame)
abbrev Cx.fs (X : Cx) : List Addr := frs X.outer

def Vis (sc : Scope) (x : Str) : Prop := sc.names.lookup x = some .local ∨ sc.names.lookup x = some .cell ∨ sc.names.lookup x = some .free
def Loc (sc : Scope) (x : Str) : Prop := sc.names.lookup x = some .local ∨ sc.names.lookup x = some .cell
def Look (env : Env) (h : Heap) (m : Str → Option Value) (x : Str) (u : Value) : Prop :=
  (env.kindOf x = some .local ∧ m x = some u) ∨ ((env.kindOf x = some .cell ∨ env.kindOf x = some .free) ∧ ∃ c, env.cells.lookup x = some c ∧ h.IsCell c (some u))

structure Cx.Ok (X : Cx) : Prop where
  mod : Mod X.K X.mg X.base
  kind : X.env.scope.kind = .function
  glob : X.env.globals = mainGlobals
  blt : X.env.builtins = builtinsNs
  above : X.s₀.heap.objs.size ≤ X.env.locals
  inj : ∀ x y c, X.env.cells.lookup x = some c → X.env.cells.lookup y = some c → x = y
  has : ∀ x, (X.env.kindOf x = some .cell ∨ X.env.kindOf x = some .free) → ∃ c, X.env.cells.lookup x = some c
  cab : ∀ x c, X.fn x = true → X.env.cells.lookup x = some c → X.s₀.heap.objs.size ≤ c
  hd : X.calm = true → X.A.handled = none
  frames : X.A.frames = some X.stack
  stk : X.stack = X.outer ∨ (X.stack = X.env :: X.outer ∧ X.env.frame = some X.env.locals)
  exf : ∀ b ∈ X.ex, b ≠ X.env.locals ∧ ∀ x c, X.env.cells.lookup x = some c → c ≠ b
  bs : ∀ b o, X.base.get? b = some o → X.s₀.heap.get? b = some o ∧ X.H₀ b = none
  bsz : X.base.objs.size ≤ X.s₀.heap.objs.size
  noex : ∀ b o, X.base.get? b = some o → b ∉ X.ex
  exfs : ∀ b ∈ X.ex, b ∉ X.fs
  funs : X.s₀.heap.FunFrames X.base X.outer
  frf : ∀ b ∈ X.fs, X.H₀ b = none

structure Inv (X : Cx) (pins : List (Addr × Obj)) (σ : List (Option V)) (H : Hp) (s : Shared) : Prop where
  ok : X.Ok
  os : s.os = X.s₀.os
  bare : AllBare s.gens
  base : Un X.fs X.ex X.H₀ H X.s₀.heap s.heap
  loc : ∃ m, s.heap.Ns X.env.locals m ∧ ∀ (i : Nat) (x : Str) (v : V), X.N[i]? = some x → σ[i]? = some (some v) → Vis X.env.scope x → ∃ u, RelV v u ∧ Look X.env s.heap m x u
  cell : ∀ x c, X.env.cells.lookup x = some c → ∃ v, s.heap.IsCell c v
  free : H X.env.locals = none
  freeC : ∀ x c, X.env.cells.lookup x = some c → H c = none
  pin : ∀ p ∈ X.pn ++ pins, s.heap.get? p.1 = some p.2 ∧ H p.1 = none ∧ p.1 ≠ X.env.locals ∧ p.1 ∉ X.fs ∧ ∀ v, p.2.data ≠ .cell v
  hok : HOk X.prog X.w H s.heap
  len : σ.length = X.N.length

section
variable {X : Cx} {pins : List (Addr × Obj)} {σ : List (Option V)} {H H' : Hp} {s : Shared} {h' : Heap}

theorem Cx.Ok.nofr (ok : X.Ok) {b : Addr} {o : Obj} (e : X.base.get? b = some o) : b ∉ X.fs := fun hb => by
  have := (ok.funs.mem hb).1
  rw [e] at this; cases this
theorem Inv.bs (I : Inv X pins σ H s) : ∀ b o, X.base.get? b = some o → s.heap.get? b = some o ∧ H b = none := fun b o e =>
  ⟨I.base.keep b o (I.ok.bs b o e).1 (I.ok.bs b o e).2 (I.ok.nofr e) (I.ok.noex b o e), I.base.free b o (I.ok.bs b o e).1 (I.ok.bs b o e).2 (I.ok.noex b o e)⟩
theorem Inv.bk (I : Inv X pins σ H s) : ∀ b o, X.base.get? b = some o → s.heap.get? b = some o := fun b o e => (I.bs b o e).1
theorem Inv.mod (I : Inv X pins σ H s) : Mod X.K X.mg X.base := I.ok.mod
theorem Inv.kIn (I : Inv X pins σ H s) : X.K.In s.heap := I.ok.mod.kin.keeps I.bk
theorem Inv.nolimit (I : Inv X pins σ H s) : s.heap.NoLimit := I.ok.mod.nolimit.keeps I.bk
/-- the frame over the base: for OpenK's rules (K.In X.base is I.mod.kin) -/
theorem Inv.fr (I : Inv X pins σ H s) : ∃ m, Fr X.base X.env.locals s.heap m :=
  let ⟨m, hn, _⟩ := I.loc
  ⟨m, hn, I.bk, Nat.le_trans I.ok.bsz I.ok.above⟩
theorem Inv.lt (I : Inv X pins σ H s) : X.env.locals < s.heap.objs.size := let ⟨_, hn, _⟩ := I.loc; hn.lt
theorem Inv.sz (I : Inv X pins σ H s) : X.s₀.heap.objs.size ≤ s.heap.objs.size := Nat.le_trans I.ok.above (Nat.le_of_lt I.lt)
theorem Inv.nofs (I : Inv X pins σ H s) {a : Addr} (h : s.heap.objs.size ≤ a) : a ∉ X.fs := fun hb => by
  obtain ⟨_, o, ho, _⟩ := I.ok.funs.mem hb
  exact absurd (Nat.lt_of_lt_of_le (Heap.lt_size ho) (Nat.le_trans I.sz h)) (Nat.lt_irrefl _)
theorem Inv.cne (I : Inv X pins σ H s) : ∀ x c, X.env.cells.lookup x = some c → c ≠ X.env.locals := fun x c e z => by
  obtain ⟨v, o, ho, hd⟩ := I.cell x c e
  obtain ⟨m, ⟨o', es, ep, ho', hd', _⟩, _⟩ := I.loc
  rw [z, ho'] at ho; cases ho; rw [hd'] at hd; cases hd
theorem Inv.funs (I : Inv X pins σ H s) : s.heap.FunFrames X.base X.outer := by
  have all : ∀ (l : List Env), (∀ b ∈ frs l, b ∈ X.fs) → X.s₀.heap.FunFrames X.base l → s.heap.FunFrames X.base l := by
    intro l
    induction l with
    | nil => intro _ _; trivial
    | cons env r ih =>
      intro hs hl
      obtain ⟨hk, ⟨L, o, hf, hn, ho, hd⟩, hr⟩ := hl
      have hL : L ∈ X.fs := hs L (by unfold frs; rw [List.filterMap_cons, hf]; exact List.mem_cons_self)
      obtain ⟨sl, e⟩ := I.base.slot L o ho (I.ok.frf L hL) hL fun z => I.ok.exfs L z hL
      exact ⟨hk, ⟨L, _, hf, hn, e, hd⟩, ih (fun b hb => hs b (by unfold frs; rw [List.filterMap_cons, hf]; exact List.mem_cons_of_mem _ hb)) hr⟩
  exact all X.outer (fun _ hb => hb) I.ok.funs

/-- the frames that run, for a call -/
theorem Inv.stack (I : Inv X pins σ H s) : s.heap.FunFrames X.base X.stack := by
  rcases I.ok.stk with e | ⟨e, hf⟩
  · rw [e]; exact I.funs
  · rw [e]
    obtain ⟨m, hn, _⟩ := I.loc
    refine .cons (by rw [I.ok.kind]; decide) hf hn ?_ I.funs
    exact Heap.get?_none_of_le (Nat.le_trans I.ok.bsz I.ok.above)
theorem Inv.stkSub (I : Inv X pins σ H s) : ∀ b ∈ frs X.stack, b ∈ X.env.locals :: X.fs := fun b hb => by
  rcases I.ok.stk with e | ⟨e, hf⟩
  · rw [e] at hb; exact List.mem_cons_of_mem _ hb
  · rw [e] at hb
    unfold frs at hb
    rw [List.filterMap_cons, hf] at hb
    exact hb
theorem Inv.stkFree (I : Inv X pins σ H s) : ∀ b ∈ frs X.stack, H b = none := fun b hb => by
  rcases List.mem_cons.mp (I.stkSub b hb) with e | hb
  · rw [e]; exact I.free
  · obtain ⟨_, o, ho, _⟩ := I.ok.funs.mem hb
    exact I.base.free b o ho (I.ok.frf b hb) fun z => I.ok.exfs b z hb

/-- THE STEP: the untracked objects but the frame and the records at ch are kept (the callers' frames up to slots), the frame's map is kept, the new abstract heap is held -/
theorem Inv.step {g' : Array GenState} {t' : Nat} {d' : Drawn} {ch : List Addr} (I : Inv X pins σ H s)
    (hch : ∀ b ∈ ch, (b ∈ X.ex ∨ X.s₀.heap.objs.size ≤ b) ∧ b ≠ X.env.locals ∧ (∀ x c, X.env.cells.lookup x = some c → c ≠ b) ∧ ∀ p ∈ X.pn ++ pins, p.1 ≠ b)
    (keep : ∀ b o, b ≠ X.env.locals → b ∉ X.fs → b ∉ ch → s.heap.get? b = some o → H b = none → h'.get? b = some o)
    (slot : ∀ b o, b ≠ X.env.locals → b ∈ X.fs → b ∉ ch → s.heap.get? b = some o → H b = none → ∃ sl, h'.get? b = some { o with slots := sl }) (free : ∀ b o, b ∉ ch → s.heap.get? b = some o → H b = none → H' b = none)
    (there : ∀ b o, b ∉ ch → s.heap.get? b = some o → ∃ o', h'.get? b = some o')
    (tups : ∀ b xs, H b = some (.tup xs) → H' b = some (.tup xs)) (frzs : ∀ b o u, H b = some (.frz o u) → H' b = some (.frz o u)) (tbls : ∀ b ps, H b = some (.tbl ps) → ∃ more, H' b = some (.tbl (ps ++ more)))
    (ns : ∀ m, s.heap.Ns X.env.locals m → h'.Ns X.env.locals m) (hok : HOk X.prog X.w H' h') (hg : AllBare g') :
    Inv X pins σ H' { s with heap := h', gens := g', drawn := d', toks := t' } := by
  have neL : ∀ b o, X.s₀.heap.get? b = some o → b ≠ X.env.locals := fun b o e => Nat.ne_of_lt (Nat.lt_of_lt_of_le (Heap.lt_size e) I.ok.above)
  have neC : ∀ b o, X.s₀.heap.get? b = some o → b ∉ X.ex → b ∉ ch := fun b o e hx hb => by
    rcases (hch b hb).1 with z | z
    · exact hx z
    · exact absurd (Nat.lt_of_lt_of_le (Heap.lt_size e) z) (Nat.lt_irrefl _)
  have cellK : ∀ x c, X.env.cells.lookup x = some c → ∀ v, s.heap.IsCell c v → h'.IsCell c v := fun x c e v ⟨o, ho, hd⟩ => by
    have nch : c ∉ ch := fun z => (hch c z).2.2.1 x c e rfl
    by_cases hc : c ∈ X.fs
    · obtain ⟨sl, q⟩ := slot c o (I.cne x c e) hc nch ho (I.freeC x c e)
      exact ⟨_, q, hd⟩
    · exact ⟨o, keep c o (I.cne x c e) hc nch ho (I.freeC x c e), hd⟩
  refine ⟨I.ok, I.os, hg, ⟨fun b o e n hb hx => ?_, fun b o e n hb hx => ?_, fun b o e n hx => ?_, fun b o e hx => ?_, fun b xs e => tups b xs (I.base.tups b xs e), fun b o xs e => frzs b o xs (I.base.frzs b o xs e), fun b ps e => ?_⟩, ?_, fun x c e => ?_, ?_, fun x c e => ?_, fun p hp => ?_, hok, I.len⟩
  · exact keep b o (neL b o e) hb (neC b o e hx) (I.base.keep b o e n hb hx) (I.base.free b o e n hx)
  · obtain ⟨sl, e1⟩ := I.base.slot b o e n hb hx
    obtain ⟨sl', e2⟩ := slot b _ (neL b o e) hb (neC b o e hx) e1 (I.base.free b o e n hx)
    exact ⟨sl', e2⟩
  · obtain ⟨o', e1⟩ := I.base.there b o e hx
    exact free b o' (neC b o e hx) e1 (I.base.free b o e n hx)
  · obtain ⟨o', e1⟩ := I.base.there b o e hx
    exact there b o' (neC b o e hx) e1
  · obtain ⟨m1, e1⟩ := I.base.tbls b ps e
    obtain ⟨m2, e2⟩ := tbls b _ e1
    exact ⟨m1 ++ m2, by rw [e2, Array.append_assoc]⟩
  · obtain ⟨m, hn, hl⟩ := I.loc
    refine ⟨m, ns m hn, fun i x v e1 e2 e3 => ?_⟩
    obtain ⟨u, r, l⟩ := hl i x v e1 e2 e3
    refine ⟨u, r, ?_⟩
    rcases l with l | ⟨k, c, e, z⟩
    · exact .inl l
    · exact .inr ⟨k, c, e, cellK x c e _ z⟩
  · obtain ⟨v, z⟩ := I.cell x c e
    exact ⟨v, cellK x c e v z⟩
  · obtain ⟨m, ⟨o, _, _, ho, _⟩, _⟩ := I.loc
    exact free _ o (fun z => (hch _ z).2.1 rfl) ho I.free
  · obtain ⟨v, o, ho, hd⟩ := I.cell x c e
    exact free c o (fun z => (hch c z).2.2.1 x c e rfl) ho (I.freeC x c e)
  · obtain ⟨e, n, ne, nf, d⟩ := I.pin p hp
    have nch : p.1 ∉ ch := fun z => (hch p.1 z).2.2.2 p hp rfl
    exact ⟨keep p.1 p.2 ne nf nch e n, free p.1 p.2 nch e n, ne, nf, d⟩
/-- .. where the frame's own object is kept too -/
theorem Inv.un {t' : Nat} (I : Inv X pins σ H s) (u : Un X.fs [] H H' s.heap h') (hok : HOk X.prog X.w H' h') : Inv X pins σ H' { s with heap := h', toks := t' } := by
  obtain ⟨m, ⟨o, es, ep, ho, r⟩, _⟩ := id I.loc
  obtain ⟨sl, hL⟩ := u.any ho I.free (by simp)
  exact I.step (g' := s.gens) (d' := s.drawn) (ch := []) (fun _ z => nomatch z) (fun b o _ hb _ e n => u.keep b o e n hb (by simp)) (fun b o _ hb _ e n => u.slot b o e n hb (by simp)) (fun b o _ e n => u.free b o e n (by simp)) (fun b o _ e => u.there b o e (by simp)) u.tups u.frzs u.tbls (fun m' hm => by
    obtain ⟨o', es', ep', ho', r'⟩ := hm
    rw [ho] at ho'; cases ho'
    exact ⟨_, es', ep', hL, r'⟩) hok I.bare
/-- behind a call (or a comprehension's block): the slots of this frame may have changed too, the records at ch may have turned -/
theorem Inv.call {g' : Array GenState} {t' : Nat} {d' : Drawn} {ch : List Addr} (I : Inv X pins σ H s) (u : Un (frs X.stack) ch H H' s.heap h') (hok : HOk X.prog X.w H' h') (hg : AllBare g')
    (hch : ∀ b ∈ ch, (b ∈ X.ex ∨ X.s₀.heap.objs.size ≤ b) ∧ b ≠ X.env.locals ∧ (∀ x c, X.env.cells.lookup x = some c → c ≠ b) ∧ ∀ p ∈ X.pn ++ pins, p.1 ≠ b) :
    Inv X pins σ H' { s with heap := h', gens := g', drawn := d', toks := t' } := by
  obtain ⟨m, ⟨o, es, ep, ho, r⟩, _⟩ := id I.loc
  obtain ⟨sl, hL⟩ := u.any ho I.free fun z => (hch _ z).2.1 rfl
  exact I.step (ch := ch) hch (fun b o hL hb hc e n => u.keep b o e n (fun z => (List.mem_cons.mp (I.stkSub b z)).elim hL hb) hc) (fun b o _ _ hc e n => u.any e n hc) (fun b o hc e n => u.free b o e n hc) (fun b o hc e => u.there b o e hc) u.tups u.frzs u.tbls (fun m' hm => by
    obtain ⟨o', es', ep', ho', r'⟩ := hm
    rw [ho] at ho'; cases ho'
    exact ⟨_, es', ep', hL, r'⟩) hok hg
/-- an untracked record of ours (an iterator) has turned -/
theorem Inv.turned {t' : Nat} {it : Addr} (I : Inv X pins σ H s) (k : ∀ b o, b ≠ it → s.heap.get? b = some o → h'.get? b = some o) (hn : H it = none) (hL : it ≠ X.env.locals)
    (h1 : it ∈ X.ex ∨ X.s₀.heap.objs.size ≤ it) (h2 : ∀ x c, X.env.cells.lookup x = some c → c ≠ it) (h3 : ∀ p ∈ X.pn ++ pins, p.1 ≠ it) : Inv X pins σ H { s with heap := h', toks := t' } := by
  have nit : ∀ b u, H b = some u → b ≠ it := fun b u e z => by rw [z, hn] at e; cases e
  refine I.step (g' := s.gens) (d' := s.drawn) (ch := [it]) (fun b hb => ?_) (fun b o _ _ hc e _ => k b o (fun z => hc (by simp [z])) e) (fun b o _ _ hc e _ => ⟨o.slots, k b o (fun z => hc (by simp [z])) e⟩) (fun _ _ _ _ n => n)
    (fun b o hc e => ⟨o, k b o (fun z => hc (by simp [z])) e⟩) (fun _ _ e => e) (fun _ _ _ e => e) (fun b ps e => ⟨#[], by rw [e]; simp⟩) (fun m hm => ?_) (fun b u e => ?_) I.bare
  · have e : b = it := by simpa using hb
    subst e
    exact ⟨h1, hL, h2, h3⟩
  · obtain ⟨o, es, ep, ho, r⟩ := hm
    exact ⟨o, es, ep, k _ o (Ne.symm hL) ho, r⟩
  · refine (I.hok b u e).stay (fun c v hc q => k c v ?_ q) (fun _ q => q) fun _ _ q => q
    rcases hc with z | z
    · rw [z]; exact nit b u e
    · exact nit c _ z
theorem Inv.tok (I : Inv X pins σ H s) (t : Nat) : Inv X pins σ H { s with toks := t } := I.un (h' := s.heap) (t' := t) Un.refl I.hok
/-- all objects kept -/
theorem Inv.kept {t' : Nat} (I : Inv X pins σ H s) (k : ∀ b u, s.heap.get? b = some u → h'.get? b = some u) : Inv X pins σ H { s with heap := h', toks := t' } := I.un (Un.kept k) (I.hok.kept k)
/-- a new object laid and tracked -/
theorem Inv.laid {a : Addr} {o : HO} {t' : Nat} (I : Inv X pins σ H s) (k : ∀ b u, s.heap.get? b = some u → h'.get? b = some u) (hp : s.heap.objs.size ≤ a) (new : ObjOk X.prog X.w (upd H a o) h' a o) :
    Inv X pins σ (upd H a o) { s with heap := h', toks := t' } := I.un (Un.laid k hp (I.hok.fresh hp)) (I.hok.laid k hp new)
/-- an object written -/
theorem Inv.write {x e : Addr} {o : HO} {t' : Nat} (I : Inv X pins σ H s) (mu : Mut (H x)) (he : e = x ∨ H e = some (.own x)) (k : ∀ b u, b ≠ e → s.heap.get? b = some u → h'.get? b = some u) (heo : ∃ u, h'.get? e = some u)
    (new : ObjOk X.prog X.w (upd H x o) h' x o) : Inv X pins σ (upd H x o) { s with heap := h', toks := t' } := I.un (Un.write mu he k heo) (I.hok.write mu he k heo new)
/-- forgetting slots, pins -/
theorem Inv.weak {σ' : List (Option V)} (I : Inv X pins σ H s) (hl : σ'.length = σ.length) (w : ∀ (i : Nat) v, σ'[i]? = some (some v) → σ[i]? = some (some v)) : Inv X pins σ' H s :=
  ⟨I.ok, I.os, I.bare, I.base, let ⟨m, hn, hl'⟩ := I.loc; ⟨m, hn, fun i x v e1 e2 e3 => hl' i x v e1 (w i v e2) e3⟩, I.cell, I.free, I.freeC, I.pin, I.hok, hl.trans I.len⟩
theorem Inv.pins_of {pins' : List (Addr × Obj)} (I : Inv X pins σ H s) (h : ∀ p ∈ pins', s.heap.get? p.1 = some p.2 ∧ H p.1 = none ∧ p.1 ≠ X.env.locals ∧ p.1 ∉ X.fs ∧ ∀ v, p.2.data ≠ .cell v) : Inv X pins' σ H s :=
  ⟨I.ok, I.os, I.bare, I.base, I.loc, I.cell, I.free, I.freeC, fun p hp => (List.mem_append.mp hp).elim (fun z => I.pin p (List.mem_append_left _ z)) (h p), I.hok, I.len⟩

theorem nodup_ix {N : List Str} (hN : N.Nodup) {i j : Nat} {x : Str} (a : N[i]? = some x) (b : N[j]? = some x) : i = j := by
  obtain ⟨h1, e1⟩ := List.getElem?_eq_some_iff.mp a
  obtain ⟨h2, e2⟩ := List.getElem?_eq_some_iff.mp b
  exact (List.getElem_inj hN).mp (e1.trans e2.symm)

/-- a name is stored; what changed -/
theorem store_ok2 {M : Model} {A : Around} {E : Value → Shared → Prop} {i : Nat} {x : Str} {v : V} {u : Value} {Q : Unit → Shared → Prop} (I : Inv X pins σ H s) (hN : X.N.Nodup) (hi : X.N[i]? = some x) (hx : Loc X.env.scope x) (r : RelV v u)
    (h : ∀ s', Inv X pins (σ.set i (some v)) H s' → (∃ a, Heap.SameBut a s.heap s'.heap ∧ (a = X.env.locals ∨ X.env.cells.lookup x = some a)) → Q () s') (hf : X.fn x = true ∨ X.env.scope.names.lookup x = some .local := by first | exact .inl rfl | exact .inr rfl | assumption) : wpAny M A (storeName X.env x u) Q E s := by
  obtain ⟨m, hn, hl⟩ := id I.loc
  have hcls : (X.env.scope.kind == .class || (X.env.scope.kind == .module && X.env.locals != X.env.globals)) = false := by rw [I.ok.kind]; rfl
  have hiσ : i < σ.length := by rw [I.len]; exact (List.getElem?_eq_some_iff.mp hi).1
  have cne := I.cne
  have tracked : ∀ {a : Addr} {h' : Heap}, (∃ o, s.heap.get? a = some o ∧ H a = none) → Heap.SameBut a s.heap h' → HOk X.prog X.w H h' := fun {a h'} ha hs b ob e => by
    obtain ⟨_, _, hfree⟩ := ha
    refine (I.hok b ob e).stay (fun c w' hc q => (hs.2 c ?_).trans q) (fun _ q => q) fun _ _ q => q
    rintro rfl
    rcases hc with rfl | hc
    · rw [hfree] at e; cases e
    · rw [hfree] at hc; cases hc
  rcases hx with hk | hk
  · refine wpAny_storeName_local hk hn (fun h' hn' hs => ?_) hcls
    obtain ⟨oL, _, _, hoL, _⟩ := id hn
    refine h _ ⟨I.ok, I.os, I.bare, ⟨fun b o e n hb hx => ?_, fun b o e n hb hx => ?_, I.base.free, fun b o e hx => ?_, I.base.tups, I.base.frzs, I.base.tbls⟩, ⟨_, hn', fun j y v' e1 e2 e3 => ?_⟩, fun y c e => ?_, I.free, I.freeC, fun p hp => ?_, tracked ⟨oL, hoL, I.free⟩ hs, by simpa using I.len⟩ ⟨_, hs, .inl rfl⟩
    · exact (hs.2 b (Nat.ne_of_lt (Nat.lt_of_lt_of_le (Heap.lt_size e) I.ok.above))).trans (I.base.keep b o e n hb hx)
    · obtain ⟨sl, e1⟩ := I.base.slot b o e n hb hx
      exact ⟨sl, (hs.2 b (Nat.ne_of_lt (Nat.lt_of_lt_of_le (Heap.lt_size e) I.ok.above))).trans e1⟩
    · obtain ⟨o', e1⟩ := I.base.there b o e hx
      exact ⟨o', (hs.2 b (Nat.ne_of_lt (Nat.lt_of_lt_of_le (Heap.lt_size e) I.ok.above))).trans e1⟩
    · by_cases hj : j = i
      · subst hj
        rw [hi] at e1; cases e1
        rw [List.getElem?_set_self hiσ] at e2
        cases e2
        exact ⟨u, r, .inl ⟨hk, by simp⟩⟩
      · rw [List.getElem?_set_ne (Ne.symm hj)] at e2
        obtain ⟨u', r', q⟩ := hl j y v' e1 e2 e3
        refine ⟨u', r', ?_⟩
        rcases q with ⟨k, e⟩ | ⟨k, c, e, z⟩
        · refine .inl ⟨k, ?_⟩
          have : y ≠ x := fun e => hj (nodup_ix hN e1 (e ▸ hi))
          simp [this, e]
        · exact .inr ⟨k, c, e, z.sameBut hs (cne y c e)⟩
    · obtain ⟨w', z⟩ := I.cell y c e
      exact ⟨w', z.sameBut hs (cne y c e)⟩
    · obtain ⟨e, n, ne, nf, d⟩ := I.pin p hp
      exact ⟨(hs.2 p.1 ne).trans e, n, ne, nf, d⟩
  · have hfn : X.fn x = true := by
      rcases hf with z | z
      · exact z
      · rw [z] at hk; cases hk
    obtain ⟨c, hc⟩ := I.ok.has x (.inl hk)
    obtain ⟨w', z⟩ := I.cell x c hc
    refine wpAny_storeName_cell I.ok.kind hk hc z (fun h' hc' hs => ?_)
    obtain ⟨oc, hoc, hocd⟩ := id z
    refine h { s with heap := h' } ⟨I.ok, I.os, I.bare, ⟨fun b o e n hb hx => ?_, fun b o e n hb hx => ?_, I.base.free, fun b o e hx => ?_, I.base.tups, I.base.frzs, I.base.tbls⟩, ⟨m, hn.sameBut hs (Ne.symm (cne x c hc)), fun j y v' e1 e2 e3 => ?_⟩, fun y c' e => ?_, I.free, I.freeC, fun p hp => ?_, tracked ⟨oc, hoc, I.freeC x c hc⟩ hs, by simpa using I.len⟩ ⟨c, hs, .inr hc⟩
    · exact (hs.2 b (Nat.ne_of_lt (Nat.lt_of_lt_of_le (Heap.lt_size e) (I.ok.cab x c hfn hc)))).trans (I.base.keep b o e n hb hx)
    · obtain ⟨sl, e1⟩ := I.base.slot b o e n hb hx
      exact ⟨sl, (hs.2 b (Nat.ne_of_lt (Nat.lt_of_lt_of_le (Heap.lt_size e) (I.ok.cab x c hfn hc)))).trans e1⟩
    · obtain ⟨o', e1⟩ := I.base.there b o e hx
      exact ⟨o', (hs.2 b (Nat.ne_of_lt (Nat.lt_of_lt_of_le (Heap.lt_size e) (I.ok.cab x c hfn hc)))).trans e1⟩
    · by_cases hj : j = i
      · subst hj
        rw [hi] at e1; cases e1
        rw [List.getElem?_set_self hiσ] at e2
        cases e2
        exact ⟨u, r, .inr ⟨.inl hk, c, hc, hc'⟩⟩
      · rw [List.getElem?_set_ne (Ne.symm hj)] at e2
        obtain ⟨u', r', q⟩ := hl j y v' e1 e2 e3
        refine ⟨u', r', ?_⟩
        rcases q with q | ⟨k, c', e, z'⟩
        · exact .inl q
        · refine .inr ⟨k, c', e, z'.sameBut hs ?_⟩
          rintro rfl
          exact hj (nodup_ix hN e1 (I.ok.inj _ _ _ e hc ▸ hi))
    · by_cases hcc : c' = c
      · subst hcc; exact ⟨_, hc'⟩
      · obtain ⟨w2, z2⟩ := I.cell y c' e
        exact ⟨w2, z2.sameBut hs hcc⟩
    · obtain ⟨e, n, ne, nf, d⟩ := I.pin p hp
      refine ⟨(hs.2 p.1 ?_).trans e, n, ne, nf, d⟩
      intro q
      rw [q, hoc] at e
      have q' : oc = p.2 := Option.some.inj e
      exact d w' (by rw [← q']; exact hocd)
theorem store_ok {M : Model} {A : Around} {E : Value → Shared → Prop} {i : Nat} {x : Str} {v : V} {u : Value} {Q : Unit → Shared → Prop} (I : Inv X pins σ H s) (hN : X.N.Nodup) (hi : X.N[i]? = some x) (hx : Loc X.env.scope x) (r : RelV v u)
    (h : ∀ s', Inv X pins (σ.set i (some v)) H s' → Q () s') (hf : X.fn x = true ∨ X.env.scope.names.lookup x = some .local := by first | exact .inl rfl | exact .inr rfl | assumption) : wpAny M A (storeName X.env x u) Q E s :=
  store_ok2 I hN hi hx r (fun s' I' _ => h s' I') hf
/-- behind a call or a block, the state as it is -/
theorem Inv.call' {s' : Shared} {ch : List Addr} (I : Inv X pins σ H s) (ho : s'.os = s.os) (u : Un (frs X.stack) ch H H' s.heap s'.heap) (hok : HOk X.prog X.w H' s'.heap) (hg : AllBare s'.gens)
    (hch : ∀ b ∈ ch, (b ∈ X.ex ∨ X.s₀.heap.objs.size ≤ b) ∧ b ≠ X.env.locals ∧ (∀ x c, X.env.cells.lookup x = some c → c ≠ b) ∧ ∀ p ∈ X.pn ++ pins, p.1 ≠ b) : Inv X pins σ H' s' := by
  obtain ⟨h', g', d', t', o'⟩ := s'
  have e : o' = s.os := ho
  subst e
  exact I.call (g' := g') (t' := t') (d' := d') u hok hg hch
end

/-! ### the judgements -/
/-- an exception: its class, its own dict's address (where it has one), the abstract heap behind it -/
abbrev XK := Value → Option Addr → Hp → Prop
abbrev St := List (Option V)
abbrev VK := V → Hp → Prop
/-- an expression's reading; a test's; an argument list's -/
abbrev TE := St → Hp → VK → Prop
abbrev TT := St → Hp → (Bool → Hp → Prop) → Prop
abbrev TA := St → Hp → (List V → Hp → Prop) → Prop
/-- what is wanted behind a statement -/
structure Ends where
  nx : St → Hp → Prop
  rt : VK
  bk : St → Hp → Prop := fun _ _ => False
  ct : St → Hp → Prop := fun _ _ => False
abbrev TS := Ends → St → Hp → Prop

def EP (X : Cx) (pins : List (Addr × Obj)) (σ : St) (Q : VK) (u : Value) (s' : Shared) : Prop := ∃ v H', Inv X pins σ H' s' ∧ RelV v u ∧ Q v H'
def TP (X : Cx) (pins : List (Addr × Obj)) (σ : St) (Q : Bool → Hp → Prop) (b : Bool) (s' : Shared) : Prop := ∃ H', Inv X pins σ H' s' ∧ Q b H'
def AP (X : Cx) (pins : List (Addr × Obj)) (σ : St) (Q : List V → Hp → Prop) (us : List Value) (s' : Shared) : Prop := ∃ vs H', Inv X pins σ H' s' ∧ Vals vs us ∧ Q vs H'
def SP (X : Cx) (pins : List (Addr × Obj)) (D : Ends) (f : Flow) (s' : Shared) : Prop :=
  match f with
  | .next => ∃ σ' H', Inv X pins σ' H' s' ∧ D.nx σ' H'
  | .brk => ∃ σ' H', Inv X pins σ' H' s' ∧ D.bk σ' H'
  | .cont => ∃ σ' H', Inv X pins σ' H' s' ∧ D.ct σ' H'
  | .ret u => ∃ v σ' H', Inv X pins σ' H' s' ∧ RelV v u ∧ D.rt v H'

def PE (X : Cx) (e : Expr) (t : TE) : Prop :=
  ∀ (pins : List (Addr × Obj)) (s : Shared) (σ : St) (H : Hp) (Q : VK), Inv X pins σ H s → t σ H Q → wpAny (model X.prog X.w) X.A (eval e X.env) (EP X pins σ Q) X.xe s
def PT (X : Cx) (e : Expr) (t : TT) : Prop :=
  ∀ (pins : List (Addr × Obj)) (s : Shared) (σ : St) (H : Hp) (Q : Bool → Hp → Prop), Inv X pins σ H s → t σ H Q → wpAny (model X.prog X.w) X.A (isTrue e X.env (eval e X.env)) (TP X pins σ Q) X.xe s
/-- a test whatever its 'whole' is (and, or) -/
def PW (X : Cx) (e : Expr) (t : TT) : Prop :=
  ∀ (whole : Sem Value) (pins : List (Addr × Obj)) (s : Shared) (σ : St) (H : Hp) (Q : Bool → Hp → Prop), Inv X pins σ H s → t σ H Q → wpAny (model X.prog X.w) X.A (isTrue e X.env whole) (TP X pins σ Q) X.xe s
theorem PW.pt {X : Cx} {e : Expr} {t : TT} (h : PW X e t) : PT X e t := h _
/-- an argument list (no star), from the left -/
def PA (X : Cx) (es : List Expr) (t : TA) : Prop :=
  ∀ (pos : Pos) (pins : List (Addr × Obj)) (s : Shared) (σ : St) (H : Hp) (Q : List V → Hp → Prop), Inv X pins σ H s → t σ H Q → wpAny (model X.prog X.w) X.A (spliced (backTo pos (starEach es X.env))) (AP X pins σ Q) X.xe s
def PS (X : Cx) (st : Stmt) (t : TS) : Prop :=
  ∀ (pins : List (Addr × Obj)) (s : Shared) (σ : St) (H : Hp) (D : Ends), Inv X pins σ H s → t D σ H → wpAny (model X.prog X.w) X.A (exec st X.env) (SP X pins D) X.xe s
def PSs (X : Cx) (st : List Stmt) (t : TS) : Prop :=
  ∀ (pins : List (Addr × Obj)) (s : Shared) (σ : St) (H : Hp) (D : Ends), Inv X pins σ H s → t D σ H → wpAny (model X.prog X.w) X.A (execs st X.env) (SP X pins D) X.xe s
/-- weaken the end -/
theorem thn {α : Type} {t : Sem α} {Q Q' : α → Shared → Prop} {M : Model} {A : Around} {E : Value → Shared → Prop} {s : Shared} (h : wpAny M A t Q E s) (hQ : ∀ a s, Q a s → Q' a s) : wpAny M A t Q' E s := wpAny_mono h hQ fun _ _ x => x
end L2

namespace L2
open PySem PySem.Spec PyProof.Rows
section
variable {X : Cx}

/-! ### names and constants -/
def tVar (i : Nat) : TE := fun σ H Q => ∃ v, σ[i]? = some (some v) ∧ Q v H
def tC (v : V) : TE := fun _ H Q => Q v H
theorem pe_var {i : Nat} {x : Str} {pos : Pos} (hN : X.N[i]? = some x) (hv : Vis X.env.scope x) (hd : (x == ("__debug__" : Str)) = false := by decide) (hcd : (x == ("__classdict__" : Str)) = false := by decide) : PE X (.Name x pos) (tVar i) := by
  intro pins s σ H Q I h
  obtain ⟨v, e, h⟩ := h
  obtain ⟨m, hn, hl⟩ := I.loc
  obtain ⟨u, r, l⟩ := hl i x v hN e hv
  have fin : EP X pins σ Q u s := ⟨v, H, I, r, h⟩
  rcases l with ⟨hk, hm⟩ | ⟨hk, c, hc, hcell⟩
  · exact wpAny_Name (wpAny_loadName_local I.ok.kind hk hn hm fin) hd
  · rcases hk with hk | hk
    · exact wpAny_Name (wpAny_loadName_cell I.ok.kind hk hc hcell fin) hd
    · exact wpAny_Name (wpAny_loadName_free I.ok.kind hk hc hcell fin hcd) hd
theorem pe_int {i j pos} : PE X (.Constant (.int i) j pos) (tC (.int i)) := fun _ _ _ H _ I h => wpAny_Constant_int ⟨.int i, H, I.tok _, ⟨_, rfl⟩, h⟩
theorem pe_bl {b j pos} : PE X (.Constant (.bool b) j pos) (tC (.bl b)) := fun _ _ _ H _ I h => Constant_bool ⟨.bl b, H, I, rfl, h⟩
theorem pe_str {x j pos} : PE X (.Constant (.str x) j pos) (tC (.str x)) := fun _ _ _ H _ I h => Calls.Constant_str ⟨.str x, H, I.tok _, ⟨_, rfl⟩, h⟩

/-- a global name of the def -/
def Gl (X : Cx) (x : Str) : Prop := X.env.kindOf x = some .globalImplicit
theorem ld_glob {E : Value → Shared → Prop} {pins : List (Addr × Obj)} {s : Shared} {σ : St} {H : Hp} {x : Str} {u : Value} {pos : Pos} {Q : Value → Shared → Prop} (I : Inv X pins σ H s) (hg : Gl X x) (hm : X.mg x = some u) (h : Q u s)
    (hd : (x == ("__debug__" : Str)) = false := by decide) : wpAny (model X.prog X.w) X.A (eval (.Name x pos) X.env) Q E s :=
  Calls.Name_function_global I.ok.kind hg (Calls.loadGlobal_global (by rw [I.ok.glob]; exact I.mod.glob.keeps I.bk) hm h) hd
theorem ld_blt {E : Value → Shared → Prop} {pins : List (Addr × Obj)} {s : Shared} {σ : St} {H : Hp} {x : Str} {u : Value} {pos : Pos} {Q : Value → Shared → Prop} (I : Inv X pins σ H s) (hg : Gl X x) (hm : X.mg x = none) (hv : bootBuiltins x = some u) (h : Q u s)
    (hn : x ≠ "__name__" := by decide) (hd : (x == ("__debug__" : Str)) = false := by decide) : wpAny (model X.prog X.w) X.A (eval (.Name x pos) X.env) Q E s := by
  obtain ⟨mb, h1, h2⟩ := I.mod.blt
  exact Calls.Name_function_global I.ok.kind hg (Calls.loadGlobal_builtin (by rw [I.ok.glob]; exact I.mod.glob.keeps I.bk) hm (by rw [I.ok.blt]; exact h1.keeps I.bk) ((h2 x hn).trans hv) h) hd
/-- a module's constant, a class, a function, as a value -/
theorem pe_glob {x : Str} {v : V} {u : Value} {pos : Pos} (hg : Gl X x) (hm : X.mg x = some u) (r : RelV v u) (hd : (x == ("__debug__" : Str)) = false := by decide) : PE X (.Name x pos) (tC v) :=
  fun _ _ _ H _ I h => ld_glob I hg hm ⟨v, H, I, r, h⟩ hd
theorem pe_bltn {x : Str} {v : V} {u : Value} {pos : Pos} (hg : Gl X x) (hm : X.mg x = none) (hv : bootBuiltins x = some u) (r : RelV v u) (hn : x ≠ "__name__" := by decide) (hd : (x == ("__debug__" : Str)) = false := by decide) : PE X (.Name x pos) (tC v) :=
  fun _ _ _ H _ I h => ld_blt I hg hm hv ⟨v, H, I, r, h⟩ hn hd

variable {a b : Expr} {ta tb : TE} {pos : Pos}
/-- a comparison as a value, as a test -/
def tB (t : TE) : TT := fun σ H Q => t σ H fun x H1 => ∃ c, x = .bl c ∧ Q c H1
/-- an expression whose value is a bool, as a test -/
theorem pt_val {e : Expr} {t : TE} (h : PE X e t) (he : ∀ whole, isTrue e X.env whole = (do let v ← whole; standAt e.pos; holding [v] (truthy v)) := by intro _; rfl) : PT X e (tB t) := by
  intro pins s σ H Q I hw
  refine isTrue_plain (thn (h pins s σ H _ I hw) fun v s1 ⟨x, H1, I1, r1, q1⟩ => ?_) (he _)
  obtain ⟨d, rfl, q⟩ := q1
  cases r1
  exact wpAny_truthy_bool ⟨H1, I1, q⟩

/-! ### and, or, not -/
variable {tA tB' : TT} {rest : List Expr}
def tOr (t u : TT) : TT := fun σ H Q => t σ H fun c H1 => if c = true then Q true H1 else u σ H1 Q
def tNot (t : TT) : TT := fun σ H Q => t σ H fun c H1 => Q (!c) H1
theorem pw_or1 (ha : PT X a tA) : PW X (.BoolOp .Or [a] pos) tA := by
  intro wh pins s σ H Q I h
  refine isTrue_or (thn (ha pins s σ H Q I h) fun c s1 e => ?_)
  cases c with
  | false => exact isTrue_or_nil e
  | true => exact e
theorem pw_or (ha : PT X a tA) (hb : PW X (.BoolOp .Or (b :: rest) pos) tB') : PW X (.BoolOp .Or (a :: b :: rest) pos) (tOr tA tB') := by
  intro wh pins s σ H Q I h
  refine isTrue_or (thn (ha pins s σ H _ I h) fun c s1 ⟨H1, I1, q1⟩ => ?_)
  cases c with
  | true => exact ⟨H1, I1, q1⟩
  | false => exact hb wh pins s1 σ H1 Q I1 q1
theorem pt_not (ha : PT X a tA) : PT X (.UnaryOp .Not a pos) (tNot tA) := by
  intro pins s σ H Q I h
  exact isTrue_not (ha pins s σ H (fun c H1 => Q (!c) H1) I h)
/-- .. as values (bools) -/
def tAndV (ta tb : TE) : TE := fun σ H Q => ta σ H fun x H1 => ∃ c, x = .bl c ∧ if c = true then tb σ H1 Q else Q (.bl false) H1
def tNotV (ta : TE) : TE := fun σ H Q => ta σ H fun x H1 => ∃ c, x = .bl c ∧ Q (.bl (!c)) H1
theorem pe_one {op} {t : TE} (h : PE X a t) : PE X (.BoolOp op [a] pos) t := fun pins s σ H Q I hw => BoolOp_one (h pins s σ H Q I hw)
theorem pe_and (ha : PE X a ta) (hb : PE X (.BoolOp .And (b :: rest) pos) tb) : PE X (.BoolOp .And (a :: b :: rest) pos) (tAndV ta tb) := by
  intro pins s σ H Q I h
  refine BoolOp_and (thn (ha pins s σ H _ I h) fun v s1 ⟨x, H1, I1, r1, q1⟩ => ?_)
  obtain ⟨c, rfl, q1⟩ := q1
  cases r1
  refine wpAny_truthy_bool ?_
  cases c with
  | true => exact hb pins s1 σ H1 Q I1 q1
  | false => exact ⟨.bl false, H1, I1, rfl, q1⟩
theorem pe_not (ha : PE X a ta) : PE X (.UnaryOp .Not a pos) (tNotV ta) := by
  intro pins s σ H Q I h
  refine UnaryOp_ (thn (ha pins s σ H _ I h) fun v s1 ⟨x, H1, I1, r1, q1⟩ => ?_)
  obtain ⟨c, rfl, q1⟩ := q1
  cases r1
  exact not_of (wpAny_truthy_bool ⟨.bl (!c), H1, I1, rfl, q1⟩)
/-- a if t else b -/
def tIf (t : TT) (ta tb : TE) : TE := fun σ H Q => t σ H fun c H1 => if c = true then ta σ H1 Q else tb σ H1 Q
theorem pe_ifExp {c : Expr} (hc : PT X c tA) (ha : PE X a ta) (hb : PE X b tb) : PE X (.IfExp c a b pos) (tIf tA ta tb) := by
  intro pins s σ H Q I h
  refine wpAny_IfExp (thn (hc pins s σ H _ I h) fun d s1 ⟨H1, I1, q1⟩ => ?_)
  cases d with
  | true => exact ha pins s1 σ H1 Q I1 q1
  | false => exact hb pins s1 σ H1 Q I1 q1
end
end L2

namespace L2
open PySem PySem.Spec PyProof.Rows

/-! ### a list, a tuple that is read: tracked, frozen, or an object of the module -/
def SqL (K : PySem.W.Frag) (H : Hp) (a : Addr) (xs : List V) : Prop :=
  Rd H a (.lst xs) ∨
    ∃ (o : Obj) (its : Array Value) (n : Nat), K.lookup a = some o ∧ o.cls = .type "list" ∧ o.dict = none ∧ o.data = .seq its n ∧ its.size ≤ sizeLine ∧ Vals xs its.toList
def SqT (K : PySem.W.Frag) (H : Hp) (a : Addr) (xs : List V) : Prop :=
  Rd H a (.tup xs) ∨
    ∃ (o : Obj) (its : Array Value) (n : Nat), K.lookup a = some o ∧ o.cls = .type "tuple" ∧ o.data = .seq its n ∧ its.size ≤ sizeLine ∧ Vals xs its.toList
def absV : Value → Option V
  | .none => some .non
  | .bool b => some (.bl b)
  | .int i _ => some (.int i)
  | .str x _ => some (.str x)
  | .bytes b _ => some (.byt b)
  | .float b _ => some (.flt b)
  | .ref a => some (.ref a)
  | .type n => some (.ty n)
  | _ => none
theorem RelV.abs {x : V} {u : Value} (r : RelV x u) : absV u = some x := by
  cases x with
  | non => cases r; rfl
  | bl _ => cases r; rfl
  | int _ => obtain ⟨t, rfl⟩ := r; rfl
  | str _ => obtain ⟨t, rfl⟩ := r; rfl
  | byt _ => obtain ⟨t, rfl⟩ := r; rfl
  | flt _ => obtain ⟨t, rfl⟩ := r; rfl
  | ref _ => cases r; rfl
  | ty _ => cases r; rfl
theorem RelV.inj {x y : V} {u : Value} (r : RelV x u) (q : RelV y u) : x = y := Option.some.inj (r.abs.symm.trans q.abs)
theorem Vals.inj : ∀ {xs ys : List V} {us : List Value}, Vals xs us → Vals ys us → xs = ys
  | _, _, _, .nil, .nil => rfl
  | _, _, _, .cons r t, .cons r' t' => by rw [r.inj r', Vals.inj t t']
section
variable {X : Cx} {pins : List (Addr × Obj)} {σ : St} {H : Hp} {s : Shared} {a : Addr} {xs ys : List V}
theorem SqL.of {K : PySem.W.Frag} (h : H a = some (.lst xs)) : SqL K H a xs := .inl (.inl h)
theorem SqT.of {K : PySem.W.Frag} (h : H a = some (.tup xs)) : SqT K H a xs := .inl (.inl h)
theorem Inv.list (I : Inv X pins σ H s) (h : SqL X.K H a xs) : ∃ its : List Value, Vals xs its ∧ PlainL s.heap a its.toArray ∧ xs.length ≤ sizeLine := by
  rcases h with h | ⟨o, its, n, hk, hc, hd, hs, hz, r⟩
  · obtain ⟨z, its, n, r, e⟩ := h.ok I.hok
    exact ⟨its, r, ⟨_, n, e, rfl, rfl, rfl⟩, z⟩
  · refine ⟨its.toList, r, ⟨o, n, I.kIn a o hk, hc, hd, by simpa using hs⟩, ?_⟩
    have e := r.length
    simp only [Array.length_toList] at e
    omega
theorem Inv.tuple (I : Inv X pins σ H s) (h : SqT X.K H a xs) : ∃ its : List Value, Vals xs its ∧ IsTup s.heap a its.toArray ∧ xs.length ≤ sizeLine := by
  rcases h with h | ⟨o, its, n, hk, hc, hs, hz, r⟩
  · obtain ⟨z, its, r, p⟩ := h.ok I.hok
    exact ⟨its, r, p, z⟩
  · refine ⟨its.toList, r, ⟨o, I.kIn a o hk, hc, n, by simpa using hs⟩, ?_⟩
    have e := r.length
    simp only [Array.length_toList] at e
    omega
theorem Inv.list_inj (I : Inv X pins σ H s) (h : SqL X.K H a xs) (h' : SqL X.K H a ys) : xs = ys := by
  obtain ⟨its, r, ⟨o, n, e, _, _, d⟩, _⟩ := I.list h
  obtain ⟨its', r', ⟨o', n', e', _, _, d'⟩, _⟩ := I.list h'
  rw [e] at e'; cases e'
  rw [d] at d'
  injection d' with d1 _
  have : its = its' := by simpa using congrArg Array.toList d1
  subst this
  exact r.inj r'
theorem Inv.tuple_inj (I : Inv X pins σ H s) (h : SqT X.K H a xs) (h' : SqT X.K H a ys) : xs = ys := by
  obtain ⟨its, r, ⟨o, e, _, n, d⟩, _⟩ := I.tuple h
  obtain ⟨its', r', ⟨o', e', _, n', d'⟩, _⟩ := I.tuple h'
  rw [e] at e'; cases e'
  rw [d] at d'
  injection d' with d1 _
  have : its = its' := by simpa using congrArg Array.toList d1
  subst this
  exact r.inj r'
end

/-! ### another wish about exceptions -/
abbrev Cx.wish (X : Cx) (E : Value → Shared → Prop) : Cx := { X with xe := E }
/-- no exception leaves -/
abbrev Cx.nox (X : Cx) : Cx := X.wish fun _ _ => False
theorem Cx.Ok.wish {X : Cx} (ok : X.Ok) (E : Value → Shared → Prop) : (X.wish E).Ok :=
  ⟨ok.mod, ok.kind, ok.glob, ok.blt, ok.above, ok.inj, ok.has, ok.cab, ok.hd, ok.frames, ok.stk, ok.exf, ok.bs, ok.bsz, ok.noex, ok.exfs, ok.funs, ok.frf⟩
theorem Cx.Ok.unwish {X : Cx} {E : Value → Shared → Prop} (ok : (X.wish E).Ok) : X.Ok :=
  ⟨ok.mod, ok.kind, ok.glob, ok.blt, ok.above, ok.inj, ok.has, ok.cab, ok.hd, ok.frames, ok.stk, ok.exf, ok.bs, ok.bsz, ok.noex, ok.exfs, ok.funs, ok.frf⟩
section
variable {X : Cx} {pins : List (Addr × Obj)} {σ : St} {H : Hp} {s : Shared} {E : Value → Shared → Prop}
theorem Inv.wish (I : Inv X pins σ H s) (E : Value → Shared → Prop) : Inv (X.wish E) pins σ H s := ⟨I.ok.wish E, I.os, I.bare, I.base, I.loc, I.cell, I.free, I.freeC, I.pin, I.hok, I.len⟩
theorem Inv.unwish (I : Inv (X.wish E) pins σ H s) : Inv X pins σ H s := ⟨I.ok.unwish, I.os, I.bare, I.base, I.loc, I.cell, I.free, I.freeC, I.pin, I.hok, I.len⟩
theorem SP.unwish {D : Ends} {f : Flow} {s' : Shared} (h : SP (X.wish E) pins D f s') : SP X pins D f s' := by
  cases f with
  | next => obtain ⟨σ', H', I, q⟩ := h; exact ⟨σ', H', I.unwish, q⟩
  | brk => obtain ⟨σ', H', I, q⟩ := h; exact ⟨σ', H', I.unwish, q⟩
  | cont => obtain ⟨σ', H', I, q⟩ := h; exact ⟨σ', H', I.unwish, q⟩
  | ret u => obtain ⟨v, σ', H', I, r, q⟩ := h; exact ⟨v, σ', H', I.unwish, r, q⟩
theorem PE.nox {e : Expr} {t : TE} (h : PE X.nox e t) : PE X e t := fun pins s σ H Q I hw =>
  wpAny_mono (h pins s σ H Q (I.wish _) hw) (fun _ _ ⟨v, H', I', r, q⟩ => ⟨v, H', I'.unwish, r, q⟩) fun _ _ z => False.elim z
theorem PT.nox {e : Expr} {t : TT} (h : PT X.nox e t) : PT X e t := fun pins s σ H Q I hw =>
  wpAny_mono (h pins s σ H Q (I.wish _) hw) (fun _ _ ⟨H', I', q⟩ => ⟨H', I'.unwish, q⟩) fun _ _ z => False.elim z
theorem PSs.nox {st : List Stmt} {t : TS} (h : PSs X.nox st t) : PSs X st t := fun pins s σ H D I hw =>
  wpAny_mono (h pins s σ H D (I.wish _) hw) (fun _ _ q => q.unwish) fun _ _ z => False.elim z
end

/-! ### blocks and small statements -/
section
variable {X : Cx} {st : Stmt} {rest : List Stmt} {t u : TS} {e : Expr} {te : TE} {pos : Pos}
def tNext : TS := fun D σ H => D.nx σ H
def tSeq (t u : TS) : TS := fun D σ H => t { D with nx := u D } σ H
theorem pss_nil : PSs X [] tNext := fun _ _ σ H _ I h => wpAny_execs_nil ⟨σ, H, I, h⟩
theorem pss_cons (h1 : PS X st t) (h2 : PSs X rest u) : PSs X (st :: rest) (tSeq t u) := by
  intro pins s σ H D I h
  refine wpAny_execs_cons (thn (h1 pins s σ H { D with nx := u D } I h) fun f s1 q => ?_)
  cases f with
  | next =>
    obtain ⟨σ', H', I', q⟩ := q
    exact h2 pins s1 σ' H' D I' q
  | ret v => exact q
  | brk => exact q
  | cont => exact q
theorem pss_one (h1 : PS X st t) : PSs X [st] t := by
  intro pins s σ H D I h
  refine wpAny_execs_cons (thn (h1 pins s σ H D I h) fun f s1 q => ?_)
  cases f with
  | next => exact wpAny_execs_nil q
  | ret v => exact q
  | brk => exact q
  | cont => exact q
/-- in a def's body nothing is shown -/
theorem Inv.quiet {pins : List (Addr × Obj)} {σ : St} {H : Hp} {s : Shared} (I : Inv X pins σ H s) : interactive X.env = false := by simp [interactive, I.ok.kind]
/-- an expression whose value is dropped -/
def tDrop (te : TE) : TS := fun D σ H => te σ H fun _ H1 => D.nx σ H1
theorem ps_expr (he : PE X e te) (hs : swapsWith e none pos.line X.env = pure false := by rfl) : PS X (.Expr e pos) (tDrop te) := by
  intro pins s σ H D I h
  exact wpAny_Expr_any (thn (he pins s σ H _ I h) fun v s1 ⟨x, H1, I1, r1, q1⟩ => ⟨σ, H1, I1, q1⟩) I.quiet hs
def tRet (te : TE) : TS := fun D σ H => te σ H D.rt
theorem ps_ret (he : PE X e te) : PS X (.Return (some e) pos) (tRet te) := by
  intro pins s σ H D I h
  exact wpAny_Return_some (thn (he pins s σ H _ I h) fun v s1 ⟨x, H1, I1, r1, q1⟩ => ⟨x, σ, H1, I1, r1, q1⟩)
def tIfS (c : TT) (t u : TS) : TS := fun D σ H => c σ H fun b H1 => if b = true then t D σ H1 else u D σ H1
theorem ps_if {c : Expr} {a b : List Stmt} {tc : TT} (hc : PT X c tc) (ha : PSs X a t) (hb : PSs X b u) : PS X (.If c a b pos) (tIfS tc t u) := by
  intro pins s σ H D I h
  refine wpAny_If (thn (hc pins s σ H _ I h) fun d s1 ⟨H1, I1, q1⟩ => ?_)
  cases d with
  | true => exact ha pins s1 σ H1 D I1 q1
  | false => exact hb pins s1 σ H1 D I1 q1
end

/-! ### targets -/
abbrev TG := V → St → Hp → (St → Hp → Prop) → Prop
abbrev TGs := List V → St → Hp → (St → Hp → Prop) → Prop
def PG (X : Cx) (target : Expr) (t : TG) : Prop :=
  ∀ (pins : List (Addr × Obj)) (s : Shared) (σ : St) (H : Hp) (v : V) (u : Value) (Q : St → Hp → Prop), Inv X pins σ H s → RelV v u → t v σ H Q →
    wpAny (model X.prog X.w) X.A (assign target X.env u) (fun _ s' => ∃ σ' H', Inv X pins σ' H' s' ∧ Q σ' H') X.xe s
/-- several targets, one after another -/
def PGs (X : Cx) (ts : List Expr) (t : TGs) : Prop :=
  ∀ (pins : List (Addr × Obj)) (s : Shared) (σ : St) (H : Hp) (vs : List V) (us : List Value) (Q : St → Hp → Prop), Inv X pins σ H s → Vals vs us → t vs σ H Q →
    wpAny (model X.prog X.w) X.A (assignInOrder ((assignEach ts X.env).map (·.2)) us) (fun _ s' => ∃ σ' H', Inv X pins σ' H' s' ∧ Q σ' H') X.xe s
/-- a op= b, by values -/
abbrev TIp := V → V → Hp → VK → Prop
def PIp (X : Cx) (op : Operator) (t : TIp) : Prop :=
  ∀ (pins : List (Addr × Obj)) (s : Shared) (σ : St) (H : Hp) (x y : V) (v u : Value) (Q : VK), Inv X pins σ H s → RelV x v → RelV y u → t x y H Q →
    wpAny (model X.prog X.w) X.A (inplaceOp op v u) (EP X pins σ Q) X.xe s
section
variable {X : Cx} {pos : Pos}
def gName (i : Nat) : TG := fun v σ H Q => Q (σ.set i (some v)) H
theorem pg_name {i : Nat} {x : Str} (hN : X.N.Nodup) (hi : X.N[i]? = some x) (hx : Loc X.env.scope x) (hf : X.fn x = true ∨ X.env.scope.names.lookup x = some .local := by first | exact .inl rfl | exact .inr rfl | assumption) : PG X (.Name x pos) (gName i) := by
  intro pins s σ H v u Q I r h
  exact wpAny_assign_Name (store_ok I hN hi hx r (fun s' I' => ⟨_, H, I', h⟩) hf)
def gNil : TGs := fun vs σ H Q => vs = [] ∧ Q σ H
def gCons (t : TG) (u : TGs) : TGs := fun vs σ H Q => ∃ v r, vs = v :: r ∧ t v σ H fun σ' H' => u r σ' H' Q
theorem pgs_nil : PGs X [] gNil := by
  intro pins s σ H vs us Q I r h
  obtain ⟨e, h⟩ := h
  subst e
  cases r
  exact assignInOrder_nil ⟨σ, H, I, h⟩
theorem pgs_cons {e : Expr} {es : List Expr} {t : TG} {u : TGs} (h1 : PG X e t) (h2 : PGs X es u)
    (hs : (assignEach (e :: es) X.env).map (·.2) = assign e X.env :: (assignEach es X.env).map (·.2) := by rfl) : PGs X (e :: es) (gCons t u) := by
  intro pins s σ H vs us Q I r h
  obtain ⟨v, vr, e1, h⟩ := h
  subst e1
  cases r with
  | cons r rr =>
    rw [hs]
    refine assignInOrder_cons (thn (h1 pins s σ H _ _ _ I r h) fun _ s1 ⟨σ1, H1, I1, q1⟩ => ?_)
    exact h2 pins s1 σ1 H1 _ _ Q I1 rr q1
/-- (a, b, ..) = a tuple of that length -/
def gTup (K : PySem.W.Frag) (n : Nat) (t : TGs) : TG := fun v σ H Q => ∃ a xs, v = .ref a ∧ SqT K H a xs ∧ xs.length = n ∧ t xs σ H Q
theorem pg_tup {es : List Expr} {k : Nat} {t : TGs} {n : Nat} (hc : X.calm = true) (h : PGs X es t)
    (hn : (assignEach es X.env).length = n := by rfl) (hst : (assignEach es X.env).findIdx? (·.1) = none := by rfl) : PG X (.Tuple es k pos) (gTup X.K n t) := by
  intro pins s σ H v u Q I r hw
  obtain ⟨a, xs, e1, hq, hl, hw⟩ := hw
  subst e1
  cases r
  obtain ⟨its, rv, ht, hz⟩ := I.tuple hq
  refine assign_Tuple_tuple (I.ok.hd hc) ht (by simp [hn, ← hl, rv.length]) hst fun h' hx => ?_
  have I1 : Inv X pins σ H { s with heap := h' } := I.kept (t' := s.toks) fun b o e => hx b o (Nat.ne_of_lt (Heap.lt_size e)) e
  exact h pins _ σ H xs _ Q I1 (by simpa using rv) hw
/-- target = value -/
def tAsg (te : TE) (g : TG) : TS := fun D σ H => te σ H fun x H1 => g x σ H1 D.nx
theorem ps_asg {tg e : Expr} {te : TE} {g : TG} (he : PE X e te) (hg : PG X tg g) (hs : swapsWithSole [tg] e pos.line X.env = pure false := by rfl) (hw : swappedStores [tg] e X.env = pure none := by rfl)
    (h1 : (assignEach [tg] X.env).map (·.2) = [assign tg X.env] := by rfl) : PS X (.Assign [tg] e pos) (tAsg te g) := by
  intro pins s σ H D I h
  refine wpAny_Assign_stores (thn (he pins s σ H _ I h) fun v s1 ⟨x, H1, I1, r1, q1⟩ => ?_) hs hw
  rw [h1]
  exact thn (hg pins s1 σ H1 x v _ I1 r1 q1) fun _ s2 q => q
/-- name = value -/
theorem ps_set {i : Nat} {x : Str} {e : Expr} {te : TE} {pos' : Pos} (hN : X.N.Nodup) (hi : X.N[i]? = some x) (hx : Loc X.env.scope x) (he : PE X e te) (hs : swapsWith e (some (.Name x pos')) pos.line X.env = pure false := by rfl) (hf : X.fn x = true ∨ X.env.scope.names.lookup x = some .local := by first | exact .inl rfl | exact .inr rfl | assumption) :
    PS X (.Assign [.Name x pos'] e pos) (tAsg te (gName i)) := by
  intro pins s σ H D I h
  refine wpAny_Assign_Name (thn (he pins s σ H _ I h) fun v s1 ⟨y, H1, I1, r1, q1⟩ => ?_) hs
  exact store_ok I1 hN hi hx r1 (fun s2 I2 => ⟨_, H1, I2, q1⟩) hf
/-- name op= e -/
def tAug (i : Nat) (te : TE) (ti : TIp) : TS := fun D σ H => ∃ x, σ[i]? = some (some x) ∧ te σ H fun y H1 => ti x y H1 fun z H2 => D.nx (σ.set i (some z)) H2
theorem ps_aug {i : Nat} {x : Str} {e : Expr} {te : TE} {op : Operator} {ti : TIp} {pos' : Pos} (hN : X.N.Nodup) (hi : X.N[i]? = some x) (hx : Loc X.env.scope x) (he : PE X e te) (ho : PIp X op ti) (hf : X.fn x = true ∨ X.env.scope.names.lookup x = some .local := by first | exact .inl rfl | exact .inr rfl | assumption) :
    PS X (.AugAssign (.Name x pos') op e pos) (tAug i te ti) := by
  intro pins s σ H D I h
  obtain ⟨v, e1, h⟩ := h
  obtain ⟨m, hn, hl⟩ := I.loc
  have vis : Vis X.env.scope x := by rcases hx with k | k; exact .inl k; exact .inr (.inl k)
  obtain ⟨u, r, l⟩ := hl i x v hi e1 vis
  refine wpAny_AugAssign_Name ?_
  have go : wpAny (model X.prog X.w) X.A (eval e X.env) (fun w s₂ => wpAny (model X.prog X.w) X.A (inplaceOp op u w) (fun r s₃ => wpAny (model X.prog X.w) X.A (storeName X.env x r) (fun _ => SP X pins D .next) X.xe s₃) X.xe s₂) X.xe s := by
    refine thn (he pins s σ H _ I h) fun w s1 ⟨y, H1, I1, r1, q1⟩ => ?_
    refine thn (ho pins s1 σ H1 v y u w _ I1 r r1 q1) fun z s2 ⟨zv, H2, I2, r2, q2⟩ => ?_
    exact store_ok I2 hN hi hx r2 (fun s3 I3 => ⟨_, H2, I3, q2⟩) hf
  rcases l with ⟨hk, hm⟩ | ⟨hk, c, hc, hcell⟩
  · exact wpAny_loadName_local I.ok.kind hk hn hm go
  · rcases hk with hk | hk
    · exact wpAny_loadName_cell I.ok.kind hk hc hcell go
    · rcases hx with k | k
      · have : X.env.scope.names.lookup x = some .free := hk
        rw [k] at this; cases this
      · have : X.env.scope.names.lookup x = some .free := hk
        rw [k] at this; cases this
/-- ints -/
def ipI (f : Int → Int → Int) : TIp := fun x y H Q => ∃ i j, x = .int i ∧ y = .int j ∧ Q (.int (f i j)) H
theorem ip_add : PIp X .Add (ipI fun i j => i + j) := by
  intro pins s σ H x y v u Q I r1 r2 h
  obtain ⟨i, j, e1, e2, q⟩ := h
  subst e1; subst e2
  obtain ⟨t, rfl⟩ := r1
  obtain ⟨t', rfl⟩ := r2
  exact iadd_int ⟨.int _, H, I.tok _, ⟨_, rfl⟩, q⟩
end

/-! ### while -/
section
variable {X : Cx} {pos : Pos}
/-- the invariant W with its measure -/
def tWhile (c : TT) (tb : TS) : TS := fun D σ H => ∃ W : Nat → St → Hp → Prop, (∃ m, W m σ H) ∧ ∀ m σ H, W m σ H →
  c σ H fun b H1 => if b = true then ∃ N : St → Hp → Prop, (∀ σ' H', N σ' H' → ∃ m', m' < m ∧ W m' σ' H') ∧ tb { D with nx := N, ct := N, bk := D.nx } σ H1 else D.nx σ H1
theorem ps_while {c : Expr} {body : List Stmt} {tc : TT} {tb : TS} (hp : PassesOwn (model X.prog X.w) X.A X.env X.xe) (hc : PT X c tc) (hb : PSs X body tb) : PS X (.While c body [] pos) (tWhile tc tb) := by
  intro pins s σ H D I h
  obtain ⟨W, ⟨m0, w0⟩, turn⟩ := h
  refine wpAny_While (codeAny_whileLoop (fun n s' => ∃ σ' H', Inv X pins σ' H' s' ∧ W n σ' H') ?_ m0 ⟨σ, H, I, w0⟩)
  rintro n s1 ⟨σ1, H1, I1, w1⟩
  refine wpAny_passesOwn hp (thn (hc pins s1 σ1 H1 _ I1 (turn n σ1 H1 w1)) fun b s2 ⟨H2, I2, q2⟩ => ?_)
  cases b with
  | true =>
    obtain ⟨N, hN, q2⟩ := q2
    rw [if_pos rfl]
    refine wpAny_passesOwn hp (thn (hb pins s2 σ1 H2 _ I2 q2) fun f s3 q3 => ?_)
    cases f with
    | next =>
      obtain ⟨σ3, H3, I3, n3⟩ := q3
      obtain ⟨m', hm, w3⟩ := hN σ3 H3 n3
      exact ⟨m', hm, σ3, H3, I3, w3⟩
    | cont =>
      obtain ⟨σ3, H3, I3, n3⟩ := q3
      obtain ⟨m', hm, w3⟩ := hN σ3 H3 n3
      exact ⟨m', hm, σ3, H3, I3, w3⟩
    | brk => exact q3
    | ret v => exact q3
  | false =>
    rw [if_neg Bool.false_ne_true]
    exact wpAny_execs_nil ⟨σ1, H2, I2, q2⟩
end

/-! ### what a loop or a comprehension walks -/
/-- at turn i: it yields x (the heap may grow), or it stops -/
structure It where
  go : Nat → Hp → Prop
  yld : Nat → Hp → V → Hp → Prop
  stop : Nat → Hp → Prop
/-- the iterator's own objects may turn: they are not the frame's, not pinned, younger than the entry (or a comprehension's own) -/
def FpOk (X : Cx) (pins : List (Addr × Obj)) (H : Hp) (b : Addr) : Prop :=
  H b = none ∧ b ≠ X.env.locals ∧ b ∉ X.fs ∧ (b ∈ X.ex ∨ X.s₀.heap.objs.size ≤ b) ∧ (∀ x c, X.env.cells.lookup x = some c → c ≠ b) ∧ ∀ p ∈ X.pn ++ pins, p.1 ≠ b
theorem Inv.fpOk {X : Cx} {pins : List (Addr × Obj)} {σ : St} {H H' : Hp} {s : Shared} {b : Addr} (I : Inv X pins σ H s) (hb : s.heap.objs.size ≤ b) (hn : H' b = none) : FpOk X pins H' b := by
  refine ⟨hn, Nat.ne_of_gt (Nat.lt_of_lt_of_le I.lt hb), I.nofs hb, .inr (Nat.le_trans I.sz hb), fun x c e z => ?_, fun p hp z => ?_⟩
  · obtain ⟨v, q⟩ := I.cell x c e
    exact absurd (Nat.lt_of_lt_of_le q.lt (by rw [z]; exact hb)) (Nat.lt_irrefl _)
  · exact absurd (Nat.lt_of_lt_of_le (Heap.lt_size (I.pin p hp).1) (by rw [z]; exact hb)) (Nat.lt_irrefl _)
structure Turn (P : Program) (w : World) (K : PySem.W.Frag) (tg : Expr) (J : It) (fp : List Addr) (it : Addr) (tn : Nat → Heap → Prop) : Prop where
  mem : it ∈ fp
  obj : ∀ i h, tn i h → ∀ b ∈ fp, ∃ o, h.get? b = some o ∧ ∀ v, o.data ≠ .cell v
  keep : ∀ i h h', tn i h → (∀ b ∈ fp, ∀ o, h.get? b = some o → h'.get? b = some o) → tn i h'
  item : ∀ (X : Cx), X.prog = P → X.w = w → X.K = K → X.calm = true → ∀ (i : Nat) (pins : List (Addr × Obj)) (s : Shared) (σ : St) (H : Hp) (E : Value → Shared → Prop), Inv X pins σ H s → (∀ b ∈ fp, FpOk X pins H b) → tn i s.heap → J.go i H →
    wpAny (model P w) X.A (pyNext (.ref it)) (fun r s1 => ∃ u, r = some u ∧
      wpAny (model P w) X.A (letOwnedTupleGo tg (.ref it) u) (fun _ s2 => ∃ x H', Inv X pins σ H' s2 ∧ RelV x u ∧ J.yld i H x H' ∧ tn (i + 1) s2.heap ∧ ∀ b ∈ fp, H' b = none) E s1) E s
  done : ∀ (X : Cx), X.prog = P → X.w = w → X.K = K → X.calm = true → ∀ (i : Nat) (pins : List (Addr × Obj)) (s : Shared) (σ : St) (H : Hp) (E : Value → Shared → Prop), Inv X pins σ H s → (∀ b ∈ fp, FpOk X pins H b) → tn i s.heap → J.stop i H →
    wpAny (model P w) X.A (pyNext (.ref it)) (fun r s1 => r = none ∧ Inv X pins σ H s1) E s
  self : ∀ (A : Around) (i : Nat) (s : Shared) (Q : Value → Shared → Prop) (E : Value → Shared → Prop), tn i s.heap → Q (.ref it) s → wpAny (model P w) A (pyIter (.ref it)) Q E s
abbrev TI := St → Hp → (It → Hp → Prop) → Prop
/-- an iterator has come -/
def PIE (X : Cx) (pins : List (Addr × Obj)) (σ : St) (tg : Expr) (R : It → Hp → Prop) (itv : Value) (s2 : Shared) : Prop :=
  ∃ (it : Addr) (fp : List Addr) (tn : Nat → Heap → Prop) (J : It) (H' : Hp), itv = .ref it ∧ Inv X pins σ H' s2 ∧ Turn X.prog X.w X.K tg J fp it tn ∧ tn 0 s2.heap ∧ (∀ b ∈ fp, FpOk X pins H' b) ∧ R J H'
def PI (X : Cx) (tg iter : Expr) (wi : TI) : Prop :=
  ∀ (pins : List (Addr × Obj)) (s : Shared) (σ : St) (H : Hp) (R : It → Hp → Prop), Inv X pins σ H s → wi σ H R →
    wpAny (model X.prog X.w) X.A (eval iter X.env) (fun v s1 => wpAny (model X.prog X.w) X.A (pyIter v) (PIE X pins σ tg R) X.xe s1) X.xe s

/-- the step ahead of the store is nothing for an iterator that keeps no tuple -/
theorem go_of {M : Model} {A : Around} {E : Value → Shared → Prop} {s : Shared} {tg : Expr} {it : Addr} {u : Value} {o : Obj} {n : String} {vs : Array Value} {Q : Unit → Shared → Prop} (ho : s.heap.get? it = some o) (hc : o.cls = .type n) (hd : o.data = .fields vs)
    (hn : ["enumerate", "zip", "dict_itemiterator", "dict_reverseitemiterator", "odict_iterator", "itertools.zip_longest", "itertools.pairwise"].contains n = false) (hQ : Q () s) : wpAny M A (letOwnedTupleGo tg (.ref it) u) Q E s := by
  unfold letOwnedTupleGo
  cases tg <;> first
    | exact wpAny_pure hQ
    | (cases u <;> first
        | exact wpAny_pure hQ
        | (refine wpAny_bind (wpAny_load ho ?_)
           rw [hc, hd]
           show wpAny M A (if (["enumerate", "zip", "dict_itemiterator", "dict_reverseitemiterator", "odict_iterator", "itertools.zip_longest", "itertools.pairwise"].contains n && vs[0]? == some (rawInt _)) = true then _ else _) Q E s
           rw [if_neg (by intro h; rw [hn, Bool.false_and] at h; cases h)]
           exact wpAny_pure hQ))

/-- the list at a, as it stands at each turn (a loop may append to it) -/
def Itl (K : PySem.W.Frag) (a : Addr) : It :=
  ⟨fun i H => ∃ xs x, SqL K H a xs ∧ xs[i]? = some x, fun i H x H' => H' = H ∧ ∀ xs, SqL K H a xs → xs[i]? = some x, fun i H => ∃ xs, SqL K H a xs ∧ xs.length ≤ i⟩
def Itt (K : PySem.W.Frag) (a : Addr) : It :=
  ⟨fun i H => ∃ xs x, SqT K H a xs ∧ xs[i]? = some x, fun i H x H' => H' = H ∧ ∀ xs, SqT K H a xs → xs[i]? = some x, fun i H => ∃ xs, SqT K H a xs ∧ xs.length ≤ i⟩
/-- lo, lo + 1, .. (n of them) -/
def Itr (lo : Int) (n : Nat) : It := ⟨fun i _ => i < n, fun i H x H' => H' = H ∧ x = .int (lo + i), fun i _ => n ≤ i⟩
theorem turn_range {P : Program} {w : World} {K : PySem.W.Frag} {tg : Expr} (it : Addr) (lo : Int) (n : Nat) : Turn P w K tg (Itr lo n) [it] it (fun i h => IsRangeIter h it (lo + (i : Nat) * 1) ((n : Int) - (i : Nat)) 1) where
  mem := by simp
  obj := fun i h st b hb => by
    have e : b = it := by simpa using hb
    subst e
    exact ⟨_, st, fun v z => by
      have z' : Data.fields _ = Data.cell v := z
      cases z'⟩
  keep := fun i h h' st k => k it (by simp) _ st
  item := by
    intro X hP hw hK hc i pins s σ H E I hf st hg
    subst hP hw hK
    obtain ⟨f0, f1, f2, f3, f4, f5⟩ := hf it (by simp)
    have W := Walks.range (prog := X.prog) (w := X.w) (I.ok.hd hc) it lo 1 n
    refine W.item i s _ _ hg st fun v h' tk hv st' kk => ?_
    obtain ⟨t, rfl⟩ := hv
    have I1 : Inv X pins σ H { s with heap := h', toks := tk } := I.turned (fun b o hb e => kk b o (by simpa using hb) e) f0 f1 f3 f4 f5
    refine ⟨_, rfl, go_of (s := { s with heap := h', toks := tk }) (n := "range_iterator") st' rfl rfl (by decide) ⟨.int (lo + i), H, I1, ⟨t, ?_⟩, ⟨rfl, rfl⟩, st', fun b hb => (hf b hb).1⟩⟩
    rw [Int.mul_one]
  done := by
    intro X hP hw hK hc i pins s σ H E I hf st hg
    subst hP hw hK
    obtain ⟨f0, f1, f2, f3, f4, f5⟩ := hf it (by simp)
    exact wpAny_pyNext_range_end (I.ok.hd hc) st (by have : n ≤ i := hg; omega) fun h' eb => ⟨rfl, I.turned (t' := s.toks) (fun b o hb e => eb b o hb e) f0 f1 f3 f4 f5⟩
  self := fun _ _ _ _ _ st h => wpAny_pyIter_rangeiter st h
end L2

namespace L2
open PySem PySem.Spec PyProof.Rows
section
variable {X : Cx} {tg : Expr}
def iList (K : PySem.W.Frag) (tl : TE) : TI := fun σ H R => tl σ H fun x H1 => ∃ a, x = .ref a ∧ (∃ xs, SqL K H1 a xs) ∧ R (Itl K a) H1
def iTup (K : PySem.W.Frag) (tl : TE) : TI := fun σ H R => tl σ H fun x H1 => ∃ a, x = .ref a ∧ (∃ xs, SqT K H1 a xs) ∧ R (Itt K a) H1
/-- a range object just made, walked -/
theorem range_it {pins : List (Addr × Obj)} {σ : St} {H : Hp} {s : Shared} {R : It → Hp → Prop} {E : Value → Shared → Prop} {lo hi : Int} {t u v : Tok} {tk : Nat} (I : Inv X pins σ H s) (h1 : -(2 ^ 62) ≤ lo) (h2 : lo < 2 ^ 62) (h3 : -(2 ^ 62) ≤ hi) (h4 : hi < 2 ^ 62)
    (q : R (Itr lo (hi - lo).toNat) H) : wpAny (model X.prog X.w) X.A (pyIter (.ref s.heap.objs.size)) (PIE X pins σ tg R) E { s with heap := s.heap.push { cls := .type "range", data := .fields #[.int lo t, .int hi u, .int 1 v] }, toks := tk } := by
  refine wpAny_pyIter_range (IsRange.new ..) (small_one h1 h2 h3 h4) ?_
  have I1 : Inv X pins σ H { s with heap := s.heap.push { cls := .type "range", data := .fields #[.int lo t, .int hi u, .int 1 v] }, toks := tk } := I.kept fun b o e => Heap.get?_push_of_some _ e
  refine ⟨(s.heap.push { cls := .type "range", data := .fields #[.int lo t, .int hi u, .int 1 v] }).objs.size, [(s.heap.push { cls := .type "range", data := .fields #[.int lo t, .int hi u, .int 1 v] }).objs.size], _, _, H, rfl,
    I1.kept (t' := tk) fun b o e => Heap.get?_push_of_some _ e, turn_range _ lo (hi - lo).toNat, ?_, fun b hb => ?_, q⟩
  · have e1 : lo + ((0 : Nat) : Int) * 1 = lo := by simp
    have e2 : (((hi - lo).toNat : Nat) : Int) - ((0 : Nat) : Int) = Builtin.Range.rangeSize lo hi 1 := by rw [rangeSize_one]; split <;> omega
    show IsRangeIter _ _ (lo + ((0 : Nat) : Int) * 1) ((((hi - lo).toNat : Nat) : Int) - ((0 : Nat) : Int)) 1
    rw [e1, e2]
    exact Heap.get?_push_size _ rfl
  · have e : b = (s.heap.push { cls := .type "range", data := .fields #[.int lo t, .int hi u, .int 1 v] }).objs.size := by simpa using hb
    subst e
    exact I1.fpOk (Nat.le_refl _) (I1.hok.fresh (Nat.le_refl _))
def iRng1 (ta : TA) : TI := fun σ H R => ta σ H fun vs H1 => ∃ j : Int, vs = [.int j] ∧ -(2 ^ 62) ≤ j ∧ j < 2 ^ 62 ∧ R (Itr 0 j.toNat) H1
theorem pi_range1 {a : Expr} {ta : TA} {p pos : Pos} (hg : Gl X "range") (hm : X.mg "range" = none) (ha : PA X [a] ta) (hs : starEach [a] X.env = [(false, eval a X.env)] := by rfl) : PI X tg (.Call (.Name "range" p) [a] [] pos) (iRng1 ta) := by
  intro pins s σ H R I h
  refine Call_ (ld_blt I hg hm boot_range (PyProof.Rows.callWith_type1 (thn (ha pos pins s σ H _ I h) fun us s1 ⟨vs, H1, I1, r1, q1⟩ => ?_) hs rfl))
  obtain ⟨j, e, q1, q2, q⟩ := q1
  subst e
  cases r1 with
  | cons r rr =>
    cases rr
    obtain ⟨t, rfl⟩ := r
    exact call_range_1 (range_it I1 (by omega) (by omega) q1 q2 (by simpa using q))
/-! ### for -/
/-- W: the invariant by the turn and a measure; N: what the body is to reach -/
def tFor (wi : TI) (g : TG) (tb : TS) : TS := fun D σ H => wi σ H fun J H1 => ∃ W : Nat → Nat → St → Hp → Prop, (∃ m, W 0 m σ H1) ∧ ∀ i m σ H, W i m σ H →
  (J.stop i H ∧ D.nx σ H) ∨ (J.go i H ∧ ∃ N : St → Hp → Prop, (∀ σ' H', N σ' H' → ∃ m', m' < m ∧ W (i + 1) m' σ' H') ∧ ∀ x H', J.yld i H x H' → g x σ H' fun σ2 H2 => tb { D with nx := N, ct := N, bk := D.nx } σ2 H2)
/-- the records at fp as they stand -/
def pinsAt (fp : List Addr) (h : Heap) : List (Addr × Obj) := fp.filterMap fun b => (h.get? b).map fun o => (b, o)
theorem mem_pinsAt {fp : List Addr} {h : Heap} {b : Addr} {o : Obj} (hb : b ∈ fp) (e : h.get? b = some o) : (b, o) ∈ pinsAt fp h := List.mem_filterMap.mpr ⟨b, hb, by rw [e]; rfl⟩
theorem of_pinsAt {fp : List Addr} {h : Heap} {p : Addr × Obj} (hp : p ∈ pinsAt fp h) : p.1 ∈ fp ∧ h.get? p.1 = some p.2 := by
  obtain ⟨b, hb, e⟩ := List.mem_filterMap.mp hp
  cases q : h.get? b with
  | none => rw [q] at e; cases e
  | some o =>
    rw [q] at e
    have e' : (b, o) = p := Option.some.inj e
    subst e'
    exact ⟨hb, q⟩
theorem Inv.pinned {pins : List (Addr × Obj)} {σ : St} {H : Hp} {s : Shared} {fp : List Addr} (I : Inv X pins σ H s) (hf : ∀ b ∈ fp, FpOk X pins H b) (ho : ∀ b ∈ fp, ∃ o, s.heap.get? b = some o ∧ ∀ v, o.data ≠ .cell v) : Inv X (pins ++ pinsAt fp s.heap) σ H s :=
  I.pins_of fun p hp => (List.mem_append.mp hp).elim (fun z => I.pin p (List.mem_append_right _ z)) fun z => by
    obtain ⟨hb, e⟩ := of_pinsAt z
    obtain ⟨f0, f1, f2, _⟩ := hf p.1 hb
    obtain ⟨o, e', d⟩ := ho p.1 hb
    rw [e] at e'; cases e'
    exact ⟨e, f0, f1, f2, d⟩
theorem Inv.unpinned {pins pl : List (Addr × Obj)} {σ : St} {H : Hp} {s : Shared} (I : Inv X (pins ++ pl) σ H s) : Inv X pins σ H s := I.pins_of fun p hp => I.pin p (List.mem_append_right _ (List.mem_append_left _ hp))
theorem ps_for {iter : Expr} {body : List Stmt} {wi : TI} {g : TG} {tb : TS} {pos : Pos} (hp : PassesOwn (model X.prog X.w) X.A X.env X.xe) (hc : X.calm = true) (hi : PI X tg iter wi) (hg : PG X tg g) (hb : PSs X body tb)
    (hs : ∀ x, foldedSetIterable iter X.env x = pure x := by intro _; rfl) : PS X (.For tg iter body [] pos) (tFor wi g tb) := by
  intro pins s σ H D I h
  refine wpAny_For (thn (hi pins s σ H _ I h) fun v s1 h1 => thn h1 fun itv s2 h2 => ?_) hs
  obtain ⟨it, fp, tn, J, H2, e, I2, T, st2, f2, W, ⟨m0, w0⟩, turn⟩ := h2
  subst e
  -- what stays true of the iterator's objects through the loop
  have stat : ∀ {H' : Hp}, (∀ b ∈ fp, H' b = none) → ∀ b ∈ fp, FpOk X pins H' b := fun hn b hb => ⟨hn b hb, (f2 b hb).2⟩
  refine codeAny_forLoop_any (fun n s' => ∃ i σ' H', Inv X pins σ' H' s' ∧ tn i s'.heap ∧ (∀ b ∈ fp, H' b = none) ∧ W i n σ' H') ?_ m0 ⟨0, σ, H2, I2, st2, fun b hb => (f2 b hb).1, w0⟩
  rintro n s3 ⟨i, σ3, H3, I3, st3, fr3, w3⟩
  rcases turn i n σ3 H3 w3 with ⟨stop, qn⟩ | ⟨go, N, hN, step⟩
  · refine wpAny_passesOwn hp (thn (T.done X rfl rfl rfl hc i pins s3 σ3 H3 X.xe I3 (stat fr3) st3 stop) fun r s4 ⟨hr, I4⟩ => ?_)
    subst hr
    exact wpAny_execs_nil ⟨σ3, H3, I4, qn⟩
  · refine wpAny_passesOwn hp (thn (T.item X rfl rfl rfl hc i pins s3 σ3 H3 X.xe I3 (stat fr3) st3 go) fun r s4 ⟨u, hr, h4⟩ => ?_)
    subst hr
    refine wpAny_passesOwn hp (thn h4 fun _ s5 ⟨x, H5, I5, r5, y5, st5, fr5⟩ => ?_)
    have I5' := I5.pinned (stat fr5) (T.obj _ _ st5)
    refine wpAny_passesOwn hp (thn (hg _ s5 σ3 H5 x u _ I5' r5 (step x H5 y5)) fun _ s6 ⟨σ6, H6, I6, q6⟩ => ?_)
    refine wpAny_passesOwn hp (thn (hb _ s6 σ6 H6 _ I6 q6) fun f s7 q7 => ?_)
    have again : ∀ {σ7 : St} {H7 : Hp}, Inv X (pins ++ pinsAt fp s5.heap) σ7 H7 s7 → N σ7 H7 → ∃ m, m < n ∧ ∃ i σ' H', Inv X pins σ' H' s7 ∧ tn i s7.heap ∧ (∀ b ∈ fp, H' b = none) ∧ W i m σ' H' := fun {σ7 H7} I7 n7 => by
      obtain ⟨m', hm, w7⟩ := hN σ7 H7 n7
      refine ⟨m', hm, i + 1, σ7, H7, I7.unpinned, T.keep _ _ _ st5 fun b hb o e => (I7.pin (b, o) (List.mem_append_right _ (List.mem_append_right _ (mem_pinsAt hb e)))).1, fun b hb => ?_, w7⟩
      obtain ⟨o, e, d⟩ := T.obj _ _ st5 b hb
      exact (I7.pin (b, o) (List.mem_append_right _ (List.mem_append_right _ (mem_pinsAt hb e)))).2.1
    cases f with
    | next => obtain ⟨σ7, H7, I7, n7⟩ := q7; exact again I7 n7
    | cont => obtain ⟨σ7, H7, I7, n7⟩ := q7; exact again I7 n7
    | brk => obtain ⟨σ7, H7, I7, q7⟩ := q7; exact ⟨σ7, H7, I7.unpinned, q7⟩
    | ret v => obtain ⟨x7, σ7, H7, I7, r7, q7⟩ := q7; exact ⟨x7, σ7, H7, I7.unpinned, r7, q7⟩
end

theorem for_range {lo : Int} {n : Nat} {g : TG} {tb : TS} {D : Ends} {σ : St} {H : Hp} (Pv : Nat → St → Hp → Prop) (h0 : Pv 0 σ H)
    (hs : ∀ i σ H, i < n → Pv i σ H → g (.int (lo + i)) σ H fun σ2 H2 => tb { D with nx := Pv (i + 1), ct := Pv (i + 1), bk := D.nx } σ2 H2) (hd : ∀ σ H, Pv n σ H → D.nx σ H) :
    ∃ W : Nat → Nat → St → Hp → Prop, (∃ m, W 0 m σ H) ∧ ∀ i m σ H, W i m σ H →
      ((Itr lo n).stop i H ∧ D.nx σ H) ∨ ((Itr lo n).go i H ∧ ∃ N : St → Hp → Prop, (∀ σ' H', N σ' H' → ∃ m', m' < m ∧ W (i + 1) m' σ' H') ∧ ∀ x H', (Itr lo n).yld i H x H' → g x σ H' fun σ2 H2 => tb { D with nx := N, ct := N, bk := D.nx } σ2 H2) := by
  refine ⟨fun i m σ H => m = n - i ∧ i ≤ n ∧ Pv i σ H, ⟨n, by simp, Nat.zero_le _, h0⟩, ?_⟩
  rintro i m σ H ⟨rfl, hi, p⟩
  by_cases hlt : i < n
  · refine .inr ⟨hlt, Pv (i + 1), fun σ' H' p' => ⟨n - (i + 1), by omega, rfl, hlt, p'⟩, fun x H' y => ?_⟩
    obtain ⟨e, y⟩ := y
    subst e y
    exact hs i σ _ hlt p
  · have e : i = n := by omega
    subst e
    exact .inl ⟨Nat.le_refl _, hd σ H p⟩
/-- while, by a word and a measure of the state -/
theorem while_by {c : TT} {tb : TS} {D : Ends} {σ : St} {H : Hp} (Pv : St → Hp → Prop) (μ : St → Hp → Nat) (h0 : Pv σ H)
    (hs : ∀ σ H, Pv σ H → c σ H fun b H1 => if b = true then tb { D with nx := fun σ' H' => Pv σ' H' ∧ μ σ' H' < μ σ H, ct := fun σ' H' => Pv σ' H' ∧ μ σ' H' < μ σ H, bk := D.nx } σ H1 else D.nx σ H1)
    (mono : ∀ σ H Q Q', (∀ b H1, Q b H1 → Q' b H1) → c σ H Q → c σ H Q') : tWhile c tb D σ H := by
  refine ⟨fun m σ H => m = μ σ H ∧ Pv σ H, ⟨_, rfl, h0⟩, ?_⟩
  rintro m σ H ⟨rfl, p⟩
  refine mono σ H _ _ (fun b H1 q => ?_) (hs σ H p)
  cases b with
  | true => exact ⟨_, fun σ' H' ⟨p', l⟩ => ⟨_, l, rfl, p'⟩, q⟩
  | false => exact q
end L2

namespace L2
open PySem PySem.Spec PyProof.Rows

abbrev R2 := V → V → Hp → VK → Prop
/-- a two-place operation on values: f is binaryOp op, inplaceOp op or compareOp op -/
def OpR (X : Cx) (f : Value → Value → Sem Value) (r : R2) : Prop :=
  ∀ (pins : List (Addr × Obj)) (s : Shared) (σ : St) (H : Hp) (x y : V) (v u : Value) (Q : VK), Inv X pins σ H s → RelV x v → RelV y u → r x y H Q →
    wpAny (model X.prog X.w) X.A (f v u) (EP X pins σ Q) X.xe s
/-- a one-place operation -/
def UnR (X : Cx) (f : Value → Sem Value) (r : V → Hp → VK → Prop) : Prop :=
  ∀ (pins : List (Addr × Obj)) (s : Shared) (σ : St) (H : Hp) (x : V) (v : Value) (Q : VK), Inv X pins σ H s → RelV x v → r x H Q →
    wpAny (model X.prog X.w) X.A (f v) (EP X pins σ Q) X.xe s
/-- a call of a value that is known (a builtin, a type) with values -/
def CallR (X : Cx) (f : Value) (r : List V → Hp → VK → Prop) : Prop :=
  ∀ (pins : List (Addr × Obj)) (s : Shared) (σ : St) (H : Hp) (xs : List V) (us : List Value) (Q : VK), Inv X pins σ H s → Vals xs us → r xs H Q →
    wpAny (model X.prog X.w) X.A (call f us) (EP X pins σ Q) X.xe s
def tOp (r : R2) (ta tb : TE) : TE := fun σ H Q => ta σ H fun x H1 => tb σ H1 fun y H2 => r x y H2 Q
def tUn (r : V → Hp → VK → Prop) (ta : TE) : TE := fun σ H Q => ta σ H fun x H1 => r x H1 Q
/-- ints in, under C, and a value out -/
def rI (C : Int → Int → Prop) (g : Int → Int → V) : R2 := fun x y H Q => ∃ i j, x = .int i ∧ y = .int j ∧ C i j ∧ Q (g i j) H
def rI0 (g : Int → Int → V) : R2 := fun x y H Q => ∃ i j, x = .int i ∧ y = .int j ∧ Q (g i j) H
def rU (g : Int → V) : V → Hp → VK → Prop := fun x H Q => ∃ i, x = .int i ∧ Q (g i) H

section
variable {X : Cx} {a b c : Expr} {ta tb tc : TE} {pos : Pos}

theorem binT (ha : PE X a ta) (hb : PE X b tb) {pins : List (Addr × Obj)} {s : Shared} {σ : St} {H : Hp} {R : V → V → Hp → Prop} (I : Inv X pins σ H s)
    (h : ta σ H fun x H1 => tb σ H1 fun y H2 => R x y H2) {Q : Value → Shared → Prop} {f : Value → Value → Sem Value}
    (hf : ∀ v u s2 x y H2, Inv X pins σ H2 s2 → RelV x v → RelV y u → R x y H2 → wpAny (model X.prog X.w) X.A (f v u) Q X.xe s2) :
    wpAny (model X.prog X.w) X.A (eval a X.env) (fun v s₁ => wpAny (model X.prog X.w) X.A (eval b X.env) (fun u s₂ => wpAny (model X.prog X.w) X.A (f v u) Q X.xe s₂) X.xe s₁) X.xe s := by
  refine thn (ha pins s σ H _ I h) fun v s1 ⟨x, H1, I1, r1, q1⟩ => ?_
  refine thn (hb pins s1 σ H1 _ I1 q1) fun u s2 ⟨y, H2, I2, r2, q2⟩ => ?_
  exact hf v u s2 x y H2 I2 r1 r2 q2

theorem pe_op {op : Operator} {r : R2} (ho : OpR X (binaryOp op) r) (ha : PE X a ta) (hb : PE X b tb) : PE X (.BinOp a op b pos) (tOp r ta tb) := by
  intro pins s σ H Q I h
  exact wpAny_BinOp (binT ha hb I h fun v u s2 x y H2 I2 rx ry q => ho pins s2 σ H2 x y v u Q I2 rx ry q)
theorem pe_un {op : UnaryOp} {r : V → Hp → VK → Prop} (ho : UnR X (unaryOp op) r) (ha : PE X a ta) : PE X (.UnaryOp op a pos) (tUn r ta) := by
  intro pins s σ H Q I h
  exact UnaryOp_ (thn (ha pins s σ H _ I h) fun v s1 ⟨x, H1, I1, r1, q1⟩ => ho pins s1 σ H1 x v Q I1 r1 q1)
/-! ### ints -/
theorem opI {f : Value → Value → Sem Value} {C : Int → Int → Prop} {g : Int → Int → Int}
    (rule : ∀ (i j : Int) (t u : Tok) (s : Shared) (Q : Value → Shared → Prop) (E : Value → Shared → Prop), C i j → Q (.int (g i j) s.toks) { s with toks := s.toks + 1 } → wpAny (model X.prog X.w) X.A (f (.int i t) (.int j u)) Q E s) :
    OpR X f (rI C fun i j => .int (g i j)) := by
  intro pins s σ H x y v u Q I rx ry h
  obtain ⟨i, j, rfl, rfl, hc, q⟩ := h
  obtain ⟨t, rfl⟩ := rx
  obtain ⟨t', rfl⟩ := ry
  exact rule i j t t' s _ _ hc ⟨.int (g i j), H, I.tok _, ⟨_, rfl⟩, q⟩
theorem opI0 {f : Value → Value → Sem Value} {g : Int → Int → Int}
    (rule : ∀ (i j : Int) (t u : Tok) (s : Shared) (Q : Value → Shared → Prop) (E : Value → Shared → Prop), Q (.int (g i j) s.toks) { s with toks := s.toks + 1 } → wpAny (model X.prog X.w) X.A (f (.int i t) (.int j u)) Q E s) :
    OpR X f (rI0 fun i j => .int (g i j)) := by
  intro pins s σ H x y v u Q I rx ry h
  obtain ⟨i, j, rfl, rfl, q⟩ := h
  obtain ⟨t, rfl⟩ := rx
  obtain ⟨t', rfl⟩ := ry
  exact rule i j t t' s _ _ ⟨.int (g i j), H, I.tok _, ⟨_, rfl⟩, q⟩
theorem opB0 {f : Value → Value → Sem Value} {g : Int → Int → Bool}
    (rule : ∀ (i j : Int) (t u : Tok) (s : Shared) (Q : Value → Shared → Prop) (E : Value → Shared → Prop), Q (.bool (g i j)) s → wpAny (model X.prog X.w) X.A (f (.int i t) (.int j u)) Q E s) :
    OpR X f (rI0 fun i j => .bl (g i j)) := by
  intro pins s σ H x y v u Q I rx ry h
  obtain ⟨i, j, rfl, rfl, q⟩ := h
  obtain ⟨t, rfl⟩ := rx
  obtain ⟨t', rfl⟩ := ry
  exact rule i j t t' s _ _ ⟨.bl (g i j), H, I, rfl, q⟩

def CPow (i j : Int) : Prop := 0 ≤ j ∧ j ≤ 1000000 ∧ i.natAbs < 2 ^ 64
def CMul (i j : Int) : Prop := (-(2 ^ 64) < i ∧ i < 2 ^ 64) ∨ (-(2 ^ 64) < j ∧ j < 2 ^ 64)
theorem CMul.ok {i j : Int} (h : CMul i j) : IntMulOk i j := by
  rcases h with ⟨h1, h2⟩ | ⟨h1, h2⟩
  · exact .of_left (intBits_le_64 h1 h2)
  · exact .of_right (intBits_le_64 h1 h2)
theorem op_add : OpR X (binaryOp .Add) (rI0 fun i j => .int (i + j)) := opI0 fun _ _ _ _ _ _ _ q => add_int q
theorem op_sub : OpR X (binaryOp .Sub) (rI0 fun i j => .int (i - j)) := opI0 fun _ _ _ _ _ _ _ q => sub_int q
/-- % by a positive divisor of any size -/
theorem op_mod : OpR X (binaryOp .Mod) (rI (fun _ j => 0 < j) fun i j => .int (i % j)) := opI fun i j _ _ _ _ _ hc q => by
  have h1 : (0 : Int) < j := hc
  exact mod_int' (by omega) (by rw [Int.fmod_eq_emod_of_nonneg i (by omega)]; exact q)
theorem op_pow : OpR X (binaryOp .Pow) (rI CPow fun i j => .int (i ^ j.toNat)) := opI fun _ _ _ _ _ _ _ hc q => pow_int_small hc.1 hc.2.1 hc.2.2 q
theorem unI {f : Value → Sem Value} {g : Int → Int}
    (rule : ∀ (i : Int) (t : Tok) (s : Shared) (Q : Value → Shared → Prop) (E : Value → Shared → Prop), Q (.int (g i) s.toks) { s with toks := s.toks + 1 } → wpAny (model X.prog X.w) X.A (f (.int i t)) Q E s) :
    UnR X f (rU fun i => .int (g i)) := by
  intro pins s σ H x v Q I rx h
  obtain ⟨i, rfl, q⟩ := h
  obtain ⟨t, rfl⟩ := rx
  exact rule i t s _ _ ⟨.int (g i), H, I.tok _, ⟨_, rfl⟩, q⟩
theorem un_neg : UnR X (unaryOp .USub) (rU fun i => .int (-i)) := unI fun _ _ _ _ _ q => neg_int q
end

/-! ### comparisons -/
/-- the scalars that == tells apart as data does -/
def scal : V → V → Bool
  | .non, .non => true | .non, .int _ => true | .int _, .non => true | .non, .bl _ => true | .bl _, .non => true | .non, .str _ => true | .str _, .non => true
  | .int _, .int _ => true | .bl _, .bl _ => true | .str _, .str _ => true | .byt _, .byt _ => true
  | .int _, .str _ => true | .str _, .int _ => true | .bl _, .str _ => true | .str _, .bl _ => true
  | _, _ => false
def rEq : R2 := fun x y H Q => scal x y = true ∧ Q (.bl (decide (x = y))) H
def rNe : R2 := fun x y H Q => scal x y = true ∧ Q (.bl (!decide (x = y))) H

theorem dec_int {i j : Int} : decide (V.int i = V.int j) = (i == j) := by
  rw [Bool.eq_iff_iff]
  simp
theorem dec_bl {i j : Bool} : decide (V.bl i = V.bl j) = (i == j) := by
  rw [Bool.eq_iff_iff]
  simp
theorem dec_str {i j : Str} : decide (V.str i = V.str j) = (i == j) := by
  rw [Bool.eq_iff_iff]
  simp
theorem dec_byt {i j : Array UInt8} : decide (V.byt i = V.byt j) = (i.toList == j.toList) := by
  rw [Bool.eq_iff_iff]
  cases i
  cases j
  simp

section
variable {X : Cx} {a b c : Expr} {ta tb tc : TE} {pos : Pos}
theorem fin_bl {pins : List (Addr × Obj)} {σ : St} {H : Hp} {s : Shared} {Q : VK} {k k' : Bool} (I : Inv X pins σ H s) (q : Q (.bl k) H) (e : k = k') : EP X pins σ Q (.bool k') s := by
  subst e
  exact ⟨.bl k, H, I, rfl, q⟩
theorem op_eq : OpR X (compareOp .Eq) rEq := by
  intro pins s σ H x y v u Q I rx ry h
  obtain ⟨hs, q⟩ := h
  cases x with
  | non =>
    cases rx
    cases y with
    | non => cases ry; exact PySem.EqNone.eq_none_none (fin_bl I q (by simp))
    | bl j => cases ry; exact PySem.EqNone.eq_none_bool (fin_bl I q (by simp))
    | int j => obtain ⟨t', rfl⟩ := ry; exact PySem.EqNone.eq_none_int (fin_bl I q (by simp))
    | str j => obtain ⟨t', rfl⟩ := ry; exact PySem.EqNone.eq_none_str (fin_bl I q (by simp))
    | _ => exact absurd (show false = true from hs) Bool.false_ne_true
  | bl i =>
    cases rx
    cases y with
    | non => cases ry; exact PySem.EqNone.eq_bool_none (fin_bl I q (by simp))
    | bl j => cases ry; exact eq_bool (fin_bl I q dec_bl)
    | str j => obtain ⟨t', rfl⟩ := ry; exact PySem.EqMixed.eq_bool_str (fin_bl I q (by simp))
    | _ => exact absurd (show false = true from hs) Bool.false_ne_true
  | int i =>
    obtain ⟨t, rfl⟩ := rx
    cases y with
    | non => cases ry; exact PySem.EqNone.eq_int_none (fin_bl I q (by simp))
    | int j => obtain ⟨t', rfl⟩ := ry; exact eq_int (fin_bl I q dec_int)
    | str j => obtain ⟨t', rfl⟩ := ry; exact PySem.EqMixed.eq_int_str (fin_bl I q (by simp))
    | _ => exact absurd (show false = true from hs) Bool.false_ne_true
  | str i =>
    obtain ⟨t, rfl⟩ := rx
    cases y with
    | non => cases ry; exact PySem.EqNone.eq_str_none (fin_bl I q (by simp))
    | bl j => cases ry; exact PySem.EqMixed.eq_str_bool (fin_bl I q (by simp))
    | int j => obtain ⟨t', rfl⟩ := ry; exact PySem.EqMixed.eq_str_int (fin_bl I q (by simp))
    | str j => obtain ⟨t', rfl⟩ := ry; exact eq_str (fin_bl I q dec_str)
    | _ => exact absurd (show false = true from hs) Bool.false_ne_true
  | byt i =>
    obtain ⟨t, rfl⟩ := rx
    cases y with
    | byt j => obtain ⟨t', rfl⟩ := ry; exact PySem.W.eq_bytes (fin_bl I q dec_byt)
    | _ => exact absurd (show false = true from hs) Bool.false_ne_true
  | _ => cases y <;> exact absurd (show false = true from hs) Bool.false_ne_true
theorem op_ne : OpR X (compareOp .NotEq) rNe := by
  intro pins s σ H x y v u Q I rx ry h
  obtain ⟨hs, q⟩ := h
  cases x with
  | non =>
    cases rx
    cases y with
    | non => cases ry; exact PySem.EqNone.ne_none_none (fin_bl I q (by simp))
    | bl j => cases ry; exact PySem.EqNone.ne_none_bool (fin_bl I q (by simp))
    | int j => obtain ⟨t', rfl⟩ := ry; exact PySem.EqNone.ne_none_int (fin_bl I q (by simp))
    | str j => obtain ⟨t', rfl⟩ := ry; exact PySem.EqNone.ne_none_str (fin_bl I q (by simp))
    | _ => exact absurd (show false = true from hs) Bool.false_ne_true
  | bl i =>
    cases rx
    cases y with
    | non => cases ry; exact PySem.EqNone.ne_bool_none (fin_bl I q (by simp))
    | bl j => cases ry; exact ne_bool (fin_bl I q (congrArg not dec_bl))
    | str j => obtain ⟨t', rfl⟩ := ry; exact PySem.EqMixed.ne_bool_str (fin_bl I q (by simp))
    | _ => exact absurd (show false = true from hs) Bool.false_ne_true
  | int i =>
    obtain ⟨t, rfl⟩ := rx
    cases y with
    | non => cases ry; exact PySem.EqNone.ne_int_none (fin_bl I q (by simp))
    | int j => obtain ⟨t', rfl⟩ := ry; exact ne_int (fin_bl I q (congrArg not dec_int))
    | str j => obtain ⟨t', rfl⟩ := ry; exact PySem.EqMixed.ne_int_str (fin_bl I q (by simp))
    | _ => exact absurd (show false = true from hs) Bool.false_ne_true
  | str i =>
    obtain ⟨t, rfl⟩ := rx
    cases y with
    | non => cases ry; exact PySem.EqNone.ne_str_none (fin_bl I q (by simp))
    | bl j => cases ry; exact PySem.EqMixed.ne_str_bool (fin_bl I q (by simp))
    | int j => obtain ⟨t', rfl⟩ := ry; exact PySem.EqMixed.ne_str_int (fin_bl I q (by simp))
    | str j => obtain ⟨t', rfl⟩ := ry; exact ne_str (fin_bl I q (congrArg not dec_str))
    | _ => exact absurd (show false = true from hs) Bool.false_ne_true
  | byt i =>
    obtain ⟨t, rfl⟩ := rx
    cases y with
    | byt j => obtain ⟨t', rfl⟩ := ry; exact PySem.W.ne_bytes (fin_bl I q (congrArg not dec_byt))
    | _ => exact absurd (show false = true from hs) Bool.false_ne_true
  | _ => cases y <;> exact absurd (show false = true from hs) Bool.false_ne_true

theorem op_lt : OpR X (compareOp .Lt) (rI0 fun i j => .bl (decide (i < j))) := opB0 fun _ _ _ _ _ _ _ q => lt_int q
theorem op_le : OpR X (compareOp .LtE) (rI0 fun i j => .bl (decide (i ≤ j))) := opB0 fun _ _ _ _ _ _ _ q => le_int q
theorem op_gt : OpR X (compareOp .Gt) (rI0 fun i j => .bl (decide (j < i))) := opB0 fun _ _ _ _ _ _ _ q => gt_int q
theorem op_ge : OpR X (compareOp .GtE) (rI0 fun i j => .bl (decide (j ≤ i))) := opB0 fun _ _ _ _ _ _ _ q => ge_int q
/-- two rules for one operation: by cases -/
theorem OpR.or {f : Value → Value → Sem Value} {r r' : R2} (h : OpR X f r) (h' : OpR X f r') : OpR X f (fun x y H Q => r x y H Q ∨ r' x y H Q) := by
  intro pins s σ H x y v u Q I rx ry q
  rcases q with q | q
  · exact h pins s σ H x y v u Q I rx ry q
  · exact h' pins s σ H x y v u Q I rx ry q

theorem nomark (b : Expr) {op : CmpOp} (h : op ≠ .In := by decide) (h2 : op ≠ .NotIn := by decide) : behindInMarks op b = false := by
  have e1 : (op == CmpOp.In) = false := by cases op <;> first | rfl | exact absurd rfl h
  have e2 : (op == CmpOp.NotIn) = false := by cases op <;> first | rfl | exact absurd rfl h2
  cases b <;> simp [behindInMarks, e1, e2]
/-- a comparison as a value; hm: nomark b, or (for in, not in) by with_unfolding_all rfl -/
theorem pe_cmpR {op : CmpOp} {r : R2} (ho : OpR X (compareOp op) r) (ha : PE X a ta) (hb : PE X b tb) (hm : behindInMarks op b = false) : PE X (.Compare a [op] [b] pos) (tOp r ta tb) := by
  intro pins s σ H Q I h
  exact wpAny_Compare1 (binT ha hb I h fun v u s2 x y H2 I2 rx ry q => ho pins s2 σ H2 x y v u Q I2 rx ry q) hm
/-- a reading of a value as a test -/
def tTest (t : TE) : TT := fun σ H Q => t σ H fun x H' => ∃ k, x = .bl k ∧ Q k H'
theorem pt_cmpR {op : CmpOp} {r : R2} (ho : OpR X (compareOp op) r) (ha : PE X a ta) (hb : PE X b tb) (hm : behindInMarks op b = false) : PT X (.Compare a [op] [b] pos) (tTest (tOp r ta tb)) := by
  intro pins s σ H Q I h
  refine wpAny_isTrue_Compare1 (thn (ha pins s σ H _ I h) fun v s1 ⟨x, H1, I1, r1, q1⟩ => thn (hb pins s1 σ H1 _ I1 q1) fun u s2 ⟨y, H2, I2, r2, q2⟩ =>
    thn (ho pins s2 σ H2 x y v u _ I2 r1 r2 q2) fun c s3 ⟨z, H3, I3, r3, k, e, q3⟩ => ?_) hm
  subst e
  cases r3
  exact wpAny_truthy_bool ⟨H3, I3, q3⟩
/-- a op1 b op2 c -/
def tChain (r r' : R2) (ta tb tc : TE) : TE := fun σ H Q => ta σ H fun x H1 => tb σ H1 fun y H2 => r x y H2 fun z H3 => ∃ k, z = .bl k ∧
  (if k = true then tc σ H3 fun w' H4 => r' y w' H4 Q else Q (.bl false) H3)
theorem pe_chain {op op' : CmpOp} {r r' : R2} (ho : OpR X (compareOp op) r) (ho' : OpR X (compareOp op') r') (ha : PE X a ta) (hb : PE X b tb) (hc : PE X c tc)
    (hm : lastMarks [op, op'] [b, c] = false := by with_unfolding_all rfl) : PE X (.Compare a [op, op'] [b, c] pos) (tChain r r' ta tb tc) := by
  intro pins s σ H Q I h
  refine Compare_chain (thn (ha pins s σ H _ I h) fun v s1 ⟨x, H1, I1, r1, q1⟩ => chain_link (thn (hb pins s1 σ H1 _ I1 q1) fun u s2 ⟨y, H2, I2, r2, q2⟩ =>
    thn (ho pins s2 σ H2 x y v u _ I2 r1 r2 q2) fun d s3 ⟨z, H3, I3, r3, k, e, q3⟩ => ?_)) hm
  subst e
  cases r3
  refine wpAny_truthy_bool ?_
  cases k with
  | false => exact ite_ff ⟨.bl false, H3, I3, rfl, q3⟩
  | true => exact ite_tt (chain_last (thn (hc pins s3 σ H3 _ I3 q3) fun w' s4 ⟨z', H4, I4, r4, q4⟩ => ho' pins s4 σ H4 y z' u w' Q I4 r2 r4 q4))
theorem pt_chain {op op' : CmpOp} {r r' : R2} (ho : OpR X (compareOp op) r) (ho' : OpR X (compareOp op') r') (ha : PE X a ta) (hb : PE X b tb) (hc : PE X c tc)
    (hm : lastMarks [op, op'] [b, c] = false := by with_unfolding_all rfl) : PT X (.Compare a [op, op'] [b, c] pos) (tTest (tChain r r' ta tb tc)) := by
  intro pins s σ H Q I h
  refine isTrue_chain (thn (ha pins s σ H _ I h) fun v s1 ⟨x, H1, I1, r1, q1⟩ => test_link (thn (hb pins s1 σ H1 _ I1 q1) fun u s2 ⟨y, H2, I2, r2, q2⟩ =>
    thn (ho pins s2 σ H2 x y v u _ I2 r1 r2 q2) fun d s3 ⟨z, H3, I3, r3, k, e, q3⟩ => ?_)) hm
  subst e
  cases r3
  refine wpAny_truthy_bool ?_
  cases k with
  | false =>
    obtain ⟨k', e', q'⟩ := q3
    cases e'
    exact ite_ff ⟨H3, I3, q'⟩
  | true =>
    refine ite_tt (test_last (thn (hc pins s3 σ H3 _ I3 q3) fun w' s4 ⟨z', H4, I4, r4, q4⟩ => thn (ho' pins s4 σ H4 y z' u w' _ I4 r2 r4 q4) fun d' s5 ⟨z2, H5, I5, r5, k2, e2, q5⟩ => ?_))
    subst e2
    cases r5
    exact wpAny_truthy_bool ⟨H5, I5, q5⟩

theorem line63 : (sizeLine : Nat) < 2 ^ 63 := by rw [sizeLine_eq]; decide
theorem op_add_str : OpR X (binaryOp .Add) (fun x y H Q => ∃ i j, x = .str i ∧ y = .str j ∧ i.length + j.length ≤ sizeLine ∧ Q (.str (i ++ j)) H) := by
  intro pins s σ H x y v u Q I rx ry h
  obtain ⟨i, j, rfl, rfl, hz, q⟩ := h
  obtain ⟨t, rfl⟩ := rx
  obtain ⟨t', rfl⟩ := ry
  exact add_str (fun t' tk => ⟨.str (i ++ j), H, I.tok _, ⟨_, rfl⟩, q⟩) hz
/-! ### scalar builtins, by CallR -/
theorem vals1 {x : V} {us : List Value} (r : Vals [x] us) : ∃ u, us = [u] ∧ RelV x u := by
  cases r with
  | cons r1 r2 => cases r2; exact ⟨_, rfl, r1⟩
theorem vals2 {x y : V} {us : List Value} (r : Vals [x, y] us) : ∃ u w', us = [u, w'] ∧ RelV x u ∧ RelV y w' := by
  cases r with
  | cons r1 r2 =>
    cases r2 with
    | cons r3 r4 => cases r4; exact ⟨_, _, rfl, r1, r3⟩
theorem call_max2 (hc : X.calm = true) : CallR X (.builtin "max") (fun xs H Q => ∃ i j, xs = [.int i, .int j] ∧ Q (.int (if j > i then j else i)) H) := by
  intro pins s σ H xs us Q I r h
  obtain ⟨i, j, rfl, q⟩ := h
  obtain ⟨u, w', rfl, ⟨t, rfl⟩, ⟨t', rfl⟩⟩ := vals2 r
  refine max_two_ints (I.ok.hd hc) fun h' tk k => ⟨_, H, I.kept k, ?_, q⟩
  by_cases hj : j > i
  · rw [if_pos hj, if_pos hj]; exact ⟨_, rfl⟩
  · rw [if_neg hj, if_neg hj]; exact ⟨_, rfl⟩
theorem call_int1 : CallR X (.type "int") (fun xs H Q => (∃ i, xs = [.int i] ∧ Q (.int i) H) ∨ ∃ k, xs = [.bl k] ∧ Q (.int (if k then 1 else 0)) H) := by
  intro pins s σ H xs us Q I r h
  rcases h with ⟨i, rfl, q⟩ | ⟨k, rfl, q⟩
  · obtain ⟨u, rfl, t, rfl⟩ := vals1 r
    exact call_int_int ⟨.int i, H, I, ⟨_, rfl⟩, q⟩
  · obtain ⟨u, rfl, r1⟩ := vals1 r
    cases r1
    exact call_int_bool ⟨.int (if k then 1 else 0), H, I.tok _, ⟨_, rfl⟩, q⟩
end
end L2

namespace L2
open PySem PySem.Spec PyProof.Rows

/-! ### an instance, its attributes a map -/
structure ObjM (h : Heap) (x dx C : Addr) (mA : Str → Option Value) : Prop where
  obj : h.get? x = some (PySem.W.instObj C dx)
  ns : h.Ns1 dx mA
  ne : dx ≠ x

theorem lookIn_ns {h : Heap} {dx : Addr} {mA : Str → Option Value} (n : h.Ns1 dx mA) : ∃ od, h.get? dx = some od ∧ ∀ name, PySem.W.lookIn name od = some (mA name) := by
  obtain ⟨o, es, ep, ho, hd, hk, _, hm⟩ := n
  refine ⟨o, ho, fun name => ?_⟩
  have e := hm name
  unfold nsFind findBy at e
  rw [← Array.find?_toList] at e
  unfold PySem.W.lookIn
  rw [hd]
  dsimp only
  split
  · rename_i y q
    rw [q] at e
    exact congrArg some e
  · rename_i q
    rw [q] at e
    have a : es.toList.any (·.refKey) = false := by
      rw [List.any_eq_false]
      intro y hy
      obtain ⟨z, t, hkey⟩ := hk y (Array.mem_toList_iff.mp hy)
      simp [DictEntry.refKey, hkey]
    have a' : ¬ es.toList.any (·.refKey) = true := by rw [a]; exact Bool.false_ne_true
    rw [if_neg a']
    exact congrArg some e

theorem ObjM.look {h : Heap} {x dx C : Addr} {mA : Str → Option Value} (I : ObjM h x dx C mA) : ∃ od, PySem.W.InstAt h x (PySem.W.instObj C dx) C (some od) ∧ ∀ name, PySem.W.lookIn name od = some (mA name) :=
  let ⟨od, ho, hl⟩ := lookIn_ns I.ns
  ⟨od, ⟨I.obj, rfl, rfl, ho⟩, hl⟩

section
variable {prog : Program} {w : World} {A : Around} {E : Value → Shared → Prop} {s : Shared} {K : PySem.W.Frag} {x dx C f : Addr} {mA : Str → Option Value} {name : Str} {v : Value}

theorem get_map {expr : Bool} {Q : Value → Shared → Prop} (X : K.In s.heap) (I : ObjM s.heap x dx C mA) (hg : PySem.W.plainGet K C name = true) (hh : PySem.W.hasDictIn K C = true)
    (ha : PySem.W.findIn K (.ref C) name = some none) (hv : mA name = some v) (hv' : PySem.W.handedIn v = true) (h : Q v { s with toks := s.toks + 1 }) :
    wpAny (model prog w) A (getAttr (.ref x) name expr) Q E s := by
  obtain ⟨od, J, hl⟩ := I.look
  exact PySem.W.get_value X J (PySem.W.plainGet_of hg).1 (PySem.W.findObj_own hh ha rfl (by rw [hl, hv])) hv' h

theorem get_meth {pl : Sem Bool} {Q : Value × List Value → Shared → Prop} (X : K.In s.heap) (I : ObjM s.heap x dx C mA) (hg : PySem.W.plainGet K C name = true)
    (hf : PySem.W.findIn K (.ref C) name = some (some (.ref f))) (ht : PySem.W.isFn K (.ref f) = true) (hv : mA name = none) (h : Q (.ref f, [.ref x]) s) :
    wpAny (model prog w) A (getMethod (.ref x) name pl) Q E s := by
  obtain ⟨od, J, hl⟩ := I.look
  exact PySem.W.method_fn X J (PySem.W.plainGet_of hg).1 (PySem.W.plainGet_of hg).2 hf (beq_iff_eq.mp ht) (by show (PySem.W.lookIn name od).map (·.isSome) = some false; rw [hl, hv]; rfl) h

theorem set_map {ns : List Str} {Q : Unit → Shared → Prop} (X : K.In s.heap) (I : ObjM s.heap x dx C mA)
    (hs : PySem.W.findIn K (.ref C) "__setattr__" = some (some (.builtin "object.__setattr__"))) (hp : PySem.W.plainOver K C = true) (ht : PySem.W.takerIn K C name = some none) (hh : PySem.W.hasDictIn K C = true)
    (hw : PySem.Within mA ns) (hsz : ns.length ≤ sizeLine)
    (h : ∀ h', ObjM h' x dx C (fun y => if y = name then some v else mA y) → Heap.SameBut dx s.heap h' → Q () { s with heap := h', toks := s.toks + 2 }) :
    wpAny (model prog w) A (setAttr (.ref x) name v) Q E s := by
  obtain ⟨od, J, hl⟩ := I.look
  refine PySem.W.set_plain X J hs (PySem.W.osa_open (s := { s with toks := s.toks + 1 }) (r := none) X J hp ht fun b => ?_)
  obtain ⟨cd, hc, hd'⟩ := PySem.W.any_some hh
  have hx : s.heap.get? x = some ⟨.ref C, some dx, .plain, #[]⟩ := I.obj
  refine wpAny_bind (wpAny_pure (wpAny_bind (wpAny_bind (wpAny_loadPart hx (wpAny_bind (PySem.W.Looks.here (s := { s with toks := s.toks + 1 }) (PySem.W.looks_clsIn X hc) ?_))))))
  rw [hd']
  refine wpAny_pure (a := some dx) (wpAny_bind (wpAny_pure (wpAny_bind ?_)))
  refine wpAny_nsSet1 (s := { s with toks := s.toks + 1 }) I.ns fun h' hn2 hs2 => ?_
  obtain ⟨oD, esD, epD, hoD, hdD, hcD⟩ := hn2.count (PySem.Within.cons name v hw)
  refine wpAny_bind (wpAny_lookBehind hoD (by rw [hdD]; exact pastItsLine_dict (Nat.le_trans hcD (by rw [List.length_cons]; omega))) ?_)
  exact wpAny_pure (h _ ⟨(hs2.2 _ (Ne.symm I.ne)).trans I.obj, hn2, I.ne⟩ hs2)

/-- C(..): the dict at the heap's end, the instance behind it; then its __init__ -/
theorem make_map {R : Result → Shared → Prop} {vs : List Value} {kw : List (Str × Value)} (X : K.In s.heap) (hm : PySem.W.makesIn K C = true)
    (hi : PySem.W.findIn K (.ref C) "__init__" = some (some (.ref f))) (hf : PySem.W.typeIn K (.ref f) = some (.type "function"))
    (h : codeAny (model prog w) (A.under (.builtin "type.__call__" ⟨.ref C :: vs, kw⟩)) (.call (.ref f) ⟨.ref (s.heap.objs.size + 1) :: vs, kw⟩) (PySem.W.InitBack (s.heap.objs.size + 1) R)
      { s with heap := (s.heap.push PySem.W.emptyDict).push (PySem.W.instObj C s.heap.objs.size) }) :
    codeAny (model prog w) A (.call (.ref C) ⟨vs, kw⟩) R s := by
  obtain ⟨hh, g, d, t, os⟩ := s
  exact PySem.W.make_core (PySem.W.makes_of X hm) (PySem.W.looks_findIn X hi) (fun self => PySem.W.bind_fn X self hf) (.inl rfl) h
end

/-! ### the attributes as a list of pairs -/
def putF (f : Str) (v : V) : List (Str × V) → List (Str × V)
  | [] => [(f, v)]
  | (g, x) :: r => if g = f then (g, v) :: r else (g, x) :: putF f v r
theorem lookup_putF (f g : Str) (v : V) : ∀ fs : List (Str × V), (putF f v fs).lookup g = if g = f then some v else fs.lookup g
  | [] => by
    show List.lookup g [(f, v)] = _
    by_cases h : g = f
    · have hb : (g == f) = true := beq_iff_eq.mpr h
      simp only [List.lookup, hb, if_pos h]
    · have hb : (g == f) = false := beq_eq_false_iff_ne.mpr h
      simp only [List.lookup, hb, if_neg h]
  | (k, x) :: r => by
    have ih := lookup_putF f g v r
    rw [show putF f v ((k, x) :: r) = (if k = f then (k, v) :: r else (k, x) :: putF f v r) from rfl]
    by_cases hk : k = f
    · rw [if_pos hk]
      by_cases h : g = k
      · have hb : (g == k) = true := beq_iff_eq.mpr h
        simp only [List.lookup, hb, if_pos (h.trans hk)]
      · have hb : (g == k) = false := beq_eq_false_iff_ne.mpr h
        simp only [List.lookup, hb, if_neg (fun e : g = f => h (e.trans hk.symm))]
    · rw [if_neg hk]
      by_cases h : g = k
      · have hb : (g == k) = true := beq_iff_eq.mpr h
        simp only [List.lookup, hb, if_neg (fun e : g = f => hk (h.symm.trans e))]
      · have hb : (g == k) = false := beq_eq_false_iff_ne.mpr h
        simp only [List.lookup, hb]
        exact ih
theorem keys_putF (f : Str) (v : V) : ∀ fs : List (Str × V), f ∈ (putF f v fs).map (·.1) ∧ ∀ g, g ∈ fs.map (·.1) → g ∈ (putF f v fs).map (·.1)
  | [] => ⟨by simp [putF], fun g h => by simp at h⟩
  | (k, x) :: r => by
    obtain ⟨i1, i2⟩ := keys_putF f v r
    rw [show putF f v ((k, x) :: r) = (if k = f then (k, v) :: r else (k, x) :: putF f v r) from rfl]
    by_cases hk : k = f
    · rw [if_pos hk]
      subst hk
      exact ⟨by simp, fun g h => by simpa using h⟩
    · rw [if_neg hk]
      refine ⟨?_, fun g h => ?_⟩
      · rw [List.map_cons]
        exact List.mem_cons_of_mem _ i1
      · rw [List.map_cons] at h ⊢
        rcases List.mem_cons.mp h with e | e
        · exact List.mem_cons.mpr (.inl e)
        · exact List.mem_cons_of_mem _ (i2 g e)
theorem length_putF (f : Str) (v : V) : ∀ fs : List (Str × V), (putF f v fs).length ≤ fs.length + 1
  | [] => by simp [putF]
  | (k, x) :: r => by
    have ih := length_putF f v r
    rw [show putF f v ((k, x) :: r) = (if k = f then (k, v) :: r else (k, x) :: putF f v r) from rfl]
    by_cases hk : k = f
    · rw [if_pos hk, List.length_cons, List.length_cons]; omega
    · rw [if_neg hk, List.length_cons, List.length_cons]; omega

theorem RelO.some_of {v : V} {o : Option Value} (r : RelO (some v) o) : ∃ u, o = some u ∧ RelV v u := by
  cases o with
  | none => exact (show False from r).elim
  | some u => exact ⟨u, rfl, r⟩
theorem RelO.none_of {o : Option Value} (r : RelO none o) : o = none := by
  cases o with
  | none => rfl
  | some u => exact (show False from r).elim
theorem handed_of {v : V} {u : Value} (r : RelV v u) : PySem.W.handedIn u = true := by
  cases v with
  | non => cases (show u = Value.none from r); rfl
  | bl b => cases (show u = Value.bool b from r); rfl
  | int i => obtain ⟨t, e⟩ := (show ∃ t, u = Value.int i t from r); cases e; rfl
  | str x => obtain ⟨t, e⟩ := (show ∃ t, u = Value.str x t from r); cases e; rfl
  | byt b => obtain ⟨t, e⟩ := (show ∃ t, u = Value.bytes b t from r); cases e; rfl
  | flt b => obtain ⟨t, e⟩ := (show ∃ t, u = Value.float b t from r); cases e; rfl
  | ref a => cases (show u = Value.ref a from r); rfl
  | ty n => cases (show u = Value.type n from r); rfl

section
variable {P : Program} {w : World} {H H' : Hp} {h h' : Heap} {a C dx : Addr} {fs fs' : List (Str × V)}
theorem ins_get (hok : HOk P w H h) (e : H a = some (.ins C dx fs)) : ∃ mA, ObjM h a dx C mA ∧ (∀ f, RelO (fs.lookup f) (mA f)) ∧ PySem.Within mA (fs.map (·.1)) ∧ fs.length ≤ 1000 ∧ H dx = some (.own a) := by
  obtain ⟨d, z, ne, ob, mA, n, r, q⟩ := (show ObjOk P w H h a (.ins C dx fs) from hok a _ e)
  exact ⟨mA, ⟨ob, n, ne⟩, r, q, z, d⟩
end

/-! ### what of the text a class must have -/
structure Cls (K : PySem.W.Frag) (C : Addr) : Prop where
  pg : PySem.W.plainGet K C Str.empty = true
  hd : PySem.W.hasDictIn K C = true
  po : PySem.W.plainOver K C = true
  sa : PySem.W.findIn K (.ref C) "__setattr__" = some (some (.builtin "object.__setattr__"))
theorem Cls.get {K : PySem.W.Frag} {C : Addr} (c : Cls K C) (f : Str) : PySem.W.plainGet K C f = true := c.pg
/-- no class of it has the name -/
def NoAttr (K : PySem.W.Frag) (C : Addr) (f : Str) : Prop := PySem.W.findIn K (.ref C) f = some none
theorem NoAttr.taker {K : PySem.W.Frag} {C : Addr} {f : Str} (n : NoAttr K C f) : PySem.W.takerIn K C f = some none := by
  unfold PySem.W.takerIn
  rw [show PySem.W.findIn K (.ref C) f = some none from n]
  rfl
/-- a method: a plain def of the class or of one above it -/
structure Meth (K : PySem.W.Frag) (C : Addr) (m : Str) (f : Addr) : Prop where
  at_ : PySem.W.findIn K (.ref C) m = some (some (.ref f))
  fn : PySem.W.isFn K (.ref f) = true
  kp : PySem.W.keepIn K (.ref f) = true

section
variable {X : Cx} {pins : List (Addr × Obj)} {σ : St} {H : Hp} {s : Shared} {a C dx : Addr} {fs : List (Str × V)} {f : Str} {v : V} {A : Around} {E : Value → Shared → Prop}

theorem getattr_ok {b : Bool} {Q : Value → Shared → Prop} (I : Inv X pins σ H s) (e : H a = some (.ins C dx fs)) (c : Cls X.K C) (n : NoAttr X.K C f) (l : fs.lookup f = some v)
    (h : ∀ u s', Inv X pins σ H s' → RelV v u → Q u s') : wpAny (model X.prog X.w) A (getAttr (.ref a) f b) Q E s := by
  obtain ⟨mA, O, r, _, _, _⟩ := ins_get I.hok e
  obtain ⟨u, hu, ru⟩ := RelO.some_of (v := v) (o := mA f) (by rw [← l]; exact r f)
  exact get_map I.kIn O (c.get f) c.hd n hu (handed_of ru) (h u _ (I.tok _) ru)

theorem getmeth_ok {m : Str} {g : Addr} {pl : Sem Bool} {Q : Value × List Value → Shared → Prop} (I : Inv X pins σ H s) (e : H a = some (.ins C dx fs)) (c : Cls X.K C) (k : Meth X.K C m g) (l : fs.lookup m = none)
    (h : Q (.ref g, [.ref a]) s) : wpAny (model X.prog X.w) A (getMethod (.ref a) m pl) Q E s := by
  obtain ⟨mA, O, r, _, _, _⟩ := ins_get I.hok e
  have hn : mA m = none := RelO.none_of (by rw [← l]; exact r m)
  exact get_meth I.kIn O (c.get m) k.at_ k.fn hn h

theorem setattr_ok {y : V} {u : Value} {Q : Unit → Shared → Prop} (I : Inv X pins σ H s) (e : H a = some (.ins C dx fs)) (c : Cls X.K C) (n : NoAttr X.K C f) (hl : fs.length < 1000) (ry : RelV y u)
    (h : ∀ s', Inv X pins σ (upd H a (.ins C dx (putF f y fs))) s' → Q () s') : wpAny (model X.prog X.w) A (setAttr (.ref a) f u) Q E s := by
  obtain ⟨mA, O, r, wi, _, ho⟩ := ins_get I.hok e
  have hz : (fs.map (·.1)).length ≤ sizeLine := by rw [List.length_map, sizeLine_eq]; omega
  refine set_map I.kIn O c.sa c.po n.taker c.hd wi hz fun h' O' sb => h _ ?_
  have hd : ∃ o, h'.get? dx = some o := let ⟨o, _, _, e', _⟩ := O'.ns; ⟨o, e'⟩
  refine I.write (x := a) (e := dx) (by rw [e]; exact True.intro) (.inr ho) (fun b q hb z => (sb.2 b hb).trans z) hd ?_
  refine ⟨by rw [upd_ne O.ne]; exact ho, ?_, O.ne, O'.obj, _, O'.ns, fun g => ?_, fun g hg => ?_⟩
  · have := length_putF f y fs; omega
  · show RelO ((putF f y fs).lookup g) (if g = f then some u else mA g)
    rw [lookup_putF]
    by_cases q : g = f
    · rw [if_pos q, if_pos q]; exact ry
    · rw [if_neg q, if_neg q]; exact r g
  · by_cases q : g = f
    · rw [q]; exact (keys_putF f y fs).1
    · refine (keys_putF f y fs).2 g (wi g fun z => hg ?_)
      show (if g = f then some u else mA g) = none
      rw [if_neg q]; exact z

/-- a new instance, tracked, without attributes -/
theorem Inv.made (I : Inv X pins σ H s) : Inv X pins σ (upd (upd H s.heap.objs.size (.own (s.heap.objs.size + 1))) (s.heap.objs.size + 1) (.ins C s.heap.objs.size []))
    { s with heap := (s.heap.push PySem.W.emptyDict).push (PySem.W.instObj C s.heap.objs.size) } := by
  have e1 : (s.heap.push PySem.W.emptyDict).get? s.heap.objs.size = some PySem.W.emptyDict := Heap.get?_push_size s.heap rfl
  have e2 : ((s.heap.push PySem.W.emptyDict).push (PySem.W.instObj C s.heap.objs.size)).get? (s.heap.objs.size + 1) = some (PySem.W.instObj C s.heap.objs.size) := by
    have := Heap.get?_push_size (s.heap.push PySem.W.emptyDict) (o := PySem.W.instObj C s.heap.objs.size) rfl
    rwa [Heap.size_push] at this
  have e3 : (s.heap.push PySem.W.emptyDict).Ns s.heap.objs.size (fun _ => none) := ⟨PySem.W.emptyDict, #[], _, e1, rfl, (fun e he => absurd he (by simp)), fun _ => rfl⟩
  have I1 := I.laid (a := s.heap.objs.size) (o := .own (s.heap.objs.size + 1)) (h' := s.heap.push PySem.W.emptyDict) (t' := s.toks) (fun b u q => Heap.get?_push_of_some _ q) (Nat.le_refl _) ⟨_, e1⟩
  refine I1.laid (a := s.heap.objs.size + 1) (o := .ins C s.heap.objs.size []) (t' := s.toks) (fun b u q => Heap.get?_push_of_some _ q) (Nat.le_of_eq (Heap.size_push _ _)) ?_
  have ne : s.heap.objs.size ≠ s.heap.objs.size + 1 := Nat.ne_of_lt (Nat.lt_succ_self _)
  refine ⟨by rw [upd_ne ne, upd_same], Nat.zero_le _, ne, e2, fun _ => none, (Heap.Ns1.of_empty e3).at fun o q => Heap.get?_push_of_some _ q, fun _ => True.intro, fun y hy => absurd rfl hy⟩

/-- e.f where nothing but the object is asked: through attributeBase (super) and the last hold -/
theorem attr_of {prog : Program} {w : World} {env : Env} {e : Expr} {f : Str} {pos : Pos} {s : Shared} {Q : Value → Shared → Prop} (hb : attributeBase e f env (eval e env) = eval e env)
    (h : wpAny (model prog w) A (eval e env) (fun o s₁ => wpAny (model prog w) A (getAttr o f true) Q E s₁) E s) : wpAny (model prog w) A (eval (.Attribute e f pos) env) Q E s :=
  Attribute_any_ h (by rw [arm_eval_Attribute, hb])
end

/-! ### readings and rules -/
/-- e.f, an attribute of the instance -/
def tFld (K : PySem.W.Frag) (ta : TE) (f : Str) : TE := fun σ H Q => ta σ H fun x H1 => ∃ a C dx fs v, x = .ref a ∧ H1 a = some (.ins C dx fs) ∧ Cls K C ∧ NoAttr K C f ∧ fs.lookup f = some v ∧ Q v H1
/-- e.f = value -/
def sFld (K : PySem.W.Frag) (ta tv : TE) (f : Str) : TS := fun D σ H => tv σ H fun y H1 => ta σ H1 fun x H2 => ∃ a C dx fs, x = .ref a ∧ H2 a = some (.ins C dx fs) ∧ Cls K C ∧ NoAttr K C f ∧ fs.length < 1000 ∧
  D.nx σ (upd H2 a (.ins C dx (putF f y fs)))
section
variable {X : Cx} {o e value : Expr} {f : Str} {pos pos' tpos : Pos} {ta tv : TE}
theorem pe_fld (he : PE X e ta) (hb : attributeBase e f X.env (eval e X.env) = eval e X.env) : PE X (.Attribute e f pos) (tFld X.K ta f) := by
  intro pins s σ H Q I h
  refine attr_of hb (thn (he pins s σ H _ I h) fun u s1 ⟨x, H1, I1, rx, a, C, dx, fs, v, ex, ea, c, n, l, q⟩ => ?_)
  subst ex
  obtain rfl : u = Value.ref a := rx
  exact getattr_ok I1 ea c n l fun u' s2 I2 ru => ⟨v, H1, I2, ru, q⟩
theorem ps_fld (ha : PE X o ta) (hv : PE X value tv) (hs : swapsWith value (some (.Attribute o f pos')) pos.line X.env = pure false) : PS X (.Assign [.Attribute o f pos'] value pos) (sFld X.K ta tv f) := by
  intro pins s σ H D I h
  refine plainObj_wpAny_Assign_Attribute (thn (hv pins s σ H _ I h) fun u s1 ⟨y, H1, I1, ry, q⟩ => thn (ha pins s1 σ H1 _ I1 q) fun ov s2 ⟨x, H2, I2, rx, a, C, dx, fs, ex, ea, c, n, l, q2⟩ => ?_) hs
  subst ex
  obtain rfl : ov = Value.ref a := rx
  exact setattr_ok I2 ea c n l ry fun s3 I3 => ⟨σ, _, I3, q2⟩
end

/-! ### isinstance -/
section
variable {X : Cx} {pins : List (Addr × Obj)} {σ : St} {H : Hp} {s : Shared} {A : Around} {E : Value → Shared → Prop} {Q : Value → Shared → Prop} {c : Value} {b : Bool}
/-- the type of a value, as the fragment's deciders take it; for an instance its class -/
inductive TyOf (K : PySem.W.Frag) (H : Hp) : V → Value → Prop where
  | non : TyOf K H .non (.type "NoneType")
  | bl (x : Bool) : TyOf K H (.bl x) (.type "bool")
  | int (i : Int) : TyOf K H (.int i) (.type "int")
  | str (x : Str) : TyOf K H (.str x) (.type "str")
  | flt (x : UInt64) : TyOf K H (.flt x) (.type "float")
  | lst {a : Addr} {xs : List V} (e : H a = some (.lst xs)) : TyOf K H (.ref a) (.type "list")
  | frz {a : Addr} {o : Obj} {xs : List V} (e : H a = some (.frz o (.lst xs))) : TyOf K H (.ref a) (.type "list")
  | tup {a : Addr} {xs : List V} (e : H a = some (.tup xs)) : TyOf K H (.ref a) (.type "tuple")
  | dK {a : Addr} {kvs : List (Key × V)} (e : H a = some (.dK kvs)) : TyOf K H (.ref a) (.type "dict")
  | dT {a : Addr} {kvs : List (List Key × V)} (e : H a = some (.dT kvs)) : TyOf K H (.ref a) (.type "dict")
  | ins {a C dx : Addr} {fs : List (Str × V)} (e : H a = some (.ins C dx fs)) (cl : Cls K C) (ha : PySem.W.findIn K (.ref C) "__class__" = some (some (.builtin "object.__class__")))
      (hn : PySem.W.specialIn K (.builtin "object.__class__") "__get__" = some (some (.builtin "getset_descriptor.__get__"))) (htk : PySem.W.takesIn K (.builtin "object.__class__") = some true)
      (hm : PySem.W.mroIn K C (.type "object") = some true) : TyOf K H (.ref a) (.ref C)
/-- isinstance(x, c) for one class c, a built-in or an own one: kitOne's answer -/
theorem isinst_ok {x : V} {u t : Value} (I : Inv X pins σ H s) (rx : RelV x u) (ty : TyOf X.K H x t) (e : PySem.W.kitOne X.K t c = some b) (h : ∀ tk, Q (.bool b) { s with toks := tk }) :
    wpAny (model X.prog X.w) A (call (.builtin "isinstance") [u, c]) Q E s := by
  cases ty with
  | non => cases (show u = Value.none from rx); exact PySem.W.kia_one PySem.W.kitx_none I.kIn True.intro e (fun z => nomatch z) h
  | bl y => cases (show u = Value.bool y from rx); exact PySem.W.kia_one PySem.W.kitx_bool I.kIn True.intro e (fun z => nomatch z) h
  | int i => obtain ⟨t, q⟩ := (show ∃ t, u = Value.int i t from rx); cases q; exact PySem.W.kia_one PySem.W.kitx_int I.kIn True.intro e (fun z => nomatch z) h
  | str y => obtain ⟨t, q⟩ := (show ∃ t, u = Value.str y t from rx); cases q; exact PySem.W.kia_one PySem.W.kitx_str I.kIn True.intro e (fun z => nomatch z) h
  | flt y => obtain ⟨t, q⟩ := (show ∃ t, u = Value.float y t from rx); cases q; exact PySem.W.kia_one PySem.W.kitx_float I.kIn True.intro e (fun z => nomatch z) h
  | @lst a xs ea =>
    cases (show u = Value.ref a from rx)
    obtain ⟨_, _, n, _, h1⟩ := (show ObjOk X.prog X.w H s.heap a (.lst xs) from I.hok a _ ea)
    exact PySem.W.kia_one PySem.W.kitx_list I.kIn ⟨_, h1, rfl⟩ e (fun z => nomatch z) h
  | @frz a ob xs ea =>
    cases (show u = Value.ref a from rx)
    obtain ⟨_, _, _, n, _, h1⟩ := (show ObjOk X.prog X.w H s.heap a (.frz ob (.lst xs)) from I.hok a _ ea)
    exact PySem.W.kia_one PySem.W.kitx_list I.kIn ⟨_, h1, rfl⟩ e (fun z => nomatch z) h
  | @tup a xs ea =>
    cases (show u = Value.ref a from rx)
    obtain ⟨_, _, _, p⟩ := (show ObjOk X.prog X.w H s.heap a (.tup xs) from I.hok a _ ea)
    obtain ⟨o, h1, h2, _⟩ := p
    exact PySem.W.kia_one PySem.W.kitx_tuple I.kIn ⟨o, h1, h2⟩ e (fun z => nomatch z) h
  | @dK a kvs ea =>
    cases (show u = Value.ref a from rx)
    obtain ⟨_, _, vs, _, p⟩ := (show ObjOk X.prog X.w H s.heap a (.dK kvs) from I.hok a _ ea)
    obtain ⟨o, es, ep, h1, h2, _⟩ := p
    exact PySem.W.kia_one PySem.W.kitx_dict I.kIn ⟨o, h1, h2.1⟩ e (fun z => nomatch z) h
  | @dT a kvs ea =>
    cases (show u = Value.ref a from rx)
    obtain ⟨_, _, xs, _, o, es, ep, h1, h2, _⟩ := (show ObjOk X.prog X.w H s.heap a (.dT kvs) from I.hok a _ ea)
    exact PySem.W.kia_one PySem.W.kitx_dict I.kIn ⟨o, h1, h2.1⟩ e (fun z => nomatch z) h
  | @ins a C dx fs ea cl ha hn htk hm =>
    cases (show u = Value.ref a from rx)
    obtain ⟨mA, O, _⟩ := ins_get I.hok ea
    obtain ⟨od, J, _⟩ := O.look
    exact PySem.W.kia_one (PySem.W.kitx_own (cl.get _) cl.hd ha hn htk hm) I.kIn J e (fun z => nomatch z) h
end
end L2

namespace L2
open PySem PySem.Spec PyProof.Rows

/-! ### room -/
structure Room (k : Nat) (A : Around) : Prop where
  hd : A.handled = none
  dp : A.depth + 3 * k + 5 < recursionLimit
  un : A.units + 16 * k + 200 < cLine
theorem Room.mono {j k : Nat} {A : Around} (r : Room k A) (h : j ≤ k) : Room j A := ⟨r.hd, by have := r.dp; omega, by have := r.un; omega⟩
theorem Room.deeper {k : Nat} {A : Around} (r : Room (k + 1) A) (env : Env) : Room k (A.deeper env) :=
  ⟨r.hd, by have := r.dp; show A.depth + 1 + 3 * k + 5 < _; omega, by have := r.un; show A.units + 3 + 16 * k + 200 < _; omega⟩
theorem Room.in1 {k : Nat} {A : Around} (r : Room (k + 1) A) : Room k A.in1 :=
  ⟨r.hd, by have := r.dp; show A.depth + 3 * k + 5 < _; omega, by have := r.un; show A.units + 1 + 16 * k + 200 < _; omega⟩
theorem make_depth {A : Around} {C : Addr} {us : List Value} {kw : List (Str × Value)} : (A.under (.builtin "type.__call__" ⟨.ref C :: us, kw⟩)).depth = A.depth + 1 := by
  first | rfl | simp [Around.under, Code.weight, Code.isCreation, Code.isGuard, Code.isCaller, Code.frames, Code.isFrame, guardIds]
theorem make_units {A : Around} {C : Addr} {us : List Value} {kw : List (Str × Value)} : (A.under (.builtin "type.__call__" ⟨.ref C :: us, kw⟩)).units = A.units + 1 := by
  first | rfl | simp [Around.under, Code.cUnits, Code.frames, Code.isFrame]
theorem Room.make {k : Nat} {A : Around} (r : Room (k + 1) A) (C : Addr) (us : List Value) (kw : List (Str × Value)) : Room k (A.under (.builtin "type.__call__" ⟨.ref C :: us, kw⟩)) :=
  ⟨r.hd, by have := r.dp; rw [make_depth]; omega, by have := r.un; rw [make_units]; omega⟩
theorem Room.depth {k : Nat} {A : Around} (r : Room k A) : A.depth < recursionLimit := by have := r.dp; omega
theorem Room.units {k : Nat} {A : Around} (r : Room k A) : A.units + 64 < cLine := by have := r.un; omega
/-! ### argument lists and displays -/
def tNil : TA := fun _ H Q => Q [] H
def tCons (ta : TE) (tr : TA) : TA := fun σ H Q => ta σ H fun x H1 => tr σ H1 fun xs H2 => Q (x :: xs) H2
section
variable {X : Cx} {e : Expr} {es : List Expr} {te : TE} {t : TA} {pos : Pos}
theorem pa_nil : PA X [] tNil := fun _ _ _ _ H Q I h => Calls.spliced_nil ⟨[], H, I, .nil, h⟩
theorem pa_cons (ha : PE X e te) (hr : PA X es t) (hs : starEach (e :: es) X.env = (false, eval e X.env) :: starEach es X.env := by rfl) : PA X (e :: es) (tCons te t) := by
  intro pos pins s σ H Q I h
  rw [hs]
  show wpAny _ _ (spliced ((false, eval e X.env) :: backTo pos (starEach es X.env))) _ _ s
  refine Calls.spliced_cons (thn (ha pins s σ H _ I h) fun u s1 ⟨x, H1, I1, r1, q1⟩ => ?_)
  exact thn (hr pos pins s1 σ H1 _ I1 q1) fun us s2 ⟨xs, H2, I2, r2, q2⟩ => ⟨x :: xs, H2, I2, .cons r1 r2, q2⟩

/-- a tuple, a list of written items -/
def tTup (t : TA) : TE := fun σ H Q => t σ H fun xs H1 => xs.length ≤ sizeLine ∧ ∀ p, H1 p = none → Q (.ref p) (upd H1 p (.tup xs))
def tLst (t : TA) : TE := fun σ H Q => t σ H fun xs H1 => xs.length ≤ sizeLine ∧ ∀ p, H1 p = none → Q (.ref p) (upd H1 p (.lst xs))
theorem pe_tup {x1} (h : PA X es t) : PE X (.Tuple es x1 pos) (tTup t) := by
  intro pins s σ H Q I hq
  refine wpAny_Tuple_spliced (thn (h pos pins s σ H _ I hq) fun us s1 ⟨xs, H1, I1, r, z, q⟩ => ⟨by rw [← r.length]; exact z, ?_⟩)
  have hf : H1 s1.heap.objs.size = none := I1.hok.fresh (Nat.le_refl _)
  refine ⟨.ref s1.heap.objs.size, upd H1 s1.heap.objs.size (.tup xs), I1.laid (t' := s1.toks) (fun b u e => Heap.get?_push_of_some _ e) (Nat.le_refl _) ?_, rfl, q _ hf⟩
  exact ⟨z, us, r, ⟨_, Heap.get?_push_size _ rfl, rfl, _, rfl⟩⟩
theorem pe_lst (h : PA X es t) : PE X (.List es pos) (tLst t) := by
  intro pins s σ H Q I hq
  refine wpAny_List_spliced (thn (h pos pins s σ H _ I hq) fun us s1 ⟨xs, H1, I1, r, z, q⟩ => ⟨by rw [← r.length]; exact z, ?_⟩)
  have hf : H1 s1.heap.objs.size = none := I1.hok.fresh (Nat.le_refl _)
  refine ⟨.ref s1.heap.objs.size, upd H1 s1.heap.objs.size (.lst xs), I1.laid (t' := s1.toks) (fun b u e => Heap.get?_push_of_some _ e) (Nat.le_refl _) ?_, rfl, q _ hf⟩
  exact ⟨z, us, 0, r, Heap.get?_push_size _ rfl⟩
end

/-! ### what a def promises -/
/-- a def's promise: the bound arguments in the parameters' order, the heap, the wanted end, the wanted exception -/
abbrev Sp := List V → Hp → VK → XK → Prop
/-- how an exception lies behind a call (file 08 gives it): the callers' frames, abstract heap and state ahead of the call, the wish, the exception, the state -/
abbrev CXT := List Env → Hp → Shared → XK → Value → Shared → Prop

/-- the state at a call -/
structure Env0 (P : Program) (w : World) (K : PySem.W.Frag) (mg : Str → Option Value) (base : Heap) (A : Around) (outer : List Env) (s : Shared) (H : Hp) : Prop where
  frames : A.frames = some outer
  mod : Mod K mg base
  bs : ∀ b o, base.get? b = some o → s.heap.get? b = some o ∧ H b = none
  bsz : base.objs.size ≤ s.heap.objs.size
  funs : s.heap.FunFrames base outer
  frf : ∀ b ∈ frs outer, H b = none
  hok : HOk P w H s.heap
  bare : AllBare s.gens
/-- a call's end -/
def CE (outer : List Env) (P : Program) (w : World) (H : Hp) (s : Shared) (Q : VK) (u : Value) (s' : Shared) : Prop :=
  ∃ v H', s'.os = s.os ∧ AllBare s'.gens ∧ Un (frs outer) [] H H' s.heap s'.heap ∧ HOk P w H' s'.heap ∧ RelV v u ∧ Q v H'
def CR (CX : CXT) (outer : List Env) (P : Program) (w : World) (H : Hp) (s : Shared) (Q : VK) (E : XK) (r : Result) (s' : Shared) : Prop :=
  match r with
  | .ok (.ret u) => CE outer P w H s Q u s'
  | .ok _ => False
  | .error e => CX outer H s E e s'
structure FnOk (P : Program) (w : World) (K : PySem.W.Frag) (mg : Str → Option Value) (base : Heap) (CX : CXT) (k : Nat) (f : Addr) (fd : FuncData) (ps : List Str) (sp : Sp) : Prop where
  len : ∀ vs H Q E, sp vs H Q E → vs.length = ps.length
  run : ∀ (A : Around) (outer : List Env) (s : Shared) (H : Hp) (args : Args) (us : List Value) (vs : List V) (Q : VK) (E : XK), Room k A → Env0 P w K mg base A outer s H → BindsTo s fd args (ps.zip us) → Vals vs us → sp vs H Q E →
    codeAny (model P w) A (.call (.ref f) args) (CR CX outer P w H s Q E) s
theorem FnOk.mono {P : Program} {w : World} {K : PySem.W.Frag} {mg : Str → Option Value} {base : Heap} {CX : CXT} {j k : Nat} {f : Addr} {fd : FuncData} {ps : List Str} {sp : Sp} (F : FnOk P w K mg base CX j f fd ps sp) (h : j ≤ k) :
    FnOk P w K mg base CX k f fd ps sp := ⟨F.len, fun A outer s H args us vs Q E hr => F.run A outer s H args us vs Q E (hr.mono h)⟩
theorem Env0.make {P : Program} {w : World} {K : PySem.W.Frag} {mg : Str → Option Value} {base : Heap} {A : Around} {outer : List Env} {s : Shared} {H : Hp} (e : Env0 P w K mg base A outer s H) (C : Addr) (us : List Value) (kw : List (Str × Value)) :
    Env0 P w K mg base (A.under (.builtin "type.__call__" ⟨.ref C :: us, kw⟩)) outer s H := ⟨by first | exact e.frames | (simpa [Around.under, Code.envs, Code.isFrame, pushEnvs] using e.frames), e.mod, e.bs, e.bsz, e.funs, e.frf, e.hok, e.bare⟩
theorem Env0.in1 {P : Program} {w : World} {K : PySem.W.Frag} {mg : Str → Option Value} {base : Heap} {A : Around} {outer : List Env} {s : Shared} {H : Hp} (e : Env0 P w K mg base A outer s H) :
    Env0 P w K mg base A.in1 outer s H := ⟨e.frames, e.mod, e.bs, e.bsz, e.funs, e.frf, e.hok, e.bare⟩

section
variable {X : Cx} {pins : List (Addr × Obj)} {σ : St} {H : Hp} {s s' : Shared}
/-- from a body: what a callee wants -/
theorem Inv.env0 (I : Inv X pins σ H s) : Env0 X.prog X.w X.K X.mg X.base X.A X.stack s H :=
  ⟨I.ok.frames, I.ok.mod, I.bs, Nat.le_trans I.ok.bsz I.sz, I.stack, I.stkFree, I.hok, I.bare⟩
/-- behind a call -/
theorem Inv.after {Q : VK} {u : Value} (I : Inv X pins σ H s) (h : CE X.stack X.prog X.w H s Q u s') : EP X pins σ Q u s' := by
  obtain ⟨v, H', os, bare, un, hok, r, q⟩ := h
  obtain ⟨hh, g, d, t, os'⟩ := s'
  obtain rfl : os' = s.os := os
  exact ⟨v, H', I.call (h' := hh) (g' := g) (d' := d) (t' := t) (ch := []) un hok bare (fun b z => absurd z (by simp)), r, q⟩
end

/-- how the parameters are bound: us the positional arguments, kw the keywords' values by name, ds the defaults that fill up -/
def Binds (K : PySem.W.Frag) (fd : FuncData) (ps : List Str) (ds : List Value) : Prop :=
  ∀ (s : Shared) (us : List Value), K.In s.heap → (us ++ ds).length = ps.length → BindsTo s fd ⟨us, []⟩ (ps.zip (us ++ ds))
/-- every parameter is given -/
theorem Binds.all {K : PySem.W.Frag} {fd : FuncData} {ps : List Str} (h : ∀ us : List Value, us.length = ps.length → bindArgs fd ⟨us, []⟩ = pure (ps.zip us)) : Binds K fd ps [] := fun s us _ hl => by
  rw [List.append_nil] at hl ⊢
  exact .of_eq (h us hl)

section
variable {X : Cx} {CX : CXT} {k : Nat} {f C : Addr} {fd : FuncData} {ps : List Str} {sp : Sp} {dvs : List V} {ds : List Value} {E : XK} {x m : Str} {p pos apos : Pos} {e o : Expr} {es : List Expr} {ta : TE} {t : TA}

/-- what a class must have to be made -/
structure Mk (K : PySem.W.Frag) (C f : Addr) : Prop where
  makes : PySem.W.makesIn K C = true
  init : PySem.W.findIn K (.ref C) "__init__" = some (some (.ref f))
  fn : PySem.W.isFn K (.ref f) = true
  kp : PySem.W.keepIn K (.ref C) = true

end

/-! ### keywords -/
/-- the values of the keywords, from the left -/
def PK (X : Cx) (kws : List Keyword) (t : TA) : Prop :=
  ∀ (pos : Pos) (pins : List (Addr × Obj)) (s : Shared) (σ : St) (H : Hp) (Q : List V → Hp → Prop), Inv X pins σ H s → t σ H Q → wpAny (model X.prog X.w) X.A (evalAll ((backToKw pos (keywordEach kws X.env)).map (·.2))) (AP X pins σ Q) X.xe s
section
variable {X : Cx} {CX : CXT} {k : Nat} {f C : Addr} {fd : FuncData} {ps ks : List Str} {sp : Sp} {E : XK} {x m : Str} {p pos apos kpos : Pos} {e o : Expr} {es : List Expr} {kws : List Keyword} {te ta : TE} {t tk : TA} {nm : Option Str}
theorem pk_nil : PK X [] tNil := fun _ _ _ _ H Q I h => wpAny_evalAll_nil ⟨[], H, I, .nil, h⟩
theorem pk_cons (ha : PE X e te) (hr : PK X kws t) : PK X (⟨nm, e, kpos⟩ :: kws) (tCons te t) := by
  intro pos pins s σ H Q I h
  show wpAny _ _ (evalAll ((do let v ← eval e X.env; standAt pos; pure v) :: (backToKw pos (keywordEach kws X.env)).map (·.2))) _ _ s
  refine wpAny_evalAll_cons (wpAny_bind (thn (ha pins s σ H _ I h) fun u s1 ⟨x, H1, I1, r1, q1⟩ => wpAny_bind (wpAny_standAt (wpAny_pure ?_))))
  exact thn (hr pos pins s1 σ H1 _ I1 q1) fun us s2 ⟨xs, H2, I2, r2, q2⟩ => ⟨x :: xs, H2, I2, .cons r1 r2, q2⟩

/-- how a call with keywords binds: g puts the positional values us and the keywords' values ws (names ks) in the parameters' order, defaults among them -/
structure KBinds (K : PySem.W.Frag) (fd : FuncData) (ps ks : List Str) (g : List Value → List Value → List Value) (gV : List V → List V → List V) : Prop where
  to : ∀ (s : Shared) (us ws : List Value), K.In s.heap → (g us ws).length = ps.length → BindsTo s fd ⟨us, ks.zip ws⟩ (ps.zip (g us ws))
  rel : ∀ {vs : List V} {us : List Value} {zs : List V} {ws : List Value}, Vals vs us → Vals zs ws → Vals (gV vs zs) (g us ws)
variable {g : List Value → List Value → List Value} {gV : List V → List V → List V}
end

/-! ### a def's body keeps its promise -/
/-- names: the parameters first -/
structure FnScope (N P : List Str) (sc : Scope) : Prop where
  kind : sc.kind = .function
  co : sc.isCoroutine = false
  gen : sc.isGenerator = false
  nd : N.Nodup
  pre : N.take P.length = P
  par : ∀ x ∈ P, sc.names.lookup x = some .local ∨ sc.names.lookup x = some .cell
  nofree : ∀ y ∈ sc.names, y.2 ≠ .free

theorem bindL_out {kindOf : Str → Option NameKind} {x : Str} : ∀ {binds : List (Str × Value)} {m : Str → Option Value}, (∀ v, (x, v) ∉ binds) → bindL kindOf binds m x = m x
  | [], _, _ => rfl
  | (n, v) :: r, m, h => by
    unfold bindL
    rw [bindL_out fun w hw => h w (List.mem_cons_of_mem _ hw)]
    split
    · have : x ≠ n := by rintro rfl; exact h v List.mem_cons_self
      simp [this]
    · rfl
theorem bindC_out {kindOf : Str → Option NameKind} {x : Str} : ∀ {binds : List (Str × Value)} {m : Str → Option Value}, (∀ v, (x, v) ∉ binds) → bindC kindOf binds m x = m x
  | [], _, _ => rfl
  | (n, v) :: r, m, h => by
    unfold bindC
    rw [bindC_out fun w hw => h w (List.mem_cons_of_mem _ hw)]
    split
    · rfl
    · have : x ≠ n := by rintro rfl; exact h v List.mem_cons_self
      simp [this]
theorem bindL_get {kindOf : Str → Option NameKind} {x : Str} {v : Value} : ∀ {P : List Str} {vs : List Value} {i : Nat} {m : Str → Option Value}, P.Nodup → P[i]? = some x → vs[i]? = some v → kindOf x = some .local →
    bindL kindOf (P.zip vs) m x = some v
  | [], _, _, _, _, h, _, _ => by simp at h
  | _ :: _, [], _, _, _, _, h, _ => by simp at h
  | p :: P, w :: vs, 0, m, nd, h1, h2, hk => by
    simp at h1 h2; subst h1; subst h2
    show bindL kindOf ((p, w) :: P.zip vs) m p = _
    unfold bindL
    rw [bindL_out fun v hv => (List.nodup_cons.mp nd).1 (List.of_mem_zip hv).1, if_pos hk]
    simp
  | p :: P, w :: vs, i + 1, m, nd, h1, h2, hk => by
    show bindL kindOf ((p, w) :: P.zip vs) m x = _
    unfold bindL
    exact bindL_get (i := i) (List.nodup_cons.mp nd).2 (by simpa using h1) (by simpa using h2) hk
theorem bindC_get {kindOf : Str → Option NameKind} {x : Str} {v : Value} : ∀ {P : List Str} {vs : List Value} {i : Nat} {m : Str → Option Value}, P.Nodup → P[i]? = some x → vs[i]? = some v → kindOf x ≠ some .local →
    bindC kindOf (P.zip vs) m x = some v
  | [], _, _, _, _, h, _, _ => by simp at h
  | _ :: _, [], _, _, _, _, h, _ => by simp at h
  | p :: P, w :: vs, 0, m, nd, h1, h2, hk => by
    simp at h1 h2; subst h1; subst h2
    show bindC kindOf ((p, w) :: P.zip vs) m p = _
    unfold bindC
    rw [bindC_out fun v hv => (List.nodup_cons.mp nd).1 (List.of_mem_zip hv).1, if_neg hk]
    simp
  | p :: P, w :: vs, i + 1, m, nd, h1, h2, hk => by
    show bindC kindOf ((p, w) :: P.zip vs) m x = _
    unfold bindC
    exact bindC_get (i := i) (List.nodup_cons.mp nd).2 (by simpa using h1) (by simpa using h2) hk

/-- the names' values at the entry -/
def start (N : List Str) (vs : List V) : St := vs.map some ++ List.replicate (N.length - vs.length) none

/-- the context of a def's body, at its entry; an exception leaves the frame, then lies as CX says -/
def cxOf (CX : CXT) (P : Program) (w : World) (K : PySem.W.Frag) (mg : Str → Option Value) (base : Heap) (N : List Str) (qual : Str) (scope : Scope) (f : Addr) (cd : Value) (A : Around) (outer : List Env) (s : Shared) (H : Hp) (E : XK) : Cx where
  prog := P
  w := w
  K := K
  mg := mg
  base := base
  A := A.deeper (envOfC qual scope s.heap.objs.size f cd)
  N := N
  s₀ := s
  H₀ := H
  env := envOfC qual scope s.heap.objs.size f cd
  outer := outer
  stack := envOfC qual scope s.heap.objs.size f cd :: outer
  ex := []
  calm := true
  fn := fun _ => true
  pn := []
  xe := fun e s' => wpAny (model P w) (A.deeper (envOfC qual scope s.heap.objs.size f cd)) (leaving (envOfC qual scope s.heap.objs.size f cd) e) (fun _ s'' => CX outer H s E e s'') (fun e' s'' => CX outer H s E e' s'') s'

theorem cell_has {sc : Scope} {n : Nat} {x : Str} (h : sc.names.lookup x = some .cell) : ∃ c, (cellsFrom n sc.names []).lookup x = some c := by
  have q := PySem.W.cellsFrom_some sc.names n [] (.inl h)
  exact Option.isSome_iff_exists.mp q

theorem inv_start {CX : CXT} {P : Program} {w : World} {K : PySem.W.Frag} {mg : Str → Option Value} {base : Heap} {N ps : List Str} {qual : Str} {scope : Scope} {f : Addr} {cd : Value} {A : Around} {outer : List Env} {s s1 : Shared} {H : Hp} {E : XK} {us : List Value} {vs : List V}
    (S : FnScope N ps scope) (hd : A.handled = none) (e0 : Env0 P w K mg base A outer s H) (hl : vs.length = ps.length) (r : Vals vs us)
    (x : InCallC s s.heap.objs.size (bindL (envOfC qual scope s.heap.objs.size f cd).kindOf (ps.zip us) fun _ => none) (cellsFrom (s.heap.objs.size + 1) scope.names []) (bindC (envOfC qual scope s.heap.objs.size f cd).kindOf (ps.zip us) fun _ => none) s1) :
    Inv (cxOf CX P w K mg base N qual scope f cd A outer s H E) [] (start N vs) H s1 := by
  have hpl : ps.length ≤ N.length := by have := congrArg List.length S.pre; rw [List.length_take] at this; omega
  obtain ⟨h1, tk, rfl, hk⟩ := x.done
  have noA : ∀ b : Addr, b ∉ (cxOf CX P w K mg base N qual scope f cd A outer s H E).ex := fun b z => absurd (show b ∈ ([] : List Addr) from z) (by simp)
  refine ⟨⟨e0.mod, S.kind, rfl, rfl, Nat.le_refl _, fun y z c h1 h2 => ?_, fun y hy => ?_, fun y c _ h => ?_, fun _ => hd, Around.frames_deeper e0.frames, .inr ⟨rfl, rfl⟩, fun b z => absurd z (noA b), e0.bs, e0.bsz, fun b _ _ => noA b, fun b z => absurd z (noA b), e0.funs, e0.frf⟩,
    rfl, e0.bare, Un.kept hk, ⟨_, x.toInCall.ns, fun i y v h1 h2 h3 => ?_⟩, fun y c h => ⟨_, x.cell y c h⟩, e0.hok.fresh (Nat.le_refl _), fun y c h => ?_, fun p hp => absurd (show p ∈ ([] : List (Addr × Obj)) from hp) (by simp), e0.hok.kept hk, ?_⟩
  · exact name_of_addr x.apart (PySem.mem_of_lookup h1) (PySem.mem_of_lookup h2)
  · have hy : scope.names.lookup y = some .cell ∨ scope.names.lookup y = some .free := hy
    rcases hy with hy | hy
    · exact cell_has hy
    · exact absurd rfl (S.nofree _ (PySem.mem_of_lookup hy))
  · exact Nat.le_of_lt (x.above y c (PySem.mem_of_lookup h))
  · have hi : i < vs.length := by
      unfold start at h2
      by_cases hi : i < vs.length
      · exact hi
      · rw [List.getElem?_append_right (by simpa using hi)] at h2
        rw [List.getElem?_replicate] at h2
        split at h2 <;> cases h2
    have ha : vs[i]? = some v := by
      unfold start at h2
      rw [List.getElem?_append_left (by simpa using hi), List.getElem?_map] at h2
      cases e : vs[i]? with
      | none => rw [e] at h2; cases h2
      | some a => rw [e] at h2; cases h2; rfl
    obtain ⟨u, hu, rv⟩ := r.get ha
    have hp : ps[i]? = some y := by
      rw [← S.pre, List.getElem?_take_of_lt (by omega)]; exact h1
    have ndP : ps.Nodup := by rw [← S.pre]; exact S.nd.sublist (List.take_sublist _ _)
    refine ⟨u, rv, ?_⟩
    rcases S.par y (List.mem_of_getElem? hp) with k | k
    · exact .inl ⟨k, bindL_get ndP hp hu k⟩
    · obtain ⟨c, e⟩ := cell_has (n := s.heap.objs.size + 1) k
      refine .inr ⟨.inl k, c, e, ?_⟩
      have q := x.cell y c e
      rw [bindC_get ndP hp hu (by show scope.names.lookup y ≠ _; rw [k]; decide)] at q
      exact q
  · exact e0.hok.fresh (Nat.le_of_lt (x.above y c (PySem.mem_of_lookup h)))
  · unfold start
    show _ = N.length
    rw [List.length_append, List.length_map, List.length_replicate]
    omega

/-- THE RULE: a def (or a method) of the text, by its body. The body's reading t is chosen for each entry; it is run at the parameters' values -/
theorem fn_of {CX : CXT} {P : Program} {w : World} {K : PySem.W.Frag} {mg : Str → Option Value} {base : Heap} {k : Nat} {f : Addr} {name qual : Str} {params : Arguments} {body : List Stmt} {scope : Scope} {dV kV doc pm cdv ct oc : Value} {an od : Option Addr}
    {osl : Array (Option Value)} {N ps : List Str} {sp : Sp} (lk : K.lookup f = some ⟨oc, od, .func (PySem.W.fnOf name qual params body scope dV kV doc pm an cdv ct), osl⟩) (hcd : PySem.W.codeIn K cdv qual = true) (S : FnScope N ps scope)
    (len : ∀ vs H Q E, sp vs H Q E → vs.length = ps.length)
    (hbody : ∀ (A : Around) (outer : List Env) (s : Shared) (H : Hp) (vs : List V) (Q : VK) (E : XK), Room k (A.deeper (envOfC qual scope s.heap.objs.size f cdv)) → sp vs H Q E →
      ∃ t, PSs (cxOf CX P w K mg base N qual scope f cdv A outer s H E) body t ∧ t { nx := fun _ H' => Q .non H', rt := Q } (start N vs) H) :
    FnOk P w K mg base CX (k + 1) f (PySem.W.fnOf name qual params body scope dV kV doc pm an cdv ct) ps sp := by
  refine ⟨len, fun A outer s H args us vs Q E hr e0 hb r hsp => ?_⟩
  have hl := len _ _ _ _ hsp
  have KX : K.In s.heap := e0.mod.kin.keeps fun b o e => (e0.bs b o e).1
  have lim : s.heap.NoLimit := e0.mod.nolimit.keeps fun b o e => (e0.bs b o e).1
  have hkind : ∀ y ∈ ps.zip us, scope.names.lookup y.1 = some .local ∨ (scope.names.lookup y.1 = some .cell ∧ ((cellsFrom (s.heap.objs.size + 1) scope.names []).lookup y.1).isSome = true) := fun ⟨n, v⟩ hy => by
    rcases S.par n (List.of_mem_zip hy).1 with q | q
    · exact .inl q
    · exact .inr ⟨q, PySem.W.cellsFrom_some _ _ _ (.inl q)⟩
  refine codeAny_call_function hr.depth (KX _ _ lk) rfl S.co S.gen rfl (PySem.W.codeRec_of KX hcd) (hb _ _ _ _ ?_)
  refine wpAny_newFunctionEnv_cells S.kind hkind fun env he s1 x => ?_
  subst he
  refine ⟨lim.keeps x.toInCall.keep, codeAny_func ?_⟩
  obtain ⟨t, ht, hq⟩ := hbody A outer s H vs Q E (hr.deeper _) hsp
  have I : Inv (cxOf CX P w K mg base N qual scope f cdv A outer s H E) [] (start N vs) H s1 := inv_start S hr.hd e0 hl r x
  refine wpAny_mono (ht [] s1 (start N vs) H _ I hq) (fun fl s' hs => ?_) fun e s' hs => hs
  have fin : ∀ {σ' : St} {H' : Hp} {v : V} {u : Value}, Inv (cxOf CX P w K mg base N qual scope f cdv A outer s H E) [] σ' H' s' → RelV v u → Q v H' → CE outer P w H s Q u s' :=
    fun {σ' H' v u} J rv q => ⟨v, H', J.os, J.bare, J.base, J.hok, rv, q⟩
  cases fl with
  | ret u =>
    obtain ⟨v, σ', H', J, rv, q⟩ := hs
    exact fin J rv q
  | next =>
    obtain ⟨σ', H', J, q⟩ := hs
    exact fin (v := V.non) (u := Value.none) J rfl q
  | brk =>
    obtain ⟨_, _, _, q⟩ := hs
    exact False.elim q
  | cont =>
    obtain ⟨_, _, _, q⟩ := hs
    exact False.elim q
end L2

namespace L2
open PySem PySem.Spec PyProof.Rows
section
variable {X : Cx} {x : Str} {p pos : Pos} {e : Expr} {es : List Expr} {t : TA} {id T : String} {r : List V → Hp → VK → Prop}

def tCB (r : List V → Hp → VK → Prop) (t : TA) : TE := fun σ H Q => t σ H fun vs H1 => r vs H1 Q
/-- f(e, ..), f a built-in function -/
theorem pe_callB (hc : CallR X (.builtin id) r) (hg : Gl X x) (hm : X.mg x = none) (hv : bootBuiltins x = some (.builtin id)) (ha : PA X (e :: es) t) (hn : x ≠ "__name__" := by decide) (hdb : (x == ("__debug__" : Str)) = false := by decide)
    (he : starEach (e :: es) X.env = (false, eval e X.env) :: starEach es X.env := by rfl) (hpl : (backTo pos (starEach es X.env)).any (·.1) = false := by rfl) : PE X (.Call (.Name x p) (e :: es) [] pos) (tCB r t) := by
  intro pins s σ H Q I h
  refine wpAny_Call_Name_kw (ld_blt I hg hm hv ?_ hn hdb)
  exact PyProof.Rows.callWith_builtin1 (thn (ha pos pins s σ H _ I h) fun us s1 ⟨vs, H1, I1, r1, q1⟩ => hc pins s1 σ H1 vs us Q I1 r1 q1) he hpl
/-- T(e, ..), T a built-in type -/
theorem pe_callTy (hc : CallR X (.type T) r) (hg : Gl X x) (hm : X.mg x = none) (hv : bootBuiltins x = some (.type T)) (ha : PA X (e :: es) t) (hn : x ≠ "__name__" := by decide) (hdb : (x == ("__debug__" : Str)) = false := by decide)
    (he : starEach (e :: es) X.env = (false, eval e X.env) :: starEach es X.env := by rfl) (hpl : (backTo pos (starEach es X.env)).any (·.1) = false := by rfl) : PE X (.Call (.Name x p) (e :: es) [] pos) (tCB r t) := by
  intro pins s σ H Q I h
  refine wpAny_Call_Name_kw (ld_blt I hg hm hv ?_ hn hdb)
  exact PyProof.Rows.callWith_type1 (thn (ha pos pins s σ H _ I h) fun us s1 ⟨vs, H1, I1, r1, q1⟩ => hc pins s1 σ H1 vs us Q I1 r1 q1) he hpl
end
end L2

namespace HT
open PySem PyProof.Rows

section
open PySem.SeqAt
open PySem.AutoSeq1 (wpAny_loadPart')
open PySem.MeetsSeq PySem.MeetsSeq2 PySem.MeetsSeq3

end

section
variable {prog : Program} {w : World} {A : Around} {E : Value → Shared → Prop} {s : Shared}

end
end HT

namespace L2
open PySem PySem.Spec PyProof.Rows

/-! ### the parts of a slice -/
abbrev TO := St → Hp → (Option Int → Hp → Prop) → Prop
/-- a slice's part (left out, or an int) -/
def PO (X : Cx) (e : Option Expr) (t : TO) : Prop :=
  ∀ (pins : List (Addr × Obj)) (s : Shared) (σ : St) (H : Hp) (Q : Option Int → Hp → Prop), Inv X pins σ H s → t σ H Q →
    wpAny (model X.prog X.w) X.A (evalPart e X.env) (fun u s' => ∃ o H', Inv X pins σ H' s' ∧ IsPart u o ∧ Q o H') X.xe s
section
variable {X : Cx} {e : Expr} {te : TE} {lo hi : Option Expr} {tl th : TO} {pos p2 : Pos}

/-- what a slice of a value is, by values: the slice object stands at sl -/
def SlR (X : Cx) (r : V → Option Int → Option Int → Hp → VK → Prop) : Prop :=
  ∀ (pins : List (Addr × Obj)) (s : Shared) (σ : St) (H : Hp) (x : V) (v vl vu : Value) (lo hi : Option Int) (sl : Addr) (Q : VK), Inv X pins σ H s → RelV x v → s.heap.IsSliceOf sl vl vu .none → IsPart vl lo → IsPart vu hi → r x lo hi H Q →
    ∃ T id, typeLookup (.type T) "__getitem__" = pure (some (.builtin id)) ∧ s.TypeIs v T ∧ wpAny (model X.prog X.w) X.A (getItem v (.ref sl)) (EP X pins σ Q) X.xe s
theorem SlR.or {r r' : V → Option Int → Option Int → Hp → VK → Prop} (h : SlR X r) (h' : SlR X r') : SlR X (fun x lo hi H Q => r x lo hi H Q ∨ r' x lo hi H Q) := by
  intro pins s σ H x v vl vu lo hi sl Q I rx hs pl pu q
  rcases q with q | q
  · exact h pins s σ H x v vl vu lo hi sl Q I rx hs pl pu q
  · exact h' pins s σ H x v vl vu lo hi sl Q I rx hs pl pu q
end
end L2

namespace L2
open PySem PySem.Spec PyProof.Rows

/-! ### places -/
/-- the place that an index of any sign means -/
def ixN (n : Nat) (i : Int) : Option Nat := if 0 ≤ i then (if i < n then some i.toNat else none) else if -(n : Int) ≤ i then some (i + n).toNat else none
def atI {α : Type} (xs : List α) (i : Int) : Option α := (ixN xs.length i).bind fun j => xs[j]?
theorem ixN_seq {n : Nat} {i : Int} {j : Nat} (h : ixN n i = some j) : seqIndex? i n = some j ∧ j < n ∧ -(n : Int) ≤ i ∧ i < n := by
  unfold ixN at h
  by_cases h0 : 0 ≤ i
  · rw [if_pos h0] at h
    by_cases h1 : i < n
    · rw [if_pos h1] at h
      have e : i.toNat = j := Option.some.inj h
      exact ⟨by rw [seqIndex_of h0 h1, e], by omega, by omega, h1⟩
    · rw [if_neg h1] at h; cases h
  · rw [if_neg h0] at h
    by_cases h1 : -(n : Int) ≤ i
    · rw [if_pos h1] at h
      have e : (i + n).toNat = j := Option.some.inj h
      exact ⟨by rw [seqIndex_neg (by omega) h1, e], by omega, h1, by omega⟩
    · rw [if_neg h1] at h; cases h
theorem atI_get {α : Type} {xs : List α} {i : Int} {v : α} (h : atI xs i = some v) : ∃ j, seqIndex? i xs.length = some j ∧ xs[j]? = some v ∧ j < xs.length ∧ -(xs.length : Int) ≤ i ∧ i < xs.length := by
  unfold atI at h
  cases e : ixN xs.length i with
  | none => rw [e] at h; cases h
  | some j =>
    rw [e] at h
    obtain ⟨h1, h2, h3, h4⟩ := ixN_seq e
    exact ⟨j, h1, h, h2, h3, h4⟩
theorem atI_nat {α : Type} {xs : List α} {j : Nat} {v : α} (h : xs[j]? = some v) : atI xs (j : Int) = some v := by
  have hj : j < xs.length := (List.getElem?_eq_some_iff.mp h).1
  have e : ixN xs.length (j : Int) = some j := by
    unfold ixN
    rw [if_pos (by omega), if_pos (by omega)]; simp
  unfold atI; rw [e]; exact h
/-! ### what may be subscripted -/
/-- what stands as an index of a plain subscript -/
def PlainIx (b : Expr) : Prop := ∀ o i, subscripted b false o i = operate [o, i] (getItem o i)
/-- a subscript by values -/
def IxR (X : Cx) (r : R2) : Prop :=
  ∀ (value slice : Expr) (pins : List (Addr × Obj)) (s : Shared) (σ : St) (H : Hp) (x y : V) (v u : Value) (Q : VK), Inv X pins σ H s → RelV x v → RelV y u → r x y H Q →
    subscripted slice false v u = operate [v, u] (getItem v u) → wpAny (model X.prog X.w) X.A (subscriptTail value slice v u) (EP X pins σ Q) X.xe s
/-- a call of a builtin's method by values: the receiver, the arguments -/
def MtR (X : Cx) (id : String) (r : V → List V → Hp → VK → Prop) : Prop :=
  ∀ (pins : List (Addr × Obj)) (s : Shared) (σ : St) (H : Hp) (x : V) (xs : List V) (v : Value) (us : List Value) (Q : VK), Inv X pins σ H s → RelV x v → Vals xs us → r x xs H Q →
    wpAny (model X.prog X.w) X.A (call (.builtin id) (v :: us)) (EP X pins σ Q) X.xe s
section
variable {X : Cx} {a b : Expr} {ta tb : TE} {pos : Pos}
theorem IxR.or {r r' : R2} (h : IxR X r) (h' : IxR X r') : IxR X (fun x y H Q => r x y H Q ∨ r' x y H Q) := by
  intro value slice pins s σ H x y v u Q I rx ry q hs
  rcases q with q | q
  · exact h value slice pins s σ H x y v u Q I rx ry q hs
  · exact h' value slice pins s σ H x y v u Q I rx ry q hs
theorem MtR.or {id : String} {r r' : V → List V → Hp → VK → Prop} (h : MtR X id r) (h' : MtR X id r') : MtR X id (fun x xs H Q => r x xs H Q ∨ r' x xs H Q) := by
  intro pins s σ H x xs v us Q I rx rs q
  rcases q with q | q
  · exact h pins s σ H x xs v us Q I rx rs q
  · exact h' pins s σ H x xs v us Q I rx rs q
/-- a[b] -/
theorem pe_ix {r : R2} (hr : IxR X r) (ha : PE X a ta) (hb : PE X b tb) (hs : PlainIx b) : PE X (.Subscript a b pos) (tOp r ta tb) := by
  intro pins s σ H Q I h
  exact Subscript_ (binT ha hb I h fun v u s2 x y H2 I2 rx ry q => hr a b pins s2 σ H2 x y v u Q I2 rx ry q (hs _ _))

def rIxL (K : PySem.W.Frag) : R2 := fun x y H Q => ∃ p xs i v, x = .ref p ∧ y = .int i ∧ SqL K H p xs ∧ atI xs i = some v ∧ Q v H
def rIxT (K : PySem.W.Frag) : R2 := fun x y H Q => ∃ p xs i v, x = .ref p ∧ y = .int i ∧ SqT K H p xs ∧ atI xs i = some v ∧ Q v H
theorem ix_list : IxR X (rIxL X.K) := by
  intro value slice pins s σ H x y v u Q I rx ry h hs
  obtain ⟨p, xs, i, z, rfl, rfl, hq, he, q⟩ := h
  cases rx
  obtain ⟨t, rfl⟩ := ry
  obtain ⟨its, r, pl, hz⟩ := I.list hq
  obtain ⟨j, h1, h2, h3, h4, h5⟩ := atI_get he
  obtain ⟨w, ew, rw'⟩ := r.get h2
  have hl := r.length
  have hn := line63
  have fin : EP X pins σ Q w s := ⟨z, H, I, rw', q⟩
  by_cases h0 : 0 ≤ i
  · have hj : i.toNat = j := by
      rw [seqIndex_of h0 h5] at h1
      exact Option.some.inj h1
    exact item_listR pl.isList h0 (by omega) (by rw [hj]; simpa using ew) fin hs
  · have hj : (i + (its.toArray.size : Int)).toNat = j := by
      rw [seqIndex_neg (by omega) h4] at h1
      rw [List.size_toArray, ← hl]
      exact Option.some.inj h1
    exact subscriptTail_builtinR (x := w) pl.isList.typeIs slot_list_getitem.lookup
      (wpAny_getItem_list_neg (Q := fun r s' => r = w ∧ EP X pins σ Q r s') pl.isList (by omega) (by rw [List.size_toArray] <;> omega) (by omega) (by rw [hj]; simpa using ew) ⟨rfl, fin⟩) hs
theorem ix_tup : IxR X (rIxT X.K) := by
  intro value slice pins s σ H x y v u Q I rx ry h hs
  obtain ⟨p, xs, i, z, rfl, rfl, hq, he, q⟩ := h
  cases rx
  obtain ⟨t, rfl⟩ := ry
  obtain ⟨its, r, pl, hz⟩ := I.tuple hq
  obtain ⟨j, h1, h2, h3, h4, h5⟩ := atI_get he
  obtain ⟨w, ew, rw'⟩ := r.get h2
  have hl := r.length
  have hn := line63
  have fin : EP X pins σ Q w s := ⟨z, H, I, rw', q⟩
  exact subscriptTail_builtinR (x := w) pl.typeIs slot_tuple_getitem.lookup
    (getItem_tuple (j := j) (Q := fun r s' => r = w ∧ EP X pins σ Q r s') pl (by omega) (by omega) (by rw [List.size_toArray, ← hl]; exact h1) (by simpa using ew) ⟨rfl, fin⟩) hs
theorem Inv.lst {pins : List (Addr × Obj)} {σ : St} {H : Hp} {s : Shared} {p : Addr} {xs : List V} (I : Inv X pins σ H s) (h : H p = some (.lst xs)) :
    ∃ (its : List Value) (n : Nat), Vals xs its ∧ s.heap.get? p = some { cls := .type "list", data := .seq its.toArray n } ∧ xs.length ≤ sizeLine := by
  obtain ⟨z, its, n, r, e⟩ := I.hok p _ h
  exact ⟨its, n, r, e, z⟩
/-! ### len, list(x), tuple(x) of any list or tuple that is read -/
theorem call_len_seq : CallR X (.builtin "len") (fun xs H Q => ∃ p ys, xs = [.ref p] ∧ (SqL X.K H p ys ∨ SqT X.K H p ys) ∧ Q (.int ys.length) H) := by
  intro pins s σ H xs us Q I r h
  obtain ⟨p, ys, rfl, hq, q⟩ := h
  obtain ⟨u, rfl, rx⟩ := vals1 r
  cases rx
  have hn := line63
  rcases hq with hq | hq
  · obtain ⟨its, r', pl, hz⟩ := I.list hq
    have hlen := r'.length
    exact Calls.call_len_list pl.isList (by simp only [List.size_toArray] <;> omega) ⟨.int ys.length, H, I.tok _, ⟨s.toks + 1, by rw [List.size_toArray, hlen]⟩, q⟩
  · obtain ⟨its, r', pl, hz⟩ := I.tuple hq
    have hlen := r'.length
    exact len_tuple pl (by simp only [List.size_toArray] <;> omega) ⟨.int ys.length, H, I.tok _, ⟨s.toks + 1, by rw [List.size_toArray, hlen]⟩, q⟩
theorem CallR.or {f : Value} {r r' : List V → Hp → VK → Prop} (h : CallR X f r) (h' : CallR X f r') : CallR X f (fun xs H Q => r xs H Q ∨ r' xs H Q) := by
  intro pins s σ H xs us Q I rs q
  rcases q with q | q
  · exact h pins s σ H xs us Q I rs q
  · exact h' pins s σ H xs us Q I rs q
/-! ### the call of a builtin's method: o.m(..) -/
/-- the value is of that builtin type -/
def tyV (K : PySem.W.Frag) (T : String) (x : V) (H : Hp) : Prop := match x with
  | .str _ => T = "str"
  | .int _ => T = "int"
  | .ref p => (T = "list" ∧ ∃ xs, SqL K H p xs) ∨ (T = "tuple" ∧ ∃ o, K.lookup p = some o ∧ o.cls = .type "tuple" ∧ o.dict = none) ∨
      (T = "dict" ∧ ((∃ kvs, H p = some (.dK kvs)) ∨ ∃ kvs, H p = some (.dT kvs))) ∨ (T = "set" ∧ ∃ S n, H p = some (.set S n))
  | _ => False
theorem tyV_is {pins : List (Addr × Obj)} {σ : St} {H : Hp} {s : Shared} {T : String} {x : V} {v : Value} (I : Inv X pins σ H s) (r : RelV x v) (ty : tyV X.K T x H) :
    s.TypeIs v T ∧ ∀ a, v = .ref a → ∃ ob, s.heap.get? a = some ob ∧ ob.dict = none := by
  cases x with
  | str z =>
    obtain ⟨t, rfl⟩ := r
    cases (show T = "str" from ty)
    exact ⟨typeIs_str s z t, fun _ e => nomatch e⟩
  | int i =>
    obtain ⟨t, rfl⟩ := r
    cases (show T = "int" from ty)
    exact ⟨typeIs_int s i t, fun _ e => nomatch e⟩
  | ref p =>
    cases r
    rcases ty with ⟨rfl, xs, hq⟩ | ⟨rfl, o, hk, hc, hd⟩ | ⟨rfl, hk⟩ | ⟨rfl, S, n, hk⟩
    · obtain ⟨its, _, pl, _⟩ := I.list hq
      refine ⟨pl.isList.typeIs, fun a e => ?_⟩
      cases e
      obtain ⟨o, n, e, c, hd, _⟩ := pl
      exact ⟨o, e, hd⟩
    · refine ⟨⟨o, I.kIn p o hk, hc⟩, fun a e => ?_⟩
      cases e
      exact ⟨o, I.kIn _ o hk, hd⟩
    · have z : ∃ o, s.heap.get? p = some o ∧ o.ExactDict := by
        rcases hk with ⟨kvs, hk⟩ | ⟨kvs, hk⟩
        · obtain ⟨_, _, _, _, o, _, _, e, ex, _⟩ := I.hok p _ hk
          exact ⟨o, e, ex⟩
        · obtain ⟨_, _, _, _, o, _, _, e, ex, _⟩ := I.hok p _ hk
          exact ⟨o, e, ex⟩
      obtain ⟨o, e, ex⟩ := z
      refine ⟨⟨o, e, ex.1⟩, fun a e2 => ?_⟩
      cases e2
      exact ⟨o, e, ex.2.1⟩
    · obtain ⟨o, _, _, _, e, ex, _⟩ := I.hok p _ hk
      refine ⟨⟨o, e, ex.1⟩, fun a e2 => ?_⟩
      cases e2
      exact ⟨o, e, ex.2.1⟩
  | _ => exact False.elim ty
def tBM0 (K : PySem.W.Frag) (T : String) (r : V → List V → Hp → VK → Prop) (to : TE) : TE := fun σ H Q => to σ H fun x H1 => tyV K T x H1 ∧ r x [] H1 Q
def tBM (K : PySem.W.Frag) (T : String) (r : V → List V → Hp → VK → Prop) (to : TE) (t : TA) : TE := fun σ H Q => to σ H fun x H1 => tyV K T x H1 ∧ t σ H1 fun xs H2 => r x xs H2 Q
variable {o e : Expr} {es : List Expr} {to : TE} {t : TA} {name : Str} {apos cpos : Pos} {T id : String} {r : V → List V → Hp → VK → Prop}
theorem pe_bm0 (pa : PlainAttrs T) (slot : Slot T name id) (hty : typeOf (.builtin id) = pure (.type "method_descriptor")) (hm : MtR X id r) (ho : PE X o to)
    (hbase : attributeBase o name X.env (eval o X.env) = eval o X.env := by rfl) (hline : (apos.endLine == cpos.line) = true := by rfl) : PE X (.Call (.Attribute o name apos) [] [] cpos) (tBM0 X.K T r to) := by
  intro pins s σ H Q I h
  refine wpAny_Call_method0_late hbase hline (thn (ho pins s σ H _ I h) fun v s1 ⟨x, H1, I1, r1, ty, q1⟩ => ?_)
  obtain ⟨h1, h2⟩ := tyV_is I1 r1 ty
  exact ⟨T, id, pa, slot, hty, h1, h2, Calls.callWith_builtin rfl (PySem.evalArgs_none (hm pins s1 σ H1 x [] v [] Q I1 r1 .nil q1))⟩
theorem pe_bm (pa : PlainAttrs T) (slot : Slot T name id) (hty : typeOf (.builtin id) = pure (.type "method_descriptor")) (hm : MtR X id r) (ho : PE X o to) (ha : PA X (e :: es) t)
    (hbase : attributeBase o name X.env (eval o X.env) = eval o X.env := by rfl)
    (hfew : ((backTo cpos (starEach (e :: es) X.env)).all (fun x => !x.1) && (backToKw cpos (keywordEach [] X.env)).all (fun x => x.1.isSome)
      && decide ((e :: es).length + ([] : List Keyword).length + (if ([] : List Keyword).isEmpty then 0 else 1) < 30)) = true := by rfl)
    (hline : (apos.endLine == cpos.line) = true := by rfl) (hs : starEach (e :: es) X.env = (false, eval e X.env) :: starEach es X.env := by rfl) (hplain : (backTo cpos (starEach es X.env)).any (·.1) = false := by rfl) :
    PE X (.Call (.Attribute o name apos) (e :: es) [] cpos) (tBM X.K T r to t) := by
  intro pins s σ H Q I h
  refine wpAny_Call_method_late hbase hfew hline rfl (thn (ho pins s σ H _ I h) fun v s1 ⟨x, H1, I1, r1, ty, q1⟩ => ?_)
  obtain ⟨h1, h2⟩ := tyV_is I1 r1 ty
  refine ⟨T, id, pa, slot, hty, h1, h2, ?_⟩
  have hA := ha cpos pins s1 σ H1 _ I1 q1
  rw [hs] at hA ⊢
  refine Calls.callWith_builtin (by show (false || (backTo cpos (starEach es X.env)).any (·.1)) = false; rw [hplain] <;> rfl) (Calls.evalArgs_plain ?_)
  exact thn hA fun us s2 ⟨vs, H2, I2, r2, q2⟩ => hm pins s2 σ H2 x vs v us Q I2 r1 r2 q2
/- xs.append(e), list.index on a module's tuple .. are MtR facts of 06m -/
end
end L2

namespace L2
open PySem PySem.Spec PyProof.Rows

def MtM (X : Cx) (id : String) (r : V → List V → Hp → VK → Prop) : Prop :=
  ∀ (pins : List (Addr × Obj)) (s : Shared) (σ : St) (H : Hp) (x : V) (xs : List V) (v : Value) (us : List Value) (Q : VK), Inv X pins σ H s → RelV x v → Vals xs us → r x xs H Q →
    wpAny (model X.prog X.w) X.A (call (.builtin id) (v :: us)) (EP X pins σ Q) X.xe s

/-! ### lists of values -/
theorem Vals.one : ∀ {x : V} {us : List Value}, Vals [x] us → ∃ u, us = [u] ∧ RelV x u
  | _, _, .cons r .nil => ⟨_, rfl, r⟩
theorem Vals.two : ∀ {x y : V} {us : List Value}, Vals [x, y] us → ∃ u v, us = [u, v] ∧ RelV x u ∧ RelV y v
  | _, _, _, .cons r (.cons q .nil) => ⟨_, _, rfl, r, q⟩
theorem Vals.zero : ∀ {us : List Value}, Vals [] us → us = []
  | _, .nil => rfl
section
variable {X : Cx} {pins : List (Addr × Obj)} {σ : St} {H : Hp} {s : Shared} {l b : Addr} {xs ys zs : List V}

/-! ### the two steps: a tracked list is rewritten, a new list is laid -/
theorem Inv.lset {its its' : List Value} {n : Nat} {f : Array Value → Array Value} {t' : Nat} (I : Inv X pins σ H s) (hH : H l = some (.lst xs))
    (e : s.heap.get? l = some { cls := .type "list", data := .seq its.toArray n }) (hf : f its.toArray = its'.toArray) (hv : Vals ys its') (hz : ys.length ≤ sizeLine) :
    Inv X pins σ (upd H l (.lst ys)) { s with heap := s.heap.update l (Obj.mapSeq f), toks := t' } := by
  have q := PySem.IsL.update e f
  rw [hf] at q
  refine I.write (x := l) (e := l) (by rw [hH]; exact trivial) (.inl rfl) (fun b' u hb hu => (Heap.get?_update_other s.heap (Obj.mapSeq f) (Ne.symm hb)).trans hu) ⟨_, q⟩ ?_
  exact ⟨hz, its', _, hv, q⟩
theorem Inv.lnew {its : List Value} {t' : Nat} (I : Inv X pins σ H s) (hv : Vals ys its) (hz : ys.length ≤ sizeLine) :
    Inv X pins σ (upd H s.heap.objs.size (.lst ys)) { s with heap := s.heap.push { cls := .type "list", data := .seq its.toArray }, toks := t' } :=
  I.laid (fun _ _ q => Heap.get?_push_of_some _ q) (Nat.le_refl _) ⟨hz, its, 0, hv, Heap.get?_push_size _ rfl⟩
theorem Inv.fresh (I : Inv X pins σ H s) : H s.heap.objs.size = none := I.hok.fresh (Nat.le_refl _)
theorem Inv.lstM (I : Inv X pins σ H s) (hH : H l = some (.lst xs)) : xs.length ≤ sizeLine ∧ ∃ (its : List Value) (n : Nat), Vals xs its ∧ xs.length = its.length ∧ s.heap.get? l = some { cls := .type "list", data := .seq its.toArray n } := by
  obtain ⟨z, its, n, r, e⟩ := I.hok l _ hH
  exact ⟨z, its, n, r, r.length, e⟩

end

section
variable {X : Cx}

/-! ### methods -/
def rAppend : V → List V → Hp → VK → Prop := fun x vs H Q => ∃ l xs y, x = .ref l ∧ vs = [y] ∧ H l = some (.lst xs) ∧ xs.length < sizeLine ∧ Q .non (upd H l (.lst (xs ++ [y])))
theorem mt_append : MtM X "list.append" rAppend := by
  intro pins s σ H x vs v us Q I rx rv h
  obtain ⟨l, xs, y, rfl, rfl, hH, hz, q⟩ := h
  cases rx
  obtain ⟨u, rfl, ru⟩ := rv.one
  obtain ⟨z, its, n, r, hl, e⟩ := I.lstM hH
  refine call_meets F.slot_list_append ⟨_, e, rfl⟩ F.entry_list_append (F.args_list_append_2 _ _) (PySem.list_append l its.toArray n u (by rw [List.size_toArray]; omega)) ⟨e, ?_⟩
  refine ⟨.non, _, I.lset (its' := its ++ [u]) hH e (by simp) (r.append (.cons ru .nil)) ?_, rfl, q⟩
  rw [List.length_append, List.length_singleton]
  omega

theorem len_rep {α : Type} (xs : List α) (k : Nat) : (List.replicate k xs).flatten.length = k * xs.length := by
  induction k with
  | zero => simp
  | succ k ih => rw [List.replicate_succ, List.flatten_cons, List.length_append, ih, Nat.succ_mul, Nat.add_comm]
end

/-! ### xs[a:b] = ys -/
section
variable {prog : Program} {w : World} {A : Around} {E : Value → Shared → Prop} {s : Shared}
set_option maxRecDepth 100000 in
end

section
variable {X : Cx}
end
end L2

namespace Att
open PySem PySem.W PySem.Calls PyProof.Rows

/-! ### the script -/
theorem ints_of_wellAll {P : Params} {h : Heap} : ∀ (ns : List Int) (vs : List Value), WellAll P h vs (ns.map WData.int) → IntsAre vs ns := by
  intro ns
  induction ns with
  | nil =>
    intro vs w
    rw [List.map_nil] at w
    cases w
    exact .nil
  | cons n ns ih =>
    intro vs w
    rw [List.map_cons] at w
    cases w with
    | cons a b =>
      cases a
      exact .cons _ _ (ih _ b)

theorem script_of {l : OpenLaw} {n : Nat} (hn : l.most = some n) {P : Params} {h : Heap} {args : List WData} {vals : List Value}
    (hpre : l.row.toRowW.claim.pre args = true) (hwl : WellAll P h vals args) :
    ∃ a vs ns, vals = [Value.ref a] ∧ args = [WData.list (ns.map WData.int)] ∧ h.get? a = some { cls := .type "list", data := .seq vs.toArray } ∧ IntsAre vs ns ∧ ns.length ≤ n := by
  have hsh : WShape.hasAll [] args [.list .int] = true := (pre_splitW hpre).1
  have hc : l.pre.holds [] { args := args } = true := (pre_splitW hpre).2
  obtain ⟨d, r, rfl, h1, h2⟩ := hasAllW_cons hsh
  obtain rfl := hasAllW_nil h2
  obtain ⟨xs, rfl, h3⟩ := hasW_list h1
  obtain ⟨ns, rfl⟩ := items_int h3
  have hlen : ns.length ≤ n := by
    unfold OpenLaw.pre at hc
    have h4 : (WTm.not (.lt (.lit (.int (n : Int))) (.len (.arg 0)))).holds [] { args := [.list (ns.map .int)] } = true := by
      have h4 := (holds_andW hc).1
      rw [hn] at h4
      exact h4
    have h5 := condW_of h4 (w_not (w_lt w_lit (w_len_list (w_arg rfl))))
    rw [List.length_map] at h5
    refine Nat.le_of_not_lt fun q => ?_
    have q' : (n : Int) < ((ns.length : Nat) : Int) := by omega
    first
      | (rw [decide_eq_true q'] at h5; exact absurd h5 (by decide))
      | (simp at h5; omega)
  cases hwl with
  | cons w1 w2 =>
    cases w2
    cases w1 with
    | list ho hall => exact ⟨_, _, ns, rfl, rfl, ho, ints_of_wellAll ns _ hall, hlen⟩

theorem post_true (l : OpenLaw) (args : List WData) : l.row.toRowW.claim.post args (.bool true) args = true :=
  postW_of (r := l.row.toRowW) (X := (true == true))
    (show WShape.has [] (.bool true) .bool = true by first | rfl | decide | simp [WShape.has, WShape.arms, WShape.armsAll])
    (show (WTm.eq .res (.lit (.bool true))).value [] { args := args, res := some (.bool true), after := args } = some (.bool (true == true)) from w_eq_bool (w_res rfl) w_lit) rfl

/-- the same from a codeAny of the CALL (for a layer whose function contracts speak of calls) -/
theorem attach_call {l : OpenLaw} {n : Nat} {q : Program} {loose : List Str} {XP : (Str → Option Value) → Heap → Prop} {YP : World → Heap → Prop} {d : DefRec}
    (hn : l.most = some n) (hdf : d.params.defaults = [])
    (call : ∀ (w : World) (s₀ s₁ : Shared) (mg mb : Str → Option Value) (fa : Addr) (o : Obj) (pm cd doc : Value) (a : Addr) (vs : List Value) (ns : List Int),
      Ground q loose [] XP w s₀ mg mb s₁.heap → YP w s₁.heap →
      s₁.heap.get? fa = some o → o.data = .func (docDef d.name d.params d.body d.scope pm cd doc) → s₁.heap.CodeRec cd d.name → mg d.name = some (.ref fa) →
      s₁.heap.get? a = some { cls := .type "list", data := .seq vs.toArray } → IntsAre vs ns → ns.length ≤ n → s₁.gens = #[] →
      codeAny (model l.prog w) callerA (.call (.ref fa) ⟨[.ref a], []⟩) (fun r s' => r = .ok (.ret (.bool true)) ∧ OldK s₁.heap s'.heap ∧ s'.os = s₁.os ∧ AllBare s'.gens) s₁) :
    WalkO q loose XP YP l.row.toRowW d [] (fun f vs => PySem.call f vs) := by
  intro w s₀ s₁ mg mb G Y fa o pm cd doc dV kV ho hd hcd hD hmg hg args vals as hpre hlay hrd hwl hlo
  obtain rfl : dV = .none := Dflts.none hD hdf
  obtain rfl : kV = .none := Dflts.noKw hD
  obtain ⟨a, vs, ns, rfl, rfl, hobj, hints, hlen⟩ := script_of hn hpre hwl
  refine enter_call (codeAny_mono (call w s₀ s₁ mg mb fa o pm cd doc a vs ns G Y ho (fd_plain hd) hcd hmg hobj hints hlen hg) fun r s' hq => ?_)
  obtain ⟨rfl, h2, h3, h4⟩ := hq
  exact ⟨.inl ⟨.bool true, .bool true, [], rfl, fun _ => rfl, .bool true, post_true l _, fun _ => ⟨List.Pairwise.nil, fun _ hm => (nomatch hm)⟩⟩, h2, h3, h4⟩

/-! ### rules over ANY heap (no ledger) from facts about the written part K: the library's own take a ledger (News) for what they write -/
section
variable {prog : Program} {w : World} {A : Around} {E : Value → Shared → Prop} {s : Shared} {K : Frag}

def ledger (h : Heap) (L d : Addr) : List (Addr × Obj) := (List.range h.objs.size).filterMap fun a => if a = L ∨ a = d then none else (h.get? a).map fun o => (a, o)
end
end Att

namespace L2
open PySem PySem.Spec PyProof.Rows

theorem vals_ints : ∀ {vs : List Value} {ns : List Int}, IntsAre vs ns → Vals (ns.map V.int) vs
  | _, _, .nil => .nil
  | _, _, .cons n t h => .cons ⟨t, rfl⟩ (vals_ints h)

/-- nothing is tracked but the script, known to the object (or it is an object of the module) -/
def Only (H : Hp) : Prop := ∀ b, H b = none ∨ ∃ o xs, H b = some (.frz o (.lst xs))

/-- THE HEAD: the law's promise, at the heap behind the top. F, the promise of the law's def, may use that base is part of the heap (so K.In base, base.Ns mainGlobals mg stand in Mod) -/
theorem law_call {P : Program} {w : World} {K : PySem.W.Frag} {mg mb : Str → Option Value} {CX : CXT} {k : Nat} {fa a : Addr} {fd : FuncData} {x : Str} {sp : Sp} {s₁ : Shared} {vs : List Value} {ns : List Int}
    (KX : K.In s₁.heap) (hns : s₁.heap.Ns mainGlobals mg) (hb : s₁.heap.Ns builtinsNs mb) (hbb : ∀ x : Str, x ≠ "__name__" → mb x = bootBuiltins x) (hlim : s₁.heap.NoLimit) (hg : s₁.gens = #[])
    (ha : s₁.heap.get? a = some { cls := .type "list", data := .seq vs.toArray }) (hi : IntsAre vs ns) (hl : ns.length ≤ sizeLine) (hr : Room k callerA)
    (F : ∀ base : Heap, K.In base → base.Ns mainGlobals mg → FnOk P w K mg base CX k fa fd [x] sp) (hbind : ∀ (s : Shared) (u : Value), BindsTo s fd ⟨[u], []⟩ [(x, u)])
    (hsp : ∀ H : Hp, Only H → SqL K H a (ns.map V.int) → sp [.ref a] H (fun v _ => v = .bl true) fun _ _ _ => False)
    (hCX : ∀ H e s', CX [] H s₁ (fun _ _ _ => False) e s' → False) :
    codeAny (model P w) callerA (.call (.ref fa) ⟨[.ref a], []⟩) (fun r s' => r = .ok (.ret (.bool true)) ∧ OldK s₁.heap s'.heap ∧ s'.os = s₁.os ∧ AllBare s'.gens) s₁ := by
  have rv := vals_ints hi
  have lenV := hi.length
  -- from an abstract heap in which nothing but the script may be tracked
  have core : ∀ H : Hp, Only H → SqL K H a (ns.map V.int) → HOk P w H s₁.heap → (∀ b, H b ≠ none → b = a) → (H a ≠ none → K.lookup a = none) →
      codeAny (model P w) callerA (.call (.ref fa) ⟨[.ref a], []⟩) (fun r s' => r = .ok (.ret (.bool true)) ∧ OldK s₁.heap s'.heap ∧ s'.os = s₁.os ∧ AllBare s'.gens) s₁ := by
    intro H hO hS hok hA hK
    have base_of : ∀ {b : Addr} {o : Obj}, s₁.heap.get? b = some o → H b = none → (hidT s₁.heap H).get? b = some o := fun e n => hidT_get e n
    have noA : ∀ {b : Addr} {o : Obj} {es : Array DictEntry} {ep : Nat}, s₁.heap.get? b = some o → o.data = .dict es ep → H b = none := fun {b o es ep} e d => by
      cases q : H b with
      | none => rfl
      | some u =>
        have e' : b = a := hA b (by rw [q]; simp)
        subst e'
        rw [ha] at e; cases e
        have d' : Data.seq vs.toArray _ = Data.dict es ep := d
        cases d'
    have nsK : ∀ {b : Addr} {m : Str → Option Value}, s₁.heap.Ns b m → (hidT s₁.heap H).Ns b m := fun {b m} ⟨o, es, ep, e, d, r⟩ => ⟨o, es, ep, base_of e (noA e d), d, r⟩
    have hKb : K.In (hidT s₁.heap H) := fun b o e => base_of (KX b o e) (by
      cases q : H b with
      | none => rfl
      | some u =>
        have e' : b = a := hA b (by rw [q]; simp)
        subst e'
        rw [hK (by rw [q]; simp)] at e; cases e)
    have hM : Mod K mg (hidT s₁.heap H) := ⟨hKb, nsK hns, ⟨mb, nsK hb, hbb⟩, let ⟨mc, h1, h2⟩ := hlim; ⟨mc, nsK h1, h2⟩⟩
    have e0 : Env0 P w K mg (hidT s₁.heap H) callerA [] s₁ H := ⟨rfl, hM, fun b o e => of_hidT e, Nat.le_of_eq (hidT_size _ _), trivial, fun b hb => absurd (show b ∈ ([] : List Addr) from hb) (by simp), hok, .of_eq hg⟩
    refine codeAny_mono ((F _ hKb (nsK hns)).run callerA [] s₁ H ⟨[.ref a], []⟩ [.ref a] [.ref a] _ _ hr e0 (hbind s₁ (.ref a)) (.cons rfl .nil) (hsp H hO hS)) fun r s' h => ?_
    cases r with
    | error e => exact (hCX H e s' h).elim
    | ok fl =>
      cases fl with
      | next => exact False.elim h
      | brk => exact False.elim h
      | cont => exact False.elim h
      | ret u =>
        obtain ⟨v, H', os, bare, un, hok', r', q⟩ := h
        have q' : v = .bl true := q
        subst q'
        obtain rfl : u = Value.bool true := r'
        refine ⟨rfl, OldK.of_keep fun b o e => ?_, os, bare⟩
        cases q : H b with
        | none => exact un.keep b o e q (by intro z; exact absurd (show b ∈ ([] : List Addr) from z) (by simp)) (by simp)
        | some u =>
          rcases hO b with z | ⟨ob, xs, z⟩
          · rw [q] at z; cases z
          · have z2 := un.frzs b ob _ z
            obtain ⟨e1, _⟩ := hok b _ z
            obtain ⟨e2, _⟩ := hok' b _ z2
            rw [e] at e1; cases e1
            exact e2
  cases hk : K.lookup a with
  | some o =>
    -- the script is one of the module's own objects
    have e := KX a o hk
    rw [ha] at e
    cases e
    refine core (fun _ => none) (fun _ => .inl rfl) (.inr ⟨_, vs.toArray, _, hk, rfl, rfl, rfl, by rw [List.size_toArray, lenV]; exact hl, by simpa using rv⟩) (fun b u z => by have z' : (none : Option HO) = some u := z; cases z') (fun b z => absurd rfl z) fun z => absurd rfl z
  | none =>
    refine core (fun b => if b = a then some (.frz { cls := .type "list", data := .seq vs.toArray } (.lst (ns.map V.int))) else none) (fun b => ?_) (.inl (.inr ⟨{ cls := .type "list", data := .seq vs.toArray }, if_pos rfl⟩)) (fun b u z => ?_) (fun b z => ?_) fun _ => hk
    · by_cases hb : b = a
      · exact .inr ⟨_, _, if_pos hb⟩
      · exact .inl (if_neg hb)
    · by_cases hb : b = a
      · have z' := (if_pos hb).symm.trans z
        cases z'
        subst hb
        exact ⟨ha, by rw [List.length_map]; exact hl, vs, _, rv, ha⟩
      · have z' := (if_neg hb).symm.trans z
        cases z'
    · by_cases hb : b = a
      · exact hb
      · exact absurd (if_neg hb) z
end L2

namespace L2
open PySem PySem.Spec PyProof.Rows

abbrev KOf {K : PySem.W.Frag} {h : Heap} (_ : K.In h) : PySem.W.Frag := K

/-- the goal that k_head leaves (case hc), from the law's promise. F gives the function object fd (K's own) once, then the promise over every base -/
theorem walk_of {l : PySem.W.OpenLaw} {n k : Nat} {q : Program} {loose : List Str} {XP : (Str → Option Value) → Heap → Prop} {YP : World → Heap → Prop} {d : DefRec} {K : Params → PySem.W.Frag} {CX : World → CXT} {sp : World → Sp} {x : Str}
    (hn : l.most = some n) (hn2 : n ≤ sizeLine) (hdf : d.params.defaults = []) (hr : Room k callerA)
    (hY : ∀ (w : World) (h : Heap), YP w h → (K w.params).In h)
    (F : ∀ (w : World) (mg : Str → Option Value) (fa : Addr) (h : Heap), (K w.params).In h → h.Ns mainGlobals mg → mg d.name = some (.ref fa) →
      ∃ fd : FuncData, (∀ (s : Shared) (u : Value), BindsTo s fd ⟨[u], []⟩ [(x, u)]) ∧
        ∀ base : Heap, (K w.params).In base → base.Ns mainGlobals mg → FnOk l.prog w (K w.params) mg base (CX w) k fa fd [x] (sp w))
    (hsp : ∀ (w : World) (H : Hp) (a : Addr) (ns : List Int), ns.length ≤ n → Only H → SqL (K w.params) H a (ns.map V.int) → sp w [.ref a] H (fun v _ => v = .bl true) fun _ _ _ => False)
    (hCX : ∀ (w : World) (H : Hp) (s : Shared) (e : Value) (s' : Shared), CX w [] H s (fun _ _ _ => False) e s' → False) :
    PySem.W.WalkO q loose XP YP l.row.toRowW d [] (fun f vs => PySem.call f vs) := by
  refine Att.attach_call hn hdf fun w s₀ s₁ mg mb fa o pm cd doc a vs ns G Y ho hd hcd hmg hobj hints hlen hg => ?_
  have KX := hY w _ Y
  obtain ⟨fd, hb, hF⟩ := F w mg fa _ KX G.T.g hmg
  exact law_call KX G.T.g G.T.b G.T.builtins G.T.nolimit hg hobj hints (Nat.le_trans hlen hn2) hr hF hb (fun H hO hS => hsp w H a ns hlen hO hS) fun H e s' => hCX w H s₁ e s'
end L2

/- THE LAST THEOREM (shape; LID, My.* are yours):
   My.Adr: a structure of the addresses that your layer names (classes, functions); My.Txt K t: a structure (Prop) of the equations over K;
   My.txt_mk : {K} {implicit addresses ..} (e1 : nsIn K mainGlobals "law" = some (some (.ref f))) (e2 : K.lookup f = some ⟨oc, od, .func (fnOf "law" "law" params body scope dV kV doc pm an cdv ct), sl⟩) (e3 : codeIn K cdv "law" = true) .. : ∃ t, My.Txt K t

set_option maxRecDepth 100000 in
set_option maxHeartbeats 0 in
theorem PySem.Challenge.cw_LID_holds : PySem.Challenge.rw_LID.Holds := by
  w_on; o_law; k_head; (case hw => w_witness2)
  k_fill
  refine L2.walk_of (l := PySem.Challenge.rw_LID) (n := 63) (k := 40) (x := "script") (CX := fun w => ..) (sp := fun _ => My.sp_law) rfl (by decide) rfl ⟨rfl, by decide, by decide⟩ (fun w h Y => PySem.W.kIn_of Y) ?F ?S ?C
  case F =>
    intro w mg fa h KX G hmg
    have T : ∃ t, My.Txt (L2.KOf KX) t := by
      dsimp only [L2.KOf]                          -- K must stand as «<heap const> w.params» for k_is
      refine' My.txt_mk ?e1 ?e2 ?e3 ..
      (case e1 => PySem.W.k_is)                    -- in the order: a name -> its address -> its object -> its parts
      (case e2 => PySem.W.k_is)
      ..
    obtain ⟨t, T⟩ := T
    have e0 := hmg.symm.trans (PySem.W.mg_of KX G T.law)
    cases e0                                       -- fa is the law's own address
    exact ⟨_, fun s u => .of_eq rfl, fun base kb nb => My.law_fn T kb nb⟩     -- if «.of_eq rfl» comes too early: refine' ⟨_, ?b, fun base kb nb => My.law_fn T kb nb⟩; exact fun s u => .of_eq rfl
  case S => exact fun w H a ns hl hO hS => ..
  case C => exact ..
(the tactic k_is has no namespace: write k_is) -/

/-! SHORT WORDS over the layer: a def of the text, its body, what a loop and a test want. -/
namespace L2
open PySem PySem.Spec PyProof.Rows

/-! ### the text by places -/
/-- the j-th statement of a class's body -/
def inClass (s : Stmt) (j : Nat) : Stmt := match s with
  | .ClassDef _ _ _ body _ _ _ _ _ _ _ => body.getD j (.Pass ⟨0, 0, 0, 0⟩)
  | _ => .Pass ⟨0, 0, 0, 0⟩
def defArgs (s : Stmt) : Arguments := match s with
  | .FunctionDef _ a _ _ _ _ _ _ _ _ => a
  | _ => { posonlyargs := [], args := [], vararg := none, kwonlyargs := [], kw_defaults := [], kwarg := none, defaults := [] }
def defBody (s : Stmt) : List Stmt := match s with
  | .FunctionDef _ _ b _ _ _ _ _ _ _ => b
  | _ => []
def defScope (s : Stmt) : Scope := match s with
  | .FunctionDef _ _ _ _ _ _ sc _ _ _ => sc
  | _ => { kind := .function, names := [], isGenerator := false, isCoroutine := false }

/-! ### no exception leaves a def -/
abbrev CX0 : CXT := fun _ _ _ _ _ _ => False
abbrev E0 : XK := fun _ _ _ => False
/-! ### a def (or method) of the text as it stands behind the top -/
structure Fun (K : PySem.W.Frag) (x qual : Str) (st : Stmt) (f : Addr) (fd : FuncData) : Prop where
  ex : ∃ (oc : Value) (od : Option Addr) (kV doc pm : Value) (an : Option Addr) (cdv ct : Value) (osl : Array (Option Value)),
    fd = PySem.W.fnOf x qual (defArgs st) (defBody st) (defScope st) .none kV doc pm an cdv ct ∧ K.lookup f = some ⟨oc, od, .func fd, osl⟩ ∧ PySem.W.codeIn K cdv qual = true
  kp : PySem.W.keepIn K (.ref f) = true
section
variable {P : Program} {w : World} {K : PySem.W.Frag} {mg : Str → Option Value} {base : Heap}
/-- THE RULE for a def: its body as a term of rules, and the reading of that term -/
theorem Fun.ok {x qual : Str} {st : Stmt} {f : Addr} {fd : FuncData} {N ps : List Str} {k : Nat} {sp : Sp} (F : Fun K x qual st f fd) (S : FnScope N ps (defScope st)) (len : ∀ vs H Q E, sp vs H Q E → vs.length = ps.length)
    (hbody : ∀ (cdv : Value) (A : Around) (outer : List Env) (s : Shared) (H : Hp) (vs : List V) (Q : VK) (E : XK), Room k (A.deeper (envOfC qual (defScope st) s.heap.objs.size f cdv)) → sp vs H Q E →
      ∃ t, PSs (cxOf CX0 P w K mg base N qual (defScope st) f cdv A outer s H E).nox (defBody st) t ∧ t { nx := fun _ H' => Q .non H', rt := Q } (start N vs) H) : FnOk P w K mg base CX0 (k + 1) f fd ps sp := by
  obtain ⟨oc, od, kV, doc, pm, an, cdv, ct, osl, rfl, lk, hcd⟩ := F.ex
  refine fn_of lk hcd S len fun A outer s H vs Q E hr hsp => ?_
  obtain ⟨t, h, q⟩ := hbody cdv A outer s H vs Q E hr hsp
  exact ⟨t, h.nox, q⟩
/-- how its arguments bind (no defaults): h is «fun _ _ _ _ _ _ us hl => match us, hl with | [_, _], _ => rfl», one _ a parameter -/
theorem Fun.binds {x qual : Str} {st : Stmt} {f : Addr} {fd : FuncData} {ps : List Str} (F : Fun K x qual st f fd)
    (h : ∀ (kV doc pm : Value) (an : Option Addr) (cdv ct : Value) (us : List Value), us.length = ps.length → bindArgs (PySem.W.fnOf x qual (defArgs st) (defBody st) (defScope st) .none kV doc pm an cdv ct) ⟨us, []⟩ = pure (ps.zip us)) : Binds K fd ps [] := by
  obtain ⟨oc, od, kV, doc, pm, an, cdv, ct, osl, rfl, lk, hcd⟩ := F.ex
  exact .all (h kV doc pm an cdv ct)
theorem fun_mk {x qual : Str} {st : Stmt} {f : Addr} {oc : Value} {od an : Option Addr} {osl : Array (Option Value)} {kV doc pm cdv ct : Value} (l : K.lookup f = some ⟨oc, od, .func (PySem.W.fnOf x qual (defArgs st) (defBody st) (defScope st) .none kV doc pm an cdv ct), osl⟩)
    (c : PySem.W.codeIn K cdv qual = true) (k : PySem.W.keepIn K (.ref f) = true) : Fun K x qual st f (PySem.W.fnOf x qual (defArgs st) (defBody st) (defScope st) .none kV doc pm an cdv ct) := ⟨⟨oc, od, kV, doc, pm, an, cdv, ct, osl, rfl, l, c⟩, k⟩
end
theorem small1000 {n : Nat} (h : n ≤ 1000) : n < sizeLine := Nat.lt_of_le_of_lt h (by decide)

/-! ### expressions in short: the name that stands in the i-th slot -/
section
variable {X : Cx}
theorem pv (i : Nat) {x : Str} {pos : Pos} (hN : X.N[i]? = some x := by rfl) (hv : Vis X.env.scope x := by first | exact Or.inl rfl | exact Or.inr (Or.inl rfl) | exact Or.inr (Or.inr rfl)) (hd : (x == ("__debug__" : Str)) = false := by decide)
    (hcd : (x == ("__classdict__" : Str)) = false := by decide) : PE X (.Name x pos) (tVar i) := pe_var hN hv hd hcd
end

/-! ### tests -/
theorem iteF {A B : Prop} (h : B) : if false = true then A else B := by
  rw [if_neg Bool.false_ne_true]
  exact h
theorem iteT {A B : Prop} (h : A) : if true = true then A else B := by
  rw [if_pos rfl]
  exact h
theorem iteNS {c A B : Prop} [Decidable c] (hc : c) (h : B) : if (!decide c) = true then A else B := by
  rw [decide_eq_true hc]
  exact iteF h

/-! ### heaps -/
/-- all that was tracked is as it was -/
def Same (H H' : Hp) : Prop := ∀ b o, H b = some o → H' b = some o
theorem Same.refl (H : Hp) : Same H H := fun _ _ h => h
theorem Same.trans {H H1 H2 : Hp} (a : Same H H1) (b : Same H1 H2) : Same H H2 := fun c o h => b c o (a c o h)
theorem Same.free {H H' : Hp} (e : Same H H') {l : Addr} (h : H' l = Option.none) : H l = Option.none := by
  cases q : H l with
  | none => rfl
  | some o =>
    rw [e l o q] at h
    cases h
theorem Same.seq {K : PySem.W.Frag} {H H' : Hp} {a : Addr} {xs : List V} (e : Same H H') (h : SqL K H a xs) : SqL K H' a xs := by
  rcases h with (h | ⟨o, h⟩) | h
  · exact .inl (.inl (e _ _ h))
  · exact .inl (.inr ⟨o, e _ _ h⟩)
  · exact .inr h

end L2
set_option Elab.async false
set_option linter.all false
set_option maxRecDepth 100000
set_option maxHeartbeats 4000000
/-! exceptions on their way: what noteFrame, setFlight, leaving do to the heap -/
namespace L2
open PySem PySem.Spec PyProof.Rows

/-- an exception's object: its class, its arguments' tuple, its dict, its traceback -/
abbrev ExcO (C : Value) (t : Addr) (dd : Option Addr) (tb : Value) : Obj :=
  { cls := C, dict := dd, data := .fields #[.ref t, tb, .none, .none, .bool false, .none] }
/-- behind a step of the flight: all but the frames' slots, the exception and its old entry is as it was -/
structure Noted (fs : List Addr) (h h' : Heap) (a : Addr) (C : Value) (t : Addr) (dd : Option Addr) (T : Addr) (fl : Value) : Prop where
  keep : ∀ b o, b ∉ fs → b ≠ a → h.get? b = some o → h'.get? b = some o
  slot : ∀ b o, b ≠ a → h.get? b = some o → ∃ sl, h'.get? b = some { o with slots := sl }
  new : h.get? T = none
  ne : T ≠ a
  exc : h'.get? a = some (ExcO C t dd (.ref T))
  tbk : ∃ oT ts, h'.get? T = some oT ∧ oT.data = .fields ts ∧ ts[3]? = some fl

section
variable {M : Model} {A : Around} {E : Value → Shared → Prop} {s : Shared} {base : Heap} {env : Env} {outer : List Env} {L a t : Addr} {C : Value} {dd : Option Addr} {tb : Value} {Q : Unit → Shared → Prop}

theorem nofr_of {oa : Obj} {vs : Array Value} {l : List Env} (hl : s.heap.FunFrames base l) (ha : s.heap.get? a = some oa) (hd : oa.data = .fields vs) : a ∉ l.filterMap (·.frame) := by
  intro hm
  obtain ⟨_, o, ho, hn⟩ := hl.mem hm
  rw [ha] at ho
  cases ho
  exact hn vs hd

theorem entry_x {head : Value} {hn : Bool} (hfr : A.frames = some (env :: outer)) (hl : s.heap.FunFrames base (env :: outer)) (hf : env.frame = some L)
    (ha : s.heap.get? a = some (ExcO C t dd tb))
    (h : ∀ h' T, Noted ((env :: outer).filterMap (·.frame)) s.heap h' a C t dd T (rawInt L) → Q () { s with heap := h' }) :
    wpAny M A (do
      let x ← frameOf env
      let pl ← entryPlaceOf L hn
      let b ← EntryCells.newEntry head x .none (rawInt L) .none pl
      setField (.ref a) 1 b) Q E s := by
  have na := nofr_of hl ha rfl
  refine wpAny_bind (wpAny_frameOf_fun hfr hl hf fun g hg => ?_)
  refine wpAny_bind (wpAny_entryPlaceOf fun pl hpl => ?_)
  unfold EntryCells.newEntry newFields
  refine wpAny_bind (wpAny_newObj_type ?_ (hpl.sizeOk5 _ _ _ _ _))
  have a1 : g.get? a = some (ExcO C t dd tb) := (hg.2.1 a na).trans ha
  have a2 := fun (z : Obj) => Heap.get?_push_of_some (h := g) z a1
  have nT : g.objs.size ≠ a := Nat.ne_of_gt (Heap.lt_size a1)
  refine wpAny_setField (a2 _) rfl (by show 1 < 6; decide) (h _ g.objs.size ?_)
  have up : ∀ (z : Obj) (f : Obj → Obj) b o, b ≠ a → g.get? b = some o → ((g.push z).update a f).get? b = some o := by
    intro z f b o hb e
    rw [Heap.get?_update_other _ _ (Ne.symm hb)]
    exact Heap.get?_push_of_some _ e
  refine ⟨fun b o hb hba e => up _ _ b o hba ((hg.2.1 b hb).trans e), fun b o hba e => ?_, ?_, nT, ?_, ?_⟩
  · obtain ⟨sl, e1⟩ := hg.2.2 b o e
    exact ⟨sl, up _ _ b _ hba e1⟩
  · refine Heap.get?_none_of_le ?_
    rw [hg.1]
    exact Nat.le_refl _
  · exact Heap.get?_update_self _ (a2 _) rfl
  · refine ⟨_, _, (Heap.get?_update_other _ _ (Ne.symm nT)).trans (Heap.get?_push_size _ rfl), rfl, ?_⟩
    first
      | (simp; done)
      | (rcases hpl with rfl | ⟨_, _, _, _, _, _, _, rfl⟩ <;> simp)

/-- the traceback of a flying exception: none yet, or one that is not here -/
def TbOk (h : Heap) (a : Addr) (tb : Value) : Prop := tb = .none ∨ ∃ T oT ts, tb = .ref T ∧ T ≠ a ∧ h.get? T = some oT ∧ oT.data = .fields ts ∧ ts[3]? = some .none

theorem note_x (hfr : A.frames = some (env :: outer)) (hl : s.heap.FunFrames base (env :: outer)) (hf : env.frame = some L)
    (ha : s.heap.get? a = some (ExcO C t dd tb)) (ht : TbOk s.heap a tb)
    (h : ∀ h' T, (∀ b o, b ∉ (env :: outer).filterMap (·.frame) → b ≠ a → tb ≠ .ref b → s.heap.get? b = some o → h'.get? b = some o) →
      (∀ b o, b ≠ a → tb ≠ .ref b → s.heap.get? b = some o → ∃ sl, h'.get? b = some { o with slots := sl }) → s.heap.get? T = none → T ≠ a →
      h'.get? a = some (ExcO C t dd (.ref T)) → (∃ oT ts, h'.get? T = some oT ∧ oT.data = .fields ts ∧ ts[3]? = some (rawInt L)) → Q () { s with heap := h' }) :
    wpAny M A (noteFrame (.ref a) env) Q E s := by
  unfold noteFrame
  simp only [hf]
  refine wpAny_bind (wpAny_field ha rfl (x := tb) rfl ?_)
  rcases ht with rfl | ⟨T, oT, ts, rfl, nT, hT, dT, h3⟩
  · rw [if_neg (by decide)]
    refine entry_x hfr hl hf ha fun h' T N => ?_
    exact h h' T (fun b o hb hba _ e => N.keep b o hb hba e) (fun b o hba _ e => N.slot b o hba e) N.new N.ne N.exc N.tbk
  · rw [if_pos (show (Value.ref T != Value.none) = true by simp)]
    refine wpAny_bind (wpAny_field hT dT h3 ?_)
    rw [if_neg (show ¬ ((Value.none == rawInt L) = true) by simp [rawInt])]
    refine wpAny_bind (wpAny_setField hT dT (Array.getElem?_eq_some_iff.mp h3).1 ?_)
    have oth : ∀ (f : Obj → Obj) b, b ≠ T → (s.heap.update T f).get? b = s.heap.get? b := fun f b hb => Heap.get?_update_other _ _ (Ne.symm hb)
    have nrec : ∀ b o, s.heap.get? b = some o → (∀ vs, o.data ≠ .fields vs) → b ≠ T := by
      intro b o e hn q
      rw [q, hT] at e
      cases e
      exact hn ts dT
    refine entry_x (s := { s with heap := _ }) hfr (hl.of_keeps fun b o e hn => ⟨o, (oth _ b (nrec b o e hn)).trans e, rfl⟩) hf ((oth _ a (Ne.symm nT)).trans ha) fun h' T' N => ?_
    have neb : ∀ b, Value.ref T ≠ Value.ref b → b ≠ T := fun b q z => q (by rw [z])
    refine h h' T' (fun b o hb hba hbT e => N.keep b o hb hba ((oth _ b (neb b hbT)).trans e)) (fun b o hba hbT e => N.slot b o hba ((oth _ b (neb b hbT)).trans e)) ?_ N.ne N.exc N.tbk
    have nw := N.new
    by_cases q : T' = T
    · subst q
      have := Heap.get?_update_self (Obj.mapFields (·.setIfInBounds 3 Value.none)) hT (Obj.isFreed_of_fields (Obj.data_mapFields dT _))
      rw [nw] at this
      cases this
    · rw [oth _ T' q] at nw
      exact nw

theorem land_x {T : Addr} {oT : Obj} {ts : Array Value} {fl : Value} (ha : s.heap.get? a = some (ExcO C t dd (.ref T))) (nT : T ≠ a) (hT : s.heap.get? T = some oT) (dT : oT.data = .fields ts) (h3 : ts[3]? = some fl)
    (h : ∀ h', (∀ b o, b ≠ T → s.heap.get? b = some o → h'.get? b = some o) → TbOk h' a (.ref T) → Q () { s with heap := h' }) : wpAny M A (setFlight (.ref a) none) Q E s := by
  have sz : 3 < ts.size := (Array.getElem?_eq_some_iff.mp h3).1
  unfold setFlight
  refine wpAny_bind (wpAny_field ha rfl (x := .ref T) rfl ?_)
  rw [if_pos (show (Value.ref T != Value.none) = true by simp)]
  refine wpAny_setField hT dT sz (h _ (fun b o hb e => (Heap.get?_update_other _ _ (Ne.symm hb)).trans e) ?_)
  have d2 := Obj.data_mapFields dT (·.setIfInBounds 3 ((none : Option Addr).elim Value.none fun f => rawInt f))
  exact .inr ⟨T, _, _, rfl, nT, Heap.get?_update_self _ hT (Obj.isFreed_of_fields d2), d2, by simp [sz]⟩
end
end L2
set_option Elab.async false
set_option linter.all false
set_option maxRecDepth 100000
set_option maxHeartbeats 4000000
/-! the end of an iterator within an except suite: StopIteration gets the handled exception as its context -/
namespace L2
open PySem PySem.Spec PyProof.Rows

/-- nothing is handled, or an exception without a context -/
def Hd (A : Around) (h : Heap) : Prop := A.handled = none ∨ ∃ x ox vs, A.handled = some (.ref x) ∧ h.get? x = some ox ∧ ox.data = .fields vs ∧ vs[2]? = some .none

theorem entry_unchain : entryFor table "proto.unchain" = some Builtin.«proto.unchain» := entryFor_of_tree (by kernel_rfl)

section
variable {prog : Program} {w : World} {A : Around} {E : Value → Shared → Prop} {s : Shared}

theorem Hd.keeps {h h' : Heap} (x : Hd A h) (k : ∀ b o, h.get? b = some o → h'.get? b = some o) : Hd A h' := by
  rcases x with z | ⟨x, ox, vs, z, e, d, n⟩
  · exact .inl z
  · exact .inr ⟨x, ox, vs, z, k x ox e, d, n⟩

/-- raising a new object: the others stay, its class too -/
theorem raiseNew_hd {α : Type} {a : Addr} {oa : Obj} {ws : Array Value} {h₀ : Heap} {Q : α → Shared → Prop} (hd : Hd A h₀) (k : ∀ b o, h₀.get? b = some o → s.heap.get? b = some o) (na : h₀.get? a = none)
    (ha : s.heap.get? a = some oa) (da : oa.data = .fields ws) (h2 : 2 < ws.size)
    (h : ∀ h', (∀ b o, b ≠ a → s.heap.get? b = some o → h'.get? b = some o) → (∃ o', h'.get? a = some o' ∧ o'.cls = oa.cls) → E (.ref a) { s with heap := h' }) :
    wpAny (model prog w) A (raiseNew (.ref a) : Sem α) Q E s := by
  unfold raiseNew
  refine wpAny_bind (wpAny_handled ?_)
  rcases hd with z | ⟨x, ox, vs, z, e, d, n⟩
  · rw [z]
    exact wpAny_bind (wpAny_pure (wpAny_throw (h _ (fun b o _ e => e) ⟨_, ha, rfl⟩)))
  · rw [z]
    have nx : x ≠ a := by
      intro q
      rw [q, na] at e
      cases e
    dsimp only
    rw [if_pos (show (Value.ref x != Value.ref a) = true by simpa using nx)]
    refine wpAny_bind (wpAny_holding (wpAny_runValue (codeAny_builtin entry_unchain ?_)))
    unfold Builtin.«proto.unchain»
    dsimp only
    refine wpAny_bind (wpAny_field (k x ox e) d n ?_)
    rw [if_pos (by decide)]
    refine wpAny_pure ?_
    dsimp only
    unfold updateField
    refine wpAny_bind (wpAny_bind (wpAny_load ha ?_))
    rw [da]
    dsimp only
    rw [if_pos h2]
    refine wpAny_update ha (wpAny_throw (h _ (fun b o hb e => (Heap.get?_update_other _ _ (Ne.symm hb)).trans e) ⟨_, Heap.get?_update_self _ ha (Obj.isFreed_of_fields (Obj.data_mapFields da _)), Obj.cls_mapFields _ _⟩))

/-- StopIteration, raised -/
theorem stop_hd {α : Type} {Q : α → Shared → Prop} (hd : Hd A s.heap)
    (h : ∀ h' e, (∀ b o, s.heap.get? b = some o → h'.get? b = some o) → ({ s with heap := h' } : Shared).TypeIs (.ref e) "StopIteration" → E (.ref e) { s with heap := h' }) :
    wpAny (model prog w) A (newExc (.type "StopIteration") [] >>= fun e => (raiseNew e : Sem α)) Q E s := by
  refine wpAny_bind ?_
  simp only [newExc, newTuple]
  refine wpAny_bind (wpAny_newObj_type ?_ (by size_fits)); refine wpAny_bind (m := firstArgMember _ _) (wpAny_of_eq (a := Value.none) (by first | rfl | (simp only [firstArgMember]; rfl)) ?_)
  refine wpAny_newObj_type ?_ (by size_fits); dsimp only
  have k1 : ∀ (z : Obj) b o, s.heap.get? b = some o → (s.heap.push z).get? b = some o := fun z b o e => Heap.get?_push_of_some _ e
  have k2 : ∀ (z y : Obj) b o, s.heap.get? b = some o → ((s.heap.push z).push y).get? b = some o := fun z y b o e => Heap.get?_push_of_some _ (Heap.get?_push_of_some _ e)
  have nw : ∀ (z : Obj), s.heap.get? (s.heap.push z).objs.size = none := fun z => Heap.get?_none_of_le (by rw [Heap.size_push]; exact Nat.le_succ _)
  refine raiseNew_hd (s := { s with heap := _ }) (h₀ := s.heap) hd (k2 _ _) (nw _) (Heap.get?_push_size _ rfl) rfl (by show 2 < 6; decide) fun h' k ⟨o', e', c'⟩ => h h' _ (fun b o e => ?_) ⟨o', e', c'⟩
  refine k b o ?_ (k2 _ _ b o e)
  intro q; rw [q, nw] at e; cases e

theorem next_list_end_hd {it l : Addr} {i : Nat} {items : Array Value} {Q : Option Value → Shared → Prop} (hd : ∀ h' : Heap, Heap.ExtBut it s.heap h' → Hd A h')
    (hit : s.heap.IsListIter it l i) (hl : s.heap.IsList l items) (hx : items[i]? = none)
    (hQ : ∀ h', Heap.ExtBut it s.heap h' → Q none { s with heap := h' }) : wpAny (model prog w) A (pyNext (.ref it)) Q E s := by
  obtain ⟨o, ho, hc, dt⟩ := id hit
  obtain ⟨ol, hol, _, nl, dl⟩ := hl
  unfold pyNext
  refine wpAny_bind (wpAny_attempt (wpAny_callSpecial?_slot (name := Str.ofString "__next__") hit.typeIs slot_listiter_next (wpAny_call_entry slot_listiter_next hit.typeIs entry_listiter_next ?_ (args_listiter_next _))))
  show wpAny _ _ (field (.ref it) 0 >>= _) _ _ _; refine wpAny_bind (wpAny_field ho dt (x := .ref l) rfl ?_)
  show wpAny _ _ (if (Value.ref l == Value.none) = true then _ else _) _ _ _; rw [if_neg (show ¬ ((Value.ref l == Value.none) = true) by simp)]
  show wpAny _ _ (field (.ref it) 1 >>= _) _ _ _; refine wpAny_bind (wpAny_field ho dt (x := .int i 0) rfl ?_)
  show wpAny _ _ (seqItems? (.ref l) >>= _) _ _ _; refine wpAny_bind (wpAny_seqItems hol dl ?_)
  simp only [Int.toNat_natCast, hx]
  refine wpAny_bind (wpAny_rule (wpAny_bind (wpAny_setField ho dt (by simp) ?_)))
  have up := fun f => (Heap.SameBut.update (a := it) (h := s.heap) (f := f)).extBut
  refine stop_hd (s := { s with heap := _ }) (A := A.in1) (hd _ (up _)) fun h' e k ty => ?_
  refine wpAny_bind (wpAny_isInstance (T := "StopIteration") (b := true) ty isSubtype_stop ?_)
  exact wpAny_pure (hQ h' fun b o hb z => k b o (up _ b o hb z))
theorem next_tup_end_hd {it t : Addr} {i : Nat} {items : Array Value} {Q : Option Value → Shared → Prop} (hd : ∀ h' : Heap, Heap.ExtBut it s.heap h' → Hd A h')
    (hit : IsTupIter s.heap it t i) (hl : IsTup s.heap t items) (hx : items[i]? = none)
    (hQ : ∀ h', Heap.ExtBut it s.heap h' → Q none { s with heap := h' }) : wpAny (model prog w) A (pyNext (.ref it)) Q E s := by
  obtain ⟨o, ho, hc, dt⟩ := id hit
  obtain ⟨ol, hol, _, nl, dl⟩ := hl
  unfold pyNext
  refine wpAny_bind (wpAny_attempt (wpAny_callSpecial?_slot (name := Str.ofString "__next__") hit.typeIs slot_tupleiter_next (wpAny_call_entry slot_tupleiter_next hit.typeIs entry_tupleiter_next ?_ (args_tupleiter_next _))))
  show wpAny _ _ (field (.ref it) 0 >>= _) _ _ _; refine wpAny_bind (wpAny_field ho dt (x := .ref t) rfl ?_)
  show wpAny _ _ (if (Value.ref t == Value.none) = true then _ else _) _ _ _; rw [if_neg (show ¬ ((Value.ref t == Value.none) = true) by simp)]
  show wpAny _ _ (field (.ref it) 1 >>= _) _ _ _; refine wpAny_bind (wpAny_field ho dt (x := .int i 0) rfl ?_)
  show wpAny _ _ (seqItems? (.ref t) >>= _) _ _ _; refine wpAny_bind (wpAny_seqItems hol dl ?_)
  simp only [Int.toNat_natCast, hx]
  refine wpAny_bind (wpAny_rule (wpAny_bind (wpAny_setField ho dt (by simp) ?_)))
  have up := fun f => (Heap.SameBut.update (a := it) (h := s.heap) (f := f)).extBut
  refine stop_hd (s := { s with heap := _ }) (A := A.in1) (hd _ (up _)) fun h' e k ty => ?_
  refine wpAny_bind (wpAny_isInstance (T := "StopIteration") (b := true) ty isSubtype_stop ?_)
  exact wpAny_pure (hQ h' fun b o hb z => k b o (up _ b o hb z))

end
end L2
set_option Elab.async false
set_option linter.all false
set_option maxRecDepth 100000
set_option maxHeartbeats 4000000
namespace L2
open PySem PySem.Spec PyProof.Rows
/-! ### what is new to a state -/
theorem ObjOk.there {P : Program} {w : World} {H : Hp} {h : Heap} {a : Addr} {o : HO} (x : ObjOk P w H h a o) : ∃ u, h.get? a = some u := by
  cases o with
  | lst xs => obtain ⟨_, _, _, _, e⟩ := x; exact ⟨_, e⟩
  | tup xs => obtain ⟨_, _, _, _, e, _⟩ := x; exact ⟨_, e⟩
  | dK kvs => obtain ⟨_, _, _, _, o, _, _, e, _⟩ := x; exact ⟨_, e⟩
  | dT kvs => obtain ⟨_, _, _, _, o, _, _, e, _⟩ := x; exact ⟨_, e⟩
  | set S n => obtain ⟨o, _, _, _, e, _⟩ := x; exact ⟨_, e⟩
  | ins C dx fs => obtain ⟨_, _, _, e, _⟩ := x; exact ⟨_, e⟩
  | own y => obtain ⟨_, e⟩ := x; exact ⟨_, e⟩
  | xd fs => obtain ⟨_, ⟨_, _, _, e, _⟩, _⟩ := x; exact ⟨_, e⟩
  | rng lo hi => obtain ⟨_, _, _, e⟩ := x; exact ⟨_, e⟩
  | frz ob u => obtain ⟨e, _⟩ := x; exact ⟨_, e⟩
  | tbl ps => exact ⟨_, show h.get? a = some _ from x⟩
  | met f y => exact ⟨_, show h.get? a = some _ from x⟩
  | ext φ => obtain ⟨_, e, _⟩ := x; exact e
theorem HOk.new {P : Program} {w : World} {H : Hp} {h : Heap} {a : Addr} (x : HOk P w H h) (e : h.get? a = none) : H a = none := by
  cases q : H a with
  | none => rfl
  | some u =>
    obtain ⟨o, z⟩ := (x a u q).there
    rw [e] at z
    cases z
/-- b is nothing of the state's own -/
structure Nw (X : Cx) (pins : List (Addr × Obj)) (H : Hp) (b : Addr) : Prop where
  un : H b = none
  loc : b ≠ X.env.locals
  fs : b ∉ X.fs
  old : X.s₀.heap.get? b = none
  cell : ∀ x c, X.env.cells.lookup x = some c → c ≠ b
  pin : ∀ p ∈ X.pn ++ pins, p.1 ≠ b
section
variable {X : Cx} {pins : List (Addr × Obj)} {σ : St} {H H' : Hp} {s s' : Shared} {a b t : Addr} {C : Value} {dd : Option Addr}
theorem Inv.fsFree (I : Inv X pins σ H s) : ∀ b ∈ X.fs, H b = none := fun b hb => I.stkFree b (by
  rcases I.ok.stk with z | ⟨z, zf⟩
  · rw [z]; exact hb
  · rw [z]
    unfold frs
    rw [List.filterMap_cons, zf]
    exact List.mem_cons_of_mem _ hb)
theorem Inv.nw (I : Inv X pins σ H s) (hex : X.ex = []) (e : s.heap.get? b = none) (hu : H' b = none) : Nw X pins H' b := by
  refine ⟨hu, ?_, ?_, ?_, ?_, ?_⟩
  · rintro rfl
    obtain ⟨m, ⟨o, _, _, ho, _⟩, _⟩ := I.loc
    rw [e] at ho
    cases ho
  · intro hb
    obtain ⟨_, o, ho, _⟩ := I.funs.mem hb
    rw [e] at ho
    cases ho
  · cases q : X.s₀.heap.get? b with
    | none => rfl
    | some o =>
      obtain ⟨o', z⟩ := I.base.there b o q (by rw [hex]; simp)
      rw [e] at z
      cases z
  · rintro x c h rfl
    obtain ⟨v, o, ho, _⟩ := I.cell x c h
    rw [e] at ho
    cases ho
  · rintro p hp rfl
    obtain ⟨z, _⟩ := I.pin p hp
    rw [e] at z
    cases z
/-- records of nobody's may change, the frames' slots too -/
theorem Inv.stepN {h' : Heap} {ch : List Addr} (I : Inv X pins σ H s) (hch : ∀ b ∈ ch, Nw X pins H b)
    (keep : ∀ b o, b ≠ X.env.locals → b ∉ X.fs → b ∉ ch → s.heap.get? b = some o → h'.get? b = some o)
    (slot : ∀ b o, b ∉ ch → s.heap.get? b = some o → ∃ sl, h'.get? b = some { o with slots := sl }) : Inv X pins σ H { s with heap := h' } := by
  have neL : ∀ b o, X.s₀.heap.get? b = some o → b ≠ X.env.locals := fun b o e => Nat.ne_of_lt (Nat.lt_of_lt_of_le (Heap.lt_size e) I.ok.above)
  have neC : ∀ b o, X.s₀.heap.get? b = some o → b ∉ ch := fun b o e hb => by
    have z := (hch b hb).old
    rw [e] at z
    cases z
  have cellK : ∀ x c, X.env.cells.lookup x = some c → ∀ v, s.heap.IsCell c v → h'.IsCell c v := fun x c e v ⟨o, ho, hd⟩ => by
    have nch : c ∉ ch := fun z => (hch c z).cell x c e rfl
    obtain ⟨sl, q⟩ := slot c o nch ho
    exact ⟨_, q, hd⟩
  refine ⟨I.ok, I.os, I.bare, ⟨fun b o e n hb hx => ?_, fun b o e n hb hx => ?_, I.base.free, fun b o e hx => ?_, I.base.tups, I.base.frzs, I.base.tbls⟩, ?_, fun x c e => ?_, I.free, I.freeC, fun p hp => ?_, ?_, I.len⟩
  · exact keep b o (neL b o e) hb (neC b o e) (I.base.keep b o e n hb hx)
  · obtain ⟨sl, e1⟩ := I.base.slot b o e n hb hx
    obtain ⟨sl', e2⟩ := slot b _ (neC b o e) e1
    exact ⟨sl', e2⟩
  · obtain ⟨o', e1⟩ := I.base.there b o e hx
    obtain ⟨sl', e2⟩ := slot b _ (neC b o e) e1
    exact ⟨_, e2⟩
  · obtain ⟨m, hn, hl⟩ := I.loc
    refine ⟨m, ?_, fun i x v e1 e2 e3 => ?_⟩
    · obtain ⟨o, es, ep, ho, r⟩ := hn
      obtain ⟨sl, q⟩ := slot _ o (fun z => (hch _ z).loc rfl) ho
      exact ⟨_, es, ep, q, r⟩
    · obtain ⟨u, r, l⟩ := hl i x v e1 e2 e3
      refine ⟨u, r, ?_⟩
      rcases l with l | ⟨k, c, e, z⟩
      · exact .inl l
      · exact .inr ⟨k, c, e, cellK x c e _ z⟩
  · obtain ⟨v, z⟩ := I.cell x c e
    exact ⟨v, cellK x c e v z⟩
  · obtain ⟨e, n, ne, nf, d⟩ := I.pin p hp
    exact ⟨keep p.1 p.2 ne nf (fun z => (hch p.1 z).pin p hp rfl) e, n, ne, nf, d⟩
  · intro c o e
    have tr : ∀ b, H b ≠ none → ∀ u, s.heap.get? b = some u → h'.get? b = some u := fun b hb u q =>
      keep b u (fun z => hb (by rw [z]; exact I.free)) (fun z => hb (I.fsFree b z)) (fun z => hb (hch b z).un) q
    refine (I.hok c o e).stay (fun b u hb q => tr b ?_ u q) (fun _ q => q) fun _ _ q => q
    rcases hb with rfl | hb
    · rw [e]; simp
    · rw [hb]; simp
/-! ### an exception on its way through a body -/
/-- the exception at a, of the class C, is nobody's; its traceback is nobody's -/
def Flt (X : Cx) (pins : List (Addr × Obj)) (H : Hp) (s : Shared) (a : Addr) (C : Value) (t : Addr) (dd : Option Addr) : Prop :=
  Nw X pins H a ∧ ∃ tb, s.heap.get? a = some (ExcO C t dd tb) ∧ TbOk s.heap a tb ∧ ∀ T, tb = .ref T → Nw X pins H T
/-- .. noted at this frame -/
def FltAt (X : Cx) (pins : List (Addr × Obj)) (H : Hp) (s : Shared) (a : Addr) (C : Value) (t : Addr) (dd : Option Addr) (fl : Value) : Prop :=
  Nw X pins H a ∧ ∃ T oT ts, s.heap.get? a = some (ExcO C t dd (.ref T)) ∧ T ≠ a ∧ Nw X pins H T ∧ s.heap.get? T = some oT ∧ oT.data = .fields ts ∧ ts[3]? = some fl
/-- the body of a def: its own frame on the stack -/
structure Body (X : Cx) : Prop where
  ex : X.ex = []
  st : X.stack = X.env :: X.outer
  fr : X.env.frame = some X.env.locals
theorem FltAt.flt (F : FltAt X pins H s a C t dd .none) : Flt X pins H s a C t dd := by
  obtain ⟨n, T, oT, ts, e, ne, nT, eT, dT, h3⟩ := F
  exact ⟨n, _, e, .inr ⟨T, oT, ts, rfl, ne, eT, dT, h3⟩, fun T' z => by cases z; exact nT⟩
def refsOf : Value → List Addr
  | .ref z => [z]
  | _ => []
theorem flt_note {M : Model} {E : Value → Shared → Prop} {Q : Unit → Shared → Prop} (B : Body X) (I : Inv X pins σ H s) (F : Flt X pins H s a C t dd)
    (k : ∀ s', Inv X pins σ H s' → FltAt X pins H s' a C t dd (rawInt X.env.locals) → Q () s') : wpAny M X.A (noteFrame (.ref a) X.env) Q E s := by
  obtain ⟨na, tb, e, ht, nT⟩ := F
  have hfr := I.ok.frames
  rw [B.st] at hfr
  have hl := I.stack
  rw [B.st] at hl
  refine note_x hfr hl B.fr e ht fun h' T k1 k2 k3 k4 k5 k6 => ?_
  have ch : ∀ b, b ∉ a :: refsOf tb → b ≠ a ∧ tb ≠ .ref b := by
    intro b hb
    refine ⟨fun z => hb (by rw [z]; exact List.mem_cons_self), fun z => hb ?_⟩
    rw [z]
    exact List.mem_cons_of_mem _ (List.mem_singleton.mpr rfl)
  have I' : Inv X pins σ H { s with heap := h' } := by
    refine I.stepN (ch := a :: refsOf tb) (fun b hb => ?_) (fun b o h1 h2 h3 q => k1 b o ?_ (ch b h3).1 (ch b h3).2 q) (fun b o h3 q => k2 b o (ch b h3).1 (ch b h3).2 q)
    · rcases List.mem_cons.mp hb with rfl | hb
      · exact na
      · cases tb <;> simp [refsOf] at hb
        subst hb
        exact nT _ rfl
    · intro z
      rw [List.filterMap_cons, B.fr] at z
      rcases List.mem_cons.mp z with z | z
      · exact h1 z
      · exact h2 z
  obtain ⟨oT, ts, q1, q2, q3⟩ := k6
  exact k _ I' ⟨na, T, oT, ts, k5, k4, I.nw B.ex k3 (I.hok.new k3), q1, q2, q3⟩
theorem flt_land {M : Model} {A : Around} {E : Value → Shared → Prop} {Q : Unit → Shared → Prop} {fl : Value} (I : Inv X pins σ H s) (F : FltAt X pins H s a C t dd fl)
    (k : ∀ s', Inv X pins σ H s' → FltAt X pins H s' a C t dd .none → Q () s') : wpAny M A (setFlight (.ref a) none) Q E s := by
  obtain ⟨na, T, oT, ts, e, ne, nT, eT, dT, h3⟩ := F
  refine land_x e ne eT dT h3 fun h' k1 k2 => ?_
  have I' : Inv X pins σ H { s with heap := h' } := I.stepN (ch := [T]) (fun b hb => by
    have : b = T := by simpa using hb
    subst this
    exact nT) (fun b o _ _ hb q => k1 b o (fun z => hb (by simp [z])) q) (fun b o hb q => ⟨_, k1 b o (fun z => hb (by simp [z])) q⟩)
  rcases k2 with z | ⟨T', oT', ts', z, _, q1, q2, q3⟩
  · cases z
  · cases z
    exact k _ I' ⟨na, T, oT', ts', k1 a _ (Ne.symm ne) e, ne, nT, q1, q2, q3⟩
theorem flt_leave {M : Model} {E : Value → Shared → Prop} {Q : Unit → Shared → Prop} (B : Body X) (I : Inv X pins σ H s) (F : Flt X pins H s a C t dd)
    (k : ∀ s', Inv X pins σ H s' → FltAt X pins H s' a C t dd .none → Q () s') : wpAny M X.A (leaving X.env (.ref a)) Q E s := by
  unfold leaving
  exact wpAny_bind (flt_note B I F fun s1 I1 F1 => flt_land I1 F1 k)
end
/-! ### how it lies behind a call -/
/-- the exception a body may let go: its class, its dict, the names, the heap -/
abbrev EK := Value → Option Addr → St → Hp → Prop
def Catches (X : Cx) (EH : EK) : Prop := ∀ (pins : List (Addr × Obj)) (σ : St) (H : Hp) (s : Shared) (a t : Addr) (C : Value) (dd : Option Addr), Inv X pins σ H s → Flt X pins H s a C t dd → EH C dd σ H → X.xe (.ref a) s
def CX1 (P : Program) (w : World) : CXT := fun outer H s E e s' => ∃ (a t : Addr) (C : Value) (dd : Option Addr) (H' : Hp), e = .ref a ∧ s'.os = s.os ∧ AllBare s'.gens ∧ Un (frs outer) [] H H' s.heap s'.heap ∧ HOk P w H' s'.heap ∧ E C dd H' ∧
  (s.heap.get? a = none ∧ H' a = none) ∧ ∃ T oT ts, s'.heap.get? a = some (ExcO C t dd (.ref T)) ∧ T ≠ a ∧ (s.heap.get? T = none ∧ H' T = none) ∧ s'.heap.get? T = some oT ∧ oT.data = .fields ts ∧ ts[3]? = some .none
theorem catches_fn {P : Program} {w : World} {K : PySem.W.Frag} {mg : Str → Option Value} {base : Heap} {N : List Str} {qual : Str} {scope : Scope} {f : Addr} {cd : Value} {A : Around} {outer : List Env} {s : Shared} {H : Hp} {E : XK} :
    Catches (cxOf (CX1 P w) P w K mg base N qual scope f cd A outer s H E) (fun C dd _ H' => E C dd H') := by
  intro pins σ H' s' a t C dd I F h
  refine flt_leave (X := cxOf (CX1 P w) P w K mg base N qual scope f cd A outer s H E) ⟨rfl, rfl, rfl⟩ I F fun s2 I2 F2 => ?_
  obtain ⟨na, T, oT, ts, e, ne, nT, eT, dT, h3⟩ := F2
  exact ⟨a, t, C, dd, H', rfl, I2.os, I2.bare, I2.base, I2.hok, h, ⟨na.old, na.un⟩, T, oT, ts, e, ne, ⟨nT.old, nT.un⟩, eT, dT, h3⟩
section
variable {X : Cx} {k : Nat} {f C : Addr} {fd : FuncData} {ps : List Str} {sp : Sp} {dvs : List V} {ds : List Value} {EH : EK} {x m : Str} {p pos apos : Pos} {e o : Expr} {es : List Expr} {ta : TE} {t : TA}
/-- a callee's exception is one of this body's -/
theorem came {pins : List (Addr × Obj)} {σ : St} {H : Hp} {s : Shared} {e : Value} {s' : Shared} (hx : Catches X EH) (hex : X.ex = []) (I : Inv X pins σ H s)
    (h : CX1 X.prog X.w X.stack H s (fun C d H' => EH C d σ H') e s') : X.xe e s' := by
  obtain ⟨a, t, C, dd, H', rfl, os, bare, un, hok, hE, ⟨a1, a2⟩, T, oT, ts, z, ne, ⟨t1, t2⟩, eT, dT, h3⟩ := h
  have I' : Inv X pins σ H' s' := I.call' (ch := []) os un hok bare (fun b q => absurd q (by simp))
  exact hx pins σ H' s' a t C dd I' (FltAt.flt ⟨I.nw hex a1 a2, T, oT, ts, z, ne, I.nw hex t1 t2, eT, dT, h3⟩) hE
theorem run_fnE {pins : List (Addr × Obj)} {σ : St} {H : Hp} {s : Shared} {Q : VK} {us : List Value} {vs : List V} (F : FnOk X.prog X.w X.K X.mg X.base (CX1 X.prog X.w) k f fd ps sp) (hr : Room k X.A) (hb : Binds X.K fd ps ds) (hd : Vals dvs ds)
    (hx : Catches X EH) (hex : X.ex = []) (I : Inv X pins σ H s) (r : Vals vs us) (h : sp (vs ++ dvs) H Q (fun C d H' => EH C d σ H')) : wpAny (model X.prog X.w) X.A (call (.ref f) us) (EP X pins σ Q) X.xe s := by
  have r2 : Vals (vs ++ dvs) (us ++ ds) := r.append hd
  have hl : (us ++ ds).length = ps.length := by rw [← r2.length]; exact F.len _ _ _ _ h
  refine wpAny_call (codeAny_mono (F.run X.A X.stack s H ⟨us, []⟩ (us ++ ds) (vs ++ dvs) Q _ hr I.env0 (hb s us I.kIn hl) r2 h) fun r s' hq => ?_)
  cases r with
  | error e => exact came hx hex I hq
  | ok fl =>
    cases fl with
    | ret u => exact I.after hq
    | next => exact False.elim hq
    | brk => exact False.elim hq
    | cont => exact False.elim hq
/-- f(..) of a def that may raise -/
def tCallE (sp : Sp) (dvs : List V) (EH : EK) (t : TA) : TE := fun σ H Q => t σ H fun vs H1 => sp (vs ++ dvs) H1 Q (fun C d H' => EH C d σ H')
theorem pe_callE (F : FnOk X.prog X.w X.K X.mg X.base (CX1 X.prog X.w) k f fd ps sp) (hr : Room k X.A) (hg : Gl X x) (hm : X.mg x = some (.ref f)) (hk : PySem.W.keepIn X.K (.ref f) = true) (hb : Binds X.K fd ps ds) (hd : Vals dvs ds)
    (hx : Catches X EH) (ha : PA X (e :: es) t) (hex : X.ex = [] := by rfl) (hdb : (x == ("__debug__" : Str)) = false := by decide) (he : starEach (e :: es) X.env = (false, eval e X.env) :: starEach es X.env := by rfl)
    (hpl : (backTo pos (starEach es X.env)).any (·.1) = false := by rfl) : PE X (.Call (.Name x p) (e :: es) [] pos) (tCallE sp dvs EH t) := by
  intro pins s σ H Q I h
  refine wpAny_Call_Name_kw (ld_glob I hg hm ?_ hdb)
  refine PySem.W.callWith_K (h₀ := X.base) I.ok.mod.kin hk (thn (ha pos pins s σ H _ I h) fun us s1 ⟨vs, H1, I1, r, q⟩ => ⟨I1.kIn, ?_⟩) he hpl
  exact run_fnE F hr hb hd hx hex I1 r q
end
/-! ### a def that may raise, by its body -/
section
variable {P : Program} {w : World} {K : PySem.W.Frag} {mg : Str → Option Value} {base : Heap}
theorem Fun.okE {x qual : Str} {st : Stmt} {f : Addr} {fd : FuncData} {N ps : List Str} {k : Nat} {sp : Sp} (F : Fun K x qual st f fd) (S : FnScope N ps (defScope st)) (len : ∀ vs H Q E, sp vs H Q E → vs.length = ps.length)
    (hbody : ∀ (X : Cx) (cdv : Value) (A : Around) (outer : List Env) (s : Shared) (H : Hp) (vs : List V) (Q : VK) (E : XK), X = cxOf (CX1 P w) P w K mg base N qual (defScope st) f cdv A outer s H E → Room k X.A → Catches X (fun C dd _ H' => E C dd H') → sp vs H Q E →
      ∃ t, PSs (cxOf (CX1 P w) P w K mg base N qual (defScope st) f cdv A outer s H E) (defBody st) t ∧ t { nx := fun _ H' => Q .non H', rt := Q } (start N vs) H) : FnOk P w K mg base (CX1 P w) (k + 1) f fd ps sp := by
  obtain ⟨oc, od, kV, doc, pm, an, cdv, ct, osl, rfl, lk, hc⟩ := F.ex
  exact fn_of lk hc S len fun A outer s H vs Q E hr h => hbody _ cdv A outer s H vs Q E rfl hr catches_fn h
/-- a def that lets none go -/
theorem FnOk.up {k : Nat} {f : Addr} {fd : FuncData} {ps : List Str} {sp : Sp} (F : FnOk P w K mg base CX0 k f fd ps sp) : FnOk P w K mg base (CX1 P w) k f fd ps sp := by
  refine ⟨F.len, fun A outer s H args us vs Q E hr e0 hb r h => codeAny_mono (F.run A outer s H args us vs Q E hr e0 hb r h) fun r s' q => ?_⟩
  cases r with
  | error e => exact False.elim q
  | ok fl => cases fl <;> exact q
end
end L2
set_option Elab.async false
set_option linter.all false
set_option maxRecDepth 100000
set_option maxHeartbeats 4000000
namespace L2
open PySem PySem.Spec PyProof.Rows PySem.W
section
variable {X : Cx} {x : Str} {p cpos pos : Pos} {e : Expr} {es : List Expr} {t : TA} {C : Addr} {bmB : List Value} {B newId initId : String} {EH : EK}
end
/-! ### except R as n -/
section
variable {X : Cx} {pins : List (Addr × Obj)} {σ : St} {H : Hp} {s : Shared}
end
/-- within a try's body: the pins are kept, exceptions go to E -/
abbrev Cx.hold (X : Cx) (pins : List (Addr × Obj)) (E : Value → Shared → Prop) : Cx := { X with pn := X.pn ++ pins, xe := E }
section
variable {X : Cx} {pins pins' : List (Addr × Obj)} {σ : St} {H : Hp} {s : Shared} {a : Addr} {E : Value → Shared → Prop}
theorem Inv.hold (I : Inv X pins σ H s) : Inv (X.hold pins E) [] σ H s :=
  ⟨⟨I.ok.mod, I.ok.kind, I.ok.glob, I.ok.blt, I.ok.above, I.ok.inj, I.ok.has, I.ok.cab, I.ok.hd, I.ok.frames, I.ok.stk, I.ok.exf, I.ok.bs, I.ok.bsz, I.ok.noex, I.ok.exfs, I.ok.funs, I.ok.frf⟩,
    I.os, I.bare, I.base, I.loc, I.cell, I.free, I.freeC, fun p hp => I.pin p (by simpa using hp), I.hok, I.len⟩
end
theorem looks_isType {K : Frag} {M : Model} {h : Heap} {R : Addr} (X : K.In h) (c : (clsIn K R).isSome = true) : Looks M h (isType (.ref R)) true := by
  unfold clsIn at c
  split at c
  · rename_i ho
    intro A' Q' E' s' k q
    unfold isType loadHead
    exact wpAny_bind (wpAny_loadPart (k _ _ (X _ _ ho)) (wpAny_pure q))
  · cases c
end L2
set_option Elab.async false
set_option linter.all false
set_option maxRecDepth 100000
set_option maxHeartbeats 4000000
namespace L2
open PySem PySem.Spec PyProof.Rows PySem.W
section
variable {X : Cx} {x n : Str} {np hpos pos : Pos} {R : Addr} {i : Nat} {body suite : List Stmt} {b₀ : Stmt} {tb : EK → TS} {ts : Addr → TS}
end
end L2
set_option Elab.async false
set_option linter.all false
set_option maxRecDepth 100000
set_option maxHeartbeats 4000000
namespace L2
open PySem PySem.Spec PyProof.Rows PySem.W
/-! ### isinstance of an exception of an own class -/
structure ExcK (K : Frag) (C : Addr) : Prop where
  ga : findIn K (.ref C) "__getattribute__" = some (some (.builtin "BaseException.__getattribute__"))
  gh : findIn K (.ref C) "__getattr__" = some none
  ca : findIn K (.ref C) "__class__" = some (some (.builtin "object.__class__"))
  sn : specialIn K (.builtin "object.__class__") "__get__" = some (some (.builtin "getset_descriptor.__get__"))
  tk : takesIn K (.builtin "object.__class__") = some true
  ob : mroIn K C (.type "object") = some true
  be : subIn K (.ref C) (.type "BaseException") = some true
  cl : (clsIn K C).isSome = true
theorem exc_class_attr {prog : Program} {w : World} {A : Around} {E : Value → Shared → Prop} {s : Shared} {K : Frag} {a C : Addr} {oa : Obj} {od : Option Obj} {Q : Option Value → Shared → Prop} (F : ExcK K C) (X : K.In s.heap) (I : PySem.W.InstAt s.heap a oa C od)
    (h : Q (some (.ref C)) { s with toks := s.toks + 1 }) : wpAny (model prog w) A (getAttr? (.ref a) "__class__") Q E s := by
  obtain ⟨hp, g, d, t, os⟩ := s
  have L0 := I.type (M := model prog w)
  have L1 := looks_findIn (M := model prog w) X F.ga
  have L2 := looks_findIn (M := model prog w) X F.gh
  have L3 : Looks (model prog w) hp (isInstance (.ref a) (.type "BaseException")) true := L0.andThen (looks_subIn X F.be)
  have hf : findObj K C od "__class__" = some (.bind (.builtin "getset_descriptor.__get__") (.builtin "object.__class__")) := by
    obtain ⟨cd, hc⟩ := Option.isSome_iff_exists.mp F.cl
    unfold findObj
    rw [hc, Option.bind_some, F.ca, Option.bind_some]
    simp [F.sn, F.tk]
  have L4 := looks_find (M := model prog w) X I hf
  have hk : builtinKind "BaseException.__getattribute__" = some .slot := by decide +kernel
  have hsplit : splitId "BaseException.__getattribute__" = some ("BaseException", "__getattribute__") := by decide +kernel
  have hargs := PySem.F.args_bexc_ga (.ref a) (.str "__class__" t)
  have hb := PySem.F.attr_ValueError.ga.bind (.ref a)
  unfold getAttr? getAttrBy? getAttrBy
  refine wpAny_bind (wpAny_mkText (wpAny_bind (wpAny_attempt (wpAny_holding (wpAny_bind (L0.at (wpAny_bind (L1.at ?_))))))))
  dsimp only
  rw [if_neg (show ¬ ((onTheHeap (Value.ref C) && Value.builtin "BaseException.__getattribute__" == Value.builtin "object.__getattribute__") = true) by
    rw [show (Value.builtin "BaseException.__getattribute__" == Value.builtin "object.__getattribute__") = false by decide +kernel, Bool.and_false]; exact Bool.false_ne_true)]
  unfold getAttrByItsOwn
  refine wpAny_bind (m := hookBefore (.ref C)) (L2.at ?_)
  refine wpAny_bind (wpAny_attempt (wpAny_holding ?_))
  unfold callGetattribute
  rw [if_neg (by decide)]
  unfold boundAndCalled
  rw [hb]
  refine wpAny_bind (wpAny_pure ?_)
  refine wpAny_call (codeAny_call_builtin PySem.F.attr_ValueError.ga.plain PySem.F.entry_bexc_ga ?_)
  have chk : ∀ {A' : Around} {Q' : Unit → Shared → Prop} {E' : Value → Shared → Prop}, Q' () ⟨hp, g, d, t + 1, os⟩ → wpAny (model prog w) A' (checkBuiltinCall "BaseException.__getattribute__" ⟨[.ref a, .str "__class__" t], []⟩) Q' E' ⟨hp, g, d, t + 1, os⟩ := by
    intro A' Q' E' hq
    simp only [checkBuiltinCall, hk, hsplit]
    refine wpAny_bind ?_
    refine L3.at ?_
    repeat (first | assumption | wp_step)
  refine chk ?_
  show wpAny _ _ (Builtin.«object.__getattribute__» ⟨[.ref a, .str "__class__" t], []⟩) _ _ _
  unfold Builtin.«object.__getattribute__»
  refine wpAny_bind (wpAny_pure ?_)
  refine wpAny_bind (wpAny_pure ?_)
  refine wpAny_bind (L0.at (wpAny_bind (L4.at ?_)))
  dsimp only
  show wpAny _ _ (holding [Value.builtin "object.__class__"] (call (.builtin "getset_descriptor.__get__") [.builtin "object.__class__", .ref a, .ref C]) >>= ret) _ _ _
  refine wpAny_bind (wpAny_holding (wpAny_call (class_get (s := ⟨hp, g, d, t + 1, os⟩) X I F.ob (wpAny_pure ?_))))
  exact handed_on rfl (wpAny_pure h)
end L2
set_option Elab.async false
set_option linter.all false
set_option maxRecDepth 100000
set_option maxHeartbeats 4000000
namespace L2
open PySem PySem.Spec PyProof.Rows PySem.W
/-! ### iterators, within an except suite too -/
/-- nothing is handled, or an exception that is known and has no context -/
def HdOk (X : Cx) : Prop := X.A.handled = none ∨ ∃ x o u vs, X.A.handled = some (.ref x) ∧ X.H₀ x = some (.frz o u) ∧ o.data = .fields vs ∧ vs[2]? = some .none
section
variable {X : Cx} {pins : List (Addr × Obj)} {σ : St} {H : Hp} {s : Shared}
/-- .. also where an iterator that is nobody's has turned -/
theorem Inv.hdB {it : Addr} (I : Inv X pins σ H s) (h : HdOk X) (hn : H it = none) : ∀ h' : Heap, Heap.ExtBut it s.heap h' → Hd X.A h' := by
  intro h' k
  rcases h with z | ⟨x, o, u, vs, z, e, d, n⟩
  · exact .inl z
  · have q := I.base.frzs x o u e
    exact .inr ⟨x, o, vs, z, k x o (fun w => by rw [w, hn] at q; cases q) (I.hok x _ q).1, d, n⟩
end
structure TurnH (P : Program) (w : World) (K : Frag) (tg : Expr) (J : It) (it : Addr) (tn : Nat → Heap → Prop) : Prop where
  obj : ∀ i h, tn i h → ∃ o, h.get? it = some o ∧ ∀ v, o.data ≠ .cell v
  keep : ∀ i h h', tn i h → (∀ o, h.get? it = some o → h'.get? it = some o) → tn i h'
  item : ∀ (X : Cx), X.prog = P → X.w = w → X.K = K → HdOk X → ∀ (i : Nat) (pins : List (Addr × Obj)) (s : Shared) (σ : St) (H : Hp) (E : Value → Shared → Prop), Inv X pins σ H s → FpOk X pins H it → tn i s.heap → J.go i H →
    wpAny (model P w) X.A (pyNext (.ref it)) (fun r s1 => ∃ u, r = some u ∧
      wpAny (model P w) X.A (letOwnedTupleGo tg (.ref it) u) (fun _ s2 => ∃ x, Inv X pins σ H s2 ∧ RelV x u ∧ J.yld i H x H ∧ tn (i + 1) s2.heap) E s1) E s
  done : ∀ (X : Cx), X.prog = P → X.w = w → X.K = K → HdOk X → ∀ (i : Nat) (pins : List (Addr × Obj)) (s : Shared) (σ : St) (H : Hp) (E : Value → Shared → Prop), Inv X pins σ H s → FpOk X pins H it → tn i s.heap → J.stop i H →
    wpAny (model P w) X.A (pyNext (.ref it)) (fun r s1 => r = none ∧ Inv X pins σ H s1) E s
  self : ∀ (A : Around) (i : Nat) (s : Shared) (Q : Value → Shared → Prop) (E : Value → Shared → Prop), tn i s.heap → Q (.ref it) s → wpAny (model P w) A (pyIter (.ref it)) Q E s
theorem turnH_list {P : Program} {w : World} {K : Frag} {tg : Expr} (a it : Addr) : TurnH P w K tg (Itl K a) it (fun i h => h.IsListIter it a i) where
  obj := fun i h ⟨o, e, c, d⟩ => ⟨o, e, fun v z => by rw [d] at z; cases z⟩
  keep := fun i h h' st k => st.at fun o e => k o e
  item := by
    intro X hP hw hK hc i pins s σ H E I hf st hg
    subst hP hw hK
    obtain ⟨xs, x, hq, hx⟩ := hg
    obtain ⟨its, rv, p, hz⟩ := I.list hq
    obtain ⟨u, hu, ru⟩ := rv.get hx
    obtain ⟨f0, f1, f2, f3, f4, f5⟩ := hf
    refine wpAny_pyNext_list_item st p.isList (x := u) (by simpa using hu) fun h' st' sb => ?_
    have I1 : Inv X pins σ H { s with heap := h' } := I.turned (t' := s.toks) (fun b o hb e => (sb.2 b hb).trans e) f0 f1 f3 f4 f5
    obtain ⟨o, e, c, d⟩ := id st'
    exact ⟨u, rfl, go_of (s := { s with heap := h' }) e c d (by decide) ⟨x, I1, ru, ⟨rfl, fun ys hy => by rw [I.list_inj hy hq]; exact hx⟩, st'⟩⟩
  done := by
    intro X hP hw hK hc i pins s σ H E I hf st hg
    subst hP hw hK
    obtain ⟨xs, hq, hx⟩ := hg
    obtain ⟨its, rv, p, hz⟩ := I.list hq
    obtain ⟨f0, f1, f2, f3, f4, f5⟩ := hf
    have hl := rv.length
    exact next_list_end_hd (I.hdB hc f0) st p.isList (by simp; omega) fun h' eb => ⟨rfl, I.turned (t' := s.toks) (fun b o hb e => eb b o hb e) f0 f1 f3 f4 f5⟩
  self := fun _ _ _ _ _ st h => wpAny_pyIter_listiter st h
theorem turnH_tup {P : Program} {w : World} {K : Frag} {tg : Expr} (a it : Addr) : TurnH P w K tg (Itt K a) it (fun i h => h.IsTupleIter it a i) where
  obj := fun i h ⟨o, e, c, d⟩ => ⟨o, e, fun v z => by rw [d] at z; cases z⟩
  keep := fun i h h' st k => st.at fun o e => k o e
  item := by
    intro X hP hw hK hc i pins s σ H E I hf st hg
    subst hP hw hK
    obtain ⟨xs, x, hq, hx⟩ := hg
    obtain ⟨its, rv, p, hz⟩ := I.tuple hq
    obtain ⟨u, hu, ru⟩ := rv.get hx
    obtain ⟨f0, f1, f2, f3, f4, f5⟩ := hf
    refine wpAny_pyNext_tuple_item st (show s.heap.IsTuple a its.toArray from p) (x := u) (by simpa using hu) fun h' st' sb => ?_
    have I1 : Inv X pins σ H { s with heap := h' } := I.turned (t' := s.toks) (fun b o hb e => (sb.2 b hb).trans e) f0 f1 f3 f4 f5
    obtain ⟨o, e, c, d⟩ := id st'
    exact ⟨u, rfl, go_of (s := { s with heap := h' }) e c d (by decide) ⟨x, I1, ru, ⟨rfl, fun ys hy => by rw [I.tuple_inj hy hq]; exact hx⟩, st'⟩⟩
  done := by
    intro X hP hw hK hc i pins s σ H E I hf st hg
    subst hP hw hK
    obtain ⟨xs, hq, hx⟩ := hg
    obtain ⟨its, rv, p, hz⟩ := I.tuple hq
    obtain ⟨f0, f1, f2, f3, f4, f5⟩ := hf
    have hl := rv.length
    exact next_tup_end_hd (I.hdB hc f0) st p (by simp; omega) fun h' eb => ⟨rfl, I.turned (t' := s.toks) (fun b o hb e => eb b o hb e) f0 f1 f3 f4 f5⟩
  self := fun _ _ _ _ _ st h => wpAny_pyIter_tupleiter st h
def PIH (X : Cx) (tg iter : Expr) (wi : TI) : Prop :=
  ∀ (pins : List (Addr × Obj)) (s : Shared) (σ : St) (H : Hp) (R : It → Hp → Prop), Inv X pins σ H s → wi σ H R →
    wpAny (model X.prog X.w) X.A (eval iter X.env) (fun v s1 => wpAny (model X.prog X.w) X.A (pyIter v) (fun itv s2 => ∃ (it : Addr) (tn : Nat → Heap → Prop) (J : It) (H' : Hp), itv = .ref it ∧ Inv X pins σ H' s2 ∧ TurnH X.prog X.w X.K tg J it tn ∧ tn 0 s2.heap ∧
      FpOk X pins H' it ∧ R J H') X.xe s1) X.xe s
section
variable {X : Cx} {tg : Expr}
theorem pih_list {l : Expr} {tl : TE} (hl : PE X l tl) : PIH X tg l (iList X.K tl) := by
  intro pins s σ H R I h
  refine thn (hl pins s σ H _ I h) fun v s1 ⟨x, H1, I1, r1, q1⟩ => ?_
  obtain ⟨a, e, ⟨xs, hq⟩, q⟩ := q1
  subst e
  cases r1
  obtain ⟨its, rv, p, hz⟩ := I1.list hq
  exact wpAny_pyIter_list p.isList ⟨s1.heap.objs.size, _, _, H1, rfl, I1.kept (t' := s1.toks) fun b o e => Heap.get?_push_of_some _ e, turnH_list a _, ⟨_, Heap.get?_push_size _ rfl, rfl, rfl⟩, I1.fpOk (Nat.le_refl _) (I1.hok.fresh (Nat.le_refl _)), q⟩
theorem pih_tup {l : Expr} {tl : TE} (hl : PE X l tl) : PIH X tg l (iTup X.K tl) := by
  intro pins s σ H R I h
  refine thn (hl pins s σ H _ I h) fun v s1 ⟨x, H1, I1, r1, q1⟩ => ?_
  obtain ⟨a, e, ⟨xs, hq⟩, q⟩ := q1
  subst e
  cases r1
  obtain ⟨its, rv, p, hz⟩ := I1.tuple hq
  exact wpAny_pyIter_tuple (show s1.heap.IsTuple a its.toArray from p) ⟨s1.heap.objs.size, _, _, H1, rfl, I1.kept (t' := s1.toks) fun b o e => Heap.get?_push_of_some _ e, turnH_tup a _, ⟨_, Heap.get?_push_size _ rfl, rfl, rfl⟩, I1.fpOk (Nat.le_refl _) (I1.hok.fresh (Nat.le_refl _)), q⟩
end
end L2

set_option Elab.async false
set_option linter.all false
set_option maxRecDepth 100000
set_option maxHeartbeats 4000000
namespace L2
open PySem PySem.Spec PyProof.Rows PySem.W
/-! ### [elt for target in iter if c], no name of the def's own in it -/
abbrev Cx.comp (X : Cx) (scope : Scope) (N : List Str) (C : Addr) (s₀ : Shared) (H₀ : Hp) (ex : List Addr) (pins : List (Addr × Obj)) : Cx :=
  { X with N := N, s₀ := s₀, H₀ := H₀, env := compEnv scope C X.env, outer := X.stack, ex := ex, fn := fun _ => false, pn := pins, xe := fun _ _ => False }
/-- what a comprehension's scope must be: names of its own alone -/
structure CompScope (N : List Str) (sc : Scope) : Prop where
  kind : sc.kind = .function
  free : ∀ y ∈ sc.names, y.2 ≠ .free
  cell : ∀ y ∈ sc.names, y.2 ≠ .cell
  loc : ∀ y ∈ sc.names, y.2 = .local → sc.names.lookup y.1 = some .local
  nd : N.Nodup
/-- [elt for target in iter] -/
def tComp0 (n : Nat) (wi : TI) (g : TG) (te : TE) : TE := fun σ H Q => wi σ H fun J H1 => ∀ D, H1 D = none →
  ∃ (m : Nat) (W : Nat → List V → Hp → Prop), W 0 [] (upd H1 D (.lst [])) ∧ ∀ i ys H2, W i ys H2 → i ≤ m ∧ H2 D = some (.lst ys) ∧ ((J.stop i H2 ∧ Q (.ref D) H2) ∨ (i < m ∧ J.go i H2 ∧ ∀ x H3, J.yld i H2 x H3 →
    g x (List.replicate n none) H3 fun σ4 H4 => te σ4 H4 fun y H6 => H6 D = some (.lst ys) ∧ ys.length < sizeLine ∧ W (i + 1) (ys ++ [y]) (upd H6 D (.lst (ys ++ [y])))))
theorem kc0_loop {prog : Program} {w : World} {A : Around} {s : Shared} {elt target iter : Expr} {scope : Scope} {pos : Pos} {it acc : Value} {env : Env} {R : Result → Shared → Prop} (I : Nat → Shared → Prop)
    (turn : ∀ n s, I n s → wpAny (model prog w) A (pyNext it) (fun r s₁ => match r with
      | none => R (.ok .next) s₁
      | some v => wpAny (model prog w) A (letOwnedTupleGo target it v) (fun _ s₀ => wpAny (model prog w) A (assign target env v) (fun _ s₂ => wpAny (model prog w) A (eval elt env) (fun x s₄ =>
          wpAny (model prog w) A (call (.builtin "list.append") [acc, x]) (fun _ s₅ => ∃ m, m < n ∧ I m s₅) (notedBy (model prog w) A env fun e s' => R (.error e) s') s₄) (notedBy (model prog w) A env fun e s' => R (.error e) s') s₂)
          (notedBy (model prog w) A env fun e s' => R (.error e) s') s₀) (notedBy (model prog w) A env fun e s' => R (.error e) s') s₁) (notedBy (model prog w) A env fun e s' => R (.error e) s') s)
    (n : Nat) (h : I n s) : codeAny (model prog w) A (.compLoop (.ListComp elt [⟨target, iter, [], 0⟩] scope pos) 0 it acc env) R s := by
  refine codeAny_loop rfl I (fun n s hI => ?_) n h
  show wpAny _ A ((compTurn (.ListComp elt [⟨target, iter, [], 0⟩] scope pos) 0 it acc env).onRaise (fun x => do noteFrame x env; theTreesLotGoes x)) _ _ s
  refine wpAny_noted ?_; rw [compTurn_list1]
  refine wpAny_bind (wpAny_standAt (wpAny_bind (wpAny_mono (turn n s hI) (fun r s₁ h₁ => ?_) fun _ _ z => z)))
  cases r with
  | none => exact wpAny_pure h₁
  | some v =>
    refine wpAny_bind (wpAny_mono h₁ (fun _ s₀ q₀ => ?_) fun _ _ z => z)
    refine wpAny_bind (wpAny_mono q₀ (fun _ s₂ q₂ => ?_) fun _ _ z => z)
    exact wpAny_bind (wpAny_bind (wpAny_mono q₂ (fun x s₄ q₄ => wpAny_bind (wpAny_mono q₄ (fun _ s₅ q₅ => wpAny_pure (wpAny_pure ⟨rfl, q₅⟩)) fun _ _ z => z)) fun _ _ z => z))
section
variable {X : Cx}
theorem inv_comp {pins : List (Addr × Obj)} {σ : St} {H : Hp} {s : Shared} {scope : Scope} {N : List Str} {it : Addr} {h' : Heap} (S : CompScope N scope) (I : Inv X pins σ H s) (hf : FpOk X pins H it) (hit : ∃ o, s.heap.get? it = some o) (hnb : X.base.get? it = none)
    (hns : h'.Ns s.heap.objs.size (fun _ => none)) (hsb : ∀ b o, s.heap.get? b = some o → h'.get? b = some o) {tk : Nat} :
    Inv (X.comp scope N s.heap.objs.size s H [it] (X.pn ++ pins)) [] (List.replicate N.length none) H { s with heap := h', toks := tk } := by
  obtain ⟨f0, f1, f2, f3, f4, f5⟩ := hf
  obtain ⟨oi, ei⟩ := hit
  have lt : it < s.heap.objs.size := Heap.lt_size ei
  have nc : ∀ x c, (compEnv scope s.heap.objs.size X.env).cells.lookup x = some c → False := fun x c z => by cases z
  have nk : ∀ x, ¬ ((compEnv scope s.heap.objs.size X.env).kindOf x = some .cell ∨ (compEnv scope s.heap.objs.size X.env).kindOf x = some .free) := by
    intro x z
    have z : scope.names.lookup x = some .cell ∨ scope.names.lookup x = some .free := z
    rcases z with z | z
    · exact S.cell _ (PySem.mem_of_lookup z) rfl
    · exact S.free _ (PySem.mem_of_lookup z) rfl
  refine ⟨⟨I.ok.mod, S.kind, I.ok.glob, I.ok.blt, Nat.le_refl _, fun x y c z => (nc x c z).elim, fun x z => (nk x z).elim, fun x c _ z => (nc x c z).elim, I.ok.hd, I.ok.frames, .inl rfl, fun b hb => ?_, I.bs, Nat.le_trans I.ok.bsz I.sz, fun b o e hb => ?_, fun b hb hfs => ?_, I.stack, I.stkFree⟩,
    rfl, I.bare, Un.kept hsb, ⟨_, hns, fun i x v e1 e2 e3 => ?_⟩, fun x c z => (nc x c z).elim, I.hok.fresh (Nat.le_refl _), fun x c z => (nc x c z).elim, fun p hp => ?_, I.hok.kept hsb, by simp⟩
  · have e : b = it := by simpa using hb
    subst e
    exact ⟨Nat.ne_of_lt lt, fun x c z => (nc x c z).elim⟩
  · have e' : b = it := by simpa using hb
    subst e'
    rw [hnb] at e
    cases e
  · have e' : b = it := by simpa using hb
    subst e'
    rcases List.mem_cons.mp (I.stkSub b hfs) with z | z
    · exact f1 z
    · exact f2 z
  · rw [List.getElem?_replicate] at e2
    split at e2 <;> cases e2
  · have hp' : p ∈ X.pn ++ pins := by simpa using hp
    obtain ⟨q1, q2, q3, q4, q5⟩ := I.pin p hp'
    refine ⟨hsb _ _ q1, q2, Nat.ne_of_lt (Heap.lt_size q1), fun z => ?_, q5⟩
    rcases List.mem_cons.mp (I.stkSub p.1 z) with z | z
    · exact q3 z
    · exact q4 z
theorem comp_walk0 {elt target iter : Expr} {scope : Scope} {pos : Pos} {N : List Str} {wi : TI} {g : TG} {te : TE} (S : CompScope N scope) (hd : HdOk X) (hi : PIH X target iter wi) (hex : X.ex = [])
    (hg : ∀ C s₀ H₀ ex pn, HdOk (X.comp scope N C s₀ H₀ ex pn) → PG (X.comp scope N C s₀ H₀ ex pn) target g)
    (he : ∀ C s₀ H₀ ex pn, HdOk (X.comp scope N C s₀ H₀ ex pn) → PE (X.comp scope N C s₀ H₀ ex pn) elt te)
    {pins : List (Addr × Obj)} {s : Shared} {σ : St} {H : Hp} {Q : VK} {RR : Value → Env → Result → Shared → Prop} (I : Inv X pins σ H s) (h : (tComp0 N.length wi g te) σ H Q)
    (hRR : ∀ (D C : Addr) (s6 : Shared) (H5 : Hp) (mm : Str → Option Value), Inv X pins σ H5 s6 → s6.heap.Ns C mm → FpOk X pins H5 C → Q (.ref D) H5 → RR (.ref D) (compEnv scope C X.env) (.ok .next) s6) :
    wpAny (model X.prog X.w) X.A (eval iter X.env) (fun v s1 => wpAny (model X.prog X.w) X.A (pyIter v) (fun itv s2 => wpAny (model X.prog X.w) X.A (newList []) (fun acc s3 => wpAny (model X.prog X.w) X.A (newFunctionEnv scope X.env.globals [] [] X.env.qual none .none (some X.env)) (fun cenv s4 =>
      codeAny (model X.prog X.w) X.A (.compStart (.ListComp elt [⟨target, iter, [], 0⟩] scope pos) 0 itv acc { cenv with scope := scope }) (RR acc { cenv with scope := scope }) s4) X.xe s3) X.xe s2) X.xe s1) X.xe s := by
  refine thn (hi pins s σ H _ I h) fun v s1 h1 => thn h1 fun itv s2 h2 => ?_
  obtain ⟨it, tn, J, H2, rfl, I2, T, st2, f2, R⟩ := h2
  obtain ⟨oi, ei, di⟩ := T.obj _ _ st2
  have hf2 := I2.hok.fresh (Nat.le_refl _)
  refine wpAny_newObj_type ?_
  have I3 : Inv X pins σ (upd H2 s2.heap.objs.size (.lst [])) { s2 with heap := s2.heap.push { cls := .type "list", dict := none, data := .seq ([] : List Value).toArray } } := Inv.lnew (t' := s2.toks) I2 .nil (Nat.zero_le _)
  refine wpAny_newFunctionEnv S.cell (by intro y hy; simp at hy) (fun h4 hns hsb => ?_) S.kind
  dsimp only at hns hsb ⊢
  generalize hG : s2.heap.push { cls := .type "list", dict := none, data := .seq ([] : List Value).toArray } = G at I3 hns hsb ⊢
  generalize hD : s2.heap.objs.size = D at I3 hf2
  have nD : it ≠ D := by rw [← hD]; exact Nat.ne_of_lt (Heap.lt_size ei)
  have eiG : G.get? it = some oi := by rw [← hG]; exact Heap.get?_push_of_some _ ei
  have kp : ∀ b o, G.get? b = some o → h4.get? b = some o := fun b o e => hsb.extBut b o (Nat.ne_of_lt (Heap.lt_size e)) (Heap.get?_push_of_some _ e)
  have f3 : FpOk X pins (upd H2 D (.lst [])) it := ⟨by rw [upd_ne nD]; exact f2.1, f2.2⟩
  have nb : X.base.get? it = none := by
    cases q : X.base.get? it with
    | none => rfl
    | some o =>
      have := (I.ok.bs it o q).1
      rcases f2.2.2.2.1 with z | z
      · rw [hex] at z; simp at z
      · exact absurd (Nat.lt_of_lt_of_le (Heap.lt_size this) z) (Nat.lt_irrefl _)
  have hns' : h4.Ns G.objs.size (fun _ => none) := by
    obtain ⟨o, es, ep, q1, q2, q3, q4⟩ := hns
    exact ⟨o, es, ep, q1, q2, q3, fun x => by rw [q4]; rfl⟩
  have I4 := inv_comp (tk := s2.toks + ([] : List (Str × Value)).length) S I3 f3 ⟨oi, eiG⟩ nb hns' kp
  have hdc : HdOk (X.comp scope N G.objs.size { s2 with heap := G } (upd H2 D (.lst [])) [it] (X.pn ++ pins)) := by
    rcases hd with z | ⟨x, o, u, vs, z, e, d, n⟩
    · exact .inl z
    · refine .inr ⟨x, o, u, vs, z, ?_, d, n⟩
      have q := I2.base.frzs x o u e
      show upd H2 D (.lst []) x = _
      rw [upd_ne fun w => by rw [w, hf2] at q; cases q]
      exact q
  obtain ⟨m, W, w0, turn⟩ := R D hf2
  have gg := hg _ _ _ _ _ hdc
  have ee := he _ _ _ _ _ hdc
  have fpc : ∀ {H' : Hp} {σ' : St} {s' : Shared} {pl : List (Addr × Obj)}, Inv (X.comp scope N G.objs.size { s2 with heap := G } (upd H2 D (.lst [])) [it] (X.pn ++ pins)) pl σ' H' s' → H' it = none → (∀ p ∈ pl, p.1 ≠ it) → FpOk (X.comp scope N G.objs.size { s2 with heap := G } (upd H2 D (.lst [])) [it] (X.pn ++ pins)) pl H' it := by
    intro H' σ' s' pl J' hn hp
    refine ⟨hn, Nat.ne_of_lt (Heap.lt_size eiG), ?_, .inl (List.mem_singleton.mpr rfl), (fun x c z => nomatch z), fun p hpp => ?_⟩
    · intro z
      rcases List.mem_cons.mp (I.stkSub it z) with z | z
      · exact f2.2.1 z
      · exact f2.2.2.1 z
    · rcases List.mem_append.mp hpp with z | z
      · exact f2.2.2.2.2.2 p z
      · exact hp p z
  -- the turns
  have loop : codeAny (model X.prog X.w) X.A (.compLoop (.ListComp elt [⟨target, iter, [], 0⟩] scope pos) 0 (.ref it) (.ref D) (compEnv scope G.objs.size X.env))
      (RR (.ref D) (compEnv scope G.objs.size X.env))
      { s2 with heap := h4, toks := s2.toks + ([] : List (Str × Value)).length } := by
    refine kc0_loop (fun k s' => ∃ i ys H', k = m + 1 - i ∧ Inv (X.comp scope N G.objs.size { s2 with heap := G } (upd H2 D (.lst [])) [it] (X.pn ++ pins)) [] (List.replicate N.length none) H' s' ∧ tn i s'.heap ∧ H' it = none ∧ W i ys H') ?_ (m + 1)
      ⟨0, [], _, rfl, I4, T.keep _ _ _ st2 fun o e => kp it o (by rw [← hG]; exact Heap.get?_push_of_some _ e), f3.1, w0⟩
    rintro k s5 ⟨i, ys, H5, rfl, I5, st5, n5, w5⟩
    obtain ⟨hi5, hD5, w5⟩ := turn i ys H5 w5
    rcases w5 with ⟨stop, q⟩ | ⟨lt5, go, step⟩
    · refine wpAny_mono (T.done (X.comp scope N G.objs.size { s2 with heap := G } (upd H2 D (.lst [])) [it] (X.pn ++ pins)) rfl rfl rfl hdc i [] s5 _ H5 (fun _ _ => False) I5 (fpc I5 n5 (by simp)) st5 stop) (fun r s6 z => ?_) (fun _ _ z => z.elim)
      obtain ⟨rfl, I6⟩ := z
      obtain ⟨mm, hn6, _⟩ := I6.loc
      have B6 := I6.base
      have J6 : Inv X pins σ H5 s6 := by
        refine I3.call' (ch := [it]) I6.os ⟨B6.keep, B6.slot, B6.free, B6.there, B6.tups, B6.frzs, B6.tbls⟩ I6.hok I6.bare (fun b hb => ?_)
        have e : b = it := by simpa using hb
        subst e
        exact ⟨f2.2.2.2.1, f2.2.1, f2.2.2.2.2.1, f2.2.2.2.2.2⟩
      have szG : X.s₀.heap.objs.size ≤ G.objs.size := I3.sz
      refine hRR D G.objs.size s6 H5 mm J6 hn6 ⟨I6.free, ?_, ?_, .inr szG, ?_, ?_⟩ q
      · exact Nat.ne_of_gt I3.lt
      · intro z
        obtain ⟨_, o, ho, _⟩ := I3.funs.mem z
        exact Nat.lt_irrefl _ (Heap.lt_size ho)
      · rintro x c z rfl
        obtain ⟨v', o, ho, _⟩ := I3.cell x _ z
        exact Nat.lt_irrefl _ (Heap.lt_size ho)
      · rintro p hp z
        have zz := (I3.pin p hp).1
        rw [z] at zz
        exact Nat.lt_irrefl _ (Heap.lt_size zz)
    · refine wpAny_mono (T.item (X.comp scope N G.objs.size { s2 with heap := G } (upd H2 D (.lst [])) [it] (X.pn ++ pins)) rfl rfl rfl hdc i [] s5 _ H5 (fun _ _ => False) I5 (fpc I5 n5 (by simp)) st5 go) (fun r s6 z => ?_) (fun _ _ z => z.elim)
      obtain ⟨u, rfl, z⟩ := z
      refine wpAny_mono z (fun _ s7 z => ?_) (fun _ _ z => z.elim)
      obtain ⟨x, I7, rx, yl, st7⟩ := z
      obtain ⟨o7, e7, d7⟩ := T.obj _ _ st7
      obtain ⟨p0, p1, p2, _⟩ := fpc I7 n5 (by simp)
      have I7' : Inv (X.comp scope N G.objs.size { s2 with heap := G } (upd H2 D (.lst [])) [it] (X.pn ++ pins)) [(it, o7)] (List.replicate N.length none) H5 s7 := I7.pins_of fun p hp => by
        have e : p = (it, o7) := by simpa using hp
        subst e
        exact ⟨e7, p0, p1, p2, d7⟩
      have back : ∀ {i' : Nat} {ys' : List V} {H' : Hp} {σ' : St} {s' : Shared}, i' = i + 1 → Inv (X.comp scope N G.objs.size { s2 with heap := G } (upd H2 D (.lst [])) [it] (X.pn ++ pins)) [(it, o7)] σ' H' s' → W i' ys' H' →
          ∃ k', k' < m + 1 - i ∧ ∃ i ys H', k' = m + 1 - i ∧ Inv (X.comp scope N G.objs.size { s2 with heap := G } (upd H2 D (.lst [])) [it] (X.pn ++ pins)) [] (List.replicate N.length none) H' s' ∧ tn i s'.heap ∧ H' it = none ∧ W i ys H' := by
        rintro i' ys' H' σ' s' rfl J' w'
        obtain ⟨q1, q2, _⟩ := J'.pin (it, o7) (List.mem_append_right _ (List.mem_singleton.mpr rfl))
        have jl : σ'.length = N.length := J'.len
        refine ⟨m + 1 - (i + 1), by omega, i + 1, ys', H', rfl, Inv.weak (J'.pins_of fun p hp => absurd hp (by simp)) (by rw [jl]; simp) (fun j v z => ?_), T.keep _ _ _ st7 fun o z => ?_, q2, w'⟩
        · rw [List.getElem?_replicate] at z
          split at z <;> cases z
        · rw [e7] at z
          cases z
          exact q1
      refine wpAny_mono (gg [(it, o7)] s7 _ H5 x u _ I7' rx (step x H5 yl)) (fun _ s8 z => ?_) (fun _ _ z => z.elim)
      obtain ⟨σ8, H8, I8, q8⟩ := z
      refine wpAny_mono (ee [(it, o7)] s8 σ8 H8 _ I8 q8) (fun y s10 z => ?_) (fun _ _ z => z.elim)
      obtain ⟨yv, H10, I10, ry, hD10, hz10, w10⟩ := z
      refine wpAny_mono (mt_append (X := X.comp scope N G.objs.size { s2 with heap := G } (upd H2 D (.lst [])) [it] (X.pn ++ pins)) [(it, o7)] s10 σ8 H10 (.ref D) [yv] (.ref D) [y] (fun _ H11 => W (i + 1) (ys ++ [yv]) H11) I10 rfl (.cons ry .nil) ⟨D, ys, yv, rfl, rfl, hD10, hz10, w10⟩) (fun _ s11 z => ?_) (fun _ _ z => z.elim)
      obtain ⟨_, H11, I11, _, w11⟩ := z
      exact back rfl I11 w11
  exact codeAny_compStart_list loop (T.self _ 0 _ _ _ (T.keep _ _ _ st2 fun o e => kp it o (by rw [← hG]; exact Heap.get?_push_of_some _ e)) loop)
/-- the comprehension as a value -/
theorem letgo {pins : List (Addr × Obj)} {σ : St} {H : Hp} {s : Shared} {C : Addr} {h' : Heap} (I : Inv X pins σ H s) (f : FpOk X pins H C) (sb : Heap.SameBut C s.heap h') : Inv X pins σ H { s with heap := h' } :=
  I.turned (t' := s.toks) (fun b o hb e => (sb.2 b hb).trans e) f.1 f.2.1 f.2.2.2.1 f.2.2.2.2.1 f.2.2.2.2.2
theorem pe_comp0 {elt target iter : Expr} {scope : Scope} {pos : Pos} {N : List Str} {wi : TI} {g : TG} {te : TE} (S : CompScope N scope) (hd : HdOk X) (hi : PIH X target iter wi) (hex : X.ex = [])
    (hg : ∀ C s₀ H₀ ex pn, HdOk (X.comp scope N C s₀ H₀ ex pn) → PG (X.comp scope N C s₀ H₀ ex pn) target g)
    (he : ∀ C s₀ H₀ ex pn, HdOk (X.comp scope N C s₀ H₀ ex pn) → PE (X.comp scope N C s₀ H₀ ex pn) elt te)
    (hs : ∀ x, foldedSetIterable iter X.env x = pure x := by intro _; rfl) : PE X (.ListComp elt [⟨target, iter, [], 0⟩] scope pos) (tComp0 N.length wi g te) := by
  intro pins s σ H Q I h
  refine wpAny_ListComp S.free S.kind S.loc (comp_walk0 S hd hi hex hg he I h (RR := fun acc ce r s' => ∃ m, s'.heap.Ns ce.locals m ∧ ∀ h', Heap.SameBut ce.locals s'.heap h' → match r with
    | .ok _ => EP X pins σ Q acc { s' with heap := h' }
    | .error x => wpAny (model X.prog X.w) X.A (passOn "comprehension.variables-let-go" x ce) (EP X pins σ Q) X.xe { s' with heap := h' }) ?_) hs
  intro D C s6 H5 mm I6 n6 f6 q
  exact ⟨mm, n6, fun h' sb => ⟨.ref D, H5, letgo I6 f6 sb, rfl, q⟩⟩
end
end L2
set_option Elab.async false
set_option linter.all false
set_option maxRecDepth 100000
set_option maxHeartbeats 4000000
namespace L2
open PySem PySem.Spec PyProof.Rows PySem.W
section
variable {X : Cx} {a b c : Expr} {ta tb tc : TE} {pos : Pos}
/-! ### great ints -/
theorem op_mulK : OpR X (binaryOp .Mult) (rI IntMulOk fun i j => .int (i * j)) := opI fun _ _ _ _ _ _ _ hc q => mul_int q hc
theorem op_fdivK : OpR X (binaryOp .FloorDiv) (rI (fun _ j => 0 < j ∧ j.natAbs.log2 < 9000) fun i j => .int (i / j)) := opI fun i j _ _ _ _ _ hc q => by
  have h1 : (0 : Int) < j := hc.1
  exact floordiv_int (by omega) (by rw [Int.fdiv_eq_ediv_of_nonneg i (by omega)]; exact q) (.inl (PyProof.noPylong_of_log2 hc.2))
theorem log2_small {i : Int} {k : Nat} (h : i.natAbs < 2 ^ k) (hk : 0 < k) : i.natAbs.log2 < k := by
  by_cases z : i.natAbs = 0
  · rw [z]; simpa using hk
  · exact (Nat.log2_lt z).mpr h
theorem bits_small {i : Int} (h : i.natAbs < 2 ^ 1000) : Builtin.Int.intBits i ≤ 2 ^ 20 := by
  unfold Builtin.Int.intBits
  split
  · exact Nat.zero_le _
  · have := log2_small h (by decide)
    have e : (2 : Nat) ^ 20 = 1048576 := by decide
    omega
theorem mulOk_small {i j : Int} (h : i.natAbs < 2 ^ 1000) (h' : j.natAbs < 2 ^ 1000) : IntMulOk i j := IntMulOk.of_bits (bits_small h) (bits_small h')
/-! ### isinstance -/
/-- the type of a value, an exception that is known too -/
inductive TyE (K : Frag) (H : Hp) : V → Value → Prop where
  | of {x : V} {t : Value} (h : TyOf K H x t) : TyE K H x t
  | exc {a C t T : Addr} {u : HO} (e : H a = some (.frz (ExcO (.ref C) t none (.ref T)) u)) (k : ExcK K C) : TyE K H (.ref a) (.ref C)
  | excD {a C t T d : Addr} {u : HO} {fs : List (Str × V)} (e : H a = some (.frz (ExcO (.ref C) t (some d) (.ref T)) u)) (hd : H d = some (.xd fs)) (k : ExcK K C) : TyE K H (.ref a) (.ref C)
  | tupK {a : Addr} {o : Obj} (l : K.lookup a = some o) (c : o.cls = .type "tuple") : TyE K H (.ref a) (.type "tuple")
theorem isinst_okE {pins : List (Addr × Obj)} {σ : St} {H : Hp} {s : Shared} {A : Around} {E : Value → Shared → Prop} {Q : Value → Shared → Prop} {c : Value} {b : Bool} {x : V} {u t : Value} (I : Inv X pins σ H s) (rx : RelV x u) (ty : TyE X.K H x t)
    (e : kitOne X.K t c = some b) (h : ∀ tk, Q (.bool b) { s with toks := tk }) : wpAny (model X.prog X.w) A (call (.builtin "isinstance") [u, c]) Q E s := by
  cases ty with
  | of h' => exact isinst_ok I rx h' e h
  | exc ea k =>
    cases rx
    rename_i a C t0 T u0
    have o1 : s.heap.get? a = some (ExcO (.ref C) t0 none (.ref T)) := (I.hok a _ ea).1
    refine kia_one (H := fun h => PySem.W.InstAt h a (ExcO (.ref C) t0 none (.ref T)) C none) ?_ I.kIn ⟨o1, rfl, rfl, trivial⟩ e (fun z => nomatch z) h
    refine ⟨fun M h _ J => J.type, fun M h K _ => looks_isType K k.cl, fun h tp dd its n sl K htp => ?_, fun K J q => exc_class_attr k K J q⟩
    refine Bool.eq_false_iff.mpr fun q => ?_
    have e : C = tp := Value.ref.inj (beq_iff_eq.mp q)
    subst e
    have z := k.cl
    unfold clsIn at z
    split at z
    · rename_i ho
      have y := (K _ _ ho).symm.trans htp
      cases y
    · cases z
  | tupK l c =>
    cases rx
    exact PySem.W.kia_one PySem.W.kitx_tuple I.kIn ⟨_, I.kIn _ _ l, c⟩ e (fun z => nomatch z) h
  | excD ea hd k =>
    cases rx
    rename_i a C t0 T d u0 fs
    have o1 : s.heap.get? a = some (ExcO (.ref C) t0 (some d) (.ref T)) := (I.hok a _ ea).1
    obtain ⟨mA, nA, _⟩ := (show ∃ mA, s.heap.Ns1 d mA ∧ ∀ f, RelO (fs.lookup f) (mA f) from I.hok d _ hd)
    obtain ⟨od, o2, _⟩ := lookIn_ns nA
    refine kia_one (H := fun h => PySem.W.InstAt h a (ExcO (.ref C) t0 (some d) (.ref T)) C (some od)) ?_ I.kIn ⟨o1, rfl, rfl, o2⟩ e (fun z => nomatch z) h
    refine ⟨fun M h _ J => J.type, fun M h K _ => looks_isType K k.cl, fun h tp dd its n sl K htp => ?_, fun K J q => exc_class_attr k K J q⟩
    refine Bool.eq_false_iff.mpr fun q => ?_
    have e : C = tp := Value.ref.inj (beq_iff_eq.mp q)
    subst e
    have z := k.cl
    unfold clsIn at z
    split at z
    · rename_i ho
      have y := (K _ _ ho).symm.trans htp
      cases y
    · cases z
/-- a class, as a value -/
def clsV : V → Option Value
  | .ty n => some (.type n)
  | .ref a => some (.ref a)
  | _ => none
theorem call_isinst : CallR X (.builtin "isinstance") (fun xs H Q => ∃ x c cv t b, xs = [x, c] ∧ clsV c = some cv ∧ TyE X.K H x t ∧ kitOne X.K t cv = some b ∧ Q (.bl b) H) := by
  intro pins s σ H xs us Q I r h
  obtain ⟨x, c, cv, t, b, rfl, hc, ty, e, q⟩ := h
  obtain ⟨u, v, rfl, ru, rv⟩ := Vals.two r
  have : v = cv := by
    cases c <;> simp only [clsV] at hc <;> first | (cases hc; exact rv) | cases hc
  subst this
  exact isinst_okE I ru ty e fun tk => ⟨.bl b, H, I.tok tk, rfl, q⟩
/-! ### == of data -/
mutual
/-- a value as data: flat ones, tuples and lists of such -/
inductive RdD (K : Frag) (H : Hp) : V → PyData → Prop where
  | non : RdD K H .non .none
  | bl (b : Bool) : RdD K H (.bl b) (.bool b)
  | int (i : Int) : RdD K H (.int i) (.int i)
  | str (x : Str) : RdD K H (.str x) (.str x)
  | tup {a : Addr} {xs : List V} {ds : List PyData} (h : SqT K H a xs) (r : RdDs K H xs ds) : RdD K H (.ref a) (.tuple ds)
  | lst {a : Addr} {xs : List V} {ds : List PyData} (h : SqL K H a xs) (r : RdDs K H xs ds) : RdD K H (.ref a) (.list ds)
inductive RdDs (K : Frag) (H : Hp) : List V → List PyData → Prop where
  | nil : RdDs K H [] []
  | cons {x : V} {xs : List V} {d : PyData} {ds : List PyData} (h : RdD K H x d) (r : RdDs K H xs ds) : RdDs K H (x :: xs) (d :: ds)
end
mutual
theorem RdD.reads {pins : List (Addr × Obj)} {σ : St} {H : Hp} {s : Shared} (I : Inv X pins σ H s) : ∀ {x : V} {d : PyData} {u : Value}, RdD X.K H x d → RelV x u → ∃ as, Reads s.heap u d as
  | _, _, _, .non, r => by cases r; exact ⟨_, .none⟩
  | _, _, _, .bl b, r => by cases r; exact ⟨_, .bool b⟩
  | _, _, _, .int i, r => by obtain ⟨t, rfl⟩ := r; exact ⟨_, .int i t⟩
  | _, _, _, .str x, r => by obtain ⟨t, rfl⟩ := r; exact ⟨_, .str x t⟩
  | _, _, _, .tup h q, r => by
    cases r
    obtain ⟨its, rv, ⟨o, e, c, n, d⟩, _⟩ := I.tuple h
    obtain ⟨as, z⟩ := RdDs.reads I q rv
    exact ⟨_, reads_tuple_at e c d (by simpa using z)⟩
  | _, _, _, .lst h q, r => by
    cases r
    obtain ⟨its, rv, p, _⟩ := I.list h
    obtain ⟨o, e, c, n, d⟩ := p.isList
    obtain ⟨as, z⟩ := RdDs.reads I q rv
    exact ⟨_, reads_list_at e c d (by simpa using z)⟩
theorem RdDs.reads {pins : List (Addr × Obj)} {σ : St} {H : Hp} {s : Shared} (I : Inv X pins σ H s) : ∀ {xs : List V} {ds : List PyData} {us : List Value}, RdDs X.K H xs ds → Vals xs us → ∃ as, ReadsAll s.heap us ds as
  | _, _, _, .nil, r => by cases r; exact ⟨_, .nil⟩
  | _, _, _, .cons h q, r => by
    cases r with
    | cons r1 r2 =>
      obtain ⟨as, z⟩ := RdD.reads I h r1
      obtain ⟨bs, y⟩ := RdDs.reads I q r2
      exact ⟨_, .cons z y⟩
end
def rEqD (K : Frag) (n : Bool) : R2 := fun x y H Q => ∃ d e, RdD K H x d ∧ RdD K H y e ∧ SeqAt.shaped d = true ∧ SeqAt.shaped e = true ∧ Q (.bl (if n then !PyData.eqv d e else PyData.eqv d e)) H
theorem op_eqD (hu : X.A.units + 64 < cLine) : OpR X (compareOp .Eq) (rEqD X.K false) := by
  intro pins s σ H x y v u Q I rx ry q
  obtain ⟨d, e, hx, hy, sd, se, q⟩ := q
  obtain ⟨as, z⟩ := hx.reads I rx
  obtain ⟨bs, z'⟩ := hy.reads I ry
  exact eq_dataH z z' sd se hu ⟨.bl (PyData.eqv d e), H, I, rfl, q⟩
theorem op_neD (hu : X.A.units + 64 < cLine) : OpR X (compareOp .NotEq) (rEqD X.K true) := by
  intro pins s σ H x y v u Q I rx ry q
  obtain ⟨d, e, hx, hy, sd, se, q⟩ := q
  obtain ⟨as, z⟩ := hx.reads I rx
  obtain ⟨bs, z'⟩ := hy.reads I ry
  exact ne_dataH z z' sd se hu ⟨.bl (!PyData.eqv d e), H, I, rfl, q⟩
/-! ### f'a {x} b': some text comes -/
/-- the parts of an f-string: written ones, and ints that are not too long -/
inductive FPart (X : Cx) : Expr → TE → Prop where
  | lit {x : Str} {j : Nat} {pos : Pos} : FPart X (.Constant (.str x) j pos) (tC (.str x))
  | int {v : Expr} {tv : TE} {pos : Pos} (h : PE X v tv) : FPart X (.FormattedValue v (-1) none pos) (fun σ H Q => tv σ H fun y H1 => ∃ i, y = .int i ∧ i.natAbs.log2 < 1920 ∧ Q (.str (toString i)) H1)
theorem FPart.pe {e : Expr} {t : TE} (h : FPart X e t) : PE X e t := by
  cases h with
  | lit => exact pe_str
  | int h =>
    intro pins s σ H Q I q
    refine FormattedValue_plain (thn (h pins s σ H _ I q) fun u s1 ⟨y, H1, I1, r, i, e, l, q⟩ => ?_)
    subst e
    obtain ⟨t, rfl⟩ := r
    exact formatField_int_small l ⟨.str (toString i), H1, I1.tok _, ⟨_, rfl⟩, q⟩
/-- the joined parts, from the left -/
inductive FParts (X : Cx) : List Expr → (Str → TE) → Prop where
  | nil : FParts X [] (fun out _ H Q => out.length ≤ sizeLine ∧ Q (.str out) H)
  | cons {e : Expr} {es : List Expr} {t : TE} {r : Str → TE} (h : FPart X e t) (hr : FParts X es r) : FParts X (e :: es) (fun out σ H Q => t σ H fun x H1 => ∃ y, x = .str y ∧ (out ++ y).length ≤ sizeLine ∧ r (out ++ y) σ H1 Q)
theorem FParts.run {es : List Expr} {t : Str → TE} (h : FParts X es t) : ∀ (out : Str) (pins : List (Addr × Obj)) (s : Shared) (σ : St) (H : Hp) (Q : VK), Inv X pins σ H s → t out σ H Q →
    wpAny (model X.prog X.w) X.A (joinParts out (evalEach es X.env)) (EP X pins σ Q) X.xe s := by
  induction h with
  | nil =>
    intro out pins s σ H Q I q
    exact joinParts_nil ⟨.str out, H, I.tok _, ⟨_, rfl⟩, q.2⟩ q.1
  | @cons e es t r h hr ih =>
    intro out pins s σ H Q I q
    show wpAny _ _ (joinParts out (eval e X.env :: evalEach es X.env)) _ _ _
    refine joinParts_cons (thn (h.pe pins s σ H _ I q) fun u s1 ⟨x, H1, I1, rx, y, ey, z, q⟩ => ?_)
    subst ey
    obtain ⟨t', rfl⟩ := rx
    exact ⟨z, ih _ pins s1 σ H1 Q I1 q⟩
end
end L2
set_option Elab.async false
set_option linter.all false
set_option maxRecDepth 100000
set_option maxHeartbeats 4000000
namespace L2
open PySem PySem.Spec PyProof.Rows PySem.W
/-! ### a def that is called within an except suite -/
structure RoomH (k : Nat) (A : Around) : Prop where
  dp : A.depth + 3 * k + 5 < recursionLimit
  un : A.units + 16 * k + 200 < cLine
theorem Room.h {k : Nat} {A : Around} (r : Room k A) : RoomH k A := ⟨r.dp, r.un⟩
theorem Room.hm {k : Nat} {A : Around} (r : Room k A) (h : Option Value) : RoomH k (A.mark h) := ⟨r.dp, r.un⟩
theorem RoomH.mono {j k : Nat} {A : Around} (r : RoomH k A) (h : j ≤ k) : RoomH j A := ⟨by have := r.dp; omega, by have := r.un; omega⟩
theorem RoomH.deeper {k : Nat} {A : Around} (r : RoomH (k + 1) A) (env : Env) : RoomH k (A.deeper env) :=
  ⟨by have := r.dp; show A.depth + 1 + 3 * k + 5 < _; omega, by have := r.un; show A.units + 3 + 16 * k + 200 < _; omega⟩
theorem RoomH.depth {k : Nat} {A : Around} (r : RoomH k A) : A.depth < recursionLimit := by have := r.dp; omega
def HdH (A : Around) (H : Hp) : Prop := A.handled = none ∨ ∃ x o u vs, A.handled = some (.ref x) ∧ H x = some (.frz o u) ∧ o.data = .fields vs ∧ vs[2]? = some .none
structure FnOkH (P : Program) (w : World) (K : Frag) (mg : Str → Option Value) (base : Heap) (k : Nat) (f : Addr) (fd : FuncData) (ps : List Str) (sp : Sp) : Prop where
  len : ∀ vs H Q E, sp vs H Q E → vs.length = ps.length
  run : ∀ (A : Around) (outer : List Env) (s : Shared) (H : Hp) (args : Args) (us : List Value) (vs : List V) (Q : VK), RoomH k A → Env0 P w K mg base A outer s H → HdH A H → BindsTo s fd args (ps.zip us) → Vals vs us → sp vs H Q E0 →
    codeAny (model P w) A (.call (.ref f) args) (CR CX0 outer P w H s Q E0) s
/-- A without what is handled -/
abbrev quiet (A : Around) : Around := { A with handled := none }
theorem Env0.quiet {P : Program} {w : World} {K : Frag} {mg : Str → Option Value} {base : Heap} {A : Around} {outer : List Env} {s : Shared} {H : Hp} (e : Env0 P w K mg base A outer s H) : Env0 P w K mg base (quiet A) outer s H :=
  ⟨e.frames, e.mod, e.bs, e.bsz, e.funs, e.frf, e.hok, e.bare⟩
section
variable {P : Program} {w : World} {K : Frag} {mg : Str → Option Value} {base : Heap}
/-- it may be called elsewhere too -/
theorem FnOkH.calm {k : Nat} {f : Addr} {fd : FuncData} {ps : List Str} {sp : Sp} (F : FnOkH P w K mg base k f fd ps sp) (h : ∀ vs H Q E, sp vs H Q E → sp vs H Q E0) : FnOk P w K mg base CX0 k f fd ps sp := by
  refine ⟨F.len, fun A outer s H args us vs Q E hr e0 hb r hsp => codeAny_mono (F.run A outer s H args us vs Q hr.h e0 (.inl hr.hd) hb r (h _ _ _ _ hsp)) fun r s' q => ?_⟩
  cases r with
  | error e => exact q
  | ok fl => cases fl <;> exact q
end
section
variable {X : Cx} {k : Nat} {f : Addr} {fd : FuncData} {ps : List Str} {sp : Sp} {x : Str} {p pos : Pos} {e : Expr} {es : List Expr} {t : TA}
end
end L2
set_option Elab.async false
set_option linter.all false
set_option maxRecDepth 100000
set_option maxHeartbeats 4000000
namespace L2
open PySem PySem.Spec PyProof.Rows PySem.W
/-! ### where no exception may come -/
abbrev EKF : EK := fun _ _ _ _ => False
theorem catches0 {X : Cx} : Catches X EKF := fun _ _ _ _ _ _ _ _ _ _ h => h.elim
theorem Catches.mono {X : Cx} {E E' : EK} (h : Catches X E) (k : ∀ C d σ H, E' C d σ H → E C d σ H) : Catches X E' := fun pins σ H s a t C dd I F q => h pins σ H s a t C dd I F (k _ _ _ _ q)
/-! ### a def of the text -/
structure Def (K : Frag) (mg : Str → Option Value) (x : Str) (ps : List Str) (st : Stmt) (f : Addr) (fd : FuncData) : Prop where
  F : Fun K x x st f fd
  g : mg x = some (.ref f)
  b : Binds K fd ps []
theorem def_mk {K : Frag} {h : Heap} {mg : Str → Option Value} {x : Str} {ps : List Str} {st : Stmt} {f : Addr} {oc : Value} {od an : Option Addr} {osl : Array (Option Value)} {kV doc pm cdv ct : Value} (X : K.In h) (G : h.Ns mainGlobals mg)
    (a : nsIn K mainGlobals x = some (some (.ref f))) (l : K.lookup f = some ⟨oc, od, .func (fnOf x x (defArgs st) (defBody st) (defScope st) .none kV doc pm an cdv ct), osl⟩) (c : codeIn K cdv x = true) (k : keepIn K (.ref f) = true)
    (hb : ∀ (kV doc pm : Value) (an : Option Addr) (cdv ct : Value) (us : List Value), us.length = ps.length → bindArgs (fnOf x x (defArgs st) (defBody st) (defScope st) .none kV doc pm an cdv ct) ⟨us, []⟩ = pure (ps.zip us)) :
    Def K mg x ps st f (fnOf x x (defArgs st) (defBody st) (defScope st) .none kV doc pm an cdv ct) :=
  ⟨fun_mk (st := st) l c k, mg_of X G a, (fun_mk (st := st) l c k).binds hb⟩
theorem iteDF {c A B : Prop} [Decidable c] (h : ¬ c) (b : B) : if decide c = true then A else B := by rw [decide_eq_false h]; exact iteF b
theorem iteDT {c A B : Prop} [Decidable c] (h : c) (a : A) : if decide c = true then A else B := by rw [decide_eq_true h]; exact iteT a
theorem iteD {c A B : Prop} [Decidable c] (a : c → A) (b : ¬ c → B) : if decide c = true then A else B := by
  by_cases h : c
  · exact iteDT h (a h)
  · exact iteDF h (b h)
/-! ### ways that meet again -/
def tJoin (t : TS) : TS := fun D σ H => ∃ J : St → Hp → Prop, t { D with nx := J } σ H ∧ ∀ σ' H', J σ' H' → D.nx σ' H'
theorem ps_join {X : Cx} {st : Stmt} {t : TS} (h : PS X st t) : PS X st (tJoin t) := by
  intro pins s σ H D I q
  obtain ⟨J, q, k⟩ := q
  refine thn (h pins s σ H _ I q) fun f s' z => ?_
  cases f with
  | next => obtain ⟨σ', H', I', y⟩ := z; exact ⟨σ', H', I', k _ _ y⟩
  | brk => exact z
  | cont => exact z
  | ret u => exact z
/-- an item of a list of ints at an open place -/
theorem ixs {xs : List Int} {i : Int} (h0 : 0 ≤ i) (h1 : i < xs.length) : ∃ v, v ∈ xs ∧ atI (xs.map V.int) i = some (.int v) := by
  obtain ⟨j, rfl⟩ := Int.eq_ofNat_of_zero_le h0
  have hj : j < xs.length := by omega
  exact ⟨xs[j], List.getElem_mem hj, atI_nat (by simp [hj])⟩
theorem ixv {xs : List V} {i : Int} (h0 : 0 ≤ i) (h1 : i < xs.length) : ∃ v, v ∈ xs ∧ atI xs i = some v := by
  obtain ⟨j, rfl⟩ := Int.eq_ofNat_of_zero_le h0
  have hj : j < xs.length := by omega
  exact ⟨xs[j], List.getElem_mem hj, atI_nat (by simp [hj])⟩
theorem Same.upd {H : Hp} {p : Addr} {o : HO} (h : H p = none) : Same H (L2.upd H p o) := fun b u e => by rw [upd_ne (ne_of_none e h)]; exact e
theorem line1000 {n : Nat} (h : n ≤ 1000) : n ≤ sizeLine := Nat.le_of_lt (small1000 h)
section
variable {X : Cx} {k j : Nat} {f : Addr} {fd : FuncData} {ps : List Str} {sp : Sp} {EH : EK} {x : Str} {st : Stmt} {p pos : Pos} {e : Expr} {es : List Expr} {t : TA}
/-- f(..) -/
theorem pcall (D : Def X.K X.mg x ps st f fd) (F : FnOk X.prog X.w X.K X.mg X.base (CX1 X.prog X.w) j f fd ps sp) (hr : Room k X.A) (hx : Catches X EH) (ha : PA X (e :: es) t) (hj : j ≤ k := by decide) (hg : Gl X x := by rfl) (hex : X.ex = [] := by rfl) (hdb : (x == ("__debug__" : Str)) = false := by decide)
    (he : starEach (e :: es) X.env = (false, eval e X.env) :: starEach es X.env := by rfl) (hpl : (backTo pos (starEach es X.env)).any (·.1) = false := by rfl) : PE X (.Call (.Name x p) (e :: es) [] pos) (tCallE sp [] EH t) :=
  pe_callE (F.mono hj) hr hg D.g D.F.kp D.b .nil hx ha hex hdb he hpl
/-- a type of Python's own, as a value -/
theorem pty {n : Str} {T : String} (hm : X.mg n = none) (hv : bootBuiltins n = some (.type T)) (hg : Gl X n := by rfl) (hn : n ≠ "__name__" := by decide) (hdb : (n == ("__debug__" : Str)) = false := by decide) : PE X (.Name n pos) (tC (.ty T)) := pe_bltn hg hm hv rfl hn hdb
/-- a class of the text, as a value -/
theorem pcls {n : Str} {C : Addr} (hm : X.mg n = some (.ref C)) (hg : Gl X n := by rfl) (hdb : (n == ("__debug__" : Str)) = false := by decide) : PE X (.Name n pos) (tC (.ref C)) := pe_glob hg hm rfl hdb
/-- isinstance(a, b) -/
theorem pisi {a b : Expr} {ta tb : TE} (hm : X.mg "isinstance" = none) (ha : PE X a ta) (hb : PE X b tb) (hg : Gl X "isinstance" := by rfl)
    (h1 : starEach [a, b] X.env = (false, eval a X.env) :: starEach [b] X.env := by rfl) (h2 : starEach [b] X.env = (false, eval b X.env) :: starEach [] X.env := by rfl) (h3 : (backTo pos (starEach [b] X.env)).any (·.1) = false := by rfl) :
    PE X (.Call (.Name "isinstance" p) [a, b] [] pos) (tCB (fun xs H Q => ∃ x c cv t b, xs = [x, c] ∧ clsV c = some cv ∧ TyE X.K H x t ∧ kitOne X.K t cv = some b ∧ Q (.bl b) H) (tCons ta (tCons tb tNil))) :=
  pe_callB call_isinst hg hm boot_isinstance (pa_cons ha (pa_cons hb pa_nil h2) h1) (he := h1) (hpl := h3)
theorem pisiK {K : Frag} {a b : Expr} {ta tb : TE} (hK : X.K = K) (hm : X.mg "isinstance" = none) (ha : PE X a ta) (hb : PE X b tb) (hg : Gl X "isinstance" := by rfl)
    (h1 : starEach [a, b] X.env = (false, eval a X.env) :: starEach [b] X.env := by rfl) (h2 : starEach [b] X.env = (false, eval b X.env) :: starEach [] X.env := by rfl) (h3 : (backTo pos (starEach [b] X.env)).any (·.1) = false := by rfl) :
    PE X (.Call (.Name "isinstance" p) [a, b] [] pos) (tCB (fun xs H Q => ∃ x c cv t b, xs = [x, c] ∧ clsV c = some cv ∧ TyE K H x t ∧ kitOne K t cv = some b ∧ Q (.bl b) H) (tCons ta (tCons tb tNil))) := by
  subst hK
  exact pisi hm ha hb hg h1 h2 h3
end
end L2
set_option Elab.async false
set_option linter.all false
set_option maxRecDepth 100000
set_option maxHeartbeats 4000000
namespace L2
open PySem PySem.Spec PyProof.Rows PySem.W
/-! ### readings that name no inner state -/
section
variable {X : Cx} {k j : Nat} {f : Addr} {fd : FuncData} {ps : List Str} {sp : Sp} {x : Str} {st : Stmt} {p pos : Pos} {e : Expr} {es : List Expr} {t : TA}
theorem op_neDK {K : Frag} (hK : X.K = K) (hu : X.A.units + 64 < cLine) : OpR X (compareOp .NotEq) (rEqD K true) := by subst hK; exact op_neD hu
end
end L2
set_option Elab.async false
set_option linter.all false
set_option maxRecDepth 100000
set_option maxHeartbeats 4000000
namespace L2
open PySem PySem.Spec PyProof.Rows PySem.W
section
variable {X : Cx} {k j : Nat} {f C : Addr} {fd : FuncData} {ps : List Str} {sp : Sp} {dvs : List V} {ds : List Value} {EH : EK} {x m : Str} {p pos apos : Pos} {e o : Expr} {es : List Expr} {ta : TE} {t : TA}
/-! ### methods that may raise -/
def tMethE (C : Addr) (m : Str) (sp : Sp) (dvs : List V) (EH : EK) (ta : TE) (t : TA) : TE := fun σ H Q => ta σ H fun x H1 => ∃ a dx fs, x = .ref a ∧ H1 a = some (.ins C dx fs) ∧ fs.lookup m = none ∧
  t σ H1 fun vs H2 => sp (x :: (vs ++ dvs)) H2 Q (fun C d H' => EH C d σ H')
/-- o.m(e, ..) -/
theorem pmeth {pl : Sem Bool} (he : PE X o ta) (c : Cls X.K C) (hm : Meth X.K C m f) (F : FnOk X.prog X.w X.K X.mg X.base (CX1 X.prog X.w) j f fd ps sp) (hr : Room k X.A) (hb : Binds X.K fd ps ds) (hd : Vals dvs ds) (hx : Catches X EH) (ha : PA X (e :: es) t)
    (hj : j ≤ k := by decide) (hex : X.ex = [] := by rfl)
    (hst : starEach (e :: es) X.env = (false, eval e X.env) :: starEach es X.env := by rfl) (hpl : (backTo pos (starEach es X.env)).any (·.1) = false := by rfl)
    (ht : eval (.Call (.Attribute o m apos) (e :: es) [] pos) X.env = (do
      let ov ← eval o X.env
      standAt apos.atName
      let (f, first) ← holding [ov] (getMethod ov m pl)
      callWith pos f first (backTo pos (starEach (e :: es) X.env)) (backToKw pos (keywordEach [] X.env))) := by rfl) :
    PE X (.Call (.Attribute o m apos) (e :: es) [] pos) (tMethE C m sp dvs EH ta t) := by
  intro pins s σ H Q I h
  refine methodCall_KW (pl := pl) (thn (he pins s σ H _ I h) fun u s1 ⟨x, H1, I1, rx, a, dx, fs, ex, ea, l, q⟩ => ?_) ht
  subst ex
  obtain rfl : u = Value.ref a := rx
  refine getmeth_ok I1 ea c hm l ?_
  refine callWith_K (first := [.ref a]) (h₀ := X.base) I.ok.mod.kin hm.kp (thn (ha pos pins s1 σ H1 _ I1 q) fun us s2 ⟨vs, H2, I2, r, q2⟩ => ⟨I2.kIn, ?_⟩) hst hpl
  exact run_fnE (us := .ref a :: us) (vs := .ref a :: vs) (F.mono hj) hr hb hd hx hex I2 (.cons rfl r) q2
/-- o.m() -/
theorem pmeth0 {pl : Sem Bool} (he : PE X o ta) (c : Cls X.K C) (hm : Meth X.K C m f) (F : FnOk X.prog X.w X.K X.mg X.base (CX1 X.prog X.w) j f fd ps sp) (hr : Room k X.A) (hb : Binds X.K fd ps ds) (hd : Vals dvs ds) (hx : Catches X EH)
    (hj : j ≤ k := by decide) (hex : X.ex = [] := by rfl)
    (ht : eval (.Call (.Attribute o m apos) [] [] pos) X.env = (do
      let ov ← eval o X.env
      standAt apos.atName
      let (f, first) ← holding [ov] (getMethod ov m pl)
      callWith pos f first (backTo pos (starEach [] X.env)) (backToKw pos (keywordEach [] X.env))) := by rfl) :
    PE X (.Call (.Attribute o m apos) [] [] pos) (tMethE C m sp dvs EH ta tNil) := by
  intro pins s σ H Q I h
  refine methodCall_KW (pl := pl) (thn (he pins s σ H _ I h) fun u s1 ⟨x, H1, I1, rx, a, dx, fs, ex, ea, l, q⟩ => ?_) ht
  subst ex
  obtain rfl : u = Value.ref a := rx
  refine getmeth_ok I1 ea c hm l ?_
  exact callWith_K0 (first := [.ref a]) I1.kIn hm.kp (run_fnE (us := [.ref a]) (vs := [.ref a]) (F.mono hj) hr hb hd hx hex I1 (.cons rfl .nil) q)
/-! ### makings that may raise -/
def tMakeE (C : Addr) (sp : Sp) (dvs : List V) (EH : EK) (t : TA) : TE := fun σ H Q => t σ H fun vs H1 => ∀ x dx, H1 x = none → H1 dx = none → dx ≠ x →
  sp (.ref x :: (vs ++ dvs)) (upd (upd H1 dx (.own x)) x (.ins C dx [])) (fun v H2 => v = .non ∧ Q (.ref x) H2) (fun C d H' => EH C d σ H')
theorem run_makeE {pins : List (Addr × Obj)} {σ : St} {H : Hp} {s : Shared} {Q : VK} {us : List Value} {vs : List V} (M : Mk X.K C f) (F : FnOk X.prog X.w X.K X.mg X.base (CX1 X.prog X.w) k f fd ps sp) (hr : Room (k + 1) X.A) (hb : Binds X.K fd ps ds) (hd : Vals dvs ds)
    (hx : Catches X EH) (hex : X.ex = []) (I : Inv X pins σ H s) (r : Vals vs us)
    (h : ∀ x dx, H x = none → H dx = none → dx ≠ x → sp (.ref x :: (vs ++ dvs)) (upd (upd H dx (.own x)) x (.ins C dx [])) (fun v H2 => v = .non ∧ Q (.ref x) H2) (fun C d H' => EH C d σ H')) :
    wpAny (model X.prog X.w) X.A (call (.ref C) us) (EP X pins σ Q) X.xe s := by
  have hq := h (s.heap.objs.size + 1) s.heap.objs.size (I.hok.fresh (Nat.le_succ _)) (I.hok.fresh (Nat.le_refl _)) (Nat.ne_of_lt (Nat.lt_succ_self _))
  have I2 := Inv.made (C := C) I
  have r2 : Vals (V.ref (s.heap.objs.size + 1) :: (vs ++ dvs)) (Value.ref (s.heap.objs.size + 1) :: (us ++ ds)) := .cons rfl (r.append hd)
  have hl : (Value.ref (s.heap.objs.size + 1) :: us ++ ds).length = ps.length := by
    have e := r2.length
    rw [F.len _ _ _ _ hq] at e
    exact e.symm
  refine wpAny_call (make_map (f := f) I.kIn M.makes M.init (beq_iff_eq.mp M.fn) (codeAny_mono (F.run _ X.stack _ _ ⟨Value.ref (s.heap.objs.size + 1) :: us, []⟩ (Value.ref (s.heap.objs.size + 1) :: (us ++ ds)) _ _ _ (hr.make C us [])
    (I2.env0.make C us []) (hb _ (Value.ref (s.heap.objs.size + 1) :: us) I2.kIn hl) r2 hq) fun r s' hq' => ?_))
  cases r with
  | error e => exact came hx hex I2 hq'
  | ok fl =>
    cases fl with
    | ret u =>
      obtain ⟨v, H', I3, rv, ev, q3⟩ := I2.after hq'
      subst ev
      exact ⟨rv, ⟨V.ref (s.heap.objs.size + 1), H', I3, rfl, q3⟩⟩
    | next => exact False.elim hq'
    | brk => exact False.elim hq'
    | cont => exact False.elim hq'
/-- C(e, ..) -/
theorem pmake (M : Mk X.K C f) (F : FnOk X.prog X.w X.K X.mg X.base (CX1 X.prog X.w) j f fd ps sp) (hr : Room k X.A) (hm : X.mg x = some (.ref C)) (hb : Binds X.K fd ps ds) (hd : Vals dvs ds) (hx : Catches X EH)
    (ha : PA X (e :: es) t) (hj : j + 1 ≤ k := by decide) (hg : Gl X x := by rfl) (hex : X.ex = [] := by rfl) (hdb : (x == ("__debug__" : Str)) = false := by decide) (he : starEach (e :: es) X.env = (false, eval e X.env) :: starEach es X.env := by rfl) (hpl : (backTo pos (starEach es X.env)).any (·.1) = false := by rfl) :
    PE X (.Call (.Name x p) (e :: es) [] pos) (tMakeE C sp dvs EH t) := by
  intro pins s σ H Q I h
  refine wpAny_Call_Name_kw (ld_glob I hg hm ?_ hdb)
  refine callWith_K (h₀ := X.base) I.ok.mod.kin M.kp (thn (ha pos pins s σ H _ I h) fun us s1 ⟨vs, H1, I1, r, q⟩ => ⟨I1.kIn, ?_⟩) he hpl
  exact run_makeE M F (hr.mono hj) hb hd hx hex I1 r q
end
/-! ### texts -/
theorem notLong {n : Nat} (h : n ≤ sizeLine) : Builtin.Str.tooLong n = false := by
  unfold Builtin.Str.tooLong
  exact decide_eq_false (by omega)
section
variable {X : Cx}
/-- text[lo:hi] -/
theorem part_of {v : Value} {o : Option Int} (h : IsPart v o) : ∃ p : Option (Int × Tok), v = partValue p ∧ p.map (·.1) = o := by
  cases h with
  | none => exact ⟨none, rfl, rfl⟩
  | int i t => exact ⟨some (i, t), rfl, rfl⟩
end
end L2
set_option Elab.async false
set_option linter.all false
set_option maxRecDepth 100000
set_option maxHeartbeats 4000000
namespace L2
open PySem PySem.Spec PyProof.Rows PySem.W
/-! ### a def with defaults -/
structure FunD (K : Frag) (x qual : Str) (st : Stmt) (dV : Value) (f : Addr) (fd : FuncData) : Prop where
  ex : ∃ (oc : Value) (od : Option Addr) (kV doc pm : Value) (an : Option Addr) (cdv ct : Value) (osl : Array (Option Value)),
    fd = fnOf x qual (defArgs st) (defBody st) (defScope st) dV kV doc pm an cdv ct ∧ K.lookup f = some ⟨oc, od, .func fd, osl⟩ ∧ codeIn K cdv qual = true
  kp : keepIn K (.ref f) = true
section
variable {P : Program} {w : World} {K : Frag} {mg : Str → Option Value} {base : Heap}
theorem FunD.okE {x qual : Str} {st : Stmt} {dV : Value} {f : Addr} {fd : FuncData} {N ps : List Str} {k : Nat} {sp : Sp} (F : FunD K x qual st dV f fd) (S : FnScope N ps (defScope st)) (len : ∀ vs H Q E, sp vs H Q E → vs.length = ps.length)
    (hbody : ∀ (X : Cx) (cdv : Value) (A : Around) (outer : List Env) (s : Shared) (H : Hp) (vs : List V) (Q : VK) (E : XK), X = cxOf (CX1 P w) P w K mg base N qual (defScope st) f cdv A outer s H E → Room k X.A → Catches X (fun C dd _ H' => E C dd H') → sp vs H Q E →
      ∃ t, PSs (cxOf (CX1 P w) P w K mg base N qual (defScope st) f cdv A outer s H E) (defBody st) t ∧ t { nx := fun _ H' => Q .non H', rt := Q } (start N vs) H) : FnOk P w K mg base (CX1 P w) (k + 1) f fd ps sp := by
  obtain ⟨oc, od, kV, doc, pm, an, cdv, ct, osl, rfl, lk, hc⟩ := F.ex
  exact fn_of lk hc S len fun A outer s H vs Q E hr h => hbody _ cdv A outer s H vs Q E rfl hr catches_fn h
theorem funD_mk {x qual : Str} {st : Stmt} {dV : Value} {f : Addr} {oc : Value} {od an : Option Addr} {osl : Array (Option Value)} {kV doc pm cdv ct : Value} (l : K.lookup f = some ⟨oc, od, .func (fnOf x qual (defArgs st) (defBody st) (defScope st) dV kV doc pm an cdv ct), osl⟩)
    (c : codeIn K cdv qual = true) (k : keepIn K (.ref f) = true) : FunD K x qual st dV f (fnOf x qual (defArgs st) (defBody st) (defScope st) dV kV doc pm an cdv ct) := ⟨⟨oc, od, kV, doc, pm, an, cdv, ct, osl, rfl, l, c⟩, k⟩
/-- positional arguments, the last ones by the defaults -/
theorem bindsD {fd : FuncData} {ps : List Str} {ds : List Value} {T : Addr} {o : Obj} {items : Array Value} {n : Nat} (hd : fd.defaults = .ref T) (ho : K.lookup T = some o) (hs : o.data = .seq items n)
    (h : ∀ us : List Value, (us ++ ds).length = ps.length → ∃ k, bindArgs fd ⟨us, []⟩ = seqItems? fd.defaults >>= k ∧ k (some items) = pure (ps.zip (us ++ ds))) : Binds K fd ps ds := fun s us X hl => by
  obtain ⟨k, h1, h2⟩ := h us hl
  exact binds_K X hd ho hs h1 h2
end
/-! ### C(.., k = v, ..) -/
section
variable {X : Cx} {k j : Nat} {f C : Addr} {fd : FuncData} {ps ks : List Str} {sp : Sp} {EH : EK} {x m : Str} {p pos apos : Pos} {e o : Expr} {es : List Expr} {kws : List Keyword} {ta : TE} {t tk : TA} {g : List Value → List Value → List Value} {gV : List V → List V → List V}
def tMakeK (C : Addr) (sp : Sp) (gV : List V → List V → List V) (EH : EK) (t tk : TA) : TE := fun σ H Q => t σ H fun vs H0 => tk σ H0 fun zs H1 => ∀ x dx, H1 x = none → H1 dx = none → dx ≠ x →
  sp (gV (.ref x :: vs) zs) (upd (upd H1 dx (.own x)) x (.ins C dx [])) (fun v H2 => v = .non ∧ Q (.ref x) H2) (fun C d H' => EH C d σ H')
theorem run_makeK {pins : List (Addr × Obj)} {σ : St} {H : Hp} {s : Shared} {Q : VK} {us ws : List Value} {vs zs : List V} (M : Mk X.K C f) (F : FnOk X.prog X.w X.K X.mg X.base (CX1 X.prog X.w) k f fd ps sp) (hr : Room (k + 1) X.A) (hb : KBinds X.K fd ps ks g gV)
    (hx : Catches X EH) (hex : X.ex = []) (I : Inv X pins σ H s) (r : Vals vs us) (rz : Vals zs ws)
    (h : ∀ x dx, H x = none → H dx = none → dx ≠ x → sp (gV (.ref x :: vs) zs) (upd (upd H dx (.own x)) x (.ins C dx [])) (fun v H2 => v = .non ∧ Q (.ref x) H2) (fun C d H' => EH C d σ H')) :
    wpAny (model X.prog X.w) X.A (call (.ref C) us (ks.zip ws)) (EP X pins σ Q) X.xe s := by
  have hq := h (s.heap.objs.size + 1) s.heap.objs.size (I.hok.fresh (Nat.le_succ _)) (I.hok.fresh (Nat.le_refl _)) (Nat.ne_of_lt (Nat.lt_succ_self _))
  have I2 := Inv.made (C := C) I
  have r2 := hb.rel (vs := V.ref (s.heap.objs.size + 1) :: vs) (us := Value.ref (s.heap.objs.size + 1) :: us) (.cons rfl r) rz
  have hl : (g (Value.ref (s.heap.objs.size + 1) :: us) ws).length = ps.length := by rw [← r2.length]; exact F.len _ _ _ _ hq
  refine wpAny_call (make_map (f := f) I.kIn M.makes M.init (beq_iff_eq.mp M.fn) (codeAny_mono (F.run _ X.stack _ _ ⟨Value.ref (s.heap.objs.size + 1) :: us, ks.zip ws⟩ (g (Value.ref (s.heap.objs.size + 1) :: us) ws) _ _ _ (hr.make C us (ks.zip ws))
    (I2.env0.make C us (ks.zip ws)) (hb.to _ (Value.ref (s.heap.objs.size + 1) :: us) ws I2.kIn hl) r2 hq) fun r s' hq' => ?_))
  cases r with
  | error e => exact came hx hex I2 hq'
  | ok fl =>
    cases fl with
    | ret u =>
      obtain ⟨v, H', I3, rv, ev, q3⟩ := I2.after hq'
      subst ev
      exact ⟨rv, ⟨V.ref (s.heap.objs.size + 1), H', I3, rfl, q3⟩⟩
    | next => exact False.elim hq'
    | brk => exact False.elim hq'
    | cont => exact False.elim hq'
theorem pmakeK (M : Mk X.K C f) (F : FnOk X.prog X.w X.K X.mg X.base (CX1 X.prog X.w) j f fd ps sp) (hr : Room k X.A) (hm : X.mg x = some (.ref C)) (hb : KBinds X.K fd ps ks g gV) (hx : Catches X EH)
    (ha : PA X (e :: es) t) (hkw : PK X kws tk) (hj : j + 1 ≤ k := by decide) (hg : Gl X x := by rfl) (hex : X.ex = [] := by rfl) (hall : (backToKw pos (keywordEach kws X.env)).all (·.1.isSome) = true := by rfl) (hks : (backToKw pos (keywordEach kws X.env)).filterMap (·.1) = ks := by rfl)
    (hdb : (x == ("__debug__" : Str)) = false := by decide) (he : starEach (e :: es) X.env = (false, eval e X.env) :: starEach es X.env := by rfl)
    (hpl : ((backTo pos (starEach (e :: es) X.env)).any (·.1) || (backToKw pos (keywordEach kws X.env)).any (·.1.isNone)) = false := by rfl) :
    PE X (.Call (.Name x p) (e :: es) kws pos) (tMakeK C sp gV EH t tk) := by
  intro pins s σ H Q I h
  refine wpAny_Call_Name_kw (ld_glob I hg hm ?_ hdb)
  refine callWith_KW (h₀ := X.base) I.ok.mod.kin M.kp hall (thn (ha pos pins s σ H _ I h) fun us s1 ⟨vs, H1, I1, r, q⟩ => ?_) hpl he
  refine thn (hkw pos pins s1 σ H1 _ I1 q) fun ws s2 ⟨zs, H2, I2, rz, q2⟩ => ⟨I2.kIn, ?_⟩
  rw [hks]
  exact run_makeK M F (hr.mono hj) hb hx hex I2 r rz q2
end
end L2
namespace L2
open PySem PySem.Spec PyProof.Rows PySem.W
/-! ### readings that name no inner context -/
section
variable {X : Cx} {K : Frag} {e : Expr} {f : Str} {pos : Pos} {ta : TE}
theorem ix_tupK (h : X.K = K) : IxR X (rIxT K) := by subst h; exact ix_tup
end
end L2
set_option Elab.async false
set_option linter.all false
set_option maxRecDepth 100000
set_option maxHeartbeats 4000000
namespace TR
open PySem L2 PySem.W PyProof.Rows
/-- names of Python's own: the text binds none of them -/
structure Own (mg : Str → Option Value) : Prop where
  isi : mg "isinstance" = none
  int_ : mg "int" = none
  bool_ : mg "bool" = none
  str_ : mg "str" = none
  list_ : mg "list" = none
  tuple_ : mg "tuple" = none
  dict_ : mg "dict" = none
  len_ : mg "len" = none
  range_ : mg "range" = none
  min_ : mg "min" = none
  max_ : mg "max" = none
  abs_ : mg "abs" = none
  any_ : mg "any" = none
  all_ : mg "all" = none
  sum_ : mg "sum" = none
  repr_ : mg "repr" = none
  enumerate_ : mg "enumerate" = none
  reversed_ : mg "reversed" = none
  zip_ : mg "zip" = none
  sorted_ : mg "sorted" = none
  divmod_ : mg "divmod" = none
  set_ : mg "set" = none
  ValueError_ : mg "ValueError" = none
/-- kinds of Python's own -/
structure Kit (K : Frag) : Prop where
  int_int : kitOne K (.type "int") (.type "int") = some true
  int_bool : kitOne K (.type "int") (.type "bool") = some false
  int_str : kitOne K (.type "int") (.type "str") = some false
  int_list : kitOne K (.type "int") (.type "list") = some false
  int_tuple : kitOne K (.type "int") (.type "tuple") = some false
  int_dict : kitOne K (.type "int") (.type "dict") = some false
  bool_int : kitOne K (.type "bool") (.type "int") = some true
  bool_bool : kitOne K (.type "bool") (.type "bool") = some true
  bool_str : kitOne K (.type "bool") (.type "str") = some false
  bool_list : kitOne K (.type "bool") (.type "list") = some false
  bool_tuple : kitOne K (.type "bool") (.type "tuple") = some false
  bool_dict : kitOne K (.type "bool") (.type "dict") = some false
  str_int : kitOne K (.type "str") (.type "int") = some false
  str_bool : kitOne K (.type "str") (.type "bool") = some false
  str_str : kitOne K (.type "str") (.type "str") = some true
  str_list : kitOne K (.type "str") (.type "list") = some false
  str_tuple : kitOne K (.type "str") (.type "tuple") = some false
  str_dict : kitOne K (.type "str") (.type "dict") = some false
  list_int : kitOne K (.type "list") (.type "int") = some false
  list_bool : kitOne K (.type "list") (.type "bool") = some false
  list_str : kitOne K (.type "list") (.type "str") = some false
  list_list : kitOne K (.type "list") (.type "list") = some true
  list_tuple : kitOne K (.type "list") (.type "tuple") = some false
  list_dict : kitOne K (.type "list") (.type "dict") = some false
  tuple_int : kitOne K (.type "tuple") (.type "int") = some false
  tuple_bool : kitOne K (.type "tuple") (.type "bool") = some false
  tuple_str : kitOne K (.type "tuple") (.type "str") = some false
  tuple_list : kitOne K (.type "tuple") (.type "list") = some false
  tuple_tuple : kitOne K (.type "tuple") (.type "tuple") = some true
  tuple_dict : kitOne K (.type "tuple") (.type "dict") = some false
  dict_int : kitOne K (.type "dict") (.type "int") = some false
  dict_bool : kitOne K (.type "dict") (.type "bool") = some false
  dict_str : kitOne K (.type "dict") (.type "str") = some false
  dict_list : kitOne K (.type "dict") (.type "list") = some false
  dict_tuple : kitOne K (.type "dict") (.type "tuple") = some false
  dict_dict : kitOne K (.type "dict") (.type "dict") = some true
  NoneType_int : kitOne K (.type "NoneType") (.type "int") = some false
  NoneType_bool : kitOne K (.type "NoneType") (.type "bool") = some false
  NoneType_str : kitOne K (.type "NoneType") (.type "str") = some false
  NoneType_list : kitOne K (.type "NoneType") (.type "list") = some false
  NoneType_tuple : kitOne K (.type "NoneType") (.type "tuple") = some false
  NoneType_dict : kitOne K (.type "NoneType") (.type "dict") = some false
/-- v is of Python's kind t -/
theorem tyInt {K : Frag} {H : Hp} (i : Int) : TyE K H (.int i) (.type "int") := .of (.int i)
theorem tyTup {K : Frag} {H : Hp} {a : Addr} {xs : List V} (h : H a = some (.tup xs)) : TyE K H (.ref a) (.type "tuple") := .of (.tup h)
theorem TyOf.same {K : Frag} {H H' : Hp} {x : V} {t : Value} (h : TyOf K H x t) (e : Same H H') : TyOf K H' x t := by
  cases h with
  | non => exact .non
  | bl x => exact .bl x
  | int i => exact .int i
  | str x => exact .str x
  | flt x => exact .flt x
  | lst z => exact .lst (e _ _ z)
  | frz z => exact .frz (e _ _ z)
  | tup z => exact .tup (e _ _ z)
  | dK z => exact .dK (e _ _ z)
  | dT z => exact .dT (e _ _ z)
  | ins z a b c d f => exact .ins (e _ _ z) a b c d f
theorem TyE.same {K : Frag} {H H' : Hp} {x : V} {t : Value} (h : TyE K H x t) (e : Same H H') : TyE K H' x t := by
  cases h with
  | of h => exact .of (TyOf.same h e)
  | exc z k => exact .exc (e _ _ z) k
  | excD z d k => exact .excD (e _ _ z) (e _ _ d) k
  | tupK l c => exact .tupK l c
/-- no whole number from lo to hi -/
def BadV (K : Frag) (H : Hp) (lo hi : Int) (v : V) : Prop := ∃ t b1 b2, TyE K H v t ∧ kitOne K t (.type "int") = some b1 ∧ kitOne K t (.type "bool") = some b2 ∧ ((b1 && !b2) = false ∨ ∃ i, v = .int i ∧ (i < lo ∨ hi < i))
theorem BadV.same {K : Frag} {H H' : Hp} {lo hi : Int} {v : V} (h : BadV K H lo hi v) (e : Same H H') : BadV K H' lo hi v := by
  obtain ⟨t, b1, b2, ty, r⟩ := h
  exact ⟨t, b1, b2, TyE.same ty e, r⟩
section
variable {K : Frag} {H : Hp} {lo hi : Int}
end
/-- H' has all of H, but perhaps p -/
def Exc (p : Addr) (H H' : Hp) : Prop := ∀ b o, H b = some o → b ≠ p → H' b = some o
theorem Exc.refl (p : Addr) (H : Hp) : Exc p H H := fun _ _ h _ => h
theorem Exc.trans {p : Addr} {H H1 H2 : Hp} (a : Exc p H H1) (b : Exc p H1 H2) : Exc p H H2 := fun c o h n => b c o (a c o h n) n
theorem Exc.upd {p : Addr} {H : Hp} {o : HO} : Exc p H (L2.upd H p o) := fun b u e n => by rw [upd_ne n]; exact e
theorem Exc.of {p : Addr} {H H' : Hp} (s : Same H H') : Exc p H H' := fun b o h _ => s b o h
/-- what is new to H may change -/
theorem Exc.same {p : Addr} {H H' : Hp} (n : H p = none) (x : Exc p H H') : Same H H' := fun b o h => x b o h (ne_of_none h n)
end TR
set_option Elab.async false
set_option linter.all false
set_option maxRecDepth 100000
set_option maxHeartbeats 4000000
namespace TR
open PySem L2 PySem.W PyProof.Rows
/-- an exception that was taken, of the class C: its dict none, or one -/
def ExcAt (H : Hp) (a C : Addr) (d : Option Addr) : Prop := ∃ t T u, H a = some (.frz (ExcO (.ref C) t d (.ref T)) u) ∧ ∀ x, d = some x → ∃ fs, H x = some (.xd fs)
theorem ExcAt.same {H H' : Hp} {a C : Addr} {d : Option Addr} (h : ExcAt H a C d) (s : Same H H') : ExcAt H' a C d := by
  obtain ⟨t, T, u, e, k⟩ := h
  exact ⟨t, T, u, s _ _ e, fun x z => let ⟨fs, q⟩ := k x z; ⟨fs, s _ _ q⟩⟩
theorem ExcAt.ty {K : Frag} {H : Hp} {a C : Addr} {d : Option Addr} (h : ExcAt H a C d) (k : ExcK K C) : TyE K H (.ref a) (.ref C) := by
  obtain ⟨t, T, u, e, q⟩ := h
  cases d with
  | none => exact .exc e k
  | some x =>
    obtain ⟨fs, z⟩ := q x rfl
    exact .excD e z k
theorem len2 : ∀ {us : List Value}, us.length = 2 → ∃ a b, us = [a, b]
  | [a, b], _ => ⟨a, b, rfl⟩
theorem len3 : ∀ {us : List Value}, us.length = 3 → ∃ a b c, us = [a, b, c]
  | [a, b, c], _ => ⟨a, b, c, rfl⟩
theorem lenD {us ds : List Value} {n : Nat} (h : (us ++ ds).length = n) : us.length = n - ds.length := by rw [List.length_append] at h; omega
end TR
set_option Elab.async false
set_option linter.all false
set_option maxRecDepth 100000
set_option maxHeartbeats 4000000
namespace L2
open PySem PySem.Spec PyProof.Rows
section
variable {κ : Type} [DecidableEq κ]
def valV (kvs : List (κ × V)) (k : κ) : Option V := (kvs.find? fun kv => decide (kv.1 = k)).map (·.2)
/-- in its place, or at the end -/
def putK (kvs : List (κ × V)) (k : κ) (v : V) : List (κ × V) :=
  if (kvs.any fun kv => decide (kv.1 = k)) = true then kvs.map (fun kv => if kv.1 = k then (kv.1, v) else kv) else kvs ++ [(k, v)]
theorem RelO.getD {o : Option V} {u : Option Value} {d : V} {d' : Value} (r : RelO o u) (rd : RelV d d') : RelV (o.getD d) (u.getD d') := by
  cases o with
  | none => cases u with
    | none => exact rd
    | some _ => exact (show False from r).elim
  | some _ => cases u with
    | none => exact (show False from r).elim
    | some _ => exact r

theorem KV.any {kvs : List (κ × V)} {vs : List (κ × Value)} (r : KV kvs vs) (k : κ) : (kvs.any fun kv => decide (kv.1 = k)) = vs.any fun kv => decide (kv.1 = k) := by
  unfold KV at r
  induction r with
  | nil => rfl
  | cons h t ih => rw [List.any_cons, List.any_cons, ih, h.1]
theorem KV.keys {kvs : List (κ × V)} {vs : List (κ × Value)} (r : KV kvs vs) : kvs.map (·.1) = vs.map (·.1) := by
  unfold KV at r
  induction r with
  | nil => rfl
  | cons h t ih => rw [List.map_cons, List.map_cons, ih, h.1]
theorem KV.length {kvs : List (κ × V)} {vs : List (κ × Value)} (r : KV kvs vs) : kvs.length = vs.length := Paired.length r
end


/-- raw entries of a dict with tuple keys -/
abbrev KT (H : Hp) : List (List Key × V) → List (List Key × Addr × Value) → Prop := Paired fun p q => p.1 = q.1 ∧ H q.2.1 = some (.tup (p.1.map kV)) ∧ RelV p.2 q.2.2
theorem KT.keeps {H H' : Hp} {kvs : List (List Key × V)} {xs : List (List Key × Addr × Value)} (r : KT H kvs xs) (ht : ∀ b ys, H b = some (.tup ys) → H' b = some (.tup ys)) : KT H' kvs xs :=
  Paired.mapP r fun _ _ z => ⟨z.1, ht _ _ z.2.1, z.2.2⟩

section
variable {P : Program} {w : World} {H : Hp} {h : Heap} {a : Addr}
end

/-- what the dict at a holds at the key y -/
def DGet (H : Hp) (a : Addr) (y : V) (r : Option V) : Prop :=
  (∃ kvs k, Rd H a (.dK kvs) ∧ y = kV k ∧ r = valV kvs k) ∨ ∃ kvs k b, Rd H a (.dT kvs) ∧ y = .ref b ∧ H b = some (.tup (k.map kV)) ∧ r = valV kvs k
/-- the heap behind a[y] = v -/
def DPut (H : Hp) (a : Addr) (y v : V) (H' : Hp) : Prop :=
  (∃ kvs k, H a = some (.dK kvs) ∧ y = kV k ∧ kvs.length < sizeLine ∧ H' = upd H a (.dK (putK kvs k v))) ∨
  ∃ kvs k b, H a = some (.dT kvs) ∧ y = .ref b ∧ H b = some (.tup (k.map kV)) ∧ kvs.length < sizeLine ∧ H' = upd H a (.dT (putK kvs k v))
theorem DGet.k {H : Hp} {a : Addr} {kvs : List (Key × V)} {k : Key} (e : H a = some (.dK kvs)) : DGet H a (kV k) (valV kvs k) := .inl ⟨kvs, k, .inl e, rfl, rfl⟩
theorem DGet.t {H : Hp} {a b : Addr} {kvs : List (List Key × V)} {k : List Key} (e : H a = some (.dT kvs)) (eb : H b = some (.tup (k.map kV))) : DGet H a (.ref b) (valV kvs k) := .inr ⟨kvs, k, b, .inl e, rfl, eb, rfl⟩
theorem DPut.k {H : Hp} {a : Addr} {kvs : List (Key × V)} {k : Key} {v : V} (e : H a = some (.dK kvs)) (hl : kvs.length < sizeLine) : DPut H a (kV k) v (upd H a (.dK (putK kvs k v))) := .inl ⟨kvs, k, e, rfl, hl, rfl⟩
theorem DPut.t {H : Hp} {a b : Addr} {kvs : List (List Key × V)} {k : List Key} {v : V} (e : H a = some (.dT kvs)) (eb : H b = some (.tup (k.map kV))) (hl : kvs.length < sizeLine) :
    DPut H a (.ref b) v (upd H a (.dT (putK kvs k v))) := .inr ⟨kvs, k, b, e, rfl, eb, hl, rfl⟩


section
variable {X : Cx} {pins : List (Addr × Obj)} {σ : St} {H : Hp} {s : Shared} {a : Addr} {y v : V} {u r : Value} {o : Option V} {A : Around} {E : Value → Shared → Prop}

end

section
variable {X : Cx} {pins : List (Addr × Obj)} {σ : St} {H : Hp} {s : Shared} {a : Addr} {kvs : List (Key × V)} {k : Key} {u : Value} {A : Around} {E : Value → Shared → Prop}
end


section
variable {X : Cx} {o i e value : Expr} {pos pos' tpos : Pos} {td ty tv : TE}
end


section
variable {X : Cx} {pos : Pos}
end

end L2
set_option Elab.async false
set_option linter.all false
set_option maxRecDepth 100000
set_option maxHeartbeats 4000000
namespace L2
open PySem PySem.Spec PyProof.Rows PySem.W
/-! ### [elt for target in iter if c] that reads names of its def -/
/-- the cells that it takes along -/
def clOf (F : List Str) (env : Env) : List (Str × Addr) := F.map fun x => (x, (env.cells.lookup x).getD 0)
/-- their values -/
def fvOf (js : List Nat) (σ : St) : St := js.map fun j => (σ[j]?).getD none
abbrev Cx.compF (X : Cx) (scope : Scope) (N F : List Str) (C : Addr) (s₀ : Shared) (H₀ : Hp) (ex : List Addr) (pins : List (Addr × Obj)) : Cx :=
  { X with N := N ++ F, s₀ := s₀, H₀ := H₀, env := compEnvC scope (clOf F X.env) C X.env, outer := X.stack, ex := ex, fn := fun _ => false, pn := pins, xe := fun _ _ => False }
structure CompScopeF (N F : List Str) (js : List Nat) (sc : Scope) (XN : List Str) (env : Env) : Prop where
  kind : sc.kind = .function
  cell : ∀ y ∈ sc.names, y.2 ≠ .cell
  loc : ∀ y ∈ sc.names, y.2 = .local → sc.names.lookup y.1 = some .local
  nd : (N ++ F).Nodup
  clos : closureFor sc env = pure (clOf F env)
  fr : ∀ y ∈ (relabel sc env).names, y.2 = .cell ∨ y.2 = .free → y.1 ∈ F
  at_ : ∀ (k : Nat) (x : Str), F[k]? = some x → (∃ j : Nat, js[k]? = some j ∧ XN[j]? = some x) ∧ (∃ c, env.cells.lookup x = some c) ∧ env.kindOf x = some .cell ∧ (relabel sc env).names.lookup x = some .cell
  jl : js.length = F.length
def tCompF (n : Nat) (js : List Nat) (wi : TI) (g : TG) (tc : TT) (te : TE) : TE := fun σ H Q => wi σ H fun J H1 => ∀ D, H1 D = none →
  ∃ (m : Nat) (W : Nat → List V → Hp → Prop), W 0 [] (upd H1 D (.lst [])) ∧ ∀ i ys H2, W i ys H2 → i ≤ m ∧ H2 D = some (.lst ys) ∧ ((J.stop i H2 ∧ Q (.ref D) H2) ∨ (i < m ∧ J.go i H2 ∧ ∀ x H3, J.yld i H2 x H3 →
    g x (List.replicate n none ++ fvOf js σ) H3 fun σ4 H4 => tc σ4 H4 fun b H5 => if b = true then te σ4 H5 fun y H6 => H6 D = some (.lst ys) ∧ ys.length < sizeLine ∧ W (i + 1) (ys ++ [y]) (upd H6 D (.lst (ys ++ [y]))) else W (i + 1) ys H5))
theorem cl_mem {F : List Str} {env : Env} {x : Str} {c : Addr} (h : (clOf F env).lookup x = some c) : x ∈ F ∧ c = (env.cells.lookup x).getD 0 := by
  have := PySem.mem_of_lookup h
  obtain ⟨y, hy, e⟩ := List.mem_map.mp this
  cases e
  exact ⟨hy, rfl⟩
theorem cl_of {env : Env} {x : Str} : ∀ {F : List Str}, x ∈ F → (clOf F env).lookup x = some ((env.cells.lookup x).getD 0)
  | y :: F, h => by
    show List.lookup x ((y, (env.cells.lookup y).getD 0) :: clOf F env) = _
    by_cases e : x = y
    · subst e; simp [List.lookup]
    · have hb : (x == y) = false := beq_eq_false_iff_ne.mpr e
      rw [List.lookup_cons, hb]
      exact cl_of (by rcases List.mem_cons.mp h with z | z; exact absurd z e; exact z)
section
variable {X : Cx} {N F : List Str} {js : List Nat} {scope : Scope}
theorem CompScopeF.sub (S : CompScopeF N F js scope X.N X.env) : ∀ x c, (clOf F X.env).lookup x = some c → X.env.cells.lookup x = some c := fun x c z => by
  obtain ⟨hx, rfl⟩ := cl_mem z
  obtain ⟨k, hk⟩ := List.mem_iff_getElem?.mp hx
  obtain ⟨_, ⟨c, hc⟩, _⟩ := S.at_ k x hk
  rw [hc]; rfl
theorem CompScopeF.has (S : CompScopeF N F js scope X.N X.env) {x : Str} (hx : x ∈ F) : ∃ c, (clOf F X.env).lookup x = some c ∧ X.env.cells.lookup x = some c :=
  ⟨_, cl_of hx, S.sub _ _ (cl_of hx)⟩
/-- what it takes along is there: the cells' contents at its entry -/
theorem comp_look {pins : List (Addr × Obj)} {σ : St} {H : Hp} {s : Shared} (S : CompScopeF N F js scope X.N X.env) (I : Inv X pins σ H s) {h' : Heap} {m : Str → Option Value} {C : Addr} (hc : ∀ x c v, X.env.cells.lookup x = some c → s.heap.IsCell c v → h'.IsCell c v) :
    ∀ (i : Nat) (x : Str) (v : V), (N ++ F)[i]? = some x → (List.replicate N.length none ++ fvOf js σ)[i]? = some (some v) → ∃ u, RelV v u ∧ Look (compEnvC scope (clOf F X.env) C X.env) h' m x u := by
  intro i x v e1 e2
  by_cases hi : i < N.length
  · rw [List.getElem?_append_left (by simpa using hi), List.getElem?_replicate] at e2
    split at e2 <;> cases e2
  · rw [List.getElem?_append_right (by omega)] at e1
    rw [List.getElem?_append_right (by simp; omega)] at e2
    rw [List.length_replicate] at e2
    obtain ⟨⟨j, hj, hx⟩, ⟨c, hcc⟩, kx, kr⟩ := S.at_ _ x e1
    unfold fvOf at e2
    rw [List.getElem?_map, hj] at e2
    have e2 : (σ[j]?).getD none = some v := Option.some.inj e2
    have e3 : σ[j]? = some (some v) := by
      cases q : σ[j]? with
      | none => rw [q] at e2; cases e2
      | some o => rw [q] at e2; exact congrArg some e2
    obtain ⟨m0, _, hl⟩ := I.loc
    obtain ⟨u, r, l⟩ := hl j x v hx e3 (.inr (.inl kx))
    refine ⟨u, r, .inr ⟨.inl kr, c, ?_, ?_⟩⟩
    · obtain ⟨c', h1, h2⟩ := S.has (List.mem_of_getElem? e1)
      rw [hcc] at h2
      cases h2
      exact h1
    · rcases l with ⟨k, _⟩ | ⟨_, c', h1, h2⟩
      · rw [kx] at k; cases k
      · rw [hcc] at h1
        cases h1
        exact hc x c _ hcc h2
theorem fv_len (S : CompScopeF N F js scope X.N X.env) (σ : St) : (List.replicate N.length none ++ fvOf js σ : St).length = (N ++ F).length := by
  unfold fvOf
  rw [List.length_append, List.length_replicate, List.length_map, S.jl, List.length_append]
theorem inv_compF {pins : List (Addr × Obj)} {σ : St} {H : Hp} {s : Shared} {it : Addr} {h' : Heap} (S : CompScopeF N F js scope X.N X.env) (I : Inv X pins σ H s) (hf : FpOk X pins H it) (hit : ∃ o, s.heap.get? it = some o) (hnb : X.base.get? it = none)
    (hns : h'.Ns s.heap.objs.size (fun _ => none)) (hsb : ∀ b o, s.heap.get? b = some o → h'.get? b = some o) {tk : Nat} :
    Inv (X.compF scope N F s.heap.objs.size s H [it] (X.pn ++ pins)) [] (List.replicate N.length none ++ fvOf js σ) H { s with heap := h', toks := tk } := by
  obtain ⟨f0, f1, f2, f3, f4, f5⟩ := hf
  obtain ⟨oi, ei⟩ := hit
  have lt : it < s.heap.objs.size := Heap.lt_size ei
  have ck : ∀ c v, s.heap.IsCell c v → h'.IsCell c v := fun c v ⟨o, e, d⟩ => ⟨o, hsb _ _ e, d⟩
  have inF : ∀ x, ((compEnvC scope (clOf F X.env) s.heap.objs.size X.env).kindOf x = some .cell ∨ (compEnvC scope (clOf F X.env) s.heap.objs.size X.env).kindOf x = some .free) → x ∈ F := by
    intro x z
    have z : (relabel scope X.env).names.lookup x = some .cell ∨ (relabel scope X.env).names.lookup x = some .free := z
    rcases z with z | z
    · exact S.fr _ (PySem.mem_of_lookup z) (.inl rfl)
    · exact S.fr _ (PySem.mem_of_lookup z) (.inr rfl)
  refine ⟨⟨I.ok.mod, S.kind, I.ok.glob, I.ok.blt, Nat.le_refl _, fun x y c z z' => I.ok.inj x y c (S.sub x c z) (S.sub y c z'), fun x z => ?_, fun x c z _ => (nomatch z), I.ok.hd, I.ok.frames, .inl rfl, fun b hb => ?_, I.bs, Nat.le_trans I.ok.bsz I.sz, fun b o e hb => ?_, fun b hb hfs => ?_, I.stack, I.stkFree⟩,
    rfl, I.bare, Un.kept hsb, ⟨_, hns, fun i x v e1 e2 e3 => comp_look S I (fun x c v _ z => ck c v z) i x v e1 e2⟩, fun x c z => ?_, I.hok.fresh (Nat.le_refl _), fun x c z => I.freeC x c (S.sub x c z), fun p hp => ?_, I.hok.kept hsb, fv_len S σ⟩
  · obtain ⟨c, h1, _⟩ := S.has (inF x z)
    exact ⟨c, h1⟩
  · have e : b = it := by simpa using hb
    subst e
    exact ⟨Nat.ne_of_lt lt, fun x c z => f4 x c (S.sub x c z)⟩
  · have e' : b = it := by simpa using hb
    subst e'
    rw [hnb] at e
    cases e
  · have e' : b = it := by simpa using hb
    subst e'
    rcases List.mem_cons.mp (I.stkSub b hfs) with z | z
    · exact f1 z
    · exact f2 z
  · obtain ⟨v, z'⟩ := I.cell x c (S.sub x c z)
    exact ⟨v, ck c v z'⟩
  · have hp' : p ∈ X.pn ++ pins := by simpa using hp
    obtain ⟨q1, q2, q3, q4, q5⟩ := I.pin p hp'
    refine ⟨hsb _ _ q1, q2, Nat.ne_of_lt (Heap.lt_size q1), fun z => ?_, q5⟩
    rcases List.mem_cons.mp (I.stkSub p.1 z) with z | z
    · exact q3 z
    · exact q4 z
/-- ahead of the next turn: the own names are none again, the others as they were -/
theorem inv_fresh {pins pl : List (Addr × Obj)} {σ σ' : St} {H H' : Hp} {s s' : Shared} {it : Addr} (S : CompScopeF N F js scope X.N X.env) (I : Inv X pins σ H s) (hf : FpOk X pins H it) (J : Inv (X.compF scope N F s.heap.objs.size s H [it] (X.pn ++ pins)) pl σ' H' s') :
    Inv (X.compF scope N F s.heap.objs.size s H [it] (X.pn ++ pins)) [] (List.replicate N.length none ++ fvOf js σ) H' s' := by
  obtain ⟨m, hn, _⟩ := J.loc
  refine ⟨J.ok, J.os, J.bare, J.base, ⟨m, hn, fun i x v e1 e2 e3 => comp_look S I (fun x c v z q => ?_) i x v e1 e2⟩, J.cell, J.free, J.freeC, fun p hp => J.pin p (by
    have hp : p ∈ (X.pn ++ pins) ++ [] := hp
    rw [List.append_nil] at hp
    exact List.mem_append_left _ hp), J.hok, fv_len S σ⟩
  obtain ⟨o, e, d⟩ := q
  have ne : c ∉ [it] := fun w => hf.2.2.2.2.1 x c z (by simpa using w)
  obtain ⟨sl, q⟩ := J.base.any e (I.freeC x c z) ne
  exact ⟨_, q, d⟩
theorem comp_walkF {elt target iter c : Expr} {scope : Scope} {pos : Pos} {N F : List Str} {js : List Nat} {wi : TI} {g : TG} {tc : TT} {te : TE} (S : CompScopeF N F js scope X.N X.env) (hd : HdOk X) (hi : PIH X target iter wi) (hex : X.ex = [])
    (hg : ∀ C s₀ H₀ ex pn, HdOk (X.compF scope N F C s₀ H₀ ex pn) → PG (X.compF scope N F C s₀ H₀ ex pn) target g)
    (hc : ∀ C s₀ H₀ ex pn, HdOk (X.compF scope N F C s₀ H₀ ex pn) → PT (X.compF scope N F C s₀ H₀ ex pn) c tc)
    (he : ∀ C s₀ H₀ ex pn, HdOk (X.compF scope N F C s₀ H₀ ex pn) → PE (X.compF scope N F C s₀ H₀ ex pn) elt te)
    {pins : List (Addr × Obj)} {s : Shared} {σ : St} {H : Hp} {Q : VK} {RR : Value → Env → Result → Shared → Prop} (I : Inv X pins σ H s) (h : (tCompF N.length js wi g tc te) σ H Q)
    (hRR : ∀ (D C : Addr) (s6 : Shared) (H5 : Hp) (mm : Str → Option Value), Inv X pins σ H5 s6 → s6.heap.Ns C mm → FpOk X pins H5 C → Q (.ref D) H5 → RR (.ref D) (compEnvC scope (clOf F X.env) C X.env) (.ok .next) s6) :
    wpAny (model X.prog X.w) X.A (eval iter X.env) (fun v s1 => wpAny (model X.prog X.w) X.A (pyIter v) (fun itv s2 => wpAny (model X.prog X.w) X.A (newList []) (fun acc s3 => wpAny (model X.prog X.w) X.A (newFunctionEnv scope X.env.globals (clOf F X.env) [] X.env.qual none .none (some X.env)) (fun cenv s4 =>
      codeAny (model X.prog X.w) X.A (.compStart (.ListComp elt [⟨target, iter, [c], 0⟩] scope pos) 0 itv acc { cenv with scope := relabel scope X.env }) (RR acc { cenv with scope := relabel scope X.env }) s4) X.xe s3) X.xe s2) X.xe s1) X.xe s := by
  refine thn (hi pins s σ H _ I h) fun v s1 h1 => thn h1 fun itv s2 h2 => ?_
  obtain ⟨it, tn, J, H2, rfl, I2, T, st2, f2, R⟩ := h2
  obtain ⟨oi, ei, di⟩ := T.obj _ _ st2
  have hf2 := I2.hok.fresh (Nat.le_refl _)
  refine wpAny_newObj_type ?_
  have I3 : Inv X pins σ (upd H2 s2.heap.objs.size (.lst [])) { s2 with heap := s2.heap.push { cls := .type "list", dict := none, data := .seq ([] : List Value).toArray } } := Inv.lnew (t' := s2.toks) I2 .nil (Nat.zero_le _)
  refine wpAny_newFunctionEnv S.cell (by intro y hy; simp at hy) (fun h4 hns hsb => ?_) S.kind
  dsimp only at hns hsb ⊢
  generalize hG : s2.heap.push { cls := .type "list", dict := none, data := .seq ([] : List Value).toArray } = G at I3 hns hsb ⊢
  generalize hD : s2.heap.objs.size = D at I3 hf2
  have nD : it ≠ D := by rw [← hD]; exact Nat.ne_of_lt (Heap.lt_size ei)
  have eiG : G.get? it = some oi := by rw [← hG]; exact Heap.get?_push_of_some _ ei
  have kp : ∀ b o, G.get? b = some o → h4.get? b = some o := fun b o e => hsb.extBut b o (Nat.ne_of_lt (Heap.lt_size e)) (Heap.get?_push_of_some _ e)
  have f3 : FpOk X pins (upd H2 D (.lst [])) it := ⟨by rw [upd_ne nD]; exact f2.1, f2.2⟩
  have nb : X.base.get? it = none := by
    cases q : X.base.get? it with
    | none => rfl
    | some o =>
      have := (I.ok.bs it o q).1
      rcases f2.2.2.2.1 with z | z
      · rw [hex] at z; simp at z
      · exact absurd (Nat.lt_of_lt_of_le (Heap.lt_size this) z) (Nat.lt_irrefl _)
  have hns' : h4.Ns G.objs.size (fun _ => none) := by
    obtain ⟨o, es, ep, q1, q2, q3, q4⟩ := hns
    exact ⟨o, es, ep, q1, q2, q3, fun x => by rw [q4]; rfl⟩
  have I4 := inv_compF (tk := s2.toks + ([] : List (Str × Value)).length) S I3 f3 ⟨oi, eiG⟩ nb hns' kp
  have hdc : HdOk (X.compF scope N F G.objs.size { s2 with heap := G } (upd H2 D (.lst [])) [it] (X.pn ++ pins)) := by
    rcases hd with z | ⟨x, o, u, vs, z, e, d, n⟩
    · exact .inl z
    · refine .inr ⟨x, o, u, vs, z, ?_, d, n⟩
      have q := I2.base.frzs x o u e
      show upd H2 D (.lst []) x = _
      rw [upd_ne fun w => by rw [w, hf2] at q; cases q]
      exact q
  obtain ⟨m, W, w0, turn⟩ := R D hf2
  have gg := hg _ _ _ _ _ hdc
  have cc := hc _ _ _ _ _ hdc
  have ee := he _ _ _ _ _ hdc
  have fpc : ∀ {H' : Hp} {σ' : St} {s' : Shared} {pl : List (Addr × Obj)}, Inv (X.compF scope N F G.objs.size { s2 with heap := G } (upd H2 D (.lst [])) [it] (X.pn ++ pins)) pl σ' H' s' → H' it = none → (∀ p ∈ pl, p.1 ≠ it) → FpOk (X.compF scope N F G.objs.size { s2 with heap := G } (upd H2 D (.lst [])) [it] (X.pn ++ pins)) pl H' it := by
    intro H' σ' s' pl J' hn hp
    refine ⟨hn, Nat.ne_of_lt (Heap.lt_size eiG), ?_, .inl (List.mem_singleton.mpr rfl), (fun x c z => f2.2.2.2.2.1 x c (S.sub x c z)), fun p hpp => ?_⟩
    · intro z
      rcases List.mem_cons.mp (I.stkSub it z) with z | z
      · exact f2.2.1 z
      · exact f2.2.2.1 z
    · rcases List.mem_append.mp hpp with z | z
      · exact f2.2.2.2.2.2 p z
      · exact hp p z
  -- the turns
  have loop : codeAny (model X.prog X.w) X.A (.compLoop (.ListComp elt [⟨target, iter, [c], 0⟩] scope pos) 0 (.ref it) (.ref D) (compEnvC scope (clOf F X.env) G.objs.size X.env))
      (RR (.ref D) (compEnvC scope (clOf F X.env) G.objs.size X.env))
      { s2 with heap := h4, toks := s2.toks + ([] : List (Str × Value)).length } := by
    refine kct_loop (fun k s' => ∃ i ys H', k = m + 1 - i ∧ Inv (X.compF scope N F G.objs.size { s2 with heap := G } (upd H2 D (.lst [])) [it] (X.pn ++ pins)) [] (List.replicate N.length none ++ fvOf js σ) H' s' ∧ tn i s'.heap ∧ H' it = none ∧ W i ys H') ?_ (m + 1)
      ⟨0, [], _, rfl, I4, T.keep _ _ _ st2 fun o e => kp it o (by rw [← hG]; exact Heap.get?_push_of_some _ e), f3.1, w0⟩
    rintro k s5 ⟨i, ys, H5, rfl, I5, st5, n5, w5⟩
    obtain ⟨hi5, hD5, w5⟩ := turn i ys H5 w5
    rcases w5 with ⟨stop, q⟩ | ⟨lt5, go, step⟩
    · refine wpAny_mono (T.done (X.compF scope N F G.objs.size { s2 with heap := G } (upd H2 D (.lst [])) [it] (X.pn ++ pins)) rfl rfl rfl hdc i [] s5 _ H5 (fun _ _ => False) I5 (fpc I5 n5 (by simp)) st5 stop) (fun r s6 z => ?_) (fun _ _ z => z.elim)
      obtain ⟨rfl, I6⟩ := z
      obtain ⟨mm, hn6, _⟩ := I6.loc
      have B6 := I6.base
      have J6 : Inv X pins σ H5 s6 := by
        refine I3.call' (ch := [it]) I6.os ⟨B6.keep, B6.slot, B6.free, B6.there, B6.tups, B6.frzs, B6.tbls⟩ I6.hok I6.bare (fun b hb => ?_)
        have e : b = it := by simpa using hb
        subst e
        exact ⟨f2.2.2.2.1, f2.2.1, f2.2.2.2.2.1, f2.2.2.2.2.2⟩
      have szG : X.s₀.heap.objs.size ≤ G.objs.size := I3.sz
      refine hRR D G.objs.size s6 H5 mm J6 hn6 ⟨I6.free, ?_, ?_, .inr szG, ?_, ?_⟩ q
      · exact Nat.ne_of_gt I3.lt
      · intro z
        obtain ⟨_, o, ho, _⟩ := I3.funs.mem z
        exact Nat.lt_irrefl _ (Heap.lt_size ho)
      · rintro x c z rfl
        obtain ⟨v', o, ho, _⟩ := I3.cell x _ z
        exact Nat.lt_irrefl _ (Heap.lt_size ho)
      · rintro p hp z
        have zz := (I3.pin p hp).1
        rw [z] at zz
        exact Nat.lt_irrefl _ (Heap.lt_size zz)
    · refine wpAny_mono (T.item (X.compF scope N F G.objs.size { s2 with heap := G } (upd H2 D (.lst [])) [it] (X.pn ++ pins)) rfl rfl rfl hdc i [] s5 _ H5 (fun _ _ => False) I5 (fpc I5 n5 (by simp)) st5 go) (fun r s6 z => ?_) (fun _ _ z => z.elim)
      obtain ⟨u, rfl, z⟩ := z
      refine wpAny_mono z (fun _ s7 z => ?_) (fun _ _ z => z.elim)
      obtain ⟨x, I7, rx, yl, st7⟩ := z
      obtain ⟨o7, e7, d7⟩ := T.obj _ _ st7
      obtain ⟨p0, p1, p2, _⟩ := fpc I7 n5 (by simp)
      have I7' : Inv (X.compF scope N F G.objs.size { s2 with heap := G } (upd H2 D (.lst [])) [it] (X.pn ++ pins)) [(it, o7)] (List.replicate N.length none ++ fvOf js σ) H5 s7 := I7.pins_of fun p hp => by
        have e : p = (it, o7) := by simpa using hp
        subst e
        exact ⟨e7, p0, p1, p2, d7⟩
      have back : ∀ {i' : Nat} {ys' : List V} {H' : Hp} {σ' : St} {s' : Shared}, i' = i + 1 → Inv (X.compF scope N F G.objs.size { s2 with heap := G } (upd H2 D (.lst [])) [it] (X.pn ++ pins)) [(it, o7)] σ' H' s' → W i' ys' H' →
          ∃ k', k' < m + 1 - i ∧ ∃ i ys H', k' = m + 1 - i ∧ Inv (X.compF scope N F G.objs.size { s2 with heap := G } (upd H2 D (.lst [])) [it] (X.pn ++ pins)) [] (List.replicate N.length none ++ fvOf js σ) H' s' ∧ tn i s'.heap ∧ H' it = none ∧ W i ys H' := by
        rintro i' ys' H' σ' s' rfl J' w'
        obtain ⟨q1, q2, _⟩ := J'.pin (it, o7) (List.mem_append_right _ (List.mem_singleton.mpr rfl))
        refine ⟨m + 1 - (i + 1), by omega, i + 1, ys', H', rfl, inv_fresh S I3 f3 J', T.keep _ _ _ st7 fun o z => ?_, q2, w'⟩
        rw [e7] at z
        cases z
        exact q1
      refine wpAny_mono (gg [(it, o7)] s7 _ H5 x u _ I7' rx (step x H5 yl)) (fun _ s8 z => ?_) (fun _ _ z => z.elim)
      obtain ⟨σ8, H8, I8, q8⟩ := z
      refine wpAny_mono (cc [(it, o7)] s8 σ8 H8 _ I8 q8) (fun b s9 z => ?_) (fun _ _ z => z.elim)
      obtain ⟨H9, I9, q9⟩ := z
      cases b with
      | false =>
        simp only [Bool.false_eq_true, if_false] at q9 ⊢
        exact back rfl I9 q9
      | true =>
        simp only [if_true] at q9 ⊢
        refine wpAny_mono (ee [(it, o7)] s9 σ8 H9 _ I9 q9) (fun y s10 z => ?_) (fun _ _ z => z.elim)
        obtain ⟨yv, H10, I10, ry, hD10, hz10, w10⟩ := z
        refine wpAny_mono (mt_append (X := X.compF scope N F G.objs.size { s2 with heap := G } (upd H2 D (.lst [])) [it] (X.pn ++ pins)) [(it, o7)] s10 σ8 H10 (.ref D) [yv] (.ref D) [y] (fun _ H11 => W (i + 1) (ys ++ [yv]) H11) I10 rfl (.cons ry .nil) ⟨D, ys, yv, rfl, rfl, hD10, hz10, w10⟩) (fun _ s11 z => ?_) (fun _ _ z => z.elim)
        obtain ⟨_, H11, I11, _, w11⟩ := z
        exact back rfl I11 w11
  exact codeAny_compStart_list loop (T.self _ 0 _ _ _ (T.keep _ _ _ st2 fun o e => kp it o (by rw [← hG]; exact Heap.get?_push_of_some _ e)) loop)
/-- the comprehension as a value -/

theorem pe_compF {elt target iter : Expr} {c : Expr} {tc : TT} {pos : Pos} {wi : TI} {g : TG} {te : TE} (S : CompScopeF N F js scope X.N X.env) (hd : HdOk X) (hi : PIH X target iter wi) (hex : X.ex = [])
    (hg : ∀ C s₀ H₀ ex pn, HdOk (X.compF scope N F C s₀ H₀ ex pn) → PG (X.compF scope N F C s₀ H₀ ex pn) target g)
    (hc : ∀ C s₀ H₀ ex pn, HdOk (X.compF scope N F C s₀ H₀ ex pn) → PT (X.compF scope N F C s₀ H₀ ex pn) c tc)
    (he : ∀ C s₀ H₀ ex pn, HdOk (X.compF scope N F C s₀ H₀ ex pn) → PE (X.compF scope N F C s₀ H₀ ex pn) elt te)
    (hs : ∀ x, foldedSetIterable iter X.env x = pure x := by intro _; rfl) : PE X (.ListComp elt [⟨target, iter, [c], 0⟩] scope pos) (tCompF N.length js wi g tc te) := by
  intro pins s σ H Q I h
  rw [eval_ListComp]
  refine wpAny_comprehension_free (use := none) rfl hs S.clos S.kind S.loc (comp_walkF S hd hi hex hg hc he I h (RR := fun acc ce r s' => compPost (model X.prog X.w) X.A X.xe none (EP X pins σ Q) acc ce.locals r s') ?_)
  intro D C s6 H5 mm I6 n6 f6 q
  exact ⟨mm, n6, fun h' sb => ⟨.ref D, H5, letgo I6 f6 sb, rfl, q⟩⟩
end
end L2

set_option Elab.async false
set_option linter.all false
set_option maxRecDepth 100000
set_option maxHeartbeats 4000000
namespace L2
open PySem PySem.Spec PyProof.Rows PySem.W
/-- what of a comprehension's scope is seen in the text alone -/
structure CompS (N F : List Str) (sc : Scope) : Prop where
  kind : sc.kind = .function
  cell : ∀ y ∈ sc.names, y.2 ≠ .cell
  loc : ∀ y ∈ sc.names, y.2 = .local → sc.names.lookup y.1 = some .local
  fr : ∀ y ∈ sc.names, y.2 = .free → y.1 ∈ F
  nd : (N ++ F).Nodup
theorem fr_relabel {sc : Scope} {env : Env} {F : List Str} (cell : ∀ y ∈ sc.names, y.2 ≠ .cell) (fr : ∀ y ∈ sc.names, y.2 = .free → y.1 ∈ F) : ∀ y ∈ (relabel sc env).names, y.2 = .cell ∨ y.2 = .free → y.1 ∈ F := by
  intro y hy h
  obtain ⟨⟨n, k⟩, hm, e⟩ := List.mem_map.mp hy
  dsimp only at e
  split at e
  · rename_i hc
    subst e
    simp only [Bool.and_eq_true] at hc
    exact fr (n, k) hm (by simpa using hc.1.1)
  · subst e
    rcases h with h | h
    · exact absurd h (cell (n, k) hm)
    · exact fr (n, k) hm h
theorem CompScopeF.of1 {N : List Str} {x : Str} {j : Nat} {sc : Scope} {XN : List Str} {env : Env} (S : CompS N [x] sc) (clos : closureFor sc env = pure (clOf [x] env)) (hj : XN[j]? = some x) (hc : ∃ c, env.cells.lookup x = some c) (hk : env.kindOf x = some .cell)
    (hr : (relabel sc env).names.lookup x = some .cell) : CompScopeF N [x] [j] sc XN env :=
  ⟨S.kind, S.cell, S.loc, S.nd, clos, fr_relabel S.cell S.fr, fun k y h => match k, h with
    | 0, h => by cases h; exact ⟨⟨j, rfl, hj⟩, hc, hk, hr⟩
    | k + 1, h => by simp at h, rfl⟩
end L2
set_option Elab.async false
set_option linter.all false
set_option maxRecDepth 100000
set_option maxHeartbeats 4000000
/-! an exception class of one's own with an __init__ of its own, under another class of one's own -/
namespace L2
open PySem
section
variable {prog : Program} {w : World} {A : Around} {E : Value → Shared → Prop} {h : Heap} {g : Array GenState} {d : Drawn} {t : Nat} {os : OsState}
variable {nm q : Str} {C N : Addr} {bs bm bmB : List Value} {hdct : Bool} {sn : List Str} {sub : List Value} {ab : Bool} {col : Option Bool} {dd : Option Addr} {k0 k1 k2 k3 k5 : Option Value} {B newId initId : String}
end
section
variable {M : Model} {prog : Program} {w : World} {A : Around} {E : Value → Shared → Prop} {s : Shared} {env : Env}
variable {nm q : Str} {C N : Addr} {bs bm bmB : List Value} {hdct : Bool} {sn : List Str} {sub : List Value} {ab : Bool} {col : Option Bool} {dd : Option Addr} {k0 k1 k2 k3 k5 : Option Value} {B newId initId : String}
end
end L2
set_option Elab.async false
set_option linter.all false
set_option maxRecDepth 100000
set_option maxHeartbeats 4000000
namespace L2
open PySem PySem.Spec PyProof.Rows PySem.W
section
variable {prog : Program} {w : World} {A : Around} {s : Shared} {K : Frag} {C e fI : Addr} {t : Addr} {R : Result → Shared → Prop} {name : Str} {tk : Tok} {v : Value}
end
section
variable {X : Cx} {pins : List (Addr × Obj)} {σ : St} {H : Hp} {s : Shared}
end
section
variable {X : Cx} {o value : Expr} {f : Str} {pos pos' : Pos} {ta tv : TE} {C fI : Addr}
end
section
variable {X : Cx} {x f : Str} {p cpos pos : Pos} {e : Expr} {t : TA} {C fI : Addr} {fdI : FuncData} {ps : List Str} {EH : EK} {j k : Nat}
end
end L2
set_option Elab.async false
set_option linter.all false
set_option maxRecDepth 100000
set_option maxHeartbeats 4000000
namespace L2
open PySem PySem.Spec PyProof.Rows PySem.W
section
variable {X : Cx} {e : Expr} {f : Str} {pos : Pos} {ta : TE}
end
end L2
set_option Elab.async false
set_option linter.all false
set_option maxRecDepth 100000
set_option maxHeartbeats 4000000
namespace L2
open PySem PySem.Spec PyProof.Rows PySem.W
/-! ### a text n times, int of a text -/
def timesS (z : Str) (n : Int) : Str := if n < 1 then Str.empty else if (n == 1 || z.length == 0) = true then z else ⟨(List.replicate n.toNat z.cps).foldl (· ++ ·) #[]⟩
def rTimes : R2 := fun x y H Q => ∃ z n, x = .str z ∧ y = .int n ∧ -(2 ^ 63) ≤ n ∧ n < 2 ^ 63 ∧ z.length * n.toNat ≤ sizeLine ∧ Q (.str (timesS z n)) H
theorem foldl_app (z : Array Nat) : ∀ (k : Nat) (acc : Array Nat), ((List.replicate k z).foldl (· ++ ·) acc).toList = acc.toList ++ (List.replicate k z.toList).flatten
  | 0, acc => by simp
  | k + 1, acc => by
    rw [List.replicate_succ, List.foldl_cons, foldl_app z k, Array.toList_append, List.replicate_succ, List.flatten_cons, List.append_assoc]
theorem len_of_toList (z : Str) : z.cps.toList.length = z.length := Array.length_toList
theorem timesS_list (z : Str) (n : Int) : (timesS z n).cps.toList = (List.replicate n.toNat z.cps.toList).flatten := by
  unfold timesS
  split
  · have : n.toNat = 0 := by omega
    rw [this]; rfl
  · split
    · rename_i h1 h2
      rcases Bool.or_eq_true _ _ |>.mp h2 with h | h
      · have : n = 1 := by simpa using h
        subst this
        simp
      · have e : z.length = 0 := by simpa using h
        have e2 : z.cps.toList = [] := List.eq_nil_of_length_eq_zero (by rw [len_of_toList]; exact e)
        rw [e2]
        have : ∀ k : Nat, (List.replicate k ([] : List Nat)).flatten = [] := fun k => by simp
        rw [this]
    · show ((List.replicate n.toNat z.cps).foldl (· ++ ·) #[]).toList = _
      rw [foldl_app]
      rfl
theorem timesS_len (z : Str) (n : Int) : (timesS z n).length = n.toNat * z.length := by
  rw [← len_of_toList, timesS_list, len_rep, len_of_toList]
section
variable {X : Cx}
theorem op_rep_str : OpR X (binaryOp .Mult) rTimes := by
  intro pins s σ H x y v u Q I rx ry h
  obtain ⟨z, n, rfl, rfl, h1, h2, hz, q⟩ := h
  obtain ⟨t, rfl⟩ := rx
  obtain ⟨t', rfl⟩ := ry
  have lo : ¬ n < -(2 ^ 63 : Int) := by omega
  have hi : ¬ n ≥ (2 ^ 63 : Int) := by omega
  have hl := timesS_len z n
  have hs : (timesS z n).length ≤ sizeLine := by rw [hl, Nat.mul_comm]; exact hz
  refine PySem.P.mul_str (by rw [decide_eq_false lo, decide_eq_false hi]; rfl) (fun n1 n2 => ?_) (fun n1 n2 => notLong hz) ?_
  · intro g
    have p : 0 < n := by omega
    have e : ((z.length * n.toNat : Nat) : Int) = (z.length : Int) * n := by rw [Int.natCast_mul, Int.toNat_of_nonneg (by omega)]
    have c : ((z.length * n.toNat : Nat) : Int) ≤ (sizeLine : Nat) := Int.ofNat_le.mpr hz
    have k : (sizeLine : Nat) ≤ 2 ^ 63 - 1 := by decide
    have k' : ((sizeLine : Nat) : Int) ≤ (2 ^ 63 - 1 : Int) := by
      have := Int.ofNat_le.mpr k
      exact this
    have : (z.length : Int) ≤ (2 ^ 63 - 1) / n := (Int.le_ediv_iff_mul_le p).mpr (by omega)
    omega
  · unfold timesS at q hs
    split
    · rw [if_pos (by assumption)] at q
      exact ⟨by decide, .str _, H, I.tok _, ⟨_, rfl⟩, q⟩
    · rw [if_neg (by assumption)] at q hs
      split
      · rw [if_pos (by assumption)] at q
        exact ⟨.str _, H, I, ⟨_, rfl⟩, q⟩
      · rw [if_neg (by assumption)] at q hs
        exact ⟨hs, .str _, H, I.tok _, ⟨_, rfl⟩, q⟩
theorem call_int_text : CallR X (.type "int") (fun xs H Q => ∃ z n, xs = [.str z] ∧ PySem.intText? z = some n ∧ z.length ≤ 640 ∧ Q (.int n) H) := by
  intro pins s σ H xs us Q I r h
  obtain ⟨z, n, rfl, h1, h2, q⟩ := h
  obtain ⟨u, rfl, t, rfl⟩ := vals1 r
  exact KIN.call_text h1 h2 ⟨.int n, H, I.tok _, ⟨_, rfl⟩, q⟩
end
/-- '1' + '0' * n -/
def tenS (n : Nat) : Str := ("1" : Str) ++ timesS ("0" : Str) (n : Int)
theorem rep1_flat (n : Nat) : (List.replicate n [48]).flatten = List.replicate n 48 := by
  induction n with
  | zero => rfl
  | succ n ih => rw [List.replicate_succ, List.flatten_cons, ih, List.replicate_succ]; rfl
theorem tenS_list (n : Nat) : (tenS n).cps.toList = 49 :: List.replicate n 48 := by
  unfold tenS
  show (("1" : Str).cps ++ (timesS ("0" : Str) (n : Int)).cps).toList = _
  rw [Array.toList_append, timesS_list]
  have a : ("1" : Str).cps.toList = [49] := by decide +kernel
  have b : ("0" : Str).cps.toList = [48] := by decide +kernel
  rw [a, b]
  show [49] ++ (List.replicate n [48]).flatten = _
  rw [rep1_flat]
  rfl
theorem tenS_len (n : Nat) : (tenS n).length = n + 1 := by
  rw [← len_of_toList, tenS_list]
  simp
theorem fold_zeros (n : Nat) : ∀ a : Nat, (List.replicate n 48).foldl (fun acc c => acc * 10 + (c - 48)) a = a * 10 ^ n := by
  induction n with
  | zero => intro a; simp
  | succ n ih =>
    intro a
    rw [List.replicate_succ, List.foldl_cons, ih, Nat.pow_succ]
    show (a * 10 + 0) * 10 ^ n = _
    rw [Nat.add_zero, Nat.mul_assoc, Nat.mul_comm 10]
theorem tenS_val (n : Nat) (h : n ≤ 600) : PySem.intText? (tenS n) = some ((10 ^ n : Nat) : Int) := by
  have e : PySem.NumText.digitsVal (tenS n).cps.toList = 10 ^ n := by
    rw [tenS_list]
    unfold PySem.NumText.digitsVal
    rw [List.foldl_cons, fold_zeros]
    show (0 * 10 + 1) * 10 ^ n = _
    omega
  rw [← e]
  refine PySem.intText_digits ?_ ?_ ?_
  · rw [tenS_list]
    intro c hc
    rcases List.mem_cons.mp hc with rfl | hc
    · exact ⟨by decide, by decide⟩
    · obtain ⟨_, rfl⟩ := List.mem_replicate.mp hc
      exact ⟨by decide, by decide⟩
  · rw [tenS_list]; exact fun z => nomatch z
  · rw [tenS_len]; omega
end L2
set_option Elab.async false
set_option linter.all false
set_option maxRecDepth 100000
set_option maxHeartbeats 4000000
namespace L2
open PySem PySem.Spec PyProof.Rows PySem.W
section
variable {X : Cx}
/-! ### all(a list of bools) -/
theorem call_all (hc : X.A.handled = none) : CallR X (.builtin "all") (fun xs H Q => ∃ (l : Addr) (bs : List Bool), xs = [.ref l] ∧ SqL X.K H l (bs.map V.bl) ∧ Q (.bl (bs.all id)) H) := by
  intro pins s σ H xs us Q I r h
  obtain ⟨l, bs, rfl, hl, q⟩ := h
  obtain ⟨u, rfl, ru⟩ := Vals.one r
  cases ru
  obtain ⟨its, rv, p, hz⟩ := I.list hl
  obtain ⟨o, e, _⟩ := id p.isList
  have hlt : l < s.heap.objs.size := Heap.lt_size e
  have hlen : its.length = bs.length := by rw [← rv.length, List.length_map]
  refine call_all_walk (wpAny_pyIter_list p.isList ?_)
  refine ⟨s.heap.objs.size, [s.heap.objs.size, l], [s.heap.objs.size], its.toArray.size, _, _, fun i => (bs[i]?).getD true, rfl, Walks.list (A := X.A.in1) hc _ l (Nat.ne_of_lt hlt) its.toArray, ⟨⟨_, Heap.get?_push_size _ rfl, rfl, rfl⟩, p.isList.push _⟩, fun i v s' Q' E' hP hQ => ?_, fun h' tk hk => ?_⟩
  · have hP : its[i]? = some v := by simpa using hP
    have hi : i < bs.length := by rw [← hlen]; exact (List.getElem?_eq_some_iff.mp hP).1
    obtain ⟨u', hu', ru'⟩ := rv.get (i := i) (x := V.bl bs[i]) (by simp [hi])
    rw [hP] at hu'
    cases hu'
    cases ru'
    have z : (bs[i]?).getD true = bs[i] := by simp [hi]
    dsimp only at hQ
    rw [z] at hQ
    exact wpAny_truthy_bool hQ
  · have z : ((List.range its.toArray.size).all fun i => (bs[i]?).getD true) = bs.all id := by
      rw [List.size_toArray, hlen]
      exact LSm.range_all bs
    rw [z]
    exact ⟨.bl (bs.all id), H, I.kept fun b x e => hk b x (fun hm => by rw [List.mem_singleton.mp hm] at e; exact Nat.lt_irrefl _ (Heap.lt_size e)) (Heap.get?_push_of_some _ e), rfl, q⟩
/-! ### n.bit_length() -/
def rBits : V → List V → Hp → VK → Prop := fun x vs H Q => ∃ i, x = .int i ∧ vs = [] ∧ Q (.int ((Builtin.Int.intBits i : Nat) : Int)) H
theorem mt_bit_length : MtR X "int.bit_length" rBits := by
  intro pins s σ H x xs v us Q I rx rs h
  obtain ⟨i, rfl, rfl, q⟩ := h
  obtain ⟨t, rfl⟩ := rx
  cases rs
  exact call_int_bit_length ⟨.int _, H, I.tok _, ⟨_, rfl⟩, q⟩
end
end L2
namespace L2
open PySem PySem.Spec PyProof.Rows PySem.W
/-! ### a or b, a an int -/
def tOrI (ta tb : TE) : TE := fun σ H Q => ta σ H fun x H1 => ∃ i, x = .int i ∧ if i = 0 then tb σ H1 Q else Q (.int i) H1
section
variable {X : Cx} {a b : Expr} {rest : List Expr} {pos : Pos} {ta tb : TE}
theorem pe_orI (ha : PE X a ta) (hb : PE X (.BoolOp .Or (b :: rest) pos) tb) : PE X (.BoolOp .Or (a :: b :: rest) pos) (tOrI ta tb) := by
  intro pins s σ H Q I h
  refine BoolOp_or (thn (ha pins s σ H _ I h) fun v s1 ⟨x, H1, I1, r1, q1⟩ => ?_)
  obtain ⟨i, rfl, q1⟩ := q1
  obtain ⟨t, rfl⟩ := r1
  refine PySem.P.truthy_int ?_
  by_cases hi : i = 0
  · rw [if_pos hi] at q1
    subst hi
    exact hb pins s1 σ H1 Q I1 q1
  · rw [if_neg hi] at q1
    rw [show (i != 0) = true by simpa using hi]
    exact ⟨.int i, H1, I1, ⟨_, rfl⟩, q1⟩
end
end L2
set_option Elab.async false
set_option linter.all false
set_option maxRecDepth 100000
set_option maxHeartbeats 4000000
namespace L2
open PySem PySem.Spec PyProof.Rows PySem.W
theorem _root_.L2.Same.tupS {K : Frag} {H H' : Hp} {a : Addr} {xs : List V} (e : Same H H') (h : SqT K H a xs) : SqT K H' a xs := by
  rcases h with (h | ⟨o, h⟩) | h
  · exact .inl (.inl (e _ _ h))
  · exact .inl (.inr ⟨o, e _ _ h⟩)
  · exact .inr h
/-- [e for x in a tuple], e told by f -/
theorem compT_map {K : Frag} {H : Hp} {σ : L2.St} {i : Nat} {a : Addr} {xs : List V} {f : V → V} {te : TE} {Q : VK} (hσ : σ[i]? = some (some (.ref a))) (hl : SqT K H a xs) (he : ∀ x ∈ xs, ∀ (H' : Hp) (Q' : VK), Same H H' → Q' (f x) H' → te [some x] H' Q') (hz : xs.length ≤ 100)
    (k : ∀ D, H D = none → Q (.ref D) (upd H D (.lst (xs.map f)))) : tComp0 1 (iTup K (tVar i)) (gName 0) te σ H Q := by
  refine ⟨_, hσ, a, rfl, ⟨_, hl⟩, fun D hD => ⟨xs.length, fun i ys H2 => i ≤ xs.length ∧ ys = (xs.take i).map f ∧ H2 = upd H D (.lst ys), ⟨Nat.zero_le _, rfl, rfl⟩, ?_⟩⟩
  rintro i ys H2 ⟨hi, rfl, rfl⟩
  refine ⟨hi, upd_same, ?_⟩
  have sm : Same H (upd H D (.lst ((xs.take i).map f))) := Same.upd hD
  by_cases hlt : i < xs.length
  · refine .inr ⟨hlt, ⟨_, xs[i], sm.tupS hl, by simp [hlt]⟩, fun x H3 y => ?_⟩
    obtain ⟨rfl, y⟩ := y
    have ex : x = xs[i] := by
      have := y _ (sm.tupS hl)
      simp [hlt] at this
      exact this.symm
    subst ex
    refine he _ (List.getElem_mem hlt) _ _ sm ⟨upd_same, ?_, hlt, ?_, ?_⟩
    · rw [List.length_map, List.length_take]; exact Nat.lt_of_le_of_lt (Nat.le_trans (Nat.min_le_left _ _) (Nat.le_of_lt (Nat.lt_of_lt_of_le hlt hz))) (small1000 (by decide))
    · rw [List.take_succ_eq_append_getElem hlt, List.map_append]; rfl
    · rw [upd_upd]
  · have e : i = xs.length := by omega
    subst e
    refine .inl ⟨⟨_, sm.tupS hl, by simp⟩, ?_⟩
    have := k D hD
    rw [List.take_length]
    exact this
end L2
namespace L2
open PySem PySem.Spec PyProof.Rows PySem.W
/-- [x for x in a list if test], the test false of each -/
theorem compL_none {K : Frag} {H : Hp} {σ σf : L2.St} {i : Nat} {js : List Nat} {a : Addr} {es : List V} {tc : TT} {te : TE} {Q : VK} (hσ : σ[i]? = some (some (.ref a))) (hl : SqL K H a es)
    (ht : ∀ x ∈ es, ∀ (H' : Hp) (Qb : Bool → Hp → Prop), Same H H' → (∀ H'', Same H' H'' → Qb false H'') → tc (some x :: σf) H' Qb)
    (k : ∀ D H', Same H H' → H D = none → H' D = some (.lst []) → Q (.ref D) H') (hj : fvOf js σ = σf) : tCompF 1 js (iList K (tVar i)) (gName 0) tc te σ H Q := by
  refine ⟨_, hσ, a, rfl, ⟨_, hl⟩, fun D hD => ⟨es.length, fun i ys H2 => i ≤ es.length ∧ ys = [] ∧ Same (upd H D (.lst [])) H2, ⟨Nat.zero_le _, rfl, Same.refl _⟩, ?_⟩⟩
  rintro i ys H2 ⟨hi, rfl, sm2⟩
  have sm : Same H H2 := (Same.upd hD).trans sm2
  refine ⟨hi, sm2 _ _ upd_same, ?_⟩
  by_cases hlt : i < es.length
  · refine .inr ⟨hlt, ⟨_, es[i], sm.seq hl, by simp [hlt]⟩, fun x H3 y => ?_⟩
    obtain ⟨rfl, y⟩ := y
    have ex : x = es[i] := by
      have := y _ (sm.seq hl)
      simp [hlt] at this
      exact this.symm
    subst ex
    rw [hj]
    exact ht _ (List.getElem_mem hlt) _ _ sm fun H'' s'' => iteF ⟨hlt, rfl, sm2.trans s''⟩
  · have e : i = es.length := by omega
    subst e
    exact .inl ⟨⟨_, sm.seq hl, by simp⟩, k D _ sm hD (sm2 _ _ upd_same)⟩
end L2
set_option Elab.async false
set_option linter.all false
set_option maxRecDepth 100000
set_option maxHeartbeats 4000000
namespace L2
open PySem PySem.Spec PyProof.Rows PySem.W
/-! ### calls that never raise, wherever they stand -/
section
variable {X : Cx} {j k : Nat} {f C : Addr} {fd : FuncData} {ps : List Str} {sp : Sp} {dvs : List V} {ds : List Value} {x m : Str} {p pos apos : Pos} {e o : Expr} {es : List Expr} {ta : TE} {t : TA} {st : Stmt}
theorem run_fnN {pins : List (Addr × Obj)} {σ : St} {H : Hp} {s : Shared} {Q : VK} {us : List Value} {vs : List V} (F : FnOk X.prog X.w X.K X.mg X.base (CX1 X.prog X.w) k f fd ps sp) (hr : Room k X.A) (hb : Binds X.K fd ps ds) (hd : Vals dvs ds)
    (I : Inv X pins σ H s) (r : Vals vs us) (h : sp (vs ++ dvs) H Q (fun C d H' => EKF C d σ H')) : wpAny (model X.prog X.w) X.A (call (.ref f) us) (EP X pins σ Q) X.xe s := by
  have r2 : Vals (vs ++ dvs) (us ++ ds) := r.append hd
  have hl : (us ++ ds).length = ps.length := by rw [← r2.length]; exact F.len _ _ _ _ h
  refine wpAny_call (codeAny_mono (F.run X.A X.stack s H ⟨us, []⟩ (us ++ ds) (vs ++ dvs) Q _ hr I.env0 (hb s us I.kIn hl) r2 h) fun r s' hq => ?_)
  cases r with
  | error e =>
    obtain ⟨a, t, C, dd, H', _, _, _, _, _, hE, _⟩ := hq
    exact False.elim hE
  | ok fl =>
    cases fl with
    | ret u => exact I.after hq
    | next => exact False.elim hq
    | brk => exact False.elim hq
    | cont => exact False.elim hq
theorem pmethN {pl : Sem Bool} (he : PE X o ta) (c : Cls X.K C) (hm : Meth X.K C m f) (F : FnOk X.prog X.w X.K X.mg X.base (CX1 X.prog X.w) j f fd ps sp) (hr : Room k X.A) (hb : Binds X.K fd ps ds) (hd : Vals dvs ds) (ha : PA X (e :: es) t)
    (hj : j ≤ k := by decide)
    (hst : starEach (e :: es) X.env = (false, eval e X.env) :: starEach es X.env := by rfl) (hpl : (backTo pos (starEach es X.env)).any (·.1) = false := by rfl)
    (ht : eval (.Call (.Attribute o m apos) (e :: es) [] pos) X.env = (do
      let ov ← eval o X.env
      standAt apos.atName
      let (f, first) ← holding [ov] (getMethod ov m pl)
      callWith pos f first (backTo pos (starEach (e :: es) X.env)) (backToKw pos (keywordEach [] X.env))) := by rfl) :
    PE X (.Call (.Attribute o m apos) (e :: es) [] pos) (tMethE C m sp dvs EKF ta t) := by
  intro pins s σ H Q I h
  refine methodCall_KW (pl := pl) (thn (he pins s σ H _ I h) fun u s1 ⟨x, H1, I1, rx, a, dx, fs, ex, ea, l, q⟩ => ?_) ht
  subst ex
  obtain rfl : u = Value.ref a := rx
  refine getmeth_ok I1 ea c hm l ?_
  refine callWith_K (first := [.ref a]) (h₀ := X.base) I.ok.mod.kin hm.kp (thn (ha pos pins s1 σ H1 _ I1 q) fun us s2 ⟨vs, H2, I2, r, q2⟩ => ⟨I2.kIn, ?_⟩) hst hpl
  exact run_fnN (us := .ref a :: us) (vs := .ref a :: vs) (F.mono hj) hr hb hd I2 (.cons rfl r) q2
end
end L2
set_option Elab.async false
set_option linter.all false
set_option maxRecDepth 100000
set_option maxHeartbeats 4000000
namespace TR
open PySem L2 PySem.W PyProof.Rows
seal PE PS PSs PA PT PW PG PGs PI PO
def top (i : Nat) : Stmt := PySem.Challenge.pw_tenreckon_k10_roots.main.body.getD i (.Pass ⟨0, 0, 0, 0⟩)
abbrev sCell : Stmt := (top 10)
section
variable {P : Program} {w : World} {K : Frag} {mg : Str → Option Value} {base : Heap}
def spCell (K : Frag) : Sp := fun vs H Q _ => ∃ a ns k, vs = [.ref a, .int k] ∧ SqL K H a ((ns : List Int).map V.int) ∧ 0 ≤ k ∧ ∀ i, Q (.int i) H
theorem scCell : FnScope ["_law_script", "_law_k"] ["_law_script", "_law_k"] (defScope sCell) := ⟨rfl, rfl, rfl, by decide +kernel, rfl, by decide +kernel, by decide +kernel⟩
theorem ok_cell {f : Addr} {fd : FuncData} (D : Def K mg "_law_cell_at" ["_law_script", "_law_k"] sCell f fd) (O : Own mg) : FnOk P w K mg base (CX1 P w) 1 f fd ["_law_script", "_law_k"] (spCell K) := by
  refine FnOk.up (D.F.ok scCell (fun vs H Q E h => ?_) (fun cdv A outer s H vs Q E hr h => ?_))
  · obtain ⟨a, ns, k, rfl, _⟩ := h
    rfl
  · obtain ⟨a, ns, i, rfl, hs, h0, k⟩ := h
    refine ⟨_, (pss_cons (ps_if (pt_cmpR op_lt (pv 1) (pe_callB call_len_seq (by rfl) O.len_ PySem.boot_len (pa_cons (pv 0) pa_nil)) (nomark _)) (pss_one (ps_ret (pe_ix ix_list (pv 0) (pv 1) (fun _ _ => rfl)))) pss_nil)
      (pss_one (ps_ret pe_int))), ?_⟩
    refine ⟨_, rfl, _, rfl, a, _, rfl, .inl hs, _, _, rfl, rfl, _, rfl, ?_⟩
    refine iteD (fun hlt => ?_) (fun _ => k 0)
    rw [List.length_map] at hlt
    obtain ⟨j, rfl⟩ := Int.eq_ofNat_of_zero_le h0
    have hj : j < ns.length := by omega
    exact ⟨_, rfl, _, rfl, a, _, _, _, rfl, rfl, hs, atI_nat (v := V.int ns[j]) (by simp [hj]), k _⟩
end
end TR
set_option Elab.async false
set_option linter.all false
set_option maxRecDepth 100000
set_option maxHeartbeats 4000000
namespace TR
open PySem L2 PySem.W PyProof.Rows
seal PE PS PSs PA PT PW PG PGs PI PO
abbrev sMixed : Stmt := (top 11)
section
variable {P : Program} {w : World} {K : Frag} {mg : Str → Option Value} {base : Heap}
def spMixed : Sp := fun vs H Q _ => ∃ c k, vs = [.int c, .int k] ∧ 0 ≤ k ∧ k ≤ 100 ∧ ∀ m, 0 ≤ m → m < 2147483629 → Q (.int m) H
theorem scMixed : FnScope ["_law_cell", "_law_k"] ["_law_cell", "_law_k"] (defScope sMixed) := ⟨rfl, rfl, rfl, by decide +kernel, rfl, by decide +kernel, by decide +kernel⟩
theorem ok_mixed {f : Addr} {fd : FuncData} (D : Def K mg "_law_mixed" ["_law_cell", "_law_k"] sMixed f fd) : FnOk P w K mg base (CX1 P w) 1 f fd ["_law_cell", "_law_k"] spMixed := by
  refine FnOk.up (D.F.ok scMixed (fun vs H Q E h => ?_) (fun cdv A outer s H vs Q E hr h => ?_))
  · obtain ⟨c, k, rfl, _⟩ := h
    rfl
  · obtain ⟨c, i, rfl, h0, h1, k⟩ := h
    refine ⟨_, (pss_one (ps_ret (pe_op op_mod (pe_op op_mulK (pe_op op_mod (pe_op op_add (pe_op op_add (pe_op op_mulK (pv 0) (pe_op op_add pe_int (pe_op op_mulK (pe_op op_mulK pe_int (pv 1)) (pv 1)))) (pe_op op_mulK pe_int (pv 1))) pe_int) pe_int) pe_int) pe_int))), ?_⟩
    have q0 : (0 : Int) ≤ 2 * i * i := Int.mul_nonneg (by omega) h0
    have q1 : 2 * i * i ≤ 200 * 100 := Int.mul_le_mul (by omega) h1 h0 (by decide)
    have m1 : IntMulOk 2 i := CMul.ok (.inl ⟨by decide, by decide⟩)
    have m2 : IntMulOk (2 * i) i := CMul.ok (.inr ⟨by omega, by omega⟩)
    have m3 : IntMulOk c (48271 + 2 * i * i) := CMul.ok (.inr ⟨by omega, by omega⟩)
    have m4 : IntMulOk 69621 i := CMul.ok (.inl ⟨by decide, by decide⟩)
    have m5 : ∀ z : Int, IntMulOk z 69621 := fun z => CMul.ok (.inr ⟨by decide, by decide⟩)
    refine ⟨_, rfl, _, rfl, _, _, rfl, rfl, m1, _, rfl, _, _, rfl, rfl, m2, _, _, rfl, rfl, _, _, rfl, rfl, m3, _, rfl, _, _, rfl, rfl, m4, _, _, rfl, rfl, _, _, rfl, rfl, _, _, rfl, rfl, (by show (0 : Int) < 2147483647; decide), _, _, rfl, rfl, m5 _, _, _, rfl, rfl, (by show (0 : Int) < 2147483629; decide), ?_⟩
    exact k _ (Int.emod_nonneg _ (by decide)) (Int.emod_lt_of_pos _ (by decide))
end
end TR
set_option Elab.async false
set_option linter.all false
set_option maxRecDepth 100000
set_option maxHeartbeats 4000000
namespace TR
open PySem L2 PySem.W PyProof.Rows
seal PE PS PSs PA PT PW PG PGs PI PO
abbrev sTenT : Stmt := (top 12)
section
variable {P : Program} {w : World} {K : Frag} {mg : Str → Option Value} {base : Heap}
def spTenT : Sp := fun vs H Q _ => ∃ n : Nat, vs = [.int (n : Int)] ∧ n ≤ 600 ∧ Q (.int ((10 ^ n : Nat) : Int)) H
theorem scTenT : FnScope ["_law_count"] ["_law_count"] (defScope sTenT) := ⟨rfl, rfl, rfl, by decide +kernel, rfl, by decide +kernel, by decide +kernel⟩
theorem ok_tenT {f : Addr} {fd : FuncData} (D : Def K mg "_law_ten" ["_law_count"] sTenT f fd) (O : Own mg) : FnOk P w K mg base (CX1 P w) 1 f fd ["_law_count"] spTenT := by
  refine FnOk.up (D.F.ok scTenT (fun vs H Q E h => ?_) (fun cdv A outer s H vs Q E hr h => ?_))
  · obtain ⟨n, rfl, _⟩ := h
    rfl
  · obtain ⟨n, rfl, hn, k⟩ := h
    refine ⟨_, (pss_one (ps_ret (pe_callTy call_int_text (by rfl) O.int_ boot_int (pa_cons (pe_op op_add_str pe_str (pe_op op_rep_str pe_str (pv 0))) pa_nil)))), ?_⟩
    have l1 : ("1" : Str).length = 1 := by decide +kernel
    have l0 : ("0" : Str).length = 1 := by decide +kernel
    refine ⟨_, rfl, _, _, rfl, rfl, by omega, by omega, line1000 (by rw [l0]; omega), _, _, rfl, rfl, line1000 (by rw [timesS_len, l0, l1]; omega), ?_⟩
    exact ⟨tenS n, _, rfl, tenS_val n hn, by rw [tenS_len]; omega, k⟩
end
end TR
set_option Elab.async false
set_option linter.all false
set_option maxRecDepth 100000
set_option maxHeartbeats 4000000
namespace TR
open PySem L2 PySem.W PyProof.Rows
seal PE PS PSs PA PT PW PG PGs PI PO
abbrev sTop : Stmt := (top 13)
section
variable {P : Program} {w : World} {K : Frag} {mg : Str → Option Value} {base : Heap}
def spTop : Sp := fun vs H Q _ => ∃ c : Int, vs = [.int c] ∧ ∀ (t : Nat) H', 1 ≤ t → t < 10 ^ 30 → Same H H' → Q (.int (t : Int)) H'
theorem scTop : FnScope ["_law_cell", "_law_size", "_law_more", "_law_some"] ["_law_cell"] (defScope sTop) := ⟨rfl, rfl, rfl, by decide +kernel, rfl, by decide +kernel, by decide +kernel⟩
theorem dvT {n : Int} (h : 0 < n) (l : n.natAbs.log2 < 9000) : 0 < n ∧ n.natAbs.log2 < 9000 := ⟨h, l⟩
theorem ok_top {f f1 : Addr} {fd fd1 : FuncData} (D : Def K mg "_law_top" ["_law_cell"] sTop f fd) (D_l_ten : Def K mg "_law_ten" ["_law_count"] sTenT f1 fd1) (G_l_ten : FnOk P w K mg base (CX1 P w) 1 f1 fd1 ["_law_count"] spTenT) : FnOk P w K mg base (CX1 P w) 2 f fd ["_law_cell"] spTop := by
  refine FnOk.up (D.F.ok scTop (fun vs H Q E h => ?_) (fun cdv A outer s H vs Q E hr h => ?_))
  · obtain ⟨c, rfl, _⟩ := h
    rfl
  · obtain ⟨c, rfl, k⟩ := h
    have hx : Catches (cxOf CX0 P w K mg base ["_law_cell", "_law_size", "_law_more", "_law_some"] "_law_top" (defScope sTop) f cdv A outer s H E).nox EKF := catches0
    refine ⟨_, (pss_cons (ps_join (ps_set (i := 1) scTop.nd rfl (Or.inl rfl) (pe_op op_add pe_int (pe_op op_mod (pe_op op_fdivK (pv 0) pe_int) pe_int))))
      (pss_cons (ps_join (ps_set (i := 2) scTop.nd rfl (Or.inl rfl) (pe_op op_add pe_int (pe_op op_mod (pe_op op_fdivK (pv 0) pe_int) pe_int))))
      (pss_cons (ps_join (ps_set (i := 3) scTop.nd rfl (Or.inl rfl) (pe_lst (pa_cons (pe_orI (pe_op op_mod (pv 2) pe_int) (pe_one pe_int)) (pa_cons (pv 2) (pa_cons (pe_op op_mulK (pv 2) (pcall D_l_ten G_l_ten hr hx (pa_cons (pv 1) pa_nil))) (pa_cons (pe_op op_sub (pcall D_l_ten G_l_ten hr hx (pa_cons (pv 1) pa_nil)) pe_int) (pa_cons (pe_op op_mulK pe_int (pcall D_l_ten G_l_ten hr hx (pa_cons (pv 1) pa_nil))) (pa_cons (pe_op op_add (pe_op op_mulK (pv 2) pe_int) pe_int) pa_nil)))))))))
      (pss_cons (ps_join (ps_expr (pe_bm PySem.F.plainAttrs_list PySem.F.slot_list_append PySem.F.type_list_append mt_append (pv 3) (pa_cons (pe_op op_sub (pe_op op_add (pe_op op_mulK (pe_op op_add (pe_op op_mulK pe_int (pv 2)) pe_int) (pcall D_l_ten G_l_ten hr hx (pa_cons (pv 1) pa_nil))) (pe_op op_mod (pe_op op_fdivK (pv 0) pe_int) pe_int)) pe_int) pa_nil))))
      (pss_cons (ps_join (ps_expr (pe_bm PySem.F.plainAttrs_list PySem.F.slot_list_append PySem.F.type_list_append mt_append (pv 3) (pa_cons (pe_op op_mulK (pe_op op_mulK (pe_op op_mulK (pe_op op_mulK (pv 2) pe_int) pe_int) (pe_op op_add (pv 2) pe_int)) pe_int) pa_nil))))
      (pss_one (ps_ret (pe_ix ix_list (pv 3) (pe_op op_mod (pv 0) pe_int) (fun _ _ => rfl))))))))), ?_⟩
    have d8 := dvT (n := 8) (by decide) (by decide +kernel)
    have d96 := dvT (n := 96) (by decide) (by decide +kernel)
    have d7 := dvT (n := 7) (by decide) (by decide +kernel)
    have p12 : (0 : Int) < 12 := by decide
    have p5 : (0 : Int) < 100000 := by decide
    have p10 : (0 : Int) < 10 := by decide
    have p3 : (0 : Int) < 3 := by decide
    have p8 : (0 : Int) < 8 := by decide
    refine ⟨fun σ H' => H' = H ∧ ∃ sz : Nat, 1 ≤ sz ∧ sz ≤ 12 ∧ σ = [some (.int c), some (.int (sz : Int)), none, none], ?_, ?_⟩
    · refine ⟨_, rfl, _, _, rfl, rfl, d8, _, _, rfl, rfl, p12, _, _, rfl, rfl, rfl, (1 + c / 8 % 12).toNat, by omega, by omega, ?_⟩
      show [some (V.int c), some (V.int (1 + c / 8 % 12)), none, none] = _
      rw [Int.toNat_of_nonneg (by omega)]
    rintro σ H' ⟨rfl, sz, z1, z2, rfl⟩
    refine ⟨fun σ H2 => H2 = H' ∧ ∃ mo : Nat, 1 ≤ mo ∧ mo ≤ 100000 ∧ σ = [some (.int c), some (.int (sz : Int)), some (.int (mo : Int)), none], ?_, ?_⟩
    · refine ⟨_, rfl, _, _, rfl, rfl, d96, _, _, rfl, rfl, p5, _, _, rfl, rfl, rfl, (1 + c / 96 % 100000).toNat, by omega, by omega, ?_⟩
      show [some (V.int c), some (V.int (sz : Int)), some (V.int (1 + c / 96 % 100000)), none] = _
      rw [Int.toNat_of_nonneg (by omega)]
    rintro σ H2 ⟨rfl, mo, m1, m2, rfl⟩
    have t1 : 10 ≤ 10 ^ sz := Nat.le_trans (Nat.le_of_eq (Nat.pow_one 10).symm) (Nat.pow_le_pow_right (by decide) z1)
    have t2 : 10 ^ sz ≤ 10 ^ 12 := Nat.pow_le_pow_right (by decide) z2
    have hz : sz ≤ 600 := by omega
    have mT : ∀ z : Int, IntMulOk z ((10 ^ sz : Nat) : Int) := fun z => CMul.ok (.inr ⟨by omega, by omega⟩)
    have mM : ∀ z : Int, IntMulOk z ((mo : Int) + 48271) := fun z => CMul.ok (.inr ⟨by omega, by omega⟩)
    have mM' : ∀ z : Int, IntMulOk (mo : Int) z := fun z => CMul.ok (.inl ⟨by omega, by omega⟩)
    have mC : ∀ z n : Int, -(2 ^ 64) < n → n < 2 ^ 64 → IntMulOk z n := fun z n a b => CMul.ok (.inr ⟨a, b⟩)
    have mC' : ∀ z n : Int, -(2 ^ 64) < n → n < 2 ^ 64 → IntMulOk n z := fun z n a b => CMul.ok (.inl ⟨a, b⟩)
    have sz6 : 6 ≤ sizeLine := line1000 (by decide)
    have q1 : mo * 10 ^ sz ≤ 100000 * 10 ^ 12 := Nat.mul_le_mul m2 t2
    have q0 : 1 * 10 ≤ mo * 10 ^ sz := Nat.mul_le_mul m1 t1
    have q2 : (10 * mo + 5) * 10 ^ sz ≤ (10 * 100000 + 5) * 10 ^ 12 := Nat.mul_le_mul (by omega) t2
    have q3 : 15 * 10 ≤ (10 * mo + 5) * 10 ^ sz := Nat.mul_le_mul (by omega) t1
    -- the list of the first six
    refine ⟨fun σ H3 => ∃ l xs, Same H2 H3 ∧ H2 l = none ∧ H3 l = some (.lst ((xs : List Nat).map fun (n : Nat) => V.int (n : Int))) ∧ xs.length = 6 ∧ (∀ n ∈ xs, 1 ≤ n ∧ n < 10 ^ 30) ∧ σ = [some (.int c), some (.int (sz : Int)), some (.int (mo : Int)), some (.ref l)], ?_, ?_⟩
    · refine ⟨_, rfl, _, _, rfl, rfl, p10, _, rfl, ?_⟩
      have e1 : ((10 ^ sz : Nat) : Int) - 1 = ((10 ^ sz - 1 : Nat) : Int) := by omega
      split
      · refine ⟨_, rfl, _, rfl, _, rfl, sz, rfl, hz, _, _, rfl, rfl, mT _, _, rfl, sz, rfl, hz, _, _, rfl, rfl, _, rfl, sz, rfl, hz, _, _, rfl, rfl, mT _, _, rfl, _, _, rfl, rfl, mM' _, _, _, rfl, rfl, sz6, fun l nl => ?_⟩
        refine ⟨l, [1, mo, mo * 10 ^ sz, 10 ^ sz - 1, 5 * 10 ^ sz, mo * 10 + 5], Same.upd nl, nl, ?_, rfl, ?_, rfl⟩
        · rw [upd_same]
          refine congrArg (fun z => some (HO.lst z)) ?_
          show [V.int 1, V.int mo, V.int (mo * ((10 ^ sz : Nat) : Int)), V.int (((10 ^ sz : Nat) : Int) - 1), V.int (5 * ((10 ^ sz : Nat) : Int)), V.int (mo * 10 + 5)] = _
          rw [e1]
          rfl
        · intro n hn
          simp only [List.mem_cons, List.not_mem_nil, or_false] at hn
          rcases hn with rfl | rfl | rfl | rfl | rfl | rfl <;> omega
      · refine ⟨_, rfl, _, rfl, _, rfl, sz, rfl, hz, _, _, rfl, rfl, mT _, _, rfl, sz, rfl, hz, _, _, rfl, rfl, _, rfl, sz, rfl, hz, _, _, rfl, rfl, mT _, _, rfl, _, _, rfl, rfl, mM' _, _, _, rfl, rfl, sz6, fun l nl => ?_⟩
        refine ⟨l, [mo % 10, mo, mo * 10 ^ sz, 10 ^ sz - 1, 5 * 10 ^ sz, mo * 10 + 5], Same.upd nl, nl, ?_, rfl, ?_, rfl⟩
        · rw [upd_same]
          refine congrArg (fun z => some (HO.lst z)) ?_
          show [V.int (mo % 10), V.int mo, V.int (mo * ((10 ^ sz : Nat) : Int)), V.int (((10 ^ sz : Nat) : Int) - 1), V.int (5 * ((10 ^ sz : Nat) : Int)), V.int (mo * 10 + 5)] = _
          rw [e1]
          rfl
        · intro n hn
          simp only [List.mem_cons, List.not_mem_nil, or_false] at hn
          rcases hn with rfl | rfl | rfl | rfl | rfl | rfl <;> omega
    rintro σ H3 ⟨l, xs, s3, nl, hl, len, hb, rfl⟩
    have l8 : ∀ ys : List Nat, ys.length ≤ 8 → (ys.map fun (n : Nat) => V.int (n : Int)).length < sizeLine := fun ys h => by rw [List.length_map]; exact small1000 (by omega)
    have tyL : ∀ {H' : Hp} {ys : List V}, H' l = some (.lst ys) → tyV K "list" (.ref l) H' := fun e => .inl ⟨rfl, _, SqL.of e⟩
    refine ⟨fun σ H4 => ∃ x : Nat, 1 ≤ x ∧ x < 10 ^ 30 ∧ Same H2 H4 ∧ H4 l = some (.lst ((xs ++ [x]).map fun (n : Nat) => V.int (n : Int))) ∧ σ = [some (.int c), some (.int (sz : Int)), some (.int (mo : Int)), some (.ref l)], ?_, ?_⟩
    · refine ⟨_, rfl, tyL hl, _, rfl, _, _, rfl, rfl, mC' _ _ (by decide) (by decide), _, _, rfl, rfl, _, rfl, sz, rfl, hz, _, _, rfl, rfl, mT _, _, rfl, _, _, rfl, rfl, d7, _, _, rfl, rfl, p3, _, _, rfl, rfl, _, _, rfl, rfl, l, _, _, rfl, rfl, hl, l8 _ (by omega), ?_⟩
      obtain ⟨x, hx⟩ : ∃ x : Nat, (10 * (mo : Int) + 5) * ((10 ^ sz : Nat) : Int) + c / 7 % 3 - 1 = (x : Int) := by
        have e : (10 * (mo : Int) + 5) * ((10 ^ sz : Nat) : Int) = (((10 * mo + 5) * 10 ^ sz : Nat) : Int) := rfl
        rw [e]
        exact Int.eq_ofNat_of_zero_le (by omega)
      refine ⟨x, ?_, ?_, ?_, ?_, rfl⟩
      · have e : (10 * (mo : Int) + 5) * ((10 ^ sz : Nat) : Int) = (((10 * mo + 5) * 10 ^ sz : Nat) : Int) := rfl
        omega
      · have e : (10 * (mo : Int) + 5) * ((10 ^ sz : Nat) : Int) = (((10 * mo + 5) * 10 ^ sz : Nat) : Int) := rfl
        omega
      · exact fun b o z => by rw [upd_ne (ne_of_none z nl)]; exact s3 _ _ z
      · rw [upd_same, List.map_append]
        refine congrArg (fun z => some (HO.lst (_ ++ [z]))) ?_
        exact congrArg V.int hx
    rintro σ H4 ⟨x, x1, x2, s4, hl4, rfl⟩
    refine ⟨fun σ H5 => ∃ y : Nat, 1 ≤ y ∧ y < 10 ^ 30 ∧ Same H2 H5 ∧ H5 l = some (.lst (((xs ++ [x]) ++ [y]).map fun (n : Nat) => V.int (n : Int))) ∧ σ = [some (.int c), some (.int (sz : Int)), some (.int (mo : Int)), some (.ref l)], ?_, ?_⟩
    · refine ⟨_, rfl, tyL hl4, _, rfl, _, _, rfl, rfl, mM' _, _, _, rfl, rfl, mC _ _ (by decide) (by decide), _, rfl, _, _, rfl, rfl, _, _, rfl, rfl, mM _, _, _, rfl, rfl, mC _ _ (by decide) (by decide), l, _, _, rfl, rfl, hl4, l8 _ (by rw [List.length_append, List.length_singleton]; omega), ?_⟩
      refine ⟨mo * 7919 * 104729 * (mo + 48271) * 15485863, ?_, ?_, ?_, ?_, rfl⟩
      · have a : 1 ≤ mo * 7919 * 104729 := by omega
        have b : 1 * 1 ≤ mo * 7919 * 104729 * (mo + 48271) := Nat.mul_le_mul a (by omega)
        exact Nat.le_trans (by decide) (Nat.mul_le_mul_right 15485863 b)
      · have a : mo * 7919 * 104729 ≤ 100000 * 7919 * 104729 := by omega
        have b : mo * 7919 * 104729 * (mo + 48271) ≤ 100000 * 7919 * 104729 * 148271 := Nat.mul_le_mul a (by omega)
        exact Nat.lt_of_le_of_lt (Nat.mul_le_mul_right 15485863 b) (by decide +kernel)
      · exact fun b o z => by rw [upd_ne (ne_of_none z nl)]; exact s4 _ _ z
      · rw [upd_same, List.map_append (l₁ := xs ++ [x])]
        refine congrArg (fun z => some (HO.lst (_ ++ [z]))) ?_
        show V.int _ = V.int _
        simp only [Int.natCast_mul, Int.natCast_add]
        rfl
    rintro σ H5 ⟨y, y1, y2, s5, hl5, rfl⟩
    have hall : ∀ n ∈ (xs ++ [x]) ++ [y], 1 ≤ n ∧ n < 10 ^ 30 := by
      intro n hn
      rcases List.mem_append.mp hn with hn | hn
      · rcases List.mem_append.mp hn with hn | hn
        · exact hb n hn
        · rw [List.mem_singleton.mp hn]; exact ⟨x1, x2⟩
      · rw [List.mem_singleton.mp hn]; exact ⟨y1, y2⟩
    have len8 : ((xs ++ [x]) ++ [y]).length = 8 := by rw [List.length_append, List.length_append, len]; rfl
    generalize (xs ++ [x]) ++ [y] = zs at hl5 hall len8
    obtain ⟨v, hv, ix⟩ := ixv (xs := zs.map fun (n : Nat) => V.int (n : Int)) (i := c % 8) (Int.emod_nonneg _ (by decide)) (by rw [List.length_map, len8]; exact Int.emod_lt_of_pos _ (by decide))
    obtain ⟨n, hn, rfl⟩ := List.mem_map.mp hv
    exact ⟨_, rfl, _, rfl, _, _, rfl, rfl, p8, l, _, _, _, rfl, rfl, SqL.of hl5, ix, k n H5 (hall n hn).1 (hall n hn).2 s5⟩
end
end TR
set_option Elab.async false
set_option linter.all false
set_option maxRecDepth 100000
set_option maxHeartbeats 4000000
namespace TR
open PySem L2 PySem.W PyProof.Rows
seal PE PS PSs PA PT PW PG PGs PI PO
abbrev sPair : Stmt := (top 14)
section
variable {P : Program} {w : World} {K : Frag} {mg : Str → Option Value} {base : Heap}
def spPair : Sp := fun vs H Q _ => ∃ t a b, vs = [.ref t] ∧ H t = some (.tup [.int a, .int b]) ∧ ∀ H', Same H H' → Q (.bl true) H'
theorem scPair : FnScope ["_law_found"] ["_law_found"] (defScope sPair) := ⟨rfl, rfl, rfl, by decide +kernel, rfl, by decide +kernel, by decide +kernel⟩
theorem ok_pair {f : Addr} {fd : FuncData} (D : Def K mg "_law_pair" ["_law_found"] sPair f fd) (O : Own mg) (T : Kit K) : FnOk P w K mg base (CX1 P w) 1 f fd ["_law_found"] spPair := by
  refine FnOk.up (D.F.ok scPair (fun vs H Q E h => ?_) (fun cdv A outer s H vs Q E hr h => ?_))
  · obtain ⟨t, a, b, rfl, _⟩ := h
    rfl
  · obtain ⟨t, a, b, rfl, ht, k⟩ := h
    refine ⟨_, (pss_cons (ps_if (PW.pt (pw_or (pt_not (pt_val (pisi O.isi (pv 0) (pty O.tuple_ boot_tuple)))) (pw_or1 (pt_cmpR op_ne (pe_callB call_len_seq (by rfl) O.len_ PySem.boot_len (pa_cons (pv 0) pa_nil)) pe_int (nomark _))))) (pss_one (ps_ret pe_bl)) pss_nil)
      (pss_one (ps_ret (pe_callB (call_all hr.hd) (by rfl) O.all_ boot_all (pa_cons (pe_comp0 (N := ["_law_one"]) ⟨rfl, by decide +kernel, by decide +kernel, by decide +kernel, by decide +kernel⟩ (.inl hr.hd) (pih_tup (pv 0)) rfl (fun C s₀ H₀ ex pn h => pg_name (i := 0) (by decide +kernel : (["_law_one"] : List Str).Nodup) rfl (Or.inl rfl)) (fun C s₀ H₀ ex pn h => (pe_and (pisiK (K := K) rfl O.isi (pv 0) (pty O.int_ boot_int)) (pe_one (pe_not (pisiK (K := K) rfl O.isi (pv 0) (pty O.bool_ boot_bool))))))) pa_nil))))), ?_⟩
    refine ⟨_, rfl, _, _, _, _, true, rfl, rfl, tyTup ht, T.tuple_tuple, _, rfl, iteF ?_⟩
    refine ⟨_, rfl, t, _, rfl, .inr (SqT.of ht), rfl, _, rfl, iteNS rfl ?_⟩
    dsimp only [tNext, tRet, tCB, tCons]
    refine compT_map (xs := [.int a, .int b]) (f := fun _ => .bl true) rfl (SqT.of ht) (fun x hx H' Q' sm q => ?_) (by show 2 ≤ 100; decide) fun D nD => ?_
    · simp only [List.mem_cons, List.not_mem_nil, or_false] at hx
      obtain ⟨i, rfl⟩ : ∃ i, x = .int i := by rcases hx with rfl | rfl <;> exact ⟨_, rfl⟩
      exact ⟨_, rfl, _, _, _, _, true, rfl, rfl, tyInt _, T.int_int, _, rfl, iteT ⟨_, rfl, _, _, _, _, false, rfl, rfl, tyInt _, T.int_bool, _, rfl, q⟩⟩
    · exact ⟨D, [true, true], rfl, SqL.of upd_same, k _ (Same.upd nD)⟩
end
end TR
set_option Elab.async false
set_option linter.all false
set_option maxRecDepth 100000
set_option maxHeartbeats 4000000
namespace TR
open PySem L2 PySem.W PyProof.Rows
seal PE PS PSs PA PT PW PG PGs PI PO
abbrev sSides : Stmt := (top 15)
section
variable {P : Program} {w : World} {K : Frag} {mg : Str → Option Value} {base : Heap}
/-- 10 ** n, of ints: 1 where n is below 0 -/
def tenI (n : Int) : Int := ((10 ^ n.toNat : Nat) : Int)
theorem tenI_pos (n : Int) : 0 < tenI n := Int.natCast_pos.mpr (Nat.pow_pos (by decide))
theorem maxT (s : Int) : (if (0 : Int) > s then 0 else s) = ((s.toNat : Nat) : Int) := by
  by_cases h : (0 : Int) > s
  · rw [if_pos h]; omega
  · rw [if_neg h]; omega
def spSides : Sp := fun vs H Q _ => ∃ t s : Int, vs = [.int t, .int s] ∧ -600 ≤ s ∧ s ≤ 600 ∧ IntMulOk t (tenI s) ∧ ∀ p H', Same H H' → H p = none → H' p = some (.tup [.int (t * tenI s), .int (tenI (-s))]) → Q (.ref p) H'
theorem scSides : FnScope ["_law_top_here", "_law_shift"] ["_law_top_here", "_law_shift"] (defScope sSides) := ⟨rfl, rfl, rfl, by decide +kernel, rfl, by decide +kernel, by decide +kernel⟩
theorem ok_sides {f f1 : Addr} {fd fd1 : FuncData} (D : Def K mg "_law_sides" ["_law_top_here", "_law_shift"] sSides f fd) (D_l_ten : Def K mg "_law_ten" ["_law_count"] sTenT f1 fd1) (G_l_ten : FnOk P w K mg base (CX1 P w) 1 f1 fd1 ["_law_count"] spTenT) (O : Own mg) : FnOk P w K mg base (CX1 P w) 2 f fd ["_law_top_here", "_law_shift"] spSides := by
  refine FnOk.up (D.F.ok scSides (fun vs H Q E h => ?_) (fun cdv A outer s H vs Q E hr h => ?_))
  · obtain ⟨t, s, rfl, _⟩ := h
    rfl
  · obtain ⟨t, sh, rfl, s1, s2, o1, k⟩ := h
    have hx : Catches (cxOf CX0 P w K mg base ["_law_top_here", "_law_shift"] "_law_sides" (defScope sSides) f cdv A outer s H E).nox EKF := catches0
    refine ⟨_, (pss_one (ps_ret (pe_tup (pa_cons (pe_op op_mulK (pv 0) (pcall D_l_ten G_l_ten hr hx (pa_cons (pe_callB (call_max2 rfl) (by rfl) O.max_ boot_max (pa_cons (pv 1) (pa_cons pe_int pa_nil))) pa_nil))) (pa_cons (pcall D_l_ten G_l_ten hr hx (pa_cons (pe_callB (call_max2 rfl) (by rfl) O.max_ boot_max (pa_cons (pe_op op_sub pe_int (pv 1)) (pa_cons pe_int pa_nil))) pa_nil)) pa_nil))))), ?_⟩
    have z2 : 2 ≤ sizeLine := line1000 (by decide)
    have e2 : (if (0 : Int) > 0 - sh then 0 else 0 - sh) = (((-sh).toNat : Nat) : Int) := by rw [show 0 - sh = -sh by omega]; exact maxT (-sh)
    refine ⟨_, rfl, _, rfl, _, _, rfl, sh.toNat, congrArg (fun z => [V.int z]) (maxT sh), by omega, _, _, rfl, rfl, o1, _, rfl, _, _, rfl, rfl, _, _, rfl, (-sh).toNat, congrArg (fun z => [V.int z]) e2, by omega, z2, fun p np => k p _ (Same.upd np) np upd_same⟩
end
end TR
set_option Elab.async false
set_option linter.all false
set_option maxRecDepth 100000
set_option maxHeartbeats 4000000
namespace TR
open PySem L2 PySem.W PyProof.Rows
seal PE PS PSs PA PT PW PG PGs PI PO
abbrev sFirst : Stmt := (top 16)
section
variable {P : Program} {w : World} {K : Frag} {mg : Str → Option Value} {base : Heap}
/-- the root of t * 10 ** s has its lead at 0 -/
def LeadR (t s : Int) : Prop := tenI (-s) ≤ t * tenI s ∧ t * tenI s < 100 * tenI (-s)
def spFirst : Sp := fun vs H Q _ => ∃ f t n : Int, vs = [.int f, .int t, .int n] ∧ -600 ≤ n - 2 * f ∧ n - 2 * f ≤ 600 ∧ IntMulOk t (tenI (n - 2 * f)) ∧ LeadR t (n - 2 * f) ∧ ∀ H', Same H H' → Q (.bl true) H'
theorem scFirst : FnScope ["_law_found", "_law_top_here", "_law_ten_here", "_law_high", "_law_low"] ["_law_found", "_law_top_here", "_law_ten_here"] (defScope sFirst) := ⟨rfl, rfl, rfl, by decide +kernel, rfl, by decide +kernel, by decide +kernel⟩
theorem ok_first {f f1 : Addr} {fd fd1 : FuncData} (D : Def K mg "_law_first_right" ["_law_found", "_law_top_here", "_law_ten_here"] sFirst f fd) (D_l_sides : Def K mg "_law_sides" ["_law_top_here", "_law_shift"] sSides f1 fd1) (G_l_sides : FnOk P w K mg base (CX1 P w) 2 f1 fd1 ["_law_top_here", "_law_shift"] spSides) (O : Own mg) (T : Kit K) : FnOk P w K mg base (CX1 P w) 3 f fd ["_law_found", "_law_top_here", "_law_ten_here"] spFirst := by
  refine FnOk.up (D.F.ok scFirst (fun vs H Q E h => ?_) (fun cdv A outer s H vs Q E hr h => ?_))
  · obtain ⟨f, t, n, rfl, _⟩ := h
    rfl
  · obtain ⟨fo, t, n, rfl, s1, s2, o1, ⟨g1, g2⟩, k⟩ := h
    have hx : Catches (cxOf CX0 P w K mg base ["_law_found", "_law_top_here", "_law_ten_here", "_law_high", "_law_low"] "_law_first_right" (defScope sFirst) f cdv A outer s H E).nox EKF := catches0
    refine ⟨_, (pss_cons (ps_if (PW.pt (pw_or (pt_not (pt_val (pisi O.isi (pv 0) (pty O.int_ boot_int)))) (pw_or1 (pt_val (pisi O.isi (pv 0) (pty O.bool_ boot_bool)))))) (pss_one (ps_ret pe_bl)) pss_nil)
      (pss_cons (ps_asg (pcall D_l_sides G_l_sides hr hx (pa_cons (pv 1) (pa_cons (pe_op op_sub (pv 2) (pe_op op_mulK pe_int (pv 0))) pa_nil))) (pg_tup rfl (pgs_cons (pg_name (i := 3) scFirst.nd rfl (Or.inl rfl)) (pgs_cons (pg_name (i := 4) scFirst.nd rfl (Or.inl rfl)) pgs_nil))))
      (pss_one (ps_ret (pe_chain op_le op_lt (pv 4) (pv 3) (pe_op op_mulK pe_int (pv 4))))))), ?_⟩
    have mC' : ∀ z n : Int, -(2 ^ 64) < n → n < 2 ^ 64 → IntMulOk n z := fun z n a b => CMul.ok (.inl ⟨a, b⟩)
    refine ⟨_, rfl, _, _, _, _, true, rfl, rfl, tyInt _, T.int_int, _, rfl, iteF ⟨_, rfl, _, _, _, _, false, rfl, rfl, tyInt _, T.int_bool, _, rfl, iteF ?_⟩⟩
    refine ⟨_, rfl, _, rfl, _, rfl, _, _, rfl, rfl, mC' _ _ (by decide) (by decide), _, _, rfl, rfl, t, _, rfl, s1, s2, o1, fun p H1 sm np hp => ?_⟩
    refine ⟨p, _, rfl, SqT.of hp, rfl, _, _, rfl, _, _, rfl, rfl, ?_⟩
    refine ⟨_, rfl, _, rfl, _, _, rfl, rfl, _, rfl, iteDT g1 ?_⟩
    refine ⟨_, rfl, _, _, rfl, rfl, mC' _ _ (by decide) (by decide), _, _, rfl, rfl, ?_⟩
    show Q (.bl (decide (t * tenI (n - 2 * fo) < 100 * tenI (-(n - 2 * fo))))) H1
    rw [decide_eq_true g2]
    exact k _ sm
end
end TR
set_option Elab.async false
set_option linter.all false
set_option maxRecDepth 100000
set_option maxHeartbeats 4000000
namespace TR
open PySem L2 PySem.W PyProof.Rows
seal PE PS PSs PA PT PW PG PGs PI PO
abbrev sAtR : Stmt := (top 17)
section
variable {P : Program} {w : World} {K : Frag} {mg : Str → Option Value} {base : Heap}
/-- the whole root of t * 10 ** s -/
def IsRoot (t s wh : Int) : Prop := 0 ≤ wh ∧ wh * wh * tenI (-s) ≤ t * tenI s ∧ t * tenI s < (wh + 1) * (wh + 1) * tenI (-s)
/-- the part that is left -/
def rptI (t s wh : Int) : Int := if wh * wh * tenI (-s) = t * tenI s then 0 else 1 + (if decide ((2 * wh + 1) * (2 * wh + 1) * tenI (-s) ≤ 4 * (t * tenI s)) = true then 1 else 0) + (if decide ((2 * wh + 1) * (2 * wh + 1) * tenI (-s) < 4 * (t * tenI s)) = true then 1 else 0)
/-- all products are small -/
structure Muls (t s wh : Int) : Prop where
  o1 : IntMulOk t (tenI s)
  o2 : IntMulOk wh wh
  o3 : IntMulOk (wh * wh) (tenI (-s))
  o4 : IntMulOk (wh + 1) (wh + 1)
  o5 : IntMulOk ((wh + 1) * (wh + 1)) (tenI (-s))
  o6 : IntMulOk (2 * wh + 1) (2 * wh + 1)
  o7 : IntMulOk ((2 * wh + 1) * (2 * wh + 1)) (tenI (-s))
def spAtR : Sp := fun vs H Q _ => ∃ p wh t s, vs = [.ref p, .int t, .int s] ∧ -600 ≤ s ∧ s ≤ 600 ∧ Muls t s wh ∧ IsRoot t s wh ∧ H p = some (.tup [.int wh, .int (rptI t s wh)]) ∧ ∀ H', Same H H' → Q (.bl true) H'
theorem scAtR : FnScope ["_law_found", "_law_top_here", "_law_shift", "_law_whole", "_law_part", "_law_high", "_law_low", "_law_middle", "_law_due"] ["_law_found", "_law_top_here", "_law_shift"] (defScope sAtR) := ⟨rfl, rfl, rfl, by decide +kernel, rfl, by decide +kernel, by decide +kernel⟩
theorem ok_atR {f f1 f2 : Addr} {fd fd1 fd2 : FuncData} (D : Def K mg "_law_at_right" ["_law_found", "_law_top_here", "_law_shift"] sAtR f fd) (D_l_sides : Def K mg "_law_sides" ["_law_top_here", "_law_shift"] sSides f1 fd1) (G_l_sides : FnOk P w K mg base (CX1 P w) 2 f1 fd1 ["_law_top_here", "_law_shift"] spSides)
    (D_l_pair : Def K mg "_law_pair" ["_law_found"] sPair f2 fd2) (G_l_pair : FnOk P w K mg base (CX1 P w) 1 f2 fd2 ["_law_found"] spPair) (O : Own mg) (T : Kit K) : FnOk P w K mg base (CX1 P w) 3 f fd ["_law_found", "_law_top_here", "_law_shift"] spAtR := by
  refine FnOk.up (D.F.ok scAtR (fun vs H Q E h => ?_) (fun cdv A outer s H vs Q E hr h => ?_))
  · obtain ⟨p, wh, t, s, rfl, _⟩ := h
    rfl
  · obtain ⟨p, wh, t, sh, rfl, s1, s2, m, ⟨w0, w1, w2⟩, hp, k⟩ := h
    have hx : Catches (cxOf CX0 P w K mg base ["_law_found", "_law_top_here", "_law_shift", "_law_whole", "_law_part", "_law_high", "_law_low", "_law_middle", "_law_due"] "_law_at_right" (defScope sAtR) f cdv A outer s H E).nox EKF := catches0
    refine ⟨_, (pss_cons (ps_if (pt_not (pt_val (pcall D_l_pair G_l_pair hr hx (pa_cons (pv 0) pa_nil)))) (pss_one (ps_ret pe_bl)) pss_nil)
      (pss_cons (ps_asg (pv 0) (pg_tup rfl (pgs_cons (pg_name (i := 3) scAtR.nd rfl (Or.inl rfl)) (pgs_cons (pg_name (i := 4) scAtR.nd rfl (Or.inl rfl)) pgs_nil))))
      (pss_cons (ps_asg (pcall D_l_sides G_l_sides hr hx (pa_cons (pv 1) (pa_cons (pv 2) pa_nil))) (pg_tup rfl (pgs_cons (pg_name (i := 5) scAtR.nd rfl (Or.inl rfl)) (pgs_cons (pg_name (i := 6) scAtR.nd rfl (Or.inl rfl)) pgs_nil))))
      (pss_cons (ps_if (PW.pt (pw_or (pt_cmpR op_lt (pv 3) pe_int (nomark _)) (pw_or1 (pt_not (pt_chain op_le op_lt (pe_op op_mulK (pe_op op_mulK (pv 3) (pv 3)) (pv 6)) (pv 5) (pe_op op_mulK (pe_op op_mulK (pe_op op_add (pv 3) pe_int) (pe_op op_add (pv 3) pe_int)) (pv 6))))))) (pss_one (ps_ret pe_bl)) pss_nil)
      (pss_cons (ps_set (i := 7) scAtR.nd rfl (Or.inl rfl) (pe_op op_mulK (pe_op op_mulK (pe_op op_add (pe_op op_mulK pe_int (pv 3)) pe_int) (pe_op op_add (pe_op op_mulK pe_int (pv 3)) pe_int)) (pv 6)))
      (pss_cons (ps_set (i := 8) scAtR.nd rfl (Or.inl rfl) (pe_op op_add (pe_op op_add pe_int (pe_callTy call_int1 (by rfl) O.int_ boot_int (pa_cons (pe_cmpR op_ge (pe_op op_mulK pe_int (pv 5)) (pv 7) (nomark _)) pa_nil))) (pe_callTy call_int1 (by rfl) O.int_ boot_int (pa_cons (pe_cmpR op_gt (pe_op op_mulK pe_int (pv 5)) (pv 7) (nomark _)) pa_nil))))
      (pss_one (ps_ret (pe_cmpR op_eq (pv 4) (pe_ix ix_list (pe_lst (pa_cons (pv 8) (pa_cons pe_int pa_nil))) (pe_callTy call_int1 (by rfl) O.int_ boot_int (pa_cons (pe_cmpR op_eq (pe_op op_mulK (pe_op op_mulK (pv 3) (pv 3)) (pv 6)) (pv 5) (nomark _)) pa_nil)) (fun _ _ => rfl)) (nomark _)))))))))), ?_⟩
    have mC' : ∀ z n : Int, -(2 ^ 64) < n → n < 2 ^ 64 → IntMulOk n z := fun z n a b => CMul.ok (.inl ⟨a, b⟩)
    have z2 : 2 ≤ sizeLine := line1000 (by decide)
    refine ⟨_, rfl, p, _, _, rfl, hp, fun H1 m1 => ⟨_, rfl, iteF ?_⟩⟩
    refine ⟨_, rfl, p, _, rfl, SqT.of (m1 _ _ hp), rfl, _, _, rfl, _, _, rfl, rfl, ?_⟩
    refine ⟨_, rfl, _, rfl, t, sh, rfl, s1, s2, m.o1, fun q H2 m2 nq hq => ?_⟩
    refine ⟨q, _, rfl, SqT.of hq, rfl, _, _, rfl, _, _, rfl, rfl, ?_⟩
    refine ⟨_, rfl, _, _, rfl, rfl, _, rfl, iteDF (by omega) ?_⟩
    refine ⟨_, rfl, _, rfl, _, _, rfl, rfl, m.o2, _, rfl, _, _, rfl, rfl, m.o3, _, rfl, _, _, rfl, rfl, _, rfl, iteDT w1 ?_⟩
    refine ⟨_, rfl, _, _, rfl, rfl, _, rfl, _, _, rfl, rfl, _, _, rfl, rfl, m.o4, _, rfl, _, _, rfl, rfl, m.o5, _, _, rfl, rfl, _, rfl, ?_⟩
    rw [decide_eq_true w2]
    refine iteF ?_
    refine ⟨_, rfl, _, _, rfl, rfl, mC' _ _ (by decide) (by decide), _, _, rfl, rfl, _, rfl, _, _, rfl, rfl, mC' _ _ (by decide) (by decide), _, _, rfl, rfl, _, _, rfl, rfl, m.o6, _, rfl, _, _, rfl, rfl, m.o7, ?_⟩
    refine ⟨_, rfl, _, _, rfl, rfl, mC' _ _ (by decide) (by decide), _, rfl, _, _, rfl, rfl, .inr ⟨_, rfl, _, _, rfl, rfl, _, rfl, _, _, rfl, rfl, mC' _ _ (by decide) (by decide), _, rfl, _, _, rfl, rfl, .inr ⟨_, rfl, _, _, rfl, rfl, ?_⟩⟩⟩
    refine ⟨_, rfl, _, rfl, z2, fun l nl => ?_⟩
    refine ⟨_, rfl, _, rfl, _, _, rfl, rfl, m.o2, _, rfl, _, _, rfl, rfl, m.o3, _, rfl, rfl, .inr ⟨_, rfl, ?_⟩⟩
    by_cases he : wh * wh * tenI (-sh) = t * tenI sh
    · have hd : decide (V.int (wh * wh * tenI (-sh)) = V.int (t * tenI sh)) = true := decide_eq_true (by rw [he])
      refine ⟨l, _, _, .int 0, rfl, rfl, SqL.of upd_same, ?_, rfl, ?_⟩
      · show atI _ (if decide (V.int (wh * wh * tenI (-sh)) = V.int (t * tenI sh)) = true then 1 else 0) = _
        rw [hd]
        rfl
      · show Q (.bl (decide (V.int (rptI t sh wh) = V.int 0))) _
        rw [decide_eq_true (by unfold rptI; rw [if_pos he])]
        exact k _ ((m1.trans m2).trans (Same.upd nl))
    · have hd : decide (V.int (wh * wh * tenI (-sh)) = V.int (t * tenI sh)) = false := decide_eq_false (by intro z; injection z with z; exact he z)
      refine ⟨l, _, _, .int (1 + (if decide ((2 * wh + 1) * (2 * wh + 1) * tenI (-sh) ≤ 4 * (t * tenI sh)) = true then 1 else 0) + (if decide ((2 * wh + 1) * (2 * wh + 1) * tenI (-sh) < 4 * (t * tenI sh)) = true then 1 else 0)), rfl, rfl, SqL.of upd_same, ?_, rfl, ?_⟩
      · show atI _ (if decide (V.int (wh * wh * tenI (-sh)) = V.int (t * tenI sh)) = true then 1 else 0) = _
        rw [hd]
        rfl
      · show Q (.bl (decide (V.int (rptI t sh wh) = V.int _))) _
        rw [decide_eq_true (by unfold rptI; rw [if_neg he])]
        exact k _ ((m1.trans m2).trans (Same.upd nl))
end
end TR
set_option Elab.async false
set_option linter.all false
set_option maxRecDepth 100000
set_option maxHeartbeats 4000000
namespace TR
open PySem L2 PySem.W PyProof.Rows
seal PE PS PSs PA PT PW PG PGs PI PO
theorem tenI_cross {s r : Int} (h : s ≤ r) : tenI r * tenI (-s) = tenI s * tenI (-r) * tenI (r - s) := by
  unfold tenI
  rw [← Int.natCast_mul, ← Int.natCast_mul, ← Int.natCast_mul, ← Nat.pow_add, ← Nat.pow_add, ← Nat.pow_add]
  congr 2
  omega
theorem tenI_le {a b : Int} (h : a ≤ b) : tenI a ≤ tenI b := by
  unfold tenI
  exact Int.ofNat_le.mpr (Nat.pow_le_pow_right (by decide) (by omega))
theorem tenI_0 {s : Int} (h : s ≤ 0) : tenI s = 1 := by unfold tenI; rw [show s.toNat = 0 by omega]; rfl
theorem leadR_le {t s r : Int} (ht : 0 < t) (h1 : LeadR t s) (h2 : LeadR t r) (hp : (r - s) % 2 = 0) : r ≤ s := by
  apply Classical.byContradiction
  intro h
  have hs : s ≤ r := by omega
  have c := tenI_cross hs
  have g : tenI 2 ≤ tenI (r - s) := tenI_le (by omega)
  have e100 : tenI 2 = 100 := by decide +kernel
  rw [e100] at g
  have p1 := tenI_pos (-s)
  have p2 := tenI_pos (-r)
  have e : t * tenI r * tenI (-s) = t * tenI s * tenI (-r) * tenI (r - s) := by
    calc t * tenI r * tenI (-s) = t * (tenI r * tenI (-s)) := by ac_rfl
      _ = t * (tenI s * tenI (-r) * tenI (r - s)) := by rw [c]
      _ = t * tenI s * tenI (-r) * tenI (r - s) := by ac_rfl
  have a1 : t * tenI r * tenI (-s) < 100 * tenI (-r) * tenI (-s) := Int.mul_lt_mul_of_pos_right h2.2 p1
  have hp : 0 < t * tenI s := Int.mul_pos ht (tenI_pos s)
  have a2 : t * tenI s * tenI (-r) * 100 ≤ t * tenI s * tenI (-r) * tenI (r - s) := Int.mul_le_mul_of_nonneg_left g (Int.le_of_lt (Int.mul_pos hp p2))
  have a3 : tenI (-s) * tenI (-r) ≤ t * tenI s * tenI (-r) := Int.mul_le_mul_of_nonneg_right h1.1 (Int.le_of_lt p2)
  have e2 : 100 * tenI (-r) * tenI (-s) = tenI (-s) * tenI (-r) * 100 := by ac_rfl
  have a4 : tenI (-s) * tenI (-r) * 100 ≤ t * tenI s * tenI (-r) * 100 := Int.mul_le_mul_of_nonneg_right a3 (by decide)
  rw [e, e2] at a1
  exact absurd (Int.lt_of_lt_of_le a1 (Int.le_trans a4 a2)) (Int.lt_irrefl _)
theorem leadR_eq {t n f g : Int} (ht : 0 < t) (h1 : LeadR t (n - 2 * f)) (h2 : LeadR t (n - 2 * g)) : f = g := by
  have a := leadR_le ht h1 h2 (by omega)
  have b := leadR_le ht h2 h1 (by omega)
  omega
/-- a number of the law -/
def Sz (t : Int) : Prop := 1 ≤ t ∧ t < 10 ^ 61
theorem leadR_bound {t s : Int} (ht : Sz t) (h : LeadR t s) : -61 ≤ s ∧ s ≤ 1 := by
  refine ⟨?_, ?_⟩
  · apply Classical.byContradiction
    intro hs
    have g : tenI 61 ≤ tenI (-s) := tenI_le (by omega)
    have e61 : tenI 61 = 10 ^ 61 := by decide +kernel
    have a := h.1
    rw [tenI_0 (by omega : s ≤ 0), Int.mul_one] at a
    rw [e61] at g
    have := ht.2
    omega
  · apply Classical.byContradiction
    intro hs
    have g : tenI 2 ≤ tenI s := tenI_le (by omega)
    have e2 : tenI 2 = 100 := by decide +kernel
    have a := h.2
    rw [tenI_0 (by omega : -s ≤ 0)] at a
    have : 1 * tenI s ≤ t * tenI s := Int.mul_le_mul_of_nonneg_right ht.1 (Int.le_of_lt (tenI_pos _))
    omega
theorem tenI_small {s : Int} (h : s ≤ 200) : (tenI s).natAbs < 2 ^ 700 := by
  unfold tenI
  rw [Int.natAbs_natCast]
  exact Nat.lt_of_le_of_lt (Nat.pow_le_pow_right (by decide) (show s.toNat ≤ 200 by omega)) (by decide +kernel)
theorem Sz.small {t : Int} (h : Sz t) : t.natAbs < 2 ^ 203 := by
  have e : (10 ^ 61 : Int).natAbs < 2 ^ 203 := by decide +kernel
  have := h.1; have := h.2
  omega
theorem p1000 {k : Nat} (h : k ≤ 1000) : (2 : Nat) ^ k ≤ 2 ^ 1000 := Nat.pow_le_pow_right (by decide) h
theorem sz_prod {t s : Int} (ht : Sz t) (h : s ≤ 200) : (t * tenI s).natAbs < 2 ^ 903 := by
  rw [Int.natAbs_mul]
  exact Nat.lt_of_lt_of_le (Nat.mul_lt_mul'' ht.small (tenI_small h)) (Nat.le_of_eq (Nat.pow_add 2 203 700).symm)
theorem root_small {t s wh : Int} (ht : Sz t) (h2 : s ≤ 200) (r : IsRoot t s wh) : wh.natAbs < 2 ^ 452 := by
  obtain ⟨w0, w1, _⟩ := r
  obtain ⟨n, rfl⟩ := Int.eq_ofNat_of_zero_le w0
  rw [Int.natAbs_natCast]
  have hh := sz_prod ht h2
  have l1 : (1 : Int) ≤ tenI (-s) := tenI_pos (-s)
  have a : (n : Int) * n * 1 ≤ (n : Int) * n * tenI (-s) := Int.mul_le_mul_of_nonneg_left l1 (Int.mul_nonneg w0 w0)
  have b : (n : Int) * n ≤ t * tenI s := by omega
  have c : n * n < 2 ^ 903 := by
    have : ((n * n : Nat) : Int) ≤ t * tenI s := b
    omega
  apply Classical.byContradiction
  intro z
  have : 2 ^ 452 * 2 ^ 452 ≤ n * n := Nat.mul_le_mul (by omega) (by omega)
  rw [← Nat.pow_add] at this
  have q : (2 : Nat) ^ 903 ≤ 2 ^ (452 + 452) := Nat.pow_le_pow_right (by decide) (by decide)
  exact absurd (Nat.lt_of_lt_of_le c (Nat.le_trans q this)) (Nat.lt_irrefl _)
theorem sq_small {a : Int} {k : Nat} (h : a.natAbs < 2 ^ k) : (a * a).natAbs < 2 ^ (k + k) := by
  rw [Int.natAbs_mul, Nat.pow_add]
  exact Nat.mul_lt_mul'' h h
theorem muls_of {t s wh : Int} (ht : Sz t) (h1 : -200 ≤ s) (h2 : s ≤ 200) (r : IsRoot t s wh) : Muls t s wh := by
  have rs := root_small ht h2 r
  have w0 := r.1
  have l : (tenI (-s)).natAbs < 2 ^ 1000 := Nat.lt_of_lt_of_le (tenI_small (by omega)) (p1000 (by decide))
  have d : (2 : Nat) ^ 454 = 4 * 2 ^ 452 := by rw [show 454 = 2 + 452 from rfl, Nat.pow_add]
  have e : ∀ {a : Int}, a.natAbs < 2 ^ 454 → a.natAbs < 2 ^ 1000 := fun h => Nat.lt_of_lt_of_le h (p1000 (by decide))
  have e2 : ∀ {a : Int}, a.natAbs < 2 ^ 454 → (a * a).natAbs < 2 ^ 1000 := fun h => Nat.lt_of_lt_of_le (sq_small h) (p1000 (by decide))
  have b1 : wh.natAbs < 2 ^ 454 := by omega
  have b2 : (wh + 1).natAbs < 2 ^ 454 := by omega
  have b3 : (2 * wh + 1).natAbs < 2 ^ 454 := by omega
  exact ⟨mulOk_small (Nat.lt_of_lt_of_le ht.small (p1000 (by decide))) (Nat.lt_of_lt_of_le (tenI_small h2) (p1000 (by decide))), mulOk_small (e b1) (e b1), mulOk_small (e2 b1) l, mulOk_small (e b2) (e b2), mulOk_small (e2 b2) l, mulOk_small (e b3) (e b3), mulOk_small (e2 b3) l⟩
theorem root_le {t s a b : Int} (ha : IsRoot t s a) (hb : IsRoot t s b) : b ≤ a := by
  apply Classical.byContradiction
  intro h
  have p := tenI_pos (-s)
  have q : (a + 1) * (a + 1) ≤ b * b := Int.mul_le_mul (by omega) (by omega) (by have := ha.1; omega) hb.1
  have q2 : (a + 1) * (a + 1) * tenI (-s) ≤ b * b * tenI (-s) := Int.mul_le_mul_of_nonneg_right q (Int.le_of_lt p)
  have := ha.2.2
  have := hb.2.1
  omega
theorem root_eq {t s a b : Int} (ha : IsRoot t s a) (hb : IsRoot t s b) : a = b := Int.le_antisymm (root_le hb ha) (root_le ha hb)
end TR
set_option Elab.async false
set_option linter.all false
set_option maxRecDepth 100000
set_option maxHeartbeats 4000000
namespace TR
open PySem L2 PySem.W PyProof.Rows
seal PE PS PSs PA PT PW PG PGs PI PO
abbrev sRInit : Stmt := (inClass (top 5) 0)
/-! ### the class Root -/
structure RooC (K : Frag) (mg : Str → Option Value) (CR CE : Addr) : Prop where
  g : mg "Root" = some (.ref CR)
  ge : mg "Exact" = some (.ref CE)
  cl : Cls K CR
  n_top : NoAttr K CR "top"
  n_power : NoAttr K CR "power"
  ca : findIn K (.ref CR) "__class__" = some (some (.builtin "object.__class__"))
  sn : specialIn K (.builtin "object.__class__") "__get__" = some (some (.builtin "getset_descriptor.__get__"))
  tk : takesIn K (.builtin "object.__class__") = some true
  ob : mroIn K CR (.type "object") = some true
  up : kitOne K (.ref CR) (.ref CE) = some true
def ratF (t n : V) : List (Str × V) := putF "power" n (putF "top" t [])
theorem rat_lk (t n : V) (x : Str) : (ratF t n).lookup x = if x = "power" then some n else if x = "top" then some t else none := by
  unfold ratF
  rw [lookup_putF, lookup_putF]
  rfl
theorem rat_top (t n : V) : (ratF t n).lookup ("top" : Str) = some t := by rw [rat_lk, if_neg (by decide +kernel), if_pos rfl]
theorem rat_power (t n : V) : (ratF t n).lookup ("power" : Str) = some n := by rw [rat_lk, if_pos rfl]
theorem rat_no_first (t n : V) : (ratF t n).lookup ("first" : Str) = none := by rw [rat_lk, if_neg (by decide +kernel), if_neg (by decide +kernel)]
theorem rat_no_at (t n : V) : (ratF t n).lookup ("at" : Str) = none := by rw [rat_lk, if_neg (by decide +kernel), if_neg (by decide +kernel)]
def RooAt (CR : Addr) (H : Hp) (x : Addr) (t n : Int) : Prop := ∃ dx, H x = some (.ins CR dx (ratF (.int t) (.int n)))
theorem RooAt.same {CR : Addr} {H H' : Hp} {x : Addr} {t n : Int} (h : RooAt CR H x t n) (s : Same H H') : RooAt CR H' x t n := by
  obtain ⟨dx, e⟩ := h
  exact ⟨dx, s _ _ e⟩
theorem RooC.ty {K : Frag} {mg : Str → Option Value} {CR CE : Addr} (R : RooC K mg CR CE) {H : Hp} {x : Addr} {t n : Int} (h : RooAt CR H x t n) : TyE K H (.ref x) (.ref CR) := by
  obtain ⟨dx, e⟩ := h
  exact .of (.ins e R.cl R.ca R.sn R.tk R.ob)
section
variable {P : Program} {w : World} {K : Frag} {mg : Str → Option Value} {base : Heap}
def spRInit (CR : Addr) : Sp := fun vs H Q _ => ∃ (p dx : Addr) (t n : V), vs = [.ref p, t, n] ∧ H p = some (.ins CR dx []) ∧ ∀ H', H' p = some (.ins CR dx (ratF t n)) → Exc p H H' → Q .non H'
theorem scRInit : FnScope ["self", "top", "power"] ["self", "top", "power"] (defScope sRInit) := ⟨rfl, rfl, rfl, by decide +kernel, rfl, by decide +kernel, by decide +kernel⟩
theorem ok_rInit {f CR CE : Addr} {fd : FuncData} {dV : Value} (F : FunD K "__init__" "Root.__init__" sRInit dV f fd) (R : RooC K mg CR CE) : FnOk P w K mg base (CX1 P w) 1 f fd ["self", "top", "power"] (spRInit CR) := by
  refine F.okE scRInit (fun vs H Q E h => ?_) (fun X cdv A outer s H vs Q E hX hr hx h => ?_)
  · obtain ⟨p, dx, a, c, rfl, _⟩ := h
    rfl
  · subst hX
    obtain ⟨p, dx, a, c, rfl, hp, k⟩ := h
    refine ⟨_, (pss_cons (ps_fld (pv 0) (pv 1) rfl)
      (pss_one (ps_fld (pv 0) (pv 2) rfl))), ?_⟩
    have l : ∀ (fs : List (Str × V)) (f : Str) (v : V) (n : Nat), fs.length ≤ n → (putF f v fs).length ≤ n + 1 := fun fs f v n h => Nat.le_trans (length_putF f v fs) (Nat.succ_le_succ h)
    refine ⟨_, rfl, _, rfl, p, CR, dx, [], rfl, hp, R.cl, R.n_top, (by show 0 < 1000; decide), ?_⟩
    refine ⟨_, rfl, _, rfl, p, CR, dx, _, rfl, upd_same, R.cl, R.n_power, Nat.lt_of_le_of_lt (l _ _ _ 0 (Nat.le_refl _)) (by decide), ?_⟩
    refine k _ upd_same fun b o e hb => ?_
    rw [upd_ne hb, upd_ne hb]
    exact e
def spRFirst (CR : Addr) : Sp := fun vs H Q _ => ∃ x t n, vs = [.ref x] ∧ RooAt CR H x t n ∧ Sz t ∧ -900 ≤ n ∧ n ≤ 900 ∧ ∀ f H', Same H H' → LeadR t (n - 2 * f) → Q (.int f) H'
def spRAt (CR : Addr) : Sp := fun vs H Q _ => ∃ x t n p, vs = [.ref x, .int p] ∧ RooAt CR H x t n ∧ Sz t ∧ -200 ≤ n - 2 * p ∧ n - 2 * p ≤ 200 ∧
  ∀ wh q H', Same H H' → H q = none → IsRoot t (n - 2 * p) wh → H' q = some (.tup [.int wh, .int (rptI t (n - 2 * p) wh)]) → Q (.ref q) H'
/-- how a Root is made: by two, by one, by one and a keyword -/
structure MakeQ (P : Program) (w : World) (K : Frag) (mg : Str → Option Value) (base : Heap) (CR fI : Addr) (fdI : FuncData) (d0 : Value) (gP : List Value → List Value → List Value) (vP : List V → List V → List V) : Prop where
  m : Mk K CR fI
  g : FnOk P w K mg base (CX1 P w) 1 fI fdI ["self", "top", "power"] (spRInit CR)
  b3 : Binds K fdI ["self", "top", "power"] []
  b2 : Binds K fdI ["self", "top", "power"] [d0]
  r0 : RelV (.int 0) d0
  kP : KBinds K fdI ["self", "top", "power"] ["power"] gP vP
  eP : ∀ x a c, vP [x, a] [c] = [x, a, c]
/-- a Root's methods -/
structure RooM (P : Program) (w : World) (K : Frag) (mg : Str → Option Value) (base : Heap) (CR f1 f2 : Addr) (fd1 fd2 : FuncData) : Prop where
  m1 : Meth K CR "first" f1
  g1 : FnOk P w K mg base (CX1 P w) 4 f1 fd1 ["self"] (spRFirst CR)
  b1 : Binds K fd1 ["self"] []
  m2 : Meth K CR "at" f2
  g2 : FnOk P w K mg base (CX1 P w) 5 f2 fd2 ["self", "power"] (spRAt CR)
  b2 : Binds K fd2 ["self", "power"] []
/-- behind Root(..) -/
theorem madeR {CR x dx : Addr} {H : Hp} {Q : VK} {E : XK} {t n : Int} (n1 : H x = none) (n2 : H dx = none) (ne : dx ≠ x) (k : ∀ H', Same H H' → RooAt CR H' x t n → Q .non H') :
    spRInit CR [.ref x, .int t, .int n] (upd (upd H dx (.own x)) x (.ins CR dx [])) Q E :=
  ⟨x, dx, _, _, rfl, upd_same, fun H' e s => k H' (fun c o z => s c o (by rw [upd_ne (ne_of_none z n1), upd_ne (ne_of_none z n2)]; exact z) (ne_of_none z n1)) ⟨dx, e⟩⟩
end
end TR
set_option Elab.async false
set_option linter.all false
set_option maxRecDepth 100000
set_option maxHeartbeats 4000000
namespace TR
open PySem L2 PySem.W PyProof.Rows
seal PE PS PSs PA PT PW PG PGs PI PO
abbrev sLaw : Stmt := (top 18)
section
variable {P : Program} {w : World} {K : Frag} {mg : Str → Option Value} {base : Heap}
def spLaw (K : Frag) : Sp := fun vs H Q _ => ∃ a ns, vs = [.ref a] ∧ SqL K H a ((ns : List Int).map V.int) ∧ ∀ H', Q (.bl true) H'
abbrev lawN : List Str := ["_law_script", "_law_number", "_law_side", "_law_more", "_law_top_here", "_law_far", "_law_ten_here", "_law_exact", "_law_first", "_law_asked", "_law_k", "_law_place", "_law_found", "_law_keyed", "_law_lone"]
theorem scLaw : FnScope lawN ["_law_script"] (defScope sLaw) := ⟨rfl, rfl, rfl, by decide +kernel, rfl, by decide +kernel, by decide +kernel⟩
/-- what was asked: a place and its answer -/
def Ent (t n : Int) (H : Hp) (e : Addr) : Prop := ∃ p q wh, H e = some (.tup [.int p, .ref q]) ∧ -200 ≤ n - 2 * p ∧ n - 2 * p ≤ 200 ∧ IsRoot t (n - 2 * p) wh ∧ H q = some (.tup [.int wh, .int (rptI t (n - 2 * p) wh)])
theorem Ent.same {t n : Int} {H H' : Hp} {e : Addr} (h : Ent t n H e) (s : Same H H') : Ent t n H' e := by
  obtain ⟨p, q, wh, h1, h2, h3, h4, h5⟩ := h
  exact ⟨p, q, wh, s _ _ h1, h2, h3, h4, s _ _ h5⟩
theorem Ent.upd {t n : Int} {H : Hp} {e l : Addr} {xs ys : List V} (h : Ent t n H e) (hl : H l = some (.lst xs)) : Ent t n (upd H l (.lst ys)) e := by
  obtain ⟨p, q, wh, h1, h2, h3, h4, h5⟩ := h
  exact ⟨p, q, wh, by rw [upd_ne (ne_of h1 hl (by intro z; cases z))]; exact h1, h2, h3, h4, by rw [upd_ne (ne_of h5 hl (by intro z; cases z))]; exact h5⟩
theorem RooAt.upd {CR : Addr} {H : Hp} {x l : Addr} {t n : Int} {xs ys : List V} (h : RooAt CR H x t n) (hl : H l = some (.lst xs)) : RooAt CR (upd H l (.lst ys)) x t n := by
  obtain ⟨dx, e⟩ := h
  exact ⟨dx, by rw [upd_ne (ne_of e hl (by intro z; cases z))]; exact e⟩
def datP (a b : Int) : PyData := .tuple [.int a, .int b]
theorem shP (a b : Int) : SeqAt.shaped (datP a b) = true := by
  unfold SeqAt.shaped datP
  simp [PyData.canLay0, PyData.canLayAll0, PyData.depth, PyData.depthAll]
theorem eqP (a b : Int) : PyData.eqv (datP a b) (datP a b) = true := by simp [datP, PyData.eqv, PyData.eqvAll]
theorem neP (a b : Int) : (!PyData.eqv (datP a b) (datP a b)) = false := by rw [eqP]; rfl
theorem rdP {H : Hp} {d : Addr} {a b : Int} (h : H d = some (.tup [.int a, .int b])) : RdD K H (.ref d) (datP a b) := .tup (SqT.of h) (.cons (.int _) (.cons (.int _) .nil))
theorem shE : SeqAt.shaped (.list []) = true := by decide +kernel
theorem eqE : PyData.eqv (.list []) (.list []) = true := by decide +kernel
theorem ok_law {f f1 f2 f3 f4 f5 fI g1 g2 CR CE : Addr} {fd fd1 fd2 fd3 fd4 fd5 fdI gd1 gd2 : FuncData} {d0 : Value} {gP : List Value → List Value → List Value} {vP : List V → List V → List V} (D : Def K mg "law" ["_law_script"] sLaw f fd)
    (D_l_mixed : Def K mg "_law_mixed" ["_law_cell", "_law_k"] sMixed f1 fd1) (G_l_mixed : FnOk P w K mg base (CX1 P w) 1 f1 fd1 ["_law_cell", "_law_k"] spMixed) (D_l_cell_at : Def K mg "_law_cell_at" ["_law_script", "_law_k"] sCell f2 fd2) (G_l_cell_at : FnOk P w K mg base (CX1 P w) 1 f2 fd2 ["_law_script", "_law_k"] (spCell K))
    (D_l_top : Def K mg "_law_top" ["_law_cell"] sTop f3 fd3) (G_l_top : FnOk P w K mg base (CX1 P w) 2 f3 fd3 ["_law_cell"] spTop) (D_l_first_right : Def K mg "_law_first_right" ["_law_found", "_law_top_here", "_law_ten_here"] sFirst f4 fd4) (G_l_first_right : FnOk P w K mg base (CX1 P w) 3 f4 fd4 ["_law_found", "_law_top_here", "_law_ten_here"] spFirst)
    (D_l_at_right : Def K mg "_law_at_right" ["_law_found", "_law_top_here", "_law_shift"] sAtR f5 fd5) (G_l_at_right : FnOk P w K mg base (CX1 P w) 3 f5 fd5 ["_law_found", "_law_top_here", "_law_shift"] spAtR)
    (M : MakeQ P w K mg base CR fI fdI d0 gP vP) (X : RooM P w K mg base CR g1 g2 gd1 gd2) (R : RooC K mg CR CE) (O : Own mg) (T : Kit K) : FnOk P w K mg base (CX1 P w) 6 f fd ["_law_script"] (spLaw K) := by
  refine FnOk.up (D.F.ok scLaw (fun vs H Q E h => ?_) (fun cdv A outer s H vs Q E hr h => ?_))
  · obtain ⟨a, ns, rfl, _⟩ := h
    rfl
  · obtain ⟨sc, ns, rfl, hS, k⟩ := h
    have hx : Catches (cxOf CX0 P w K mg base lawN "law" (defScope sLaw) f cdv A outer s H E).nox EKF := catches0
    have V2 : Vals [.int 0] [d0] := .cons M.r0 .nil
    refine ⟨_, (pss_cons (ps_join (ps_set (i := 1) scLaw.nd rfl (Or.inl rfl) (pcall D_l_mixed G_l_mixed hr hx (pa_cons (pcall D_l_cell_at G_l_cell_at hr hx (pa_cons (pv 0) (pa_cons pe_int pa_nil))) (pa_cons pe_int pa_nil)))))
      (pss_cons (ps_join (ps_set (i := 2) scLaw.nd rfl (Or.inl rfl) (pcall D_l_top G_l_top hr hx (pa_cons (pcall D_l_mixed G_l_mixed hr hx (pa_cons (pcall D_l_cell_at G_l_cell_at hr hx (pa_cons (pv 0) (pa_cons pe_int pa_nil))) (pa_cons pe_int pa_nil))) pa_nil))))
      (pss_cons (ps_join (ps_set (i := 3) scLaw.nd rfl (Or.inl rfl) (pe_op op_add (pe_op op_mulK pe_int (pe_op op_mod (pe_op op_fdivK (pv 1) pe_int) pe_int)) pe_int)))
      (pss_cons (ps_join (ps_set (i := 4) scLaw.nd rfl (Or.inl rfl) (pe_ix ix_list (pe_lst (pa_cons (pv 2) (pa_cons (pe_op op_mulK (pv 2) (pv 2)) (pa_cons (pe_op op_add (pe_op op_mulK (pv 2) (pv 2)) pe_int) (pa_cons (pe_callB (call_max2 rfl) (by rfl) O.max_ boot_max (pa_cons pe_int (pa_cons (pe_op op_sub (pe_op op_mulK (pv 2) (pv 2)) pe_int) pa_nil))) (pa_cons (pe_op op_mulK (pv 3) (pv 3)) (pa_cons (pe_op op_mulK (pv 2) pe_int) pa_nil))))))) (pe_op op_mod (pv 1) pe_int) (fun _ _ => rfl))))
      (pss_cons (ps_join (ps_set (i := 5) scLaw.nd rfl (Or.inl rfl) (pe_op op_fdivK (pv 1) pe_int)))
      (pss_cons (ps_join (ps_set (i := 6) scLaw.nd rfl (Or.inl rfl) (pe_ix ix_list (pe_lst (pa_cons pe_int (pa_cons (pe_un un_neg pe_int) (pa_cons (pe_op op_sub (pe_op op_mod (pv 5) pe_int) pe_int) (pa_cons (pe_op op_sub (pe_op op_mod (pv 5) pe_int) pe_int) (pa_cons (pe_op op_sub (pe_op op_mod (pv 5) pe_int) pe_int) pa_nil)))))) (pe_op op_mod (pe_op op_fdivK (pv 1) pe_int) pe_int) (fun _ _ => rfl))))
      (pss_cons (ps_join (ps_set (i := 7) scLaw.nd rfl (Or.inr rfl) (pmake M.m M.g hr R.g M.b3 .nil hx (pa_cons (pv 4) (pa_cons (pv 6) pa_nil)))))
      (pss_cons (ps_join (ps_if (PW.pt (pw_or (pt_not (pt_val (pisi O.isi (pv 7) (pcls R.ge)))) (pw_or1 (pt_not (pt_val (pcall D_l_first_right G_l_first_right hr hx (pa_cons (pmeth0 (pv 7) R.cl X.m1 X.g1 hr X.b1 .nil hx) (pa_cons (pv 4) (pa_cons (pv 6) pa_nil))))))))) (pss_one (ps_ret pe_bl)) pss_nil))
      (pss_cons (ps_join (ps_set (i := 8) scLaw.nd rfl (Or.inl rfl) (pmeth0 (pv 7) R.cl X.m1 X.g1 hr X.b1 .nil hx)))
      (pss_cons (ps_join (ps_set (i := 9) scLaw.nd rfl (Or.inl rfl) (pe_lst pa_nil)))
      (pss_cons (ps_join (ps_for PassesOwn.never rfl (pi_range1 rfl O.range_ (pa_cons pe_int pa_nil)) (pg_name (i := 10) scLaw.nd rfl (Or.inl rfl)) (pss_cons (ps_set (i := 3) scLaw.nd rfl (Or.inl rfl) (pcall D_l_mixed G_l_mixed hr hx (pa_cons (pcall D_l_cell_at G_l_cell_at hr hx (pa_cons (pv 0) (pa_cons (pe_op op_add pe_int (pv 10)) pa_nil))) (pa_cons (pe_op op_add pe_int (pv 10)) pa_nil))))
      (pss_cons (ps_set (i := 11) scLaw.nd rfl (Or.inl rfl) (pe_op op_sub (pv 8) (pe_ix ix_list (pe_lst (pa_cons pe_int (pa_cons (pe_op op_mod (pe_op op_fdivK (pv 3) pe_int) pe_int) (pa_cons (pe_op op_mod (pe_op op_fdivK (pv 3) pe_int) pe_int) (pa_cons (pe_op op_sub pe_int (pe_op op_mod (pe_op op_fdivK (pv 3) pe_int) pe_int)) (pa_cons (pe_op op_mod (pe_op op_fdivK (pv 3) pe_int) pe_int) (pa_cons pe_int pa_nil))))))) (pe_op op_mod (pv 3) pe_int) (fun _ _ => rfl))))
      (pss_cons (ps_join (ps_if (pt_cmpR op_eq (pe_op op_mod (pv 3) pe_int) pe_int (nomark _)) (pss_one (ps_set (i := 11) scLaw.nd rfl (Or.inl rfl) (pe_op op_add (pe_op op_fdivK (pv 6) pe_int) (pe_op op_mod (pe_op op_fdivK (pv 3) pe_int) pe_int)))) pss_nil))
      (pss_cons (ps_set (i := 12) scLaw.nd rfl (Or.inl rfl) (pmeth (pv 7) R.cl X.m2 X.g2 hr X.b2 .nil hx (pa_cons (pv 11) pa_nil)))
      (pss_cons (ps_if (pt_not (pt_val (pcall D_l_at_right G_l_at_right hr hx (pa_cons (pv 12) (pa_cons (pv 4) (pa_cons (pe_op op_sub (pv 6) (pe_op op_mulK pe_int (pv 11))) pa_nil)))))) (pss_one (ps_ret pe_bl)) pss_nil)
      (pss_one (ps_expr (pe_bm PySem.F.plainAttrs_list PySem.F.slot_list_append PySem.F.type_list_append mt_append (pv 9) (pa_cons (pe_tup (pa_cons (pv 11) (pa_cons (pv 12) pa_nil))) pa_nil)))))))))))
      (pss_cons (ps_join (ps_set (i := 13) scLaw.nd rfl (Or.inl rfl) (pmakeK M.m M.g hr R.g M.kP hx (pa_cons (pv 4) pa_nil) (pk_cons (pv 6) pk_nil))))
      (pss_cons (ps_join (ps_if (PW.pt (pw_or (pt_cmpR op_ne (pmeth0 (pv 13) R.cl X.m1 X.g1 hr X.b1 .nil hx) (pv 8) (nomark _)) (pw_or1 (pt_cmpR (op_neD hr.units) (pmeth (pv 13) R.cl X.m2 X.g2 hr X.b2 .nil hx (pa_cons (pv 8) pa_nil)) (pmeth (pv 7) R.cl X.m2 X.g2 hr X.b2 .nil hx (pa_cons (pv 8) pa_nil)) (nomark _))))) (pss_one (ps_ret pe_bl)) pss_nil))
      (pss_cons (ps_join (ps_set (i := 14) scLaw.nd rfl (Or.inl rfl) (pmake M.m M.g hr R.g M.b2 V2 hx (pa_cons (pv 4) pa_nil))))
      (pss_cons (ps_join (ps_if (PW.pt (pw_or (pt_not (pt_val (pcall D_l_first_right G_l_first_right hr hx (pa_cons (pmeth0 (pv 14) R.cl X.m1 X.g1 hr X.b1 .nil hx) (pa_cons (pv 4) (pa_cons pe_int pa_nil)))))) (pw_or1 (pt_not (pt_val (pcall D_l_at_right G_l_at_right hr hx (pa_cons (pmeth (pv 14) R.cl X.m2 X.g2 hr X.b2 .nil hx (pa_cons pe_int pa_nil)) (pa_cons (pv 4) (pa_cons pe_int pa_nil))))))))) (pss_one (ps_ret pe_bl)) pss_nil))
      (pss_one (ps_ret (pe_and (pe_cmpR op_eq (pmeth0 (pv 7) R.cl X.m1 X.g1 hr X.b1 .nil hx) (pv 8) (nomark _)) (pe_one (pe_cmpR (op_eqD hr.units) (pe_compF (N := ["_law_one"]) (F := ["_law_exact"]) (js := [7]) (CompScopeF.of1 ⟨rfl, by decide +kernel, by decide +kernel, by decide +kernel, by decide +kernel⟩ (by rfl) (by rfl) ⟨_, by rfl⟩ (by rfl) (by rfl)) (.inl hr.hd) (pih_list (pv 9)) rfl (fun C s₀ H₀ ex pn h => pg_name (i := 0) (by decide +kernel : (["_law_one", "_law_exact"] : List Str).Nodup) rfl (Or.inl rfl)) (fun C s₀ H₀ ex pn h => (pt_cmpR (op_neDK (K := K) rfl hr.units) (pmethN (pv 1) R.cl X.m2 X.g2 hr X.b2 .nil (pa_cons (pe_ix (ix_tupK (K := K) rfl) (pv 0) pe_int (fun _ _ => rfl)) pa_nil)) (pe_ix (ix_tupK (K := K) rfl) (pv 0) pe_int (fun _ _ => rfl)) (nomark _))) (fun C s₀ H₀ ex pn h => (pv 0))) (pe_lst pa_nil) (nomark _))))))))))))))))))))), ?_⟩
    have z0 : 0 ≤ sizeLine := Nat.zero_le _
    have z2 : 2 ≤ sizeLine := line1000 (by decide)
    have z5 : 5 ≤ sizeLine := line1000 (by decide)
    have z6 : 6 ≤ sizeLine := line1000 (by decide)
    have d2 := dvT (n := 2) (by decide) (by decide +kernel)
    have d6 := dvT (n := 6) (by decide) (by decide +kernel)
    have d9 := dvT (n := 9) (by decide) (by decide +kernel)
    have d18 := dvT (n := 18) (by decide) (by decide +kernel)
    have p3 : (0 : Int) < 3 := by decide
    have p4 : (0 : Int) < 4 := by decide
    have p5 : (0 : Int) < 5 := by decide
    have p6 : (0 : Int) < 6 := by decide
    have p26 : (0 : Int) < 26 := by decide
    have p41 : (0 : Int) < 41 := by decide
    have p50 : (0 : Int) < 50 := by decide
    have p401 : (0 : Int) < 401 := by decide
    have p1801 : (0 : Int) < 1801 := by decide
    have p100 : (0 : Int) < 100000 := by decide
    have mC : ∀ z n : Int, -(2 ^ 64) < n → n < 2 ^ 64 → IntMulOk z n := fun z n a b => CMul.ok (.inr ⟨a, b⟩)
    have mC' : ∀ z n : Int, -(2 ^ 64) < n → n < 2 ^ 64 → IntMulOk n z := fun z n a b => CMul.ok (.inl ⟨a, b⟩)
    -- the number
    refine ⟨fun σ H' => Same H H' ∧ ∃ nb, σ = [some (.ref sc), some (.int nb), none, none, none, none, none, none, none, none, none, none, none, none, none], ?_, ?_⟩
    · exact ⟨_, rfl, sc, ns, 0, rfl, hS, by decide, fun i0 => ⟨i0, 1, rfl, by decide, by decide, fun m m0 _ => ⟨Same.refl H, m, rfl⟩⟩⟩
    rintro σ H1 ⟨s1, nb, rfl⟩
    -- the side
    refine ⟨fun σ H' => Same H H' ∧ ∃ sd : Nat, 1 ≤ sd ∧ sd < 10 ^ 30 ∧ σ = [some (.ref sc), some (.int nb), some (.int (sd : Int)), none, none, none, none, none, none, none, none, none, none, none, none], ?_, ?_⟩
    · exact ⟨_, rfl, sc, ns, 1, rfl, s1.seq hS, by decide, fun i0 => ⟨i0, 2, rfl, by decide, by decide, fun m m0 _ => ⟨m, rfl, fun t H2 t1 t2 s2 => ⟨s1.trans s2, t, t1, t2, rfl⟩⟩⟩⟩
    rintro σ H2 ⟨s2, sd, sd1, sd2, rfl⟩
    clear s1 H1
    -- more
    refine ⟨fun σ H' => Same H H' ∧ ∃ mo : Nat, 5 ≤ mo ∧ mo ≤ 1000005 ∧ σ = [some (.ref sc), some (.int nb), some (.int (sd : Int)), some (.int (mo : Int)), none, none, none, none, none, none, none, none, none, none, none], ?_, ?_⟩
    · refine ⟨_, rfl, _, _, rfl, rfl, d9, _, _, rfl, rfl, p100, _, _, rfl, rfl, mC' _ _ (by decide) (by decide), _, _, rfl, rfl, s2, (10 * (nb / 9 % 100000) + 5).toNat, by omega, by omega, ?_⟩
      show [some (V.ref sc), some (V.int nb), some (V.int (sd : Int)), some (V.int (10 * (nb / 9 % 100000) + 5)), none, none, none, none, none, none, none, none, none, none, none] = _
      rw [Int.toNat_of_nonneg (by omega)]
    rintro σ H3 ⟨s3, mo, mo1, mo2, rfl⟩
    clear s2 H2
    -- the top
    refine ⟨fun σ H' => Same H H' ∧ ∃ t, Sz t ∧ σ = [some (.ref sc), some (.int nb), some (.int (sd : Int)), some (.int (mo : Int)), some (.int t), none, none, none, none, none, none, none, none, none, none], ?_, ?_⟩
    · obtain ⟨t, hb, ix⟩ := ixs (xs := [(sd : Int), sd * sd, sd * sd + 1, if (sd : Int) * sd - 1 > 1 then (sd : Int) * sd - 1 else 1, mo * mo, sd * 10]) (i := nb % 6) (Int.emod_nonneg _ (by decide)) (by show nb % 6 < 6; exact Int.emod_lt_of_pos _ (by decide))
      have b30 : (sd : Int).natAbs < 2 ^ 1000 := by rw [Int.natAbs_natCast]; exact Nat.lt_trans sd2 (by decide +kernel)
      have mS : IntMulOk (sd : Int) sd := mulOk_small b30 b30
      refine ⟨_, rfl, _, rfl, _, rfl, _, _, rfl, rfl, mS, _, rfl, _, rfl, _, _, rfl, rfl, mS, _, _, rfl, rfl, _, rfl, _, rfl, _, _, rfl, rfl, mS, _, _, rfl, rfl, _, _, rfl, _, rfl, _, rfl, _, _, rfl, rfl, mC _ _ (by omega) (by omega), _, rfl, _, _, rfl, rfl, mC _ _ (by decide) (by decide), z6, fun l nl => ?_⟩
      refine ⟨_, rfl, _, _, rfl, rfl, p6, l, _, _, _, rfl, rfl, SqL.of upd_same, ix, s3.trans (Same.upd nl), t, ?_, rfl⟩
      have q1 : (1 : Int) ≤ (sd : Int) * sd := by
        have : 1 * 1 ≤ sd * sd := Nat.mul_le_mul sd1 sd1
        exact Int.ofNat_le.mpr this
      have q2 : (sd : Int) * sd < 10 ^ 60 := by
        have : sd * sd < 10 ^ 30 * 10 ^ 30 := Nat.mul_lt_mul'' sd2 sd2
        have e : ((10 ^ 30 * 10 ^ 30 : Nat) : Int) = 10 ^ 60 := by decide +kernel
        have := Int.ofNat_lt.mpr this
        rw [e] at this
        exact this
      have q3 : (5 * 5 : Int) ≤ (mo : Int) * mo := by
        have : 5 * 5 ≤ mo * mo := Nat.mul_le_mul mo1 mo1
        exact Int.ofNat_le.mpr this
      have q4 : (mo : Int) * mo ≤ 1000005 * 1000005 := by
        have : mo * mo ≤ 1000005 * 1000005 := Nat.mul_le_mul mo2 mo2
        exact Int.ofNat_le.mpr this
      have q5 : (sd : Int) < 10 ^ 30 := by
        have := Int.ofNat_lt.mpr sd2
        exact this
      have e61 : (10 ^ 61 : Int) = 10 * 10 ^ 60 := by decide +kernel
      have e31 : (10 ^ 30 * 10 : Int) < 10 ^ 60 := by decide +kernel
      simp only [List.mem_cons, List.not_mem_nil, or_false] at hb
      generalize (sd : Int) * sd = ss at hb q1 q2
      generalize (mo : Int) * mo = mm at hb q3 q4
      unfold Sz
      rcases hb with rfl | rfl | rfl | rfl | rfl | rfl
      · omega
      · omega
      · omega
      · split <;> omega
      · omega
      · omega
    rintro σ H4 ⟨s4, t, ht, rfl⟩
    clear s3 H3
    -- far
    refine ⟨fun σ H' => Same H H' ∧ ∃ fa, σ = [some (.ref sc), some (.int nb), some (.int (sd : Int)), some (.int (mo : Int)), some (.int t), some (.int fa), none, none, none, none, none, none, none, none, none], ?_, ?_⟩
    · exact ⟨_, rfl, _, _, rfl, rfl, d18, s4, _, rfl⟩
    rintro σ H5 ⟨s5, fa, rfl⟩
    clear s4 H4
    -- the power of ten
    refine ⟨fun σ H' => Same H H' ∧ ∃ n, -900 ≤ n ∧ n ≤ 900 ∧ σ = [some (.ref sc), some (.int nb), some (.int (sd : Int)), some (.int (mo : Int)), some (.int t), some (.int fa), some (.int n), none, none, none, none, none, none, none, none], ?_, ?_⟩
    · obtain ⟨n, hn, ix⟩ := ixs (xs := [0, -2, fa % 41 - 20, fa % 401 - 200, fa % 1801 - 900]) (i := nb / 6 % 5) (Int.emod_nonneg _ (by decide)) (by show nb / 6 % 5 < 5; exact Int.emod_lt_of_pos _ (by decide))
      refine ⟨_, rfl, _, rfl, _, _, rfl, rfl, p41, _, _, rfl, rfl, _, rfl, _, _, rfl, rfl, p401, _, _, rfl, rfl, _, rfl, _, _, rfl, rfl, p1801, _, _, rfl, rfl, z5, fun l nl => ?_⟩
      refine ⟨_, rfl, _, _, rfl, rfl, d6, _, _, rfl, rfl, p5, l, _, _, _, rfl, rfl, SqL.of upd_same, ix, s5.trans (Same.upd nl), n, ?_, ?_, rfl⟩
      · simp only [List.mem_cons, List.not_mem_nil, or_false] at hn
        rcases hn with rfl | rfl | rfl | rfl | rfl <;> omega
      · simp only [List.mem_cons, List.not_mem_nil, or_false] at hn
        rcases hn with rfl | rfl | rfl | rfl | rfl <;> omega
    rintro σ H6 ⟨s6, n, n1, n2, rfl⟩
    clear s5 H5
    have t0 : 0 < t := by have := ht.1; omega
    -- the exact value
    refine ⟨fun σ H' => Same H H' ∧ ∃ x, RooAt CR H' x t n ∧ σ = [some (.ref sc), some (.int nb), some (.int (sd : Int)), some (.int (mo : Int)), some (.int t), some (.int fa), some (.int n), some (.ref x), none, none, none, none, none, none, none], ?_, ?_⟩
    · exact ⟨_, rfl, _, rfl, fun x dx m1 m2 me => madeR m1 m2 me fun H' s' ra => ⟨rfl, s6.trans s', x, ra, rfl⟩⟩
    rintro σ H7 ⟨s7, x, ra, rfl⟩
    clear s6 H6
    refine ⟨fun σ H' => Same H H' ∧ RooAt CR H' x t n ∧ σ = [some (.ref sc), some (.int nb), some (.int (sd : Int)), some (.int (mo : Int)), some (.int t), some (.int fa), some (.int n), some (.ref x), none, none, none, none, none, none, none], ?_, ?_⟩
    · refine ⟨_, rfl, _, _, _, _, true, rfl, rfl, R.ty ra, R.up, _, rfl, iteF ?_⟩
      obtain ⟨dx, e⟩ := id ra
      refine ⟨_, rfl, x, dx, _, rfl, e, rat_no_first _ _, x, t, n, rfl, ra, ht, n1, n2, fun f' H' s' ld => ?_⟩
      have bd := leadR_bound ht ld
      exact ⟨_, rfl, _, rfl, f', t, n, rfl, by omega, by omega, mulOk_small (Nat.lt_of_lt_of_le ht.small (p1000 (by decide))) (Nat.lt_of_lt_of_le (tenI_small (by omega)) (p1000 (by decide))), ld, fun H'' s'' => ⟨_, rfl, iteF ⟨s7.trans (s'.trans s''), ra.same (s'.trans s''), rfl⟩⟩⟩
    rintro σ H8 ⟨s8, ra8, rfl⟩
    clear s7 ra H7
    -- its first
    refine ⟨fun σ H' => Same H H' ∧ RooAt CR H' x t n ∧ ∃ f, LeadR t (n - 2 * f) ∧ σ = [some (.ref sc), some (.int nb), some (.int (sd : Int)), some (.int (mo : Int)), some (.int t), some (.int fa), some (.int n), some (.ref x), some (.int f), none, none, none, none, none, none], ?_, ?_⟩
    · obtain ⟨dx, e⟩ := id ra8
      exact ⟨_, rfl, x, dx, _, rfl, e, rat_no_first _ _, x, t, n, rfl, ra8, ht, n1, n2, fun f' H' s' ld => ⟨s8.trans s', ra8.same s', f', ld, rfl⟩⟩
    rintro σ H9 ⟨s9, ra9, fi, ld, rfl⟩
    clear s8 ra8 H8
    have bd := leadR_bound ht ld
    -- what is asked
    refine ⟨fun σ H' => Same H H' ∧ RooAt CR H' x t n ∧ ∃ l, H l = none ∧ H' l = some (.lst []) ∧ σ = [some (.ref sc), some (.int nb), some (.int (sd : Int)), some (.int (mo : Int)), some (.int t), some (.int fa), some (.int n), some (.ref x), some (.int fi), some (.ref l), none, none, none, none, none], ?_, ?_⟩
    · exact ⟨z0, fun l nl => ⟨s9.trans (Same.upd nl), ra9.same (Same.upd nl), l, s9.free nl, upd_same, rfl⟩⟩
    rintro σ HX ⟨sX, raX, l, nl, hlX, rfl⟩
    clear s9 ra9 H9
    refine ⟨fun σ H' => Same H H' ∧ RooAt CR H' x t n ∧ (∃ es : List Addr, H' l = some (.lst (es.map V.ref)) ∧ ∀ e ∈ es, Ent t n H' e) ∧ ∃ v3 v10 v11 v12, σ = [some (.ref sc), some (.int nb), some (.int (sd : Int)), v3, some (.int t), some (.int fa), some (.int n), some (.ref x), some (.int fi), some (.ref l), v10, v11, v12, none, none], ?_, ?_⟩
    · refine ⟨6, rfl, by decide, by decide, for_range (n := 6) (fun i σ H' => Same H H' ∧ RooAt CR H' x t n ∧ (∃ es : List Addr, H' l = some (.lst (es.map V.ref)) ∧ es.length ≤ i ∧ ∀ e ∈ es, Ent t n H' e) ∧ ∃ v3 v10 v11 v12, σ = [some (.ref sc), some (.int nb), some (.int (sd : Int)), v3, some (.int t), some (.int fa), some (.int n), some (.ref x), some (.int fi), some (.ref l), v10, v11, v12, none, none])
        ⟨sX, raX, ⟨[], hlX, Nat.le_refl _, fun _ h => nomatch h⟩, some (.int (mo : Int)), none, none, none, rfl⟩ ?_ ?_⟩
      · rintro i σ H' hi ⟨sm, ra, ⟨es, hl, le, he⟩, v3, v10, v11, v12, rfl⟩
        refine ⟨_, rfl, _, rfl, _, _, rfl, rfl, sc, ns, _, rfl, sm.seq hS, by omega, fun i0 => ?_⟩
        refine ⟨_, rfl, _, _, rfl, rfl, i0, _, rfl, by omega, by omega, fun mr mr0 _ => ?_⟩
        obtain ⟨dl, hdl, ix⟩ := ixs (xs := [0, mr / 6 % 4, mr / 6 % 26, 0 - mr / 6 % 3, mr / 6 % 50, 0]) (i := mr % 6) (Int.emod_nonneg _ (by decide)) (by show mr % 6 < 6; exact Int.emod_lt_of_pos _ (by decide))
        have bl : -2 ≤ dl ∧ dl ≤ 49 := by
          simp only [List.mem_cons, List.not_mem_nil, or_false] at hdl
          rcases hdl with rfl | rfl | rfl | rfl | rfl | rfl <;> omega
        refine ⟨_, rfl, _, rfl, _, _, rfl, rfl, d6, _, _, rfl, rfl, p4, _, rfl, _, _, rfl, rfl, d6, _, _, rfl, rfl, p26, _, rfl, _, _, rfl, rfl, d6, _, _, rfl, rfl, p3, _, _, rfl, rfl, _, rfl, _, _, rfl, rfl, d6, _, _, rfl, rfl, p50, z6, fun q nq => ?_⟩
        have u1 := Same.upd (o := .lst [.int 0, .int (mr / 6 % 4), .int (mr / 6 % 26), .int (0 - mr / 6 % 3), .int (mr / 6 % 50), .int 0]) nq
        refine ⟨_, rfl, _, _, rfl, rfl, p6, q, _, _, _, rfl, rfl, SqL.of upd_same, ix, _, _, rfl, rfl, ?_⟩
        refine ⟨fun σ H2 => Same H' H2 ∧ ∃ pl, -200 ≤ n - 2 * pl ∧ n - 2 * pl ≤ 200 ∧ σ = [some (.ref sc), some (.int nb), some (.int (sd : Int)), some (.int mr), some (.int t), some (.int fa), some (.int n), some (.ref x), some (.int fi), some (.ref l), some (.int (0 + i)), some (.int pl), v12, none, none], ?_, ?_⟩
        · refine ⟨_, rfl, _, _, rfl, rfl, p6, rfl, _, rfl, iteD (fun _ => ?_) (fun _ => ?_)⟩
          · exact ⟨_, rfl, _, _, rfl, rfl, d2, _, rfl, _, _, rfl, rfl, d6, _, _, rfl, rfl, p3, _, _, rfl, rfl, u1, _, by omega, by omega, rfl⟩
          · exact ⟨u1, _, by omega, by omega, rfl⟩
        rintro σ H1 ⟨u1, pl, pl1, pl2, rfl⟩
        obtain ⟨dx, e⟩ := id (ra.same u1)
        refine ⟨_, rfl, x, dx, _, rfl, e, rat_no_at _ _, _, rfl, x, t, n, pl, rfl, ra.same u1, ht, pl1, pl2, fun wh g H2 s2 ng rt hg => ?_⟩
        refine ⟨_, rfl, _, rfl, _, rfl, _, rfl, _, _, rfl, rfl, mC' _ _ (by decide) (by decide), _, _, rfl, rfl, g, wh, t, _, rfl, by omega, by omega, muls_of ht pl1 pl2 rt, rt, hg, fun H3 s3 => ⟨_, rfl, iteF ?_⟩⟩
        have s13 := u1.trans (s2.trans s3)
        refine ⟨_, rfl, .inl ⟨rfl, _, SqL.of (s13 _ _ hl)⟩, _, rfl, _, rfl, z2, fun en nen => ?_⟩
        have u2 := Same.upd (o := .tup [.int pl, .ref g]) nen
        have hl2 := (s13.trans u2) _ _ hl
        refine ⟨l, _, _, rfl, rfl, hl2, by rw [List.length_map]; exact small1000 (by omega), ?_⟩
        refine ⟨fun c o z => by rw [upd_ne (ne_of_none z nl)]; exact (sm.trans (s13.trans u2)) _ _ z, (ra.same (s13.trans u2)).upd hl2, ⟨es ++ [en], by rw [upd_same, List.map_append]; rfl, by rw [List.length_append, List.length_singleton]; omega, fun c hc => ?_⟩, _, _, _, _, rfl⟩
        rcases List.mem_append.mp hc with hc | hc
        · exact ((he c hc).same (s13.trans u2)).upd hl2
        · rw [List.mem_singleton.mp hc]
          exact Ent.upd ⟨_, g, wh, upd_same, pl1, pl2, rt, (s3.trans u2) _ _ hg⟩ hl2
      · rintro σ H' ⟨sm, ra, ⟨es, hl, _, he⟩, v3, v10, v11, v12, rfl⟩
        exact ⟨sm, ra, ⟨es, hl, he⟩, v3, v10, v11, v12, rfl⟩
    rintro σ HA ⟨sA, raA, ⟨es, hlA, heA⟩, v3, v10, v11, v12, rfl⟩
    clear sX raX hlX HX
    -- made by a keyword
    refine ⟨fun σ H' => Same HA H' ∧ ∃ y, RooAt CR H' y t n ∧ σ = [some (.ref sc), some (.int nb), some (.int (sd : Int)), v3, some (.int t), some (.int fa), some (.int n), some (.ref x), some (.int fi), some (.ref l), v10, v11, v12, some (.ref y), none], ?_, ?_⟩
    · refine ⟨_, rfl, _, rfl, fun y dy m1 m2 me => ?_⟩
      rw [M.eP]
      exact madeR m1 m2 me fun H' s' rb => ⟨rfl, s', y, rb, rfl⟩
    rintro σ HB ⟨sB, y, rb, rfl⟩
    refine ⟨fun σ H' => Same HA H' ∧ σ = [some (.ref sc), some (.int nb), some (.int (sd : Int)), v3, some (.int t), some (.int fa), some (.int n), some (.ref x), some (.int fi), some (.ref l), v10, v11, v12, some (.ref y), none], ?_, ?_⟩
    · obtain ⟨dy, ey⟩ := id rb
      refine ⟨_, rfl, y, dy, _, rfl, ey, rat_no_first _ _, y, t, n, rfl, rb, ht, n1, n2, fun f' H1 s1 ld' => ?_⟩
      have ef : f' = fi := leadR_eq t0 ld' ld
      refine ⟨_, rfl, rfl, _, rfl, iteNS (by rw [ef]) ?_⟩
      obtain ⟨dy, ey⟩ := id (rb.same s1)
      refine ⟨_, rfl, y, dy, _, rfl, ey, rat_no_at _ _, _, rfl, y, t, n, fi, rfl, rb.same s1, ht, by omega, by omega, fun w1 q1 H2 s2 nq1 r1 h1 => ?_⟩
      have ra2 := raA.same (sB.trans (s1.trans s2))
      obtain ⟨dx, ex⟩ := id ra2
      refine ⟨_, rfl, x, dx, _, rfl, ex, rat_no_at _ _, _, rfl, x, t, n, fi, rfl, ra2, ht, by omega, by omega, fun w2 q2 H3 s3 nq2 r2 h2 => ?_⟩
      obtain rfl := root_eq r1 r2
      exact ⟨_, _, rdP (s3 _ _ h1), rdP h2, shP _ _, shP _ _, false, congrArg V.bl (neP _ _), iteF ⟨sB.trans (s1.trans (s2.trans s3)), rfl⟩⟩
    rintro σ HC ⟨sC, rfl⟩
    clear rb sB HB
    -- made without a power
    refine ⟨fun σ H' => Same HA H' ∧ ∃ z, RooAt CR H' z t 0 ∧ σ = [some (.ref sc), some (.int nb), some (.int (sd : Int)), v3, some (.int t), some (.int fa), some (.int n), some (.ref x), some (.int fi), some (.ref l), v10, v11, v12, some (.ref y), some (.ref z)], ?_, ?_⟩
    · exact ⟨_, rfl, fun z dz m1 m2 me => madeR m1 m2 me fun H' s' rb => ⟨rfl, sC.trans s', z, rb, rfl⟩⟩
    rintro σ HD ⟨sD, z, rz, rfl⟩
    clear sC HC
    refine ⟨fun σ H' => Same HA H' ∧ σ = [some (.ref sc), some (.int nb), some (.int (sd : Int)), v3, some (.int t), some (.int fa), some (.int n), some (.ref x), some (.int fi), some (.ref l), v10, v11, v12, some (.ref y), some (.ref z)], ?_, ?_⟩
    · obtain ⟨dz, ez⟩ := id rz
      refine ⟨_, rfl, z, dz, _, rfl, ez, rat_no_first _ _, z, t, 0, rfl, rz, ht, by omega, by omega, fun f' H1 s1 ld' => ?_⟩
      have bd' := leadR_bound ht ld'
      refine ⟨_, rfl, f', t, 0, rfl, by omega, by omega, mulOk_small (Nat.lt_of_lt_of_le ht.small (p1000 (by decide))) (Nat.lt_of_lt_of_le (tenI_small (by omega)) (p1000 (by decide))), ld', fun H2 s2 => ⟨_, rfl, iteF ?_⟩⟩
      obtain ⟨dz, ez⟩ := id (rz.same (s1.trans s2))
      refine ⟨_, rfl, z, dz, _, rfl, ez, rat_no_at _ _, z, t, 0, 0, rfl, rz.same (s1.trans s2), ht, by omega, by omega, fun wh g H3 s3 ng rt hg => ?_⟩
      rw [show (0 : Int) - 2 * 0 = 0 by omega] at rt hg
      exact ⟨_, rfl, g, wh, t, 0, rfl, by omega, by omega, muls_of ht (by omega) (by omega) rt, rt, hg, fun H4 s4 => ⟨_, rfl, iteF ⟨sD.trans (s1.trans (s2.trans (s3.trans s4))), rfl⟩⟩⟩
    rintro σ HE ⟨sE, rfl⟩
    clear rz sD HD
    -- asked again
    have raE := raA.same sE
    obtain ⟨dx, ex⟩ := id raE
    refine ⟨_, rfl, x, dx, _, rfl, ex, rat_no_first _ _, x, t, n, rfl, raE, ht, n1, n2, fun f' H1 s1 ld' => ?_⟩
    have ef : f' = fi := leadR_eq t0 ld' ld
    refine ⟨_, rfl, rfl, _, rfl, iteDT (by rw [ef]) ?_⟩
    have hlE := (sE.trans s1) _ _ hlA
    dsimp only [tNext, tRet, tCB, tCons]
    refine compL_none (es := es.map V.ref) (σf := [some (.ref x)]) rfl (SqL.of hlE) (fun v hv H' Qb sm q => ?_) (fun D HF sF nD hD => ?_) rfl
    · obtain ⟨e, he, rfl⟩ := List.mem_map.mp hv
      obtain ⟨p, g, wh, h1, h2, h3, rt, h4⟩ := (heA e he).same (sE.trans (s1.trans sm))
      have r2 := raE.same (s1.trans sm)
      obtain ⟨dx, ex⟩ := id r2
      refine ⟨_, rfl, x, dx, _, rfl, ex, rat_no_at _ _, _, rfl, e, _, 0, _, rfl, rfl, SqT.of h1, atI_nat (j := 0) rfl, x, t, n, p, rfl, r2, ht, h2, h3, fun w2 g2 H2 s2 ng2 rt2 hg2 => ?_⟩
      obtain rfl := root_eq rt rt2
      exact ⟨_, rfl, e, _, 1, _, rfl, rfl, SqT.of (s2 _ _ h1), atI_nat (j := 1) rfl, _, _, rdP hg2, rdP (s2 _ _ h4), shP _ _, shP _ _, false, congrArg V.bl (neP _ _), q _ s2⟩
    · refine ⟨z0, fun l2 nl2 => ?_⟩
      have u := Same.upd (o := .lst []) nl2
      refine ⟨.list [], .list [], .lst (SqL.of (u _ _ hD)) .nil, .lst (SqL.of upd_same) .nil, shE, shE, ?_⟩
      show Q (V.bl (PyData.eqv _ _)) _
      rw [eqE]
      exact k _
end
end TR
set_option Elab.async false
set_option linter.all false
set_option maxRecDepth 100000
set_option maxHeartbeats 4000000
namespace TR
open PySem L2 PySem.W PyProof.Rows
seal PE PS PSs PA PT PW PG PGs PI PO
/-- the part that is left, against the half -/
def partI (left low : Int) : Int := (if decide (0 < left) = true then 1 else 0) + (if decide (low ≤ 2 * left) = true then 1 else 0) + (if decide (low < 2 * left) = true then 1 else 0)
end TR
set_option Elab.async false
set_option linter.all false
set_option maxRecDepth 100000
set_option maxHeartbeats 4000000
namespace TR
open PySem L2 PySem.W PyProof.Rows
seal PE PS PSs PA PT PW PG PGs PI PO
abbrev sProductOf : Stmt := (top 1)
abbrev sTenTo : Stmt := (top 2)
theorem bits_le {x k : Nat} (h : x < 2 ^ k) (hk : k ≤ 1048576) : Builtin.Int.intBits (x : Int) ≤ 2 ^ 20 := by
  unfold Builtin.Int.intBits
  split
  · exact Nat.zero_le _
  · have z : (x : Int).natAbs ≠ 0 := by
      intro z
      rename_i hz
      exact hz (by simpa using z)
    have : (x : Int).natAbs.log2 < k := (Nat.log2_lt z).mpr h
    have e : (2 : Nat) ^ 20 = 1048576 := by decide
    omega
theorem pow_bits {b s j n : Nat} (hb : b < 2 ^ s) (hj : j ≤ n) (hn : n * s < 1048576) : Builtin.Int.intBits ((b ^ j : Nat) : Int) ≤ 2 ^ 20 := by
  refine bits_le (k := n * s + 1) ?_ hn
  have a : b ^ j ≤ (2 ^ s) ^ j := Nat.pow_le_pow_left (Nat.le_of_lt hb) j
  have c : (2 ^ s) ^ j ≤ 2 ^ (n * s) := by
    rw [← Nat.pow_mul, Nat.mul_comm n s]
    exact Nat.pow_le_pow_right (by decide) (Nat.mul_le_mul_left s hj)
  have d : 2 ^ (n * s) < 2 ^ (n * s + 1) := Nat.pow_lt_pow_right (by decide) (by omega)
  exact Nat.lt_of_le_of_lt a (Nat.lt_of_le_of_lt c d)
theorem pow_mulOk {b s i j n : Nat} (hb : b < 2 ^ s) (hi : i ≤ n) (hj : j ≤ n) (hn : n * s < 1048576) : IntMulOk ((b ^ i : Nat) : Int) ((b ^ j : Nat) : Int) := IntMulOk.of_bits (pow_bits hb hi hn) (pow_bits hb hj hn)
section
variable {P : Program} {w : World} {K : Frag} {mg : Str → Option Value} {base : Heap}
def spProductOf : Sp := fun vs H Q _ => ∃ b n s : Nat, vs = [.int (b : Int), .int (n : Int)] ∧ b < 2 ^ s ∧ n * s < 1048576 ∧ Q (.int ((b ^ n : Nat) : Int)) H
theorem scProductOf : FnScope ["whole", "count", "product"] ["whole", "count"] (defScope sProductOf) := ⟨rfl, rfl, rfl, by decide +kernel, rfl, by decide +kernel, by decide +kernel⟩
theorem ok_productOf {f : Addr} {fd : FuncData} (D : Def K mg "product_of" ["whole", "count"] sProductOf f fd) : FnOk P w K mg base (CX1 P w) 1 f fd ["whole", "count"] spProductOf := by
  refine FnOk.up (D.F.ok scProductOf (fun vs H Q E h => ?_) (fun cdv A outer s H vs Q E hr h => ?_))
  · obtain ⟨b, n, z, rfl, _⟩ := h
    rfl
  · obtain ⟨b, n, z, rfl, hb, hn, k⟩ := h
    refine ⟨_, (pss_cons (ps_set (i := 2) scProductOf.nd rfl (Or.inl rfl) pe_int)
      (pss_cons (ps_while PassesOwn.never (pt_cmpR op_gt (pv 1) pe_int (nomark _)) (pss_cons (ps_if (pt_cmpR op_eq (pe_op op_mod (pv 1) pe_int) pe_int (nomark _)) (pss_one (ps_set (i := 2) scProductOf.nd rfl (Or.inl rfl) (pe_op op_mulK (pv 2) (pv 0)))) pss_nil)
      (pss_cons (ps_set (i := 0) scProductOf.nd rfl (Or.inl rfl) (pe_op op_mulK (pv 0) (pv 0)))
      (pss_one (ps_set (i := 1) scProductOf.nd rfl (Or.inl rfl) (pe_op op_fdivK (pv 1) pe_int))))))
      (pss_one (ps_ret (pv 2))))), ?_⟩
    have d2 : (0 : Int) < 2 ∧ (2 : Int).natAbs.log2 < 9000 := ⟨by decide, by decide +kernel⟩
    refine while_by (fun σ H2 => H2 = H ∧ ∃ i m c : Nat, m + i * c = n ∧ σ = [some (.int ((b ^ i : Nat) : Int)), some (.int (c : Int)), some (.int ((b ^ m : Nat) : Int))]) (fun σ _ => match σ with | [_, some (.int c), _] => c.toNat | _ => 0) ?_ ?_ ?_
    · exact ⟨rfl, 1, 0, n, by omega, by rw [Nat.pow_one]; rfl⟩
    · rintro σ H2 ⟨rfl, i, m, c, hc, rfl⟩
      refine ⟨_, rfl, _, _, rfl, rfl, _, rfl, iteD (fun h0 => ?_) (fun h0 => ?_)⟩
      · have c1 : 1 ≤ c := by have : (0 : Int) < c := h0
                              omega
        have hi : i ≤ n := Nat.le_trans (Nat.le_mul_of_pos_right i c1) (by omega)
        have hm : m ≤ n := by omega
        have sq : ((b ^ i : Nat) : Int) * ((b ^ i : Nat) : Int) = ((b ^ (2 * i) : Nat) : Int) := by rw [Nat.two_mul, Nat.pow_add]; rfl
        have lt : ((c : Int) / 2).toNat < (c : Int).toNat := by omega
        refine ⟨_, rfl, _, _, rfl, rfl, d2.1, rfl, _, rfl, iteD (fun ho => ?_) (fun he => ?_)⟩
        · have ho : (c : Int) % 2 = 1 := by injection ho
          have mu : ((b ^ m : Nat) : Int) * ((b ^ i : Nat) : Int) = ((b ^ (m + i) : Nat) : Int) := by rw [Nat.pow_add]; rfl
          refine ⟨_, rfl, _, rfl, _, _, rfl, rfl, pow_mulOk hb hm hi hn, _, rfl, _, rfl, _, _, rfl, rfl, pow_mulOk hb hi hi hn, _, rfl, _, _, rfl, rfl, d2, ⟨rfl, 2 * i, m + i, c / 2, ?_, ?_⟩, lt⟩
          · have e : i * c = i * (2 * (c / 2) + 1) := congrArg (i * ·) (by omega)
            rw [Nat.mul_add, Nat.mul_one, ← Nat.mul_assoc, Nat.mul_comm i 2] at e
            omega
          · show [some (V.int (((b ^ i : Nat) : Int) * ((b ^ i : Nat) : Int))), some (V.int ((c : Int) / 2)), some (V.int (((b ^ m : Nat) : Int) * ((b ^ i : Nat) : Int)))] = _
            rw [sq, mu]
            rfl
        · have he : ¬ (c : Int) % 2 = 1 := fun z => he (congrArg V.int z)
          refine ⟨_, rfl, _, rfl, _, _, rfl, rfl, pow_mulOk hb hi hi hn, _, rfl, _, _, rfl, rfl, d2, ⟨rfl, 2 * i, m, c / 2, ?_, ?_⟩, lt⟩
          · have e : i * c = i * (2 * (c / 2)) := congrArg (i * ·) (by omega)
            rw [← Nat.mul_assoc, Nat.mul_comm i 2] at e
            omega
          · show [some (V.int (((b ^ i : Nat) : Int) * ((b ^ i : Nat) : Int))), some (V.int ((c : Int) / 2)), some (V.int ((b ^ m : Nat) : Int))] = _
            rw [sq]
            rfl
      · have c0 : c = 0 := by have : ¬ (0 : Int) < c := h0
                              omega
        subst c0
        have hm : m = n := by omega
        subst hm
        exact ⟨_, rfl, k⟩
    · rintro σ H2 Q1 Q2 hQ ⟨v, e, i, j, e1, e2, b, e3, q⟩
      exact ⟨v, e, i, j, e1, e2, b, e3, hQ _ _ q⟩
def spTenTo : Sp := fun vs H Q _ => ∃ n : Nat, vs = [.int (n : Int)] ∧ n ≤ 4000 ∧ Q (.int ((10 ^ n : Nat) : Int)) H
theorem scTenTo : FnScope ["count"] ["count"] (defScope sTenTo) := ⟨rfl, rfl, rfl, by decide +kernel, rfl, by decide +kernel, by decide +kernel⟩
theorem ok_tenTo {f f1 : Addr} {fd fd1 : FuncData} (D : Def K mg "ten_to" ["count"] sTenTo f fd) (D_product_of : Def K mg "product_of" ["whole", "count"] sProductOf f1 fd1) (G_product_of : FnOk P w K mg base (CX1 P w) 1 f1 fd1 ["whole", "count"] spProductOf) : FnOk P w K mg base (CX1 P w) 2 f fd ["count"] spTenTo := by
  refine FnOk.up (D.F.ok scTenTo (fun vs H Q E h => ?_) (fun cdv A outer s H vs Q E hr h => ?_))
  · obtain ⟨n, rfl, _⟩ := h
    rfl
  · obtain ⟨n, rfl, hn, k⟩ := h
    have hx : Catches (cxOf CX0 P w K mg base ["count"] "ten_to" (defScope sTenTo) f cdv A outer s H E).nox EKF := catches0
    refine ⟨_, (pss_one (ps_ret (pcall D_product_of G_product_of hr hx (pa_cons pe_int (pa_cons (pv 0) pa_nil))))), ?_⟩
    exact ⟨_, rfl, 10, n, 4, rfl, by decide, by omega, k⟩
end
end TR
set_option Elab.async false
set_option linter.all false
set_option maxRecDepth 100000
set_option maxHeartbeats 4000000
namespace TR
open PySem L2 PySem.W PyProof.Rows
seal PE PS PSs PA PT PW PG PGs PI PO
abbrev sPartOf : Stmt := (top 6)
section
variable {P : Program} {w : World} {K : Frag} {mg : Str → Option Value} {base : Heap}
def spPartOf : Sp := fun vs H Q _ => ∃ l m : Int, vs = [.int (2 * l), .int m] ∧ 0 ≤ l ∧ 0 < m ∧ Q (.int (partI l m)) H
theorem scPartOf : FnScope ["size", "middle"] ["size", "middle"] (defScope sPartOf) := ⟨rfl, rfl, rfl, by decide +kernel, rfl, by decide +kernel, by decide +kernel⟩
theorem partI_0 {m : Int} (hm : 0 < m) : partI 0 m = 0 := by
  unfold partI
  rw [decide_eq_false (by omega : ¬ (0 : Int) < 0), decide_eq_false (by omega : ¬ m ≤ 2 * 0), decide_eq_false (by omega : ¬ m < 2 * 0)]
  rfl
theorem partI_1 {l m : Int} (hl : 0 < l) (h : 2 * l < m) : partI l m = 1 := by
  unfold partI
  rw [decide_eq_true hl, decide_eq_false (by omega : ¬ m ≤ 2 * l), decide_eq_false (by omega : ¬ m < 2 * l)]
  rfl
theorem partI_2 {l m : Int} (hl : 0 < l) (h : 2 * l = m) : partI l m = 2 := by
  unfold partI
  rw [decide_eq_true hl, decide_eq_true (by omega : m ≤ 2 * l), decide_eq_false (by omega : ¬ m < 2 * l)]
  rfl
theorem partI_3 {l m : Int} (hl : 0 < l) (h : m < 2 * l) : partI l m = 3 := by
  unfold partI
  rw [decide_eq_true hl, decide_eq_true (by omega : m ≤ 2 * l), decide_eq_true h]
  rfl
theorem ok_partOf {f : Addr} {fd : FuncData} (D : Def K mg "part_of" ["size", "middle"] sPartOf f fd) : FnOk P w K mg base (CX1 P w) 1 f fd ["size", "middle"] spPartOf := by
  refine FnOk.up (D.F.ok scPartOf (fun vs H Q E h => ?_) (fun cdv A outer s H vs Q E hr h => ?_))
  · obtain ⟨l, m, rfl, _⟩ := h
    rfl
  · obtain ⟨l, m, rfl, hl, hm, k⟩ := h
    refine ⟨_, (pss_cons (ps_if (pt_cmpR op_eq (pv 0) pe_int (nomark _)) (pss_one (ps_ret pe_int)) pss_nil)
      (pss_cons (ps_if (pt_cmpR op_lt (pv 0) (pv 1) (nomark _)) (pss_one (ps_ret pe_int)) pss_nil)
      (pss_one (ps_ret (pe_ifExp (pt_cmpR op_eq (pv 0) (pv 1) (nomark _)) pe_int pe_int))))), ?_⟩
    refine ⟨_, rfl, rfl, _, rfl, iteD (fun h0 => ?_) (fun h0 => ?_)⟩
    · have e : l = 0 := by have : 2 * l = 0 := by injection h0
                           omega
      subst e
      rw [partI_0 hm] at k
      exact k
    · have hl' : 0 < l := by
        apply Classical.byContradiction
        intro z
        exact h0 (by rw [show l = 0 by omega]; rfl)
      refine ⟨_, rfl, _, rfl, _, _, rfl, rfl, _, rfl, iteD (fun h1 => ?_) (fun h1 => ?_)⟩
      · rw [partI_1 hl' h1] at k
        exact k
      · refine ⟨_, rfl, _, rfl, rfl, _, rfl, iteD (fun h2 => ?_) (fun h2 => ?_)⟩
        · rw [partI_2 hl' (by injection h2)] at k
          exact k
        · rw [partI_3 hl' (by have : 2 * l ≠ m := fun z => h2 (by rw [z])
                              omega)] at k
          exact k
end
end TR
set_option Elab.async false
set_option linter.all false
set_option maxRecDepth 100000
set_option maxHeartbeats 4000000
namespace TR
open PySem L2 PySem.W PyProof.Rows
seal PE PS PSs PA PT PW PG PGs PI PO
abbrev sWLead : Stmt := (top 7)
theorem lead_guess (k : Nat) : 10 ^ (k * 301029995 / 10 ^ 9) ≤ 2 ^ k := by
  have hm : k * 301029995 / 10 ^ 9 * 28738 ≤ k * 8651 := by
    have : k * 301029995 / 10 ^ 9 * 10 ^ 9 ≤ k * 301029995 := Nat.div_mul_le_self _ _
    omega
  generalize k * 301029995 / 10 ^ 9 = m at hm
  have c : (10 : Nat) ^ 8651 ≤ 2 ^ 28738 := by decide +kernel
  have a : (10 ^ m) ^ 8651 ≤ (2 ^ k) ^ 8651 := by
    calc (10 ^ m) ^ 8651 = (10 ^ 8651) ^ m := by rw [← Nat.pow_mul, ← Nat.pow_mul, Nat.mul_comm]
      _ ≤ (2 ^ 28738) ^ m := Nat.pow_le_pow_left c m
      _ = 2 ^ (m * 28738) := by rw [← Nat.pow_mul, Nat.mul_comm]
      _ ≤ 2 ^ (k * 8651) := Nat.pow_le_pow_right (by decide) hm
      _ = (2 ^ k) ^ 8651 := by rw [← Nat.pow_mul]
  exact (Nat.pow_le_pow_iff_left (by decide)).mp a
section
variable {P : Program} {w : World} {K : Frag} {mg : Str → Option Value} {base : Heap}
def spWLead : Sp := fun vs H Q _ => ∃ n : Nat, vs = [.int (n : Int)] ∧ 1 ≤ n ∧ n < 10 ^ 3000 ∧ ∀ L : Nat, 10 ^ L ≤ n → n < 10 ^ (L + 1) → Q (.int (L : Int)) H
theorem scWLead : FnScope ["whole", "lead", "beyond"] ["whole"] (defScope sWLead) := ⟨rfl, rfl, rfl, by decide +kernel, rfl, by decide +kernel, by decide +kernel⟩
theorem ok_wLead {f f1 : Addr} {fd fd1 : FuncData} (D : Def K mg "whole_lead" ["whole"] sWLead f fd) (D_ten_to : Def K mg "ten_to" ["count"] sTenTo f1 fd1) (G_ten_to : FnOk P w K mg base (CX1 P w) 2 f1 fd1 ["count"] spTenTo) : FnOk P w K mg base (CX1 P w) 3 f fd ["whole"] spWLead := by
  refine FnOk.up (D.F.ok scWLead (fun vs H Q E h => ?_) (fun cdv A outer s H vs Q E hr h => ?_))
  · obtain ⟨n, rfl, _⟩ := h
    rfl
  · obtain ⟨n, rfl, n1, n2, k⟩ := h
    have hx : Catches (cxOf CX0 P w K mg base ["whole", "lead", "beyond"] "whole_lead" (defScope sWLead) f cdv A outer s H E).nox EKF := catches0
    refine ⟨_, (pss_cons (ps_join (ps_set (i := 1) scWLead.nd rfl (Or.inl rfl) (pe_op op_fdivK (pe_op op_mulK (pe_op op_sub (pe_bm0 PySem.F.plainAttrs_int PySem.F.slot_int_bit_length PySem.F.type_int_bit_length mt_bit_length (pv 0)) pe_int) pe_int) (pe_op op_pow pe_int pe_int))))
      (pss_cons (ps_join (ps_set (i := 2) scWLead.nd rfl (Or.inl rfl) (pcall D_ten_to G_ten_to hr hx (pa_cons (pe_op op_add (pv 1) pe_int) pa_nil))))
      (pss_cons (ps_join (ps_while PassesOwn.never (pt_cmpR op_le (pv 2) (pv 0) (nomark _)) (pss_cons (ps_aug (i := 1) scWLead.nd rfl (Or.inl rfl) pe_int ip_add)
      (pss_one (ps_set (i := 2) scWLead.nd rfl (Or.inl rfl) (pe_op op_mulK (pv 2) pe_int))))))
      (pss_one (ps_ret (pv 1)))))), ?_⟩
    have mC : ∀ z n : Int, -(2 ^ 64) < n → n < 2 ^ 64 → IntMulOk z n := fun z n a b => CMul.ok (.inr ⟨a, b⟩)
    have pw : CPow 10 9 := ⟨by decide, by decide, by decide⟩
    have l3 : ∀ {L : Nat}, 10 ^ L ≤ n → L < 3000 := fun hL => (Nat.pow_lt_pow_iff_right (by decide : 1 < 10)).mp (Nat.lt_of_le_of_lt hL n2)
    refine ⟨fun σ H' => H' = H ∧ ∃ L : Nat, 10 ^ L ≤ n ∧ σ = [some (.int (n : Int)), some (.int (L : Int)), none], ?_, ?_⟩
    · refine ⟨_, rfl, rfl, _, rfl, rfl, _, _, rfl, rfl, _, _, rfl, rfl, mC _ _ (by decide) (by decide), _, _, rfl, rfl, pw, _, _, rfl, rfl, ⟨by decide, by decide +kernel⟩, rfl, n.log2 * 301029995 / 10 ^ 9, ?_, ?_⟩
      · exact Nat.le_trans (lead_guess _) (Nat.log2_self_le (by omega))
      · have e : (Builtin.Int.intBits (n : Int) : Nat) = n.log2 + 1 := by
          unfold Builtin.Int.intBits
          rw [if_neg (by simp; omega)]
          rfl
        show [some (V.int (n : Int)), some (V.int ((((Builtin.Int.intBits (n : Int) : Nat) : Int) - 1) * 301029995 / (10 ^ Int.toNat 9 : Int))), none] = _
        rw [e, show ((n.log2 + 1 : Nat) : Int) - 1 = (n.log2 : Int) by omega]
        rfl
    rintro σ H' ⟨rfl, L0, hL0, rfl⟩
    refine ⟨fun σ H2 => H2 = H' ∧ ∃ L : Nat, 10 ^ L ≤ n ∧ σ = [some (.int (n : Int)), some (.int (L : Int)), some (.int ((10 ^ (L + 1) : Nat) : Int))], ?_, ?_⟩
    · have := l3 hL0
      exact ⟨_, rfl, _, _, rfl, rfl, L0 + 1, rfl, by omega, rfl, L0, hL0, rfl⟩
    rintro σ H2 ⟨rfl, L1, hL1, rfl⟩
    refine ⟨fun σ H3 => H3 = H2 ∧ ∃ L : Nat, 10 ^ L ≤ n ∧ n < 10 ^ (L + 1) ∧ σ = [some (.int (n : Int)), some (.int (L : Int)), some (.int ((10 ^ (L + 1) : Nat) : Int))], ?_, ?_⟩
    · refine while_by (fun σ H3 => H3 = H2 ∧ ∃ L : Nat, 10 ^ L ≤ n ∧ σ = [some (.int (n : Int)), some (.int (L : Int)), some (.int ((10 ^ (L + 1) : Nat) : Int))]) (fun σ _ => match σ with | [_, some (.int c), _] => n - c.toNat | _ => 0) ?_ ?_ ?_
      · exact ⟨rfl, L1, hL1, rfl⟩
      · rintro σ H3 ⟨rfl, L, hL, rfl⟩
        refine ⟨_, rfl, _, rfl, _, _, rfl, rfl, _, rfl, iteD (fun hle => ?_) (fun hgt => ?_)⟩
        · have hle : 10 ^ (L + 1) ≤ n := Int.ofNat_le.mp hle
          refine ⟨_, rfl, _, _, rfl, rfl, _, rfl, _, _, rfl, rfl, mC _ _ (by decide) (by decide), ⟨rfl, L + 1, hle, ?_⟩, ?_⟩
          · show [some (V.int (n : Int)), some (V.int ((L : Int) + 1)), some (V.int (((10 ^ (L + 1) : Nat) : Int) * 10))] = _
            rw [show ((10 ^ (L + 1) : Nat) : Int) * 10 = ((10 ^ (L + 1 + 1) : Nat) : Int) by rw [Nat.pow_succ 10 (L + 1)]; rfl]
            rfl
          have lt : L + 1 < 10 ^ (L + 1) := Nat.lt_pow_self (by decide)
          show n - ((L : Int) + 1).toNat < n - (L : Int).toNat
          omega
        · have hgt : ¬ 10 ^ (L + 1) ≤ n := fun z => hgt (Int.ofNat_le.mpr z)
          exact ⟨rfl, L, hL, by omega, rfl⟩
      · rintro σ H2 Q1 Q2 hQ ⟨v, e, v2, e4, i2, j2, e5, e6, b, e7, q⟩
        exact ⟨v, e, v2, e4, i2, j2, e5, e6, b, e7, hQ _ _ q⟩
    rintro σ H3 ⟨rfl, L, h1, h2, rfl⟩
    exact ⟨_, rfl, k L h1 h2⟩
end
end TR
set_option Elab.async false
set_option linter.all false
set_option maxRecDepth 100000
set_option maxHeartbeats 4000000
namespace TR
open PySem L2 PySem.W PyProof.Rows
seal PE PS PSs PA PT PW PG PGs PI PO
abbrev sWRoot : Stmt := (top 8)
theorem newton {n g : Nat} (hg : 1 ≤ g) : n < ((g + n / g) / 2 + 1) * ((g + n / g) / 2 + 1) := by
  have q : n < g * (n / g + 1) := by
    have := Nat.div_add_mod n g
    have := Nat.mod_lt n hg
    rw [Nat.mul_add, Nat.mul_one]
    omega
  generalize n / g = d at q
  have b : g + (d + 1) ≤ 2 * ((g + d) / 2 + 1) := by omega
  generalize (g + d) / 2 + 1 = c at b
  have s1 : (g + (d + 1)) * (g + (d + 1)) ≤ 2 * c * (2 * c) := Nat.mul_le_mul b b
  have s2 : 4 * (g * (d + 1)) ≤ (g + (d + 1)) * (g + (d + 1)) := by
    generalize d + 1 = e
    rcases Nat.le_total g e with h | h
    · obtain ⟨k, rfl⟩ := Nat.exists_eq_add_of_le h
      have e1 : (g + (g + k)) * (g + (g + k)) = 4 * (g * (g + k)) + k * k := by
        simp only [Nat.mul_add, Nat.add_mul]
        have := Nat.mul_comm k g
        omega
      omega
    · obtain ⟨k, rfl⟩ := Nat.exists_eq_add_of_le h
      have e1 : (e + k + e) * (e + k + e) = 4 * ((e + k) * e) + k * k := by
        simp only [Nat.mul_add, Nat.add_mul]
        have := Nat.mul_comm k e
        omega
      omega
  have s3 : 2 * c * (2 * c) = 4 * (c * c) := by
    rw [Nat.mul_mul_mul_comm]
  omega
section
variable {P : Program} {w : World} {K : Frag} {mg : Str → Option Value} {base : Heap}
def spWRoot : Sp := fun vs H Q _ => ∃ n : Nat, vs = [.int (n : Int)] ∧ n < 10 ^ 300 ∧ ∀ r : Nat, r * r ≤ n → n < (r + 1) * (r + 1) → Q (.int (r : Int)) H
theorem scWRoot : FnScope ["whole", "guess", "better"] ["whole"] (defScope sWRoot) := ⟨rfl, rfl, rfl, by decide +kernel, rfl, by decide +kernel, by decide +kernel⟩
theorem ok_wRoot {f f1 f2 : Addr} {fd fd1 fd2 : FuncData} (D : Def K mg "whole_root" ["whole"] sWRoot f fd) (D_ten_to : Def K mg "ten_to" ["count"] sTenTo f1 fd1) (G_ten_to : FnOk P w K mg base (CX1 P w) 2 f1 fd1 ["count"] spTenTo) (D_whole_lead : Def K mg "whole_lead" ["whole"] sWLead f2 fd2) (G_whole_lead : FnOk P w K mg base (CX1 P w) 3 f2 fd2 ["whole"] spWLead) : FnOk P w K mg base (CX1 P w) 4 f fd ["whole"] spWRoot := by
  refine FnOk.up (D.F.ok scWRoot (fun vs H Q E h => ?_) (fun cdv A outer s H vs Q E hr h => ?_))
  · obtain ⟨n, rfl, _⟩ := h
    rfl
  · obtain ⟨n, rfl, n2, k⟩ := h
    have hx : Catches (cxOf CX0 P w K mg base ["whole", "guess", "better"] "whole_root" (defScope sWRoot) f cdv A outer s H E).nox EKF := catches0
    refine ⟨_, (pss_cons (ps_if (pt_cmpR op_eq (pv 0) pe_int (nomark _)) (pss_one (ps_ret pe_int)) pss_nil)
      (pss_cons (ps_set (i := 1) scWRoot.nd rfl (Or.inl rfl) (pcall D_ten_to G_ten_to hr hx (pa_cons (pe_op op_add (pe_op op_fdivK (pcall D_whole_lead G_whole_lead hr hx (pa_cons (pv 0) pa_nil)) pe_int) pe_int) pa_nil)))
      (pss_cons (ps_set (i := 2) scWRoot.nd rfl (Or.inl rfl) (pe_op op_fdivK (pe_op op_add (pv 1) (pe_op op_fdivK (pv 0) (pv 1))) pe_int))
      (pss_cons (ps_while PassesOwn.never (pt_cmpR op_lt (pv 2) (pv 1) (nomark _)) (pss_cons (ps_set (i := 1) scWRoot.nd rfl (Or.inl rfl) (pv 2))
      (pss_one (ps_set (i := 2) scWRoot.nd rfl (Or.inl rfl) (pe_op op_fdivK (pe_op op_add (pv 1) (pe_op op_fdivK (pv 0) (pv 1))) pe_int)))))
      (pss_one (ps_ret (pv 1))))))), ?_⟩
    have d2 : (0 : Int) < 2 ∧ (2 : Int).natAbs.log2 < 9000 := ⟨by decide, by decide +kernel⟩
    refine ⟨_, rfl, rfl, _, rfl, iteD (fun h0 => ?_) (fun h0 => ?_)⟩
    · have e : n = 0 := by have : (n : Int) = 0 := by injection h0
                           omega
      subst e
      exact k 0 (Nat.le_refl _) (by decide)
    · have n1 : 1 ≤ n := by
        apply Classical.byContradiction
        intro z
        exact h0 (by rw [show n = 0 by omega]; rfl)
      have lg : ∀ {g : Nat}, 1 ≤ g → g < 2 ^ 1000 → 0 < (g : Int) ∧ (g : Int).natAbs.log2 < 9000 := fun h1 h2 => ⟨by omega, Nat.lt_trans (log2_small (k := 1000) (by rw [Int.natAbs_natCast]; exact h2) (by decide)) (by decide)⟩
      refine ⟨_, rfl, n, rfl, n1, Nat.lt_trans n2 (Nat.pow_lt_pow_right (by decide) (by decide)), fun L L1 L2 => ?_⟩
      have l3 : L < 300 := (Nat.pow_lt_pow_iff_right (by decide : 1 < 10)).mp (Nat.lt_of_le_of_lt L1 n2)
      refine ⟨_, _, rfl, rfl, d2, _, _, rfl, rfl, L / 2 + 1, rfl, by omega, ?_⟩
      have g1 : 1 ≤ 10 ^ (L / 2 + 1) := Nat.pow_pos (by decide)
      have g2 : 10 ^ (L / 2 + 1) < 2 ^ 1000 := Nat.lt_of_le_of_lt (Nat.pow_le_pow_right (by decide) (show L / 2 + 1 ≤ 200 by omega)) (by decide +kernel)
      have g3 : n < (10 ^ (L / 2 + 1) + 1) * (10 ^ (L / 2 + 1) + 1) := by
        have a : 10 ^ (L + 1) ≤ 10 ^ (L / 2 + 1) * 10 ^ (L / 2 + 1) := by
          rw [← Nat.pow_add]
          exact Nat.pow_le_pow_right (by decide) (by omega)
        have b : 10 ^ (L / 2 + 1) * 10 ^ (L / 2 + 1) ≤ (10 ^ (L / 2 + 1) + 1) * (10 ^ (L / 2 + 1) + 1) := Nat.mul_le_mul (Nat.le_succ _) (Nat.le_succ _)
        omega
      refine ⟨_, rfl, _, rfl, _, rfl, _, _, rfl, rfl, lg g1 g2, _, _, rfl, rfl, _, _, rfl, rfl, d2, ?_⟩
      refine while_by (fun σ H2 => H2 = H ∧ ∃ g : Nat, 1 ≤ g ∧ g < 2 ^ 1000 ∧ n < (g + 1) * (g + 1) ∧ σ = [some (.int (n : Int)), some (.int (g : Int)), some (.int (((g + n / g) / 2 : Nat) : Int))]) (fun σ _ => match σ with | [_, some (.int c), _] => c.toNat | _ => 0) ?_ ?_ ?_
      · exact ⟨rfl, 10 ^ (L / 2 + 1), g1, g2, g3, rfl⟩
      · rintro σ H2 ⟨rfl, g, g1, g2, g3, rfl⟩
        refine ⟨_, rfl, _, rfl, _, _, rfl, rfl, _, rfl, iteD (fun hlt => ?_) (fun hge => ?_)⟩
        · have hlt : (g + n / g) / 2 < g := Int.ofNat_lt.mp hlt
          have b1 : 1 ≤ (g + n / g) / 2 := by
            rcases (by omega : g = 1 ∨ 2 ≤ g) with rfl | h
            · rw [Nat.div_one]; omega
            · clear hlt
              generalize n / g = d
              omega
          have b3 := newton (n := n) g1
          generalize (g + n / g) / 2 = b at hlt b1 b3
          refine ⟨_, rfl, _, rfl, _, rfl, _, rfl, _, _, rfl, rfl, lg b1 (Nat.lt_trans hlt g2), _, _, rfl, rfl, _, _, rfl, rfl, d2, ⟨rfl, b, b1, Nat.lt_trans hlt g2, b3, rfl⟩, ?_⟩
          show (b : Int).toNat < (g : Int).toNat
          omega
        · have hge : g ≤ (g + n / g) / 2 := by
            have : ¬ ((g + n / g) / 2 < g) := fun z => hge (Int.ofNat_lt.mpr z)
            omega
          refine ⟨_, rfl, k g ?_ g3⟩
          have : g ≤ n / g := by omega
          exact (Nat.le_div_iff_mul_le (by omega)).mp this
      · rintro σ H2 Q1 Q2 hQ ⟨v, e, v2, e2, i, j, e3, e4, b, e5, q⟩
        exact ⟨v, e, v2, e2, i, j, e3, e4, b, e5, hQ _ _ q⟩
end
end TR
set_option Elab.async false
set_option linter.all false
set_option maxRecDepth 100000
set_option maxHeartbeats 4000000
namespace TR
open PySem L2 PySem.W PyProof.Rows
seal PE PS PSs PA PT PW PG PGs PI PO
abbrev sRAtM : Stmt := (inClass (top 5) 2)
abbrev sRFirstM : Stmt := (inClass (top 5) 1)
theorem sz_nat {t : Int} (h : Sz t) : ∃ n : Nat, t = (n : Int) ∧ 1 ≤ n ∧ n < 10 ^ 61 := by
  obtain ⟨n, rfl⟩ := Int.eq_ofNat_of_zero_le (show 0 ≤ t by have := h.1; omega)
  have := h.1; have := h.2
  exact ⟨n, rfl, by omega, by omega⟩
theorem partI_4 {h m : Int} (hp : 0 < h) : partI (2 * h) m = 1 + (if decide (m ≤ 4 * h) = true then 1 else 0) + (if decide (m < 4 * h) = true then 1 else 0) := by
  unfold partI
  rw [decide_eq_true (by omega : 0 < 2 * h), show 2 * (2 * h) = 4 * h by omega]
  rfl
theorem lead_root {t L : Nat} {n f : Int} (t1 : 10 ^ L ≤ t) (t2 : t < 10 ^ (L + 1)) (e : f = ((L : Int) + n) / 2) : LeadR t (n - 2 * f) := by
  have hs : n - 2 * f = -(L : Int) ∨ n - 2 * f = 1 - (L : Int) := by omega
  have key : ∀ u v : Nat, (u = 0 ∧ (v = L ∨ v + 1 = L)) ∨ (u = 1 ∧ v = 0 ∧ L = 0) → 10 ^ v ≤ t * 10 ^ u ∧ t * 10 ^ u < 100 * 10 ^ v := by
    rintro u v (⟨rfl, rfl | rfl⟩ | ⟨rfl, rfl, rfl⟩)
    · rw [Nat.pow_succ] at t2
      omega
    · rw [Nat.pow_succ] at t1
      rw [Nat.pow_succ, Nat.pow_succ] at t2
      omega
    · simp at t1 t2 ⊢
      omega
  have := key (n - 2 * f).toNat (-(n - 2 * f)).toNat (by omega)
  unfold LeadR tenI
  exact ⟨Int.ofNat_le.mpr this.1, Int.ofNat_lt.mpr this.2⟩
section
variable {P : Program} {w : World} {K : Frag} {mg : Str → Option Value} {base : Heap}
theorem scRFirst : FnScope ["self"] ["self"] (defScope sRFirstM) := ⟨rfl, rfl, rfl, by decide +kernel, rfl, by decide +kernel, by decide +kernel⟩
theorem ok_rFirst {f f1 CR CE : Addr} {fd fd1 : FuncData} (F : Fun K "first" "Root.first" sRFirstM f fd) (D_whole_lead : Def K mg "whole_lead" ["whole"] sWLead f1 fd1) (G_whole_lead : FnOk P w K mg base (CX1 P w) 3 f1 fd1 ["whole"] spWLead) (R : RooC K mg CR CE) : FnOk P w K mg base (CX1 P w) 4 f fd ["self"] (spRFirst CR) := by
  refine FnOk.up (F.ok scRFirst (fun vs H Q E h => ?_) (fun cdv A outer s H vs Q E hr h => ?_))
  · obtain ⟨x, t, n, rfl, _⟩ := h
    rfl
  · obtain ⟨x, t, n, rfl, ra, ht, _, _, k⟩ := h
    have hx : Catches (cxOf CX0 P w K mg base ["self"] "Root.first" (defScope sRFirstM) f cdv A outer s H E).nox EKF := catches0
    refine ⟨_, (pss_one (ps_ret (pe_op op_fdivK (pe_op op_add (pcall D_whole_lead G_whole_lead hr hx (pa_cons (pe_fld (pv 0) rfl) pa_nil)) (pe_fld (pv 0) rfl)) pe_int))), ?_⟩
    obtain ⟨tn, rfl, ta, tb⟩ := sz_nat ht
    obtain ⟨dx, e⟩ := id ra
    have d2 : (0 : Int) < 2 ∧ (2 : Int).natAbs.log2 < 9000 := ⟨by decide, by decide +kernel⟩
    refine ⟨_, rfl, x, CR, dx, _, _, rfl, e, R.cl, R.n_top, rat_top _ _, tn, rfl, ta, Nat.lt_trans tb (Nat.pow_lt_pow_right (by decide) (by decide)), fun L L1 L2 => ?_⟩
    exact ⟨_, rfl, x, CR, dx, _, _, rfl, e, R.cl, R.n_power, rat_power _ _, _, _, rfl, rfl, _, _, rfl, rfl, d2, k _ H (Same.refl H) (lead_root L1 L2 rfl)⟩
theorem scRAt : FnScope ["self", "power", "shift", "top", "bottom", "whole"] ["self", "power"] (defScope sRAtM) := ⟨rfl, rfl, rfl, by decide +kernel, rfl, by decide +kernel, by decide +kernel⟩
theorem ok_rAt {f f1 f2 f3 CR CE : Addr} {fd fd1 fd2 fd3 : FuncData} (F : Fun K "at" "Root.at" sRAtM f fd) (D_ten_to : Def K mg "ten_to" ["count"] sTenTo f1 fd1) (G_ten_to : FnOk P w K mg base (CX1 P w) 2 f1 fd1 ["count"] spTenTo)
    (D_part_of : Def K mg "part_of" ["size", "middle"] sPartOf f2 fd2) (G_part_of : FnOk P w K mg base (CX1 P w) 1 f2 fd2 ["size", "middle"] spPartOf) (D_whole_root : Def K mg "whole_root" ["whole"] sWRoot f3 fd3) (G_whole_root : FnOk P w K mg base (CX1 P w) 4 f3 fd3 ["whole"] spWRoot) (R : RooC K mg CR CE) (O : Own mg) : FnOk P w K mg base (CX1 P w) 5 f fd ["self", "power"] (spRAt CR) := by
  refine FnOk.up (F.ok scRAt (fun vs H Q E h => ?_) (fun cdv A outer s H vs Q E hr h => ?_))
  · obtain ⟨x, t, n, p, rfl, _⟩ := h
    rfl
  · obtain ⟨x, t, n, p, rfl, ⟨dx, e⟩, ht, h1, h2, k⟩ := h
    have hx : Catches (cxOf CX0 P w K mg base ["self", "power", "shift", "top", "bottom", "whole"] "Root.at" (defScope sRAtM) f cdv A outer s H E).nox EKF := catches0
    refine ⟨_, (pss_cons (ps_set (i := 2) scRAt.nd rfl (Or.inl rfl) (pe_op op_sub (pe_fld (pv 0) rfl) (pe_op op_mulK pe_int (pv 1))))
      (pss_cons (ps_set (i := 3) scRAt.nd rfl (Or.inl rfl) (pe_op op_mulK (pe_fld (pv 0) rfl) (pcall D_ten_to G_ten_to hr hx (pa_cons (pe_callB (call_max2 rfl) (by rfl) O.max_ boot_max (pa_cons (pv 2) (pa_cons pe_int pa_nil))) pa_nil))))
      (pss_cons (ps_set (i := 4) scRAt.nd rfl (Or.inl rfl) (pcall D_ten_to G_ten_to hr hx (pa_cons (pe_callB (call_max2 rfl) (by rfl) O.max_ boot_max (pa_cons (pe_un un_neg (pv 2)) (pa_cons pe_int pa_nil))) pa_nil)))
      (pss_cons (ps_set (i := 5) scRAt.nd rfl (Or.inl rfl) (pcall D_whole_root G_whole_root hr hx (pa_cons (pe_op op_fdivK (pv 3) (pv 4)) pa_nil)))
      (pss_cons (ps_if (pt_cmpR op_eq (pe_op op_mulK (pe_op op_mulK (pv 5) (pv 5)) (pv 4)) (pv 3) (nomark _)) (pss_one (ps_ret (pe_tup (pa_cons (pv 5) (pa_cons pe_int pa_nil))))) pss_nil)
      (pss_one (ps_ret (pe_tup (pa_cons (pv 5) (pa_cons (pcall D_part_of G_part_of hr hx (pa_cons (pe_op op_mulK pe_int (pv 3)) (pa_cons (pe_op op_mulK (pe_op op_mulK (pe_op op_add (pe_op op_mulK pe_int (pv 5)) pe_int) (pe_op op_add (pe_op op_mulK pe_int (pv 5)) pe_int)) (pv 4)) pa_nil))) pa_nil)))))))))), ?_⟩
    have z2 : 2 ≤ sizeLine := line1000 (by decide)
    have mC' : ∀ z n : Int, -(2 ^ 64) < n → n < 2 ^ 64 → IntMulOk n z := fun z n a b => CMul.ok (.inl ⟨a, b⟩)
    have oT : IntMulOk t (tenI (n - 2 * p)) := mulOk_small (Nat.lt_of_lt_of_le ht.small (p1000 (by decide))) (Nat.lt_of_lt_of_le (tenI_small h2) (p1000 (by decide)))
    refine ⟨_, rfl, x, CR, dx, _, _, rfl, e, R.cl, R.n_power, rat_power _ _, _, rfl, _, _, rfl, rfl, mC' _ _ (by decide) (by decide), _, _, rfl, rfl, ?_⟩
    refine ⟨_, rfl, x, CR, dx, _, _, rfl, e, R.cl, R.n_top, rat_top _ _, _, rfl, _, _, rfl, (n - 2 * p).toNat, congrArg (fun z => [V.int z]) (maxT (n - 2 * p)), by omega, _, _, rfl, rfl, oT, ?_⟩
    refine ⟨_, rfl, _, rfl, _, _, rfl, (-(n - 2 * p)).toNat, congrArg (fun z => [V.int z]) (maxT (-(n - 2 * p))), by omega, ?_⟩
    have lp : 0 < tenI (-(n - 2 * p)) := tenI_pos _
    have ll : (tenI (-(n - 2 * p))).natAbs.log2 < 9000 := Nat.lt_trans (log2_small (tenI_small (by omega)) (by decide)) (by decide)
    have hp : 0 < t * tenI (n - 2 * p) := Int.mul_pos (by have := ht.1; omega) (tenI_pos _)
    have hs := sz_prod ht h2
    obtain ⟨hi, ehi⟩ := Int.eq_ofNat_of_zero_le (Int.le_of_lt hp)
    obtain ⟨lo, elo⟩ := Int.eq_ofNat_of_zero_le (Int.le_of_lt lp)
    have b300 : hi / lo < 10 ^ 300 := by
      have a : hi < 2 ^ 903 := by rw [ehi, Int.natAbs_natCast] at hs; exact hs
      exact Nat.lt_of_le_of_lt (Nat.div_le_self _ _) (Nat.lt_trans a (by decide +kernel))
    refine ⟨_, rfl, _, rfl, _, _, rfl, rfl, ⟨lp, ll⟩, hi / lo, (by show [V.int (t * tenI (n - 2 * p) / tenI (-(n - 2 * p)))] = _; rw [ehi, elo]; rfl), b300, fun r r1 r2 => ?_⟩
    have lo0 : 0 < lo := by omega
    have rt : IsRoot t (n - 2 * p) (r : Int) := by
      refine ⟨by omega, ?_, ?_⟩
      · rw [ehi, elo]
        have := (Nat.le_div_iff_mul_le lo0).mp r1
        exact Int.ofNat_le.mpr this
      · rw [ehi, elo]
        have := (Nat.div_lt_iff_lt_mul lo0).mp r2
        exact Int.ofNat_lt.mpr this
    have m := muls_of ht h1 h2 rt
    refine ⟨_, rfl, _, rfl, _, _, rfl, rfl, m.o2, _, rfl, _, _, rfl, rfl, m.o3, _, rfl, rfl, _, rfl, iteD (fun he => ?_) (fun hn => ?_)⟩
    · have he : (r : Int) * r * tenI (-(n - 2 * p)) = t * tenI (n - 2 * p) := by injection he
      refine ⟨_, rfl, z2, fun q nq => k r q _ (Same.upd nq) nq rt ?_⟩
      rw [upd_same]
      unfold rptI
      rw [if_pos he]
    · have hn : ¬ (r : Int) * r * tenI (-(n - 2 * p)) = t * tenI (n - 2 * p) := fun z => hn (congrArg V.int z)
      have m0 : 0 < (2 * (r : Int) + 1) * (2 * (r : Int) + 1) * tenI (-(n - 2 * p)) := Int.mul_pos (Int.mul_pos (by omega) (by omega)) lp
      refine ⟨_, rfl, _, rfl, _, _, rfl, rfl, mC' _ _ (by decide) (by decide), _, rfl, _, _, rfl, rfl, mC' _ _ (by decide) (by decide), _, _, rfl, rfl, _, rfl, _, _, rfl, rfl, mC' _ _ (by decide) (by decide), _, _, rfl, rfl, _, _, rfl, rfl, m.o6, _, rfl, _, _, rfl, rfl, m.o7, 2 * (t * tenI (n - 2 * p)), (2 * (r : Int) + 1) * (2 * (r : Int) + 1) * tenI (-(n - 2 * p)), ?_, by omega, m0, z2, fun q nq => k r q _ (Same.upd nq) nq rt ?_⟩
      · show [V.int (4 * (t * tenI (n - 2 * p))), _] = [V.int (2 * (2 * (t * tenI (n - 2 * p)))), _]
        rw [show 2 * (2 * (t * tenI (n - 2 * p))) = 4 * (t * tenI (n - 2 * p)) by omega]
        rfl
      · rw [upd_same, partI_4 hp]
        unfold rptI
        rw [if_neg hn]
end
end TR
set_option Elab.async false
set_option linter.all false
set_option maxRecDepth 100000
set_option maxHeartbeats 4000000
namespace TR
open PySem L2 PySem.W PyProof.Rows
theorem all_mk {l : OpenLaw} {w : World} {K : Frag} {h : Heap} {mg : Str → Option Value} {fa CR fI_CR aD_CR f_first_CR f_at_CR CE f_product f_tento f_partof f_wlead f_wroot f_cell f_mixed f_ten f_top f_pair f_sides f_first f_atr f_law : Addr} (X : K.In h) (G : h.Ns mainGlobals mg) (hfa : mg "law" = some (.ref fa))
    {od_product an_product : Option Addr} {sl_product : Array (Option Value)} {oc_product kV_product dc_product pm_product cd_product ct_product : Value}
    (a_product : nsIn K mainGlobals "product_of" = some (some (.ref f_product))) (l_product : K.lookup f_product = some ⟨oc_product, od_product, .func (fnOf "product_of" "product_of" (defArgs sProductOf) (defBody sProductOf) (defScope sProductOf) .none kV_product dc_product pm_product an_product cd_product ct_product), sl_product⟩) (c_product : codeIn K cd_product "product_of" = true) (k_product : keepIn K (.ref f_product) = true)
    {od_tento an_tento : Option Addr} {sl_tento : Array (Option Value)} {oc_tento kV_tento dc_tento pm_tento cd_tento ct_tento : Value}
    (a_tento : nsIn K mainGlobals "ten_to" = some (some (.ref f_tento))) (l_tento : K.lookup f_tento = some ⟨oc_tento, od_tento, .func (fnOf "ten_to" "ten_to" (defArgs sTenTo) (defBody sTenTo) (defScope sTenTo) .none kV_tento dc_tento pm_tento an_tento cd_tento ct_tento), sl_tento⟩) (c_tento : codeIn K cd_tento "ten_to" = true) (k_tento : keepIn K (.ref f_tento) = true)
    {od_partof an_partof : Option Addr} {sl_partof : Array (Option Value)} {oc_partof kV_partof dc_partof pm_partof cd_partof ct_partof : Value}
    (a_partof : nsIn K mainGlobals "part_of" = some (some (.ref f_partof))) (l_partof : K.lookup f_partof = some ⟨oc_partof, od_partof, .func (fnOf "part_of" "part_of" (defArgs sPartOf) (defBody sPartOf) (defScope sPartOf) .none kV_partof dc_partof pm_partof an_partof cd_partof ct_partof), sl_partof⟩) (c_partof : codeIn K cd_partof "part_of" = true) (k_partof : keepIn K (.ref f_partof) = true)
    {od_wlead an_wlead : Option Addr} {sl_wlead : Array (Option Value)} {oc_wlead kV_wlead dc_wlead pm_wlead cd_wlead ct_wlead : Value}
    (a_wlead : nsIn K mainGlobals "whole_lead" = some (some (.ref f_wlead))) (l_wlead : K.lookup f_wlead = some ⟨oc_wlead, od_wlead, .func (fnOf "whole_lead" "whole_lead" (defArgs sWLead) (defBody sWLead) (defScope sWLead) .none kV_wlead dc_wlead pm_wlead an_wlead cd_wlead ct_wlead), sl_wlead⟩) (c_wlead : codeIn K cd_wlead "whole_lead" = true) (k_wlead : keepIn K (.ref f_wlead) = true)
    {od_wroot an_wroot : Option Addr} {sl_wroot : Array (Option Value)} {oc_wroot kV_wroot dc_wroot pm_wroot cd_wroot ct_wroot : Value}
    (a_wroot : nsIn K mainGlobals "whole_root" = some (some (.ref f_wroot))) (l_wroot : K.lookup f_wroot = some ⟨oc_wroot, od_wroot, .func (fnOf "whole_root" "whole_root" (defArgs sWRoot) (defBody sWRoot) (defScope sWRoot) .none kV_wroot dc_wroot pm_wroot an_wroot cd_wroot ct_wroot), sl_wroot⟩) (c_wroot : codeIn K cd_wroot "whole_root" = true) (k_wroot : keepIn K (.ref f_wroot) = true)
    {od_cell an_cell : Option Addr} {sl_cell : Array (Option Value)} {oc_cell kV_cell dc_cell pm_cell cd_cell ct_cell : Value}
    (a_cell : nsIn K mainGlobals "_law_cell_at" = some (some (.ref f_cell))) (l_cell : K.lookup f_cell = some ⟨oc_cell, od_cell, .func (fnOf "_law_cell_at" "_law_cell_at" (defArgs sCell) (defBody sCell) (defScope sCell) .none kV_cell dc_cell pm_cell an_cell cd_cell ct_cell), sl_cell⟩) (c_cell : codeIn K cd_cell "_law_cell_at" = true) (k_cell : keepIn K (.ref f_cell) = true)
    {od_mixed an_mixed : Option Addr} {sl_mixed : Array (Option Value)} {oc_mixed kV_mixed dc_mixed pm_mixed cd_mixed ct_mixed : Value}
    (a_mixed : nsIn K mainGlobals "_law_mixed" = some (some (.ref f_mixed))) (l_mixed : K.lookup f_mixed = some ⟨oc_mixed, od_mixed, .func (fnOf "_law_mixed" "_law_mixed" (defArgs sMixed) (defBody sMixed) (defScope sMixed) .none kV_mixed dc_mixed pm_mixed an_mixed cd_mixed ct_mixed), sl_mixed⟩) (c_mixed : codeIn K cd_mixed "_law_mixed" = true) (k_mixed : keepIn K (.ref f_mixed) = true)
    {od_ten an_ten : Option Addr} {sl_ten : Array (Option Value)} {oc_ten kV_ten dc_ten pm_ten cd_ten ct_ten : Value}
    (a_ten : nsIn K mainGlobals "_law_ten" = some (some (.ref f_ten))) (l_ten : K.lookup f_ten = some ⟨oc_ten, od_ten, .func (fnOf "_law_ten" "_law_ten" (defArgs sTenT) (defBody sTenT) (defScope sTenT) .none kV_ten dc_ten pm_ten an_ten cd_ten ct_ten), sl_ten⟩) (c_ten : codeIn K cd_ten "_law_ten" = true) (k_ten : keepIn K (.ref f_ten) = true)
    {od_top an_top : Option Addr} {sl_top : Array (Option Value)} {oc_top kV_top dc_top pm_top cd_top ct_top : Value}
    (a_top : nsIn K mainGlobals "_law_top" = some (some (.ref f_top))) (l_top : K.lookup f_top = some ⟨oc_top, od_top, .func (fnOf "_law_top" "_law_top" (defArgs sTop) (defBody sTop) (defScope sTop) .none kV_top dc_top pm_top an_top cd_top ct_top), sl_top⟩) (c_top : codeIn K cd_top "_law_top" = true) (k_top : keepIn K (.ref f_top) = true)
    {od_pair an_pair : Option Addr} {sl_pair : Array (Option Value)} {oc_pair kV_pair dc_pair pm_pair cd_pair ct_pair : Value}
    (a_pair : nsIn K mainGlobals "_law_pair" = some (some (.ref f_pair))) (l_pair : K.lookup f_pair = some ⟨oc_pair, od_pair, .func (fnOf "_law_pair" "_law_pair" (defArgs sPair) (defBody sPair) (defScope sPair) .none kV_pair dc_pair pm_pair an_pair cd_pair ct_pair), sl_pair⟩) (c_pair : codeIn K cd_pair "_law_pair" = true) (k_pair : keepIn K (.ref f_pair) = true)
    {od_sides an_sides : Option Addr} {sl_sides : Array (Option Value)} {oc_sides kV_sides dc_sides pm_sides cd_sides ct_sides : Value}
    (a_sides : nsIn K mainGlobals "_law_sides" = some (some (.ref f_sides))) (l_sides : K.lookup f_sides = some ⟨oc_sides, od_sides, .func (fnOf "_law_sides" "_law_sides" (defArgs sSides) (defBody sSides) (defScope sSides) .none kV_sides dc_sides pm_sides an_sides cd_sides ct_sides), sl_sides⟩) (c_sides : codeIn K cd_sides "_law_sides" = true) (k_sides : keepIn K (.ref f_sides) = true)
    {od_first an_first : Option Addr} {sl_first : Array (Option Value)} {oc_first kV_first dc_first pm_first cd_first ct_first : Value}
    (a_first : nsIn K mainGlobals "_law_first_right" = some (some (.ref f_first))) (l_first : K.lookup f_first = some ⟨oc_first, od_first, .func (fnOf "_law_first_right" "_law_first_right" (defArgs sFirst) (defBody sFirst) (defScope sFirst) .none kV_first dc_first pm_first an_first cd_first ct_first), sl_first⟩) (c_first : codeIn K cd_first "_law_first_right" = true) (k_first : keepIn K (.ref f_first) = true)
    {od_atr an_atr : Option Addr} {sl_atr : Array (Option Value)} {oc_atr kV_atr dc_atr pm_atr cd_atr ct_atr : Value}
    (a_atr : nsIn K mainGlobals "_law_at_right" = some (some (.ref f_atr))) (l_atr : K.lookup f_atr = some ⟨oc_atr, od_atr, .func (fnOf "_law_at_right" "_law_at_right" (defArgs sAtR) (defBody sAtR) (defScope sAtR) .none kV_atr dc_atr pm_atr an_atr cd_atr ct_atr), sl_atr⟩) (c_atr : codeIn K cd_atr "_law_at_right" = true) (k_atr : keepIn K (.ref f_atr) = true)
    {od_law an_law : Option Addr} {sl_law : Array (Option Value)} {oc_law kV_law dc_law pm_law cd_law ct_law : Value}
    (a_law : nsIn K mainGlobals "law" = some (some (.ref f_law))) (l_law : K.lookup f_law = some ⟨oc_law, od_law, .func (fnOf "law" "law" (defArgs sLaw) (defBody sLaw) (defScope sLaw) .none kV_law dc_law pm_law an_law cd_law ct_law), sl_law⟩) (c_law : codeIn K cd_law "law" = true) (k_law : keepIn K (.ref f_law) = true)
    (z_isinstance : nsIn K mainGlobals "isinstance" = some none)
    (z_int : nsIn K mainGlobals "int" = some none)
    (z_bool : nsIn K mainGlobals "bool" = some none)
    (z_str : nsIn K mainGlobals "str" = some none)
    (z_list : nsIn K mainGlobals "list" = some none)
    (z_tuple : nsIn K mainGlobals "tuple" = some none)
    (z_dict : nsIn K mainGlobals "dict" = some none)
    (z_len : nsIn K mainGlobals "len" = some none)
    (z_range : nsIn K mainGlobals "range" = some none)
    (z_min : nsIn K mainGlobals "min" = some none)
    (z_max : nsIn K mainGlobals "max" = some none)
    (z_abs : nsIn K mainGlobals "abs" = some none)
    (z_any : nsIn K mainGlobals "any" = some none)
    (z_all : nsIn K mainGlobals "all" = some none)
    (z_sum : nsIn K mainGlobals "sum" = some none)
    (z_repr : nsIn K mainGlobals "repr" = some none)
    (z_enumerate : nsIn K mainGlobals "enumerate" = some none)
    (z_reversed : nsIn K mainGlobals "reversed" = some none)
    (z_zip : nsIn K mainGlobals "zip" = some none)
    (z_sorted : nsIn K mainGlobals "sorted" = some none)
    (z_divmod : nsIn K mainGlobals "divmod" = some none)
    (z_set : nsIn K mainGlobals "set" = some none)
    (z_ValueError : nsIn K mainGlobals "ValueError" = some none)
    (kt_int_int : kitOne K (.type "int") (.type "int") = some true)
    (kt_int_bool : kitOne K (.type "int") (.type "bool") = some false)
    (kt_int_str : kitOne K (.type "int") (.type "str") = some false)
    (kt_int_list : kitOne K (.type "int") (.type "list") = some false)
    (kt_int_tuple : kitOne K (.type "int") (.type "tuple") = some false)
    (kt_int_dict : kitOne K (.type "int") (.type "dict") = some false)
    (kt_bool_int : kitOne K (.type "bool") (.type "int") = some true)
    (kt_bool_bool : kitOne K (.type "bool") (.type "bool") = some true)
    (kt_bool_str : kitOne K (.type "bool") (.type "str") = some false)
    (kt_bool_list : kitOne K (.type "bool") (.type "list") = some false)
    (kt_bool_tuple : kitOne K (.type "bool") (.type "tuple") = some false)
    (kt_bool_dict : kitOne K (.type "bool") (.type "dict") = some false)
    (kt_str_int : kitOne K (.type "str") (.type "int") = some false)
    (kt_str_bool : kitOne K (.type "str") (.type "bool") = some false)
    (kt_str_str : kitOne K (.type "str") (.type "str") = some true)
    (kt_str_list : kitOne K (.type "str") (.type "list") = some false)
    (kt_str_tuple : kitOne K (.type "str") (.type "tuple") = some false)
    (kt_str_dict : kitOne K (.type "str") (.type "dict") = some false)
    (kt_list_int : kitOne K (.type "list") (.type "int") = some false)
    (kt_list_bool : kitOne K (.type "list") (.type "bool") = some false)
    (kt_list_str : kitOne K (.type "list") (.type "str") = some false)
    (kt_list_list : kitOne K (.type "list") (.type "list") = some true)
    (kt_list_tuple : kitOne K (.type "list") (.type "tuple") = some false)
    (kt_list_dict : kitOne K (.type "list") (.type "dict") = some false)
    (kt_tuple_int : kitOne K (.type "tuple") (.type "int") = some false)
    (kt_tuple_bool : kitOne K (.type "tuple") (.type "bool") = some false)
    (kt_tuple_str : kitOne K (.type "tuple") (.type "str") = some false)
    (kt_tuple_list : kitOne K (.type "tuple") (.type "list") = some false)
    (kt_tuple_tuple : kitOne K (.type "tuple") (.type "tuple") = some true)
    (kt_tuple_dict : kitOne K (.type "tuple") (.type "dict") = some false)
    (kt_dict_int : kitOne K (.type "dict") (.type "int") = some false)
    (kt_dict_bool : kitOne K (.type "dict") (.type "bool") = some false)
    (kt_dict_str : kitOne K (.type "dict") (.type "str") = some false)
    (kt_dict_list : kitOne K (.type "dict") (.type "list") = some false)
    (kt_dict_tuple : kitOne K (.type "dict") (.type "tuple") = some false)
    (kt_dict_dict : kitOne K (.type "dict") (.type "dict") = some true)
    (kt_NoneType_int : kitOne K (.type "NoneType") (.type "int") = some false)
    (kt_NoneType_bool : kitOne K (.type "NoneType") (.type "bool") = some false)
    (kt_NoneType_str : kitOne K (.type "NoneType") (.type "str") = some false)
    (kt_NoneType_list : kitOne K (.type "NoneType") (.type "list") = some false)
    (kt_NoneType_tuple : kitOne K (.type "NoneType") (.type "tuple") = some false)
    (kt_NoneType_dict : kitOne K (.type "NoneType") (.type "dict") = some false)
    (sn : specialIn K (.builtin "object.__class__") "__get__" = some (some (.builtin "getset_descriptor.__get__")))
    (tk : takesIn K (.builtin "object.__class__") = some true)
    (a_CR : nsIn K mainGlobals "Root" = some (some (.ref CR)))
    (pg_CR : plainGet K CR Str.empty = true)
    (hd_CR : hasDictIn K CR = true)
    (po_CR : plainOver K CR = true)
    (sa_CR : findIn K (.ref CR) "__setattr__" = some (some (.builtin "object.__setattr__")))
    (mk_CR : makesIn K CR = true)
    (kc_CR : keepIn K (.ref CR) = true)
    (ca_CR : findIn K (.ref CR) "__class__" = some (some (.builtin "object.__class__")))
    (ob_CR : mroIn K CR (.type "object") = some true)
    (n_CR_top : findIn K (.ref CR) "top" = some none)
    (n_CR_power : findIn K (.ref CR) "power" = some none)
    (aI_CR : findIn K (.ref CR) "__init__" = some (some (.ref fI_CR)))
    (iI_CR : isFn K (.ref fI_CR) = true)
    {od_iCR an_iCR : Option Addr} {sl_iCR : Array (Option Value)} {oc_iCR kV_iCR dc_iCR pm_iCR cd_iCR ct_iCR : Value} (l_iCR : K.lookup fI_CR = some ⟨oc_iCR, od_iCR, .func (fnOf "__init__" "Root.__init__" (defArgs sRInit) (defBody sRInit) (defScope sRInit) (.ref aD_CR) kV_iCR dc_iCR pm_iCR an_iCR cd_iCR ct_iCR), sl_iCR⟩)
    (c_iCR : codeIn K cd_iCR "Root.__init__" = true)
    (k_iCR : keepIn K (.ref fI_CR) = true)
    {t0_CR : Tok} {nD_CR : Nat} {odD_CR : Option Addr} {ocD_CR : Value} {slD_CR : Array (Option Value)} (lD_CR : K.lookup aD_CR = some ⟨ocD_CR, odD_CR, .seq #[.int 0 t0_CR] nD_CR, slD_CR⟩)
    (m_first_CR : findIn K (.ref CR) "first" = some (some (.ref f_first_CR)))
    (i_first_CR : isFn K (.ref f_first_CR) = true)
    {od_first_CR an_first_CR : Option Addr} {sl_first_CR : Array (Option Value)} {oc_first_CR kV_first_CR dc_first_CR pm_first_CR cd_first_CR ct_first_CR : Value} (l_first_CR : K.lookup f_first_CR = some ⟨oc_first_CR, od_first_CR, .func (fnOf "first" "Root.first" (defArgs sRFirstM) (defBody sRFirstM) (defScope sRFirstM) .none kV_first_CR dc_first_CR pm_first_CR an_first_CR cd_first_CR ct_first_CR), sl_first_CR⟩)
    (c_first_CR : codeIn K cd_first_CR "Root.first" = true)
    (k_first_CR : keepIn K (.ref f_first_CR) = true)
    (m_at_CR : findIn K (.ref CR) "at" = some (some (.ref f_at_CR)))
    (i_at_CR : isFn K (.ref f_at_CR) = true)
    {od_at_CR an_at_CR : Option Addr} {sl_at_CR : Array (Option Value)} {oc_at_CR kV_at_CR dc_at_CR pm_at_CR cd_at_CR ct_at_CR : Value} (l_at_CR : K.lookup f_at_CR = some ⟨oc_at_CR, od_at_CR, .func (fnOf "at" "Root.at" (defArgs sRAtM) (defBody sRAtM) (defScope sRAtM) .none kV_at_CR dc_at_CR pm_at_CR an_at_CR cd_at_CR ct_at_CR), sl_at_CR⟩)
    (c_at_CR : codeIn K cd_at_CR "Root.at" = true)
    (k_at_CR : keepIn K (.ref f_at_CR) = true)
    (a_CE : nsIn K mainGlobals "Exact" = some (some (.ref CE)))
    (up_CR : kitOne K (.ref CR) (.ref CE) = some true) :
    ∃ fd : FuncData, (∀ (s : Shared) (v : Value), BindsTo s fd ⟨[v], []⟩ [("_law_script", v)]) ∧ ∀ base : Heap, K.In base → base.Ns mainGlobals mg → FnOk l.prog w K mg base (CX1 l.prog w) 6 fa fd ["_law_script"] (spLaw K) := by
  have e := hfa.symm.trans (mg_of X G a_law)
  cases e
  have D_product := def_mk (ps := ["whole", "count"]) (st := sProductOf) X G a_product l_product c_product k_product fun _ _ _ _ _ _ us hl => match us, hl with | [_, _], _ => rfl
  have D_tento := def_mk (ps := ["count"]) (st := sTenTo) X G a_tento l_tento c_tento k_tento fun _ _ _ _ _ _ us hl => match us, hl with | [_], _ => rfl
  have D_partof := def_mk (ps := ["size", "middle"]) (st := sPartOf) X G a_partof l_partof c_partof k_partof fun _ _ _ _ _ _ us hl => match us, hl with | [_, _], _ => rfl
  have D_wlead := def_mk (ps := ["whole"]) (st := sWLead) X G a_wlead l_wlead c_wlead k_wlead fun _ _ _ _ _ _ us hl => match us, hl with | [_], _ => rfl
  have D_wroot := def_mk (ps := ["whole"]) (st := sWRoot) X G a_wroot l_wroot c_wroot k_wroot fun _ _ _ _ _ _ us hl => match us, hl with | [_], _ => rfl
  have D_cell := def_mk (ps := ["_law_script", "_law_k"]) (st := sCell) X G a_cell l_cell c_cell k_cell fun _ _ _ _ _ _ us hl => match us, hl with | [_, _], _ => rfl
  have D_mixed := def_mk (ps := ["_law_cell", "_law_k"]) (st := sMixed) X G a_mixed l_mixed c_mixed k_mixed fun _ _ _ _ _ _ us hl => match us, hl with | [_, _], _ => rfl
  have D_ten := def_mk (ps := ["_law_count"]) (st := sTenT) X G a_ten l_ten c_ten k_ten fun _ _ _ _ _ _ us hl => match us, hl with | [_], _ => rfl
  have D_top := def_mk (ps := ["_law_cell"]) (st := sTop) X G a_top l_top c_top k_top fun _ _ _ _ _ _ us hl => match us, hl with | [_], _ => rfl
  have D_pair := def_mk (ps := ["_law_found"]) (st := sPair) X G a_pair l_pair c_pair k_pair fun _ _ _ _ _ _ us hl => match us, hl with | [_], _ => rfl
  have D_sides := def_mk (ps := ["_law_top_here", "_law_shift"]) (st := sSides) X G a_sides l_sides c_sides k_sides fun _ _ _ _ _ _ us hl => match us, hl with | [_, _], _ => rfl
  have D_first := def_mk (ps := ["_law_found", "_law_top_here", "_law_ten_here"]) (st := sFirst) X G a_first l_first c_first k_first fun _ _ _ _ _ _ us hl => match us, hl with | [_, _, _], _ => rfl
  have D_atr := def_mk (ps := ["_law_found", "_law_top_here", "_law_shift"]) (st := sAtR) X G a_atr l_atr c_atr k_atr fun _ _ _ _ _ _ us hl => match us, hl with | [_, _, _], _ => rfl
  have D_law := def_mk (ps := ["_law_script"]) (st := sLaw) X G a_law l_law c_law k_law fun _ _ _ _ _ _ us hl => match us, hl with | [_], _ => rfl
  have O : Own mg := ⟨mg_none_of X G z_isinstance, mg_none_of X G z_int, mg_none_of X G z_bool, mg_none_of X G z_str, mg_none_of X G z_list, mg_none_of X G z_tuple, mg_none_of X G z_dict, mg_none_of X G z_len, mg_none_of X G z_range, mg_none_of X G z_min, mg_none_of X G z_max, mg_none_of X G z_abs, mg_none_of X G z_any, mg_none_of X G z_all, mg_none_of X G z_sum, mg_none_of X G z_repr, mg_none_of X G z_enumerate, mg_none_of X G z_reversed, mg_none_of X G z_zip, mg_none_of X G z_sorted, mg_none_of X G z_divmod, mg_none_of X G z_set, mg_none_of X G z_ValueError⟩
  have T : Kit K := ⟨kt_int_int, kt_int_bool, kt_int_str, kt_int_list, kt_int_tuple, kt_int_dict, kt_bool_int, kt_bool_bool, kt_bool_str, kt_bool_list, kt_bool_tuple, kt_bool_dict, kt_str_int, kt_str_bool, kt_str_str, kt_str_list, kt_str_tuple, kt_str_dict, kt_list_int, kt_list_bool, kt_list_str, kt_list_list, kt_list_tuple, kt_list_dict, kt_tuple_int, kt_tuple_bool, kt_tuple_str, kt_tuple_list, kt_tuple_tuple, kt_tuple_dict, kt_dict_int, kt_dict_bool, kt_dict_str, kt_dict_list, kt_dict_tuple, kt_dict_dict, kt_NoneType_int, kt_NoneType_bool, kt_NoneType_str, kt_NoneType_list, kt_NoneType_tuple, kt_NoneType_dict⟩
  have cl_CR : Cls K CR := ⟨pg_CR, hd_CR, po_CR, sa_CR⟩
  have FI_CR := funD_mk (st := sRInit) l_iCR c_iCR k_iCR
  have M_CR : Mk K CR fI_CR := ⟨mk_CR, aI_CR, iI_CR, kc_CR⟩
  have F_first_CR := fun_mk (st := sRFirstM) l_first_CR c_first_CR k_first_CR
  have b_first_CR := F_first_CR.binds (ps := ["self"]) fun _ _ _ _ _ _ us hl => match us, hl with | [_], _ => rfl
  have me_first_CR : Meth K CR "first" f_first_CR := ⟨m_first_CR, i_first_CR, k_first_CR⟩
  have F_at_CR := fun_mk (st := sRAtM) l_at_CR c_at_CR k_at_CR
  have b_at_CR := F_at_CR.binds (ps := ["self", "power"]) fun _ _ _ _ _ _ us hl => match us, hl with | [_, _], _ => rfl
  have me_at_CR : Meth K CR "at" f_at_CR := ⟨m_at_CR, i_at_CR, k_at_CR⟩
  have R : RooC K mg CR CE := ⟨mg_of X G a_CR, mg_of X G a_CE, cl_CR, n_CR_top, n_CR_power, ca_CR, sn, tk, ob_CR, up_CR⟩
  refine ⟨fnOf "law" "law" (defArgs sLaw) (defBody sLaw) (defScope sLaw) .none kV_law dc_law pm_law an_law cd_law ct_law, fun s v => .of_eq rfl, fun base _ _ => ?_⟩
  have M : MakeQ l.prog w K mg base CR fI_CR (fnOf "__init__" "Root.__init__" (defArgs sRInit) (defBody sRInit) (defScope sRInit) (.ref aD_CR) kV_iCR dc_iCR pm_iCR an_iCR cd_iCR ct_iCR) (.int 0 t0_CR) (fun us ws => match ws with | [a] => us ++ [a] | _ => []) (fun us ws => match ws with | [a] => us ++ [a] | _ => []) :=
    { m := M_CR
      g := ok_rInit FI_CR R
      b3 := bindsD rfl lD_CR rfl fun us hl => by obtain ⟨a, b, c, rfl⟩ := len3 (lenD hl); exact ⟨_, rfl, rfl⟩
      b2 := bindsD rfl lD_CR rfl fun us hl => by obtain ⟨a, b, rfl⟩ := len2 (lenD hl); exact ⟨_, rfl, rfl⟩
      r0 := ⟨_, rfl⟩
      kP := ⟨(fun s us ws XK hl => by
          rcases ws with _ | ⟨p, _ | ⟨q, t⟩⟩
          · cases hl
          · obtain ⟨a, b, rfl⟩ := len2 (lenD hl)
            exact binds_K XK rfl lD_CR rfl rfl rfl
          · cases hl), fun r z => match z with
        | .cons a .nil => r.append (.cons a .nil)
        | .nil => .nil
        | .cons _ (.cons _ _) => .nil⟩
      eP := fun _ _ _ => rfl }
  have Gten := ok_tenT (P := l.prog) (w := w) (base := base) D_ten O
  have Gto := ok_tenTo (P := l.prog) (w := w) (base := base) D_tento D_product (ok_productOf D_product)
  have Gwl := ok_wLead (P := l.prog) (w := w) (base := base) D_wlead D_tento Gto
  have Gat := ok_rAt (P := l.prog) (w := w) (base := base) F_at_CR D_tento Gto D_partof (ok_partOf D_partof) D_wroot (ok_wRoot D_wroot D_tento Gto D_wlead Gwl) R O
  have RM : RooM l.prog w K mg base CR f_first_CR f_at_CR _ _ := ⟨me_first_CR, ok_rFirst F_first_CR D_wlead Gwl R, b_first_CR, me_at_CR, Gat, b_at_CR⟩
  have Gsides := ok_sides (P := l.prog) (w := w) (base := base) D_sides D_ten Gten O
  exact ok_law D_law D_mixed (ok_mixed D_mixed) D_cell (ok_cell D_cell O) D_top (ok_top D_top D_ten Gten) D_first (ok_first D_first D_sides Gsides O T) D_atr (ok_atR D_atr D_sides Gsides D_pair (ok_pair D_pair O T) O T) M RM R O T
theorem walk {l : OpenLaw} {q : Program} {loose : List Str} {XP : (Str → Option Value) → Heap → Prop} {YP : World → Heap → Prop} {d : DefRec} {K : Params → Frag} (hn : l.most = some 63) (hdf : d.params.defaults = [])
    (hY : ∀ (w : World) (h : Heap), YP w h → (K w.params).In h)
    (F : ∀ (w : World) (mg : Str → Option Value) (fa : Addr) (h : Heap), (K w.params).In h → h.Ns mainGlobals mg → mg d.name = some (.ref fa) →
      ∃ fd : FuncData, (∀ (s : Shared) (u : Value), BindsTo s fd ⟨[u], []⟩ [("_law_script", u)]) ∧ ∀ base : Heap, (K w.params).In base → base.Ns mainGlobals mg → FnOk l.prog w (K w.params) mg base (CX1 l.prog w) 6 fa fd ["_law_script"] ((spLaw (K w.params)))) :
    WalkO q loose XP YP l.row.toRowW d [] (fun f vs => PySem.call f vs) :=
  L2.walk_of (n := 63) (k := 6) (x := "_law_script") (CX := fun w => CX1 l.prog w) (sp := fun w => (spLaw (K w.params))) hn (by decide) hdf ⟨rfl, by decide, by decide⟩ hY F (fun _ _ a ns hl _ hS => ⟨a, ns, rfl, hS, fun _ => rfl⟩) fun _ _ _ _ _ z => by
    obtain ⟨_, _, _, _, _, _, _, _, _, _, z, _⟩ := z
    exact z
end TR
set_option Elab.async false
set_option linter.all false
open PySem PySem.W PyProof.Rows
set_option maxRecDepth 100000 in
set_option maxHeartbeats 0 in
theorem PySem.Challenge.cw_tenreckon_k10_roots_holds : PySem.Challenge.rw_tenreckon_k10_roots.Holds := by
  w_on; o_law; k_head; (case hw => w_witness2)
  k_fill
  refine TR.walk (l := PySem.Challenge.rw_tenreckon_k10_roots) rfl rfl (fun w h Y => PySem.W.kIn_of Y) ?F
  case F =>
    intro w mg fa h KX G hmg
    refine' TR.all_mk KX G hmg ?a_product ?l_product ?c_product ?k_product ?a_tento ?l_tento ?c_tento ?k_tento ?a_partof ?l_partof ?c_partof ?k_partof ?a_wlead ?l_wlead ?c_wlead ?k_wlead ?a_wroot ?l_wroot ?c_wroot ?k_wroot ?a_cell ?l_cell ?c_cell ?k_cell ?a_mixed ?l_mixed ?c_mixed ?k_mixed ?a_ten ?l_ten ?c_ten ?k_ten ?a_top ?l_top ?c_top ?k_top ?a_pair ?l_pair ?c_pair ?k_pair ?a_sides ?l_sides ?c_sides ?k_sides ?a_first ?l_first ?c_first ?k_first ?a_atr ?l_atr ?c_atr ?k_atr ?a_law ?l_law ?c_law ?k_law ?z_isinstance ?z_int ?z_bool ?z_str ?z_list ?z_tuple ?z_dict ?z_len ?z_range ?z_min ?z_max ?z_abs ?z_any ?z_all ?z_sum ?z_repr ?z_enumerate ?z_reversed ?z_zip ?z_sorted ?z_divmod ?z_set ?z_ValueError ?kt_int_int ?kt_int_bool ?kt_int_str ?kt_int_list ?kt_int_tuple ?kt_int_dict ?kt_bool_int ?kt_bool_bool ?kt_bool_str ?kt_bool_list ?kt_bool_tuple ?kt_bool_dict ?kt_str_int ?kt_str_bool ?kt_str_str ?kt_str_list ?kt_str_tuple ?kt_str_dict ?kt_list_int ?kt_list_bool ?kt_list_str ?kt_list_list ?kt_list_tuple ?kt_list_dict ?kt_tuple_int ?kt_tuple_bool ?kt_tuple_str ?kt_tuple_list ?kt_tuple_tuple ?kt_tuple_dict ?kt_dict_int ?kt_dict_bool ?kt_dict_str ?kt_dict_list ?kt_dict_tuple ?kt_dict_dict ?kt_NoneType_int ?kt_NoneType_bool ?kt_NoneType_str ?kt_NoneType_list ?kt_NoneType_tuple ?kt_NoneType_dict ?sn ?tk ?a_CR ?pg_CR ?hd_CR ?po_CR ?sa_CR ?mk_CR ?kc_CR ?ca_CR ?ob_CR ?n_CR_top ?n_CR_power ?aI_CR ?iI_CR ?l_iCR ?c_iCR ?k_iCR ?lD_CR ?m_first_CR ?i_first_CR ?l_first_CR ?c_first_CR ?k_first_CR ?m_at_CR ?i_at_CR ?l_at_CR ?c_at_CR ?k_at_CR ?a_CE ?up_CR
    (case a_product => k_is); (case l_product => k_is); (case c_product => k_is); (case k_product => k_is); (case a_tento => k_is); (case l_tento => k_is); (case c_tento => k_is); (case k_tento => k_is)
    (case a_partof => k_is); (case l_partof => k_is); (case c_partof => k_is); (case k_partof => k_is); (case a_wlead => k_is); (case l_wlead => k_is); (case c_wlead => k_is); (case k_wlead => k_is)
    (case a_wroot => k_is); (case l_wroot => k_is); (case c_wroot => k_is); (case k_wroot => k_is); (case a_cell => k_is); (case l_cell => k_is); (case c_cell => k_is); (case k_cell => k_is)
    (case a_mixed => k_is); (case l_mixed => k_is); (case c_mixed => k_is); (case k_mixed => k_is); (case a_ten => k_is); (case l_ten => k_is); (case c_ten => k_is); (case k_ten => k_is)
    (case a_top => k_is); (case l_top => k_is); (case c_top => k_is); (case k_top => k_is); (case a_pair => k_is); (case l_pair => k_is); (case c_pair => k_is); (case k_pair => k_is)
    (case a_sides => k_is); (case l_sides => k_is); (case c_sides => k_is); (case k_sides => k_is); (case a_first => k_is); (case l_first => k_is); (case c_first => k_is); (case k_first => k_is)
    (case a_atr => k_is); (case l_atr => k_is); (case c_atr => k_is); (case k_atr => k_is); (case a_law => k_is); (case l_law => k_is); (case c_law => k_is); (case k_law => k_is)
    (case z_isinstance => k_is); (case z_int => k_is); (case z_bool => k_is); (case z_str => k_is); (case z_list => k_is); (case z_tuple => k_is); (case z_dict => k_is); (case z_len => k_is)
    (case z_range => k_is); (case z_min => k_is); (case z_max => k_is); (case z_abs => k_is); (case z_any => k_is); (case z_all => k_is); (case z_sum => k_is); (case z_repr => k_is)
    (case z_enumerate => k_is); (case z_reversed => k_is); (case z_zip => k_is); (case z_sorted => k_is); (case z_divmod => k_is); (case z_set => k_is); (case z_ValueError => k_is); (case kt_int_int => kit_is)
    (case kt_int_bool => kit_is); (case kt_int_str => kit_is); (case kt_int_list => kit_is); (case kt_int_tuple => kit_is); (case kt_int_dict => kit_is); (case kt_bool_int => kit_is); (case kt_bool_bool => kit_is); (case kt_bool_str => kit_is)
    (case kt_bool_list => kit_is); (case kt_bool_tuple => kit_is); (case kt_bool_dict => kit_is); (case kt_str_int => kit_is); (case kt_str_bool => kit_is); (case kt_str_str => kit_is); (case kt_str_list => kit_is); (case kt_str_tuple => kit_is)
    (case kt_str_dict => kit_is); (case kt_list_int => kit_is); (case kt_list_bool => kit_is); (case kt_list_str => kit_is); (case kt_list_list => kit_is); (case kt_list_tuple => kit_is); (case kt_list_dict => kit_is); (case kt_tuple_int => kit_is)
    (case kt_tuple_bool => kit_is); (case kt_tuple_str => kit_is); (case kt_tuple_list => kit_is); (case kt_tuple_tuple => kit_is); (case kt_tuple_dict => kit_is); (case kt_dict_int => kit_is); (case kt_dict_bool => kit_is); (case kt_dict_str => kit_is)
    (case kt_dict_list => kit_is); (case kt_dict_tuple => kit_is); (case kt_dict_dict => kit_is); (case kt_NoneType_int => kit_is); (case kt_NoneType_bool => kit_is); (case kt_NoneType_str => kit_is); (case kt_NoneType_list => kit_is); (case kt_NoneType_tuple => kit_is)
    (case kt_NoneType_dict => kit_is); (case sn => k_is); (case tk => k_is); (case a_CR => k_is); (case pg_CR => k_is); (case hd_CR => k_is); (case po_CR => k_is); (case sa_CR => k_is)
    (case mk_CR => k_is); (case kc_CR => k_is); (case ca_CR => k_is); (case ob_CR => k_is); (case n_CR_top => k_is); (case n_CR_power => k_is); (case aI_CR => k_is); (case iI_CR => k_is)
    (case l_iCR => k_is); (case c_iCR => k_is); (case k_iCR => k_is); (case lD_CR => k_is); (case m_first_CR => k_is); (case i_first_CR => k_is); (case l_first_CR => k_is); (case c_first_CR => k_is)
    (case k_first_CR => k_is); (case m_at_CR => k_is); (case i_at_CR => k_is); (case l_at_CR => k_is); (case c_at_CR => k_is); (case k_at_CR => k_is); (case a_CE => k_is); (case up_CR => kit_is)

