import PyProof.Rows.All
import Wide.All
import OpenK.AllK
import Wide.FinOn
import Lean
import PyProof.EqAt
import PyProof.EqKinds
import PyProof.TupleCall
import PyProof.Rows.Catch
import PyProof.Rows.TupIter
import PyProof.TupleIter
import PyProof.Seq
import PyProof.ExcInit
import PyProof.ExcClass2
import KE.KIntText
import PyProof.StrOps2
import PyProof.ConsumeWalk
import PyProof.Rows.RuleM_int
import PyProof.ZipIter
import PyProof.EnumMake
import PySem.Challenge.RW_tenreckon_k26_whole_powers
set_option Elab.async false
set_option linter.all false
set_option maxRecDepth 100000
/-! THE HAND LAYER, for ints, bools, texts, own classes, LISTS and tuples (index, slices, in, append, pop ..), calls, loops. Paste it whole ahead of your own text; what your proof does not reach may be deleted. -/
namespace L2
open PySem PySem.Spec PyProof.Rows

/-- a key: an int or a str -/
abbrev Key := Sum Int Str
def keyIs : Key → Value → Bool
  | .inl k, v => Value.isInt k v
  | .inr x, v => Value.isStrOf x v
def keyH (w : World) : Key → Int
  | .inl k => hashInt k
  | .inr x => hashStr w x
theorem keyIs_shape : ∀ {k : Key} {v : Value}, keyIs k v = true → (∃ i t, k = Sum.inl i ∧ v = Value.int i t) ∨ (∃ x t, k = Sum.inr x ∧ v = Value.str x t)
  | .inl i, v, h => by
    obtain ⟨t, e⟩ := Value.isInt_shape (k := i) (v := v) h
    exact .inl ⟨i, t, rfl, e⟩
  | .inr x, v, h => by
    obtain ⟨t, e⟩ := Value.isStrOf_shape (x := x) (v := v) h
    exact .inr ⟨x, t, rfl, e⟩
theorem key_ll (a b : Int) : decide ((Sum.inl a : Key) = Sum.inl b) = (a == b) := by
  by_cases e : a = b
  · subst e; simp
  · have h : ¬ (Sum.inl a : Key) = Sum.inl b := fun q => e (Sum.inl.inj q)
    rw [decide_eq_false h]
    exact (beq_eq_false_iff_ne.mpr e).symm
theorem key_rr (a b : Str) : decide ((Sum.inr a : Key) = Sum.inr b) = decide (a = b) := by
  by_cases e : a = b
  · subst e; simp
  · have h : ¬ (Sum.inr a : Key) = Sum.inr b := fun q => e (Sum.inr.inj q)
    rw [decide_eq_false h, decide_eq_false e]
theorem key_lr (a : Int) (b : Str) : decide ((Sum.inl a : Key) = Sum.inr b) = false := decide_eq_false (fun q => nomatch q)
theorem key_rl (a : Str) (b : Int) : decide ((Sum.inr a : Key) = Sum.inl b) = false := decide_eq_false (fun q => nomatch q)

def mixKind (prog : Program) (w : World) : PySem.KeyKind prog w Key where
  is := keyIs
  hash := keyH w
  inj := fun v a b ha hb => by
    rcases keyIs_shape ha with ⟨i, t, rfl, rfl⟩ | ⟨x, t, rfl, rfl⟩
    · rcases keyIs_shape hb with ⟨j, u, rfl, e⟩ | ⟨y, u, rfl, e⟩
      · injection e with e1 _; rw [e1]
      · exact nomatch e
    · rcases keyIs_shape hb with ⟨j, u, rfl, e⟩ | ⟨y, u, rfl, e⟩
      · exact nomatch e
      · injection e with e1 _; rw [e1]
  byValue := fun k v h => by
    rcases keyIs_shape h with ⟨i, t, rfl, rfl⟩ | ⟨x, t, rfl, rfl⟩ <;> rfl
  pyHash := fun hv h => by
    rcases keyIs_shape hv with ⟨i, t, rfl, rfl⟩ | ⟨x, t, rfl, rfl⟩
    · exact wpAny_pyHash_int h
    · exact wpAny_pyHash_str h
  eqBool := fun hu hv h => by
    rcases keyIs_shape hu with ⟨i, t, rfl, rfl⟩ | ⟨x, t, rfl, rfl⟩
    · rcases keyIs_shape hv with ⟨j, u, rfl, rfl⟩ | ⟨y, u, rfl, rfl⟩
      · rw [key_ll] at h; exact wpAny_eqBool_int h
      · rw [key_lr] at h; exact SeqAt.EqAt.int_str i t y u _ _ _ _ h
    · rcases keyIs_shape hv with ⟨j, u, rfl, rfl⟩ | ⟨y, u, rfl, rfl⟩
      · rw [key_rl] at h; exact SeqAt.EqAt.str_int x t j u _ _ _ _ h
      · rw [key_rr] at h; exact wpAny_eqBool_str h
  «strs» := fun k x t v h => by
    rcases keyIs_shape h with ⟨i, u, rfl, e⟩ | ⟨y, u, rfl, e⟩
    · exact nomatch e
    · injection e with e1 _
      subst e1
      cases v <;> rfl

end L2

namespace L2
open PySem PySem.Spec PyProof.Rows

/-- a value, without the heap -/
inductive V where
  | non | bl (b : Bool) | int (i : Int) | str (x : Str) | byt (b : Array UInt8) | flt (b : UInt64) | ref (a : Addr) | ty (n : String)
  deriving DecidableEq

def RelV : V → Value → Prop
  | .non, u => u = Value.none
  | .bl b, u => u = Value.bool b
  | .int i, u => ∃ t, u = Value.int i t
  | .str x, u => ∃ t, u = Value.str x t
  | .byt b, u => ∃ t, u = Value.bytes b t
  | .flt b, u => ∃ t, u = Value.float b t
  | .ref a, u => u = Value.ref a
  | .ty n, u => u = Value.type n

abbrev Vals : List V → List Value → Prop := Paired RelV
theorem Vals.length {xs : List V} {us : List Value} (r : Vals xs us) : xs.length = us.length := Paired.length r
theorem Vals.get : ∀ {xs : List V} {us : List Value} {i : Nat} {x : V}, Vals xs us → xs[i]? = some x → ∃ u, us[i]? = some u ∧ RelV x u
  | _, _, _, _, .nil, e => by simp at e
  | _, _, 0, _, .cons r _, e => by simp at e; subst e; exact ⟨_, rfl, r⟩
  | _, _, i + 1, x, .cons _ t, e => by
    obtain ⟨u, h1, h2⟩ := Vals.get (i := i) (x := x) t (by simpa using e)
    exact ⟨u, by simpa using h1, h2⟩
theorem Vals.set {x : V} {u : Value} (r : RelV x u) : ∀ {xs : List V} {us : List Value} (i : Nat), Vals xs us → Vals (xs.set i x) (us.set i u)
  | _, _, _, .nil => .nil
  | _, _, 0, .cons _ t => .cons r t
  | _, _, i + 1, .cons q t => .cons q (Vals.set r i t)
theorem Vals.append : ∀ {xs ys : List V} {us ws : List Value}, Vals xs us → Vals ys ws → Vals (xs ++ ys) (us ++ ws)
  | _, _, _, _, .nil, s => s
  | _, _, _, _, .cons r t, s => .cons r (Vals.append t s)
theorem Vals.take : ∀ {xs : List V} {us : List Value} (n : Nat), Vals xs us → Vals (xs.take n) (us.take n)
  | _, _, 0, _ => .nil
  | _, _, _ + 1, .nil => .nil
  | _, _, n + 1, .cons r t => .cons r (Vals.take n t)
theorem Vals.drop : ∀ {xs : List V} {us : List Value} (n : Nat), Vals xs us → Vals (xs.drop n) (us.drop n)
  | _, _, 0, r => r
  | _, _, _ + 1, .nil => .nil
  | _, _, n + 1, .cons _ t => Vals.drop n t
theorem Vals.none_of : ∀ {xs : List V} {us : List Value} {i : Nat}, Vals xs us → xs[i]? = none → us[i]? = none := fun {xs us i} r e => by
  have h1 := r.length
  have h2 : xs.length ≤ i := List.getElem?_eq_none_iff.mp e
  exact List.getElem?_eq_none_iff.mpr (by omega)

def RelO : Option V → Option Value → Prop
  | some v, some u => RelV v u
  | none, none => True
  | _, _ => False
def KV {κ : Type} : List (κ × V) → List (κ × Value) → Prop := Paired fun (p : κ × V) (q : κ × Value) => p.1 = q.1 ∧ RelV p.2 q.2

/-- a key of a dict (00_mix): an int or a text -/
def kV : Key → V
  | .inl i => .int i
  | .inr x => .str x

/-- what stands at a tracked address -/
inductive HO where
  /-- a list -/
  | lst (xs : List V)
  /-- a tuple (never changes) -/
  | tup (xs : List V)
  /-- a dict whose keys are ints and texts; one whose keys are tuples of ints and texts (the empty one is both) -/
  | dK (kvs : List (Key × V)) | dT (kvs : List (List Key × V))
  /-- a set of ints: its members, its size -/
  | set (S : Int → Bool) (n : Nat)
  /-- an instance of the class at C, its dict at dx, its attributes -/
  | ins (C dx : Addr) (fs : List (Str × V))
  /-- the dict of the instance at x -/
  | own (x : Addr)
  /-- the dict of an exception -/
  | xd (fs : List (Str × V))
  /-- a bound method, f of x -/
  | met (f x : Addr)
  /-- a range object lo, lo + 1, .. below hi -/
  | rng (lo hi : Int)
  /-- a thing that is known to the object (the script; a dict while a loop walks it): read, never written while it is so -/
  | frz (o : Obj) (u : HO)
  /-- a code object's table -/
  | tbl (ps : Array Value)
  /-- any other thing, by what is true of its one object (a def of one's own: SetO a S n := HO.ext fun h => ..) -/
  | ext (φ : Heap → Prop)

abbrev Hp := Addr → Option HO
def upd (H : Hp) (a : Addr) (o : HO) : Hp := fun b => if b = a then some o else H b
theorem upd_same {H : Hp} {a : Addr} {o : HO} : upd H a o a = some o := by unfold upd; rw [if_pos rfl]
theorem upd_ne {H : Hp} {a b : Addr} {o : HO} (h : b ≠ a) : upd H a o b = H b := by unfold upd; rw [if_neg h]
theorem upd_upd {H : Hp} {a : Addr} {o u : HO} : upd (upd H a o) a u = upd H a u := by
  funext b; unfold upd; split <;> rfl
/-- two objects of different content stand apart -/
theorem ne_of {H : Hp} {a b : Addr} {o u : HO} (h : H a = some o) (h' : H b = some u) (d : o ≠ u) : a ≠ b := by
  intro e; subst e; rw [h] at h'; exact d (Option.some.inj h')
theorem ne_of_none {H : Hp} {a b : Addr} {o : HO} (h : H a = some o) (h' : H b = none) : a ≠ b := by
  intro e; subst e; rw [h] at h'; cases h'

section
variable (P : Program) (w : World)
def ObjOk (H : Hp) (h : Heap) (a : Addr) : HO → Prop
  | .lst xs => xs.length ≤ sizeLine ∧ ∃ (its : List Value) (n : Nat), Vals xs its ∧ h.get? a = some { cls := .type "list", data := .seq its.toArray n }
  | .tup xs => xs.length ≤ sizeLine ∧ ∃ its : List Value, Vals xs its ∧ IsTup h a its.toArray
  | .dK kvs => kvs.length ≤ sizeLine ∧ (a == sysModules) = false ∧ ∃ vs, KV kvs vs ∧ h.DictOf (mixKind P w) a vs
  | .dT kvs => kvs.length ≤ sizeLine ∧ (a == sysModules) = false ∧ ∃ xs : List (List Key × Addr × Value),
      Paired (fun (p : List Key × V) (q : List Key × Addr × Value) => p.1 = q.1 ∧ H q.2.1 = some (.tup (p.1.map kV)) ∧ RelV p.2 q.2.2) kvs xs ∧
      ∃ o es ep, h.get? a = some o ∧ o.ExactDict ∧ o.data = .dict es ep ∧ es.toList = xs.map (entryOfKey (tupleKind (mixKind P w))) ∧ (xs.map (·.1)).Nodup
  | .set S n => h.SetOf (intKind P w) a S n
  | .ins C dx fs => H dx = some (.own a) ∧ fs.length ≤ 1000 ∧ dx ≠ a ∧ h.get? a = some (PySem.W.instObj C dx) ∧
      ∃ mA, h.Ns1 dx mA ∧ (∀ f, RelO (fs.lookup f) (mA f)) ∧ PySem.Within mA (fs.map (·.1))
  | .own _ => ∃ o, h.get? a = some o
  | .xd fs => ∃ mA, h.Ns1 a mA ∧ ∀ f, RelO (fs.lookup f) (mA f)
  | .rng lo hi => ∃ t u v, h.get? a = some { cls := .type "range", data := .fields #[.int lo t, .int hi u, .int 1 v] }
  | .frz o u => h.get? a = some o ∧ ObjOk H h a u
  | .tbl ps => h.get? a = some { cls := .none, data := .fields ps }
  | .met f x => h.get? a = some (PySem.W.methodObj (.ref f) (.ref x))
  | .ext φ => φ h ∧ (∃ o, h.get? a = some o) ∧ ∀ h1 h2 : Heap, φ h1 → (∀ o, h1.get? a = some o → h2.get? a = some o) → φ h2
/-- the abstract heap is held -/
def HOk (H : Hp) (h : Heap) : Prop := ∀ a o, H a = some o → ObjOk P w H h a o
end

section
variable {P : Program} {w : World} {H H' : Hp} {h h' : Heap} {a : Addr} {o : HO}
theorem ObjOk.lt (x : ObjOk P w H h a o) : a < h.objs.size := by
  cases o with
  | lst xs => obtain ⟨_, _, _, _, e⟩ := x; exact Heap.lt_size e
  | tup xs => obtain ⟨_, _, _, p⟩ := x; exact p.lt
  | dK kvs => obtain ⟨_, _, _, _, o, _, _, e, _⟩ := x; exact Heap.lt_size e
  | dT kvs => obtain ⟨_, _, _, _, o, _, _, e, _⟩ := x; exact Heap.lt_size e
  | set S n => obtain ⟨o, _, _, _, e, _⟩ := x; exact Heap.lt_size e
  | ins C dx fs => obtain ⟨_, _, _, e, _⟩ := x; exact Heap.lt_size e
  | own y => obtain ⟨_, e⟩ := x; exact Heap.lt_size e
  | xd fs => obtain ⟨_, ⟨_, _, _, e, _⟩, _⟩ := x; exact Heap.lt_size e
  | rng lo hi => obtain ⟨_, _, _, e⟩ := x; exact Heap.lt_size e
  | frz ob u => obtain ⟨e, _⟩ := x; exact Heap.lt_size e
  | tbl ps => exact Heap.lt_size (show h.get? a = some _ from x)
  | met f y => exact Heap.lt_size (show h.get? a = some _ from x)
  | ext φ => obtain ⟨_, ⟨_, e⟩, _⟩ := x; exact Heap.lt_size e
theorem Paired.mapP {α β : Type} {F G : α → β → Prop} : ∀ {l₁ : List α} {l₂ : List β}, Paired F l₁ l₂ → (∀ a b, F a b → G a b) → Paired G l₁ l₂
  | _, _, .nil, _ => .nil
  | _, _, .cons r t, f => .cons (f _ _ r) (Paired.mapP t f)
/-- what an object's description leans on: its own object, its own dict, the tuples -/
theorem ObjOk.stay (x : ObjOk P w H h a o) (k : ∀ b u, (b = a ∨ H b = some (.own a)) → h.get? b = some u → h'.get? b = some u)
    (ho : ∀ b, H b = some (.own a) → H' b = some (.own a)) (ht : ∀ b xs, H b = some (.tup xs) → H' b = some (.tup xs)) : ObjOk P w H' h' a o := by
  induction o with
  | lst xs => obtain ⟨z, its, n, r, e⟩ := x; exact ⟨z, its, n, r, k _ _ (.inl rfl) e⟩
  | tup xs => obtain ⟨z, its, r, ob, e, c⟩ := x; exact ⟨z, its, r, ob, k _ _ (.inl rfl) e, c⟩
  | dK kvs => obtain ⟨z, y, vs, r, ob, es, ep, e, c⟩ := x; exact ⟨z, y, vs, r, ob, es, ep, k _ _ (.inl rfl) e, c⟩
  | dT kvs =>
    obtain ⟨z, y, xs, r, ob, es, ep, e, c⟩ := x
    exact ⟨z, y, xs, Paired.mapP r fun p q z => ⟨z.1, ht _ _ z.2.1, z.2.2⟩, ob, es, ep, k _ _ (.inl rfl) e, c⟩
  | set S n => obtain ⟨ob, es, ep, t, e, c⟩ := x; exact ⟨ob, es, ep, t, k _ _ (.inl rfl) e, c⟩
  | ins C dx fs =>
    obtain ⟨d, z, ne, e, mA, ⟨od, es, ep, e2, c⟩, r⟩ := x
    exact ⟨ho _ d, z, ne, k _ _ (.inl rfl) e, mA, ⟨od, es, ep, k _ _ (.inr d) e2, c⟩, r⟩
  | own y => obtain ⟨ob, e⟩ := x; exact ⟨ob, k _ _ (.inl rfl) e⟩
  | xd fs => obtain ⟨mA, ⟨od, es, ep, e, c⟩, r⟩ := x; exact ⟨mA, ⟨od, es, ep, k _ _ (.inl rfl) e, c⟩, r⟩
  | rng lo hi => obtain ⟨t, u, v, e⟩ := x; exact ⟨t, u, v, k _ _ (.inl rfl) e⟩
  | frz ob u ih => obtain ⟨e, q⟩ := x; exact ⟨k _ _ (.inl rfl) e, ih q⟩
  | tbl ps =>
    have e : h.get? a = some { cls := .none, data := .fields ps } := x
    show h'.get? a = some { cls := .none, data := .fields ps }
    exact k a _ (.inl rfl) e
  | met f y =>
    have e : h.get? a = some (PySem.W.methodObj (.ref f) (.ref y)) := x
    show h'.get? a = some (PySem.W.methodObj (.ref f) (.ref y))
    exact k a _ (.inl rfl) e
  | ext φ => obtain ⟨p, ⟨o, e⟩, st⟩ := x; exact ⟨st _ _ p fun o q => k _ _ (.inl rfl) q, ⟨o, k _ _ (.inl rfl) e⟩, st⟩
theorem HOk.lt (x : HOk P w H h) (e : H a = some o) : a < h.objs.size := (x a o e).lt
theorem HOk.fresh (x : HOk P w H h) (e : h.objs.size ≤ a) : H a = none := by
  cases q : H a with
  | none => rfl
  | some u => exact absurd (Nat.lt_of_lt_of_le (x.lt q) e) (Nat.lt_irrefl _)
/-- every object of the heap is kept -/
theorem HOk.kept (x : HOk P w H h) (k : ∀ b u, h.get? b = some u → h'.get? b = some u) : HOk P w H h' := fun a o e =>
  (x a o e).stay (fun b u _ q => k b u q) (fun _ q => q) fun _ _ q => q
/-- a new object is laid and tracked -/
theorem HOk.laid (x : HOk P w H h) (k : ∀ b u, h.get? b = some u → h'.get? b = some u) (hp : h.objs.size ≤ a) (new : ObjOk P w (upd H a o) h' a o) : HOk P w (upd H a o) h' := fun b u e => by
  have hn := x.fresh hp
  by_cases hb : b = a
  · subst hb; rw [upd_same] at e; cases e; exact new
  · rw [upd_ne hb] at e
    exact (x b u e).stay (fun c v _ q => k c v q) (fun c q => by rw [upd_ne (ne_of_none q hn)]; exact q) fun c xs q => by rw [upd_ne (ne_of_none q hn)]; exact q
end

/-- what may be read as u: it is u, or a known u -/
def Rd (H : Hp) (a : Addr) (u : HO) : Prop := H a = some u ∨ ∃ o, H a = some (.frz o u)
theorem Rd.of {H : Hp} {a : Addr} {u : HO} (h : H a = some u) : Rd H a u := .inl h
theorem Rd.ok {P : Program} {w : World} {H : Hp} {h : Heap} {a : Addr} {u : HO} (r : Rd H a u) (x : HOk P w H h) : ObjOk P w H h a u := by
  rcases r with r | ⟨o, r⟩
  · exact x a u r
  · obtain ⟨_, q⟩ := x a _ r
    exact q
/-- what may be written -/
def Mut : Option HO → Prop
  | some (.lst _) => True
  | some (.dK _) => True
  | some (.dT _) => True
  | some (.set _ _) => True
  | some (.ins _ _ _) => True
  | some (.ext _) => True
  | _ => False
section
variable {P : Program} {w : World} {H : Hp} {h h' : Heap} {x e : Addr} {o' : HO}
/-- the object at e is changed: x itself, or the dict of the instance x -/
theorem HOk.write (ok : HOk P w H h) (mu : Mut (H x)) (he : e = x ∨ H e = some (.own x)) (k : ∀ b u, b ≠ e → h.get? b = some u → h'.get? b = some u) (heo : ∃ u, h'.get? e = some u)
    (new : ObjOk P w (upd H x o') h' x o') : HOk P w (upd H x o') h' := fun b u q => by
  have nown : ∀ c y, H c = some (.own y) → c ≠ x := fun c y r z => by subst z; rw [r] at mu; exact mu
  have ntup : ∀ c xs, H c = some (.tup xs) → c ≠ x := fun c xs r z => by subst z; rw [r] at mu; exact mu
  by_cases hb : b = x
  · subst hb; rw [upd_same] at q; cases q; exact new
  · rw [upd_ne hb] at q
    by_cases hbe : b = e
    · have q' : H b = some (.own x) := by
        rcases he with z | z
        · exact absurd (hbe.trans z) hb
        · rw [hbe]; exact z
      rw [q] at q'; cases q'
      obtain ⟨v, hv⟩ := heo
      exact ⟨v, by rw [hbe]; exact hv⟩
    · refine (ok b u q).stay (fun c v hc r => k c v ?_ r) (fun c r => by rw [upd_ne (nown c b r)]; exact r) fun c xs r => by rw [upd_ne (ntup c xs r)]; exact r
      rcases hc with rfl | hc
      · exact hbe
      · rintro rfl
        rcases he with z | z
        · exact nown c b hc z
        · rw [hc] at z; cases z; exact hb rfl
end

/-! ### kept unless tracked; of the frames at fs (the callers') the slots may change (an exception that passes writes there); of the records at ex (iterators) nothing is said -/
structure Un (fs ex : List Addr) (H H' : Hp) (h h' : Heap) : Prop where
  keep : ∀ b o, h.get? b = some o → H b = none → b ∉ fs → b ∉ ex → h'.get? b = some o
  slot : ∀ b o, h.get? b = some o → H b = none → b ∈ fs → b ∉ ex → ∃ sl, h'.get? b = some { o with slots := sl }
  free : ∀ b o, h.get? b = some o → H b = none → b ∉ ex → H' b = none
  there : ∀ b o, h.get? b = some o → b ∉ ex → ∃ o', h'.get? b = some o'
  tups : ∀ b xs, H b = some (.tup xs) → H' b = some (.tup xs)
  frzs : ∀ b o u, H b = some (.frz o u) → H' b = some (.frz o u)
  tbls : ∀ b ps, H b = some (.tbl ps) → ∃ more, H' b = some (.tbl (ps ++ more))
section
variable {fs fs' ex ex' : List Addr} {H H1 H2 : Hp} {h h1 h2 h' : Heap} {a x e : Addr} {o : HO}
theorem Un.any (u : Un fs ex H H1 h h1) {b : Addr} {ob : Obj} (q : h.get? b = some ob) (n : H b = none) (hx : b ∉ ex) : ∃ sl, h1.get? b = some { ob with slots := sl } := by
  by_cases hb : b ∈ fs
  · exact u.slot b ob q n hb hx
  · exact ⟨ob.slots, u.keep b ob q n hb hx⟩
theorem Un.trans (a : Un fs ex H H1 h h1) (b : Un fs ex H1 H2 h1 h2) : Un fs ex H H2 h h2 where
  keep := fun c ob q n hc hx => b.keep c ob (a.keep c ob q n hc hx) (a.free c ob q n hx) hc hx
  slot := fun c ob q n hc hx => by
    obtain ⟨sl, e1⟩ := a.slot c ob q n hc hx
    obtain ⟨sl', e2⟩ := b.slot c _ e1 (a.free c ob q n hx) hc hx
    exact ⟨sl', e2⟩
  free := fun c ob q n hx => by
    obtain ⟨o', e1⟩ := a.there c ob q hx
    exact b.free c o' e1 (a.free c ob q n hx) hx
  there := fun c ob q hx => by
    obtain ⟨o', e1⟩ := a.there c ob q hx
    exact b.there c o' e1 hx
  tups := fun c xs q => b.tups c xs (a.tups c xs q)
  frzs := fun c ob xs q => b.frzs c ob xs (a.frzs c ob xs q)
  tbls := fun c ps q => by
    obtain ⟨m1, e1⟩ := a.tbls c ps q
    obtain ⟨m2, e2⟩ := b.tbls c _ e1
    exact ⟨m1 ++ m2, by rw [e2, Array.append_assoc]⟩
theorem Un.kept (k : ∀ b u, h.get? b = some u → h'.get? b = some u) : Un fs ex H H h h' :=
  ⟨fun b ob q _ _ _ => k b ob q, fun b ob q _ _ _ => ⟨ob.slots, k b ob q⟩, fun _ _ _ n _ => n, fun b ob q _ => ⟨ob, k b ob q⟩, fun _ _ q => q, fun _ _ _ q => q, fun _ ps q => ⟨#[], by rw [q]; simp⟩⟩
theorem Un.refl : Un fs ex H H h h := Un.kept fun _ _ q => q
theorem Un.laid (k : ∀ b u, h.get? b = some u → h'.get? b = some u) (hp : h.objs.size ≤ a) (hn : H a = none) : Un fs ex H (upd H a o) h h' where
  keep := fun b u q _ _ _ => k b u q
  slot := fun b u q _ _ _ => ⟨u.slots, k b u q⟩
  free := fun b u q n _ => by rw [upd_ne (Nat.ne_of_lt (Nat.lt_of_lt_of_le (Heap.lt_size q) hp))]; exact n
  there := fun b u q _ => ⟨u, k b u q⟩
  tups := fun b xs q => by rw [upd_ne (ne_of_none q hn)]; exact q
  frzs := fun b u xs q => by rw [upd_ne (ne_of_none q hn)]; exact q
  tbls := fun b ps q => ⟨#[], by rw [upd_ne (ne_of_none q hn), q]; simp⟩
theorem Un.write (mu : Mut (H x)) (he : e = x ∨ H e = some (.own x)) (k : ∀ b u, b ≠ e → h.get? b = some u → h'.get? b = some u) (heo : ∃ u, h'.get? e = some u) : Un fs ex H (upd H x o) h h' := by
  have hx : ∀ b, H b = none → b ≠ x := fun b n z => by subst z; rw [n] at mu; exact mu
  have hb : ∀ b, H b = none → b ≠ e := fun b n z => by
    subst z
    rcases he with r | r
    · exact hx b n r
    · rw [n] at r; cases r
  have hm : ∀ b u, H b = some u → ¬ Mut (some u) → b ≠ x := fun b u q nm z => by subst z; rw [q] at mu; exact nm mu
  refine ⟨fun b u q n _ _ => k b u (hb b n) q, fun b u q n _ _ => ⟨u.slots, k b u (hb b n) q⟩, fun b u q n _ => by rw [upd_ne (hx b n)]; exact n, fun b u q _ => ?_,
    fun b xs q => by rw [upd_ne (hm b _ q fun z => z)]; exact q, fun b u xs q => by rw [upd_ne (hm b _ q fun z => z)]; exact q, fun b ps q => ⟨#[], by rw [upd_ne (hm b _ q fun z => z), q]; simp⟩⟩
  by_cases hbe : b = e
  · subst hbe; exact heo
  · exact ⟨u, k b u hbe q⟩
theorem Un.mono (u : Un fs ex H H1 h h1) (hs : ∀ b ∈ fs, b ∈ fs') (hx : ∀ b ∈ ex, b ∈ ex') : Un fs' ex' H H1 h h1 :=
  ⟨fun b ob q n hb he => u.keep b ob q n (fun z => hb (hs b z)) fun z => he (hx b z), fun _ _ q n _ he => u.any q n fun z => he (hx _ z), fun b ob q n he => u.free b ob q n fun z => he (hx b z), fun b ob q he => u.there b ob q fun z => he (hx b z), u.tups, u.frzs, u.tbls⟩
end

/-! ### the heap without what is tracked -/
def trk (h : Heap) (H : Hp) : List Addr := (List.range h.objs.size).filter fun a => (H a).isSome
def hidT (h : Heap) (H : Hp) : Heap := PySem.W.hideAll h (trk h H)
theorem hidT_size (h : Heap) (H : Hp) : (hidT h H).objs.size = h.objs.size := PySem.W.hideAll_size _ _
theorem hidT_get {h : Heap} {H : Hp} {b : Addr} {o : Obj} (e : h.get? b = some o) (n : H b = none) : (hidT h H).get? b = some o :=
  PySem.W.hideAll_get _ e fun hm => by
    have q : (H b).isSome = true := (List.mem_filter.mp hm).2
    rw [n] at q; simp at q
theorem of_hidT {h : Heap} {H : Hp} {b : Addr} {o : Obj} (e : (hidT h H).get? b = some o) : h.get? b = some o ∧ H b = none := by
  have e' : h.get? b = some o := PySem.W.of_hideAll (trk h H) e
  refine ⟨e', ?_⟩
  cases q : H b with
  | none => rfl
  | some x =>
    have hm : b ∈ trk h H := List.mem_filter.mpr ⟨List.mem_range.mpr (Heap.lt_size e'), by simp [q]⟩
    have z : (hidT h H).get? b = none := PySem.W.hideAll_none (trk h H) hm
    rw [z] at e; cases e

/-! ### OpenK's ledger, filled with every new object but one -/
def allNews (g h : Heap) (L : Addr) : List (Addr × Obj) := (List.range h.objs.size).filterMap fun a => if a = L ∨ (g.get? a).isSome = true then none else (h.get? a).map fun o => (a, o)
def rest (g h : Heap) (L d : Addr) : List (Addr × Obj) := (allNews g h L).filter fun p => decide (p.1 ≠ d)
end L2

namespace L2
open PySem PySem.Spec PyProof.Rows

/-- the module's facts, over the base: the heap at the law's entry without what is tracked there -/
structure Mod (K : PySem.W.Frag) (mg : Str → Option Value) (base : Heap) : Prop where
  kin : K.In base
  glob : base.Ns mainGlobals mg
  blt : ∃ mb, base.Ns builtinsNs mb ∧ ∀ x : Str, x ≠ "__name__" → mb x = bootBuiltins x
  nolimit : base.NoLimit

/-- the context: a def's body (or a comprehension's block) running. base: fixed through the whole law; s₀, H₀: the entry; outer: the frames whose slots others may change (a def's callers); stack: all frames that run;
   ex: iterators that were made ahead of the entry and are walked here (a comprehension's); fn: the names whose cells were made at the entry (a def: all; a comprehension's block: its own); calm: not within an except suite; pn: pins that every state bears; xe: what is wanted of an exception that leaves the code -/
structure Cx where
  prog : Program
  w : World
  K : PySem.W.Frag
  mg : Str → Option Value
  base : Heap
  A : Around
  N : List Str
  s₀ : Shared
  H₀ : Hp
  env : Env
  outer : List Env
  stack : List Env
  ex : List Addr
  fn : Str → Bool
  calm : Bool
  pn : List (Addr × Obj)
  xe : Value → Shared → Prop
/-- the callers' frames -/
def frs (l : List Env) : List Addr := l.filterMap (·.frame)
abbrev Cx.fs (X : Cx) : List Addr := frs X.outer

def Vis (sc : Scope) (x : Str) : Prop := sc.names.lookup x = some .local ∨ sc.names.lookup x = some .cell ∨ sc.names.lookup x = some .free
def Loc (sc : Scope) (x : Str) : Prop := sc.names.lookup x = some .local ∨ sc.names.lookup x = some .cell
def Look (env : Env) (h : Heap) (m : Str → Option Value) (x : Str) (u : Value) : Prop :=
  (env.kindOf x = some .local ∧ m x = some u) ∨ ((env.kindOf x = some .cell ∨ env.kindOf x = some .free) ∧ ∃ c, env.cells.lookup x = some c ∧ h.IsCell c (some u))

structure Cx.Ok (X : Cx) : Prop where
  mod : Mod X.K X.mg X.base
  kind : X.env.scope.kind = .function
  glob : X.env.globals = mainGlobals
  blt : X.env.builtins = builtinsNs
  above : X.s₀.heap.objs.size ≤ X.env.locals
  inj : ∀ x y c, X.env.cells.lookup x = some c → X.env.cells.lookup y = some c → x = y
  has : ∀ x, (X.env.kindOf x = some .cell ∨ X.env.kindOf x = some .free) → ∃ c, X.env.cells.lookup x = some c
  cab : ∀ x c, X.fn x = true → X.env.cells.lookup x = some c → X.s₀.heap.objs.size ≤ c
  hd : X.calm = true → X.A.handled = none
  frames : X.A.frames = some X.stack
  stk : X.stack = X.outer ∨ (X.stack = X.env :: X.outer ∧ X.env.frame = some X.env.locals)
  exf : ∀ b ∈ X.ex, b ≠ X.env.locals ∧ ∀ x c, X.env.cells.lookup x = some c → c ≠ b
  bs : ∀ b o, X.base.get? b = some o → X.s₀.heap.get? b = some o ∧ X.H₀ b = none
  bsz : X.base.objs.size ≤ X.s₀.heap.objs.size
  noex : ∀ b o, X.base.get? b = some o → b ∉ X.ex
  exfs : ∀ b ∈ X.ex, b ∉ X.fs
  funs : X.s₀.heap.FunFrames X.base X.outer
  frf : ∀ b ∈ X.fs, X.H₀ b = none

structure Inv (X : Cx) (pins : List (Addr × Obj)) (σ : List (Option V)) (H : Hp) (s : Shared) : Prop where
  ok : X.Ok
  os : s.os = X.s₀.os
  bare : AllBare s.gens
  base : Un X.fs X.ex X.H₀ H X.s₀.heap s.heap
  loc : ∃ m, s.heap.Ns X.env.locals m ∧ ∀ (i : Nat) (x : Str) (v : V), X.N[i]? = some x → σ[i]? = some (some v) → Vis X.env.scope x → ∃ u, RelV v u ∧ Look X.env s.heap m x u
  cell : ∀ x c, X.env.cells.lookup x = some c → ∃ v, s.heap.IsCell c v
  free : H X.env.locals = none
  freeC : ∀ x c, X.env.cells.lookup x = some c → H c = none
  pin : ∀ p ∈ X.pn ++ pins, s.heap.get? p.1 = some p.2 ∧ H p.1 = none ∧ p.1 ≠ X.env.locals ∧ p.1 ∉ X.fs ∧ ∀ v, p.2.data ≠ .cell v
  hok : HOk X.prog X.w H s.heap
  len : σ.length = X.N.length

section
variable {X : Cx} {pins : List (Addr × Obj)} {σ : List (Option V)} {H H' : Hp} {s : Shared} {h' : Heap}

theorem Cx.Ok.nofr (ok : X.Ok) {b : Addr} {o : Obj} (e : X.base.get? b = some o) : b ∉ X.fs := fun hb => by
  have := (ok.funs.mem hb).1
  rw [e] at this; cases this
theorem Inv.bs (I : Inv X pins σ H s) : ∀ b o, X.base.get? b = some o → s.heap.get? b = some o ∧ H b = none := fun b o e =>
  ⟨I.base.keep b o (I.ok.bs b o e).1 (I.ok.bs b o e).2 (I.ok.nofr e) (I.ok.noex b o e), I.base.free b o (I.ok.bs b o e).1 (I.ok.bs b o e).2 (I.ok.noex b o e)⟩
theorem Inv.bk (I : Inv X pins σ H s) : ∀ b o, X.base.get? b = some o → s.heap.get? b = some o := fun b o e => (I.bs b o e).1
theorem Inv.mod (I : Inv X pins σ H s) : Mod X.K X.mg X.base := I.ok.mod
theorem Inv.kIn (I : Inv X pins σ H s) : X.K.In s.heap := I.ok.mod.kin.keeps I.bk
theorem Inv.nolimit (I : Inv X pins σ H s) : s.heap.NoLimit := I.ok.mod.nolimit.keeps I.bk
/-- the frame over the base: for OpenK's rules (K.In X.base is I.mod.kin) -/
theorem Inv.fr (I : Inv X pins σ H s) : ∃ m, Fr X.base X.env.locals s.heap m :=
  let ⟨m, hn, _⟩ := I.loc
  ⟨m, hn, I.bk, Nat.le_trans I.ok.bsz I.ok.above⟩
theorem Inv.lt (I : Inv X pins σ H s) : X.env.locals < s.heap.objs.size := let ⟨_, hn, _⟩ := I.loc; hn.lt
theorem Inv.sz (I : Inv X pins σ H s) : X.s₀.heap.objs.size ≤ s.heap.objs.size := Nat.le_trans I.ok.above (Nat.le_of_lt I.lt)
theorem Inv.nofs (I : Inv X pins σ H s) {a : Addr} (h : s.heap.objs.size ≤ a) : a ∉ X.fs := fun hb => by
  obtain ⟨_, o, ho, _⟩ := I.ok.funs.mem hb
  exact absurd (Nat.lt_of_lt_of_le (Heap.lt_size ho) (Nat.le_trans I.sz h)) (Nat.lt_irrefl _)
theorem Inv.cne (I : Inv X pins σ H s) : ∀ x c, X.env.cells.lookup x = some c → c ≠ X.env.locals := fun x c e z => by
  obtain ⟨v, o, ho, hd⟩ := I.cell x c e
  obtain ⟨m, ⟨o', es, ep, ho', hd', _⟩, _⟩ := I.loc
  rw [z, ho'] at ho; cases ho; rw [hd'] at hd; cases hd
theorem Inv.funs (I : Inv X pins σ H s) : s.heap.FunFrames X.base X.outer := by
  have all : ∀ (l : List Env), (∀ b ∈ frs l, b ∈ X.fs) → X.s₀.heap.FunFrames X.base l → s.heap.FunFrames X.base l := by
    intro l
    induction l with
    | nil => intro _ _; trivial
    | cons env r ih =>
      intro hs hl
      obtain ⟨hk, ⟨L, o, hf, hn, ho, hd⟩, hr⟩ := hl
      have hL : L ∈ X.fs := hs L (by unfold frs; rw [List.filterMap_cons, hf]; exact List.mem_cons_self)
      obtain ⟨sl, e⟩ := I.base.slot L o ho (I.ok.frf L hL) hL fun z => I.ok.exfs L z hL
      exact ⟨hk, ⟨L, _, hf, hn, e, hd⟩, ih (fun b hb => hs b (by unfold frs; rw [List.filterMap_cons, hf]; exact List.mem_cons_of_mem _ hb)) hr⟩
  exact all X.outer (fun _ hb => hb) I.ok.funs

/-- the frames that run, for a call -/
theorem Inv.stack (I : Inv X pins σ H s) : s.heap.FunFrames X.base X.stack := by
  rcases I.ok.stk with e | ⟨e, hf⟩
  · rw [e]; exact I.funs
  · rw [e]
    obtain ⟨m, hn, _⟩ := I.loc
    refine .cons (by rw [I.ok.kind]; decide) hf hn ?_ I.funs
    exact Heap.get?_none_of_le (Nat.le_trans I.ok.bsz I.ok.above)
theorem Inv.stkSub (I : Inv X pins σ H s) : ∀ b ∈ frs X.stack, b ∈ X.env.locals :: X.fs := fun b hb => by
  rcases I.ok.stk with e | ⟨e, hf⟩
  · rw [e] at hb; exact List.mem_cons_of_mem _ hb
  · rw [e] at hb
    unfold frs at hb
    rw [List.filterMap_cons, hf] at hb
    exact hb
theorem Inv.stkFree (I : Inv X pins σ H s) : ∀ b ∈ frs X.stack, H b = none := fun b hb => by
  rcases List.mem_cons.mp (I.stkSub b hb) with e | hb
  · rw [e]; exact I.free
  · obtain ⟨_, o, ho, _⟩ := I.ok.funs.mem hb
    exact I.base.free b o ho (I.ok.frf b hb) fun z => I.ok.exfs b z hb

/-- THE STEP: the untracked objects but the frame and the records at ch are kept (the callers' frames up to slots), the frame's map is kept, the new abstract heap is held -/
theorem Inv.step {g' : Array GenState} {t' : Nat} {d' : Drawn} {ch : List Addr} (I : Inv X pins σ H s)
    (hch : ∀ b ∈ ch, (b ∈ X.ex ∨ X.s₀.heap.objs.size ≤ b) ∧ b ≠ X.env.locals ∧ (∀ x c, X.env.cells.lookup x = some c → c ≠ b) ∧ ∀ p ∈ X.pn ++ pins, p.1 ≠ b)
    (keep : ∀ b o, b ≠ X.env.locals → b ∉ X.fs → b ∉ ch → s.heap.get? b = some o → H b = none → h'.get? b = some o)
    (slot : ∀ b o, b ≠ X.env.locals → b ∈ X.fs → b ∉ ch → s.heap.get? b = some o → H b = none → ∃ sl, h'.get? b = some { o with slots := sl }) (free : ∀ b o, b ∉ ch → s.heap.get? b = some o → H b = none → H' b = none)
    (there : ∀ b o, b ∉ ch → s.heap.get? b = some o → ∃ o', h'.get? b = some o')
    (tups : ∀ b xs, H b = some (.tup xs) → H' b = some (.tup xs)) (frzs : ∀ b o u, H b = some (.frz o u) → H' b = some (.frz o u)) (tbls : ∀ b ps, H b = some (.tbl ps) → ∃ more, H' b = some (.tbl (ps ++ more)))
    (ns : ∀ m, s.heap.Ns X.env.locals m → h'.Ns X.env.locals m) (hok : HOk X.prog X.w H' h') (hg : AllBare g') :
    Inv X pins σ H' { s with heap := h', gens := g', drawn := d', toks := t' } := by
  have neL : ∀ b o, X.s₀.heap.get? b = some o → b ≠ X.env.locals := fun b o e => Nat.ne_of_lt (Nat.lt_of_lt_of_le (Heap.lt_size e) I.ok.above)
  have neC : ∀ b o, X.s₀.heap.get? b = some o → b ∉ X.ex → b ∉ ch := fun b o e hx hb => by
    rcases (hch b hb).1 with z | z
    · exact hx z
    · exact absurd (Nat.lt_of_lt_of_le (Heap.lt_size e) z) (Nat.lt_irrefl _)
  have cellK : ∀ x c, X.env.cells.lookup x = some c → ∀ v, s.heap.IsCell c v → h'.IsCell c v := fun x c e v ⟨o, ho, hd⟩ => by
    have nch : c ∉ ch := fun z => (hch c z).2.2.1 x c e rfl
    by_cases hc : c ∈ X.fs
    · obtain ⟨sl, q⟩ := slot c o (I.cne x c e) hc nch ho (I.freeC x c e)
      exact ⟨_, q, hd⟩
    · exact ⟨o, keep c o (I.cne x c e) hc nch ho (I.freeC x c e), hd⟩
  refine ⟨I.ok, I.os, hg, ⟨fun b o e n hb hx => ?_, fun b o e n hb hx => ?_, fun b o e n hx => ?_, fun b o e hx => ?_, fun b xs e => tups b xs (I.base.tups b xs e), fun b o xs e => frzs b o xs (I.base.frzs b o xs e), fun b ps e => ?_⟩, ?_, fun x c e => ?_, ?_, fun x c e => ?_, fun p hp => ?_, hok, I.len⟩
  · exact keep b o (neL b o e) hb (neC b o e hx) (I.base.keep b o e n hb hx) (I.base.free b o e n hx)
  · obtain ⟨sl, e1⟩ := I.base.slot b o e n hb hx
    obtain ⟨sl', e2⟩ := slot b _ (neL b o e) hb (neC b o e hx) e1 (I.base.free b o e n hx)
    exact ⟨sl', e2⟩
  · obtain ⟨o', e1⟩ := I.base.there b o e hx
    exact free b o' (neC b o e hx) e1 (I.base.free b o e n hx)
  · obtain ⟨o', e1⟩ := I.base.there b o e hx
    exact there b o' (neC b o e hx) e1
  · obtain ⟨m1, e1⟩ := I.base.tbls b ps e
    obtain ⟨m2, e2⟩ := tbls b _ e1
    exact ⟨m1 ++ m2, by rw [e2, Array.append_assoc]⟩
  · obtain ⟨m, hn, hl⟩ := I.loc
    refine ⟨m, ns m hn, fun i x v e1 e2 e3 => ?_⟩
    obtain ⟨u, r, l⟩ := hl i x v e1 e2 e3
    refine ⟨u, r, ?_⟩
    rcases l with l | ⟨k, c, e, z⟩
    · exact .inl l
    · exact .inr ⟨k, c, e, cellK x c e _ z⟩
  · obtain ⟨v, z⟩ := I.cell x c e
    exact ⟨v, cellK x c e v z⟩
  · obtain ⟨m, ⟨o, _, _, ho, _⟩, _⟩ := I.loc
    exact free _ o (fun z => (hch _ z).2.1 rfl) ho I.free
  · obtain ⟨v, o, ho, hd⟩ := I.cell x c e
    exact free c o (fun z => (hch c z).2.2.1 x c e rfl) ho (I.freeC x c e)
  · obtain ⟨e, n, ne, nf, d⟩ := I.pin p hp
    have nch : p.1 ∉ ch := fun z => (hch p.1 z).2.2.2 p hp rfl
    exact ⟨keep p.1 p.2 ne nf nch e n, free p.1 p.2 nch e n, ne, nf, d⟩
/-- .. where the frame's own object is kept too -/
theorem Inv.un {t' : Nat} (I : Inv X pins σ H s) (u : Un X.fs [] H H' s.heap h') (hok : HOk X.prog X.w H' h') : Inv X pins σ H' { s with heap := h', toks := t' } := by
  obtain ⟨m, ⟨o, es, ep, ho, r⟩, _⟩ := id I.loc
  obtain ⟨sl, hL⟩ := u.any ho I.free (by simp)
  exact I.step (g' := s.gens) (d' := s.drawn) (ch := []) (fun _ z => nomatch z) (fun b o _ hb _ e n => u.keep b o e n hb (by simp)) (fun b o _ hb _ e n => u.slot b o e n hb (by simp)) (fun b o _ e n => u.free b o e n (by simp)) (fun b o _ e => u.there b o e (by simp)) u.tups u.frzs u.tbls (fun m' hm => by
    obtain ⟨o', es', ep', ho', r'⟩ := hm
    rw [ho] at ho'; cases ho'
    exact ⟨_, es', ep', hL, r'⟩) hok I.bare
/-- behind a call (or a comprehension's block): the slots of this frame may have changed too, the records at ch may have turned -/
theorem Inv.call {g' : Array GenState} {t' : Nat} {d' : Drawn} {ch : List Addr} (I : Inv X pins σ H s) (u : Un (frs X.stack) ch H H' s.heap h') (hok : HOk X.prog X.w H' h') (hg : AllBare g')
    (hch : ∀ b ∈ ch, (b ∈ X.ex ∨ X.s₀.heap.objs.size ≤ b) ∧ b ≠ X.env.locals ∧ (∀ x c, X.env.cells.lookup x = some c → c ≠ b) ∧ ∀ p ∈ X.pn ++ pins, p.1 ≠ b) :
    Inv X pins σ H' { s with heap := h', gens := g', drawn := d', toks := t' } := by
  obtain ⟨m, ⟨o, es, ep, ho, r⟩, _⟩ := id I.loc
  obtain ⟨sl, hL⟩ := u.any ho I.free fun z => (hch _ z).2.1 rfl
  exact I.step (ch := ch) hch (fun b o hL hb hc e n => u.keep b o e n (fun z => (List.mem_cons.mp (I.stkSub b z)).elim hL hb) hc) (fun b o _ _ hc e n => u.any e n hc) (fun b o hc e n => u.free b o e n hc) (fun b o hc e => u.there b o e hc) u.tups u.frzs u.tbls (fun m' hm => by
    obtain ⟨o', es', ep', ho', r'⟩ := hm
    rw [ho] at ho'; cases ho'
    exact ⟨_, es', ep', hL, r'⟩) hok hg
/-- an untracked record of ours (an iterator) has turned -/
theorem Inv.turned {t' : Nat} {it : Addr} (I : Inv X pins σ H s) (k : ∀ b o, b ≠ it → s.heap.get? b = some o → h'.get? b = some o) (hn : H it = none) (hL : it ≠ X.env.locals)
    (h1 : it ∈ X.ex ∨ X.s₀.heap.objs.size ≤ it) (h2 : ∀ x c, X.env.cells.lookup x = some c → c ≠ it) (h3 : ∀ p ∈ X.pn ++ pins, p.1 ≠ it) : Inv X pins σ H { s with heap := h', toks := t' } := by
  have nit : ∀ b u, H b = some u → b ≠ it := fun b u e z => by rw [z, hn] at e; cases e
  refine I.step (g' := s.gens) (d' := s.drawn) (ch := [it]) (fun b hb => ?_) (fun b o _ _ hc e _ => k b o (fun z => hc (by simp [z])) e) (fun b o _ _ hc e _ => ⟨o.slots, k b o (fun z => hc (by simp [z])) e⟩) (fun _ _ _ _ n => n)
    (fun b o hc e => ⟨o, k b o (fun z => hc (by simp [z])) e⟩) (fun _ _ e => e) (fun _ _ _ e => e) (fun b ps e => ⟨#[], by rw [e]; simp⟩) (fun m hm => ?_) (fun b u e => ?_) I.bare
  · have e : b = it := by simpa using hb
    subst e
    exact ⟨h1, hL, h2, h3⟩
  · obtain ⟨o, es, ep, ho, r⟩ := hm
    exact ⟨o, es, ep, k _ o (Ne.symm hL) ho, r⟩
  · refine (I.hok b u e).stay (fun c v hc q => k c v ?_ q) (fun _ q => q) fun _ _ q => q
    rcases hc with z | z
    · rw [z]; exact nit b u e
    · exact nit c _ z
theorem Inv.tok (I : Inv X pins σ H s) (t : Nat) : Inv X pins σ H { s with toks := t } := I.un (h' := s.heap) (t' := t) Un.refl I.hok
/-- all objects kept -/
theorem Inv.kept {t' : Nat} (I : Inv X pins σ H s) (k : ∀ b u, s.heap.get? b = some u → h'.get? b = some u) : Inv X pins σ H { s with heap := h', toks := t' } := I.un (Un.kept k) (I.hok.kept k)
/-- a new object laid and tracked -/
theorem Inv.laid {a : Addr} {o : HO} {t' : Nat} (I : Inv X pins σ H s) (k : ∀ b u, s.heap.get? b = some u → h'.get? b = some u) (hp : s.heap.objs.size ≤ a) (new : ObjOk X.prog X.w (upd H a o) h' a o) :
    Inv X pins σ (upd H a o) { s with heap := h', toks := t' } := I.un (Un.laid k hp (I.hok.fresh hp)) (I.hok.laid k hp new)
/-- an object written -/
theorem Inv.write {x e : Addr} {o : HO} {t' : Nat} (I : Inv X pins σ H s) (mu : Mut (H x)) (he : e = x ∨ H e = some (.own x)) (k : ∀ b u, b ≠ e → s.heap.get? b = some u → h'.get? b = some u) (heo : ∃ u, h'.get? e = some u)
    (new : ObjOk X.prog X.w (upd H x o) h' x o) : Inv X pins σ (upd H x o) { s with heap := h', toks := t' } := I.un (Un.write mu he k heo) (I.hok.write mu he k heo new)
/-- forgetting slots, pins -/
theorem Inv.weak {σ' : List (Option V)} (I : Inv X pins σ H s) (hl : σ'.length = σ.length) (w : ∀ (i : Nat) v, σ'[i]? = some (some v) → σ[i]? = some (some v)) : Inv X pins σ' H s :=
  ⟨I.ok, I.os, I.bare, I.base, let ⟨m, hn, hl'⟩ := I.loc; ⟨m, hn, fun i x v e1 e2 e3 => hl' i x v e1 (w i v e2) e3⟩, I.cell, I.free, I.freeC, I.pin, I.hok, hl.trans I.len⟩
theorem Inv.pins_of {pins' : List (Addr × Obj)} (I : Inv X pins σ H s) (h : ∀ p ∈ pins', s.heap.get? p.1 = some p.2 ∧ H p.1 = none ∧ p.1 ≠ X.env.locals ∧ p.1 ∉ X.fs ∧ ∀ v, p.2.data ≠ .cell v) : Inv X pins' σ H s :=
  ⟨I.ok, I.os, I.bare, I.base, I.loc, I.cell, I.free, I.freeC, fun p hp => (List.mem_append.mp hp).elim (fun z => I.pin p (List.mem_append_left _ z)) (h p), I.hok, I.len⟩

theorem nodup_ix {N : List Str} (hN : N.Nodup) {i j : Nat} {x : Str} (a : N[i]? = some x) (b : N[j]? = some x) : i = j := by
  obtain ⟨h1, e1⟩ := List.getElem?_eq_some_iff.mp a
  obtain ⟨h2, e2⟩ := List.getElem?_eq_some_iff.mp b
  exact (List.getElem_inj hN).mp (e1.trans e2.symm)

/-- a name is stored; what changed -/
theorem store_ok2 {M : Model} {A : Around} {E : Value → Shared → Prop} {i : Nat} {x : Str} {v : V} {u : Value} {Q : Unit → Shared → Prop} (I : Inv X pins σ H s) (hN : X.N.Nodup) (hi : X.N[i]? = some x) (hx : Loc X.env.scope x) (r : RelV v u)
    (h : ∀ s', Inv X pins (σ.set i (some v)) H s' → (∃ a, Heap.SameBut a s.heap s'.heap ∧ (a = X.env.locals ∨ X.env.cells.lookup x = some a)) → Q () s') (hf : X.fn x = true ∨ X.env.scope.names.lookup x = some .local := by first | exact .inl rfl | exact .inr rfl | assumption) : wpAny M A (storeName X.env x u) Q E s := by
  obtain ⟨m, hn, hl⟩ := id I.loc
  have hcls : (X.env.scope.kind == .class || (X.env.scope.kind == .module && X.env.locals != X.env.globals)) = false := by rw [I.ok.kind]; rfl
  have hiσ : i < σ.length := by rw [I.len]; exact (List.getElem?_eq_some_iff.mp hi).1
  have cne := I.cne
  have tracked : ∀ {a : Addr} {h' : Heap}, (∃ o, s.heap.get? a = some o ∧ H a = none) → Heap.SameBut a s.heap h' → HOk X.prog X.w H h' := fun {a h'} ha hs b ob e => by
    obtain ⟨_, _, hfree⟩ := ha
    refine (I.hok b ob e).stay (fun c w' hc q => (hs.2 c ?_).trans q) (fun _ q => q) fun _ _ q => q
    rintro rfl
    rcases hc with rfl | hc
    · rw [hfree] at e; cases e
    · rw [hfree] at hc; cases hc
  rcases hx with hk | hk
  · refine wpAny_storeName_local hk hn (fun h' hn' hs => ?_) hcls
    obtain ⟨oL, _, _, hoL, _⟩ := id hn
    refine h _ ⟨I.ok, I.os, I.bare, ⟨fun b o e n hb hx => ?_, fun b o e n hb hx => ?_, I.base.free, fun b o e hx => ?_, I.base.tups, I.base.frzs, I.base.tbls⟩, ⟨_, hn', fun j y v' e1 e2 e3 => ?_⟩, fun y c e => ?_, I.free, I.freeC, fun p hp => ?_, tracked ⟨oL, hoL, I.free⟩ hs, by simpa using I.len⟩ ⟨_, hs, .inl rfl⟩
    · exact (hs.2 b (Nat.ne_of_lt (Nat.lt_of_lt_of_le (Heap.lt_size e) I.ok.above))).trans (I.base.keep b o e n hb hx)
    · obtain ⟨sl, e1⟩ := I.base.slot b o e n hb hx
      exact ⟨sl, (hs.2 b (Nat.ne_of_lt (Nat.lt_of_lt_of_le (Heap.lt_size e) I.ok.above))).trans e1⟩
    · obtain ⟨o', e1⟩ := I.base.there b o e hx
      exact ⟨o', (hs.2 b (Nat.ne_of_lt (Nat.lt_of_lt_of_le (Heap.lt_size e) I.ok.above))).trans e1⟩
    · by_cases hj : j = i
      · subst hj
        rw [hi] at e1; cases e1
        rw [List.getElem?_set_self hiσ] at e2
        cases e2
        exact ⟨u, r, .inl ⟨hk, by simp⟩⟩
      · rw [List.getElem?_set_ne (Ne.symm hj)] at e2
        obtain ⟨u', r', q⟩ := hl j y v' e1 e2 e3
        refine ⟨u', r', ?_⟩
        rcases q with ⟨k, e⟩ | ⟨k, c, e, z⟩
        · refine .inl ⟨k, ?_⟩
          have : y ≠ x := fun e => hj (nodup_ix hN e1 (e ▸ hi))
          simp [this, e]
        · exact .inr ⟨k, c, e, z.sameBut hs (cne y c e)⟩
    · obtain ⟨w', z⟩ := I.cell y c e
      exact ⟨w', z.sameBut hs (cne y c e)⟩
    · obtain ⟨e, n, ne, nf, d⟩ := I.pin p hp
      exact ⟨(hs.2 p.1 ne).trans e, n, ne, nf, d⟩
  · have hfn : X.fn x = true := by
      rcases hf with z | z
      · exact z
      · rw [z] at hk; cases hk
    obtain ⟨c, hc⟩ := I.ok.has x (.inl hk)
    obtain ⟨w', z⟩ := I.cell x c hc
    refine wpAny_storeName_cell I.ok.kind hk hc z (fun h' hc' hs => ?_)
    obtain ⟨oc, hoc, hocd⟩ := id z
    refine h { s with heap := h' } ⟨I.ok, I.os, I.bare, ⟨fun b o e n hb hx => ?_, fun b o e n hb hx => ?_, I.base.free, fun b o e hx => ?_, I.base.tups, I.base.frzs, I.base.tbls⟩, ⟨m, hn.sameBut hs (Ne.symm (cne x c hc)), fun j y v' e1 e2 e3 => ?_⟩, fun y c' e => ?_, I.free, I.freeC, fun p hp => ?_, tracked ⟨oc, hoc, I.freeC x c hc⟩ hs, by simpa using I.len⟩ ⟨c, hs, .inr hc⟩
    · exact (hs.2 b (Nat.ne_of_lt (Nat.lt_of_lt_of_le (Heap.lt_size e) (I.ok.cab x c hfn hc)))).trans (I.base.keep b o e n hb hx)
    · obtain ⟨sl, e1⟩ := I.base.slot b o e n hb hx
      exact ⟨sl, (hs.2 b (Nat.ne_of_lt (Nat.lt_of_lt_of_le (Heap.lt_size e) (I.ok.cab x c hfn hc)))).trans e1⟩
    · obtain ⟨o', e1⟩ := I.base.there b o e hx
      exact ⟨o', (hs.2 b (Nat.ne_of_lt (Nat.lt_of_lt_of_le (Heap.lt_size e) (I.ok.cab x c hfn hc)))).trans e1⟩
    · by_cases hj : j = i
      · subst hj
        rw [hi] at e1; cases e1
        rw [List.getElem?_set_self hiσ] at e2
        cases e2
        exact ⟨u, r, .inr ⟨.inl hk, c, hc, hc'⟩⟩
      · rw [List.getElem?_set_ne (Ne.symm hj)] at e2
        obtain ⟨u', r', q⟩ := hl j y v' e1 e2 e3
        refine ⟨u', r', ?_⟩
        rcases q with q | ⟨k, c', e, z'⟩
        · exact .inl q
        · refine .inr ⟨k, c', e, z'.sameBut hs ?_⟩
          rintro rfl
          exact hj (nodup_ix hN e1 (I.ok.inj _ _ _ e hc ▸ hi))
    · by_cases hcc : c' = c
      · subst hcc; exact ⟨_, hc'⟩
      · obtain ⟨w2, z2⟩ := I.cell y c' e
        exact ⟨w2, z2.sameBut hs hcc⟩
    · obtain ⟨e, n, ne, nf, d⟩ := I.pin p hp
      refine ⟨(hs.2 p.1 ?_).trans e, n, ne, nf, d⟩
      intro q
      rw [q, hoc] at e
      have q' : oc = p.2 := Option.some.inj e
      exact d w' (by rw [← q']; exact hocd)
theorem store_ok {M : Model} {A : Around} {E : Value → Shared → Prop} {i : Nat} {x : Str} {v : V} {u : Value} {Q : Unit → Shared → Prop} (I : Inv X pins σ H s) (hN : X.N.Nodup) (hi : X.N[i]? = some x) (hx : Loc X.env.scope x) (r : RelV v u)
    (h : ∀ s', Inv X pins (σ.set i (some v)) H s' → Q () s') (hf : X.fn x = true ∨ X.env.scope.names.lookup x = some .local := by first | exact .inl rfl | exact .inr rfl | assumption) : wpAny M A (storeName X.env x u) Q E s :=
  store_ok2 I hN hi hx r (fun s' I' _ => h s' I') hf
/-- behind a call or a block, the state as it is -/
theorem Inv.call' {s' : Shared} {ch : List Addr} (I : Inv X pins σ H s) (ho : s'.os = s.os) (u : Un (frs X.stack) ch H H' s.heap s'.heap) (hok : HOk X.prog X.w H' s'.heap) (hg : AllBare s'.gens)
    (hch : ∀ b ∈ ch, (b ∈ X.ex ∨ X.s₀.heap.objs.size ≤ b) ∧ b ≠ X.env.locals ∧ (∀ x c, X.env.cells.lookup x = some c → c ≠ b) ∧ ∀ p ∈ X.pn ++ pins, p.1 ≠ b) : Inv X pins σ H' s' := by
  obtain ⟨h', g', d', t', o'⟩ := s'
  have e : o' = s.os := ho
  subst e
  exact I.call (g' := g') (t' := t') (d' := d') u hok hg hch
end

/-! ### the judgements -/
/-- an exception: its class, its own dict's address (where it has one), the abstract heap behind it -/
abbrev XK := Value → Option Addr → Hp → Prop
abbrev St := List (Option V)
abbrev VK := V → Hp → Prop
/-- an expression's reading; a test's; an argument list's -/
abbrev TE := St → Hp → VK → Prop
abbrev TT := St → Hp → (Bool → Hp → Prop) → Prop
abbrev TA := St → Hp → (List V → Hp → Prop) → Prop
/-- what is wanted behind a statement -/
structure Ends where
  nx : St → Hp → Prop
  rt : VK
  bk : St → Hp → Prop := fun _ _ => False
  ct : St → Hp → Prop := fun _ _ => False
abbrev TS := Ends → St → Hp → Prop

def EP (X : Cx) (pins : List (Addr × Obj)) (σ : St) (Q : VK) (u : Value) (s' : Shared) : Prop := ∃ v H', Inv X pins σ H' s' ∧ RelV v u ∧ Q v H'
def TP (X : Cx) (pins : List (Addr × Obj)) (σ : St) (Q : Bool → Hp → Prop) (b : Bool) (s' : Shared) : Prop := ∃ H', Inv X pins σ H' s' ∧ Q b H'
def AP (X : Cx) (pins : List (Addr × Obj)) (σ : St) (Q : List V → Hp → Prop) (us : List Value) (s' : Shared) : Prop := ∃ vs H', Inv X pins σ H' s' ∧ Vals vs us ∧ Q vs H'
def SP (X : Cx) (pins : List (Addr × Obj)) (D : Ends) (f : Flow) (s' : Shared) : Prop :=
  match f with
  | .next => ∃ σ' H', Inv X pins σ' H' s' ∧ D.nx σ' H'
  | .brk => ∃ σ' H', Inv X pins σ' H' s' ∧ D.bk σ' H'
  | .cont => ∃ σ' H', Inv X pins σ' H' s' ∧ D.ct σ' H'
  | .ret u => ∃ v σ' H', Inv X pins σ' H' s' ∧ RelV v u ∧ D.rt v H'

def PE (X : Cx) (e : Expr) (t : TE) : Prop :=
  ∀ (pins : List (Addr × Obj)) (s : Shared) (σ : St) (H : Hp) (Q : VK), Inv X pins σ H s → t σ H Q → wpAny (model X.prog X.w) X.A (eval e X.env) (EP X pins σ Q) X.xe s
def PT (X : Cx) (e : Expr) (t : TT) : Prop :=
  ∀ (pins : List (Addr × Obj)) (s : Shared) (σ : St) (H : Hp) (Q : Bool → Hp → Prop), Inv X pins σ H s → t σ H Q → wpAny (model X.prog X.w) X.A (isTrue e X.env (eval e X.env)) (TP X pins σ Q) X.xe s
/-- a test whatever its 'whole' is (and, or) -/
def PW (X : Cx) (e : Expr) (t : TT) : Prop :=
  ∀ (whole : Sem Value) (pins : List (Addr × Obj)) (s : Shared) (σ : St) (H : Hp) (Q : Bool → Hp → Prop), Inv X pins σ H s → t σ H Q → wpAny (model X.prog X.w) X.A (isTrue e X.env whole) (TP X pins σ Q) X.xe s
theorem PW.pt {X : Cx} {e : Expr} {t : TT} (h : PW X e t) : PT X e t := h _
/-- an argument list (no star), from the left -/
def PA (X : Cx) (es : List Expr) (t : TA) : Prop :=
  ∀ (pos : Pos) (pins : List (Addr × Obj)) (s : Shared) (σ : St) (H : Hp) (Q : List V → Hp → Prop), Inv X pins σ H s → t σ H Q → wpAny (model X.prog X.w) X.A (spliced (backTo pos (starEach es X.env))) (AP X pins σ Q) X.xe s
def PS (X : Cx) (st : Stmt) (t : TS) : Prop :=
  ∀ (pins : List (Addr × Obj)) (s : Shared) (σ : St) (H : Hp) (D : Ends), Inv X pins σ H s → t D σ H → wpAny (model X.prog X.w) X.A (exec st X.env) (SP X pins D) X.xe s
def PSs (X : Cx) (st : List Stmt) (t : TS) : Prop :=
  ∀ (pins : List (Addr × Obj)) (s : Shared) (σ : St) (H : Hp) (D : Ends), Inv X pins σ H s → t D σ H → wpAny (model X.prog X.w) X.A (execs st X.env) (SP X pins D) X.xe s
/-- weaken the end -/
theorem thn {α : Type} {t : Sem α} {Q Q' : α → Shared → Prop} {M : Model} {A : Around} {E : Value → Shared → Prop} {s : Shared} (h : wpAny M A t Q E s) (hQ : ∀ a s, Q a s → Q' a s) : wpAny M A t Q' E s := wpAny_mono h hQ fun _ _ x => x
end L2

namespace L2
open PySem PySem.Spec PyProof.Rows
section
variable {X : Cx}

/-! ### names and constants -/
def tVar (i : Nat) : TE := fun σ H Q => ∃ v, σ[i]? = some (some v) ∧ Q v H
def tC (v : V) : TE := fun _ H Q => Q v H
theorem pe_var {i : Nat} {x : Str} {pos : Pos} (hN : X.N[i]? = some x) (hv : Vis X.env.scope x) (hd : (x == ("__debug__" : Str)) = false := by decide) (hcd : (x == ("__classdict__" : Str)) = false := by decide) : PE X (.Name x pos) (tVar i) := by
  intro pins s σ H Q I h
  obtain ⟨v, e, h⟩ := h
  obtain ⟨m, hn, hl⟩ := I.loc
  obtain ⟨u, r, l⟩ := hl i x v hN e hv
  have fin : EP X pins σ Q u s := ⟨v, H, I, r, h⟩
  rcases l with ⟨hk, hm⟩ | ⟨hk, c, hc, hcell⟩
  · exact wpAny_Name (wpAny_loadName_local I.ok.kind hk hn hm fin) hd
  · rcases hk with hk | hk
    · exact wpAny_Name (wpAny_loadName_cell I.ok.kind hk hc hcell fin) hd
    · exact wpAny_Name (wpAny_loadName_free I.ok.kind hk hc hcell fin hcd) hd
theorem pe_int {i j pos} : PE X (.Constant (.int i) j pos) (tC (.int i)) := fun _ _ _ H _ I h => wpAny_Constant_int ⟨.int i, H, I.tok _, ⟨_, rfl⟩, h⟩
theorem pe_bl {b j pos} : PE X (.Constant (.bool b) j pos) (tC (.bl b)) := fun _ _ _ H _ I h => Constant_bool ⟨.bl b, H, I, rfl, h⟩
theorem pe_non {j pos} : PE X (.Constant .none j pos) (tC .non) := fun _ _ _ H _ I h => Constant_none ⟨.non, H, I, rfl, h⟩
theorem pe_str {x j pos} : PE X (.Constant (.str x) j pos) (tC (.str x)) := fun _ _ _ H _ I h => Calls.Constant_str ⟨.str x, H, I.tok _, ⟨_, rfl⟩, h⟩

/-- a global name of the def -/
def Gl (X : Cx) (x : Str) : Prop := X.env.kindOf x = some .globalImplicit
theorem ld_glob {E : Value → Shared → Prop} {pins : List (Addr × Obj)} {s : Shared} {σ : St} {H : Hp} {x : Str} {u : Value} {pos : Pos} {Q : Value → Shared → Prop} (I : Inv X pins σ H s) (hg : Gl X x) (hm : X.mg x = some u) (h : Q u s)
    (hd : (x == ("__debug__" : Str)) = false := by decide) : wpAny (model X.prog X.w) X.A (eval (.Name x pos) X.env) Q E s :=
  Calls.Name_function_global I.ok.kind hg (Calls.loadGlobal_global (by rw [I.ok.glob]; exact I.mod.glob.keeps I.bk) hm h) hd
theorem ld_blt {E : Value → Shared → Prop} {pins : List (Addr × Obj)} {s : Shared} {σ : St} {H : Hp} {x : Str} {u : Value} {pos : Pos} {Q : Value → Shared → Prop} (I : Inv X pins σ H s) (hg : Gl X x) (hm : X.mg x = none) (hv : bootBuiltins x = some u) (h : Q u s)
    (hn : x ≠ "__name__" := by decide) (hd : (x == ("__debug__" : Str)) = false := by decide) : wpAny (model X.prog X.w) X.A (eval (.Name x pos) X.env) Q E s := by
  obtain ⟨mb, h1, h2⟩ := I.mod.blt
  exact Calls.Name_function_global I.ok.kind hg (Calls.loadGlobal_builtin (by rw [I.ok.glob]; exact I.mod.glob.keeps I.bk) hm (by rw [I.ok.blt]; exact h1.keeps I.bk) ((h2 x hn).trans hv) h) hd
/-- a module's constant, a class, a function, as a value -/
theorem pe_glob {x : Str} {v : V} {u : Value} {pos : Pos} (hg : Gl X x) (hm : X.mg x = some u) (r : RelV v u) (hd : (x == ("__debug__" : Str)) = false := by decide) : PE X (.Name x pos) (tC v) :=
  fun _ _ _ H _ I h => ld_glob I hg hm ⟨v, H, I, r, h⟩ hd
theorem pe_bltn {x : Str} {v : V} {u : Value} {pos : Pos} (hg : Gl X x) (hm : X.mg x = none) (hv : bootBuiltins x = some u) (r : RelV v u) (hn : x ≠ "__name__" := by decide) (hd : (x == ("__debug__" : Str)) = false := by decide) : PE X (.Name x pos) (tC v) :=
  fun _ _ _ H _ I h => ld_blt I hg hm hv ⟨v, H, I, r, h⟩ hn hd

variable {a b : Expr} {ta tb : TE} {pos : Pos}
/-- a comparison as a value, as a test -/
def tB (t : TE) : TT := fun σ H Q => t σ H fun x H1 => ∃ c, x = .bl c ∧ Q c H1
/-- an expression whose value is a bool, as a test -/
theorem pt_val {e : Expr} {t : TE} (h : PE X e t) (he : ∀ whole, isTrue e X.env whole = (do let v ← whole; standAt e.pos; holding [v] (truthy v)) := by intro _; rfl) : PT X e (tB t) := by
  intro pins s σ H Q I hw
  refine isTrue_plain (thn (h pins s σ H _ I hw) fun v s1 ⟨x, H1, I1, r1, q1⟩ => ?_) (he _)
  obtain ⟨d, rfl, q⟩ := q1
  cases r1
  exact wpAny_truthy_bool ⟨H1, I1, q⟩

/-! ### and, or, not -/
variable {tA tB' : TT} {rest : List Expr}
def tAnd (t u : TT) : TT := fun σ H Q => t σ H fun c H1 => if c = true then u σ H1 Q else Q false H1
def tOr (t u : TT) : TT := fun σ H Q => t σ H fun c H1 => if c = true then Q true H1 else u σ H1 Q
def tNot (t : TT) : TT := fun σ H Q => t σ H fun c H1 => Q (!c) H1
theorem pw_and1 (ha : PT X a tA) : PW X (.BoolOp .And [a] pos) tA := by
  intro wh pins s σ H Q I h
  refine isTrue_and (thn (ha pins s σ H Q I h) fun c s1 e => ?_)
  cases c with
  | true => exact isTrue_and_nil e
  | false => exact e
theorem pw_or1 (ha : PT X a tA) : PW X (.BoolOp .Or [a] pos) tA := by
  intro wh pins s σ H Q I h
  refine isTrue_or (thn (ha pins s σ H Q I h) fun c s1 e => ?_)
  cases c with
  | false => exact isTrue_or_nil e
  | true => exact e
theorem pw_and (ha : PT X a tA) (hb : PW X (.BoolOp .And (b :: rest) pos) tB') : PW X (.BoolOp .And (a :: b :: rest) pos) (tAnd tA tB') := by
  intro wh pins s σ H Q I h
  refine isTrue_and (thn (ha pins s σ H _ I h) fun c s1 ⟨H1, I1, q1⟩ => ?_)
  cases c with
  | true => exact hb wh pins s1 σ H1 Q I1 q1
  | false => exact ⟨H1, I1, q1⟩
theorem pw_or (ha : PT X a tA) (hb : PW X (.BoolOp .Or (b :: rest) pos) tB') : PW X (.BoolOp .Or (a :: b :: rest) pos) (tOr tA tB') := by
  intro wh pins s σ H Q I h
  refine isTrue_or (thn (ha pins s σ H _ I h) fun c s1 ⟨H1, I1, q1⟩ => ?_)
  cases c with
  | true => exact ⟨H1, I1, q1⟩
  | false => exact hb wh pins s1 σ H1 Q I1 q1
theorem pt_not (ha : PT X a tA) : PT X (.UnaryOp .Not a pos) (tNot tA) := by
  intro pins s σ H Q I h
  exact isTrue_not (ha pins s σ H (fun c H1 => Q (!c) H1) I h)
/-- .. as values (bools) -/
def tAndV (ta tb : TE) : TE := fun σ H Q => ta σ H fun x H1 => ∃ c, x = .bl c ∧ if c = true then tb σ H1 Q else Q (.bl false) H1
def tOrV (ta tb : TE) : TE := fun σ H Q => ta σ H fun x H1 => ∃ c, x = .bl c ∧ if c = true then Q (.bl true) H1 else tb σ H1 Q
theorem pe_one {op} {t : TE} (h : PE X a t) : PE X (.BoolOp op [a] pos) t := fun pins s σ H Q I hw => BoolOp_one (h pins s σ H Q I hw)
theorem pe_and (ha : PE X a ta) (hb : PE X (.BoolOp .And (b :: rest) pos) tb) : PE X (.BoolOp .And (a :: b :: rest) pos) (tAndV ta tb) := by
  intro pins s σ H Q I h
  refine BoolOp_and (thn (ha pins s σ H _ I h) fun v s1 ⟨x, H1, I1, r1, q1⟩ => ?_)
  obtain ⟨c, rfl, q1⟩ := q1
  cases r1
  refine wpAny_truthy_bool ?_
  cases c with
  | true => exact hb pins s1 σ H1 Q I1 q1
  | false => exact ⟨.bl false, H1, I1, rfl, q1⟩
theorem pe_or (ha : PE X a ta) (hb : PE X (.BoolOp .Or (b :: rest) pos) tb) : PE X (.BoolOp .Or (a :: b :: rest) pos) (tOrV ta tb) := by
  intro pins s σ H Q I h
  refine BoolOp_or (thn (ha pins s σ H _ I h) fun v s1 ⟨x, H1, I1, r1, q1⟩ => ?_)
  obtain ⟨c, rfl, q1⟩ := q1
  cases r1
  refine wpAny_truthy_bool ?_
  cases c with
  | false => exact hb pins s1 σ H1 Q I1 q1
  | true => exact ⟨.bl true, H1, I1, rfl, q1⟩
/-- a if t else b -/
def tIf (t : TT) (ta tb : TE) : TE := fun σ H Q => t σ H fun c H1 => if c = true then ta σ H1 Q else tb σ H1 Q
theorem pe_ifExp {c : Expr} (hc : PT X c tA) (ha : PE X a ta) (hb : PE X b tb) : PE X (.IfExp c a b pos) (tIf tA ta tb) := by
  intro pins s σ H Q I h
  refine wpAny_IfExp (thn (hc pins s σ H _ I h) fun d s1 ⟨H1, I1, q1⟩ => ?_)
  cases d with
  | true => exact ha pins s1 σ H1 Q I1 q1
  | false => exact hb pins s1 σ H1 Q I1 q1
end
end L2

namespace L2
open PySem PySem.Spec PyProof.Rows

/-! ### a list, a tuple that is read: tracked, frozen, or an object of the module -/
def SqL (K : PySem.W.Frag) (H : Hp) (a : Addr) (xs : List V) : Prop :=
  Rd H a (.lst xs) ∨
    ∃ (o : Obj) (its : Array Value) (n : Nat), K.lookup a = some o ∧ o.cls = .type "list" ∧ o.dict = none ∧ o.data = .seq its n ∧ its.size ≤ sizeLine ∧ Vals xs its.toList
def SqT (K : PySem.W.Frag) (H : Hp) (a : Addr) (xs : List V) : Prop :=
  Rd H a (.tup xs) ∨
    ∃ (o : Obj) (its : Array Value) (n : Nat), K.lookup a = some o ∧ o.cls = .type "tuple" ∧ o.data = .seq its n ∧ its.size ≤ sizeLine ∧ Vals xs its.toList
def absV : Value → Option V
  | .none => some .non
  | .bool b => some (.bl b)
  | .int i _ => some (.int i)
  | .str x _ => some (.str x)
  | .bytes b _ => some (.byt b)
  | .float b _ => some (.flt b)
  | .ref a => some (.ref a)
  | .type n => some (.ty n)
  | _ => none
theorem RelV.abs {x : V} {u : Value} (r : RelV x u) : absV u = some x := by
  cases x with
  | non => cases r; rfl
  | bl _ => cases r; rfl
  | int _ => obtain ⟨t, rfl⟩ := r; rfl
  | str _ => obtain ⟨t, rfl⟩ := r; rfl
  | byt _ => obtain ⟨t, rfl⟩ := r; rfl
  | flt _ => obtain ⟨t, rfl⟩ := r; rfl
  | ref _ => cases r; rfl
  | ty _ => cases r; rfl
theorem RelV.inj {x y : V} {u : Value} (r : RelV x u) (q : RelV y u) : x = y := Option.some.inj (r.abs.symm.trans q.abs)
theorem Vals.inj : ∀ {xs ys : List V} {us : List Value}, Vals xs us → Vals ys us → xs = ys
  | _, _, _, .nil, .nil => rfl
  | _, _, _, .cons r t, .cons r' t' => by rw [r.inj r', Vals.inj t t']
section
variable {X : Cx} {pins : List (Addr × Obj)} {σ : St} {H : Hp} {s : Shared} {a : Addr} {xs ys : List V}
theorem SqL.of {K : PySem.W.Frag} (h : H a = some (.lst xs)) : SqL K H a xs := .inl (.inl h)
theorem SqT.of {K : PySem.W.Frag} (h : H a = some (.tup xs)) : SqT K H a xs := .inl (.inl h)
theorem Inv.list (I : Inv X pins σ H s) (h : SqL X.K H a xs) : ∃ its : List Value, Vals xs its ∧ PlainL s.heap a its.toArray ∧ xs.length ≤ sizeLine := by
  rcases h with h | ⟨o, its, n, hk, hc, hd, hs, hz, r⟩
  · obtain ⟨z, its, n, r, e⟩ := h.ok I.hok
    exact ⟨its, r, ⟨_, n, e, rfl, rfl, rfl⟩, z⟩
  · refine ⟨its.toList, r, ⟨o, n, I.kIn a o hk, hc, hd, by simpa using hs⟩, ?_⟩
    have e := r.length
    simp only [Array.length_toList] at e
    omega
theorem Inv.tuple (I : Inv X pins σ H s) (h : SqT X.K H a xs) : ∃ its : List Value, Vals xs its ∧ IsTup s.heap a its.toArray ∧ xs.length ≤ sizeLine := by
  rcases h with h | ⟨o, its, n, hk, hc, hs, hz, r⟩
  · obtain ⟨z, its, r, p⟩ := h.ok I.hok
    exact ⟨its, r, p, z⟩
  · refine ⟨its.toList, r, ⟨o, I.kIn a o hk, hc, n, by simpa using hs⟩, ?_⟩
    have e := r.length
    simp only [Array.length_toList] at e
    omega
theorem Inv.list_inj (I : Inv X pins σ H s) (h : SqL X.K H a xs) (h' : SqL X.K H a ys) : xs = ys := by
  obtain ⟨its, r, ⟨o, n, e, _, _, d⟩, _⟩ := I.list h
  obtain ⟨its', r', ⟨o', n', e', _, _, d'⟩, _⟩ := I.list h'
  rw [e] at e'; cases e'
  rw [d] at d'
  injection d' with d1 _
  have : its = its' := by simpa using congrArg Array.toList d1
  subst this
  exact r.inj r'
theorem Inv.tuple_inj (I : Inv X pins σ H s) (h : SqT X.K H a xs) (h' : SqT X.K H a ys) : xs = ys := by
  obtain ⟨its, r, ⟨o, e, _, n, d⟩, _⟩ := I.tuple h
  obtain ⟨its', r', ⟨o', e', _, n', d'⟩, _⟩ := I.tuple h'
  rw [e] at e'; cases e'
  rw [d] at d'
  injection d' with d1 _
  have : its = its' := by simpa using congrArg Array.toList d1
  subst this
  exact r.inj r'
end

/-! ### another wish about exceptions -/
abbrev Cx.wish (X : Cx) (E : Value → Shared → Prop) : Cx := { X with xe := E }
/-- no exception leaves -/
abbrev Cx.nox (X : Cx) : Cx := X.wish fun _ _ => False
theorem Cx.Ok.wish {X : Cx} (ok : X.Ok) (E : Value → Shared → Prop) : (X.wish E).Ok :=
  ⟨ok.mod, ok.kind, ok.glob, ok.blt, ok.above, ok.inj, ok.has, ok.cab, ok.hd, ok.frames, ok.stk, ok.exf, ok.bs, ok.bsz, ok.noex, ok.exfs, ok.funs, ok.frf⟩
theorem Cx.Ok.unwish {X : Cx} {E : Value → Shared → Prop} (ok : (X.wish E).Ok) : X.Ok :=
  ⟨ok.mod, ok.kind, ok.glob, ok.blt, ok.above, ok.inj, ok.has, ok.cab, ok.hd, ok.frames, ok.stk, ok.exf, ok.bs, ok.bsz, ok.noex, ok.exfs, ok.funs, ok.frf⟩
section
variable {X : Cx} {pins : List (Addr × Obj)} {σ : St} {H : Hp} {s : Shared} {E : Value → Shared → Prop}
theorem Inv.wish (I : Inv X pins σ H s) (E : Value → Shared → Prop) : Inv (X.wish E) pins σ H s := ⟨I.ok.wish E, I.os, I.bare, I.base, I.loc, I.cell, I.free, I.freeC, I.pin, I.hok, I.len⟩
theorem Inv.unwish (I : Inv (X.wish E) pins σ H s) : Inv X pins σ H s := ⟨I.ok.unwish, I.os, I.bare, I.base, I.loc, I.cell, I.free, I.freeC, I.pin, I.hok, I.len⟩
theorem SP.unwish {D : Ends} {f : Flow} {s' : Shared} (h : SP (X.wish E) pins D f s') : SP X pins D f s' := by
  cases f with
  | next => obtain ⟨σ', H', I, q⟩ := h; exact ⟨σ', H', I.unwish, q⟩
  | brk => obtain ⟨σ', H', I, q⟩ := h; exact ⟨σ', H', I.unwish, q⟩
  | cont => obtain ⟨σ', H', I, q⟩ := h; exact ⟨σ', H', I.unwish, q⟩
  | ret u => obtain ⟨v, σ', H', I, r, q⟩ := h; exact ⟨v, σ', H', I.unwish, r, q⟩
theorem PE.nox {e : Expr} {t : TE} (h : PE X.nox e t) : PE X e t := fun pins s σ H Q I hw =>
  wpAny_mono (h pins s σ H Q (I.wish _) hw) (fun _ _ ⟨v, H', I', r, q⟩ => ⟨v, H', I'.unwish, r, q⟩) fun _ _ z => False.elim z
theorem PT.nox {e : Expr} {t : TT} (h : PT X.nox e t) : PT X e t := fun pins s σ H Q I hw =>
  wpAny_mono (h pins s σ H Q (I.wish _) hw) (fun _ _ ⟨H', I', q⟩ => ⟨H', I'.unwish, q⟩) fun _ _ z => False.elim z
theorem PSs.nox {st : List Stmt} {t : TS} (h : PSs X.nox st t) : PSs X st t := fun pins s σ H D I hw =>
  wpAny_mono (h pins s σ H D (I.wish _) hw) (fun _ _ q => q.unwish) fun _ _ z => False.elim z
end

/-! ### blocks and small statements -/
section
variable {X : Cx} {st : Stmt} {rest : List Stmt} {t u : TS} {e : Expr} {te : TE} {pos : Pos}
def tNext : TS := fun D σ H => D.nx σ H
def tSeq (t u : TS) : TS := fun D σ H => t { D with nx := u D } σ H
theorem pss_nil : PSs X [] tNext := fun _ _ σ H _ I h => wpAny_execs_nil ⟨σ, H, I, h⟩
theorem pss_cons (h1 : PS X st t) (h2 : PSs X rest u) : PSs X (st :: rest) (tSeq t u) := by
  intro pins s σ H D I h
  refine wpAny_execs_cons (thn (h1 pins s σ H { D with nx := u D } I h) fun f s1 q => ?_)
  cases f with
  | next =>
    obtain ⟨σ', H', I', q⟩ := q
    exact h2 pins s1 σ' H' D I' q
  | ret v => exact q
  | brk => exact q
  | cont => exact q
theorem pss_one (h1 : PS X st t) : PSs X [st] t := by
  intro pins s σ H D I h
  refine wpAny_execs_cons (thn (h1 pins s σ H D I h) fun f s1 q => ?_)
  cases f with
  | next => exact wpAny_execs_nil q
  | ret v => exact q
  | brk => exact q
  | cont => exact q
/-- in a def's body nothing is shown -/
theorem Inv.quiet {pins : List (Addr × Obj)} {σ : St} {H : Hp} {s : Shared} (I : Inv X pins σ H s) : interactive X.env = false := by simp [interactive, I.ok.kind]
/-- an expression whose value is dropped -/
def tDrop (te : TE) : TS := fun D σ H => te σ H fun _ H1 => D.nx σ H1
theorem ps_expr (he : PE X e te) (hs : swapsWith e none pos.line X.env = pure false := by rfl) : PS X (.Expr e pos) (tDrop te) := by
  intro pins s σ H D I h
  exact wpAny_Expr_any (thn (he pins s σ H _ I h) fun v s1 ⟨x, H1, I1, r1, q1⟩ => ⟨σ, H1, I1, q1⟩) I.quiet hs
def tRet (te : TE) : TS := fun D σ H => te σ H D.rt
theorem ps_ret (he : PE X e te) : PS X (.Return (some e) pos) (tRet te) := by
  intro pins s σ H D I h
  exact wpAny_Return_some (thn (he pins s σ H _ I h) fun v s1 ⟨x, H1, I1, r1, q1⟩ => ⟨x, σ, H1, I1, r1, q1⟩)
def tIfS (c : TT) (t u : TS) : TS := fun D σ H => c σ H fun b H1 => if b = true then t D σ H1 else u D σ H1
theorem ps_if {c : Expr} {a b : List Stmt} {tc : TT} (hc : PT X c tc) (ha : PSs X a t) (hb : PSs X b u) : PS X (.If c a b pos) (tIfS tc t u) := by
  intro pins s σ H D I h
  refine wpAny_If (thn (hc pins s σ H _ I h) fun d s1 ⟨H1, I1, q1⟩ => ?_)
  cases d with
  | true => exact ha pins s1 σ H1 D I1 q1
  | false => exact hb pins s1 σ H1 D I1 q1
end

/-! ### targets -/
abbrev TG := V → St → Hp → (St → Hp → Prop) → Prop
abbrev TGs := List V → St → Hp → (St → Hp → Prop) → Prop
def PG (X : Cx) (target : Expr) (t : TG) : Prop :=
  ∀ (pins : List (Addr × Obj)) (s : Shared) (σ : St) (H : Hp) (v : V) (u : Value) (Q : St → Hp → Prop), Inv X pins σ H s → RelV v u → t v σ H Q →
    wpAny (model X.prog X.w) X.A (assign target X.env u) (fun _ s' => ∃ σ' H', Inv X pins σ' H' s' ∧ Q σ' H') X.xe s
/-- several targets, one after another -/
def PGs (X : Cx) (ts : List Expr) (t : TGs) : Prop :=
  ∀ (pins : List (Addr × Obj)) (s : Shared) (σ : St) (H : Hp) (vs : List V) (us : List Value) (Q : St → Hp → Prop), Inv X pins σ H s → Vals vs us → t vs σ H Q →
    wpAny (model X.prog X.w) X.A (assignInOrder ((assignEach ts X.env).map (·.2)) us) (fun _ s' => ∃ σ' H', Inv X pins σ' H' s' ∧ Q σ' H') X.xe s
/-- a op= b, by values -/
abbrev TIp := V → V → Hp → VK → Prop
def PIp (X : Cx) (op : Operator) (t : TIp) : Prop :=
  ∀ (pins : List (Addr × Obj)) (s : Shared) (σ : St) (H : Hp) (x y : V) (v u : Value) (Q : VK), Inv X pins σ H s → RelV x v → RelV y u → t x y H Q →
    wpAny (model X.prog X.w) X.A (inplaceOp op v u) (EP X pins σ Q) X.xe s
section
variable {X : Cx} {pos : Pos}
def gName (i : Nat) : TG := fun v σ H Q => Q (σ.set i (some v)) H
theorem pg_name {i : Nat} {x : Str} (hN : X.N.Nodup) (hi : X.N[i]? = some x) (hx : Loc X.env.scope x) (hf : X.fn x = true ∨ X.env.scope.names.lookup x = some .local := by first | exact .inl rfl | exact .inr rfl | assumption) : PG X (.Name x pos) (gName i) := by
  intro pins s σ H v u Q I r h
  exact wpAny_assign_Name (store_ok I hN hi hx r (fun s' I' => ⟨_, H, I', h⟩) hf)
def gNil : TGs := fun vs σ H Q => vs = [] ∧ Q σ H
def gCons (t : TG) (u : TGs) : TGs := fun vs σ H Q => ∃ v r, vs = v :: r ∧ t v σ H fun σ' H' => u r σ' H' Q
theorem pgs_nil : PGs X [] gNil := by
  intro pins s σ H vs us Q I r h
  obtain ⟨e, h⟩ := h
  subst e
  cases r
  exact assignInOrder_nil ⟨σ, H, I, h⟩
theorem pgs_cons {e : Expr} {es : List Expr} {t : TG} {u : TGs} (h1 : PG X e t) (h2 : PGs X es u)
    (hs : (assignEach (e :: es) X.env).map (·.2) = assign e X.env :: (assignEach es X.env).map (·.2) := by rfl) : PGs X (e :: es) (gCons t u) := by
  intro pins s σ H vs us Q I r h
  obtain ⟨v, vr, e1, h⟩ := h
  subst e1
  cases r with
  | cons r rr =>
    rw [hs]
    refine assignInOrder_cons (thn (h1 pins s σ H _ _ _ I r h) fun _ s1 ⟨σ1, H1, I1, q1⟩ => ?_)
    exact h2 pins s1 σ1 H1 _ _ Q I1 rr q1
/-- (a, b, ..) = a tuple of that length -/
def gTup (K : PySem.W.Frag) (n : Nat) (t : TGs) : TG := fun v σ H Q => ∃ a xs, v = .ref a ∧ SqT K H a xs ∧ xs.length = n ∧ t xs σ H Q
theorem pg_tup {es : List Expr} {k : Nat} {t : TGs} {n : Nat} (hc : X.calm = true) (h : PGs X es t)
    (hn : (assignEach es X.env).length = n := by rfl) (hst : (assignEach es X.env).findIdx? (·.1) = none := by rfl) : PG X (.Tuple es k pos) (gTup X.K n t) := by
  intro pins s σ H v u Q I r hw
  obtain ⟨a, xs, e1, hq, hl, hw⟩ := hw
  subst e1
  cases r
  obtain ⟨its, rv, ht, hz⟩ := I.tuple hq
  refine assign_Tuple_tuple (I.ok.hd hc) ht (by simp [hn, ← hl, rv.length]) hst fun h' hx => ?_
  have I1 : Inv X pins σ H { s with heap := h' } := I.kept (t' := s.toks) fun b o e => hx b o (Nat.ne_of_lt (Heap.lt_size e)) e
  exact h pins _ σ H xs _ Q I1 (by simpa using rv) hw
/-- target = value -/
def tAsg (te : TE) (g : TG) : TS := fun D σ H => te σ H fun x H1 => g x σ H1 D.nx
theorem ps_asg {tg e : Expr} {te : TE} {g : TG} (he : PE X e te) (hg : PG X tg g) (hs : swapsWithSole [tg] e pos.line X.env = pure false := by rfl) (hw : swappedStores [tg] e X.env = pure none := by rfl)
    (h1 : (assignEach [tg] X.env).map (·.2) = [assign tg X.env] := by rfl) : PS X (.Assign [tg] e pos) (tAsg te g) := by
  intro pins s σ H D I h
  refine wpAny_Assign_stores (thn (he pins s σ H _ I h) fun v s1 ⟨x, H1, I1, r1, q1⟩ => ?_) hs hw
  rw [h1]
  exact thn (hg pins s1 σ H1 x v _ I1 r1 q1) fun _ s2 q => q
/-- name = value -/
theorem ps_set {i : Nat} {x : Str} {e : Expr} {te : TE} {pos' : Pos} (hN : X.N.Nodup) (hi : X.N[i]? = some x) (hx : Loc X.env.scope x) (he : PE X e te) (hs : swapsWith e (some (.Name x pos')) pos.line X.env = pure false := by rfl) (hf : X.fn x = true ∨ X.env.scope.names.lookup x = some .local := by first | exact .inl rfl | exact .inr rfl | assumption) :
    PS X (.Assign [.Name x pos'] e pos) (tAsg te (gName i)) := by
  intro pins s σ H D I h
  refine wpAny_Assign_Name (thn (he pins s σ H _ I h) fun v s1 ⟨y, H1, I1, r1, q1⟩ => ?_) hs
  exact store_ok I1 hN hi hx r1 (fun s2 I2 => ⟨_, H1, I2, q1⟩) hf
/-- name op= e -/
def tAug (i : Nat) (te : TE) (ti : TIp) : TS := fun D σ H => ∃ x, σ[i]? = some (some x) ∧ te σ H fun y H1 => ti x y H1 fun z H2 => D.nx (σ.set i (some z)) H2
theorem ps_aug {i : Nat} {x : Str} {e : Expr} {te : TE} {op : Operator} {ti : TIp} {pos' : Pos} (hN : X.N.Nodup) (hi : X.N[i]? = some x) (hx : Loc X.env.scope x) (he : PE X e te) (ho : PIp X op ti) (hf : X.fn x = true ∨ X.env.scope.names.lookup x = some .local := by first | exact .inl rfl | exact .inr rfl | assumption) :
    PS X (.AugAssign (.Name x pos') op e pos) (tAug i te ti) := by
  intro pins s σ H D I h
  obtain ⟨v, e1, h⟩ := h
  obtain ⟨m, hn, hl⟩ := I.loc
  have vis : Vis X.env.scope x := by rcases hx with k | k; exact .inl k; exact .inr (.inl k)
  obtain ⟨u, r, l⟩ := hl i x v hi e1 vis
  refine wpAny_AugAssign_Name ?_
  have go : wpAny (model X.prog X.w) X.A (eval e X.env) (fun w s₂ => wpAny (model X.prog X.w) X.A (inplaceOp op u w) (fun r s₃ => wpAny (model X.prog X.w) X.A (storeName X.env x r) (fun _ => SP X pins D .next) X.xe s₃) X.xe s₂) X.xe s := by
    refine thn (he pins s σ H _ I h) fun w s1 ⟨y, H1, I1, r1, q1⟩ => ?_
    refine thn (ho pins s1 σ H1 v y u w _ I1 r r1 q1) fun z s2 ⟨zv, H2, I2, r2, q2⟩ => ?_
    exact store_ok I2 hN hi hx r2 (fun s3 I3 => ⟨_, H2, I3, q2⟩) hf
  rcases l with ⟨hk, hm⟩ | ⟨hk, c, hc, hcell⟩
  · exact wpAny_loadName_local I.ok.kind hk hn hm go
  · rcases hk with hk | hk
    · exact wpAny_loadName_cell I.ok.kind hk hc hcell go
    · rcases hx with k | k
      · have : X.env.scope.names.lookup x = some .free := hk
        rw [k] at this; cases this
      · have : X.env.scope.names.lookup x = some .free := hk
        rw [k] at this; cases this
/-- ints -/
def ipI (f : Int → Int → Int) : TIp := fun x y H Q => ∃ i j, x = .int i ∧ y = .int j ∧ Q (.int (f i j)) H
theorem ip_add : PIp X .Add (ipI fun i j => i + j) := by
  intro pins s σ H x y v u Q I r1 r2 h
  obtain ⟨i, j, e1, e2, q⟩ := h
  subst e1; subst e2
  obtain ⟨t, rfl⟩ := r1
  obtain ⟨t', rfl⟩ := r2
  exact iadd_int ⟨.int _, H, I.tok _, ⟨_, rfl⟩, q⟩
end

/-! ### while -/
section
variable {X : Cx} {pos : Pos}
/-- the invariant W with its measure -/
def tWhile (c : TT) (tb : TS) : TS := fun D σ H => ∃ W : Nat → St → Hp → Prop, (∃ m, W m σ H) ∧ ∀ m σ H, W m σ H →
  c σ H fun b H1 => if b = true then ∃ N : St → Hp → Prop, (∀ σ' H', N σ' H' → ∃ m', m' < m ∧ W m' σ' H') ∧ tb { D with nx := N, ct := N, bk := D.nx } σ H1 else D.nx σ H1
theorem ps_while {c : Expr} {body : List Stmt} {tc : TT} {tb : TS} (hp : PassesOwn (model X.prog X.w) X.A X.env X.xe) (hc : PT X c tc) (hb : PSs X body tb) : PS X (.While c body [] pos) (tWhile tc tb) := by
  intro pins s σ H D I h
  obtain ⟨W, ⟨m0, w0⟩, turn⟩ := h
  refine wpAny_While (codeAny_whileLoop (fun n s' => ∃ σ' H', Inv X pins σ' H' s' ∧ W n σ' H') ?_ m0 ⟨σ, H, I, w0⟩)
  rintro n s1 ⟨σ1, H1, I1, w1⟩
  refine wpAny_passesOwn hp (thn (hc pins s1 σ1 H1 _ I1 (turn n σ1 H1 w1)) fun b s2 ⟨H2, I2, q2⟩ => ?_)
  cases b with
  | true =>
    obtain ⟨N, hN, q2⟩ := q2
    rw [if_pos rfl]
    refine wpAny_passesOwn hp (thn (hb pins s2 σ1 H2 _ I2 q2) fun f s3 q3 => ?_)
    cases f with
    | next =>
      obtain ⟨σ3, H3, I3, n3⟩ := q3
      obtain ⟨m', hm, w3⟩ := hN σ3 H3 n3
      exact ⟨m', hm, σ3, H3, I3, w3⟩
    | cont =>
      obtain ⟨σ3, H3, I3, n3⟩ := q3
      obtain ⟨m', hm, w3⟩ := hN σ3 H3 n3
      exact ⟨m', hm, σ3, H3, I3, w3⟩
    | brk => exact q3
    | ret v => exact q3
  | false =>
    rw [if_neg Bool.false_ne_true]
    exact wpAny_execs_nil ⟨σ1, H2, I2, q2⟩
end

/-! ### what a loop or a comprehension walks -/
/-- at turn i: it yields x (the heap may grow), or it stops -/
structure It where
  go : Nat → Hp → Prop
  yld : Nat → Hp → V → Hp → Prop
  stop : Nat → Hp → Prop
/-- the iterator's own objects may turn: they are not the frame's, not pinned, younger than the entry (or a comprehension's own) -/
def FpOk (X : Cx) (pins : List (Addr × Obj)) (H : Hp) (b : Addr) : Prop :=
  H b = none ∧ b ≠ X.env.locals ∧ b ∉ X.fs ∧ (b ∈ X.ex ∨ X.s₀.heap.objs.size ≤ b) ∧ (∀ x c, X.env.cells.lookup x = some c → c ≠ b) ∧ ∀ p ∈ X.pn ++ pins, p.1 ≠ b
theorem Inv.fpOk {X : Cx} {pins : List (Addr × Obj)} {σ : St} {H H' : Hp} {s : Shared} {b : Addr} (I : Inv X pins σ H s) (hb : s.heap.objs.size ≤ b) (hn : H' b = none) : FpOk X pins H' b := by
  refine ⟨hn, Nat.ne_of_gt (Nat.lt_of_lt_of_le I.lt hb), I.nofs hb, .inr (Nat.le_trans I.sz hb), fun x c e z => ?_, fun p hp z => ?_⟩
  · obtain ⟨v, q⟩ := I.cell x c e
    exact absurd (Nat.lt_of_lt_of_le q.lt (by rw [z]; exact hb)) (Nat.lt_irrefl _)
  · exact absurd (Nat.lt_of_lt_of_le (Heap.lt_size (I.pin p hp).1) (by rw [z]; exact hb)) (Nat.lt_irrefl _)
structure Turn (P : Program) (w : World) (K : PySem.W.Frag) (tg : Expr) (J : It) (fp : List Addr) (it : Addr) (tn : Nat → Heap → Prop) : Prop where
  mem : it ∈ fp
  obj : ∀ i h, tn i h → ∀ b ∈ fp, ∃ o, h.get? b = some o ∧ ∀ v, o.data ≠ .cell v
  keep : ∀ i h h', tn i h → (∀ b ∈ fp, ∀ o, h.get? b = some o → h'.get? b = some o) → tn i h'
  item : ∀ (X : Cx), X.prog = P → X.w = w → X.K = K → X.calm = true → ∀ (i : Nat) (pins : List (Addr × Obj)) (s : Shared) (σ : St) (H : Hp) (E : Value → Shared → Prop), Inv X pins σ H s → (∀ b ∈ fp, FpOk X pins H b) → tn i s.heap → J.go i H →
    wpAny (model P w) X.A (pyNext (.ref it)) (fun r s1 => ∃ u, r = some u ∧
      wpAny (model P w) X.A (letOwnedTupleGo tg (.ref it) u) (fun _ s2 => ∃ x H', Inv X pins σ H' s2 ∧ RelV x u ∧ J.yld i H x H' ∧ tn (i + 1) s2.heap ∧ ∀ b ∈ fp, H' b = none) E s1) E s
  done : ∀ (X : Cx), X.prog = P → X.w = w → X.K = K → X.calm = true → ∀ (i : Nat) (pins : List (Addr × Obj)) (s : Shared) (σ : St) (H : Hp) (E : Value → Shared → Prop), Inv X pins σ H s → (∀ b ∈ fp, FpOk X pins H b) → tn i s.heap → J.stop i H →
    wpAny (model P w) X.A (pyNext (.ref it)) (fun r s1 => r = none ∧ Inv X pins σ H s1) E s
  self : ∀ (A : Around) (i : Nat) (s : Shared) (Q : Value → Shared → Prop) (E : Value → Shared → Prop), tn i s.heap → Q (.ref it) s → wpAny (model P w) A (pyIter (.ref it)) Q E s
abbrev TI := St → Hp → (It → Hp → Prop) → Prop
/-- an iterator has come -/
def PIE (X : Cx) (pins : List (Addr × Obj)) (σ : St) (tg : Expr) (R : It → Hp → Prop) (itv : Value) (s2 : Shared) : Prop :=
  ∃ (it : Addr) (fp : List Addr) (tn : Nat → Heap → Prop) (J : It) (H' : Hp), itv = .ref it ∧ Inv X pins σ H' s2 ∧ Turn X.prog X.w X.K tg J fp it tn ∧ tn 0 s2.heap ∧ (∀ b ∈ fp, FpOk X pins H' b) ∧ R J H'
def PI (X : Cx) (tg iter : Expr) (wi : TI) : Prop :=
  ∀ (pins : List (Addr × Obj)) (s : Shared) (σ : St) (H : Hp) (R : It → Hp → Prop), Inv X pins σ H s → wi σ H R →
    wpAny (model X.prog X.w) X.A (eval iter X.env) (fun v s1 => wpAny (model X.prog X.w) X.A (pyIter v) (PIE X pins σ tg R) X.xe s1) X.xe s

/-- the step ahead of the store is nothing for an iterator that keeps no tuple -/
theorem go_of {M : Model} {A : Around} {E : Value → Shared → Prop} {s : Shared} {tg : Expr} {it : Addr} {u : Value} {o : Obj} {n : String} {vs : Array Value} {Q : Unit → Shared → Prop} (ho : s.heap.get? it = some o) (hc : o.cls = .type n) (hd : o.data = .fields vs)
    (hn : ["enumerate", "zip", "dict_itemiterator", "dict_reverseitemiterator", "odict_iterator", "itertools.zip_longest", "itertools.pairwise"].contains n = false) (hQ : Q () s) : wpAny M A (letOwnedTupleGo tg (.ref it) u) Q E s := by
  unfold letOwnedTupleGo
  cases tg <;> first
    | exact wpAny_pure hQ
    | (cases u <;> first
        | exact wpAny_pure hQ
        | (refine wpAny_bind (wpAny_load ho ?_)
           rw [hc, hd]
           show wpAny M A (if (["enumerate", "zip", "dict_itemiterator", "dict_reverseitemiterator", "odict_iterator", "itertools.zip_longest", "itertools.pairwise"].contains n && vs[0]? == some (rawInt _)) = true then _ else _) Q E s
           rw [if_neg (by intro h; rw [hn, Bool.false_and] at h; cases h)]
           exact wpAny_pure hQ))

/-- the list at a, as it stands at each turn (a loop may append to it) -/
def Itl (K : PySem.W.Frag) (a : Addr) : It :=
  ⟨fun i H => ∃ xs x, SqL K H a xs ∧ xs[i]? = some x, fun i H x H' => H' = H ∧ ∀ xs, SqL K H a xs → xs[i]? = some x, fun i H => ∃ xs, SqL K H a xs ∧ xs.length ≤ i⟩
def Itt (K : PySem.W.Frag) (a : Addr) : It :=
  ⟨fun i H => ∃ xs x, SqT K H a xs ∧ xs[i]? = some x, fun i H x H' => H' = H ∧ ∀ xs, SqT K H a xs → xs[i]? = some x, fun i H => ∃ xs, SqT K H a xs ∧ xs.length ≤ i⟩
/-- lo, lo + 1, .. (n of them) -/
def Itr (lo : Int) (n : Nat) : It := ⟨fun i _ => i < n, fun i H x H' => H' = H ∧ x = .int (lo + i), fun i _ => n ≤ i⟩
theorem turn_list {P : Program} {w : World} {K : PySem.W.Frag} {tg : Expr} (a it : Addr) : Turn P w K tg (Itl K a) [it] it (fun i h => h.IsListIter it a i) where
  mem := by simp
  obj := fun i h st b hb => by
    have e : b = it := by simpa using hb
    subst e
    obtain ⟨o, e, c, d⟩ := st
    exact ⟨o, e, fun v z => by rw [d] at z; cases z⟩
  keep := fun i h h' st k => st.at fun o e => k it (by simp) o e
  item := by
    intro X hP hw hK hc i pins s σ H E I hf st hg
    subst hP hw hK
    obtain ⟨xs, x, hq, hx⟩ := hg
    obtain ⟨its, rv, p, hz⟩ := I.list hq
    obtain ⟨u, hu, ru⟩ := rv.get hx
    obtain ⟨f0, f1, f2, f3, f4, f5⟩ := hf it (by simp)
    refine wpAny_pyNext_list_item st p.isList (x := u) (by simpa using hu) fun h' st' sb => ?_
    have I1 : Inv X pins σ H { s with heap := h' } := I.turned (t' := s.toks) (fun b o hb e => (sb.2 b hb).trans e) f0 f1 f3 f4 f5
    obtain ⟨o, e, c, d⟩ := id st'
    exact ⟨u, rfl, go_of (s := { s with heap := h' }) e c d (by decide) ⟨x, H, I1, ru, ⟨rfl, fun ys hy => by rw [I.list_inj hy hq]; exact hx⟩, st', fun b hb => (hf b hb).1⟩⟩
  done := by
    intro X hP hw hK hc i pins s σ H E I hf st hg
    subst hP hw hK
    obtain ⟨xs, hq, hx⟩ := hg
    obtain ⟨its, rv, p, hz⟩ := I.list hq
    obtain ⟨f0, f1, f2, f3, f4, f5⟩ := hf it (by simp)
    have hl := rv.length
    exact wpAny_pyNext_list_end (I.ok.hd hc) st p.isList (by simp; omega) fun h' eb => ⟨rfl, I.turned (t' := s.toks) (fun b o hb e => eb b o hb e) f0 f1 f3 f4 f5⟩
  self := fun _ _ _ _ _ st h => wpAny_pyIter_listiter st h
theorem turn_range {P : Program} {w : World} {K : PySem.W.Frag} {tg : Expr} (it : Addr) (lo : Int) (n : Nat) : Turn P w K tg (Itr lo n) [it] it (fun i h => IsRangeIter h it (lo + (i : Nat) * 1) ((n : Int) - (i : Nat)) 1) where
  mem := by simp
  obj := fun i h st b hb => by
    have e : b = it := by simpa using hb
    subst e
    exact ⟨_, st, fun v z => by
      have z' : Data.fields _ = Data.cell v := z
      cases z'⟩
  keep := fun i h h' st k => k it (by simp) _ st
  item := by
    intro X hP hw hK hc i pins s σ H E I hf st hg
    subst hP hw hK
    obtain ⟨f0, f1, f2, f3, f4, f5⟩ := hf it (by simp)
    have W := Walks.range (prog := X.prog) (w := X.w) (I.ok.hd hc) it lo 1 n
    refine W.item i s _ _ hg st fun v h' tk hv st' kk => ?_
    obtain ⟨t, rfl⟩ := hv
    have I1 : Inv X pins σ H { s with heap := h', toks := tk } := I.turned (fun b o hb e => kk b o (by simpa using hb) e) f0 f1 f3 f4 f5
    refine ⟨_, rfl, go_of (s := { s with heap := h', toks := tk }) (n := "range_iterator") st' rfl rfl (by decide) ⟨.int (lo + i), H, I1, ⟨t, ?_⟩, ⟨rfl, rfl⟩, st', fun b hb => (hf b hb).1⟩⟩
    rw [Int.mul_one]
  done := by
    intro X hP hw hK hc i pins s σ H E I hf st hg
    subst hP hw hK
    obtain ⟨f0, f1, f2, f3, f4, f5⟩ := hf it (by simp)
    exact wpAny_pyNext_range_end (I.ok.hd hc) st (by have : n ≤ i := hg; omega) fun h' eb => ⟨rfl, I.turned (t' := s.toks) (fun b o hb e => eb b o hb e) f0 f1 f3 f4 f5⟩
  self := fun _ _ _ _ _ st h => wpAny_pyIter_rangeiter st h
end L2

namespace L2
open PySem PySem.Spec PyProof.Rows
section
variable {X : Cx} {tg : Expr}
def iList (K : PySem.W.Frag) (tl : TE) : TI := fun σ H R => tl σ H fun x H1 => ∃ a, x = .ref a ∧ (∃ xs, SqL K H1 a xs) ∧ R (Itl K a) H1
def iTup (K : PySem.W.Frag) (tl : TE) : TI := fun σ H R => tl σ H fun x H1 => ∃ a, x = .ref a ∧ (∃ xs, SqT K H1 a xs) ∧ R (Itt K a) H1
theorem pi_list {l : Expr} {tl : TE} (hl : PE X l tl) : PI X tg l (iList X.K tl) := by
  intro pins s σ H R I h
  refine thn (hl pins s σ H _ I h) fun v s1 ⟨x, H1, I1, r1, q1⟩ => ?_
  obtain ⟨a, e, ⟨xs, hq⟩, q⟩ := q1
  subst e
  cases r1
  obtain ⟨its, rv, p, hz⟩ := I1.list hq
  refine wpAny_pyIter_list p.isList ?_
  refine ⟨s1.heap.objs.size, [s1.heap.objs.size], _, _, H1, rfl, I1.kept (t' := s1.toks) fun b o e => Heap.get?_push_of_some _ e, turn_list a _, ⟨_, Heap.get?_push_size _ rfl, rfl, rfl⟩, fun b hb => ?_, q⟩
  have e : b = s1.heap.objs.size := by simpa using hb
  subst e
  exact I1.fpOk (Nat.le_refl _) (I1.hok.fresh (Nat.le_refl _))
/-- a range object just made, walked -/
theorem range_it {pins : List (Addr × Obj)} {σ : St} {H : Hp} {s : Shared} {R : It → Hp → Prop} {E : Value → Shared → Prop} {lo hi : Int} {t u v : Tok} {tk : Nat} (I : Inv X pins σ H s) (h1 : -(2 ^ 62) ≤ lo) (h2 : lo < 2 ^ 62) (h3 : -(2 ^ 62) ≤ hi) (h4 : hi < 2 ^ 62)
    (q : R (Itr lo (hi - lo).toNat) H) : wpAny (model X.prog X.w) X.A (pyIter (.ref s.heap.objs.size)) (PIE X pins σ tg R) E { s with heap := s.heap.push { cls := .type "range", data := .fields #[.int lo t, .int hi u, .int 1 v] }, toks := tk } := by
  refine wpAny_pyIter_range (IsRange.new ..) (small_one h1 h2 h3 h4) ?_
  have I1 : Inv X pins σ H { s with heap := s.heap.push { cls := .type "range", data := .fields #[.int lo t, .int hi u, .int 1 v] }, toks := tk } := I.kept fun b o e => Heap.get?_push_of_some _ e
  refine ⟨(s.heap.push { cls := .type "range", data := .fields #[.int lo t, .int hi u, .int 1 v] }).objs.size, [(s.heap.push { cls := .type "range", data := .fields #[.int lo t, .int hi u, .int 1 v] }).objs.size], _, _, H, rfl,
    I1.kept (t' := tk) fun b o e => Heap.get?_push_of_some _ e, turn_range _ lo (hi - lo).toNat, ?_, fun b hb => ?_, q⟩
  · have e1 : lo + ((0 : Nat) : Int) * 1 = lo := by simp
    have e2 : (((hi - lo).toNat : Nat) : Int) - ((0 : Nat) : Int) = Builtin.Range.rangeSize lo hi 1 := by rw [rangeSize_one]; split <;> omega
    show IsRangeIter _ _ (lo + ((0 : Nat) : Int) * 1) ((((hi - lo).toNat : Nat) : Int) - ((0 : Nat) : Int)) 1
    rw [e1, e2]
    exact Heap.get?_push_size _ rfl
  · have e : b = (s.heap.push { cls := .type "range", data := .fields #[.int lo t, .int hi u, .int 1 v] }).objs.size := by simpa using hb
    subst e
    exact I1.fpOk (Nat.le_refl _) (I1.hok.fresh (Nat.le_refl _))
def iRng1 (ta : TA) : TI := fun σ H R => ta σ H fun vs H1 => ∃ j : Int, vs = [.int j] ∧ -(2 ^ 62) ≤ j ∧ j < 2 ^ 62 ∧ R (Itr 0 j.toNat) H1
theorem pi_range1 {a : Expr} {ta : TA} {p pos : Pos} (hg : Gl X "range") (hm : X.mg "range" = none) (ha : PA X [a] ta) (hs : starEach [a] X.env = [(false, eval a X.env)] := by rfl) : PI X tg (.Call (.Name "range" p) [a] [] pos) (iRng1 ta) := by
  intro pins s σ H R I h
  refine Call_ (ld_blt I hg hm boot_range (PyProof.Rows.callWith_type1 (thn (ha pos pins s σ H _ I h) fun us s1 ⟨vs, H1, I1, r1, q1⟩ => ?_) hs rfl))
  obtain ⟨j, e, q1, q2, q⟩ := q1
  subst e
  cases r1 with
  | cons r rr =>
    cases rr
    obtain ⟨t, rfl⟩ := r
    exact call_range_1 (range_it I1 (by omega) (by omega) q1 q2 (by simpa using q))
/-! ### for -/
/-- W: the invariant by the turn and a measure; N: what the body is to reach -/
def tFor (wi : TI) (g : TG) (tb : TS) : TS := fun D σ H => wi σ H fun J H1 => ∃ W : Nat → Nat → St → Hp → Prop, (∃ m, W 0 m σ H1) ∧ ∀ i m σ H, W i m σ H →
  (J.stop i H ∧ D.nx σ H) ∨ (J.go i H ∧ ∃ N : St → Hp → Prop, (∀ σ' H', N σ' H' → ∃ m', m' < m ∧ W (i + 1) m' σ' H') ∧ ∀ x H', J.yld i H x H' → g x σ H' fun σ2 H2 => tb { D with nx := N, ct := N, bk := D.nx } σ2 H2)
/-- the records at fp as they stand -/
def pinsAt (fp : List Addr) (h : Heap) : List (Addr × Obj) := fp.filterMap fun b => (h.get? b).map fun o => (b, o)
theorem mem_pinsAt {fp : List Addr} {h : Heap} {b : Addr} {o : Obj} (hb : b ∈ fp) (e : h.get? b = some o) : (b, o) ∈ pinsAt fp h := List.mem_filterMap.mpr ⟨b, hb, by rw [e]; rfl⟩
theorem of_pinsAt {fp : List Addr} {h : Heap} {p : Addr × Obj} (hp : p ∈ pinsAt fp h) : p.1 ∈ fp ∧ h.get? p.1 = some p.2 := by
  obtain ⟨b, hb, e⟩ := List.mem_filterMap.mp hp
  cases q : h.get? b with
  | none => rw [q] at e; cases e
  | some o =>
    rw [q] at e
    have e' : (b, o) = p := Option.some.inj e
    subst e'
    exact ⟨hb, q⟩
theorem Inv.pinned {pins : List (Addr × Obj)} {σ : St} {H : Hp} {s : Shared} {fp : List Addr} (I : Inv X pins σ H s) (hf : ∀ b ∈ fp, FpOk X pins H b) (ho : ∀ b ∈ fp, ∃ o, s.heap.get? b = some o ∧ ∀ v, o.data ≠ .cell v) : Inv X (pins ++ pinsAt fp s.heap) σ H s :=
  I.pins_of fun p hp => (List.mem_append.mp hp).elim (fun z => I.pin p (List.mem_append_right _ z)) fun z => by
    obtain ⟨hb, e⟩ := of_pinsAt z
    obtain ⟨f0, f1, f2, _⟩ := hf p.1 hb
    obtain ⟨o, e', d⟩ := ho p.1 hb
    rw [e] at e'; cases e'
    exact ⟨e, f0, f1, f2, d⟩
theorem Inv.unpinned {pins pl : List (Addr × Obj)} {σ : St} {H : Hp} {s : Shared} (I : Inv X (pins ++ pl) σ H s) : Inv X pins σ H s := I.pins_of fun p hp => I.pin p (List.mem_append_right _ (List.mem_append_left _ hp))
theorem ps_for {iter : Expr} {body : List Stmt} {wi : TI} {g : TG} {tb : TS} {pos : Pos} (hp : PassesOwn (model X.prog X.w) X.A X.env X.xe) (hc : X.calm = true) (hi : PI X tg iter wi) (hg : PG X tg g) (hb : PSs X body tb)
    (hs : ∀ x, foldedSetIterable iter X.env x = pure x := by intro _; rfl) : PS X (.For tg iter body [] pos) (tFor wi g tb) := by
  intro pins s σ H D I h
  refine wpAny_For (thn (hi pins s σ H _ I h) fun v s1 h1 => thn h1 fun itv s2 h2 => ?_) hs
  obtain ⟨it, fp, tn, J, H2, e, I2, T, st2, f2, W, ⟨m0, w0⟩, turn⟩ := h2
  subst e
  -- what stays true of the iterator's objects through the loop
  have stat : ∀ {H' : Hp}, (∀ b ∈ fp, H' b = none) → ∀ b ∈ fp, FpOk X pins H' b := fun hn b hb => ⟨hn b hb, (f2 b hb).2⟩
  refine codeAny_forLoop_any (fun n s' => ∃ i σ' H', Inv X pins σ' H' s' ∧ tn i s'.heap ∧ (∀ b ∈ fp, H' b = none) ∧ W i n σ' H') ?_ m0 ⟨0, σ, H2, I2, st2, fun b hb => (f2 b hb).1, w0⟩
  rintro n s3 ⟨i, σ3, H3, I3, st3, fr3, w3⟩
  rcases turn i n σ3 H3 w3 with ⟨stop, qn⟩ | ⟨go, N, hN, step⟩
  · refine wpAny_passesOwn hp (thn (T.done X rfl rfl rfl hc i pins s3 σ3 H3 X.xe I3 (stat fr3) st3 stop) fun r s4 ⟨hr, I4⟩ => ?_)
    subst hr
    exact wpAny_execs_nil ⟨σ3, H3, I4, qn⟩
  · refine wpAny_passesOwn hp (thn (T.item X rfl rfl rfl hc i pins s3 σ3 H3 X.xe I3 (stat fr3) st3 go) fun r s4 ⟨u, hr, h4⟩ => ?_)
    subst hr
    refine wpAny_passesOwn hp (thn h4 fun _ s5 ⟨x, H5, I5, r5, y5, st5, fr5⟩ => ?_)
    have I5' := I5.pinned (stat fr5) (T.obj _ _ st5)
    refine wpAny_passesOwn hp (thn (hg _ s5 σ3 H5 x u _ I5' r5 (step x H5 y5)) fun _ s6 ⟨σ6, H6, I6, q6⟩ => ?_)
    refine wpAny_passesOwn hp (thn (hb _ s6 σ6 H6 _ I6 q6) fun f s7 q7 => ?_)
    have again : ∀ {σ7 : St} {H7 : Hp}, Inv X (pins ++ pinsAt fp s5.heap) σ7 H7 s7 → N σ7 H7 → ∃ m, m < n ∧ ∃ i σ' H', Inv X pins σ' H' s7 ∧ tn i s7.heap ∧ (∀ b ∈ fp, H' b = none) ∧ W i m σ' H' := fun {σ7 H7} I7 n7 => by
      obtain ⟨m', hm, w7⟩ := hN σ7 H7 n7
      refine ⟨m', hm, i + 1, σ7, H7, I7.unpinned, T.keep _ _ _ st5 fun b hb o e => (I7.pin (b, o) (List.mem_append_right _ (List.mem_append_right _ (mem_pinsAt hb e)))).1, fun b hb => ?_, w7⟩
      obtain ⟨o, e, d⟩ := T.obj _ _ st5 b hb
      exact (I7.pin (b, o) (List.mem_append_right _ (List.mem_append_right _ (mem_pinsAt hb e)))).2.1
    cases f with
    | next => obtain ⟨σ7, H7, I7, n7⟩ := q7; exact again I7 n7
    | cont => obtain ⟨σ7, H7, I7, n7⟩ := q7; exact again I7 n7
    | brk => obtain ⟨σ7, H7, I7, q7⟩ := q7; exact ⟨σ7, H7, I7.unpinned, q7⟩
    | ret v => obtain ⟨x7, σ7, H7, I7, r7, q7⟩ := q7; exact ⟨x7, σ7, H7, I7.unpinned, r7, q7⟩
end

/-! ### the forms one uses -/
/-- over a list that the body leaves as it is -/
theorem for_list {K : PySem.W.Frag} {a : Addr} {xs : List V} {g : TG} {tb : TS} {D : Ends} {σ : St} {H : Hp} (Pv : Nat → St → Hp → Prop) (h0 : Pv 0 σ H) (hl : ∀ i σ H, i ≤ xs.length → Pv i σ H → SqL K H a xs)
    (hs : ∀ i x σ H, xs[i]? = some x → Pv i σ H → g x σ H fun σ2 H2 => tb { D with nx := Pv (i + 1), ct := Pv (i + 1), bk := D.nx } σ2 H2) (hd : ∀ σ H, Pv xs.length σ H → D.nx σ H) :
    ∃ W : Nat → Nat → St → Hp → Prop, (∃ m, W 0 m σ H) ∧ ∀ i m σ H, W i m σ H →
      ((Itl K a).stop i H ∧ D.nx σ H) ∨ ((Itl K a).go i H ∧ ∃ N : St → Hp → Prop, (∀ σ' H', N σ' H' → ∃ m', m' < m ∧ W (i + 1) m' σ' H') ∧ ∀ x H', (Itl K a).yld i H x H' → g x σ H' fun σ2 H2 => tb { D with nx := N, ct := N, bk := D.nx } σ2 H2) := by
  refine ⟨fun i m σ H => m = xs.length - i ∧ i ≤ xs.length ∧ Pv i σ H, ⟨xs.length, by simp, Nat.zero_le _, h0⟩, ?_⟩
  rintro i m σ H ⟨rfl, hi, p⟩
  have q := hl i σ H hi p
  by_cases hlt : i < xs.length
  · refine .inr ⟨⟨xs, xs[i], q, by simp [hlt]⟩, Pv (i + 1), fun σ' H' p' => ⟨xs.length - (i + 1), by omega, rfl, hlt, p'⟩, fun x H' y => ?_⟩
    obtain ⟨e, y⟩ := y
    subst e
    exact hs i x σ _ (y xs q) p
  · have e : i = xs.length := by omega
    subst e
    exact .inl ⟨⟨xs, q, Nat.le_refl _⟩, hd σ H p⟩
theorem for_range {lo : Int} {n : Nat} {g : TG} {tb : TS} {D : Ends} {σ : St} {H : Hp} (Pv : Nat → St → Hp → Prop) (h0 : Pv 0 σ H)
    (hs : ∀ i σ H, i < n → Pv i σ H → g (.int (lo + i)) σ H fun σ2 H2 => tb { D with nx := Pv (i + 1), ct := Pv (i + 1), bk := D.nx } σ2 H2) (hd : ∀ σ H, Pv n σ H → D.nx σ H) :
    ∃ W : Nat → Nat → St → Hp → Prop, (∃ m, W 0 m σ H) ∧ ∀ i m σ H, W i m σ H →
      ((Itr lo n).stop i H ∧ D.nx σ H) ∨ ((Itr lo n).go i H ∧ ∃ N : St → Hp → Prop, (∀ σ' H', N σ' H' → ∃ m', m' < m ∧ W (i + 1) m' σ' H') ∧ ∀ x H', (Itr lo n).yld i H x H' → g x σ H' fun σ2 H2 => tb { D with nx := N, ct := N, bk := D.nx } σ2 H2) := by
  refine ⟨fun i m σ H => m = n - i ∧ i ≤ n ∧ Pv i σ H, ⟨n, by simp, Nat.zero_le _, h0⟩, ?_⟩
  rintro i m σ H ⟨rfl, hi, p⟩
  by_cases hlt : i < n
  · refine .inr ⟨hlt, Pv (i + 1), fun σ' H' p' => ⟨n - (i + 1), by omega, rfl, hlt, p'⟩, fun x H' y => ?_⟩
    obtain ⟨e, y⟩ := y
    subst e y
    exact hs i σ _ hlt p
  · have e : i = n := by omega
    subst e
    exact .inl ⟨Nat.le_refl _, hd σ H p⟩
/-- while, by a word and a measure of the state -/
theorem while_by {c : TT} {tb : TS} {D : Ends} {σ : St} {H : Hp} (Pv : St → Hp → Prop) (μ : St → Hp → Nat) (h0 : Pv σ H)
    (hs : ∀ σ H, Pv σ H → c σ H fun b H1 => if b = true then tb { D with nx := fun σ' H' => Pv σ' H' ∧ μ σ' H' < μ σ H, ct := fun σ' H' => Pv σ' H' ∧ μ σ' H' < μ σ H, bk := D.nx } σ H1 else D.nx σ H1)
    (mono : ∀ σ H Q Q', (∀ b H1, Q b H1 → Q' b H1) → c σ H Q → c σ H Q') : tWhile c tb D σ H := by
  refine ⟨fun m σ H => m = μ σ H ∧ Pv σ H, ⟨_, rfl, h0⟩, ?_⟩
  rintro m σ H ⟨rfl, p⟩
  refine mono σ H _ _ (fun b H1 q => ?_) (hs σ H p)
  cases b with
  | true => exact ⟨_, fun σ' H' ⟨p', l⟩ => ⟨_, l, rfl, p'⟩, q⟩
  | false => exact q
end L2

namespace L2
open PySem PySem.Spec PyProof.Rows

abbrev R2 := V → V → Hp → VK → Prop
/-- a two-place operation on values: f is binaryOp op, inplaceOp op or compareOp op -/
def OpR (X : Cx) (f : Value → Value → Sem Value) (r : R2) : Prop :=
  ∀ (pins : List (Addr × Obj)) (s : Shared) (σ : St) (H : Hp) (x y : V) (v u : Value) (Q : VK), Inv X pins σ H s → RelV x v → RelV y u → r x y H Q →
    wpAny (model X.prog X.w) X.A (f v u) (EP X pins σ Q) X.xe s
/-- a one-place operation -/
def UnR (X : Cx) (f : Value → Sem Value) (r : V → Hp → VK → Prop) : Prop :=
  ∀ (pins : List (Addr × Obj)) (s : Shared) (σ : St) (H : Hp) (x : V) (v : Value) (Q : VK), Inv X pins σ H s → RelV x v → r x H Q →
    wpAny (model X.prog X.w) X.A (f v) (EP X pins σ Q) X.xe s
/-- a call of a value that is known (a builtin, a type) with values -/
def CallR (X : Cx) (f : Value) (r : List V → Hp → VK → Prop) : Prop :=
  ∀ (pins : List (Addr × Obj)) (s : Shared) (σ : St) (H : Hp) (xs : List V) (us : List Value) (Q : VK), Inv X pins σ H s → Vals xs us → r xs H Q →
    wpAny (model X.prog X.w) X.A (call f us) (EP X pins σ Q) X.xe s
def tOp (r : R2) (ta tb : TE) : TE := fun σ H Q => ta σ H fun x H1 => tb σ H1 fun y H2 => r x y H2 Q
def tUn (r : V → Hp → VK → Prop) (ta : TE) : TE := fun σ H Q => ta σ H fun x H1 => r x H1 Q
/-- ints in, under C, and a value out -/
def rI (C : Int → Int → Prop) (g : Int → Int → V) : R2 := fun x y H Q => ∃ i j, x = .int i ∧ y = .int j ∧ C i j ∧ Q (g i j) H
def rI0 (g : Int → Int → V) : R2 := fun x y H Q => ∃ i j, x = .int i ∧ y = .int j ∧ Q (g i j) H
def rU (g : Int → V) : V → Hp → VK → Prop := fun x H Q => ∃ i, x = .int i ∧ Q (g i) H

section
variable {X : Cx} {a b c : Expr} {ta tb tc : TE} {pos : Pos}

theorem binT (ha : PE X a ta) (hb : PE X b tb) {pins : List (Addr × Obj)} {s : Shared} {σ : St} {H : Hp} {R : V → V → Hp → Prop} (I : Inv X pins σ H s)
    (h : ta σ H fun x H1 => tb σ H1 fun y H2 => R x y H2) {Q : Value → Shared → Prop} {f : Value → Value → Sem Value}
    (hf : ∀ v u s2 x y H2, Inv X pins σ H2 s2 → RelV x v → RelV y u → R x y H2 → wpAny (model X.prog X.w) X.A (f v u) Q X.xe s2) :
    wpAny (model X.prog X.w) X.A (eval a X.env) (fun v s₁ => wpAny (model X.prog X.w) X.A (eval b X.env) (fun u s₂ => wpAny (model X.prog X.w) X.A (f v u) Q X.xe s₂) X.xe s₁) X.xe s := by
  refine thn (ha pins s σ H _ I h) fun v s1 ⟨x, H1, I1, r1, q1⟩ => ?_
  refine thn (hb pins s1 σ H1 _ I1 q1) fun u s2 ⟨y, H2, I2, r2, q2⟩ => ?_
  exact hf v u s2 x y H2 I2 r1 r2 q2

theorem pe_op {op : Operator} {r : R2} (ho : OpR X (binaryOp op) r) (ha : PE X a ta) (hb : PE X b tb) : PE X (.BinOp a op b pos) (tOp r ta tb) := by
  intro pins s σ H Q I h
  exact wpAny_BinOp (binT ha hb I h fun v u s2 x y H2 I2 rx ry q => ho pins s2 σ H2 x y v u Q I2 rx ry q)
theorem pe_un {op : UnaryOp} {r : V → Hp → VK → Prop} (ho : UnR X (unaryOp op) r) (ha : PE X a ta) : PE X (.UnaryOp op a pos) (tUn r ta) := by
  intro pins s σ H Q I h
  exact UnaryOp_ (thn (ha pins s σ H _ I h) fun v s1 ⟨x, H1, I1, r1, q1⟩ => ho pins s1 σ H1 x v Q I1 r1 q1)
/-! ### ints -/
theorem opI {f : Value → Value → Sem Value} {C : Int → Int → Prop} {g : Int → Int → Int}
    (rule : ∀ (i j : Int) (t u : Tok) (s : Shared) (Q : Value → Shared → Prop) (E : Value → Shared → Prop), C i j → Q (.int (g i j) s.toks) { s with toks := s.toks + 1 } → wpAny (model X.prog X.w) X.A (f (.int i t) (.int j u)) Q E s) :
    OpR X f (rI C fun i j => .int (g i j)) := by
  intro pins s σ H x y v u Q I rx ry h
  obtain ⟨i, j, rfl, rfl, hc, q⟩ := h
  obtain ⟨t, rfl⟩ := rx
  obtain ⟨t', rfl⟩ := ry
  exact rule i j t t' s _ _ hc ⟨.int (g i j), H, I.tok _, ⟨_, rfl⟩, q⟩
theorem opI0 {f : Value → Value → Sem Value} {g : Int → Int → Int}
    (rule : ∀ (i j : Int) (t u : Tok) (s : Shared) (Q : Value → Shared → Prop) (E : Value → Shared → Prop), Q (.int (g i j) s.toks) { s with toks := s.toks + 1 } → wpAny (model X.prog X.w) X.A (f (.int i t) (.int j u)) Q E s) :
    OpR X f (rI0 fun i j => .int (g i j)) := by
  intro pins s σ H x y v u Q I rx ry h
  obtain ⟨i, j, rfl, rfl, q⟩ := h
  obtain ⟨t, rfl⟩ := rx
  obtain ⟨t', rfl⟩ := ry
  exact rule i j t t' s _ _ ⟨.int (g i j), H, I.tok _, ⟨_, rfl⟩, q⟩
theorem opB0 {f : Value → Value → Sem Value} {g : Int → Int → Bool}
    (rule : ∀ (i j : Int) (t u : Tok) (s : Shared) (Q : Value → Shared → Prop) (E : Value → Shared → Prop), Q (.bool (g i j)) s → wpAny (model X.prog X.w) X.A (f (.int i t) (.int j u)) Q E s) :
    OpR X f (rI0 fun i j => .bl (g i j)) := by
  intro pins s σ H x y v u Q I rx ry h
  obtain ⟨i, j, rfl, rfl, q⟩ := h
  obtain ⟨t, rfl⟩ := rx
  obtain ⟨t', rfl⟩ := ry
  exact rule i j t t' s _ _ ⟨.bl (g i j), H, I, rfl, q⟩

def CPow (i j : Int) : Prop := 0 ≤ j ∧ j ≤ 1000000 ∧ i.natAbs < 2 ^ 64
def CMul (i j : Int) : Prop := (-(2 ^ 64) < i ∧ i < 2 ^ 64) ∨ (-(2 ^ 64) < j ∧ j < 2 ^ 64)
theorem CMul.ok {i j : Int} (h : CMul i j) : IntMulOk i j := by
  rcases h with ⟨h1, h2⟩ | ⟨h1, h2⟩
  · exact .of_left (intBits_le_64 h1 h2)
  · exact .of_right (intBits_le_64 h1 h2)
theorem op_add : OpR X (binaryOp .Add) (rI0 fun i j => .int (i + j)) := opI0 fun _ _ _ _ _ _ _ q => add_int q
theorem op_sub : OpR X (binaryOp .Sub) (rI0 fun i j => .int (i - j)) := opI0 fun _ _ _ _ _ _ _ q => sub_int q
/-- % by a positive divisor of any size -/
theorem op_mod : OpR X (binaryOp .Mod) (rI (fun _ j => 0 < j) fun i j => .int (i % j)) := opI fun i j _ _ _ _ _ hc q => by
  have h1 : (0 : Int) < j := hc
  exact mod_int' (by omega) (by rw [Int.fmod_eq_emod_of_nonneg i (by omega)]; exact q)
theorem op_pow : OpR X (binaryOp .Pow) (rI CPow fun i j => .int (i ^ j.toNat)) := opI fun _ _ _ _ _ _ _ hc q => pow_int_small hc.1 hc.2.1 hc.2.2 q
theorem unI {f : Value → Sem Value} {g : Int → Int}
    (rule : ∀ (i : Int) (t : Tok) (s : Shared) (Q : Value → Shared → Prop) (E : Value → Shared → Prop), Q (.int (g i) s.toks) { s with toks := s.toks + 1 } → wpAny (model X.prog X.w) X.A (f (.int i t)) Q E s) :
    UnR X f (rU fun i => .int (g i)) := by
  intro pins s σ H x v Q I rx h
  obtain ⟨i, rfl, q⟩ := h
  obtain ⟨t, rfl⟩ := rx
  exact rule i t s _ _ ⟨.int (g i), H, I.tok _, ⟨_, rfl⟩, q⟩
theorem un_neg : UnR X (unaryOp .USub) (rU fun i => .int (-i)) := unI fun _ _ _ _ _ q => neg_int q
end

/-! ### comparisons -/
/-- the scalars that == tells apart as data does -/
def scal : V → V → Bool
  | .non, .non => true | .non, .int _ => true | .int _, .non => true | .non, .bl _ => true | .bl _, .non => true | .non, .str _ => true | .str _, .non => true
  | .int _, .int _ => true | .bl _, .bl _ => true | .str _, .str _ => true | .byt _, .byt _ => true
  | .int _, .str _ => true | .str _, .int _ => true | .bl _, .str _ => true | .str _, .bl _ => true
  | _, _ => false
def rEq : R2 := fun x y H Q => scal x y = true ∧ Q (.bl (decide (x = y))) H
def rNe : R2 := fun x y H Q => scal x y = true ∧ Q (.bl (!decide (x = y))) H

theorem dec_int {i j : Int} : decide (V.int i = V.int j) = (i == j) := by
  rw [Bool.eq_iff_iff]
  simp
theorem dec_bl {i j : Bool} : decide (V.bl i = V.bl j) = (i == j) := by
  rw [Bool.eq_iff_iff]
  simp
theorem dec_str {i j : Str} : decide (V.str i = V.str j) = (i == j) := by
  rw [Bool.eq_iff_iff]
  simp
theorem dec_byt {i j : Array UInt8} : decide (V.byt i = V.byt j) = (i.toList == j.toList) := by
  rw [Bool.eq_iff_iff]
  cases i
  cases j
  simp

section
variable {X : Cx} {a b c : Expr} {ta tb tc : TE} {pos : Pos}
theorem fin_bl {pins : List (Addr × Obj)} {σ : St} {H : Hp} {s : Shared} {Q : VK} {k k' : Bool} (I : Inv X pins σ H s) (q : Q (.bl k) H) (e : k = k') : EP X pins σ Q (.bool k') s := by
  subst e
  exact ⟨.bl k, H, I, rfl, q⟩
theorem op_eq : OpR X (compareOp .Eq) rEq := by
  intro pins s σ H x y v u Q I rx ry h
  obtain ⟨hs, q⟩ := h
  cases x with
  | non =>
    cases rx
    cases y with
    | non => cases ry; exact PySem.EqNone.eq_none_none (fin_bl I q (by simp))
    | bl j => cases ry; exact PySem.EqNone.eq_none_bool (fin_bl I q (by simp))
    | int j => obtain ⟨t', rfl⟩ := ry; exact PySem.EqNone.eq_none_int (fin_bl I q (by simp))
    | str j => obtain ⟨t', rfl⟩ := ry; exact PySem.EqNone.eq_none_str (fin_bl I q (by simp))
    | _ => exact absurd (show false = true from hs) Bool.false_ne_true
  | bl i =>
    cases rx
    cases y with
    | non => cases ry; exact PySem.EqNone.eq_bool_none (fin_bl I q (by simp))
    | bl j => cases ry; exact eq_bool (fin_bl I q dec_bl)
    | str j => obtain ⟨t', rfl⟩ := ry; exact PySem.EqMixed.eq_bool_str (fin_bl I q (by simp))
    | _ => exact absurd (show false = true from hs) Bool.false_ne_true
  | int i =>
    obtain ⟨t, rfl⟩ := rx
    cases y with
    | non => cases ry; exact PySem.EqNone.eq_int_none (fin_bl I q (by simp))
    | int j => obtain ⟨t', rfl⟩ := ry; exact eq_int (fin_bl I q dec_int)
    | str j => obtain ⟨t', rfl⟩ := ry; exact PySem.EqMixed.eq_int_str (fin_bl I q (by simp))
    | _ => exact absurd (show false = true from hs) Bool.false_ne_true
  | str i =>
    obtain ⟨t, rfl⟩ := rx
    cases y with
    | non => cases ry; exact PySem.EqNone.eq_str_none (fin_bl I q (by simp))
    | bl j => cases ry; exact PySem.EqMixed.eq_str_bool (fin_bl I q (by simp))
    | int j => obtain ⟨t', rfl⟩ := ry; exact PySem.EqMixed.eq_str_int (fin_bl I q (by simp))
    | str j => obtain ⟨t', rfl⟩ := ry; exact eq_str (fin_bl I q dec_str)
    | _ => exact absurd (show false = true from hs) Bool.false_ne_true
  | byt i =>
    obtain ⟨t, rfl⟩ := rx
    cases y with
    | byt j => obtain ⟨t', rfl⟩ := ry; exact PySem.W.eq_bytes (fin_bl I q dec_byt)
    | _ => exact absurd (show false = true from hs) Bool.false_ne_true
  | _ => cases y <;> exact absurd (show false = true from hs) Bool.false_ne_true
theorem op_ne : OpR X (compareOp .NotEq) rNe := by
  intro pins s σ H x y v u Q I rx ry h
  obtain ⟨hs, q⟩ := h
  cases x with
  | non =>
    cases rx
    cases y with
    | non => cases ry; exact PySem.EqNone.ne_none_none (fin_bl I q (by simp))
    | bl j => cases ry; exact PySem.EqNone.ne_none_bool (fin_bl I q (by simp))
    | int j => obtain ⟨t', rfl⟩ := ry; exact PySem.EqNone.ne_none_int (fin_bl I q (by simp))
    | str j => obtain ⟨t', rfl⟩ := ry; exact PySem.EqNone.ne_none_str (fin_bl I q (by simp))
    | _ => exact absurd (show false = true from hs) Bool.false_ne_true
  | bl i =>
    cases rx
    cases y with
    | non => cases ry; exact PySem.EqNone.ne_bool_none (fin_bl I q (by simp))
    | bl j => cases ry; exact ne_bool (fin_bl I q (congrArg not dec_bl))
    | str j => obtain ⟨t', rfl⟩ := ry; exact PySem.EqMixed.ne_bool_str (fin_bl I q (by simp))
    | _ => exact absurd (show false = true from hs) Bool.false_ne_true
  | int i =>
    obtain ⟨t, rfl⟩ := rx
    cases y with
    | non => cases ry; exact PySem.EqNone.ne_int_none (fin_bl I q (by simp))
    | int j => obtain ⟨t', rfl⟩ := ry; exact ne_int (fin_bl I q (congrArg not dec_int))
    | str j => obtain ⟨t', rfl⟩ := ry; exact PySem.EqMixed.ne_int_str (fin_bl I q (by simp))
    | _ => exact absurd (show false = true from hs) Bool.false_ne_true
  | str i =>
    obtain ⟨t, rfl⟩ := rx
    cases y with
    | non => cases ry; exact PySem.EqNone.ne_str_none (fin_bl I q (by simp))
    | bl j => cases ry; exact PySem.EqMixed.ne_str_bool (fin_bl I q (by simp))
    | int j => obtain ⟨t', rfl⟩ := ry; exact PySem.EqMixed.ne_str_int (fin_bl I q (by simp))
    | str j => obtain ⟨t', rfl⟩ := ry; exact ne_str (fin_bl I q (congrArg not dec_str))
    | _ => exact absurd (show false = true from hs) Bool.false_ne_true
  | byt i =>
    obtain ⟨t, rfl⟩ := rx
    cases y with
    | byt j => obtain ⟨t', rfl⟩ := ry; exact PySem.W.ne_bytes (fin_bl I q (congrArg not dec_byt))
    | _ => exact absurd (show false = true from hs) Bool.false_ne_true
  | _ => cases y <;> exact absurd (show false = true from hs) Bool.false_ne_true

theorem op_lt : OpR X (compareOp .Lt) (rI0 fun i j => .bl (decide (i < j))) := opB0 fun _ _ _ _ _ _ _ q => lt_int q
theorem op_le : OpR X (compareOp .LtE) (rI0 fun i j => .bl (decide (i ≤ j))) := opB0 fun _ _ _ _ _ _ _ q => le_int q
theorem op_gt : OpR X (compareOp .Gt) (rI0 fun i j => .bl (decide (j < i))) := opB0 fun _ _ _ _ _ _ _ q => gt_int q
theorem op_ge : OpR X (compareOp .GtE) (rI0 fun i j => .bl (decide (j ≤ i))) := opB0 fun _ _ _ _ _ _ _ q => ge_int q
/-- is None, is not None: the right side a value none -/
theorem op_isN : OpR X (compareOp .Is) (fun x y H Q => y = .non ∧ Q (.bl (decide (x = .non))) H) := by
  intro pins s σ H x y v u Q I rx ry h
  obtain ⟨rfl, q⟩ := h
  cases ry
  refine is_none_gen (fin_bl I q ?_)
  cases x <;> first
    | (cases rx; rfl)
    | (obtain ⟨t, rfl⟩ := rx; rfl)
/-- two rules for one operation: by cases -/
theorem OpR.or {f : Value → Value → Sem Value} {r r' : R2} (h : OpR X f r) (h' : OpR X f r') : OpR X f (fun x y H Q => r x y H Q ∨ r' x y H Q) := by
  intro pins s σ H x y v u Q I rx ry q
  rcases q with q | q
  · exact h pins s σ H x y v u Q I rx ry q
  · exact h' pins s σ H x y v u Q I rx ry q

theorem nomark (b : Expr) {op : CmpOp} (h : op ≠ .In := by decide) (h2 : op ≠ .NotIn := by decide) : behindInMarks op b = false := by
  have e1 : (op == CmpOp.In) = false := by cases op <;> first | rfl | exact absurd rfl h
  have e2 : (op == CmpOp.NotIn) = false := by cases op <;> first | rfl | exact absurd rfl h2
  cases b <;> simp [behindInMarks, e1, e2]
/-- a comparison as a value; hm: nomark b, or (for in, not in) by with_unfolding_all rfl -/
theorem pe_cmpR {op : CmpOp} {r : R2} (ho : OpR X (compareOp op) r) (ha : PE X a ta) (hb : PE X b tb) (hm : behindInMarks op b = false) : PE X (.Compare a [op] [b] pos) (tOp r ta tb) := by
  intro pins s σ H Q I h
  exact wpAny_Compare1 (binT ha hb I h fun v u s2 x y H2 I2 rx ry q => ho pins s2 σ H2 x y v u Q I2 rx ry q) hm
/-- a reading of a value as a test -/
def tTest (t : TE) : TT := fun σ H Q => t σ H fun x H' => ∃ k, x = .bl k ∧ Q k H'
theorem pt_cmpR {op : CmpOp} {r : R2} (ho : OpR X (compareOp op) r) (ha : PE X a ta) (hb : PE X b tb) (hm : behindInMarks op b = false) : PT X (.Compare a [op] [b] pos) (tTest (tOp r ta tb)) := by
  intro pins s σ H Q I h
  refine wpAny_isTrue_Compare1 (thn (ha pins s σ H _ I h) fun v s1 ⟨x, H1, I1, r1, q1⟩ => thn (hb pins s1 σ H1 _ I1 q1) fun u s2 ⟨y, H2, I2, r2, q2⟩ =>
    thn (ho pins s2 σ H2 x y v u _ I2 r1 r2 q2) fun c s3 ⟨z, H3, I3, r3, k, e, q3⟩ => ?_) hm
  subst e
  cases r3
  exact wpAny_truthy_bool ⟨H3, I3, q3⟩
theorem line63 : (sizeLine : Nat) < 2 ^ 63 := by rw [sizeLine_eq]; decide
/-! ### scalar builtins, by CallR -/
theorem vals1 {x : V} {us : List Value} (r : Vals [x] us) : ∃ u, us = [u] ∧ RelV x u := by
  cases r with
  | cons r1 r2 => cases r2; exact ⟨_, rfl, r1⟩
theorem vals2 {x y : V} {us : List Value} (r : Vals [x, y] us) : ∃ u w', us = [u, w'] ∧ RelV x u ∧ RelV y w' := by
  cases r with
  | cons r1 r2 =>
    cases r2 with
    | cons r3 r4 => cases r4; exact ⟨_, _, rfl, r1, r3⟩
theorem call_abs : CallR X (.builtin "abs") (fun xs H Q => ∃ i, xs = [.int i] ∧ Q (.int (if i < 0 then -i else i)) H) := by
  intro pins s σ H xs us Q I r h
  obtain ⟨i, rfl, q⟩ := h
  obtain ⟨u, rfl, t, rfl⟩ := vals1 r
  exact call_abs_int fun u tk => ⟨.int (if i < 0 then -i else i), H, I.tok _, ⟨_, rfl⟩, q⟩
theorem call_max2 (hc : X.calm = true) : CallR X (.builtin "max") (fun xs H Q => ∃ i j, xs = [.int i, .int j] ∧ Q (.int (if j > i then j else i)) H) := by
  intro pins s σ H xs us Q I r h
  obtain ⟨i, j, rfl, q⟩ := h
  obtain ⟨u, w', rfl, ⟨t, rfl⟩, ⟨t', rfl⟩⟩ := vals2 r
  refine max_two_ints (I.ok.hd hc) fun h' tk k => ⟨_, H, I.kept k, ?_, q⟩
  by_cases hj : j > i
  · rw [if_pos hj, if_pos hj]; exact ⟨_, rfl⟩
  · rw [if_neg hj, if_neg hj]; exact ⟨_, rfl⟩
theorem call_min2 (hc : X.calm = true) : CallR X (.builtin "min") (fun xs H Q => ∃ i j, xs = [.int i, .int j] ∧ Q (.int (if j < i then j else i)) H) := by
  intro pins s σ H xs us Q I r h
  obtain ⟨i, j, rfl, q⟩ := h
  obtain ⟨u, w', rfl, ⟨t, rfl⟩, ⟨t', rfl⟩⟩ := vals2 r
  refine min_two_ints (I.ok.hd hc) fun h' tk k => ⟨_, H, I.kept k, ?_, q⟩
  by_cases hj : j < i
  · rw [if_pos hj, if_pos hj]; exact ⟨_, rfl⟩
  · rw [if_neg hj, if_neg hj]; exact ⟨_, rfl⟩
theorem call_str_int : CallR X (.type "str") (fun xs H Q => ∃ i, xs = [.int i] ∧ i.natAbs.log2 < 1920 ∧ Q (.str (toString i)) H) := by
  intro pins s σ H xs us Q I r h
  obtain ⟨i, rfl, hz, q⟩ := h
  obtain ⟨u, rfl, t, rfl⟩ := vals1 r
  exact PySem.P.str_of_int hz ⟨.str _, H, I.tok _, ⟨_, rfl⟩, q⟩
end
end L2

namespace L2
open PySem PySem.Spec PyProof.Rows

/-! ### an instance, its attributes a map -/
structure ObjM (h : Heap) (x dx C : Addr) (mA : Str → Option Value) : Prop where
  obj : h.get? x = some (PySem.W.instObj C dx)
  ns : h.Ns1 dx mA
  ne : dx ≠ x

theorem lookIn_ns {h : Heap} {dx : Addr} {mA : Str → Option Value} (n : h.Ns1 dx mA) : ∃ od, h.get? dx = some od ∧ ∀ name, PySem.W.lookIn name od = some (mA name) := by
  obtain ⟨o, es, ep, ho, hd, hk, _, hm⟩ := n
  refine ⟨o, ho, fun name => ?_⟩
  have e := hm name
  unfold nsFind findBy at e
  rw [← Array.find?_toList] at e
  unfold PySem.W.lookIn
  rw [hd]
  dsimp only
  split
  · rename_i y q
    rw [q] at e
    exact congrArg some e
  · rename_i q
    rw [q] at e
    have a : es.toList.any (·.refKey) = false := by
      rw [List.any_eq_false]
      intro y hy
      obtain ⟨z, t, hkey⟩ := hk y (Array.mem_toList_iff.mp hy)
      simp [DictEntry.refKey, hkey]
    have a' : ¬ es.toList.any (·.refKey) = true := by rw [a]; exact Bool.false_ne_true
    rw [if_neg a']
    exact congrArg some e

theorem ObjM.look {h : Heap} {x dx C : Addr} {mA : Str → Option Value} (I : ObjM h x dx C mA) : ∃ od, PySem.W.InstAt h x (PySem.W.instObj C dx) C (some od) ∧ ∀ name, PySem.W.lookIn name od = some (mA name) :=
  let ⟨od, ho, hl⟩ := lookIn_ns I.ns
  ⟨od, ⟨I.obj, rfl, rfl, ho⟩, hl⟩

section
variable {prog : Program} {w : World} {A : Around} {E : Value → Shared → Prop} {s : Shared} {K : PySem.W.Frag} {x dx C f : Addr} {mA : Str → Option Value} {name : Str} {v : Value}

theorem get_map {expr : Bool} {Q : Value → Shared → Prop} (X : K.In s.heap) (I : ObjM s.heap x dx C mA) (hg : PySem.W.plainGet K C name = true) (hh : PySem.W.hasDictIn K C = true)
    (ha : PySem.W.findIn K (.ref C) name = some none) (hv : mA name = some v) (hv' : PySem.W.handedIn v = true) (h : Q v { s with toks := s.toks + 1 }) :
    wpAny (model prog w) A (getAttr (.ref x) name expr) Q E s := by
  obtain ⟨od, J, hl⟩ := I.look
  exact PySem.W.get_value X J (PySem.W.plainGet_of hg).1 (PySem.W.findObj_own hh ha rfl (by rw [hl, hv])) hv' h

theorem get_meth {pl : Sem Bool} {Q : Value × List Value → Shared → Prop} (X : K.In s.heap) (I : ObjM s.heap x dx C mA) (hg : PySem.W.plainGet K C name = true)
    (hf : PySem.W.findIn K (.ref C) name = some (some (.ref f))) (ht : PySem.W.isFn K (.ref f) = true) (hv : mA name = none) (h : Q (.ref f, [.ref x]) s) :
    wpAny (model prog w) A (getMethod (.ref x) name pl) Q E s := by
  obtain ⟨od, J, hl⟩ := I.look
  exact PySem.W.method_fn X J (PySem.W.plainGet_of hg).1 (PySem.W.plainGet_of hg).2 hf (beq_iff_eq.mp ht) (by show (PySem.W.lookIn name od).map (·.isSome) = some false; rw [hl, hv]; rfl) h

theorem set_map {ns : List Str} {Q : Unit → Shared → Prop} (X : K.In s.heap) (I : ObjM s.heap x dx C mA)
    (hs : PySem.W.findIn K (.ref C) "__setattr__" = some (some (.builtin "object.__setattr__"))) (hp : PySem.W.plainOver K C = true) (ht : PySem.W.takerIn K C name = some none) (hh : PySem.W.hasDictIn K C = true)
    (hw : PySem.Within mA ns) (hsz : ns.length ≤ sizeLine)
    (h : ∀ h', ObjM h' x dx C (fun y => if y = name then some v else mA y) → Heap.SameBut dx s.heap h' → Q () { s with heap := h', toks := s.toks + 2 }) :
    wpAny (model prog w) A (setAttr (.ref x) name v) Q E s := by
  obtain ⟨od, J, hl⟩ := I.look
  refine PySem.W.set_plain X J hs (PySem.W.osa_open (s := { s with toks := s.toks + 1 }) (r := none) X J hp ht fun b => ?_)
  obtain ⟨cd, hc, hd'⟩ := PySem.W.any_some hh
  have hx : s.heap.get? x = some ⟨.ref C, some dx, .plain, #[]⟩ := I.obj
  refine wpAny_bind (wpAny_pure (wpAny_bind (wpAny_bind (wpAny_loadPart hx (wpAny_bind (PySem.W.Looks.here (s := { s with toks := s.toks + 1 }) (PySem.W.looks_clsIn X hc) ?_))))))
  rw [hd']
  refine wpAny_pure (a := some dx) (wpAny_bind (wpAny_pure (wpAny_bind ?_)))
  refine wpAny_nsSet1 (s := { s with toks := s.toks + 1 }) I.ns fun h' hn2 hs2 => ?_
  obtain ⟨oD, esD, epD, hoD, hdD, hcD⟩ := hn2.count (PySem.Within.cons name v hw)
  refine wpAny_bind (wpAny_lookBehind hoD (by rw [hdD]; exact pastItsLine_dict (Nat.le_trans hcD (by rw [List.length_cons]; omega))) ?_)
  exact wpAny_pure (h _ ⟨(hs2.2 _ (Ne.symm I.ne)).trans I.obj, hn2, I.ne⟩ hs2)

/-- C(..): the dict at the heap's end, the instance behind it; then its __init__ -/
theorem make_map {R : Result → Shared → Prop} {vs : List Value} {kw : List (Str × Value)} (X : K.In s.heap) (hm : PySem.W.makesIn K C = true)
    (hi : PySem.W.findIn K (.ref C) "__init__" = some (some (.ref f))) (hf : PySem.W.typeIn K (.ref f) = some (.type "function"))
    (h : codeAny (model prog w) (A.under (.builtin "type.__call__" ⟨.ref C :: vs, kw⟩)) (.call (.ref f) ⟨.ref (s.heap.objs.size + 1) :: vs, kw⟩) (PySem.W.InitBack (s.heap.objs.size + 1) R)
      { s with heap := (s.heap.push PySem.W.emptyDict).push (PySem.W.instObj C s.heap.objs.size) }) :
    codeAny (model prog w) A (.call (.ref C) ⟨vs, kw⟩) R s := by
  obtain ⟨hh, g, d, t, os⟩ := s
  exact PySem.W.make_core (PySem.W.makes_of X hm) (PySem.W.looks_findIn X hi) (fun self => PySem.W.bind_fn X self hf) (.inl rfl) h
/-- C() where there is no __init__ but object's -/
theorem make_map0 {R : Result → Shared → Prop} (X : K.In s.heap) (hm : PySem.W.makesIn K C = true)
    (hi : PySem.W.findIn K (.ref C) "__init__" = some (some (.builtin "object.__init__")))
    (hb : ∀ self, PySem.W.Looks (model prog w) s.heap (bindSpecial (.builtin "object.__init__") self) (.builtin "object.__init__", [self]))
    (h : codeAny (model prog w) (A.under (.builtin "type.__call__" ⟨[.ref C], []⟩)) (.call (.builtin "object.__init__") ⟨[.ref (s.heap.objs.size + 1)], []⟩) (PySem.W.InitBack (s.heap.objs.size + 1) R)
      { s with heap := (s.heap.push PySem.W.emptyDict).push (PySem.W.instObj C s.heap.objs.size) }) :
    codeAny (model prog w) A (.call (.ref C) ⟨[], []⟩) R s := by
  obtain ⟨hh, g, d, t, os⟩ := s
  exact PySem.W.make_core (PySem.W.makes_of X hm) (PySem.W.looks_findIn X hi) hb (.inr ⟨rfl, rfl⟩) h
end

/-! ### the attributes as a list of pairs -/
def putF (f : Str) (v : V) : List (Str × V) → List (Str × V)
  | [] => [(f, v)]
  | (g, x) :: r => if g = f then (g, v) :: r else (g, x) :: putF f v r
theorem lookup_putF (f g : Str) (v : V) : ∀ fs : List (Str × V), (putF f v fs).lookup g = if g = f then some v else fs.lookup g
  | [] => by
    show List.lookup g [(f, v)] = _
    by_cases h : g = f
    · have hb : (g == f) = true := beq_iff_eq.mpr h
      simp only [List.lookup, hb, if_pos h]
    · have hb : (g == f) = false := beq_eq_false_iff_ne.mpr h
      simp only [List.lookup, hb, if_neg h]
  | (k, x) :: r => by
    have ih := lookup_putF f g v r
    rw [show putF f v ((k, x) :: r) = (if k = f then (k, v) :: r else (k, x) :: putF f v r) from rfl]
    by_cases hk : k = f
    · rw [if_pos hk]
      by_cases h : g = k
      · have hb : (g == k) = true := beq_iff_eq.mpr h
        simp only [List.lookup, hb, if_pos (h.trans hk)]
      · have hb : (g == k) = false := beq_eq_false_iff_ne.mpr h
        simp only [List.lookup, hb, if_neg (fun e : g = f => h (e.trans hk.symm))]
    · rw [if_neg hk]
      by_cases h : g = k
      · have hb : (g == k) = true := beq_iff_eq.mpr h
        simp only [List.lookup, hb, if_neg (fun e : g = f => hk (h.symm.trans e))]
      · have hb : (g == k) = false := beq_eq_false_iff_ne.mpr h
        simp only [List.lookup, hb]
        exact ih
theorem keys_putF (f : Str) (v : V) : ∀ fs : List (Str × V), f ∈ (putF f v fs).map (·.1) ∧ ∀ g, g ∈ fs.map (·.1) → g ∈ (putF f v fs).map (·.1)
  | [] => ⟨by simp [putF], fun g h => by simp at h⟩
  | (k, x) :: r => by
    obtain ⟨i1, i2⟩ := keys_putF f v r
    rw [show putF f v ((k, x) :: r) = (if k = f then (k, v) :: r else (k, x) :: putF f v r) from rfl]
    by_cases hk : k = f
    · rw [if_pos hk]
      subst hk
      exact ⟨by simp, fun g h => by simpa using h⟩
    · rw [if_neg hk]
      refine ⟨?_, fun g h => ?_⟩
      · rw [List.map_cons]
        exact List.mem_cons_of_mem _ i1
      · rw [List.map_cons] at h ⊢
        rcases List.mem_cons.mp h with e | e
        · exact List.mem_cons.mpr (.inl e)
        · exact List.mem_cons_of_mem _ (i2 g e)
theorem length_putF (f : Str) (v : V) : ∀ fs : List (Str × V), (putF f v fs).length ≤ fs.length + 1
  | [] => by simp [putF]
  | (k, x) :: r => by
    have ih := length_putF f v r
    rw [show putF f v ((k, x) :: r) = (if k = f then (k, v) :: r else (k, x) :: putF f v r) from rfl]
    by_cases hk : k = f
    · rw [if_pos hk, List.length_cons, List.length_cons]; omega
    · rw [if_neg hk, List.length_cons, List.length_cons]; omega

theorem RelO.some_of {v : V} {o : Option Value} (r : RelO (some v) o) : ∃ u, o = some u ∧ RelV v u := by
  cases o with
  | none => exact (show False from r).elim
  | some u => exact ⟨u, rfl, r⟩
theorem RelO.none_of {o : Option Value} (r : RelO none o) : o = none := by
  cases o with
  | none => rfl
  | some u => exact (show False from r).elim
theorem handed_of {v : V} {u : Value} (r : RelV v u) : PySem.W.handedIn u = true := by
  cases v with
  | non => cases (show u = Value.none from r); rfl
  | bl b => cases (show u = Value.bool b from r); rfl
  | int i => obtain ⟨t, e⟩ := (show ∃ t, u = Value.int i t from r); cases e; rfl
  | str x => obtain ⟨t, e⟩ := (show ∃ t, u = Value.str x t from r); cases e; rfl
  | byt b => obtain ⟨t, e⟩ := (show ∃ t, u = Value.bytes b t from r); cases e; rfl
  | flt b => obtain ⟨t, e⟩ := (show ∃ t, u = Value.float b t from r); cases e; rfl
  | ref a => cases (show u = Value.ref a from r); rfl
  | ty n => cases (show u = Value.type n from r); rfl

section
variable {P : Program} {w : World} {H H' : Hp} {h h' : Heap} {a C dx : Addr} {fs fs' : List (Str × V)}
theorem ins_get (hok : HOk P w H h) (e : H a = some (.ins C dx fs)) : ∃ mA, ObjM h a dx C mA ∧ (∀ f, RelO (fs.lookup f) (mA f)) ∧ PySem.Within mA (fs.map (·.1)) ∧ fs.length ≤ 1000 ∧ H dx = some (.own a) := by
  obtain ⟨d, z, ne, ob, mA, n, r, q⟩ := (show ObjOk P w H h a (.ins C dx fs) from hok a _ e)
  exact ⟨mA, ⟨ob, n, ne⟩, r, q, z, d⟩
end

/-! ### what of the text a class must have -/
structure Cls (K : PySem.W.Frag) (C : Addr) : Prop where
  pg : PySem.W.plainGet K C Str.empty = true
  hd : PySem.W.hasDictIn K C = true
  po : PySem.W.plainOver K C = true
  sa : PySem.W.findIn K (.ref C) "__setattr__" = some (some (.builtin "object.__setattr__"))
theorem Cls.get {K : PySem.W.Frag} {C : Addr} (c : Cls K C) (f : Str) : PySem.W.plainGet K C f = true := c.pg
/-- no class of it has the name -/
def NoAttr (K : PySem.W.Frag) (C : Addr) (f : Str) : Prop := PySem.W.findIn K (.ref C) f = some none
theorem NoAttr.taker {K : PySem.W.Frag} {C : Addr} {f : Str} (n : NoAttr K C f) : PySem.W.takerIn K C f = some none := by
  unfold PySem.W.takerIn
  rw [show PySem.W.findIn K (.ref C) f = some none from n]
  rfl
/-- a method: a plain def of the class or of one above it -/
structure Meth (K : PySem.W.Frag) (C : Addr) (m : Str) (f : Addr) : Prop where
  at_ : PySem.W.findIn K (.ref C) m = some (some (.ref f))
  fn : PySem.W.isFn K (.ref f) = true
  kp : PySem.W.keepIn K (.ref f) = true

section
variable {X : Cx} {pins : List (Addr × Obj)} {σ : St} {H : Hp} {s : Shared} {a C dx : Addr} {fs : List (Str × V)} {f : Str} {v : V} {A : Around} {E : Value → Shared → Prop}

theorem getattr_ok {b : Bool} {Q : Value → Shared → Prop} (I : Inv X pins σ H s) (e : H a = some (.ins C dx fs)) (c : Cls X.K C) (n : NoAttr X.K C f) (l : fs.lookup f = some v)
    (h : ∀ u s', Inv X pins σ H s' → RelV v u → Q u s') : wpAny (model X.prog X.w) A (getAttr (.ref a) f b) Q E s := by
  obtain ⟨mA, O, r, _, _, _⟩ := ins_get I.hok e
  obtain ⟨u, hu, ru⟩ := RelO.some_of (v := v) (o := mA f) (by rw [← l]; exact r f)
  exact get_map I.kIn O (c.get f) c.hd n hu (handed_of ru) (h u _ (I.tok _) ru)

theorem getmeth_ok {m : Str} {g : Addr} {pl : Sem Bool} {Q : Value × List Value → Shared → Prop} (I : Inv X pins σ H s) (e : H a = some (.ins C dx fs)) (c : Cls X.K C) (k : Meth X.K C m g) (l : fs.lookup m = none)
    (h : Q (.ref g, [.ref a]) s) : wpAny (model X.prog X.w) A (getMethod (.ref a) m pl) Q E s := by
  obtain ⟨mA, O, r, _, _, _⟩ := ins_get I.hok e
  have hn : mA m = none := RelO.none_of (by rw [← l]; exact r m)
  exact get_meth I.kIn O (c.get m) k.at_ k.fn hn h

theorem setattr_ok {y : V} {u : Value} {Q : Unit → Shared → Prop} (I : Inv X pins σ H s) (e : H a = some (.ins C dx fs)) (c : Cls X.K C) (n : NoAttr X.K C f) (hl : fs.length < 1000) (ry : RelV y u)
    (h : ∀ s', Inv X pins σ (upd H a (.ins C dx (putF f y fs))) s' → Q () s') : wpAny (model X.prog X.w) A (setAttr (.ref a) f u) Q E s := by
  obtain ⟨mA, O, r, wi, _, ho⟩ := ins_get I.hok e
  have hz : (fs.map (·.1)).length ≤ sizeLine := by rw [List.length_map, sizeLine_eq]; omega
  refine set_map I.kIn O c.sa c.po n.taker c.hd wi hz fun h' O' sb => h _ ?_
  have hd : ∃ o, h'.get? dx = some o := let ⟨o, _, _, e', _⟩ := O'.ns; ⟨o, e'⟩
  refine I.write (x := a) (e := dx) (by rw [e]; exact True.intro) (.inr ho) (fun b q hb z => (sb.2 b hb).trans z) hd ?_
  refine ⟨by rw [upd_ne O.ne]; exact ho, ?_, O.ne, O'.obj, _, O'.ns, fun g => ?_, fun g hg => ?_⟩
  · have := length_putF f y fs; omega
  · show RelO ((putF f y fs).lookup g) (if g = f then some u else mA g)
    rw [lookup_putF]
    by_cases q : g = f
    · rw [if_pos q, if_pos q]; exact ry
    · rw [if_neg q, if_neg q]; exact r g
  · by_cases q : g = f
    · rw [q]; exact (keys_putF f y fs).1
    · refine (keys_putF f y fs).2 g (wi g fun z => hg ?_)
      show (if g = f then some u else mA g) = none
      rw [if_neg q]; exact z

/-- a new instance, tracked, without attributes -/
theorem Inv.made (I : Inv X pins σ H s) : Inv X pins σ (upd (upd H s.heap.objs.size (.own (s.heap.objs.size + 1))) (s.heap.objs.size + 1) (.ins C s.heap.objs.size []))
    { s with heap := (s.heap.push PySem.W.emptyDict).push (PySem.W.instObj C s.heap.objs.size) } := by
  have e1 : (s.heap.push PySem.W.emptyDict).get? s.heap.objs.size = some PySem.W.emptyDict := Heap.get?_push_size s.heap rfl
  have e2 : ((s.heap.push PySem.W.emptyDict).push (PySem.W.instObj C s.heap.objs.size)).get? (s.heap.objs.size + 1) = some (PySem.W.instObj C s.heap.objs.size) := by
    have := Heap.get?_push_size (s.heap.push PySem.W.emptyDict) (o := PySem.W.instObj C s.heap.objs.size) rfl
    rwa [Heap.size_push] at this
  have e3 : (s.heap.push PySem.W.emptyDict).Ns s.heap.objs.size (fun _ => none) := ⟨PySem.W.emptyDict, #[], _, e1, rfl, (fun e he => absurd he (by simp)), fun _ => rfl⟩
  have I1 := I.laid (a := s.heap.objs.size) (o := .own (s.heap.objs.size + 1)) (h' := s.heap.push PySem.W.emptyDict) (t' := s.toks) (fun b u q => Heap.get?_push_of_some _ q) (Nat.le_refl _) ⟨_, e1⟩
  refine I1.laid (a := s.heap.objs.size + 1) (o := .ins C s.heap.objs.size []) (t' := s.toks) (fun b u q => Heap.get?_push_of_some _ q) (Nat.le_of_eq (Heap.size_push _ _)) ?_
  have ne : s.heap.objs.size ≠ s.heap.objs.size + 1 := Nat.ne_of_lt (Nat.lt_succ_self _)
  refine ⟨by rw [upd_ne ne, upd_same], Nat.zero_le _, ne, e2, fun _ => none, (Heap.Ns1.of_empty e3).at fun o q => Heap.get?_push_of_some _ q, fun _ => True.intro, fun y hy => absurd rfl hy⟩

/-- e.f where nothing but the object is asked: through attributeBase (super) and the last hold -/
theorem attr_of {prog : Program} {w : World} {env : Env} {e : Expr} {f : Str} {pos : Pos} {s : Shared} {Q : Value → Shared → Prop} (hb : attributeBase e f env (eval e env) = eval e env)
    (h : wpAny (model prog w) A (eval e env) (fun o s₁ => wpAny (model prog w) A (getAttr o f true) Q E s₁) E s) : wpAny (model prog w) A (eval (.Attribute e f pos) env) Q E s :=
  Attribute_any_ h (by rw [arm_eval_Attribute, hb])
end

/-! ### readings and rules -/
/-- e.f, an attribute of the instance -/
def tFld (K : PySem.W.Frag) (ta : TE) (f : Str) : TE := fun σ H Q => ta σ H fun x H1 => ∃ a C dx fs v, x = .ref a ∧ H1 a = some (.ins C dx fs) ∧ Cls K C ∧ NoAttr K C f ∧ fs.lookup f = some v ∧ Q v H1
/-- e.f = value -/
def sFld (K : PySem.W.Frag) (ta tv : TE) (f : Str) : TS := fun D σ H => tv σ H fun y H1 => ta σ H1 fun x H2 => ∃ a C dx fs, x = .ref a ∧ H2 a = some (.ins C dx fs) ∧ Cls K C ∧ NoAttr K C f ∧ fs.length < 1000 ∧
  D.nx σ (upd H2 a (.ins C dx (putF f y fs)))
section
variable {X : Cx} {o e value : Expr} {f : Str} {pos pos' tpos : Pos} {ta tv : TE}
theorem pe_fld (he : PE X e ta) (hb : attributeBase e f X.env (eval e X.env) = eval e X.env) : PE X (.Attribute e f pos) (tFld X.K ta f) := by
  intro pins s σ H Q I h
  refine attr_of hb (thn (he pins s σ H _ I h) fun u s1 ⟨x, H1, I1, rx, a, C, dx, fs, v, ex, ea, c, n, l, q⟩ => ?_)
  subst ex
  obtain rfl : u = Value.ref a := rx
  exact getattr_ok I1 ea c n l fun u' s2 I2 ru => ⟨v, H1, I2, ru, q⟩
theorem ps_fld (ha : PE X o ta) (hv : PE X value tv) (hs : swapsWith value (some (.Attribute o f pos')) pos.line X.env = pure false) : PS X (.Assign [.Attribute o f pos'] value pos) (sFld X.K ta tv f) := by
  intro pins s σ H D I h
  refine plainObj_wpAny_Assign_Attribute (thn (hv pins s σ H _ I h) fun u s1 ⟨y, H1, I1, ry, q⟩ => thn (ha pins s1 σ H1 _ I1 q) fun ov s2 ⟨x, H2, I2, rx, a, C, dx, fs, ex, ea, c, n, l, q2⟩ => ?_) hs
  subst ex
  obtain rfl : ov = Value.ref a := rx
  exact setattr_ok I2 ea c n l ry fun s3 I3 => ⟨σ, _, I3, q2⟩
end

/-! ### isinstance -/
section
variable {X : Cx} {pins : List (Addr × Obj)} {σ : St} {H : Hp} {s : Shared} {A : Around} {E : Value → Shared → Prop} {Q : Value → Shared → Prop} {c : Value} {b : Bool}
/-- the type of a value, as the fragment's deciders take it; for an instance its class -/
inductive TyOf (K : PySem.W.Frag) (H : Hp) : V → Value → Prop where
  | non : TyOf K H .non (.type "NoneType")
  | bl (x : Bool) : TyOf K H (.bl x) (.type "bool")
  | int (i : Int) : TyOf K H (.int i) (.type "int")
  | str (x : Str) : TyOf K H (.str x) (.type "str")
  | flt (x : UInt64) : TyOf K H (.flt x) (.type "float")
  | lst {a : Addr} {xs : List V} (e : H a = some (.lst xs)) : TyOf K H (.ref a) (.type "list")
  | frz {a : Addr} {o : Obj} {xs : List V} (e : H a = some (.frz o (.lst xs))) : TyOf K H (.ref a) (.type "list")
  | tup {a : Addr} {xs : List V} (e : H a = some (.tup xs)) : TyOf K H (.ref a) (.type "tuple")
  | dK {a : Addr} {kvs : List (Key × V)} (e : H a = some (.dK kvs)) : TyOf K H (.ref a) (.type "dict")
  | dT {a : Addr} {kvs : List (List Key × V)} (e : H a = some (.dT kvs)) : TyOf K H (.ref a) (.type "dict")
  | ins {a C dx : Addr} {fs : List (Str × V)} (e : H a = some (.ins C dx fs)) (cl : Cls K C) (ha : PySem.W.findIn K (.ref C) "__class__" = some (some (.builtin "object.__class__")))
      (hn : PySem.W.specialIn K (.builtin "object.__class__") "__get__" = some (some (.builtin "getset_descriptor.__get__"))) (htk : PySem.W.takesIn K (.builtin "object.__class__") = some true)
      (hm : PySem.W.mroIn K C (.type "object") = some true) : TyOf K H (.ref a) (.ref C)
/-- isinstance(x, c) for one class c, a built-in or an own one: kitOne's answer -/
theorem isinst_ok {x : V} {u t : Value} (I : Inv X pins σ H s) (rx : RelV x u) (ty : TyOf X.K H x t) (e : PySem.W.kitOne X.K t c = some b) (h : ∀ tk, Q (.bool b) { s with toks := tk }) :
    wpAny (model X.prog X.w) A (call (.builtin "isinstance") [u, c]) Q E s := by
  cases ty with
  | non => cases (show u = Value.none from rx); exact PySem.W.kia_one PySem.W.kitx_none I.kIn True.intro e (fun z => nomatch z) h
  | bl y => cases (show u = Value.bool y from rx); exact PySem.W.kia_one PySem.W.kitx_bool I.kIn True.intro e (fun z => nomatch z) h
  | int i => obtain ⟨t, q⟩ := (show ∃ t, u = Value.int i t from rx); cases q; exact PySem.W.kia_one PySem.W.kitx_int I.kIn True.intro e (fun z => nomatch z) h
  | str y => obtain ⟨t, q⟩ := (show ∃ t, u = Value.str y t from rx); cases q; exact PySem.W.kia_one PySem.W.kitx_str I.kIn True.intro e (fun z => nomatch z) h
  | flt y => obtain ⟨t, q⟩ := (show ∃ t, u = Value.float y t from rx); cases q; exact PySem.W.kia_one PySem.W.kitx_float I.kIn True.intro e (fun z => nomatch z) h
  | @lst a xs ea =>
    cases (show u = Value.ref a from rx)
    obtain ⟨_, _, n, _, h1⟩ := (show ObjOk X.prog X.w H s.heap a (.lst xs) from I.hok a _ ea)
    exact PySem.W.kia_one PySem.W.kitx_list I.kIn ⟨_, h1, rfl⟩ e (fun z => nomatch z) h
  | @frz a ob xs ea =>
    cases (show u = Value.ref a from rx)
    obtain ⟨_, _, _, n, _, h1⟩ := (show ObjOk X.prog X.w H s.heap a (.frz ob (.lst xs)) from I.hok a _ ea)
    exact PySem.W.kia_one PySem.W.kitx_list I.kIn ⟨_, h1, rfl⟩ e (fun z => nomatch z) h
  | @tup a xs ea =>
    cases (show u = Value.ref a from rx)
    obtain ⟨_, _, _, p⟩ := (show ObjOk X.prog X.w H s.heap a (.tup xs) from I.hok a _ ea)
    obtain ⟨o, h1, h2, _⟩ := p
    exact PySem.W.kia_one PySem.W.kitx_tuple I.kIn ⟨o, h1, h2⟩ e (fun z => nomatch z) h
  | @dK a kvs ea =>
    cases (show u = Value.ref a from rx)
    obtain ⟨_, _, vs, _, p⟩ := (show ObjOk X.prog X.w H s.heap a (.dK kvs) from I.hok a _ ea)
    obtain ⟨o, es, ep, h1, h2, _⟩ := p
    exact PySem.W.kia_one PySem.W.kitx_dict I.kIn ⟨o, h1, h2.1⟩ e (fun z => nomatch z) h
  | @dT a kvs ea =>
    cases (show u = Value.ref a from rx)
    obtain ⟨_, _, xs, _, o, es, ep, h1, h2, _⟩ := (show ObjOk X.prog X.w H s.heap a (.dT kvs) from I.hok a _ ea)
    exact PySem.W.kia_one PySem.W.kitx_dict I.kIn ⟨o, h1, h2.1⟩ e (fun z => nomatch z) h
  | @ins a C dx fs ea cl ha hn htk hm =>
    cases (show u = Value.ref a from rx)
    obtain ⟨mA, O, _⟩ := ins_get I.hok ea
    obtain ⟨od, J, _⟩ := O.look
    exact PySem.W.kia_one (PySem.W.kitx_own (cl.get _) cl.hd ha hn htk hm) I.kIn J e (fun z => nomatch z) h
end
end L2

namespace L2
open PySem PySem.Spec PyProof.Rows

/-! ### room -/
structure Room (k : Nat) (A : Around) : Prop where
  hd : A.handled = none
  dp : A.depth + 3 * k + 5 < recursionLimit
  un : A.units + 16 * k + 200 < cLine
theorem Room.mono {j k : Nat} {A : Around} (r : Room k A) (h : j ≤ k) : Room j A := ⟨r.hd, by have := r.dp; omega, by have := r.un; omega⟩
theorem Room.deeper {k : Nat} {A : Around} (r : Room (k + 1) A) (env : Env) : Room k (A.deeper env) :=
  ⟨r.hd, by have := r.dp; show A.depth + 1 + 3 * k + 5 < _; omega, by have := r.un; show A.units + 3 + 16 * k + 200 < _; omega⟩
theorem Room.in1 {k : Nat} {A : Around} (r : Room (k + 1) A) : Room k A.in1 :=
  ⟨r.hd, by have := r.dp; show A.depth + 3 * k + 5 < _; omega, by have := r.un; show A.units + 1 + 16 * k + 200 < _; omega⟩
theorem make_depth {A : Around} {C : Addr} {us : List Value} {kw : List (Str × Value)} : (A.under (.builtin "type.__call__" ⟨.ref C :: us, kw⟩)).depth = A.depth + 1 := by
  first | rfl | simp [Around.under, Code.weight, Code.isCreation, Code.isGuard, Code.isCaller, Code.frames, Code.isFrame, guardIds]
theorem make_units {A : Around} {C : Addr} {us : List Value} {kw : List (Str × Value)} : (A.under (.builtin "type.__call__" ⟨.ref C :: us, kw⟩)).units = A.units + 1 := by
  first | rfl | simp [Around.under, Code.cUnits, Code.frames, Code.isFrame]
theorem Room.make {k : Nat} {A : Around} (r : Room (k + 1) A) (C : Addr) (us : List Value) (kw : List (Str × Value)) : Room k (A.under (.builtin "type.__call__" ⟨.ref C :: us, kw⟩)) :=
  ⟨r.hd, by have := r.dp; rw [make_depth]; omega, by have := r.un; rw [make_units]; omega⟩
theorem Room.depth {k : Nat} {A : Around} (r : Room k A) : A.depth < recursionLimit := by have := r.dp; omega
theorem Room.units {k : Nat} {A : Around} (r : Room k A) : A.units + 64 < cLine := by have := r.un; omega
/-! ### argument lists and displays -/
def tNil : TA := fun _ H Q => Q [] H
def tCons (ta : TE) (tr : TA) : TA := fun σ H Q => ta σ H fun x H1 => tr σ H1 fun xs H2 => Q (x :: xs) H2
section
variable {X : Cx} {e : Expr} {es : List Expr} {te : TE} {t : TA} {pos : Pos}
theorem pa_nil : PA X [] tNil := fun _ _ _ _ H Q I h => Calls.spliced_nil ⟨[], H, I, .nil, h⟩
theorem pa_cons (ha : PE X e te) (hr : PA X es t) (hs : starEach (e :: es) X.env = (false, eval e X.env) :: starEach es X.env := by rfl) : PA X (e :: es) (tCons te t) := by
  intro pos pins s σ H Q I h
  rw [hs]
  show wpAny _ _ (spliced ((false, eval e X.env) :: backTo pos (starEach es X.env))) _ _ s
  refine Calls.spliced_cons (thn (ha pins s σ H _ I h) fun u s1 ⟨x, H1, I1, r1, q1⟩ => ?_)
  exact thn (hr pos pins s1 σ H1 _ I1 q1) fun us s2 ⟨xs, H2, I2, r2, q2⟩ => ⟨x :: xs, H2, I2, .cons r1 r2, q2⟩

/-- a tuple, a list of written items -/
def tTup (t : TA) : TE := fun σ H Q => t σ H fun xs H1 => xs.length ≤ sizeLine ∧ ∀ p, H1 p = none → Q (.ref p) (upd H1 p (.tup xs))
def tLst (t : TA) : TE := fun σ H Q => t σ H fun xs H1 => xs.length ≤ sizeLine ∧ ∀ p, H1 p = none → Q (.ref p) (upd H1 p (.lst xs))
theorem pe_tup {x1} (h : PA X es t) : PE X (.Tuple es x1 pos) (tTup t) := by
  intro pins s σ H Q I hq
  refine wpAny_Tuple_spliced (thn (h pos pins s σ H _ I hq) fun us s1 ⟨xs, H1, I1, r, z, q⟩ => ⟨by rw [← r.length]; exact z, ?_⟩)
  have hf : H1 s1.heap.objs.size = none := I1.hok.fresh (Nat.le_refl _)
  refine ⟨.ref s1.heap.objs.size, upd H1 s1.heap.objs.size (.tup xs), I1.laid (t' := s1.toks) (fun b u e => Heap.get?_push_of_some _ e) (Nat.le_refl _) ?_, rfl, q _ hf⟩
  exact ⟨z, us, r, ⟨_, Heap.get?_push_size _ rfl, rfl, _, rfl⟩⟩
theorem pe_lst (h : PA X es t) : PE X (.List es pos) (tLst t) := by
  intro pins s σ H Q I hq
  refine wpAny_List_spliced (thn (h pos pins s σ H _ I hq) fun us s1 ⟨xs, H1, I1, r, z, q⟩ => ⟨by rw [← r.length]; exact z, ?_⟩)
  have hf : H1 s1.heap.objs.size = none := I1.hok.fresh (Nat.le_refl _)
  refine ⟨.ref s1.heap.objs.size, upd H1 s1.heap.objs.size (.lst xs), I1.laid (t' := s1.toks) (fun b u e => Heap.get?_push_of_some _ e) (Nat.le_refl _) ?_, rfl, q _ hf⟩
  exact ⟨z, us, 0, r, Heap.get?_push_size _ rfl⟩
end

/-! ### what a def promises -/
/-- a def's promise: the bound arguments in the parameters' order, the heap, the wanted end, the wanted exception -/
abbrev Sp := List V → Hp → VK → XK → Prop
/-- how an exception lies behind a call (file 08 gives it): the callers' frames, abstract heap and state ahead of the call, the wish, the exception, the state -/
abbrev CXT := List Env → Hp → Shared → XK → Value → Shared → Prop

/-- the state at a call -/
structure Env0 (P : Program) (w : World) (K : PySem.W.Frag) (mg : Str → Option Value) (base : Heap) (A : Around) (outer : List Env) (s : Shared) (H : Hp) : Prop where
  frames : A.frames = some outer
  mod : Mod K mg base
  bs : ∀ b o, base.get? b = some o → s.heap.get? b = some o ∧ H b = none
  bsz : base.objs.size ≤ s.heap.objs.size
  funs : s.heap.FunFrames base outer
  frf : ∀ b ∈ frs outer, H b = none
  hok : HOk P w H s.heap
  bare : AllBare s.gens
/-- a call's end -/
def CE (outer : List Env) (P : Program) (w : World) (H : Hp) (s : Shared) (Q : VK) (u : Value) (s' : Shared) : Prop :=
  ∃ v H', s'.os = s.os ∧ AllBare s'.gens ∧ Un (frs outer) [] H H' s.heap s'.heap ∧ HOk P w H' s'.heap ∧ RelV v u ∧ Q v H'
def CR (CX : CXT) (outer : List Env) (P : Program) (w : World) (H : Hp) (s : Shared) (Q : VK) (E : XK) (r : Result) (s' : Shared) : Prop :=
  match r with
  | .ok (.ret u) => CE outer P w H s Q u s'
  | .ok _ => False
  | .error e => CX outer H s E e s'
structure FnOk (P : Program) (w : World) (K : PySem.W.Frag) (mg : Str → Option Value) (base : Heap) (CX : CXT) (k : Nat) (f : Addr) (fd : FuncData) (ps : List Str) (sp : Sp) : Prop where
  len : ∀ vs H Q E, sp vs H Q E → vs.length = ps.length
  run : ∀ (A : Around) (outer : List Env) (s : Shared) (H : Hp) (args : Args) (us : List Value) (vs : List V) (Q : VK) (E : XK), Room k A → Env0 P w K mg base A outer s H → BindsTo s fd args (ps.zip us) → Vals vs us → sp vs H Q E →
    codeAny (model P w) A (.call (.ref f) args) (CR CX outer P w H s Q E) s
theorem FnOk.mono {P : Program} {w : World} {K : PySem.W.Frag} {mg : Str → Option Value} {base : Heap} {CX : CXT} {j k : Nat} {f : Addr} {fd : FuncData} {ps : List Str} {sp : Sp} (F : FnOk P w K mg base CX j f fd ps sp) (h : j ≤ k) :
    FnOk P w K mg base CX k f fd ps sp := ⟨F.len, fun A outer s H args us vs Q E hr => F.run A outer s H args us vs Q E (hr.mono h)⟩
theorem Env0.make {P : Program} {w : World} {K : PySem.W.Frag} {mg : Str → Option Value} {base : Heap} {A : Around} {outer : List Env} {s : Shared} {H : Hp} (e : Env0 P w K mg base A outer s H) (C : Addr) (us : List Value) (kw : List (Str × Value)) :
    Env0 P w K mg base (A.under (.builtin "type.__call__" ⟨.ref C :: us, kw⟩)) outer s H := ⟨by first | exact e.frames | (simpa [Around.under, Code.envs, Code.isFrame, pushEnvs] using e.frames), e.mod, e.bs, e.bsz, e.funs, e.frf, e.hok, e.bare⟩
theorem Env0.in1 {P : Program} {w : World} {K : PySem.W.Frag} {mg : Str → Option Value} {base : Heap} {A : Around} {outer : List Env} {s : Shared} {H : Hp} (e : Env0 P w K mg base A outer s H) :
    Env0 P w K mg base A.in1 outer s H := ⟨e.frames, e.mod, e.bs, e.bsz, e.funs, e.frf, e.hok, e.bare⟩

section
variable {X : Cx} {pins : List (Addr × Obj)} {σ : St} {H : Hp} {s s' : Shared}
/-- from a body: what a callee wants -/
theorem Inv.env0 (I : Inv X pins σ H s) : Env0 X.prog X.w X.K X.mg X.base X.A X.stack s H :=
  ⟨I.ok.frames, I.ok.mod, I.bs, Nat.le_trans I.ok.bsz I.sz, I.stack, I.stkFree, I.hok, I.bare⟩
/-- behind a call -/
theorem Inv.after {Q : VK} {u : Value} (I : Inv X pins σ H s) (h : CE X.stack X.prog X.w H s Q u s') : EP X pins σ Q u s' := by
  obtain ⟨v, H', os, bare, un, hok, r, q⟩ := h
  obtain ⟨hh, g, d, t, os'⟩ := s'
  obtain rfl : os' = s.os := os
  exact ⟨v, H', I.call (h' := hh) (g' := g) (d' := d) (t' := t) (ch := []) un hok bare (fun b z => absurd z (by simp)), r, q⟩
end

/-- C(..): a new instance and its dict, then __init__ -/
def tMake (C : Addr) (sp : Sp) (dvs : List V) (E : XK) (t : TA) : TE := fun σ H Q => t σ H fun vs H1 => ∀ x dx, H1 x = none → H1 dx = none → dx ≠ x →
  sp (.ref x :: (vs ++ dvs)) (upd (upd H1 dx (.own x)) x (.ins C dx [])) (fun v H2 => v = .non ∧ Q (.ref x) H2) E

/-- how the parameters are bound: us the positional arguments, kw the keywords' values by name, ds the defaults that fill up -/
def Binds (K : PySem.W.Frag) (fd : FuncData) (ps : List Str) (ds : List Value) : Prop :=
  ∀ (s : Shared) (us : List Value), K.In s.heap → (us ++ ds).length = ps.length → BindsTo s fd ⟨us, []⟩ (ps.zip (us ++ ds))
/-- every parameter is given -/
theorem Binds.all {K : PySem.W.Frag} {fd : FuncData} {ps : List Str} (h : ∀ us : List Value, us.length = ps.length → bindArgs fd ⟨us, []⟩ = pure (ps.zip us)) : Binds K fd ps [] := fun s us _ hl => by
  rw [List.append_nil] at hl ⊢
  exact .of_eq (h us hl)

/-- an exception of a callee reaches what this body wants of exceptions -/
def Passes (CX : CXT) (X : Cx) (E : XK) : Prop := ∀ (pins : List (Addr × Obj)) (σ : St) (H : Hp) (s : Shared) (e : Value) (s' : Shared), Inv X pins σ H s → CX X.stack H s E e s' → X.xe e s'

section
variable {X : Cx} {CX : CXT} {k : Nat} {f C : Addr} {fd : FuncData} {ps : List Str} {sp : Sp} {dvs : List V} {ds : List Value} {E : XK} {x m : Str} {p pos apos : Pos} {e o : Expr} {es : List Expr} {ta : TE} {t : TA}

/-- what a class must have to be made -/
structure Mk (K : PySem.W.Frag) (C f : Addr) : Prop where
  makes : PySem.W.makesIn K C = true
  init : PySem.W.findIn K (.ref C) "__init__" = some (some (.ref f))
  fn : PySem.W.isFn K (.ref f) = true
  kp : PySem.W.keepIn K (.ref C) = true

theorem run_make {pins : List (Addr × Obj)} {σ : St} {H : Hp} {s : Shared} {Q : VK} {us : List Value} {vs : List V} (M : Mk X.K C f) (F : FnOk X.prog X.w X.K X.mg X.base CX k f fd ps sp) (hr : Room (k + 1) X.A) (hb : Binds X.K fd ps ds) (hd : Vals dvs ds)
    (hx : Passes CX X E) (I : Inv X pins σ H s) (r : Vals vs us)
    (h : ∀ x dx, H x = none → H dx = none → dx ≠ x → sp (.ref x :: (vs ++ dvs)) (upd (upd H dx (.own x)) x (.ins C dx [])) (fun v H2 => v = .non ∧ Q (.ref x) H2) E) :
    wpAny (model X.prog X.w) X.A (call (.ref C) us) (EP X pins σ Q) X.xe s := by
  have hq := h (s.heap.objs.size + 1) s.heap.objs.size (I.hok.fresh (Nat.le_succ _)) (I.hok.fresh (Nat.le_refl _)) (Nat.ne_of_lt (Nat.lt_succ_self _))
  have I2 := Inv.made (C := C) I
  have r2 : Vals (V.ref (s.heap.objs.size + 1) :: (vs ++ dvs)) (Value.ref (s.heap.objs.size + 1) :: (us ++ ds)) := .cons rfl (r.append hd)
  have hl : (Value.ref (s.heap.objs.size + 1) :: us ++ ds).length = ps.length := by
    have e := r2.length
    rw [F.len _ _ _ _ hq] at e
    exact e.symm
  refine wpAny_call (make_map (f := f) I.kIn M.makes M.init (beq_iff_eq.mp M.fn) (codeAny_mono (F.run _ X.stack _ _ ⟨Value.ref (s.heap.objs.size + 1) :: us, []⟩ (Value.ref (s.heap.objs.size + 1) :: (us ++ ds)) _ _ E (hr.make C us [])
    (I2.env0.make C us []) (hb _ (Value.ref (s.heap.objs.size + 1) :: us) I2.kIn hl) r2 hq) fun r s' hq' => ?_))
  cases r with
  | error e => exact hx pins σ _ _ e s' I2 hq'
  | ok fl =>
    cases fl with
    | ret u =>
      obtain ⟨v, H', I3, rv, ev, q3⟩ := I2.after hq'
      subst ev
      exact ⟨rv, ⟨V.ref (s.heap.objs.size + 1), H', I3, rfl, q3⟩⟩
    | next => exact False.elim hq'
    | brk => exact False.elim hq'
    | cont => exact False.elim hq'
theorem pe_make (M : Mk X.K C f) (F : FnOk X.prog X.w X.K X.mg X.base CX k f fd ps sp) (hr : Room (k + 1) X.A) (hg : Gl X x) (hm : X.mg x = some (.ref C)) (hb : Binds X.K fd ps ds) (hd : Vals dvs ds) (hx : Passes CX X E)
    (ha : PA X (e :: es) t) (hdb : (x == ("__debug__" : Str)) = false := by decide) (he : starEach (e :: es) X.env = (false, eval e X.env) :: starEach es X.env := by rfl) (hpl : (backTo pos (starEach es X.env)).any (·.1) = false := by rfl) :
    PE X (.Call (.Name x p) (e :: es) [] pos) (tMake C sp dvs E t) := by
  intro pins s σ H Q I h
  refine wpAny_Call_Name_kw (ld_glob I hg hm ?_ hdb)
  refine PySem.W.callWith_K (h₀ := X.base) I.ok.mod.kin M.kp (thn (ha pos pins s σ H _ I h) fun us s1 ⟨vs, H1, I1, r, q⟩ => ⟨I1.kIn, ?_⟩) he hpl
  exact run_make M F hr hb hd hx I1 r q
end

section
variable {X : Cx} {CX : CXT} {k : Nat} {f C : Addr} {fd : FuncData} {ps ks : List Str} {sp : Sp} {E : XK} {x m : Str} {p pos apos kpos : Pos} {e o : Expr} {es : List Expr} {kws : List Keyword} {te ta : TE} {t tk : TA} {nm : Option Str}
/-- how a call with keywords binds: g puts the positional values us and the keywords' values ws (names ks) in the parameters' order, defaults among them -/
structure KBinds (K : PySem.W.Frag) (fd : FuncData) (ps ks : List Str) (g : List Value → List Value → List Value) (gV : List V → List V → List V) : Prop where
  to : ∀ (s : Shared) (us ws : List Value), K.In s.heap → (g us ws).length = ps.length → BindsTo s fd ⟨us, ks.zip ws⟩ (ps.zip (g us ws))
  rel : ∀ {vs : List V} {us : List Value} {zs : List V} {ws : List Value}, Vals vs us → Vals zs ws → Vals (gV vs zs) (g us ws)
variable {g : List Value → List Value → List Value} {gV : List V → List V → List V}
end

/-! ### a def's body keeps its promise -/
/-- names: the parameters first -/
structure FnScope (N P : List Str) (sc : Scope) : Prop where
  kind : sc.kind = .function
  co : sc.isCoroutine = false
  gen : sc.isGenerator = false
  nd : N.Nodup
  pre : N.take P.length = P
  par : ∀ x ∈ P, sc.names.lookup x = some .local ∨ sc.names.lookup x = some .cell
  nofree : ∀ y ∈ sc.names, y.2 ≠ .free

theorem bindL_out {kindOf : Str → Option NameKind} {x : Str} : ∀ {binds : List (Str × Value)} {m : Str → Option Value}, (∀ v, (x, v) ∉ binds) → bindL kindOf binds m x = m x
  | [], _, _ => rfl
  | (n, v) :: r, m, h => by
    unfold bindL
    rw [bindL_out fun w hw => h w (List.mem_cons_of_mem _ hw)]
    split
    · have : x ≠ n := by rintro rfl; exact h v List.mem_cons_self
      simp [this]
    · rfl
theorem bindC_out {kindOf : Str → Option NameKind} {x : Str} : ∀ {binds : List (Str × Value)} {m : Str → Option Value}, (∀ v, (x, v) ∉ binds) → bindC kindOf binds m x = m x
  | [], _, _ => rfl
  | (n, v) :: r, m, h => by
    unfold bindC
    rw [bindC_out fun w hw => h w (List.mem_cons_of_mem _ hw)]
    split
    · rfl
    · have : x ≠ n := by rintro rfl; exact h v List.mem_cons_self
      simp [this]
theorem bindL_get {kindOf : Str → Option NameKind} {x : Str} {v : Value} : ∀ {P : List Str} {vs : List Value} {i : Nat} {m : Str → Option Value}, P.Nodup → P[i]? = some x → vs[i]? = some v → kindOf x = some .local →
    bindL kindOf (P.zip vs) m x = some v
  | [], _, _, _, _, h, _, _ => by simp at h
  | _ :: _, [], _, _, _, _, h, _ => by simp at h
  | p :: P, w :: vs, 0, m, nd, h1, h2, hk => by
    simp at h1 h2; subst h1; subst h2
    show bindL kindOf ((p, w) :: P.zip vs) m p = _
    unfold bindL
    rw [bindL_out fun v hv => (List.nodup_cons.mp nd).1 (List.of_mem_zip hv).1, if_pos hk]
    simp
  | p :: P, w :: vs, i + 1, m, nd, h1, h2, hk => by
    show bindL kindOf ((p, w) :: P.zip vs) m x = _
    unfold bindL
    exact bindL_get (i := i) (List.nodup_cons.mp nd).2 (by simpa using h1) (by simpa using h2) hk
theorem bindC_get {kindOf : Str → Option NameKind} {x : Str} {v : Value} : ∀ {P : List Str} {vs : List Value} {i : Nat} {m : Str → Option Value}, P.Nodup → P[i]? = some x → vs[i]? = some v → kindOf x ≠ some .local →
    bindC kindOf (P.zip vs) m x = some v
  | [], _, _, _, _, h, _, _ => by simp at h
  | _ :: _, [], _, _, _, _, h, _ => by simp at h
  | p :: P, w :: vs, 0, m, nd, h1, h2, hk => by
    simp at h1 h2; subst h1; subst h2
    show bindC kindOf ((p, w) :: P.zip vs) m p = _
    unfold bindC
    rw [bindC_out fun v hv => (List.nodup_cons.mp nd).1 (List.of_mem_zip hv).1, if_neg hk]
    simp
  | p :: P, w :: vs, i + 1, m, nd, h1, h2, hk => by
    show bindC kindOf ((p, w) :: P.zip vs) m x = _
    unfold bindC
    exact bindC_get (i := i) (List.nodup_cons.mp nd).2 (by simpa using h1) (by simpa using h2) hk

/-- the names' values at the entry -/
def start (N : List Str) (vs : List V) : St := vs.map some ++ List.replicate (N.length - vs.length) none

/-- the context of a def's body, at its entry; an exception leaves the frame, then lies as CX says -/
def cxOf (CX : CXT) (P : Program) (w : World) (K : PySem.W.Frag) (mg : Str → Option Value) (base : Heap) (N : List Str) (qual : Str) (scope : Scope) (f : Addr) (cd : Value) (A : Around) (outer : List Env) (s : Shared) (H : Hp) (E : XK) : Cx where
  prog := P
  w := w
  K := K
  mg := mg
  base := base
  A := A.deeper (envOfC qual scope s.heap.objs.size f cd)
  N := N
  s₀ := s
  H₀ := H
  env := envOfC qual scope s.heap.objs.size f cd
  outer := outer
  stack := envOfC qual scope s.heap.objs.size f cd :: outer
  ex := []
  calm := true
  fn := fun _ => true
  pn := []
  xe := fun e s' => wpAny (model P w) (A.deeper (envOfC qual scope s.heap.objs.size f cd)) (leaving (envOfC qual scope s.heap.objs.size f cd) e) (fun _ s'' => CX outer H s E e s'') (fun e' s'' => CX outer H s E e' s'') s'

theorem cell_has {sc : Scope} {n : Nat} {x : Str} (h : sc.names.lookup x = some .cell) : ∃ c, (cellsFrom n sc.names []).lookup x = some c := by
  have q := PySem.W.cellsFrom_some sc.names n [] (.inl h)
  exact Option.isSome_iff_exists.mp q

theorem inv_start {CX : CXT} {P : Program} {w : World} {K : PySem.W.Frag} {mg : Str → Option Value} {base : Heap} {N ps : List Str} {qual : Str} {scope : Scope} {f : Addr} {cd : Value} {A : Around} {outer : List Env} {s s1 : Shared} {H : Hp} {E : XK} {us : List Value} {vs : List V}
    (S : FnScope N ps scope) (hd : A.handled = none) (e0 : Env0 P w K mg base A outer s H) (hl : vs.length = ps.length) (r : Vals vs us)
    (x : InCallC s s.heap.objs.size (bindL (envOfC qual scope s.heap.objs.size f cd).kindOf (ps.zip us) fun _ => none) (cellsFrom (s.heap.objs.size + 1) scope.names []) (bindC (envOfC qual scope s.heap.objs.size f cd).kindOf (ps.zip us) fun _ => none) s1) :
    Inv (cxOf CX P w K mg base N qual scope f cd A outer s H E) [] (start N vs) H s1 := by
  have hpl : ps.length ≤ N.length := by have := congrArg List.length S.pre; rw [List.length_take] at this; omega
  obtain ⟨h1, tk, rfl, hk⟩ := x.done
  have noA : ∀ b : Addr, b ∉ (cxOf CX P w K mg base N qual scope f cd A outer s H E).ex := fun b z => absurd (show b ∈ ([] : List Addr) from z) (by simp)
  refine ⟨⟨e0.mod, S.kind, rfl, rfl, Nat.le_refl _, fun y z c h1 h2 => ?_, fun y hy => ?_, fun y c _ h => ?_, fun _ => hd, Around.frames_deeper e0.frames, .inr ⟨rfl, rfl⟩, fun b z => absurd z (noA b), e0.bs, e0.bsz, fun b _ _ => noA b, fun b z => absurd z (noA b), e0.funs, e0.frf⟩,
    rfl, e0.bare, Un.kept hk, ⟨_, x.toInCall.ns, fun i y v h1 h2 h3 => ?_⟩, fun y c h => ⟨_, x.cell y c h⟩, e0.hok.fresh (Nat.le_refl _), fun y c h => ?_, fun p hp => absurd (show p ∈ ([] : List (Addr × Obj)) from hp) (by simp), e0.hok.kept hk, ?_⟩
  · exact name_of_addr x.apart (PySem.mem_of_lookup h1) (PySem.mem_of_lookup h2)
  · have hy : scope.names.lookup y = some .cell ∨ scope.names.lookup y = some .free := hy
    rcases hy with hy | hy
    · exact cell_has hy
    · exact absurd rfl (S.nofree _ (PySem.mem_of_lookup hy))
  · exact Nat.le_of_lt (x.above y c (PySem.mem_of_lookup h))
  · have hi : i < vs.length := by
      unfold start at h2
      by_cases hi : i < vs.length
      · exact hi
      · rw [List.getElem?_append_right (by simpa using hi)] at h2
        rw [List.getElem?_replicate] at h2
        split at h2 <;> cases h2
    have ha : vs[i]? = some v := by
      unfold start at h2
      rw [List.getElem?_append_left (by simpa using hi), List.getElem?_map] at h2
      cases e : vs[i]? with
      | none => rw [e] at h2; cases h2
      | some a => rw [e] at h2; cases h2; rfl
    obtain ⟨u, hu, rv⟩ := r.get ha
    have hp : ps[i]? = some y := by
      rw [← S.pre, List.getElem?_take_of_lt (by omega)]; exact h1
    have ndP : ps.Nodup := by rw [← S.pre]; exact S.nd.sublist (List.take_sublist _ _)
    refine ⟨u, rv, ?_⟩
    rcases S.par y (List.mem_of_getElem? hp) with k | k
    · exact .inl ⟨k, bindL_get ndP hp hu k⟩
    · obtain ⟨c, e⟩ := cell_has (n := s.heap.objs.size + 1) k
      refine .inr ⟨.inl k, c, e, ?_⟩
      have q := x.cell y c e
      rw [bindC_get ndP hp hu (by show scope.names.lookup y ≠ _; rw [k]; decide)] at q
      exact q
  · exact e0.hok.fresh (Nat.le_of_lt (x.above y c (PySem.mem_of_lookup h)))
  · unfold start
    show _ = N.length
    rw [List.length_append, List.length_map, List.length_replicate]
    omega

/-- THE RULE: a def (or a method) of the text, by its body. The body's reading t is chosen for each entry; it is run at the parameters' values -/
theorem fn_of {CX : CXT} {P : Program} {w : World} {K : PySem.W.Frag} {mg : Str → Option Value} {base : Heap} {k : Nat} {f : Addr} {name qual : Str} {params : Arguments} {body : List Stmt} {scope : Scope} {dV kV doc pm cdv ct oc : Value} {an od : Option Addr}
    {osl : Array (Option Value)} {N ps : List Str} {sp : Sp} (lk : K.lookup f = some ⟨oc, od, .func (PySem.W.fnOf name qual params body scope dV kV doc pm an cdv ct), osl⟩) (hcd : PySem.W.codeIn K cdv qual = true) (S : FnScope N ps scope)
    (len : ∀ vs H Q E, sp vs H Q E → vs.length = ps.length)
    (hbody : ∀ (A : Around) (outer : List Env) (s : Shared) (H : Hp) (vs : List V) (Q : VK) (E : XK), Room k (A.deeper (envOfC qual scope s.heap.objs.size f cdv)) → sp vs H Q E →
      ∃ t, PSs (cxOf CX P w K mg base N qual scope f cdv A outer s H E) body t ∧ t { nx := fun _ H' => Q .non H', rt := Q } (start N vs) H) :
    FnOk P w K mg base CX (k + 1) f (PySem.W.fnOf name qual params body scope dV kV doc pm an cdv ct) ps sp := by
  refine ⟨len, fun A outer s H args us vs Q E hr e0 hb r hsp => ?_⟩
  have hl := len _ _ _ _ hsp
  have KX : K.In s.heap := e0.mod.kin.keeps fun b o e => (e0.bs b o e).1
  have lim : s.heap.NoLimit := e0.mod.nolimit.keeps fun b o e => (e0.bs b o e).1
  have hkind : ∀ y ∈ ps.zip us, scope.names.lookup y.1 = some .local ∨ (scope.names.lookup y.1 = some .cell ∧ ((cellsFrom (s.heap.objs.size + 1) scope.names []).lookup y.1).isSome = true) := fun ⟨n, v⟩ hy => by
    rcases S.par n (List.of_mem_zip hy).1 with q | q
    · exact .inl q
    · exact .inr ⟨q, PySem.W.cellsFrom_some _ _ _ (.inl q)⟩
  refine codeAny_call_function hr.depth (KX _ _ lk) rfl S.co S.gen rfl (PySem.W.codeRec_of KX hcd) (hb _ _ _ _ ?_)
  refine wpAny_newFunctionEnv_cells S.kind hkind fun env he s1 x => ?_
  subst he
  refine ⟨lim.keeps x.toInCall.keep, codeAny_func ?_⟩
  obtain ⟨t, ht, hq⟩ := hbody A outer s H vs Q E (hr.deeper _) hsp
  have I : Inv (cxOf CX P w K mg base N qual scope f cdv A outer s H E) [] (start N vs) H s1 := inv_start S hr.hd e0 hl r x
  refine wpAny_mono (ht [] s1 (start N vs) H _ I hq) (fun fl s' hs => ?_) fun e s' hs => hs
  have fin : ∀ {σ' : St} {H' : Hp} {v : V} {u : Value}, Inv (cxOf CX P w K mg base N qual scope f cdv A outer s H E) [] σ' H' s' → RelV v u → Q v H' → CE outer P w H s Q u s' :=
    fun {σ' H' v u} J rv q => ⟨v, H', J.os, J.bare, J.base, J.hok, rv, q⟩
  cases fl with
  | ret u =>
    obtain ⟨v, σ', H', J, rv, q⟩ := hs
    exact fin J rv q
  | next =>
    obtain ⟨σ', H', J, q⟩ := hs
    exact fin (v := V.non) (u := Value.none) J rfl q
  | brk =>
    obtain ⟨_, _, _, q⟩ := hs
    exact False.elim q
  | cont =>
    obtain ⟨_, _, _, q⟩ := hs
    exact False.elim q
end L2

namespace L2
open PySem PySem.Spec PyProof.Rows
section
variable {X : Cx} {x : Str} {p pos : Pos} {e : Expr} {es : List Expr} {t : TA} {id T : String} {r : List V → Hp → VK → Prop}

def tCB (r : List V → Hp → VK → Prop) (t : TA) : TE := fun σ H Q => t σ H fun vs H1 => r vs H1 Q
/-- f(e, ..), f a built-in function -/
theorem pe_callB (hc : CallR X (.builtin id) r) (hg : Gl X x) (hm : X.mg x = none) (hv : bootBuiltins x = some (.builtin id)) (ha : PA X (e :: es) t) (hn : x ≠ "__name__" := by decide) (hdb : (x == ("__debug__" : Str)) = false := by decide)
    (he : starEach (e :: es) X.env = (false, eval e X.env) :: starEach es X.env := by rfl) (hpl : (backTo pos (starEach es X.env)).any (·.1) = false := by rfl) : PE X (.Call (.Name x p) (e :: es) [] pos) (tCB r t) := by
  intro pins s σ H Q I h
  refine wpAny_Call_Name_kw (ld_blt I hg hm hv ?_ hn hdb)
  exact PyProof.Rows.callWith_builtin1 (thn (ha pos pins s σ H _ I h) fun us s1 ⟨vs, H1, I1, r1, q1⟩ => hc pins s1 σ H1 vs us Q I1 r1 q1) he hpl
/-- T(e, ..), T a built-in type -/
theorem pe_callTy (hc : CallR X (.type T) r) (hg : Gl X x) (hm : X.mg x = none) (hv : bootBuiltins x = some (.type T)) (ha : PA X (e :: es) t) (hn : x ≠ "__name__" := by decide) (hdb : (x == ("__debug__" : Str)) = false := by decide)
    (he : starEach (e :: es) X.env = (false, eval e X.env) :: starEach es X.env := by rfl) (hpl : (backTo pos (starEach es X.env)).any (·.1) = false := by rfl) : PE X (.Call (.Name x p) (e :: es) [] pos) (tCB r t) := by
  intro pins s σ H Q I h
  refine wpAny_Call_Name_kw (ld_blt I hg hm hv ?_ hn hdb)
  exact PyProof.Rows.callWith_type1 (thn (ha pos pins s σ H _ I h) fun us s1 ⟨vs, H1, I1, r1, q1⟩ => hc pins s1 σ H1 vs us Q I1 r1 q1) he hpl
end
end L2

namespace HT
open PySem PyProof.Rows

section
open PySem.SeqAt
open PySem.AutoSeq1 (wpAny_loadPart')
open PySem.MeetsSeq PySem.MeetsSeq2 PySem.MeetsSeq3

end

section
variable {prog : Program} {w : World} {A : Around} {E : Value → Shared → Prop} {s : Shared}

end
end HT

namespace L2
open PySem PySem.Spec PyProof.Rows

/-! ### the parts of a slice -/
abbrev TO := St → Hp → (Option Int → Hp → Prop) → Prop
/-- a slice's part (left out, or an int) -/
def PO (X : Cx) (e : Option Expr) (t : TO) : Prop :=
  ∀ (pins : List (Addr × Obj)) (s : Shared) (σ : St) (H : Hp) (Q : Option Int → Hp → Prop), Inv X pins σ H s → t σ H Q →
    wpAny (model X.prog X.w) X.A (evalPart e X.env) (fun u s' => ∃ o H', Inv X pins σ H' s' ∧ IsPart u o ∧ Q o H') X.xe s
section
variable {X : Cx} {e : Expr} {te : TE} {lo hi : Option Expr} {tl th : TO} {pos p2 : Pos}

/-- what a slice of a value is, by values: the slice object stands at sl -/
def SlR (X : Cx) (r : V → Option Int → Option Int → Hp → VK → Prop) : Prop :=
  ∀ (pins : List (Addr × Obj)) (s : Shared) (σ : St) (H : Hp) (x : V) (v vl vu : Value) (lo hi : Option Int) (sl : Addr) (Q : VK), Inv X pins σ H s → RelV x v → s.heap.IsSliceOf sl vl vu .none → IsPart vl lo → IsPart vu hi → r x lo hi H Q →
    ∃ T id, typeLookup (.type T) "__getitem__" = pure (some (.builtin id)) ∧ s.TypeIs v T ∧ wpAny (model X.prog X.w) X.A (getItem v (.ref sl)) (EP X pins σ Q) X.xe s
theorem SlR.or {r r' : V → Option Int → Option Int → Hp → VK → Prop} (h : SlR X r) (h' : SlR X r') : SlR X (fun x lo hi H Q => r x lo hi H Q ∨ r' x lo hi H Q) := by
  intro pins s σ H x v vl vu lo hi sl Q I rx hs pl pu q
  rcases q with q | q
  · exact h pins s σ H x v vl vu lo hi sl Q I rx hs pl pu q
  · exact h' pins s σ H x v vl vu lo hi sl Q I rx hs pl pu q
end
end L2

namespace L2
open PySem PySem.Spec PyProof.Rows

/-! ### places -/
/-- the place that an index of any sign means -/
def ixN (n : Nat) (i : Int) : Option Nat := if 0 ≤ i then (if i < n then some i.toNat else none) else if -(n : Int) ≤ i then some (i + n).toNat else none
def atI {α : Type} (xs : List α) (i : Int) : Option α := (ixN xs.length i).bind fun j => xs[j]?
theorem ixN_seq {n : Nat} {i : Int} {j : Nat} (h : ixN n i = some j) : seqIndex? i n = some j ∧ j < n ∧ -(n : Int) ≤ i ∧ i < n := by
  unfold ixN at h
  by_cases h0 : 0 ≤ i
  · rw [if_pos h0] at h
    by_cases h1 : i < n
    · rw [if_pos h1] at h
      have e : i.toNat = j := Option.some.inj h
      exact ⟨by rw [seqIndex_of h0 h1, e], by omega, by omega, h1⟩
    · rw [if_neg h1] at h; cases h
  · rw [if_neg h0] at h
    by_cases h1 : -(n : Int) ≤ i
    · rw [if_pos h1] at h
      have e : (i + n).toNat = j := Option.some.inj h
      exact ⟨by rw [seqIndex_neg (by omega) h1, e], by omega, h1, by omega⟩
    · rw [if_neg h1] at h; cases h
theorem atI_get {α : Type} {xs : List α} {i : Int} {v : α} (h : atI xs i = some v) : ∃ j, seqIndex? i xs.length = some j ∧ xs[j]? = some v ∧ j < xs.length ∧ -(xs.length : Int) ≤ i ∧ i < xs.length := by
  unfold atI at h
  cases e : ixN xs.length i with
  | none => rw [e] at h; cases h
  | some j =>
    rw [e] at h
    obtain ⟨h1, h2, h3, h4⟩ := ixN_seq e
    exact ⟨j, h1, h, h2, h3, h4⟩
theorem atI_nat {α : Type} {xs : List α} {j : Nat} {v : α} (h : xs[j]? = some v) : atI xs (j : Int) = some v := by
  have hj : j < xs.length := (List.getElem?_eq_some_iff.mp h).1
  have e : ixN xs.length (j : Int) = some j := by
    unfold ixN
    rw [if_pos (by omega), if_pos (by omega)]; simp
  unfold atI; rw [e]; exact h
/-! ### what may be subscripted -/
/-- what stands as an index of a plain subscript -/
def PlainIx (b : Expr) : Prop := ∀ o i, subscripted b false o i = operate [o, i] (getItem o i)
/-- a subscript by values -/
def IxR (X : Cx) (r : R2) : Prop :=
  ∀ (value slice : Expr) (pins : List (Addr × Obj)) (s : Shared) (σ : St) (H : Hp) (x y : V) (v u : Value) (Q : VK), Inv X pins σ H s → RelV x v → RelV y u → r x y H Q →
    subscripted slice false v u = operate [v, u] (getItem v u) → wpAny (model X.prog X.w) X.A (subscriptTail value slice v u) (EP X pins σ Q) X.xe s
/-- a call of a builtin's method by values: the receiver, the arguments -/
def MtR (X : Cx) (id : String) (r : V → List V → Hp → VK → Prop) : Prop :=
  ∀ (pins : List (Addr × Obj)) (s : Shared) (σ : St) (H : Hp) (x : V) (xs : List V) (v : Value) (us : List Value) (Q : VK), Inv X pins σ H s → RelV x v → Vals xs us → r x xs H Q →
    wpAny (model X.prog X.w) X.A (call (.builtin id) (v :: us)) (EP X pins σ Q) X.xe s
section
variable {X : Cx} {a b : Expr} {ta tb : TE} {pos : Pos}
theorem IxR.or {r r' : R2} (h : IxR X r) (h' : IxR X r') : IxR X (fun x y H Q => r x y H Q ∨ r' x y H Q) := by
  intro value slice pins s σ H x y v u Q I rx ry q hs
  rcases q with q | q
  · exact h value slice pins s σ H x y v u Q I rx ry q hs
  · exact h' value slice pins s σ H x y v u Q I rx ry q hs
theorem MtR.or {id : String} {r r' : V → List V → Hp → VK → Prop} (h : MtR X id r) (h' : MtR X id r') : MtR X id (fun x xs H Q => r x xs H Q ∨ r' x xs H Q) := by
  intro pins s σ H x xs v us Q I rx rs q
  rcases q with q | q
  · exact h pins s σ H x xs v us Q I rx rs q
  · exact h' pins s σ H x xs v us Q I rx rs q
/-- a[b] -/
theorem pe_ix {r : R2} (hr : IxR X r) (ha : PE X a ta) (hb : PE X b tb) (hs : PlainIx b) : PE X (.Subscript a b pos) (tOp r ta tb) := by
  intro pins s σ H Q I h
  exact Subscript_ (binT ha hb I h fun v u s2 x y H2 I2 rx ry q => hr a b pins s2 σ H2 x y v u Q I2 rx ry q (hs _ _))

def rIxL (K : PySem.W.Frag) : R2 := fun x y H Q => ∃ p xs i v, x = .ref p ∧ y = .int i ∧ SqL K H p xs ∧ atI xs i = some v ∧ Q v H
def rIxT (K : PySem.W.Frag) : R2 := fun x y H Q => ∃ p xs i v, x = .ref p ∧ y = .int i ∧ SqT K H p xs ∧ atI xs i = some v ∧ Q v H
theorem ix_list : IxR X (rIxL X.K) := by
  intro value slice pins s σ H x y v u Q I rx ry h hs
  obtain ⟨p, xs, i, z, rfl, rfl, hq, he, q⟩ := h
  cases rx
  obtain ⟨t, rfl⟩ := ry
  obtain ⟨its, r, pl, hz⟩ := I.list hq
  obtain ⟨j, h1, h2, h3, h4, h5⟩ := atI_get he
  obtain ⟨w, ew, rw'⟩ := r.get h2
  have hl := r.length
  have hn := line63
  have fin : EP X pins σ Q w s := ⟨z, H, I, rw', q⟩
  by_cases h0 : 0 ≤ i
  · have hj : i.toNat = j := by
      rw [seqIndex_of h0 h5] at h1
      exact Option.some.inj h1
    exact item_listR pl.isList h0 (by omega) (by rw [hj]; simpa using ew) fin hs
  · have hj : (i + (its.toArray.size : Int)).toNat = j := by
      rw [seqIndex_neg (by omega) h4] at h1
      rw [List.size_toArray, ← hl]
      exact Option.some.inj h1
    exact subscriptTail_builtinR (x := w) pl.isList.typeIs slot_list_getitem.lookup
      (wpAny_getItem_list_neg (Q := fun r s' => r = w ∧ EP X pins σ Q r s') pl.isList (by omega) (by rw [List.size_toArray] <;> omega) (by omega) (by rw [hj]; simpa using ew) ⟨rfl, fin⟩) hs
theorem ix_tup : IxR X (rIxT X.K) := by
  intro value slice pins s σ H x y v u Q I rx ry h hs
  obtain ⟨p, xs, i, z, rfl, rfl, hq, he, q⟩ := h
  cases rx
  obtain ⟨t, rfl⟩ := ry
  obtain ⟨its, r, pl, hz⟩ := I.tuple hq
  obtain ⟨j, h1, h2, h3, h4, h5⟩ := atI_get he
  obtain ⟨w, ew, rw'⟩ := r.get h2
  have hl := r.length
  have hn := line63
  have fin : EP X pins σ Q w s := ⟨z, H, I, rw', q⟩
  exact subscriptTail_builtinR (x := w) pl.typeIs slot_tuple_getitem.lookup
    (getItem_tuple (j := j) (Q := fun r s' => r = w ∧ EP X pins σ Q r s') pl (by omega) (by omega) (by rw [List.size_toArray, ← hl]; exact h1) (by simpa using ew) ⟨rfl, fin⟩) hs
theorem Inv.lst {pins : List (Addr × Obj)} {σ : St} {H : Hp} {s : Shared} {p : Addr} {xs : List V} (I : Inv X pins σ H s) (h : H p = some (.lst xs)) :
    ∃ (its : List Value) (n : Nat), Vals xs its ∧ s.heap.get? p = some { cls := .type "list", data := .seq its.toArray n } ∧ xs.length ≤ sizeLine := by
  obtain ⟨z, its, n, r, e⟩ := I.hok p _ h
  exact ⟨its, n, r, e, z⟩
/-! ### in, not in: flat items -/
def flatV : V → Bool
  | .non => true
  | .bl _ => true
  | .int _ => true
  | .str _ => true
  | _ => false
/-- == of flat values -/
def eqV : V → V → Bool
  | .non, .non => true
  | .bl a, .bl b => a == b
  | .bl a, .int b => (if a then 1 else 0) == b
  | .int a, .bl b => a == (if b then 1 else 0)
  | .int a, .int b => a == b
  | .str a, .str b => a == b
  | _, _ => false
theorem eqAt_V {A : Around} {s : Shared} {y x : V} {u v : Value} (ry : RelV y u) (rx : RelV x v) (fy : flatV y = true) (fx : flatV x = true) : SeqAt.EqAt A s u v (eqV y x) := by
  cases y with
  | non =>
    cases ry
    cases x with
    | non => cases rx; exact SeqAt.EqAt.same _
    | bl b => cases rx; exact SeqAt.EqAt.none_bool b
    | int b => obtain ⟨t, rfl⟩ := rx; exact SeqAt.EqAt.none_int b t
    | str b => obtain ⟨t, rfl⟩ := rx; exact SeqAt.EqAt.none_str b t
    | _ => exact absurd (show false = true from fx) Bool.false_ne_true
  | bl a =>
    cases ry
    cases x with
    | non => cases rx; exact SeqAt.EqAt.bool_none a
    | bl b => cases rx; exact SeqAt.EqAt.bool_bool a b
    | int b => obtain ⟨t, rfl⟩ := rx; exact SeqAt.EqAt.bool_int a b t
    | str b => obtain ⟨t, rfl⟩ := rx; exact SeqAt.EqAt.bool_str a b t
    | _ => exact absurd (show false = true from fx) Bool.false_ne_true
  | int a =>
    obtain ⟨t', rfl⟩ := ry
    cases x with
    | non => cases rx; exact SeqAt.EqAt.int_none a t'
    | bl b => cases rx; exact SeqAt.EqAt.int_bool a t' b
    | int b => obtain ⟨t, rfl⟩ := rx; exact SeqAt.EqAt.int_int a t' b t
    | str b => obtain ⟨t, rfl⟩ := rx; exact SeqAt.EqAt.int_str a t' b t
    | _ => exact absurd (show false = true from fx) Bool.false_ne_true
  | str a =>
    obtain ⟨t', rfl⟩ := ry
    cases x with
    | non => cases rx; exact SeqAt.EqAt.str_none a t'
    | bl b => cases rx; exact SeqAt.EqAt.str_bool a t' b
    | int b => obtain ⟨t, rfl⟩ := rx; exact SeqAt.EqAt.str_int a t' b t
    | str b => obtain ⟨t, rfl⟩ := rx; exact SeqAt.EqAt.str_str a t' b t
    | _ => exact absurd (show false = true from fx) Bool.false_ne_true
  | _ => exact absurd (show false = true from fy) Bool.false_ne_true
/-- the items' answers, read off the values (a value's own answer does not lean on its token) -/
def eqU (x : V) (u : Value) : Bool := match u with
  | .none => eqV .non x
  | .bool b => eqV (.bl b) x
  | .int i _ => eqV (.int i) x
  | .str z _ => eqV (.str z) x
  | _ => false
theorem eqU_of {x y : V} {u : Value} (r : RelV y u) (f : flatV y = true) : eqU x u = eqV y x := by
  cases y with
  | non => cases r; rfl
  | bl b => cases r; rfl
  | int i => obtain ⟨t, rfl⟩ := r; rfl
  | str z => obtain ⟨t, rfl⟩ := r; rfl
  | _ => exact absurd (show false = true from f) Bool.false_ne_true
theorem any_eqU {x : V} : ∀ {xs : List V} {us : List Value}, Vals xs us → xs.all flatV = true → us.any (eqU x) = xs.any fun y => eqV y x
  | _, _, .nil, _ => rfl
  | y :: xs, u :: us, .cons r t, f => by
    rw [List.all_cons, Bool.and_eq_true] at f
    rw [List.any_cons, List.any_cons, eqU_of r f.1, any_eqU t f.2]
theorem mem_eqAt {A : Around} {s : Shared} {x : V} {v : Value} (rx : RelV x v) (fx : flatV x = true) : ∀ {xs : List V} {us : List Value}, Vals xs us → xs.all flatV = true → ∀ u ∈ us, SeqAt.EqAt A s u v (eqU x u)
  | _, _, .nil, _ => fun u hu => by cases hu
  | y :: xs, u :: us, .cons r t, f => fun u' hu => by
    rw [List.all_cons, Bool.and_eq_true] at f
    rcases List.mem_cons.mp hu with rfl | hu
    · rw [eqU_of r f.1]; exact eqAt_V r rx f.1 fx
    · exact mem_eqAt rx fx t f.2 u' hu
def inV (x : V) (xs : List V) : Bool := xs.any fun y => eqV y x
/-- x in a list or tuple of flat items -/
def rIn (K : PySem.W.Frag) (neg : Bool) : R2 := fun x y H Q => ∃ p xs, y = .ref p ∧ (SqL K H p xs ∨ SqT K H p xs) ∧ flatV x = true ∧ xs.all flatV = true ∧ Q (.bl (if neg then !inV x xs else inV x xs)) H
theorem op_in_seq : OpR X (compareOp .In) (rIn X.K false) := by
  intro pins s σ H x y v u Q I rx ry h
  obtain ⟨p, xs, rfl, hq, fx, fs, q⟩ := h
  cases ry
  rcases hq with hq | hq
  · obtain ⟨its, r, pl, hz⟩ := I.list hq
    refine SeqAt.in_listAt (eqU x) pl.isList (fun w hw => mem_eqAt rx fx r fs w (by simpa using hw)) ⟨.bl _, H, I, rfl, ?_⟩
    rw [show its.toArray.any (eqU x) = its.any (eqU x) by simp, any_eqU r fs]
    exact q
  · obtain ⟨its, r, pl, hz⟩ := I.tuple hq
    refine SeqAt.in_tupleAt (eqU x) pl (fun w hw => mem_eqAt rx fx r fs w (by simpa using hw)) ⟨.bl _, H, I, rfl, ?_⟩
    rw [show its.toArray.any (eqU x) = its.any (eqU x) by simp, any_eqU r fs]
    exact q
theorem op_notIn_seq : OpR X (compareOp .NotIn) (rIn X.K true) := by
  intro pins s σ H x y v u Q I rx ry h
  obtain ⟨p, xs, rfl, hq, fx, fs, q⟩ := h
  cases ry
  rcases hq with hq | hq
  · obtain ⟨its, r, pl, hz⟩ := I.list hq
    refine SeqAt.notIn_listAt (eqU x) pl.isList (fun w hw => mem_eqAt rx fx r fs w (by simpa using hw)) ⟨.bl _, H, I, rfl, ?_⟩
    rw [show its.toArray.any (eqU x) = its.any (eqU x) by simp, any_eqU r fs]
    exact q
  · obtain ⟨its, r, pl, hz⟩ := I.tuple hq
    refine SeqAt.notIn_tupleAt (eqU x) pl (fun w hw => mem_eqAt rx fx r fs w (by simpa using hw)) ⟨.bl _, H, I, rfl, ?_⟩
    rw [show its.toArray.any (eqU x) = its.any (eqU x) by simp, any_eqU r fs]
    exact q
/-! ### len, list(x), tuple(x) of any list or tuple that is read -/
theorem call_len_seq : CallR X (.builtin "len") (fun xs H Q => ∃ p ys, xs = [.ref p] ∧ (SqL X.K H p ys ∨ SqT X.K H p ys) ∧ Q (.int ys.length) H) := by
  intro pins s σ H xs us Q I r h
  obtain ⟨p, ys, rfl, hq, q⟩ := h
  obtain ⟨u, rfl, rx⟩ := vals1 r
  cases rx
  have hn := line63
  rcases hq with hq | hq
  · obtain ⟨its, r', pl, hz⟩ := I.list hq
    have hlen := r'.length
    exact Calls.call_len_list pl.isList (by simp only [List.size_toArray] <;> omega) ⟨.int ys.length, H, I.tok _, ⟨s.toks + 1, by rw [List.size_toArray, hlen]⟩, q⟩
  · obtain ⟨its, r', pl, hz⟩ := I.tuple hq
    have hlen := r'.length
    exact len_tuple pl (by simp only [List.size_toArray] <;> omega) ⟨.int ys.length, H, I.tok _, ⟨s.toks + 1, by rw [List.size_toArray, hlen]⟩, q⟩
theorem call_len_str : CallR X (.builtin "len") (fun xs H Q => ∃ z, xs = [.str z] ∧ z.length ≤ sizeLine ∧ Q (.int z.length) H) := by
  intro pins s σ H xs us Q I r h
  obtain ⟨z, rfl, hz, q⟩ := h
  obtain ⟨u, rfl, t, rfl⟩ := vals1 r
  have hn := line63
  exact len_str (by omega) ⟨.int z.length, H, I.tok _, ⟨_, rfl⟩, q⟩
theorem CallR.or {f : Value} {r r' : List V → Hp → VK → Prop} (h : CallR X f r) (h' : CallR X f r') : CallR X f (fun xs H Q => r xs H Q ∨ r' xs H Q) := by
  intro pins s σ H xs us Q I rs q
  rcases q with q | q
  · exact h pins s σ H xs us Q I rs q
  · exact h' pins s σ H xs us Q I rs q
theorem call_list_of : CallR X (.type "list") (fun xs H Q => ∃ p ys, xs = [.ref p] ∧ (SqL X.K H p ys ∨ SqT X.K H p ys) ∧ ∀ l, H l = none → Q (.ref l) (upd H l (.lst ys))) := by
  intro pins s σ H xs us Q I r h
  obtain ⟨p, ys, rfl, hq, q⟩ := h
  obtain ⟨u, rfl, rx⟩ := vals1 r
  cases rx
  have fin : ∀ (its : List Value), Vals ys its → ys.length ≤ sizeLine → ∀ (h' : Heap) (c' : Nat), (∀ b o', s.heap.get? b = some o' → h'.get? b = some o') →
      h'.get? s.heap.objs.size = some { cls := .type "list", dict := none, data := .seq its.toArray c', slots := #[] } → EP X pins σ Q (.ref s.heap.objs.size) { s with heap := h' } := fun its r' hz h' c' kp e =>
    ⟨.ref s.heap.objs.size, _, I.laid (t' := s.toks) kp (Nat.le_refl _) (show ObjOk X.prog X.w _ h' _ (.lst ys) from ⟨hz, its, c', r', e⟩), rfl, q _ (I.hok.fresh (Nat.le_refl _))⟩
  rcases hq with hq | hq
  · obtain ⟨its, r', pl, hz⟩ := I.list hq
    have hlen := r'.length
    obtain ⟨o, ho, hc, n, hd⟩ := pl.isList
    exact call_list_seq p (.inl rfl) ho hc hd (fun h' c' kp e => fin its r' hz h' c' kp e) (by simp only [List.size_toArray] <;> omega)
  · obtain ⟨its, r', pl, hz⟩ := I.tuple hq
    have hlen := r'.length
    obtain ⟨o, ho, hc, n, hd⟩ := pl
    exact call_list_seq p (.inr rfl) ho hc hd (fun h' c' kp e => fin its r' hz h' c' kp e) (by simp only [List.size_toArray] <;> omega)
/-! ### the call of a builtin's method: o.m(..) -/
/-- the value is of that builtin type -/
def tyV (K : PySem.W.Frag) (T : String) (x : V) (H : Hp) : Prop := match x with
  | .str _ => T = "str"
  | .int _ => T = "int"
  | .ref p => (T = "list" ∧ ∃ xs, SqL K H p xs) ∨ (T = "tuple" ∧ ∃ o, K.lookup p = some o ∧ o.cls = .type "tuple" ∧ o.dict = none) ∨
      (T = "dict" ∧ ((∃ kvs, H p = some (.dK kvs)) ∨ ∃ kvs, H p = some (.dT kvs))) ∨ (T = "set" ∧ ∃ S n, H p = some (.set S n))
  | _ => False
theorem tyV_is {pins : List (Addr × Obj)} {σ : St} {H : Hp} {s : Shared} {T : String} {x : V} {v : Value} (I : Inv X pins σ H s) (r : RelV x v) (ty : tyV X.K T x H) :
    s.TypeIs v T ∧ ∀ a, v = .ref a → ∃ ob, s.heap.get? a = some ob ∧ ob.dict = none := by
  cases x with
  | str z =>
    obtain ⟨t, rfl⟩ := r
    cases (show T = "str" from ty)
    exact ⟨typeIs_str s z t, fun _ e => nomatch e⟩
  | int i =>
    obtain ⟨t, rfl⟩ := r
    cases (show T = "int" from ty)
    exact ⟨typeIs_int s i t, fun _ e => nomatch e⟩
  | ref p =>
    cases r
    rcases ty with ⟨rfl, xs, hq⟩ | ⟨rfl, o, hk, hc, hd⟩ | ⟨rfl, hk⟩ | ⟨rfl, S, n, hk⟩
    · obtain ⟨its, _, pl, _⟩ := I.list hq
      refine ⟨pl.isList.typeIs, fun a e => ?_⟩
      cases e
      obtain ⟨o, n, e, c, hd, _⟩ := pl
      exact ⟨o, e, hd⟩
    · refine ⟨⟨o, I.kIn p o hk, hc⟩, fun a e => ?_⟩
      cases e
      exact ⟨o, I.kIn _ o hk, hd⟩
    · have z : ∃ o, s.heap.get? p = some o ∧ o.ExactDict := by
        rcases hk with ⟨kvs, hk⟩ | ⟨kvs, hk⟩
        · obtain ⟨_, _, _, _, o, _, _, e, ex, _⟩ := I.hok p _ hk
          exact ⟨o, e, ex⟩
        · obtain ⟨_, _, _, _, o, _, _, e, ex, _⟩ := I.hok p _ hk
          exact ⟨o, e, ex⟩
      obtain ⟨o, e, ex⟩ := z
      refine ⟨⟨o, e, ex.1⟩, fun a e2 => ?_⟩
      cases e2
      exact ⟨o, e, ex.2.1⟩
    · obtain ⟨o, _, _, _, e, ex, _⟩ := I.hok p _ hk
      refine ⟨⟨o, e, ex.1⟩, fun a e2 => ?_⟩
      cases e2
      exact ⟨o, e, ex.2.1⟩
  | _ => exact False.elim ty
def tBM0 (K : PySem.W.Frag) (T : String) (r : V → List V → Hp → VK → Prop) (to : TE) : TE := fun σ H Q => to σ H fun x H1 => tyV K T x H1 ∧ r x [] H1 Q
variable {o e : Expr} {es : List Expr} {to : TE} {t : TA} {name : Str} {apos cpos : Pos} {T id : String} {r : V → List V → Hp → VK → Prop}
theorem pe_bm0 (pa : PlainAttrs T) (slot : Slot T name id) (hty : typeOf (.builtin id) = pure (.type "method_descriptor")) (hm : MtR X id r) (ho : PE X o to)
    (hbase : attributeBase o name X.env (eval o X.env) = eval o X.env := by rfl) (hline : (apos.endLine == cpos.line) = true := by rfl) : PE X (.Call (.Attribute o name apos) [] [] cpos) (tBM0 X.K T r to) := by
  intro pins s σ H Q I h
  refine wpAny_Call_method0_late hbase hline (thn (ho pins s σ H _ I h) fun v s1 ⟨x, H1, I1, r1, ty, q1⟩ => ?_)
  obtain ⟨h1, h2⟩ := tyV_is I1 r1 ty
  exact ⟨T, id, pa, slot, hty, h1, h2, Calls.callWith_builtin rfl (PySem.evalArgs_none (hm pins s1 σ H1 x [] v [] Q I1 r1 .nil q1))⟩
/- xs.append(e), list.index on a module's tuple .. are MtR facts of 06m -/
end
end L2

namespace L2
open PySem PySem.Spec PyProof.Rows

def MtM (X : Cx) (id : String) (r : V → List V → Hp → VK → Prop) : Prop :=
  ∀ (pins : List (Addr × Obj)) (s : Shared) (σ : St) (H : Hp) (x : V) (xs : List V) (v : Value) (us : List Value) (Q : VK), Inv X pins σ H s → RelV x v → Vals xs us → r x xs H Q →
    wpAny (model X.prog X.w) X.A (call (.builtin id) (v :: us)) (EP X pins σ Q) X.xe s

/-! ### lists of values -/
theorem Vals.one : ∀ {x : V} {us : List Value}, Vals [x] us → ∃ u, us = [u] ∧ RelV x u
  | _, _, .cons r .nil => ⟨_, rfl, r⟩
theorem Vals.two : ∀ {x y : V} {us : List Value}, Vals [x, y] us → ∃ u v, us = [u, v] ∧ RelV x u ∧ RelV y v
  | _, _, _, .cons r (.cons q .nil) => ⟨_, _, rfl, r, q⟩
section
variable {X : Cx} {pins : List (Addr × Obj)} {σ : St} {H : Hp} {s : Shared} {l b : Addr} {xs ys zs : List V}

/-! ### the two steps: a tracked list is rewritten, a new list is laid -/
theorem Inv.lset {its its' : List Value} {n : Nat} {f : Array Value → Array Value} {t' : Nat} (I : Inv X pins σ H s) (hH : H l = some (.lst xs))
    (e : s.heap.get? l = some { cls := .type "list", data := .seq its.toArray n }) (hf : f its.toArray = its'.toArray) (hv : Vals ys its') (hz : ys.length ≤ sizeLine) :
    Inv X pins σ (upd H l (.lst ys)) { s with heap := s.heap.update l (Obj.mapSeq f), toks := t' } := by
  have q := PySem.IsL.update e f
  rw [hf] at q
  refine I.write (x := l) (e := l) (by rw [hH]; exact trivial) (.inl rfl) (fun b' u hb hu => (Heap.get?_update_other s.heap (Obj.mapSeq f) (Ne.symm hb)).trans hu) ⟨_, q⟩ ?_
  exact ⟨hz, its', _, hv, q⟩
theorem Inv.lnew {its : List Value} {t' : Nat} (I : Inv X pins σ H s) (hv : Vals ys its) (hz : ys.length ≤ sizeLine) :
    Inv X pins σ (upd H s.heap.objs.size (.lst ys)) { s with heap := s.heap.push { cls := .type "list", data := .seq its.toArray }, toks := t' } :=
  I.laid (fun _ _ q => Heap.get?_push_of_some _ q) (Nat.le_refl _) ⟨hz, its, 0, hv, Heap.get?_push_size _ rfl⟩
theorem Inv.fresh (I : Inv X pins σ H s) : H s.heap.objs.size = none := I.hok.fresh (Nat.le_refl _)
theorem Inv.lstM (I : Inv X pins σ H s) (hH : H l = some (.lst xs)) : xs.length ≤ sizeLine ∧ ∃ (its : List Value) (n : Nat), Vals xs its ∧ xs.length = its.length ∧ s.heap.get? l = some { cls := .type "list", data := .seq its.toArray n } := by
  obtain ⟨z, its, n, r, e⟩ := I.hok l _ hH
  exact ⟨z, its, n, r, r.length, e⟩

end

section
variable {X : Cx}

/-! ### methods -/
def rAppend : V → List V → Hp → VK → Prop := fun x vs H Q => ∃ l xs y, x = .ref l ∧ vs = [y] ∧ H l = some (.lst xs) ∧ xs.length < sizeLine ∧ Q .non (upd H l (.lst (xs ++ [y])))
theorem mt_append : MtM X "list.append" rAppend := by
  intro pins s σ H x vs v us Q I rx rv h
  obtain ⟨l, xs, y, rfl, rfl, hH, hz, q⟩ := h
  cases rx
  obtain ⟨u, rfl, ru⟩ := rv.one
  obtain ⟨z, its, n, r, hl, e⟩ := I.lstM hH
  refine call_meets F.slot_list_append ⟨_, e, rfl⟩ F.entry_list_append (F.args_list_append_2 _ _) (PySem.list_append l its.toArray n u (by rw [List.size_toArray]; omega)) ⟨e, ?_⟩
  refine ⟨.non, _, I.lset (its' := its ++ [u]) hH e (by simp) (r.append (.cons ru .nil)) ?_, rfl, q⟩
  rw [List.length_append, List.length_singleton]
  omega

/-! ### list + list, list += list, list * int -/
def rCat : R2 := fun x y H Q => ∃ l b xs zs, x = .ref l ∧ y = .ref b ∧ H l = some (.lst xs) ∧ H b = some (.lst zs) ∧ xs.length + zs.length ≤ sizeLine ∧ ∀ p, H p = none → Q (.ref p) (upd H p (.lst (xs ++ zs)))
theorem op_cat : OpR X (binaryOp .Add) rCat := by
  intro pins s σ H x y v u Q I rx ry h
  obtain ⟨l, b, xs, zs, rfl, rfl, hH, hB, hz, q⟩ := h
  cases rx
  cases ry
  obtain ⟨z, its, n, r, hl, e⟩ := I.lstM hH
  obtain ⟨z2, its2, n2, r2, hl2, e2⟩ := I.lstM hB
  refine PySem.P.add_list e e2 ?_ (by rw [List.size_toArray, List.size_toArray]; omega)
  have ea : its.toArray ++ its2.toArray = (its ++ its2).toArray := by simp
  rw [ea]
  exact ⟨.ref _, _, I.lnew (t' := s.toks) (r.append r2) (by rw [List.length_append]; omega), rfl, q _ I.fresh⟩
end

/-! ### xs[a:b] = ys -/
section
variable {prog : Program} {w : World} {A : Around} {E : Value → Shared → Prop} {s : Shared}
end

section
variable {X : Cx}
end
end L2

namespace Att
open PySem PySem.W PySem.Calls PyProof.Rows

/-! ### the script -/
theorem ints_of_wellAll {P : Params} {h : Heap} : ∀ (ns : List Int) (vs : List Value), WellAll P h vs (ns.map WData.int) → IntsAre vs ns := by
  intro ns
  induction ns with
  | nil =>
    intro vs w
    rw [List.map_nil] at w
    cases w
    exact .nil
  | cons n ns ih =>
    intro vs w
    rw [List.map_cons] at w
    cases w with
    | cons a b =>
      cases a
      exact .cons _ _ (ih _ b)

theorem script_of {l : OpenLaw} {n : Nat} (hn : l.most = some n) {P : Params} {h : Heap} {args : List WData} {vals : List Value}
    (hpre : l.row.toRowW.claim.pre args = true) (hwl : WellAll P h vals args) :
    ∃ a vs ns, vals = [Value.ref a] ∧ args = [WData.list (ns.map WData.int)] ∧ h.get? a = some { cls := .type "list", data := .seq vs.toArray } ∧ IntsAre vs ns ∧ ns.length ≤ n := by
  have hsh : WShape.hasAll [] args [.list .int] = true := (pre_splitW hpre).1
  have hc : l.pre.holds [] { args := args } = true := (pre_splitW hpre).2
  obtain ⟨d, r, rfl, h1, h2⟩ := hasAllW_cons hsh
  obtain rfl := hasAllW_nil h2
  obtain ⟨xs, rfl, h3⟩ := hasW_list h1
  obtain ⟨ns, rfl⟩ := items_int h3
  have hlen : ns.length ≤ n := by
    unfold OpenLaw.pre at hc
    have h4 : (WTm.not (.lt (.lit (.int (n : Int))) (.len (.arg 0)))).holds [] { args := [.list (ns.map .int)] } = true := by
      have h4 := (holds_andW hc).1
      rw [hn] at h4
      exact h4
    have h5 := condW_of h4 (w_not (w_lt w_lit (w_len_list (w_arg rfl))))
    rw [List.length_map] at h5
    refine Nat.le_of_not_lt fun q => ?_
    have q' : (n : Int) < ((ns.length : Nat) : Int) := by omega
    first
      | (rw [decide_eq_true q'] at h5; exact absurd h5 (by decide))
      | (simp at h5; omega)
  cases hwl with
  | cons w1 w2 =>
    cases w2
    cases w1 with
    | list ho hall => exact ⟨_, _, ns, rfl, rfl, ho, ints_of_wellAll ns _ hall, hlen⟩

theorem post_true (l : OpenLaw) (args : List WData) : l.row.toRowW.claim.post args (.bool true) args = true :=
  postW_of (r := l.row.toRowW) (X := (true == true))
    (show WShape.has [] (.bool true) .bool = true by first | rfl | decide | simp [WShape.has, WShape.arms, WShape.armsAll])
    (show (WTm.eq .res (.lit (.bool true))).value [] { args := args, res := some (.bool true), after := args } = some (.bool (true == true)) from w_eq_bool (w_res rfl) w_lit) rfl

/-- the same from a codeAny of the CALL (for a layer whose function contracts speak of calls) -/
theorem attach_call {l : OpenLaw} {n : Nat} {q : Program} {loose : List Str} {XP : (Str → Option Value) → Heap → Prop} {YP : World → Heap → Prop} {d : DefRec}
    (hn : l.most = some n) (hdf : d.params.defaults = [])
    (call : ∀ (w : World) (s₀ s₁ : Shared) (mg mb : Str → Option Value) (fa : Addr) (o : Obj) (pm cd doc : Value) (a : Addr) (vs : List Value) (ns : List Int),
      Ground q loose [] XP w s₀ mg mb s₁.heap → YP w s₁.heap →
      s₁.heap.get? fa = some o → o.data = .func (docDef d.name d.params d.body d.scope pm cd doc) → s₁.heap.CodeRec cd d.name → mg d.name = some (.ref fa) →
      s₁.heap.get? a = some { cls := .type "list", data := .seq vs.toArray } → IntsAre vs ns → ns.length ≤ n → s₁.gens = #[] →
      codeAny (model l.prog w) callerA (.call (.ref fa) ⟨[.ref a], []⟩) (fun r s' => r = .ok (.ret (.bool true)) ∧ OldK s₁.heap s'.heap ∧ s'.os = s₁.os ∧ AllBare s'.gens) s₁) :
    WalkO q loose XP YP l.row.toRowW d [] (fun f vs => PySem.call f vs) := by
  intro w s₀ s₁ mg mb G Y fa o pm cd doc dV kV ho hd hcd hD hmg hg args vals as hpre hlay hrd hwl hlo
  obtain rfl : dV = .none := Dflts.none hD hdf
  obtain rfl : kV = .none := Dflts.noKw hD
  obtain ⟨a, vs, ns, rfl, rfl, hobj, hints, hlen⟩ := script_of hn hpre hwl
  refine enter_call (codeAny_mono (call w s₀ s₁ mg mb fa o pm cd doc a vs ns G Y ho (fd_plain hd) hcd hmg hobj hints hlen hg) fun r s' hq => ?_)
  obtain ⟨rfl, h2, h3, h4⟩ := hq
  exact ⟨.inl ⟨.bool true, .bool true, [], rfl, fun _ => rfl, .bool true, post_true l _, fun _ => ⟨List.Pairwise.nil, fun _ hm => (nomatch hm)⟩⟩, h2, h3, h4⟩

/-! ### rules over ANY heap (no ledger) from facts about the written part K: the library's own take a ledger (News) for what they write -/
section
variable {prog : Program} {w : World} {A : Around} {E : Value → Shared → Prop} {s : Shared} {K : Frag}

def ledger (h : Heap) (L d : Addr) : List (Addr × Obj) := (List.range h.objs.size).filterMap fun a => if a = L ∨ a = d then none else (h.get? a).map fun o => (a, o)
end
end Att

namespace L2
open PySem PySem.Spec PyProof.Rows

theorem vals_ints : ∀ {vs : List Value} {ns : List Int}, IntsAre vs ns → Vals (ns.map V.int) vs
  | _, _, .nil => .nil
  | _, _, .cons n t h => .cons ⟨t, rfl⟩ (vals_ints h)

/-- nothing is tracked but the script, known to the object (or it is an object of the module) -/
def Only (H : Hp) : Prop := ∀ b, H b = none ∨ ∃ o xs, H b = some (.frz o (.lst xs))

/-- THE HEAD: the law's promise, at the heap behind the top. F, the promise of the law's def, may use that base is part of the heap (so K.In base, base.Ns mainGlobals mg stand in Mod) -/
theorem law_call {P : Program} {w : World} {K : PySem.W.Frag} {mg mb : Str → Option Value} {CX : CXT} {k : Nat} {fa a : Addr} {fd : FuncData} {x : Str} {sp : Sp} {s₁ : Shared} {vs : List Value} {ns : List Int}
    (KX : K.In s₁.heap) (hns : s₁.heap.Ns mainGlobals mg) (hb : s₁.heap.Ns builtinsNs mb) (hbb : ∀ x : Str, x ≠ "__name__" → mb x = bootBuiltins x) (hlim : s₁.heap.NoLimit) (hg : s₁.gens = #[])
    (ha : s₁.heap.get? a = some { cls := .type "list", data := .seq vs.toArray }) (hi : IntsAre vs ns) (hl : ns.length ≤ sizeLine) (hr : Room k callerA)
    (F : ∀ base : Heap, K.In base → base.Ns mainGlobals mg → FnOk P w K mg base CX k fa fd [x] sp) (hbind : ∀ (s : Shared) (u : Value), BindsTo s fd ⟨[u], []⟩ [(x, u)])
    (hsp : ∀ H : Hp, Only H → SqL K H a (ns.map V.int) → sp [.ref a] H (fun v _ => v = .bl true) fun _ _ _ => False)
    (hCX : ∀ H e s', CX [] H s₁ (fun _ _ _ => False) e s' → False) :
    codeAny (model P w) callerA (.call (.ref fa) ⟨[.ref a], []⟩) (fun r s' => r = .ok (.ret (.bool true)) ∧ OldK s₁.heap s'.heap ∧ s'.os = s₁.os ∧ AllBare s'.gens) s₁ := by
  have rv := vals_ints hi
  have lenV := hi.length
  -- from an abstract heap in which nothing but the script may be tracked
  have core : ∀ H : Hp, Only H → SqL K H a (ns.map V.int) → HOk P w H s₁.heap → (∀ b, H b ≠ none → b = a) → (H a ≠ none → K.lookup a = none) →
      codeAny (model P w) callerA (.call (.ref fa) ⟨[.ref a], []⟩) (fun r s' => r = .ok (.ret (.bool true)) ∧ OldK s₁.heap s'.heap ∧ s'.os = s₁.os ∧ AllBare s'.gens) s₁ := by
    intro H hO hS hok hA hK
    have base_of : ∀ {b : Addr} {o : Obj}, s₁.heap.get? b = some o → H b = none → (hidT s₁.heap H).get? b = some o := fun e n => hidT_get e n
    have noA : ∀ {b : Addr} {o : Obj} {es : Array DictEntry} {ep : Nat}, s₁.heap.get? b = some o → o.data = .dict es ep → H b = none := fun {b o es ep} e d => by
      cases q : H b with
      | none => rfl
      | some u =>
        have e' : b = a := hA b (by rw [q]; simp)
        subst e'
        rw [ha] at e; cases e
        have d' : Data.seq vs.toArray _ = Data.dict es ep := d
        cases d'
    have nsK : ∀ {b : Addr} {m : Str → Option Value}, s₁.heap.Ns b m → (hidT s₁.heap H).Ns b m := fun {b m} ⟨o, es, ep, e, d, r⟩ => ⟨o, es, ep, base_of e (noA e d), d, r⟩
    have hKb : K.In (hidT s₁.heap H) := fun b o e => base_of (KX b o e) (by
      cases q : H b with
      | none => rfl
      | some u =>
        have e' : b = a := hA b (by rw [q]; simp)
        subst e'
        rw [hK (by rw [q]; simp)] at e; cases e)
    have hM : Mod K mg (hidT s₁.heap H) := ⟨hKb, nsK hns, ⟨mb, nsK hb, hbb⟩, let ⟨mc, h1, h2⟩ := hlim; ⟨mc, nsK h1, h2⟩⟩
    have e0 : Env0 P w K mg (hidT s₁.heap H) callerA [] s₁ H := ⟨rfl, hM, fun b o e => of_hidT e, Nat.le_of_eq (hidT_size _ _), trivial, fun b hb => absurd (show b ∈ ([] : List Addr) from hb) (by simp), hok, .of_eq hg⟩
    refine codeAny_mono ((F _ hKb (nsK hns)).run callerA [] s₁ H ⟨[.ref a], []⟩ [.ref a] [.ref a] _ _ hr e0 (hbind s₁ (.ref a)) (.cons rfl .nil) (hsp H hO hS)) fun r s' h => ?_
    cases r with
    | error e => exact (hCX H e s' h).elim
    | ok fl =>
      cases fl with
      | next => exact False.elim h
      | brk => exact False.elim h
      | cont => exact False.elim h
      | ret u =>
        obtain ⟨v, H', os, bare, un, hok', r', q⟩ := h
        have q' : v = .bl true := q
        subst q'
        obtain rfl : u = Value.bool true := r'
        refine ⟨rfl, OldK.of_keep fun b o e => ?_, os, bare⟩
        cases q : H b with
        | none => exact un.keep b o e q (by intro z; exact absurd (show b ∈ ([] : List Addr) from z) (by simp)) (by simp)
        | some u =>
          rcases hO b with z | ⟨ob, xs, z⟩
          · rw [q] at z; cases z
          · have z2 := un.frzs b ob _ z
            obtain ⟨e1, _⟩ := hok b _ z
            obtain ⟨e2, _⟩ := hok' b _ z2
            rw [e] at e1; cases e1
            exact e2
  cases hk : K.lookup a with
  | some o =>
    -- the script is one of the module's own objects
    have e := KX a o hk
    rw [ha] at e
    cases e
    refine core (fun _ => none) (fun _ => .inl rfl) (.inr ⟨_, vs.toArray, _, hk, rfl, rfl, rfl, by rw [List.size_toArray, lenV]; exact hl, by simpa using rv⟩) (fun b u z => by have z' : (none : Option HO) = some u := z; cases z') (fun b z => absurd rfl z) fun z => absurd rfl z
  | none =>
    refine core (fun b => if b = a then some (.frz { cls := .type "list", data := .seq vs.toArray } (.lst (ns.map V.int))) else none) (fun b => ?_) (.inl (.inr ⟨{ cls := .type "list", data := .seq vs.toArray }, if_pos rfl⟩)) (fun b u z => ?_) (fun b z => ?_) fun _ => hk
    · by_cases hb : b = a
      · exact .inr ⟨_, _, if_pos hb⟩
      · exact .inl (if_neg hb)
    · by_cases hb : b = a
      · have z' := (if_pos hb).symm.trans z
        cases z'
        subst hb
        exact ⟨ha, by rw [List.length_map]; exact hl, vs, _, rv, ha⟩
      · have z' := (if_neg hb).symm.trans z
        cases z'
    · by_cases hb : b = a
      · exact hb
      · exact absurd (if_neg hb) z
end L2

namespace L2
open PySem PySem.Spec PyProof.Rows

abbrev KOf {K : PySem.W.Frag} {h : Heap} (_ : K.In h) : PySem.W.Frag := K

/-- the goal that k_head leaves (case hc), from the law's promise. F gives the function object fd (K's own) once, then the promise over every base -/
theorem walk_of {l : PySem.W.OpenLaw} {n k : Nat} {q : Program} {loose : List Str} {XP : (Str → Option Value) → Heap → Prop} {YP : World → Heap → Prop} {d : DefRec} {K : Params → PySem.W.Frag} {CX : World → CXT} {sp : World → Sp} {x : Str}
    (hn : l.most = some n) (hn2 : n ≤ sizeLine) (hdf : d.params.defaults = []) (hr : Room k callerA)
    (hY : ∀ (w : World) (h : Heap), YP w h → (K w.params).In h)
    (F : ∀ (w : World) (mg : Str → Option Value) (fa : Addr) (h : Heap), (K w.params).In h → h.Ns mainGlobals mg → mg d.name = some (.ref fa) →
      ∃ fd : FuncData, (∀ (s : Shared) (u : Value), BindsTo s fd ⟨[u], []⟩ [(x, u)]) ∧
        ∀ base : Heap, (K w.params).In base → base.Ns mainGlobals mg → FnOk l.prog w (K w.params) mg base (CX w) k fa fd [x] (sp w))
    (hsp : ∀ (w : World) (H : Hp) (a : Addr) (ns : List Int), ns.length ≤ n → Only H → SqL (K w.params) H a (ns.map V.int) → sp w [.ref a] H (fun v _ => v = .bl true) fun _ _ _ => False)
    (hCX : ∀ (w : World) (H : Hp) (s : Shared) (e : Value) (s' : Shared), CX w [] H s (fun _ _ _ => False) e s' → False) :
    PySem.W.WalkO q loose XP YP l.row.toRowW d [] (fun f vs => PySem.call f vs) := by
  refine Att.attach_call hn hdf fun w s₀ s₁ mg mb fa o pm cd doc a vs ns G Y ho hd hcd hmg hobj hints hlen hg => ?_
  have KX := hY w _ Y
  obtain ⟨fd, hb, hF⟩ := F w mg fa _ KX G.T.g hmg
  exact law_call KX G.T.g G.T.b G.T.builtins G.T.nolimit hg hobj hints (Nat.le_trans hlen hn2) hr hF hb (fun H hO hS => hsp w H a ns hlen hO hS) fun H e s' => hCX w H s₁ e s'
end L2

/- THE LAST THEOREM (shape; LID, My.* are yours):
   My.Adr: a structure of the addresses that your layer names (classes, functions); My.Txt K t: a structure (Prop) of the equations over K;
   My.txt_mk : {K} {implicit addresses ..} (e1 : nsIn K mainGlobals "law" = some (some (.ref f))) (e2 : K.lookup f = some ⟨oc, od, .func (fnOf "law" "law" params body scope dV kV doc pm an cdv ct), sl⟩) (e3 : codeIn K cdv "law" = true) .. : ∃ t, My.Txt K t

set_option maxRecDepth 100000 in
set_option maxHeartbeats 0 in
theorem PySem.Challenge.cw_LID_holds : PySem.Challenge.rw_LID.Holds := by
  w_on; o_law; k_head; (case hw => w_witness2)
  k_fill
  refine L2.walk_of (l := PySem.Challenge.rw_LID) (n := 63) (k := 40) (x := "script") (CX := fun w => ..) (sp := fun _ => My.sp_law) rfl (by decide) rfl ⟨rfl, by decide, by decide⟩ (fun w h Y => PySem.W.kIn_of Y) ?F ?S ?C
  case F =>
    intro w mg fa h KX G hmg
    have T : ∃ t, My.Txt (L2.KOf KX) t := by
      dsimp only [L2.KOf]                          -- K must stand as «<heap const> w.params» for k_is
      refine' My.txt_mk ?e1 ?e2 ?e3 ..
      (case e1 => PySem.W.k_is)                    -- in the order: a name -> its address -> its object -> its parts
      (case e2 => PySem.W.k_is)
      ..
    obtain ⟨t, T⟩ := T
    have e0 := hmg.symm.trans (PySem.W.mg_of KX G T.law)
    cases e0                                       -- fa is the law's own address
    exact ⟨_, fun s u => .of_eq rfl, fun base kb nb => My.law_fn T kb nb⟩     -- if «.of_eq rfl» comes too early: refine' ⟨_, ?b, fun base kb nb => My.law_fn T kb nb⟩; exact fun s u => .of_eq rfl
  case S => exact fun w H a ns hl hO hS => ..
  case C => exact ..
(the tactic k_is has no namespace: write k_is) -/

/-! SHORT WORDS over the layer: a def of the text, its body, what a loop and a test want. -/
namespace L2
open PySem PySem.Spec PyProof.Rows

/-! ### the text by places -/
/-- the j-th statement of a class's body -/
def inClass (s : Stmt) (j : Nat) : Stmt := match s with
  | .ClassDef _ _ _ body _ _ _ _ _ _ _ => body.getD j (.Pass ⟨0, 0, 0, 0⟩)
  | _ => .Pass ⟨0, 0, 0, 0⟩
def defArgs (s : Stmt) : Arguments := match s with
  | .FunctionDef _ a _ _ _ _ _ _ _ _ => a
  | _ => { posonlyargs := [], args := [], vararg := none, kwonlyargs := [], kw_defaults := [], kwarg := none, defaults := [] }
def defBody (s : Stmt) : List Stmt := match s with
  | .FunctionDef _ _ b _ _ _ _ _ _ _ => b
  | _ => []
def defScope (s : Stmt) : Scope := match s with
  | .FunctionDef _ _ _ _ _ _ sc _ _ _ => sc
  | _ => { kind := .function, names := [], isGenerator := false, isCoroutine := false }

/-! ### no exception leaves a def -/
abbrev CX0 : CXT := fun _ _ _ _ _ _ => False
abbrev E0 : XK := fun _ _ _ => False
theorem pass0 {X : Cx} : Passes CX0 X E0 := fun _ _ _ _ _ _ _ h => h.elim

/-! ### a def (or method) of the text as it stands behind the top -/
structure Fun (K : PySem.W.Frag) (x qual : Str) (st : Stmt) (f : Addr) (fd : FuncData) : Prop where
  ex : ∃ (oc : Value) (od : Option Addr) (kV doc pm : Value) (an : Option Addr) (cdv ct : Value) (osl : Array (Option Value)),
    fd = PySem.W.fnOf x qual (defArgs st) (defBody st) (defScope st) .none kV doc pm an cdv ct ∧ K.lookup f = some ⟨oc, od, .func fd, osl⟩ ∧ PySem.W.codeIn K cdv qual = true
  kp : PySem.W.keepIn K (.ref f) = true
section
variable {P : Program} {w : World} {K : PySem.W.Frag} {mg : Str → Option Value} {base : Heap}
/-- THE RULE for a def: its body as a term of rules, and the reading of that term -/
theorem Fun.ok {x qual : Str} {st : Stmt} {f : Addr} {fd : FuncData} {N ps : List Str} {k : Nat} {sp : Sp} (F : Fun K x qual st f fd) (S : FnScope N ps (defScope st)) (len : ∀ vs H Q E, sp vs H Q E → vs.length = ps.length)
    (hbody : ∀ (cdv : Value) (A : Around) (outer : List Env) (s : Shared) (H : Hp) (vs : List V) (Q : VK) (E : XK), Room k (A.deeper (envOfC qual (defScope st) s.heap.objs.size f cdv)) → sp vs H Q E →
      ∃ t, PSs (cxOf CX0 P w K mg base N qual (defScope st) f cdv A outer s H E).nox (defBody st) t ∧ t { nx := fun _ H' => Q .non H', rt := Q } (start N vs) H) : FnOk P w K mg base CX0 (k + 1) f fd ps sp := by
  obtain ⟨oc, od, kV, doc, pm, an, cdv, ct, osl, rfl, lk, hcd⟩ := F.ex
  refine fn_of lk hcd S len fun A outer s H vs Q E hr hsp => ?_
  obtain ⟨t, h, q⟩ := hbody cdv A outer s H vs Q E hr hsp
  exact ⟨t, h.nox, q⟩
/-- how its arguments bind (no defaults): h is «fun _ _ _ _ _ _ us hl => match us, hl with | [_, _], _ => rfl», one _ a parameter -/
theorem Fun.binds {x qual : Str} {st : Stmt} {f : Addr} {fd : FuncData} {ps : List Str} (F : Fun K x qual st f fd)
    (h : ∀ (kV doc pm : Value) (an : Option Addr) (cdv ct : Value) (us : List Value), us.length = ps.length → bindArgs (PySem.W.fnOf x qual (defArgs st) (defBody st) (defScope st) .none kV doc pm an cdv ct) ⟨us, []⟩ = pure (ps.zip us)) : Binds K fd ps [] := by
  obtain ⟨oc, od, kV, doc, pm, an, cdv, ct, osl, rfl, lk, hcd⟩ := F.ex
  exact .all (h kV doc pm an cdv ct)
theorem fun_mk {x qual : Str} {st : Stmt} {f : Addr} {oc : Value} {od an : Option Addr} {osl : Array (Option Value)} {kV doc pm cdv ct : Value} (l : K.lookup f = some ⟨oc, od, .func (PySem.W.fnOf x qual (defArgs st) (defBody st) (defScope st) .none kV doc pm an cdv ct), osl⟩)
    (c : PySem.W.codeIn K cdv qual = true) (k : PySem.W.keepIn K (.ref f) = true) : Fun K x qual st f (PySem.W.fnOf x qual (defArgs st) (defBody st) (defScope st) .none kV doc pm an cdv ct) := ⟨⟨oc, od, kV, doc, pm, an, cdv, ct, osl, rfl, l, c⟩, k⟩
end
theorem small1000 {n : Nat} (h : n ≤ 1000) : n < sizeLine := Nat.lt_of_le_of_lt h (by decide)

/-! ### expressions in short: the name that stands in the i-th slot -/
section
variable {X : Cx}
theorem pv (i : Nat) {x : Str} {pos : Pos} (hN : X.N[i]? = some x := by rfl) (hv : Vis X.env.scope x := by first | exact Or.inl rfl | exact Or.inr (Or.inl rfl) | exact Or.inr (Or.inr rfl)) (hd : (x == ("__debug__" : Str)) = false := by decide)
    (hcd : (x == ("__classdict__" : Str)) = false := by decide) : PE X (.Name x pos) (tVar i) := pe_var hN hv hd hcd
end

/-! ### tests -/
theorem iteF {A B : Prop} (h : B) : if false = true then A else B := by
  rw [if_neg Bool.false_ne_true]
  exact h
theorem iteT {A B : Prop} (h : A) : if true = true then A else B := by
  rw [if_pos rfl]
  exact h
theorem iteNS {c A B : Prop} [Decidable c] (hc : c) (h : B) : if (!decide c) = true then A else B := by
  rw [decide_eq_true hc]
  exact iteF h

/-! ### heaps -/
/-- all that was tracked is as it was -/
def Same (H H' : Hp) : Prop := ∀ b o, H b = some o → H' b = some o
theorem Same.refl (H : Hp) : Same H H := fun _ _ h => h
theorem Same.trans {H H1 H2 : Hp} (a : Same H H1) (b : Same H1 H2) : Same H H2 := fun c o h => b c o (a c o h)
theorem Same.free {H H' : Hp} (e : Same H H') {l : Addr} (h : H' l = Option.none) : H l = Option.none := by
  cases q : H l with
  | none => rfl
  | some o =>
    rw [e l o q] at h
    cases h
theorem Same.seq {K : PySem.W.Frag} {H H' : Hp} {a : Addr} {xs : List V} (e : Same H H') (h : SqL K H a xs) : SqL K H' a xs := by
  rcases h with (h | ⟨o, h⟩) | h
  · exact .inl (.inl (e _ _ h))
  · exact .inl (.inr ⟨o, e _ _ h⟩)
  · exact .inr h

end L2
set_option Elab.async false
set_option linter.all false
set_option maxRecDepth 100000
set_option maxHeartbeats 4000000
/-! exceptions on their way: what noteFrame, setFlight, leaving do to the heap -/
namespace L2
open PySem PySem.Spec PyProof.Rows

/-- an exception's object: its class, its arguments' tuple, its dict, its traceback -/
abbrev ExcO (C : Value) (t : Addr) (dd : Option Addr) (tb : Value) : Obj :=
  { cls := C, dict := dd, data := .fields #[.ref t, tb, .none, .none, .bool false, .none] }
/-- behind a step of the flight: all but the frames' slots, the exception and its old entry is as it was -/
structure Noted (fs : List Addr) (h h' : Heap) (a : Addr) (C : Value) (t : Addr) (dd : Option Addr) (T : Addr) (fl : Value) : Prop where
  keep : ∀ b o, b ∉ fs → b ≠ a → h.get? b = some o → h'.get? b = some o
  slot : ∀ b o, b ≠ a → h.get? b = some o → ∃ sl, h'.get? b = some { o with slots := sl }
  new : h.get? T = none
  ne : T ≠ a
  exc : h'.get? a = some (ExcO C t dd (.ref T))
  tbk : ∃ oT ts, h'.get? T = some oT ∧ oT.data = .fields ts ∧ ts[3]? = some fl

section
variable {M : Model} {A : Around} {E : Value → Shared → Prop} {s : Shared} {base : Heap} {env : Env} {outer : List Env} {L a t : Addr} {C : Value} {dd : Option Addr} {tb : Value} {Q : Unit → Shared → Prop}

theorem nofr_of {oa : Obj} {vs : Array Value} {l : List Env} (hl : s.heap.FunFrames base l) (ha : s.heap.get? a = some oa) (hd : oa.data = .fields vs) : a ∉ l.filterMap (·.frame) := by
  intro hm
  obtain ⟨_, o, ho, hn⟩ := hl.mem hm
  rw [ha] at ho
  cases ho
  exact hn vs hd

theorem entry_x {head : Value} {hn : Bool} (hfr : A.frames = some (env :: outer)) (hl : s.heap.FunFrames base (env :: outer)) (hf : env.frame = some L)
    (ha : s.heap.get? a = some (ExcO C t dd tb))
    (h : ∀ h' T, Noted ((env :: outer).filterMap (·.frame)) s.heap h' a C t dd T (rawInt L) → Q () { s with heap := h' }) :
    wpAny M A (do
      let x ← frameOf env
      let pl ← entryPlaceOf L hn
      let b ← EntryCells.newEntry head x .none (rawInt L) .none pl
      setField (.ref a) 1 b) Q E s := by
  have na := nofr_of hl ha rfl
  refine wpAny_bind (wpAny_frameOf_fun hfr hl hf fun g hg => ?_)
  refine wpAny_bind (wpAny_entryPlaceOf fun pl hpl => ?_)
  unfold EntryCells.newEntry newFields
  refine wpAny_bind (wpAny_newObj_type ?_ (hpl.sizeOk5 _ _ _ _ _))
  have a1 : g.get? a = some (ExcO C t dd tb) := (hg.2.1 a na).trans ha
  have a2 := fun (z : Obj) => Heap.get?_push_of_some (h := g) z a1
  have nT : g.objs.size ≠ a := Nat.ne_of_gt (Heap.lt_size a1)
  refine wpAny_setField (a2 _) rfl (by show 1 < 6; decide) (h _ g.objs.size ?_)
  have up : ∀ (z : Obj) (f : Obj → Obj) b o, b ≠ a → g.get? b = some o → ((g.push z).update a f).get? b = some o := by
    intro z f b o hb e
    rw [Heap.get?_update_other _ _ (Ne.symm hb)]
    exact Heap.get?_push_of_some _ e
  refine ⟨fun b o hb hba e => up _ _ b o hba ((hg.2.1 b hb).trans e), fun b o hba e => ?_, ?_, nT, ?_, ?_⟩
  · obtain ⟨sl, e1⟩ := hg.2.2 b o e
    exact ⟨sl, up _ _ b _ hba e1⟩
  · refine Heap.get?_none_of_le ?_
    rw [hg.1]
    exact Nat.le_refl _
  · exact Heap.get?_update_self _ (a2 _) rfl
  · refine ⟨_, _, (Heap.get?_update_other _ _ (Ne.symm nT)).trans (Heap.get?_push_size _ rfl), rfl, ?_⟩
    first
      | (simp; done)
      | (rcases hpl with rfl | ⟨_, _, _, _, _, _, _, rfl⟩ <;> simp)

/-- the traceback of a flying exception: none yet, or one that is not here -/
def TbOk (h : Heap) (a : Addr) (tb : Value) : Prop := tb = .none ∨ ∃ T oT ts, tb = .ref T ∧ T ≠ a ∧ h.get? T = some oT ∧ oT.data = .fields ts ∧ ts[3]? = some .none

theorem note_x (hfr : A.frames = some (env :: outer)) (hl : s.heap.FunFrames base (env :: outer)) (hf : env.frame = some L)
    (ha : s.heap.get? a = some (ExcO C t dd tb)) (ht : TbOk s.heap a tb)
    (h : ∀ h' T, (∀ b o, b ∉ (env :: outer).filterMap (·.frame) → b ≠ a → tb ≠ .ref b → s.heap.get? b = some o → h'.get? b = some o) →
      (∀ b o, b ≠ a → tb ≠ .ref b → s.heap.get? b = some o → ∃ sl, h'.get? b = some { o with slots := sl }) → s.heap.get? T = none → T ≠ a →
      h'.get? a = some (ExcO C t dd (.ref T)) → (∃ oT ts, h'.get? T = some oT ∧ oT.data = .fields ts ∧ ts[3]? = some (rawInt L)) → Q () { s with heap := h' }) :
    wpAny M A (noteFrame (.ref a) env) Q E s := by
  unfold noteFrame
  simp only [hf]
  refine wpAny_bind (wpAny_field ha rfl (x := tb) rfl ?_)
  rcases ht with rfl | ⟨T, oT, ts, rfl, nT, hT, dT, h3⟩
  · rw [if_neg (by decide)]
    refine entry_x hfr hl hf ha fun h' T N => ?_
    exact h h' T (fun b o hb hba _ e => N.keep b o hb hba e) (fun b o hba _ e => N.slot b o hba e) N.new N.ne N.exc N.tbk
  · rw [if_pos (show (Value.ref T != Value.none) = true by simp)]
    refine wpAny_bind (wpAny_field hT dT h3 ?_)
    rw [if_neg (show ¬ ((Value.none == rawInt L) = true) by simp [rawInt])]
    refine wpAny_bind (wpAny_setField hT dT (Array.getElem?_eq_some_iff.mp h3).1 ?_)
    have oth : ∀ (f : Obj → Obj) b, b ≠ T → (s.heap.update T f).get? b = s.heap.get? b := fun f b hb => Heap.get?_update_other _ _ (Ne.symm hb)
    have nrec : ∀ b o, s.heap.get? b = some o → (∀ vs, o.data ≠ .fields vs) → b ≠ T := by
      intro b o e hn q
      rw [q, hT] at e
      cases e
      exact hn ts dT
    refine entry_x (s := { s with heap := _ }) hfr (hl.of_keeps fun b o e hn => ⟨o, (oth _ b (nrec b o e hn)).trans e, rfl⟩) hf ((oth _ a (Ne.symm nT)).trans ha) fun h' T' N => ?_
    have neb : ∀ b, Value.ref T ≠ Value.ref b → b ≠ T := fun b q z => q (by rw [z])
    refine h h' T' (fun b o hb hba hbT e => N.keep b o hb hba ((oth _ b (neb b hbT)).trans e)) (fun b o hba hbT e => N.slot b o hba ((oth _ b (neb b hbT)).trans e)) ?_ N.ne N.exc N.tbk
    have nw := N.new
    by_cases q : T' = T
    · subst q
      have := Heap.get?_update_self (Obj.mapFields (·.setIfInBounds 3 Value.none)) hT (Obj.isFreed_of_fields (Obj.data_mapFields dT _))
      rw [nw] at this
      cases this
    · rw [oth _ T' q] at nw
      exact nw

theorem land_x {T : Addr} {oT : Obj} {ts : Array Value} {fl : Value} (ha : s.heap.get? a = some (ExcO C t dd (.ref T))) (nT : T ≠ a) (hT : s.heap.get? T = some oT) (dT : oT.data = .fields ts) (h3 : ts[3]? = some fl)
    (h : ∀ h', (∀ b o, b ≠ T → s.heap.get? b = some o → h'.get? b = some o) → TbOk h' a (.ref T) → Q () { s with heap := h' }) : wpAny M A (setFlight (.ref a) none) Q E s := by
  have sz : 3 < ts.size := (Array.getElem?_eq_some_iff.mp h3).1
  unfold setFlight
  refine wpAny_bind (wpAny_field ha rfl (x := .ref T) rfl ?_)
  rw [if_pos (show (Value.ref T != Value.none) = true by simp)]
  refine wpAny_setField hT dT sz (h _ (fun b o hb e => (Heap.get?_update_other _ _ (Ne.symm hb)).trans e) ?_)
  have d2 := Obj.data_mapFields dT (·.setIfInBounds 3 ((none : Option Addr).elim Value.none fun f => rawInt f))
  exact .inr ⟨T, _, _, rfl, nT, Heap.get?_update_self _ hT (Obj.isFreed_of_fields d2), d2, by simp [sz]⟩
end
end L2
set_option Elab.async false
set_option linter.all false
set_option maxRecDepth 100000
set_option maxHeartbeats 4000000
/-! the end of an iterator within an except suite: StopIteration gets the handled exception as its context -/
namespace L2
open PySem PySem.Spec PyProof.Rows

/-- nothing is handled, or an exception without a context -/
def Hd (A : Around) (h : Heap) : Prop := A.handled = none ∨ ∃ x ox vs, A.handled = some (.ref x) ∧ h.get? x = some ox ∧ ox.data = .fields vs ∧ vs[2]? = some .none

theorem entry_unchain : entryFor table "proto.unchain" = some Builtin.«proto.unchain» := entryFor_of_tree (by kernel_rfl)

section
variable {prog : Program} {w : World} {A : Around} {E : Value → Shared → Prop} {s : Shared}

theorem Hd.keeps {h h' : Heap} (x : Hd A h) (k : ∀ b o, h.get? b = some o → h'.get? b = some o) : Hd A h' := by
  rcases x with z | ⟨x, ox, vs, z, e, d, n⟩
  · exact .inl z
  · exact .inr ⟨x, ox, vs, z, k x ox e, d, n⟩

/-- raising a new object: the others stay, its class too -/
theorem raiseNew_hd {α : Type} {a : Addr} {oa : Obj} {ws : Array Value} {h₀ : Heap} {Q : α → Shared → Prop} (hd : Hd A h₀) (k : ∀ b o, h₀.get? b = some o → s.heap.get? b = some o) (na : h₀.get? a = none)
    (ha : s.heap.get? a = some oa) (da : oa.data = .fields ws) (h2 : 2 < ws.size)
    (h : ∀ h', (∀ b o, b ≠ a → s.heap.get? b = some o → h'.get? b = some o) → (∃ o', h'.get? a = some o' ∧ o'.cls = oa.cls) → E (.ref a) { s with heap := h' }) :
    wpAny (model prog w) A (raiseNew (.ref a) : Sem α) Q E s := by
  unfold raiseNew
  refine wpAny_bind (wpAny_handled ?_)
  rcases hd with z | ⟨x, ox, vs, z, e, d, n⟩
  · rw [z]
    exact wpAny_bind (wpAny_pure (wpAny_throw (h _ (fun b o _ e => e) ⟨_, ha, rfl⟩)))
  · rw [z]
    have nx : x ≠ a := by
      intro q
      rw [q, na] at e
      cases e
    dsimp only
    rw [if_pos (show (Value.ref x != Value.ref a) = true by simpa using nx)]
    refine wpAny_bind (wpAny_holding (wpAny_runValue (codeAny_builtin entry_unchain ?_)))
    unfold Builtin.«proto.unchain»
    dsimp only
    refine wpAny_bind (wpAny_field (k x ox e) d n ?_)
    rw [if_pos (by decide)]
    refine wpAny_pure ?_
    dsimp only
    unfold updateField
    refine wpAny_bind (wpAny_bind (wpAny_load ha ?_))
    rw [da]
    dsimp only
    rw [if_pos h2]
    refine wpAny_update ha (wpAny_throw (h _ (fun b o hb e => (Heap.get?_update_other _ _ (Ne.symm hb)).trans e) ⟨_, Heap.get?_update_self _ ha (Obj.isFreed_of_fields (Obj.data_mapFields da _)), Obj.cls_mapFields _ _⟩))

/-- StopIteration, raised -/
theorem stop_hd {α : Type} {Q : α → Shared → Prop} (hd : Hd A s.heap)
    (h : ∀ h' e, (∀ b o, s.heap.get? b = some o → h'.get? b = some o) → ({ s with heap := h' } : Shared).TypeIs (.ref e) "StopIteration" → E (.ref e) { s with heap := h' }) :
    wpAny (model prog w) A (newExc (.type "StopIteration") [] >>= fun e => (raiseNew e : Sem α)) Q E s := by
  refine wpAny_bind ?_
  simp only [newExc, newTuple]
  refine wpAny_bind (wpAny_newObj_type ?_ (by size_fits)); refine wpAny_bind (m := firstArgMember _ _) (wpAny_of_eq (a := Value.none) (by first | rfl | (simp only [firstArgMember]; rfl)) ?_)
  refine wpAny_newObj_type ?_ (by size_fits); dsimp only
  have k1 : ∀ (z : Obj) b o, s.heap.get? b = some o → (s.heap.push z).get? b = some o := fun z b o e => Heap.get?_push_of_some _ e
  have k2 : ∀ (z y : Obj) b o, s.heap.get? b = some o → ((s.heap.push z).push y).get? b = some o := fun z y b o e => Heap.get?_push_of_some _ (Heap.get?_push_of_some _ e)
  have nw : ∀ (z : Obj), s.heap.get? (s.heap.push z).objs.size = none := fun z => Heap.get?_none_of_le (by rw [Heap.size_push]; exact Nat.le_succ _)
  refine raiseNew_hd (s := { s with heap := _ }) (h₀ := s.heap) hd (k2 _ _) (nw _) (Heap.get?_push_size _ rfl) rfl (by show 2 < 6; decide) fun h' k ⟨o', e', c'⟩ => h h' _ (fun b o e => ?_) ⟨o', e', c'⟩
  refine k b o ?_ (k2 _ _ b o e)
  intro q; rw [q, nw] at e; cases e

theorem next_list_end_hd {it l : Addr} {i : Nat} {items : Array Value} {Q : Option Value → Shared → Prop} (hd : ∀ h' : Heap, Heap.ExtBut it s.heap h' → Hd A h')
    (hit : s.heap.IsListIter it l i) (hl : s.heap.IsList l items) (hx : items[i]? = none)
    (hQ : ∀ h', Heap.ExtBut it s.heap h' → Q none { s with heap := h' }) : wpAny (model prog w) A (pyNext (.ref it)) Q E s := by
  obtain ⟨o, ho, hc, dt⟩ := id hit
  obtain ⟨ol, hol, _, nl, dl⟩ := hl
  unfold pyNext
  refine wpAny_bind (wpAny_attempt (wpAny_callSpecial?_slot (name := Str.ofString "__next__") hit.typeIs slot_listiter_next (wpAny_call_entry slot_listiter_next hit.typeIs entry_listiter_next ?_ (args_listiter_next _))))
  show wpAny _ _ (field (.ref it) 0 >>= _) _ _ _; refine wpAny_bind (wpAny_field ho dt (x := .ref l) rfl ?_)
  show wpAny _ _ (if (Value.ref l == Value.none) = true then _ else _) _ _ _; rw [if_neg (show ¬ ((Value.ref l == Value.none) = true) by simp)]
  show wpAny _ _ (field (.ref it) 1 >>= _) _ _ _; refine wpAny_bind (wpAny_field ho dt (x := .int i 0) rfl ?_)
  show wpAny _ _ (seqItems? (.ref l) >>= _) _ _ _; refine wpAny_bind (wpAny_seqItems hol dl ?_)
  simp only [Int.toNat_natCast, hx]
  refine wpAny_bind (wpAny_rule (wpAny_bind (wpAny_setField ho dt (by simp) ?_)))
  have up := fun f => (Heap.SameBut.update (a := it) (h := s.heap) (f := f)).extBut
  refine stop_hd (s := { s with heap := _ }) (A := A.in1) (hd _ (up _)) fun h' e k ty => ?_
  refine wpAny_bind (wpAny_isInstance (T := "StopIteration") (b := true) ty isSubtype_stop ?_)
  exact wpAny_pure (hQ h' fun b o hb z => k b o (up _ b o hb z))
theorem next_tup_end_hd {it t : Addr} {i : Nat} {items : Array Value} {Q : Option Value → Shared → Prop} (hd : ∀ h' : Heap, Heap.ExtBut it s.heap h' → Hd A h')
    (hit : IsTupIter s.heap it t i) (hl : IsTup s.heap t items) (hx : items[i]? = none)
    (hQ : ∀ h', Heap.ExtBut it s.heap h' → Q none { s with heap := h' }) : wpAny (model prog w) A (pyNext (.ref it)) Q E s := by
  obtain ⟨o, ho, hc, dt⟩ := id hit
  obtain ⟨ol, hol, _, nl, dl⟩ := hl
  unfold pyNext
  refine wpAny_bind (wpAny_attempt (wpAny_callSpecial?_slot (name := Str.ofString "__next__") hit.typeIs slot_tupleiter_next (wpAny_call_entry slot_tupleiter_next hit.typeIs entry_tupleiter_next ?_ (args_tupleiter_next _))))
  show wpAny _ _ (field (.ref it) 0 >>= _) _ _ _; refine wpAny_bind (wpAny_field ho dt (x := .ref t) rfl ?_)
  show wpAny _ _ (if (Value.ref t == Value.none) = true then _ else _) _ _ _; rw [if_neg (show ¬ ((Value.ref t == Value.none) = true) by simp)]
  show wpAny _ _ (field (.ref it) 1 >>= _) _ _ _; refine wpAny_bind (wpAny_field ho dt (x := .int i 0) rfl ?_)
  show wpAny _ _ (seqItems? (.ref t) >>= _) _ _ _; refine wpAny_bind (wpAny_seqItems hol dl ?_)
  simp only [Int.toNat_natCast, hx]
  refine wpAny_bind (wpAny_rule (wpAny_bind (wpAny_setField ho dt (by simp) ?_)))
  have up := fun f => (Heap.SameBut.update (a := it) (h := s.heap) (f := f)).extBut
  refine stop_hd (s := { s with heap := _ }) (A := A.in1) (hd _ (up _)) fun h' e k ty => ?_
  refine wpAny_bind (wpAny_isInstance (T := "StopIteration") (b := true) ty isSubtype_stop ?_)
  exact wpAny_pure (hQ h' fun b o hb z => k b o (up _ b o hb z))

end
end L2
set_option Elab.async false
set_option linter.all false
set_option maxRecDepth 100000
set_option maxHeartbeats 4000000
namespace L2
open PySem PySem.Spec PyProof.Rows
/-! ### what is new to a state -/
theorem ObjOk.there {P : Program} {w : World} {H : Hp} {h : Heap} {a : Addr} {o : HO} (x : ObjOk P w H h a o) : ∃ u, h.get? a = some u := by
  cases o with
  | lst xs => obtain ⟨_, _, _, _, e⟩ := x; exact ⟨_, e⟩
  | tup xs => obtain ⟨_, _, _, _, e, _⟩ := x; exact ⟨_, e⟩
  | dK kvs => obtain ⟨_, _, _, _, o, _, _, e, _⟩ := x; exact ⟨_, e⟩
  | dT kvs => obtain ⟨_, _, _, _, o, _, _, e, _⟩ := x; exact ⟨_, e⟩
  | set S n => obtain ⟨o, _, _, _, e, _⟩ := x; exact ⟨_, e⟩
  | ins C dx fs => obtain ⟨_, _, _, e, _⟩ := x; exact ⟨_, e⟩
  | own y => obtain ⟨_, e⟩ := x; exact ⟨_, e⟩
  | xd fs => obtain ⟨_, ⟨_, _, _, e, _⟩, _⟩ := x; exact ⟨_, e⟩
  | rng lo hi => obtain ⟨_, _, _, e⟩ := x; exact ⟨_, e⟩
  | frz ob u => obtain ⟨e, _⟩ := x; exact ⟨_, e⟩
  | tbl ps => exact ⟨_, show h.get? a = some _ from x⟩
  | met f y => exact ⟨_, show h.get? a = some _ from x⟩
  | ext φ => obtain ⟨_, e, _⟩ := x; exact e
theorem HOk.new {P : Program} {w : World} {H : Hp} {h : Heap} {a : Addr} (x : HOk P w H h) (e : h.get? a = none) : H a = none := by
  cases q : H a with
  | none => rfl
  | some u =>
    obtain ⟨o, z⟩ := (x a u q).there
    rw [e] at z
    cases z
/-- b is nothing of the state's own -/
structure Nw (X : Cx) (pins : List (Addr × Obj)) (H : Hp) (b : Addr) : Prop where
  un : H b = none
  loc : b ≠ X.env.locals
  fs : b ∉ X.fs
  old : X.s₀.heap.get? b = none
  cell : ∀ x c, X.env.cells.lookup x = some c → c ≠ b
  pin : ∀ p ∈ X.pn ++ pins, p.1 ≠ b
section
variable {X : Cx} {pins : List (Addr × Obj)} {σ : St} {H H' : Hp} {s s' : Shared} {a b t : Addr} {C : Value} {dd : Option Addr}
theorem Inv.fsFree (I : Inv X pins σ H s) : ∀ b ∈ X.fs, H b = none := fun b hb => I.stkFree b (by
  rcases I.ok.stk with z | ⟨z, zf⟩
  · rw [z]; exact hb
  · rw [z]
    unfold frs
    rw [List.filterMap_cons, zf]
    exact List.mem_cons_of_mem _ hb)
theorem Inv.nw (I : Inv X pins σ H s) (hex : X.ex = []) (e : s.heap.get? b = none) (hu : H' b = none) : Nw X pins H' b := by
  refine ⟨hu, ?_, ?_, ?_, ?_, ?_⟩
  · rintro rfl
    obtain ⟨m, ⟨o, _, _, ho, _⟩, _⟩ := I.loc
    rw [e] at ho
    cases ho
  · intro hb
    obtain ⟨_, o, ho, _⟩ := I.funs.mem hb
    rw [e] at ho
    cases ho
  · cases q : X.s₀.heap.get? b with
    | none => rfl
    | some o =>
      obtain ⟨o', z⟩ := I.base.there b o q (by rw [hex]; simp)
      rw [e] at z
      cases z
  · rintro x c h rfl
    obtain ⟨v, o, ho, _⟩ := I.cell x c h
    rw [e] at ho
    cases ho
  · rintro p hp rfl
    obtain ⟨z, _⟩ := I.pin p hp
    rw [e] at z
    cases z
/-- records of nobody's may change, the frames' slots too -/
theorem Inv.stepN {h' : Heap} {ch : List Addr} (I : Inv X pins σ H s) (hch : ∀ b ∈ ch, Nw X pins H b)
    (keep : ∀ b o, b ≠ X.env.locals → b ∉ X.fs → b ∉ ch → s.heap.get? b = some o → h'.get? b = some o)
    (slot : ∀ b o, b ∉ ch → s.heap.get? b = some o → ∃ sl, h'.get? b = some { o with slots := sl }) : Inv X pins σ H { s with heap := h' } := by
  have neL : ∀ b o, X.s₀.heap.get? b = some o → b ≠ X.env.locals := fun b o e => Nat.ne_of_lt (Nat.lt_of_lt_of_le (Heap.lt_size e) I.ok.above)
  have neC : ∀ b o, X.s₀.heap.get? b = some o → b ∉ ch := fun b o e hb => by
    have z := (hch b hb).old
    rw [e] at z
    cases z
  have cellK : ∀ x c, X.env.cells.lookup x = some c → ∀ v, s.heap.IsCell c v → h'.IsCell c v := fun x c e v ⟨o, ho, hd⟩ => by
    have nch : c ∉ ch := fun z => (hch c z).cell x c e rfl
    obtain ⟨sl, q⟩ := slot c o nch ho
    exact ⟨_, q, hd⟩
  refine ⟨I.ok, I.os, I.bare, ⟨fun b o e n hb hx => ?_, fun b o e n hb hx => ?_, I.base.free, fun b o e hx => ?_, I.base.tups, I.base.frzs, I.base.tbls⟩, ?_, fun x c e => ?_, I.free, I.freeC, fun p hp => ?_, ?_, I.len⟩
  · exact keep b o (neL b o e) hb (neC b o e) (I.base.keep b o e n hb hx)
  · obtain ⟨sl, e1⟩ := I.base.slot b o e n hb hx
    obtain ⟨sl', e2⟩ := slot b _ (neC b o e) e1
    exact ⟨sl', e2⟩
  · obtain ⟨o', e1⟩ := I.base.there b o e hx
    obtain ⟨sl', e2⟩ := slot b _ (neC b o e) e1
    exact ⟨_, e2⟩
  · obtain ⟨m, hn, hl⟩ := I.loc
    refine ⟨m, ?_, fun i x v e1 e2 e3 => ?_⟩
    · obtain ⟨o, es, ep, ho, r⟩ := hn
      obtain ⟨sl, q⟩ := slot _ o (fun z => (hch _ z).loc rfl) ho
      exact ⟨_, es, ep, q, r⟩
    · obtain ⟨u, r, l⟩ := hl i x v e1 e2 e3
      refine ⟨u, r, ?_⟩
      rcases l with l | ⟨k, c, e, z⟩
      · exact .inl l
      · exact .inr ⟨k, c, e, cellK x c e _ z⟩
  · obtain ⟨v, z⟩ := I.cell x c e
    exact ⟨v, cellK x c e v z⟩
  · obtain ⟨e, n, ne, nf, d⟩ := I.pin p hp
    exact ⟨keep p.1 p.2 ne nf (fun z => (hch p.1 z).pin p hp rfl) e, n, ne, nf, d⟩
  · intro c o e
    have tr : ∀ b, H b ≠ none → ∀ u, s.heap.get? b = some u → h'.get? b = some u := fun b hb u q =>
      keep b u (fun z => hb (by rw [z]; exact I.free)) (fun z => hb (I.fsFree b z)) (fun z => hb (hch b z).un) q
    refine (I.hok c o e).stay (fun b u hb q => tr b ?_ u q) (fun _ q => q) fun _ _ q => q
    rcases hb with rfl | hb
    · rw [e]; simp
    · rw [hb]; simp
/-! ### an exception on its way through a body -/
/-- the exception at a, of the class C, is nobody's; its traceback is nobody's -/
def Flt (X : Cx) (pins : List (Addr × Obj)) (H : Hp) (s : Shared) (a : Addr) (C : Value) (t : Addr) (dd : Option Addr) : Prop :=
  Nw X pins H a ∧ ∃ tb, s.heap.get? a = some (ExcO C t dd tb) ∧ TbOk s.heap a tb ∧ ∀ T, tb = .ref T → Nw X pins H T
/-- .. noted at this frame -/
def FltAt (X : Cx) (pins : List (Addr × Obj)) (H : Hp) (s : Shared) (a : Addr) (C : Value) (t : Addr) (dd : Option Addr) (fl : Value) : Prop :=
  Nw X pins H a ∧ ∃ T oT ts, s.heap.get? a = some (ExcO C t dd (.ref T)) ∧ T ≠ a ∧ Nw X pins H T ∧ s.heap.get? T = some oT ∧ oT.data = .fields ts ∧ ts[3]? = some fl
/-- the body of a def: its own frame on the stack -/
structure Body (X : Cx) : Prop where
  ex : X.ex = []
  st : X.stack = X.env :: X.outer
  fr : X.env.frame = some X.env.locals
theorem FltAt.flt (F : FltAt X pins H s a C t dd .none) : Flt X pins H s a C t dd := by
  obtain ⟨n, T, oT, ts, e, ne, nT, eT, dT, h3⟩ := F
  exact ⟨n, _, e, .inr ⟨T, oT, ts, rfl, ne, eT, dT, h3⟩, fun T' z => by cases z; exact nT⟩
def refsOf : Value → List Addr
  | .ref z => [z]
  | _ => []
theorem flt_note {M : Model} {E : Value → Shared → Prop} {Q : Unit → Shared → Prop} (B : Body X) (I : Inv X pins σ H s) (F : Flt X pins H s a C t dd)
    (k : ∀ s', Inv X pins σ H s' → FltAt X pins H s' a C t dd (rawInt X.env.locals) → Q () s') : wpAny M X.A (noteFrame (.ref a) X.env) Q E s := by
  obtain ⟨na, tb, e, ht, nT⟩ := F
  have hfr := I.ok.frames
  rw [B.st] at hfr
  have hl := I.stack
  rw [B.st] at hl
  refine note_x hfr hl B.fr e ht fun h' T k1 k2 k3 k4 k5 k6 => ?_
  have ch : ∀ b, b ∉ a :: refsOf tb → b ≠ a ∧ tb ≠ .ref b := by
    intro b hb
    refine ⟨fun z => hb (by rw [z]; exact List.mem_cons_self), fun z => hb ?_⟩
    rw [z]
    exact List.mem_cons_of_mem _ (List.mem_singleton.mpr rfl)
  have I' : Inv X pins σ H { s with heap := h' } := by
    refine I.stepN (ch := a :: refsOf tb) (fun b hb => ?_) (fun b o h1 h2 h3 q => k1 b o ?_ (ch b h3).1 (ch b h3).2 q) (fun b o h3 q => k2 b o (ch b h3).1 (ch b h3).2 q)
    · rcases List.mem_cons.mp hb with rfl | hb
      · exact na
      · cases tb <;> simp [refsOf] at hb
        subst hb
        exact nT _ rfl
    · intro z
      rw [List.filterMap_cons, B.fr] at z
      rcases List.mem_cons.mp z with z | z
      · exact h1 z
      · exact h2 z
  obtain ⟨oT, ts, q1, q2, q3⟩ := k6
  exact k _ I' ⟨na, T, oT, ts, k5, k4, I.nw B.ex k3 (I.hok.new k3), q1, q2, q3⟩
theorem flt_land {M : Model} {A : Around} {E : Value → Shared → Prop} {Q : Unit → Shared → Prop} {fl : Value} (I : Inv X pins σ H s) (F : FltAt X pins H s a C t dd fl)
    (k : ∀ s', Inv X pins σ H s' → FltAt X pins H s' a C t dd .none → Q () s') : wpAny M A (setFlight (.ref a) none) Q E s := by
  obtain ⟨na, T, oT, ts, e, ne, nT, eT, dT, h3⟩ := F
  refine land_x e ne eT dT h3 fun h' k1 k2 => ?_
  have I' : Inv X pins σ H { s with heap := h' } := I.stepN (ch := [T]) (fun b hb => by
    have : b = T := by simpa using hb
    subst this
    exact nT) (fun b o _ _ hb q => k1 b o (fun z => hb (by simp [z])) q) (fun b o hb q => ⟨_, k1 b o (fun z => hb (by simp [z])) q⟩)
  rcases k2 with z | ⟨T', oT', ts', z, _, q1, q2, q3⟩
  · cases z
  · cases z
    exact k _ I' ⟨na, T, oT', ts', k1 a _ (Ne.symm ne) e, ne, nT, q1, q2, q3⟩
theorem flt_leave {M : Model} {E : Value → Shared → Prop} {Q : Unit → Shared → Prop} (B : Body X) (I : Inv X pins σ H s) (F : Flt X pins H s a C t dd)
    (k : ∀ s', Inv X pins σ H s' → FltAt X pins H s' a C t dd .none → Q () s') : wpAny M X.A (leaving X.env (.ref a)) Q E s := by
  unfold leaving
  exact wpAny_bind (flt_note B I F fun s1 I1 F1 => flt_land I1 F1 k)
end
/-! ### how it lies behind a call -/
/-- the exception a body may let go: its class, its dict, the names, the heap -/
abbrev EK := Value → Option Addr → St → Hp → Prop
def Catches (X : Cx) (EH : EK) : Prop := ∀ (pins : List (Addr × Obj)) (σ : St) (H : Hp) (s : Shared) (a t : Addr) (C : Value) (dd : Option Addr), Inv X pins σ H s → Flt X pins H s a C t dd → EH C dd σ H → X.xe (.ref a) s
def CX1 (P : Program) (w : World) : CXT := fun outer H s E e s' => ∃ (a t : Addr) (C : Value) (dd : Option Addr) (H' : Hp), e = .ref a ∧ s'.os = s.os ∧ AllBare s'.gens ∧ Un (frs outer) [] H H' s.heap s'.heap ∧ HOk P w H' s'.heap ∧ E C dd H' ∧
  (s.heap.get? a = none ∧ H' a = none) ∧ ∃ T oT ts, s'.heap.get? a = some (ExcO C t dd (.ref T)) ∧ T ≠ a ∧ (s.heap.get? T = none ∧ H' T = none) ∧ s'.heap.get? T = some oT ∧ oT.data = .fields ts ∧ ts[3]? = some .none
theorem catches_fn {P : Program} {w : World} {K : PySem.W.Frag} {mg : Str → Option Value} {base : Heap} {N : List Str} {qual : Str} {scope : Scope} {f : Addr} {cd : Value} {A : Around} {outer : List Env} {s : Shared} {H : Hp} {E : XK} :
    Catches (cxOf (CX1 P w) P w K mg base N qual scope f cd A outer s H E) (fun C dd _ H' => E C dd H') := by
  intro pins σ H' s' a t C dd I F h
  refine flt_leave (X := cxOf (CX1 P w) P w K mg base N qual scope f cd A outer s H E) ⟨rfl, rfl, rfl⟩ I F fun s2 I2 F2 => ?_
  obtain ⟨na, T, oT, ts, e, ne, nT, eT, dT, h3⟩ := F2
  exact ⟨a, t, C, dd, H', rfl, I2.os, I2.bare, I2.base, I2.hok, h, ⟨na.old, na.un⟩, T, oT, ts, e, ne, ⟨nT.old, nT.un⟩, eT, dT, h3⟩
section
variable {X : Cx} {k : Nat} {f C : Addr} {fd : FuncData} {ps : List Str} {sp : Sp} {dvs : List V} {ds : List Value} {EH : EK} {x m : Str} {p pos apos : Pos} {e o : Expr} {es : List Expr} {ta : TE} {t : TA}
/-- a callee's exception is one of this body's -/
theorem came {pins : List (Addr × Obj)} {σ : St} {H : Hp} {s : Shared} {e : Value} {s' : Shared} (hx : Catches X EH) (hex : X.ex = []) (I : Inv X pins σ H s)
    (h : CX1 X.prog X.w X.stack H s (fun C d H' => EH C d σ H') e s') : X.xe e s' := by
  obtain ⟨a, t, C, dd, H', rfl, os, bare, un, hok, hE, ⟨a1, a2⟩, T, oT, ts, z, ne, ⟨t1, t2⟩, eT, dT, h3⟩ := h
  have I' : Inv X pins σ H' s' := I.call' (ch := []) os un hok bare (fun b q => absurd q (by simp))
  exact hx pins σ H' s' a t C dd I' (FltAt.flt ⟨I.nw hex a1 a2, T, oT, ts, z, ne, I.nw hex t1 t2, eT, dT, h3⟩) hE
theorem run_fnE {pins : List (Addr × Obj)} {σ : St} {H : Hp} {s : Shared} {Q : VK} {us : List Value} {vs : List V} (F : FnOk X.prog X.w X.K X.mg X.base (CX1 X.prog X.w) k f fd ps sp) (hr : Room k X.A) (hb : Binds X.K fd ps ds) (hd : Vals dvs ds)
    (hx : Catches X EH) (hex : X.ex = []) (I : Inv X pins σ H s) (r : Vals vs us) (h : sp (vs ++ dvs) H Q (fun C d H' => EH C d σ H')) : wpAny (model X.prog X.w) X.A (call (.ref f) us) (EP X pins σ Q) X.xe s := by
  have r2 : Vals (vs ++ dvs) (us ++ ds) := r.append hd
  have hl : (us ++ ds).length = ps.length := by rw [← r2.length]; exact F.len _ _ _ _ h
  refine wpAny_call (codeAny_mono (F.run X.A X.stack s H ⟨us, []⟩ (us ++ ds) (vs ++ dvs) Q _ hr I.env0 (hb s us I.kIn hl) r2 h) fun r s' hq => ?_)
  cases r with
  | error e => exact came hx hex I hq
  | ok fl =>
    cases fl with
    | ret u => exact I.after hq
    | next => exact False.elim hq
    | brk => exact False.elim hq
    | cont => exact False.elim hq
/-- f(..) of a def that may raise -/
def tCallE (sp : Sp) (dvs : List V) (EH : EK) (t : TA) : TE := fun σ H Q => t σ H fun vs H1 => sp (vs ++ dvs) H1 Q (fun C d H' => EH C d σ H')
theorem pe_callE (F : FnOk X.prog X.w X.K X.mg X.base (CX1 X.prog X.w) k f fd ps sp) (hr : Room k X.A) (hg : Gl X x) (hm : X.mg x = some (.ref f)) (hk : PySem.W.keepIn X.K (.ref f) = true) (hb : Binds X.K fd ps ds) (hd : Vals dvs ds)
    (hx : Catches X EH) (ha : PA X (e :: es) t) (hex : X.ex = [] := by rfl) (hdb : (x == ("__debug__" : Str)) = false := by decide) (he : starEach (e :: es) X.env = (false, eval e X.env) :: starEach es X.env := by rfl)
    (hpl : (backTo pos (starEach es X.env)).any (·.1) = false := by rfl) : PE X (.Call (.Name x p) (e :: es) [] pos) (tCallE sp dvs EH t) := by
  intro pins s σ H Q I h
  refine wpAny_Call_Name_kw (ld_glob I hg hm ?_ hdb)
  refine PySem.W.callWith_K (h₀ := X.base) I.ok.mod.kin hk (thn (ha pos pins s σ H _ I h) fun us s1 ⟨vs, H1, I1, r, q⟩ => ⟨I1.kIn, ?_⟩) he hpl
  exact run_fnE F hr hb hd hx hex I1 r q
theorem pe_call0E (F : FnOk X.prog X.w X.K X.mg X.base (CX1 X.prog X.w) k f fd ps sp) (hr : Room k X.A) (hg : Gl X x) (hm : X.mg x = some (.ref f)) (hk : PySem.W.keepIn X.K (.ref f) = true) (hb : Binds X.K fd ps ds) (hd : Vals dvs ds)
    (hx : Catches X EH) (hex : X.ex = [] := by rfl) (hdb : (x == ("__debug__" : Str)) = false := by decide) : PE X (.Call (.Name x p) [] [] pos) (tCallE sp dvs EH tNil) := by
  intro pins s σ H Q I h
  refine wpAny_Call_Name_kw (ld_glob I hg hm ?_ hdb)
  exact PySem.W.callWith_K0 I.kIn hk (run_fnE (us := []) F hr hb hd hx hex I .nil h)
end
/-! ### a def that may raise, by its body -/
section
variable {P : Program} {w : World} {K : PySem.W.Frag} {mg : Str → Option Value} {base : Heap}
theorem Fun.okE {x qual : Str} {st : Stmt} {f : Addr} {fd : FuncData} {N ps : List Str} {k : Nat} {sp : Sp} (F : Fun K x qual st f fd) (S : FnScope N ps (defScope st)) (len : ∀ vs H Q E, sp vs H Q E → vs.length = ps.length)
    (hbody : ∀ (X : Cx) (cdv : Value) (A : Around) (outer : List Env) (s : Shared) (H : Hp) (vs : List V) (Q : VK) (E : XK), X = cxOf (CX1 P w) P w K mg base N qual (defScope st) f cdv A outer s H E → Room k X.A → Catches X (fun C dd _ H' => E C dd H') → sp vs H Q E →
      ∃ t, PSs (cxOf (CX1 P w) P w K mg base N qual (defScope st) f cdv A outer s H E) (defBody st) t ∧ t { nx := fun _ H' => Q .non H', rt := Q } (start N vs) H) : FnOk P w K mg base (CX1 P w) (k + 1) f fd ps sp := by
  obtain ⟨oc, od, kV, doc, pm, an, cdv, ct, osl, rfl, lk, hc⟩ := F.ex
  exact fn_of lk hc S len fun A outer s H vs Q E hr h => hbody _ cdv A outer s H vs Q E rfl hr catches_fn h
/-- a def that lets none go -/
theorem FnOk.up {k : Nat} {f : Addr} {fd : FuncData} {ps : List Str} {sp : Sp} (F : FnOk P w K mg base CX0 k f fd ps sp) : FnOk P w K mg base (CX1 P w) k f fd ps sp := by
  refine ⟨F.len, fun A outer s H args us vs Q E hr e0 hb r h => codeAny_mono (F.run A outer s H args us vs Q E hr e0 hb r h) fun r s' q => ?_⟩
  cases r with
  | error e => exact False.elim q
  | ok fl => cases fl <;> exact q
end
end L2
set_option Elab.async false
set_option linter.all false
set_option maxRecDepth 100000
set_option maxHeartbeats 4000000
namespace L2
open PySem PySem.Spec PyProof.Rows PySem.W
/-! ### raise C(..) of an own class -/
theorem exc_obj {K : Frag} {h : Heap} {C : Addr} {bmB : List Value} {newId : String} (X : K.In h) (q : excIn K C bmB newId = true) :
    ∃ (bm : List Value) (N : Addr) (nm qn : Str) (bs : List Value) (hd : Bool) (sn : List Str) (sub : List Value) (ab : Bool) (col : Option Bool) (dd : Option Addr) (k0 k1 k2 k3 k5 : Option Value) (mN : Str → Option Value),
      h.get? C = some (excClassObj nm qn C N bs bm hd sn sub ab col dd k0 k1 k2 k3 k5 newId) ∧ h.Ns N mN ∧ mN "__init__" = none ∧ OwnTail h bmB bm := by
  unfold excIn at q
  split at q
  · rename_i dd cd sl ho
    split at q
    · rename_i C' bm k0 k1 k2 k3 n k5 hm hs
      simp only [Bool.and_eq_true, beq_iff_eq, Bool.not_eq_true'] at q
      obtain ⟨⟨⟨⟨⟨r1, r2⟩, r3⟩, r4⟩, r5⟩, r6⟩ := q
      subst r1 r2
      obtain ⟨a1, a2, a3, a4, a5, a6, a7, a8, a9, a10, a11⟩ := cd
      dsimp only at hm r3 r5 r6
      subst hm r3
      have hsl : sl = #[k0, k1, k2, k3, some (.builtin n), k5] := by
        obtain ⟨l⟩ := sl
        simp only at hs
        rw [hs]
      subst hsl
      exact ⟨bm, a4, a1, a5, a2, a6, a7, a8, a9, a10, dd, k0, k1, k2, k3, k5, _, X _ _ ho, .of_isNs (isNs_of_in X r5), nsMap_none_of_in X r5 r6, tail_of_in X r4⟩
    · cases q
  · cases q
section
variable {X : Cx} {x : Str} {p cpos pos : Pos} {e : Expr} {es : List Expr} {t : TA} {C : Addr} {bmB : List Value} {B newId initId : String} {EH : EK}
def tRaise (C : Addr) (EH : EK) (t : TA) : TS := fun _ σ H => t σ H fun vs H1 => vs.length ≤ sizeLine ∧ EH (.ref C) none σ H1
theorem ps_raise (hg : Gl X x) (hm : X.mg x = some (.ref C)) (q : excIn X.K C bmB newId = true) (FB : ExcBaseFacts B newId initId bmB) (hh : X.A.handled = none) (hx : Catches X EH) (ha : PA X (e :: es) t) (hex : X.ex = [] := by rfl)
    (hdb : (x == ("__debug__" : Str)) = false := by decide) (he : starEach (e :: es) X.env = (false, eval e X.env) :: starEach es X.env := by rfl) (hpl : (backTo cpos (starEach es X.env)).any (·.1) = false := by rfl) :
    PS X (.Raise (some (.Call (.Name x p) (e :: es) [] cpos)) none pos) (tRaise C EH t) := by
  intro pins s σ H D I h
  obtain ⟨bm, N, nm, qn, bs, hd, sn, sub, ab, col, dd, k0, k1, k2, k3, k5, mN, hC, hN, hni, T⟩ := exc_obj I.ok.mod.kin q
  refine wpAny_Raise_call_subT (C := C) (nm := nm) (q := qn) (N := N) (bs := bs) (bm := bm) (hdct := hd) (sn := sn) (sub := sub) (ab := ab) (col := col) (dd := dd) (k0 := k0) (k1 := k1) (k2 := k2) (k3 := k3) (k5 := k5) FB (mN := mN) (T.hasType FB.hasBase) hh
    (by rw [he]; show (false || (backTo cpos (starEach es X.env)).any (·.1)) = false; rw [hpl]; rfl) hni (ld_glob I hg hm ⟨rfl, ?_⟩ hdb)
  have ha' := ha cpos pins s σ H _ I h
  rw [he] at ha' ⊢
  refine Calls.evalArgs_plain (wpAny_mono ha' (fun us s2 ⟨vs, H1, I1, r, z, q⟩ => ⟨rfl, by rw [← r.length]; exact z, I1.bk _ _ hC, hN.keeps I1.bk, T.keeps I1.bk, fun h' a m => ?_⟩) fun _ _ y => y)
  have I2 : Inv X pins σ H1 { s2 with heap := h' } := I1.kept (t' := s2.toks) m.keeps
  obtain ⟨t', e1, tn, e2⟩ := m.there
  exact hx pins σ H1 _ a t' (.ref C) none I2 ⟨I1.nw hex m.new (I1.hok.new m.new), .none, e1, .inl rfl, fun T z => nomatch z⟩ q
end
/-! ### except R as n -/
section
variable {X : Cx} {pins : List (Addr × Obj)} {σ : St} {H : Hp} {s : Shared}
end
/-- within a try's body: the pins are kept, exceptions go to E -/
abbrev Cx.hold (X : Cx) (pins : List (Addr × Obj)) (E : Value → Shared → Prop) : Cx := { X with pn := X.pn ++ pins, xe := E }
/-- within an except suite: the exception at a is handled; none leaves -/
abbrev Cx.hnd (X : Cx) (pins : List (Addr × Obj)) (a : Addr) : Cx := { X with A := X.A.mark (some (.ref a)), calm := false, pn := X.pn ++ pins, xe := fun _ _ => False }
section
variable {X : Cx} {pins pins' : List (Addr × Obj)} {σ : St} {H : Hp} {s : Shared} {a : Addr} {E : Value → Shared → Prop}
theorem Inv.hold (I : Inv X pins σ H s) : Inv (X.hold pins E) [] σ H s :=
  ⟨⟨I.ok.mod, I.ok.kind, I.ok.glob, I.ok.blt, I.ok.above, I.ok.inj, I.ok.has, I.ok.cab, I.ok.hd, I.ok.frames, I.ok.stk, I.ok.exf, I.ok.bs, I.ok.bsz, I.ok.noex, I.ok.exfs, I.ok.funs, I.ok.frf⟩,
    I.os, I.bare, I.base, I.loc, I.cell, I.free, I.freeC, fun p hp => I.pin p (by simpa using hp), I.hok, I.len⟩
theorem Inv.hnd (I : Inv X pins σ H s) : Inv (X.hnd pins a) [] σ H s :=
  ⟨⟨I.ok.mod, I.ok.kind, I.ok.glob, I.ok.blt, I.ok.above, I.ok.inj, I.ok.has, I.ok.cab, (fun z => nomatch z), I.ok.frames, I.ok.stk, I.ok.exf, I.ok.bs, I.ok.bsz, I.ok.noex, I.ok.exfs, I.ok.funs, I.ok.frf⟩,
    I.os, I.bare, I.base, I.loc, I.cell, I.free, I.freeC, fun p hp => I.pin p (by simpa using hp), I.hok, I.len⟩
end
theorem looks_isType {K : Frag} {M : Model} {h : Heap} {R : Addr} (X : K.In h) (c : (clsIn K R).isSome = true) : Looks M h (isType (.ref R)) true := by
  unfold clsIn at c
  split at c
  · rename_i ho
    intro A' Q' E' s' k q
    unfold isType loadHead
    exact wpAny_bind (wpAny_loadPart (k _ _ (X _ _ ho)) (wpAny_pure q))
  · cases c
end L2
set_option Elab.async false
set_option linter.all false
set_option maxRecDepth 100000
set_option maxHeartbeats 4000000
namespace L2
open PySem PySem.Spec PyProof.Rows PySem.W
section
variable {X : Cx} {x n : Str} {np hpos pos : Pos} {R : Addr} {i : Nat} {body suite : List Stmt} {b₀ : Stmt} {tb : EK → TS} {ts : Addr → TS}
end
end L2
set_option Elab.async false
set_option linter.all false
set_option maxRecDepth 100000
set_option maxHeartbeats 4000000
namespace L2
open PySem PySem.Spec PyProof.Rows PySem.W
/-! ### isinstance of an exception of an own class -/
structure ExcK (K : Frag) (C : Addr) : Prop where
  ga : findIn K (.ref C) "__getattribute__" = some (some (.builtin "BaseException.__getattribute__"))
  gh : findIn K (.ref C) "__getattr__" = some none
  ca : findIn K (.ref C) "__class__" = some (some (.builtin "object.__class__"))
  sn : specialIn K (.builtin "object.__class__") "__get__" = some (some (.builtin "getset_descriptor.__get__"))
  tk : takesIn K (.builtin "object.__class__") = some true
  ob : mroIn K C (.type "object") = some true
  be : subIn K (.ref C) (.type "BaseException") = some true
  cl : (clsIn K C).isSome = true
theorem exc_class_attr {prog : Program} {w : World} {A : Around} {E : Value → Shared → Prop} {s : Shared} {K : Frag} {a C : Addr} {oa : Obj} {od : Option Obj} {Q : Option Value → Shared → Prop} (F : ExcK K C) (X : K.In s.heap) (I : PySem.W.InstAt s.heap a oa C od)
    (h : Q (some (.ref C)) { s with toks := s.toks + 1 }) : wpAny (model prog w) A (getAttr? (.ref a) "__class__") Q E s := by
  obtain ⟨hp, g, d, t, os⟩ := s
  have L0 := I.type (M := model prog w)
  have L1 := looks_findIn (M := model prog w) X F.ga
  have L2 := looks_findIn (M := model prog w) X F.gh
  have L3 : Looks (model prog w) hp (isInstance (.ref a) (.type "BaseException")) true := L0.andThen (looks_subIn X F.be)
  have hf : findObj K C od "__class__" = some (.bind (.builtin "getset_descriptor.__get__") (.builtin "object.__class__")) := by
    obtain ⟨cd, hc⟩ := Option.isSome_iff_exists.mp F.cl
    unfold findObj
    rw [hc, Option.bind_some, F.ca, Option.bind_some]
    simp [F.sn, F.tk]
  have L4 := looks_find (M := model prog w) X I hf
  have hk : builtinKind "BaseException.__getattribute__" = some .slot := by decide +kernel
  have hsplit : splitId "BaseException.__getattribute__" = some ("BaseException", "__getattribute__") := by decide +kernel
  have hargs := PySem.F.args_bexc_ga (.ref a) (.str "__class__" t)
  have hb := PySem.F.attr_ValueError.ga.bind (.ref a)
  unfold getAttr? getAttrBy? getAttrBy
  refine wpAny_bind (wpAny_mkText (wpAny_bind (wpAny_attempt (wpAny_holding (wpAny_bind (L0.at (wpAny_bind (L1.at ?_))))))))
  dsimp only
  rw [if_neg (show ¬ ((onTheHeap (Value.ref C) && Value.builtin "BaseException.__getattribute__" == Value.builtin "object.__getattribute__") = true) by
    rw [show (Value.builtin "BaseException.__getattribute__" == Value.builtin "object.__getattribute__") = false by decide +kernel, Bool.and_false]; exact Bool.false_ne_true)]
  unfold getAttrByItsOwn
  refine wpAny_bind (m := hookBefore (.ref C)) (L2.at ?_)
  refine wpAny_bind (wpAny_attempt (wpAny_holding ?_))
  unfold callGetattribute
  rw [if_neg (by decide)]
  unfold boundAndCalled
  rw [hb]
  refine wpAny_bind (wpAny_pure ?_)
  refine wpAny_call (codeAny_call_builtin PySem.F.attr_ValueError.ga.plain PySem.F.entry_bexc_ga ?_)
  have chk : ∀ {A' : Around} {Q' : Unit → Shared → Prop} {E' : Value → Shared → Prop}, Q' () ⟨hp, g, d, t + 1, os⟩ → wpAny (model prog w) A' (checkBuiltinCall "BaseException.__getattribute__" ⟨[.ref a, .str "__class__" t], []⟩) Q' E' ⟨hp, g, d, t + 1, os⟩ := by
    intro A' Q' E' hq
    simp only [checkBuiltinCall, hk, hsplit]
    refine wpAny_bind ?_
    refine L3.at ?_
    repeat (first | assumption | wp_step)
  refine chk ?_
  show wpAny _ _ (Builtin.«object.__getattribute__» ⟨[.ref a, .str "__class__" t], []⟩) _ _ _
  unfold Builtin.«object.__getattribute__»
  refine wpAny_bind (wpAny_pure ?_)
  refine wpAny_bind (wpAny_pure ?_)
  refine wpAny_bind (L0.at (wpAny_bind (L4.at ?_)))
  dsimp only
  show wpAny _ _ (holding [Value.builtin "object.__class__"] (call (.builtin "getset_descriptor.__get__") [.builtin "object.__class__", .ref a, .ref C]) >>= ret) _ _ _
  refine wpAny_bind (wpAny_holding (wpAny_call (class_get (s := ⟨hp, g, d, t + 1, os⟩) X I F.ob (wpAny_pure ?_))))
  exact handed_on rfl (wpAny_pure h)
end L2
set_option Elab.async false
set_option linter.all false
set_option maxRecDepth 100000
set_option maxHeartbeats 4000000
namespace L2
open PySem PySem.Spec PyProof.Rows PySem.W
/-! ### iterators, within an except suite too -/
/-- nothing is handled, or an exception that is known and has no context -/
def HdOk (X : Cx) : Prop := X.A.handled = none ∨ ∃ x o u vs, X.A.handled = some (.ref x) ∧ X.H₀ x = some (.frz o u) ∧ o.data = .fields vs ∧ vs[2]? = some .none
section
variable {X : Cx} {pins : List (Addr × Obj)} {σ : St} {H : Hp} {s : Shared}
/-- .. also where an iterator that is nobody's has turned -/
theorem Inv.hdB {it : Addr} (I : Inv X pins σ H s) (h : HdOk X) (hn : H it = none) : ∀ h' : Heap, Heap.ExtBut it s.heap h' → Hd X.A h' := by
  intro h' k
  rcases h with z | ⟨x, o, u, vs, z, e, d, n⟩
  · exact .inl z
  · have q := I.base.frzs x o u e
    exact .inr ⟨x, o, vs, z, k x o (fun w => by rw [w, hn] at q; cases q) (I.hok x _ q).1, d, n⟩
end
structure TurnH (P : Program) (w : World) (K : Frag) (tg : Expr) (J : It) (it : Addr) (tn : Nat → Heap → Prop) : Prop where
  obj : ∀ i h, tn i h → ∃ o, h.get? it = some o ∧ ∀ v, o.data ≠ .cell v
  keep : ∀ i h h', tn i h → (∀ o, h.get? it = some o → h'.get? it = some o) → tn i h'
  item : ∀ (X : Cx), X.prog = P → X.w = w → X.K = K → HdOk X → ∀ (i : Nat) (pins : List (Addr × Obj)) (s : Shared) (σ : St) (H : Hp) (E : Value → Shared → Prop), Inv X pins σ H s → FpOk X pins H it → tn i s.heap → J.go i H →
    wpAny (model P w) X.A (pyNext (.ref it)) (fun r s1 => ∃ u, r = some u ∧
      wpAny (model P w) X.A (letOwnedTupleGo tg (.ref it) u) (fun _ s2 => ∃ x, Inv X pins σ H s2 ∧ RelV x u ∧ J.yld i H x H ∧ tn (i + 1) s2.heap) E s1) E s
  done : ∀ (X : Cx), X.prog = P → X.w = w → X.K = K → HdOk X → ∀ (i : Nat) (pins : List (Addr × Obj)) (s : Shared) (σ : St) (H : Hp) (E : Value → Shared → Prop), Inv X pins σ H s → FpOk X pins H it → tn i s.heap → J.stop i H →
    wpAny (model P w) X.A (pyNext (.ref it)) (fun r s1 => r = none ∧ Inv X pins σ H s1) E s
  self : ∀ (A : Around) (i : Nat) (s : Shared) (Q : Value → Shared → Prop) (E : Value → Shared → Prop), tn i s.heap → Q (.ref it) s → wpAny (model P w) A (pyIter (.ref it)) Q E s
theorem turnH_list {P : Program} {w : World} {K : Frag} {tg : Expr} (a it : Addr) : TurnH P w K tg (Itl K a) it (fun i h => h.IsListIter it a i) where
  obj := fun i h ⟨o, e, c, d⟩ => ⟨o, e, fun v z => by rw [d] at z; cases z⟩
  keep := fun i h h' st k => st.at fun o e => k o e
  item := by
    intro X hP hw hK hc i pins s σ H E I hf st hg
    subst hP hw hK
    obtain ⟨xs, x, hq, hx⟩ := hg
    obtain ⟨its, rv, p, hz⟩ := I.list hq
    obtain ⟨u, hu, ru⟩ := rv.get hx
    obtain ⟨f0, f1, f2, f3, f4, f5⟩ := hf
    refine wpAny_pyNext_list_item st p.isList (x := u) (by simpa using hu) fun h' st' sb => ?_
    have I1 : Inv X pins σ H { s with heap := h' } := I.turned (t' := s.toks) (fun b o hb e => (sb.2 b hb).trans e) f0 f1 f3 f4 f5
    obtain ⟨o, e, c, d⟩ := id st'
    exact ⟨u, rfl, go_of (s := { s with heap := h' }) e c d (by decide) ⟨x, I1, ru, ⟨rfl, fun ys hy => by rw [I.list_inj hy hq]; exact hx⟩, st'⟩⟩
  done := by
    intro X hP hw hK hc i pins s σ H E I hf st hg
    subst hP hw hK
    obtain ⟨xs, hq, hx⟩ := hg
    obtain ⟨its, rv, p, hz⟩ := I.list hq
    obtain ⟨f0, f1, f2, f3, f4, f5⟩ := hf
    have hl := rv.length
    exact next_list_end_hd (I.hdB hc f0) st p.isList (by simp; omega) fun h' eb => ⟨rfl, I.turned (t' := s.toks) (fun b o hb e => eb b o hb e) f0 f1 f3 f4 f5⟩
  self := fun _ _ _ _ _ st h => wpAny_pyIter_listiter st h
theorem turnH_tup {P : Program} {w : World} {K : Frag} {tg : Expr} (a it : Addr) : TurnH P w K tg (Itt K a) it (fun i h => h.IsTupleIter it a i) where
  obj := fun i h ⟨o, e, c, d⟩ => ⟨o, e, fun v z => by rw [d] at z; cases z⟩
  keep := fun i h h' st k => st.at fun o e => k o e
  item := by
    intro X hP hw hK hc i pins s σ H E I hf st hg
    subst hP hw hK
    obtain ⟨xs, x, hq, hx⟩ := hg
    obtain ⟨its, rv, p, hz⟩ := I.tuple hq
    obtain ⟨u, hu, ru⟩ := rv.get hx
    obtain ⟨f0, f1, f2, f3, f4, f5⟩ := hf
    refine wpAny_pyNext_tuple_item st (show s.heap.IsTuple a its.toArray from p) (x := u) (by simpa using hu) fun h' st' sb => ?_
    have I1 : Inv X pins σ H { s with heap := h' } := I.turned (t' := s.toks) (fun b o hb e => (sb.2 b hb).trans e) f0 f1 f3 f4 f5
    obtain ⟨o, e, c, d⟩ := id st'
    exact ⟨u, rfl, go_of (s := { s with heap := h' }) e c d (by decide) ⟨x, I1, ru, ⟨rfl, fun ys hy => by rw [I.tuple_inj hy hq]; exact hx⟩, st'⟩⟩
  done := by
    intro X hP hw hK hc i pins s σ H E I hf st hg
    subst hP hw hK
    obtain ⟨xs, hq, hx⟩ := hg
    obtain ⟨its, rv, p, hz⟩ := I.tuple hq
    obtain ⟨f0, f1, f2, f3, f4, f5⟩ := hf
    have hl := rv.length
    exact next_tup_end_hd (I.hdB hc f0) st p (by simp; omega) fun h' eb => ⟨rfl, I.turned (t' := s.toks) (fun b o hb e => eb b o hb e) f0 f1 f3 f4 f5⟩
  self := fun _ _ _ _ _ st h => wpAny_pyIter_tupleiter st h
def PIH (X : Cx) (tg iter : Expr) (wi : TI) : Prop :=
  ∀ (pins : List (Addr × Obj)) (s : Shared) (σ : St) (H : Hp) (R : It → Hp → Prop), Inv X pins σ H s → wi σ H R →
    wpAny (model X.prog X.w) X.A (eval iter X.env) (fun v s1 => wpAny (model X.prog X.w) X.A (pyIter v) (fun itv s2 => ∃ (it : Addr) (tn : Nat → Heap → Prop) (J : It) (H' : Hp), itv = .ref it ∧ Inv X pins σ H' s2 ∧ TurnH X.prog X.w X.K tg J it tn ∧ tn 0 s2.heap ∧
      FpOk X pins H' it ∧ R J H') X.xe s1) X.xe s
section
variable {X : Cx} {tg : Expr}
theorem pih_list {l : Expr} {tl : TE} (hl : PE X l tl) : PIH X tg l (iList X.K tl) := by
  intro pins s σ H R I h
  refine thn (hl pins s σ H _ I h) fun v s1 ⟨x, H1, I1, r1, q1⟩ => ?_
  obtain ⟨a, e, ⟨xs, hq⟩, q⟩ := q1
  subst e
  cases r1
  obtain ⟨its, rv, p, hz⟩ := I1.list hq
  exact wpAny_pyIter_list p.isList ⟨s1.heap.objs.size, _, _, H1, rfl, I1.kept (t' := s1.toks) fun b o e => Heap.get?_push_of_some _ e, turnH_list a _, ⟨_, Heap.get?_push_size _ rfl, rfl, rfl⟩, I1.fpOk (Nat.le_refl _) (I1.hok.fresh (Nat.le_refl _)), q⟩
theorem pih_tup {l : Expr} {tl : TE} (hl : PE X l tl) : PIH X tg l (iTup X.K tl) := by
  intro pins s σ H R I h
  refine thn (hl pins s σ H _ I h) fun v s1 ⟨x, H1, I1, r1, q1⟩ => ?_
  obtain ⟨a, e, ⟨xs, hq⟩, q⟩ := q1
  subst e
  cases r1
  obtain ⟨its, rv, p, hz⟩ := I1.tuple hq
  exact wpAny_pyIter_tuple (show s1.heap.IsTuple a its.toArray from p) ⟨s1.heap.objs.size, _, _, H1, rfl, I1.kept (t' := s1.toks) fun b o e => Heap.get?_push_of_some _ e, turnH_tup a _, ⟨_, Heap.get?_push_size _ rfl, rfl, rfl⟩, I1.fpOk (Nat.le_refl _) (I1.hok.fresh (Nat.le_refl _)), q⟩
end
end L2

set_option Elab.async false
set_option linter.all false
set_option maxRecDepth 100000
set_option maxHeartbeats 4000000
namespace L2
open PySem PySem.Spec PyProof.Rows PySem.W
theorem kc0_loop {prog : Program} {w : World} {A : Around} {s : Shared} {elt target iter : Expr} {scope : Scope} {pos : Pos} {it acc : Value} {env : Env} {R : Result → Shared → Prop} (I : Nat → Shared → Prop)
    (turn : ∀ n s, I n s → wpAny (model prog w) A (pyNext it) (fun r s₁ => match r with
      | none => R (.ok .next) s₁
      | some v => wpAny (model prog w) A (letOwnedTupleGo target it v) (fun _ s₀ => wpAny (model prog w) A (assign target env v) (fun _ s₂ => wpAny (model prog w) A (eval elt env) (fun x s₄ =>
          wpAny (model prog w) A (call (.builtin "list.append") [acc, x]) (fun _ s₅ => ∃ m, m < n ∧ I m s₅) (notedBy (model prog w) A env fun e s' => R (.error e) s') s₄) (notedBy (model prog w) A env fun e s' => R (.error e) s') s₂)
          (notedBy (model prog w) A env fun e s' => R (.error e) s') s₀) (notedBy (model prog w) A env fun e s' => R (.error e) s') s₁) (notedBy (model prog w) A env fun e s' => R (.error e) s') s)
    (n : Nat) (h : I n s) : codeAny (model prog w) A (.compLoop (.ListComp elt [⟨target, iter, [], 0⟩] scope pos) 0 it acc env) R s := by
  refine codeAny_loop rfl I (fun n s hI => ?_) n h
  show wpAny _ A ((compTurn (.ListComp elt [⟨target, iter, [], 0⟩] scope pos) 0 it acc env).onRaise (fun x => do noteFrame x env; theTreesLotGoes x)) _ _ s
  refine wpAny_noted ?_; rw [compTurn_list1]
  refine wpAny_bind (wpAny_standAt (wpAny_bind (wpAny_mono (turn n s hI) (fun r s₁ h₁ => ?_) fun _ _ z => z)))
  cases r with
  | none => exact wpAny_pure h₁
  | some v =>
    refine wpAny_bind (wpAny_mono h₁ (fun _ s₀ q₀ => ?_) fun _ _ z => z)
    refine wpAny_bind (wpAny_mono q₀ (fun _ s₂ q₂ => ?_) fun _ _ z => z)
    exact wpAny_bind (wpAny_bind (wpAny_mono q₂ (fun x s₄ q₄ => wpAny_bind (wpAny_mono q₄ (fun _ s₅ q₅ => wpAny_pure (wpAny_pure ⟨rfl, q₅⟩)) fun _ _ z => z)) fun _ _ z => z))
section
variable {X : Cx}
/-- the comprehension as a value -/
theorem letgo {pins : List (Addr × Obj)} {σ : St} {H : Hp} {s : Shared} {C : Addr} {h' : Heap} (I : Inv X pins σ H s) (f : FpOk X pins H C) (sb : Heap.SameBut C s.heap h') : Inv X pins σ H { s with heap := h' } :=
  I.turned (t' := s.toks) (fun b o hb e => (sb.2 b hb).trans e) f.1 f.2.1 f.2.2.2.1 f.2.2.2.2.1 f.2.2.2.2.2
end
end L2
set_option Elab.async false
set_option linter.all false
set_option maxRecDepth 100000
set_option maxHeartbeats 4000000
namespace L2
open PySem PySem.Spec PyProof.Rows PySem.W
section
variable {X : Cx} {a b c : Expr} {ta tb tc : TE} {pos : Pos}
/-! ### great ints -/
theorem op_mulK : OpR X (binaryOp .Mult) (rI IntMulOk fun i j => .int (i * j)) := opI fun _ _ _ _ _ _ _ hc q => mul_int q hc
theorem op_fdivK : OpR X (binaryOp .FloorDiv) (rI (fun _ j => 0 < j ∧ j.natAbs.log2 < 9000) fun i j => .int (i / j)) := opI fun i j _ _ _ _ _ hc q => by
  have h1 : (0 : Int) < j := hc.1
  exact floordiv_int (by omega) (by rw [Int.fdiv_eq_ediv_of_nonneg i (by omega)]; exact q) (.inl (PyProof.noPylong_of_log2 hc.2))
theorem log2_small {i : Int} {k : Nat} (h : i.natAbs < 2 ^ k) (hk : 0 < k) : i.natAbs.log2 < k := by
  by_cases z : i.natAbs = 0
  · rw [z]; simpa using hk
  · exact (Nat.log2_lt z).mpr h
theorem bits_small {i : Int} (h : i.natAbs < 2 ^ 1000) : Builtin.Int.intBits i ≤ 2 ^ 20 := by
  unfold Builtin.Int.intBits
  split
  · exact Nat.zero_le _
  · have := log2_small h (by decide)
    have e : (2 : Nat) ^ 20 = 1048576 := by decide
    omega
theorem mulOk_small {i j : Int} (h : i.natAbs < 2 ^ 1000) (h' : j.natAbs < 2 ^ 1000) : IntMulOk i j := IntMulOk.of_bits (bits_small h) (bits_small h')
/-! ### isinstance -/
/-- the type of a value, an exception that is known too -/
inductive TyE (K : Frag) (H : Hp) : V → Value → Prop where
  | of {x : V} {t : Value} (h : TyOf K H x t) : TyE K H x t
  | exc {a C t : Addr} {T : Value} {u : HO} (e : H a = some (.frz (ExcO (.ref C) t none T) u)) (k : ExcK K C) : TyE K H (.ref a) (.ref C)
  | excD {a C t : Addr} {T : Value} {d : Addr} {u : HO} {fs : List (Str × V)} (e : H a = some (.frz (ExcO (.ref C) t (some d) T) u)) (hd : H d = some (.xd fs)) (k : ExcK K C) : TyE K H (.ref a) (.ref C)
  | tupK {a : Addr} {o : Obj} (l : K.lookup a = some o) (c : o.cls = .type "tuple") : TyE K H (.ref a) (.type "tuple")
theorem isinst_okE {pins : List (Addr × Obj)} {σ : St} {H : Hp} {s : Shared} {A : Around} {E : Value → Shared → Prop} {Q : Value → Shared → Prop} {c : Value} {b : Bool} {x : V} {u t : Value} (I : Inv X pins σ H s) (rx : RelV x u) (ty : TyE X.K H x t)
    (e : kitOne X.K t c = some b) (h : ∀ tk, Q (.bool b) { s with toks := tk }) : wpAny (model X.prog X.w) A (call (.builtin "isinstance") [u, c]) Q E s := by
  cases ty with
  | of h' => exact isinst_ok I rx h' e h
  | exc ea k =>
    cases rx
    rename_i a C t0 T u0
    have o1 : s.heap.get? a = some (ExcO (.ref C) t0 none T) := (I.hok a _ ea).1
    refine kia_one (H := fun h => PySem.W.InstAt h a (ExcO (.ref C) t0 none T) C none) ?_ I.kIn ⟨o1, rfl, rfl, trivial⟩ e (fun z => nomatch z) h
    refine ⟨fun M h _ J => J.type, fun M h K _ => looks_isType K k.cl, fun h tp dd its n sl K htp => ?_, fun K J q => exc_class_attr k K J q⟩
    refine Bool.eq_false_iff.mpr fun q => ?_
    have e : C = tp := Value.ref.inj (beq_iff_eq.mp q)
    subst e
    have z := k.cl
    unfold clsIn at z
    split at z
    · rename_i ho
      have y := (K _ _ ho).symm.trans htp
      cases y
    · cases z
  | tupK l c =>
    cases rx
    exact PySem.W.kia_one PySem.W.kitx_tuple I.kIn ⟨_, I.kIn _ _ l, c⟩ e (fun z => nomatch z) h
  | excD ea hd k =>
    cases rx
    rename_i a C t0 T d u0 fs
    have o1 : s.heap.get? a = some (ExcO (.ref C) t0 (some d) T) := (I.hok a _ ea).1
    obtain ⟨mA, nA, _⟩ := (show ∃ mA, s.heap.Ns1 d mA ∧ ∀ f, RelO (fs.lookup f) (mA f) from I.hok d _ hd)
    obtain ⟨od, o2, _⟩ := lookIn_ns nA
    refine kia_one (H := fun h => PySem.W.InstAt h a (ExcO (.ref C) t0 (some d) T) C (some od)) ?_ I.kIn ⟨o1, rfl, rfl, o2⟩ e (fun z => nomatch z) h
    refine ⟨fun M h _ J => J.type, fun M h K _ => looks_isType K k.cl, fun h tp dd its n sl K htp => ?_, fun K J q => exc_class_attr k K J q⟩
    refine Bool.eq_false_iff.mpr fun q => ?_
    have e : C = tp := Value.ref.inj (beq_iff_eq.mp q)
    subst e
    have z := k.cl
    unfold clsIn at z
    split at z
    · rename_i ho
      have y := (K _ _ ho).symm.trans htp
      cases y
    · cases z
/-- a class, as a value -/
def clsV : V → Option Value
  | .ty n => some (.type n)
  | .ref a => some (.ref a)
  | _ => none
theorem call_isinst : CallR X (.builtin "isinstance") (fun xs H Q => ∃ x c cv t b, xs = [x, c] ∧ clsV c = some cv ∧ TyE X.K H x t ∧ kitOne X.K t cv = some b ∧ Q (.bl b) H) := by
  intro pins s σ H xs us Q I r h
  obtain ⟨x, c, cv, t, b, rfl, hc, ty, e, q⟩ := h
  obtain ⟨u, v, rfl, ru, rv⟩ := Vals.two r
  have : v = cv := by
    cases c <;> simp only [clsV] at hc <;> first | (cases hc; exact rv) | cases hc
  subst this
  exact isinst_okE I ru ty e fun tk => ⟨.bl b, H, I.tok tk, rfl, q⟩
/-! ### == of data -/
mutual
/-- a value as data: flat ones, tuples and lists of such -/
inductive RdD (K : Frag) (H : Hp) : V → PyData → Prop where
  | non : RdD K H .non .none
  | bl (b : Bool) : RdD K H (.bl b) (.bool b)
  | int (i : Int) : RdD K H (.int i) (.int i)
  | str (x : Str) : RdD K H (.str x) (.str x)
  | tup {a : Addr} {xs : List V} {ds : List PyData} (h : SqT K H a xs) (r : RdDs K H xs ds) : RdD K H (.ref a) (.tuple ds)
  | lst {a : Addr} {xs : List V} {ds : List PyData} (h : SqL K H a xs) (r : RdDs K H xs ds) : RdD K H (.ref a) (.list ds)
inductive RdDs (K : Frag) (H : Hp) : List V → List PyData → Prop where
  | nil : RdDs K H [] []
  | cons {x : V} {xs : List V} {d : PyData} {ds : List PyData} (h : RdD K H x d) (r : RdDs K H xs ds) : RdDs K H (x :: xs) (d :: ds)
end
mutual
theorem RdD.reads {pins : List (Addr × Obj)} {σ : St} {H : Hp} {s : Shared} (I : Inv X pins σ H s) : ∀ {x : V} {d : PyData} {u : Value}, RdD X.K H x d → RelV x u → ∃ as, Reads s.heap u d as
  | _, _, _, .non, r => by cases r; exact ⟨_, .none⟩
  | _, _, _, .bl b, r => by cases r; exact ⟨_, .bool b⟩
  | _, _, _, .int i, r => by obtain ⟨t, rfl⟩ := r; exact ⟨_, .int i t⟩
  | _, _, _, .str x, r => by obtain ⟨t, rfl⟩ := r; exact ⟨_, .str x t⟩
  | _, _, _, .tup h q, r => by
    cases r
    obtain ⟨its, rv, ⟨o, e, c, n, d⟩, _⟩ := I.tuple h
    obtain ⟨as, z⟩ := RdDs.reads I q rv
    exact ⟨_, reads_tuple_at e c d (by simpa using z)⟩
  | _, _, _, .lst h q, r => by
    cases r
    obtain ⟨its, rv, p, _⟩ := I.list h
    obtain ⟨o, e, c, n, d⟩ := p.isList
    obtain ⟨as, z⟩ := RdDs.reads I q rv
    exact ⟨_, reads_list_at e c d (by simpa using z)⟩
theorem RdDs.reads {pins : List (Addr × Obj)} {σ : St} {H : Hp} {s : Shared} (I : Inv X pins σ H s) : ∀ {xs : List V} {ds : List PyData} {us : List Value}, RdDs X.K H xs ds → Vals xs us → ∃ as, ReadsAll s.heap us ds as
  | _, _, _, .nil, r => by cases r; exact ⟨_, .nil⟩
  | _, _, _, .cons h q, r => by
    cases r with
    | cons r1 r2 =>
      obtain ⟨as, z⟩ := RdD.reads I h r1
      obtain ⟨bs, y⟩ := RdDs.reads I q r2
      exact ⟨_, .cons z y⟩
end
def rEqD (K : Frag) (n : Bool) : R2 := fun x y H Q => ∃ d e, RdD K H x d ∧ RdD K H y e ∧ SeqAt.shaped d = true ∧ SeqAt.shaped e = true ∧ Q (.bl (if n then !PyData.eqv d e else PyData.eqv d e)) H
theorem op_eqD (hu : X.A.units + 64 < cLine) : OpR X (compareOp .Eq) (rEqD X.K false) := by
  intro pins s σ H x y v u Q I rx ry q
  obtain ⟨d, e, hx, hy, sd, se, q⟩ := q
  obtain ⟨as, z⟩ := hx.reads I rx
  obtain ⟨bs, z'⟩ := hy.reads I ry
  exact eq_dataH z z' sd se hu ⟨.bl (PyData.eqv d e), H, I, rfl, q⟩
theorem op_neD (hu : X.A.units + 64 < cLine) : OpR X (compareOp .NotEq) (rEqD X.K true) := by
  intro pins s σ H x y v u Q I rx ry q
  obtain ⟨d, e, hx, hy, sd, se, q⟩ := q
  obtain ⟨as, z⟩ := hx.reads I rx
  obtain ⟨bs, z'⟩ := hy.reads I ry
  exact ne_dataH z z' sd se hu ⟨.bl (!PyData.eqv d e), H, I, rfl, q⟩
/-! ### any(a list of bools) -/
theorem call_any (hc : X.A.handled = none) : CallR X (.builtin "any") (fun xs H Q => ∃ (l : Addr) (bs : List Bool), xs = [.ref l] ∧ SqL X.K H l (bs.map V.bl) ∧ Q (.bl (bs.any id)) H) := by
  intro pins s σ H xs us Q I r h
  obtain ⟨l, bs, rfl, hl, q⟩ := h
  obtain ⟨u, rfl, ru⟩ := Vals.one r
  cases ru
  obtain ⟨its, rv, p, hz⟩ := I.list hl
  obtain ⟨o, e, _⟩ := id p.isList
  have hlt : l < s.heap.objs.size := Heap.lt_size e
  have hlen : its.length = bs.length := by rw [← rv.length, List.length_map]
  refine call_any_walk (wpAny_pyIter_list p.isList ?_)
  refine ⟨s.heap.objs.size, [s.heap.objs.size, l], [s.heap.objs.size], its.toArray.size, _, _, fun i => (bs[i]?).getD false, rfl, Walks.list (A := X.A.in1) hc _ l (Nat.ne_of_lt hlt) its.toArray, ⟨⟨_, Heap.get?_push_size _ rfl, rfl, rfl⟩, p.isList.push _⟩, fun i v s' Q' E' hP hQ => ?_, fun h' tk hk => ?_⟩
  · have hP : its[i]? = some v := by simpa using hP
    have hi : i < bs.length := by rw [← hlen]; exact (List.getElem?_eq_some_iff.mp hP).1
    obtain ⟨u', hu', ru'⟩ := rv.get (i := i) (x := V.bl bs[i]) (by simp [hi])
    rw [hP] at hu'
    cases hu'
    cases ru'
    have z : (bs[i]?).getD false = bs[i] := by simp [hi]
    dsimp only at hQ
    rw [z] at hQ
    exact wpAny_truthy_bool hQ
  · have z : ((List.range its.toArray.size).any fun i => (bs[i]?).getD false) = bs.any id := by
      rw [List.size_toArray, hlen]
      exact LSm.range_any bs
    rw [z]
    exact ⟨.bl (bs.any id), H, I.kept fun b x e => hk b x (fun hm => by rw [List.mem_singleton.mp hm] at e; exact Nat.lt_irrefl _ (Heap.lt_size e)) (Heap.get?_push_of_some _ e), rfl, q⟩
/-! ### f'a {x} b': some text comes -/
/-- the parts of an f-string: written ones, and ints that are not too long -/
inductive FPart (X : Cx) : Expr → TE → Prop where
  | lit {x : Str} {j : Nat} {pos : Pos} : FPart X (.Constant (.str x) j pos) (tC (.str x))
  | int {v : Expr} {tv : TE} {pos : Pos} (h : PE X v tv) : FPart X (.FormattedValue v (-1) none pos) (fun σ H Q => tv σ H fun y H1 => ∃ i, y = .int i ∧ i.natAbs.log2 < 1920 ∧ Q (.str (toString i)) H1)
theorem FPart.pe {e : Expr} {t : TE} (h : FPart X e t) : PE X e t := by
  cases h with
  | lit => exact pe_str
  | int h =>
    intro pins s σ H Q I q
    refine FormattedValue_plain (thn (h pins s σ H _ I q) fun u s1 ⟨y, H1, I1, r, i, e, l, q⟩ => ?_)
    subst e
    obtain ⟨t, rfl⟩ := r
    exact formatField_int_small l ⟨.str (toString i), H1, I1.tok _, ⟨_, rfl⟩, q⟩
/-- the joined parts, from the left -/
inductive FParts (X : Cx) : List Expr → (Str → TE) → Prop where
  | nil : FParts X [] (fun out _ H Q => out.length ≤ sizeLine ∧ Q (.str out) H)
  | cons {e : Expr} {es : List Expr} {t : TE} {r : Str → TE} (h : FPart X e t) (hr : FParts X es r) : FParts X (e :: es) (fun out σ H Q => t σ H fun x H1 => ∃ y, x = .str y ∧ (out ++ y).length ≤ sizeLine ∧ r (out ++ y) σ H1 Q)
theorem FParts.run {es : List Expr} {t : Str → TE} (h : FParts X es t) : ∀ (out : Str) (pins : List (Addr × Obj)) (s : Shared) (σ : St) (H : Hp) (Q : VK), Inv X pins σ H s → t out σ H Q →
    wpAny (model X.prog X.w) X.A (joinParts out (evalEach es X.env)) (EP X pins σ Q) X.xe s := by
  induction h with
  | nil =>
    intro out pins s σ H Q I q
    exact joinParts_nil ⟨.str out, H, I.tok _, ⟨_, rfl⟩, q.2⟩ q.1
  | @cons e es t r h hr ih =>
    intro out pins s σ H Q I q
    show wpAny _ _ (joinParts out (eval e X.env :: evalEach es X.env)) _ _ _
    refine joinParts_cons (thn (h.pe pins s σ H _ I q) fun u s1 ⟨x, H1, I1, rx, y, ey, z, q⟩ => ?_)
    subst ey
    obtain ⟨t', rfl⟩ := rx
    exact ⟨z, ih _ pins s1 σ H1 Q I1 q⟩
theorem pe_fstr {e1 e2 : Expr} {es : List Expr} {t : Str → TE} {pos : Pos} (h : FParts X (e1 :: e2 :: es) t) : PE X (.JoinedStr (e1 :: e2 :: es) pos) (t Str.empty) := by
  intro pins s σ H Q I q
  exact JoinedStr_many (h.run _ pins s σ H Q I q)
end
end L2
set_option Elab.async false
set_option linter.all false
set_option maxRecDepth 100000
set_option maxHeartbeats 4000000
namespace L2
open PySem PySem.Spec PyProof.Rows PySem.W
/-! ### a def that is called within an except suite -/
structure RoomH (k : Nat) (A : Around) : Prop where
  dp : A.depth + 3 * k + 5 < recursionLimit
  un : A.units + 16 * k + 200 < cLine
theorem Room.h {k : Nat} {A : Around} (r : Room k A) : RoomH k A := ⟨r.dp, r.un⟩
theorem Room.hm {k : Nat} {A : Around} (r : Room k A) (h : Option Value) : RoomH k (A.mark h) := ⟨r.dp, r.un⟩
theorem RoomH.mono {j k : Nat} {A : Around} (r : RoomH k A) (h : j ≤ k) : RoomH j A := ⟨by have := r.dp; omega, by have := r.un; omega⟩
theorem RoomH.deeper {k : Nat} {A : Around} (r : RoomH (k + 1) A) (env : Env) : RoomH k (A.deeper env) :=
  ⟨by have := r.dp; show A.depth + 1 + 3 * k + 5 < _; omega, by have := r.un; show A.units + 3 + 16 * k + 200 < _; omega⟩
theorem RoomH.depth {k : Nat} {A : Around} (r : RoomH k A) : A.depth < recursionLimit := by have := r.dp; omega
def HdH (A : Around) (H : Hp) : Prop := A.handled = none ∨ ∃ x o u vs, A.handled = some (.ref x) ∧ H x = some (.frz o u) ∧ o.data = .fields vs ∧ vs[2]? = some .none
structure FnOkH (P : Program) (w : World) (K : Frag) (mg : Str → Option Value) (base : Heap) (k : Nat) (f : Addr) (fd : FuncData) (ps : List Str) (sp : Sp) : Prop where
  len : ∀ vs H Q E, sp vs H Q E → vs.length = ps.length
  run : ∀ (A : Around) (outer : List Env) (s : Shared) (H : Hp) (args : Args) (us : List Value) (vs : List V) (Q : VK), RoomH k A → Env0 P w K mg base A outer s H → HdH A H → BindsTo s fd args (ps.zip us) → Vals vs us → sp vs H Q E0 →
    codeAny (model P w) A (.call (.ref f) args) (CR CX0 outer P w H s Q E0) s
/-- A without what is handled -/
abbrev quiet (A : Around) : Around := { A with handled := none }
theorem Env0.quiet {P : Program} {w : World} {K : Frag} {mg : Str → Option Value} {base : Heap} {A : Around} {outer : List Env} {s : Shared} {H : Hp} (e : Env0 P w K mg base A outer s H) : Env0 P w K mg base (quiet A) outer s H :=
  ⟨e.frames, e.mod, e.bs, e.bsz, e.funs, e.frf, e.hok, e.bare⟩
section
variable {P : Program} {w : World} {K : Frag} {mg : Str → Option Value} {base : Heap}
/-- it may be called elsewhere too -/
theorem FnOkH.calm {k : Nat} {f : Addr} {fd : FuncData} {ps : List Str} {sp : Sp} (F : FnOkH P w K mg base k f fd ps sp) (h : ∀ vs H Q E, sp vs H Q E → sp vs H Q E0) : FnOk P w K mg base CX0 k f fd ps sp := by
  refine ⟨F.len, fun A outer s H args us vs Q E hr e0 hb r hsp => codeAny_mono (F.run A outer s H args us vs Q hr.h e0 (.inl hr.hd) hb r (h _ _ _ _ hsp)) fun r s' q => ?_⟩
  cases r with
  | error e => exact q
  | ok fl => cases fl <;> exact q
end
section
variable {X : Cx} {k : Nat} {f : Addr} {fd : FuncData} {ps : List Str} {sp : Sp} {x : Str} {p pos : Pos} {e : Expr} {es : List Expr} {t : TA}
end
end L2
set_option Elab.async false
set_option linter.all false
set_option maxRecDepth 100000
set_option maxHeartbeats 4000000
namespace L2
open PySem PySem.Spec PyProof.Rows PySem.W
/-! ### {} -/
theorem Inv.big {X : Cx} {pins : List (Addr × Obj)} {σ : St} {H : Hp} {s : Shared} (I : Inv X pins σ H s) : sysModules < s.heap.objs.size := by
  have h : mainGlobals < s.heap.objs.size := (I.mod.glob.keeps I.bk).lt
  exact Nat.lt_trans (by decide) h
/-! ### where no exception may come -/
abbrev EKF : EK := fun _ _ _ _ => False
theorem catches0 {X : Cx} : Catches X EKF := fun _ _ _ _ _ _ _ _ _ _ h => h.elim
theorem Catches.mono {X : Cx} {E E' : EK} (h : Catches X E) (k : ∀ C d σ H, E' C d σ H → E C d σ H) : Catches X E' := fun pins σ H s a t C dd I F q => h pins σ H s a t C dd I F (k _ _ _ _ q)
/-! ### a def of the text -/
structure Def (K : Frag) (mg : Str → Option Value) (x : Str) (ps : List Str) (st : Stmt) (f : Addr) (fd : FuncData) : Prop where
  F : Fun K x x st f fd
  g : mg x = some (.ref f)
  b : Binds K fd ps []
theorem def_mk {K : Frag} {h : Heap} {mg : Str → Option Value} {x : Str} {ps : List Str} {st : Stmt} {f : Addr} {oc : Value} {od an : Option Addr} {osl : Array (Option Value)} {kV doc pm cdv ct : Value} (X : K.In h) (G : h.Ns mainGlobals mg)
    (a : nsIn K mainGlobals x = some (some (.ref f))) (l : K.lookup f = some ⟨oc, od, .func (fnOf x x (defArgs st) (defBody st) (defScope st) .none kV doc pm an cdv ct), osl⟩) (c : codeIn K cdv x = true) (k : keepIn K (.ref f) = true)
    (hb : ∀ (kV doc pm : Value) (an : Option Addr) (cdv ct : Value) (us : List Value), us.length = ps.length → bindArgs (fnOf x x (defArgs st) (defBody st) (defScope st) .none kV doc pm an cdv ct) ⟨us, []⟩ = pure (ps.zip us)) :
    Def K mg x ps st f (fnOf x x (defArgs st) (defBody st) (defScope st) .none kV doc pm an cdv ct) :=
  ⟨fun_mk (st := st) l c k, mg_of X G a, (fun_mk (st := st) l c k).binds hb⟩
theorem iteDF {c A B : Prop} [Decidable c] (h : ¬ c) (b : B) : if decide c = true then A else B := by rw [decide_eq_false h]; exact iteF b
theorem iteDT {c A B : Prop} [Decidable c] (h : c) (a : A) : if decide c = true then A else B := by rw [decide_eq_true h]; exact iteT a
theorem iteD {c A B : Prop} [Decidable c] (a : c → A) (b : ¬ c → B) : if decide c = true then A else B := by
  by_cases h : c
  · exact iteDT h (a h)
  · exact iteDF h (b h)
/-! ### ways that meet again -/
def tJoin (t : TS) : TS := fun D σ H => ∃ J : St → Hp → Prop, t { D with nx := J } σ H ∧ ∀ σ' H', J σ' H' → D.nx σ' H'
theorem ps_join {X : Cx} {st : Stmt} {t : TS} (h : PS X st t) : PS X st (tJoin t) := by
  intro pins s σ H D I q
  obtain ⟨J, q, k⟩ := q
  refine thn (h pins s σ H _ I q) fun f s' z => ?_
  cases f with
  | next => obtain ⟨σ', H', I', y⟩ := z; exact ⟨σ', H', I', k _ _ y⟩
  | brk => exact z
  | cont => exact z
  | ret u => exact z
theorem ixv {xs : List V} {i : Int} (h0 : 0 ≤ i) (h1 : i < xs.length) : ∃ v, v ∈ xs ∧ atI xs i = some v := by
  obtain ⟨j, rfl⟩ := Int.eq_ofNat_of_zero_le h0
  have hj : j < xs.length := by omega
  exact ⟨xs[j], List.getElem_mem hj, atI_nat (by simp [hj])⟩
theorem Same.upd {H : Hp} {p : Addr} {o : HO} (h : H p = none) : Same H (L2.upd H p o) := fun b u e => by rw [upd_ne (ne_of_none e h)]; exact e
theorem line1000 {n : Nat} (h : n ≤ 1000) : n ≤ sizeLine := Nat.le_of_lt (small1000 h)
section
variable {X : Cx} {k j : Nat} {f : Addr} {fd : FuncData} {ps : List Str} {sp : Sp} {EH : EK} {x : Str} {st : Stmt} {p pos : Pos} {e : Expr} {es : List Expr} {t : TA}
/-- f(..) -/
theorem pcall (D : Def X.K X.mg x ps st f fd) (F : FnOk X.prog X.w X.K X.mg X.base (CX1 X.prog X.w) j f fd ps sp) (hr : Room k X.A) (hx : Catches X EH) (ha : PA X (e :: es) t) (hj : j ≤ k := by decide) (hg : Gl X x := by rfl) (hex : X.ex = [] := by rfl) (hdb : (x == ("__debug__" : Str)) = false := by decide)
    (he : starEach (e :: es) X.env = (false, eval e X.env) :: starEach es X.env := by rfl) (hpl : (backTo pos (starEach es X.env)).any (·.1) = false := by rfl) : PE X (.Call (.Name x p) (e :: es) [] pos) (tCallE sp [] EH t) :=
  pe_callE (F.mono hj) hr hg D.g D.F.kp D.b .nil hx ha hex hdb he hpl
theorem pcall0 (D : Def X.K X.mg x ps st f fd) (F : FnOk X.prog X.w X.K X.mg X.base (CX1 X.prog X.w) j f fd ps sp) (hr : Room k X.A) (hx : Catches X EH) (hj : j ≤ k := by decide) (hg : Gl X x := by rfl) (hex : X.ex = [] := by rfl) (hdb : (x == ("__debug__" : Str)) = false := by decide) :
    PE X (.Call (.Name x p) [] [] pos) (tCallE sp [] EH tNil) :=
  pe_call0E (F.mono hj) hr hg D.g D.F.kp D.b .nil hx hex hdb
/-- a type of Python's own, as a value -/
theorem pty {n : Str} {T : String} (hm : X.mg n = none) (hv : bootBuiltins n = some (.type T)) (hg : Gl X n := by rfl) (hn : n ≠ "__name__" := by decide) (hdb : (n == ("__debug__" : Str)) = false := by decide) : PE X (.Name n pos) (tC (.ty T)) := pe_bltn hg hm hv rfl hn hdb
/-- a class of the text, as a value -/
theorem pcls {n : Str} {C : Addr} (hm : X.mg n = some (.ref C)) (hg : Gl X n := by rfl) (hdb : (n == ("__debug__" : Str)) = false := by decide) : PE X (.Name n pos) (tC (.ref C)) := pe_glob hg hm rfl hdb
/-- isinstance(a, b) -/
theorem pisi {a b : Expr} {ta tb : TE} (hm : X.mg "isinstance" = none) (ha : PE X a ta) (hb : PE X b tb) (hg : Gl X "isinstance" := by rfl)
    (h1 : starEach [a, b] X.env = (false, eval a X.env) :: starEach [b] X.env := by rfl) (h2 : starEach [b] X.env = (false, eval b X.env) :: starEach [] X.env := by rfl) (h3 : (backTo pos (starEach [b] X.env)).any (·.1) = false := by rfl) :
    PE X (.Call (.Name "isinstance" p) [a, b] [] pos) (tCB (fun xs H Q => ∃ x c cv t b, xs = [x, c] ∧ clsV c = some cv ∧ TyE X.K H x t ∧ kitOne X.K t cv = some b ∧ Q (.bl b) H) (tCons ta (tCons tb tNil))) :=
  pe_callB call_isinst hg hm boot_isinstance (pa_cons ha (pa_cons hb pa_nil h2) h1) (he := h1) (hpl := h3)
end
end L2
set_option Elab.async false
set_option linter.all false
set_option maxRecDepth 100000
set_option maxHeartbeats 4000000
namespace L2
open PySem PySem.Spec PyProof.Rows PySem.W
/-! ### readings that name no inner state -/
section
variable {X : Cx} {k j : Nat} {f : Addr} {fd : FuncData} {ps : List Str} {sp : Sp} {x : Str} {st : Stmt} {p pos : Pos} {e : Expr} {es : List Expr} {t : TA}
end
end L2
set_option Elab.async false
set_option linter.all false
set_option maxRecDepth 100000
set_option maxHeartbeats 4000000
namespace L2
open PySem PySem.Spec PyProof.Rows PySem.W
/-! ### C() of a class without an __init__ of its own -/
structure Mk0 (K : Frag) (C : Addr) : Prop where
  makes : makesIn K C = true
  init : findIn K (.ref C) "__init__" = some (some (.builtin "object.__init__"))
  kp : keepIn K (.ref C) = true
section
variable {X : Cx} {k j : Nat} {f C : Addr} {fd : FuncData} {ps : List Str} {sp : Sp} {dvs : List V} {ds : List Value} {EH : EK} {x m : Str} {p pos apos : Pos} {e o : Expr} {es : List Expr} {ta : TE} {t : TA}
def tNew (C : Addr) : TE := fun _ H Q => ∀ x dx, H x = none → H dx = none → dx ≠ x → Q (.ref x) (upd (upd H dx (.own x)) x (.ins C dx []))
theorem run_new {pins : List (Addr × Obj)} {σ : St} {H : Hp} {s : Shared} {Q : VK} (M : Mk0 X.K C) (I : Inv X pins σ H s) (h : tNew C σ H Q) : wpAny (model X.prog X.w) X.A (call (.ref C) []) (EP X pins σ Q) X.xe s := by
  have hq := h (s.heap.objs.size + 1) s.heap.objs.size (I.hok.fresh (Nat.le_succ _)) (I.hok.fresh (Nat.le_refl _)) (Nat.ne_of_lt (Nat.lt_succ_self _))
  have I2 := Inv.made (C := C) I
  have Y := makes_of (M := model X.prog X.w) I.kIn M.makes
  refine wpAny_call (make_map0 I.kIn M.makes M.init (fun self => Looks.of_pure (oi_bind self)) ?_)
  have e2 : ((s.heap.push emptyDict).push (instObj C s.heap.objs.size)).get? (s.heap.objs.size + 1) = some (instObj C s.heap.objs.size) := by
    have := Heap.get?_push_size (s.heap.push emptyDict) (o := instObj C s.heap.objs.size) rfl
    rwa [Heap.size_push] at this
  have t1 : Looks (model X.prog X.w) ((s.heap.push emptyDict).push (instObj C s.heap.objs.size)) (typeOf (.ref (s.heap.objs.size + 1))) (.ref C) := (Looks.ld e2).andThen .now
  have t2 : Looks (model X.prog X.w) ((s.heap.push emptyDict).push (instObj C s.heap.objs.size)) (isInstance (.ref (s.heap.objs.size + 1)) (.type "object")) true := t1.andThen (Y.top.keeps fun b o e => Heap.get?_push_of_some _ (Heap.get?_push_of_some _ e))
  refine codeAny_call_builtin oi_plain entry_oi (@check_slot (model X.prog X.w) _ _ _ "object.__init__" "object" "__init__" (.ref (s.heap.objs.size + 1)) [] [] _ oi_kind oi_split t2 (oi_args (.ref (s.heap.objs.size + 1))) ?_)
  rw [oi_run]
  exact wpAny_pure (And.intro rfl ⟨V.ref (s.heap.objs.size + 1), _, I2, rfl, hq⟩)
theorem pe_new (M : Mk0 X.K C) (hg : Gl X x) (hm : X.mg x = some (.ref C)) (hdb : (x == ("__debug__" : Str)) = false := by decide) : PE X (.Call (.Name x p) [] [] pos) (tNew C) := by
  intro pins s σ H Q I h
  refine wpAny_Call_Name_kw (ld_glob I hg hm ?_ hdb)
  exact callWith_K0 I.kIn M.kp (run_new M I h)
/-! ### methods that may raise -/
def tMethE (C : Addr) (m : Str) (sp : Sp) (dvs : List V) (EH : EK) (ta : TE) (t : TA) : TE := fun σ H Q => ta σ H fun x H1 => ∃ a dx fs, x = .ref a ∧ H1 a = some (.ins C dx fs) ∧ fs.lookup m = none ∧
  t σ H1 fun vs H2 => sp (x :: (vs ++ dvs)) H2 Q (fun C d H' => EH C d σ H')
/-- o.m(e, ..) -/
theorem pmeth {pl : Sem Bool} (he : PE X o ta) (c : Cls X.K C) (hm : Meth X.K C m f) (F : FnOk X.prog X.w X.K X.mg X.base (CX1 X.prog X.w) j f fd ps sp) (hr : Room k X.A) (hb : Binds X.K fd ps ds) (hd : Vals dvs ds) (hx : Catches X EH) (ha : PA X (e :: es) t)
    (hj : j ≤ k := by decide) (hex : X.ex = [] := by rfl)
    (hst : starEach (e :: es) X.env = (false, eval e X.env) :: starEach es X.env := by rfl) (hpl : (backTo pos (starEach es X.env)).any (·.1) = false := by rfl)
    (ht : eval (.Call (.Attribute o m apos) (e :: es) [] pos) X.env = (do
      let ov ← eval o X.env
      standAt apos.atName
      let (f, first) ← holding [ov] (getMethod ov m pl)
      callWith pos f first (backTo pos (starEach (e :: es) X.env)) (backToKw pos (keywordEach [] X.env))) := by rfl) :
    PE X (.Call (.Attribute o m apos) (e :: es) [] pos) (tMethE C m sp dvs EH ta t) := by
  intro pins s σ H Q I h
  refine methodCall_KW (pl := pl) (thn (he pins s σ H _ I h) fun u s1 ⟨x, H1, I1, rx, a, dx, fs, ex, ea, l, q⟩ => ?_) ht
  subst ex
  obtain rfl : u = Value.ref a := rx
  refine getmeth_ok I1 ea c hm l ?_
  refine callWith_K (first := [.ref a]) (h₀ := X.base) I.ok.mod.kin hm.kp (thn (ha pos pins s1 σ H1 _ I1 q) fun us s2 ⟨vs, H2, I2, r, q2⟩ => ⟨I2.kIn, ?_⟩) hst hpl
  exact run_fnE (us := .ref a :: us) (vs := .ref a :: vs) (F.mono hj) hr hb hd hx hex I2 (.cons rfl r) q2
/-- o.m() -/
theorem pmeth0 {pl : Sem Bool} (he : PE X o ta) (c : Cls X.K C) (hm : Meth X.K C m f) (F : FnOk X.prog X.w X.K X.mg X.base (CX1 X.prog X.w) j f fd ps sp) (hr : Room k X.A) (hb : Binds X.K fd ps ds) (hd : Vals dvs ds) (hx : Catches X EH)
    (hj : j ≤ k := by decide) (hex : X.ex = [] := by rfl)
    (ht : eval (.Call (.Attribute o m apos) [] [] pos) X.env = (do
      let ov ← eval o X.env
      standAt apos.atName
      let (f, first) ← holding [ov] (getMethod ov m pl)
      callWith pos f first (backTo pos (starEach [] X.env)) (backToKw pos (keywordEach [] X.env))) := by rfl) :
    PE X (.Call (.Attribute o m apos) [] [] pos) (tMethE C m sp dvs EH ta tNil) := by
  intro pins s σ H Q I h
  refine methodCall_KW (pl := pl) (thn (he pins s σ H _ I h) fun u s1 ⟨x, H1, I1, rx, a, dx, fs, ex, ea, l, q⟩ => ?_) ht
  subst ex
  obtain rfl : u = Value.ref a := rx
  refine getmeth_ok I1 ea c hm l ?_
  exact callWith_K0 (first := [.ref a]) I1.kIn hm.kp (run_fnE (us := [.ref a]) (vs := [.ref a]) (F.mono hj) hr hb hd hx hex I1 (.cons rfl .nil) q)
/-! ### makings that may raise -/
def tMakeE (C : Addr) (sp : Sp) (dvs : List V) (EH : EK) (t : TA) : TE := fun σ H Q => t σ H fun vs H1 => ∀ x dx, H1 x = none → H1 dx = none → dx ≠ x →
  sp (.ref x :: (vs ++ dvs)) (upd (upd H1 dx (.own x)) x (.ins C dx [])) (fun v H2 => v = .non ∧ Q (.ref x) H2) (fun C d H' => EH C d σ H')
theorem run_makeE {pins : List (Addr × Obj)} {σ : St} {H : Hp} {s : Shared} {Q : VK} {us : List Value} {vs : List V} (M : Mk X.K C f) (F : FnOk X.prog X.w X.K X.mg X.base (CX1 X.prog X.w) k f fd ps sp) (hr : Room (k + 1) X.A) (hb : Binds X.K fd ps ds) (hd : Vals dvs ds)
    (hx : Catches X EH) (hex : X.ex = []) (I : Inv X pins σ H s) (r : Vals vs us)
    (h : ∀ x dx, H x = none → H dx = none → dx ≠ x → sp (.ref x :: (vs ++ dvs)) (upd (upd H dx (.own x)) x (.ins C dx [])) (fun v H2 => v = .non ∧ Q (.ref x) H2) (fun C d H' => EH C d σ H')) :
    wpAny (model X.prog X.w) X.A (call (.ref C) us) (EP X pins σ Q) X.xe s := by
  have hq := h (s.heap.objs.size + 1) s.heap.objs.size (I.hok.fresh (Nat.le_succ _)) (I.hok.fresh (Nat.le_refl _)) (Nat.ne_of_lt (Nat.lt_succ_self _))
  have I2 := Inv.made (C := C) I
  have r2 : Vals (V.ref (s.heap.objs.size + 1) :: (vs ++ dvs)) (Value.ref (s.heap.objs.size + 1) :: (us ++ ds)) := .cons rfl (r.append hd)
  have hl : (Value.ref (s.heap.objs.size + 1) :: us ++ ds).length = ps.length := by
    have e := r2.length
    rw [F.len _ _ _ _ hq] at e
    exact e.symm
  refine wpAny_call (make_map (f := f) I.kIn M.makes M.init (beq_iff_eq.mp M.fn) (codeAny_mono (F.run _ X.stack _ _ ⟨Value.ref (s.heap.objs.size + 1) :: us, []⟩ (Value.ref (s.heap.objs.size + 1) :: (us ++ ds)) _ _ _ (hr.make C us [])
    (I2.env0.make C us []) (hb _ (Value.ref (s.heap.objs.size + 1) :: us) I2.kIn hl) r2 hq) fun r s' hq' => ?_))
  cases r with
  | error e => exact came hx hex I2 hq'
  | ok fl =>
    cases fl with
    | ret u =>
      obtain ⟨v, H', I3, rv, ev, q3⟩ := I2.after hq'
      subst ev
      exact ⟨rv, ⟨V.ref (s.heap.objs.size + 1), H', I3, rfl, q3⟩⟩
    | next => exact False.elim hq'
    | brk => exact False.elim hq'
    | cont => exact False.elim hq'
/-- C(e, ..) -/
theorem pmake (M : Mk X.K C f) (F : FnOk X.prog X.w X.K X.mg X.base (CX1 X.prog X.w) j f fd ps sp) (hr : Room k X.A) (hm : X.mg x = some (.ref C)) (hb : Binds X.K fd ps ds) (hd : Vals dvs ds) (hx : Catches X EH)
    (ha : PA X (e :: es) t) (hj : j + 1 ≤ k := by decide) (hg : Gl X x := by rfl) (hex : X.ex = [] := by rfl) (hdb : (x == ("__debug__" : Str)) = false := by decide) (he : starEach (e :: es) X.env = (false, eval e X.env) :: starEach es X.env := by rfl) (hpl : (backTo pos (starEach es X.env)).any (·.1) = false := by rfl) :
    PE X (.Call (.Name x p) (e :: es) [] pos) (tMakeE C sp dvs EH t) := by
  intro pins s σ H Q I h
  refine wpAny_Call_Name_kw (ld_glob I hg hm ?_ hdb)
  refine callWith_K (h₀ := X.base) I.ok.mod.kin M.kp (thn (ha pos pins s σ H _ I h) fun us s1 ⟨vs, H1, I1, r, q⟩ => ⟨I1.kIn, ?_⟩) he hpl
  exact run_makeE M F (hr.mono hj) hb hd hx hex I1 r q
end
section
variable {X : Cx}
/-- text[lo:hi] -/
theorem part_of {v : Value} {o : Option Int} (h : IsPart v o) : ∃ p : Option (Int × Tok), v = partValue p ∧ p.map (·.1) = o := by
  cases h with
  | none => exact ⟨none, rfl, rfl⟩
  | int i t => exact ⟨some (i, t), rfl, rfl⟩
end
end L2
set_option Elab.async false
set_option linter.all false
set_option maxRecDepth 100000
set_option maxHeartbeats 4000000
namespace L2
open PySem PySem.Spec PyProof.Rows PySem.W
/-! ### a def with defaults -/
structure FunD (K : Frag) (x qual : Str) (st : Stmt) (dV : Value) (f : Addr) (fd : FuncData) : Prop where
  ex : ∃ (oc : Value) (od : Option Addr) (kV doc pm : Value) (an : Option Addr) (cdv ct : Value) (osl : Array (Option Value)),
    fd = fnOf x qual (defArgs st) (defBody st) (defScope st) dV kV doc pm an cdv ct ∧ K.lookup f = some ⟨oc, od, .func fd, osl⟩ ∧ codeIn K cdv qual = true
  kp : keepIn K (.ref f) = true
section
variable {P : Program} {w : World} {K : Frag} {mg : Str → Option Value} {base : Heap}
theorem FunD.okE {x qual : Str} {st : Stmt} {dV : Value} {f : Addr} {fd : FuncData} {N ps : List Str} {k : Nat} {sp : Sp} (F : FunD K x qual st dV f fd) (S : FnScope N ps (defScope st)) (len : ∀ vs H Q E, sp vs H Q E → vs.length = ps.length)
    (hbody : ∀ (X : Cx) (cdv : Value) (A : Around) (outer : List Env) (s : Shared) (H : Hp) (vs : List V) (Q : VK) (E : XK), X = cxOf (CX1 P w) P w K mg base N qual (defScope st) f cdv A outer s H E → Room k X.A → Catches X (fun C dd _ H' => E C dd H') → sp vs H Q E →
      ∃ t, PSs (cxOf (CX1 P w) P w K mg base N qual (defScope st) f cdv A outer s H E) (defBody st) t ∧ t { nx := fun _ H' => Q .non H', rt := Q } (start N vs) H) : FnOk P w K mg base (CX1 P w) (k + 1) f fd ps sp := by
  obtain ⟨oc, od, kV, doc, pm, an, cdv, ct, osl, rfl, lk, hc⟩ := F.ex
  exact fn_of lk hc S len fun A outer s H vs Q E hr h => hbody _ cdv A outer s H vs Q E rfl hr catches_fn h
theorem funD_mk {x qual : Str} {st : Stmt} {dV : Value} {f : Addr} {oc : Value} {od an : Option Addr} {osl : Array (Option Value)} {kV doc pm cdv ct : Value} (l : K.lookup f = some ⟨oc, od, .func (fnOf x qual (defArgs st) (defBody st) (defScope st) dV kV doc pm an cdv ct), osl⟩)
    (c : codeIn K cdv qual = true) (k : keepIn K (.ref f) = true) : FunD K x qual st dV f (fnOf x qual (defArgs st) (defBody st) (defScope st) dV kV doc pm an cdv ct) := ⟨⟨oc, od, kV, doc, pm, an, cdv, ct, osl, rfl, l, c⟩, k⟩
/-- positional arguments, the last ones by the defaults -/
theorem bindsD {fd : FuncData} {ps : List Str} {ds : List Value} {T : Addr} {o : Obj} {items : Array Value} {n : Nat} (hd : fd.defaults = .ref T) (ho : K.lookup T = some o) (hs : o.data = .seq items n)
    (h : ∀ us : List Value, (us ++ ds).length = ps.length → ∃ k, bindArgs fd ⟨us, []⟩ = seqItems? fd.defaults >>= k ∧ k (some items) = pure (ps.zip (us ++ ds))) : Binds K fd ps ds := fun s us X hl => by
  obtain ⟨k, h1, h2⟩ := h us hl
  exact binds_K X hd ho hs h1 h2
end
/-! ### C(.., k = v, ..) -/
section
variable {X : Cx} {k j : Nat} {f C : Addr} {fd : FuncData} {ps ks : List Str} {sp : Sp} {EH : EK} {x m : Str} {p pos apos : Pos} {e o : Expr} {es : List Expr} {kws : List Keyword} {ta : TE} {t tk : TA} {g : List Value → List Value → List Value} {gV : List V → List V → List V}
end
end L2
namespace L2
open PySem PySem.Spec PyProof.Rows PySem.W
/-! ### readings that name no inner context -/
section
variable {X : Cx} {K : Frag} {e : Expr} {f : Str} {pos : Pos} {ta : TE}
theorem ix_tupK (h : X.K = K) : IxR X (rIxT K) := by subst h; exact ix_tup
theorem pe_fldK (h : X.K = K) (he : PE X e ta) (hb : attributeBase e f X.env (eval e X.env) = eval e X.env) : PE X (.Attribute e f pos) (tFld K ta f) := by subst h; exact pe_fld he hb
theorem op_in_seqK (h : X.K = K) : OpR X (compareOp .In) (rIn K false) := by subst h; exact op_in_seq
end
end L2
set_option Elab.async false
set_option linter.all false
set_option maxRecDepth 100000
set_option maxHeartbeats 4000000
namespace TR
open PySem L2 PySem.W PyProof.Rows
/-- names of Python's own: the text binds none of them -/
structure Own (mg : Str → Option Value) : Prop where
  isi : mg "isinstance" = none
  int_ : mg "int" = none
  bool_ : mg "bool" = none
  str_ : mg "str" = none
  list_ : mg "list" = none
  tuple_ : mg "tuple" = none
  dict_ : mg "dict" = none
  len_ : mg "len" = none
  range_ : mg "range" = none
  min_ : mg "min" = none
  max_ : mg "max" = none
  abs_ : mg "abs" = none
  any_ : mg "any" = none
  all_ : mg "all" = none
  sum_ : mg "sum" = none
  repr_ : mg "repr" = none
  enumerate_ : mg "enumerate" = none
  reversed_ : mg "reversed" = none
  zip_ : mg "zip" = none
  sorted_ : mg "sorted" = none
  divmod_ : mg "divmod" = none
  set_ : mg "set" = none
  ValueError_ : mg "ValueError" = none
/-- kinds of Python's own -/
structure Kit (K : Frag) : Prop where
  int_int : kitOne K (.type "int") (.type "int") = some true
  int_bool : kitOne K (.type "int") (.type "bool") = some false
  int_str : kitOne K (.type "int") (.type "str") = some false
  int_list : kitOne K (.type "int") (.type "list") = some false
  int_tuple : kitOne K (.type "int") (.type "tuple") = some false
  int_dict : kitOne K (.type "int") (.type "dict") = some false
  bool_int : kitOne K (.type "bool") (.type "int") = some true
  bool_bool : kitOne K (.type "bool") (.type "bool") = some true
  bool_str : kitOne K (.type "bool") (.type "str") = some false
  bool_list : kitOne K (.type "bool") (.type "list") = some false
  bool_tuple : kitOne K (.type "bool") (.type "tuple") = some false
  bool_dict : kitOne K (.type "bool") (.type "dict") = some false
  str_int : kitOne K (.type "str") (.type "int") = some false
  str_bool : kitOne K (.type "str") (.type "bool") = some false
  str_str : kitOne K (.type "str") (.type "str") = some true
  str_list : kitOne K (.type "str") (.type "list") = some false
  str_tuple : kitOne K (.type "str") (.type "tuple") = some false
  str_dict : kitOne K (.type "str") (.type "dict") = some false
  list_int : kitOne K (.type "list") (.type "int") = some false
  list_bool : kitOne K (.type "list") (.type "bool") = some false
  list_str : kitOne K (.type "list") (.type "str") = some false
  list_list : kitOne K (.type "list") (.type "list") = some true
  list_tuple : kitOne K (.type "list") (.type "tuple") = some false
  list_dict : kitOne K (.type "list") (.type "dict") = some false
  tuple_int : kitOne K (.type "tuple") (.type "int") = some false
  tuple_bool : kitOne K (.type "tuple") (.type "bool") = some false
  tuple_str : kitOne K (.type "tuple") (.type "str") = some false
  tuple_list : kitOne K (.type "tuple") (.type "list") = some false
  tuple_tuple : kitOne K (.type "tuple") (.type "tuple") = some true
  tuple_dict : kitOne K (.type "tuple") (.type "dict") = some false
  dict_int : kitOne K (.type "dict") (.type "int") = some false
  dict_bool : kitOne K (.type "dict") (.type "bool") = some false
  dict_str : kitOne K (.type "dict") (.type "str") = some false
  dict_list : kitOne K (.type "dict") (.type "list") = some false
  dict_tuple : kitOne K (.type "dict") (.type "tuple") = some false
  dict_dict : kitOne K (.type "dict") (.type "dict") = some true
  NoneType_int : kitOne K (.type "NoneType") (.type "int") = some false
  NoneType_bool : kitOne K (.type "NoneType") (.type "bool") = some false
  NoneType_str : kitOne K (.type "NoneType") (.type "str") = some false
  NoneType_list : kitOne K (.type "NoneType") (.type "list") = some false
  NoneType_tuple : kitOne K (.type "NoneType") (.type "tuple") = some false
  NoneType_dict : kitOne K (.type "NoneType") (.type "dict") = some false
/-- v is of Python's kind t -/
theorem tyInt {K : Frag} {H : Hp} (i : Int) : TyE K H (.int i) (.type "int") := .of (.int i)
theorem tyStr {K : Frag} {H : Hp} (z : Str) : TyE K H (.str z) (.type "str") := .of (.str z)
theorem tyLst {K : Frag} {H : Hp} {a : Addr} {xs : List V} (h : H a = some (.lst xs)) : TyE K H (.ref a) (.type "list") := .of (.lst h)
theorem TyOf.same {K : Frag} {H H' : Hp} {x : V} {t : Value} (h : TyOf K H x t) (e : Same H H') : TyOf K H' x t := by
  cases h with
  | non => exact .non
  | bl x => exact .bl x
  | int i => exact .int i
  | str x => exact .str x
  | flt x => exact .flt x
  | lst z => exact .lst (e _ _ z)
  | frz z => exact .frz (e _ _ z)
  | tup z => exact .tup (e _ _ z)
  | dK z => exact .dK (e _ _ z)
  | dT z => exact .dT (e _ _ z)
  | ins z a b c d f => exact .ins (e _ _ z) a b c d f
theorem TyE.same {K : Frag} {H H' : Hp} {x : V} {t : Value} (h : TyE K H x t) (e : Same H H') : TyE K H' x t := by
  cases h with
  | of h => exact .of (TyOf.same h e)
  | exc z k => exact .exc (e _ _ z) k
  | excD z d k => exact .excD (e _ _ z) (e _ _ d) k
  | tupK l c => exact .tupK l c
/-- a whole number from lo to hi -/
def GoodV (lo hi : Int) (v : V) : Prop := ∃ i, v = .int i ∧ lo ≤ i ∧ i ≤ hi
/-- no whole number from lo to hi -/
def BadV (K : Frag) (H : Hp) (lo hi : Int) (v : V) : Prop := ∃ t b1 b2, TyE K H v t ∧ kitOne K t (.type "int") = some b1 ∧ kitOne K t (.type "bool") = some b2 ∧ ((b1 && !b2) = false ∨ ∃ i, v = .int i ∧ (i < lo ∨ hi < i))
theorem BadV.same {K : Frag} {H H' : Hp} {lo hi : Int} {v : V} (h : BadV K H lo hi v) (e : Same H H') : BadV K H' lo hi v := by
  obtain ⟨t, b1, b2, ty, r⟩ := h
  exact ⟨t, b1, b2, TyE.same ty e, r⟩
section
variable {K : Frag} {H : Hp} {lo hi : Int}
end
/-- H' has all of H, but perhaps p -/
def Exc (p : Addr) (H H' : Hp) : Prop := ∀ b o, H b = some o → b ≠ p → H' b = some o
theorem Exc.refl (p : Addr) (H : Hp) : Exc p H H := fun _ _ h _ => h
theorem Exc.trans {p : Addr} {H H1 H2 : Hp} (a : Exc p H H1) (b : Exc p H1 H2) : Exc p H H2 := fun c o h n => b c o (a c o h n) n
theorem Exc.upd {p : Addr} {H : Hp} {o : HO} : Exc p H (L2.upd H p o) := fun b u e n => by rw [upd_ne n]; exact e
theorem Exc.of {p : Addr} {H H' : Hp} (s : Same H H') : Exc p H H' := fun b o h _ => s b o h
/-- what is new to H may change -/
theorem Exc.same {p : Addr} {H H' : Hp} (n : H p = none) (x : Exc p H H') : Same H H' := fun b o h => x b o h (ne_of_none h n)
/-- a method of the class at C keeps a promise -/
def Has (P : Program) (w : World) (K : Frag) (mg : Str → Option Value) (base : Heap) (C : Addr) (m : Str) (k : Nat) (ps : List Str) (sp : Sp) : Prop := ∃ f fd, Meth K C m f ∧ FnOk P w K mg base (CX1 P w) k f fd ps sp ∧ Binds K fd ps []
end TR
set_option Elab.async false
set_option linter.all false
set_option maxRecDepth 100000
set_option maxHeartbeats 4000000
namespace TR
open PySem L2 PySem.W PyProof.Rows
/-- an exception that was taken, of the class C: its dict none, or one -/
def ExcAt (H : Hp) (a C : Addr) (d : Option Addr) : Prop := ∃ t T u, H a = some (.frz (ExcO (.ref C) t d T) u) ∧ ∀ x, d = some x → ∃ fs, H x = some (.xd fs)
theorem ExcAt.same {H H' : Hp} {a C : Addr} {d : Option Addr} (h : ExcAt H a C d) (s : Same H H') : ExcAt H' a C d := by
  obtain ⟨t, T, u, e, k⟩ := h
  exact ⟨t, T, u, s _ _ e, fun x z => let ⟨fs, q⟩ := k x z; ⟨fs, s _ _ q⟩⟩
theorem ExcAt.ty {K : Frag} {H : Hp} {a C : Addr} {d : Option Addr} (h : ExcAt H a C d) (k : ExcK K C) : TyE K H (.ref a) (.ref C) := by
  obtain ⟨t, T, u, e, q⟩ := h
  cases d with
  | none => exact .exc e k
  | some x =>
    obtain ⟨fs, z⟩ := q x rfl
    exact .excD e z k
theorem len2 : ∀ {us : List Value}, us.length = 2 → ∃ a b, us = [a, b]
  | [a, b], _ => ⟨a, b, rfl⟩
theorem len3 : ∀ {us : List Value}, us.length = 3 → ∃ a b c, us = [a, b, c]
  | [a, b, c], _ => ⟨a, b, c, rfl⟩
theorem len4 : ∀ {us : List Value}, us.length = 4 → ∃ a b c d, us = [a, b, c, d]
  | [a, b, c, d], _ => ⟨a, b, c, d, rfl⟩
theorem len5 : ∀ {us : List Value}, us.length = 5 → ∃ a b c d e, us = [a, b, c, d, e]
  | [a, b, c, d, e], _ => ⟨a, b, c, d, e, rfl⟩
theorem lenD {us ds : List Value} {n : Nat} (h : (us ++ ds).length = n) : us.length = n - ds.length := by rw [List.length_append] at h; omega
end TR
set_option Elab.async false
set_option linter.all false
set_option maxRecDepth 100000
set_option maxHeartbeats 4000000
namespace L2
open PySem PySem.Spec PyProof.Rows
section
variable {κ : Type} [DecidableEq κ]
def valV (kvs : List (κ × V)) (k : κ) : Option V := (kvs.find? fun kv => decide (kv.1 = k)).map (·.2)
/-- in its place, or at the end -/
def putK (kvs : List (κ × V)) (k : κ) (v : V) : List (κ × V) :=
  if (kvs.any fun kv => decide (kv.1 = k)) = true then kvs.map (fun kv => if kv.1 = k then (kv.1, v) else kv) else kvs ++ [(k, v)]
def dropK (kvs : List (κ × V)) (k : κ) : List (κ × V) := kvs.filter fun kv => decide (kv.1 ≠ k)

theorem valV_pos {p : κ × V} {r : List (κ × V)} {k : κ} (e : p.1 = k) : valV (p :: r) k = some p.2 := by simp [valV, List.find?_cons, e]
theorem valV_neg {p : κ × V} {r : List (κ × V)} {k : κ} (e : ¬ p.1 = k) : valV (p :: r) k = valV r k := by simp [valV, List.find?_cons, e]
theorem RelO.getD {o : Option V} {u : Option Value} {d : V} {d' : Value} (r : RelO o u) (rd : RelV d d') : RelV (o.getD d) (u.getD d') := by
  cases o with
  | none => cases u with
    | none => exact rd
    | some _ => exact (show False from r).elim
  | some _ => cases u with
    | none => exact (show False from r).elim
    | some _ => exact r

/-- raw tables of the same keys -/
theorem KV.val {kvs : List (κ × V)} {vs : List (κ × Value)} (r : KV kvs vs) (k : κ) : RelO (valV kvs k) (valueAt vs k) := by
  unfold KV at r
  induction r with
  | nil => exact True.intro
  | @cons p q ps qs h t ih =>
    obtain ⟨h1, h2⟩ := h
    by_cases e : p.1 = k
    · have e' : q.1 = k := h1.symm.trans e
      have b : valueAt (q :: qs) k = some q.2 := by simp [valueAt, List.find?_cons, e']
      rw [valV_pos e, b]; exact h2
    · have e' : ¬ q.1 = k := fun z => e (h1.trans z)
      have b : valueAt (q :: qs) k = valueAt qs k := by simp [valueAt, List.find?_cons, e']
      rw [valV_neg e, b]; exact ih
theorem KV.any {kvs : List (κ × V)} {vs : List (κ × Value)} (r : KV kvs vs) (k : κ) : (kvs.any fun kv => decide (kv.1 = k)) = vs.any fun kv => decide (kv.1 = k) := by
  unfold KV at r
  induction r with
  | nil => rfl
  | cons h t ih => rw [List.any_cons, List.any_cons, ih, h.1]
theorem KV.drop {kvs : List (κ × V)} {vs : List (κ × Value)} (r : KV kvs vs) (k : κ) : KV (dropK kvs k) (without vs k) := by
  unfold KV at r ⊢
  unfold dropK without
  induction r with
  | nil => exact .nil
  | @cons p q ps qs h t ih =>
    obtain ⟨h1, h2⟩ := h
    rw [List.filter_cons, List.filter_cons]
    by_cases e : p.1 = k
    · have a : ¬ decide (p.1 ≠ k) = true := by simp [e]
      have b : ¬ decide (q.1 ≠ k) = true := by simp [h1.symm.trans e]
      rw [if_neg a, if_neg b]; exact ih
    · have e' : ¬ q.1 = k := fun z => e (h1.trans z)
      have a : decide (p.1 ≠ k) = true := by simp [e]
      have b : decide (q.1 ≠ k) = true := by simp [e']
      rw [if_pos a, if_pos b]; exact .cons ⟨h1, h2⟩ ih
theorem KV.keys {kvs : List (κ × V)} {vs : List (κ × Value)} (r : KV kvs vs) : kvs.map (·.1) = vs.map (·.1) := by
  unfold KV at r
  induction r with
  | nil => rfl
  | cons h t ih => rw [List.map_cons, List.map_cons, ih, h.1]
theorem KV.length {kvs : List (κ × V)} {vs : List (κ × Value)} (r : KV kvs vs) : kvs.length = vs.length := Paired.length r
end


/-- raw entries of a dict with tuple keys -/
abbrev KT (H : Hp) : List (List Key × V) → List (List Key × Addr × Value) → Prop := Paired fun p q => p.1 = q.1 ∧ H q.2.1 = some (.tup (p.1.map kV)) ∧ RelV p.2 q.2.2
theorem KT.val {H : Hp} {kvs : List (List Key × V)} {xs : List (List Key × Addr × Value)} (r : KT H kvs xs) (k : List Key) : RelO (valV kvs k) ((atKey xs k).map (·.2)) := by
  induction r with
  | nil => exact True.intro
  | @cons p q ps qs h t ih =>
    obtain ⟨h1, _, h2⟩ := h
    by_cases e : p.1 = k
    · have e' : q.1 = k := h1.symm.trans e
      have b : atKey (q :: qs) k = some q.2 := by simp [atKey, List.find?_cons, e']
      rw [valV_pos e, b]; exact h2
    · have e' : ¬ q.1 = k := fun z => e (h1.trans z)
      have b : atKey (q :: qs) k = atKey qs k := by simp [atKey, List.find?_cons, e']
      rw [valV_neg e, b]; exact ih
theorem KT.keeps {H H' : Hp} {kvs : List (List Key × V)} {xs : List (List Key × Addr × Value)} (r : KT H kvs xs) (ht : ∀ b ys, H b = some (.tup ys) → H' b = some (.tup ys)) : KT H' kvs xs :=
  Paired.mapP r fun _ _ z => ⟨z.1, ht _ _ z.2.1, z.2.2⟩

section
variable {P : Program} {w : World} {H : Hp} {h : Heap} {a : Addr}
end

/-- what the dict at a holds at the key y -/
def DGet (H : Hp) (a : Addr) (y : V) (r : Option V) : Prop :=
  (∃ kvs k, Rd H a (.dK kvs) ∧ y = kV k ∧ r = valV kvs k) ∨ ∃ kvs k b, Rd H a (.dT kvs) ∧ y = .ref b ∧ H b = some (.tup (k.map kV)) ∧ r = valV kvs k
/-- the heap behind a[y] = v -/
def DPut (H : Hp) (a : Addr) (y v : V) (H' : Hp) : Prop :=
  (∃ kvs k, H a = some (.dK kvs) ∧ y = kV k ∧ kvs.length < sizeLine ∧ H' = upd H a (.dK (putK kvs k v))) ∨
  ∃ kvs k b, H a = some (.dT kvs) ∧ y = .ref b ∧ H b = some (.tup (k.map kV)) ∧ kvs.length < sizeLine ∧ H' = upd H a (.dT (putK kvs k v))
theorem DGet.k {H : Hp} {a : Addr} {kvs : List (Key × V)} {k : Key} (e : H a = some (.dK kvs)) : DGet H a (kV k) (valV kvs k) := .inl ⟨kvs, k, .inl e, rfl, rfl⟩
theorem DGet.t {H : Hp} {a b : Addr} {kvs : List (List Key × V)} {k : List Key} (e : H a = some (.dT kvs)) (eb : H b = some (.tup (k.map kV))) : DGet H a (.ref b) (valV kvs k) := .inr ⟨kvs, k, b, .inl e, rfl, eb, rfl⟩
theorem DPut.k {H : Hp} {a : Addr} {kvs : List (Key × V)} {k : Key} {v : V} (e : H a = some (.dK kvs)) (hl : kvs.length < sizeLine) : DPut H a (kV k) v (upd H a (.dK (putK kvs k v))) := .inl ⟨kvs, k, e, rfl, hl, rfl⟩
theorem DPut.t {H : Hp} {a b : Addr} {kvs : List (List Key × V)} {k : List Key} {v : V} (e : H a = some (.dT kvs)) (eb : H b = some (.tup (k.map kV))) (hl : kvs.length < sizeLine) :
    DPut H a (.ref b) v (upd H a (.dT (putK kvs k v))) := .inr ⟨kvs, k, b, e, rfl, eb, hl, rfl⟩


section
variable {X : Cx} {pins : List (Addr × Obj)} {σ : St} {H : Hp} {s : Shared} {a : Addr} {y v : V} {u r : Value} {o : Option V} {A : Around} {E : Value → Shared → Prop}

end

section
variable {X : Cx} {pins : List (Addr × Obj)} {σ : St} {H : Hp} {s : Shared} {a : Addr} {kvs : List (Key × V)} {k : Key} {u : Value} {A : Around} {E : Value → Shared → Prop}
end


section
variable {X : Cx} {o i e value : Expr} {pos pos' tpos : Pos} {td ty tv : TE}
end


section
variable {X : Cx} {pos : Pos}
end

end L2
set_option Elab.async false
set_option linter.all false
set_option maxRecDepth 100000
set_option maxHeartbeats 4000000
namespace L2
open PySem PySem.Spec PyProof.Rows PySem.W
/-! ### [elt for target in iter if c] that reads names of its def -/
/-- the cells that it takes along -/
def clOf (F : List Str) (env : Env) : List (Str × Addr) := F.map fun x => (x, (env.cells.lookup x).getD 0)
/-- their values -/
def fvOf (js : List Nat) (σ : St) : St := js.map fun j => (σ[j]?).getD none
abbrev Cx.compF (X : Cx) (scope : Scope) (N F : List Str) (C : Addr) (s₀ : Shared) (H₀ : Hp) (ex : List Addr) (pins : List (Addr × Obj)) : Cx :=
  { X with N := N ++ F, s₀ := s₀, H₀ := H₀, env := compEnvC scope (clOf F X.env) C X.env, outer := X.stack, ex := ex, fn := fun _ => false, pn := pins, xe := fun _ _ => False }
structure CompScopeF (N F : List Str) (js : List Nat) (sc : Scope) (XN : List Str) (env : Env) : Prop where
  kind : sc.kind = .function
  cell : ∀ y ∈ sc.names, y.2 ≠ .cell
  loc : ∀ y ∈ sc.names, y.2 = .local → sc.names.lookup y.1 = some .local
  nd : (N ++ F).Nodup
  clos : closureFor sc env = pure (clOf F env)
  fr : ∀ y ∈ (relabel sc env).names, y.2 = .cell ∨ y.2 = .free → y.1 ∈ F
  at_ : ∀ (k : Nat) (x : Str), F[k]? = some x → (∃ j : Nat, js[k]? = some j ∧ XN[j]? = some x) ∧ (∃ c, env.cells.lookup x = some c) ∧ env.kindOf x = some .cell ∧ (relabel sc env).names.lookup x = some .cell
  jl : js.length = F.length
def tCompF (n : Nat) (js : List Nat) (wi : TI) (g : TG) (tc : TT) (te : TE) : TE := fun σ H Q => wi σ H fun J H1 => ∀ D, H1 D = none →
  ∃ (m : Nat) (W : Nat → List V → Hp → Prop), W 0 [] (upd H1 D (.lst [])) ∧ ∀ i ys H2, W i ys H2 → i ≤ m ∧ H2 D = some (.lst ys) ∧ ((J.stop i H2 ∧ Q (.ref D) H2) ∨ (i < m ∧ J.go i H2 ∧ ∀ x H3, J.yld i H2 x H3 →
    g x (List.replicate n none ++ fvOf js σ) H3 fun σ4 H4 => tc σ4 H4 fun b H5 => if b = true then te σ4 H5 fun y H6 => H6 D = some (.lst ys) ∧ ys.length < sizeLine ∧ W (i + 1) (ys ++ [y]) (upd H6 D (.lst (ys ++ [y]))) else W (i + 1) ys H5))
def tCompF0 (n : Nat) (js : List Nat) (wi : TI) (g : TG) (te : TE) : TE := fun σ H Q => wi σ H fun J H1 => ∀ D, H1 D = none →
  ∃ (m : Nat) (W : Nat → List V → Hp → Prop), W 0 [] (upd H1 D (.lst [])) ∧ ∀ i ys H2, W i ys H2 → i ≤ m ∧ H2 D = some (.lst ys) ∧ ((J.stop i H2 ∧ Q (.ref D) H2) ∨ (i < m ∧ J.go i H2 ∧ ∀ x H3, J.yld i H2 x H3 →
    g x (List.replicate n none ++ fvOf js σ) H3 fun σ4 H4 => te σ4 H4 fun y H6 => H6 D = some (.lst ys) ∧ ys.length < sizeLine ∧ W (i + 1) (ys ++ [y]) (upd H6 D (.lst (ys ++ [y])))))
theorem cl_mem {F : List Str} {env : Env} {x : Str} {c : Addr} (h : (clOf F env).lookup x = some c) : x ∈ F ∧ c = (env.cells.lookup x).getD 0 := by
  have := PySem.mem_of_lookup h
  obtain ⟨y, hy, e⟩ := List.mem_map.mp this
  cases e
  exact ⟨hy, rfl⟩
theorem cl_of {env : Env} {x : Str} : ∀ {F : List Str}, x ∈ F → (clOf F env).lookup x = some ((env.cells.lookup x).getD 0)
  | y :: F, h => by
    show List.lookup x ((y, (env.cells.lookup y).getD 0) :: clOf F env) = _
    by_cases e : x = y
    · subst e; simp [List.lookup]
    · have hb : (x == y) = false := beq_eq_false_iff_ne.mpr e
      rw [List.lookup_cons, hb]
      exact cl_of (by rcases List.mem_cons.mp h with z | z; exact absurd z e; exact z)
section
variable {X : Cx} {N F : List Str} {js : List Nat} {scope : Scope}
theorem CompScopeF.sub (S : CompScopeF N F js scope X.N X.env) : ∀ x c, (clOf F X.env).lookup x = some c → X.env.cells.lookup x = some c := fun x c z => by
  obtain ⟨hx, rfl⟩ := cl_mem z
  obtain ⟨k, hk⟩ := List.mem_iff_getElem?.mp hx
  obtain ⟨_, ⟨c, hc⟩, _⟩ := S.at_ k x hk
  rw [hc]; rfl
theorem CompScopeF.has (S : CompScopeF N F js scope X.N X.env) {x : Str} (hx : x ∈ F) : ∃ c, (clOf F X.env).lookup x = some c ∧ X.env.cells.lookup x = some c :=
  ⟨_, cl_of hx, S.sub _ _ (cl_of hx)⟩
/-- what it takes along is there: the cells' contents at its entry -/
theorem comp_look {pins : List (Addr × Obj)} {σ : St} {H : Hp} {s : Shared} (S : CompScopeF N F js scope X.N X.env) (I : Inv X pins σ H s) {h' : Heap} {m : Str → Option Value} {C : Addr} (hc : ∀ x c v, X.env.cells.lookup x = some c → s.heap.IsCell c v → h'.IsCell c v) :
    ∀ (i : Nat) (x : Str) (v : V), (N ++ F)[i]? = some x → (List.replicate N.length none ++ fvOf js σ)[i]? = some (some v) → ∃ u, RelV v u ∧ Look (compEnvC scope (clOf F X.env) C X.env) h' m x u := by
  intro i x v e1 e2
  by_cases hi : i < N.length
  · rw [List.getElem?_append_left (by simpa using hi), List.getElem?_replicate] at e2
    split at e2 <;> cases e2
  · rw [List.getElem?_append_right (by omega)] at e1
    rw [List.getElem?_append_right (by simp; omega)] at e2
    rw [List.length_replicate] at e2
    obtain ⟨⟨j, hj, hx⟩, ⟨c, hcc⟩, kx, kr⟩ := S.at_ _ x e1
    unfold fvOf at e2
    rw [List.getElem?_map, hj] at e2
    have e2 : (σ[j]?).getD none = some v := Option.some.inj e2
    have e3 : σ[j]? = some (some v) := by
      cases q : σ[j]? with
      | none => rw [q] at e2; cases e2
      | some o => rw [q] at e2; exact congrArg some e2
    obtain ⟨m0, _, hl⟩ := I.loc
    obtain ⟨u, r, l⟩ := hl j x v hx e3 (.inr (.inl kx))
    refine ⟨u, r, .inr ⟨.inl kr, c, ?_, ?_⟩⟩
    · obtain ⟨c', h1, h2⟩ := S.has (List.mem_of_getElem? e1)
      rw [hcc] at h2
      cases h2
      exact h1
    · rcases l with ⟨k, _⟩ | ⟨_, c', h1, h2⟩
      · rw [kx] at k; cases k
      · rw [hcc] at h1
        cases h1
        exact hc x c _ hcc h2
theorem fv_len (S : CompScopeF N F js scope X.N X.env) (σ : St) : (List.replicate N.length none ++ fvOf js σ : St).length = (N ++ F).length := by
  unfold fvOf
  rw [List.length_append, List.length_replicate, List.length_map, S.jl, List.length_append]
theorem inv_compF {pins : List (Addr × Obj)} {σ : St} {H : Hp} {s : Shared} {it : Addr} {h' : Heap} (S : CompScopeF N F js scope X.N X.env) (I : Inv X pins σ H s) (hf : FpOk X pins H it) (hit : ∃ o, s.heap.get? it = some o) (hnb : X.base.get? it = none)
    (hns : h'.Ns s.heap.objs.size (fun _ => none)) (hsb : ∀ b o, s.heap.get? b = some o → h'.get? b = some o) {tk : Nat} :
    Inv (X.compF scope N F s.heap.objs.size s H [it] (X.pn ++ pins)) [] (List.replicate N.length none ++ fvOf js σ) H { s with heap := h', toks := tk } := by
  obtain ⟨f0, f1, f2, f3, f4, f5⟩ := hf
  obtain ⟨oi, ei⟩ := hit
  have lt : it < s.heap.objs.size := Heap.lt_size ei
  have ck : ∀ c v, s.heap.IsCell c v → h'.IsCell c v := fun c v ⟨o, e, d⟩ => ⟨o, hsb _ _ e, d⟩
  have inF : ∀ x, ((compEnvC scope (clOf F X.env) s.heap.objs.size X.env).kindOf x = some .cell ∨ (compEnvC scope (clOf F X.env) s.heap.objs.size X.env).kindOf x = some .free) → x ∈ F := by
    intro x z
    have z : (relabel scope X.env).names.lookup x = some .cell ∨ (relabel scope X.env).names.lookup x = some .free := z
    rcases z with z | z
    · exact S.fr _ (PySem.mem_of_lookup z) (.inl rfl)
    · exact S.fr _ (PySem.mem_of_lookup z) (.inr rfl)
  refine ⟨⟨I.ok.mod, S.kind, I.ok.glob, I.ok.blt, Nat.le_refl _, fun x y c z z' => I.ok.inj x y c (S.sub x c z) (S.sub y c z'), fun x z => ?_, fun x c z _ => (nomatch z), I.ok.hd, I.ok.frames, .inl rfl, fun b hb => ?_, I.bs, Nat.le_trans I.ok.bsz I.sz, fun b o e hb => ?_, fun b hb hfs => ?_, I.stack, I.stkFree⟩,
    rfl, I.bare, Un.kept hsb, ⟨_, hns, fun i x v e1 e2 e3 => comp_look S I (fun x c v _ z => ck c v z) i x v e1 e2⟩, fun x c z => ?_, I.hok.fresh (Nat.le_refl _), fun x c z => I.freeC x c (S.sub x c z), fun p hp => ?_, I.hok.kept hsb, fv_len S σ⟩
  · obtain ⟨c, h1, _⟩ := S.has (inF x z)
    exact ⟨c, h1⟩
  · have e : b = it := by simpa using hb
    subst e
    exact ⟨Nat.ne_of_lt lt, fun x c z => f4 x c (S.sub x c z)⟩
  · have e' : b = it := by simpa using hb
    subst e'
    rw [hnb] at e
    cases e
  · have e' : b = it := by simpa using hb
    subst e'
    rcases List.mem_cons.mp (I.stkSub b hfs) with z | z
    · exact f1 z
    · exact f2 z
  · obtain ⟨v, z'⟩ := I.cell x c (S.sub x c z)
    exact ⟨v, ck c v z'⟩
  · have hp' : p ∈ X.pn ++ pins := by simpa using hp
    obtain ⟨q1, q2, q3, q4, q5⟩ := I.pin p hp'
    refine ⟨hsb _ _ q1, q2, Nat.ne_of_lt (Heap.lt_size q1), fun z => ?_, q5⟩
    rcases List.mem_cons.mp (I.stkSub p.1 z) with z | z
    · exact q3 z
    · exact q4 z
/-- ahead of the next turn: the own names are none again, the others as they were -/
theorem inv_fresh {pins pl : List (Addr × Obj)} {σ σ' : St} {H H' : Hp} {s s' : Shared} {it : Addr} (S : CompScopeF N F js scope X.N X.env) (I : Inv X pins σ H s) (hf : FpOk X pins H it) (J : Inv (X.compF scope N F s.heap.objs.size s H [it] (X.pn ++ pins)) pl σ' H' s') :
    Inv (X.compF scope N F s.heap.objs.size s H [it] (X.pn ++ pins)) [] (List.replicate N.length none ++ fvOf js σ) H' s' := by
  obtain ⟨m, hn, _⟩ := J.loc
  refine ⟨J.ok, J.os, J.bare, J.base, ⟨m, hn, fun i x v e1 e2 e3 => comp_look S I (fun x c v z q => ?_) i x v e1 e2⟩, J.cell, J.free, J.freeC, fun p hp => J.pin p (by
    have hp : p ∈ (X.pn ++ pins) ++ [] := hp
    rw [List.append_nil] at hp
    exact List.mem_append_left _ hp), J.hok, fv_len S σ⟩
  obtain ⟨o, e, d⟩ := q
  have ne : c ∉ [it] := fun w => hf.2.2.2.2.1 x c z (by simpa using w)
  obtain ⟨sl, q⟩ := J.base.any e (I.freeC x c z) ne
  exact ⟨_, q, d⟩
theorem comp_walkF {elt target iter c : Expr} {scope : Scope} {pos : Pos} {N F : List Str} {js : List Nat} {wi : TI} {g : TG} {tc : TT} {te : TE} (S : CompScopeF N F js scope X.N X.env) (hd : HdOk X) (hi : PIH X target iter wi) (hex : X.ex = [])
    (hg : ∀ C s₀ H₀ ex pn, HdOk (X.compF scope N F C s₀ H₀ ex pn) → PG (X.compF scope N F C s₀ H₀ ex pn) target g)
    (hc : ∀ C s₀ H₀ ex pn, HdOk (X.compF scope N F C s₀ H₀ ex pn) → PT (X.compF scope N F C s₀ H₀ ex pn) c tc)
    (he : ∀ C s₀ H₀ ex pn, HdOk (X.compF scope N F C s₀ H₀ ex pn) → PE (X.compF scope N F C s₀ H₀ ex pn) elt te)
    {pins : List (Addr × Obj)} {s : Shared} {σ : St} {H : Hp} {Q : VK} {RR : Value → Env → Result → Shared → Prop} (I : Inv X pins σ H s) (h : (tCompF N.length js wi g tc te) σ H Q)
    (hRR : ∀ (D C : Addr) (s6 : Shared) (H5 : Hp) (mm : Str → Option Value), Inv X pins σ H5 s6 → s6.heap.Ns C mm → FpOk X pins H5 C → Q (.ref D) H5 → RR (.ref D) (compEnvC scope (clOf F X.env) C X.env) (.ok .next) s6) :
    wpAny (model X.prog X.w) X.A (eval iter X.env) (fun v s1 => wpAny (model X.prog X.w) X.A (pyIter v) (fun itv s2 => wpAny (model X.prog X.w) X.A (newList []) (fun acc s3 => wpAny (model X.prog X.w) X.A (newFunctionEnv scope X.env.globals (clOf F X.env) [] X.env.qual none .none (some X.env)) (fun cenv s4 =>
      codeAny (model X.prog X.w) X.A (.compStart (.ListComp elt [⟨target, iter, [c], 0⟩] scope pos) 0 itv acc { cenv with scope := relabel scope X.env }) (RR acc { cenv with scope := relabel scope X.env }) s4) X.xe s3) X.xe s2) X.xe s1) X.xe s := by
  refine thn (hi pins s σ H _ I h) fun v s1 h1 => thn h1 fun itv s2 h2 => ?_
  obtain ⟨it, tn, J, H2, rfl, I2, T, st2, f2, R⟩ := h2
  obtain ⟨oi, ei, di⟩ := T.obj _ _ st2
  have hf2 := I2.hok.fresh (Nat.le_refl _)
  refine wpAny_newObj_type ?_
  have I3 : Inv X pins σ (upd H2 s2.heap.objs.size (.lst [])) { s2 with heap := s2.heap.push { cls := .type "list", dict := none, data := .seq ([] : List Value).toArray } } := Inv.lnew (t' := s2.toks) I2 .nil (Nat.zero_le _)
  refine wpAny_newFunctionEnv S.cell (by intro y hy; simp at hy) (fun h4 hns hsb => ?_) S.kind
  dsimp only at hns hsb ⊢
  generalize hG : s2.heap.push { cls := .type "list", dict := none, data := .seq ([] : List Value).toArray } = G at I3 hns hsb ⊢
  generalize hD : s2.heap.objs.size = D at I3 hf2
  have nD : it ≠ D := by rw [← hD]; exact Nat.ne_of_lt (Heap.lt_size ei)
  have eiG : G.get? it = some oi := by rw [← hG]; exact Heap.get?_push_of_some _ ei
  have kp : ∀ b o, G.get? b = some o → h4.get? b = some o := fun b o e => hsb.extBut b o (Nat.ne_of_lt (Heap.lt_size e)) (Heap.get?_push_of_some _ e)
  have f3 : FpOk X pins (upd H2 D (.lst [])) it := ⟨by rw [upd_ne nD]; exact f2.1, f2.2⟩
  have nb : X.base.get? it = none := by
    cases q : X.base.get? it with
    | none => rfl
    | some o =>
      have := (I.ok.bs it o q).1
      rcases f2.2.2.2.1 with z | z
      · rw [hex] at z; simp at z
      · exact absurd (Nat.lt_of_lt_of_le (Heap.lt_size this) z) (Nat.lt_irrefl _)
  have hns' : h4.Ns G.objs.size (fun _ => none) := by
    obtain ⟨o, es, ep, q1, q2, q3, q4⟩ := hns
    exact ⟨o, es, ep, q1, q2, q3, fun x => by rw [q4]; rfl⟩
  have I4 := inv_compF (tk := s2.toks + ([] : List (Str × Value)).length) S I3 f3 ⟨oi, eiG⟩ nb hns' kp
  have hdc : HdOk (X.compF scope N F G.objs.size { s2 with heap := G } (upd H2 D (.lst [])) [it] (X.pn ++ pins)) := by
    rcases hd with z | ⟨x, o, u, vs, z, e, d, n⟩
    · exact .inl z
    · refine .inr ⟨x, o, u, vs, z, ?_, d, n⟩
      have q := I2.base.frzs x o u e
      show upd H2 D (.lst []) x = _
      rw [upd_ne fun w => by rw [w, hf2] at q; cases q]
      exact q
  obtain ⟨m, W, w0, turn⟩ := R D hf2
  have gg := hg _ _ _ _ _ hdc
  have cc := hc _ _ _ _ _ hdc
  have ee := he _ _ _ _ _ hdc
  have fpc : ∀ {H' : Hp} {σ' : St} {s' : Shared} {pl : List (Addr × Obj)}, Inv (X.compF scope N F G.objs.size { s2 with heap := G } (upd H2 D (.lst [])) [it] (X.pn ++ pins)) pl σ' H' s' → H' it = none → (∀ p ∈ pl, p.1 ≠ it) → FpOk (X.compF scope N F G.objs.size { s2 with heap := G } (upd H2 D (.lst [])) [it] (X.pn ++ pins)) pl H' it := by
    intro H' σ' s' pl J' hn hp
    refine ⟨hn, Nat.ne_of_lt (Heap.lt_size eiG), ?_, .inl (List.mem_singleton.mpr rfl), (fun x c z => f2.2.2.2.2.1 x c (S.sub x c z)), fun p hpp => ?_⟩
    · intro z
      rcases List.mem_cons.mp (I.stkSub it z) with z | z
      · exact f2.2.1 z
      · exact f2.2.2.1 z
    · rcases List.mem_append.mp hpp with z | z
      · exact f2.2.2.2.2.2 p z
      · exact hp p z
  -- the turns
  have loop : codeAny (model X.prog X.w) X.A (.compLoop (.ListComp elt [⟨target, iter, [c], 0⟩] scope pos) 0 (.ref it) (.ref D) (compEnvC scope (clOf F X.env) G.objs.size X.env))
      (RR (.ref D) (compEnvC scope (clOf F X.env) G.objs.size X.env))
      { s2 with heap := h4, toks := s2.toks + ([] : List (Str × Value)).length } := by
    refine kct_loop (fun k s' => ∃ i ys H', k = m + 1 - i ∧ Inv (X.compF scope N F G.objs.size { s2 with heap := G } (upd H2 D (.lst [])) [it] (X.pn ++ pins)) [] (List.replicate N.length none ++ fvOf js σ) H' s' ∧ tn i s'.heap ∧ H' it = none ∧ W i ys H') ?_ (m + 1)
      ⟨0, [], _, rfl, I4, T.keep _ _ _ st2 fun o e => kp it o (by rw [← hG]; exact Heap.get?_push_of_some _ e), f3.1, w0⟩
    rintro k s5 ⟨i, ys, H5, rfl, I5, st5, n5, w5⟩
    obtain ⟨hi5, hD5, w5⟩ := turn i ys H5 w5
    rcases w5 with ⟨stop, q⟩ | ⟨lt5, go, step⟩
    · refine wpAny_mono (T.done (X.compF scope N F G.objs.size { s2 with heap := G } (upd H2 D (.lst [])) [it] (X.pn ++ pins)) rfl rfl rfl hdc i [] s5 _ H5 (fun _ _ => False) I5 (fpc I5 n5 (by simp)) st5 stop) (fun r s6 z => ?_) (fun _ _ z => z.elim)
      obtain ⟨rfl, I6⟩ := z
      obtain ⟨mm, hn6, _⟩ := I6.loc
      have B6 := I6.base
      have J6 : Inv X pins σ H5 s6 := by
        refine I3.call' (ch := [it]) I6.os ⟨B6.keep, B6.slot, B6.free, B6.there, B6.tups, B6.frzs, B6.tbls⟩ I6.hok I6.bare (fun b hb => ?_)
        have e : b = it := by simpa using hb
        subst e
        exact ⟨f2.2.2.2.1, f2.2.1, f2.2.2.2.2.1, f2.2.2.2.2.2⟩
      have szG : X.s₀.heap.objs.size ≤ G.objs.size := I3.sz
      refine hRR D G.objs.size s6 H5 mm J6 hn6 ⟨I6.free, ?_, ?_, .inr szG, ?_, ?_⟩ q
      · exact Nat.ne_of_gt I3.lt
      · intro z
        obtain ⟨_, o, ho, _⟩ := I3.funs.mem z
        exact Nat.lt_irrefl _ (Heap.lt_size ho)
      · rintro x c z rfl
        obtain ⟨v', o, ho, _⟩ := I3.cell x _ z
        exact Nat.lt_irrefl _ (Heap.lt_size ho)
      · rintro p hp z
        have zz := (I3.pin p hp).1
        rw [z] at zz
        exact Nat.lt_irrefl _ (Heap.lt_size zz)
    · refine wpAny_mono (T.item (X.compF scope N F G.objs.size { s2 with heap := G } (upd H2 D (.lst [])) [it] (X.pn ++ pins)) rfl rfl rfl hdc i [] s5 _ H5 (fun _ _ => False) I5 (fpc I5 n5 (by simp)) st5 go) (fun r s6 z => ?_) (fun _ _ z => z.elim)
      obtain ⟨u, rfl, z⟩ := z
      refine wpAny_mono z (fun _ s7 z => ?_) (fun _ _ z => z.elim)
      obtain ⟨x, I7, rx, yl, st7⟩ := z
      obtain ⟨o7, e7, d7⟩ := T.obj _ _ st7
      obtain ⟨p0, p1, p2, _⟩ := fpc I7 n5 (by simp)
      have I7' : Inv (X.compF scope N F G.objs.size { s2 with heap := G } (upd H2 D (.lst [])) [it] (X.pn ++ pins)) [(it, o7)] (List.replicate N.length none ++ fvOf js σ) H5 s7 := I7.pins_of fun p hp => by
        have e : p = (it, o7) := by simpa using hp
        subst e
        exact ⟨e7, p0, p1, p2, d7⟩
      have back : ∀ {i' : Nat} {ys' : List V} {H' : Hp} {σ' : St} {s' : Shared}, i' = i + 1 → Inv (X.compF scope N F G.objs.size { s2 with heap := G } (upd H2 D (.lst [])) [it] (X.pn ++ pins)) [(it, o7)] σ' H' s' → W i' ys' H' →
          ∃ k', k' < m + 1 - i ∧ ∃ i ys H', k' = m + 1 - i ∧ Inv (X.compF scope N F G.objs.size { s2 with heap := G } (upd H2 D (.lst [])) [it] (X.pn ++ pins)) [] (List.replicate N.length none ++ fvOf js σ) H' s' ∧ tn i s'.heap ∧ H' it = none ∧ W i ys H' := by
        rintro i' ys' H' σ' s' rfl J' w'
        obtain ⟨q1, q2, _⟩ := J'.pin (it, o7) (List.mem_append_right _ (List.mem_singleton.mpr rfl))
        refine ⟨m + 1 - (i + 1), by omega, i + 1, ys', H', rfl, inv_fresh S I3 f3 J', T.keep _ _ _ st7 fun o z => ?_, q2, w'⟩
        rw [e7] at z
        cases z
        exact q1
      refine wpAny_mono (gg [(it, o7)] s7 _ H5 x u _ I7' rx (step x H5 yl)) (fun _ s8 z => ?_) (fun _ _ z => z.elim)
      obtain ⟨σ8, H8, I8, q8⟩ := z
      refine wpAny_mono (cc [(it, o7)] s8 σ8 H8 _ I8 q8) (fun b s9 z => ?_) (fun _ _ z => z.elim)
      obtain ⟨H9, I9, q9⟩ := z
      cases b with
      | false =>
        simp only [Bool.false_eq_true, if_false] at q9 ⊢
        exact back rfl I9 q9
      | true =>
        simp only [if_true] at q9 ⊢
        refine wpAny_mono (ee [(it, o7)] s9 σ8 H9 _ I9 q9) (fun y s10 z => ?_) (fun _ _ z => z.elim)
        obtain ⟨yv, H10, I10, ry, hD10, hz10, w10⟩ := z
        refine wpAny_mono (mt_append (X := X.compF scope N F G.objs.size { s2 with heap := G } (upd H2 D (.lst [])) [it] (X.pn ++ pins)) [(it, o7)] s10 σ8 H10 (.ref D) [yv] (.ref D) [y] (fun _ H11 => W (i + 1) (ys ++ [yv]) H11) I10 rfl (.cons ry .nil) ⟨D, ys, yv, rfl, rfl, hD10, hz10, w10⟩) (fun _ s11 z => ?_) (fun _ _ z => z.elim)
        obtain ⟨_, H11, I11, _, w11⟩ := z
        exact back rfl I11 w11
  exact codeAny_compStart_list loop (T.self _ 0 _ _ _ (T.keep _ _ _ st2 fun o e => kp it o (by rw [← hG]; exact Heap.get?_push_of_some _ e)) loop)
theorem comp_walkF0 {elt target iter : Expr} {scope : Scope} {pos : Pos} {N F : List Str} {js : List Nat} {wi : TI} {g : TG} {te : TE} (S : CompScopeF N F js scope X.N X.env) (hd : HdOk X) (hi : PIH X target iter wi) (hex : X.ex = [])
    (hg : ∀ C s₀ H₀ ex pn, HdOk (X.compF scope N F C s₀ H₀ ex pn) → PG (X.compF scope N F C s₀ H₀ ex pn) target g)
    (he : ∀ C s₀ H₀ ex pn, HdOk (X.compF scope N F C s₀ H₀ ex pn) → PE (X.compF scope N F C s₀ H₀ ex pn) elt te)
    {pins : List (Addr × Obj)} {s : Shared} {σ : St} {H : Hp} {Q : VK} {RR : Value → Env → Result → Shared → Prop} (I : Inv X pins σ H s) (h : (tCompF0 N.length js wi g te) σ H Q)
    (hRR : ∀ (D C : Addr) (s6 : Shared) (H5 : Hp) (mm : Str → Option Value), Inv X pins σ H5 s6 → s6.heap.Ns C mm → FpOk X pins H5 C → Q (.ref D) H5 → RR (.ref D) (compEnvC scope (clOf F X.env) C X.env) (.ok .next) s6) :
    wpAny (model X.prog X.w) X.A (eval iter X.env) (fun v s1 => wpAny (model X.prog X.w) X.A (pyIter v) (fun itv s2 => wpAny (model X.prog X.w) X.A (newList []) (fun acc s3 => wpAny (model X.prog X.w) X.A (newFunctionEnv scope X.env.globals (clOf F X.env) [] X.env.qual none .none (some X.env)) (fun cenv s4 =>
      codeAny (model X.prog X.w) X.A (.compStart (.ListComp elt [⟨target, iter, [], 0⟩] scope pos) 0 itv acc { cenv with scope := relabel scope X.env }) (RR acc { cenv with scope := relabel scope X.env }) s4) X.xe s3) X.xe s2) X.xe s1) X.xe s := by
  refine thn (hi pins s σ H _ I h) fun v s1 h1 => thn h1 fun itv s2 h2 => ?_
  obtain ⟨it, tn, J, H2, rfl, I2, T, st2, f2, R⟩ := h2
  obtain ⟨oi, ei, di⟩ := T.obj _ _ st2
  have hf2 := I2.hok.fresh (Nat.le_refl _)
  refine wpAny_newObj_type ?_
  have I3 : Inv X pins σ (upd H2 s2.heap.objs.size (.lst [])) { s2 with heap := s2.heap.push { cls := .type "list", dict := none, data := .seq ([] : List Value).toArray } } := Inv.lnew (t' := s2.toks) I2 .nil (Nat.zero_le _)
  refine wpAny_newFunctionEnv S.cell (by intro y hy; simp at hy) (fun h4 hns hsb => ?_) S.kind
  dsimp only at hns hsb ⊢
  generalize hG : s2.heap.push { cls := .type "list", dict := none, data := .seq ([] : List Value).toArray } = G at I3 hns hsb ⊢
  generalize hD : s2.heap.objs.size = D at I3 hf2
  have nD : it ≠ D := by rw [← hD]; exact Nat.ne_of_lt (Heap.lt_size ei)
  have eiG : G.get? it = some oi := by rw [← hG]; exact Heap.get?_push_of_some _ ei
  have kp : ∀ b o, G.get? b = some o → h4.get? b = some o := fun b o e => hsb.extBut b o (Nat.ne_of_lt (Heap.lt_size e)) (Heap.get?_push_of_some _ e)
  have f3 : FpOk X pins (upd H2 D (.lst [])) it := ⟨by rw [upd_ne nD]; exact f2.1, f2.2⟩
  have nb : X.base.get? it = none := by
    cases q : X.base.get? it with
    | none => rfl
    | some o =>
      have := (I.ok.bs it o q).1
      rcases f2.2.2.2.1 with z | z
      · rw [hex] at z; simp at z
      · exact absurd (Nat.lt_of_lt_of_le (Heap.lt_size this) z) (Nat.lt_irrefl _)
  have hns' : h4.Ns G.objs.size (fun _ => none) := by
    obtain ⟨o, es, ep, q1, q2, q3, q4⟩ := hns
    exact ⟨o, es, ep, q1, q2, q3, fun x => by rw [q4]; rfl⟩
  have I4 := inv_compF (tk := s2.toks + ([] : List (Str × Value)).length) S I3 f3 ⟨oi, eiG⟩ nb hns' kp
  have hdc : HdOk (X.compF scope N F G.objs.size { s2 with heap := G } (upd H2 D (.lst [])) [it] (X.pn ++ pins)) := by
    rcases hd with z | ⟨x, o, u, vs, z, e, d, n⟩
    · exact .inl z
    · refine .inr ⟨x, o, u, vs, z, ?_, d, n⟩
      have q := I2.base.frzs x o u e
      show upd H2 D (.lst []) x = _
      rw [upd_ne fun w => by rw [w, hf2] at q; cases q]
      exact q
  obtain ⟨m, W, w0, turn⟩ := R D hf2
  have gg := hg _ _ _ _ _ hdc
  have ee := he _ _ _ _ _ hdc
  have fpc : ∀ {H' : Hp} {σ' : St} {s' : Shared} {pl : List (Addr × Obj)}, Inv (X.compF scope N F G.objs.size { s2 with heap := G } (upd H2 D (.lst [])) [it] (X.pn ++ pins)) pl σ' H' s' → H' it = none → (∀ p ∈ pl, p.1 ≠ it) → FpOk (X.compF scope N F G.objs.size { s2 with heap := G } (upd H2 D (.lst [])) [it] (X.pn ++ pins)) pl H' it := by
    intro H' σ' s' pl J' hn hp
    refine ⟨hn, Nat.ne_of_lt (Heap.lt_size eiG), ?_, .inl (List.mem_singleton.mpr rfl), (fun x c z => f2.2.2.2.2.1 x c (S.sub x c z)), fun p hpp => ?_⟩
    · intro z
      rcases List.mem_cons.mp (I.stkSub it z) with z | z
      · exact f2.2.1 z
      · exact f2.2.2.1 z
    · rcases List.mem_append.mp hpp with z | z
      · exact f2.2.2.2.2.2 p z
      · exact hp p z
  -- the turns
  have loop : codeAny (model X.prog X.w) X.A (.compLoop (.ListComp elt [⟨target, iter, [], 0⟩] scope pos) 0 (.ref it) (.ref D) (compEnvC scope (clOf F X.env) G.objs.size X.env))
      (RR (.ref D) (compEnvC scope (clOf F X.env) G.objs.size X.env))
      { s2 with heap := h4, toks := s2.toks + ([] : List (Str × Value)).length } := by
    refine kc0_loop (fun k s' => ∃ i ys H', k = m + 1 - i ∧ Inv (X.compF scope N F G.objs.size { s2 with heap := G } (upd H2 D (.lst [])) [it] (X.pn ++ pins)) [] (List.replicate N.length none ++ fvOf js σ) H' s' ∧ tn i s'.heap ∧ H' it = none ∧ W i ys H') ?_ (m + 1)
      ⟨0, [], _, rfl, I4, T.keep _ _ _ st2 fun o e => kp it o (by rw [← hG]; exact Heap.get?_push_of_some _ e), f3.1, w0⟩
    rintro k s5 ⟨i, ys, H5, rfl, I5, st5, n5, w5⟩
    obtain ⟨hi5, hD5, w5⟩ := turn i ys H5 w5
    rcases w5 with ⟨stop, q⟩ | ⟨lt5, go, step⟩
    · refine wpAny_mono (T.done (X.compF scope N F G.objs.size { s2 with heap := G } (upd H2 D (.lst [])) [it] (X.pn ++ pins)) rfl rfl rfl hdc i [] s5 _ H5 (fun _ _ => False) I5 (fpc I5 n5 (by simp)) st5 stop) (fun r s6 z => ?_) (fun _ _ z => z.elim)
      obtain ⟨rfl, I6⟩ := z
      obtain ⟨mm, hn6, _⟩ := I6.loc
      have B6 := I6.base
      have J6 : Inv X pins σ H5 s6 := by
        refine I3.call' (ch := [it]) I6.os ⟨B6.keep, B6.slot, B6.free, B6.there, B6.tups, B6.frzs, B6.tbls⟩ I6.hok I6.bare (fun b hb => ?_)
        have e : b = it := by simpa using hb
        subst e
        exact ⟨f2.2.2.2.1, f2.2.1, f2.2.2.2.2.1, f2.2.2.2.2.2⟩
      have szG : X.s₀.heap.objs.size ≤ G.objs.size := I3.sz
      refine hRR D G.objs.size s6 H5 mm J6 hn6 ⟨I6.free, ?_, ?_, .inr szG, ?_, ?_⟩ q
      · exact Nat.ne_of_gt I3.lt
      · intro z
        obtain ⟨_, o, ho, _⟩ := I3.funs.mem z
        exact Nat.lt_irrefl _ (Heap.lt_size ho)
      · rintro x c z rfl
        obtain ⟨v', o, ho, _⟩ := I3.cell x _ z
        exact Nat.lt_irrefl _ (Heap.lt_size ho)
      · rintro p hp z
        have zz := (I3.pin p hp).1
        rw [z] at zz
        exact Nat.lt_irrefl _ (Heap.lt_size zz)
    · refine wpAny_mono (T.item (X.compF scope N F G.objs.size { s2 with heap := G } (upd H2 D (.lst [])) [it] (X.pn ++ pins)) rfl rfl rfl hdc i [] s5 _ H5 (fun _ _ => False) I5 (fpc I5 n5 (by simp)) st5 go) (fun r s6 z => ?_) (fun _ _ z => z.elim)
      obtain ⟨u, rfl, z⟩ := z
      refine wpAny_mono z (fun _ s7 z => ?_) (fun _ _ z => z.elim)
      obtain ⟨x, I7, rx, yl, st7⟩ := z
      obtain ⟨o7, e7, d7⟩ := T.obj _ _ st7
      obtain ⟨p0, p1, p2, _⟩ := fpc I7 n5 (by simp)
      have I7' : Inv (X.compF scope N F G.objs.size { s2 with heap := G } (upd H2 D (.lst [])) [it] (X.pn ++ pins)) [(it, o7)] (List.replicate N.length none ++ fvOf js σ) H5 s7 := I7.pins_of fun p hp => by
        have e : p = (it, o7) := by simpa using hp
        subst e
        exact ⟨e7, p0, p1, p2, d7⟩
      have back : ∀ {i' : Nat} {ys' : List V} {H' : Hp} {σ' : St} {s' : Shared}, i' = i + 1 → Inv (X.compF scope N F G.objs.size { s2 with heap := G } (upd H2 D (.lst [])) [it] (X.pn ++ pins)) [(it, o7)] σ' H' s' → W i' ys' H' →
          ∃ k', k' < m + 1 - i ∧ ∃ i ys H', k' = m + 1 - i ∧ Inv (X.compF scope N F G.objs.size { s2 with heap := G } (upd H2 D (.lst [])) [it] (X.pn ++ pins)) [] (List.replicate N.length none ++ fvOf js σ) H' s' ∧ tn i s'.heap ∧ H' it = none ∧ W i ys H' := by
        rintro i' ys' H' σ' s' rfl J' w'
        obtain ⟨q1, q2, _⟩ := J'.pin (it, o7) (List.mem_append_right _ (List.mem_singleton.mpr rfl))
        refine ⟨m + 1 - (i + 1), by omega, i + 1, ys', H', rfl, inv_fresh S I3 f3 J', T.keep _ _ _ st7 fun o z => ?_, q2, w'⟩
        rw [e7] at z
        cases z
        exact q1
      refine wpAny_mono (gg [(it, o7)] s7 _ H5 x u _ I7' rx (step x H5 yl)) (fun _ s8 z => ?_) (fun _ _ z => z.elim)
      obtain ⟨σ8, H8, I8, q8⟩ := z
      refine wpAny_mono (ee [(it, o7)] s8 σ8 H8 _ I8 q8) (fun y s10 z => ?_) (fun _ _ z => z.elim)
      obtain ⟨yv, H10, I10, ry, hD10, hz10, w10⟩ := z
      refine wpAny_mono (mt_append (X := X.compF scope N F G.objs.size { s2 with heap := G } (upd H2 D (.lst [])) [it] (X.pn ++ pins)) [(it, o7)] s10 σ8 H10 (.ref D) [yv] (.ref D) [y] (fun _ H11 => W (i + 1) (ys ++ [yv]) H11) I10 rfl (.cons ry .nil) ⟨D, ys, yv, rfl, rfl, hD10, hz10, w10⟩) (fun _ s11 z => ?_) (fun _ _ z => z.elim)
      obtain ⟨_, H11, I11, _, w11⟩ := z
      exact back rfl I11 w11
  exact codeAny_compStart_list loop (T.self _ 0 _ _ _ (T.keep _ _ _ st2 fun o e => kp it o (by rw [← hG]; exact Heap.get?_push_of_some _ e)) loop)
/-- the comprehension as a value -/

theorem pe_compF {elt target iter : Expr} {c : Expr} {tc : TT} {pos : Pos} {wi : TI} {g : TG} {te : TE} (S : CompScopeF N F js scope X.N X.env) (hd : HdOk X) (hi : PIH X target iter wi) (hex : X.ex = [])
    (hg : ∀ C s₀ H₀ ex pn, HdOk (X.compF scope N F C s₀ H₀ ex pn) → PG (X.compF scope N F C s₀ H₀ ex pn) target g)
    (hc : ∀ C s₀ H₀ ex pn, HdOk (X.compF scope N F C s₀ H₀ ex pn) → PT (X.compF scope N F C s₀ H₀ ex pn) c tc)
    (he : ∀ C s₀ H₀ ex pn, HdOk (X.compF scope N F C s₀ H₀ ex pn) → PE (X.compF scope N F C s₀ H₀ ex pn) elt te)
    (hs : ∀ x, foldedSetIterable iter X.env x = pure x := by intro _; rfl) : PE X (.ListComp elt [⟨target, iter, [c], 0⟩] scope pos) (tCompF N.length js wi g tc te) := by
  intro pins s σ H Q I h
  rw [eval_ListComp]
  refine wpAny_comprehension_free (use := none) rfl hs S.clos S.kind S.loc (comp_walkF S hd hi hex hg hc he I h (RR := fun acc ce r s' => compPost (model X.prog X.w) X.A X.xe none (EP X pins σ Q) acc ce.locals r s') ?_)
  intro D C s6 H5 mm I6 n6 f6 q
  exact ⟨mm, n6, fun h' sb => ⟨.ref D, H5, letgo I6 f6 sb, rfl, q⟩⟩
theorem pe_compF0 {elt target iter : Expr} {pos : Pos} {wi : TI} {g : TG} {te : TE} (S : CompScopeF N F js scope X.N X.env) (hd : HdOk X) (hi : PIH X target iter wi) (hex : X.ex = [])
    (hg : ∀ C s₀ H₀ ex pn, HdOk (X.compF scope N F C s₀ H₀ ex pn) → PG (X.compF scope N F C s₀ H₀ ex pn) target g)
    (he : ∀ C s₀ H₀ ex pn, HdOk (X.compF scope N F C s₀ H₀ ex pn) → PE (X.compF scope N F C s₀ H₀ ex pn) elt te)
    (hs : ∀ x, foldedSetIterable iter X.env x = pure x := by intro _; rfl) : PE X (.ListComp elt [⟨target, iter, [], 0⟩] scope pos) (tCompF0 N.length js wi g te) := by
  intro pins s σ H Q I h
  rw [eval_ListComp]
  refine wpAny_comprehension_free (use := none) rfl hs S.clos S.kind S.loc (comp_walkF0 S hd hi hex hg he I h (RR := fun acc ce r s' => compPost (model X.prog X.w) X.A X.xe none (EP X pins σ Q) acc ce.locals r s') ?_)
  intro D C s6 H5 mm I6 n6 f6 q
  exact ⟨mm, n6, fun h' sb => ⟨.ref D, H5, letgo I6 f6 sb, rfl, q⟩⟩
end
end L2

set_option Elab.async false
set_option linter.all false
set_option maxRecDepth 100000
set_option maxHeartbeats 4000000
namespace L2
open PySem PySem.Spec PyProof.Rows PySem.W
/-- what of a comprehension's scope is seen in the text alone -/
structure CompS (N F : List Str) (sc : Scope) : Prop where
  kind : sc.kind = .function
  cell : ∀ y ∈ sc.names, y.2 ≠ .cell
  loc : ∀ y ∈ sc.names, y.2 = .local → sc.names.lookup y.1 = some .local
  fr : ∀ y ∈ sc.names, y.2 = .free → y.1 ∈ F
  nd : (N ++ F).Nodup
theorem fr_relabel {sc : Scope} {env : Env} {F : List Str} (cell : ∀ y ∈ sc.names, y.2 ≠ .cell) (fr : ∀ y ∈ sc.names, y.2 = .free → y.1 ∈ F) : ∀ y ∈ (relabel sc env).names, y.2 = .cell ∨ y.2 = .free → y.1 ∈ F := by
  intro y hy h
  obtain ⟨⟨n, k⟩, hm, e⟩ := List.mem_map.mp hy
  dsimp only at e
  split at e
  · rename_i hc
    subst e
    simp only [Bool.and_eq_true] at hc
    exact fr (n, k) hm (by simpa using hc.1.1)
  · subst e
    rcases h with h | h
    · exact absurd h (cell (n, k) hm)
    · exact fr (n, k) hm h
theorem CompScopeF.of1 {N : List Str} {x : Str} {j : Nat} {sc : Scope} {XN : List Str} {env : Env} (S : CompS N [x] sc) (clos : closureFor sc env = pure (clOf [x] env)) (hj : XN[j]? = some x) (hc : ∃ c, env.cells.lookup x = some c) (hk : env.kindOf x = some .cell)
    (hr : (relabel sc env).names.lookup x = some .cell) : CompScopeF N [x] [j] sc XN env :=
  ⟨S.kind, S.cell, S.loc, S.nd, clos, fr_relabel S.cell S.fr, fun k y h => match k, h with
    | 0, h => by cases h; exact ⟨⟨j, rfl, hj⟩, hc, hk, hr⟩
    | k + 1, h => by simp at h, rfl⟩
/-! ### in, of texts -/
theorem inV_str (z : Str) : ∀ zs : List Str, inV (.str z) (zs.map V.str) = zs.contains z
  | [] => rfl
  | y :: zs => by
    show (eqV (.str y) (.str z) || inV (.str z) (zs.map V.str)) = _
    rw [inV_str z zs, List.contains_cons]
    show ((y == z) || _) = _
    rw [BEq.comm]
theorem flat_strs : ∀ zs : List Str, (zs.map V.str).all flatV = true
  | [] => rfl
  | _ :: zs => flat_strs zs
/-! ### a walk over a tuple of the text -/
/-- [x for x in t if test], t a tuple of texts, the test told by f -/
theorem comp_tup {K : Frag} {H : Hp} {σ σf : L2.St} {a : Addr} {zs : List Str} {f : Str → Bool} {tc : TT} {te : TE} {Q : VK} (hl : ∀ H, SqT K H a (zs.map V.str)) (hz : zs.length ≤ 100)
    (ht : ∀ (z : Str) (H' : Hp) (Qb : Bool → Hp → Prop), Same H H' → Qb (f z) H' → tc (some (.str z) :: σf) H' Qb) (he : ∀ (z : Str) (H' : Hp) (Qv : VK), Qv (.str z) H' → te (some (.str z) :: σf) H' Qv)
    (k : ∀ D H', Same H H' → H D = none → H' D = some (.lst ((zs.filter f).map V.str)) → Q (.ref D) H') {js : List Nat} (hj : fvOf js σ = σf) : tCompF 1 js (iTup K (tC (.ref a))) (gName 0) tc te σ H Q := by
  refine ⟨a, rfl, ⟨_, hl H⟩, fun D hD => ⟨zs.length, fun i ys H2 => i ≤ zs.length ∧ ys = ((zs.take i).filter f).map V.str ∧ H2 = upd H D (.lst ys), ⟨Nat.zero_le _, rfl, rfl⟩, ?_⟩⟩
  rintro i ys H2 ⟨hi, rfl, rfl⟩
  refine ⟨hi, upd_same, ?_⟩
  have sm : Same H (upd H D (.lst (((zs.take i).filter f).map V.str))) := Same.upd hD
  have lz : (((zs.take i).filter f).map V.str).length ≤ 100 := by
    rw [List.length_map]
    exact Nat.le_trans (List.length_filter_le _ _) (by rw [List.length_take]; omega)
  by_cases hlt : i < zs.length
  · refine .inr ⟨hlt, ⟨_, V.str zs[i], hl _, by simp [hlt]⟩, fun x H3 y => ?_⟩
    obtain ⟨rfl, y⟩ := y
    have ex : x = V.str zs[i] := by
      have := y _ (hl _)
      simp [hlt] at this
      exact this.symm
    subst ex
    rw [hj]
    show tc (some (.str zs[i]) :: σf) _ _
    refine ht _ _ _ sm ?_
    have et : (zs.take (i + 1)).filter f = (zs.take i).filter f ++ (if f zs[i] then [zs[i]] else []) := by
      rw [List.take_succ_eq_append_getElem hlt, List.filter_append]
      congr 1
      cases hb : f zs[i] <;> simp [hb]
    cases hb : f zs[i] with
    | false =>
      refine iteF ⟨hlt, ?_, rfl⟩
      rw [et, hb]; simp
    | true =>
      refine iteT (he _ _ _ ⟨upd_same, Nat.lt_of_le_of_lt lz (small1000 (by decide)), hlt, ?_, ?_⟩)
      · rw [et, hb]; simp
      · rw [upd_upd]
  · have e : i = zs.length := by omega
    subst e
    refine .inl ⟨⟨_, hl _, by simp⟩, k D _ sm hD ?_⟩
    rw [List.take_length]
    exact upd_same
end L2
set_option Elab.async false
set_option linter.all false
set_option maxRecDepth 100000
set_option maxHeartbeats 4000000
/-! an exception class of one's own with an __init__ of its own, under another class of one's own -/
namespace L2
open PySem
section
variable {prog : Program} {w : World} {A : Around} {E : Value → Shared → Prop} {h : Heap} {g : Array GenState} {d : Drawn} {t : Nat} {os : OsState}
variable {nm q : Str} {C N : Addr} {bs bm bmB : List Value} {hdct : Bool} {sn : List Str} {sub : List Value} {ab : Bool} {col : Option Bool} {dd : Option Addr} {k0 k1 k2 k3 k5 : Option Value} {B newId initId : String}
theorem type_call_exc_initT (F : ExcBaseFacts B newId initId bmB) (T : OwnTail h bmB bm) {mN : Str → Option Value} {rest : List Value} {fI : Addr} {oI : Obj} {Q : Fin → Shared → Prop}
    (hC : h.get? C = some (excClassObj nm q C N bs bm hdct sn sub ab col dd k0 k1 k2 k3 k5 newId)) (hn : h.Ns N mN) (hi : mN "__init__" = some (.ref fI))
    (hfI : h.get? fI = some oI) (hfc : oI.cls = .type "function")
    (hq : ∀ h' e, Heap.MadeExcOf h h' e (.ref C) rest →
      wpAny (model prog w) A (call (.ref fI) (.ref e :: rest)) (fun r s' => r = .none ∧ Q (.done (.ret (.ref e))) s') E ⟨h', g, d, t, os⟩) (hrest : rest.length ≤ sizeLine) :
    wpAny (model prog w) A (Builtin.«type.__call__» ⟨.ref C :: rest, []⟩) Q E ⟨h, g, d, t, os⟩ := by
  repeat (first | with_reducible refine wpAny_loadPart_at hC ?_ | with_reducible refine wpAny_madeBy_exc hC ?_ | wp_step)
  refine codeAny_call_builtin_code (Code.quiet_builtin _ F.quiet) (wpAny_check_new_subT F T hC ?_)
  refine codeAny_exc_new_subT F T hC ?_ hrest
  show wpAny _ _ _ _ _ _
  have hC₁ := Heap.get?_push_of_some { cls := .ref C, data := .fields #[.ref h.objs.size, .none, .none, .none, .bool false, .none] }
    (Heap.get?_push_of_some { cls := .type "tuple", data := .seq rest.toArray } hC)
  have hfI₁ := Heap.get?_push_of_some { cls := .ref C, data := .fields #[.ref h.objs.size, .none, .none, .none, .bool false, .none] }
    (Heap.get?_push_of_some { cls := .type "tuple", data := .seq rest.toArray } hfI)
  have hn₁ : ((h.push { cls := .type "tuple", data := .seq rest.toArray }).push { cls := .ref C, data := .fields #[.ref h.objs.size, .none, .none, .none, .bool false, .none] }).Ns N mN :=
    let ⟨o, es, ep, e, r⟩ := hn; ⟨o, es, ep, Heap.get?_push_of_some _ (Heap.get?_push_of_some _ e), r⟩
  have hget : ((h.push { cls := .type "tuple", data := .seq rest.toArray }).push
      { cls := .ref C, data := .fields #[.ref h.objs.size, .none, .none, .none, .bool false, .none] }).get? (h.objs.size + 1) = some
      { cls := .ref C, data := .fields #[.ref h.objs.size, .none, .none, .none, .bool false, .none] } := by heap_get
  have hcC : (Value.ref C :: bm).contains (.ref C) = true := by simp
  have T₁ := T.keeps (h' := (h.push { cls := .type "tuple", data := .seq rest.toArray }).push { cls := .ref C, data := .fields #[.ref h.objs.size, .none, .none, .none, .bool false, .none] })
    fun b o e => Heap.get?_push_of_some _ (Heap.get?_push_of_some _ e)
  unfold isInstance
  repeat (first | with_reducible refine wpAny_loadPart_at hget ?_ | (with_reducible refine wpAny_isSubtype_exc hC₁ ?_; rw [hcC]) | wp_step)
  show wpAny _ _ (typeLookup (.ref C) _) _ _ _
  refine wpAny_typeLookup_tail hC₁ hn₁ T₁ F.mroIs F.init.lookup ?_
  rw [hi]
  refine wpAny_holding (wpAny_bind ?_)
  unfold bindSpecial
  refine wpAny_bind (wpAny_typeOf (T := "function") ⟨_, hfI₁, hfc⟩ ?_)
  rw [if_pos (by decide)]
  refine wpAny_pure (wpAny_bind (wpAny_mono (hq _ (h.objs.size + 1) ⟨fun b o hb => Heap.get?_push_of_some _ (Heap.get?_push_of_some _ hb), Heap.get?_none_of_le (Nat.le_succ _), h.objs.size, hget, Heap.get?_none_of_le (Nat.le_refl _), ?_⟩) (fun r s' hr => ?_) fun _ _ x => x))
  · exact Heap.get?_push_of_some _ (Heap.get?_push_at rfl rfl)
  · obtain ⟨rfl, hQ⟩ := hr
    wp_walk
    exact hQ
theorem call_exc_initT (F : ExcBaseFacts B newId initId bmB) (T : OwnTail h bmB bm) {mN : Str → Option Value} {rest : List Value} {fI : Addr} {oI : Obj} {Q : Value → Shared → Prop}
    (hC : h.get? C = some (excClassObj nm q C N bs bm hdct sn sub ab col dd k0 k1 k2 k3 k5 newId)) (hn : h.Ns N mN) (hi : mN "__init__" = some (.ref fI))
    (hfI : h.get? fI = some oI) (hfc : oI.cls = .type "function")
    (hq : ∀ h' e, Heap.MadeExcOf h h' e (.ref C) rest →
      wpAny (model prog w) (A.under (.builtin "type.__call__" ⟨.ref C :: rest, []⟩)) (call (.ref fI) (.ref e :: rest)) (fun r s' => r = .none ∧ Q (.ref e) s') E ⟨h', g, d, t, os⟩) (hrest : rest.length ≤ sizeLine) :
    wpAny (model prog w) A (call (.ref C) rest) Q E ⟨h, g, d, t, os⟩ := by
  have f1 := tc_lookup
  have f2 := tc_bind (.ref C)
  have hT : (⟨h, g, d, t, os⟩ : Shared).TypeIs (.ref C) "type" := ⟨_, hC, rfl⟩
  refine wpAny_call (codeAny_of_tree ?_)
  show wpAny _ _ (callAny (.ref C) _) _ _ _
  repeat (any_goals (first | assumption | with_reducible refine wpAny_loadPart_at hC ?_ | wp_step))
  refine ⟨rfl, ?_⟩
  refine codeAny_call_builtin_at (Code.quiet_builtin _ (by decide +kernel)) entry_typeCall (wpAny_check_type_call_sub hC (type_call_exc_initT (hrest := hrest) F T hC hn hi hfI hfc fun h' e hm => ?_))
  exact hq h' e hm
end
section
variable {M : Model} {prog : Program} {w : World} {A : Around} {E : Value → Shared → Prop} {s : Shared} {env : Env}
variable {nm q : Str} {C N : Addr} {bs bm bmB : List Value} {hdct : Bool} {sn : List Str} {sub : List Value} {ab : Bool} {col : Option Bool} {dd : Option Addr} {k0 k1 k2 k3 k5 : Option Value} {B newId initId : String}
theorem raiseStmt_dict {x : Sem Value} {Q : Flow → Shared → Prop} (hbase : bm.contains (.type "BaseException") = true) (hh : A.handled = none)
    (h : wpAny M A x (fun v s₁ => ∃ e t de, v = .ref e ∧ s₁.heap.get? C = some (excClassObj nm q C N bs bm hdct sn sub ab col dd k0 k1 k2 k3 k5 newId) ∧
      s₁.heap.get? e = some { cls := .ref C, dict := de, data := .fields #[.ref t, .none, .none, .none, .bool false, .none] } ∧ E (.ref e) s₁) E s) :
    wpAny M A (raiseStmt env (some x) none) Q E s := by
  have hcB : (Value.ref C :: bm).contains (.type "BaseException") = true := by rw [List.contains_cons, hbase, Bool.or_true]
  unfold raiseStmt
  refine wpAny_bind (wpAny_mono h (fun v s₁ h₁ => ?_) fun _ _ x => x)
  obtain ⟨e, t, de, rfl, hC, he, hE⟩ := h₁
  obtain ⟨hp, g, d, tk, os⟩ := s₁
  repeat (first | with_reducible refine wpAny_loadPart_at he ?_ | with_reducible refine wpAny_loadPart_at hC ?_ | (with_reducible refine wpAny_isSubtype_exc hC ?_; rw [hcB]) | wp_step)
  exact wpAny_raiseNew_none hh hE
/-- raise C(..) -/
theorem Raise_call_initT (F : ExcBaseFacts B newId initId bmB) {mN : Str → Option Value} {x : Str} {np cpos pos : Pos} {args : List Expr} {Q : Flow → Shared → Prop} {fI : Addr} {oI : Obj}
    (hbase : bm.contains (.type "BaseException") = true) (hh : A.handled = none) (hplain : (backTo cpos (starEach args env)).any (·.1) = false) (hi : mN "__init__" = some (.ref fI)) (hfc : oI.cls = .type "function")
    (h : wpAny (model prog w) A (eval (.Name x np) env) (fun f s₁ => f = .ref C ∧ wpAny (model prog w) A (evalArgs (.ref C) true (backTo cpos (starEach args env)) [])
      (fun a s₂ => a.kw = [] ∧ a.pos.length ≤ sizeLine ∧ s₂.heap.get? C = some (excClassObj nm q C N bs bm hdct sn sub ab col dd k0 k1 k2 k3 k5 newId) ∧ s₂.heap.Ns N mN ∧ OwnTail s₂.heap bmB bm ∧ s₂.heap.get? fI = some oI ∧
        ∀ h' e, Heap.MadeExcOf s₂.heap h' e (.ref C) a.pos → wpAny (model prog w) (A.under (.builtin "type.__call__" ⟨.ref C :: a.pos, []⟩)) (call (.ref fI) (.ref e :: a.pos))
          (fun r s₃ => r = .none ∧ s₃.heap.get? C = some (excClassObj nm q C N bs bm hdct sn sub ab col dd k0 k1 k2 k3 k5 newId) ∧ (∃ t de, s₃.heap.get? e = some { cls := .ref C, dict := de, data := .fields #[.ref t, .none, .none, .none, .bool false, .none] }) ∧ E (.ref e) s₃) E { s₂ with heap := h' }) E s₁) E s) :
    wpAny (model prog w) A (exec (.Raise (some (.Call (.Name x np) args [] cpos)) none pos) env) Q E s := by
  rw [arm_exec_Raise]
  first
    | refine wpAny_bind (wpAny_standAt (raiseStmt_dict (C := C) (nm := nm) (q := q) (N := N) (bs := bs) (bm := bm) (hdct := hdct) (sn := sn) (sub := sub) (ab := ab) (col := col) (dd := dd) (k0 := k0) (k1 := k1) (k2 := k2) (k3 := k3) (k5 := k5) (newId := newId) hbase hh (wpAny_bind (wpAny_mono (wpAny_Call_ofName (wpAny_mono h (fun f s₁ h₁ => ?_) fun _ _ x => x)) (fun v s₃ h₃ => wpAny_bind (wpAny_standAt (wpAny_pure h₃))) fun _ _ x => x))))
    | (simp only [evalOpt, Option.map]; refine wpAny_bind (wpAny_standAt (raiseStmt_dict (C := C) (nm := nm) (q := q) (N := N) (bs := bs) (bm := bm) (hdct := hdct) (sn := sn) (sub := sub) (ab := ab) (col := col) (dd := dd) (k0 := k0) (k1 := k1) (k2 := k2) (k3 := k3) (k5 := k5) (newId := newId) hbase hh (wpAny_bind (wpAny_mono (wpAny_Call_ofName (wpAny_mono h (fun f s₁ h₁ => ?_) fun _ _ x => x)) (fun v s₃ h₃ => wpAny_bind (wpAny_standAt (wpAny_pure h₃))) fun _ _ x => x)))))
  obtain ⟨rfl, h₁⟩ := h₁
  unfold callWith
  refine wpAny_bind (wpAny_holding (wpAny_mono h₁ (fun a s₂ h₂ => wpAny_bind (wpAny_standAt ?_)) fun _ _ x => x))
  obtain ⟨apos, akw⟩ := a
  obtain ⟨hkw, hlen, hC, hn, T, hf, h₂⟩ := h₂
  obtain rfl : akw = [] := hkw
  obtain ⟨hp, g, d, tk, os⟩ := s₂
  simp only [hplain]
  refine wpAny_bind (wpAny_keeperOf_exc hC ?_)
  refine wpAny_bind (call_exc_initT F T hC hn hi hf hfc (fun h' e hm => wpAny_mono (h₂ h' e hm) (fun r s₃ z => ⟨z.1, wpAny_bind (wpAny_holding (wpAny_point (wpAny_pure ?_)))⟩) fun _ _ x => x) hlen)
  obtain ⟨_, hC3, ⟨t, de, he⟩, hE⟩ := z
  exact ⟨e, t, de, rfl, hC3, he, hE⟩
end
end L2
set_option Elab.async false
set_option linter.all false
set_option maxRecDepth 100000
set_option maxHeartbeats 4000000
namespace L2
open PySem PySem.Spec PyProof.Rows PySem.W
/-! ### an own exception class with an __init__ of its own -/
abbrev veMro : List Value := [.type "ValueError", .type "Exception", .type "BaseException", .type "object"]
structure ExcI (K : Frag) (C fI : Addr) : Prop where
  cls : ∃ nm q N bs bm sn sub ab col dd k0 k1 k2 k3 k5, K.lookup C = some (excClassObj nm q C N bs bm true sn sub ab col dd k0 k1 k2 k3 k5 "ValueError.__new__") ∧ nsOkIn K N = true ∧ nsIn K N "__init__" = some (some (.ref fI)) ∧ tailIn K veMro bm = true
  fn : ∃ o, K.lookup fI = some o ∧ o.cls = .type "function"
  sa : findIn K (.ref C) "__setattr__" = some (some (.builtin "object.__setattr__"))
  ob : mroIn K C (.type "object") = some true
theorem ns_some_of {K : Frag} {h : Heap} {N : Addr} {mg : Str → Option Value} {n : Str} {v : Value} (X : K.In h) (G : h.Ns N mg) (e : nsIn K N n = some (some v)) : mg n = some v := by
  obtain ⟨o, es, ep, ho, hd, _, hf⟩ := G
  unfold nsIn at e
  split at e
  · rename_i c d es' n' sl q
    have := X _ _ q
    rw [ho] at this
    cases this
    cases hd
    split at e
    · rename_i en he
      cases e
      rw [← hf]
      unfold nsFind findBy
      rw [← Array.find?_toList, he]
      rfl
    · split at e <;> cases e
  · cases e
theorem refuse_tail {h : Heap} (self : Value) : ∀ {l : List Value}, OwnTail h veMro l → refuseLoop self "__setattr__" l = pure ()
  | _, .base => PySem.F.store_ValueError.passes self
  | _, .own _ _ _ t => by rw [refuseLoop_ref]; exact refuse_tail self t
section
variable {prog : Program} {w : World} {A : Around} {s : Shared} {K : Frag} {C e fI : Addr} {t : Addr} {R : Result → Shared → Prop} {name : Str} {tk : Tok} {v : Value}
theorem osa_exc (X : K.In s.heap) (F : ExcI K C fI) (he : s.heap.get? e = some (ExcO (.ref C) t none .none)) (ht : findIn K (.ref C) name = some none)
    (h : ∀ h' tk' d, (∀ b ob, b ≠ e → s.heap.get? b = some ob → h'.get? b = some ob) → h'.get? e = some (ExcO (.ref C) t (some d) .none) → h'.Ns1 d (fun y => if y = name then some v else none) → s.heap.get? d = none → d ≠ e →
      R (.ok (.ret .none)) { s with heap := h', toks := tk' }) :
    codeAny (model prog w) A (.call (.builtin "object.__setattr__") ⟨[.ref e, .str name tk, v], []⟩) R s := by
  have SF := PySem.F.store_object
  obtain ⟨nm, q, N, bs, bm, sn, sub, ab, col, dd, k0, k1, k2, k3, k5, lC, nO, nI, tl⟩ := F.cls
  have hC := X _ _ lC
  have I : PySem.W.InstAt s.heap e (ExcO (.ref C) t none .none) C none := ⟨he, rfl, rfl, trivial⟩
  have hc : clsIn K C = some { name := nm, bases := bs, mro := .ref C :: bm, ns := N, qualname := q, hasDict := true, slotNames := sn, subclasses := sub, abstract := ab, collection := col, hasDel := false } := by
    unfold clsIn
    rw [lC]
  have sub' : Looks (model prog w) s.heap (isInstance (.ref e) (.type "object")) true := I.type.andThen (looks_mroIn X F.ob)
  refine codeAny_call_builtin SF.slot.plain SF.entry (@check_slot (model prog w) _ _ s "object.__setattr__" "object" "__setattr__" (.ref e) [.str name tk, v] [] _ SF.kind SF.split sub' (SF.args (.ref e) (.str name tk) v) ?_)
  have hm : Looks (model prog w) s.heap (mroOf (.ref C)) (.ref C :: bm) := (looks_clsIn X hc).andThen .now
  have L3 : Looks (model prog w) s.heap (Builtin.ObjectAttr.storeTaker? none) none := .now
  rw [osa_eq, refuse_eq]
  refine wpAny_bind (wpAny_bind (I.type.here (wpAny_bind (hm.here ?_))))
  rw [refuseLoop_ref, refuse_tail _ (tail_of_in X tl)]
  refine wpAny_pure (wpAny_bind (I.type.here (wpAny_bind ((looks_findIn X ht).here (wpAny_bind (L3.here ?_))))))
  dsimp only
  refine wpAny_bind (wpAny_pure (wpAny_bind (wpAny_bind (wpAny_loadPart he (wpAny_bind (PySem.W.Looks.here (PySem.W.looks_clsIn X hc) ?_))))))
  have hx₁ : (s.heap.push { cls := .type "dict", data := .dict #[] }).get? e = some (ExcO (.ref C) t none .none) := Heap.get?_push_of_some _ he
  have hxs : e ≠ s.heap.objs.size := Nat.ne_of_lt (Heap.lt_size he)
  show wpAny (model prog w) A.in1 (do
      let d ← alloc { cls := Value.type "dict", data := Data.dict #[] }
      update e fun o => { cls := o.cls, dict := some d, data := o.data, slots := o.slots }
      pure (some d)) _ _ _
  refine wpAny_bind (wpAny_alloc' ?_)
  refine wpAny_bind (wpAny_update' hx₁ ?_)
  refine wpAny_pure ?_
  have hgd : ((s.heap.push { cls := .type "dict", data := .dict #[] }).update e fun o => { cls := o.cls, dict := some s.heap.objs.size, data := o.data, slots := o.slots }).get? s.heap.objs.size
      = some { cls := .type "dict", data := .dict #[] } :=
    (Heap.get?_update_ne _ _ _ _ hxs.symm).trans (Heap.get?_push_at rfl rfl)
  have hnd : ((s.heap.push { cls := .type "dict", data := .dict #[] }).update e fun o => { cls := o.cls, dict := some s.heap.objs.size, data := o.data, slots := o.slots }).Ns s.heap.objs.size (fun _ => none) :=
    ⟨_, #[], _, hgd, rfl, fun e he => absurd he (by simp), fun _ => rfl⟩
  show wpAny _ _ (Builtin.ObjectAttr.storeInDict s.heap.objs.size (.str name tk) name v) _ _ _
  unfold Builtin.ObjectAttr.storeInDict Builtin.ObjectAttr.newKeyGuard
  refine wpAny_bind (wpAny_pure (wpAny_bind (wpAny_nsSet1 (Heap.Ns1.of_empty hnd) fun h' hn' hs => ?_)))
  obtain ⟨oD, esD, epD, hoD, hdD, hcD⟩ := hn'.count (Within.cons name v Within.nil)
  refine wpAny_bind (wpAny_lookBehind hoD (by rw [hdD]; exact pastItsLine_dict (Nat.le_trans hcD (by rw [List.length_cons, List.length_nil, sizeLine_eq]; omega))) ?_)
  have hx' : h'.get? e = some (ExcO (.ref C) t (some s.heap.objs.size) .none) := (hs.2 e hxs).trans (Heap.get?_update_self _ hx₁ rfl)
  refine wpAny_pure (h h' _ s.heap.objs.size (fun b ob hbx hb => ?_) hx' hn' (Heap.get?_none_of_le (Nat.le_refl _)) hxs.symm)
  exact (hs.2 b (Nat.ne_of_lt (Heap.lt_size hb))).trans ((Heap.get?_update_ne _ _ _ _ hbx).trans (Heap.get?_push_of_some _ hb))
end
/-- the exception at e, of the class C, on its way to be made -/
def excIs (e C t : Addr) (d : Option Addr) : Heap → Prop := fun h => h.get? e = some (ExcO (.ref C) t d .none)
theorem ext_ok {P : Program} {w : World} {H : Hp} {h : Heap} {e C t : Addr} {d : Option Addr} (q : h.get? e = some (ExcO (.ref C) t d .none)) : ObjOk P w H h e (.ext (excIs e C t d)) :=
  ⟨q, ⟨_, q⟩, fun _ _ z k => k _ z⟩
section
variable {X : Cx} {pins : List (Addr × Obj)} {σ : St} {H : Hp} {s : Shared}
/-- a new thing is tracked from now on -/
theorem Inv.trackO {a : Addr} {ho : HO} (I : Inv X pins σ H s) (n : Nw X pins H a) (ok : ObjOk X.prog X.w (upd H a ho) s.heap a ho) : Inv X pins σ (upd H a ho) s := by
  have ne : ∀ b u, H b = some u → b ≠ a := fun b u z q => by rw [q, n.un] at z; cases z
  have up : ∀ b, b ≠ a → upd H a ho b = H b := fun b hb => upd_ne hb
  refine ⟨I.ok, I.os, I.bare, ⟨I.base.keep, I.base.slot, fun b u z m hx => ?_, I.base.there, fun b xs z => ?_, fun b u v z => ?_, fun b ps z => ?_⟩, I.loc, I.cell, ?_, fun x c z => ?_, fun p hp => ?_, fun b u z => ?_, I.len⟩
  · rw [up b fun q => by rw [q, n.old] at z; cases z]
    exact I.base.free b u z m hx
  · have := I.base.tups b xs z
    rw [up b (ne b _ this)]; exact this
  · have := I.base.frzs b u v z
    rw [up b (ne b _ this)]; exact this
  · obtain ⟨more, this⟩ := I.base.tbls b ps z
    exact ⟨more, by rw [up b (ne b _ this)]; exact this⟩
  · rw [up _ (Ne.symm n.loc)]; exact I.free
  · rw [up _ (n.cell x c z)]; exact I.freeC x c z
  · obtain ⟨q1, q2, q3⟩ := I.pin p hp
    exact ⟨q1, by rw [up _ (n.pin p hp)]; exact q2, q3⟩
  · by_cases hb : b = a
    · subst hb
      rw [upd_same] at z
      cases z
      exact ok
    · rw [up b hb] at z
      exact (I.hok b u z).stay (fun _ _ _ q => q) (fun c q => by rw [up c (ne c _ q)]; exact q) (fun c xs q => by rw [up c (ne c _ q)]; exact q)
/-- nobody's again -/
def rem (H : Hp) (a : Addr) : Hp := fun b => if b = a then none else H b
theorem rem_same {a : Addr} : rem H a a = none := by unfold rem; rw [if_pos rfl]
theorem rem_ne {a b : Addr} (h : b ≠ a) : rem H a b = H b := by unfold rem; rw [if_neg h]
theorem Inv.forget {a : Addr} {φ : Heap → Prop} (I : Inv X pins σ H s) (e : H a = some (.ext φ)) : Inv X pins σ (rem H a) s := by
  have ne : ∀ b u, H b = some u → (∀ φ, u ≠ .ext φ) → b ≠ a := fun b u z q w => by rw [w, e] at z; cases z; exact q _ rfl
  have non : ∀ b, H b = none → rem H a b = none := fun b z => by
    by_cases q : b = a
    · rw [q]; exact rem_same
    · rw [rem_ne q]; exact z
  refine ⟨I.ok, I.os, I.bare, ⟨I.base.keep, I.base.slot, fun b u z m hx => non b (I.base.free b u z m hx), I.base.there, fun b xs z => ?_, fun b u v z => ?_, fun b ps z => ?_⟩, I.loc, I.cell, non _ I.free, fun x c z => non _ (I.freeC x c z), fun p hp => ?_, fun b u z => ?_, I.len⟩
  · have := I.base.tups b xs z
    rw [rem_ne (ne b _ this (fun _ q => nomatch q))]; exact this
  · have := I.base.frzs b u v z
    rw [rem_ne (ne b _ this (fun _ q => nomatch q))]; exact this
  · obtain ⟨more, this⟩ := I.base.tbls b ps z
    exact ⟨more, by rw [rem_ne (ne b _ this (fun _ q => nomatch q))]; exact this⟩
  · obtain ⟨q1, q2, q3⟩ := I.pin p hp
    exact ⟨q1, non _ q2, q3⟩
  · have hb : b ≠ a := fun q => by rw [q, rem_same] at z; cases z
    rw [rem_ne hb] at z
    exact (I.hok b u z).stay (fun _ _ _ q => q) (fun c q => by rw [rem_ne (ne c _ q (fun _ w => nomatch w))]; exact q) (fun c xs q => by rw [rem_ne (ne c _ q (fun _ w => nomatch w))]; exact q)
end
/-- self.f = value, self an exception -/
def sFldX (C : Addr) (ta tv : TE) (f : Str) : TS := fun D σ H => tv σ H fun y H1 => ta σ H1 fun x H2 => ∃ e t, x = .ref e ∧ H2 e = some (.ext (excIs e C t none)) ∧
  ∀ d, H2 d = none → d ≠ e → D.nx σ (upd (upd H2 e (.ext (excIs e C t (some d)))) d (.xd [(f, y)]))
section
variable {X : Cx} {o value : Expr} {f : Str} {pos pos' : Pos} {ta tv : TE} {C fI : Addr}
theorem psx_fld (F : ExcI X.K C fI) (hf : findIn X.K (.ref C) f = some none) (ha : PE X o ta) (hv : PE X value tv) (hs : swapsWith value (some (.Attribute o f pos')) pos.line X.env = pure false) (hex : X.ex = [] := by rfl) :
    PS X (.Assign [.Attribute o f pos'] value pos) (sFldX C ta tv f) := by
  intro pins s σ H D I h
  refine plainObj_wpAny_Assign_Attribute (thn (hv pins s σ H _ I h) fun u s1 ⟨y, H1, I1, ry, q⟩ => thn (ha pins s1 σ H1 _ I1 q) fun ov s2 ⟨x, H2, I2, rx, e, t, ex, ea, q2⟩ => ?_) hs
  subst ex
  obtain rfl : ov = Value.ref e := rx
  have he : s2.heap.get? e = some (ExcO (.ref C) t none .none) := (I2.hok e _ ea).1
  refine set_plain I2.kIn (⟨he, rfl, rfl, trivial⟩ : PySem.W.InstAt s2.heap e (ExcO (.ref C) t none .none) C none) F.sa (osa_exc (s := { s2 with toks := s2.toks + 1 }) I2.kIn F he hf fun h' tk' d k1 k2 k3 k4 k5 => ?_)
  have nd : H2 d = none := I2.hok.new k4
  have I3 : Inv X pins σ (upd H2 e (.ext (excIs e C t (some d)))) { s2 with heap := h', toks := tk' } :=
    I2.write (x := e) (e := e) (by rw [ea]; exact trivial) (.inl rfl) (fun b u hb z => k1 b u hb z) ⟨_, k2⟩ (ext_ok k2)
  have nw : Nw X pins (upd H2 e (.ext (excIs e C t (some d)))) d := I2.nw hex k4 (by rw [upd_ne k5]; exact nd)
  refine ⟨σ, _, I3.trackO (ho := .xd [(f, y)]) nw ⟨_, k3, fun g => ?_⟩, q2 d nd k5⟩
  show RelO (List.lookup g [(f, y)]) (if g = f then some u else none)
  by_cases z : g = f
  · rw [if_pos z, z]
    have : List.lookup f [(f, y)] = some y := by simp [List.lookup]
    rw [this]; exact ry
  · rw [if_neg z]
    have : List.lookup g [(f, y)] = none := by
      have hb : (g == f) = false := beq_eq_false_iff_ne.mpr z
      simp [List.lookup, hb]
    rw [this]; exact trivial
end
/-- what the __init__ of such a class does: self.f = its argument -/
def spExcI (C : Addr) (f : Str) : Sp := fun vs H Q _ => ∃ e t v, vs = [.ref e, v] ∧ H e = some (.ext (excIs e C t none)) ∧ ∀ d, H d = none → d ≠ e → Q .non (upd (upd H e (.ext (excIs e C t (some d)))) d (.xd [(f, v)]))
/-- raise C(e) -/
def tRaiseI (C : Addr) (f : Str) (EH : EK) (t : TA) : TS := fun _ σ H => t σ H fun vs H1 => ∃ v, vs = [v] ∧ ∀ d H2, Same H1 H2 → H1 d = none → H2 d = some (.xd [(f, v)]) → EH (.ref C) (some d) σ H2
section
variable {X : Cx} {x f : Str} {p cpos pos : Pos} {e : Expr} {t : TA} {C fI : Addr} {fdI : FuncData} {ps : List Str} {EH : EK} {j k : Nat}
theorem ps_raiseI (hm : X.mg x = some (.ref C)) (F : ExcI X.K C fI) (G : FnOk X.prog X.w X.K X.mg X.base CX0 j fI fdI ps (spExcI C f)) (bI : Binds X.K fdI ps []) (hr : Room k X.A) (hx : Catches X EH) (ha : PA X [e] t) (hj : j + 1 ≤ k := by decide) (hg : Gl X x := by rfl) (hex : X.ex = [] := by rfl)
    (hdb : (x == ("__debug__" : Str)) = false := by decide) (he : starEach [e] X.env = (false, eval e X.env) :: starEach [] X.env := by rfl) (hpl : (backTo cpos (starEach [] X.env)).any (·.1) = false := by rfl) :
    PS X (.Raise (some (.Call (.Name x p) [e] [] cpos)) none pos) (tRaiseI C f EH t) := by
  intro pins s σ H D I h
  obtain ⟨nm, q, N, bs, bm, sn, sub, ab, col, dd, k0, k1, k2, k3, k5, lC, nO, nI, tl⟩ := F.cls
  obtain ⟨oI, lI, cI⟩ := F.fn
  have T0 : OwnTail X.base veMro bm := tail_of_in I.ok.mod.kin tl
  have hN0 : X.base.Ns N (X.base.nsMap N) := .of_isNs (isNs_of_in I.ok.mod.kin nO)
  have hi0 : X.base.nsMap N "__init__" = some (.ref fI) := ns_some_of I.ok.mod.kin hN0 nI
  refine Raise_call_initT (C := C) (nm := nm) (q := q) (N := N) (bs := bs) (bm := bm) (hdct := true) (sn := sn) (sub := sub) (ab := ab) (col := col) (dd := dd) (k0 := k0) (k1 := k1) (k2 := k2) (k3 := k3) (k5 := k5) (oI := oI) PySem.F.excBase_ValueError (mN := X.base.nsMap N) (T0.hasType PySem.F.excBase_ValueError.hasBase) hr.hd
    (by rw [he]; show (false || (backTo cpos (starEach [] X.env)).any (·.1)) = false; rw [hpl]; rfl) hi0 cI (ld_glob I hg hm ⟨rfl, ?_⟩ hdb)
  have ha' := ha cpos pins s σ H _ I h
  rw [he] at ha' ⊢
  refine Calls.evalArgs_plain (wpAny_mono ha' (fun us s2 ⟨vs, H1, I1, r, v, ev, z⟩ => ?_) fun _ _ y => y)
  subst ev
  obtain ⟨u, rfl, ru⟩ := r.one
  refine ⟨rfl, line1000 (by show 1 ≤ 1000; decide), I1.kIn _ _ lC, hN0.keeps I1.bk, T0.keeps I1.bk, I1.kIn _ _ lI, fun h' a m => ?_⟩
  obtain ⟨t', e1, tn, e2⟩ := m.there
  have I2 : Inv X pins σ H1 { s2 with heap := h' } := I1.kept (t' := s2.toks) m.keeps
  have na : H1 a = none := I1.hok.new m.new
  have I3 := I2.trackO (ho := .ext (excIs a C t' none)) (I1.nw hex m.new na) (ext_ok e1)
  have sp0 : spExcI C f [.ref a, v] (upd H1 a (.ext (excIs a C t' none))) (fun v0 H' => v0 = .non ∧ ∃ d, H1 d = none ∧ d ≠ a ∧ H' = upd (upd (upd H1 a (.ext (excIs a C t' none))) a (.ext (excIs a C t' (some d)))) d (.xd [(f, v)])) E0 :=
    ⟨a, t', v, rfl, upd_same, fun d nd nda => ⟨rfl, d, by rw [upd_ne nda] at nd; exact nd, nda, rfl⟩⟩
  have rr : Vals [.ref a, v] [.ref a, u] := .cons rfl (.cons ru .nil)
  have hl : ([Value.ref a, u] ++ []).length = ps.length := by
    have := G.len _ _ _ _ sp0
    rw [← this]; rfl
  refine wpAny_call (codeAny_mono (G.run _ X.stack _ _ ⟨[.ref a, u], []⟩ ([.ref a, u] ++ []) [.ref a, v] _ E0 ((hr.mono hj).make C [u] []) (I3.env0.make C [u] []) (bI _ [.ref a, u] I3.kIn hl) rr sp0) fun r s' hq => ?_)
  cases r with
  | error e => exact hq.elim
  | ok fl =>
    cases fl with
    | ret u0 =>
      obtain ⟨v0, H', I4, rv, ev, d, nd, nda, eH⟩ := I3.after hq
      subst ev eH
      have ea : (upd (upd (upd H1 a (.ext (excIs a C t' none))) a (.ext (excIs a C t' (some d)))) d (.xd [(f, v)])) a = some (.ext (excIs a C t' (some d))) := by
        rw [upd_ne (Ne.symm nda), upd_same]
      have g1 : s'.heap.get? a = some (ExcO (.ref C) t' (some d) .none) := (I4.hok a _ ea).1
      refine ⟨rv, I4.kIn _ _ lC, ⟨t', some d, g1⟩, ?_⟩
      refine hx pins σ _ s' a t' (.ref C) (some d) (I4.forget ea) ⟨I1.nw hex m.new rem_same, .none, g1, .inl rfl, fun T z => nomatch z⟩ (z d _ (fun b ob q => ?_) nd ?_)
      · have nb : b ≠ a := ne_of_none q na
        have nbd : b ≠ d := ne_of_none q nd
        rw [rem_ne nb, upd_ne nbd, upd_ne nb, upd_ne nb]
        exact q
      · rw [rem_ne nda, upd_same]
    | next => exact hq.elim
    | brk => exact hq.elim
    | cont => exact hq.elim
end
end L2
set_option Elab.async false
set_option linter.all false
set_option maxRecDepth 100000
set_option maxHeartbeats 4000000
namespace L2
open PySem PySem.Spec PyProof.Rows PySem.W
section
variable {X : Cx} {e : Expr} {f : Str} {pos : Pos} {ta : TE}
end
end L2
set_option Elab.async false
set_option linter.all false
set_option maxRecDepth 100000
set_option maxHeartbeats 4000000
namespace L2
open PySem PySem.Spec PyProof.Rows PySem.W
section
variable {X : Cx}
end
end L2
set_option Elab.async false
set_option linter.all false
set_option maxRecDepth 100000
set_option maxHeartbeats 4000000
namespace L2
open PySem PySem.Spec PyProof.Rows PySem.W
section
variable {X : Cx}
/-! ### n.bit_length() -/
def rBits : V → List V → Hp → VK → Prop := fun x vs H Q => ∃ i, x = .int i ∧ vs = [] ∧ Q (.int ((Builtin.Int.intBits i : Nat) : Int)) H
theorem mt_bit_length : MtR X "int.bit_length" rBits := by
  intro pins s σ H x xs v us Q I rx rs h
  obtain ⟨i, rfl, rfl, q⟩ := h
  obtain ⟨t, rfl⟩ := rx
  cases rs
  exact call_int_bit_length ⟨.int _, H, I.tok _, ⟨_, rfl⟩, q⟩
end
end L2
namespace L2
open PySem PySem.Spec PyProof.Rows PySem.W
section
variable {X : Cx} {a b : Expr} {rest : List Expr} {pos : Pos} {ta tb : TE}
end
end L2
set_option Elab.async false
set_option linter.all false
set_option maxRecDepth 100000
set_option maxHeartbeats 4000000
namespace L2
open PySem PySem.Spec PyProof.Rows PySem.W
end L2
namespace L2
open PySem PySem.Spec PyProof.Rows PySem.W
end L2
set_option Elab.async false
set_option linter.all false
set_option maxRecDepth 100000
set_option maxHeartbeats 4000000
namespace L2
open PySem PySem.Spec PyProof.Rows PySem.W
/-! ### calls that never raise, wherever they stand -/
section
variable {X : Cx} {j k : Nat} {f C : Addr} {fd : FuncData} {ps : List Str} {sp : Sp} {dvs : List V} {ds : List Value} {x m : Str} {p pos apos : Pos} {e o : Expr} {es : List Expr} {ta : TE} {t : TA} {st : Stmt}
end
end L2
set_option Elab.async false
set_option linter.all false
set_option maxRecDepth 100000
set_option maxHeartbeats 4000000
namespace L2
open PySem PySem.Spec PyProof.Rows PySem.W
/-! ### comprehensions over what a for walks -/
section
variable {X : Cx} {N F : List Str} {js : List Nat} {scope : Scope}
theorem inv_compG {pins : List (Addr × Obj)} {σ : St} {H : Hp} {s : Shared} {fp : List Addr} {h' : Heap} (S : CompScopeF N F js scope X.N X.env) (I : Inv X pins σ H s) (hf : ∀ b ∈ fp, FpOk X pins H b) (hit : ∀ b ∈ fp, ∃ o, s.heap.get? b = some o) (hnb : ∀ b ∈ fp, X.base.get? b = none)
    (hns : h'.Ns s.heap.objs.size (fun _ => none)) (hsb : ∀ b o, s.heap.get? b = some o → h'.get? b = some o) {tk : Nat} :
    Inv (X.compF scope N F s.heap.objs.size s H fp (X.pn ++ pins)) [] (List.replicate N.length none ++ fvOf js σ) H { s with heap := h', toks := tk } := by
  have ck : ∀ c v, s.heap.IsCell c v → h'.IsCell c v := fun c v ⟨o, e, d⟩ => ⟨o, hsb _ _ e, d⟩
  have inF : ∀ x, ((compEnvC scope (clOf F X.env) s.heap.objs.size X.env).kindOf x = some .cell ∨ (compEnvC scope (clOf F X.env) s.heap.objs.size X.env).kindOf x = some .free) → x ∈ F := by
    intro x z
    have z : (relabel scope X.env).names.lookup x = some .cell ∨ (relabel scope X.env).names.lookup x = some .free := z
    rcases z with z | z
    · exact S.fr _ (PySem.mem_of_lookup z) (.inl rfl)
    · exact S.fr _ (PySem.mem_of_lookup z) (.inr rfl)
  refine ⟨⟨I.ok.mod, S.kind, I.ok.glob, I.ok.blt, Nat.le_refl _, fun x y c z z' => I.ok.inj x y c (S.sub x c z) (S.sub y c z'), fun x z => ?_, fun x c z _ => (nomatch z), I.ok.hd, I.ok.frames, .inl rfl, fun b hb => ?_, I.bs, Nat.le_trans I.ok.bsz I.sz, fun b o e hb => ?_, fun b hb hfs => ?_, I.stack, I.stkFree⟩,
    rfl, I.bare, Un.kept hsb, ⟨_, hns, fun i x v e1 e2 e3 => comp_look S I (fun x c v _ z => ck c v z) i x v e1 e2⟩, fun x c z => ?_, I.hok.fresh (Nat.le_refl _), fun x c z => I.freeC x c (S.sub x c z), fun p hp => ?_, I.hok.kept hsb, fv_len S σ⟩
  · obtain ⟨c, h1, _⟩ := S.has (inF x z)
    exact ⟨c, h1⟩
  · obtain ⟨oi, ei⟩ := hit b hb
    exact ⟨Nat.ne_of_lt (Heap.lt_size ei), fun x c z => (hf b hb).2.2.2.2.1 x c (S.sub x c z)⟩
  · rw [hnb b hb] at e
    cases e
  · rcases List.mem_cons.mp (I.stkSub b hfs) with z | z
    · exact (hf b hb).2.1 z
    · exact (hf b hb).2.2.1 z
  · obtain ⟨v, z'⟩ := I.cell x c (S.sub x c z)
    exact ⟨v, ck c v z'⟩
  · have hp' : p ∈ X.pn ++ pins := by simpa using hp
    obtain ⟨q1, q2, q3, q4, q5⟩ := I.pin p hp'
    refine ⟨hsb _ _ q1, q2, Nat.ne_of_lt (Heap.lt_size q1), fun z => ?_, q5⟩
    rcases List.mem_cons.mp (I.stkSub p.1 z) with z | z
    · exact q3 z
    · exact q4 z
/-- ahead of the next turn: the own names are none again, the others as they were -/
theorem inv_freshG {pins pl : List (Addr × Obj)} {σ σ' : St} {H H' : Hp} {s s' : Shared} {fp : List Addr} (S : CompScopeF N F js scope X.N X.env) (I : Inv X pins σ H s) (hf : ∀ b ∈ fp, FpOk X pins H b) (J : Inv (X.compF scope N F s.heap.objs.size s H fp (X.pn ++ pins)) pl σ' H' s') :
    Inv (X.compF scope N F s.heap.objs.size s H fp (X.pn ++ pins)) [] (List.replicate N.length none ++ fvOf js σ) H' s' := by
  obtain ⟨m, hn, _⟩ := J.loc
  refine ⟨J.ok, J.os, J.bare, J.base, ⟨m, hn, fun i x v e1 e2 e3 => comp_look S I (fun x c v z q => ?_) i x v e1 e2⟩, J.cell, J.free, J.freeC, fun p hp => J.pin p (by
    have hp : p ∈ (X.pn ++ pins) ++ [] := hp
    rw [List.append_nil] at hp
    exact List.mem_append_left _ hp), J.hok, fv_len S σ⟩
  obtain ⟨o, e, d⟩ := q
  have ne : c ∉ fp := fun w => (hf c w).2.2.2.2.1 x c z rfl
  obtain ⟨sl, q⟩ := J.base.any e (I.freeC x c z) ne
  exact ⟨_, q, d⟩
theorem comp_walkG0 {elt target iter : Expr} {scope : Scope} {pos : Pos} {N F : List Str} {js : List Nat} {wi : TI} {g : TG} {te : TE} (S : CompScopeF N F js scope X.N X.env) (hd : HdOk X) (hc0 : X.calm = true) (hi : PI X target iter wi) (hex : X.ex = [])
    (hg : ∀ C s₀ H₀ ex pn, HdOk (X.compF scope N F C s₀ H₀ ex pn) → PG (X.compF scope N F C s₀ H₀ ex pn) target g)
    (he : ∀ C s₀ H₀ ex pn, HdOk (X.compF scope N F C s₀ H₀ ex pn) → PE (X.compF scope N F C s₀ H₀ ex pn) elt te)
    {pins : List (Addr × Obj)} {s : Shared} {σ : St} {H : Hp} {Q : VK} {RR : Value → Env → Result → Shared → Prop} (I : Inv X pins σ H s) (h : (tCompF0 N.length js wi g te) σ H Q)
    (hRR : ∀ (D C : Addr) (s6 : Shared) (H5 : Hp) (mm : Str → Option Value), Inv X pins σ H5 s6 → s6.heap.Ns C mm → FpOk X pins H5 C → Q (.ref D) H5 → RR (.ref D) (compEnvC scope (clOf F X.env) C X.env) (.ok .next) s6) :
    wpAny (model X.prog X.w) X.A (eval iter X.env) (fun v s1 => wpAny (model X.prog X.w) X.A (pyIter v) (fun itv s2 => wpAny (model X.prog X.w) X.A (newList []) (fun acc s3 => wpAny (model X.prog X.w) X.A (newFunctionEnv scope X.env.globals (clOf F X.env) [] X.env.qual none .none (some X.env)) (fun cenv s4 =>
      codeAny (model X.prog X.w) X.A (.compStart (.ListComp elt [⟨target, iter, [], 0⟩] scope pos) 0 itv acc { cenv with scope := relabel scope X.env }) (RR acc { cenv with scope := relabel scope X.env }) s4) X.xe s3) X.xe s2) X.xe s1) X.xe s := by
  refine thn (hi pins s σ H _ I h) fun v s1 h1 => thn h1 fun itv s2 h2 => ?_
  obtain ⟨it, fp, tn, J, H2, rfl, I2, T, st2, f2, R⟩ := h2
  have ob2 := T.obj _ _ st2
  have hf2 := I2.hok.fresh (Nat.le_refl _)
  refine wpAny_newObj_type ?_
  have I3 : Inv X pins σ (upd H2 s2.heap.objs.size (.lst [])) { s2 with heap := s2.heap.push { cls := .type "list", dict := none, data := .seq ([] : List Value).toArray } } := Inv.lnew (t' := s2.toks) I2 .nil (Nat.zero_le _)
  refine wpAny_newFunctionEnv S.cell (by intro y hy; simp at hy) (fun h4 hns hsb => ?_) S.kind
  dsimp only at hns hsb ⊢
  generalize hG : s2.heap.push { cls := .type "list", dict := none, data := .seq ([] : List Value).toArray } = G at I3 hns hsb ⊢
  generalize hD : s2.heap.objs.size = D at I3 hf2
  have nD : ∀ b ∈ fp, b ≠ D := fun b hb => by
    obtain ⟨o, eo, _⟩ := ob2 b hb
    rw [← hD]; exact Nat.ne_of_lt (Heap.lt_size eo)
  have eiG : ∀ b ∈ fp, ∃ o, G.get? b = some o := fun b hb => by
    obtain ⟨o, eo, _⟩ := ob2 b hb
    exact ⟨o, by rw [← hG]; exact Heap.get?_push_of_some _ eo⟩
  have kp : ∀ b o, G.get? b = some o → h4.get? b = some o := fun b o e => hsb.extBut b o (Nat.ne_of_lt (Heap.lt_size e)) (Heap.get?_push_of_some _ e)
  have f3 : ∀ b ∈ fp, FpOk X pins (upd H2 D (.lst [])) b := fun b hb => ⟨by rw [upd_ne (nD b hb)]; exact (f2 b hb).1, (f2 b hb).2⟩
  have nb : ∀ b ∈ fp, X.base.get? b = none := fun b hb => by
    cases q : X.base.get? b with
    | none => rfl
    | some o =>
      have := (I.ok.bs b o q).1
      rcases (f2 b hb).2.2.2.1 with z | z
      · rw [hex] at z; simp at z
      · exact absurd (Nat.lt_of_lt_of_le (Heap.lt_size this) z) (Nat.lt_irrefl _)
  have hns' : h4.Ns G.objs.size (fun _ => none) := by
    obtain ⟨o, es, ep, q1, q2, q3, q4⟩ := hns
    exact ⟨o, es, ep, q1, q2, q3, fun x => by rw [q4]; rfl⟩
  have I4 := inv_compG (tk := s2.toks + ([] : List (Str × Value)).length) S I3 f3 eiG nb hns' kp
  have hdc : HdOk (X.compF scope N F G.objs.size { s2 with heap := G } (upd H2 D (.lst [])) fp (X.pn ++ pins)) := by
    rcases hd with z | ⟨x, o, u, vs, z, e, d, n⟩
    · exact .inl z
    · refine .inr ⟨x, o, u, vs, z, ?_, d, n⟩
      have q := I2.base.frzs x o u e
      show upd H2 D (.lst []) x = _
      rw [upd_ne fun w => by rw [w, hf2] at q; cases q]
      exact q
  obtain ⟨m, W, w0, turn⟩ := R D hf2
  have gg := hg _ _ _ _ _ hdc
  have ee := he _ _ _ _ _ hdc
  have fpc : ∀ {H' : Hp} {σ' : St} {s' : Shared} {pl : List (Addr × Obj)}, Inv (X.compF scope N F G.objs.size { s2 with heap := G } (upd H2 D (.lst [])) fp (X.pn ++ pins)) pl σ' H' s' → (∀ b ∈ fp, H' b = none) → (∀ b ∈ fp, ∀ p ∈ pl, p.1 ≠ b) → ∀ b ∈ fp, FpOk (X.compF scope N F G.objs.size { s2 with heap := G } (upd H2 D (.lst [])) fp (X.pn ++ pins)) pl H' b := by
    intro H' σ' s' pl J' hn hp b hb
    obtain ⟨oi, ei⟩ := eiG b hb
    refine ⟨hn b hb, Nat.ne_of_lt (Heap.lt_size ei), ?_, .inl hb, (fun x c z => (f2 b hb).2.2.2.2.1 x c (S.sub x c z)), fun p hpp => ?_⟩
    · intro z
      rcases List.mem_cons.mp (I.stkSub b z) with z | z
      · exact (f2 b hb).2.1 z
      · exact (f2 b hb).2.2.1 z
    · rcases List.mem_append.mp hpp with z | z
      · exact (f2 b hb).2.2.2.2.2 p z
      · exact hp b hb p z
  -- the turns
  have loop : codeAny (model X.prog X.w) X.A (.compLoop (.ListComp elt [⟨target, iter, [], 0⟩] scope pos) 0 (.ref it) (.ref D) (compEnvC scope (clOf F X.env) G.objs.size X.env))
      (RR (.ref D) (compEnvC scope (clOf F X.env) G.objs.size X.env))
      { s2 with heap := h4, toks := s2.toks + ([] : List (Str × Value)).length } := by
    refine kc0_loop (fun k s' => ∃ i ys H', k = m + 1 - i ∧ Inv (X.compF scope N F G.objs.size { s2 with heap := G } (upd H2 D (.lst [])) fp (X.pn ++ pins)) [] (List.replicate N.length none ++ fvOf js σ) H' s' ∧ tn i s'.heap ∧ (∀ b ∈ fp, H' b = none) ∧ W i ys H') ?_ (m + 1)
      ⟨0, [], _, rfl, I4, T.keep _ _ _ st2 fun b hb o e => kp b o (by rw [← hG]; exact Heap.get?_push_of_some _ e), fun b hb => (f3 b hb).1, w0⟩
    rintro k s5 ⟨i, ys, H5, rfl, I5, st5, n5, w5⟩
    obtain ⟨hi5, hD5, w5⟩ := turn i ys H5 w5
    rcases w5 with ⟨stop, q⟩ | ⟨lt5, go, step⟩
    · refine wpAny_mono (T.done (X.compF scope N F G.objs.size { s2 with heap := G } (upd H2 D (.lst [])) fp (X.pn ++ pins)) rfl rfl rfl hc0 i [] s5 _ H5 (fun _ _ => False) I5 (fpc I5 n5 (by simp)) st5 stop) (fun r s6 z => ?_) (fun _ _ z => z.elim)
      obtain ⟨rfl, I6⟩ := z
      obtain ⟨mm, hn6, _⟩ := I6.loc
      have B6 := I6.base
      have J6 : Inv X pins σ H5 s6 := by
        refine I3.call' (ch := fp) I6.os ⟨B6.keep, B6.slot, B6.free, B6.there, B6.tups, B6.frzs, B6.tbls⟩ I6.hok I6.bare (fun b hb => ⟨(f2 b hb).2.2.2.1, (f2 b hb).2.1, (f2 b hb).2.2.2.2.1, (f2 b hb).2.2.2.2.2⟩)
      have szG : X.s₀.heap.objs.size ≤ G.objs.size := I3.sz
      refine hRR D G.objs.size s6 H5 mm J6 hn6 ⟨I6.free, ?_, ?_, .inr szG, ?_, ?_⟩ q
      · exact Nat.ne_of_gt I3.lt
      · intro z
        obtain ⟨_, o, ho, _⟩ := I3.funs.mem z
        exact Nat.lt_irrefl _ (Heap.lt_size ho)
      · rintro x c z rfl
        obtain ⟨v', o, ho, _⟩ := I3.cell x _ z
        exact Nat.lt_irrefl _ (Heap.lt_size ho)
      · rintro p hp z
        have zz := (I3.pin p hp).1
        rw [z] at zz
        exact Nat.lt_irrefl _ (Heap.lt_size zz)
    · refine wpAny_mono (T.item (X.compF scope N F G.objs.size { s2 with heap := G } (upd H2 D (.lst [])) fp (X.pn ++ pins)) rfl rfl rfl hc0 i [] s5 _ H5 (fun _ _ => False) I5 (fpc I5 n5 (by simp)) st5 go) (fun r s6 z => ?_) (fun _ _ z => z.elim)
      obtain ⟨u, rfl, z⟩ := z
      refine wpAny_mono z (fun _ s7 z => ?_) (fun _ _ z => z.elim)
      obtain ⟨x, H7, I7, rx, yl, st7, fr7⟩ := z
      have ob7 := T.obj _ _ st7
      have I7' : Inv (X.compF scope N F G.objs.size { s2 with heap := G } (upd H2 D (.lst [])) fp (X.pn ++ pins)) (pinsAt fp s7.heap) (List.replicate N.length none ++ fvOf js σ) H7 s7 := I7.pinned (fpc I7 fr7 (by simp)) ob7
      have back : ∀ {i' : Nat} {ys' : List V} {H' : Hp} {σ' : St} {s' : Shared}, i' = i + 1 → Inv (X.compF scope N F G.objs.size { s2 with heap := G } (upd H2 D (.lst [])) fp (X.pn ++ pins)) (pinsAt fp s7.heap) σ' H' s' → W i' ys' H' →
          ∃ k', k' < m + 1 - i ∧ ∃ i ys H', k' = m + 1 - i ∧ Inv (X.compF scope N F G.objs.size { s2 with heap := G } (upd H2 D (.lst [])) fp (X.pn ++ pins)) [] (List.replicate N.length none ++ fvOf js σ) H' s' ∧ tn i s'.heap ∧ (∀ b ∈ fp, H' b = none) ∧ W i ys H' := by
        rintro i' ys' H' σ' s' rfl J' w'
        refine ⟨m + 1 - (i + 1), by omega, i + 1, ys', H', rfl, inv_freshG S I3 f3 J', T.keep _ _ _ st7 fun b hb o z => (J'.pin (b, o) (List.mem_append_right _ (mem_pinsAt hb z))).1, fun b hb => ?_, w'⟩
        obtain ⟨o, eo, _⟩ := ob7 b hb
        exact (J'.pin (b, o) (List.mem_append_right _ (mem_pinsAt hb eo))).2.1
      refine wpAny_mono (gg (pinsAt fp s7.heap) s7 _ H7 x u _ I7' rx (step x H7 yl)) (fun _ s8 z => ?_) (fun _ _ z => z.elim)
      obtain ⟨σ8, H8, I8, q8⟩ := z
      refine wpAny_mono (ee (pinsAt fp s7.heap) s8 σ8 H8 _ I8 q8) (fun y s10 z => ?_) (fun _ _ z => z.elim)
      obtain ⟨yv, H10, I10, ry, hD10, hz10, w10⟩ := z
      refine wpAny_mono (mt_append (X := X.compF scope N F G.objs.size { s2 with heap := G } (upd H2 D (.lst [])) fp (X.pn ++ pins)) (pinsAt fp s7.heap) s10 σ8 H10 (.ref D) [yv] (.ref D) [y] (fun _ H11 => W (i + 1) (ys ++ [yv]) H11) I10 rfl (.cons ry .nil) ⟨D, ys, yv, rfl, rfl, hD10, hz10, w10⟩) (fun _ s11 z => ?_) (fun _ _ z => z.elim)
      obtain ⟨_, H11, I11, _, w11⟩ := z
      exact back rfl I11 w11
  exact codeAny_compStart_list loop (T.self _ 0 _ _ _ (T.keep _ _ _ st2 fun b hb o e => kp b o (by rw [← hG]; exact Heap.get?_push_of_some _ e)) loop)
theorem ps_compG0 {i : Nat} {y : Str} {py spos : Pos} {elt target iter : Expr} {pos : Pos} {wi : TI} {g : TG} {te : TE} (S : CompScopeF N F js scope X.N X.env) (hd : HdOk X) (hc0 : X.calm = true) (hi : PI X target iter wi) (hex : X.ex = [])
    (hg : ∀ C s₀ H₀ ex pn, HdOk (X.compF scope N F C s₀ H₀ ex pn) → PG (X.compF scope N F C s₀ H₀ ex pn) target g)
    (he : ∀ C s₀ H₀ ex pn, HdOk (X.compF scope N F C s₀ H₀ ex pn) → PE (X.compF scope N F C s₀ H₀ ex pn) elt te) (hN : X.N.Nodup) (hi' : X.N[i]? = some y) (hy : Loc X.env.scope y)
    (hf : X.fn y = true ∨ X.env.scope.names.lookup y = some .local := by first | exact .inl rfl | exact .inr rfl | assumption)
    (hsw : swapsWith (.ListComp elt [⟨target, iter, [], 0⟩] scope pos) (some (.Name y py)) spos.line X.env = pure true := by rfl)
    (hs : ∀ x, foldedSetIterable iter X.env x = pure x := by intro _; rfl) : PS X (.Assign [.Name y py] (.ListComp elt [⟨target, iter, [], 0⟩] scope pos) spos) (tAsg (tCompF0 N.length js wi g te) (gName i)) := by
  intro pins s σ H D I h
  rw [exec_Assign_Name_used _ _ _ _ hsw]
  refine wpAny_bind (wpAny_standAt (wpAny_bind ?_))
  show wpAny _ X.A (do let _ ← comprehension (.ListComp elt [⟨target, iter, [], 0⟩] scope pos) scope X.env _ (newList []) false (eval iter X.env) (some (assign (.Name y py) X.env))) _ _ s
  refine wpAny_bind (wpAny_mono (wpAny_comprehension_free (Q := fun _ s' => SP X pins D .next s') rfl hs S.clos S.kind S.loc (comp_walkG0 S hd hc0 hi hex hg he I h (RR := fun acc ce r s' => compPost (model X.prog X.w) X.A X.xe (some (assign (.Name y py) X.env)) (fun _ s' => SP X pins D .next s') acc ce.locals r s') ?_))
    (fun _ s' hq => wpAny_pure (wpAny_pure hq)) fun _ _ e => e)
  intro D' C s6 H5 mm I6 n6 f6 q
  refine wpAny_assign_Name (store_ok2 (v := .ref D') I6 hN hi' hy rfl (fun s7 I7 st => ?_) hf)
  obtain ⟨a, sb, ha⟩ := st
  have na : C ≠ a := by
    rcases ha with rfl | ha
    · exact f6.2.1
    · exact (f6.2.2.2.2.1 y a ha).symm
  exact ⟨mm, n6.sameBut sb na, fun h' sb' => ⟨_, _, letgo I7 f6 sb', q⟩⟩
end
theorem CompScopeF.of3 {N : List Str} {x y z : Str} {j k l : Nat} {sc : Scope} {XN : List Str} {env : Env} (S : CompS N [x, y, z] sc) (clos : closureFor sc env = pure (clOf [x, y, z] env)) (hj : XN[j]? = some x) (hc : ∃ c, env.cells.lookup x = some c) (hk : env.kindOf x = some .cell)
    (hr : (relabel sc env).names.lookup x = some .cell) (hj' : XN[k]? = some y) (hc' : ∃ c, env.cells.lookup y = some c) (hk' : env.kindOf y = some .cell) (hr' : (relabel sc env).names.lookup y = some .cell)
    (hj2 : XN[l]? = some z) (hc2 : ∃ c, env.cells.lookup z = some c) (hk2 : env.kindOf z = some .cell) (hr2 : (relabel sc env).names.lookup z = some .cell) : CompScopeF N [x, y, z] [j, k, l] sc XN env :=
  ⟨S.kind, S.cell, S.loc, S.nd, clos, fr_relabel S.cell S.fr, fun i u h => match i, h with
    | 0, h => by cases h; exact ⟨⟨j, rfl, hj⟩, hc, hk, hr⟩
    | 1, h => by cases h; exact ⟨⟨k, rfl, hj'⟩, hc', hk', hr'⟩
    | 2, h => by cases h; exact ⟨⟨l, rfl, hj2⟩, hc2, hk2, hr2⟩
    | i + 3, h => by simp at h, rfl⟩
end L2
set_option Elab.async false
set_option linter.all false
set_option maxRecDepth 100000
set_option maxHeartbeats 4000000
namespace L2
open PySem PySem.Spec PyProof.Rows PySem.W
section
variable {X : Cx} {pins : List (Addr × Obj)} {σ : St} {H : Hp} {s : Shared} {h' : Heap}
end
section
variable {X : Cx} {es : List Expr} {k : Nat} {tp : Pos}
end
/-! ### a comprehension, turn by turn -/
/-- all objects but the one at D stay -/
def Exc1 (D : Addr) (H H' : Hp) : Prop := ∀ b o, H b = some o → b ≠ D → H' b = some o
/-- each turn makes one item, told by R, and keeps all that is there -/
theorem comp_gen0 {J : It} {g : TG} {te : TE} {σ0 : St} {H1 : Hp} {QD : Addr → Hp → Prop} {n : Nat} (R : Nat → V → Hp → Prop) (hn : n ≤ 1000)
    (mono : ∀ i y H' H'' D l, R i y H' → H' D = some (.lst l) → Exc1 D H' H'' → R i y H'')
    (step : ∀ i H2 Qy, i < n → Same H1 H2 → (∀ y H6, Same H2 H6 → R i y H6 → Qy y H6) → J.go i H2 ∧ ∀ x H3, J.yld i H2 x H3 → g x σ0 H3 fun σ4 H4 => te σ4 H4 Qy)
    (stop : ∀ H2, Same H1 H2 → J.stop n H2)
    (k : ∀ D H' ys, Same H1 H' → H1 D = none → H' D = some (.lst ys) → ys.length = n → (∀ i y, ys[i]? = some y → R i y H') → QD D H') : ∀ D, H1 D = none →
    ∃ (m : Nat) (W : Nat → List V → Hp → Prop), W 0 [] (upd H1 D (.lst [])) ∧ ∀ i ys H2, W i ys H2 → i ≤ m ∧ H2 D = some (.lst ys) ∧ ((J.stop i H2 ∧ QD D H2) ∨ (i < m ∧ J.go i H2 ∧ ∀ x H3, J.yld i H2 x H3 →
      g x σ0 H3 fun σ4 H4 => te σ4 H4 fun y H6 => H6 D = some (.lst ys) ∧ ys.length < sizeLine ∧ W (i + 1) (ys ++ [y]) (upd H6 D (.lst (ys ++ [y]))))) := by
  intro D hD
  refine ⟨n, fun i ys H2 => i ≤ n ∧ ys.length = i ∧ H2 D = some (.lst ys) ∧ Same H1 H2 ∧ ∀ j y, ys[j]? = some y → R j y H2, ⟨Nat.zero_le _, rfl, upd_same, Same.upd hD, fun j y h => by simp at h⟩, ?_⟩
  rintro i ys H2 ⟨hi, hl, hd, sm, hR⟩
  refine ⟨hi, hd, ?_⟩
  by_cases hlt : i < n
  · refine .inr ⟨hlt, step i H2 _ hlt sm fun y H6 s6 r6 => ?_⟩
    have d6 : H6 D = some (.lst ys) := s6 _ _ hd
    have ex : Exc1 D H6 (upd H6 D (.lst (ys ++ [y]))) := fun b o e hb => by rw [upd_ne hb]; exact e
    refine ⟨d6, Nat.lt_of_le_of_lt (by omega : ys.length ≤ 1000) (small1000 (Nat.le_refl _)), hlt, by simp [hl], upd_same, fun b o e => ?_, fun j z hj => ?_⟩
    · rw [upd_ne (ne_of_none e hD)]
      exact s6 _ _ (sm _ _ e)
    · by_cases hj' : j < ys.length
      · rw [List.getElem?_append_left hj'] at hj
        exact mono j z H6 _ D ys (mono j z H2 H6 D ys (hR j z hj) hd fun b o e _ => s6 _ _ e) d6 ex
      · rw [List.getElem?_append_right (by omega)] at hj
        have e0 : j - ys.length = 0 := by
          apply Classical.byContradiction
          intro q
          rw [List.getElem?_eq_none (by simp; omega)] at hj
          cases hj
        rw [e0] at hj
        have ej : j = i := by omega
        subst ej
        cases hj
        exact mono _ _ H6 _ D ys r6 d6 ex
  · have e : i = n := by omega
    subst e
    exact .inl ⟨stop H2 sm, k D H2 ys sm hD hd hl hR⟩
end L2
set_option Elab.async false
set_option linter.all false
set_option maxRecDepth 100000
set_option maxHeartbeats 4000000
namespace L2
open PySem PySem.Spec PyProof.Rows PySem.W
open AutoSeq1 (wpAny_loadPart')
/-! ### enumerate of a tuple -/
section
variable {prog : Program} {w : World} {A : Around} {E : Value → Shared → Prop} {s : Shared}
end
section
variable {X : Cx} {es : List Expr} {k : Nat} {tp : Pos}
end
end L2
set_option Elab.async false
set_option linter.all false
set_option maxRecDepth 100000
set_option maxHeartbeats 4000000
namespace L2
open PySem PySem.Spec PyProof.Rows PySem.W
section
variable {X : Cx}
end
end L2
set_option Elab.async false
set_option linter.all false
set_option maxRecDepth 100000
set_option maxHeartbeats 4000000
namespace L2
open PySem PySem.W PyProof.Rows
/-! ### o.m() where o is of one class of some -/
section
variable {X : Cx} {o e : Expr} {ta : TE} {m : Str} {apos pos : Pos} {j k : Nat} {ps : List Str} {ι : Type} {cw f : ι → Addr} {fd : ι → FuncData} {sp : ι → Sp} {EH : EK}
end
section
variable {X : Cx} {a b e o : Expr} {es : List Expr} {ta tb te to : TE} {t : TA} {pos : Pos} {st : Stmt} {rest : List Stmt} {ts u : TS}
end
end L2
set_option Elab.async false
set_option linter.all false
set_option maxRecDepth 100000
set_option maxHeartbeats 4000000
namespace L2
open PySem PySem.Spec PyProof.Rows PySem.W
section
variable {X : Cx} {x f : Str} {p cpos pos : Pos} {e : Expr} {t : TA} {C fI : Addr} {fdI : FuncData} {ps : List Str} {j k : Nat}
end
end L2
set_option Elab.async false
set_option linter.all false
set_option maxRecDepth 100000
set_option maxHeartbeats 4000000
namespace L2
open PySem PySem.Spec PyProof.Rows PySem.W
section
variable {X : Cx} {x y : Str} {e : Expr} {t : TE} {p q : Pos} {pos pos2 : Pos}
end
end L2
set_option Elab.async false
set_option linter.all false
set_option maxRecDepth 100000
set_option maxHeartbeats 4000000
namespace L2
open PySem PySem.Spec PyProof.Rows
end L2
set_option Elab.async false
set_option linter.all false
set_option maxRecDepth 100000
set_option maxHeartbeats 4000000
namespace L2
open PySem PySem.Spec PyProof.Rows PySem.W
/-! ### repr(data) -/
mutual
/-- a value as data that nobody but the heap's names holds: flat ones, tuples, lists, small dicts -/
inductive RdR (H : Hp) : V → PyData → Prop where
  | non : RdR H .non .none
  | bl (b : Bool) : RdR H (.bl b) (.bool b)
  | int (i : Int) : RdR H (.int i) (.int i)
  | str (x : Str) : RdR H (.str x) (.str x)
  | tup {a : Addr} {xs : List V} {ds : List PyData} (h : H a = some (.tup xs)) (r : RdRs H xs ds) : RdR H (.ref a) (.tuple ds)
  | lst {a : Addr} {xs : List V} {ds : List PyData} (h : H a = some (.lst xs)) (n : a ≠ sysModules) (r : RdRs H xs ds) : RdR H (.ref a) (.list ds)
  | dct0 {a : Addr} (h : H a = some (.dK [])) : RdR H (.ref a) (.dict [])
  | dct1 {a : Addr} {z : Str} {b : Bool} (h : H a = some (.dK [(.inr z, .bl b)])) : RdR H (.ref a) (.dict [(.str z, .bool b)])
inductive RdRs (H : Hp) : List V → List PyData → Prop where
  | nil : RdRs H [] []
  | cons {x : V} {xs : List V} {d : PyData} {ds : List PyData} (h : RdR H x d) (r : RdRs H xs ds) : RdRs H (x :: xs) (d :: ds)
end
mutual
theorem RdR.same {H H' : Hp} (s : ∀ b o, H b = some o → H' b = some o) : ∀ {x : V} {d : PyData}, RdR H x d → RdR H' x d
  | _, _, .non => .non
  | _, _, .bl b => .bl b
  | _, _, .int i => .int i
  | _, _, .str x => .str x
  | _, _, .tup h r => .tup (s _ _ h) (RdRs.same s r)
  | _, _, .lst h n r => .lst (s _ _ h) n (RdRs.same s r)
  | _, _, .dct0 h => .dct0 (s _ _ h)
  | _, _, .dct1 h => .dct1 (s _ _ h)
theorem RdRs.same {H H' : Hp} (s : ∀ b o, H b = some o → H' b = some o) : ∀ {x : List V} {d : List PyData}, RdRs H x d → RdRs H' x d
  | _, _, .nil => .nil
  | _, _, .cons h r => .cons (RdR.same s h) (RdRs.same s r)
end
section
variable {X : Cx}
mutual
theorem RdR.reads {pins : List (Addr × Obj)} {σ : St} {H : Hp} {s : Shared} (I : Inv X pins σ H s) : ∀ {x : V} {d : PyData} {u : Value}, RdR H x d → RelV x u → ∃ as, Reads s.heap u d as ∧ sysModules ∉ as
  | _, _, _, .non, r => by cases r; exact ⟨_, .none, by simp⟩
  | _, _, _, .bl b, r => by cases r; exact ⟨_, .bool b, by simp⟩
  | _, _, _, .int i, r => by obtain ⟨t, rfl⟩ := r; exact ⟨_, .int i t, by simp⟩
  | _, _, _, .str x, r => by obtain ⟨t, rfl⟩ := r; exact ⟨_, .str x t, by simp⟩
  | _, _, _, .tup h q, r => by
    cases r
    obtain ⟨_, its, rv, o, e, c, n, d⟩ := I.hok _ _ h
    obtain ⟨as, z, y⟩ := RdRs.reads I q rv
    exact ⟨_, .tuple e c d (by simpa using z), y⟩
  | _, _, _, .lst (a := a) h nn q, r => by
    cases r
    obtain ⟨_, its, n, rv, e⟩ := I.hok _ _ h
    obtain ⟨as, z, y⟩ := RdRs.reads I q rv
    refine ⟨_, .list e rfl rfl (by simpa using z), fun hm => ?_⟩
    rcases List.mem_cons.mp hm with hm | hm
    · exact nn hm.symm
    · exact y hm
  | _, _, _, .dct0 (a := a) h, r => by
    cases r
    obtain ⟨_, nS, vs, kv, o, es, ep, e, c, d, _, ps, _⟩ := I.hok _ _ h
    cases kv
    cases hp : es.toList with
    | cons _ _ => rw [hp] at ps; cases ps
    | nil =>
      refine ⟨_, .dict (kvs := []) e c.1 d (by rw [hp]; exact .nil) (by rw [hp]; exact .nil), fun hm => ?_⟩
      exact beq_eq_false_iff_ne.mp nS (by simpa using hm : sysModules = a).symm
  | _, _, _, .dct1 (a := a) (z := z) (b := b) h, r => by
    cases r
    obtain ⟨_, nS, vs, kv, o, es, ep, e, c, d, _, ps, _⟩ := I.hok _ _ h
    cases kv with
    | cons k1 k2 =>
      cases k2
      obtain ⟨k1a, k1b⟩ := k1
      cases ps' : es.toList with
      | nil => rw [ps'] at ps; cases ps
      | cons en rest =>
        rw [ps'] at ps
        cases ps with
        | cons p1 p2 p3 =>
          cases p3
          have hk : ∃ t, en.key = .str z t := by
            rw [← k1a] at p1
            have p1 : Value.isStrOf z en.key = true := p1
            cases hk : en.key <;> rw [hk] at p1 <;> simp [Value.isStrOf] at p1
            subst p1
            exact ⟨_, rfl⟩
          obtain ⟨t, hk⟩ := hk
          have hv : en.val = .bool b := p2.trans k1b
          refine ⟨_, .dict (kvs := [(.str z, .bool b)]) e c.1 d (by rw [ps']; show ReadsAll s.heap [en.key] [.str z] _; rw [hk]; exact .cons (.str z t) .nil) (by rw [ps']; show ReadsAll s.heap [en.val] [.bool b] _; rw [hv]; exact .cons (.bool b) .nil), fun hm => ?_⟩
          exact beq_eq_false_iff_ne.mp nS (by simpa using hm : sysModules = a).symm
theorem RdRs.reads {pins : List (Addr × Obj)} {σ : St} {H : Hp} {s : Shared} (I : Inv X pins σ H s) : ∀ {xs : List V} {ds : List PyData} {us : List Value}, RdRs H xs ds → Vals xs us → ∃ as, ReadsAll s.heap us ds as ∧ sysModules ∉ as
  | _, _, _, .nil, r => by cases r; exact ⟨_, .nil, by simp⟩
  | _, _, _, .cons h q, r => by
    cases r with
    | cons r1 r2 =>
      obtain ⟨as, z, n1⟩ := RdR.reads I h r1
      obtain ⟨bs, y, n2⟩ := RdRs.reads I q r2
      exact ⟨_, .cons z y, by simp [n1, n2]⟩
end
end
end L2
set_option Elab.async false
set_option linter.all false
set_option maxRecDepth 100000
set_option maxHeartbeats 4000000
namespace L2
open PySem PySem.Spec PyProof.Rows PySem.W
/-! ### making an instance that never raises, wherever it stands -/
section
variable {X : Cx} {j k : Nat} {f C : Addr} {fd : FuncData} {ps : List Str} {sp : Sp} {dvs : List V} {ds : List Value} {x m : Str} {p pos apos : Pos} {e o : Expr} {es : List Expr} {ta : TE} {t : TA} {st : Stmt}
theorem run_makeN {pins : List (Addr × Obj)} {σ : St} {H : Hp} {s : Shared} {Q : VK} {us : List Value} {vs : List V} (M : Mk X.K C f) (F : FnOk X.prog X.w X.K X.mg X.base (CX1 X.prog X.w) k f fd ps sp) (hr : Room (k + 1) X.A) (hb : Binds X.K fd ps ds) (hd : Vals dvs ds)
    (I : Inv X pins σ H s) (r : Vals vs us)
    (h : ∀ x dx, H x = none → H dx = none → dx ≠ x → sp (.ref x :: (vs ++ dvs)) (upd (upd H dx (.own x)) x (.ins C dx [])) (fun v H2 => v = .non ∧ Q (.ref x) H2) (fun C d H' => EKF C d σ H')) :
    wpAny (model X.prog X.w) X.A (call (.ref C) us) (EP X pins σ Q) X.xe s := by
  have hq := h (s.heap.objs.size + 1) s.heap.objs.size (I.hok.fresh (Nat.le_succ _)) (I.hok.fresh (Nat.le_refl _)) (Nat.ne_of_lt (Nat.lt_succ_self _))
  have I2 := Inv.made (C := C) I
  have r2 : Vals (V.ref (s.heap.objs.size + 1) :: (vs ++ dvs)) (Value.ref (s.heap.objs.size + 1) :: (us ++ ds)) := .cons rfl (r.append hd)
  have hl : (Value.ref (s.heap.objs.size + 1) :: us ++ ds).length = ps.length := by
    have e := r2.length
    rw [F.len _ _ _ _ hq] at e
    exact e.symm
  refine wpAny_call (make_map (f := f) I.kIn M.makes M.init (beq_iff_eq.mp M.fn) (codeAny_mono (F.run _ X.stack _ _ ⟨Value.ref (s.heap.objs.size + 1) :: us, []⟩ (Value.ref (s.heap.objs.size + 1) :: (us ++ ds)) _ _ _ (hr.make C us [])
    (I2.env0.make C us []) (hb _ (Value.ref (s.heap.objs.size + 1) :: us) I2.kIn hl) r2 hq) fun r s' hq' => ?_))
  cases r with
  | error e =>
    obtain ⟨a, t, C, dd, H', _, _, _, _, _, hE, _⟩ := hq'
    exact False.elim hE
  | ok fl =>
    cases fl with
    | ret u =>
      obtain ⟨v, H', I3, rv, ev, q3⟩ := I2.after hq'
      subst ev
      exact ⟨rv, ⟨V.ref (s.heap.objs.size + 1), H', I3, rfl, q3⟩⟩
    | next => exact False.elim hq'
    | brk => exact False.elim hq'
    | cont => exact False.elim hq'
theorem pmakeN (M : Mk X.K C f) (F : FnOk X.prog X.w X.K X.mg X.base (CX1 X.prog X.w) j f fd ps sp) (hr : Room k X.A) (hm : X.mg x = some (.ref C)) (hb : Binds X.K fd ps ds) (hd : Vals dvs ds)
    (ha : PA X (e :: es) t) (hj : j + 1 ≤ k := by decide) (hg : Gl X x := by rfl) (hdb : (x == ("__debug__" : Str)) = false := by decide) (he : starEach (e :: es) X.env = (false, eval e X.env) :: starEach es X.env := by rfl) (hpl : (backTo pos (starEach es X.env)).any (·.1) = false := by rfl) :
    PE X (.Call (.Name x p) (e :: es) [] pos) (tMakeE C sp dvs EKF t) := by
  intro pins s σ H Q I h
  refine wpAny_Call_Name_kw (ld_glob I hg hm ?_ hdb)
  refine callWith_K (h₀ := X.base) I.ok.mod.kin M.kp (thn (ha pos pins s σ H _ I h) fun us s1 ⟨vs, H1, I1, r, q⟩ => ⟨I1.kIn, ?_⟩) he hpl
  exact run_makeN M F (hr.mono hj) hb hd I1 r q
end
end L2
set_option Elab.async false
set_option linter.all false
set_option maxRecDepth 100000
set_option maxHeartbeats 4000000
namespace TR
open PySem L2 PySem.W PyProof.Rows
seal PE PS PSs PA PT PW PG PGs PI PO
def top (i : Nat) : Stmt := PySem.Challenge.pw_tenreckon_k26_whole_powers.main.body.getD i (.Pass ⟨0, 0, 0, 0⟩)
abbrev sIsB : Stmt := (top 28)
section
variable {P : Program} {w : World} {K : Frag} {mg : Str → Option Value} {base : Heap}
def spIsB (K : Frag) : Sp := fun vs H Q _ => ∃ v lo hi, vs = [v, .int lo, .int hi] ∧ ((GoodV lo hi v ∧ Q (.bl true) H) ∨ (BadV K H lo hi v ∧ Q (.bl false) H))
theorem scIsB : FnScope ["thing", "least", "most"] ["thing", "least", "most"] (defScope sIsB) := ⟨rfl, rfl, rfl, by decide +kernel, rfl, by decide +kernel, by decide +kernel⟩
theorem ok_isB {f : Addr} {fd : FuncData} (D : Def K mg "is_between" ["thing", "least", "most"] sIsB f fd) (O : Own mg) (T : Kit K) : FnOk P w K mg base (CX1 P w) 1 f fd ["thing", "least", "most"] (spIsB K) := by
  refine FnOk.up (D.F.ok scIsB (fun vs H Q E h => ?_) (fun cdv A outer s H vs Q E hr h => ?_))
  · obtain ⟨v, lo, hi, rfl, _⟩ := h
    rfl
  · obtain ⟨v, lo, hi, rfl, h⟩ := h
    refine ⟨_, (pss_cons (ps_if (PW.pt (pw_or (pt_not (pt_val (pisi O.isi (pv 0) (pty O.int_ boot_int)))) (pw_or1 (pt_val (pisi O.isi (pv 0) (pty O.bool_ boot_bool)))))) (pss_one (ps_ret pe_bl)) pss_nil)
      (pss_one (ps_ret (pe_and (pe_cmpR op_ge (pv 0) (pv 1) (nomark _)) (pe_one (pe_cmpR op_le (pv 0) (pv 2) (nomark _))))))), ?_⟩
    rcases h with ⟨⟨i, rfl, h1, h2⟩, k⟩ | ⟨⟨t, b1, b2, ty, k1, k2, bad⟩, k⟩
    · refine ⟨_, rfl, _, _, _, _, true, rfl, rfl, tyInt i, T.int_int, _, rfl, iteF ?_⟩
      refine ⟨_, rfl, _, _, _, _, false, rfl, rfl, tyInt i, T.int_bool, _, rfl, iteF ?_⟩
      refine ⟨_, rfl, _, rfl, _, _, rfl, rfl, _, rfl, iteDT h1 ?_⟩
      refine ⟨_, rfl, _, rfl, _, _, rfl, rfl, ?_⟩
      show Q (.bl (decide (i ≤ hi))) H
      rw [decide_eq_true h2]
      exact k
    · refine ⟨_, rfl, _, _, _, _, b1, rfl, rfl, ty, k1, _, rfl, ?_⟩
      cases b1 with
      | false => exact iteT (iteT k)
      | true =>
        refine iteF ⟨_, rfl, _, _, _, _, b2, rfl, rfl, ty, k2, _, rfl, ?_⟩
        cases b2 with
        | true => exact iteT k
        | false =>
          obtain ⟨i, rfl, out⟩ := bad.resolve_left (by decide)
          refine iteF ⟨_, rfl, _, rfl, _, _, rfl, rfl, _, rfl, iteD (fun h1 => ?_) (fun h1 => ?_)⟩
          · refine ⟨_, rfl, _, rfl, _, _, rfl, rfl, ?_⟩
            show Q (.bl (decide (i ≤ hi))) H
            rw [decide_eq_false (by omega : ¬ i ≤ hi)]
            exact k
          · exact k
end
end TR
set_option Elab.async false
set_option linter.all false
set_option maxRecDepth 100000
set_option maxHeartbeats 4000000
namespace TR
open PySem L2 PySem.W PyProof.Rows
seal PE PS PSs PA PT PW PG PGs PI PO
/-- the error class BadContext -/
structure Err (K : Frag) (mg : Str → Option Value) (x : Str) (CB : Addr) : Prop where
  g : mg x = some (.ref CB)
  q : excIn K CB [.type "ValueError", .type "Exception", .type "BaseException", .type "object"] "ValueError.__new__" = true
end TR
set_option Elab.async false
set_option linter.all false
set_option maxRecDepth 100000
set_option maxHeartbeats 4000000
namespace TR
open PySem L2 PySem.W PyProof.Rows
seal PE PS PSs PA PT PW PG PGs PI PO
def Lits (lo hi : Int) : Prop := lo.natAbs.log2 < 1920 ∧ hi.natAbs.log2 < 1920 ∧ (Str.ofString (toString lo)).length ≤ 100 ∧ (Str.ofString (toString hi)).length ≤ 100
end TR
set_option Elab.async false
set_option linter.all false
set_option maxRecDepth 100000
set_option maxHeartbeats 4000000
namespace TR
open PySem L2 PySem.W PyProof.Rows
seal PE PS PSs PA PT PW PG PGs PI PO
abbrev sBounded : Stmt := (top 65)
section
variable {P : Program} {w : World} {K : Frag} {mg : Str → Option Value} {base : Heap}

def spBounded (K : Frag) (CB : Addr) : Sp := fun vs H Q E => ∃ v lo hi, vs = [v, .int lo, .int hi] ∧ Lits lo hi ∧ ((GoodV lo hi v ∧ Q v H) ∨ (BadV K H lo hi v ∧ E (.ref CB) none H))
theorem scBounded : FnScope ["thing", "least", "most"] ["thing", "least", "most"] (defScope sBounded) := ⟨rfl, rfl, rfl, by decide +kernel, rfl, by decide +kernel, by decide +kernel⟩
theorem ok_bounded {f f1 CB : Addr} {fd fd1 : FuncData} (D : Def K mg "bounded" ["thing", "least", "most"] sBounded f fd) (D1 : Def K mg "is_between" ["thing", "least", "most"] sIsB f1 fd1) (O : Own mg) (T : Kit K) (B : Err K mg "BadContext" CB) :
    FnOk P w K mg base (CX1 P w) 2 f fd ["thing", "least", "most"] (spBounded K CB) := by
  have G1 := ok_isB (P := P) (w := w) (base := base) D1 O T
  refine D.F.okE scBounded (fun vs H Q E h => ?_) (fun X cdv A outer s H vs Q E hX hr hx h => ?_)
  · obtain ⟨v, lo, hi, rfl, _⟩ := h
    rfl
  · subst hX
    obtain ⟨v, lo, hi, rfl, ⟨l1, l2, l3, l4⟩, h⟩ := h
    refine ⟨_, (pss_cons (ps_if (pt_not (pt_val (pcall D1 G1 hr hx (pa_cons (pv 0) (pa_cons (pv 1) (pa_cons (pv 2) pa_nil))))))
      (pss_one (ps_raise (by rfl) B.g B.q PySem.F.excBase_ValueError hr.hd hx (pa_cons (pe_fstr (.cons .lit (.cons (.int (pv 1)) (.cons .lit (.cons (.int (pv 2)) .nil))))) pa_nil))) pss_nil)
      (pss_one (ps_ret (pv 0)))), ?_⟩
    rcases h with ⟨g, k⟩ | ⟨bad, k⟩
    · exact ⟨_, rfl, _, rfl, _, rfl, _, _, _, rfl, .inl ⟨g, _, rfl, iteF ⟨_, rfl, k⟩⟩⟩
    · have a0 : Str.empty.length = 0 := rfl
      have a1 : (Str.ofString "not a whole number from ").length = 24 := by decide +kernel
      have a2 : (Str.ofString " to ").length = 4 := by decide +kernel
      have sz : ∀ {n : Nat}, n ≤ 1000 → n ≤ sizeLine := fun h => Nat.le_of_lt (small1000 h)
      refine ⟨_, rfl, _, rfl, _, rfl, _, _, _, rfl, .inr ⟨bad, _, rfl, iteT ?_⟩⟩
      exact ⟨_, rfl, sz (by rw [strLen_append]; omega), _, rfl, _, rfl, l1, _, rfl, sz (by rw [strLen_append, strLen_append]; omega), _, rfl, sz (by rw [strLen_append, strLen_append, strLen_append]; omega), _, rfl, _, rfl, l2, _, rfl, sz (by rw [strLen_append, strLen_append, strLen_append, strLen_append]; omega), sz (by rw [strLen_append, strLen_append, strLen_append, strLen_append]; omega), sz (by show 1 ≤ 1000; decide), k⟩
end
end TR
set_option Elab.async false
set_option linter.all false
set_option maxRecDepth 100000
set_option maxHeartbeats 4000000
namespace TR
open PySem L2 PySem.W PyProof.Rows
seal PE PS PSs PA PT PW PG PGs PI PO
abbrev sBetween : Stmt := (top 29)
section
variable {P : Program} {w : World} {K : Frag} {mg : Str → Option Value} {base : Heap}
def spBetween (K : Frag) (CB : Addr) : Sp := fun vs H Q E => ∃ v lo hi, vs = [v, .int lo, .int hi] ∧ Lits lo hi ∧
  ((GoodV lo hi v ∧ Q .non H) ∨ (BadV K H lo hi v ∧ E (.ref CB) none H))
theorem scBetween : FnScope ["thing", "least", "most"] ["thing", "least", "most"] (defScope sBetween) := ⟨rfl, rfl, rfl, by decide +kernel, rfl, by decide +kernel, by decide +kernel⟩
theorem ok_between {f f1 CB : Addr} {fd fd1 : FuncData} (D : Def K mg "need_between" ["thing", "least", "most"] sBetween f fd) (D1 : Def K mg "is_between" ["thing", "least", "most"] sIsB f1 fd1) (O : Own mg) (T : Kit K) (B : Err K mg "BadNumber" CB) :
    FnOk P w K mg base (CX1 P w) 2 f fd ["thing", "least", "most"] (spBetween K CB) := by
  have G1 := ok_isB (P := P) (w := w) (base := base) D1 O T
  refine D.F.okE scBetween (fun vs H Q E h => ?_) (fun X cdv A outer s H vs Q E hX hr hx h => ?_)
  · obtain ⟨v, lo, hi, rfl, _⟩ := h
    rfl
  · subst hX
    obtain ⟨v, lo, hi, rfl, ⟨l1, l2, l3, l4⟩, h⟩ := h
    refine ⟨_, (pss_one (ps_if (pt_not (pt_val (pcall D1 G1 hr hx (pa_cons (pv 0) (pa_cons (pv 1) (pa_cons (pv 2) pa_nil))))))
      (pss_one (ps_raise (by rfl) B.g B.q PySem.F.excBase_ValueError hr.hd hx (pa_cons (pe_fstr (.cons .lit (.cons (.int (pv 1)) (.cons .lit (.cons (.int (pv 2)) .nil))))) pa_nil))) pss_nil)), ?_⟩
    rcases h with ⟨g, k⟩ | ⟨bad, k⟩
    · exact ⟨_, rfl, _, rfl, _, rfl, _, _, _, rfl, .inl ⟨g, _, rfl, iteF k⟩⟩
    · have a0 : Str.empty.length = 0 := rfl
      have a1 : (Str.ofString "not a whole number from ").length = 24 := by decide +kernel
      have a2 : (Str.ofString " to ").length = 4 := by decide +kernel
      have sz : ∀ {n : Nat}, n ≤ 1000 → n ≤ sizeLine := fun h => Nat.le_of_lt (small1000 h)
      refine ⟨_, rfl, _, rfl, _, rfl, _, _, _, rfl, .inr ⟨bad, _, rfl, iteT ?_⟩⟩
      exact ⟨_, rfl, sz (by rw [strLen_append]; omega), _, rfl, _, rfl, l1, _, rfl, sz (by rw [strLen_append, strLen_append]; omega), _, rfl, sz (by rw [strLen_append, strLen_append, strLen_append]; omega), _, rfl, _, rfl, l2, _, rfl, sz (by rw [strLen_append, strLen_append, strLen_append, strLen_append]; omega), sz (by rw [strLen_append, strLen_append, strLen_append, strLen_append]; omega), sz (by show 1 ≤ 1000; decide), k⟩
end
end TR
set_option Elab.async false
set_option linter.all false
set_option maxRecDepth 100000
set_option maxHeartbeats 4000000
namespace TR
open PySem L2 PySem.W PyProof.Rows
seal PE PS PSs PA PT PW PG PGs PI PO
abbrev sInit : Stmt := (inClass (top 18) 0)
abbrev sTold : Stmt := (top 22)
abbrev sNeedN : Stmt := (top 24)
/-! ### the class Number -/
structure Num (K : Frag) (mg : Str → Option Value) (CN : Addr) : Prop where
  g : mg "Number" = some (.ref CN)
  cl : Cls K CN
  n1 : NoAttr K CN "kind"
  n2 : NoAttr K CN "sign"
  n3 : NoAttr K CN "figures"
  n4 : NoAttr K CN "power"
  ca : findIn K (.ref CN) "__class__" = some (some (.builtin "object.__class__"))
  sn : specialIn K (.builtin "object.__class__") "__get__" = some (some (.builtin "getset_descriptor.__get__"))
  tk : takesIn K (.builtin "object.__class__") = some true
  ob : mroIn K CN (.type "object") = some true
  self : kitOne K (.ref CN) (.ref CN) = some true
def numF (k s f p : V) : List (Str × V) := putF "power" p (putF "figures" f (putF "sign" s (putF "kind" k [])))
theorem e12 : ¬ (("kind" : Str) = "sign") := by decide +kernel
theorem e13 : ¬ (("kind" : Str) = "figures") := by decide +kernel
theorem e14 : ¬ (("kind" : Str) = "power") := by decide +kernel
theorem e23 : ¬ (("sign" : Str) = "figures") := by decide +kernel
theorem e24 : ¬ (("sign" : Str) = "power") := by decide +kernel
theorem e34 : ¬ (("figures" : Str) = "power") := by decide +kernel
theorem num1 (k s f p : V) : (numF k s f p).lookup ("kind" : Str) = some k := by unfold numF; rw [lookup_putF, if_neg e14, lookup_putF, if_neg e13, lookup_putF, if_neg e12, lookup_putF, if_pos rfl]
theorem num2 (k s f p : V) : (numF k s f p).lookup ("sign" : Str) = some s := by unfold numF; rw [lookup_putF, if_neg e24, lookup_putF, if_neg e23, lookup_putF, if_pos rfl]
theorem num3 (k s f p : V) : (numF k s f p).lookup ("figures" : Str) = some f := by unfold numF; rw [lookup_putF, if_neg e34, lookup_putF, if_pos rfl]
theorem num4 (k s f p : V) : (numF k s f p).lookup ("power" : Str) = some p := by unfold numF; rw [lookup_putF, if_pos rfl]
/-- a number stands at n -/
def NumAt (CN : Addr) (H : Hp) (n : Addr) (k s f p : V) : Prop := ∃ dx, H n = some (.ins CN dx (numF k s f p))
theorem NumAt.same {CN : Addr} {H H' : Hp} {n : Addr} {k s f p : V} (h : NumAt CN H n k s f p) (e : Same H H') : NumAt CN H' n k s f p := by
  obtain ⟨dx, z⟩ := h
  exact ⟨dx, e _ _ z⟩
theorem Num.ty {K : Frag} {mg : Str → Option Value} {CN : Addr} (N : Num K mg CN) {H : Hp} {n : Addr} {k s f p : V} (h : NumAt CN H n k s f p) : TyE K H (.ref n) (.ref CN) := by
  obtain ⟨dx, z⟩ := h
  exact .of (.ins z N.cl N.ca N.sn N.tk N.ob)
section
variable {P : Program} {w : World} {K : Frag} {mg : Str → Option Value} {base : Heap}
def spInit (CN : Addr) : Sp := fun vs H Q _ => ∃ (p dx : Addr) (k s f pw : V), vs = [.ref p, k, s, f, pw] ∧ H p = some (.ins CN dx []) ∧ ∀ H', H' p = some (.ins CN dx (numF k s f pw)) → (∀ b o, H b = some o → b ≠ p → H' b = some o) → Q .non H'
theorem scInit : FnScope ["self", "kind", "sign", "figures", "power"] ["self", "kind", "sign", "figures", "power"] (defScope sInit) := ⟨rfl, rfl, rfl, by decide +kernel, rfl, by decide +kernel, by decide +kernel⟩
theorem ok_init {f CN : Addr} {fd : FuncData} (F : Fun K "__init__" "Number.__init__" sInit f fd) (N : Num K mg CN) : FnOk P w K mg base CX0 1 f fd ["self", "kind", "sign", "figures", "power"] (spInit CN) := by
  refine F.ok scInit (fun vs H Q E h => ?_) (fun cdv A outer s H vs Q E hr h => ?_)
  · obtain ⟨p, dx, a, b, c, d, rfl, _⟩ := h
    rfl
  · obtain ⟨p, dx, a, b, c, d, rfl, hp, k⟩ := h
    refine ⟨_, pss_cons (ps_fld (pv 0) (pv 1) rfl) (pss_cons (ps_fld (pv 0) (pv 2) rfl) (pss_cons (ps_fld (pv 0) (pv 3) rfl) (pss_one (ps_fld (pv 0) (pv 4) rfl)))), ?_⟩
    have l : ∀ (fs : List (Str × V)) (f : Str) (v : V) (n : Nat), fs.length ≤ n → (putF f v fs).length ≤ n + 1 := fun fs f v n h => Nat.le_trans (length_putF f v fs) (Nat.succ_le_succ h)
    refine ⟨_, rfl, _, rfl, p, CN, dx, [], rfl, hp, N.cl, N.n1, (by show 0 < 1000; decide), ?_⟩
    refine ⟨_, rfl, _, rfl, p, CN, dx, _, rfl, upd_same, N.cl, N.n2, Nat.lt_of_le_of_lt (l _ _ _ 0 (Nat.le_refl _)) (by decide), ?_⟩
    refine ⟨_, rfl, _, rfl, p, CN, dx, _, rfl, upd_same, N.cl, N.n3, Nat.lt_of_le_of_lt (l _ _ _ 1 (l _ _ _ 0 (Nat.le_refl _))) (by decide), ?_⟩
    refine ⟨_, rfl, _, rfl, p, CN, dx, _, rfl, upd_same, N.cl, N.n4, Nat.lt_of_le_of_lt (l _ _ _ 2 (l _ _ _ 1 (l _ _ _ 0 (Nat.le_refl _)))) (by decide), ?_⟩
    refine k _ upd_same fun b o e hb => ?_
    rw [upd_ne hb, upd_ne hb, upd_ne hb, upd_ne hb]
    exact e
/-- how a Number is made -/
structure MakeN (P : Program) (w : World) (K : Frag) (mg : Str → Option Value) (base : Heap) (CN fI : Addr) (fdI : FuncData) : Prop where
  m : Mk K CN fI
  g : FnOk P w K mg base CX0 1 fI fdI ["self", "kind", "sign", "figures", "power"] (spInit CN)
  b : Binds K fdI ["self", "kind", "sign", "figures", "power"] []
/-- behind Number(..) -/
theorem made {CN : Addr} {H : Hp} {Q : VK} {k s f p : V} (h : ∀ n H', H n = none → Same H H' → NumAt CN H' n k s f p → Q (.ref n) H') :
    ∀ x dx, H x = none → H dx = none → dx ≠ x → spInit CN (.ref x :: ([k, s, f, p] ++ [])) (upd (upd H dx (.own x)) x (.ins CN dx [])) (fun v H2 => v = .non ∧ Q (.ref x) H2) E0 := by
  intro x dx nx nd ne
  refine ⟨x, dx, k, s, f, p, rfl, upd_same, fun H' e kp => ⟨rfl, h x H' nx (fun b o z => ?_) ⟨dx, e⟩⟩⟩
  refine kp b o ?_ (ne_of_none z nx)
  rw [upd_ne (ne_of_none z nx), upd_ne (ne_of_none z nd)]
  exact z
/-- a thing that is no Number -/
def NotNum (K : Frag) (CN : Addr) (H : Hp) (v : V) : Prop := ∃ t, TyE K H v t ∧ kitOne K t (.ref CN) = some false
def spNeedN (K : Frag) (CN CB : Addr) : Sp := fun vs H Q E => ∃ v, vs = [v] ∧ ((∃ n k s f p, v = .ref n ∧ NumAt CN H n k s f p ∧ Q v H) ∨ (NotNum K CN H v ∧ E (.ref CB) none H))
theorem scNeedN : FnScope ["thing"] ["thing"] (defScope sNeedN) := ⟨rfl, rfl, rfl, by decide +kernel, rfl, by decide +kernel, by decide +kernel⟩
theorem ok_needN {f CN CB : Addr} {fd : FuncData} (D : Def K mg "need_number" ["thing"] sNeedN f fd) (O : Own mg) (T : Kit K) (B : Err K mg "BadNumber" CB) (N : Num K mg CN) : FnOk P w K mg base (CX1 P w) 1 f fd ["thing"] (spNeedN K CN CB) := by
  refine D.F.okE scNeedN (fun vs H Q E h => ?_) (fun X cdv A outer s H vs Q E hX hr hx h => ?_)
  · obtain ⟨v, rfl, _⟩ := h
    rfl
  · subst hX
    obtain ⟨v, rfl, h⟩ := h
    refine ⟨_, (pss_cons (ps_if (pt_not (pt_val (pisi O.isi (pv 0) (pcls N.g)))) (pss_one (ps_raise (by rfl) B.g B.q PySem.F.excBase_ValueError hr.hd hx (pa_cons pe_str pa_nil))) pss_nil)
      (pss_one (ps_ret (pv 0)))), ?_⟩
    rcases h with ⟨n, a, b, c, d, rfl, hn, k⟩ | ⟨⟨t, ty, k1⟩, k⟩
    · exact ⟨_, rfl, _, _, _, _, true, rfl, rfl, N.ty hn, N.self, _, rfl, iteF ⟨_, rfl, k⟩⟩
    · exact ⟨_, rfl, _, _, _, t, false, rfl, rfl, ty, k1, _, rfl, iteT ⟨Nat.le_of_lt (small1000 (by show 1 ≤ 1000; decide)), k⟩⟩
def spTold (K : Frag) (CN CB : Addr) : Sp := fun vs H Q E => ∃ v, vs = [v] ∧ ((∃ n k s f p, v = .ref n ∧ NumAt CN H n k s f p ∧ ∀ t, H t = none → Q (.ref t) (upd H t (.tup [k, s, f, p]))) ∨ (NotNum K CN H v ∧ E (.ref CB) none H))
theorem scTold : FnScope ["number"] ["number"] (defScope sTold) := ⟨rfl, rfl, rfl, by decide +kernel, rfl, by decide +kernel, by decide +kernel⟩
theorem ok_told {f f1 CN CB : Addr} {fd fd1 : FuncData} (D : Def K mg "told" ["number"] sTold f fd) (D_need_number : Def K mg "need_number" ["thing"] sNeedN f1 fd1) (O : Own mg) (T : Kit K) (B : Err K mg "BadNumber" CB) (N : Num K mg CN) :
    FnOk P w K mg base (CX1 P w) 2 f fd ["number"] (spTold K CN CB) := by
  have G_need_number := ok_needN (P := P) (w := w) (base := base) D_need_number O T B N
  refine D.F.okE scTold (fun vs H Q E h => ?_) (fun X cdv A outer s H vs Q E hX hr hx h => ?_)
  · obtain ⟨v, rfl, _⟩ := h
    rfl
  · subst hX
    obtain ⟨v, rfl, h⟩ := h
    refine ⟨_, (pss_cons (ps_expr (pcall D_need_number G_need_number hr hx (pa_cons (pv 0) pa_nil)))
      (pss_one (ps_ret (pe_tup (pa_cons (pe_fld (pv 0) rfl) (pa_cons (pe_fld (pv 0) rfl) (pa_cons (pe_fld (pv 0) rfl) (pa_cons (pe_fld (pv 0) rfl) pa_nil)))))))), ?_⟩
    rcases h with ⟨n, a, b, c, d, rfl, hn, k⟩ | ⟨bad, k⟩
    · refine ⟨_, rfl, _, rfl, .inl ⟨n, a, b, c, d, rfl, hn, ?_⟩⟩
      obtain ⟨dx, e⟩ := hn
      exact ⟨_, rfl, n, CN, dx, _, _, rfl, e, N.cl, N.n1, num1 _ _ _ _, _, rfl, n, CN, dx, _, _, rfl, e, N.cl, N.n2, num2 _ _ _ _, _, rfl, n, CN, dx, _, _, rfl, e, N.cl, N.n3, num3 _ _ _ _, _, rfl, n, CN, dx, _, _, rfl, e, N.cl, N.n4, num4 _ _ _ _,
        Nat.le_of_lt (small1000 (by show 4 ≤ 1000; decide)), k⟩
    · exact ⟨_, rfl, _, rfl, .inr ⟨bad, k⟩⟩
end
end TR
set_option Elab.async false
set_option linter.all false
set_option maxRecDepth 100000
set_option maxHeartbeats 4000000
namespace TR
open PySem L2 PySem.W PyProof.Rows
seal PE PS PSs PA PT PW PG PGs PI PO
abbrev sPlain : Stmt := (top 19)
abbrev sEnd : Stmt := (top 20)
abbrev sNothing : Stmt := (top 21)
section
variable {P : Program} {w : World} {K : Frag} {mg : Str → Option Value} {base : Heap}
def spPlain (K : Frag) (CN CB : Addr) : Sp := fun vs H Q E => ∃ x y z, vs = [x, y, z] ∧
  ((GoodV 0 1 x ∧ GoodV 0 (10 ^ 60 - 1) y ∧ GoodV (-200) 200 z ∧ ∀ n H', H n = none → Same H H' → NumAt CN H' n (.str "plain") x y z → Q (.ref n) H') ∨
   ((BadV K H 0 1 x ∨ (GoodV 0 1 x ∧ (BadV K H 0 (10 ^ 60 - 1) y ∨ (GoodV 0 (10 ^ 60 - 1) y ∧ BadV K H (-200) 200 z)))) ∧ E (.ref CB) none H))
theorem scPlain : FnScope ["sign", "figures", "power"] ["sign", "figures", "power"] (defScope sPlain) := ⟨rfl, rfl, rfl, by decide +kernel, rfl, by decide +kernel, by decide +kernel⟩
theorem b01 : Lits 0 1 := by unfold Lits; decide +kernel
theorem b60 : Lits 0 (10 ^ 60 - 1) := by unfold Lits; decide +kernel
theorem b200 : Lits (-200) 200 := by unfold Lits; decide +kernel
theorem ok_plain {f f1 f2 fI CN CB : Addr} {fd fd1 fd2 fdI : FuncData} (D : Def K mg "plain" ["sign", "figures", "power"] sPlain f fd) (D_need_between : Def K mg "need_between" ["thing", "least", "most"] sBetween f1 fd1) (D2 : Def K mg "is_between" ["thing", "least", "most"] sIsB f2 fd2)
    (O : Own mg) (T : Kit K) (B : Err K mg "BadNumber" CB) (N : Num K mg CN) (M : MakeN P w K mg base CN fI fdI) : FnOk P w K mg base (CX1 P w) 3 f fd ["sign", "figures", "power"] (spPlain K CN CB) := by
  have G_need_between := ok_between (P := P) (w := w) (base := base) D_need_between D2 O T B
  refine D.F.okE scPlain (fun vs H Q E h => ?_) (fun X cdv A outer s H vs Q E hX hr hx h => ?_)
  · obtain ⟨x, y, z, rfl, _⟩ := h
    rfl
  · subst hX
    obtain ⟨x, y, z, rfl, h⟩ := h
    refine ⟨_, (pss_cons (ps_expr (pcall D_need_between G_need_between hr hx (pa_cons (pv 0) (pa_cons pe_int (pa_cons pe_int pa_nil)))))
      (pss_cons (ps_expr (pcall D_need_between G_need_between hr hx (pa_cons (pv 1) (pa_cons pe_int (pa_cons (pe_op op_sub (pe_op op_pow pe_int pe_int) pe_int) pa_nil)))))
      (pss_cons (ps_expr (pcall D_need_between G_need_between hr hx (pa_cons (pv 2) (pa_cons (pe_un un_neg pe_int) (pa_cons pe_int pa_nil)))))
      (pss_one (ps_ret (pe_make M.m M.g hr rfl N.g M.b .nil pass0 (pa_cons pe_str (pa_cons (pv 0) (pa_cons (pv 1) (pa_cons (pv 2) pa_nil)))))))))), ?_⟩
    have pw : CPow 10 60 := ⟨by decide, by decide, by decide⟩
    rcases h with ⟨⟨i1, rfl, l1, u1⟩, ⟨i2, rfl, l2, u2⟩, ⟨i3, rfl, l3, u3⟩, k⟩ | ⟨bad, k⟩
    · refine ⟨_, rfl, _, _, _, rfl, b01, .inl ⟨⟨i1, rfl, l1, u1⟩, ?_⟩⟩
      refine ⟨_, rfl, _, _, rfl, rfl, pw, _, _, rfl, rfl, _, _, _, rfl, b60, .inl ⟨⟨i2, rfl, l2, u2⟩, ?_⟩⟩
      refine ⟨_, rfl, _, rfl, _, _, _, rfl, b200, .inl ⟨⟨i3, rfl, l3, u3⟩, ?_⟩⟩
      exact ⟨_, rfl, _, rfl, _, rfl, made k⟩
    · rcases bad with bad | ⟨⟨i1, rfl, l1, u1⟩, bad | ⟨⟨i2, rfl, l2, u2⟩, bad⟩⟩
      · exact ⟨_, rfl, _, _, _, rfl, b01, .inr ⟨bad, k⟩⟩
      · refine ⟨_, rfl, _, _, _, rfl, b01, .inl ⟨⟨i1, rfl, l1, u1⟩, ?_⟩⟩
        exact ⟨_, rfl, _, _, rfl, rfl, pw, _, _, rfl, rfl, _, _, _, rfl, b60, .inr ⟨bad, k⟩⟩
      · refine ⟨_, rfl, _, _, _, rfl, b01, .inl ⟨⟨i1, rfl, l1, u1⟩, ?_⟩⟩
        refine ⟨_, rfl, _, _, rfl, rfl, pw, _, _, rfl, rfl, _, _, _, rfl, b60, .inl ⟨⟨i2, rfl, l2, u2⟩, ?_⟩⟩
        exact ⟨_, rfl, _, rfl, _, _, _, rfl, b200, .inr ⟨bad, k⟩⟩
def spEnd (K : Frag) (CN CB : Addr) : Sp := fun vs H Q E => ∃ x, vs = [x] ∧ ((GoodV 0 1 x ∧ ∀ n H', H n = none → Same H H' → NumAt CN H' n (.str "end") x (.int 0) (.int 0) → Q (.ref n) H') ∨ (BadV K H 0 1 x ∧ E (.ref CB) none H))
theorem scEnd : FnScope ["sign"] ["sign"] (defScope sEnd) := ⟨rfl, rfl, rfl, by decide +kernel, rfl, by decide +kernel, by decide +kernel⟩
theorem ok_end {f f1 f2 fI CN CB : Addr} {fd fd1 fd2 fdI : FuncData} (D : Def K mg "end" ["sign"] sEnd f fd) (D_need_between : Def K mg "need_between" ["thing", "least", "most"] sBetween f1 fd1) (D2 : Def K mg "is_between" ["thing", "least", "most"] sIsB f2 fd2)
    (O : Own mg) (T : Kit K) (B : Err K mg "BadNumber" CB) (N : Num K mg CN) (M : MakeN P w K mg base CN fI fdI) : FnOk P w K mg base (CX1 P w) 3 f fd ["sign"] (spEnd K CN CB) := by
  have G_need_between := ok_between (P := P) (w := w) (base := base) D_need_between D2 O T B
  refine D.F.okE scEnd (fun vs H Q E h => ?_) (fun X cdv A outer s H vs Q E hX hr hx h => ?_)
  · obtain ⟨x, rfl, _⟩ := h
    rfl
  · subst hX
    obtain ⟨x, rfl, h⟩ := h
    refine ⟨_, (pss_cons (ps_expr (pcall D_need_between G_need_between hr hx (pa_cons (pv 0) (pa_cons pe_int (pa_cons pe_int pa_nil)))))
      (pss_one (ps_ret (pe_make M.m M.g hr rfl N.g M.b .nil pass0 (pa_cons pe_str (pa_cons (pv 0) (pa_cons pe_int (pa_cons pe_int pa_nil)))))))), ?_⟩
    rcases h with ⟨⟨i1, rfl, l1, u1⟩, k⟩ | ⟨bad, k⟩
    · refine ⟨_, rfl, _, _, _, rfl, b01, .inl ⟨⟨i1, rfl, l1, u1⟩, ?_⟩⟩
      exact ⟨_, rfl, made k⟩
    · exact ⟨_, rfl, _, _, _, rfl, b01, .inr ⟨bad, k⟩⟩
def spNothing (CN : Addr) : Sp := fun vs H Q _ => vs = [] ∧ ∀ n H', H n = none → Same H H' → NumAt CN H' n (.str "none") (.int 0) (.int 0) (.int 0) → Q (.ref n) H'
theorem scNothing : FnScope [] [] (defScope sNothing) := ⟨rfl, rfl, rfl, by decide +kernel, rfl, by decide +kernel, by decide +kernel⟩
theorem ok_nothing {f fI CN : Addr} {fd fdI : FuncData} (D : Def K mg "nothing" [] sNothing f fd) (N : Num K mg CN) (M : MakeN P w K mg base CN fI fdI) : FnOk P w K mg base (CX1 P w) 3 f fd [] (spNothing CN) := by
  refine D.F.okE scNothing (fun vs H Q E h => ?_) (fun X cdv A outer s H vs Q E hX hr hx h => ?_)
  · obtain ⟨rfl, _⟩ := h
    rfl
  · subst hX
    obtain ⟨rfl, k⟩ := h
    refine ⟨_, (pss_one (ps_ret (pe_make M.m M.g hr rfl N.g M.b .nil pass0 (pa_cons pe_str (pa_cons pe_int (pa_cons pe_int (pa_cons pe_int pa_nil))))))), ?_⟩
    exact made k
end
end TR
set_option Elab.async false
set_option linter.all false
set_option maxRecDepth 100000
set_option maxHeartbeats 4000000
namespace TR
open PySem L2 PySem.W PyProof.Rows
seal PE PS PSs PA PT PW PG PGs PI PO
abbrev sLead : Stmt := (top 23)
section
variable {P : Program} {w : World} {K : Frag} {mg : Str → Option Value} {base : Heap}
def spLead (CN : Addr) : Sp := fun vs H Q _ => ∃ n k s f p, vs = [.ref n] ∧ NumAt CN H n k s (.int f) (.int p) ∧ f.natAbs < 2 ^ 300 ∧ Q (.int (p + ((Str.ofString (toString f)).length : Nat) - 1)) H
theorem scLead : FnScope ["number"] ["number"] (defScope sLead) := ⟨rfl, rfl, rfl, by decide +kernel, rfl, by decide +kernel, by decide +kernel⟩
theorem ok_lead {f CN : Addr} {fd : FuncData} (D : Def K mg "lead_of" ["number"] sLead f fd) (O : Own mg) (N : Num K mg CN) : FnOk P w K mg base (CX1 P w) 1 f fd ["number"] (spLead CN) := by
  refine D.F.okE scLead (fun vs H Q E h => ?_) (fun X cdv A outer s H vs Q E hX hr hx h => ?_)
  · obtain ⟨n, a, b, c, d, rfl, _⟩ := h
    rfl
  · subst hX
    obtain ⟨n, a, b, fg, pw, rfl, ⟨dx, e⟩, hf, k⟩ := h
    refine ⟨_, (pss_one (ps_ret (pe_op op_sub (pe_op op_add (pe_fld (pv 0) rfl) (pe_callB call_len_str (by rfl) O.len_ PySem.boot_len (pa_cons (pe_callTy call_str_int (by rfl) O.str_ boot_str (pa_cons (pe_fld (pv 0) rfl) pa_nil)) pa_nil))) pe_int))), ?_⟩
    have lg : fg.natAbs.log2 < 1920 := Nat.lt_trans (log2_small hf (by decide)) (by decide)
    exact ⟨_, rfl, n, CN, dx, _, _, rfl, e, N.cl, N.n4, num4 _ _ _ _, _, rfl, n, CN, dx, _, _, rfl, e, N.cl, N.n3, num3 _ _ _ _, _, rfl, lg, _, rfl, int_text_fits lg, _, _, rfl, rfl, _, _, rfl, rfl, k⟩
end
end TR
set_option Elab.async false
set_option linter.all false
set_option maxRecDepth 100000
set_option maxHeartbeats 4000000
namespace TR
open PySem L2 PySem.W PyProof.Rows
seal PE PS PSs PA PT PW PG PGs PI PO
abbrev sProductOf : Stmt := (top 2)
abbrev sTenTo : Stmt := (top 3)
theorem bits_le {x k : Nat} (h : x < 2 ^ k) (hk : k ≤ 1048576) : Builtin.Int.intBits (x : Int) ≤ 2 ^ 20 := by
  unfold Builtin.Int.intBits
  split
  · exact Nat.zero_le _
  · have z : (x : Int).natAbs ≠ 0 := by
      intro z
      rename_i hz
      exact hz (by simpa using z)
    have : (x : Int).natAbs.log2 < k := (Nat.log2_lt z).mpr h
    have e : (2 : Nat) ^ 20 = 1048576 := by decide
    omega
theorem pow_bits {b s j n : Nat} (hb : b < 2 ^ s) (hj : j ≤ n) (hn : n * s < 1048576) : Builtin.Int.intBits ((b ^ j : Nat) : Int) ≤ 2 ^ 20 := by
  refine bits_le (k := n * s + 1) ?_ hn
  have a : b ^ j ≤ (2 ^ s) ^ j := Nat.pow_le_pow_left (Nat.le_of_lt hb) j
  have c : (2 ^ s) ^ j ≤ 2 ^ (n * s) := by
    rw [← Nat.pow_mul, Nat.mul_comm n s]
    exact Nat.pow_le_pow_right (by decide) (Nat.mul_le_mul_left s hj)
  have d : 2 ^ (n * s) < 2 ^ (n * s + 1) := Nat.pow_lt_pow_right (by decide) (by omega)
  exact Nat.lt_of_le_of_lt a (Nat.lt_of_le_of_lt c d)
theorem pow_mulOk {b s i j n : Nat} (hb : b < 2 ^ s) (hi : i ≤ n) (hj : j ≤ n) (hn : n * s < 1048576) : IntMulOk ((b ^ i : Nat) : Int) ((b ^ j : Nat) : Int) := IntMulOk.of_bits (pow_bits hb hi hn) (pow_bits hb hj hn)
section
variable {P : Program} {w : World} {K : Frag} {mg : Str → Option Value} {base : Heap}
def spProductOf : Sp := fun vs H Q _ => ∃ b n s : Nat, vs = [.int (b : Int), .int (n : Int)] ∧ b < 2 ^ s ∧ n * s < 1048576 ∧ Q (.int ((b ^ n : Nat) : Int)) H
theorem scProductOf : FnScope ["whole", "count", "product"] ["whole", "count"] (defScope sProductOf) := ⟨rfl, rfl, rfl, by decide +kernel, rfl, by decide +kernel, by decide +kernel⟩
theorem ok_productOf {f : Addr} {fd : FuncData} (D : Def K mg "product_of" ["whole", "count"] sProductOf f fd) : FnOk P w K mg base (CX1 P w) 1 f fd ["whole", "count"] spProductOf := by
  refine FnOk.up (D.F.ok scProductOf (fun vs H Q E h => ?_) (fun cdv A outer s H vs Q E hr h => ?_))
  · obtain ⟨b, n, z, rfl, _⟩ := h
    rfl
  · obtain ⟨b, n, z, rfl, hb, hn, k⟩ := h
    refine ⟨_, (pss_cons (ps_set (i := 2) scProductOf.nd rfl (Or.inl rfl) pe_int)
      (pss_cons (ps_while PassesOwn.never (pt_cmpR op_gt (pv 1) pe_int (nomark _)) (pss_cons (ps_if (pt_cmpR op_eq (pe_op op_mod (pv 1) pe_int) pe_int (nomark _)) (pss_one (ps_set (i := 2) scProductOf.nd rfl (Or.inl rfl) (pe_op op_mulK (pv 2) (pv 0)))) pss_nil)
      (pss_cons (ps_set (i := 0) scProductOf.nd rfl (Or.inl rfl) (pe_op op_mulK (pv 0) (pv 0)))
      (pss_one (ps_set (i := 1) scProductOf.nd rfl (Or.inl rfl) (pe_op op_fdivK (pv 1) pe_int))))))
      (pss_one (ps_ret (pv 2))))), ?_⟩
    have d2 : (0 : Int) < 2 ∧ (2 : Int).natAbs.log2 < 9000 := ⟨by decide, by decide +kernel⟩
    refine while_by (fun σ H2 => H2 = H ∧ ∃ i m c : Nat, m + i * c = n ∧ σ = [some (.int ((b ^ i : Nat) : Int)), some (.int (c : Int)), some (.int ((b ^ m : Nat) : Int))]) (fun σ _ => match σ with | [_, some (.int c), _] => c.toNat | _ => 0) ?_ ?_ ?_
    · exact ⟨rfl, 1, 0, n, by omega, by rw [Nat.pow_one]; rfl⟩
    · rintro σ H2 ⟨rfl, i, m, c, hc, rfl⟩
      refine ⟨_, rfl, _, _, rfl, rfl, _, rfl, iteD (fun h0 => ?_) (fun h0 => ?_)⟩
      · have c1 : 1 ≤ c := by have : (0 : Int) < c := h0
                              omega
        have hi : i ≤ n := Nat.le_trans (Nat.le_mul_of_pos_right i c1) (by omega)
        have hm : m ≤ n := by omega
        have sq : ((b ^ i : Nat) : Int) * ((b ^ i : Nat) : Int) = ((b ^ (2 * i) : Nat) : Int) := by rw [Nat.two_mul, Nat.pow_add]; rfl
        have lt : ((c : Int) / 2).toNat < (c : Int).toNat := by omega
        refine ⟨_, rfl, _, _, rfl, rfl, d2.1, rfl, _, rfl, iteD (fun ho => ?_) (fun he => ?_)⟩
        · have ho : (c : Int) % 2 = 1 := by injection ho
          have mu : ((b ^ m : Nat) : Int) * ((b ^ i : Nat) : Int) = ((b ^ (m + i) : Nat) : Int) := by rw [Nat.pow_add]; rfl
          refine ⟨_, rfl, _, rfl, _, _, rfl, rfl, pow_mulOk hb hm hi hn, _, rfl, _, rfl, _, _, rfl, rfl, pow_mulOk hb hi hi hn, _, rfl, _, _, rfl, rfl, d2, ⟨rfl, 2 * i, m + i, c / 2, ?_, ?_⟩, lt⟩
          · have e : i * c = i * (2 * (c / 2) + 1) := congrArg (i * ·) (by omega)
            rw [Nat.mul_add, Nat.mul_one, ← Nat.mul_assoc, Nat.mul_comm i 2] at e
            omega
          · show [some (V.int (((b ^ i : Nat) : Int) * ((b ^ i : Nat) : Int))), some (V.int ((c : Int) / 2)), some (V.int (((b ^ m : Nat) : Int) * ((b ^ i : Nat) : Int)))] = _
            rw [sq, mu]
            rfl
        · have he : ¬ (c : Int) % 2 = 1 := fun z => he (congrArg V.int z)
          refine ⟨_, rfl, _, rfl, _, _, rfl, rfl, pow_mulOk hb hi hi hn, _, rfl, _, _, rfl, rfl, d2, ⟨rfl, 2 * i, m, c / 2, ?_, ?_⟩, lt⟩
          · have e : i * c = i * (2 * (c / 2)) := congrArg (i * ·) (by omega)
            rw [← Nat.mul_assoc, Nat.mul_comm i 2] at e
            omega
          · show [some (V.int (((b ^ i : Nat) : Int) * ((b ^ i : Nat) : Int))), some (V.int ((c : Int) / 2)), some (V.int ((b ^ m : Nat) : Int))] = _
            rw [sq]
            rfl
      · have c0 : c = 0 := by have : ¬ (0 : Int) < c := h0
                              omega
        subst c0
        have hm : m = n := by omega
        subst hm
        exact ⟨_, rfl, k⟩
    · rintro σ H2 Q1 Q2 hQ ⟨v, e, i, j, e1, e2, b, e3, q⟩
      exact ⟨v, e, i, j, e1, e2, b, e3, hQ _ _ q⟩
def spTenTo : Sp := fun vs H Q _ => ∃ n : Nat, vs = [.int (n : Int)] ∧ n ≤ 4000 ∧ Q (.int ((10 ^ n : Nat) : Int)) H
theorem scTenTo : FnScope ["count"] ["count"] (defScope sTenTo) := ⟨rfl, rfl, rfl, by decide +kernel, rfl, by decide +kernel, by decide +kernel⟩
theorem ok_tenTo {f f1 : Addr} {fd fd1 : FuncData} (D : Def K mg "ten_to" ["count"] sTenTo f fd) (D_product_of : Def K mg "product_of" ["whole", "count"] sProductOf f1 fd1) (G_product_of : FnOk P w K mg base (CX1 P w) 1 f1 fd1 ["whole", "count"] spProductOf) : FnOk P w K mg base (CX1 P w) 2 f fd ["count"] spTenTo := by
  refine FnOk.up (D.F.ok scTenTo (fun vs H Q E h => ?_) (fun cdv A outer s H vs Q E hr h => ?_))
  · obtain ⟨n, rfl, _⟩ := h
    rfl
  · obtain ⟨n, rfl, hn, k⟩ := h
    have hx : Catches (cxOf CX0 P w K mg base ["count"] "ten_to" (defScope sTenTo) f cdv A outer s H E).nox EKF := catches0
    refine ⟨_, (pss_one (ps_ret (pcall D_product_of G_product_of hr hx (pa_cons pe_int (pa_cons (pv 0) pa_nil))))), ?_⟩
    exact ⟨_, rfl, 10, n, 4, rfl, by decide, by omega, k⟩
end
end TR
set_option Elab.async false
set_option linter.all false
set_option maxRecDepth 100000
set_option maxHeartbeats 4000000
namespace TR
open PySem L2 PySem.W PyProof.Rows
seal PE PS PSs PA PT PW PG PGs PI PO
/-! ### numbers, by what is told of them -/
inductive Kd where
  | plain | end_ | none
def Kd.str : Kd → Str
  | .plain => "plain"
  | .end_ => "end"
  | .none => "none"
structure Nm where
  k : Kd
  s : Int
  f : Int
  p : Int
def Nm.vs (x : Nm) : List V := [.str x.k.str, .int x.s, .int x.f, .int x.p]
structure Nm.Ok (x : Nm) : Prop where
  s0 : 0 ≤ x.s
  s1 : x.s ≤ 1
  f0 : 0 ≤ x.f
  f1 : x.f ≤ 10 ^ 60 - 1
  p0 : -200 ≤ x.p
  p1 : x.p ≤ 200
def NumIs (CN : Addr) (H : Hp) (n : Addr) (x : Nm) : Prop := NumAt CN H n (.str x.k.str) (.int x.s) (.int x.f) (.int x.p)
theorem NumIs.same {CN : Addr} {H H' : Hp} {n : Addr} {x : Nm} (h : NumIs CN H n x) (e : Same H H') : NumIs CN H' n x := NumAt.same h e
theorem NumIs.exc {CN : Addr} {H H' : Hp} {n D : Addr} {l : List V} {x : Nm} (h : NumIs CN H n x) (hD : H D = some (.lst l)) (e : Exc1 D H H') : NumIs CN H' n x := by
  obtain ⟨dx, z⟩ := h
  exact ⟨dx, e _ _ z fun q => by rw [q, hD] at z; cases z⟩
theorem NotNum.same {K : Frag} {CN : Addr} {H H' : Hp} {v : V} (h : NotNum K CN H v) (e : Same H H') : NotNum K CN H' v := by
  obtain ⟨t, ty, r⟩ := h
  exact ⟨t, TyE.same ty e, r⟩
/-- numbers in a list -/
structure NumsAt (CN : Addr) (H : Hp) (l : Addr) (ns : List (Addr × Nm)) : Prop where
  l : H l = some (.lst (ns.map fun p => V.ref p.1))
  n : ∀ p ∈ ns, NumIs CN H p.1 p.2
def tenI (n : Int) : Int := ((10 ^ n.toNat : Nat) : Int)
theorem tenI_pos (n : Int) : 0 < tenI n := Int.natCast_pos.mpr (Nat.pow_pos (by decide))
end TR
set_option Elab.async false
set_option linter.all false
set_option maxRecDepth 100000
set_option maxHeartbeats 4000000
namespace TR
open PySem L2 PySem.W PyProof.Rows
seal PE PS PSs PA PT PW PG PGs PI PO
theorem tenI_bits {d : Int} (h : d ≤ 4000) : Builtin.Int.intBits (tenI d) ≤ 2 ^ 20 := pow_bits (b := 10) (s := 4) (n := 4000) (by decide) (by omega) (by decide)
end TR
set_option Elab.async false
set_option linter.all false
set_option maxRecDepth 100000
set_option maxHeartbeats 4000000
namespace TR
open PySem L2 PySem.W PyProof.Rows
seal PE PS PSs PA PT PW PG PGs PI PO
/-! ### exact values as ratios, of up to a thousand figures -/
def partI (left low : Int) : Int := (if decide (0 < left) = true then 1 else 0) + (if decide (low ≤ 2 * left) = true then 1 else 0) + (if decide (low < 2 * left) = true then 1 else 0)
theorem maxT (s : Int) : (if (0 : Int) > s then 0 else s) = ((s.toNat : Nat) : Int) := by
  by_cases h : (0 : Int) > s
  · rw [if_pos h]; omega
  · rw [if_neg h]; omega
/-- t * 10 ** s / b has its lead at 0 -/
def Lead0 (t b s : Int) : Prop := b * tenI (-s) ≤ t * tenI s ∧ t * tenI s < 10 * (b * tenI (-s))
theorem tenI_cross {s r : Int} (h : s ≤ r) : tenI r * tenI (-s) = tenI s * tenI (-r) * tenI (r - s) := by
  unfold tenI
  rw [← Int.natCast_mul, ← Int.natCast_mul, ← Int.natCast_mul, ← Nat.pow_add, ← Nat.pow_add, ← Nat.pow_add]
  congr 2
  omega
theorem tenI_ge {d : Int} (h : 1 ≤ d) : 10 ≤ tenI d := by
  unfold tenI
  have : 10 ^ 1 ≤ 10 ^ d.toNat := Nat.pow_le_pow_right (by decide) (by omega)
  omega
theorem tenI_le {a b : Int} (h : a ≤ b) : tenI a ≤ tenI b := by
  unfold tenI
  exact Int.ofNat_le.mpr (Nat.pow_le_pow_right (by decide) (by omega))
theorem lead_le {t b s r : Int} (hb : 0 < b) (h1 : Lead0 t b s) (h2 : Lead0 t b r) : r ≤ s := by
  apply Classical.byContradiction
  intro h
  have hs : s ≤ r := by omega
  have c := tenI_cross hs
  have g := tenI_ge (d := r - s) (by omega)
  have p1 := tenI_pos (-s)
  have p2 := tenI_pos (-r)
  have l1 : 0 < b * tenI (-s) := Int.mul_pos hb p1
  have l2 : 0 < b * tenI (-r) := Int.mul_pos hb p2
  -- high r * low s = high s * low r * 10 ** (r - s)
  have e : t * tenI r * (b * tenI (-s)) = t * tenI s * (b * tenI (-r)) * tenI (r - s) := by
    calc t * tenI r * (b * tenI (-s)) = t * b * (tenI r * tenI (-s)) := by ac_rfl
      _ = t * b * (tenI s * tenI (-r) * tenI (r - s)) := by rw [c]
      _ = t * tenI s * (b * tenI (-r)) * tenI (r - s) := by ac_rfl
  have a1 : t * tenI r * (b * tenI (-s)) < 10 * (b * tenI (-r)) * (b * tenI (-s)) := Int.mul_lt_mul_of_pos_right h2.2 l1
  have hp : 0 < t * tenI s := Int.lt_of_lt_of_le l1 h1.1
  have a2 : t * tenI s * (b * tenI (-r)) * 10 ≤ t * tenI s * (b * tenI (-r)) * tenI (r - s) := Int.mul_le_mul_of_nonneg_left g (Int.le_of_lt (Int.mul_pos hp l2))
  have a3 : b * tenI (-s) * (b * tenI (-r)) ≤ t * tenI s * (b * tenI (-r)) := Int.mul_le_mul_of_nonneg_right h1.1 (Int.le_of_lt l2)
  have e2 : 10 * (b * tenI (-r)) * (b * tenI (-s)) = b * tenI (-s) * (b * tenI (-r)) * 10 := by ac_rfl
  have a4 : b * tenI (-s) * (b * tenI (-r)) * 10 ≤ t * tenI s * (b * tenI (-r)) * 10 := Int.mul_le_mul_of_nonneg_right a3 (by decide)
  rw [e] at a1
  rw [e2] at a1
  exact absurd (Int.lt_of_lt_of_le a1 (Int.le_trans a4 a2)) (Int.lt_irrefl _)
theorem lead_eq {t b s r : Int} (hb : 0 < b) (h1 : Lead0 t b s) (h2 : Lead0 t b r) : s = r := Int.le_antisymm (lead_le hb h2 h1) (lead_le hb h1 h2)
/-- the greatest number of figures that is asked for -/
def Sz (t : Int) : Prop := 1 ≤ t ∧ t < tenI 1000
theorem ten_two (n : Nat) : 10 ^ n ≤ 2 ^ (4 * n) := by
  rw [Nat.pow_mul]
  exact Nat.pow_le_pow_left (by decide) n
theorem ten_two3 (n : Nat) : 10 ^ (3 * n) ≤ 2 ^ (10 * n) := by
  rw [Nat.pow_mul, Nat.pow_mul]
  exact Nat.pow_le_pow_left (by decide) n
theorem Sz.nat {t : Int} (h : Sz t) : ∃ n : Nat, t = (n : Int) ∧ 1 ≤ n ∧ n < 10 ^ 1000 := by
  obtain ⟨n, rfl⟩ := Int.eq_ofNat_of_zero_le (show 0 ≤ t by have := h.1; omega)
  exact ⟨n, rfl, Int.ofNat_le.mp h.1, Int.ofNat_lt.mp h.2⟩
theorem sz_prod {t s : Int} (ht : Sz t) (h : s ≤ 1500) : ∃ n : Nat, t * tenI s = (n : Int) ∧ n < 10 ^ 2502 := by
  obtain ⟨n, rfl, _, hn⟩ := ht.nat
  refine ⟨n * 10 ^ s.toNat, rfl, ?_⟩
  have a : 10 ^ s.toNat ≤ 10 ^ 1502 := Nat.pow_le_pow_right (by decide) (by omega)
  calc n * 10 ^ s.toNat ≤ n * 10 ^ 1502 := Nat.mul_le_mul_left n a
    _ < 10 ^ 1000 * 10 ^ 1502 := Nat.mul_lt_mul_of_pos_right hn (Nat.pow_pos (by decide))
    _ = 10 ^ 2502 := by rw [← Nat.pow_add]
theorem bits2502 {n : Nat} (h : n < 10 ^ 2502) : Builtin.Int.intBits (n : Int) ≤ 2 ^ 20 := bits_le (k := 4 * 2502) (Nat.lt_of_lt_of_le h (ten_two 2502)) (by decide)
theorem sz_bits {t : Int} (h : Sz t) : Builtin.Int.intBits t ≤ 2 ^ 20 := by
  obtain ⟨n, rfl, _, hn⟩ := h.nat
  exact bits_le (k := 4 * 1000) (Nat.lt_of_lt_of_le hn (ten_two 1000)) (by decide)
theorem sz_mul {t s : Int} (ht : Sz t) (h : s ≤ 1500) : IntMulOk t (tenI s) := IntMulOk.of_bits (sz_bits ht) (tenI_bits (by omega))
theorem sz_log {b s : Int} (hb : Sz b) (h : s ≤ 1500) : (b * tenI s).natAbs.log2 < 9000 := by
  obtain ⟨n, e, hn⟩ := sz_prod hb h
  rw [e]
  have : n < 2 ^ 8340 := Nat.lt_of_lt_of_le hn (ten_two3 834)
  exact Nat.lt_trans (log2_small (i := (n : Int)) (k := 8340) (by rw [Int.natAbs_natCast]; exact this) (by decide)) (by decide)
/-- the whole and the part of t * 10 ** s / b -/
def whI (t b s : Int) : Int := t * tenI s / (b * tenI (-s))
def ptI (t b s : Int) : Int := partI (t * tenI s - whI t b s * (b * tenI (-s))) (b * tenI (-s))
theorem wh_left {t b s : Int} (hb : 0 < b) : 0 ≤ t * tenI s - whI t b s * (b * tenI (-s)) ∧ t * tenI s - whI t b s * (b * tenI (-s)) < b * tenI (-s) := by
  have l := Int.mul_pos hb (tenI_pos (-s))
  have e := Int.emod_add_mul_ediv (t * tenI s) (b * tenI (-s))
  have a := Int.emod_nonneg (t * tenI s) (Int.ne_of_gt l)
  have c := Int.emod_lt_of_pos (t * tenI s) l
  have e2 : whI t b s * (b * tenI (-s)) = b * tenI (-s) * (t * tenI s / (b * tenI (-s))) := Int.mul_comm _ _
  omega
theorem wh_ok {t b s : Int} (ht : Sz t) (hb : Sz b) (h1 : -1500 ≤ s) (h2 : s ≤ 1500) : IntMulOk (whI t b s) (b * tenI (-s)) := by
  obtain ⟨n, e, hn⟩ := sz_prod hb (s := -s) (by omega)
  obtain ⟨k, e', hk⟩ := sz_prod ht h2
  unfold whI
  rw [e, e']
  exact IntMulOk.of_bits (bits2502 (Nat.lt_of_le_of_lt (Nat.div_le_self k n) hk)) (bits2502 hn)
end TR
set_option Elab.async false
set_option linter.all false
set_option maxRecDepth 100000
set_option maxHeartbeats 4000000
namespace TR
open PySem L2 PySem.W PyProof.Rows
seal PE PS PSs PA PT PW PG PGs PI PO
abbrev sRInit : Stmt := (inClass (top 6) 0)
/-! ### the class Ratio -/
structure RatC (K : Frag) (mg : Str → Option Value) (CR CE : Addr) : Prop where
  g : mg "Ratio" = some (.ref CR)
  ge : mg "Exact" = some (.ref CE)
  cl : Cls K CR
  n_top : NoAttr K CR "top"
  n_bottom : NoAttr K CR "bottom"
  n_power : NoAttr K CR "power"
  ca : findIn K (.ref CR) "__class__" = some (some (.builtin "object.__class__"))
  sn : specialIn K (.builtin "object.__class__") "__get__" = some (some (.builtin "getset_descriptor.__get__"))
  tk : takesIn K (.builtin "object.__class__") = some true
  ob : mroIn K CR (.type "object") = some true
  up : kitOne K (.ref CR) (.ref CE) = some true
def ratF (t b n : V) : List (Str × V) := putF "power" n (putF "bottom" b (putF "top" t []))
theorem rat_lk (t b n : V) (x : Str) : (ratF t b n).lookup x = if x = "power" then some n else if x = "bottom" then some b else if x = "top" then some t else none := by
  unfold ratF
  rw [lookup_putF, lookup_putF, lookup_putF]
  rfl
theorem rat_top (t b n : V) : (ratF t b n).lookup ("top" : Str) = some t := by rw [rat_lk, if_neg (by decide +kernel), if_neg (by decide +kernel), if_pos rfl]
theorem rat_bottom (t b n : V) : (ratF t b n).lookup ("bottom" : Str) = some b := by rw [rat_lk, if_neg (by decide +kernel), if_pos rfl]
theorem rat_power (t b n : V) : (ratF t b n).lookup ("power" : Str) = some n := by rw [rat_lk, if_pos rfl]
theorem rat_no_first (t b n : V) : (ratF t b n).lookup ("first" : Str) = none := by rw [rat_lk, if_neg (by decide +kernel), if_neg (by decide +kernel), if_neg (by decide +kernel)]
theorem rat_no_at (t b n : V) : (ratF t b n).lookup ("at" : Str) = none := by rw [rat_lk, if_neg (by decide +kernel), if_neg (by decide +kernel), if_neg (by decide +kernel)]
def RatAt (CR : Addr) (H : Hp) (x : Addr) (t b n : Int) : Prop := ∃ dx, H x = some (.ins CR dx (ratF (.int t) (.int b) (.int n)))
theorem RatAt.same {CR : Addr} {H H' : Hp} {x : Addr} {t b n : Int} (h : RatAt CR H x t b n) (s : Same H H') : RatAt CR H' x t b n := by
  obtain ⟨dx, e⟩ := h
  exact ⟨dx, s _ _ e⟩
theorem RatC.ty {K : Frag} {mg : Str → Option Value} {CR CE : Addr} (R : RatC K mg CR CE) {H : Hp} {x : Addr} {t b n : Int} (h : RatAt CR H x t b n) : TyE K H (.ref x) (.ref CR) := by
  obtain ⟨dx, e⟩ := h
  exact .of (.ins e R.cl R.ca R.sn R.tk R.ob)
section
variable {P : Program} {w : World} {K : Frag} {mg : Str → Option Value} {base : Heap}
def spRInit (CR : Addr) : Sp := fun vs H Q _ => ∃ (p dx : Addr) (t b n : V), vs = [.ref p, t, b, n] ∧ H p = some (.ins CR dx []) ∧ ∀ H', H' p = some (.ins CR dx (ratF t b n)) → Exc p H H' → Q .non H'
theorem scRInit : FnScope ["self", "top", "bottom", "power"] ["self", "top", "bottom", "power"] (defScope sRInit) := ⟨rfl, rfl, rfl, by decide +kernel, rfl, by decide +kernel, by decide +kernel⟩
theorem ok_rInit {f CR CE : Addr} {fd : FuncData} {dV : Value} (F : FunD K "__init__" "Ratio.__init__" sRInit dV f fd) (R : RatC K mg CR CE) : FnOk P w K mg base (CX1 P w) 1 f fd ["self", "top", "bottom", "power"] (spRInit CR) := by
  refine F.okE scRInit (fun vs H Q E h => ?_) (fun X cdv A outer s H vs Q E hX hr hx h => ?_)
  · obtain ⟨p, dx, a, b, c, rfl, _⟩ := h
    rfl
  · subst hX
    obtain ⟨p, dx, a, b, c, rfl, hp, k⟩ := h
    refine ⟨_, (pss_cons (ps_fld (pv 0) (pv 1) rfl)
      (pss_cons (ps_fld (pv 0) (pv 2) rfl)
      (pss_one (ps_fld (pv 0) (pv 3) rfl)))), ?_⟩
    have l : ∀ (fs : List (Str × V)) (f : Str) (v : V) (n : Nat), fs.length ≤ n → (putF f v fs).length ≤ n + 1 := fun fs f v n h => Nat.le_trans (length_putF f v fs) (Nat.succ_le_succ h)
    refine ⟨_, rfl, _, rfl, p, CR, dx, [], rfl, hp, R.cl, R.n_top, (by show 0 < 1000; decide), ?_⟩
    refine ⟨_, rfl, _, rfl, p, CR, dx, _, rfl, upd_same, R.cl, R.n_bottom, Nat.lt_of_le_of_lt (l _ _ _ 0 (Nat.le_refl _)) (by decide), ?_⟩
    refine ⟨_, rfl, _, rfl, p, CR, dx, _, rfl, upd_same, R.cl, R.n_power, Nat.lt_of_le_of_lt (l _ _ _ 1 (l _ _ _ 0 (Nat.le_refl _))) (by decide), ?_⟩
    refine k _ upd_same fun b o e hb => ?_
    rw [upd_ne hb, upd_ne hb, upd_ne hb]
    exact e
def spRFirst (CR : Addr) : Sp := fun vs H Q _ => ∃ x t b n, vs = [.ref x] ∧ RatAt CR H x t b n ∧ Sz t ∧ Sz b ∧ ∀ f H', Same H H' → Lead0 t b (n - f) → Q (.int f) H'
def spRAt (CR : Addr) : Sp := fun vs H Q _ => ∃ x t b n p, vs = [.ref x, .int p] ∧ RatAt CR H x t b n ∧ Sz t ∧ Sz b ∧ -1500 ≤ n - p ∧ n - p ≤ 1500 ∧
  ∀ q H', Same H H' → H q = none → H' q = some (.tup [.int (whI t b (n - p)), .int (ptI t b (n - p))]) → Q (.ref q) H'
/-- how a Ratio is made: by three, by two, by two and a keyword -/
structure MakeR (P : Program) (w : World) (K : Frag) (mg : Str → Option Value) (base : Heap) (CR fI : Addr) (fdI : FuncData) (d0 : Value) (gP : List Value → List Value → List Value) (vP : List V → List V → List V) : Prop where
  m : Mk K CR fI
  g : FnOk P w K mg base (CX1 P w) 1 fI fdI ["self", "top", "bottom", "power"] (spRInit CR)
  b3 : Binds K fdI ["self", "top", "bottom", "power"] []
  b2 : Binds K fdI ["self", "top", "bottom", "power"] [d0]
  r0 : RelV (.int 0) d0
  kP : KBinds K fdI ["self", "top", "bottom", "power"] ["power"] gP vP
  eP : ∀ x a b c, vP [x, a, b] [c] = [x, a, b, c]
/-- a Ratio's methods -/
structure RatM (P : Program) (w : World) (K : Frag) (mg : Str → Option Value) (base : Heap) (CR f1 f2 : Addr) (fd1 fd2 : FuncData) : Prop where
  m1 : Meth K CR "first" f1
  g1 : FnOk P w K mg base (CX1 P w) 4 f1 fd1 ["self"] (spRFirst CR)
  b1 : Binds K fd1 ["self"] []
  m2 : Meth K CR "at" f2
  g2 : FnOk P w K mg base (CX1 P w) 3 f2 fd2 ["self", "power"] (spRAt CR)
  b2 : Binds K fd2 ["self", "power"] []
/-- behind Ratio(..) -/
theorem madeR {CR x dx : Addr} {H : Hp} {Q : VK} {E : XK} {t b n : Int} (n1 : H x = none) (n2 : H dx = none) (ne : dx ≠ x) (k : ∀ H', Same H H' → RatAt CR H' x t b n → Q .non H') :
    spRInit CR [.ref x, .int t, .int b, .int n] (upd (upd H dx (.own x)) x (.ins CR dx [])) Q E :=
  ⟨x, dx, _, _, _, rfl, upd_same, fun H' e s => k H' (fun c o z => s c o (by rw [upd_ne (ne_of_none z n1), upd_ne (ne_of_none z n2)]; exact z) (ne_of_none z n1)) ⟨dx, e⟩⟩
end
end TR
set_option Elab.async false
set_option linter.all false
set_option maxRecDepth 100000
set_option maxHeartbeats 4000000
namespace TR
open PySem L2 PySem.W PyProof.Rows
seal PE PS PSs PA PT PW PG PGs PI PO
abbrev sPartOf : Stmt := (top 8)
section
variable {P : Program} {w : World} {K : Frag} {mg : Str → Option Value} {base : Heap}
def spPartOf : Sp := fun vs H Q _ => ∃ l m : Int, vs = [.int (2 * l), .int m] ∧ 0 ≤ l ∧ 0 < m ∧ Q (.int (partI l m)) H
theorem scPartOf : FnScope ["size", "middle"] ["size", "middle"] (defScope sPartOf) := ⟨rfl, rfl, rfl, by decide +kernel, rfl, by decide +kernel, by decide +kernel⟩
theorem partI_0 {m : Int} (hm : 0 < m) : partI 0 m = 0 := by
  unfold partI
  rw [decide_eq_false (by omega : ¬ (0 : Int) < 0), decide_eq_false (by omega : ¬ m ≤ 2 * 0), decide_eq_false (by omega : ¬ m < 2 * 0)]
  rfl
theorem partI_1 {l m : Int} (hl : 0 < l) (h : 2 * l < m) : partI l m = 1 := by
  unfold partI
  rw [decide_eq_true hl, decide_eq_false (by omega : ¬ m ≤ 2 * l), decide_eq_false (by omega : ¬ m < 2 * l)]
  rfl
theorem partI_2 {l m : Int} (hl : 0 < l) (h : 2 * l = m) : partI l m = 2 := by
  unfold partI
  rw [decide_eq_true hl, decide_eq_true (by omega : m ≤ 2 * l), decide_eq_false (by omega : ¬ m < 2 * l)]
  rfl
theorem partI_3 {l m : Int} (hl : 0 < l) (h : m < 2 * l) : partI l m = 3 := by
  unfold partI
  rw [decide_eq_true hl, decide_eq_true (by omega : m ≤ 2 * l), decide_eq_true h]
  rfl
theorem ok_partOf {f : Addr} {fd : FuncData} (D : Def K mg "part_of" ["size", "middle"] sPartOf f fd) : FnOk P w K mg base (CX1 P w) 1 f fd ["size", "middle"] spPartOf := by
  refine FnOk.up (D.F.ok scPartOf (fun vs H Q E h => ?_) (fun cdv A outer s H vs Q E hr h => ?_))
  · obtain ⟨l, m, rfl, _⟩ := h
    rfl
  · obtain ⟨l, m, rfl, hl, hm, k⟩ := h
    refine ⟨_, (pss_cons (ps_if (pt_cmpR op_eq (pv 0) pe_int (nomark _)) (pss_one (ps_ret pe_int)) pss_nil)
      (pss_cons (ps_if (pt_cmpR op_lt (pv 0) (pv 1) (nomark _)) (pss_one (ps_ret pe_int)) pss_nil)
      (pss_one (ps_ret (pe_ifExp (pt_cmpR op_eq (pv 0) (pv 1) (nomark _)) pe_int pe_int))))), ?_⟩
    refine ⟨_, rfl, rfl, _, rfl, iteD (fun h0 => ?_) (fun h0 => ?_)⟩
    · have e : l = 0 := by have : 2 * l = 0 := by injection h0
                           omega
      subst e
      rw [partI_0 hm] at k
      exact k
    · have hl' : 0 < l := by
        apply Classical.byContradiction
        intro z
        exact h0 (by rw [show l = 0 by omega]; rfl)
      refine ⟨_, rfl, _, rfl, _, _, rfl, rfl, _, rfl, iteD (fun h1 => ?_) (fun h1 => ?_)⟩
      · rw [partI_1 hl' h1] at k
        exact k
      · refine ⟨_, rfl, _, rfl, rfl, _, rfl, iteD (fun h2 => ?_) (fun h2 => ?_)⟩
        · rw [partI_2 hl' (by injection h2)] at k
          exact k
        · rw [partI_3 hl' (by have : 2 * l ≠ m := fun z => h2 (by rw [z])
                              omega)] at k
          exact k
end
end TR
set_option Elab.async false
set_option linter.all false
set_option maxRecDepth 100000
set_option maxHeartbeats 4000000
namespace TR
open PySem L2 PySem.W PyProof.Rows
seal PE PS PSs PA PT PW PG PGs PI PO
abbrev sWLead : Stmt := (top 9)
theorem lead_guess (k : Nat) : 10 ^ (k * 301029995 / 10 ^ 9) ≤ 2 ^ k := by
  have hm : k * 301029995 / 10 ^ 9 * 28738 ≤ k * 8651 := by
    have : k * 301029995 / 10 ^ 9 * 10 ^ 9 ≤ k * 301029995 := Nat.div_mul_le_self _ _
    omega
  generalize k * 301029995 / 10 ^ 9 = m at hm
  have c : (10 : Nat) ^ 8651 ≤ 2 ^ 28738 := by decide +kernel
  have a : (10 ^ m) ^ 8651 ≤ (2 ^ k) ^ 8651 := by
    calc (10 ^ m) ^ 8651 = (10 ^ 8651) ^ m := by rw [← Nat.pow_mul, ← Nat.pow_mul, Nat.mul_comm]
      _ ≤ (2 ^ 28738) ^ m := Nat.pow_le_pow_left c m
      _ = 2 ^ (m * 28738) := by rw [← Nat.pow_mul, Nat.mul_comm]
      _ ≤ 2 ^ (k * 8651) := Nat.pow_le_pow_right (by decide) hm
      _ = (2 ^ k) ^ 8651 := by rw [← Nat.pow_mul]
  exact (Nat.pow_le_pow_iff_left (by decide)).mp a
section
variable {P : Program} {w : World} {K : Frag} {mg : Str → Option Value} {base : Heap}
def spWLead : Sp := fun vs H Q _ => ∃ n : Nat, vs = [.int (n : Int)] ∧ 1 ≤ n ∧ n < 10 ^ 3000 ∧ ∀ L : Nat, 10 ^ L ≤ n → n < 10 ^ (L + 1) → Q (.int (L : Int)) H
theorem scWLead : FnScope ["whole", "lead", "beyond"] ["whole"] (defScope sWLead) := ⟨rfl, rfl, rfl, by decide +kernel, rfl, by decide +kernel, by decide +kernel⟩
theorem ok_wLead {f f1 : Addr} {fd fd1 : FuncData} (D : Def K mg "whole_lead" ["whole"] sWLead f fd) (D_ten_to : Def K mg "ten_to" ["count"] sTenTo f1 fd1) (G_ten_to : FnOk P w K mg base (CX1 P w) 2 f1 fd1 ["count"] spTenTo) : FnOk P w K mg base (CX1 P w) 3 f fd ["whole"] spWLead := by
  refine FnOk.up (D.F.ok scWLead (fun vs H Q E h => ?_) (fun cdv A outer s H vs Q E hr h => ?_))
  · obtain ⟨n, rfl, _⟩ := h
    rfl
  · obtain ⟨n, rfl, n1, n2, k⟩ := h
    have hx : Catches (cxOf CX0 P w K mg base ["whole", "lead", "beyond"] "whole_lead" (defScope sWLead) f cdv A outer s H E).nox EKF := catches0
    refine ⟨_, (pss_cons (ps_join (ps_set (i := 1) scWLead.nd rfl (Or.inl rfl) (pe_op op_fdivK (pe_op op_mulK (pe_op op_sub (pe_bm0 PySem.F.plainAttrs_int PySem.F.slot_int_bit_length PySem.F.type_int_bit_length mt_bit_length (pv 0)) pe_int) pe_int) (pe_op op_pow pe_int pe_int))))
      (pss_cons (ps_join (ps_set (i := 2) scWLead.nd rfl (Or.inl rfl) (pcall D_ten_to G_ten_to hr hx (pa_cons (pe_op op_add (pv 1) pe_int) pa_nil))))
      (pss_cons (ps_join (ps_while PassesOwn.never (pt_cmpR op_le (pv 2) (pv 0) (nomark _)) (pss_cons (ps_aug (i := 1) scWLead.nd rfl (Or.inl rfl) pe_int ip_add)
      (pss_one (ps_set (i := 2) scWLead.nd rfl (Or.inl rfl) (pe_op op_mulK (pv 2) pe_int))))))
      (pss_one (ps_ret (pv 1)))))), ?_⟩
    have mC : ∀ z n : Int, -(2 ^ 64) < n → n < 2 ^ 64 → IntMulOk z n := fun z n a b => CMul.ok (.inr ⟨a, b⟩)
    have pw : CPow 10 9 := ⟨by decide, by decide, by decide⟩
    have l3 : ∀ {L : Nat}, 10 ^ L ≤ n → L < 3000 := fun hL => (Nat.pow_lt_pow_iff_right (by decide : 1 < 10)).mp (Nat.lt_of_le_of_lt hL n2)
    refine ⟨fun σ H' => H' = H ∧ ∃ L : Nat, 10 ^ L ≤ n ∧ σ = [some (.int (n : Int)), some (.int (L : Int)), none], ?_, ?_⟩
    · refine ⟨_, rfl, rfl, _, rfl, rfl, _, _, rfl, rfl, _, _, rfl, rfl, mC _ _ (by decide) (by decide), _, _, rfl, rfl, pw, _, _, rfl, rfl, ⟨by decide, by decide +kernel⟩, rfl, n.log2 * 301029995 / 10 ^ 9, ?_, ?_⟩
      · exact Nat.le_trans (lead_guess _) (Nat.log2_self_le (by omega))
      · have e : (Builtin.Int.intBits (n : Int) : Nat) = n.log2 + 1 := by
          unfold Builtin.Int.intBits
          rw [if_neg (by simp; omega)]
          rfl
        show [some (V.int (n : Int)), some (V.int ((((Builtin.Int.intBits (n : Int) : Nat) : Int) - 1) * 301029995 / (10 ^ Int.toNat 9 : Int))), none] = _
        rw [e, show ((n.log2 + 1 : Nat) : Int) - 1 = (n.log2 : Int) by omega]
        rfl
    rintro σ H' ⟨rfl, L0, hL0, rfl⟩
    refine ⟨fun σ H2 => H2 = H' ∧ ∃ L : Nat, 10 ^ L ≤ n ∧ σ = [some (.int (n : Int)), some (.int (L : Int)), some (.int ((10 ^ (L + 1) : Nat) : Int))], ?_, ?_⟩
    · have := l3 hL0
      exact ⟨_, rfl, _, _, rfl, rfl, L0 + 1, rfl, by omega, rfl, L0, hL0, rfl⟩
    rintro σ H2 ⟨rfl, L1, hL1, rfl⟩
    refine ⟨fun σ H3 => H3 = H2 ∧ ∃ L : Nat, 10 ^ L ≤ n ∧ n < 10 ^ (L + 1) ∧ σ = [some (.int (n : Int)), some (.int (L : Int)), some (.int ((10 ^ (L + 1) : Nat) : Int))], ?_, ?_⟩
    · refine while_by (fun σ H3 => H3 = H2 ∧ ∃ L : Nat, 10 ^ L ≤ n ∧ σ = [some (.int (n : Int)), some (.int (L : Int)), some (.int ((10 ^ (L + 1) : Nat) : Int))]) (fun σ _ => match σ with | [_, some (.int c), _] => n - c.toNat | _ => 0) ?_ ?_ ?_
      · exact ⟨rfl, L1, hL1, rfl⟩
      · rintro σ H3 ⟨rfl, L, hL, rfl⟩
        refine ⟨_, rfl, _, rfl, _, _, rfl, rfl, _, rfl, iteD (fun hle => ?_) (fun hgt => ?_)⟩
        · have hle : 10 ^ (L + 1) ≤ n := Int.ofNat_le.mp hle
          refine ⟨_, rfl, _, _, rfl, rfl, _, rfl, _, _, rfl, rfl, mC _ _ (by decide) (by decide), ⟨rfl, L + 1, hle, ?_⟩, ?_⟩
          · show [some (V.int (n : Int)), some (V.int ((L : Int) + 1)), some (V.int (((10 ^ (L + 1) : Nat) : Int) * 10))] = _
            rw [show ((10 ^ (L + 1) : Nat) : Int) * 10 = ((10 ^ (L + 1 + 1) : Nat) : Int) by rw [Nat.pow_succ 10 (L + 1)]; rfl]
            rfl
          have lt : L + 1 < 10 ^ (L + 1) := Nat.lt_pow_self (by decide)
          show n - ((L : Int) + 1).toNat < n - (L : Int).toNat
          omega
        · have hgt : ¬ 10 ^ (L + 1) ≤ n := fun z => hgt (Int.ofNat_le.mpr z)
          exact ⟨rfl, L, hL, by omega, rfl⟩
      · rintro σ H2 Q1 Q2 hQ ⟨v, e, v2, e4, i2, j2, e5, e6, b, e7, q⟩
        exact ⟨v, e, v2, e4, i2, j2, e5, e6, b, e7, hQ _ _ q⟩
    rintro σ H3 ⟨rfl, L, h1, h2, rfl⟩
    exact ⟨_, rfl, k L h1 h2⟩
end
end TR
set_option Elab.async false
set_option linter.all false
set_option maxRecDepth 100000
set_option maxHeartbeats 4000000
namespace TR
open PySem L2 PySem.W PyProof.Rows
seal PE PS PSs PA PT PW PG PGs PI PO
abbrev sRAtM : Stmt := (inClass (top 6) 2)
abbrev sRFirstM : Stmt := (inClass (top 6) 1)
section
variable {P : Program} {w : World} {K : Frag} {mg : Str → Option Value} {base : Heap}
theorem scRAt : FnScope ["self", "power", "shift", "top", "bottom", "whole"] ["self", "power"] (defScope sRAtM) := ⟨rfl, rfl, rfl, by decide +kernel, rfl, by decide +kernel, by decide +kernel⟩
theorem ok_rAt {f f1 f2 CR CE : Addr} {fd fd1 fd2 : FuncData} (F : Fun K "at" "Ratio.at" sRAtM f fd) (D_ten_to : Def K mg "ten_to" ["count"] sTenTo f1 fd1) (G_ten_to : FnOk P w K mg base (CX1 P w) 2 f1 fd1 ["count"] spTenTo)
    (D_part_of : Def K mg "part_of" ["size", "middle"] sPartOf f2 fd2) (G_part_of : FnOk P w K mg base (CX1 P w) 1 f2 fd2 ["size", "middle"] spPartOf) (R : RatC K mg CR CE) (O : Own mg) : FnOk P w K mg base (CX1 P w) 3 f fd ["self", "power"] (spRAt CR) := by
  refine FnOk.up (F.ok scRAt (fun vs H Q E h => ?_) (fun cdv A outer s H vs Q E hr h => ?_))
  · obtain ⟨x, t, b, n, p, rfl, _⟩ := h
    rfl
  · obtain ⟨x, t, b, n, p, rfl, ⟨dx, e⟩, ht, hb, h1, h2, k⟩ := h
    have hx : Catches (cxOf CX0 P w K mg base ["self", "power", "shift", "top", "bottom", "whole"] "Ratio.at" (defScope sRAtM) f cdv A outer s H E).nox EKF := catches0
    refine ⟨_, (pss_cons (ps_set (i := 2) scRAt.nd rfl (Or.inl rfl) (pe_op op_sub (pe_fld (pv 0) rfl) (pv 1)))
      (pss_cons (ps_set (i := 3) scRAt.nd rfl (Or.inl rfl) (pe_op op_mulK (pe_fld (pv 0) rfl) (pcall D_ten_to G_ten_to hr hx (pa_cons (pe_callB (call_max2 rfl) (by rfl) O.max_ boot_max (pa_cons (pv 2) (pa_cons pe_int pa_nil))) pa_nil))))
      (pss_cons (ps_set (i := 4) scRAt.nd rfl (Or.inl rfl) (pe_op op_mulK (pe_fld (pv 0) rfl) (pcall D_ten_to G_ten_to hr hx (pa_cons (pe_callB (call_max2 rfl) (by rfl) O.max_ boot_max (pa_cons (pe_un un_neg (pv 2)) (pa_cons pe_int pa_nil))) pa_nil))))
      (pss_cons (ps_set (i := 5) scRAt.nd rfl (Or.inl rfl) (pe_op op_fdivK (pv 3) (pv 4)))
      (pss_one (ps_ret (pe_tup (pa_cons (pv 5) (pa_cons (pcall D_part_of G_part_of hr hx (pa_cons (pe_op op_mulK pe_int (pe_op op_sub (pv 3) (pe_op op_mulK (pv 5) (pv 4)))) (pa_cons (pv 4) pa_nil))) pa_nil))))))))), ?_⟩
    have z2 : 2 ≤ sizeLine := line1000 (by decide)
    have mC' : ∀ z n : Int, -(2 ^ 64) < n → n < 2 ^ 64 → IntMulOk n z := fun z n a b => CMul.ok (.inl ⟨a, b⟩)
    have hb0 : 0 < b := by have := hb.1; omega
    refine ⟨_, rfl, x, CR, dx, _, _, rfl, e, R.cl, R.n_power, rat_power _ _ _, _, rfl, _, _, rfl, rfl, ?_⟩
    refine ⟨_, rfl, x, CR, dx, _, _, rfl, e, R.cl, R.n_top, rat_top _ _ _, _, rfl, _, _, rfl, (n - p).toNat, congrArg (fun z => [V.int z]) (maxT (n - p)), by omega, _, _, rfl, rfl, sz_mul ht h2, ?_⟩
    refine ⟨_, rfl, x, CR, dx, _, _, rfl, e, R.cl, R.n_bottom, rat_bottom _ _ _, _, rfl, _, rfl, _, _, rfl, (-(n - p)).toNat, congrArg (fun z => [V.int z]) (maxT (-(n - p))), by omega, _, _, rfl, rfl, sz_mul hb (by omega), ?_⟩
    have lp : 0 < b * tenI (-(n - p)) := Int.mul_pos hb0 (tenI_pos _)
    have ll : (b * tenI (-(n - p))).natAbs.log2 < 9000 := sz_log hb (by omega)
    refine ⟨_, rfl, _, rfl, _, _, rfl, rfl, ⟨lp, ll⟩, ?_⟩
    have lf := wh_left (t := t) (s := n - p) hb0
    refine ⟨_, rfl, _, rfl, _, rfl, _, rfl, _, _, rfl, rfl, wh_ok ht hb h1 h2, _, _, rfl, rfl, _, _, rfl, rfl, mC' _ _ (by decide) (by decide), _, rfl, _, _, rfl, lf.1, lp, z2, fun q nq => k q _ (Same.upd nq) nq upd_same⟩
end
end TR
set_option Elab.async false
set_option linter.all false
set_option maxRecDepth 100000
set_option maxHeartbeats 4000000
namespace TR
open PySem L2 PySem.W PyProof.Rows
seal PE PS PSs PA PT PW PG PGs PI PO
theorem lead_a {t b L M u v : Nat} (h : L + u = M + v) (t2 : t < 10 ^ (L + 1)) (b1 : 10 ^ M ≤ b) : t * 10 ^ u < 10 * (b * 10 ^ v) := by
  have p : 0 < 10 ^ u := Nat.pow_pos (by decide)
  calc t * 10 ^ u < 10 ^ (L + 1) * 10 ^ u := Nat.mul_lt_mul_of_pos_right t2 p
    _ = 10 * (10 ^ M * 10 ^ v) := by rw [← Nat.pow_add, ← Nat.pow_add, ← h, show L + 1 + u = (L + u) + 1 by omega, Nat.pow_succ, Nat.mul_comm]
    _ ≤ 10 * (b * 10 ^ v) := Nat.mul_le_mul_left 10 (Nat.mul_le_mul_right _ b1)
theorem lead_b {t b L M u v : Nat} (h : L + u = M + 1 + v) (t1 : 10 ^ L ≤ t) (b2 : b < 10 ^ (M + 1)) : b * 10 ^ v ≤ t * 10 ^ u := by
  calc b * 10 ^ v ≤ 10 ^ (M + 1) * 10 ^ v := Nat.mul_le_mul_right _ (Nat.le_of_lt b2)
    _ = 10 ^ L * 10 ^ u := by rw [← Nat.pow_add, ← Nat.pow_add, h]
    _ ≤ t * 10 ^ u := Nat.mul_le_mul_right _ t1
theorem lead_here {t b L M : Nat} (t1 : 10 ^ L ≤ t) (t2 : t < 10 ^ (L + 1)) (b1 : 10 ^ M ≤ b) (b2 : b < 10 ^ (M + 1)) (h : (b : Int) * tenI (-((M : Int) - L)) ≤ (t : Int) * tenI ((M : Int) - L)) : Lead0 t b ((M : Int) - L) := by
  refine ⟨h, ?_⟩
  unfold tenI
  have := lead_a (t := t) (b := b) (L := L) (M := M) (u := ((M : Int) - L).toNat) (v := (-((M : Int) - L)).toNat) (by omega) t2 b1
  exact Int.ofNat_lt.mpr this
theorem lead_below {t b L M : Nat} (t1 : 10 ^ L ≤ t) (t2 : t < 10 ^ (L + 1)) (b1 : 10 ^ M ≤ b) (b2 : b < 10 ^ (M + 1)) (h : (t : Int) * tenI ((M : Int) - L) < (b : Int) * tenI (-((M : Int) - L))) : Lead0 t b ((M : Int) - L + 1) := by
  refine ⟨?_, ?_⟩
  · unfold tenI
    have := lead_b (t := t) (b := b) (L := L) (M := M) (u := ((M : Int) - L + 1).toNat) (v := (-((M : Int) - L + 1)).toNat) (by omega) t1 b2
    exact Int.ofNat_le.mpr this
  · have hb : 0 < (b : Int) := by have : 0 < 10 ^ M := Nat.pow_pos (by decide)
                                  omega
    generalize (M : Int) - L = s at h
    have c := tenI_cross (s := s) (r := s + 1) (by omega)
    have e1 : tenI (s + 1 - s) = 10 := by rw [show s + 1 - s = 1 by omega]; rfl
    rw [e1] at c
    have l := Int.mul_pos hb (tenI_pos (-s))
    have l' := Int.mul_pos hb (tenI_pos (-(s + 1)))
    have e : (t : Int) * tenI (s + 1) * ((b : Int) * tenI (-s)) = (t : Int) * tenI s * ((b : Int) * tenI (-(s + 1))) * 10 := by
      calc (t : Int) * tenI (s + 1) * ((b : Int) * tenI (-s)) = t * b * (tenI (s + 1) * tenI (-s)) := by ac_rfl
        _ = t * b * (tenI s * tenI (-(s + 1)) * 10) := by rw [c]
        _ = (t : Int) * tenI s * ((b : Int) * tenI (-(s + 1))) * 10 := by ac_rfl
    have a : (t : Int) * tenI s * ((b : Int) * tenI (-(s + 1))) < (b : Int) * tenI (-s) * ((b : Int) * tenI (-(s + 1))) := Int.mul_lt_mul_of_pos_right h l'
    have a2 : (t : Int) * tenI (s + 1) * ((b : Int) * tenI (-s)) < 10 * ((b : Int) * tenI (-(s + 1))) * ((b : Int) * tenI (-s)) := by
      rw [e, show 10 * ((b : Int) * tenI (-(s + 1))) * ((b : Int) * tenI (-s)) = (b : Int) * tenI (-s) * ((b : Int) * tenI (-(s + 1))) * 10 by ac_rfl]
      exact Int.mul_lt_mul_of_pos_right a (by decide)
    exact Int.lt_of_mul_lt_mul_right a2 (Int.le_of_lt l)
section
variable {P : Program} {w : World} {K : Frag} {mg : Str → Option Value} {base : Heap}
theorem scRFirst : FnScope ["self", "guess"] ["self"] (defScope sRFirstM) := ⟨rfl, rfl, rfl, by decide +kernel, rfl, by decide +kernel, by decide +kernel⟩
theorem ok_rFirst {f f1 f2 CR CE : Addr} {fd fd1 fd2 : FuncData} (F : Fun K "first" "Ratio.first" sRFirstM f fd) (D_whole_lead : Def K mg "whole_lead" ["whole"] sWLead f1 fd1) (G_whole_lead : FnOk P w K mg base (CX1 P w) 3 f1 fd1 ["whole"] spWLead)
    (MA : Meth K CR "at" f2) (GA : FnOk P w K mg base (CX1 P w) 3 f2 fd2 ["self", "power"] (spRAt CR)) (BA : Binds K fd2 ["self", "power"] []) (R : RatC K mg CR CE) : FnOk P w K mg base (CX1 P w) 4 f fd ["self"] (spRFirst CR) := by
  refine FnOk.up (F.ok scRFirst (fun vs H Q E h => ?_) (fun cdv A outer s H vs Q E hr h => ?_))
  · obtain ⟨x, t, b, n, rfl, _⟩ := h
    rfl
  · obtain ⟨x, t, b, n, rfl, ra, ht, hb, k⟩ := h
    have hx : Catches (cxOf CX0 P w K mg base ["self", "guess"] "Ratio.first" (defScope sRFirstM) f cdv A outer s H E).nox EKF := catches0
    refine ⟨_, (pss_cons (ps_set (i := 1) scRFirst.nd rfl (Or.inl rfl) (pe_op op_add (pe_op op_sub (pcall D_whole_lead G_whole_lead hr hx (pa_cons (pe_fld (pv 0) rfl) pa_nil)) (pcall D_whole_lead G_whole_lead hr hx (pa_cons (pe_fld (pv 0) rfl) pa_nil))) (pe_fld (pv 0) rfl)))
      (pss_one (ps_ret (pe_ifExp (pt_cmpR op_gt (pe_ix ix_tup (pmeth (pv 0) R.cl MA GA hr BA .nil hx (pa_cons (pv 1) pa_nil)) pe_int (fun _ _ => rfl)) pe_int (nomark _)) (pv 1) (pe_op op_sub (pv 1) pe_int))))), ?_⟩
    obtain ⟨tn, rfl, ta, tb⟩ := ht.nat
    obtain ⟨bn, rfl, ba, bb⟩ := hb.nat
    obtain ⟨dx, e⟩ := id ra
    have p30 : (10 : Nat) ^ 1000 < 10 ^ 3000 := Nat.pow_lt_pow_right (by decide) (by decide)
    have p30' : ∀ {L m : Nat}, 10 ^ L ≤ m → m < 10 ^ 1000 → L < 1000 := fun h1 h2 => (Nat.pow_lt_pow_iff_right (by decide : 1 < 10)).mp (Nat.lt_of_le_of_lt h1 h2)
    refine ⟨_, rfl, x, CR, dx, _, _, rfl, e, R.cl, R.n_top, rat_top _ _ _, tn, rfl, ta, Nat.lt_trans tb p30, fun L L1 L2 => ?_⟩
    refine ⟨_, rfl, x, CR, dx, _, _, rfl, e, R.cl, R.n_bottom, rat_bottom _ _ _, bn, rfl, ba, Nat.lt_trans bb p30, fun M' M1 M2 => ?_⟩
    have l30 := p30' L1 tb
    have m30 := p30' M1 bb
    refine ⟨_, _, rfl, rfl, _, rfl, x, CR, dx, _, _, rfl, e, R.cl, R.n_power, rat_power _ _ _, _, _, rfl, rfl, ?_⟩
    have es : n - ((L : Int) - M' + n) = (M' : Int) - L := by omega
    refine ⟨_, rfl, x, dx, _, rfl, e, rat_no_at _ _ _, _, rfl, x, tn, bn, n, _, rfl, ra, ht, hb, by omega, by omega, fun q H1 s1 nq hq => ?_⟩
    rw [es] at hq
    refine ⟨q, _, 0, _, rfl, rfl, SqT.of hq, atI_nat (j := 0) rfl, _, _, rfl, rfl, _, rfl, ?_⟩
    have lp : 0 < (bn : Int) * tenI (-((M' : Int) - L)) := Int.mul_pos (by omega) (tenI_pos _)
    refine iteD (fun hg => ?_) (fun hg => ?_)
    · have hle : (bn : Int) * tenI (-((M' : Int) - L)) ≤ (tn : Int) * tenI ((M' : Int) - L) := by
        have := (Int.le_ediv_iff_mul_le lp).mp (show (1 : Int) ≤ (tn : Int) * tenI ((M' : Int) - L) / ((bn : Int) * tenI (-((M' : Int) - L))) from hg)
        omega
      refine ⟨_, rfl, k _ H1 s1 ?_⟩
      rw [es]
      exact lead_here L1 L2 M1 M2 hle
    · have hlt : (tn : Int) * tenI ((M' : Int) - L) < (bn : Int) * tenI (-((M' : Int) - L)) := by
        apply Classical.byContradiction
        intro z
        exact hg ((Int.le_ediv_iff_mul_le lp).mpr (by omega))
      refine ⟨_, rfl, _, _, rfl, rfl, k _ H1 s1 ?_⟩
      rw [show n - ((L : Int) - M' + n - 1) = (M' : Int) - L + 1 by omega]
      exact lead_below L1 L2 M1 M2 hlt
end
end TR
set_option Elab.async false
set_option linter.all false
set_option maxRecDepth 100000
set_option maxHeartbeats 4000000
namespace TR
open PySem L2 PySem.W PyProof.Rows
seal PE PS PSs PA PT PW PG PGs PI PO
/-- the eight ways -/
inductive Wy where
  | down
  | up
  | floor
  | ceiling
  | halfUp
  | halfDown
  | halfEven
  | fiveUp
def Wy.name : Wy → Str
  | .down => "down"
  | .up => "up"
  | .floor => "floor"
  | .ceiling => "ceiling"
  | .halfUp => "half up"
  | .halfDown => "half down"
  | .halfEven => "half even"
  | .fiveUp => "five up"
def Wy.cls : Wy → Str
  | .down => "Down"
  | .up => "Up"
  | .floor => "Floor"
  | .ceiling => "Ceiling"
  | .halfUp => "HalfUp"
  | .halfDown => "HalfDown"
  | .halfEven => "HalfEven"
  | .fiveUp => "FiveUp"
theorem Wy.inj {a b : Wy} (h : a.name = b.name) : a = b := by
  cases a <;> cases b <;> first | rfl | exact absurd h (by decide +kernel)
/-- a class of a way -/
structure WayC (K : Frag) (mg : Str → Option Value) (x : Str) (C CW : Addr) : Prop where
  g : mg x = some (.ref C)
  cl : Cls K C
  mk0 : Mk0 K C
  ca : findIn K (.ref C) "__class__" = some (some (.builtin "object.__class__"))
  sn : specialIn K (.builtin "object.__class__") "__get__" = some (some (.builtin "getset_descriptor.__get__"))
  tk : takesIn K (.builtin "object.__class__") = some true
  ob : mroIn K C (.type "object") = some true
  up : kitOne K (.ref C) (.ref CW) = some true
theorem WayC.ty {K : Frag} {mg : Str → Option Value} {x : Str} {C CW : Addr} (W : WayC K mg x C CW) {H : Hp} {n dx : Addr} {fs : List (Str × V)} (h : H n = some (.ins C dx fs)) : TyE K H (.ref n) (.ref C) := .of (.ins h W.cl W.ca W.sn W.tk W.ob)
section
variable {P : Program} {w : World} {K : Frag} {mg : Str → Option Value} {base : Heap}
def spName (s : Str) : Sp := fun vs H Q _ => ∃ p, vs = [.ref p] ∧ Q (.str s) H
/-- its method name -/
def WayN (P : Program) (w : World) (K : Frag) (mg : Str → Option Value) (base : Heap) (C : Addr) (s : Str) : Prop := Has P w K mg base C "name" 1 ["self"] (spName s)
abbrev sN0 : Stmt := (inClass (top 53) 0)
theorem scN0 : FnScope ["self"] ["self"] (defScope sN0) := ⟨rfl, rfl, rfl, by decide +kernel, rfl, by decide +kernel, by decide +kernel⟩
theorem ok_n0 {f : Addr} {fd : FuncData} (F : Fun K "name" "Down.name" sN0 f fd) : FnOk P w K mg base (CX1 P w) 1 f fd ["self"] (spName "down") := by
  refine FnOk.up (F.ok scN0 (fun vs H Q E h => ?_) (fun cdv A outer s H vs Q E hr h => ?_))
  · obtain ⟨p, rfl, _⟩ := h
    rfl
  · obtain ⟨p, rfl, k⟩ := h
    exact ⟨_, pss_one (ps_ret pe_str), k⟩
abbrev sN1 : Stmt := (inClass (top 54) 0)
theorem scN1 : FnScope ["self"] ["self"] (defScope sN1) := ⟨rfl, rfl, rfl, by decide +kernel, rfl, by decide +kernel, by decide +kernel⟩
theorem ok_n1 {f : Addr} {fd : FuncData} (F : Fun K "name" "Up.name" sN1 f fd) : FnOk P w K mg base (CX1 P w) 1 f fd ["self"] (spName "up") := by
  refine FnOk.up (F.ok scN1 (fun vs H Q E h => ?_) (fun cdv A outer s H vs Q E hr h => ?_))
  · obtain ⟨p, rfl, _⟩ := h
    rfl
  · obtain ⟨p, rfl, k⟩ := h
    exact ⟨_, pss_one (ps_ret pe_str), k⟩
abbrev sN2 : Stmt := (inClass (top 55) 0)
theorem scN2 : FnScope ["self"] ["self"] (defScope sN2) := ⟨rfl, rfl, rfl, by decide +kernel, rfl, by decide +kernel, by decide +kernel⟩
theorem ok_n2 {f : Addr} {fd : FuncData} (F : Fun K "name" "Floor.name" sN2 f fd) : FnOk P w K mg base (CX1 P w) 1 f fd ["self"] (spName "floor") := by
  refine FnOk.up (F.ok scN2 (fun vs H Q E h => ?_) (fun cdv A outer s H vs Q E hr h => ?_))
  · obtain ⟨p, rfl, _⟩ := h
    rfl
  · obtain ⟨p, rfl, k⟩ := h
    exact ⟨_, pss_one (ps_ret pe_str), k⟩
abbrev sN3 : Stmt := (inClass (top 56) 0)
theorem scN3 : FnScope ["self"] ["self"] (defScope sN3) := ⟨rfl, rfl, rfl, by decide +kernel, rfl, by decide +kernel, by decide +kernel⟩
theorem ok_n3 {f : Addr} {fd : FuncData} (F : Fun K "name" "Ceiling.name" sN3 f fd) : FnOk P w K mg base (CX1 P w) 1 f fd ["self"] (spName "ceiling") := by
  refine FnOk.up (F.ok scN3 (fun vs H Q E h => ?_) (fun cdv A outer s H vs Q E hr h => ?_))
  · obtain ⟨p, rfl, _⟩ := h
    rfl
  · obtain ⟨p, rfl, k⟩ := h
    exact ⟨_, pss_one (ps_ret pe_str), k⟩
abbrev sN4 : Stmt := (inClass (top 57) 0)
theorem scN4 : FnScope ["self"] ["self"] (defScope sN4) := ⟨rfl, rfl, rfl, by decide +kernel, rfl, by decide +kernel, by decide +kernel⟩
theorem ok_n4 {f : Addr} {fd : FuncData} (F : Fun K "name" "HalfUp.name" sN4 f fd) : FnOk P w K mg base (CX1 P w) 1 f fd ["self"] (spName "half up") := by
  refine FnOk.up (F.ok scN4 (fun vs H Q E h => ?_) (fun cdv A outer s H vs Q E hr h => ?_))
  · obtain ⟨p, rfl, _⟩ := h
    rfl
  · obtain ⟨p, rfl, k⟩ := h
    exact ⟨_, pss_one (ps_ret pe_str), k⟩
abbrev sN5 : Stmt := (inClass (top 58) 0)
theorem scN5 : FnScope ["self"] ["self"] (defScope sN5) := ⟨rfl, rfl, rfl, by decide +kernel, rfl, by decide +kernel, by decide +kernel⟩
theorem ok_n5 {f : Addr} {fd : FuncData} (F : Fun K "name" "HalfDown.name" sN5 f fd) : FnOk P w K mg base (CX1 P w) 1 f fd ["self"] (spName "half down") := by
  refine FnOk.up (F.ok scN5 (fun vs H Q E h => ?_) (fun cdv A outer s H vs Q E hr h => ?_))
  · obtain ⟨p, rfl, _⟩ := h
    rfl
  · obtain ⟨p, rfl, k⟩ := h
    exact ⟨_, pss_one (ps_ret pe_str), k⟩
abbrev sN6 : Stmt := (inClass (top 59) 0)
theorem scN6 : FnScope ["self"] ["self"] (defScope sN6) := ⟨rfl, rfl, rfl, by decide +kernel, rfl, by decide +kernel, by decide +kernel⟩
theorem ok_n6 {f : Addr} {fd : FuncData} (F : Fun K "name" "HalfEven.name" sN6 f fd) : FnOk P w K mg base (CX1 P w) 1 f fd ["self"] (spName "half even") := by
  refine FnOk.up (F.ok scN6 (fun vs H Q E h => ?_) (fun cdv A outer s H vs Q E hr h => ?_))
  · obtain ⟨p, rfl, _⟩ := h
    rfl
  · obtain ⟨p, rfl, k⟩ := h
    exact ⟨_, pss_one (ps_ret pe_str), k⟩
abbrev sN7 : Stmt := (inClass (top 60) 0)
theorem scN7 : FnScope ["self"] ["self"] (defScope sN7) := ⟨rfl, rfl, rfl, by decide +kernel, rfl, by decide +kernel, by decide +kernel⟩
theorem ok_n7 {f : Addr} {fd : FuncData} (F : Fun K "name" "FiveUp.name" sN7 f fd) : FnOk P w K mg base (CX1 P w) 1 f fd ["self"] (spName "five up") := by
  refine FnOk.up (F.ok scN7 (fun vs H Q E h => ?_) (fun cdv A outer s H vs Q E hr h => ?_))
  · obtain ⟨p, rfl, _⟩ := h
    rfl
  · obtain ⟨p, rfl, k⟩ := h
    exact ⟨_, pss_one (ps_ret pe_str), k⟩
/-- no name of a way -/
def NoWay (K : Frag) (H : Hp) (v : V) : Prop := ∃ t b, TyE K H v t ∧ kitOne K t (.type "str") = some b ∧ (b = false ∨ ∃ z, v = .str z ∧ ∀ y : Wy, z ≠ y.name)
theorem NoWay.same {H H' : Hp} {v : V} (h : NoWay K H v) (e : Same H H') : NoWay K H' v := by
  obtain ⟨t, b, ty, r⟩ := h
  exact ⟨t, b, TyE.same ty e, r⟩
theorem newIns {C : Addr} {σ : L2.St} {H : Hp} {Q : VK} (k : ∀ p dx H', H p = none → Same H H' → H' p = some (.ins C dx []) → Q (.ref p) H') : tNew C σ H Q := fun x dx n1 n2 ne =>
  k x dx _ n1 ((Same.upd n2).trans (Same.upd (by rw [upd_ne (Ne.symm ne)]; exact n1))) upd_same
abbrev sWayOf : Stmt := (top 61)
def spWayOf (K : Frag) (CB : Addr) (cw : Wy → Addr) : Sp := fun vs H Q E => ∃ v, vs = [v] ∧ ((∃ y : Wy, v = .str y.name ∧ ∀ p dx H', H p = none → Same H H' → H' p = some (.ins (cw y) dx []) → Q (.ref p) H') ∨ (NoWay K H v ∧ E (.ref CB) none H))
theorem scWayOf : FnScope ["name"] ["name"] (defScope sWayOf) := ⟨rfl, rfl, rfl, by decide +kernel, rfl, by decide +kernel, by decide +kernel⟩
theorem ok_wayOf {f CB CW : Addr} {cw : Wy → Addr} {fd : FuncData} (D : Def K mg "way_of" ["name"] sWayOf f fd) (O : Own mg) (T : Kit K) (B : Err K mg "BadContext" CB) (W : ∀ y : Wy, WayC K mg y.cls (cw y) CW) :
    FnOk P w K mg base (CX1 P w) 1 f fd ["name"] (spWayOf K CB cw) := by
  refine D.F.okE scWayOf (fun vs H Q E h => ?_) (fun X cdv A outer s H vs Q E hX hr hx h => ?_)
  · obtain ⟨v, rfl, _⟩ := h
    rfl
  · subst hX
    obtain ⟨v, rfl, h⟩ := h
    refine ⟨_, (pss_cons (ps_if (pt_not (pt_val (pisi O.isi (pv 0) (pty O.str_ boot_str)))) (pss_one (ps_raise (by rfl) B.g B.q PySem.F.excBase_ValueError hr.hd hx (pa_cons pe_str pa_nil))) pss_nil)
      (pss_cons (ps_if (pt_cmpR op_eq (pv 0) pe_str (nomark _)) (pss_one (ps_ret (pe_new (W .down).mk0 rfl (W .down).g))) pss_nil)
      (pss_cons (ps_if (pt_cmpR op_eq (pv 0) pe_str (nomark _)) (pss_one (ps_ret (pe_new (W .up).mk0 rfl (W .up).g))) pss_nil)
      (pss_cons (ps_if (pt_cmpR op_eq (pv 0) pe_str (nomark _)) (pss_one (ps_ret (pe_new (W .floor).mk0 rfl (W .floor).g))) pss_nil)
      (pss_cons (ps_if (pt_cmpR op_eq (pv 0) pe_str (nomark _)) (pss_one (ps_ret (pe_new (W .ceiling).mk0 rfl (W .ceiling).g))) pss_nil)
      (pss_cons (ps_if (pt_cmpR op_eq (pv 0) pe_str (nomark _)) (pss_one (ps_ret (pe_new (W .halfUp).mk0 rfl (W .halfUp).g))) pss_nil)
      (pss_cons (ps_if (pt_cmpR op_eq (pv 0) pe_str (nomark _)) (pss_one (ps_ret (pe_new (W .halfDown).mk0 rfl (W .halfDown).g))) pss_nil)
      (pss_cons (ps_if (pt_cmpR op_eq (pv 0) pe_str (nomark _)) (pss_one (ps_ret (pe_new (W .halfEven).mk0 rfl (W .halfEven).g))) pss_nil)
      (pss_cons (ps_if (pt_cmpR op_eq (pv 0) pe_str (nomark _)) (pss_one (ps_ret (pe_new (W .fiveUp).mk0 rfl (W .fiveUp).g))) pss_nil)
      (pss_one (ps_raise (by rfl) B.g B.q PySem.F.excBase_ValueError hr.hd hx (pa_cons pe_str pa_nil)))))))))))), ?_⟩
    have z1 : 1 ≤ sizeLine := line1000 (by decide)
    rcases h with ⟨y, rfl, k⟩ | ⟨⟨t, b, ty, kk, bad⟩, k⟩
    · refine ⟨_, rfl, _, _, _, _, true, rfl, rfl, tyStr _, T.str_str, _, rfl, iteF ?_⟩
      refine ⟨_, rfl, rfl, _, rfl, iteD (fun e => ?_) (fun n0 => ?_)⟩
      · have q : y = .down := Wy.inj (V.str.inj (e : V.str y.name = V.str (Wy.name .down)))
        subst q
        exact newIns k
      refine ⟨_, rfl, rfl, _, rfl, iteD (fun e => ?_) (fun n1 => ?_)⟩
      · have q : y = .up := Wy.inj (V.str.inj (e : V.str y.name = V.str (Wy.name .up)))
        subst q
        exact newIns k
      refine ⟨_, rfl, rfl, _, rfl, iteD (fun e => ?_) (fun n2 => ?_)⟩
      · have q : y = .floor := Wy.inj (V.str.inj (e : V.str y.name = V.str (Wy.name .floor)))
        subst q
        exact newIns k
      refine ⟨_, rfl, rfl, _, rfl, iteD (fun e => ?_) (fun n3 => ?_)⟩
      · have q : y = .ceiling := Wy.inj (V.str.inj (e : V.str y.name = V.str (Wy.name .ceiling)))
        subst q
        exact newIns k
      refine ⟨_, rfl, rfl, _, rfl, iteD (fun e => ?_) (fun n4 => ?_)⟩
      · have q : y = .halfUp := Wy.inj (V.str.inj (e : V.str y.name = V.str (Wy.name .halfUp)))
        subst q
        exact newIns k
      refine ⟨_, rfl, rfl, _, rfl, iteD (fun e => ?_) (fun n5 => ?_)⟩
      · have q : y = .halfDown := Wy.inj (V.str.inj (e : V.str y.name = V.str (Wy.name .halfDown)))
        subst q
        exact newIns k
      refine ⟨_, rfl, rfl, _, rfl, iteD (fun e => ?_) (fun n6 => ?_)⟩
      · have q : y = .halfEven := Wy.inj (V.str.inj (e : V.str y.name = V.str (Wy.name .halfEven)))
        subst q
        exact newIns k
      refine ⟨_, rfl, rfl, _, rfl, iteD (fun e => ?_) (fun n7 => ?_)⟩
      · have q : y = .fiveUp := Wy.inj (V.str.inj (e : V.str y.name = V.str (Wy.name .fiveUp)))
        subst q
        exact newIns k
      cases y with
      | down => exact absurd rfl n0
      | up => exact absurd rfl n1
      | floor => exact absurd rfl n2
      | ceiling => exact absurd rfl n3
      | halfUp => exact absurd rfl n4
      | halfDown => exact absurd rfl n5
      | halfEven => exact absurd rfl n6
      | fiveUp => exact absurd rfl n7
    · refine ⟨_, rfl, _, _, _, _, b, rfl, rfl, ty, kk, _, rfl, ?_⟩
      cases b with
      | false => exact iteT ⟨z1, k⟩
      | true =>
        obtain ⟨z, rfl, nz⟩ := bad.resolve_left (by decide)
        refine iteF ?_
        refine ⟨_, rfl, rfl, _, rfl, iteD (fun e => absurd (V.str.inj e) (nz .down)) (fun n0 => ?_)⟩
        refine ⟨_, rfl, rfl, _, rfl, iteD (fun e => absurd (V.str.inj e) (nz .up)) (fun n1 => ?_)⟩
        refine ⟨_, rfl, rfl, _, rfl, iteD (fun e => absurd (V.str.inj e) (nz .floor)) (fun n2 => ?_)⟩
        refine ⟨_, rfl, rfl, _, rfl, iteD (fun e => absurd (V.str.inj e) (nz .ceiling)) (fun n3 => ?_)⟩
        refine ⟨_, rfl, rfl, _, rfl, iteD (fun e => absurd (V.str.inj e) (nz .halfUp)) (fun n4 => ?_)⟩
        refine ⟨_, rfl, rfl, _, rfl, iteD (fun e => absurd (V.str.inj e) (nz .halfDown)) (fun n5 => ?_)⟩
        refine ⟨_, rfl, rfl, _, rfl, iteD (fun e => absurd (V.str.inj e) (nz .halfEven)) (fun n6 => ?_)⟩
        refine ⟨_, rfl, rfl, _, rfl, iteD (fun e => absurd (V.str.inj e) (nz .fiveUp)) (fun n7 => ?_)⟩
        exact ⟨z1, k⟩
end
end TR
set_option Elab.async false
set_option linter.all false
set_option maxRecDepth 100000
set_option maxHeartbeats 4000000
namespace TR
open PySem L2 PySem.W PyProof.Rows
seal PE PS PSs PA PT PW PG PGs PI PO
def sigS : List Str := ["void", "split", "burst", "sunk", "faint", "off", "cut"]
def sigV : List V := sigS.map V.str
end TR
set_option Elab.async false
set_option linter.all false
set_option maxRecDepth 100000
set_option maxHeartbeats 4000000
namespace TR
open PySem L2 PySem.W PyProof.Rows
seal PE PS PSs PA PT PW PG PGs PI PO
/-- the tuple SIGNALS -/
structure SigK (K : Frag) (mg : Str → Option Value) (aS : Addr) : Prop where
  g : mg "SIGNALS" = some (.ref aS)
  ty : ∃ o, K.lookup aS = some o ∧ o.cls = .type "tuple"
  sq : ∀ H, SqT K H aS sigV
end TR
set_option Elab.async false
set_option linter.all false
set_option maxRecDepth 100000
set_option maxHeartbeats 4000000
namespace TR
open PySem L2 PySem.W PyProof.Rows
seal PE PS PSs PA PT PW PG PGs PI PO
abbrev sNeedS : Stmt := (top 66)
section
variable {P : Program} {w : World} {K : Frag} {mg : Str → Option Value} {base : Heap}
/-- no signal's name -/
def BadS (K : Frag) (H : Hp) (x : V) : Prop := ∃ t b, TyE K H x t ∧ kitOne K t (.type "str") = some b ∧ (b = false ∨ ∃ z, x = .str z ∧ z ∉ sigS)
theorem BadS.same {H H' : Hp} {x : V} (h : BadS K H x) (e : Same H H') : BadS K H' x := by
  obtain ⟨t, b, ty, r⟩ := h
  exact ⟨t, b, TyE.same ty e, r⟩
/-- no list of signals' names -/
def NoSigs (K : Frag) (H : Hp) (v : V) : Prop := (∃ t, TyE K H v t ∧ kitOne K t (.type "list") = some false) ∨ (∃ (p : Addr) (zs : List Str) (x : V) (r : List V), v = .ref p ∧ H p = some (.lst (zs.map V.str ++ x :: r)) ∧ (∀ z ∈ zs, z ∈ sigS) ∧ BadS K H x)
theorem NoSigs.same {H H' : Hp} {x : V} (h : NoSigs K H x) (e : Same H H') : NoSigs K H' x := by
  rcases h with ⟨t, ty, r⟩ | ⟨p, zs, x, r, h1, h2, h3, h4⟩
  · exact .inl ⟨t, TyE.same ty e, r⟩
  · exact .inr ⟨p, zs, x, r, h1, e _ _ h2, h3, h4.same e⟩
def spNeedS (K : Frag) (CB : Addr) : Sp := fun vs H Q E => ∃ v, vs = [v] ∧ ((∃ (p : Addr) (zs : List Str), v = .ref p ∧ H p = some (.lst (zs.map V.str)) ∧ (∀ z ∈ zs, z ∈ sigS) ∧ Q .non H) ∨ (NoSigs K H v ∧ E (.ref CB) none H))
theorem scNeedS : FnScope ["names", "name"] ["names"] (defScope sNeedS) := ⟨rfl, rfl, rfl, by decide +kernel, rfl, by decide +kernel, by decide +kernel⟩
theorem ok_needS {f CB aS : Addr} {fd : FuncData} (D : Def K mg "need_signals" ["names"] sNeedS f fd) (O : Own mg) (T : Kit K) (B : Err K mg "BadContext" CB) (SG : SigK K mg aS) : FnOk P w K mg base (CX1 P w) 1 f fd ["names"] (spNeedS K CB) := by
  refine D.F.okE scNeedS (fun vs H Q E h => ?_) (fun X cdv A outer s H vs Q E hX hr hx h => ?_)
  · obtain ⟨v, rfl, _⟩ := h
    rfl
  · subst hX
    obtain ⟨v, rfl, h⟩ := h
    refine ⟨_, (pss_cons (ps_if (pt_not (pt_val (pisi O.isi (pv 0) (pty O.list_ boot_list)))) (pss_one (ps_raise (by rfl) B.g B.q PySem.F.excBase_ValueError hr.hd hx (pa_cons pe_str pa_nil))) pss_nil)
      (pss_one (ps_for PassesOwn.leaving rfl (pi_list (pv 0)) (pg_name (i := 1) scNeedS.nd rfl (Or.inl rfl)) (pss_one (ps_if (PW.pt (pw_or (pt_not (pt_val (pisi O.isi (pv 1) (pty O.str_ boot_str)))) (pw_or1 (pt_cmpR op_notIn_seq (pv 1) (pcls SG.g) (by rfl))))) (pss_one (ps_raise (by rfl) B.g B.q PySem.F.excBase_ValueError hr.hd hx (pa_cons pe_str pa_nil))) pss_nil))))), ?_⟩
    have z1 : 1 ≤ sizeLine := line1000 (by decide)
    rcases h with ⟨p, zs, rfl, hp, hz, k⟩ | ⟨(⟨t, ty, kk⟩ | ⟨p, zs, x, r, rfl, hp, hz, t, b, ty, kk, bad⟩), k⟩
    · refine ⟨_, rfl, _, _, _, _, true, rfl, rfl, tyLst hp, T.list_list, _, rfl, iteF ?_⟩
      refine ⟨_, rfl, p, rfl, ⟨_, SqL.of hp⟩, for_list (xs := zs.map V.str) (fun i σ H' => H' = H ∧ ∃ v, σ = [some (.ref p), v]) ⟨rfl, none, rfl⟩ ?_ ?_ ?_⟩
      · rintro i σ H' _ ⟨rfl, _⟩
        exact SqL.of hp
      · rintro i x σ H' hi ⟨rfl, v, rfl⟩
        obtain ⟨z, hzm, rfl⟩ := List.mem_map.mp (List.mem_of_getElem? hi)
        refine ⟨_, rfl, _, _, _, _, true, rfl, rfl, tyStr _, T.str_str, _, rfl, iteF ?_⟩
        refine ⟨_, rfl, aS, sigV, rfl, .inr (SG.sq _), rfl, flat_strs _, _, rfl, ?_⟩
        have e : inV (.str z) sigV = true := by
          show inV (.str z) (sigS.map V.str) = true
          rw [inV_str]
          simpa using hz z hzm
        rw [e]
        exact iteF ⟨rfl, _, rfl⟩
      · rintro σ H' ⟨rfl, v, rfl⟩
        exact k
    · exact ⟨_, rfl, _, _, _, _, false, rfl, rfl, ty, kk, _, rfl, iteT ⟨z1, k⟩⟩
    · refine ⟨_, rfl, _, _, _, _, true, rfl, rfl, tyLst hp, T.list_list, _, rfl, iteF ?_⟩
      refine ⟨_, rfl, p, rfl, ⟨_, SqL.of hp⟩, for_list (xs := zs.map V.str ++ x :: r) (fun i σ H' => H' = H ∧ i ≤ zs.length ∧ ∃ v, σ = [some (.ref p), v]) ⟨rfl, Nat.zero_le _, none, rfl⟩ ?_ ?_ ?_⟩
      · rintro i σ H' _ ⟨rfl, _⟩
        exact SqL.of hp
      · rintro i y σ H' hi ⟨rfl, hl, v, rfl⟩
        by_cases hlt : i < zs.length
        · rw [List.getElem?_append_left (by simpa using hlt)] at hi
          obtain ⟨z, hzm, rfl⟩ := List.mem_map.mp (List.mem_of_getElem? hi)
          refine ⟨_, rfl, _, _, _, _, true, rfl, rfl, tyStr _, T.str_str, _, rfl, iteF ?_⟩
          refine ⟨_, rfl, aS, sigV, rfl, .inr (SG.sq _), rfl, flat_strs _, _, rfl, ?_⟩
          have e : inV (.str z) sigV = true := by
            show inV (.str z) (sigS.map V.str) = true
            rw [inV_str]
            simpa using hz z hzm
          rw [e]
          exact iteF ⟨rfl, by omega, _, rfl⟩
        · have e : i = zs.length := by omega
          subst e
          rw [List.getElem?_append_right (by simp)] at hi
          simp at hi
          subst hi
          refine ⟨_, rfl, _, _, _, _, b, rfl, rfl, ty, kk, _, rfl, ?_⟩
          cases b with
          | false => exact iteT (iteT ⟨z1, k⟩)
          | true =>
            obtain ⟨z, rfl, nz⟩ := bad.resolve_left (by decide)
            refine iteF ⟨_, rfl, aS, sigV, rfl, .inr (SG.sq _), rfl, flat_strs _, _, rfl, ?_⟩
            have e : inV (.str z) sigV = false := by
              show inV (.str z) (sigS.map V.str) = false
              rw [inV_str]
              simpa using nz
            rw [e]
            exact iteT ⟨z1, k⟩
      · rintro σ H' ⟨rfl, hl, _⟩
        exfalso
        rw [List.length_append, List.length_map, List.length_cons] at hl
        omega
end
end TR
set_option Elab.async false
set_option linter.all false
set_option maxRecDepth 100000
set_option maxHeartbeats 4000000
namespace TR
open PySem L2 PySem.W PyProof.Rows
seal PE PS PSs PA PT PW PG PGs PI PO
abbrev sInOrd : Stmt := (top 67)
section
variable {P : Program} {w : World} {K : Frag} {mg : Str → Option Value} {base : Heap}
/-- the signals among these, in order -/
def ordS (zs : List Str) : List Str := sigS.filter fun z => zs.contains z
def spInOrd (K : Frag) : Sp := fun vs H Q _ => ∃ (p : Addr) (zs : List Str), vs = [.ref p] ∧ SqL K H p (zs.map V.str) ∧ ∀ l H', Same H H' → H l = none → H' l = some (.lst ((ordS zs).map V.str)) → Q (.ref l) H'
theorem scInOrd : FnScope ["names"] ["names"] (defScope sInOrd) := ⟨rfl, rfl, rfl, by decide +kernel, rfl, by decide +kernel, by decide +kernel⟩
theorem ok_inOrd {f aS : Addr} {fd : FuncData} (D : Def K mg "in_order" ["names"] sInOrd f fd) (SG : SigK K mg aS) : FnOk P w K mg base (CX1 P w) 1 f fd ["names"] (spInOrd K) := by
  refine FnOk.up (D.F.ok scInOrd (fun vs H Q E h => ?_) (fun cdv A outer s H vs Q E hr h => ?_))
  · obtain ⟨p, zs, rfl, _⟩ := h
    rfl
  · obtain ⟨p, zs, rfl, hp, k⟩ := h
    refine ⟨_, (pss_one (ps_ret (pe_compF (N := ["name"]) (F := ["names"]) (js := [0]) (CompScopeF.of1 ⟨rfl, by decide +kernel, by decide +kernel, by decide +kernel, by decide +kernel⟩ (by rfl) (by rfl) ⟨_, by rfl⟩ (by rfl) (by rfl)) (.inl hr.hd) (pih_tup (pcls SG.g)) rfl (fun C s₀ H₀ ex pn h => pg_name (i := 0) (by decide +kernel : (["name", "names"] : List Str).Nodup) rfl (Or.inl rfl)) (fun C s₀ H₀ ex pn h => (pt_cmpR (op_in_seqK (K := K) rfl) (pv 0) (pv 1) (by rfl))) (fun C s₀ H₀ ex pn h => (pv 0))))), ?_⟩
    refine comp_tup (zs := sigS) (f := fun z => zs.contains z) (σf := [some (.ref p)]) SG.sq (by decide) (fun z H' Qb sm q => ?_) (fun z H' Qv q => ⟨_, rfl, q⟩) (fun D H' sm nd e => k D H' sm nd e) rfl
    refine ⟨_, rfl, _, rfl, p, _, rfl, .inl (sm.seq hp), rfl, flat_strs _, _, rfl, ?_⟩
    show Qb (inV (.str z) (zs.map V.str)) H'
    rw [inV_str]
    exact q
end
end TR
set_option Elab.async false
set_option linter.all false
set_option maxRecDepth 100000
set_option maxHeartbeats 4000000
namespace TR
open PySem L2 PySem.W PyProof.Rows
seal PE PS PSs PA PT PW PG PGs PI PO
/-! ### the class Context -/
structure CtxC (K : Frag) (mg : Str → Option Value) (CC : Addr) : Prop where
  g : mg "Context" = some (.ref CC)
  cl : Cls K CC
  n_room : NoAttr K CC "room"
  n_rule : NoAttr K CC "rule"
  n_least : NoAttr K CC "least"
  n_most : NoAttr K CC "most"
  n_risen : NoAttr K CC "risen"
  n_trapped : NoAttr K CC "trapped"
def ctxF (r s l m a b : V) : List (Str × V) := putF "trapped" b (putF "risen" a (putF "most" m (putF "least" l (putF "rule" s (putF "room" r [])))))
theorem ctx_lk (r s l m a b : V) (n : Str) : (ctxF r s l m a b).lookup n = if n = "trapped" then some b else if n = "risen" then some a else if n = "most" then some m else if n = "least" then some l else if n = "rule" then some s else if n = "room" then some r else none := by
  unfold ctxF
  rw [lookup_putF, lookup_putF, lookup_putF, lookup_putF, lookup_putF, lookup_putF]
  rfl
theorem ctx_room (r s l m a b : V) : (ctxF r s l m a b).lookup ("room" : Str) = some r := by rw [ctx_lk, if_neg (by decide +kernel), if_neg (by decide +kernel), if_neg (by decide +kernel), if_neg (by decide +kernel), if_neg (by decide +kernel), if_pos rfl]
theorem ctx_rule (r s l m a b : V) : (ctxF r s l m a b).lookup ("rule" : Str) = some s := by rw [ctx_lk, if_neg (by decide +kernel), if_neg (by decide +kernel), if_neg (by decide +kernel), if_neg (by decide +kernel), if_pos rfl]
theorem ctx_least (r s l m a b : V) : (ctxF r s l m a b).lookup ("least" : Str) = some l := by rw [ctx_lk, if_neg (by decide +kernel), if_neg (by decide +kernel), if_neg (by decide +kernel), if_pos rfl]
theorem ctx_most (r s l m a b : V) : (ctxF r s l m a b).lookup ("most" : Str) = some m := by rw [ctx_lk, if_neg (by decide +kernel), if_neg (by decide +kernel), if_pos rfl]
theorem ctx_risen (r s l m a b : V) : (ctxF r s l m a b).lookup ("risen" : Str) = some a := by rw [ctx_lk, if_neg (by decide +kernel), if_pos rfl]
theorem ctx_trapped (r s l m a b : V) : (ctxF r s l m a b).lookup ("trapped" : Str) = some b := by rw [ctx_lk, if_pos rfl]
theorem ctx_no_way (r s l m a b : V) : (ctxF r s l m a b).lookup ("way" : Str) = none := by rw [ctx_lk, if_neg (by decide +kernel), if_neg (by decide +kernel), if_neg (by decide +kernel), if_neg (by decide +kernel), if_neg (by decide +kernel), if_neg (by decide +kernel)]
theorem ctx_no_lowest (r s l m a b : V) : (ctxF r s l m a b).lookup ("lowest" : Str) = none := by rw [ctx_lk, if_neg (by decide +kernel), if_neg (by decide +kernel), if_neg (by decide +kernel), if_neg (by decide +kernel), if_neg (by decide +kernel), if_neg (by decide +kernel)]
theorem ctx_no_flags (r s l m a b : V) : (ctxF r s l m a b).lookup ("flags" : Str) = none := by rw [ctx_lk, if_neg (by decide +kernel), if_neg (by decide +kernel), if_neg (by decide +kernel), if_neg (by decide +kernel), if_neg (by decide +kernel), if_neg (by decide +kernel)]
theorem ctx_no_clear (r s l m a b : V) : (ctxF r s l m a b).lookup ("clear" : Str) = none := by rw [ctx_lk, if_neg (by decide +kernel), if_neg (by decide +kernel), if_neg (by decide +kernel), if_neg (by decide +kernel), if_neg (by decide +kernel), if_neg (by decide +kernel)]
theorem ctx_no_raised (r s l m a b : V) : (ctxF r s l m a b).lookup ("raised" : Str) = none := by rw [ctx_lk, if_neg (by decide +kernel), if_neg (by decide +kernel), if_neg (by decide +kernel), if_neg (by decide +kernel), if_neg (by decide +kernel), if_neg (by decide +kernel)]
/-- a context stands at c: its room, way, bounds, the lists of its flags and its traps -/
structure CtxAt (CC : Addr) (H : Hp) (c : Addr) (r : Int) (y : Wy) (l m : Int) (a b : Addr) (xs ys : List V) : Prop where
  ins : ∃ dx, H c = some (.ins CC dx (ctxF (.int r) (.str y.name) (.int l) (.int m) (.ref a) (.ref b)))
  ha : H a = some (.lst xs)
  hb : H b = some (.lst ys)
theorem CtxAt.same {CC : Addr} {H H' : Hp} {c : Addr} {r : Int} {y : Wy} {l m : Int} {a b : Addr} {xs ys : List V} (h : CtxAt CC H c r y l m a b xs ys) (e : Same H H') : CtxAt CC H' c r y l m a b xs ys := by
  obtain ⟨⟨dx, z⟩, z1, z2⟩ := h
  exact ⟨⟨dx, e _ _ z⟩, e _ _ z1, e _ _ z2⟩
section
variable {P : Program} {w : World} {K : Frag} {mg : Str → Option Value} {base : Heap}
abbrev sCtxInit : Stmt := (inClass (top 64) 0)
abbrev sCtxWay : Stmt := (inClass (top 64) 1)
abbrev sCtxLow : Stmt := (inClass (top 64) 2)
abbrev sCtxFlags : Stmt := (inClass (top 64) 3)
/-- what makes a context: the least bound may be None -/
def LeastV (l : Int) (v : V) : Prop := (v = .non ∧ l = -60) ∨ (v = .int l ∧ -60 ≤ l ∧ l ≤ 0)
/-- what makes none, in the order in which it is looked at, in all heaps of S -/
def BadCtx (K : Frag) (S : Hp → Prop) (v1 v2 v3 v4 : V) : Prop := (∀ H', S H' → BadV K H' 1 24 v1) ∨ (GoodV 1 24 v1 ∧ ((∀ H', S H' → NoWay K H' v2) ∨ ((∃ y : Wy, v2 = .str y.name) ∧ ((v3 ≠ .non ∧ ∀ H', S H' → BadV K H' (-60) 0 v3) ∨ ((∃ l, LeastV l v3) ∧ ∀ H', S H' → BadV K H' 0 60 v4)))))
theorem BadCtx.mono {S S' : Hp → Prop} {v1 v2 v3 v4 : V} (e : ∀ H', S' H' → S H') (h : BadCtx K S v1 v2 v3 v4) : BadCtx K S' v1 v2 v3 v4 := by
  rcases h with h | ⟨g, h | ⟨y, ⟨n, h⟩ | ⟨l, h⟩⟩⟩
  · exact .inl fun H' z => h H' (e H' z)
  · exact .inr ⟨g, .inl fun H' z => h H' (e H' z)⟩
  · exact .inr ⟨g, .inr ⟨y, .inl ⟨n, fun H' z => h H' (e H' z)⟩⟩⟩
  · exact .inr ⟨g, .inr ⟨y, .inr ⟨l, fun H' z => h H' (e H' z)⟩⟩⟩
theorem Exc.none {p a : Addr} {H H' : Hp} {o : HO} (x : Exc p H H') (hp : H' p = some o) (n : H' a = none) : H a = none := by
  cases q : H a with
  | none => rfl
  | some u =>
    have := x a u q (fun e => by rw [e, hp] at n; cases n)
    rw [n] at this
    cases this
def spCtxInit (K : Frag) (CC CB : Addr) : Sp := fun vs H Q E => ∃ p dx v1 v2 v3 v4, vs = [.ref p, v1, v2, v3, v4] ∧ H p = some (.ins CC dx []) ∧
  ((∃ r y l m, v1 = .int r ∧ 1 ≤ r ∧ r ≤ 24 ∧ v2 = .str (Wy.name y) ∧ LeastV l v3 ∧ v4 = .int m ∧ 0 ≤ m ∧ m ≤ 60 ∧ ∀ a b H', Exc p H H' → H a = none → H b = none → CtxAt CC H' p r y l m a b [] [] → Q .non H') ∨
   (BadCtx K (Exc p H) v1 v2 v3 v4 ∧ ∀ H', Exc p H H' → E (.ref CB) none H'))
theorem scCtxInit : FnScope ["self", "room", "way", "least", "most"] ["self", "room", "way", "least", "most"] (defScope sCtxInit) := ⟨rfl, rfl, rfl, by decide +kernel, rfl, by decide +kernel, by decide +kernel⟩
theorem lit24 : Lits 1 24 := by unfold Lits; decide +kernel
theorem lit60a : Lits (-60) 0 := by unfold Lits; decide +kernel
theorem lit60b : Lits 0 60 := by unfold Lits; decide +kernel
theorem ok_ctxInit {f fB fW CC CB CW : Addr} {dV : Value} {cw : Wy → Addr} {fd fdB fdW : FuncData} (F : FunD K "__init__" "Context.__init__" sCtxInit dV f fd) (D_bounded : Def K mg "bounded" ["thing", "least", "most"] sBounded fB fdB) (D_way_of : Def K mg "way_of" ["name"] sWayOf fW fdW)
    (G_bounded : FnOk P w K mg base (CX1 P w) 2 fB fdB ["thing", "least", "most"] (spBounded K CB)) (G_way_of : FnOk P w K mg base (CX1 P w) 1 fW fdW ["name"] (spWayOf K CB cw)) (C : CtxC K mg CC)
    (W : ∀ y : Wy, WayC K mg y.cls (cw y) CW) (N : ∀ y : Wy, WayN P w K mg base (cw y) y.name) : FnOk P w K mg base (CX1 P w) 3 f fd ["self", "room", "way", "least", "most"] (spCtxInit K CC CB) := by
  refine F.okE scCtxInit (fun vs H Q E h => ?_) (fun X cdv A outer s H vs Q E hX hr hx h => ?_)
  · obtain ⟨p, dx, v1, v2, v3, v4, rfl, _⟩ := h
    rfl
  · subst hX
    obtain ⟨p, dx, v1, v2, v3, v4, rfl, hp, h⟩ := h
    obtain ⟨y, hy⟩ : ∃ y : Wy, ∀ z : Wy, v2 = .str z.name → z = y := by
      by_cases q : ∃ z : Wy, v2 = .str z.name
      · obtain ⟨z, rfl⟩ := q
        exact ⟨z, fun u e => Wy.inj (V.str.inj e.symm)⟩
      · exact ⟨.down, fun z e => absurd ⟨z, e⟩ q⟩
    obtain ⟨fN, fdN, mN, gN, bN⟩ := N y
    refine ⟨_, (pss_cons (ps_fld (pv 0) (pcall D_bounded G_bounded hr hx (pa_cons (pv 1) (pa_cons pe_int (pa_cons pe_int pa_nil)))) rfl)
      (pss_cons (ps_fld (pv 0) (pmeth0 (pcall D_way_of G_way_of hr hx (pa_cons (pv 2) pa_nil)) (W y).cl mN gN hr bN .nil hx) rfl)
      (pss_cons (ps_join (ps_fld (pv 0) (pe_ifExp (pt_cmpR op_isN (pv 3) pe_non (nomark _)) (pe_un un_neg pe_int) (pcall D_bounded G_bounded hr hx (pa_cons (pv 3) (pa_cons (pe_un un_neg pe_int) (pa_cons pe_int pa_nil))))) rfl))
      (pss_cons (ps_fld (pv 0) (pcall D_bounded G_bounded hr hx (pa_cons (pv 4) (pa_cons pe_int (pa_cons pe_int pa_nil)))) rfl)
      (pss_cons (ps_fld (pv 0) (pe_lst pa_nil) rfl)
      (pss_one (ps_fld (pv 0) (pe_lst pa_nil) rfl))))))), ?_⟩
    have lz : ∀ (fs : List (Str × V)) (f : Str) (v : V) (n : Nat), fs.length ≤ n → (putF f v fs).length ≤ n + 1 := fun fs f v n h => Nat.le_trans (length_putF f v fs) (Nat.succ_le_succ h)
    have q0 : (([] : List (Str × V))).length ≤ 0 := Nat.le_refl _
    have z0 : 0 ≤ sizeLine := Nat.zero_le _
    rcases h with ⟨r, y', l, m, rfl, r1, r2, rfl, hl, rfl, m1, m2, k⟩ | ⟨bad, k⟩
    · obtain rfl := hy _ rfl
      refine ⟨_, rfl, _, _, _, rfl, lit24, .inl ⟨⟨r, rfl, r1, r2⟩, ?_⟩⟩
      refine ⟨_, rfl, p, CC, dx, [], rfl, hp, C.cl, C.n_room, by show 0 < 1000; decide, ?_⟩
      refine ⟨_, rfl, _, rfl, .inl ⟨_, rfl, fun q dq H2 nq s2 eq => ⟨q, dq, [], rfl, eq, rfl, _, rfl, ?_⟩⟩⟩
      have hp2 := s2 _ _ (upd_same (H := H) (a := p) (o := .ins CC dx (putF "room" (.int r) [])))
      have x2 : Exc p H H2 := (Exc.upd (H := H) (o := .ins CC dx (putF "room" (.int r) []))).trans (.of s2)
      refine ⟨_, rfl, p, CC, dx, _, rfl, hp2, C.cl, C.n_rule, Nat.lt_of_le_of_lt (lz _ _ _ 0 q0) (by decide), ?_⟩
      refine ⟨fun σ' H' => σ' = [some (.ref p), some (.int r), some (.str y'.name), some v3, some (.int m)] ∧ Exc p H H' ∧ H' p = some (.ins CC dx (putF "least" (.int l) (putF "rule" (.str y'.name) (putF "room" (.int r) [])))), ?_, ?_⟩
      · refine ⟨_, rfl, rfl, _, rfl, ?_⟩
        rcases hl with ⟨rfl, rfl⟩ | ⟨rfl, l1, l2⟩
        · refine iteDT rfl ⟨_, rfl, ?_⟩
          exact ⟨_, rfl, p, CC, dx, _, rfl, upd_same, C.cl, C.n_least, Nat.lt_of_le_of_lt (lz _ _ _ 1 (lz _ _ _ 0 q0)) (by decide), rfl, (x2.trans Exc.upd).trans Exc.upd, upd_same⟩
        · refine iteDF (by intro z; cases z) ⟨_, rfl, _, rfl, _, _, _, rfl, lit60a, .inl ⟨⟨l, rfl, l1, l2⟩, ?_⟩⟩
          exact ⟨_, rfl, p, CC, dx, _, rfl, upd_same, C.cl, C.n_least, Nat.lt_of_le_of_lt (lz _ _ _ 1 (lz _ _ _ 0 q0)) (by decide), rfl, (x2.trans Exc.upd).trans Exc.upd, upd_same⟩
      rintro σ' H4 ⟨rfl, x4, hp4⟩
      refine ⟨_, rfl, _, _, _, rfl, lit60b, .inl ⟨⟨m, rfl, m1, m2⟩, ?_⟩⟩
      refine ⟨_, rfl, p, CC, dx, _, rfl, hp4, C.cl, C.n_most, Nat.lt_of_le_of_lt (lz _ _ _ 2 (lz _ _ _ 1 (lz _ _ _ 0 q0))) (by decide), ?_⟩
      refine ⟨z0, fun a na => ?_⟩
      refine ⟨_, rfl, p, CC, dx, _, rfl, Same.upd na _ _ upd_same, C.cl, C.n_risen, Nat.lt_of_le_of_lt (lz _ _ _ 3 (lz _ _ _ 2 (lz _ _ _ 1 (lz _ _ _ 0 q0)))) (by decide), ?_⟩
      refine ⟨z0, fun b nb => ?_⟩
      refine ⟨_, rfl, p, CC, dx, _, rfl, Same.upd nb _ _ upd_same, C.cl, C.n_trapped, Nat.lt_of_le_of_lt (lz _ _ _ 4 (lz _ _ _ 3 (lz _ _ _ 2 (lz _ _ _ 1 (lz _ _ _ 0 q0))))) (by decide), ?_⟩
      have x5 := x4.trans (Exc.upd (H := H4) (o := .ins CC dx (putF "most" (.int m) (putF "least" (.int l) (putF "rule" (.str y'.name) (putF "room" (.int r) []))))))
      have nap : a ≠ p := fun e => by rw [e, upd_same] at na; cases na
      have nbp : b ≠ p := fun e => by rw [e, upd_same] at nb; cases nb
      have x6 := (x5.trans (.of (Same.upd (o := .lst []) na))).trans (Exc.upd (o := .ins CC dx (putF "risen" (.ref a) (putF "most" (.int m) (putF "least" (.int l) (putF "rule" (.str y'.name) (putF "room" (.int r) [])))))))
      have x7 := (x6.trans (.of (Same.upd (o := .lst []) nb))).trans (Exc.upd (o := .ins CC dx (ctxF (.int r) (.str y'.name) (.int l) (.int m) (.ref a) (.ref b))))
      refine k a b _ x7 (x5.none upd_same na) (x6.none upd_same nb) ⟨⟨dx, upd_same⟩, ?_, ?_⟩
      · rw [upd_ne nap]
        refine Same.upd nb _ _ ?_
        rw [upd_ne nap]
        exact upd_same
      · rw [upd_ne nbp]
        exact upd_same
    · rcases bad with b1 | ⟨⟨r, rfl, r1, r2⟩, bad⟩
      · exact ⟨_, rfl, _, _, _, rfl, lit24, .inr ⟨b1 _ (Exc.refl p H), k _ (Exc.refl p H)⟩⟩
      refine ⟨_, rfl, _, _, _, rfl, lit24, .inl ⟨⟨r, rfl, r1, r2⟩, ?_⟩⟩
      refine ⟨_, rfl, p, CC, dx, [], rfl, hp, C.cl, C.n_room, by show 0 < 1000; decide, ?_⟩
      have x1 : Exc p H (upd H p (.ins CC dx (putF "room" (.int r) []))) := Exc.upd
      rcases bad with b2 | ⟨⟨y', rfl⟩, bad⟩
      · exact ⟨_, rfl, _, rfl, .inr ⟨b2 _ x1, k _ x1⟩⟩
      obtain rfl := hy _ rfl
      refine ⟨_, rfl, _, rfl, .inl ⟨_, rfl, fun q dq H2 nq s2 eq => ⟨q, dq, [], rfl, eq, rfl, _, rfl, ?_⟩⟩⟩
      have hp2 := s2 _ _ (upd_same (H := H) (a := p) (o := .ins CC dx (putF "room" (.int r) [])))
      have x2 : Exc p H H2 := x1.trans (.of s2)
      refine ⟨_, rfl, p, CC, dx, _, rfl, hp2, C.cl, C.n_rule, Nat.lt_of_le_of_lt (lz _ _ _ 0 q0) (by decide), ?_⟩
      rcases bad with ⟨n3, b3⟩ | ⟨⟨l, hl⟩, b4⟩
      · refine ⟨fun _ _ => False, ?_, fun _ _ z => z.elim⟩
        refine ⟨_, rfl, rfl, _, rfl, iteDF n3 ?_⟩
        exact ⟨_, rfl, _, rfl, _, _, _, rfl, lit60a, .inr ⟨b3 _ (x2.trans Exc.upd), k _ (x2.trans Exc.upd)⟩⟩
      refine ⟨fun σ' H' => σ' = [some (.ref p), some (.int r), some (.str y'.name), some v3, some v4] ∧ Exc p H H', ?_, ?_⟩
      · refine ⟨_, rfl, rfl, _, rfl, ?_⟩
        rcases hl with ⟨rfl, rfl⟩ | ⟨rfl, l1, l2⟩
        · refine iteDT rfl ⟨_, rfl, ?_⟩
          exact ⟨_, rfl, p, CC, dx, _, rfl, upd_same, C.cl, C.n_least, Nat.lt_of_le_of_lt (lz _ _ _ 1 (lz _ _ _ 0 q0)) (by decide), rfl, (x2.trans Exc.upd).trans Exc.upd⟩
        · refine iteDF (by intro z; cases z) ⟨_, rfl, _, rfl, _, _, _, rfl, lit60a, .inl ⟨⟨l, rfl, l1, l2⟩, ?_⟩⟩
          exact ⟨_, rfl, p, CC, dx, _, rfl, upd_same, C.cl, C.n_least, Nat.lt_of_le_of_lt (lz _ _ _ 1 (lz _ _ _ 0 q0)) (by decide), rfl, (x2.trans Exc.upd).trans Exc.upd⟩
      rintro σ' H4 ⟨rfl, x4⟩
      exact ⟨_, rfl, _, _, _, rfl, lit60b, .inr ⟨b4 _ x4, k _ x4⟩⟩
end
end TR
set_option Elab.async false
set_option linter.all false
set_option maxRecDepth 100000
set_option maxHeartbeats 4000000
namespace TR
open PySem L2 PySem.W PyProof.Rows
seal PE PS PSs PA PT PW PG PGs PI PO
section
variable {P : Program} {w : World} {K : Frag} {mg : Str → Option Value} {base : Heap}
/-! ### a context's methods -/
def spCtxWay (CC : Addr) (cw : Wy → Addr) : Sp := fun vs H Q _ => ∃ c r y l m a b xs ys, vs = [.ref c] ∧ CtxAt CC H c r y l m a b xs ys ∧ ∀ p dx H', H p = none → Same H H' → H' p = some (.ins (cw y) dx []) → Q (.ref p) H'
theorem scCtxWay : FnScope ["self"] ["self"] (defScope sCtxWay) := ⟨rfl, rfl, rfl, by decide +kernel, rfl, by decide +kernel, by decide +kernel⟩
theorem ok_ctxWay {f fW CC CB : Addr} {cw : Wy → Addr} {fd fdW : FuncData} (F : Fun K "way" "Context.way" sCtxWay f fd) (D_way_of : Def K mg "way_of" ["name"] sWayOf fW fdW) (G_way_of : FnOk P w K mg base (CX1 P w) 1 fW fdW ["name"] (spWayOf K CB cw)) (C : CtxC K mg CC) :
    FnOk P w K mg base (CX1 P w) 2 f fd ["self"] (spCtxWay CC cw) := by
  refine F.okE scCtxWay (fun vs H Q E h => ?_) (fun X cdv A outer s H vs Q E hX hr hx h => ?_)
  · obtain ⟨c, r, y, l, m, a, b, xs, ys, rfl, _⟩ := h
    rfl
  · subst hX
    obtain ⟨c, r, y, l, m, a, b, xs, ys, rfl, ⟨⟨dx, e⟩, _, _⟩, k⟩ := h
    refine ⟨_, (pss_one (ps_ret (pcall D_way_of G_way_of hr hx (pa_cons (pe_fld (pv 0) rfl) pa_nil)))), ?_⟩
    exact ⟨_, rfl, c, CC, dx, _, _, rfl, e, C.cl, C.n_rule, ctx_rule _ _ _ _ _ _, _, rfl, .inl ⟨y, rfl, k⟩⟩
def spCtxLow (CC : Addr) : Sp := fun vs H Q _ => ∃ c r y l m a b xs ys, vs = [.ref c] ∧ CtxAt CC H c r y l m a b xs ys ∧ Q (.int (l - r + 1)) H
theorem scCtxLow : FnScope ["self"] ["self"] (defScope sCtxLow) := ⟨rfl, rfl, rfl, by decide +kernel, rfl, by decide +kernel, by decide +kernel⟩
theorem ok_ctxLow {f CC : Addr} {fd : FuncData} (F : Fun K "lowest" "Context.lowest" sCtxLow f fd) (C : CtxC K mg CC) : FnOk P w K mg base (CX1 P w) 1 f fd ["self"] (spCtxLow CC) := by
  refine FnOk.up (F.ok scCtxLow (fun vs H Q E h => ?_) (fun cdv A outer s H vs Q E hr h => ?_))
  · obtain ⟨c, r, y, l, m, a, b, xs, ys, rfl, _⟩ := h
    rfl
  · obtain ⟨c, r, y, l, m, a, b, xs, ys, rfl, ⟨⟨dx, e⟩, _, _⟩, k⟩ := h
    refine ⟨_, (pss_one (ps_ret (pe_op op_add (pe_op op_sub (pe_fld (pv 0) rfl) (pe_fld (pv 0) rfl)) pe_int))), ?_⟩
    exact ⟨_, rfl, c, CC, dx, _, _, rfl, e, C.cl, C.n_least, ctx_least _ _ _ _ _ _, _, rfl, c, CC, dx, _, _, rfl, e, C.cl, C.n_room, ctx_room _ _ _ _ _ _, _, _, rfl, rfl, _, _, rfl, rfl, k⟩
def spCtxFlags (CC : Addr) : Sp := fun vs H Q _ => ∃ c r y l m a b xs ys, vs = [.ref c] ∧ CtxAt CC H c r y l m a b xs ys ∧ ∀ p, H p = none → Q (.ref p) (upd H p (.lst xs))
theorem scCtxFlags : FnScope ["self"] ["self"] (defScope sCtxFlags) := ⟨rfl, rfl, rfl, by decide +kernel, rfl, by decide +kernel, by decide +kernel⟩
theorem ok_ctxFlags {f CC : Addr} {fd : FuncData} (F : Fun K "flags" "Context.flags" sCtxFlags f fd) (C : CtxC K mg CC) (O : Own mg) : FnOk P w K mg base (CX1 P w) 1 f fd ["self"] (spCtxFlags CC) := by
  refine FnOk.up (F.ok scCtxFlags (fun vs H Q E h => ?_) (fun cdv A outer s H vs Q E hr h => ?_))
  · obtain ⟨c, r, y, l, m, a, b, xs, ys, rfl, _⟩ := h
    rfl
  · obtain ⟨c, r, y, l, m, a, b, xs, ys, rfl, ⟨⟨dx, e⟩, ha, _⟩, k⟩ := h
    refine ⟨_, (pss_one (ps_ret (pe_callTy call_list_of (by rfl) O.list_ boot_list (pa_cons (pe_fld (pv 0) rfl) pa_nil)))), ?_⟩
    exact ⟨_, rfl, c, CC, dx, _, _, rfl, e, C.cl, C.n_risen, ctx_risen _ _ _ _ _ _, a, xs, rfl, .inl (SqL.of ha), k⟩
/-- how a context is made: by all four, or by fewer -/
structure MakeC (P : Program) (w : World) (K : Frag) (mg : Str → Option Value) (base : Heap) (CC CB fI : Addr) (fdI : FuncData) : Prop where
  m : Mk K CC fI
  g : FnOk P w K mg base (CX1 P w) 3 fI fdI ["self", "room", "way", "least", "most"] (spCtxInit K CC CB)
theorem exc_new {C x dx : Addr} {H H' : Hp} (n1 : H x = none) (n2 : H dx = none) (ne : dx ≠ x) (e : Exc x (upd (upd H dx (.own x)) x (.ins C dx [])) H') : Same H H' := fun b o h =>
  e b o (by rw [upd_ne (ne_of_none h n1), upd_ne (ne_of_none h n2)]; exact h) (ne_of_none h n1)
/-- behind Context(..) -/
theorem madeC {CC CB x dx : Addr} {H : Hp} {Q : VK} {E : XK} {v1 v2 v3 v4 : V} {r : Int} {y : Wy} {l m : Int} (n1 : H x = none) (n2 : H dx = none) (ne : dx ≠ x) (h1 : v1 = .int r) (r1 : 1 ≤ r) (r2 : r ≤ 24) (h2 : v2 = .str y.name) (h3 : LeastV l v3) (h4 : v4 = .int m) (m1 : 0 ≤ m) (m2 : m ≤ 60)
    (k : ∀ a b H', Same H H' → CtxAt CC H' x r y l m a b [] [] → Q .non H') : spCtxInit K CC CB [.ref x, v1, v2, v3, v4] (upd (upd H dx (.own x)) x (.ins CC dx [])) Q E :=
  ⟨x, dx, v1, v2, v3, v4, rfl, upd_same, .inl ⟨r, y, l, m, h1, r1, r2, h2, h3, h4, m1, m2, fun a b H' e _ _ c => k a b H' (exc_new n1 n2 ne e) c⟩⟩
end
end TR
set_option Elab.async false
set_option linter.all false
set_option maxRecDepth 100000
set_option maxHeartbeats 4000000
namespace TR
open PySem L2 PySem.W PyProof.Rows
seal PE PS PSs PA PT PW PG PGs PI PO
abbrev sTrInit : Stmt := (inClass (top 16) 0)
section
variable {P : Program} {w : World} {K : Frag} {mg : Str → Option Value} {base : Heap}
theorem scTrInit : FnScope ["self", "signal"] ["self", "signal"] (defScope sTrInit) := ⟨rfl, rfl, rfl, by decide +kernel, rfl, by decide +kernel, by decide +kernel⟩
theorem ok_trInit {f CT fI : Addr} {fd : FuncData} (F : Fun K "__init__" "Trapped.__init__" sTrInit f fd) (XI : ExcI K CT fI) (hn : findIn K (.ref CT) "signal" = some none) : FnOk P w K mg base CX0 1 f fd ["self", "signal"] (spExcI CT "signal") := by
  refine F.ok scTrInit (fun vs H Q E h => ?_) (fun cdv A outer s H vs Q E hr h => ?_)
  · obtain ⟨e, t, v, rfl, _⟩ := h
    rfl
  · obtain ⟨e, t, v, rfl, he, k⟩ := h
    refine ⟨_, (pss_one (psx_fld XI hn (pv 0) (pv 1) rfl)), ?_⟩
    exact ⟨_, rfl, _, rfl, e, t, rfl, he, fun d nd ne => k d nd ne⟩
end
end TR
set_option Elab.async false
set_option linter.all false
set_option maxRecDepth 100000
set_option maxHeartbeats 4000000
namespace TR
open PySem L2 PySem.W PyProof.Rows
seal PE PS PSs PA PT PW PG PGs PI PO
abbrev sCtxRaised : Stmt := (inClass (top 64) 7)
theorem ctxF_len (r s l m a b : V) : (ctxF r s l m a b).length = 6 := rfl
theorem ctxF_risen (r s l m a b v : V) : putF "risen" v (ctxF r s l m a b) = ctxF r s l m v b := rfl
section
variable {P : Program} {w : World} {K : Frag} {mg : Str → Option Value} {base : Heap}
/-- the first trapped one of those raised -/
def hit (ys zs : List Str) : Option Str := ys.find? fun t => zs.contains t
def spRaised (K : Frag) (CC CB CT : Addr) : Sp := fun vs H Q E => ∃ c r y l m a b, ∃ (xs ys : List Str) (v : V), vs = [.ref c, v] ∧ CtxAt CC H c r y l m a b (xs.map V.str) (ys.map V.str) ∧ xs.length + 100 ≤ 1000 ∧
  ((∃ (p : Addr) (zs : List Str), v = .ref p ∧ H p = some (.lst (zs.map V.str)) ∧ zs.length ≤ 100 ∧ (∀ z ∈ zs, z ∈ sigS) ∧
      (hit ys zs = none → ∀ a' H', Exc c H H' → H a' = none → CtxAt CC H' c r y l m a' b ((ordS (xs ++ zs)).map V.str) (ys.map V.str) → Q .non H') ∧
      (∀ t, hit ys zs = some t → ∀ a' d H', Exc c H H' → H a' = none → CtxAt CC H' c r y l m a' b ((ordS (xs ++ zs)).map V.str) (ys.map V.str) → H d = none → H' d = some (.xd [("signal", .str t)]) → E (.ref CT) (some d) H')) ∨
   (NoSigs K H v ∧ E (.ref CB) none H))
theorem scRaised : FnScope ["self", "names", "name"] ["self", "names"] (defScope sCtxRaised) := ⟨rfl, rfl, rfl, by decide +kernel, rfl, by decide +kernel, by decide +kernel⟩
theorem ok_raised {f f1 f2 fX CC CB CT : Addr} {fd fd1 fd2 fdX : FuncData} (F : Fun K "raised" "Context.raised" sCtxRaised f fd) (D_need_signals : Def K mg "need_signals" ["names"] sNeedS f1 fd1) (G_need_signals : FnOk P w K mg base (CX1 P w) 1 f1 fd1 ["names"] (spNeedS K CB))
    (D_in_order : Def K mg "in_order" ["names"] sInOrd f2 fd2) (G_in_order : FnOk P w K mg base (CX1 P w) 1 f2 fd2 ["names"] (spInOrd K)) (C : CtxC K mg CC)
    (gT : mg "Trapped" = some (.ref CT)) (XI : ExcI K CT fX) (GX : FnOk P w K mg base CX0 1 fX fdX ["self", "signal"] (spExcI CT "signal")) (BX : Binds K fdX ["self", "signal"] []) : FnOk P w K mg base (CX1 P w) 3 f fd ["self", "names"] (spRaised K CC CB CT) := by
  refine F.okE scRaised (fun vs H Q E h => ?_) (fun X cdv A outer s H vs Q E hX hr hx h => ?_)
  · obtain ⟨c, r, y, l, m, a, b, xs, ys, v, rfl, _⟩ := h
    rfl
  · subst hX
    obtain ⟨c, r, y, l, m, a, b, xs, ys, v, rfl, ⟨⟨dx, e⟩, ha, hb⟩, lx, h⟩ := h
    refine ⟨_, (pss_cons (ps_expr (pcall D_need_signals G_need_signals hr hx (pa_cons (pv 1) pa_nil)))
      (pss_cons (ps_fld (pv 0) (pcall D_in_order G_in_order hr hx (pa_cons (pe_op op_cat (pe_fld (pv 0) rfl) (pv 1)) pa_nil)) rfl)
      (pss_one (ps_for PassesOwn.leaving rfl (pi_list (pe_fld (pv 0) rfl)) (pg_name (i := 2) scRaised.nd rfl (Or.inl rfl)) (pss_one (ps_if (pt_cmpR op_in_seq (pv 2) (pv 1) (by rfl)) (pss_one (ps_raiseI gT XI GX BX hr hx (pa_cons (pv 2) pa_nil))) pss_nil)))))), ?_⟩
    rcases h with ⟨p, zs, rfl, hp, lz, hz, k1, k2⟩ | ⟨bad, k⟩
    · refine ⟨_, rfl, _, rfl, .inl ⟨p, zs, rfl, hp, hz, ?_⟩⟩
      refine ⟨_, rfl, c, CC, dx, _, _, rfl, e, C.cl, C.n_risen, ctx_risen _ _ _ _ _ _, _, rfl, a, p, _, _, rfl, rfl, ha, hp, line1000 (by rw [List.length_map, List.length_map]; omega), fun q nq => ?_⟩
      have u1 := Same.upd (o := .lst (xs.map V.str ++ zs.map V.str)) nq
      refine ⟨q, xs ++ zs, rfl, SqL.of (by rw [upd_same, List.map_append]), fun a' H1 s1 n1 e1 => ?_⟩
      have s2 := u1.trans s1
      refine ⟨_, rfl, c, CC, dx, _, rfl, s2 _ _ e, C.cl, C.n_risen, by rw [ctxF_len]; decide, ?_⟩
      rw [ctxF_risen]
      have nbc : b ≠ c := ne_of hb e (by intro z; cases z)
      have npc : p ≠ c := ne_of hp e (by intro z; cases z)
      have nac : a' ≠ c := ne_of e1 (s2 _ _ e) (by intro z; cases z)
      have x2 : Exc c H (upd H1 c (.ins CC dx (ctxF (.int r) (.str y.name) (.int l) (.int m) (.ref a') (.ref b)))) := (Exc.of s2).trans Exc.upd
      have hb2 : (upd H1 c (.ins CC dx (ctxF (.int r) (.str y.name) (.int l) (.int m) (.ref a') (.ref b)))) b = some (.lst (ys.map V.str)) := by rw [upd_ne nbc]; exact s2 _ _ hb
      have hp2 : (upd H1 c (.ins CC dx (ctxF (.int r) (.str y.name) (.int l) (.int m) (.ref a') (.ref b)))) p = some (.lst (zs.map V.str)) := by rw [upd_ne npc]; exact s2 _ _ hp
      have ct : CtxAt CC (upd H1 c (.ins CC dx (ctxF (.int r) (.str y.name) (.int l) (.int m) (.ref a') (.ref b)))) c r y l m a' b ((ordS (xs ++ zs)).map V.str) (ys.map V.str) := ⟨⟨dx, upd_same⟩, by rw [upd_ne nac]; exact e1, hb2⟩
      refine ⟨_, rfl, c, CC, dx, _, _, rfl, upd_same, C.cl, C.n_trapped, ctx_trapped _ _ _ _ _ _, b, rfl, ⟨_, SqL.of hb2⟩, ?_⟩
      generalize upd H1 c (.ins CC dx (ctxF (.int r) (.str y.name) (.int l) (.int m) (.ref a') (.ref b))) = H3 at x2 hb2 hp2 ct ⊢
      refine for_list (xs := ys.map V.str) (fun i σ H' => H' = H3 ∧ (∀ t ∈ ys.take i, zs.contains t = false) ∧ ∃ v, σ = [some (.ref c), some (.ref p), v]) ⟨rfl, by simp, none, rfl⟩ ?_ ?_ ?_
      · rintro i σ H' _ ⟨rfl, _⟩
        exact SqL.of hb2
      · rintro i x σ H' hi ⟨rfl, ht, v, rfl⟩
        rw [List.getElem?_map] at hi
        obtain ⟨t, hti, rfl⟩ := Option.map_eq_some_iff.mp hi
        refine ⟨_, rfl, _, rfl, p, _, rfl, .inl (SqL.of hp2), rfl, flat_strs _, _, rfl, ?_⟩
        have hlt : i < ys.length := (List.getElem?_eq_some_iff.mp hti).1
        have et : ys.take (i + 1) = ys.take i ++ [t] := by
          rw [List.take_succ_eq_append_getElem hlt, (List.getElem?_eq_some_iff.mp hti).2]
        cases hc : zs.contains t with
        | false =>
          rw [show (if false = true then !inV (V.str t) (zs.map V.str) else inV (V.str t) (zs.map V.str)) = false by rw [if_neg Bool.false_ne_true, inV_str, hc]]
          refine iteF ⟨rfl, fun t' h' => ?_, _, rfl⟩
          rw [et] at h'
          rcases List.mem_append.mp h' with h' | h'
          · exact ht t' h'
          · rw [List.mem_singleton.mp h']; exact hc
        | true =>
          rw [show (if false = true then !inV (V.str t) (zs.map V.str) else inV (V.str t) (zs.map V.str)) = true by rw [if_neg Bool.false_ne_true, inV_str, hc]]
          obtain ⟨dx', hc3⟩ := ct.ins
          refine iteT ⟨_, rfl, _, rfl, fun d H4 s4 nd e4 => ?_⟩
          refine k2 t ?_ a' d H4 (x2.trans (.of s4)) ((u1.free n1)) (ct.same s4) (x2.none hc3 nd) e4
          unfold hit
          rw [List.find?_eq_some_iff_append]
          refine ⟨hc, ys.take i, ys.drop (i + 1), ?_, fun t' h' => by rw [ht t' h']; rfl⟩
          have := List.take_append_drop (i + 1) ys
          rw [et] at this
          rw [List.append_assoc] at this
          exact this.symm
      · rintro σ H' ⟨rfl, ht, v, rfl⟩
        refine k1 ?_ a' _ x2 (u1.free n1) ct
        unfold hit
        rw [List.find?_eq_none]
        rw [List.length_map, List.take_length] at ht
        intro t hm
        rw [ht t hm]
        exact Bool.false_ne_true
    · exact ⟨_, rfl, _, rfl, .inr ⟨bad, k⟩⟩
end
end TR
set_option Elab.async false
set_option linter.all false
set_option maxRecDepth 100000
set_option maxHeartbeats 4000000
namespace TR
open PySem L2 PySem.W PyProof.Rows
seal PE PS PSs PA PT PW PG PGs PI PO
/-- whether the one farther from nought is taken -/
def Wy.goes (y : Wy) (s last part : Int) : Bool := match y with
  | .down => false
  | .up => true
  | .floor => decide (V.int s = V.int 1)
  | .ceiling => decide (V.int s = V.int 0)
  | .halfUp => decide (part ≥ 2)
  | .halfDown => decide (V.int part = V.int 3)
  | .halfEven => if decide (V.int part = V.int 3) = true then true else if decide (V.int part = V.int 2) = true then decide (V.int (last % 2) = V.int 1) else false
  | .fiveUp => inV (.int last) [.int 0, .int 5]
def Wy.toEnd (y : Wy) (s : Int) : Bool := match y with
  | .down => false
  | .up => true
  | .floor => decide (V.int s = V.int 1)
  | .ceiling => decide (V.int s = V.int 0)
  | .halfUp => true
  | .halfDown => true
  | .halfEven => true
  | .fiveUp => false
section
variable {P : Program} {w : World} {K : Frag} {mg : Str → Option Value} {base : Heap}
def spGoes (y : Wy) : Sp := fun vs H Q _ => ∃ p s l t, vs = [.ref p, .int s, .int l, .int t] ∧ ∀ H', Same H H' → Q (.bl (y.goes s l t)) H'
def spToEnd (y : Wy) : Sp := fun vs H Q _ => ∃ p s, vs = [.ref p, .int s] ∧ ∀ H', Same H H' → Q (.bl (y.toEnd s)) H'
def WayU (P : Program) (w : World) (K : Frag) (mg : Str → Option Value) (base : Heap) (C : Addr) (y : Wy) : Prop := Has P w K mg base C "goes_up" 1 ["self", "sign", "last", "part"] (spGoes y)
def WayE (P : Program) (w : World) (K : Frag) (mg : Str → Option Value) (base : Heap) (C : Addr) (y : Wy) : Prop := Has P w K mg base C "to_end" 1 ["self", "sign"] (spToEnd y)
abbrev sU0 : Stmt := (inClass (top 53) 1)
theorem scU0 : FnScope ["self", "sign", "last", "part"] ["self", "sign", "last", "part"] (defScope sU0) := ⟨rfl, rfl, rfl, by decide +kernel, rfl, by decide +kernel, by decide +kernel⟩
theorem ok_u0 {f : Addr} {fd : FuncData} (F : Fun K "goes_up" "Down.goes_up" sU0 f fd) : FnOk P w K mg base (CX1 P w) 1 f fd ["self", "sign", "last", "part"] (spGoes .down) := by
  refine FnOk.up (F.ok scU0 (fun vs H Q E h => ?_) (fun cdv A outer s H vs Q E hr h => ?_))
  · obtain ⟨p, z, l, t, rfl, _⟩ := h
    rfl
  · obtain ⟨p, z, l, t, rfl, k⟩ := h
    refine ⟨_, (pss_one (ps_ret pe_bl)), ?_⟩
    exact k H (Same.refl H)
abbrev sT0 : Stmt := (inClass (top 53) 2)
theorem scT0 : FnScope ["self", "sign"] ["self", "sign"] (defScope sT0) := ⟨rfl, rfl, rfl, by decide +kernel, rfl, by decide +kernel, by decide +kernel⟩
theorem ok_t0 {f : Addr} {fd : FuncData} (F : Fun K "to_end" "Down.to_end" sT0 f fd) : FnOk P w K mg base (CX1 P w) 1 f fd ["self", "sign"] (spToEnd .down) := by
  refine FnOk.up (F.ok scT0 (fun vs H Q E h => ?_) (fun cdv A outer s H vs Q E hr h => ?_))
  · obtain ⟨p, z, rfl, _⟩ := h
    rfl
  · obtain ⟨p, z, rfl, k⟩ := h
    refine ⟨_, (pss_one (ps_ret pe_bl)), ?_⟩
    exact k H (Same.refl H)
abbrev sU1 : Stmt := (inClass (top 54) 1)
theorem scU1 : FnScope ["self", "sign", "last", "part"] ["self", "sign", "last", "part"] (defScope sU1) := ⟨rfl, rfl, rfl, by decide +kernel, rfl, by decide +kernel, by decide +kernel⟩
theorem ok_u1 {f : Addr} {fd : FuncData} (F : Fun K "goes_up" "Up.goes_up" sU1 f fd) : FnOk P w K mg base (CX1 P w) 1 f fd ["self", "sign", "last", "part"] (spGoes .up) := by
  refine FnOk.up (F.ok scU1 (fun vs H Q E h => ?_) (fun cdv A outer s H vs Q E hr h => ?_))
  · obtain ⟨p, z, l, t, rfl, _⟩ := h
    rfl
  · obtain ⟨p, z, l, t, rfl, k⟩ := h
    refine ⟨_, (pss_one (ps_ret pe_bl)), ?_⟩
    exact k H (Same.refl H)
abbrev sT1 : Stmt := (inClass (top 54) 2)
theorem scT1 : FnScope ["self", "sign"] ["self", "sign"] (defScope sT1) := ⟨rfl, rfl, rfl, by decide +kernel, rfl, by decide +kernel, by decide +kernel⟩
theorem ok_t1 {f : Addr} {fd : FuncData} (F : Fun K "to_end" "Up.to_end" sT1 f fd) : FnOk P w K mg base (CX1 P w) 1 f fd ["self", "sign"] (spToEnd .up) := by
  refine FnOk.up (F.ok scT1 (fun vs H Q E h => ?_) (fun cdv A outer s H vs Q E hr h => ?_))
  · obtain ⟨p, z, rfl, _⟩ := h
    rfl
  · obtain ⟨p, z, rfl, k⟩ := h
    refine ⟨_, (pss_one (ps_ret pe_bl)), ?_⟩
    exact k H (Same.refl H)
abbrev sU2 : Stmt := (inClass (top 55) 1)
theorem scU2 : FnScope ["self", "sign", "last", "part"] ["self", "sign", "last", "part"] (defScope sU2) := ⟨rfl, rfl, rfl, by decide +kernel, rfl, by decide +kernel, by decide +kernel⟩
theorem ok_u2 {f : Addr} {fd : FuncData} (F : Fun K "goes_up" "Floor.goes_up" sU2 f fd) : FnOk P w K mg base (CX1 P w) 1 f fd ["self", "sign", "last", "part"] (spGoes .floor) := by
  refine FnOk.up (F.ok scU2 (fun vs H Q E h => ?_) (fun cdv A outer s H vs Q E hr h => ?_))
  · obtain ⟨p, z, l, t, rfl, _⟩ := h
    rfl
  · obtain ⟨p, z, l, t, rfl, k⟩ := h
    refine ⟨_, (pss_one (ps_ret (pe_cmpR op_eq (pv 1) pe_int (nomark _)))), ?_⟩
    exact ⟨_, rfl, rfl, k H (Same.refl H)⟩
abbrev sT2 : Stmt := (inClass (top 55) 2)
theorem scT2 : FnScope ["self", "sign"] ["self", "sign"] (defScope sT2) := ⟨rfl, rfl, rfl, by decide +kernel, rfl, by decide +kernel, by decide +kernel⟩
theorem ok_t2 {f : Addr} {fd : FuncData} (F : Fun K "to_end" "Floor.to_end" sT2 f fd) : FnOk P w K mg base (CX1 P w) 1 f fd ["self", "sign"] (spToEnd .floor) := by
  refine FnOk.up (F.ok scT2 (fun vs H Q E h => ?_) (fun cdv A outer s H vs Q E hr h => ?_))
  · obtain ⟨p, z, rfl, _⟩ := h
    rfl
  · obtain ⟨p, z, rfl, k⟩ := h
    refine ⟨_, (pss_one (ps_ret (pe_cmpR op_eq (pv 1) pe_int (nomark _)))), ?_⟩
    exact ⟨_, rfl, rfl, k H (Same.refl H)⟩
abbrev sU3 : Stmt := (inClass (top 56) 1)
theorem scU3 : FnScope ["self", "sign", "last", "part"] ["self", "sign", "last", "part"] (defScope sU3) := ⟨rfl, rfl, rfl, by decide +kernel, rfl, by decide +kernel, by decide +kernel⟩
theorem ok_u3 {f : Addr} {fd : FuncData} (F : Fun K "goes_up" "Ceiling.goes_up" sU3 f fd) : FnOk P w K mg base (CX1 P w) 1 f fd ["self", "sign", "last", "part"] (spGoes .ceiling) := by
  refine FnOk.up (F.ok scU3 (fun vs H Q E h => ?_) (fun cdv A outer s H vs Q E hr h => ?_))
  · obtain ⟨p, z, l, t, rfl, _⟩ := h
    rfl
  · obtain ⟨p, z, l, t, rfl, k⟩ := h
    refine ⟨_, (pss_one (ps_ret (pe_cmpR op_eq (pv 1) pe_int (nomark _)))), ?_⟩
    exact ⟨_, rfl, rfl, k H (Same.refl H)⟩
abbrev sT3 : Stmt := (inClass (top 56) 2)
theorem scT3 : FnScope ["self", "sign"] ["self", "sign"] (defScope sT3) := ⟨rfl, rfl, rfl, by decide +kernel, rfl, by decide +kernel, by decide +kernel⟩
theorem ok_t3 {f : Addr} {fd : FuncData} (F : Fun K "to_end" "Ceiling.to_end" sT3 f fd) : FnOk P w K mg base (CX1 P w) 1 f fd ["self", "sign"] (spToEnd .ceiling) := by
  refine FnOk.up (F.ok scT3 (fun vs H Q E h => ?_) (fun cdv A outer s H vs Q E hr h => ?_))
  · obtain ⟨p, z, rfl, _⟩ := h
    rfl
  · obtain ⟨p, z, rfl, k⟩ := h
    refine ⟨_, (pss_one (ps_ret (pe_cmpR op_eq (pv 1) pe_int (nomark _)))), ?_⟩
    exact ⟨_, rfl, rfl, k H (Same.refl H)⟩
abbrev sU4 : Stmt := (inClass (top 57) 1)
theorem scU4 : FnScope ["self", "sign", "last", "part"] ["self", "sign", "last", "part"] (defScope sU4) := ⟨rfl, rfl, rfl, by decide +kernel, rfl, by decide +kernel, by decide +kernel⟩
theorem ok_u4 {f : Addr} {fd : FuncData} (F : Fun K "goes_up" "HalfUp.goes_up" sU4 f fd) : FnOk P w K mg base (CX1 P w) 1 f fd ["self", "sign", "last", "part"] (spGoes .halfUp) := by
  refine FnOk.up (F.ok scU4 (fun vs H Q E h => ?_) (fun cdv A outer s H vs Q E hr h => ?_))
  · obtain ⟨p, z, l, t, rfl, _⟩ := h
    rfl
  · obtain ⟨p, z, l, t, rfl, k⟩ := h
    refine ⟨_, (pss_one (ps_ret (pe_cmpR op_ge (pv 3) pe_int (nomark _)))), ?_⟩
    exact ⟨_, rfl, _, _, rfl, rfl, k H (Same.refl H)⟩
abbrev sT4 : Stmt := (inClass (top 57) 2)
theorem scT4 : FnScope ["self", "sign"] ["self", "sign"] (defScope sT4) := ⟨rfl, rfl, rfl, by decide +kernel, rfl, by decide +kernel, by decide +kernel⟩
theorem ok_t4 {f : Addr} {fd : FuncData} (F : Fun K "to_end" "HalfUp.to_end" sT4 f fd) : FnOk P w K mg base (CX1 P w) 1 f fd ["self", "sign"] (spToEnd .halfUp) := by
  refine FnOk.up (F.ok scT4 (fun vs H Q E h => ?_) (fun cdv A outer s H vs Q E hr h => ?_))
  · obtain ⟨p, z, rfl, _⟩ := h
    rfl
  · obtain ⟨p, z, rfl, k⟩ := h
    refine ⟨_, (pss_one (ps_ret pe_bl)), ?_⟩
    exact k H (Same.refl H)
abbrev sU5 : Stmt := (inClass (top 58) 1)
theorem scU5 : FnScope ["self", "sign", "last", "part"] ["self", "sign", "last", "part"] (defScope sU5) := ⟨rfl, rfl, rfl, by decide +kernel, rfl, by decide +kernel, by decide +kernel⟩
theorem ok_u5 {f : Addr} {fd : FuncData} (F : Fun K "goes_up" "HalfDown.goes_up" sU5 f fd) : FnOk P w K mg base (CX1 P w) 1 f fd ["self", "sign", "last", "part"] (spGoes .halfDown) := by
  refine FnOk.up (F.ok scU5 (fun vs H Q E h => ?_) (fun cdv A outer s H vs Q E hr h => ?_))
  · obtain ⟨p, z, l, t, rfl, _⟩ := h
    rfl
  · obtain ⟨p, z, l, t, rfl, k⟩ := h
    refine ⟨_, (pss_one (ps_ret (pe_cmpR op_eq (pv 3) pe_int (nomark _)))), ?_⟩
    exact ⟨_, rfl, rfl, k H (Same.refl H)⟩
abbrev sT5 : Stmt := (inClass (top 58) 2)
theorem scT5 : FnScope ["self", "sign"] ["self", "sign"] (defScope sT5) := ⟨rfl, rfl, rfl, by decide +kernel, rfl, by decide +kernel, by decide +kernel⟩
theorem ok_t5 {f : Addr} {fd : FuncData} (F : Fun K "to_end" "HalfDown.to_end" sT5 f fd) : FnOk P w K mg base (CX1 P w) 1 f fd ["self", "sign"] (spToEnd .halfDown) := by
  refine FnOk.up (F.ok scT5 (fun vs H Q E h => ?_) (fun cdv A outer s H vs Q E hr h => ?_))
  · obtain ⟨p, z, rfl, _⟩ := h
    rfl
  · obtain ⟨p, z, rfl, k⟩ := h
    refine ⟨_, (pss_one (ps_ret pe_bl)), ?_⟩
    exact k H (Same.refl H)
abbrev sU6 : Stmt := (inClass (top 59) 1)
theorem scU6 : FnScope ["self", "sign", "last", "part"] ["self", "sign", "last", "part"] (defScope sU6) := ⟨rfl, rfl, rfl, by decide +kernel, rfl, by decide +kernel, by decide +kernel⟩
theorem ok_u6 {f : Addr} {fd : FuncData} (F : Fun K "goes_up" "HalfEven.goes_up" sU6 f fd) : FnOk P w K mg base (CX1 P w) 1 f fd ["self", "sign", "last", "part"] (spGoes .halfEven) := by
  refine FnOk.up (F.ok scU6 (fun vs H Q E h => ?_) (fun cdv A outer s H vs Q E hr h => ?_))
  · obtain ⟨p, z, l, t, rfl, _⟩ := h
    rfl
  · obtain ⟨p, z, l, t, rfl, k⟩ := h
    refine ⟨_, (pss_one (ps_ret (pe_or (pe_cmpR op_eq (pv 3) pe_int (nomark _)) (pe_one (pe_and (pe_cmpR op_eq (pv 3) pe_int (nomark _)) (pe_one (pe_cmpR op_eq (pe_op op_mod (pv 2) pe_int) pe_int (nomark _)))))))), ?_⟩
    have k := k H (Same.refl H)
    unfold Wy.goes at k
    refine ⟨_, rfl, rfl, _, rfl, ?_⟩
    cases e : decide (V.int t = V.int 3) with
    | true => rw [e] at k; exact iteT k
    | false =>
      rw [e] at k
      refine iteF ⟨_, rfl, rfl, _, rfl, ?_⟩
      cases e2 : decide (V.int t = V.int 2) with
      | true => rw [e2] at k; exact iteT ⟨_, rfl, _, _, rfl, rfl, (by decide : (0 : Int) < 2), rfl, k⟩
      | false => rw [e2] at k; exact iteF k
abbrev sT6 : Stmt := (inClass (top 59) 2)
theorem scT6 : FnScope ["self", "sign"] ["self", "sign"] (defScope sT6) := ⟨rfl, rfl, rfl, by decide +kernel, rfl, by decide +kernel, by decide +kernel⟩
theorem ok_t6 {f : Addr} {fd : FuncData} (F : Fun K "to_end" "HalfEven.to_end" sT6 f fd) : FnOk P w K mg base (CX1 P w) 1 f fd ["self", "sign"] (spToEnd .halfEven) := by
  refine FnOk.up (F.ok scT6 (fun vs H Q E h => ?_) (fun cdv A outer s H vs Q E hr h => ?_))
  · obtain ⟨p, z, rfl, _⟩ := h
    rfl
  · obtain ⟨p, z, rfl, k⟩ := h
    refine ⟨_, (pss_one (ps_ret pe_bl)), ?_⟩
    exact k H (Same.refl H)
abbrev sU7 : Stmt := (inClass (top 60) 1)
theorem scU7 : FnScope ["self", "sign", "last", "part"] ["self", "sign", "last", "part"] (defScope sU7) := ⟨rfl, rfl, rfl, by decide +kernel, rfl, by decide +kernel, by decide +kernel⟩
theorem ok_u7 {f : Addr} {fd : FuncData} (F : Fun K "goes_up" "FiveUp.goes_up" sU7 f fd) : FnOk P w K mg base (CX1 P w) 1 f fd ["self", "sign", "last", "part"] (spGoes .fiveUp) := by
  refine FnOk.up (F.ok scU7 (fun vs H Q E h => ?_) (fun cdv A outer s H vs Q E hr h => ?_))
  · obtain ⟨p, z, l, t, rfl, _⟩ := h
    rfl
  · obtain ⟨p, z, l, t, rfl, k⟩ := h
    refine ⟨_, (pss_one (ps_ret (pe_cmpR op_in_seq (pv 2) (pe_tup (pa_cons pe_int (pa_cons pe_int pa_nil))) (by rfl)))), ?_⟩
    exact ⟨_, rfl, line1000 (by decide), fun q nq => ⟨q, _, rfl, .inr (SqT.of upd_same), rfl, rfl, k _ (Same.upd nq)⟩⟩
abbrev sT7 : Stmt := (inClass (top 60) 2)
theorem scT7 : FnScope ["self", "sign"] ["self", "sign"] (defScope sT7) := ⟨rfl, rfl, rfl, by decide +kernel, rfl, by decide +kernel, by decide +kernel⟩
theorem ok_t7 {f : Addr} {fd : FuncData} (F : Fun K "to_end" "FiveUp.to_end" sT7 f fd) : FnOk P w K mg base (CX1 P w) 1 f fd ["self", "sign"] (spToEnd .fiveUp) := by
  refine FnOk.up (F.ok scT7 (fun vs H Q E h => ?_) (fun cdv A outer s H vs Q E hr h => ?_))
  · obtain ⟨p, z, rfl, _⟩ := h
    rfl
  · obtain ⟨p, z, rfl, k⟩ := h
    refine ⟨_, (pss_one (ps_ret pe_bl)), ?_⟩
    exact k H (Same.refl H)
end
end TR
set_option Elab.async false
set_option linter.all false
set_option maxRecDepth 100000
set_option maxHeartbeats 4000000
namespace TR
open PySem L2 PySem.W PyProof.Rows
seal PE PS PSs PA PT PW PG PGs PI PO
abbrev sFinest : Stmt := (top 33)
abbrev sNearest : Stmt := (top 34)
abbrev sNeighbour : Stmt := (top 35)
abbrev sWithin : Stmt := (top 36)
abbrev sBeyond : Stmt := (top 37)
abbrev sBurst : Stmt := (top 38)
abbrev sNines : Stmt := (top 39)
abbrev sSigRest : Stmt := (top 40)
abbrev sSigLead : Stmt := (top 41)
abbrev sNought : Stmt := (top 42)
/-! ### settling, by whole numbers -/
/-- a context's own numbers -/
structure Cv where
  r : Int
  y : Wy
  l : Int
  m : Int
structure Cv.Ok (c : Cv) : Prop where
  r1 : 1 ≤ c.r
  r2 : c.r ≤ 24
  l1 : -60 ≤ c.l
  l2 : c.l ≤ 0
  m1 : 0 ≤ c.m
  m2 : c.m ≤ 60
/-- noughts behind are left off, up to the ideal power -/
def strip (ideal : Int) : Nat → Int → Int → Int × Int
  | 0, f, p => (f, p)
  | n + 1, f, p => if f % 10 = 0 then strip ideal n (f / 10) (p + 1) else (f, p)
def stripI (ideal f p : Int) : Int × Int := strip ideal (ideal - p).toNat f p
theorem strip_step {ideal f p : Int} (h : p < ideal) (z : f % 10 = 0) : stripI ideal f p = stripI ideal (f / 10) (p + 1) := by
  unfold stripI
  obtain ⟨n, hn⟩ : ∃ n, (ideal - p).toNat = n + 1 := ⟨(ideal - p).toNat - 1, by omega⟩
  rw [hn, show (ideal - (p + 1)).toNat = n by omega]
  show (if f % 10 = 0 then strip ideal n (f / 10) (p + 1) else (f, p)) = _
  rw [if_pos z]
theorem strip_stop {ideal f p : Int} (h : ¬ (p < ideal ∧ f % 10 = 0)) : stripI ideal f p = (f, p) := by
  unfold stripI
  by_cases q : p < ideal
  · obtain ⟨n, hn⟩ : ∃ n, (ideal - p).toNat = n + 1 := ⟨(ideal - p).toNat - 1, by omega⟩
    rw [hn]
    show (if f % 10 = 0 then strip ideal n (f / 10) (p + 1) else (f, p)) = _
    rw [if_neg fun z => h ⟨q, z⟩]
  · rw [show (ideal - p).toNat = 0 by omega]
    rfl
/-- how many figures -/
def figN (f : Int) : Int := ((Str.ofString (toString f)).length : Nat)
def upI (y : Wy) (s wh pt : Int) : Int := if (if pt = 0 then false else y.goes s (wh % 10) pt) = true then wh + 1 else wh
def roomI (r f q : Int) : Int × Int := if f = tenI r then (f / 10, q + 1) else (f, q)
/-- figures and power, behind rounding -/
def nearI (c : Cv) (s wh pt q ideal : Int) : Int × Int := if pt = 0 then stripI ideal wh q else roomI c.r (upI c.y s wh pt) q
def beyondI (m f p : Int) : Bool := if f = 0 then false else decide (p + figN f - 1 > m)
def burstN (c : Cv) (s : Int) : Nm := if c.y.toEnd s = true then ⟨.end_, s, 0, 0⟩ else ⟨.plain, s, tenI c.r - 1, c.m - c.r + 1⟩
def restS (pt : Int) (cut : Bool) : List Str := if pt = 0 then (if cut = true then ["cut"] else []) else ["off", "cut"]
def leadS (l L pt : Int) : List Str := if L ≥ l then [] else if pt = 0 then ["faint"] else ["sunk", "faint"]
/-- what is settled on, and what is raised -/
def settleI (c : Cv) (s wh pt L q ideal : Int) : Nm × List Str :=
  if beyondI c.m (nearI c s wh pt q ideal).1 (nearI c s wh pt q ideal).2 = true then (burstN c s, ["burst", "off", "cut"])
  else (⟨.plain, s, (nearI c s wh pt q ideal).1, (nearI c s wh pt q ideal).2⟩, restS pt (decide ((nearI c s wh pt q ideal).2 > ideal)) ++ leadS c.l L pt)
def maxI (a b : Int) : Int := if b > a then b else a
def minI (a b : Int) : Int := if b < a then b else a
/-- a context with these numbers, flags and traps -/
def CtxV (CC : Addr) (H : Hp) (c : Addr) (v : Cv) (a b : Addr) (xs ys : List Str) : Prop := CtxAt CC H c v.r v.y v.l v.m a b (xs.map V.str) (ys.map V.str)
theorem CtxV.same {CC : Addr} {H H' : Hp} {c : Addr} {v : Cv} {a b : Addr} {xs ys : List Str} (h : CtxV CC H c v a b xs ys) (e : Same H H') : CtxV CC H' c v a b xs ys := CtxAt.same h e
theorem madeN {CN : Addr} {H : Hp} {Q : VK} {E : XK} {k s f p : V} (h : ∀ n H', H n = none → Same H H' → NumAt CN H' n k s f p → Q (.ref n) H') :
    ∀ x dx, H x = none → H dx = none → dx ≠ x → spInit CN (.ref x :: ([k, s, f, p] ++ [])) (upd (upd H dx (.own x)) x (.ins CN dx [])) (fun v H2 => v = .non ∧ Q (.ref x) H2) E := by
  intro x dx nx nd ne
  refine ⟨x, dx, k, s, f, p, rfl, upd_same, fun H' e kp => ⟨rfl, h x H' nx (fun b o z => ?_) ⟨dx, e⟩⟩⟩
  refine kp b o ?_ (ne_of_none z nx)
  rw [upd_ne (ne_of_none z nx), upd_ne (ne_of_none z nd)]
  exact z
section
variable {P : Program} {w : World} {K : Frag} {mg : Str → Option Value} {base : Heap}
/-- the methods of a context that are asked for here -/
structure CtxM (P : Program) (w : World) (K : Frag) (mg : Str → Option Value) (base : Heap) (CC CB CT CW : Addr) (cw : Wy → Addr) : Prop where
  c : CtxC K mg CC
  way : Has P w K mg base CC "way" 2 ["self"] (spCtxWay CC cw)
  low : Has P w K mg base CC "lowest" 1 ["self"] (spCtxLow CC)
  raised : Has P w K mg base CC "raised" 3 ["self", "names"] (spRaised K CC CB CT)
  wc : ∀ y : Wy, WayC K mg y.cls (cw y) CW
  u : ∀ y : Wy, WayU P w K mg base (cw y) y
  e : ∀ y : Wy, WayE P w K mg base (cw y) y
def spNearest (CN : Addr) : Sp := fun vs H Q _ => ∃ i s f p : Int, vs = [.int i, .int s, .int f, .int p] ∧ ∀ n H', H n = none → Same H H' → NumIs CN H' n ⟨.plain, s, (stripI i f p).1, (stripI i f p).2⟩ → Q (.ref n) H'
theorem scNearest : FnScope ["ideal", "sign", "figures", "power"] ["ideal", "sign", "figures", "power"] (defScope sNearest) := ⟨rfl, rfl, rfl, by decide +kernel, rfl, by decide +kernel, by decide +kernel⟩
theorem ok_nearest {f fI CN : Addr} {fd fdI : FuncData} (D : Def K mg "nearest_to" ["ideal", "sign", "figures", "power"] sNearest f fd) (N : Num K mg CN) (M : MakeN P w K mg base CN fI fdI) : FnOk P w K mg base (CX1 P w) 3 f fd ["ideal", "sign", "figures", "power"] (spNearest CN) := by
  refine FnOk.up (D.F.ok scNearest (fun vs H Q E h => ?_) (fun cdv A outer s H vs Q E hr h => ?_))
  · obtain ⟨i, s, f, p, rfl, _⟩ := h
    rfl
  · obtain ⟨i, sg, fg, pw, rfl, k⟩ := h
    have hx : Catches (cxOf CX0 P w K mg base ["ideal", "sign", "figures", "power"] "nearest_to" (defScope sNearest) f cdv A outer s H E).nox EKF := catches0
    refine ⟨_, (pss_cons (ps_while PassesOwn.never (PW.pt (pw_and (pt_cmpR op_lt (pv 3) (pv 0) (nomark _)) (pw_and1 (pt_cmpR op_eq (pe_op op_mod (pv 2) pe_int) pe_int (nomark _))))) (pss_cons (ps_set (i := 2) scNearest.nd rfl (Or.inl rfl) (pe_op op_fdivK (pv 2) pe_int))
      (pss_one (ps_set (i := 3) scNearest.nd rfl (Or.inl rfl) (pe_op op_add (pv 3) pe_int)))))
      (pss_one (ps_ret (pmake M.m (FnOk.up M.g) hr N.g M.b .nil hx (pa_cons pe_str (pa_cons (pv 1) (pa_cons (pv 2) (pa_cons (pv 3) pa_nil)))))))), ?_⟩
    have d10 : (0 : Int) < 10 ∧ (10 : Int).natAbs.log2 < 9000 := ⟨by decide, by decide +kernel⟩
    refine while_by (fun σ H2 => H2 = H ∧ ∃ f p : Int, stripI i f p = stripI i fg pw ∧ σ = [some (.int i), some (.int sg), some (.int f), some (.int p)]) (fun σ _ => match σ with | [_, _, _, some (.int p)] => (i - p).toNat | _ => 0) ?_ ?_ ?_
    · exact ⟨rfl, fg, pw, rfl, rfl⟩
    · rintro σ H2 ⟨rfl, f, p, e, rfl⟩
      have stop : ¬ (p < i ∧ f % 10 = 0) → ∀ n H', H2 n = none → Same H2 H' → NumAt CN H' n (.str "plain") (.int sg) (.int f) (.int p) → Q (.ref n) H' := fun h n H' nn sm num => by
        refine k n H' nn sm ?_
        rw [← e, strip_stop h]
        exact num
      refine ⟨_, rfl, _, rfl, _, _, rfl, rfl, _, rfl, iteD (fun h1 => ?_) (fun h1 => iteF ⟨_, rfl, _, rfl, _, rfl, madeN (stop fun q => h1 q.1)⟩)⟩
      refine ⟨_, rfl, _, _, rfl, rfl, d10.1, rfl, _, rfl, iteD (fun h2 => ?_) (fun h2 => ⟨_, rfl, _, rfl, _, rfl, madeN (stop fun q => h2 (congrArg V.int q.2))⟩)⟩
      have h1 : p < i := h1
      have h2 : f % 10 = 0 := by injection h2
      refine ⟨_, rfl, _, _, rfl, rfl, d10, _, rfl, _, _, rfl, rfl, ⟨rfl, f / 10, p + 1, (strip_step h1 h2).symm.trans e, rfl⟩, ?_⟩
      show (i - (p + 1)).toNat < (i - p).toNat
      omega
    · rintro σ H2 Q1 Q2 hQ ⟨v, e, v2, e2, a, b, e3, e4, c, e5, q⟩
      refine ⟨v, e, v2, e2, a, b, e3, e4, c, e5, ?_⟩
      cases c with
      | false => exact iteF (hQ _ _ (by simpa using q))
      | true =>
        have q : _ := q
        rw [if_pos rfl] at q ⊢
        obtain ⟨v3, e6, a2, b2, e7, e8, e9, e10, e11, e12, q⟩ := q
        exact ⟨v3, e6, a2, b2, e7, e8, e9, e10, e11, e12, hQ _ _ q⟩
def spNeighbour (CC : Addr) : Sp := fun vs H Q _ => ∃ c v a b xs ys p, ∃ s wh pt : Int, vs = [.ref c, .int s, .ref p] ∧ CtxV CC H c v a b xs ys ∧ H p = some (.tup [.int wh, .int pt]) ∧ ∀ H', Same H H' → Q (.int (upI v.y s wh pt)) H'
theorem scNeighbour : FnScope ["context", "sign", "pair"] ["context", "sign", "pair"] (defScope sNeighbour) := ⟨rfl, rfl, rfl, by decide +kernel, rfl, by decide +kernel, by decide +kernel⟩
theorem ok_neighbour {f CC CB CT CW : Addr} {cw : Wy → Addr} {fd : FuncData} (D : Def K mg "neighbour" ["context", "sign", "pair"] sNeighbour f fd) (C : CtxM P w K mg base CC CB CT CW cw) : FnOk P w K mg base (CX1 P w) 3 f fd ["context", "sign", "pair"] (spNeighbour CC) := by
  refine FnOk.up (D.F.ok scNeighbour (fun vs H Q E h => ?_) (fun cdv A outer s H vs Q E hr h => ?_))
  · obtain ⟨c, v, a, b, xs, ys, p, sg, wh, pt, rfl, _⟩ := h
    rfl
  · obtain ⟨c, v, a, b, xs, ys, p, sg, wh, pt, rfl, hc, hp, k⟩ := h
    have hx : Catches (cxOf CX0 P w K mg base ["context", "sign", "pair"] "neighbour" (defScope sNeighbour) f cdv A outer s H E).nox EKF := catches0
    obtain ⟨fW, fdW, mW, gW, bW⟩ := C.way
    obtain ⟨fU, fdU, mU, gU, bU⟩ := C.u v.y
    refine ⟨_, (pss_cons (ps_if (PW.pt (pw_and (pt_cmpR op_ne (pe_ix ix_tup (pv 2) pe_int (fun _ _ => rfl)) pe_int (nomark _)) (pw_and1 (pt_val (pmeth (pmeth0 (pv 0) C.c.cl mW gW hr bW .nil hx) (C.wc v.y).cl mU gU hr bU .nil hx (pa_cons (pv 1) (pa_cons (pe_op op_mod (pe_ix ix_tup (pv 2) pe_int (fun _ _ => rfl)) pe_int) (pa_cons (pe_ix ix_tup (pv 2) pe_int (fun _ _ => rfl)) pa_nil)))))))) (pss_one (ps_ret (pe_op op_add (pe_ix ix_tup (pv 2) pe_int (fun _ _ => rfl)) pe_int))) pss_nil)
      (pss_one (ps_ret (pe_ix ix_tup (pv 2) pe_int (fun _ _ => rfl))))), ?_⟩
    obtain ⟨⟨dx, e⟩, _, _⟩ := id hc
    unfold upI at k
    refine ⟨_, rfl, p, _, _, _, rfl, rfl, SqT.of hp, atI_nat (j := 1) rfl, rfl, _, rfl, ?_⟩
    by_cases h0 : pt = 0
    · subst h0
      rw [if_pos rfl, if_neg Bool.false_ne_true] at k
      exact iteNS rfl (iteF ⟨_, rfl, p, _, _, _, rfl, rfl, SqT.of hp, atI_nat (j := 0) rfl, k H (Same.refl H)⟩)
    · rw [if_neg h0] at k
      rw [decide_eq_false (fun q => h0 (by injection q) : ¬ V.int pt = V.int 0)]
      refine iteT ⟨_, rfl, c, dx, _, rfl, e, ctx_no_way _ _ _ _ _ _, c, v.r, v.y, v.l, v.m, a, b, _, _, rfl, hc, fun q dq H1 nq s1 eq => ?_⟩
      refine ⟨q, dq, _, rfl, eq, rfl, _, rfl, _, rfl, p, _, _, _, rfl, rfl, SqT.of (s1 _ _ hp), atI_nat (j := 0) rfl, _, _, rfl, rfl, (by decide : (0 : Int) < 10), _, rfl, p, _, _, _, rfl, rfl, SqT.of (s1 _ _ hp), atI_nat (j := 1) rfl, q, sg, wh % 10, pt, rfl, fun H2 s2 => ⟨_, rfl, ?_⟩⟩
      have s3 := s1.trans s2
      cases g : v.y.goes sg (wh % 10) pt with
      | true =>
        rw [g, if_pos rfl] at k
        exact iteT ⟨_, rfl, p, _, _, _, rfl, rfl, SqT.of (s3 _ _ hp), atI_nat (j := 0) rfl, _, _, rfl, rfl, k H2 s3⟩
      | false =>
        rw [g, if_neg Bool.false_ne_true] at k
        exact iteF ⟨_, rfl, p, _, _, _, rfl, rfl, SqT.of (s3 _ _ hp), atI_nat (j := 0) rfl, k H2 s3⟩
def spWithin (CN CC : Addr) : Sp := fun vs H Q _ => ∃ c v a b xs ys, ∃ s f q : Int, vs = [.ref c, .int s, .int f, .int q] ∧ CtxV CC H c v a b xs ys ∧ v.Ok ∧ ∀ n H', H n = none → Same H H' → NumIs CN H' n ⟨.plain, s, (roomI v.r f q).1, (roomI v.r f q).2⟩ → Q (.ref n) H'
theorem scWithin : FnScope ["context", "sign", "figures", "power"] ["context", "sign", "figures", "power"] (defScope sWithin) := ⟨rfl, rfl, rfl, by decide +kernel, rfl, by decide +kernel, by decide +kernel⟩
theorem ok_within {f f1 fI CN CC CB CT CW : Addr} {cw : Wy → Addr} {fd fd1 fdI : FuncData} (D : Def K mg "within_room" ["context", "sign", "figures", "power"] sWithin f fd) (D_ten_to : Def K mg "ten_to" ["count"] sTenTo f1 fd1) (G_ten_to : FnOk P w K mg base (CX1 P w) 2 f1 fd1 ["count"] spTenTo) (C : CtxM P w K mg base CC CB CT CW cw) (N : Num K mg CN) (M : MakeN P w K mg base CN fI fdI) :
    FnOk P w K mg base (CX1 P w) 3 f fd ["context", "sign", "figures", "power"] (spWithin CN CC) := by
  refine FnOk.up (D.F.ok scWithin (fun vs H Q E h => ?_) (fun cdv A outer s H vs Q E hr h => ?_))
  · obtain ⟨c, v, a, b, xs, ys, sg, f, q, rfl, _⟩ := h
    rfl
  · obtain ⟨c, v, a, b, xs, ys, sg, fg, q, rfl, hc, ok, k⟩ := h
    have hx : Catches (cxOf CX0 P w K mg base ["context", "sign", "figures", "power"] "within_room" (defScope sWithin) f cdv A outer s H E).nox EKF := catches0
    refine ⟨_, (pss_cons (ps_if (pt_cmpR op_eq (pv 2) (pcall D_ten_to G_ten_to hr hx (pa_cons (pe_fld (pv 0) rfl) pa_nil)) (nomark _)) (pss_one (ps_ret (pmake M.m (FnOk.up M.g) hr N.g M.b .nil hx (pa_cons pe_str (pa_cons (pv 1) (pa_cons (pe_op op_fdivK (pv 2) pe_int) (pa_cons (pe_op op_add (pv 3) pe_int) pa_nil))))))) pss_nil)
      (pss_one (ps_ret (pmake M.m (FnOk.up M.g) hr N.g M.b .nil hx (pa_cons pe_str (pa_cons (pv 1) (pa_cons (pv 2) (pa_cons (pv 3) pa_nil)))))))), ?_⟩
    have d10 : (0 : Int) < 10 ∧ (10 : Int).natAbs.log2 < 9000 := ⟨by decide, by decide +kernel⟩
    obtain ⟨⟨dx, e⟩, _, _⟩ := id hc
    have r1 := ok.r1; have r2 := ok.r2
    refine ⟨_, rfl, _, rfl, c, CC, dx, _, _, rfl, e, C.c.cl, C.c.n_room, ctx_room _ _ _ _ _ _, v.r.toNat, (by rw [Int.toNat_of_nonneg (by omega)]; rfl), by omega, rfl, _, rfl, ?_⟩
    unfold roomI at k
    refine iteD (fun h => ?_) (fun h => ?_)
    · have h : fg = tenI v.r := by injection h
      rw [if_pos h] at k
      exact ⟨_, rfl, _, rfl, _, _, rfl, rfl, d10, _, rfl, _, _, rfl, rfl, madeN k⟩
    · have h : ¬ fg = tenI v.r := fun z => h (congrArg V.int z)
      rw [if_neg h] at k
      exact ⟨_, rfl, _, rfl, _, rfl, madeN k⟩
def spBeyond (CN CC : Addr) : Sp := fun vs H Q _ => ∃ c v a b xs ys n x, vs = [.ref c, .ref n] ∧ CtxV CC H c v a b xs ys ∧ NumIs CN H n x ∧ x.f.natAbs < 2 ^ 300 ∧ Q (.bl (beyondI v.m x.f x.p)) H
theorem scBeyond : FnScope ["context", "number"] ["context", "number"] (defScope sBeyond) := ⟨rfl, rfl, rfl, by decide +kernel, rfl, by decide +kernel, by decide +kernel⟩
theorem ok_beyond {f f1 CN CC CB CT CW : Addr} {cw : Wy → Addr} {fd fd1 : FuncData} (D : Def K mg "is_beyond" ["context", "number"] sBeyond f fd) (D_lead_of : Def K mg "lead_of" ["number"] sLead f1 fd1) (G_lead_of : FnOk P w K mg base (CX1 P w) 1 f1 fd1 ["number"] (spLead CN)) (C : CtxM P w K mg base CC CB CT CW cw) (N : Num K mg CN) :
    FnOk P w K mg base (CX1 P w) 2 f fd ["context", "number"] (spBeyond CN CC) := by
  refine FnOk.up (D.F.ok scBeyond (fun vs H Q E h => ?_) (fun cdv A outer s H vs Q E hr h => ?_))
  · obtain ⟨c, v, a, b, xs, ys, n, x, rfl, _⟩ := h
    rfl
  · obtain ⟨c, v, a, b, xs, ys, n, x, rfl, hc, hn, hf, k⟩ := h
    have hx : Catches (cxOf CX0 P w K mg base ["context", "number"] "is_beyond" (defScope sBeyond) f cdv A outer s H E).nox EKF := catches0
    refine ⟨_, (pss_one (ps_ret (pe_and (pe_cmpR op_ne (pe_fld (pv 1) rfl) pe_int (nomark _)) (pe_one (pe_cmpR op_gt (pcall D_lead_of G_lead_of hr hx (pa_cons (pv 1) pa_nil)) (pe_fld (pv 0) rfl) (nomark _)))))), ?_⟩
    obtain ⟨⟨dx, e⟩, _, _⟩ := id hc
    obtain ⟨dn, en⟩ := id hn
    unfold beyondI at k
    refine ⟨_, rfl, n, CN, dn, _, _, rfl, en, N.cl, N.n3, num3 _ _ _ _, rfl, _, rfl, ?_⟩
    by_cases h0 : x.f = 0
    · rw [if_pos h0] at k
      rw [decide_eq_true (congrArg V.int h0)]
      exact iteF k
    · rw [if_neg h0] at k
      rw [decide_eq_false (fun q => h0 (by injection q) : ¬ V.int x.f = V.int 0)]
      exact iteT ⟨_, rfl, n, _, _, _, _, rfl, hn, hf, _, rfl, c, CC, dx, _, _, rfl, e, C.c.cl, C.c.n_most, ctx_most _ _ _ _ _ _, _, _, rfl, rfl, k⟩
def spNines (CN CC : Addr) : Sp := fun vs H Q _ => ∃ c v a b xs ys, ∃ s : Int, vs = [.ref c, .int s] ∧ CtxV CC H c v a b xs ys ∧ v.Ok ∧ ∀ n H', H n = none → Same H H' → NumIs CN H' n ⟨.plain, s, tenI v.r - 1, v.m - v.r + 1⟩ → Q (.ref n) H'
theorem scNines : FnScope ["context", "sign"] ["context", "sign"] (defScope sNines) := ⟨rfl, rfl, rfl, by decide +kernel, rfl, by decide +kernel, by decide +kernel⟩
theorem ok_nines {f f1 fI CN CC CB CT CW : Addr} {cw : Wy → Addr} {fd fd1 fdI : FuncData} (D : Def K mg "nines" ["context", "sign"] sNines f fd) (D_ten_to : Def K mg "ten_to" ["count"] sTenTo f1 fd1) (G_ten_to : FnOk P w K mg base (CX1 P w) 2 f1 fd1 ["count"] spTenTo) (C : CtxM P w K mg base CC CB CT CW cw) (N : Num K mg CN) (M : MakeN P w K mg base CN fI fdI) :
    FnOk P w K mg base (CX1 P w) 3 f fd ["context", "sign"] (spNines CN CC) := by
  refine FnOk.up (D.F.ok scNines (fun vs H Q E h => ?_) (fun cdv A outer s H vs Q E hr h => ?_))
  · obtain ⟨c, v, a, b, xs, ys, sg, rfl, _⟩ := h
    rfl
  · obtain ⟨c, v, a, b, xs, ys, sg, rfl, hc, ok, k⟩ := h
    have hx : Catches (cxOf CX0 P w K mg base ["context", "sign"] "nines" (defScope sNines) f cdv A outer s H E).nox EKF := catches0
    refine ⟨_, (pss_one (ps_ret (pmake M.m (FnOk.up M.g) hr N.g M.b .nil hx (pa_cons pe_str (pa_cons (pv 1) (pa_cons (pe_op op_sub (pcall D_ten_to G_ten_to hr hx (pa_cons (pe_fld (pv 0) rfl) pa_nil)) pe_int) (pa_cons (pe_op op_add (pe_op op_sub (pe_fld (pv 0) rfl) (pe_fld (pv 0) rfl)) pe_int) pa_nil))))))), ?_⟩
    obtain ⟨⟨dx, e⟩, _, _⟩ := id hc
    have r1 := ok.r1; have r2 := ok.r2
    exact ⟨_, rfl, _, rfl, c, CC, dx, _, _, rfl, e, C.c.cl, C.c.n_room, ctx_room _ _ _ _ _ _, v.r.toNat, (by rw [Int.toNat_of_nonneg (by omega)]; rfl), by omega, _, _, rfl, rfl, _, rfl, c, CC, dx, _, _, rfl, e, C.c.cl, C.c.n_most, ctx_most _ _ _ _ _ _, _, rfl, c, CC, dx, _, _, rfl, e, C.c.cl, C.c.n_room, ctx_room _ _ _ _ _ _, _, _, rfl, rfl, _, _, rfl, rfl, madeN k⟩
def spBurst (CN CC : Addr) : Sp := fun vs H Q _ => ∃ c v a b xs ys, ∃ s : Int, vs = [.ref c, .int s] ∧ CtxV CC H c v a b xs ys ∧ v.Ok ∧ 0 ≤ s ∧ s ≤ 1 ∧ ∀ n H', Same H H' → NumIs CN H' n (burstN v s) → Q (.ref n) H'
theorem scBurst : FnScope ["context", "sign"] ["context", "sign"] (defScope sBurst) := ⟨rfl, rfl, rfl, by decide +kernel, rfl, by decide +kernel, by decide +kernel⟩
theorem ok_burst {f f1 f2 CN CN' CC CB CT CW : Addr} {cw : Wy → Addr} {fd fd1 fd2 : FuncData} (D : Def K mg "burst" ["context", "sign"] sBurst f fd) (D_nines : Def K mg "nines" ["context", "sign"] sNines f1 fd1) (G_nines : FnOk P w K mg base (CX1 P w) 3 f1 fd1 ["context", "sign"] (spNines CN CC)) (D_end : Def K mg "end" ["sign"] sEnd f2 fd2) (G_end : FnOk P w K mg base (CX1 P w) 3 f2 fd2 ["sign"] (spEnd K CN CN')) (C : CtxM P w K mg base CC CB CT CW cw) :
    FnOk P w K mg base (CX1 P w) 4 f fd ["context", "sign"] (spBurst CN CC) := by
  refine FnOk.up (D.F.ok scBurst (fun vs H Q E h => ?_) (fun cdv A outer s H vs Q E hr h => ?_))
  · obtain ⟨c, v, a, b, xs, ys, sg, rfl, _⟩ := h
    rfl
  · obtain ⟨c, v, a, b, xs, ys, sg, rfl, hc, ok, s0, s1, k⟩ := h
    have hx : Catches (cxOf CX0 P w K mg base ["context", "sign"] "burst" (defScope sBurst) f cdv A outer s H E).nox EKF := catches0
    obtain ⟨fW, fdW, mW, gW, bW⟩ := C.way
    obtain ⟨fU, fdU, mU, gU, bU⟩ := C.e v.y
    refine ⟨_, (pss_one (ps_ret (pe_ifExp (pt_val (pmeth (pmeth0 (pv 0) C.c.cl mW gW hr bW .nil hx) (C.wc v.y).cl mU gU hr bU .nil hx (pa_cons (pv 1) pa_nil))) (pcall D_end G_end hr hx (pa_cons (pv 1) pa_nil)) (pcall D_nines G_nines hr hx (pa_cons (pv 0) (pa_cons (pv 1) pa_nil)))))), ?_⟩
    obtain ⟨⟨dx, e⟩, _, _⟩ := id hc
    unfold burstN at k
    refine ⟨_, rfl, c, dx, _, rfl, e, ctx_no_way _ _ _ _ _ _, c, v.r, v.y, v.l, v.m, a, b, _, _, rfl, hc, fun q dq H1 nq t1 eq => ?_⟩
    refine ⟨q, dq, _, rfl, eq, rfl, _, rfl, q, sg, rfl, fun H2 t2 => ⟨_, rfl, ?_⟩⟩
    have t3 := t1.trans t2
    cases g : v.y.toEnd sg with
    | true =>
      rw [g, if_pos rfl] at k
      exact iteT ⟨_, rfl, _, rfl, .inl ⟨⟨sg, rfl, s0, s1⟩, fun n H' _ sm num => k n H' (t3.trans sm) num⟩⟩
    | false =>
      rw [g, if_neg Bool.false_ne_true] at k
      exact iteF ⟨_, rfl, _, rfl, c, v, a, b, xs, ys, sg, rfl, hc.same t3, ok, fun n H' _ sm num => k n H' (t3.trans sm) num⟩
def spSigRest : Sp := fun vs H Q _ => ∃ (pt : Int) (cut : Bool), vs = [.int pt, .bl cut] ∧ ∀ l, H l = none → Q (.ref l) (upd H l (.lst ((restS pt cut).map V.str)))
theorem scSigRest : FnScope ["part", "is_cut"] ["part", "is_cut"] (defScope sSigRest) := ⟨rfl, rfl, rfl, by decide +kernel, rfl, by decide +kernel, by decide +kernel⟩
theorem ok_sigRest {f : Addr} {fd : FuncData} (D : Def K mg "signals_of_rest" ["part", "is_cut"] sSigRest f fd) : FnOk P w K mg base (CX1 P w) 1 f fd ["part", "is_cut"] spSigRest := by
  refine FnOk.up (D.F.ok scSigRest (fun vs H Q E h => ?_) (fun cdv A outer s H vs Q E hr h => ?_))
  · obtain ⟨pt, cut, rfl, _⟩ := h
    rfl
  · obtain ⟨pt, cut, rfl, k⟩ := h
    refine ⟨_, (pss_cons (ps_if (pt_cmpR op_ne (pv 0) pe_int (nomark _)) (pss_one (ps_ret (pe_lst (pa_cons pe_str (pa_cons pe_str pa_nil))))) pss_nil)
      (pss_one (ps_ret (pe_ifExp (pt_val (pv 1)) (pe_lst (pa_cons pe_str pa_nil)) (pe_lst pa_nil))))), ?_⟩
    unfold restS at k
    refine ⟨_, rfl, rfl, _, rfl, ?_⟩
    by_cases h0 : pt = 0
    · subst h0
      rw [if_pos rfl] at k
      refine iteNS rfl ⟨_, rfl, _, rfl, ?_⟩
      cases cut with
      | true => exact iteT ⟨line1000 (by decide), k⟩
      | false => exact iteF ⟨line1000 (by decide), k⟩
    · rw [if_neg h0] at k
      rw [decide_eq_false (fun q => h0 (by injection q) : ¬ V.int pt = V.int 0)]
      exact iteT ⟨line1000 (by decide), k⟩
def spSigLead (CC : Addr) : Sp := fun vs H Q _ => ∃ c v a b xs ys, ∃ L pt : Int, vs = [.ref c, .int L, .int pt] ∧ CtxV CC H c v a b xs ys ∧ ∀ l, H l = none → Q (.ref l) (upd H l (.lst ((leadS v.l L pt).map V.str)))
theorem scSigLead : FnScope ["context", "lead", "part"] ["context", "lead", "part"] (defScope sSigLead) := ⟨rfl, rfl, rfl, by decide +kernel, rfl, by decide +kernel, by decide +kernel⟩
theorem ok_sigLead {f CC CB CT CW : Addr} {cw : Wy → Addr} {fd : FuncData} (D : Def K mg "signals_of_lead" ["context", "lead", "part"] sSigLead f fd) (C : CtxM P w K mg base CC CB CT CW cw) : FnOk P w K mg base (CX1 P w) 1 f fd ["context", "lead", "part"] (spSigLead CC) := by
  refine FnOk.up (D.F.ok scSigLead (fun vs H Q E h => ?_) (fun cdv A outer s H vs Q E hr h => ?_))
  · obtain ⟨c, v, a, b, xs, ys, L, pt, rfl, _⟩ := h
    rfl
  · obtain ⟨c, v, a, b, xs, ys, L, pt, rfl, hc, k⟩ := h
    refine ⟨_, (pss_cons (ps_if (pt_cmpR op_ge (pv 1) (pe_fld (pv 0) rfl) (nomark _)) (pss_one (ps_ret (pe_lst pa_nil))) pss_nil)
      (pss_one (ps_ret (pe_ifExp (pt_cmpR op_eq (pv 2) pe_int (nomark _)) (pe_lst (pa_cons pe_str pa_nil)) (pe_lst (pa_cons pe_str (pa_cons pe_str pa_nil))))))), ?_⟩
    obtain ⟨⟨dx, e⟩, _, _⟩ := id hc
    unfold leadS at k
    refine ⟨_, rfl, _, rfl, c, CC, dx, _, _, rfl, e, C.c.cl, C.c.n_least, ctx_least _ _ _ _ _ _, _, _, rfl, rfl, _, rfl, iteD (fun h => ?_) (fun h => ?_)⟩
    · rw [if_pos h] at k
      exact ⟨line1000 (by decide), k⟩
    · rw [if_neg h] at k
      refine ⟨_, rfl, rfl, _, rfl, iteD (fun h => ?_) (fun h => ?_)⟩
      · rw [if_pos (by injection h)] at k
        exact ⟨line1000 (by decide), k⟩
      · rw [if_neg fun q => h (congrArg V.int q)] at k
        exact ⟨line1000 (by decide), k⟩
def spNought (CN CC : Addr) : Sp := fun vs H Q _ => ∃ c v a b xs ys, ∃ s i : Int, vs = [.ref c, .int s, .int i] ∧ CtxV CC H c v a b xs ys ∧ ∀ n H', H n = none → Same H H' → NumIs CN H' n ⟨.plain, s, 0, minI (maxI i (v.l - v.r + 1)) v.m⟩ → Q (.ref n) H'
theorem scNought : FnScope ["context", "sign", "ideal"] ["context", "sign", "ideal"] (defScope sNought) := ⟨rfl, rfl, rfl, by decide +kernel, rfl, by decide +kernel, by decide +kernel⟩
theorem ok_nought {f fI CN CC CB CT CW : Addr} {cw : Wy → Addr} {fd fdI : FuncData} (D : Def K mg "nought" ["context", "sign", "ideal"] sNought f fd) (C : CtxM P w K mg base CC CB CT CW cw) (N : Num K mg CN) (M : MakeN P w K mg base CN fI fdI) (O : Own mg) : FnOk P w K mg base (CX1 P w) 3 f fd ["context", "sign", "ideal"] (spNought CN CC) := by
  refine FnOk.up (D.F.ok scNought (fun vs H Q E h => ?_) (fun cdv A outer s H vs Q E hr h => ?_))
  · obtain ⟨c, v, a, b, xs, ys, sg, i, rfl, _⟩ := h
    rfl
  · obtain ⟨c, v, a, b, xs, ys, sg, i, rfl, hc, k⟩ := h
    have hx : Catches (cxOf CX0 P w K mg base ["context", "sign", "ideal"] "nought" (defScope sNought) f cdv A outer s H E).nox EKF := catches0
    obtain ⟨fL, fdL, mL, gL, bL⟩ := C.low
    refine ⟨_, (pss_one (ps_ret (pmake M.m (FnOk.up M.g) hr N.g M.b .nil hx (pa_cons pe_str (pa_cons (pv 1) (pa_cons pe_int (pa_cons (pe_callB (call_min2 rfl) (by rfl) O.min_ boot_min (pa_cons (pe_callB (call_max2 rfl) (by rfl) O.max_ boot_max (pa_cons (pv 2) (pa_cons (pmeth0 (pv 0) C.c.cl mL gL hr bL .nil hx) pa_nil))) (pa_cons (pe_fld (pv 0) rfl) pa_nil))) pa_nil))))))), ?_⟩
    obtain ⟨⟨dx, e⟩, _, _⟩ := id hc
    exact ⟨_, rfl, _, rfl, _, rfl, c, dx, _, rfl, e, ctx_no_lowest _ _ _ _ _ _, c, v.r, v.y, v.l, v.m, a, b, _, _, rfl, hc, _, _, rfl, _, rfl, c, CC, dx, _, _, rfl, e, C.c.cl, C.c.n_most, ctx_most _ _ _ _ _ _, _, _, rfl, madeN k⟩
end
end TR
set_option Elab.async false
set_option linter.all false
set_option maxRecDepth 100000
set_option maxHeartbeats 4000000
namespace TR
open PySem L2 PySem.W PyProof.Rows
seal PE PS PSs PA PT PW PG PGs PI PO
abbrev sSettled : Stmt := (top 32)
abbrev sRounded : Stmt := (top 45)
theorem strip_le (i : Int) : ∀ (n : Nat) (f p : Int), 0 ≤ f → 0 ≤ (strip i n f p).1 ∧ (strip i n f p).1 ≤ f
  | 0, f, p, h => ⟨h, Int.le_refl _⟩
  | n + 1, f, p, h => by
    show 0 ≤ (if f % 10 = 0 then strip i n (f / 10) (p + 1) else (f, p)).1 ∧ (if f % 10 = 0 then strip i n (f / 10) (p + 1) else (f, p)).1 ≤ f
    by_cases z : f % 10 = 0
    · rw [if_pos z]
      have := strip_le i n (f / 10) (p + 1) (by omega)
      omega
    · rw [if_neg z]
      exact ⟨h, Int.le_refl _⟩
theorem shift_lt {t b u1 v1 u2 v2 d : Nat} (h : t * 10 ^ u1 < 10 * (b * 10 ^ v1)) (e : u2 + v1 ≤ u1 + v2 + d) : t * 10 ^ u2 < 10 ^ (d + 1) * (b * 10 ^ v2) := by
  have p : 0 < 10 ^ v1 := Nat.pow_pos (by decide)
  apply Nat.lt_of_mul_lt_mul_right (a := 10 ^ v1)
  calc t * 10 ^ u2 * 10 ^ v1 = t * 10 ^ (u2 + v1) := by rw [Nat.mul_assoc, ← Nat.pow_add]
    _ ≤ t * 10 ^ (u1 + v2 + d) := Nat.mul_le_mul_left t (Nat.pow_le_pow_right (by decide) e)
    _ = t * 10 ^ u1 * (10 ^ v2 * 10 ^ d) := by rw [Nat.mul_assoc, ← Nat.pow_add, ← Nat.pow_add, Nat.add_assoc]
    _ < 10 * (b * 10 ^ v1) * (10 ^ v2 * 10 ^ d) := Nat.mul_lt_mul_of_pos_right h (Nat.mul_pos (Nat.pow_pos (by decide)) (Nat.pow_pos (by decide)))
    _ = 10 ^ (d + 1) * (b * 10 ^ v2) * 10 ^ v1 := by rw [Nat.pow_succ]; ac_rfl
/-- there is room for the whole -/
theorem wh_room {t b s1 s2 r : Int} (ht : Sz t) (hb : Sz b) (h : Lead0 t b s1) (hr : 1 ≤ r) (e : s2 ≤ s1 + (r - 1)) : 0 ≤ whI t b s2 ∧ whI t b s2 < tenI r := by
  obtain ⟨tn, rfl, _, _⟩ := ht.nat
  obtain ⟨bn, rfl, b1, _⟩ := hb.nat
  have lp : 0 < (bn : Int) * tenI (-s2) := Int.mul_pos (by omega) (tenI_pos _)
  refine ⟨Int.ediv_nonneg (Int.mul_nonneg (by omega) (Int.le_of_lt (tenI_pos _))) (Int.le_of_lt lp), ?_⟩
  refine Int.ediv_lt_of_lt_mul lp ?_
  have a : tn * 10 ^ s1.toNat < 10 * (bn * 10 ^ (-s1).toNat) := Int.ofNat_lt.mp h.2
  have c := shift_lt (u2 := s2.toNat) (v2 := (-s2).toNat) (d := (r - 1).toNat) a (by omega)
  rw [show (r - 1).toNat + 1 = r.toNat by omega] at c
  exact Int.ofNat_lt.mpr c
theorem tenI_24 {r : Int} (h : r ≤ 24) : tenI r ≤ 10 ^ 24 := by
  unfold tenI
  have : 10 ^ r.toNat ≤ 10 ^ 24 := Nat.pow_le_pow_right (by decide) (by omega)
  exact Int.ofNat_le.mpr this
theorem near_small {c : Cv} {s wh pt q i : Int} (ok : c.Ok) (h0 : 0 ≤ wh) (h1 : wh < tenI c.r) : (nearI c s wh pt q i).1.natAbs < 2 ^ 300 := by
  have t := tenI_24 ok.r2
  have big : ((10 ^ 24 : Nat) : Int) = 10 ^ 24 := by decide +kernel
  have lt : ∀ z : Int, 0 ≤ z → z ≤ 10 ^ 24 → z.natAbs < 2 ^ 300 := fun z a b => Nat.lt_of_le_of_lt (show z.natAbs ≤ 10 ^ 24 by omega) (by decide +kernel)
  unfold nearI
  split
  · have := strip_le i (i - q).toNat wh q h0
    exact lt _ this.1 (by unfold stripI; omega)
  · have hu : 0 ≤ upI c.y s wh pt ∧ upI c.y s wh pt ≤ tenI c.r := by
      have e : upI c.y s wh pt = wh + 1 ∨ upI c.y s wh pt = wh := by
        unfold upI
        generalize (if pt = 0 then false else c.y.goes s (wh % 10) pt) = g
        cases g with
        | true => exact .inl rfl
        | false => exact .inr rfl
      omega
    generalize upI c.y s wh pt = u at hu
    unfold roomI
    split
    · exact lt (u / 10) (by omega) (by omega)
    · exact lt u (by omega) (by omega)
section
variable {P : Program} {w : World} {K : Frag} {mg : Str → Option Value} {base : Heap}
theorem scFinest : FnScope ["context", "exact"] ["context", "exact"] (defScope sFinest) := ⟨rfl, rfl, rfl, by decide +kernel, rfl, by decide +kernel, by decide +kernel⟩
/-- where the finest figure stands -/
def Cv.fin (v : Cv) (L : Int) : Int := maxI (L - v.r + 1) (v.l - v.r + 1)
def settleR (v : Cv) (s t bo n L i : Int) : Nm × List Str := settleI v s (whI t bo (n - v.fin L)) (ptI t bo (n - v.fin L)) L (v.fin L) i
/-- how it ends: a number, or Trapped -/
def Ends2 (CN CC CT : Addr) (H : Hp) (c : Addr) (v : Cv) (b : Addr) (xs ys : List Str) (res : Nm × List Str) (Q : VK) (E : XK) : Prop :=
  (hit ys res.2 = none → ∀ m a' H', Exc c H H' → CtxV CC H' c v a' b (ordS (xs ++ res.2)) ys → NumIs CN H' m res.1 → Q (.ref m) H') ∧
  (∀ z, hit ys res.2 = some z → ∀ a' d H', Exc c H H' → CtxV CC H' c v a' b (ordS (xs ++ res.2)) ys → H' d = some (.xd [("signal", .str z)]) → E (.ref CT) (some d) H')
def spSettled (CN CC CT CR : Addr) : Sp := fun vs H Q E => ∃ c v a b xs ys x, ∃ t bo n L s i : Int, vs = [.ref c, .int s, .ref x, .int i] ∧ CtxV CC H c v a b xs ys ∧ v.Ok ∧ xs.length ≤ 900 ∧ RatAt CR H x t bo n ∧ Sz t ∧ Sz bo ∧ Lead0 t bo (n - L) ∧ -1500 ≤ n - v.fin L ∧ n - v.fin L ≤ 1500 ∧ 0 ≤ s ∧ s ≤ 1 ∧
  Ends2 CN CC CT H c v b xs ys (settleR v s t bo n L i) Q E
theorem scSettled : FnScope ["context", "sign", "exact", "ideal", "finest", "pair", "number", "names"] ["context", "sign", "exact", "ideal"] (defScope sSettled) := ⟨rfl, rfl, rfl, by decide +kernel, rfl, by decide +kernel, by decide +kernel⟩
theorem burst_sig : ∀ z ∈ (["burst", "off", "cut"] : List Str), z ∈ sigS := by decide +kernel
theorem rest_sig {pt : Int} {cut : Bool} {l L : Int} : ∀ z ∈ restS pt cut ++ leadS l L pt, z ∈ sigS := by
  have r : ∀ z ∈ restS pt cut, z ∈ sigS := by
    unfold restS
    split
    · split
      · decide +kernel
      · decide +kernel
    · decide +kernel
  have d : ∀ z ∈ leadS l L pt, z ∈ sigS := by
    unfold leadS
    split
    · decide +kernel
    · split
      · decide +kernel
      · decide +kernel
  intro z hz
  rcases List.mem_append.mp hz with h | h
  · exact r z h
  · exact d z h
theorem rest_len {pt : Int} {cut : Bool} {l L : Int} : (restS pt cut ++ leadS l L pt).length ≤ 4 := by
  have r : (restS pt cut).length ≤ 2 := by
    unfold restS
    split
    · split <;> decide
    · decide
  have d : (leadS l L pt).length ≤ 2 := by
    unfold leadS
    split
    · decide
    · split <;> decide
  rw [List.length_append]
  omega
/-- what a number is rounded to -/
def roundR (v : Cv) (x : Nm) (L : Int) : Nm × List Str := match x.k with
  | .plain => if x.f = 0 then (⟨.plain, x.s, 0, minI (maxI x.p (v.l - v.r + 1)) v.m⟩, []) else settleR v x.s x.f 1 x.p L x.p
  | _ => (x, [])
def spRounded (K : Frag) (CN CC CB' CT : Addr) : Sp := fun vs H Q E => ∃ c v a b xs ys u, vs = [.ref c, u] ∧ CtxV CC H c v a b xs ys ∧ v.Ok ∧ xs.length ≤ 900 ∧ ordS xs = xs ∧
  ((∃ n x L, u = .ref n ∧ NumIs CN H n x ∧ x.Ok ∧ (x.k = .plain → x.f ≠ 0 → Lead0 x.f 1 (x.p - L)) ∧ Ends2 CN CC CT H c v b xs ys (roundR v x L) Q E) ∨ (NotNum K CN H u ∧ E (.ref CB') none H))
end
end TR
set_option Elab.async false
set_option linter.all false
set_option maxRecDepth 100000
set_option maxHeartbeats 4000000
namespace TR
open PySem L2 PySem.W PyProof.Rows
seal PE PS PSs PA PT PW PG PGs PI PO
/-! ### exact values of any class -/
structure Exa where
  At : Hp → Addr → Prop
  L : Int
  wh : Int → Int
  pt : Int → Int
  okq : Int → Prop
structure ExV (CR : Addr) (sp1 sp2 : Sp) (e : Exa) : Prop where
  same : ∀ H H' x, e.At H x → Same H H' → e.At H' x
  ins : ∀ H x, e.At H x → ∃ dx fs, H x = some (.ins CR dx fs) ∧ fs.lookup ("first" : Str) = none ∧ fs.lookup ("at" : Str) = none
  first : ∀ H x (Q : VK) (E : XK), e.At H x → (∀ H', Same H H' → Q (.int e.L) H') → sp1 [.ref x] H Q E
  at_ : ∀ H x q (Q : VK) (E : XK), e.At H x → e.okq q → (∀ p H', Same H H' → H p = none → H' p = some (.tup [.int (e.wh q), .int (e.pt q)]) → Q (.ref p) H') → sp2 [.ref x, .int q] H Q E
structure ExM (P : Program) (w : World) (K : Frag) (mg : Str → Option Value) (base : Heap) (CR f1 f2 : Addr) (fd1 fd2 : FuncData) (sp1 sp2 : Sp) : Prop where
  cl : Cls K CR
  m1 : Meth K CR "first" f1
  g1 : FnOk P w K mg base (CX1 P w) 4 f1 fd1 ["self"] sp1
  b1 : Binds K fd1 ["self"] []
  m2 : Meth K CR "at" f2
  g2 : FnOk P w K mg base (CX1 P w) 5 f2 fd2 ["self", "power"] sp2
  b2 : Binds K fd2 ["self", "power"] []
theorem FnOk.lift {P : Program} {w : World} {K : Frag} {mg : Str → Option Value} {base : Heap} {CX : CXT} {j k : Nat} {f : Addr} {fd : FuncData} {ps : List Str} {sp : Sp} (h : j ≤ k) (F : FnOk P w K mg base CX j f fd ps sp) : FnOk P w K mg base CX k f fd ps sp :=
  ⟨F.len, fun A outer s H args us vs Q E hr => F.run A outer s H args us vs Q E (hr.mono h)⟩
theorem FnOk.weak {P : Program} {w : World} {K : Frag} {mg : Str → Option Value} {base : Heap} {CX : CXT} {k : Nat} {f : Addr} {fd : FuncData} {ps : List Str} {sp sp' : Sp} (h : ∀ vs H Q E, sp' vs H Q E → sp vs H Q E) (F : FnOk P w K mg base CX k f fd ps sp) : FnOk P w K mg base CX k f fd ps sp' :=
  ⟨fun vs H Q E z => F.len vs H Q E (h _ _ _ _ z), fun A outer s H args us vs Q E hr e0 hb r z => F.run A outer s H args us vs Q E hr e0 hb r (h _ _ _ _ z)⟩
theorem FnOk.both {P : Program} {w : World} {K : Frag} {mg : Str → Option Value} {base : Heap} {CX : CXT} {k : Nat} {f : Addr} {fd : FuncData} {ps : List Str} {sp sp' : Sp} (F : FnOk P w K mg base CX k f fd ps sp) (G : FnOk P w K mg base CX k f fd ps sp') : FnOk P w K mg base CX k f fd ps (fun vs H Q E => sp vs H Q E ∨ sp' vs H Q E) :=
  ⟨fun vs H Q E z => z.elim (F.len vs H Q E) (G.len vs H Q E), fun A outer s H args us vs Q E hr e0 hb r z => z.elim (F.run A outer s H args us vs Q E hr e0 hb r) (G.run A outer s H args us vs Q E hr e0 hb r)⟩
section
variable {P : Program} {w : World} {K : Frag} {mg : Str → Option Value} {base : Heap}
def spFinestX (CC CR : Addr) (sp1 sp2 : Sp) : Sp := fun vs H Q _ => ∃ c v a b xs ys x, ∃ ex : Exa, vs = [.ref c, .ref x] ∧ CtxV CC H c v a b xs ys ∧ ExV CR sp1 sp2 ex ∧ ex.At H x ∧ ∀ H', Same H H' → Q (.int (maxI (ex.L - v.r + 1) (v.l - v.r + 1))) H'
theorem ok_finestX {f CC CB CT CW CR CE g1 g2 : Addr} {cw : Wy → Addr} {fd gd1 gd2 : FuncData} (D : Def K mg "finest_power" ["context", "exact"] sFinest f fd) (C : CtxM P w K mg base CC CB CT CW cw) {sp1 sp2 : Sp} (RM : ExM P w K mg base CR g1 g2 gd1 gd2 sp1 sp2) (O : Own mg) : FnOk P w K mg base (CX1 P w) 5 f fd ["context", "exact"] (spFinestX CC CR sp1 sp2) := by
  refine FnOk.up (D.F.ok scFinest (fun vs H Q E h => ?_) (fun cdv A outer s H vs Q E hr h => ?_))
  · obtain ⟨c, v, a, b, xs, ys, x, ex, rfl, _⟩ := h
    rfl
  · obtain ⟨c, v, a, b, xs, ys, x, ex, rfl, hc, ev, ra, k⟩ := h
    have hx : Catches (cxOf CX0 P w K mg base ["context", "exact"] "finest_power" (defScope sFinest) f cdv A outer s H E).nox EKF := catches0
    obtain ⟨fL, fdL, mL, gL, bL⟩ := C.low
    refine ⟨_, (pss_one (ps_ret (pe_callB (call_max2 rfl) (by rfl) O.max_ boot_max (pa_cons (pe_op op_add (pe_op op_sub (pmeth0 (pv 1) RM.cl RM.m1 RM.g1 hr RM.b1 .nil hx) (pe_fld (pv 0) rfl)) pe_int) (pa_cons (pmeth0 (pv 0) C.c.cl mL gL hr bL .nil hx) pa_nil))))), ?_⟩
    obtain ⟨dr, fs, er, nf, _⟩ := ev.ins _ _ ra
    refine ⟨_, rfl, x, dr, _, rfl, er, nf, ev.first _ _ _ _ ra fun H1 s1 => ?_⟩
    have hc1 := hc.same s1
    obtain ⟨⟨dx, e⟩, _, _⟩ := id hc1
    exact ⟨_, rfl, c, CC, dx, _, _, rfl, e, C.c.cl, C.c.n_room, ctx_room _ _ _ _ _ _, _, _, rfl, rfl, _, _, rfl, rfl, _, rfl, c, dx, _, rfl, e, ctx_no_lowest _ _ _ _ _ _, c, v.r, v.y, v.l, v.m, a, b, _, _, rfl, hc1, _, _, rfl, k H1 s1⟩
def spSettledX (CN CC CT CR : Addr) (sp1 sp2 : Sp) : Sp := fun vs H Q E => ∃ c v a b xs ys x, ∃ (ex : Exa) (s i : Int), vs = [.ref c, .int s, .ref x, .int i] ∧ CtxV CC H c v a b xs ys ∧ v.Ok ∧ xs.length ≤ 900 ∧ ExV CR sp1 sp2 ex ∧ ex.At H x ∧ ex.okq (v.fin ex.L) ∧ 0 ≤ ex.wh (v.fin ex.L) ∧ ex.wh (v.fin ex.L) < tenI v.r ∧ 0 ≤ s ∧ s ≤ 1 ∧
  Ends2 CN CC CT H c v b xs ys (settleI v s (ex.wh (v.fin ex.L)) (ex.pt (v.fin ex.L)) ex.L (v.fin ex.L) i) Q E
theorem ok_settledX {f f1 f2 f3 f4 f5 f6 f7 f8 CN CC CB CT CW CR CE g1 g2 : Addr} {cw : Wy → Addr} {sp1 sp2 : Sp} {fd fd1 fd2 fd3 fd4 fd5 fd6 fd7 fd8 gd1 gd2 : FuncData} (D : Def K mg "settled" ["context", "sign", "exact", "ideal"] sSettled f fd)
    (D_finest_power : Def K mg "finest_power" ["context", "exact"] sFinest f1 fd1) (G_finest_power : FnOk P w K mg base (CX1 P w) 5 f1 fd1 ["context", "exact"] (spFinestX CC CR sp1 sp2)) (D_nearest_to : Def K mg "nearest_to" ["ideal", "sign", "figures", "power"] sNearest f2 fd2) (G_nearest_to : FnOk P w K mg base (CX1 P w) 3 f2 fd2 ["ideal", "sign", "figures", "power"] (spNearest CN))
    (D_neighbour : Def K mg "neighbour" ["context", "sign", "pair"] sNeighbour f3 fd3) (G_neighbour : FnOk P w K mg base (CX1 P w) 3 f3 fd3 ["context", "sign", "pair"] (spNeighbour CC)) (D_within_room : Def K mg "within_room" ["context", "sign", "figures", "power"] sWithin f4 fd4) (G_within_room : FnOk P w K mg base (CX1 P w) 3 f4 fd4 ["context", "sign", "figures", "power"] (spWithin CN CC))
    (D_is_beyond : Def K mg "is_beyond" ["context", "number"] sBeyond f5 fd5) (G_is_beyond : FnOk P w K mg base (CX1 P w) 2 f5 fd5 ["context", "number"] (spBeyond CN CC)) (D_burst : Def K mg "burst" ["context", "sign"] sBurst f6 fd6) (G_burst : FnOk P w K mg base (CX1 P w) 4 f6 fd6 ["context", "sign"] (spBurst CN CC))
    (D_signals_of_rest : Def K mg "signals_of_rest" ["part", "is_cut"] sSigRest f7 fd7) (G_signals_of_rest : FnOk P w K mg base (CX1 P w) 1 f7 fd7 ["part", "is_cut"] spSigRest) (D_signals_of_lead : Def K mg "signals_of_lead" ["context", "lead", "part"] sSigLead f8 fd8) (G_signals_of_lead : FnOk P w K mg base (CX1 P w) 1 f8 fd8 ["context", "lead", "part"] (spSigLead CC))
    (C : CtxM P w K mg base CC CB CT CW cw) (RM : ExM P w K mg base CR g1 g2 gd1 gd2 sp1 sp2) (N : Num K mg CN) : FnOk P w K mg base (CX1 P w) 6 f fd ["context", "sign", "exact", "ideal"] (spSettledX CN CC CT CR sp1 sp2) := by
  refine D.F.okE scSettled (fun vs H Q E h => ?_) (fun X cdv A outer s H vs Q E hX hr hx h => ?_)
  · obtain ⟨c, v, a, b, xs, ys, x, ex, sg, i, rfl, _⟩ := h
    rfl
  · subst hX
    obtain ⟨c, v, a, b, xs, ys, x, ex, sg, i, rfl, hc, ok, lx, ev, ra, q0, wr0, wr1, s0, s1, k⟩ := h
    obtain ⟨fR, fdR, mR, gR, bR⟩ := C.raised
    refine ⟨_, (pss_cons (ps_join (ps_set (i := 4) scSettled.nd rfl (Or.inl rfl) (pcall D_finest_power G_finest_power hr hx (pa_cons (pv 0) (pa_cons (pv 2) pa_nil)))))
      (pss_cons (ps_join (ps_set (i := 5) scSettled.nd rfl (Or.inl rfl) (pmeth (pv 2) RM.cl RM.m2 RM.g2 hr RM.b2 .nil hx (pa_cons (pv 4) pa_nil))))
      (pss_cons (ps_join (ps_if (pt_cmpR op_eq (pe_ix ix_tup (pv 5) pe_int (fun _ _ => rfl)) pe_int (nomark _)) (pss_one (ps_set (i := 6) scSettled.nd rfl (Or.inl rfl) (pcall D_nearest_to G_nearest_to hr hx (pa_cons (pv 3) (pa_cons (pv 1) (pa_cons (pe_ix ix_tup (pv 5) pe_int (fun _ _ => rfl)) (pa_cons (pv 4) pa_nil))))))) (pss_one (ps_set (i := 6) scSettled.nd rfl (Or.inl rfl) (pcall D_within_room G_within_room hr hx (pa_cons (pv 0) (pa_cons (pv 1) (pa_cons (pcall D_neighbour G_neighbour hr hx (pa_cons (pv 0) (pa_cons (pv 1) (pa_cons (pv 5) pa_nil)))) (pa_cons (pv 4) pa_nil)))))))))
      (pss_cons (ps_join (ps_if (pt_val (pcall D_is_beyond G_is_beyond hr hx (pa_cons (pv 0) (pa_cons (pv 6) pa_nil)))) (pss_cons (ps_expr (pmeth (pv 0) C.c.cl mR gR hr bR .nil hx (pa_cons (pe_lst (pa_cons pe_str (pa_cons pe_str (pa_cons pe_str pa_nil)))) pa_nil)))
      (pss_one (ps_ret (pcall D_burst G_burst hr hx (pa_cons (pv 0) (pa_cons (pv 1) pa_nil)))))) pss_nil))
      (pss_cons (ps_join (ps_set (i := 7) scSettled.nd rfl (Or.inl rfl) (pcall D_signals_of_rest G_signals_of_rest hr hx (pa_cons (pe_ix ix_tup (pv 5) pe_int (fun _ _ => rfl)) (pa_cons (pe_cmpR op_gt (pe_fld (pv 6) rfl) (pv 3) (nomark _)) pa_nil)))))
      (pss_cons (ps_join (ps_expr (pmeth (pv 0) C.c.cl mR gR hr bR .nil hx (pa_cons (pe_op op_cat (pv 7) (pcall D_signals_of_lead G_signals_of_lead hr hx (pa_cons (pv 0) (pa_cons (pmeth0 (pv 2) RM.cl RM.m1 RM.g1 hr RM.b1 .nil hx) (pa_cons (pe_ix ix_tup (pv 5) pe_int (fun _ _ => rfl)) pa_nil))))) pa_nil))))
      (pss_one (ps_ret (pv 6))))))))), ?_⟩
    have wr := And.intro wr0 wr1
    unfold settleI at k
    -- the finest power
    refine ⟨fun σ' H' => Same H H' ∧ σ' = [some (.ref c), some (.int sg), some (.ref x), some (.int i), some (.int (v.fin ex.L)), none, none, none], ?_, ?_⟩
    · exact ⟨_, rfl, _, rfl, c, v, a, b, xs, ys, x, ex, rfl, hc, ev, ra, fun H' s' => ⟨s', rfl⟩⟩
    rintro σ' H1 ⟨t1, rfl⟩
    have hc1 := hc.same t1
    have ra1 := ev.same _ _ _ ra t1
    -- the pair
    generalize v.fin ex.L = q at *
    generalize hwh : ex.wh q = wh at *
    generalize hpt : ex.pt q = pt at *
    refine ⟨fun σ' H' => ∃ p, Same H1 H' ∧ H' p = some (.tup [.int wh, .int pt]) ∧ σ' = [some (.ref c), some (.int sg), some (.ref x), some (.int i), some (.int q), some (.ref p), none, none], ?_, ?_⟩
    · obtain ⟨dr, fs, er, _, na⟩ := ev.ins _ _ ra1
      refine ⟨_, rfl, x, dr, _, rfl, er, na, _, rfl, ev.at_ _ _ _ _ _ ra1 q0 fun p H' s' np ep => ⟨p, s', ?_, rfl⟩⟩
      rw [hwh, hpt] at ep
      exact ep
    rintro σ' H2 ⟨p, t2, hp, rfl⟩
    have hc2 := hc1.same t2
    -- the number
    have sm := near_small (s := sg) (pt := pt) (q := q) (i := i) ok wr.1 wr.2
    refine ⟨fun σ' H' => ∃ m, Same H2 H' ∧ H2 m = none ∧ NumIs CN H' m ⟨.plain, sg, (nearI v sg wh pt q i).1, (nearI v sg wh pt q i).2⟩ ∧ σ' = [some (.ref c), some (.int sg), some (.ref x), some (.int i), some (.int q), some (.ref p), some (.ref m), none], ?_, ?_⟩
    · refine ⟨_, rfl, p, _, _, _, rfl, rfl, SqT.of hp, atI_nat (j := 1) rfl, rfl, _, rfl, iteD (fun h => ?_) (fun h => ?_)⟩
      · have h : pt = 0 := by injection h
        refine ⟨_, rfl, _, rfl, _, rfl, p, _, _, _, rfl, rfl, SqT.of hp, atI_nat (j := 0) rfl, _, rfl, i, sg, wh, q, rfl, fun m H' nm s' num => ⟨m, s', nm, ?_, rfl⟩⟩
        unfold nearI
        rw [if_pos h]
        exact num
      · have h : ¬ pt = 0 := fun z => h (congrArg V.int z)
        refine ⟨_, rfl, _, rfl, _, rfl, _, rfl, _, rfl, c, v, a, b, xs, ys, p, sg, wh, pt, rfl, hc2, hp, fun H3 s3 => ?_⟩
        refine ⟨_, rfl, c, v, a, b, xs, ys, sg, _, q, rfl, hc2.same s3, ok, fun m H' nm s' num => ⟨m, s3.trans s', s3.free nm, ?_, rfl⟩⟩
        unfold nearI
        rw [if_neg h]
        exact num
    rintro σ' H3 ⟨m, t3, nm, num, rfl⟩
    have hc3 := hc2.same t3
    have tA := (t1.trans t2).trans t3
    have nmc : m ≠ c := fun z => by
      obtain ⟨⟨dx, e⟩, _, _⟩ := hc2
      rw [z, e] at nm
      cases nm
    obtain ⟨⟨dx, e3⟩, _, _⟩ := id hc3
    generalize hf : (nearI v sg wh pt q i).1 = fg at *
    generalize hg : (nearI v sg wh pt q i).2 = pw at *
    -- beyond
    refine ⟨fun σ' H' => H' = H3 ∧ beyondI v.m fg pw = false ∧ σ' = [some (.ref c), some (.int sg), some (.ref x), some (.int i), some (.int q), some (.ref p), some (.ref m), none], ?_, ?_⟩
    · refine ⟨_, rfl, _, rfl, c, v, a, b, xs, ys, m, _, rfl, hc3, num, sm, _, rfl, ?_⟩
      cases e : beyondI v.m fg pw with
      | false => exact iteF ⟨rfl, rfl, rfl⟩
      | true =>
        rw [e, if_pos rfl] at k
        refine iteT ⟨_, rfl, c, dx, _, rfl, e3, ctx_no_raised _ _ _ _ _ _, line1000 (by decide), fun l nl => ?_⟩
        have u := Same.upd (o := .lst [.str "burst", .str "off", .str "cut"]) nl
        refine ⟨c, v.r, v.y, v.l, v.m, a, b, xs, ys, .ref l, rfl, hc3.same u, by omega, .inl ⟨l, ["burst", "off", "cut"], rfl, upd_same, by decide, burst_sig, fun hn a' H4 x4 na ct => ?_, fun z hz a' d H4 x4 na ct nd ed => ?_⟩⟩
        · refine ⟨_, rfl, _, rfl, c, v, a', b, _, ys, sg, rfl, ct, ok, s0, s1, fun m' H5 s5 num5 => k.1 hn m' a' H5 (((Exc.of (tA.trans u)).trans x4).trans (.of s5)) (CtxV.same ct s5) num5⟩
        · exact k.2 z hz a' d H4 ((Exc.of (tA.trans u)).trans x4) ct ed
    rintro σ' H4 ⟨rfl, e, rfl⟩
    rw [e, if_neg Bool.false_ne_true] at k
    -- the names
    refine ⟨fun σ' H' => ∃ l, Same H4 H' ∧ H' l = some (.lst ((restS pt (decide (pw > i))).map V.str)) ∧ σ' = [some (.ref c), some (.int sg), some (.ref x), some (.int i), some (.int q), some (.ref p), some (.ref m), some (.ref l)], ?_, ?_⟩
    · obtain ⟨dn, en⟩ := id num
      exact ⟨_, rfl, p, _, _, _, rfl, rfl, SqT.of (t3 _ _ hp), atI_nat (j := 1) rfl, _, rfl, m, CN, dn, _, _, rfl, en, N.cl, N.n4, num4 _ _ _ _, _, rfl, _, _, rfl, rfl, pt, _, rfl, fun l nl => ⟨l, Same.upd nl, upd_same, rfl⟩⟩
    rintro σ' H5 ⟨l, t5, hl, rfl⟩
    -- what is raised
    refine ⟨fun σ' H' => hit ys (restS pt (decide (pw > i)) ++ leadS v.l ex.L pt) = none ∧ ∃ a', Exc c H H' ∧ CtxV CC H' c v a' b (ordS (xs ++ (restS pt (decide (pw > i)) ++ leadS v.l ex.L pt))) ys ∧ NumIs CN H' m ⟨.plain, sg, fg, pw⟩ ∧ σ' = [some (.ref c), some (.int sg), some (.ref x), some (.int i), some (.int q), some (.ref p), some (.ref m), some (.ref l)], ?_, ?_⟩
    · have ra5 := ev.same _ _ _ ra1 ((t2.trans t3).trans t5)
      obtain ⟨dr, fs, er, nf, _⟩ := ev.ins _ _ ra5
      have hc5 := hc3.same t5
      refine ⟨_, rfl, c, dx, _, rfl, t5 _ _ e3, ctx_no_raised _ _ _ _ _ _, _, rfl, _, rfl, _, rfl, x, dr, _, rfl, er, nf, ev.first _ _ _ _ ra5 fun H6 t6 => ?_⟩
      generalize ex.L = f at *
      refine ⟨_, rfl, p, _, _, _, rfl, rfl, SqT.of ((t5.trans t6) _ _ (t3 _ _ hp)), atI_nat (j := 1) rfl, c, v, a, b, xs, ys, f, pt, rfl, hc5.same t6, fun l2 nl2 => ?_⟩
      have u2 := Same.upd (o := .lst ((leadS v.l f pt).map V.str)) nl2
      have rl := rest_len (pt := pt) (cut := decide (pw > i)) (l := v.l) (L := f)
      rw [List.length_append] at rl
      refine ⟨l, l2, _, _, rfl, rfl, (t6.trans u2) _ _ hl, upd_same, line1000 (by rw [List.length_map, List.length_map]; omega), fun l3 nl3 => ?_⟩
      have u3 := Same.upd (o := .lst ((restS pt (decide (pw > i))).map V.str ++ (leadS v.l f pt).map V.str)) nl3
      have tB := (t6.trans u2).trans u3
      have num7 := (num.same t5).same tB
      obtain ⟨dn7, en7⟩ := id num7
      have keep : ∀ {H' : Hp}, Exc c _ H' → NumIs CN H' m ⟨.plain, sg, fg, pw⟩ := fun x7 => ⟨dn7, x7 _ _ en7 nmc⟩
      refine ⟨c, v.r, v.y, v.l, v.m, a, b, xs, ys, .ref l3, rfl, (hc5.same tB), by omega, .inl ⟨l3, restS pt (decide (pw > i)) ++ leadS v.l f pt, rfl, by rw [upd_same, List.map_append], by rw [List.length_append]; omega, rest_sig, fun hn a' H8 x8 na ct => ?_, fun z hz a' d H8 x8 na ct nd ed => ?_⟩⟩
      · exact ⟨hn, a', (Exc.of (tA.trans (t5.trans tB))).trans x8, ct, keep x8, rfl⟩
      · exact k.2 z hz a' d H8 ((Exc.of (tA.trans (t5.trans tB))).trans x8) ct ed
    rintro σ' H6 ⟨hn, a', x6, ct, num6, rfl⟩
    exact ⟨_, rfl, k.1 hn m a' H6 x6 ct num6⟩
/-- a Ratio -/
def ratE (CR : Addr) (t bo n L : Int) : Exa := ⟨fun H x => RatAt CR H x t bo n, L, fun q => whI t bo (n - q), fun q => ptI t bo (n - q), fun q => -1500 ≤ n - q ∧ n - q ≤ 1500⟩
theorem ratV {CR : Addr} {t bo n L : Int} (ht : Sz t) (hb : Sz bo) (hL : Lead0 t bo (n - L)) : ExV CR (spRFirst CR) (spRAt CR) (ratE CR t bo n L) where
  same := fun _ _ _ h s => RatAt.same h s
  ins := fun _ _ h => by
    obtain ⟨dx, e⟩ := h
    exact ⟨dx, _, e, rat_no_first _ _ _, rat_no_at _ _ _⟩
  first := fun H x Q E h k => ⟨x, t, bo, n, rfl, h, ht, hb, fun f H' s ld => by
    have ef : f = L := by
      have := lead_eq (show 0 < bo by have := hb.1; omega) ld hL
      omega
    rw [ef]
    exact k H' s⟩
  at_ := fun H x q Q E h ok k => ⟨x, t, bo, n, q, rfl, h, ht, hb, ok.1, ok.2, fun p H' s np ep => k p H' s np ep⟩
theorem ratM {CR CE g1 g2 : Addr} {gd1 gd2 : FuncData} (RM : RatM P w K mg base CR g1 g2 gd1 gd2) (R : RatC K mg CR CE) : ExM P w K mg base CR g1 g2 gd1 gd2 (spRFirst CR) (spRAt CR) := ⟨R.cl, RM.m1, RM.g1, RM.b1, RM.m2, FnOk.lift (by decide) RM.g2, RM.b2⟩
/-- settling a Ratio, out of settling any -/
theorem settled_rat {CN CC CT CR : Addr} {vs : List V} {H : Hp} {Q : VK} {E : XK} (h : spSettled CN CC CT CR vs H Q E) : spSettledX CN CC CT CR (spRFirst CR) (spRAt CR) vs H Q E := by
  obtain ⟨c, v, a, b, xs, ys, x, t, bo, n, L, sg, i, rfl, hc, ok, lx, ra, ht, hb, hL, q0, q1, s0, s1, k⟩ := h
  have wr := wh_room (s2 := n - v.fin L) ht hb hL ok.r1 (by
    unfold Cv.fin maxI
    split <;> omega)
  exact ⟨c, v, a, b, xs, ys, x, ratE CR t bo n L, sg, i, rfl, hc, ok, lx, ratV ht hb hL, ra, ⟨q0, q1⟩, wr.1, wr.2, s0, s1, k⟩
end
end TR
set_option Elab.async false
set_option linter.all false
set_option maxRecDepth 100000
set_option maxHeartbeats 4000000
namespace TR
open PySem L2 PySem.W PyProof.Rows
seal PE PS PSs PA PT PW PG PGs PI PO
def LeadR (t s : Int) : Prop := tenI (-s) ≤ t * tenI s ∧ t * tenI s < 100 * tenI (-s)
/-- the whole root of t * 10 ** s -/
def IsRoot (t s wh : Int) : Prop := 0 ≤ wh ∧ wh * wh * tenI (-s) ≤ t * tenI s ∧ t * tenI s < (wh + 1) * (wh + 1) * tenI (-s)
/-- the part that is left -/
def rptI (t s wh : Int) : Int := if wh * wh * tenI (-s) = t * tenI s then 0 else 1 + (if decide ((2 * wh + 1) * (2 * wh + 1) * tenI (-s) ≤ 4 * (t * tenI s)) = true then 1 else 0) + (if decide ((2 * wh + 1) * (2 * wh + 1) * tenI (-s) < 4 * (t * tenI s)) = true then 1 else 0)
/-- all products are small -/
structure Muls (t s wh : Int) : Prop where
  o1 : IntMulOk t (tenI s)
  o2 : IntMulOk wh wh
  o3 : IntMulOk (wh * wh) (tenI (-s))
  o4 : IntMulOk (wh + 1) (wh + 1)
  o5 : IntMulOk ((wh + 1) * (wh + 1)) (tenI (-s))
  o6 : IntMulOk (2 * wh + 1) (2 * wh + 1)
  o7 : IntMulOk ((2 * wh + 1) * (2 * wh + 1)) (tenI (-s))
theorem leadR_le {t s r : Int} (ht : 0 < t) (h1 : LeadR t s) (h2 : LeadR t r) (hp : (r - s) % 2 = 0) : r ≤ s := by
  apply Classical.byContradiction
  intro h
  have hs : s ≤ r := by omega
  have c := tenI_cross hs
  have g : tenI 2 ≤ tenI (r - s) := tenI_le (by omega)
  have e100 : tenI 2 = 100 := by decide +kernel
  rw [e100] at g
  have p1 := tenI_pos (-s)
  have p2 := tenI_pos (-r)
  have e : t * tenI r * tenI (-s) = t * tenI s * tenI (-r) * tenI (r - s) := by
    calc t * tenI r * tenI (-s) = t * (tenI r * tenI (-s)) := by ac_rfl
      _ = t * (tenI s * tenI (-r) * tenI (r - s)) := by rw [c]
      _ = t * tenI s * tenI (-r) * tenI (r - s) := by ac_rfl
  have a1 : t * tenI r * tenI (-s) < 100 * tenI (-r) * tenI (-s) := Int.mul_lt_mul_of_pos_right h2.2 p1
  have hp : 0 < t * tenI s := Int.mul_pos ht (tenI_pos s)
  have a2 : t * tenI s * tenI (-r) * 100 ≤ t * tenI s * tenI (-r) * tenI (r - s) := Int.mul_le_mul_of_nonneg_left g (Int.le_of_lt (Int.mul_pos hp p2))
  have a3 : tenI (-s) * tenI (-r) ≤ t * tenI s * tenI (-r) := Int.mul_le_mul_of_nonneg_right h1.1 (Int.le_of_lt p2)
  have e2 : 100 * tenI (-r) * tenI (-s) = tenI (-s) * tenI (-r) * 100 := by ac_rfl
  have a4 : tenI (-s) * tenI (-r) * 100 ≤ t * tenI s * tenI (-r) * 100 := Int.mul_le_mul_of_nonneg_right a3 (by decide)
  rw [e, e2] at a1
  exact absurd (Int.lt_of_lt_of_le a1 (Int.le_trans a4 a2)) (Int.lt_irrefl _)
theorem leadR_eq {t n f g : Int} (ht : 0 < t) (h1 : LeadR t (n - 2 * f)) (h2 : LeadR t (n - 2 * g)) : f = g := by
  have a := leadR_le ht h1 h2 (by omega)
  have b := leadR_le ht h2 h1 (by omega)
  omega
/-- a number of the law -/
def SzQ (t : Int) : Prop := 1 ≤ t ∧ t < 10 ^ 61
theorem tenI_small {s : Int} (h : s ≤ 200) : (tenI s).natAbs < 2 ^ 700 := by
  unfold tenI
  rw [Int.natAbs_natCast]
  exact Nat.lt_of_le_of_lt (Nat.pow_le_pow_right (by decide) (show s.toNat ≤ 200 by omega)) (by decide +kernel)
theorem SzQ.small {t : Int} (h : SzQ t) : t.natAbs < 2 ^ 203 := by
  have e : (10 ^ 61 : Int).natAbs < 2 ^ 203 := by decide +kernel
  have := h.1; have := h.2
  omega
theorem p1000 {k : Nat} (h : k ≤ 1000) : (2 : Nat) ^ k ≤ 2 ^ 1000 := Nat.pow_le_pow_right (by decide) h
theorem szq_prod {t s : Int} (ht : SzQ t) (h : s ≤ 200) : (t * tenI s).natAbs < 2 ^ 903 := by
  rw [Int.natAbs_mul]
  exact Nat.lt_of_lt_of_le (Nat.mul_lt_mul'' ht.small (tenI_small h)) (Nat.le_of_eq (Nat.pow_add 2 203 700).symm)
theorem root_small {t s wh : Int} (ht : SzQ t) (h2 : s ≤ 200) (r : IsRoot t s wh) : wh.natAbs < 2 ^ 452 := by
  obtain ⟨w0, w1, _⟩ := r
  obtain ⟨n, rfl⟩ := Int.eq_ofNat_of_zero_le w0
  rw [Int.natAbs_natCast]
  have hh := szq_prod ht h2
  have l1 : (1 : Int) ≤ tenI (-s) := tenI_pos (-s)
  have a : (n : Int) * n * 1 ≤ (n : Int) * n * tenI (-s) := Int.mul_le_mul_of_nonneg_left l1 (Int.mul_nonneg w0 w0)
  have b : (n : Int) * n ≤ t * tenI s := by omega
  have c : n * n < 2 ^ 903 := by
    have : ((n * n : Nat) : Int) ≤ t * tenI s := b
    omega
  apply Classical.byContradiction
  intro z
  have : 2 ^ 452 * 2 ^ 452 ≤ n * n := Nat.mul_le_mul (by omega) (by omega)
  rw [← Nat.pow_add] at this
  have q : (2 : Nat) ^ 903 ≤ 2 ^ (452 + 452) := Nat.pow_le_pow_right (by decide) (by decide)
  exact absurd (Nat.lt_of_lt_of_le c (Nat.le_trans q this)) (Nat.lt_irrefl _)
theorem sq_small {a : Int} {k : Nat} (h : a.natAbs < 2 ^ k) : (a * a).natAbs < 2 ^ (k + k) := by
  rw [Int.natAbs_mul, Nat.pow_add]
  exact Nat.mul_lt_mul'' h h
theorem muls_of {t s wh : Int} (ht : SzQ t) (h1 : -200 ≤ s) (h2 : s ≤ 200) (r : IsRoot t s wh) : Muls t s wh := by
  have rs := root_small ht h2 r
  have w0 := r.1
  have l : (tenI (-s)).natAbs < 2 ^ 1000 := Nat.lt_of_lt_of_le (tenI_small (by omega)) (p1000 (by decide))
  have d : (2 : Nat) ^ 454 = 4 * 2 ^ 452 := by rw [show 454 = 2 + 452 from rfl, Nat.pow_add]
  have e : ∀ {a : Int}, a.natAbs < 2 ^ 454 → a.natAbs < 2 ^ 1000 := fun h => Nat.lt_of_lt_of_le h (p1000 (by decide))
  have e2 : ∀ {a : Int}, a.natAbs < 2 ^ 454 → (a * a).natAbs < 2 ^ 1000 := fun h => Nat.lt_of_lt_of_le (sq_small h) (p1000 (by decide))
  have b1 : wh.natAbs < 2 ^ 454 := by omega
  have b2 : (wh + 1).natAbs < 2 ^ 454 := by omega
  have b3 : (2 * wh + 1).natAbs < 2 ^ 454 := by omega
  exact ⟨mulOk_small (Nat.lt_of_lt_of_le ht.small (p1000 (by decide))) (Nat.lt_of_lt_of_le (tenI_small h2) (p1000 (by decide))), mulOk_small (e b1) (e b1), mulOk_small (e2 b1) l, mulOk_small (e b2) (e b2), mulOk_small (e2 b2) l, mulOk_small (e b3) (e b3), mulOk_small (e2 b3) l⟩
theorem root_le {t s a b : Int} (ha : IsRoot t s a) (hb : IsRoot t s b) : b ≤ a := by
  apply Classical.byContradiction
  intro h
  have p := tenI_pos (-s)
  have q : (a + 1) * (a + 1) ≤ b * b := Int.mul_le_mul (by omega) (by omega) (by have := ha.1; omega) hb.1
  have q2 : (a + 1) * (a + 1) * tenI (-s) ≤ b * b * tenI (-s) := Int.mul_le_mul_of_nonneg_right q (Int.le_of_lt p)
  have := ha.2.2
  have := hb.2.1
  omega
theorem root_eq {t s a b : Int} (ha : IsRoot t s a) (hb : IsRoot t s b) : a = b := Int.le_antisymm (root_le hb ha) (root_le ha hb)
end TR
set_option Elab.async false
set_option linter.all false
set_option maxRecDepth 100000
set_option maxHeartbeats 4000000
namespace TR
open PySem L2 PySem.W PyProof.Rows
seal PE PS PSs PA PT PW PG PGs PI PO
abbrev sQInit : Stmt := (inClass (top 7) 0)
/-! ### the class Root -/
structure RooC (K : Frag) (mg : Str → Option Value) (CR CE : Addr) : Prop where
  g : mg "Root" = some (.ref CR)
  ge : mg "Exact" = some (.ref CE)
  cl : Cls K CR
  n_top : NoAttr K CR "top"
  n_power : NoAttr K CR "power"
  ca : findIn K (.ref CR) "__class__" = some (some (.builtin "object.__class__"))
  sn : specialIn K (.builtin "object.__class__") "__get__" = some (some (.builtin "getset_descriptor.__get__"))
  tk : takesIn K (.builtin "object.__class__") = some true
  ob : mroIn K CR (.type "object") = some true
  up : kitOne K (.ref CR) (.ref CE) = some true
def rooF (t n : V) : List (Str × V) := putF "power" n (putF "top" t [])
theorem roo_lk (t n : V) (x : Str) : (rooF t n).lookup x = if x = "power" then some n else if x = "top" then some t else none := by
  unfold rooF
  rw [lookup_putF, lookup_putF]
  rfl
theorem roo_top (t n : V) : (rooF t n).lookup ("top" : Str) = some t := by rw [roo_lk, if_neg (by decide +kernel), if_pos rfl]
theorem roo_power (t n : V) : (rooF t n).lookup ("power" : Str) = some n := by rw [roo_lk, if_pos rfl]
theorem roo_no_first (t n : V) : (rooF t n).lookup ("first" : Str) = none := by rw [roo_lk, if_neg (by decide +kernel), if_neg (by decide +kernel)]
theorem roo_no_at (t n : V) : (rooF t n).lookup ("at" : Str) = none := by rw [roo_lk, if_neg (by decide +kernel), if_neg (by decide +kernel)]
def RooAt (CR : Addr) (H : Hp) (x : Addr) (t n : Int) : Prop := ∃ dx, H x = some (.ins CR dx (rooF (.int t) (.int n)))
theorem RooAt.same {CR : Addr} {H H' : Hp} {x : Addr} {t n : Int} (h : RooAt CR H x t n) (s : Same H H') : RooAt CR H' x t n := by
  obtain ⟨dx, e⟩ := h
  exact ⟨dx, s _ _ e⟩
theorem RooC.ty {K : Frag} {mg : Str → Option Value} {CR CE : Addr} (R : RooC K mg CR CE) {H : Hp} {x : Addr} {t n : Int} (h : RooAt CR H x t n) : TyE K H (.ref x) (.ref CR) := by
  obtain ⟨dx, e⟩ := h
  exact .of (.ins e R.cl R.ca R.sn R.tk R.ob)
section
variable {P : Program} {w : World} {K : Frag} {mg : Str → Option Value} {base : Heap}
def spQInit (CR : Addr) : Sp := fun vs H Q _ => ∃ (p dx : Addr) (t n : V), vs = [.ref p, t, n] ∧ H p = some (.ins CR dx []) ∧ ∀ H', H' p = some (.ins CR dx (rooF t n)) → Exc p H H' → Q .non H'
theorem scQInit : FnScope ["self", "top", "power"] ["self", "top", "power"] (defScope sQInit) := ⟨rfl, rfl, rfl, by decide +kernel, rfl, by decide +kernel, by decide +kernel⟩
theorem ok_qInit {f CR CE : Addr} {fd : FuncData} {dV : Value} (F : FunD K "__init__" "Root.__init__" sQInit dV f fd) (R : RooC K mg CR CE) : FnOk P w K mg base (CX1 P w) 1 f fd ["self", "top", "power"] (spQInit CR) := by
  refine F.okE scQInit (fun vs H Q E h => ?_) (fun X cdv A outer s H vs Q E hX hr hx h => ?_)
  · obtain ⟨p, dx, a, c, rfl, _⟩ := h
    rfl
  · subst hX
    obtain ⟨p, dx, a, c, rfl, hp, k⟩ := h
    refine ⟨_, (pss_cons (ps_fld (pv 0) (pv 1) rfl)
      (pss_one (ps_fld (pv 0) (pv 2) rfl))), ?_⟩
    have l : ∀ (fs : List (Str × V)) (f : Str) (v : V) (n : Nat), fs.length ≤ n → (putF f v fs).length ≤ n + 1 := fun fs f v n h => Nat.le_trans (length_putF f v fs) (Nat.succ_le_succ h)
    refine ⟨_, rfl, _, rfl, p, CR, dx, [], rfl, hp, R.cl, R.n_top, (by show 0 < 1000; decide), ?_⟩
    refine ⟨_, rfl, _, rfl, p, CR, dx, _, rfl, upd_same, R.cl, R.n_power, Nat.lt_of_le_of_lt (l _ _ _ 0 (Nat.le_refl _)) (by decide), ?_⟩
    refine k _ upd_same fun b o e hb => ?_
    rw [upd_ne hb, upd_ne hb]
    exact e
def spQFirst (CR : Addr) : Sp := fun vs H Q _ => ∃ x t n, vs = [.ref x] ∧ RooAt CR H x t n ∧ SzQ t ∧ -900 ≤ n ∧ n ≤ 900 ∧ ∀ f H', Same H H' → LeadR t (n - 2 * f) → Q (.int f) H'
def spQAt (CR : Addr) : Sp := fun vs H Q _ => ∃ x t n p, vs = [.ref x, .int p] ∧ RooAt CR H x t n ∧ SzQ t ∧ -200 ≤ n - 2 * p ∧ n - 2 * p ≤ 200 ∧
  ∀ wh q H', Same H H' → H q = none → IsRoot t (n - 2 * p) wh → H' q = some (.tup [.int wh, .int (rptI t (n - 2 * p) wh)]) → Q (.ref q) H'
/-- how a Root is made: by two, by one, by one and a keyword -/
structure MakeQ (P : Program) (w : World) (K : Frag) (mg : Str → Option Value) (base : Heap) (CR fI : Addr) (fdI : FuncData) (d0 : Value) (gP : List Value → List Value → List Value) (vP : List V → List V → List V) : Prop where
  m : Mk K CR fI
  g : FnOk P w K mg base (CX1 P w) 1 fI fdI ["self", "top", "power"] (spQInit CR)
  b3 : Binds K fdI ["self", "top", "power"] []
  b2 : Binds K fdI ["self", "top", "power"] [d0]
  r0 : RelV (.int 0) d0
  kP : KBinds K fdI ["self", "top", "power"] ["power"] gP vP
  eP : ∀ x a c, vP [x, a] [c] = [x, a, c]
/-- a Root's methods -/
structure RooM (P : Program) (w : World) (K : Frag) (mg : Str → Option Value) (base : Heap) (CR f1 f2 : Addr) (fd1 fd2 : FuncData) : Prop where
  m1 : Meth K CR "first" f1
  g1 : FnOk P w K mg base (CX1 P w) 4 f1 fd1 ["self"] (spQFirst CR)
  b1 : Binds K fd1 ["self"] []
  m2 : Meth K CR "at" f2
  g2 : FnOk P w K mg base (CX1 P w) 5 f2 fd2 ["self", "power"] (spQAt CR)
  b2 : Binds K fd2 ["self", "power"] []
/-- behind Root(..) -/
theorem madeQ {CR x dx : Addr} {H : Hp} {Q : VK} {E : XK} {t n : Int} (n1 : H x = none) (n2 : H dx = none) (ne : dx ≠ x) (k : ∀ H', Same H H' → RooAt CR H' x t n → Q .non H') :
    spQInit CR [.ref x, .int t, .int n] (upd (upd H dx (.own x)) x (.ins CR dx [])) Q E :=
  ⟨x, dx, _, _, rfl, upd_same, fun H' e s => k H' (fun c o z => s c o (by rw [upd_ne (ne_of_none z n1), upd_ne (ne_of_none z n2)]; exact z) (ne_of_none z n1)) ⟨dx, e⟩⟩
end
end TR
set_option Elab.async false
set_option linter.all false
set_option maxRecDepth 100000
set_option maxHeartbeats 4000000
namespace TR
open PySem L2 PySem.W PyProof.Rows
seal PE PS PSs PA PT PW PG PGs PI PO
abbrev sWRoot : Stmt := (top 10)
theorem newton {n g : Nat} (hg : 1 ≤ g) : n < ((g + n / g) / 2 + 1) * ((g + n / g) / 2 + 1) := by
  have q : n < g * (n / g + 1) := by
    have := Nat.div_add_mod n g
    have := Nat.mod_lt n hg
    rw [Nat.mul_add, Nat.mul_one]
    omega
  generalize n / g = d at q
  have b : g + (d + 1) ≤ 2 * ((g + d) / 2 + 1) := by omega
  generalize (g + d) / 2 + 1 = c at b
  have s1 : (g + (d + 1)) * (g + (d + 1)) ≤ 2 * c * (2 * c) := Nat.mul_le_mul b b
  have s2 : 4 * (g * (d + 1)) ≤ (g + (d + 1)) * (g + (d + 1)) := by
    generalize d + 1 = e
    rcases Nat.le_total g e with h | h
    · obtain ⟨k, rfl⟩ := Nat.exists_eq_add_of_le h
      have e1 : (g + (g + k)) * (g + (g + k)) = 4 * (g * (g + k)) + k * k := by
        simp only [Nat.mul_add, Nat.add_mul]
        have := Nat.mul_comm k g
        omega
      omega
    · obtain ⟨k, rfl⟩ := Nat.exists_eq_add_of_le h
      have e1 : (e + k + e) * (e + k + e) = 4 * ((e + k) * e) + k * k := by
        simp only [Nat.mul_add, Nat.add_mul]
        have := Nat.mul_comm k e
        omega
      omega
  have s3 : 2 * c * (2 * c) = 4 * (c * c) := by
    rw [Nat.mul_mul_mul_comm]
  omega
section
variable {P : Program} {w : World} {K : Frag} {mg : Str → Option Value} {base : Heap}
def spWRoot : Sp := fun vs H Q _ => ∃ n : Nat, vs = [.int (n : Int)] ∧ n < 10 ^ 300 ∧ ∀ r : Nat, r * r ≤ n → n < (r + 1) * (r + 1) → Q (.int (r : Int)) H
theorem scWRoot : FnScope ["whole", "guess", "better"] ["whole"] (defScope sWRoot) := ⟨rfl, rfl, rfl, by decide +kernel, rfl, by decide +kernel, by decide +kernel⟩
theorem ok_wRoot {f f1 f2 : Addr} {fd fd1 fd2 : FuncData} (D : Def K mg "whole_root" ["whole"] sWRoot f fd) (D_ten_to : Def K mg "ten_to" ["count"] sTenTo f1 fd1) (G_ten_to : FnOk P w K mg base (CX1 P w) 2 f1 fd1 ["count"] spTenTo) (D_whole_lead : Def K mg "whole_lead" ["whole"] sWLead f2 fd2) (G_whole_lead : FnOk P w K mg base (CX1 P w) 3 f2 fd2 ["whole"] spWLead) : FnOk P w K mg base (CX1 P w) 4 f fd ["whole"] spWRoot := by
  refine FnOk.up (D.F.ok scWRoot (fun vs H Q E h => ?_) (fun cdv A outer s H vs Q E hr h => ?_))
  · obtain ⟨n, rfl, _⟩ := h
    rfl
  · obtain ⟨n, rfl, n2, k⟩ := h
    have hx : Catches (cxOf CX0 P w K mg base ["whole", "guess", "better"] "whole_root" (defScope sWRoot) f cdv A outer s H E).nox EKF := catches0
    refine ⟨_, (pss_cons (ps_if (pt_cmpR op_eq (pv 0) pe_int (nomark _)) (pss_one (ps_ret pe_int)) pss_nil)
      (pss_cons (ps_set (i := 1) scWRoot.nd rfl (Or.inl rfl) (pcall D_ten_to G_ten_to hr hx (pa_cons (pe_op op_add (pe_op op_fdivK (pcall D_whole_lead G_whole_lead hr hx (pa_cons (pv 0) pa_nil)) pe_int) pe_int) pa_nil)))
      (pss_cons (ps_set (i := 2) scWRoot.nd rfl (Or.inl rfl) (pe_op op_fdivK (pe_op op_add (pv 1) (pe_op op_fdivK (pv 0) (pv 1))) pe_int))
      (pss_cons (ps_while PassesOwn.never (pt_cmpR op_lt (pv 2) (pv 1) (nomark _)) (pss_cons (ps_set (i := 1) scWRoot.nd rfl (Or.inl rfl) (pv 2))
      (pss_one (ps_set (i := 2) scWRoot.nd rfl (Or.inl rfl) (pe_op op_fdivK (pe_op op_add (pv 1) (pe_op op_fdivK (pv 0) (pv 1))) pe_int)))))
      (pss_one (ps_ret (pv 1))))))), ?_⟩
    have d2 : (0 : Int) < 2 ∧ (2 : Int).natAbs.log2 < 9000 := ⟨by decide, by decide +kernel⟩
    refine ⟨_, rfl, rfl, _, rfl, iteD (fun h0 => ?_) (fun h0 => ?_)⟩
    · have e : n = 0 := by have : (n : Int) = 0 := by injection h0
                           omega
      subst e
      exact k 0 (Nat.le_refl _) (by decide)
    · have n1 : 1 ≤ n := by
        apply Classical.byContradiction
        intro z
        exact h0 (by rw [show n = 0 by omega]; rfl)
      have lg : ∀ {g : Nat}, 1 ≤ g → g < 2 ^ 1000 → 0 < (g : Int) ∧ (g : Int).natAbs.log2 < 9000 := fun h1 h2 => ⟨by omega, Nat.lt_trans (log2_small (k := 1000) (by rw [Int.natAbs_natCast]; exact h2) (by decide)) (by decide)⟩
      refine ⟨_, rfl, n, rfl, n1, Nat.lt_trans n2 (Nat.pow_lt_pow_right (by decide) (by decide)), fun L L1 L2 => ?_⟩
      have l3 : L < 300 := (Nat.pow_lt_pow_iff_right (by decide : 1 < 10)).mp (Nat.lt_of_le_of_lt L1 n2)
      refine ⟨_, _, rfl, rfl, d2, _, _, rfl, rfl, L / 2 + 1, rfl, by omega, ?_⟩
      have g1 : 1 ≤ 10 ^ (L / 2 + 1) := Nat.pow_pos (by decide)
      have g2 : 10 ^ (L / 2 + 1) < 2 ^ 1000 := Nat.lt_of_le_of_lt (Nat.pow_le_pow_right (by decide) (show L / 2 + 1 ≤ 200 by omega)) (by decide +kernel)
      have g3 : n < (10 ^ (L / 2 + 1) + 1) * (10 ^ (L / 2 + 1) + 1) := by
        have a : 10 ^ (L + 1) ≤ 10 ^ (L / 2 + 1) * 10 ^ (L / 2 + 1) := by
          rw [← Nat.pow_add]
          exact Nat.pow_le_pow_right (by decide) (by omega)
        have b : 10 ^ (L / 2 + 1) * 10 ^ (L / 2 + 1) ≤ (10 ^ (L / 2 + 1) + 1) * (10 ^ (L / 2 + 1) + 1) := Nat.mul_le_mul (Nat.le_succ _) (Nat.le_succ _)
        omega
      refine ⟨_, rfl, _, rfl, _, rfl, _, _, rfl, rfl, lg g1 g2, _, _, rfl, rfl, _, _, rfl, rfl, d2, ?_⟩
      refine while_by (fun σ H2 => H2 = H ∧ ∃ g : Nat, 1 ≤ g ∧ g < 2 ^ 1000 ∧ n < (g + 1) * (g + 1) ∧ σ = [some (.int (n : Int)), some (.int (g : Int)), some (.int (((g + n / g) / 2 : Nat) : Int))]) (fun σ _ => match σ with | [_, some (.int c), _] => c.toNat | _ => 0) ?_ ?_ ?_
      · exact ⟨rfl, 10 ^ (L / 2 + 1), g1, g2, g3, rfl⟩
      · rintro σ H2 ⟨rfl, g, g1, g2, g3, rfl⟩
        refine ⟨_, rfl, _, rfl, _, _, rfl, rfl, _, rfl, iteD (fun hlt => ?_) (fun hge => ?_)⟩
        · have hlt : (g + n / g) / 2 < g := Int.ofNat_lt.mp hlt
          have b1 : 1 ≤ (g + n / g) / 2 := by
            rcases (by omega : g = 1 ∨ 2 ≤ g) with rfl | h
            · rw [Nat.div_one]; omega
            · clear hlt
              generalize n / g = d
              omega
          have b3 := newton (n := n) g1
          generalize (g + n / g) / 2 = b at hlt b1 b3
          refine ⟨_, rfl, _, rfl, _, rfl, _, rfl, _, _, rfl, rfl, lg b1 (Nat.lt_trans hlt g2), _, _, rfl, rfl, _, _, rfl, rfl, d2, ⟨rfl, b, b1, Nat.lt_trans hlt g2, b3, rfl⟩, ?_⟩
          show (b : Int).toNat < (g : Int).toNat
          omega
        · have hge : g ≤ (g + n / g) / 2 := by
            have : ¬ ((g + n / g) / 2 < g) := fun z => hge (Int.ofNat_lt.mpr z)
            omega
          refine ⟨_, rfl, k g ?_ g3⟩
          have : g ≤ n / g := by omega
          exact (Nat.le_div_iff_mul_le (by omega)).mp this
      · rintro σ H2 Q1 Q2 hQ ⟨v, e, v2, e2, i, j, e3, e4, b, e5, q⟩
        exact ⟨v, e, v2, e2, i, j, e3, e4, b, e5, hQ _ _ q⟩
end
end TR
set_option Elab.async false
set_option linter.all false
set_option maxRecDepth 100000
set_option maxHeartbeats 4000000
namespace TR
open PySem L2 PySem.W PyProof.Rows
seal PE PS PSs PA PT PW PG PGs PI PO
abbrev sQAtM : Stmt := (inClass (top 7) 2)
abbrev sQFirstM : Stmt := (inClass (top 7) 1)
theorem szq_nat {t : Int} (h : SzQ t) : ∃ n : Nat, t = (n : Int) ∧ 1 ≤ n ∧ n < 10 ^ 61 := by
  obtain ⟨n, rfl⟩ := Int.eq_ofNat_of_zero_le (show 0 ≤ t by have := h.1; omega)
  have := h.1; have := h.2
  exact ⟨n, rfl, by omega, by omega⟩
theorem partI_4 {h m : Int} (hp : 0 < h) : partI (2 * h) m = 1 + (if decide (m ≤ 4 * h) = true then 1 else 0) + (if decide (m < 4 * h) = true then 1 else 0) := by
  unfold partI
  rw [decide_eq_true (by omega : 0 < 2 * h), show 2 * (2 * h) = 4 * h by omega]
  rfl
theorem lead_root {t L : Nat} {n f : Int} (t1 : 10 ^ L ≤ t) (t2 : t < 10 ^ (L + 1)) (e : f = ((L : Int) + n) / 2) : LeadR t (n - 2 * f) := by
  have hs : n - 2 * f = -(L : Int) ∨ n - 2 * f = 1 - (L : Int) := by omega
  have key : ∀ u v : Nat, (u = 0 ∧ (v = L ∨ v + 1 = L)) ∨ (u = 1 ∧ v = 0 ∧ L = 0) → 10 ^ v ≤ t * 10 ^ u ∧ t * 10 ^ u < 100 * 10 ^ v := by
    rintro u v (⟨rfl, rfl | rfl⟩ | ⟨rfl, rfl, rfl⟩)
    · rw [Nat.pow_succ] at t2
      omega
    · rw [Nat.pow_succ] at t1
      rw [Nat.pow_succ, Nat.pow_succ] at t2
      omega
    · simp at t1 t2 ⊢
      omega
  have := key (n - 2 * f).toNat (-(n - 2 * f)).toNat (by omega)
  unfold LeadR tenI
  exact ⟨Int.ofNat_le.mpr this.1, Int.ofNat_lt.mpr this.2⟩
section
variable {P : Program} {w : World} {K : Frag} {mg : Str → Option Value} {base : Heap}
theorem scQFirst : FnScope ["self"] ["self"] (defScope sQFirstM) := ⟨rfl, rfl, rfl, by decide +kernel, rfl, by decide +kernel, by decide +kernel⟩
theorem ok_qFirst {f f1 CR CE : Addr} {fd fd1 : FuncData} (F : Fun K "first" "Root.first" sQFirstM f fd) (D_whole_lead : Def K mg "whole_lead" ["whole"] sWLead f1 fd1) (G_whole_lead : FnOk P w K mg base (CX1 P w) 3 f1 fd1 ["whole"] spWLead) (R : RooC K mg CR CE) : FnOk P w K mg base (CX1 P w) 4 f fd ["self"] (spQFirst CR) := by
  refine FnOk.up (F.ok scQFirst (fun vs H Q E h => ?_) (fun cdv A outer s H vs Q E hr h => ?_))
  · obtain ⟨x, t, n, rfl, _⟩ := h
    rfl
  · obtain ⟨x, t, n, rfl, ra, ht, _, _, k⟩ := h
    have hx : Catches (cxOf CX0 P w K mg base ["self"] "Root.first" (defScope sQFirstM) f cdv A outer s H E).nox EKF := catches0
    refine ⟨_, (pss_one (ps_ret (pe_op op_fdivK (pe_op op_add (pcall D_whole_lead G_whole_lead hr hx (pa_cons (pe_fld (pv 0) rfl) pa_nil)) (pe_fld (pv 0) rfl)) pe_int))), ?_⟩
    obtain ⟨tn, rfl, ta, tb⟩ := szq_nat ht
    obtain ⟨dx, e⟩ := id ra
    have d2 : (0 : Int) < 2 ∧ (2 : Int).natAbs.log2 < 9000 := ⟨by decide, by decide +kernel⟩
    refine ⟨_, rfl, x, CR, dx, _, _, rfl, e, R.cl, R.n_top, roo_top _ _, tn, rfl, ta, Nat.lt_trans tb (Nat.pow_lt_pow_right (by decide) (by decide)), fun L L1 L2 => ?_⟩
    exact ⟨_, rfl, x, CR, dx, _, _, rfl, e, R.cl, R.n_power, roo_power _ _, _, _, rfl, rfl, _, _, rfl, rfl, d2, k _ H (Same.refl H) (lead_root L1 L2 rfl)⟩
theorem scQAt : FnScope ["self", "power", "shift", "top", "bottom", "whole"] ["self", "power"] (defScope sQAtM) := ⟨rfl, rfl, rfl, by decide +kernel, rfl, by decide +kernel, by decide +kernel⟩
theorem ok_qAt {f f1 f2 f3 CR CE : Addr} {fd fd1 fd2 fd3 : FuncData} (F : Fun K "at" "Root.at" sQAtM f fd) (D_ten_to : Def K mg "ten_to" ["count"] sTenTo f1 fd1) (G_ten_to : FnOk P w K mg base (CX1 P w) 2 f1 fd1 ["count"] spTenTo)
    (D_part_of : Def K mg "part_of" ["size", "middle"] sPartOf f2 fd2) (G_part_of : FnOk P w K mg base (CX1 P w) 1 f2 fd2 ["size", "middle"] spPartOf) (D_whole_root : Def K mg "whole_root" ["whole"] sWRoot f3 fd3) (G_whole_root : FnOk P w K mg base (CX1 P w) 4 f3 fd3 ["whole"] spWRoot) (R : RooC K mg CR CE) (O : Own mg) : FnOk P w K mg base (CX1 P w) 5 f fd ["self", "power"] (spQAt CR) := by
  refine FnOk.up (F.ok scQAt (fun vs H Q E h => ?_) (fun cdv A outer s H vs Q E hr h => ?_))
  · obtain ⟨x, t, n, p, rfl, _⟩ := h
    rfl
  · obtain ⟨x, t, n, p, rfl, ⟨dx, e⟩, ht, h1, h2, k⟩ := h
    have hx : Catches (cxOf CX0 P w K mg base ["self", "power", "shift", "top", "bottom", "whole"] "Root.at" (defScope sQAtM) f cdv A outer s H E).nox EKF := catches0
    refine ⟨_, (pss_cons (ps_set (i := 2) scQAt.nd rfl (Or.inl rfl) (pe_op op_sub (pe_fld (pv 0) rfl) (pe_op op_mulK pe_int (pv 1))))
      (pss_cons (ps_set (i := 3) scQAt.nd rfl (Or.inl rfl) (pe_op op_mulK (pe_fld (pv 0) rfl) (pcall D_ten_to G_ten_to hr hx (pa_cons (pe_callB (call_max2 rfl) (by rfl) O.max_ boot_max (pa_cons (pv 2) (pa_cons pe_int pa_nil))) pa_nil))))
      (pss_cons (ps_set (i := 4) scQAt.nd rfl (Or.inl rfl) (pcall D_ten_to G_ten_to hr hx (pa_cons (pe_callB (call_max2 rfl) (by rfl) O.max_ boot_max (pa_cons (pe_un un_neg (pv 2)) (pa_cons pe_int pa_nil))) pa_nil)))
      (pss_cons (ps_set (i := 5) scQAt.nd rfl (Or.inl rfl) (pcall D_whole_root G_whole_root hr hx (pa_cons (pe_op op_fdivK (pv 3) (pv 4)) pa_nil)))
      (pss_cons (ps_if (pt_cmpR op_eq (pe_op op_mulK (pe_op op_mulK (pv 5) (pv 5)) (pv 4)) (pv 3) (nomark _)) (pss_one (ps_ret (pe_tup (pa_cons (pv 5) (pa_cons pe_int pa_nil))))) pss_nil)
      (pss_one (ps_ret (pe_tup (pa_cons (pv 5) (pa_cons (pcall D_part_of G_part_of hr hx (pa_cons (pe_op op_mulK pe_int (pv 3)) (pa_cons (pe_op op_mulK (pe_op op_mulK (pe_op op_add (pe_op op_mulK pe_int (pv 5)) pe_int) (pe_op op_add (pe_op op_mulK pe_int (pv 5)) pe_int)) (pv 4)) pa_nil))) pa_nil)))))))))), ?_⟩
    have z2 : 2 ≤ sizeLine := line1000 (by decide)
    have mC' : ∀ z n : Int, -(2 ^ 64) < n → n < 2 ^ 64 → IntMulOk n z := fun z n a b => CMul.ok (.inl ⟨a, b⟩)
    have oT : IntMulOk t (tenI (n - 2 * p)) := mulOk_small (Nat.lt_of_lt_of_le ht.small (p1000 (by decide))) (Nat.lt_of_lt_of_le (tenI_small h2) (p1000 (by decide)))
    refine ⟨_, rfl, x, CR, dx, _, _, rfl, e, R.cl, R.n_power, roo_power _ _, _, rfl, _, _, rfl, rfl, mC' _ _ (by decide) (by decide), _, _, rfl, rfl, ?_⟩
    refine ⟨_, rfl, x, CR, dx, _, _, rfl, e, R.cl, R.n_top, roo_top _ _, _, rfl, _, _, rfl, (n - 2 * p).toNat, congrArg (fun z => [V.int z]) (maxT (n - 2 * p)), by omega, _, _, rfl, rfl, oT, ?_⟩
    refine ⟨_, rfl, _, rfl, _, _, rfl, (-(n - 2 * p)).toNat, congrArg (fun z => [V.int z]) (maxT (-(n - 2 * p))), by omega, ?_⟩
    have lp : 0 < tenI (-(n - 2 * p)) := tenI_pos _
    have ll : (tenI (-(n - 2 * p))).natAbs.log2 < 9000 := Nat.lt_trans (log2_small (tenI_small (by omega)) (by decide)) (by decide)
    have hp : 0 < t * tenI (n - 2 * p) := Int.mul_pos (by have := ht.1; omega) (tenI_pos _)
    have hs := szq_prod ht h2
    obtain ⟨hi, ehi⟩ := Int.eq_ofNat_of_zero_le (Int.le_of_lt hp)
    obtain ⟨lo, elo⟩ := Int.eq_ofNat_of_zero_le (Int.le_of_lt lp)
    have b300 : hi / lo < 10 ^ 300 := by
      have a : hi < 2 ^ 903 := by rw [ehi, Int.natAbs_natCast] at hs; exact hs
      exact Nat.lt_of_le_of_lt (Nat.div_le_self _ _) (Nat.lt_trans a (by decide +kernel))
    refine ⟨_, rfl, _, rfl, _, _, rfl, rfl, ⟨lp, ll⟩, hi / lo, (by show [V.int (t * tenI (n - 2 * p) / tenI (-(n - 2 * p)))] = _; rw [ehi, elo]; rfl), b300, fun r r1 r2 => ?_⟩
    have lo0 : 0 < lo := by omega
    have rt : IsRoot t (n - 2 * p) (r : Int) := by
      refine ⟨by omega, ?_, ?_⟩
      · rw [ehi, elo]
        have := (Nat.le_div_iff_mul_le lo0).mp r1
        exact Int.ofNat_le.mpr this
      · rw [ehi, elo]
        have := (Nat.div_lt_iff_lt_mul lo0).mp r2
        exact Int.ofNat_lt.mpr this
    have m := muls_of ht h1 h2 rt
    refine ⟨_, rfl, _, rfl, _, _, rfl, rfl, m.o2, _, rfl, _, _, rfl, rfl, m.o3, _, rfl, rfl, _, rfl, iteD (fun he => ?_) (fun hn => ?_)⟩
    · have he : (r : Int) * r * tenI (-(n - 2 * p)) = t * tenI (n - 2 * p) := by injection he
      refine ⟨_, rfl, z2, fun q nq => k r q _ (Same.upd nq) nq rt ?_⟩
      rw [upd_same]
      unfold rptI
      rw [if_pos he]
    · have hn : ¬ (r : Int) * r * tenI (-(n - 2 * p)) = t * tenI (n - 2 * p) := fun z => hn (congrArg V.int z)
      have m0 : 0 < (2 * (r : Int) + 1) * (2 * (r : Int) + 1) * tenI (-(n - 2 * p)) := Int.mul_pos (Int.mul_pos (by omega) (by omega)) lp
      refine ⟨_, rfl, _, rfl, _, _, rfl, rfl, mC' _ _ (by decide) (by decide), _, rfl, _, _, rfl, rfl, mC' _ _ (by decide) (by decide), _, _, rfl, rfl, _, rfl, _, _, rfl, rfl, mC' _ _ (by decide) (by decide), _, _, rfl, rfl, _, _, rfl, rfl, m.o6, _, rfl, _, _, rfl, rfl, m.o7, 2 * (t * tenI (n - 2 * p)), (2 * (r : Int) + 1) * (2 * (r : Int) + 1) * tenI (-(n - 2 * p)), ?_, by omega, m0, z2, fun q nq => k r q _ (Same.upd nq) nq rt ?_⟩
      · show [V.int (4 * (t * tenI (n - 2 * p))), _] = [V.int (2 * (2 * (t * tenI (n - 2 * p)))), _]
        rw [show 2 * (2 * (t * tenI (n - 2 * p))) = 4 * (t * tenI (n - 2 * p)) by omega]
        rfl
      · rw [upd_same, partI_4 hp]
        unfold rptI
        rw [if_neg hn]
end
end TR
set_option Elab.async false
set_option linter.all false
set_option maxRecDepth 100000
set_option maxHeartbeats 4000000
namespace TR
open PySem L2 PySem.W PyProof.Rows
seal PE PS PSs PA PT PW PG PGs PI PO
/-! ### a Root as an exact value -/
theorem sqrt_ex : ∀ n : Nat, ∃ r : Nat, r * r ≤ n ∧ n < (r + 1) * (r + 1)
  | 0 => ⟨0, by decide, by decide⟩
  | n + 1 => by
    obtain ⟨r, h1, h2⟩ := sqrt_ex n
    by_cases h : n + 1 < (r + 1) * (r + 1)
    · exact ⟨r, by omega, h⟩
    · refine ⟨r + 1, by omega, ?_⟩
      have : (r + 1 + 1) * (r + 1 + 1) = (r + 1) * (r + 1) + 2 * (r + 1) + 1 := by
        simp only [Nat.add_mul, Nat.mul_add]
        omega
      omega
theorem root_ex {t s : Int} (ht : 1 ≤ t) : ∃ w, IsRoot t s w := by
  obtain ⟨hi, ehi⟩ := Int.eq_ofNat_of_zero_le (Int.le_of_lt (Int.mul_pos (show 0 < t by omega) (tenI_pos s)))
  obtain ⟨lo, elo⟩ := Int.eq_ofNat_of_zero_le (Int.le_of_lt (tenI_pos (-s)))
  have lo0 : 0 < lo := by have := tenI_pos (-s); omega
  obtain ⟨r, r1, r2⟩ := sqrt_ex (hi / lo)
  refine ⟨r, by omega, ?_, ?_⟩
  · rw [ehi, elo]
    exact Int.ofNat_le.mpr ((Nat.le_div_iff_mul_le lo0).mp r1)
  · rw [ehi, elo]
    exact Int.ofNat_lt.mpr ((Nat.div_lt_iff_lt_mul lo0).mp r2)
noncomputable def whQ (t s : Int) : Int := by
  classical exact if h : ∃ w, IsRoot t s w then Classical.choose h else 0
theorem whQ_root {t s : Int} (ht : 1 ≤ t) : IsRoot t s (whQ t s) := by
  have h := root_ex (s := s) ht
  unfold whQ
  rw [dif_pos h]
  exact Classical.choose_spec h
theorem whQ_eq {t s w : Int} (ht : 1 ≤ t) (h : IsRoot t s w) : whQ t s = w := root_eq (whQ_root ht) h
noncomputable def rooE (CR : Addr) (t n L : Int) : Exa := ⟨fun H x => RooAt CR H x t n, L, fun q => whQ t (n - 2 * q), fun q => rptI t (n - 2 * q) (whQ t (n - 2 * q)), fun q => -200 ≤ n - 2 * q ∧ n - 2 * q ≤ 200⟩
theorem rooV {CR : Addr} {t n L : Int} (ht : SzQ t) (n1 : -900 ≤ n) (n2 : n ≤ 900) (hL : LeadR t (n - 2 * L)) : ExV CR (spQFirst CR) (spQAt CR) (rooE CR t n L) where
  same := fun _ _ _ h s => RooAt.same h s
  ins := fun _ _ h => by
    obtain ⟨dx, e⟩ := h
    exact ⟨dx, _, e, roo_no_first _ _, roo_no_at _ _⟩
  first := fun H x Q E h k => ⟨x, t, n, rfl, h, ht, n1, n2, fun f H' s ld => by
    have ef : f = L := leadR_eq (show 0 < t by have := ht.1; omega) ld hL
    rw [ef]
    exact k H' s⟩
  at_ := fun H x q Q E h ok k => ⟨x, t, n, q, rfl, h, ht, ok.1, ok.2, fun wh p H' s np rt ep => by
    have e := whQ_eq ht.1 rt
    refine k p H' s np ?_
    show H' p = some (.tup [.int (whQ t (n - 2 * q)), .int (rptI t (n - 2 * q) (whQ t (n - 2 * q)))])
    rw [e]
    exact ep⟩
section
variable {P : Program} {w : World} {K : Frag} {mg : Str → Option Value} {base : Heap}
theorem rooM {CR CE g1 g2 : Addr} {gd1 gd2 : FuncData} (RM : RooM P w K mg base CR g1 g2 gd1 gd2) (R : RooC K mg CR CE) : ExM P w K mg base CR g1 g2 gd1 gd2 (spQFirst CR) (spQAt CR) := ⟨R.cl, RM.m1, RM.g1, RM.b1, RM.m2, RM.g2, RM.b2⟩
end
/-! ### what is exact and fits stays as it is -/
theorem strip_ten {i : Int} : ∀ (k : Nat) (F q : Int), strip i k (F * ((10 ^ k : Nat) : Int)) q = (F, q + k)
  | 0, F, q => by
    show (F * ((10 ^ 0 : Nat) : Int), q) = (F, q + (0 : Nat))
    simp
  | k + 1, F, q => by
    have e : F * ((10 ^ (k + 1) : Nat) : Int) = 10 * (F * ((10 ^ k : Nat) : Int)) := by
      rw [Nat.pow_succ, Int.natCast_mul]
      rw [show ((10 : Nat) : Int) = 10 from rfl]
      ac_rfl
    show (if F * ((10 ^ (k + 1) : Nat) : Int) % 10 = 0 then strip i k (F * ((10 ^ (k + 1) : Nat) : Int) / 10) (q + 1) else _) = _
    rw [e, if_pos (by omega), Int.mul_ediv_cancel_left _ (by decide), strip_ten k F (q + 1)]
    congr 1
    omega
theorem settle_exact {v : Cv} {s F wh L q i : Int} (hq : q ≤ i) (hw : wh = F * tenI (i - q)) (hL : v.l ≤ L) (hb : beyondI v.m F i = false) : settleI v s wh 0 L q i = (⟨.plain, s, F, i⟩, []) := by
  have e : nearI v s wh 0 q i = (F, i) := by
    unfold nearI
    rw [if_pos rfl, hw]
    unfold stripI tenI
    rw [strip_ten]
    congr 1
    omega
  unfold settleI
  rw [e]
  dsimp only
  rw [if_neg (by rw [hb]; exact Bool.false_ne_true)]
  congr 1
  unfold restS leadS
  rw [if_pos rfl, if_neg (by simp), if_pos hL]
  rfl
end TR
set_option Elab.async false
set_option linter.all false
set_option maxRecDepth 100000
set_option maxHeartbeats 4000000
namespace TR
open PySem L2 PySem.W PyProof.Rows
seal PE PS PSs PA PT PW PG PGs PI PO
abbrev sNeedNs : Stmt := (top 25)
abbrev sSomeK : Stmt := (top 26)
section
variable {P : Program} {w : World} {K : Frag} {mg : Str → Option Value} {base : Heap}
def spNeedNs (K : Frag) (CN CB : Addr) : Sp := fun vs H Q E => ∃ l ns, vs = [.ref l] ∧ (∀ p ∈ (ns : List (Addr × Nm)), NumIs CN H p.1 p.2) ∧
  ((H l = some (.lst (ns.map fun p => V.ref p.1)) ∧ Q .non H) ∨ (∃ v r, H l = some (.lst ((ns.map fun p => V.ref p.1) ++ v :: r)) ∧ NotNum K CN H v ∧ E (.ref CB) none H))
theorem scNeedNs : FnScope ["things", "thing"] ["things"] (defScope sNeedNs) := ⟨rfl, rfl, rfl, by decide +kernel, rfl, by decide +kernel, by decide +kernel⟩
theorem ok_needNs {f f1 CN CB : Addr} {fd fd1 : FuncData} (D : Def K mg "need_numbers" ["things"] sNeedNs f fd) (D_need_number : Def K mg "need_number" ["thing"] sNeedN f1 fd1) (G_need_number : FnOk P w K mg base (CX1 P w) 1 f1 fd1 ["thing"] (spNeedN K CN CB)) : FnOk P w K mg base (CX1 P w) 2 f fd ["things"] (spNeedNs K CN CB) := by
  refine D.F.okE scNeedNs (fun vs H Q E h => ?_) (fun X cdv A outer s H vs Q E hX hr hx h => ?_)
  · obtain ⟨l, ns, rfl, _⟩ := h
    rfl
  · subst hX
    obtain ⟨l, ns, rfl, hn, h⟩ := h
    refine ⟨_, (pss_one (ps_for PassesOwn.leaving rfl (pi_list (pv 0)) (pg_name (i := 1) scNeedNs.nd rfl (Or.inl rfl)) (pss_one (ps_expr (pcall D_need_number G_need_number hr hx (pa_cons (pv 1) pa_nil)))))), ?_⟩
    rcases h with ⟨hl, k⟩ | ⟨v, r, hl, nv, k⟩
    · refine ⟨_, rfl, l, rfl, ⟨_, SqL.of hl⟩, for_list (xs := ns.map fun p => V.ref p.1) (fun i σ H' => H' = H ∧ ∃ v, σ = [some (.ref l), v]) ⟨rfl, none, rfl⟩ ?_ ?_ ?_⟩
      · rintro i σ H' _ ⟨rfl, _⟩
        exact SqL.of hl
      · rintro i x σ H' hi ⟨rfl, v, rfl⟩
        obtain ⟨p, hp, rfl⟩ := List.mem_map.mp (List.mem_of_getElem? hi)
        exact ⟨_, rfl, _, rfl, .inl ⟨p.1, _, _, _, _, rfl, hn p hp, rfl, _, rfl⟩⟩
      · rintro σ H' ⟨rfl, v, rfl⟩
        exact k
    · refine ⟨_, rfl, l, rfl, ⟨_, SqL.of hl⟩, for_list (xs := (ns.map fun p => V.ref p.1) ++ v :: r) (fun i σ H' => H' = H ∧ i ≤ ns.length ∧ ∃ v, σ = [some (.ref l), v]) ⟨rfl, Nat.zero_le _, none, rfl⟩ ?_ ?_ ?_⟩
      · rintro i σ H' _ ⟨rfl, _⟩
        exact SqL.of hl
      · rintro i x σ H' hi ⟨rfl, hle, u, rfl⟩
        by_cases hlt : i < ns.length
        · rw [List.getElem?_append_left (by simpa using hlt)] at hi
          obtain ⟨p, hp, rfl⟩ := List.mem_map.mp (List.mem_of_getElem? hi)
          exact ⟨_, rfl, _, rfl, .inl ⟨p.1, _, _, _, _, rfl, hn p hp, rfl, by omega, _, rfl⟩⟩
        · have e : i = ns.length := by omega
          subst e
          rw [List.getElem?_append_right (by simp)] at hi
          simp at hi
          subst hi
          exact ⟨_, rfl, _, rfl, .inr ⟨nv, k⟩⟩
      · rintro σ H' ⟨rfl, hle, _⟩
        exfalso
        rw [List.length_append, List.length_map, List.length_cons] at hle
        omega
def spSomeK (CN : Addr) : Sp := fun vs H Q _ => ∃ l ns z, vs = [.ref l, .str z] ∧ NumsAt CN H l ns ∧ ns.length ≤ 1000 ∧ ∀ H', Same H H' → Q (.bl (ns.any fun p => decide (p.2.k.str = z))) H'
theorem scSomeK : FnScope ["numbers", "kind"] ["numbers", "kind"] (defScope sSomeK) := ⟨rfl, rfl, rfl, by decide +kernel, rfl, by decide +kernel, by decide +kernel⟩
theorem any_bl (ns : List (Addr × Nm)) (z : Str) : (ns.map fun p => decide (p.2.k.str = z)).any id = ns.any fun p => decide (p.2.k.str = z) := by rw [List.any_map]; rfl
theorem dec_str {a b : Str} : decide (V.str a = V.str b) = decide (a = b) := by
  by_cases h : a = b
  · rw [decide_eq_true h, decide_eq_true (congrArg V.str h)]
  · rw [decide_eq_false h, decide_eq_false fun q => h (by injection q)]
theorem ok_someK {f CN : Addr} {fd : FuncData} (D : Def K mg "some_of_kind" ["numbers", "kind"] sSomeK f fd) (O : Own mg) (N : Num K mg CN) : FnOk P w K mg base (CX1 P w) 1 f fd ["numbers", "kind"] (spSomeK CN) := by
  refine FnOk.up (D.F.ok scSomeK (fun vs H Q E h => ?_) (fun cdv A outer s H vs Q E hr h => ?_))
  · obtain ⟨l, ns, z, rfl, _⟩ := h
    rfl
  · obtain ⟨l, ns, z, rfl, ⟨hl, hn⟩, hz, k⟩ := h
    refine ⟨_, (pss_one (ps_ret (pe_callB (call_any hr.hd) (by rfl) O.any_ boot_any (pa_cons (pe_compF0 (N := ["number"]) (F := ["kind"]) (js := [1]) (CompScopeF.of1 ⟨rfl, by decide +kernel, by decide +kernel, by decide +kernel, by decide +kernel⟩ (by rfl) (by rfl) ⟨_, by rfl⟩ (by rfl) (by rfl)) (.inl hr.hd) (pih_list (pv 0)) rfl (fun C s₀ H₀ ex pn h => pg_name (i := 0) (by decide +kernel : (["number", "kind"] : List Str).Nodup) rfl (Or.inl rfl)) (fun C s₀ H₀ ex pn h => (pe_cmpR op_eq (pe_fldK (K := K) rfl (pv 0) rfl) (pv 1) (nomark _)))) pa_nil)))), ?_⟩
    refine ⟨_, rfl, l, rfl, ⟨_, SqL.of hl⟩, comp_gen0 (J := Itl K l) (n := ns.length) (fun i y _ => ∃ p, ns[i]? = some p ∧ y = .bl (decide (p.2.k.str = z))) hz (fun _ _ _ _ _ _ h _ _ => h) (fun i H2 Qy hi sm hy => ⟨⟨_, V.ref ns[i].1, SqL.of (sm _ _ hl), by simp [hi]⟩, fun x H3 yl => ?_⟩) (fun H2 sm => ⟨_, SqL.of (sm _ _ hl), by simp⟩) (fun D H' ys sm nD eD hlen hR => ?_)⟩
    · obtain ⟨rfl, yl⟩ := yl
      have ex : x = V.ref ns[i].1 := by
        have := yl _ (SqL.of (sm _ _ hl))
        simp [hi] at this
        exact this.symm
      subst ex
      obtain ⟨dx, e⟩ := (hn _ (List.getElem_mem hi)).same sm
      refine ⟨_, rfl, ns[i].1, CN, dx, _, _, rfl, e, N.cl, N.n1, num1 _ _ _ _, _, rfl, rfl, hy _ _ (Same.refl _) ⟨ns[i], by simp [hi], ?_⟩⟩
      rw [dec_str]
    · have ey : ys = (ns.map fun p => decide (p.2.k.str = z)).map V.bl := by
        apply List.ext_getElem?
        intro i
        by_cases hi : i < ns.length
        · obtain ⟨p, hp, hy⟩ := hR i ys[i] (by simp [hlen, hi])
          rw [List.getElem?_eq_getElem (by omega), hy]
          simp [hp]
        · rw [List.getElem?_eq_none (by omega), List.getElem?_eq_none (by simp; omega)]
      subst ey
      refine ⟨D, _, rfl, SqL.of eD, ?_⟩
      rw [any_bl]
      exact k H' sm
end
end TR
set_option Elab.async false
set_option linter.all false
set_option maxRecDepth 100000
set_option maxHeartbeats 4000000
namespace TR
open PySem L2 PySem.W PyProof.Rows
seal PE PS PSs PA PT PW PG PGs PI PO
section
variable {P : Program} {w : World} {K : Frag} {mg : Str → Option Value} {base : Heap}
theorem scRounded : FnScope ["context", "number"] ["context", "number"] (defScope sRounded) := ⟨rfl, rfl, rfl, by decide +kernel, rfl, by decide +kernel, by decide +kernel⟩
theorem fin_near {v : Cv} {L n : Int} (ok : v.Ok) (h1 : -1000 ≤ n - L) (h2 : n - L ≤ 1000) (n1 : -400 ≤ n) (n2 : n ≤ 400) : -1500 ≤ n - v.fin L ∧ n - v.fin L ≤ 1500 := by
  have := ok.r1; have := ok.r2; have := ok.l1; have := ok.l2
  unfold Cv.fin maxI
  split <;> omega
theorem lead_shift {t b s : Int} (ht : Sz t) (hb : Sz b) (h : Lead0 t b s) : -1000 ≤ s ∧ s ≤ 1000 := by
  have e := tenI_pos 1000
  refine ⟨?_, ?_⟩
  · apply Classical.byContradiction
    intro hs
    have z : tenI s = 1 := by unfold tenI; rw [show s.toNat = 0 by omega]; rfl
    have g : tenI 1000 ≤ tenI (-s) := tenI_le (by omega)
    have a := h.1
    rw [z, Int.mul_one] at a
    have : 1 * tenI (-s) ≤ b * tenI (-s) := Int.mul_le_mul_of_nonneg_right hb.1 (Int.le_of_lt (tenI_pos _))
    have := ht.2
    omega
  · apply Classical.byContradiction
    intro hs
    have z : tenI (-s) = 1 := by unfold tenI; rw [show (-s).toNat = 0 by omega]; rfl
    have g : tenI 1001 ≤ tenI s := tenI_le (by omega)
    have e1 : tenI 1001 = 10 * tenI 1000 := by
      unfold tenI
      rw [show (1001 : Int).toNat = (1000 : Int).toNat + 1 by decide, Nat.pow_succ, Nat.mul_comm]
      rfl
    have a := h.2
    rw [z, Int.mul_one] at a
    have : 1 * tenI s ≤ t * tenI s := Int.mul_le_mul_of_nonneg_right ht.1 (Int.le_of_lt (tenI_pos _))
    have := hb.2
    omega
theorem sz_one : Sz 1 := ⟨by decide, by
  have : tenI 1 ≤ tenI 1000 := tenI_le (by decide)
  have e : tenI 1 = 10 := rfl
  omega⟩
theorem sz_fig {f : Int} (h0 : 0 ≤ f) (h : f ≠ 0) (h1 : f ≤ 10 ^ 60 - 1) : Sz f := by
  refine ⟨by omega, ?_⟩
  have : tenI 60 ≤ tenI 1000 := tenI_le (by decide)
  have e : tenI 60 = 10 ^ 60 := by decide +kernel
  omega
theorem ok_rounded {f f1 f2 f3 fI CN CC CB CB' CT CW CR CE : Addr} {cw : Wy → Addr} {fd fd1 fd2 fd3 fdI : FuncData} {d0 : Value} {gP : List Value → List Value → List Value} {vP : List V → List V → List V} (D : Def K mg "rounded" ["context", "number"] sRounded f fd)
    (D_need_number : Def K mg "need_number" ["thing"] sNeedN f1 fd1) (G_need_number : FnOk P w K mg base (CX1 P w) 1 f1 fd1 ["thing"] (spNeedN K CN CB')) (D_nought : Def K mg "nought" ["context", "sign", "ideal"] sNought f2 fd2) (G_nought : FnOk P w K mg base (CX1 P w) 3 f2 fd2 ["context", "sign", "ideal"] (spNought CN CC))
    (D_settled : Def K mg "settled" ["context", "sign", "exact", "ideal"] sSettled f3 fd3) (G_settled : FnOk P w K mg base (CX1 P w) 6 f3 fd3 ["context", "sign", "exact", "ideal"] (spSettled CN CC CT CR)) (C : CtxM P w K mg base CC CB CT CW cw) (MR : MakeR P w K mg base CR fI fdI d0 gP vP) (R : RatC K mg CR CE) (N : Num K mg CN) :
    FnOk P w K mg base (CX1 P w) 7 f fd ["context", "number"] (spRounded K CN CC CB' CT) := by
  refine D.F.okE scRounded (fun vs H Q E h => ?_) (fun X cdv A outer s H vs Q E hX hr hx h => ?_)
  · obtain ⟨c, v, a, b, xs, ys, u, rfl, _⟩ := h
    rfl
  · subst hX
    obtain ⟨c, v, a, b, xs, ys, u, rfl, hc, ok, lx, ox, h⟩ := h
    refine ⟨_, (pss_cons (ps_expr (pcall D_need_number G_need_number hr hx (pa_cons (pv 1) pa_nil)))
      (pss_cons (ps_if (pt_cmpR op_ne (pe_fld (pv 1) rfl) pe_str (nomark _)) (pss_one (ps_ret (pv 1))) pss_nil)
      (pss_cons (ps_if (pt_cmpR op_eq (pe_fld (pv 1) rfl) pe_int (nomark _)) (pss_one (ps_ret (pcall D_nought G_nought hr hx (pa_cons (pv 0) (pa_cons (pe_fld (pv 1) rfl) (pa_cons (pe_fld (pv 1) rfl) pa_nil)))))) pss_nil)
      (pss_one (ps_ret (pcall D_settled G_settled hr hx (pa_cons (pv 0) (pa_cons (pe_fld (pv 1) rfl) (pa_cons (pmake MR.m MR.g hr R.g MR.b3 .nil hx (pa_cons (pe_fld (pv 1) rfl) (pa_cons pe_int (pa_cons (pe_fld (pv 1) rfl) pa_nil)))) (pa_cons (pe_fld (pv 1) rfl) pa_nil)))))))))), ?_⟩
    rcases h with ⟨n, x, L, rfl, hn, okx, hL, k⟩ | ⟨bad, k⟩
    · refine ⟨_, rfl, _, rfl, .inl ⟨n, _, _, _, _, rfl, hn, ?_⟩⟩
      obtain ⟨dx, e⟩ := id hn
      have none : (hit ys [] = none) := by unfold hit; rw [List.find?_eq_none]; intro t _; simp
      have same : ordS (xs ++ []) = xs := by rw [List.append_nil]; exact ox
      unfold roundR at k
      refine ⟨_, rfl, n, CN, dx, _, _, rfl, e, N.cl, N.n1, num1 _ _ _ _, rfl, _, rfl, ?_⟩
      cases hk : x.k with
      | end_ =>
        rw [hk] at k
        have k := k.1 none n a H (Exc.refl c H) (by rw [same]; exact hc) hn
        exact iteT ⟨_, rfl, k⟩
      | none =>
        rw [hk] at k
        have k := k.1 none n a H (Exc.refl c H) (by rw [same]; exact hc) hn
        exact iteT ⟨_, rfl, k⟩
      | plain =>
        rw [hk] at k
        refine iteNS rfl ⟨_, rfl, n, CN, dx, _, _, rfl, e, N.cl, N.n3, num3 _ _ _ _, rfl, _, rfl, iteD (fun h0 => ?_) (fun h0 => ?_)⟩
        · have h0 : x.f = 0 := by injection h0
          have k : Ends2 CN CC CT H c v b xs ys (if x.f = 0 then (⟨.plain, x.s, 0, minI (maxI x.p (v.l - v.r + 1)) v.m⟩, []) else settleR v x.s x.f 1 x.p L x.p) Q E := k
          rw [if_pos h0] at k
          refine ⟨_, rfl, _, rfl, n, CN, dx, _, _, rfl, e, N.cl, N.n2, num2 _ _ _ _, _, rfl, n, CN, dx, _, _, rfl, e, N.cl, N.n4, num4 _ _ _ _, c, v, a, b, xs, ys, x.s, x.p, rfl, hc, fun m H' nm sm num => ?_⟩
          exact k.1 none m a H' (.of sm) (by rw [same]; exact hc.same sm) num
        · have h0 : ¬ x.f = 0 := fun z => h0 (congrArg V.int z)
          have k : Ends2 CN CC CT H c v b xs ys (if x.f = 0 then (⟨.plain, x.s, 0, minI (maxI x.p (v.l - v.r + 1)) v.m⟩, []) else settleR v x.s x.f 1 x.p L x.p) Q E := k
          rw [if_neg h0] at k
          have hL := hL hk h0
          have hf := sz_fig okx.f0 h0 okx.f1
          have lb := lead_shift hf sz_one hL
          have p0 := okx.p0; have p1 := okx.p1
          have fb := fin_near (v := v) (L := L) (n := x.p) ok lb.1 lb.2 (by omega) (by omega)
          refine ⟨_, rfl, _, rfl, n, CN, dx, _, _, rfl, e, N.cl, N.n2, num2 _ _ _ _, _, rfl, n, CN, dx, _, _, rfl, e, N.cl, N.n3, num3 _ _ _ _, _, rfl, n, CN, dx, _, _, rfl, e, N.cl, N.n4, num4 _ _ _ _, fun q dq m1 m2 me => madeR m1 m2 me fun H1 s1 ra => ⟨rfl, ?_⟩⟩
          refine ⟨_, rfl, n, CN, dx, _, _, rfl, s1 _ _ e, N.cl, N.n4, num4 _ _ _ _, c, v, a, b, xs, ys, q, x.f, 1, x.p, L, x.s, x.p, rfl, hc.same s1, ok, lx, ra, hf, sz_one, hL, fb.1, fb.2, okx.s0, okx.s1, ?_, ?_⟩
          · exact fun hn m a' H2 x2 ct num => k.1 hn m a' H2 ((Exc.of s1).trans x2) ct num
          · exact fun z hz a' d H2 x2 ct ed => k.2 z hz a' d H2 ((Exc.of s1).trans x2) ct ed
    · exact ⟨_, rfl, _, rfl, .inr ⟨bad, k⟩⟩
end
end TR
set_option Elab.async false
set_option linter.all false
set_option maxRecDepth 100000
set_option maxHeartbeats 4000000
namespace TR
open PySem L2 PySem.W PyProof.Rows
seal PE PS PSs PA PT PW PG PGs PI PO
abbrev sUnlike : Stmt := (top 27)
abbrev sIsNought : Stmt := (top 74)
abbrev sEndByN : Stmt := (top 75)
abbrev sProduct : Stmt := (top 76)
abbrev sTimes : Stmt := (top 73)
theorem FnOk.never {P : Program} {w : World} {K : Frag} {mg : Str → Option Value} {base : Heap} {CX : CXT} {k : Nat} {f : Addr} {fd : FuncData} {ps : List Str} : FnOk P w K mg base CX k f fd ps (fun _ _ _ _ => False) := ⟨fun _ _ _ _ h => h.elim, fun _ _ _ _ _ _ _ _ _ _ _ _ _ h => h.elim⟩
def unlI (a b : Int) : Int := if a = b then 0 else 1
theorem unl_ok (a b : Int) : 0 ≤ unlI a b ∧ unlI a b ≤ 1 := by unfold unlI; split <;> decide
section
variable {P : Program} {w : World} {K : Frag} {mg : Str → Option Value} {base : Heap}
/-- two numbers -/
def Two (CN : Addr) (H : Hp) (n1 n2 : Addr) (x1 x2 : Nm) : Prop := NumIs CN H n1 x1 ∧ NumIs CN H n2 x2
theorem Two.same {CN : Addr} {H H' : Hp} {n1 n2 : Addr} {x1 x2 : Nm} (h : Two CN H n1 n2 x1 x2) (e : Same H H') : Two CN H' n1 n2 x1 x2 := ⟨h.1.same e, h.2.same e⟩
def spUnlike (CN : Addr) : Sp := fun vs H Q _ => ∃ n1 n2 x1 x2, vs = [.ref n1, .ref n2] ∧ Two CN H n1 n2 x1 x2 ∧ Q (.int (unlI x1.s x2.s)) H
theorem scUnlike : FnScope ["one", "other"] ["one", "other"] (defScope sUnlike) := ⟨rfl, rfl, rfl, by decide +kernel, rfl, by decide +kernel, by decide +kernel⟩
theorem ok_unlike {f CN : Addr} {fd : FuncData} (D : Def K mg "unlike_sign" ["one", "other"] sUnlike f fd) (N : Num K mg CN) : FnOk P w K mg base (CX1 P w) 1 f fd ["one", "other"] (spUnlike CN) := by
  refine D.F.okE scUnlike (fun vs H Q E h => ?_) (fun X cdv A outer s H vs Q E hX hr hx h => ?_)
  · obtain ⟨n1, n2, x1, x2, rfl, _⟩ := h
    rfl
  · subst hX
    obtain ⟨n1, n2, x1, x2, rfl, ⟨⟨d1, e1⟩, ⟨d2, e2⟩⟩, k⟩ := h
    refine ⟨_, (pss_one (ps_ret (pe_ifExp (pt_cmpR op_ne (pe_fld (pv 0) rfl) (pe_fld (pv 1) rfl) (nomark _)) pe_int pe_int))), ?_⟩
    refine ⟨_, rfl, n1, CN, d1, _, _, rfl, e1, N.cl, N.n2, num2 _ _ _ _, _, rfl, n2, CN, d2, _, _, rfl, e2, N.cl, N.n2, num2 _ _ _ _, rfl, _, rfl, ?_⟩
    unfold unlI at k
    by_cases h : x1.s = x2.s
    · rw [if_pos h] at k
      exact iteNS (congrArg V.int h) k
    · rw [if_neg h] at k
      rw [decide_eq_false (fun z => h (by injection z) : ¬ V.int x1.s = V.int x2.s)]
      exact iteT k
theorem some_two {z : Str} {n1 n2 : Addr} {x1 x2 : Nm} (h1 : x1.k = .plain) (h2 : x2.k = .plain) (hz : Kd.plain.str ≠ z) : ([(n1, x1), (n2, x2)].any fun p => decide (p.2.k.str = z)) = false := by
  simp [h1, h2, hz]
theorem nums_two {CN : Addr} {H : Hp} {l n1 n2 : Addr} {x1 x2 : Nm} (h : Two CN H n1 n2 x1 x2) (hl : H l = some (.lst [.ref n1, .ref n2])) : NumsAt CN H l [(n1, x1), (n2, x2)] := ⟨hl, List.forall_mem_cons.2 ⟨h.1, List.forall_mem_cons.2 ⟨h.2, by simp⟩⟩⟩
def spEndByN (CN : Addr) : Sp := fun vs H Q _ => ∃ n1 n2 x1 x2, vs = [.ref n1, .ref n2] ∧ Two CN H n1 n2 x1 x2 ∧ x1.k = .plain ∧ x2.k = .plain ∧ ∀ H', Same H H' → Q (.bl false) H'
theorem scEndByN : FnScope ["one", "other"] ["one", "other"] (defScope sEndByN) := ⟨rfl, rfl, rfl, by decide +kernel, rfl, by decide +kernel, by decide +kernel⟩
theorem ok_endByN {f f1 f2 CN : Addr} {fd fd1 fd2 : FuncData} (D : Def K mg "is_end_by_nought" ["one", "other"] sEndByN f fd) (D_some_of_kind : Def K mg "some_of_kind" ["numbers", "kind"] sSomeK f1 fd1) (G_some_of_kind : FnOk P w K mg base (CX1 P w) 1 f1 fd1 ["numbers", "kind"] (spSomeK CN)) (D_is_nought : Def K mg "is_nought" ["number"] sIsNought f2 fd2) : FnOk P w K mg base (CX1 P w) 2 f fd ["one", "other"] (spEndByN CN) := by
  have G_is_nought : FnOk P w K mg base (CX1 P w) 1 f2 fd2 ["number"] (fun _ _ _ _ => False) := FnOk.never
  refine D.F.okE scEndByN (fun vs H Q E h => ?_) (fun X cdv A outer s H vs Q E hX hr hx h => ?_)
  · obtain ⟨n1, n2, x1, x2, rfl, _⟩ := h
    rfl
  · subst hX
    obtain ⟨n1, n2, x1, x2, rfl, tw, h1, h2, k⟩ := h
    refine ⟨_, (pss_one (ps_ret (pe_and (pcall D_some_of_kind G_some_of_kind hr hx (pa_cons (pe_lst (pa_cons (pv 0) (pa_cons (pv 1) pa_nil))) (pa_cons pe_str pa_nil))) (pe_one (pe_or (pcall D_is_nought G_is_nought hr hx (pa_cons (pv 0) pa_nil)) (pe_one (pcall D_is_nought G_is_nought hr hx (pa_cons (pv 1) pa_nil)))))))), ?_⟩
    have z2 : 2 ≤ sizeLine := line1000 (by decide)
    refine ⟨_, rfl, _, rfl, z2, fun l nl => ?_⟩
    have u := Same.upd (o := .lst [.ref n1, .ref n2]) nl
    refine ⟨l, _, _, rfl, nums_two (tw.same u) upd_same, (by show 2 ≤ 1000; decide), fun H' s' => ⟨_, rfl, ?_⟩⟩
    rw [some_two h1 h2 (by decide +kernel)]
    exact iteF (k H' (u.trans s'))
def prodN (x1 x2 : Nm) : Nm := ⟨.plain, unlI x1.s x2.s, x1.f * x2.f, x1.p + x2.p⟩
def spProd (CN : Addr) : Sp := fun vs H Q _ => ∃ n1 n2 x1 x2, vs = [.ref n1, .ref n2] ∧ Two CN H n1 n2 x1 x2 ∧ x1.k = .plain ∧ x2.k = .plain ∧ IntMulOk x1.f x2.f ∧ ∀ n H', H n = none → Same H H' → NumIs CN H' n (prodN x1 x2) → Q (.ref n) H'
theorem scProd : FnScope ["one", "other", "sign"] ["one", "other"] (defScope sProduct) := ⟨rfl, rfl, rfl, by decide +kernel, rfl, by decide +kernel, by decide +kernel⟩
theorem ok_prod {f f1 f2 f3 fI CN CB : Addr} {fd fd1 fd2 fd3 fdI : FuncData} (D : Def K mg "product" ["one", "other"] sProduct f fd) (D_some_of_kind : Def K mg "some_of_kind" ["numbers", "kind"] sSomeK f1 fd1) (G_some_of_kind : FnOk P w K mg base (CX1 P w) 1 f1 fd1 ["numbers", "kind"] (spSomeK CN)) (D_unlike_sign : Def K mg "unlike_sign" ["one", "other"] sUnlike f2 fd2) (G_unlike_sign : FnOk P w K mg base (CX1 P w) 1 f2 fd2 ["one", "other"] (spUnlike CN))
    (D_end : Def K mg "end" ["sign"] sEnd f3 fd3) (G_end : FnOk P w K mg base (CX1 P w) 3 f3 fd3 ["sign"] (spEnd K CN CB)) (N : Num K mg CN) (M : MakeN P w K mg base CN fI fdI) : FnOk P w K mg base (CX1 P w) 4 f fd ["one", "other"] (spProd CN) := by
  refine D.F.okE scProd (fun vs H Q E h => ?_) (fun X cdv A outer s H vs Q E hX hr hx h => ?_)
  · obtain ⟨n1, n2, x1, x2, rfl, _⟩ := h
    rfl
  · subst hX
    obtain ⟨n1, n2, x1, x2, rfl, tw, h1, h2, hm, k⟩ := h
    refine ⟨_, (pss_cons (ps_set (i := 2) scProd.nd rfl (Or.inl rfl) (pcall D_unlike_sign G_unlike_sign hr hx (pa_cons (pv 0) (pa_cons (pv 1) pa_nil))))
      (pss_cons (ps_if (pt_val (pcall D_some_of_kind G_some_of_kind hr hx (pa_cons (pe_lst (pa_cons (pv 0) (pa_cons (pv 1) pa_nil))) (pa_cons pe_str pa_nil)))) (pss_one (ps_ret (pcall D_end G_end hr hx (pa_cons (pv 2) pa_nil)))) pss_nil)
      (pss_one (ps_ret (pmake M.m (FnOk.up M.g) hr N.g M.b .nil hx (pa_cons pe_str (pa_cons (pv 2) (pa_cons (pe_op op_mulK (pe_fld (pv 0) rfl) (pe_fld (pv 1) rfl)) (pa_cons (pe_op op_add (pe_fld (pv 0) rfl) (pe_fld (pv 1) rfl)) pa_nil))))))))), ?_⟩
    have z2 : 2 ≤ sizeLine := line1000 (by decide)
    refine ⟨_, rfl, _, rfl, n1, n2, x1, x2, rfl, tw, ?_⟩
    refine ⟨_, rfl, _, rfl, z2, fun l nl => ?_⟩
    have u := Same.upd (o := .lst [.ref n1, .ref n2]) nl
    refine ⟨l, _, _, rfl, nums_two (tw.same u) upd_same, (by show 2 ≤ 1000; decide), fun H' s' => ⟨_, rfl, ?_⟩⟩
    rw [some_two h1 h2 (by decide +kernel)]
    refine iteF ?_
    have sm := u.trans s'
    obtain ⟨⟨d1, e1⟩, ⟨d2, e2⟩⟩ := tw.same sm
    refine ⟨_, rfl, _, rfl, n1, CN, d1, _, _, rfl, e1, N.cl, N.n3, num3 _ _ _ _, _, rfl, n2, CN, d2, _, _, rfl, e2, N.cl, N.n3, num3 _ _ _ _, _, _, rfl, rfl, hm, _, rfl, n1, CN, d1, _, _, rfl, e1, N.cl, N.n4, num4 _ _ _ _, _, rfl, n2, CN, d2, _, _, rfl, e2, N.cl, N.n4, num4 _ _ _ _, _, _, rfl, rfl, ?_⟩
    exact madeN fun n H2 nn s2 num => k n H2 (sm.free nn) (sm.trans s2) num
def spTimes (CN CC CT : Addr) : Sp := fun vs H Q E => ∃ c v a b xs ys n1 n2 x1 x2 L, vs = [.ref c, .ref n1, .ref n2] ∧ CtxV CC H c v a b xs ys ∧ v.Ok ∧ xs.length ≤ 900 ∧ ordS xs = xs ∧ Two CN H n1 n2 x1 x2 ∧ x1.k = .plain ∧ x2.k = .plain ∧ IntMulOk x1.f x2.f ∧ (prodN x1 x2).Ok ∧
  (x1.f * x2.f ≠ 0 → Lead0 (x1.f * x2.f) 1 (x1.p + x2.p - L)) ∧ Ends2 CN CC CT H c v b xs ys (roundR v (prodN x1 x2) L) Q E
theorem scTimes : FnScope ["context", "one", "other"] ["context", "one", "other"] (defScope sTimes) := ⟨rfl, rfl, rfl, by decide +kernel, rfl, by decide +kernel, by decide +kernel⟩
theorem ok_times {f f1 f2 f3 f4 f5 f6 f7 CN CC CB' CT : Addr} {fd fd1 fd2 fd3 fd4 fd5 fd6 fd7 : FuncData} {sStm6 : Stmt} (D : Def K mg "times" ["context", "one", "other"] sTimes f fd) (D_need_numbers : Def K mg "need_numbers" ["things"] sNeedNs f1 fd1) (G_need_numbers : FnOk P w K mg base (CX1 P w) 2 f1 fd1 ["things"] (spNeedNs K CN CB'))
    (D_some_of_kind : Def K mg "some_of_kind" ["numbers", "kind"] sSomeK f2 fd2) (G_some_of_kind : FnOk P w K mg base (CX1 P w) 1 f2 fd2 ["numbers", "kind"] (spSomeK CN)) (D_is_end_by_nought : Def K mg "is_end_by_nought" ["one", "other"] sEndByN f3 fd3) (G_is_end_by_nought : FnOk P w K mg base (CX1 P w) 2 f3 fd3 ["one", "other"] (spEndByN CN))
    (D_product : Def K mg "product" ["one", "other"] sProduct f4 fd4) (G_product : FnOk P w K mg base (CX1 P w) 4 f4 fd4 ["one", "other"] (spProd CN)) (D_rounded : Def K mg "rounded" ["context", "number"] sRounded f5 fd5) (G_rounded : FnOk P w K mg base (CX1 P w) 7 f5 fd5 ["context", "number"] (spRounded K CN CC CB' CT))
    (D_void : Def K mg "void" ["context"] sStm6 f6 fd6) (D_nothing : Def K mg "nothing" [] sNothing f7 fd7) (G_nothing : FnOk P w K mg base (CX1 P w) 3 f7 fd7 [] (spNothing CN)) : FnOk P w K mg base (CX1 P w) 8 f fd ["context", "one", "other"] (spTimes CN CC CT) := by
  have G_void : FnOk P w K mg base (CX1 P w) 1 f6 fd6 ["context"] (fun _ _ _ _ => False) := FnOk.never
  refine D.F.okE scTimes (fun vs H Q E h => ?_) (fun X cdv A outer s H vs Q E hX hr hx h => ?_)
  · obtain ⟨c, v, a, b, xs, ys, n1, n2, x1, x2, L, rfl, _⟩ := h
    rfl
  · subst hX
    obtain ⟨c, v, a, b, xs, ys, n1, n2, x1, x2, L, rfl, hc, ok, lx, ox, tw, h1, h2, hm, po, hL, k⟩ := h
    refine ⟨_, (pss_cons (ps_expr (pcall D_need_numbers G_need_numbers hr hx (pa_cons (pe_lst (pa_cons (pv 1) (pa_cons (pv 2) pa_nil))) pa_nil)))
      (pss_cons (ps_if (pt_val (pcall D_some_of_kind G_some_of_kind hr hx (pa_cons (pe_lst (pa_cons (pv 1) (pa_cons (pv 2) pa_nil))) (pa_cons pe_str pa_nil)))) (pss_one (ps_ret (pcall0 D_nothing G_nothing hr hx))) pss_nil)
      (pss_cons (ps_if (pt_val (pcall D_is_end_by_nought G_is_end_by_nought hr hx (pa_cons (pv 1) (pa_cons (pv 2) pa_nil)))) (pss_one (ps_ret (pcall D_void G_void hr hx (pa_cons (pv 0) pa_nil)))) pss_nil)
      (pss_one (ps_ret (pcall D_rounded G_rounded hr hx (pa_cons (pv 0) (pa_cons (pcall D_product G_product hr hx (pa_cons (pv 1) (pa_cons (pv 2) pa_nil))) pa_nil)))))))), ?_⟩
    have z2 : 2 ≤ sizeLine := line1000 (by decide)
    refine ⟨_, rfl, _, rfl, z2, fun l nl => ?_⟩
    have u := Same.upd (o := .lst [.ref n1, .ref n2]) nl
    refine ⟨l, [(n1, x1), (n2, x2)], rfl, (nums_two (tw.same u) upd_same).n, .inl ⟨upd_same, ?_⟩⟩
    refine ⟨_, rfl, _, rfl, z2, fun l2 nl2 => ?_⟩
    have u2 := u.trans (Same.upd (o := .lst [.ref n1, .ref n2]) nl2)
    refine ⟨l2, _, _, rfl, nums_two (tw.same u2) upd_same, (by show 2 ≤ 1000; decide), fun H3 s3 => ⟨_, rfl, ?_⟩⟩
    rw [some_two h1 h2 (by decide +kernel)]
    refine iteF ?_
    have sm3 := u2.trans s3
    refine ⟨_, rfl, _, rfl, n1, n2, x1, x2, rfl, tw.same sm3, h1, h2, fun H4 s4 => ⟨_, rfl, iteF ?_⟩⟩
    have sm4 := sm3.trans s4
    refine ⟨_, rfl, _, rfl, _, rfl, n1, n2, x1, x2, rfl, tw.same sm4, h1, h2, hm, fun n H5 nn s5 num => ?_⟩
    have sm5 := sm4.trans s5
    refine ⟨c, v, a, b, xs, ys, _, rfl, hc.same sm5, ok, lx, ox, .inl ⟨n, prodN x1 x2, L, rfl, num, po, fun _ h0 => hL h0, ?_, ?_⟩⟩
    · exact fun hn m a' H6 x6 ct nm => k.1 hn m a' H6 ((Exc.of sm5).trans x6) ct nm
    · exact fun z hz a' d H6 x6 ct ed => k.2 z hz a' d H6 ((Exc.of sm5).trans x6) ct ed
end
end TR
set_option Elab.async false
set_option linter.all false
set_option maxRecDepth 100000
set_option maxHeartbeats 4000000
namespace TR
open PySem L2 PySem.W PyProof.Rows
seal PE PS PSs PA PT PW PG PGs PI PO
abbrev sOver : Stmt := (top 69)
abbrev sHasQ : Stmt := (top 70)
abbrev sNeedC : Stmt := (top 30)
abbrev sPower : Stmt := (top 48)
abbrev sPowNought : Stmt := (top 50)
abbrev sRoot : Stmt := (top 47)
section
variable {P : Program} {w : World} {K : Frag} {mg : Str → Option Value} {base : Heap}
def spHasQ (CN : Addr) : Sp := fun vs H Q _ => ∃ n1 n2 x1 x2, vs = [.ref n1, .ref n2] ∧ Two CN H n1 n2 x1 x2 ∧ x1.k = .plain ∧ x2.k = .plain ∧ x2.f ≠ 0 ∧ Q (.bl true) H
theorem scHasQ : FnScope ["one", "other"] ["one", "other"] (defScope sHasQ) := ⟨rfl, rfl, rfl, by decide +kernel, rfl, by decide +kernel, by decide +kernel⟩
theorem ok_hasQ {f CN : Addr} {fd : FuncData} (D : Def K mg "has_plain_quotient" ["one", "other"] sHasQ f fd) (N : Num K mg CN) : FnOk P w K mg base (CX1 P w) 1 f fd ["one", "other"] (spHasQ CN) := by
  refine D.F.okE scHasQ (fun vs H Q E h => ?_) (fun X cdv A outer s H vs Q E hX hr hx h => ?_)
  · obtain ⟨n1, n2, x1, x2, rfl, _⟩ := h
    rfl
  · subst hX
    obtain ⟨n1, n2, x1, x2, rfl, ⟨⟨d1, e1⟩, ⟨d2, e2⟩⟩, h1, h2, h3, k⟩ := h
    refine ⟨_, (pss_one (ps_ret (pe_and (pe_cmpR op_eq (pe_fld (pv 0) rfl) pe_str (nomark _)) (pe_and (pe_cmpR op_eq (pe_fld (pv 1) rfl) pe_str (nomark _)) (pe_one (pe_cmpR op_ne (pe_fld (pv 1) rfl) pe_int (nomark _))))))), ?_⟩
    refine ⟨_, rfl, n1, CN, d1, _, _, rfl, e1, N.cl, N.n1, num1 _ _ _ _, rfl, _, rfl, iteDT (by rw [h1]; rfl) ?_⟩
    refine ⟨_, rfl, n2, CN, d2, _, _, rfl, e2, N.cl, N.n1, num1 _ _ _ _, rfl, _, rfl, iteDT (by rw [h2]; rfl) ?_⟩
    refine ⟨_, rfl, n2, CN, d2, _, _, rfl, e2, N.cl, N.n3, num3 _ _ _ _, rfl, ?_⟩
    rw [decide_eq_false (fun z => h3 (by injection z) : ¬ V.int x2.f = V.int 0)]
    exact k
/-- over, of two plain numbers that are not nought -/
def spOver (CN CC CT : Addr) : Sp := fun vs H Q E => ∃ c v a b xs ys n1 n2 x1 x2 L, vs = [.ref c, .ref n1, .ref n2] ∧ CtxV CC H c v a b xs ys ∧ v.Ok ∧ xs.length ≤ 900 ∧ Two CN H n1 n2 x1 x2 ∧ x1.k = .plain ∧ x2.k = .plain ∧ Sz x1.f ∧ Sz x2.f ∧
  Lead0 x1.f x2.f (x1.p - x2.p - L) ∧ -1500 ≤ x1.p - x2.p - v.fin L ∧ x1.p - x2.p - v.fin L ≤ 1500 ∧ Ends2 CN CC CT H c v b xs ys (settleR v (unlI x1.s x2.s) x1.f x2.f (x1.p - x2.p) L (x1.p - x2.p)) Q E
theorem scOver : FnScope ["context", "one", "other", "sign", "ideal"] ["context", "one", "other"] (defScope sOver) := ⟨rfl, rfl, rfl, by decide +kernel, rfl, by decide +kernel, by decide +kernel⟩
theorem ok_over {f f1 f2 f3 f4 f5 f6 f7 f8 fR CN CC CB' CT CR CE : Addr} {fd fd1 fd2 fd3 fd4 fd5 fd6 fd7 fd8 fdR : FuncData} {sOdd : Stmt} {d0 : Value} {gP : List Value → List Value → List Value} {vP : List V → List V → List V} (D : Def K mg "over" ["context", "one", "other"] sOver f fd) (D_need_numbers : Def K mg "need_numbers" ["things"] sNeedNs f1 fd1) (G_need_numbers : FnOk P w K mg base (CX1 P w) 2 f1 fd1 ["things"] (spNeedNs K CN CB'))
    (D_some_of_kind : Def K mg "some_of_kind" ["numbers", "kind"] sSomeK f2 fd2) (G_some_of_kind : FnOk P w K mg base (CX1 P w) 1 f2 fd2 ["numbers", "kind"] (spSomeK CN)) (D_has_plain_quotient : Def K mg "has_plain_quotient" ["one", "other"] sHasQ f3 fd3) (G_has_plain_quotient : FnOk P w K mg base (CX1 P w) 1 f3 fd3 ["one", "other"] (spHasQ CN))
    (D_odd_quotient : Def K mg "odd_quotient" ["context", "one", "other", "ideal"] sOdd f4 fd4) (D_unlike_sign : Def K mg "unlike_sign" ["one", "other"] sUnlike f5 fd5) (G_unlike_sign : FnOk P w K mg base (CX1 P w) 1 f5 fd5 ["one", "other"] (spUnlike CN)) (D_nought : Def K mg "nought" ["context", "sign", "ideal"] sNought f6 fd6) (G_nought : FnOk P w K mg base (CX1 P w) 3 f6 fd6 ["context", "sign", "ideal"] (spNought CN CC))
    (D_settled : Def K mg "settled" ["context", "sign", "exact", "ideal"] sSettled f7 fd7) (G_settled : FnOk P w K mg base (CX1 P w) 6 f7 fd7 ["context", "sign", "exact", "ideal"] (spSettled CN CC CT CR)) (D_nothing : Def K mg "nothing" [] sNothing f8 fd8) (G_nothing : FnOk P w K mg base (CX1 P w) 3 f8 fd8 [] (spNothing CN))
    (C : CtxC K mg CC) (ML : Has P w K mg base CC "lowest" 1 ["self"] (spCtxLow CC)) (N : Num K mg CN) (MR : MakeR P w K mg base CR fR fdR d0 gP vP) (R : RatC K mg CR CE) : FnOk P w K mg base (CX1 P w) 7 f fd ["context", "one", "other"] (spOver CN CC CT) := by
  have G_odd_quotient : FnOk P w K mg base (CX1 P w) 1 f4 fd4 ["context", "one", "other", "ideal"] (fun _ _ _ _ => False) := FnOk.never
  refine D.F.okE scOver (fun vs H Q E h => ?_) (fun X cdv A outer s H vs Q E hX hr hx h => ?_)
  · obtain ⟨c, v, a, b, xs, ys, n1, n2, x1, x2, L, rfl, _⟩ := h
    rfl
  · subst hX
    obtain ⟨c, v, a, b, xs, ys, n1, n2, x1, x2, L, rfl, hc, ok, lx, tw, h1, h2, z1, z3, hL, q0, q1, k⟩ := h
    obtain ⟨fL, fdL, mL, gL, bL⟩ := ML
    refine ⟨_, (pss_cons (ps_expr (pcall D_need_numbers G_need_numbers hr hx (pa_cons (pe_lst (pa_cons (pv 1) (pa_cons (pv 2) pa_nil))) pa_nil)))
      (pss_cons (ps_if (pt_val (pcall D_some_of_kind G_some_of_kind hr hx (pa_cons (pe_lst (pa_cons (pv 1) (pa_cons (pv 2) pa_nil))) (pa_cons pe_str pa_nil)))) (pss_one (ps_ret (pcall0 D_nothing G_nothing hr hx))) pss_nil)
      (pss_cons (ps_if (pt_not (pt_val (pcall D_has_plain_quotient G_has_plain_quotient hr hx (pa_cons (pv 1) (pa_cons (pv 2) pa_nil))))) (pss_one (ps_ret (pcall D_odd_quotient G_odd_quotient hr hx (pa_cons (pv 0) (pa_cons (pv 1) (pa_cons (pv 2) (pa_cons (pmeth0 (pv 0) C.cl mL gL hr bL .nil hx) pa_nil))))))) pss_nil)
      (pss_cons (ps_set (i := 3) scOver.nd rfl (Or.inl rfl) (pcall D_unlike_sign G_unlike_sign hr hx (pa_cons (pv 1) (pa_cons (pv 2) pa_nil))))
      (pss_cons (ps_set (i := 4) scOver.nd rfl (Or.inl rfl) (pe_op op_sub (pe_fld (pv 1) rfl) (pe_fld (pv 2) rfl)))
      (pss_cons (ps_if (pt_cmpR op_eq (pe_fld (pv 1) rfl) pe_int (nomark _)) (pss_one (ps_ret (pcall D_nought G_nought hr hx (pa_cons (pv 0) (pa_cons (pv 3) (pa_cons (pv 4) pa_nil)))))) pss_nil)
      (pss_one (ps_ret (pcall D_settled G_settled hr hx (pa_cons (pv 0) (pa_cons (pv 3) (pa_cons (pmake MR.m MR.g hr R.g MR.b3 .nil hx (pa_cons (pe_fld (pv 1) rfl) (pa_cons (pe_fld (pv 2) rfl) (pa_cons (pv 4) pa_nil)))) (pa_cons (pv 4) pa_nil))))))))))))), ?_⟩
    have z2 : 2 ≤ sizeLine := line1000 (by decide)
    refine ⟨_, rfl, _, rfl, z2, fun l nl => ?_⟩
    have u := Same.upd (o := .lst [.ref n1, .ref n2]) nl
    refine ⟨l, [(n1, x1), (n2, x2)], rfl, (nums_two (tw.same u) upd_same).n, .inl ⟨upd_same, ?_⟩⟩
    refine ⟨_, rfl, _, rfl, z2, fun l2 nl2 => ?_⟩
    have u2 := u.trans (Same.upd (o := .lst [.ref n1, .ref n2]) nl2)
    refine ⟨l2, _, _, rfl, nums_two (tw.same u2) upd_same, (by show 2 ≤ 1000; decide), fun H3 s3 => ⟨_, rfl, ?_⟩⟩
    rw [some_two h1 h2 (by decide +kernel)]
    refine iteF ?_
    have sm3 := u2.trans s3
    have tw3 := tw.same sm3
    have f1 : x1.f ≠ 0 := by have := z1.1; omega
    have f2 : x2.f ≠ 0 := by have := z3.1; omega
    refine ⟨_, rfl, _, rfl, n1, n2, x1, x2, rfl, tw3, h1, h2, f2, _, rfl, iteF ?_⟩
    refine ⟨_, rfl, _, rfl, n1, n2, x1, x2, rfl, tw3, ?_⟩
    obtain ⟨⟨d1, e1⟩, ⟨d2, e2⟩⟩ := id tw3
    refine ⟨_, rfl, n1, CN, d1, _, _, rfl, e1, N.cl, N.n4, num4 _ _ _ _, _, rfl, n2, CN, d2, _, _, rfl, e2, N.cl, N.n4, num4 _ _ _ _, _, _, rfl, rfl, ?_⟩
    refine ⟨_, rfl, n1, CN, d1, _, _, rfl, e1, N.cl, N.n3, num3 _ _ _ _, rfl, _, rfl, iteDF (fun z => f1 (by injection z)) ?_⟩
    refine ⟨_, rfl, _, rfl, _, rfl, n1, CN, d1, _, _, rfl, e1, N.cl, N.n3, num3 _ _ _ _, _, rfl, n2, CN, d2, _, _, rfl, e2, N.cl, N.n3, num3 _ _ _ _, _, rfl, fun q dq m1 m2 me => madeR m1 m2 me fun H4 s4 ra => ⟨rfl, ?_⟩⟩
    have sm4 := sm3.trans s4
    have us := unl_ok x1.s x2.s
    refine ⟨_, rfl, c, v, a, b, xs, ys, q, x1.f, x2.f, x1.p - x2.p, L, unlI x1.s x2.s, x1.p - x2.p, rfl, hc.same sm4, ok, lx, ra, z1, z3, hL, q0, q1, us.1, us.2, ?_, ?_⟩
    · exact fun hn m a' H6 x6 ct nm => k.1 hn m a' H6 ((Exc.of sm4).trans x6) ct nm
    · exact fun z hz a' d H6 x6 ct ed => k.2 z hz a' d H6 ((Exc.of sm4).trans x6) ct ed
/-- a count that fits -/
def spNeedC : Sp := fun vs H Q _ => ∃ n m : Int, vs = [.int n, .int m] ∧ -m ≤ n ∧ n ≤ m ∧ Q .non H
theorem scNeedC : FnScope ["thing", "most"] ["thing", "most"] (defScope sNeedC) := ⟨rfl, rfl, rfl, by decide +kernel, rfl, by decide +kernel, by decide +kernel⟩
theorem ok_needC {f f1 CB : Addr} {fd fd1 : FuncData} (D : Def K mg "need_count" ["thing", "most"] sNeedC f fd) (D1 : Def K mg "is_between" ["thing", "least", "most"] sIsB f1 fd1) (O : Own mg) (T : Kit K) (B : Err K mg "BadCount" CB) : FnOk P w K mg base (CX1 P w) 2 f fd ["thing", "most"] spNeedC := by
  have G1 := ok_isB (P := P) (w := w) (base := base) D1 O T
  refine D.F.okE scNeedC (fun vs H Q E h => ?_) (fun X cdv A outer s H vs Q E hX hr hx h => ?_)
  · obtain ⟨n, m, rfl, _⟩ := h
    rfl
  · subst hX
    obtain ⟨n, m, rfl, h1, h2, k⟩ := h
    refine ⟨_, (pss_one (ps_if (pt_not (pt_val (pcall D1 G1 hr hx (pa_cons (pv 0) (pa_cons (pe_un un_neg (pv 1)) (pa_cons (pv 1) pa_nil))))))
      (pss_one (ps_raise (by rfl) B.g B.q PySem.F.excBase_ValueError hr.hd hx (pa_cons (pe_fstr (.cons .lit (.cons (.int (pv 1)) (.cons .lit (.cons (.int (pv 1)) .nil))))) pa_nil))) pss_nil)), ?_⟩
    exact ⟨_, rfl, _, rfl, _, rfl, _, rfl, _, _, _, rfl, .inl ⟨⟨n, rfl, h1, h2⟩, _, rfl, iteF k⟩⟩
/-- a nought to a power of one and more -/
def spPowN (CN CC : Addr) : Sp := fun vs H Q _ => ∃ c v a b xs ys, ∃ s p k : Int, vs = [.ref c, .int s, .int p, .int k] ∧ CtxV CC H c v a b xs ys ∧ 0 < k ∧ k ≤ 20 ∧ ∀ n H', H n = none → Same H H' → NumIs CN H' n ⟨.plain, s, 0, minI (maxI (k * p) (v.l - v.r + 1)) v.m⟩ → Q (.ref n) H'
theorem scPowN : FnScope ["context", "sign", "power", "count"] ["context", "sign", "power", "count"] (defScope sPowNought) := ⟨rfl, rfl, rfl, by decide +kernel, rfl, by decide +kernel, by decide +kernel⟩
theorem ok_powN {f f1 f2 f3 CN CC : Addr} {fd fd1 fd2 fd3 : FuncData} {sV sS : Stmt} (D : Def K mg "power_of_nought" ["context", "sign", "power", "count"] sPowNought f fd) (D_void : Def K mg "void" ["context"] sV f1 fd1) (D_nought : Def K mg "nought" ["context", "sign", "ideal"] sNought f2 fd2) (G_nought : FnOk P w K mg base (CX1 P w) 3 f2 fd2 ["context", "sign", "ideal"] (spNought CN CC))
    (D_split_to_end : Def K mg "split_to_end" ["context", "sign"] sS f3 fd3) : FnOk P w K mg base (CX1 P w) 4 f fd ["context", "sign", "power", "count"] (spPowN CN CC) := by
  have G_void : FnOk P w K mg base (CX1 P w) 1 f1 fd1 ["context"] (fun _ _ _ _ => False) := FnOk.never
  have G_split_to_end : FnOk P w K mg base (CX1 P w) 1 f3 fd3 ["context", "sign"] (fun _ _ _ _ => False) := FnOk.never
  refine D.F.okE scPowN (fun vs H Q E h => ?_) (fun X cdv A outer s H vs Q E hX hr hx h => ?_)
  · obtain ⟨c, v, a, b, xs, ys, sg, p, n, rfl, _⟩ := h
    rfl
  · subst hX
    obtain ⟨c, v, a, b, xs, ys, sg, p, n, rfl, hc, n0, n1, k⟩ := h
    refine ⟨_, (pss_cons (ps_if (pt_cmpR op_eq (pv 3) pe_int (nomark _)) (pss_one (ps_ret (pcall D_void G_void hr hx (pa_cons (pv 0) pa_nil)))) pss_nil)
      (pss_one (ps_ret (pe_ifExp (pt_cmpR op_gt (pv 3) pe_int (nomark _)) (pcall D_nought G_nought hr hx (pa_cons (pv 0) (pa_cons (pv 1) (pa_cons (pe_op op_mulK (pv 3) (pv 2)) pa_nil)))) (pcall D_split_to_end G_split_to_end hr hx (pa_cons (pv 0) (pa_cons (pv 1) pa_nil))))))), ?_⟩
    refine ⟨_, rfl, rfl, _, rfl, iteDF (fun z => by injection z with z; omega) ?_⟩
    exact ⟨_, rfl, _, _, rfl, rfl, _, rfl, iteDT n0 ⟨_, rfl, _, rfl, _, rfl, _, rfl, _, _, rfl, rfl, CMul.ok (.inl ⟨by omega, by omega⟩), c, v, a, b, xs, ys, sg, _, rfl, hc, fun m H' nm sm num => k m H' nm sm num⟩⟩
end
end TR
set_option Elab.async false
set_option linter.all false
set_option maxRecDepth 100000
set_option maxHeartbeats 4000000
namespace TR
open PySem L2 PySem.W PyProof.Rows
seal PE PS PSs PA PT PW PG PGs PI PO
def powI (f k : Int) : Int := ((f.toNat ^ k.natAbs : Nat) : Int)
def sgI (s k : Int) : Int := if k % 2 = 1 then s else 0
theorem sg_ok {s k : Int} (h0 : 0 ≤ s) (h1 : s ≤ 1) : 0 ≤ sgI s k ∧ sgI s k ≤ 1 := by unfold sgI; split <;> omega
section
variable {P : Program} {w : World} {K : Frag} {mg : Str → Option Value} {base : Heap}
/-- settling a Ratio or a Root -/
def spSettled2 (CN CC CT CR CQ : Addr) : Sp := fun vs H Q E => spSettledX CN CC CT CR (spRFirst CR) (spRAt CR) vs H Q E ∨ spSettledX CN CC CT CQ (spQFirst CQ) (spQAt CQ) vs H Q E
def spPow (CN CC CT : Addr) : Sp := fun vs H Q E => ∃ c v a b xs ys n x, ∃ k L : Int, vs = [.ref c, .ref n, .int k] ∧ CtxV CC H c v a b xs ys ∧ v.Ok ∧ xs.length ≤ 900 ∧ NumIs CN H n x ∧ x.k = .plain ∧ x.Ok ∧ -20 ≤ k ∧ k ≤ 20 ∧
  ((x.f ≠ 0 ∧ 0 ≤ k ∧ Sz (powI x.f k) ∧ Lead0 (powI x.f k) 1 (k * x.p - L) ∧ -1500 ≤ k * x.p - v.fin L ∧ k * x.p - v.fin L ≤ 1500 ∧ Ends2 CN CC CT H c v b xs ys (settleR v (sgI x.s k) (powI x.f k) 1 (k * x.p) L (k * x.p)) Q E) ∨
   (x.f ≠ 0 ∧ k < 0 ∧ Sz (powI x.f k) ∧ Lead0 1 (powI x.f k) (k * x.p - L) ∧ -1500 ≤ k * x.p - v.fin L ∧ k * x.p - v.fin L ≤ 1500 ∧ Ends2 CN CC CT H c v b xs ys (settleR v (sgI x.s k) 1 (powI x.f k) (k * x.p) L (k * x.p)) Q E) ∨
   (x.f = 0 ∧ 0 < k ∧ ∀ n' H', Same H H' → NumIs CN H' n' ⟨.plain, sgI x.s k, 0, minI (maxI (k * x.p) (v.l - v.r + 1)) v.m⟩ → Q (.ref n') H'))
theorem scPow : FnScope ["context", "one", "count", "sign", "ideal", "product", "exact"] ["context", "one", "count"] (defScope sPower) := ⟨rfl, rfl, rfl, by decide +kernel, rfl, by decide +kernel, by decide +kernel⟩
theorem ok_pow {f f1 f2 f3 f4 f5 f6 f7 fR CN CC CB' CT CR CE CQ : Addr} {fd fd1 fd2 fd3 fd4 fd5 fd6 fd7 fdR : FuncData} {sEn : Stmt} {d0 : Value} {gP : List Value → List Value → List Value} {vP : List V → List V → List V} (D : Def K mg "to_power" ["context", "one", "count"] sPower f fd) (D_need_number : Def K mg "need_number" ["thing"] sNeedN f1 fd1) (G_need_number : FnOk P w K mg base (CX1 P w) 1 f1 fd1 ["thing"] (spNeedN K CN CB'))
    (D_need_count : Def K mg "need_count" ["thing", "most"] sNeedC f2 fd2) (G_need_count : FnOk P w K mg base (CX1 P w) 2 f2 fd2 ["thing", "most"] spNeedC) (D_nothing : Def K mg "nothing" [] sNothing f3 fd3) (G_nothing : FnOk P w K mg base (CX1 P w) 3 f3 fd3 [] (spNothing CN)) (D_power_of_end : Def K mg "power_of_end" ["context", "sign", "count"] sEn f4 fd4)
    (D_power_of_nought : Def K mg "power_of_nought" ["context", "sign", "power", "count"] sPowNought f5 fd5) (G_power_of_nought : FnOk P w K mg base (CX1 P w) 4 f5 fd5 ["context", "sign", "power", "count"] (spPowN CN CC)) (D_product_of : Def K mg "product_of" ["whole", "count"] sProductOf f6 fd6) (G_product_of : FnOk P w K mg base (CX1 P w) 1 f6 fd6 ["whole", "count"] spProductOf)
    (D_settled : Def K mg "settled" ["context", "sign", "exact", "ideal"] sSettled f7 fd7) (G_settled : FnOk P w K mg base (CX1 P w) 6 f7 fd7 ["context", "sign", "exact", "ideal"] (spSettled CN CC CT CR)) (N : Num K mg CN) (MR : MakeR P w K mg base CR fR fdR d0 gP vP) (R : RatC K mg CR CE) (O : Own mg) : FnOk P w K mg base (CX1 P w) 7 f fd ["context", "one", "count"] (spPow CN CC CT) := by
  have G_power_of_end : FnOk P w K mg base (CX1 P w) 1 f4 fd4 ["context", "sign", "count"] (fun _ _ _ _ => False) := FnOk.never
  refine D.F.okE scPow (fun vs H Q E h => ?_) (fun X cdv A outer s H vs Q E hX hr hx h => ?_)
  · obtain ⟨c, v, a, b, xs, ys, n, x, k, L, rfl, _⟩ := h
    rfl
  · subst hX
    obtain ⟨c, v, a, b, xs, ys, n, x, k, L, rfl, hc, ok, lx, hn, hk, xo, k0, k1, h⟩ := h
    refine ⟨_, (pss_cons (ps_join (ps_expr (pcall D_need_number G_need_number hr hx (pa_cons (pv 1) pa_nil))))
      (pss_cons (ps_join (ps_expr (pcall D_need_count G_need_count hr hx (pa_cons (pv 2) (pa_cons pe_int pa_nil)))))
      (pss_cons (ps_join (ps_if (pt_cmpR op_eq (pe_fld (pv 1) rfl) pe_str (nomark _)) (pss_one (ps_ret (pcall0 D_nothing G_nothing hr hx))) pss_nil))
      (pss_cons (ps_join (ps_set (i := 3) scPow.nd rfl (Or.inl rfl) (pe_ifExp (pt_cmpR op_eq (pe_op op_mod (pv 2) pe_int) pe_int (nomark _)) (pe_fld (pv 1) rfl) pe_int)))
      (pss_cons (ps_join (ps_if (pt_cmpR op_eq (pe_fld (pv 1) rfl) pe_str (nomark _)) (pss_one (ps_ret (pcall D_power_of_end G_power_of_end hr hx (pa_cons (pv 0) (pa_cons (pv 3) (pa_cons (pv 2) pa_nil)))))) pss_nil))
      (pss_cons (ps_join (ps_if (pt_cmpR op_eq (pe_fld (pv 1) rfl) pe_int (nomark _)) (pss_one (ps_ret (pcall D_power_of_nought G_power_of_nought hr hx (pa_cons (pv 0) (pa_cons (pv 3) (pa_cons (pe_fld (pv 1) rfl) (pa_cons (pv 2) pa_nil))))))) pss_nil))
      (pss_cons (ps_join (ps_set (i := 4) scPow.nd rfl (Or.inl rfl) (pe_op op_mulK (pv 2) (pe_fld (pv 1) rfl))))
      (pss_cons (ps_join (ps_set (i := 5) scPow.nd rfl (Or.inl rfl) (pcall D_product_of G_product_of hr hx (pa_cons (pe_fld (pv 1) rfl) (pa_cons (pe_callB call_abs (by rfl) O.abs_ boot_abs (pa_cons (pv 2) pa_nil)) pa_nil)))))
      (pss_cons (ps_join (ps_set (i := 6) scPow.nd rfl (Or.inl rfl) (pe_ifExp (pt_cmpR op_lt (pv 2) pe_int (nomark _)) (pmake MR.m MR.g hr R.g MR.b3 .nil hx (pa_cons pe_int (pa_cons (pv 5) (pa_cons (pv 4) pa_nil)))) (pmake MR.m MR.g hr R.g MR.b3 .nil hx (pa_cons (pv 5) (pa_cons pe_int (pa_cons (pv 4) pa_nil)))))))
      (pss_one (ps_ret (pcall D_settled G_settled hr hx (pa_cons (pv 0) (pa_cons (pv 3) (pa_cons (pv 6) (pa_cons (pv 4) pa_nil)))))))))))))))), ?_⟩
    obtain ⟨dn, en⟩ := id hn
    have npl : ∀ {z : Str}, Kd.plain.str ≠ z → ¬ V.str x.k.str = V.str z := fun hz e => by
      rw [hk] at e
      exact hz (by injection e)
    refine ⟨fun σ' H' => H' = H ∧ σ' = [some (.ref c), some (.ref n), some (.int k), none, none, none, none], ⟨_, rfl, _, rfl, .inl ⟨n, _, _, _, _, rfl, hn, rfl, rfl⟩⟩, ?_⟩
    rintro σ' H1 ⟨rfl, rfl⟩
    refine ⟨fun σ' H' => H' = H1 ∧ σ' = [some (.ref c), some (.ref n), some (.int k), none, none, none, none], ⟨_, rfl, k, 20, rfl, by omega, by omega, rfl, rfl⟩, ?_⟩
    rintro σ' H2 ⟨rfl, rfl⟩
    refine ⟨fun σ' H' => H' = H2 ∧ σ' = [some (.ref c), some (.ref n), some (.int k), none, none, none, none], ⟨_, rfl, n, CN, dn, _, _, rfl, en, N.cl, N.n1, num1 _ _ _ _, rfl, _, rfl, iteDF (npl (by decide +kernel)) ⟨rfl, rfl⟩⟩, ?_⟩
    rintro σ' H3 ⟨rfl, rfl⟩
    have so := sg_ok (k := k) xo.s0 xo.s1
    refine ⟨fun σ' H' => H' = H3 ∧ σ' = [some (.ref c), some (.ref n), some (.int k), some (.int (sgI x.s k)), none, none, none], ?_, ?_⟩
    · refine ⟨_, rfl, _, _, rfl, rfl, (by decide : (0 : Int) < 2), rfl, _, rfl, ?_⟩
      by_cases h2 : k % 2 = 1
      · refine iteDT (congrArg V.int h2) ⟨_, rfl, n, CN, dn, _, _, rfl, en, N.cl, N.n2, num2 _ _ _ _, rfl, ?_⟩
        show _ = [some (V.ref c), some (V.ref n), some (V.int k), some (V.int (sgI x.s k)), none, none, none]
        unfold sgI
        rw [if_pos h2]
        rfl
      · refine iteDF (fun z => h2 (by injection z)) ⟨rfl, ?_⟩
        show _ = [some (V.ref c), some (V.ref n), some (V.int k), some (V.int (sgI x.s k)), none, none, none]
        unfold sgI
        rw [if_neg h2]
        rfl
    rintro σ' H4 ⟨rfl, rfl⟩
    refine ⟨fun σ' H' => H' = H4 ∧ σ' = [some (.ref c), some (.ref n), some (.int k), some (.int (sgI x.s k)), none, none, none], ⟨_, rfl, n, CN, dn, _, _, rfl, en, N.cl, N.n1, num1 _ _ _ _, rfl, _, rfl, iteDF (npl (by decide +kernel)) ⟨rfl, rfl⟩⟩, ?_⟩
    rintro σ' H5 ⟨rfl, rfl⟩
    -- a nought
    refine ⟨fun σ' H' => H' = H5 ∧ x.f ≠ 0 ∧ σ' = [some (.ref c), some (.ref n), some (.int k), some (.int (sgI x.s k)), none, none, none], ?_, ?_⟩
    · refine ⟨_, rfl, n, CN, dn, _, _, rfl, en, N.cl, N.n3, num3 _ _ _ _, rfl, _, rfl, iteD (fun h0 => ?_) (fun h0 => ⟨rfl, fun z => h0 (congrArg V.int z), rfl⟩)⟩
      have h0 : x.f = 0 := by injection h0
      obtain ⟨_, kp, h⟩ : x.f = 0 ∧ 0 < k ∧ ∀ n' H', Same H5 H' → NumIs CN H' n' ⟨.plain, sgI x.s k, 0, minI (maxI (k * x.p) (v.l - v.r + 1)) v.m⟩ → Q (.ref n') H' := by
        rcases h with h | h | h
        · exact absurd h0 h.1
        · exact absurd h0 h.1
        · exact h
      exact ⟨_, rfl, _, rfl, _, rfl, n, CN, dn, _, _, rfl, en, N.cl, N.n4, num4 _ _ _ _, _, rfl, c, v, a, b, xs, ys, _, x.p, k, rfl, hc, kp, k1, fun m H' nm sm num => h m H' sm num⟩
    rintro σ' H6 ⟨rfl, hf, rfl⟩
    have xp0 := xo.p0; have xp1 := xo.p1; have xf0 := xo.f0; have xf1 := xo.f1
    refine ⟨fun σ' H' => H' = H6 ∧ σ' = [some (.ref c), some (.ref n), some (.int k), some (.int (sgI x.s k)), some (.int (k * x.p)), none, none], ⟨_, rfl, _, rfl, n, CN, dn, _, _, rfl, en, N.cl, N.n4, num4 _ _ _ _, _, _, rfl, rfl, CMul.ok (.inl ⟨by omega, by omega⟩), rfl, rfl⟩, ?_⟩
    rintro σ' H7 ⟨rfl, rfl⟩
    refine ⟨fun σ' H' => H' = H7 ∧ σ' = [some (.ref c), some (.ref n), some (.int k), some (.int (sgI x.s k)), some (.int (k * x.p)), some (.int (powI x.f k)), none], ?_, ?_⟩
    · have e60 : ((10 ^ 60 : Nat) : Int) = 10 ^ 60 := by decide +kernel
      have b : x.f.toNat < 2 ^ 200 := Nat.lt_of_lt_of_le (m := 10 ^ 60) (by omega) (by decide +kernel)
      refine ⟨_, rfl, n, CN, dn, _, _, rfl, en, N.cl, N.n3, num3 _ _ _ _, _, rfl, k, rfl, x.f.toNat, k.natAbs, 200, ?_, b, by omega, rfl, rfl⟩
      show [V.int x.f, V.int (if k < 0 then -k else k)] = [V.int (x.f.toNat : Int), V.int (k.natAbs : Int)]
      rw [Int.toNat_of_nonneg xf0]
      congr 3
      split <;> omega
    rintro σ' H8 ⟨rfl, rfl⟩
    by_cases hk0 : k < 0
    · obtain ⟨_, _, sz, ld, q0, q1, kk⟩ : x.f ≠ 0 ∧ k < 0 ∧ Sz (powI x.f k) ∧ Lead0 1 (powI x.f k) (k * x.p - L) ∧ -1500 ≤ k * x.p - v.fin L ∧ k * x.p - v.fin L ≤ 1500 ∧ Ends2 CN CC CT H8 c v b xs ys (settleR v (sgI x.s k) 1 (powI x.f k) (k * x.p) L (k * x.p)) Q E := by
        rcases h with h | h | h
        · omega
        · exact h
        · omega
      refine ⟨fun σ' H' => ∃ q, Same H8 H' ∧ RatAt CR H' q 1 (powI x.f k) (k * x.p) ∧ σ' = [some (.ref c), some (.ref n), some (.int k), some (.int (sgI x.s k)), some (.int (k * x.p)), some (.int (powI x.f k)), some (.ref q)], ?_, ?_⟩
      · exact ⟨_, rfl, _, _, rfl, rfl, _, rfl, iteDT hk0 ⟨_, rfl, _, rfl, fun q dq m1 m2 me => madeR m1 m2 me fun H9 s9 ra => ⟨rfl, q, s9, ra, rfl⟩⟩⟩
      rintro σ' H9 ⟨q, s9, ra, rfl⟩
      refine ⟨_, rfl, _, rfl, _, rfl, _, rfl, c, v, a, b, xs, ys, q, 1, powI x.f k, k * x.p, L, sgI x.s k, k * x.p, rfl, hc.same s9, ok, lx, ra, sz_one, sz, ld, q0, q1, so.1, so.2, ?_, ?_⟩
      · exact fun hn m a' H6 x6 ct nm => kk.1 hn m a' H6 ((Exc.of s9).trans x6) ct nm
      · exact fun z hz a' d H6 x6 ct ed => kk.2 z hz a' d H6 ((Exc.of s9).trans x6) ct ed
    · obtain ⟨_, _, sz, ld, q0, q1, kk⟩ : x.f ≠ 0 ∧ 0 ≤ k ∧ Sz (powI x.f k) ∧ Lead0 (powI x.f k) 1 (k * x.p - L) ∧ -1500 ≤ k * x.p - v.fin L ∧ k * x.p - v.fin L ≤ 1500 ∧ Ends2 CN CC CT H8 c v b xs ys (settleR v (sgI x.s k) (powI x.f k) 1 (k * x.p) L (k * x.p)) Q E := by
        rcases h with h | h | h
        · exact h
        · omega
        · exact absurd h.1 hf
      refine ⟨fun σ' H' => ∃ q, Same H8 H' ∧ RatAt CR H' q (powI x.f k) 1 (k * x.p) ∧ σ' = [some (.ref c), some (.ref n), some (.int k), some (.int (sgI x.s k)), some (.int (k * x.p)), some (.int (powI x.f k)), some (.ref q)], ?_, ?_⟩
      · exact ⟨_, rfl, _, _, rfl, rfl, _, rfl, iteDF hk0 ⟨_, rfl, _, rfl, fun q dq m1 m2 me => madeR m1 m2 me fun H9 s9 ra => ⟨rfl, q, s9, ra, rfl⟩⟩⟩
      rintro σ' H9 ⟨q, s9, ra, rfl⟩
      refine ⟨_, rfl, _, rfl, _, rfl, _, rfl, c, v, a, b, xs, ys, q, powI x.f k, 1, k * x.p, L, sgI x.s k, k * x.p, rfl, hc.same s9, ok, lx, ra, sz, sz_one, ld, q0, q1, so.1, so.2, ?_, ?_⟩
      · exact fun hn m a' H6 x6 ct nm => kk.1 hn m a' H6 ((Exc.of s9).trans x6) ct nm
      · exact fun z hz a' d H6 x6 ct ed => kk.2 z hz a' d H6 ((Exc.of s9).trans x6) ct ed
/-- the root of a plain number that is not below nought -/
def spRoot (CN CC CT : Addr) : Sp := fun vs H Q E => ∃ c v a b xs ys n x, ∃ L : Int, vs = [.ref c, .ref n] ∧ CtxV CC H c v a b xs ys ∧ v.Ok ∧ xs.length ≤ 900 ∧ NumIs CN H n x ∧ x.k = .plain ∧ x.Ok ∧
  ((x.f ≠ 0 ∧ x.s = 0 ∧ LeadR x.f (x.p - 2 * L) ∧ -200 ≤ x.p - 2 * v.fin L ∧ x.p - 2 * v.fin L ≤ 200 ∧ whQ x.f (x.p - 2 * v.fin L) < tenI v.r ∧ Ends2 CN CC CT H c v b xs ys (settleI v 0 (whQ x.f (x.p - 2 * v.fin L)) (rptI x.f (x.p - 2 * v.fin L) (whQ x.f (x.p - 2 * v.fin L))) L (v.fin L) (x.p / 2)) Q E) ∨
   (x.f = 0 ∧ ∀ n' H', Same H H' → NumIs CN H' n' ⟨.plain, x.s, 0, minI (maxI (x.p / 2) (v.l - v.r + 1)) v.m⟩ → Q (.ref n') H'))
theorem scRoot : FnScope ["context", "one"] ["context", "one"] (defScope sRoot) := ⟨rfl, rfl, rfl, by decide +kernel, rfl, by decide +kernel, by decide +kernel⟩
theorem ok_root {f f1 f2 f3 f4 f5 fQ CN CC CB' CT CR CQ CE : Addr} {fd fd1 fd2 fd3 fd4 fd5 fdQ : FuncData} {sV : Stmt} {d0 : Value} {gP : List Value → List Value → List Value} {vP : List V → List V → List V} (D : Def K mg "root" ["context", "one"] sRoot f fd) (D_need_number : Def K mg "need_number" ["thing"] sNeedN f1 fd1) (G_need_number : FnOk P w K mg base (CX1 P w) 1 f1 fd1 ["thing"] (spNeedN K CN CB'))
    (D_nothing : Def K mg "nothing" [] sNothing f2 fd2) (G_nothing : FnOk P w K mg base (CX1 P w) 3 f2 fd2 [] (spNothing CN)) (D_nought : Def K mg "nought" ["context", "sign", "ideal"] sNought f3 fd3) (G_nought : FnOk P w K mg base (CX1 P w) 3 f3 fd3 ["context", "sign", "ideal"] (spNought CN CC)) (D_void : Def K mg "void" ["context"] sV f4 fd4)
    (D_settled : Def K mg "settled" ["context", "sign", "exact", "ideal"] sSettled f5 fd5) (G_settled : FnOk P w K mg base (CX1 P w) 6 f5 fd5 ["context", "sign", "exact", "ideal"] (spSettled2 CN CC CT CR CQ)) (N : Num K mg CN) (MQ : MakeQ P w K mg base CQ fQ fdQ d0 gP vP) (RQ : RooC K mg CQ CE) : FnOk P w K mg base (CX1 P w) 7 f fd ["context", "one"] (spRoot CN CC CT) := by
  have G_void : FnOk P w K mg base (CX1 P w) 1 f4 fd4 ["context"] (fun _ _ _ _ => False) := FnOk.never
  refine D.F.okE scRoot (fun vs H Q E h => ?_) (fun X cdv A outer s H vs Q E hX hr hx h => ?_)
  · obtain ⟨c, v, a, b, xs, ys, n, x, L, rfl, _⟩ := h
    rfl
  · subst hX
    obtain ⟨c, v, a, b, xs, ys, n, x, L, rfl, hc, ok, lx, hn, hk, xo, h⟩ := h
    refine ⟨_, (pss_cons (ps_expr (pcall D_need_number G_need_number hr hx (pa_cons (pv 1) pa_nil)))
      (pss_cons (ps_if (pt_cmpR op_eq (pe_fld (pv 1) rfl) pe_str (nomark _)) (pss_one (ps_ret (pcall0 D_nothing G_nothing hr hx))) pss_nil)
      (pss_cons (ps_if (PW.pt (pw_and (pt_cmpR op_eq (pe_fld (pv 1) rfl) pe_str (nomark _)) (pw_and1 (pt_cmpR op_eq (pe_fld (pv 1) rfl) pe_int (nomark _))))) (pss_one (ps_ret (pcall D_nought G_nought hr hx (pa_cons (pv 0) (pa_cons (pe_fld (pv 1) rfl) (pa_cons (pe_op op_fdivK (pe_fld (pv 1) rfl) pe_int) pa_nil)))))) pss_nil)
      (pss_cons (ps_if (pt_cmpR op_eq (pe_fld (pv 1) rfl) pe_int (nomark _)) (pss_one (ps_ret (pcall D_void G_void hr hx (pa_cons (pv 0) pa_nil)))) pss_nil)
      (pss_cons (ps_if (pt_cmpR op_eq (pe_fld (pv 1) rfl) pe_str (nomark _)) (pss_one (ps_ret (pv 1))) pss_nil)
      (pss_one (ps_ret (pcall D_settled G_settled hr hx (pa_cons (pv 0) (pa_cons pe_int (pa_cons (pmake MQ.m MQ.g hr RQ.g MQ.b3 .nil hx (pa_cons (pe_fld (pv 1) rfl) (pa_cons (pe_fld (pv 1) rfl) pa_nil))) (pa_cons (pe_op op_fdivK (pe_fld (pv 1) rfl) pe_int) pa_nil)))))))))))), ?_⟩
    obtain ⟨dn, en⟩ := id hn
    have xp0 := xo.p0; have xp1 := xo.p1; have xf0 := xo.f0; have xf1 := xo.f1
    have npl : ∀ {z : Str}, Kd.plain.str ≠ z → ¬ V.str x.k.str = V.str z := fun hz e => by
      rw [hk] at e
      exact hz (by injection e)
    have d2 : (0 : Int) < 2 ∧ (2 : Int).natAbs.log2 < 9000 := ⟨by decide, by decide +kernel⟩
    refine ⟨_, rfl, _, rfl, .inl ⟨n, _, _, _, _, rfl, hn, ?_⟩⟩
    refine ⟨_, rfl, n, CN, dn, _, _, rfl, en, N.cl, N.n1, num1 _ _ _ _, rfl, _, rfl, iteDF (npl (by decide +kernel)) ?_⟩
    refine ⟨_, rfl, n, CN, dn, _, _, rfl, en, N.cl, N.n1, num1 _ _ _ _, rfl, _, rfl, iteDT (by rw [hk]; rfl) ?_⟩
    refine ⟨_, rfl, n, CN, dn, _, _, rfl, en, N.cl, N.n3, num3 _ _ _ _, rfl, _, rfl, ?_⟩
    rcases h with ⟨hf, hs, ld, q0, q1, wr, kk⟩ | ⟨hf, kk⟩
    · refine iteDF (fun z => hf (by injection z)) ?_
      refine ⟨_, rfl, n, CN, dn, _, _, rfl, en, N.cl, N.n2, num2 _ _ _ _, rfl, _, rfl, iteDF (fun z => by injection z with z; omega) ?_⟩
      refine ⟨_, rfl, n, CN, dn, _, _, rfl, en, N.cl, N.n1, num1 _ _ _ _, rfl, _, rfl, iteDF (npl (by decide +kernel)) ?_⟩
      refine ⟨_, rfl, _, rfl, n, CN, dn, _, _, rfl, en, N.cl, N.n3, num3 _ _ _ _, _, rfl, n, CN, dn, _, _, rfl, en, N.cl, N.n4, num4 _ _ _ _, fun q dq m1 m2 me => madeQ m1 m2 me fun H4 s4 ra => ⟨rfl, ?_⟩⟩
      have szq : SzQ x.f := ⟨by omega, Int.lt_of_le_of_lt xf1 (by decide +kernel)⟩
      have wq := whQ_root (t := x.f) (s := x.p - 2 * v.fin L) (by omega)
      obtain ⟨dn4, en4⟩ := hn.same s4
      refine ⟨_, rfl, n, CN, dn4, _, _, rfl, en4, N.cl, N.n4, num4 _ _ _ _, _, _, rfl, rfl, d2, .inr ⟨c, v, a, b, xs, ys, q, rooE CQ x.f x.p L, 0, x.p / 2, rfl, hc.same s4, ok, lx, rooV szq (by omega) (by omega) ld, ra, ⟨q0, q1⟩, wq.1, wr, by decide, by decide, ?_, ?_⟩⟩
      · exact fun hn m a' H6 x6 ct nm => kk.1 hn m a' H6 ((Exc.of s4).trans x6) ct nm
      · exact fun z hz a' d H6 x6 ct ed => kk.2 z hz a' d H6 ((Exc.of s4).trans x6) ct ed
    · refine iteDT (congrArg V.int hf) ?_
      exact ⟨_, rfl, _, rfl, n, CN, dn, _, _, rfl, en, N.cl, N.n2, num2 _ _ _ _, _, rfl, n, CN, dn, _, _, rfl, en, N.cl, N.n4, num4 _ _ _ _, _, _, rfl, rfl, d2, c, v, a, b, xs, ys, x.s, x.p / 2, rfl, hc, fun m H' nm sm num => kk m H' sm num⟩
end
abbrev sVoid : Stmt := (top 43)
abbrev sSplit : Stmt := (top 44)
abbrev sPowEnd : Stmt := (top 49)
abbrev sOddQ : Stmt := (top 71)
end TR
set_option Elab.async false
set_option linter.all false
set_option maxRecDepth 100000
set_option maxHeartbeats 4000000
namespace TR
open PySem L2 PySem.W PyProof.Rows
seal PE PS PSs PA PT PW PG PGs PI PO
theorem ex_lead (n : Nat) (h : 1 ≤ n) : ∃ L : Nat, 10 ^ L ≤ n ∧ n < 10 ^ (L + 1) := by
  induction n using Nat.strongRecOn with
  | ind n ih =>
    by_cases h10 : n < 10
    · exact ⟨0, by simpa using h, by simpa using h10⟩
    · obtain ⟨L, a, b⟩ := ih (n / 10) (by omega) (by omega)
      refine ⟨L + 1, ?_, ?_⟩
      · rw [Nat.pow_succ]; omega
      · rw [Nat.pow_succ]; omega
/-- figures of a text -/
theorem fig_len {n j : Nat} (h1 : n < 10 ^ (j + 1)) (h2 : 10 ^ j ≤ n) : figN (n : Int) = (j : Int) + 1 := by
  unfold figN
  have e : (Str.ofString (toString (n : Int))).length = (Nat.toDigits 10 n).length := by
    have := congrArg List.length (KIN.signs_num n)
    rw [List.length_map] at this
    rw [← this]; rfl
  rw [e]
  have a : (Nat.toDigits 10 n).length ≤ j + 1 := digits10_le (by omega) h1
  have b : j + 1 ≤ (Nat.toDigits 10 n).length := digits10_ge h2
  omega

end TR
set_option Elab.async false
set_option linter.all false
set_option maxRecDepth 100000
set_option maxHeartbeats 4000000
namespace TR
open PySem L2 PySem.W PyProof.Rows
seal PE PS PSs PA PT PW PG PGs PI PO
/-! ### powers that fit -/
def V24 (v : Cv) : Prop := v.r = 24 ∧ v.l = -60 ∧ v.m = 60
theorem V24.ok {v : Cv} (h : V24 v) : v.Ok := by
  obtain ⟨a, b, c⟩ := h
  exact ⟨by omega, by omega, by omega, by omega, by omega, by omega⟩
theorem tenI_neg {s : Int} (h : s ≤ 0) : tenI s = 1 := by unfold tenI; rw [show s.toNat = 0 by omega]; rfl
theorem fin24 {v : Cv} (h : V24 v) {L i : Int} (h1 : L - 23 ≤ i) (h2 : -83 ≤ i) : v.fin L ≤ i ∧ -83 ≤ v.fin L ∧ L - 23 ≤ v.fin L := by
  obtain ⟨a, b, c⟩ := h
  unfold Cv.fin maxI
  split <;> omega
theorem exact24 {v : Cv} (h : V24 v) {F : Nat} (h1 : 1 ≤ F) (h2 : F < 10 ^ 24) {i : Int} (i0 : -40 ≤ i) (i1 : i ≤ 36) (s : Int) : ∃ L, Lead0 F 1 (i - L) ∧ -1500 ≤ i - v.fin L ∧ i - v.fin L ≤ 1500 ∧ settleR v s F 1 i L i = (⟨.plain, s, F, i⟩, []) := by
  obtain ⟨k, k1, k2⟩ := ex_lead F h1
  have k24 : k < 24 := (Nat.pow_lt_pow_iff_right (by decide : 1 < 10)).mp (Nat.lt_of_le_of_lt k1 h2)
  have fn := fin24 h (L := i + k) (i := i) (by omega) (by omega)
  have hd : 0 ≤ i - v.fin (i + k) := by omega
  have e1 : tenI (-(i - v.fin (i + k))) = 1 := tenI_neg (by omega)
  have ew : whI F 1 (i - v.fin (i + k)) = F * tenI (i - v.fin (i + k)) := by
    unfold whI
    rw [e1, Int.mul_one, Int.ediv_one]
  have ep : ptI F 1 (i - v.fin (i + k)) = 0 := by
    unfold ptI
    rw [ew, e1, Int.mul_one, Int.mul_one, Int.sub_self]
    rfl
  refine ⟨i + k, ⟨?_, ?_⟩, by omega, by omega, ?_⟩
  · rw [show i - (i + (k : Int)) = -(k : Int) by omega, tenI_neg (s := -(k : Int)) (by omega)]
    unfold tenI
    rw [show (- -(k : Int)).toNat = k by omega]
    show (1 : Int) * ((10 ^ k : Nat) : Int) ≤ (F : Int) * 1
    omega
  · rw [show i - (i + (k : Int)) = -(k : Int) by omega, tenI_neg (s := -(k : Int)) (by omega)]
    unfold tenI
    rw [show (- -(k : Int)).toNat = k by omega]
    show (F : Int) * 1 < 10 * (1 * ((10 ^ k : Nat) : Int))
    rw [Nat.pow_succ] at k2
    omega
  · unfold settleR
    rw [ew, ep]
    refine settle_exact fn.1 rfl (by rw [h.2.1]; omega) ?_
    unfold beyondI
    rw [if_neg (by omega), fig_len k2 k1, h.2.2]
    exact decide_eq_false (by omega)
theorem root24 {v : Cv} (h : V24 v) {G : Nat} (h1 : 1 ≤ G) (h2 : G < 10 ^ 12) {i : Int} (i0 : -20 ≤ i) (i1 : i ≤ 20) : ∃ L, LeadR ((G * G : Nat) : Int) (2 * i - 2 * L) ∧ -200 ≤ 2 * i - 2 * v.fin L ∧ 2 * i - 2 * v.fin L ≤ 200 ∧ whQ ((G * G : Nat) : Int) (2 * i - 2 * v.fin L) < tenI v.r ∧
    settleI v 0 (whQ ((G * G : Nat) : Int) (2 * i - 2 * v.fin L)) (rptI ((G * G : Nat) : Int) (2 * i - 2 * v.fin L) (whQ ((G * G : Nat) : Int) (2 * i - 2 * v.fin L))) L (v.fin L) i = (⟨.plain, 0, G, i⟩, []) := by
  obtain ⟨k, k1, k2⟩ := ex_lead G h1
  have k12 : k < 12 := (Nat.pow_lt_pow_iff_right (by decide : 1 < 10)).mp (Nat.lt_of_le_of_lt k1 h2)
  have fn := fin24 h (L := i + k) (i := i) (by omega) (by omega)
  generalize hf : v.fin (i + k) = q at fn
  have gg : 1 ≤ G * G := Nat.mul_pos h1 h1
  have e1 : tenI (-(2 * i - 2 * q)) = 1 := tenI_neg (by omega)
  have e2 : tenI (2 * i - 2 * q) = tenI (i - q) * tenI (i - q) := by
    unfold tenI
    rw [← Int.natCast_mul, ← Nat.pow_add]
    congr 2
    omega
  have esq : (G : Int) * tenI (i - q) * (G * tenI (i - q)) * tenI (-(2 * i - 2 * q)) = ((G * G : Nat) : Int) * tenI (2 * i - 2 * q) := by
    rw [e1, e2, Int.natCast_mul, Int.mul_one]
    ac_rfl
  have w0 : 0 ≤ (G : Int) * tenI (i - q) := Int.mul_nonneg (by omega) (Int.le_of_lt (tenI_pos _))
  have rt : IsRoot ((G * G : Nat) : Int) (2 * i - 2 * q) ((G : Int) * tenI (i - q)) := by
    refine ⟨w0, Int.le_of_eq esq, ?_⟩
    rw [← esq, e1]
    have : ((G : Int) * tenI (i - q) + 1) * ((G : Int) * tenI (i - q) + 1) = (G : Int) * tenI (i - q) * (G * tenI (i - q)) + 2 * ((G : Int) * tenI (i - q)) + 1 := by
      rw [Int.add_mul, Int.mul_add, Int.mul_one, Int.one_mul]
      omega
    omega
  have ewh := whQ_eq (by omega) rt
  refine ⟨i + k, ⟨?_, ?_⟩, by omega, by omega, ?_, ?_⟩
  · rw [show 2 * i - 2 * (i + (k : Int)) = -(2 * (k : Int)) by omega, tenI_neg (s := -(2 * (k : Int))) (by omega), Int.mul_one]
    unfold tenI
    rw [show (- -(2 * (k : Int))).toNat = k + k by omega, Nat.pow_add]
    exact Int.ofNat_le.mpr (Nat.mul_le_mul k1 k1)
  · rw [show 2 * i - 2 * (i + (k : Int)) = -(2 * (k : Int)) by omega, tenI_neg (s := -(2 * (k : Int))) (by omega), Int.mul_one]
    unfold tenI
    rw [show (- -(2 * (k : Int))).toNat = k + k by omega, Nat.pow_add]
    have : G * G < 10 ^ (k + 1) * 10 ^ (k + 1) := Nat.mul_lt_mul'' k2 k2
    rw [Nat.pow_succ] at this
    have e : 10 ^ k * 10 * (10 ^ k * 10) = 100 * (10 ^ k * 10 ^ k) := by
      generalize 10 ^ k = z
      rw [show z * 10 * (z * 10) = z * z * (10 * 10) by ac_rfl]
      omega
    rw [e] at this
    exact Int.ofNat_lt.mpr this
  · rw [hf, ewh, h.1]
    have a : (G : Int) * tenI (i - q) < tenI ((k : Int) + 1) * tenI (i - q) := Int.mul_lt_mul_of_pos_right (by unfold tenI; rw [show ((k : Int) + 1).toNat = k + 1 by omega]; exact Int.ofNat_lt.mpr k2) (tenI_pos _)
    have b : tenI ((k : Int) + 1) * tenI (i - q) = tenI ((k : Int) + 1 + (i - q)) := by
      unfold tenI
      rw [← Int.natCast_mul, ← Nat.pow_add]
      congr 2
      omega
    have c : tenI ((k : Int) + 1 + (i - q)) ≤ tenI 24 := tenI_le (by omega)
    omega
  · rw [hf, ewh]
    have ep : rptI ((G * G : Nat) : Int) (2 * i - 2 * q) ((G : Int) * tenI (i - q)) = 0 := by
      unfold rptI
      rw [if_pos esq]
    rw [ep]
    refine settle_exact fn.1 rfl (by rw [h.2.1]; omega) ?_
    unfold beyondI
    rw [if_neg (by omega), fig_len k2 k1, h.2.2]
    exact decide_eq_false (by omega)
theorem unl_sg {s a b : Int} (h0 : 0 ≤ s) (h1 : s ≤ 1) : unlI (sgI s a) (sgI s b) = sgI s (a + b) := by
  unfold unlI sgI
  rcases (by omega : s = 0 ∨ s = 1) with rfl | rfl
  · simp
  · by_cases ha : a % 2 = 1 <;> by_cases hb : b % 2 = 1 <;> by_cases hc : (a + b) % 2 = 1 <;> simp [ha, hb, hc] <;> omega
theorem pow_add {f a b : Int} (ha : 0 ≤ a) (hb : 0 ≤ b) : powI f a * powI f b = powI f (a + b) := by
  unfold powI
  rw [← Int.natCast_mul, ← Nat.pow_add]
  congr 2
  omega
theorem pow_lt {f k : Int} {n m : Nat} (h0 : 0 ≤ f) (h1 : f ≤ 99) (hk : k.natAbs ≤ n) (hm : 99 ^ n < m) (hn : 1 ≤ 99 ^ n) : powI f k < m := by
  unfold powI
  have a : f.toNat ^ k.natAbs ≤ 99 ^ k.natAbs := Nat.pow_le_pow_left (by omega) _
  have b : (99 : Nat) ^ k.natAbs ≤ 99 ^ n := Nat.pow_le_pow_right (by decide) hk
  exact Int.ofNat_lt.mpr (by omega)
theorem pow_pos {f k : Int} (h : 1 ≤ f) : 1 ≤ powI f k := by
  unfold powI
  have : 0 < f.toNat ^ k.natAbs := Nat.pow_pos (by omega)
  omega
theorem pow_zero {k : Int} (h : 1 ≤ k) : powI 0 k = 0 := by
  unfold powI
  rw [show (0 : Int).toNat = 0 from rfl, Nat.zero_pow (by omega)]
  rfl
theorem pow_one {f : Int} (h : 0 ≤ f) : powI f 1 = f := by
  unfold powI
  rw [show (1 : Int).natAbs = 1 from rfl, Nat.pow_one]
  omega
theorem pow_nat (f k : Int) : ∃ n : Nat, powI f k = (n : Int) := ⟨_, rfl⟩
end TR
set_option Elab.async false
set_option linter.all false
set_option maxRecDepth 100000
set_option maxHeartbeats 4000000
namespace TR
open PySem L2 PySem.W PyProof.Rows
seal PE PS PSs PA PT PW PG PGs PI PO
/-! ### (kind, sign, figures, power) as data -/
def datN (k : Str) (s f p : Int) : PyData := .tuple [.str k, .int s, .int f, .int p]
theorem shD {k : Str} (s f p : Int) (h : PyData.strOk k = true) : SeqAt.shaped (datN k s f p) = true := by
  unfold SeqAt.shaped datN
  simp [PyData.canLay0, PyData.canLayAll0, PyData.depth, PyData.depthAll, h]
theorem eqD (k : Str) (s f p : Int) : PyData.eqv (datN k s f p) (datN k s f p) = true := by
  simp [datN, PyData.eqv, PyData.eqvAll]
theorem rdD {K : Frag} {H : Hp} {d : Addr} {k : Str} {s f p : Int} (h : H d = some (.tup [.str k, .int s, .int f, .int p])) : RdD K H (.ref d) (datN k s f p) := .tup (SqT.of h) (.cons (.str _) (.cons (.int _) (.cons (.int _) (.cons (.int _) .nil))))
theorem okK (k : Kd) : PyData.strOk k.str = true := by cases k <;> decide +kernel
end TR
set_option Elab.async false
set_option linter.all false
set_option maxRecDepth 100000
set_option maxHeartbeats 4000000
namespace TR
open PySem L2 PySem.W PyProof.Rows
seal PE PS PSs PA PT PW PG PGs PI PO
abbrev sTogether : Stmt := (top 82)
theorem ordS_nil : ordS ([] ++ []) = [] := by unfold ordS; simp
theorem num_ne_ctx {CN CC : Addr} {H : Hp} {n c a b : Addr} {x : Nm} {v : Cv} {xs ys : List Str} (h : NumIs CN H n x) (hc : CtxV CC H c v a b xs ys) : n ≠ c := by
  intro e
  subst e
  obtain ⟨d1, e1⟩ := h
  obtain ⟨⟨d2, e2⟩, _, _⟩ := hc
  rw [e1] at e2
  have z := Option.some.inj e2
  injection z with _ _ z
  have l1 := num1 (.str x.k.str) (.int x.s) (.int x.f) (.int x.p)
  rw [z, ctx_lk, if_neg (by decide +kernel), if_neg (by decide +kernel), if_neg (by decide +kernel), if_neg (by decide +kernel), if_neg (by decide +kernel), if_neg (by decide +kernel)] at l1
  cases l1
theorem NumIs.excC {CN CC : Addr} {H H' : Hp} {n c a b : Addr} {x : Nm} {v : Cv} {xs ys : List Str} (h : NumIs CN H n x) (hc : CtxV CC H c v a b xs ys) (e : Exc c H H') : NumIs CN H' n x := by
  have ne := num_ne_ctx h hc
  obtain ⟨d, z⟩ := h
  exact ⟨d, e _ _ z ne⟩
theorem tup_excC {CC : Addr} {H H' : Hp} {t c a b : Addr} {l : List V} {v : Cv} {xs ys : List Str} (h : H t = some (.tup l)) (hc : CtxV CC H c v a b xs ys) (e : Exc c H H') : H' t = some (.tup l) := by
  obtain ⟨⟨d2, e2⟩, _, _⟩ := hc
  exact e _ _ h (ne_of h e2 (by intro z; cases z))
def powN (x : Nm) (k : Int) : Nm := ⟨.plain, sgI x.s k, powI x.f k, k * x.p⟩
/-- a number of the law -/
structure Sm (x : Nm) : Prop where
  k : x.k = .plain
  s0 : 0 ≤ x.s
  s1 : x.s ≤ 1
  f0 : 0 ≤ x.f
  f1 : x.f ≤ 99
  p0 : -3 ≤ x.p
  p1 : x.p ≤ 3
theorem Sm.ok {x : Nm} (h : Sm x) : x.Ok := ⟨h.s0, h.s1, h.f0, Int.le_trans h.f1 (by decide +kernel), by have := h.p0; omega, by have := h.p1; omega⟩
theorem kp_bd {k p : Int} {m : Int} (k0 : 0 ≤ k) (k1 : k ≤ m) (p0 : -3 ≤ p) (p1 : p ≤ 3) : -(3 * m) ≤ k * p ∧ k * p ≤ 3 * m := by
  have a : k * p ≤ k * 3 := Int.mul_le_mul_of_nonneg_left p1 k0
  have b : k * (-3) ≤ k * p := Int.mul_le_mul_of_nonneg_left p0 k0
  omega
section
variable {P : Program} {w : World} {K : Frag} {mg : Str → Option Value} {base : Heap}
theorem pow_call {CN CC CT : Addr} {H : Hp} {Q : VK} {E : XK} {c n ra rb : Addr} {v : Cv} {x : Nm} {k : Int} (hc : CtxV CC H c v ra rb [] []) (hv : V24 v) (hn : NumIs CN H n x) (hx : Sm x) (k0 : 0 ≤ k) (k1 : k ≤ 12) (kz : x.f = 0 → 1 ≤ k)
    (q : ∀ n' ra' H', Exc c H H' → CtxV CC H' c v ra' rb [] [] → NumIs CN H' n' (powN x k) → Q (.ref n') H') : spPow CN CC CT [.ref c, .ref n, .int k] H Q E := by
  have kp := kp_bd k0 k1 hx.p0 hx.p1
  by_cases hf : x.f = 0
  · refine ⟨c, v, ra, rb, [], [], n, x, k, 0, rfl, hc, hv.ok, by simp, hn, hx.k, hx.ok, by omega, by omega, .inr (.inr ⟨hf, by have := kz hf; omega, fun n' H' sm num => q n' ra H' (.of sm) (hc.same sm) ?_⟩)⟩
    have e : minI (maxI (k * x.p) (v.l - v.r + 1)) v.m = k * x.p := by
      rw [hv.1, hv.2.1, hv.2.2]
      unfold minI maxI
      split <;> split <;> omega
    rw [e] at num
    unfold powN
    rw [hf, pow_zero (kz hf)]
    exact num
  · obtain ⟨F, eF⟩ := pow_nat x.f k
    have p1 := pow_pos (f := x.f) (k := k) (by have := hx.f0; omega)
    have p2 := pow_lt (f := x.f) (k := k) (n := 12) (m := 10 ^ 24) hx.f0 hx.f1 (by omega) (by decide +kernel) (by decide +kernel)
    rw [eF] at p1 p2
    obtain ⟨L, ld, b1, b2, st⟩ := exact24 hv (F := F) (by omega) (by omega) (i := k * x.p) (by omega) (by omega) (sgI x.s k)
    have szF : Sz (F : Int) := ⟨by omega, by
      have : tenI 24 ≤ tenI 1000 := tenI_le (by decide)
      have e : tenI 24 = ((10 ^ 24 : Nat) : Int) := rfl
      omega⟩
    refine ⟨c, v, ra, rb, [], [], n, x, k, L, rfl, hc, hv.ok, by simp, hn, hx.k, hx.ok, by omega, by omega, .inl ⟨hf, k0, ?_, ?_, b1, b2, ?_⟩⟩
    · rw [eF]; exact szF
    · rw [eF]; exact ld
    · rw [eF, st]
      refine ⟨fun _ m a' H' ex ct num => q m a' H' ex ?_ ?_, fun z hz => by cases hz⟩
      · rw [ordS_nil] at ct; exact ct
      · unfold powN; rw [eF]; exact num
theorem times_call {CN CC CT : Addr} {H : Hp} {Q : VK} {E : XK} {c n1 n2 ra rb : Addr} {v : Cv} {x1 x2 : Nm} (hc : CtxV CC H c v ra rb [] []) (hv : V24 v) (h1 : NumIs CN H n1 x1) (h2 : NumIs CN H n2 x2) (k1 : x1.k = .plain) (k2 : x2.k = .plain)
    (a0 : 0 ≤ x1.f) (b0 : 0 ≤ x2.f) (hm : x1.f * x2.f < 10 ^ 24) (a1 : x1.f < 2 ^ 60) (b1 : x2.f < 2 ^ 60) (p0 : -40 ≤ x1.p + x2.p) (p1 : x1.p + x2.p ≤ 36)
    (q : ∀ n' ra' H', Exc c H H' → CtxV CC H' c v ra' rb [] [] → NumIs CN H' n' (prodN x1 x2) → Q (.ref n') H') : spTimes CN CC CT [.ref c, .ref n1, .ref n2] H Q E := by
  have us := unl_ok x1.s x2.s
  have mu : IntMulOk x1.f x2.f := CMul.ok (.inl ⟨by omega, by omega⟩)
  have f0 : 0 ≤ x1.f * x2.f := Int.mul_nonneg a0 b0
  have po : (prodN x1 x2).Ok := ⟨us.1, us.2, f0, Int.le_trans (Int.le_of_lt hm) (by decide +kernel), by show -200 ≤ x1.p + x2.p; omega, by show x1.p + x2.p ≤ 200; omega⟩
  have e24 : ((10 ^ 24 : Nat) : Int) = 10 ^ 24 := by decide +kernel
  by_cases hf : x1.f * x2.f = 0
  · refine ⟨c, v, ra, rb, [], [], n1, n2, x1, x2, 0, rfl, hc, hv.ok, by simp, ordS_nil, ⟨h1, h2⟩, k1, k2, mu, po, fun z => absurd hf z, ?_⟩
    have er : roundR v (prodN x1 x2) 0 = (prodN x1 x2, []) := by
      unfold roundR prodN
      dsimp only
      rw [if_pos hf, hf]
      have e : minI (maxI (x1.p + x2.p) (v.l - v.r + 1)) v.m = x1.p + x2.p := by
        rw [hv.1, hv.2.1, hv.2.2]
        unfold minI maxI
        split <;> split <;> omega
      rw [e]
    rw [er]
    refine ⟨fun _ m a' H' ex ct num => q m a' H' ex ?_ num, fun z hz => by cases hz⟩
    rw [ordS_nil] at ct; exact ct
  · obtain ⟨F, eF⟩ := Int.eq_ofNat_of_zero_le f0
    obtain ⟨L, ld, c1, c2, st⟩ := exact24 hv (F := F) (by omega) (by omega) (i := x1.p + x2.p) p0 p1 (unlI x1.s x2.s)
    refine ⟨c, v, ra, rb, [], [], n1, n2, x1, x2, L, rfl, hc, hv.ok, by simp, ordS_nil, ⟨h1, h2⟩, k1, k2, mu, po, fun _ => by rw [eF]; exact ld, ?_⟩
    have er : roundR v (prodN x1 x2) L = (prodN x1 x2, []) := by
      unfold roundR prodN
      dsimp only
      rw [if_neg hf, eF, st]
    rw [er]
    refine ⟨fun _ m a' H' ex ct num => q m a' H' ex ?_ num, fun z hz => by cases hz⟩
    rw [ordS_nil] at ct; exact ct
theorem root_call {CN CC CT : Addr} {H : Hp} {Q : VK} {E : XK} {c n ra rb : Addr} {v : Cv} {x : Nm} {G : Nat} {i : Int} (hc : CtxV CC H c v ra rb [] []) (hv : V24 v) (hn : NumIs CN H n x) (hk : x.k = .plain) (hs : x.s = 0) (hf : x.f = ((G * G : Nat) : Int)) (hp : x.p = 2 * i) (g1 : G < 10 ^ 12) (i0 : -20 ≤ i) (i1 : i ≤ 20)
    (q : ∀ n' ra' H', Exc c H H' → CtxV CC H' c v ra' rb [] [] → NumIs CN H' n' ⟨.plain, 0, G, i⟩ → Q (.ref n') H') : spRoot CN CC CT [.ref c, .ref n] H Q E := by
  have gg : G * G < 10 ^ 12 * 10 ^ 12 := Nat.mul_lt_mul'' g1 g1
  have xo : x.Ok := ⟨by omega, by omega, by rw [hf]; omega, by
    rw [hf]
    have : ((G * G : Nat) : Int) < ((10 ^ 12 * 10 ^ 12 : Nat) : Int) := Int.ofNat_lt.mpr gg
    exact Int.le_trans (Int.le_of_lt this) (by decide +kernel), by omega, by omega⟩
  have e2 : x.p / 2 = i := by rw [hp]; omega
  by_cases h0 : G = 0
  · refine ⟨c, v, ra, rb, [], [], n, x, 0, rfl, hc, hv.ok, by simp, hn, hk, xo, .inr ⟨by rw [hf, h0]; rfl, fun n' H' sm num => q n' ra H' (.of sm) (hc.same sm) ?_⟩⟩
    rw [e2, hs] at num
    have e : minI (maxI i (v.l - v.r + 1)) v.m = i := by
      rw [hv.1, hv.2.1, hv.2.2]
      unfold minI maxI
      split <;> split <;> omega
    rw [e] at num
    rw [h0]
    exact num
  · have gp : 1 ≤ G * G := Nat.mul_pos (by omega) (by omega)
    obtain ⟨L, ld, b1, b2, wr, st⟩ := root24 hv (G := G) (by omega) g1 (i := i) i0 i1
    refine ⟨c, v, ra, rb, [], [], n, x, L, rfl, hc, hv.ok, by simp, hn, hk, xo, .inl ⟨by rw [hf]; omega, hs, ?_, ?_, ?_, ?_, ?_⟩⟩
    · rw [hf, hp]; exact ld
    · rw [hp]; exact b1
    · rw [hp]; exact b2
    · rw [hf, hp]; exact wr
    · rw [hf, hp, show 2 * i / 2 = i by omega, st]
      refine ⟨fun _ m a' H' ex ct num => q m a' H' ex ?_ num, fun z hz => by cases hz⟩
      rw [ordS_nil] at ct; exact ct
end
end TR
set_option Elab.async false
set_option linter.all false
set_option maxRecDepth 100000
set_option maxHeartbeats 4000000
namespace TR
open PySem L2 PySem.W PyProof.Rows
seal PE PS PSs PA PT PW PG PGs PI PO
section
variable {P : Program} {w : World} {K : Frag} {mg : Str → Option Value} {base : Heap}
theorem prod_pow {x : Nm} {a b : Int} (hx : Sm x) (ha : 0 ≤ a) (hb : 0 ≤ b) : prodN (powN x a) (powN x b) = powN x (a + b) := by
  unfold prodN powN
  dsimp only
  rw [unl_sg hx.s0 hx.s1, pow_add ha hb, Int.add_mul]
theorem pow_1 {x : Nm} (hx : Sm x) : powN x 1 = x := by
  unfold powN sgI
  rw [if_pos (by decide), pow_one hx.f0, Int.one_mul, ← hx.k]
theorem prod_self {x : Nm} (hx : Sm x) : prodN x x = powN x 2 := by
  have h := prod_pow (a := 1) (b := 1) hx (by decide) (by decide)
  rw [pow_1 hx] at h
  exact h
def spTog (CN CC : Addr) : Sp := fun vs H Q _ => ∃ c v ra rb n x, ∃ a b : Int, vs = [.ref c, .ref n, .int a, .int b] ∧ CtxV CC H c v ra rb [] [] ∧ V24 v ∧ NumIs CN H n x ∧ Sm x ∧ 0 ≤ a ∧ a ≤ 6 ∧ 0 ≤ b ∧ b ≤ 6 ∧ (x.f = 0 → 1 ≤ a ∧ 1 ≤ b) ∧
  ∀ ra' H', Exc c H H' → CtxV CC H' c v ra' rb [] [] → Q (.bl true) H'
theorem scTog : FnScope ["_law_context", "_law_one", "_law_first", "_law_second", "_law_here", "_law_there", "_law_kind", "_law_sign", "_law_figures", "_law_height"] ["_law_context", "_law_one", "_law_first", "_law_second"] (defScope sTogether) := ⟨rfl, rfl, rfl, by decide +kernel, rfl, by decide +kernel, by decide +kernel⟩
theorem ok_tog {f f1 f2 f3 f4 CN CC CT CB' : Addr} {fd fd1 fd2 fd3 fd4 : FuncData} (D : Def K mg "_law_together" ["_law_context", "_law_one", "_law_first", "_law_second"] sTogether f fd) (D_to_power : Def K mg "to_power" ["context", "one", "count"] sPower f1 fd1) (G_to_power : FnOk P w K mg base (CX1 P w) 7 f1 fd1 ["context", "one", "count"] (spPow CN CC CT))
    (D_times : Def K mg "times" ["context", "one", "other"] sTimes f2 fd2) (G_times : FnOk P w K mg base (CX1 P w) 8 f2 fd2 ["context", "one", "other"] (spTimes CN CC CT)) (D_root : Def K mg "root" ["context", "one"] sRoot f3 fd3) (G_root : FnOk P w K mg base (CX1 P w) 7 f3 fd3 ["context", "one"] (spRoot CN CC CT))
    (D_told : Def K mg "told" ["number"] sTold f4 fd4) (G_told : FnOk P w K mg base (CX1 P w) 2 f4 fd4 ["number"] (spTold K CN CB')) : FnOk P w K mg base (CX1 P w) 9 f fd ["_law_context", "_law_one", "_law_first", "_law_second"] (spTog CN CC) := by
  refine D.F.okE scTog (fun vs H Q E h => ?_) (fun X cdv A outer s H vs Q E hX hr hx h => ?_)
  · obtain ⟨c, v, ra, rb, n, x, a, b, rfl, _⟩ := h
    rfl
  · subst hX
    obtain ⟨c, v, ra, rb, n, x, a, b, rfl, hc, hv, hn, hx', a0, a6, b0, b6, az, k⟩ := h
    refine ⟨_, (pss_cons (ps_join (ps_set (i := 4) scTog.nd rfl (Or.inl rfl) (pcall D_to_power G_to_power hr hx (pa_cons (pv 0) (pa_cons (pv 1) (pa_cons (pv 2) pa_nil))))))
      (pss_cons (ps_join (ps_set (i := 5) scTog.nd rfl (Or.inl rfl) (pcall D_to_power G_to_power hr hx (pa_cons (pv 0) (pa_cons (pv 1) (pa_cons (pv 3) pa_nil))))))
      (pss_cons (ps_join (ps_if (pt_cmpR (op_neD hr.units) (pcall D_told G_told hr hx (pa_cons (pcall D_to_power G_to_power hr hx (pa_cons (pv 0) (pa_cons (pv 1) (pa_cons (pe_op op_add (pv 2) (pv 3)) pa_nil)))) pa_nil)) (pcall D_told G_told hr hx (pa_cons (pcall D_times G_times hr hx (pa_cons (pv 0) (pa_cons (pv 4) (pa_cons (pv 5) pa_nil)))) pa_nil)) (nomark _)) (pss_one (ps_ret pe_bl)) pss_nil))
      (pss_cons (ps_join (ps_if (pt_cmpR (op_neD hr.units) (pcall D_told G_told hr hx (pa_cons (pcall D_to_power G_to_power hr hx (pa_cons (pv 0) (pa_cons (pv 1) (pa_cons pe_int pa_nil)))) pa_nil)) (pcall D_told G_told hr hx (pa_cons (pv 1) pa_nil)) (nomark _)) (pss_one (ps_ret pe_bl)) pss_nil))
      (pss_cons (ps_join (ps_if (pt_cmpR (op_neD hr.units) (pcall D_told G_told hr hx (pa_cons (pcall D_to_power G_to_power hr hx (pa_cons (pv 0) (pa_cons (pv 1) (pa_cons pe_int pa_nil)))) pa_nil)) (pcall D_told G_told hr hx (pa_cons (pcall D_times G_times hr hx (pa_cons (pv 0) (pa_cons (pv 1) (pa_cons (pv 1) pa_nil)))) pa_nil)) (nomark _)) (pss_one (ps_ret pe_bl)) pss_nil))
      (pss_cons (ps_join (ps_asg (pcall D_told G_told hr hx (pa_cons (pv 4) pa_nil)) (pg_tup rfl (pgs_cons (pg_name (i := 6) scTog.nd rfl (Or.inl rfl)) (pgs_cons (pg_name (i := 7) scTog.nd rfl (Or.inl rfl)) (pgs_cons (pg_name (i := 8) scTog.nd rfl (Or.inl rfl)) (pgs_cons (pg_name (i := 9) scTog.nd rfl (Or.inl rfl)) pgs_nil)))))))
      (pss_one (ps_ret (pe_cmpR (op_eqD hr.units) (pcall D_told G_told hr hx (pa_cons (pcall D_root G_root hr hx (pa_cons (pv 0) (pa_cons (pcall D_to_power G_to_power hr hx (pa_cons (pv 0) (pa_cons (pv 1) (pa_cons (pe_op op_mulK pe_int (pv 2)) pa_nil)))) pa_nil))) pa_nil)) (pe_tup (pa_cons (pv 6) (pa_cons pe_int (pa_cons (pv 8) (pa_cons (pv 9) pa_nil))))) (nomark _)))))))))), ?_⟩
    have z4 : 4 ≤ sizeLine := line1000 (by decide)
    have pa := kp_bd a0 a6 hx'.p0 hx'.p1
    have pb := kp_bd b0 b6 hx'.p0 hx'.p1
    have pl : ∀ {k : Int}, 0 ≤ k → k ≤ 6 → 0 ≤ powI x.f k ∧ powI x.f k < 10 ^ 12 := fun {k} h0 h6 => ⟨by unfold powI; omega, by
      have := pow_lt (f := x.f) (k := k) (n := 6) (m := 10 ^ 12) hx'.f0 hx'.f1 (by omega) (by decide +kernel) (by decide +kernel)
      have e : ((10 ^ 12 : Nat) : Int) = 10 ^ 12 := by decide +kernel
      omega⟩
    -- here
    refine ⟨fun σ' H' => ∃ h ra', Exc c H H' ∧ CtxV CC H' c v ra' rb [] [] ∧ NumIs CN H' h (powN x a) ∧ σ' = [some (.ref c), some (.ref n), some (.int a), some (.int b), some (.ref h), none, none, none, none, none], ?_, ?_⟩
    · exact ⟨_, rfl, _, rfl, _, rfl, pow_call hc hv hn hx' a0 (by omega) (fun z => (az z).1) fun n' ra' H' ex ct num => ⟨n', ra', ex, ct, num, rfl⟩⟩
    rintro σ' H1 ⟨h1, ra1, x1, c1, m1, rfl⟩
    have n1 := hn.excC hc x1
    -- there
    refine ⟨fun σ' H' => ∃ t ra', Exc c H1 H' ∧ CtxV CC H' c v ra' rb [] [] ∧ NumIs CN H' t (powN x b) ∧ σ' = [some (.ref c), some (.ref n), some (.int a), some (.int b), some (.ref h1), some (.ref t), none, none, none, none], ?_, ?_⟩
    · exact ⟨_, rfl, _, rfl, _, rfl, pow_call c1 hv n1 hx' b0 (by omega) (fun z => (az z).2) fun n' ra' H' ex ct num => ⟨n', ra', ex, ct, num, rfl⟩⟩
    rintro σ' H2 ⟨h2, ra2, x2, c2, m2, rfl⟩
    have n2 := n1.excC c1 x2
    have m12 := m1.excC c1 x2
    -- together
    refine ⟨fun σ' H' => ∃ ra', Exc c H2 H' ∧ CtxV CC H' c v ra' rb [] [] ∧ σ' = [some (.ref c), some (.ref n), some (.int a), some (.int b), some (.ref h1), some (.ref h2), none, none, none, none], ?_, ?_⟩
    · refine ⟨_, rfl, _, rfl, _, rfl, _, rfl, _, _, rfl, rfl, pow_call c2 hv n2 hx' (by omega) (by omega) (fun z => by have := az z; omega) fun n3 ra3 H3 x3 c3 m3 => ?_⟩
      refine ⟨_, rfl, .inl ⟨n3, _, _, _, _, rfl, m3, fun t3 nt3 => ?_⟩⟩
      have u3 := Same.upd (o := .tup (powN x (a + b)).vs) nt3
      have e3 : upd H3 t3 (.tup (powN x (a + b)).vs) t3 = some (.tup (powN x (a + b)).vs) := upd_same
      have c3' := c3.same u3
      have m13 := (m12.excC c2 x3).same u3
      have m23 := (m2.excC c2 x3).same u3
      have x3' : Exc c H2 (upd H3 t3 (.tup (powN x (a + b)).vs)) := x3.trans (.of u3)
      have la := pl a0 a6
      have lb := pl b0 b6
      have lab : powI x.f a * powI x.f b < 10 ^ 24 := by
        rw [pow_add a0 b0]
        have := pow_lt (f := x.f) (k := a + b) (n := 12) (m := 10 ^ 24) hx'.f0 hx'.f1 (by omega) (by decide +kernel) (by decide +kernel)
        have e : ((10 ^ 24 : Nat) : Int) = 10 ^ 24 := by decide +kernel
        omega
      refine ⟨_, rfl, _, rfl, _, rfl, times_call c3' hv m13 m23 rfl rfl la.1 lb.1 lab (by show powI x.f a < 2 ^ 60; omega) (by show powI x.f b < 2 ^ 60; omega) (by show -40 ≤ a * x.p + b * x.p; omega) (by show a * x.p + b * x.p ≤ 36; omega) fun n5 ra5 H5 x5 c5 m5 => ?_⟩
      rw [prod_pow hx' a0 b0] at m5
      refine ⟨_, rfl, .inl ⟨n5, _, _, _, _, rfl, m5, fun t5 nt5 => ?_⟩⟩
      have u5 := Same.upd (o := .tup (powN x (a + b)).vs) nt5
      have e3' := u5 _ _ (tup_excC e3 c3' x5)
      refine ⟨datN (powN x (a + b)).k.str (powN x (a + b)).s (powN x (a + b)).f (powN x (a + b)).p, datN (powN x (a + b)).k.str (powN x (a + b)).s (powN x (a + b)).f (powN x (a + b)).p, rdD e3', rdD upd_same, shD _ _ _ (okK _), shD _ _ _ (okK _), _, rfl, ?_⟩
      rw [if_pos rfl, eqD]
      exact iteF ⟨ra5, x3'.trans (x5.trans (.of u5)), c5.same u5, rfl⟩
    rintro σ' H3 ⟨ra3, x3, c3, rfl⟩
    have n3 := n2.excC c2 x3
    have m13 := m12.excC c2 x3
    -- one
    refine ⟨fun σ' H' => ∃ ra', Exc c H3 H' ∧ CtxV CC H' c v ra' rb [] [] ∧ σ' = [some (.ref c), some (.ref n), some (.int a), some (.int b), some (.ref h1), some (.ref h2), none, none, none, none], ?_, ?_⟩
    · refine ⟨_, rfl, _, rfl, pow_call c3 hv n3 hx' (by decide) (by decide) (fun _ => by decide) fun n4 ra4 H4 x4 c4 m4 => ?_⟩
      rw [pow_1 hx'] at m4
      refine ⟨_, rfl, .inl ⟨n4, _, _, _, _, rfl, m4, fun t4 nt4 => ?_⟩⟩
      have u4 := Same.upd (o := .tup x.vs) nt4
      have n4' := (n3.excC c3 x4).same u4
      refine ⟨_, rfl, _, rfl, .inl ⟨n, _, _, _, _, rfl, n4', fun t5 nt5 => ?_⟩⟩
      have u5 := Same.upd (o := .tup x.vs) nt5
      refine ⟨datN x.k.str x.s x.f x.p, datN x.k.str x.s x.f x.p, rdD (u5 _ _ upd_same), rdD upd_same, shD _ _ _ (okK _), shD _ _ _ (okK _), _, rfl, ?_⟩
      rw [if_pos rfl, eqD]
      exact iteF ⟨ra4, x4.trans (.of (u4.trans u5)), (c4.same u4).same u5, rfl⟩
    rintro σ' H4 ⟨ra4, x4, c4, rfl⟩
    have n4 := n3.excC c3 x4
    have m14 := m13.excC c3 x4
    -- two
    refine ⟨fun σ' H' => ∃ ra', Exc c H4 H' ∧ CtxV CC H' c v ra' rb [] [] ∧ σ' = [some (.ref c), some (.ref n), some (.int a), some (.int b), some (.ref h1), some (.ref h2), none, none, none, none], ?_, ?_⟩
    · refine ⟨_, rfl, _, rfl, pow_call c4 hv n4 hx' (by decide) (by decide) (fun _ => by decide) fun n5 ra5 H5 x5 c5 m5 => ?_⟩
      refine ⟨_, rfl, .inl ⟨n5, _, _, _, _, rfl, m5, fun t5 nt5 => ?_⟩⟩
      have u5 := Same.upd (o := .tup (powN x 2).vs) nt5
      have e5 : upd H5 t5 (.tup (powN x 2).vs) t5 = some (.tup (powN x 2).vs) := upd_same
      have c5' := c5.same u5
      have n5' := (n4.excC c4 x5).same u5
      have x5' : Exc c H4 (upd H5 t5 (.tup (powN x 2).vs)) := x5.trans (.of u5)
      have f0 := hx'.f0; have f1 := hx'.f1; have q0 := hx'.p0; have q1 := hx'.p1
      have sq : x.f * x.f ≤ 99 * 99 := Int.mul_le_mul f1 f1 f0 (by decide)
      refine ⟨_, rfl, _, rfl, _, rfl, times_call c5' hv n5' n5' hx'.k hx'.k f0 f0 (Int.lt_of_le_of_lt sq (by decide +kernel)) (by omega) (by omega) (by omega) (by omega) fun n7 ra7 H7 x7 c7 m7 => ?_⟩
      rw [prod_self hx'] at m7
      refine ⟨_, rfl, .inl ⟨n7, _, _, _, _, rfl, m7, fun t7 nt7 => ?_⟩⟩
      have u7 := Same.upd (o := .tup (powN x 2).vs) nt7
      have e5' := u7 _ _ (tup_excC e5 c5' x7)
      refine ⟨datN (powN x 2).k.str (powN x 2).s (powN x 2).f (powN x 2).p, datN (powN x 2).k.str (powN x 2).s (powN x 2).f (powN x 2).p, rdD e5', rdD upd_same, shD _ _ _ (okK _), shD _ _ _ (okK _), _, rfl, ?_⟩
      rw [if_pos rfl, eqD]
      exact iteF ⟨ra7, x5'.trans (x7.trans (.of u7)), c7.same u7, rfl⟩
    rintro σ' H5 ⟨ra5, x5, c5, rfl⟩
    have n5 := n4.excC c4 x5
    have m15 := m14.excC c4 x5
    -- its parts
    refine ⟨fun σ' H' => Same H5 H' ∧ σ' = [some (.ref c), some (.ref n), some (.int a), some (.int b), some (.ref h1), some (.ref h2), some (.str "plain"), some (.int (sgI x.s a)), some (.int (powI x.f a)), some (.int (a * x.p))], ?_, ?_⟩
    · refine ⟨_, rfl, _, rfl, .inl ⟨h1, _, _, _, _, rfl, m15, fun t6 nt6 => ?_⟩⟩
      exact ⟨t6, _, rfl, SqT.of upd_same, rfl, _, _, rfl, _, _, rfl, _, _, rfl, _, _, rfl, rfl, Same.upd nt6, rfl⟩
    rintro σ' H6 ⟨s6, rfl⟩
    have c6 := c5.same s6
    have n6 := n5.same s6
    -- the root
    refine ⟨_, rfl, _, rfl, _, rfl, _, rfl, _, _, rfl, rfl, CMul.ok (.inl ⟨by decide, by decide⟩), pow_call c6 hv n6 hx' (by omega) (by omega) (fun z => by have := az z; omega) fun n7 ra7 H7 x7 c7 m7 => ?_⟩
    obtain ⟨G, eG⟩ := pow_nat x.f a
    have la := pl a0 a6
    rw [eG] at la
    have e2a : powI x.f (2 * a) = ((G * G : Nat) : Int) := by
      rw [show 2 * a = a + a by omega, ← pow_add a0 a0, eG, Int.natCast_mul]
    have es : sgI x.s (2 * a) = 0 := by
      unfold sgI
      rw [if_neg (by omega)]
    refine root_call (G := G) (i := a * x.p) c7 hv m7 rfl es e2a (by show 2 * a * x.p = 2 * (a * x.p); rw [Int.mul_assoc]) (by omega) (by omega) (by omega) fun n8 ra8 H8 x8 c8 m8 => ?_
    refine ⟨_, rfl, .inl ⟨n8, _, _, _, _, rfl, m8, fun t8 nt8 => ?_⟩⟩
    have u8 := Same.upd (o := .tup [.str Kd.plain.str, .int 0, .int (G : Int), .int (a * x.p)]) nt8
    refine ⟨_, rfl, _, rfl, _, rfl, z4, fun t9 nt9 => ?_⟩
    have u9 := Same.upd (o := .tup [.str "plain", .int 0, .int (powI x.f a), .int (a * x.p)]) nt9
    have e9 : upd (upd H8 t8 (.tup [.str Kd.plain.str, .int 0, .int (G : Int), .int (a * x.p)])) t9 (.tup [.str "plain", .int 0, .int (powI x.f a), .int (a * x.p)]) t9 = some (.tup [.str Kd.plain.str, .int 0, .int (G : Int), .int (a * x.p)]) := by rw [upd_same, eG]; rfl
    refine ⟨datN Kd.plain.str 0 G (a * x.p), datN Kd.plain.str 0 G (a * x.p), rdD (u9 _ _ upd_same), rdD e9, shD _ _ _ (okK _), shD _ _ _ (okK _), ?_⟩
    rw [if_neg Bool.false_ne_true, eqD]
    exact k ra8 _ (((((x1.trans x2).trans x3).trans x4).trans x5).trans ((Exc.of s6).trans (x7.trans (x8.trans (.of (u8.trans u9)))))) ((c8.same u8).same u9)
end
end TR
set_option Elab.async false
set_option linter.all false
set_option maxRecDepth 100000
set_option maxHeartbeats 4000000
namespace TR
open PySem L2 PySem.W PyProof.Rows
seal PE PS PSs PA PT PW PG PGs PI PO
section
variable {P : Program} {w : World} {K : Frag} {mg : Str → Option Value} {base : Heap}
abbrev sCtxClear : Stmt := (inClass (top 64) 4)
def spCtxClear (CC : Addr) : Sp := fun vs H Q _ => ∃ c r y l m a b xs ys, vs = [.ref c] ∧ CtxAt CC H c r y l m a b xs ys ∧ ∀ a' H', Exc c H H' → H a' = none → CtxAt CC H' c r y l m a' b [] ys → Q .non H'
theorem scCtxClear : FnScope ["self"] ["self"] (defScope sCtxClear) := ⟨rfl, rfl, rfl, by decide +kernel, rfl, by decide +kernel, by decide +kernel⟩
theorem ok_ctxClear {f CC : Addr} {fd : FuncData} (F : Fun K "clear" "Context.clear" sCtxClear f fd) (C : CtxC K mg CC) : FnOk P w K mg base (CX1 P w) 1 f fd ["self"] (spCtxClear CC) := by
  refine FnOk.up (F.ok scCtxClear (fun vs H Q E h => ?_) (fun cdv A outer s H vs Q E hr h => ?_))
  · obtain ⟨c, r, y, l, m, a, b, xs, ys, rfl, _⟩ := h
    rfl
  · obtain ⟨c, r, y, l, m, a, b, xs, ys, rfl, ⟨⟨dx, e⟩, ha, hb⟩, k⟩ := h
    refine ⟨_, (pss_one (ps_fld (pv 0) (pe_lst pa_nil) rfl)), ?_⟩
    refine ⟨Nat.zero_le _, fun p np => ?_⟩
    have u := Same.upd (o := .lst []) np
    refine ⟨_, rfl, c, CC, dx, _, rfl, u _ _ e, C.cl, C.n_risen, by rw [ctxF_len]; decide, ?_⟩
    rw [ctxF_risen]
    have nac : p ≠ c := Ne.symm (ne_of_none e np)
    have nbc : b ≠ c := ne_of hb e (by intro z; cases z)
    exact k p _ ((Exc.of u).trans Exc.upd) np ⟨⟨dx, upd_same⟩, by rw [upd_ne nac]; exact upd_same, by rw [upd_ne nbc]; exact u _ _ hb⟩
end
end TR
set_option Elab.async false
set_option linter.all false
set_option maxRecDepth 100000
set_option maxHeartbeats 4000000
namespace TR
open PySem L2 PySem.W PyProof.Rows
seal PE PS PSs PA PT PW PG PGs PI PO
abbrev sQuo : Stmt := (top 83)
/-! ### lists of signals as data -/
def rdL (zs : List Str) : PyData := .list (zs.map PyData.str)
theorem rdsL {K : Frag} {H : Hp} : ∀ zs : List Str, RdDs K H (zs.map V.str) (zs.map PyData.str)
  | [] => .nil
  | z :: zs => .cons (.str z) (rdsL zs)
theorem rdL_at {K : Frag} {H : Hp} {p : Addr} {zs : List Str} (h : H p = some (.lst (zs.map V.str))) : RdD K H (.ref p) (rdL zs) := .lst (SqL.of h) (rdsL zs)
theorem eqL : ∀ zs : List Str, PyData.eqv (rdL zs) (rdL zs) = true := by
  have h : ∀ zs : List Str, PyData.eqvAll (zs.map PyData.str) (zs.map PyData.str) = true := fun zs => by
    induction zs with
    | nil => simp [PyData.eqvAll]
    | cons z zs ih => simp [PyData.eqvAll, PyData.eqv, ih]
  intro zs
  simp [rdL, PyData.eqv, h]
theorem layL : ∀ {zs : List Str}, (∀ z ∈ zs, PyData.strOk z = true) → PyData.canLayAll0 (zs.map PyData.str) = true ∧ PyData.depthAll (zs.map PyData.str) ≤ 1
  | [], _ => by simp [PyData.canLayAll0, PyData.depthAll]
  | z :: zs, h => by
    obtain ⟨a, b⟩ := layL (zs := zs) fun z' h' => h z' (List.mem_cons_of_mem _ h')
    have c := h z List.mem_cons_self
    constructor
    · simp [PyData.canLayAll0, PyData.canLay0, c, a]
    · simp only [List.map_cons, PyData.depthAll, PyData.depth]
      omega
theorem okSigL : ∀ z ∈ sigS, PyData.strOk z = true := by decide +kernel
theorem shO (zs : List Str) : SeqAt.shaped (rdL (ordS zs)) = true := by
  have l : (ordS zs).length ≤ 7 := List.length_filter_le _ _
  obtain ⟨a, b⟩ := layL (zs := ordS zs) fun z hz => okSigL z (List.mem_filter.mp hz).1
  unfold SeqAt.shaped rdL
  simp only [PyData.canLay0, PyData.depth, a, Bool.and_true, Bool.and_eq_true, decide_eq_true_eq, List.length_map]
  exact ⟨trivial, decide_eq_true (by omega)⟩
theorem CtxV.excO {CC : Addr} {H H' : Hp} {c c' a b a' b' : Addr} {v v' : Cv} {xs ys xs' ys' : List Str} (h : CtxV CC H c' v' a' b' xs' ys') (hc : CtxV CC H c v a b xs ys) (e : Exc c H H') (ne : c' ≠ c) : CtxV CC H' c' v' a' b' xs' ys' := by
  obtain ⟨⟨d2, e2⟩, _, _⟩ := hc
  obtain ⟨⟨d, z⟩, ha, hb⟩ := h
  exact ⟨⟨d, e _ _ z ne⟩, e _ _ ha (ne_of ha e2 (by intro z; cases z)), e _ _ hb (ne_of hb e2 (by intro z; cases z))⟩
theorem lst_excC {CC : Addr} {H H' : Hp} {t c a b : Addr} {l : List V} {v : Cv} {xs ys : List Str} (h : H t = some (.lst l)) (hc : CtxV CC H c v a b xs ys) (e : Exc c H H') : H' t = some (.lst l) := by
  obtain ⟨⟨d2, e2⟩, _, _⟩ := hc
  exact e _ _ h (ne_of h e2 (by intro z; cases z))
/-- the lead of one over a whole number -/
theorem lead_one {F : Nat} (h1 : 1 ≤ F) (h2 : F < 10 ^ 12) (i : Int) : ∃ L, Lead0 1 F (i - L) ∧ i - 12 ≤ L ∧ L ≤ i := by
  obtain ⟨k, k1, k2⟩ := ex_lead F h1
  have k12 : k < 12 := (Nat.pow_lt_pow_iff_right (by decide : 1 < 10)).mp (Nat.lt_of_le_of_lt k1 h2)
  have key : ∀ m : Nat, F ≤ 10 ^ m → 10 ^ m < 10 * F → Lead0 1 F (i - (i - m)) := fun m a b => by
    rw [show i - (i - (m : Int)) = (m : Int) by omega]
    refine ⟨?_, ?_⟩
    · rw [tenI_neg (s := -(m : Int)) (by omega), Int.mul_one, Int.one_mul]
      exact Int.ofNat_le.mpr a
    · rw [tenI_neg (s := -(m : Int)) (by omega), Int.mul_one, Int.one_mul]
      have : ((10 ^ m : Nat) : Int) < ((10 * F : Nat) : Int) := Int.ofNat_lt.mpr b
      rw [Int.natCast_mul] at this
      exact this
  by_cases h : F = 10 ^ k
  · exact ⟨i - k, key k (Nat.le_of_eq h) (by omega), by omega, by omega⟩
  · refine ⟨i - ((k + 1 : Nat) : Int), key (k + 1) (by omega) (by rw [Nat.pow_succ]; omega), by omega, by omega⟩
section
variable {P : Program} {w : World} {K : Frag} {mg : Str → Option Value} {base : Heap}
/-- one over the power: to_power of a count below nought, and over -/
theorem neg_call {CN CC CT : Addr} {H : Hp} {Q : VK} {E : XK} {c n a b : Addr} {v : Cv} {x : Nm} {k L : Int} (hc : CtxV CC H c v a b [] []) (hv : v.Ok) (hn : NumIs CN H n x) (hx : Sm x) (hf : x.f ≠ 0) (k0 : 1 ≤ k) (k6 : k ≤ 6) (ld : Lead0 1 (powI x.f k) (-(k * x.p) - L)) (l0 : -(k * x.p) - 12 ≤ L) (l1 : L ≤ -(k * x.p))
    (q : ∀ m a' H', Exc c H H' → CtxV CC H' c v a' b (ordS ([] ++ (settleR v (sgI x.s k) 1 (powI x.f k) (-(k * x.p)) L (-(k * x.p))).2)) [] → NumIs CN H' m (settleR v (sgI x.s k) 1 (powI x.f k) (-(k * x.p)) L (-(k * x.p))).1 → Q (.ref m) H') : spPow CN CC CT [.ref c, .ref n, .int (0 - k)] H Q E := by
  have kp := kp_bd (m := 6) (by omega : (0 : Int) ≤ k) k6 hx.p0 hx.p1
  have e1 : powI x.f (0 - k) = powI x.f k := by
    unfold powI
    rw [show (0 - k).natAbs = k.natAbs by omega]
  have e2 : sgI x.s (0 - k) = sgI x.s k := by
    unfold sgI
    have := Int.emod_two_eq k
    by_cases h : k % 2 = 1
    · rw [if_pos h, if_pos (by omega)]
    · rw [if_neg h, if_neg (by omega)]
  have e3 : (0 - k) * x.p = -(k * x.p) := by rw [Int.zero_sub, Int.neg_mul]
  obtain ⟨F, eF⟩ := pow_nat x.f k
  have p1 := pow_pos (f := x.f) (k := k) (by have := hx.f0; omega)
  have p2 := pow_lt (f := x.f) (k := k) (n := 6) (m := 10 ^ 12) hx.f0 hx.f1 (by omega) (by decide +kernel) (by decide +kernel)
  have sz : Sz (powI x.f k) := ⟨p1, by
    have : tenI 12 ≤ tenI 1000 := tenI_le (by decide)
    have e : tenI 12 = ((10 ^ 12 : Nat) : Int) := rfl
    omega⟩
  have r1 := hv.r1; have r2 := hv.r2; have v1 := hv.l1; have v2 := hv.l2
  have fb : -1500 ≤ -(k * x.p) - v.fin L ∧ -(k * x.p) - v.fin L ≤ 1500 := by
    unfold Cv.fin maxI
    split <;> omega
  refine ⟨c, v, a, b, [], [], n, x, 0 - k, L, rfl, hc, hv, by simp, hn, hx.k, hx.ok, by omega, by omega, .inr (.inl ⟨hf, by omega, ?_, ?_, ?_, ?_, ?_⟩)⟩
  · rw [e1]; exact sz
  · rw [e1, e3]; exact ld
  · rw [e3]; exact fb.1
  · rw [e3]; exact fb.2
  · rw [e1, e2, e3]
    exact ⟨fun _ m a' H' ex ct num => q m a' H' ex ct num, fun z hz => by cases hz⟩
theorem over_call {CN CC CT : Addr} {H : Hp} {Q : VK} {E : XK} {c n1 n2 a b : Addr} {v : Cv} {x : Nm} {k L : Int} (hc : CtxV CC H c v a b [] []) (hv : v.Ok) (h1 : NumIs CN H n1 ⟨.plain, 0, 1, 0⟩) (h2 : NumIs CN H n2 (powN x k)) (hx : Sm x) (hf : x.f ≠ 0) (k0 : 1 ≤ k) (k6 : k ≤ 6) (ld : Lead0 1 (powI x.f k) (-(k * x.p) - L)) (l0 : -(k * x.p) - 12 ≤ L) (l1 : L ≤ -(k * x.p))
    (q : ∀ m a' H', Exc c H H' → CtxV CC H' c v a' b (ordS ([] ++ (settleR v (sgI x.s k) 1 (powI x.f k) (-(k * x.p)) L (-(k * x.p))).2)) [] → NumIs CN H' m (settleR v (sgI x.s k) 1 (powI x.f k) (-(k * x.p)) L (-(k * x.p))).1 → Q (.ref m) H') : spOver CN CC CT [.ref c, .ref n1, .ref n2] H Q E := by
  have kp := kp_bd (m := 6) (by omega : (0 : Int) ≤ k) k6 hx.p0 hx.p1
  have so := sg_ok (k := k) hx.s0 hx.s1
  have e2 : unlI 0 (sgI x.s k) = sgI x.s k := by
    unfold unlI
    split <;> omega
  have e3 : (0 : Int) - k * x.p = -(k * x.p) := Int.zero_sub _
  have p1 := pow_pos (f := x.f) (k := k) (by have := hx.f0; omega)
  have p2 := pow_lt (f := x.f) (k := k) (n := 6) (m := 10 ^ 12) hx.f0 hx.f1 (by omega) (by decide +kernel) (by decide +kernel)
  have sz : Sz (powI x.f k) := ⟨p1, by
    have : tenI 12 ≤ tenI 1000 := tenI_le (by decide)
    have e : tenI 12 = ((10 ^ 12 : Nat) : Int) := rfl
    omega⟩
  have r1 := hv.r1; have r2 := hv.r2; have v1 := hv.l1; have v2 := hv.l2
  have fb : -1500 ≤ -(k * x.p) - v.fin L ∧ -(k * x.p) - v.fin L ≤ 1500 := by
    unfold Cv.fin maxI
    split <;> omega
  refine ⟨c, v, a, b, [], [], n1, n2, _, _, L, rfl, hc, hv, by simp, ⟨h1, h2⟩, rfl, rfl, sz_one, sz, ?_, ?_, ?_, ?_⟩
  · show Lead0 1 (powI x.f k) (0 - k * x.p - L)
    rw [e3]; exact ld
  · show -1500 ≤ 0 - k * x.p - v.fin L
    rw [e3]; exact fb.1
  · show 0 - k * x.p - v.fin L ≤ 1500
    rw [e3]; exact fb.2
  · show Ends2 CN CC CT H c v b [] [] (settleR v (unlI 0 (sgI x.s k)) 1 (powI x.f k) (0 - k * x.p) L (0 - k * x.p)) Q E
    rw [e2, e3]
    exact ⟨fun _ m a' H' ex ct num => q m a' H' ex ct num, fun z hz => by cases hz⟩
end
end TR
set_option Elab.async false
set_option linter.all false
set_option maxRecDepth 100000
set_option maxHeartbeats 4000000
namespace TR
open PySem L2 PySem.W PyProof.Rows
seal PE PS PSs PA PT PW PG PGs PI PO
/-- how a context is made by all four, or by two -/
structure Made26 (P : Program) (w : World) (K : Frag) (mg : Str → Option Value) (base : Heap) (CC CB fI : Addr) (fdI : FuncData) (d60 : Value) : Prop where
  mc : MakeC P w K mg base CC CB fI fdI
  b4 : Binds K fdI ["self", "room", "way", "least", "most"] []
  b2 : Binds K fdI ["self", "room", "way", "least", "most"] [.none, d60]
  v2 : Vals [.non, .int 60] [.none, d60]
section
variable {P : Program} {w : World} {K : Frag} {mg : Str → Option Value} {base : Heap}
def spQuo (CN CC : Addr) : Sp := fun vs H Q _ => ∃ l c0 c1 v a0 b0 a1 b1 n x, ∃ k : Int, vs = [.ref l, .ref n, .int k] ∧ H l = some (.lst [.ref c0, .ref c1]) ∧ CtxV CC H c0 v a0 b0 [] [] ∧ CtxV CC H c1 v a1 b1 [] [] ∧ c0 ≠ c1 ∧ v.Ok ∧ NumIs CN H n x ∧ Sm x ∧ x.f ≠ 0 ∧ 1 ≤ k ∧ k ≤ 6 ∧ ∀ H', Q (.bl true) H'
theorem scQuo : FnScope ["_law_contexts", "_law_one", "_law_count", "_law_exact", "_law_turn", "_law_here", "_law_found", "_law_due"] ["_law_contexts", "_law_one", "_law_count"] (defScope sQuo) := ⟨rfl, rfl, rfl, by decide +kernel, rfl, by decide +kernel, by decide +kernel⟩
/-- both contexts, clear -/
structure Both (CN CC : Addr) (l c0 c1 n e : Addr) (v : Cv) (x y : Nm) (b0 b1 : Addr) (H : Hp) : Prop where
  l : H l = some (.lst [.ref c0, .ref c1])
  h0 : ∃ a, CtxV CC H c0 v a b0 [] []
  h1 : ∃ a, CtxV CC H c1 v a b1 [] []
  n : NumIs CN H n x
  e : NumIs CN H e y
theorem ok_quo {f f1 f2 f3 f4 fI CN CC CT CB CB' : Addr} {fd fd1 fd2 fd3 fd4 fdI : FuncData} {d60 : Value} (D : Def K mg "_law_quotients" ["_law_contexts", "_law_one", "_law_count"] sQuo f fd) (D_to_power : Def K mg "to_power" ["context", "one", "count"] sPower f1 fd1) (G_to_power : FnOk P w K mg base (CX1 P w) 7 f1 fd1 ["context", "one", "count"] (spPow CN CC CT))
    (D_over : Def K mg "over" ["context", "one", "other"] sOver f2 fd2) (G_over : FnOk P w K mg base (CX1 P w) 7 f2 fd2 ["context", "one", "other"] (spOver CN CC CT)) (D_plain : Def K mg "plain" ["sign", "figures", "power"] sPlain f3 fd3) (G_plain : FnOk P w K mg base (CX1 P w) 3 f3 fd3 ["sign", "figures", "power"] (spPlain K CN CB'))
    (D_told : Def K mg "told" ["number"] sTold f4 fd4) (G_told : FnOk P w K mg base (CX1 P w) 2 f4 fd4 ["number"] (spTold K CN CB')) (M : Made26 P w K mg base CC CB fI fdI d60) (C : CtxC K mg CC) (MF : Has P w K mg base CC "flags" 1 ["self"] (spCtxFlags CC)) (MC : Has P w K mg base CC "clear" 1 ["self"] (spCtxClear CC)) (O : Own mg) : FnOk P w K mg base (CX1 P w) 9 f fd ["_law_contexts", "_law_one", "_law_count"] (spQuo CN CC) := by
  refine D.F.okE scQuo (fun vs H Q E h => ?_) (fun X cdv A outer s H vs Q E hX hr hx h => ?_)
  · obtain ⟨l, c0, c1, v, a0, b0, a1, b1, n, x, k, rfl, _⟩ := h
    rfl
  · subst hX
    obtain ⟨l, c0, c1, v, a0, b0, a1, b1, n, x, k, rfl, hl, h0, h1, nc, hv, hn, hx', hf, k0, k6, kk⟩ := h
    obtain ⟨ff, fdf, mf, gf, bf⟩ := MF
    obtain ⟨fc, fdc, mc, gc, bc⟩ := MC
    refine ⟨_, (pss_cons (ps_join (ps_set (i := 3) scQuo.nd rfl (Or.inl rfl) (pcall D_to_power G_to_power hr hx (pa_cons (pmake M.mc.m M.mc.g hr C.g M.b2 M.v2 hx (pa_cons pe_int (pa_cons pe_str pa_nil))) (pa_cons (pv 1) (pa_cons (pv 2) pa_nil))))))
      (pss_cons (ps_join (ps_for PassesOwn.leaving rfl (pi_range1 rfl O.range_ (pa_cons pe_int pa_nil)) (pg_name (i := 4) scQuo.nd rfl (Or.inl rfl)) (pss_one (ps_join (ps_for PassesOwn.leaving rfl (pi_range1 rfl O.range_ (pa_cons pe_int pa_nil)) (pg_name (i := 5) scQuo.nd rfl (Or.inl rfl)) (pss_cons (ps_join (ps_set (i := 6) scQuo.nd rfl (Or.inl rfl) (pcall D_told G_told hr hx (pa_cons (pcall D_to_power G_to_power hr hx (pa_cons (pe_ix ix_list (pv 0) (pv 5) (fun _ _ => rfl)) (pa_cons (pv 1) (pa_cons (pe_op op_sub pe_int (pv 2)) pa_nil)))) pa_nil))))
      (pss_cons (ps_join (ps_set (i := 7) scQuo.nd rfl (Or.inl rfl) (pcall D_told G_told hr hx (pa_cons (pcall D_over G_over hr hx (pa_cons (pe_ix ix_list (pv 0) (pe_op op_sub pe_int (pv 5)) (fun _ _ => rfl)) (pa_cons (pcall D_plain G_plain hr hx (pa_cons pe_int (pa_cons pe_int (pa_cons pe_int pa_nil)))) (pa_cons (pv 3) pa_nil)))) pa_nil))))
      (pss_cons (ps_join (ps_if (PW.pt (pw_or (pt_cmpR (op_neD hr.units) (pv 6) (pv 7) (nomark _)) (pw_or1 (pt_cmpR (op_neD hr.units) (pmeth0 (pe_ix ix_list (pv 0) pe_int (fun _ _ => rfl)) C.cl mf gf hr bf .nil hx) (pmeth0 (pe_ix ix_list (pv 0) pe_int (fun _ _ => rfl)) C.cl mf gf hr bf .nil hx) (nomark _))))) (pss_one (ps_ret pe_bl)) pss_nil))
      (pss_cons (ps_join (ps_expr (pmeth0 (pe_ix ix_list (pv 0) pe_int (fun _ _ => rfl)) C.cl mc gc hr bc .nil hx)))
      (pss_one (ps_join (ps_expr (pmeth0 (pe_ix ix_list (pv 0) pe_int (fun _ _ => rfl)) C.cl mc gc hr bc .nil hx)))))))))))))
      (pss_one (ps_ret pe_bl)))), ?_⟩
    -- the power itself
    refine ⟨fun σ' H' => ∃ e, Same H H' ∧ NumIs CN H' e (powN x k) ∧ σ' = [some (.ref l), some (.ref n), some (.int k), some (.ref e), none, none, none, none], ?_, ?_⟩
    · intro cx dx n1 n2 ne
      refine madeC n1 n2 ne rfl (by decide) (by decide) (y := .down) rfl (.inl ⟨rfl, rfl⟩) rfl (by decide) (by decide) fun a b H1 s1 hc => ⟨rfl, _, rfl, _, rfl, ?_⟩
      refine pow_call (v := ⟨24, .down, -60, 60⟩) hc ⟨rfl, rfl, rfl⟩ (hn.same s1) hx' (by omega) (by omega) (fun _ => k0) fun e ra' H2 x2 c2 m2 => ⟨e, fun b o hb => x2 _ _ (s1 _ _ hb) (ne_of_none hb n1), m2, rfl⟩
    rintro σ' H1 ⟨e, s1, he, rfl⟩
    obtain ⟨F, eF⟩ := pow_nat x.f k
    have p1 := pow_pos (f := x.f) (k := k) (by have := hx'.f0; omega)
    have p2 := pow_lt (f := x.f) (k := k) (n := 6) (m := 10 ^ 12) hx'.f0 hx'.f1 (by omega) (by decide +kernel) (by decide +kernel)
    obtain ⟨L, ld, l0, l1⟩ := lead_one (F := F) (by omega) (by omega) (-(k * x.p))
    rw [← eF] at ld
    have bo : Both CN CC l c0 c1 n e v x (powN x k) b0 b1 H1 := ⟨s1 _ _ hl, ⟨a0, h0.same s1⟩, ⟨a1, h1.same s1⟩, hn.same s1, he⟩
    generalize hres : settleR v (sgI x.s k) 1 (powI x.f k) (-(k * x.p)) L (-(k * x.p)) = res
    refine ⟨fun σ' H' => ∃ v4 v5 v6 v7, σ' = [some (.ref l), some (.ref n), some (.int k), some (.ref e), v4, v5, v6, v7], ?_, ?_⟩
    · refine ⟨2, rfl, by decide, by decide, for_range (n := 2) (fun _ σ' H' => Both CN CC l c0 c1 n e v x (powN x k) b0 b1 H' ∧ ∃ v4 v5 v6 v7, σ' = [some (.ref l), some (.ref n), some (.int k), some (.ref e), v4, v5, v6, v7]) ⟨bo, none, none, none, none, rfl⟩ ?_ (fun σ' H' h => h.2)⟩
      rintro i σ' H2 hi ⟨b2, v4, v5, v6, v7, rfl⟩
      refine ⟨_, ⟨2, rfl, by decide, by decide, for_range (n := 2) (fun _ σ' H' => Both CN CC l c0 c1 n e v x (powN x k) b0 b1 H' ∧ ∃ v5 v6 v7, σ' = [some (.ref l), some (.ref n), some (.int k), some (.ref e), some (.int (0 + (i : Int))), v5, v6, v7]) ⟨b2, v5, v6, v7, rfl⟩ ?_ (fun σ' H' h => ⟨h.1, by obtain ⟨_, _, _, _, rfl⟩ := h; exact ⟨_, _, _, _, rfl⟩⟩)⟩, fun _ _ h => h⟩
      rintro j σ' H3 hj ⟨b3, v5', v6', v7', rfl⟩
      -- the two contexts by their turn
      obtain ⟨cA, cB, bA, bB, aA, aB, hA, hB, nAB, ixA, ixB, ord⟩ : ∃ cA cB bA bB aA aB, CtxV CC H3 cA v aA bA [] [] ∧ CtxV CC H3 cB v aB bB [] [] ∧ cA ≠ cB ∧ atI [V.ref c0, V.ref c1] (0 + (j : Int)) = some (.ref cA) ∧ atI [V.ref c0, V.ref c1] (1 - (0 + (j : Int))) = some (.ref cB) ∧ ((cA = c0 ∧ cB = c1 ∧ bA = b0 ∧ bB = b1) ∨ (cA = c1 ∧ cB = c0 ∧ bA = b1 ∧ bB = b0)) := by
        obtain ⟨x0, y0⟩ := b3.h0
        obtain ⟨x1, y1⟩ := b3.h1
        rcases (by omega : j = 0 ∨ j = 1) with rfl | rfl
        · exact ⟨c0, c1, b0, b1, x0, x1, y0, y1, nc, rfl, rfl, .inl ⟨rfl, rfl, rfl, rfl⟩⟩
        · exact ⟨c1, c0, b1, b0, x1, x0, y1, y0, Ne.symm nc, rfl, rfl, .inr ⟨rfl, rfl, rfl, rfl⟩⟩
      -- what is found
      refine ⟨fun σ' H' => ∃ t a', Exc cA H3 H' ∧ CtxV CC H' cA v a' bA (ordS ([] ++ res.2)) [] ∧ H' t = some (.tup res.1.vs) ∧ σ' = [some (.ref l), some (.ref n), some (.int k), some (.ref e), some (.int (0 + (i : Int))), some (.int (0 + (j : Int))), some (.ref t), v7'], ?_, ?_⟩
      · refine ⟨_, rfl, _, rfl, l, _, _, _, rfl, rfl, SqL.of b3.l, ixA, _, rfl, _, rfl, _, _, rfl, rfl, neg_call hA hv b3.n hx' hf k0 k6 ld l0 l1 fun m a' H4 x4 c4 m4 => ?_⟩
        rw [hres] at c4 m4
        exact ⟨_, rfl, .inl ⟨m, _, _, _, _, rfl, m4, fun t nt => ⟨t, a', x4.trans (.of (Same.upd nt)), c4.same (Same.upd nt), upd_same, rfl⟩⟩⟩
      rintro σ' H4 ⟨t4, a4, x4, c4, e4, rfl⟩
      have hl4 := lst_excC b3.l hA x4
      have hB4 := hB.excO hA x4 (Ne.symm nAB)
      have n4 := b3.n.excC hA x4
      have he4 := b3.e.excC hA x4
      -- what is due
      refine ⟨fun σ' H' => ∃ t a', Exc cB H4 H' ∧ CtxV CC H' cB v a' bB (ordS ([] ++ res.2)) [] ∧ H' t = some (.tup res.1.vs) ∧ σ' = [some (.ref l), some (.ref n), some (.int k), some (.ref e), some (.int (0 + (i : Int))), some (.int (0 + (j : Int))), some (.ref t4), some (.ref t)], ?_, ?_⟩
      · refine ⟨_, rfl, _, rfl, _, _, rfl, rfl, l, _, _, _, rfl, rfl, SqL.of hl4, ixB, _, _, _, rfl, .inl ⟨⟨0, rfl, by decide, by decide⟩, ⟨1, rfl, by decide, by decide +kernel⟩, ⟨0, rfl, by decide, by decide⟩, fun q H5 _ s5 nq => ?_⟩⟩
        refine ⟨_, rfl, over_call (hB4.same s5) hv nq (he4.same s5) hx' hf k0 k6 ld l0 l1 fun m a' H6 x6 c6 m6 => ?_⟩
        rw [hres] at c6 m6
        exact ⟨_, rfl, .inl ⟨m, _, _, _, _, rfl, m6, fun t nt => ⟨t, a', ((Exc.of s5).trans x6).trans (.of (Same.upd nt)), c6.same (Same.upd nt), upd_same, rfl⟩⟩⟩
      rintro σ' H5 ⟨t5, a5, x5, c5, e5, rfl⟩
      have hl5 := lst_excC hl4 hB4 x5
      have cA5 := c4.excO hB4 x5 nAB
      have n5 := n4.excC hB4 x5
      have he5 := he4.excC hB4 x5
      have e45 := tup_excC e4 hB4 x5
      -- both by their places
      obtain ⟨r0, r1, g0, g1⟩ : ∃ r0 r1, CtxV CC H5 c0 v r0 b0 (ordS ([] ++ res.2)) [] ∧ CtxV CC H5 c1 v r1 b1 (ordS ([] ++ res.2)) [] := by
        rcases ord with ⟨rfl, rfl, rfl, rfl⟩ | ⟨rfl, rfl, rfl, rfl⟩
        · exact ⟨_, _, cA5, c5⟩
        · exact ⟨_, _, c5, cA5⟩
      refine ⟨fun σ' H' => Same H5 H' ∧ σ' = [some (.ref l), some (.ref n), some (.int k), some (.ref e), some (.int (0 + (i : Int))), some (.int (0 + (j : Int))), some (.ref t4), some (.ref t5)], ?_, ?_⟩
      · refine ⟨_, rfl, _, rfl, datN res.1.k.str res.1.s res.1.f res.1.p, datN res.1.k.str res.1.s res.1.f res.1.p, rdD e45, rdD e5, shD _ _ _ (okK _), shD _ _ _ (okK _), _, rfl, ?_⟩
        rw [if_pos rfl, eqD]
        obtain ⟨⟨dx0, ec0⟩, _, _⟩ := id g0
        refine iteF ⟨_, rfl, l, _, _, _, rfl, rfl, SqL.of hl5, atI_nat (j := 0) rfl, c0, dx0, _, rfl, ec0, ctx_no_flags _ _ _ _ _ _, c0, v.r, v.y, v.l, v.m, r0, b0, _, _, rfl, g0, fun q1 nq1 => ?_⟩
        have u1 := Same.upd (o := .lst ((ordS ([] ++ res.2)).map V.str)) nq1
        obtain ⟨⟨dx1, ec1⟩, _, _⟩ := id (g1.same u1)
        refine ⟨_, rfl, l, _, _, _, rfl, rfl, SqL.of (u1 _ _ hl5), atI_nat (j := 1) rfl, c1, dx1, _, rfl, ec1, ctx_no_flags _ _ _ _ _ _, c1, v.r, v.y, v.l, v.m, r1, b1, _, _, rfl, g1.same u1, fun q2 nq2 => ?_⟩
        have u2 := Same.upd (o := .lst ((ordS ([] ++ res.2)).map V.str)) nq2
        refine ⟨rdL (ordS ([] ++ res.2)), rdL (ordS ([] ++ res.2)), rdL_at (u2 _ _ upd_same), rdL_at upd_same, shO _, shO _, _, rfl, ?_⟩
        rw [if_pos rfl, eqL]
        exact iteF ⟨u1.trans u2, rfl⟩
      rintro σ' H6 ⟨s6, rfl⟩
      have g06 := g0.same s6
      have g16 := g1.same s6
      have hl6 := s6 _ _ hl5
      -- both are cleared
      refine ⟨fun σ' H' => ∃ a', Exc c0 H6 H' ∧ CtxV CC H' c0 v a' b0 [] [] ∧ σ' = [some (.ref l), some (.ref n), some (.int k), some (.ref e), some (.int (0 + (i : Int))), some (.int (0 + (j : Int))), some (.ref t4), some (.ref t5)], ?_, ?_⟩
      · obtain ⟨⟨dx0, ec0⟩, _, _⟩ := id g06
        exact ⟨_, rfl, l, _, _, _, rfl, rfl, SqL.of hl6, atI_nat (j := 0) rfl, c0, dx0, _, rfl, ec0, ctx_no_clear _ _ _ _ _ _, c0, v.r, v.y, v.l, v.m, r0, b0, _, _, rfl, g06, fun a' H7 x7 _ c7 => ⟨a', x7, c7, rfl⟩⟩
      rintro σ' H7 ⟨a7, x7, c7, rfl⟩
      have g17 := g16.excO g06 x7 (Ne.symm nc)
      have hl7 := lst_excC hl6 g06 x7
      refine ⟨_, ?_, fun _ _ h => h⟩
      obtain ⟨⟨dx1, ec1⟩, _, _⟩ := id g17
      refine ⟨_, rfl, l, _, _, _, rfl, rfl, SqL.of hl7, atI_nat (j := 1) rfl, c1, dx1, _, rfl, ec1, ctx_no_clear _ _ _ _ _ _, c1, v.r, v.y, v.l, v.m, r1, b1, _, _, rfl, g17, fun a' H8 x8 _ c8 => ⟨⟨lst_excC hl7 g17 x8, ⟨a7, c7.excO g17 x8 nc⟩, ⟨a', c8⟩, ?_, ?_⟩, _, _, _, rfl⟩⟩
      · exact ((n5.same s6).excC g06 x7).excC g17 x8
      · exact ((he5.same s6).excC g06 x7).excC g17 x8
    rintro σ' H2 ⟨v4, v5, v6, v7, rfl⟩
    exact kk H2
end
end TR
set_option Elab.async false
set_option linter.all false
set_option maxRecDepth 100000
set_option maxHeartbeats 4000000
namespace TR
open PySem L2 PySem.W PyProof.Rows
seal PE PS PSs PA PT PW PG PGs PI PO
abbrev sCell : Stmt := (top 78)
section
variable {P : Program} {w : World} {K : Frag} {mg : Str → Option Value} {base : Heap}
def spCell (K : Frag) : Sp := fun vs H Q _ => ∃ a ns k, vs = [.ref a, .int k] ∧ SqL K H a ((ns : List Int).map V.int) ∧ 0 ≤ k ∧ ∀ i, Q (.int i) H
theorem scCell : FnScope ["_law_script", "_law_k"] ["_law_script", "_law_k"] (defScope sCell) := ⟨rfl, rfl, rfl, by decide +kernel, rfl, by decide +kernel, by decide +kernel⟩
theorem ok_cell {f : Addr} {fd : FuncData} (D : Def K mg "_law_cell_at" ["_law_script", "_law_k"] sCell f fd) (O : Own mg) : FnOk P w K mg base (CX1 P w) 1 f fd ["_law_script", "_law_k"] (spCell K) := by
  refine FnOk.up (D.F.ok scCell (fun vs H Q E h => ?_) (fun cdv A outer s H vs Q E hr h => ?_))
  · obtain ⟨a, ns, k, rfl, _⟩ := h
    rfl
  · obtain ⟨a, ns, i, rfl, hs, h0, k⟩ := h
    refine ⟨_, (pss_cons (ps_if (pt_cmpR op_lt (pv 1) (pe_callB call_len_seq (by rfl) O.len_ PySem.boot_len (pa_cons (pv 0) pa_nil)) (nomark _)) (pss_one (ps_ret (pe_ix ix_list (pv 0) (pv 1) (fun _ _ => rfl)))) pss_nil)
      (pss_one (ps_ret pe_int))), ?_⟩
    refine ⟨_, rfl, _, rfl, a, _, rfl, .inl hs, _, _, rfl, rfl, _, rfl, ?_⟩
    refine iteD (fun hlt => ?_) (fun _ => k 0)
    rw [List.length_map] at hlt
    obtain ⟨j, rfl⟩ := Int.eq_ofNat_of_zero_le h0
    have hj : j < ns.length := by omega
    exact ⟨_, rfl, _, rfl, a, _, _, _, rfl, rfl, hs, atI_nat (v := V.int ns[j]) (by simp [hj]), k _⟩
end
end TR
set_option Elab.async false
set_option linter.all false
set_option maxRecDepth 100000
set_option maxHeartbeats 4000000
namespace TR
open PySem L2 PySem.W PyProof.Rows
seal PE PS PSs PA PT PW PG PGs PI PO
abbrev sMixed : Stmt := (top 79)
section
variable {P : Program} {w : World} {K : Frag} {mg : Str → Option Value} {base : Heap}
def spMixed : Sp := fun vs H Q _ => ∃ c k, vs = [.int c, .int k] ∧ 0 ≤ k ∧ k ≤ 100 ∧ ∀ m, 0 ≤ m → m < 2147483629 → Q (.int m) H
theorem scMixed : FnScope ["_law_cell", "_law_k"] ["_law_cell", "_law_k"] (defScope sMixed) := ⟨rfl, rfl, rfl, by decide +kernel, rfl, by decide +kernel, by decide +kernel⟩
theorem ok_mixed {f : Addr} {fd : FuncData} (D : Def K mg "_law_mixed" ["_law_cell", "_law_k"] sMixed f fd) : FnOk P w K mg base (CX1 P w) 1 f fd ["_law_cell", "_law_k"] spMixed := by
  refine FnOk.up (D.F.ok scMixed (fun vs H Q E h => ?_) (fun cdv A outer s H vs Q E hr h => ?_))
  · obtain ⟨c, k, rfl, _⟩ := h
    rfl
  · obtain ⟨c, i, rfl, h0, h1, k⟩ := h
    refine ⟨_, (pss_one (ps_ret (pe_op op_mod (pe_op op_mulK (pe_op op_mod (pe_op op_add (pe_op op_add (pe_op op_mulK (pv 0) (pe_op op_add pe_int (pe_op op_mulK (pe_op op_mulK pe_int (pv 1)) (pv 1)))) (pe_op op_mulK pe_int (pv 1))) pe_int) pe_int) pe_int) pe_int))), ?_⟩
    have q0 : (0 : Int) ≤ 2 * i * i := Int.mul_nonneg (by omega) h0
    have q1 : 2 * i * i ≤ 200 * 100 := Int.mul_le_mul (by omega) h1 h0 (by decide)
    have m1 : IntMulOk 2 i := CMul.ok (.inl ⟨by decide, by decide⟩)
    have m2 : IntMulOk (2 * i) i := CMul.ok (.inr ⟨by omega, by omega⟩)
    have m3 : IntMulOk c (48271 + 2 * i * i) := CMul.ok (.inr ⟨by omega, by omega⟩)
    have m4 : IntMulOk 69621 i := CMul.ok (.inl ⟨by decide, by decide⟩)
    have m5 : ∀ z : Int, IntMulOk z 69621 := fun z => CMul.ok (.inr ⟨by decide, by decide⟩)
    refine ⟨_, rfl, _, rfl, _, _, rfl, rfl, m1, _, rfl, _, _, rfl, rfl, m2, _, _, rfl, rfl, _, _, rfl, rfl, m3, _, rfl, _, _, rfl, rfl, m4, _, _, rfl, rfl, _, _, rfl, rfl, _, _, rfl, rfl, (by show (0 : Int) < 2147483647; decide), _, _, rfl, rfl, m5 _, _, _, rfl, rfl, (by show (0 : Int) < 2147483629; decide), ?_⟩
    exact k _ (Int.emod_nonneg _ (by decide)) (Int.emod_lt_of_pos _ (by decide))
end
end TR
set_option Elab.async false
set_option linter.all false
set_option maxRecDepth 100000
set_option maxHeartbeats 4000000
namespace TR
open PySem L2 PySem.W PyProof.Rows
seal PE PS PSs PA PT PW PG PGs PI PO
abbrev sLaw : Stmt := (top 84)
theorem ways26 {n : Int} : ∃ y : Wy, atI [V.str "down", V.str "up", V.str "floor", V.str "ceiling", V.str "half up", V.str "half down", V.str "half even", V.str "five up"] (n % 8) = some (.str y.name) := by
  obtain ⟨v, hv, ix⟩ := ixv (xs := [V.str "down", V.str "up", V.str "floor", V.str "ceiling", V.str "half up", V.str "half down", V.str "half even", V.str "five up"]) (i := n % 8) (Int.emod_nonneg _ (by decide)) (by show n % 8 < 8; exact Int.emod_lt_of_pos _ (by decide))
  have : ∀ v ∈ [V.str "down", V.str "up", V.str "floor", V.str "ceiling", V.str "half up", V.str "half down", V.str "half even", V.str "five up"], ∃ y : Wy, v = .str y.name := List.forall_mem_cons.2 ⟨⟨.down, rfl⟩, List.forall_mem_cons.2 ⟨⟨.up, rfl⟩, List.forall_mem_cons.2 ⟨⟨.floor, rfl⟩, List.forall_mem_cons.2 ⟨⟨.ceiling, rfl⟩, List.forall_mem_cons.2 ⟨⟨.halfUp, rfl⟩, List.forall_mem_cons.2 ⟨⟨.halfDown, rfl⟩, List.forall_mem_cons.2 ⟨⟨.halfEven, rfl⟩, List.forall_mem_cons.2 ⟨⟨.fiveUp, rfl⟩, fun _ h => nomatch h⟩⟩⟩⟩⟩⟩⟩⟩
  obtain ⟨y, rfl⟩ := this v hv
  exact ⟨y, ix⟩
theorem ways3 {n : Int} : ∃ y : Wy, atI [V.str "down", V.str "half even", V.str "up"] (n % 3) = some (.str y.name) := by
  obtain ⟨v, hv, ix⟩ := ixv (xs := [V.str "down", V.str "half even", V.str "up"]) (i := n % 3) (Int.emod_nonneg _ (by decide)) (by show n % 3 < 3; exact Int.emod_lt_of_pos _ (by decide))
  have : ∀ v ∈ [V.str "down", V.str "half even", V.str "up"], ∃ y : Wy, v = .str y.name := List.forall_mem_cons.2 ⟨⟨.down, rfl⟩, List.forall_mem_cons.2 ⟨⟨.halfEven, rfl⟩, List.forall_mem_cons.2 ⟨⟨.up, rfl⟩, fun _ h => nomatch h⟩⟩⟩
  obtain ⟨y, rfl⟩ := this v hv
  exact ⟨y, ix⟩
theorem sh0 : SeqAt.shaped (.list []) = true := by decide +kernel
theorem eq0 : PyData.eqv (.list []) (.list []) = true := by decide +kernel
theorem dv {n : Int} (h : 0 < n) (h2 : n.natAbs.log2 < 9000) : (0 : Int) < n ∧ n.natAbs.log2 < 9000 := ⟨h, h2⟩
section
variable {P : Program} {w : World} {K : Frag} {mg : Str → Option Value} {base : Heap}
theorem seqExcV {H H' : Hp} {CC c a ra rb : Addr} {v : Cv} {xs' ys' : List Str} {xs : List V} (h : SqL K H a xs) (hc : CtxV CC H c v ra rb xs' ys') (x : Exc c H H') : SqL K H' a xs := by
  obtain ⟨⟨dx, ec⟩, _, _⟩ := hc
  rcases h with (h | ⟨o, h⟩) | h
  · exact .inl (.inl (x _ _ h (ne_of h ec (by intro z; cases z))))
  · exact .inl (.inr ⟨o, x _ _ h (ne_of h ec (by intro z; cases z))⟩)
  · exact .inr h
theorem madeC2 {CC CB x dx : Addr} {H : Hp} {Q : VK} {E : XK} {v1 v2 v3 v4 : V} {r : Int} {y : Wy} {l m : Int} (n1 : H x = none) (n2 : H dx = none) (ne : dx ≠ x) (h1 : v1 = .int r) (r1 : 1 ≤ r) (r2 : r ≤ 24) (h2 : v2 = .str y.name) (h3 : LeastV l v3) (h4 : v4 = .int m) (m1 : 0 ≤ m) (m2 : m ≤ 60)
    (k : ∀ a b H', Same H H' → H a = none → H b = none → CtxAt CC H' x r y l m a b [] [] → Q .non H') : spCtxInit K CC CB [.ref x, v1, v2, v3, v4] (upd (upd H dx (.own x)) x (.ins CC dx [])) Q E := by
  have fr : ∀ a, upd (upd H dx (.own x)) x (.ins CC dx []) a = none → H a = none := fun a h => by
    cases e : H a with
    | none => rfl
    | some o =>
      rw [upd_ne (ne_of_none e n1), upd_ne (ne_of_none e n2), e] at h
      cases h
  exact ⟨x, dx, v1, v2, v3, v4, rfl, upd_same, .inl ⟨r, y, l, m, h1, r1, r2, h2, h3, h4, m1, m2, fun a b H' e na nb c => k a b H' (exc_new n1 n2 ne e) (fr a na) (fr b nb) c⟩⟩
def spLaw (K : Frag) : Sp := fun vs H Q _ => ∃ a ns, vs = [.ref a] ∧ (ns : List Int).length ≤ 63 ∧ SqL K H a (ns.map V.int) ∧ ∀ H', Q (.bl true) H'
theorem scLaw : FnScope ["_law_script", "_law_figures", "_law_one", "_law_first", "_law_second", "_law_context", "_law_draw", "_law_way", "_law_bounds", "_law_contexts"] ["_law_script"] (defScope sLaw) := ⟨rfl, rfl, rfl, by decide +kernel, rfl, by decide +kernel, by decide +kernel⟩
theorem ok_law {f f1 f2 f3 f4 f5 fI CC CN CB CB' : Addr} {fd fd1 fd2 fd3 fd4 fd5 fdI : FuncData} {d60 : Value} (D : Def K mg "law" ["_law_script"] sLaw f fd)
    (D_l_cell_at : Def K mg "_law_cell_at" ["_law_script", "_law_k"] sCell f1 fd1) (G_l_cell_at : FnOk P w K mg base (CX1 P w) 1 f1 fd1 ["_law_script", "_law_k"] (spCell K)) (D_l_mixed : Def K mg "_law_mixed" ["_law_cell", "_law_k"] sMixed f2 fd2) (G_l_mixed : FnOk P w K mg base (CX1 P w) 1 f2 fd2 ["_law_cell", "_law_k"] spMixed)
    (D_plain : Def K mg "plain" ["sign", "figures", "power"] sPlain f3 fd3) (G_plain : FnOk P w K mg base (CX1 P w) 3 f3 fd3 ["sign", "figures", "power"] (spPlain K CN CB')) (D_l_together : Def K mg "_law_together" ["_law_context", "_law_one", "_law_first", "_law_second"] sTogether f4 fd4) (G_l_together : FnOk P w K mg base (CX1 P w) 9 f4 fd4 ["_law_context", "_law_one", "_law_first", "_law_second"] (spTog CN CC))
    (D_l_quotients : Def K mg "_law_quotients" ["_law_contexts", "_law_one", "_law_count"] sQuo f5 fd5) (G_l_quotients : FnOk P w K mg base (CX1 P w) 9 f5 fd5 ["_law_contexts", "_law_one", "_law_count"] (spQuo CN CC)) (M : Made26 P w K mg base CC CB fI fdI d60) (CX : CtxC K mg CC) (MF : Has P w K mg base CC "flags" 1 ["self"] (spCtxFlags CC)) (O : Own mg) : FnOk P w K mg base (CX1 P w) 10 f fd ["_law_script"] (spLaw K) := by
  refine D.F.okE scLaw (fun vs H Q E h => ?_) (fun X cdv A outer s H vs Q E hX hr hx h => ?_)
  · obtain ⟨a, ns, rfl, _⟩ := h
    rfl
  · subst hX
    obtain ⟨sc, ns, rfl, n63, hS, kk⟩ := h
    obtain ⟨ff, fdf, mf, gf, bf⟩ := MF
    refine ⟨_, (pss_cons (ps_join (ps_set (i := 1) scLaw.nd rfl (Or.inl rfl) (pe_op op_mod (pcall D_l_cell_at G_l_cell_at hr hx (pa_cons (pv 0) (pa_cons pe_int pa_nil))) pe_int)))
      (pss_cons (ps_join (ps_set (i := 2) scLaw.nd rfl (Or.inl rfl) (pcall D_plain G_plain hr hx (pa_cons (pe_op op_mod (pcall D_l_cell_at G_l_cell_at hr hx (pa_cons (pv 0) (pa_cons pe_int pa_nil))) pe_int) (pa_cons (pv 1) (pa_cons (pe_op op_sub (pe_op op_mod (pe_op op_fdivK (pcall D_l_cell_at G_l_cell_at hr hx (pa_cons (pv 0) (pa_cons pe_int pa_nil))) pe_int) pe_int) pe_int) pa_nil))))))
      (pss_cons (ps_join (ps_set (i := 3) scLaw.nd rfl (Or.inl rfl) (pe_op op_mod (pcall D_l_cell_at G_l_cell_at hr hx (pa_cons (pv 0) (pa_cons pe_int pa_nil))) pe_int)))
      (pss_cons (ps_join (ps_set (i := 4) scLaw.nd rfl (Or.inl rfl) (pe_op op_mod (pcall D_l_cell_at G_l_cell_at hr hx (pa_cons (pv 0) (pa_cons pe_int pa_nil))) pe_int)))
      (pss_cons (ps_join (ps_if (pt_cmpR op_eq (pv 1) pe_int (nomark _)) (pss_cons (ps_join (ps_set (i := 3) scLaw.nd rfl (Or.inl rfl) (pe_op op_add pe_int (pe_op op_mod (pv 3) pe_int))))
      (pss_one (ps_join (ps_set (i := 4) scLaw.nd rfl (Or.inl rfl) (pe_op op_add pe_int (pe_op op_mod (pv 4) pe_int)))))) pss_nil))
      (pss_cons (ps_join (ps_set (i := 5) scLaw.nd rfl (Or.inl rfl) (pmake M.mc.m M.mc.g hr CX.g M.b2 M.v2 hx (pa_cons pe_int (pa_cons (pe_ix ix_list (pe_lst (pa_cons pe_str (pa_cons pe_str (pa_cons pe_str pa_nil)))) (pe_op op_mod (pcall D_l_cell_at G_l_cell_at hr hx (pa_cons (pv 0) (pa_cons pe_int pa_nil))) pe_int) (fun _ _ => rfl)) pa_nil)))))
      (pss_cons (ps_join (ps_if (PW.pt (pw_or (pt_not (pt_val (pcall D_l_together G_l_together hr hx (pa_cons (pv 5) (pa_cons (pv 2) (pa_cons (pv 3) (pa_cons (pv 4) pa_nil))))))) (pw_or1 (pt_cmpR (op_neD hr.units) (pmeth0 (pv 5) CX.cl mf gf hr bf .nil hx) (pe_lst pa_nil) (nomark _))))) (pss_one (ps_ret pe_bl)) pss_nil))
      (pss_cons (ps_join (ps_set (i := 6) scLaw.nd rfl (Or.inr rfl) (pe_op op_fdivK (pcall D_l_mixed G_l_mixed hr hx (pa_cons (pcall D_l_cell_at G_l_cell_at hr hx (pa_cons (pv 0) (pa_cons pe_int pa_nil))) (pa_cons pe_int pa_nil))) pe_int)))
      (pss_cons (ps_join (ps_set (i := 7) scLaw.nd rfl (Or.inr rfl) (pe_ix ix_list (pe_lst (pa_cons pe_str (pa_cons pe_str (pa_cons pe_str (pa_cons pe_str (pa_cons pe_str (pa_cons pe_str (pa_cons pe_str (pa_cons pe_str pa_nil))))))))) (pe_op op_mod (pv 6) pe_int) (fun _ _ => rfl))))
      (pss_cons (ps_join (ps_set (i := 8) scLaw.nd rfl (Or.inr rfl) (pe_ix ix_list (pe_lst (pa_cons (pe_tup (pa_cons (pe_un un_neg pe_int) (pa_cons pe_int pa_nil))) (pa_cons (pe_tup (pa_cons (pe_un un_neg pe_int) (pa_cons pe_int pa_nil))) (pa_cons (pe_tup (pa_cons pe_int (pa_cons pe_int pa_nil))) (pa_cons (pe_tup (pa_cons (pe_un un_neg pe_int) (pa_cons pe_int pa_nil))) pa_nil))))) (pe_op op_mod (pe_op op_fdivK (pv 6) pe_int) pe_int) (fun _ _ => rfl))))
      (pss_cons (ps_join (ps_compG0 (i := 9) (N := ["_law_turn"]) (F := ["_law_way", "_law_draw", "_law_bounds"]) (js := [7, 6, 8]) (CompScopeF.of3 ⟨rfl, by decide +kernel, by decide +kernel, by decide +kernel, by decide +kernel⟩ (by rfl) (by rfl) ⟨_, by rfl⟩ (by rfl) (by rfl) (by rfl) ⟨_, by rfl⟩ (by rfl) (by rfl) (by rfl) ⟨_, by rfl⟩ (by rfl) (by rfl)) (.inl hr.hd) rfl (pi_range1 rfl O.range_ (pa_cons pe_int pa_nil)) rfl (fun C s₀ H₀ ex pn h => pg_name (i := 0) (by decide +kernel : (["_law_turn", "_law_way", "_law_draw", "_law_bounds"] : List Str).Nodup) rfl (Or.inl rfl)) (fun C s₀ H₀ ex pn h => (pmakeN M.mc.m M.mc.g hr CX.g M.b4 .nil (pa_cons (pe_op op_add pe_int (pe_op op_mod (pe_op op_fdivK (pv 2) pe_int) pe_int)) (pa_cons (pv 1) (pa_cons (pe_ix (ix_tupK (K := K) rfl) (pv 3) pe_int (fun _ _ => rfl)) (pa_cons (pe_ix (ix_tupK (K := K) rfl) (pv 3) pe_int (fun _ _ => rfl)) pa_nil)))))) scLaw.nd rfl (Or.inl rfl)))
      (pss_one (ps_ret (pe_or (pe_cmpR op_eq (pv 1) pe_int (nomark _)) (pe_one (pcall D_l_quotients G_l_quotients hr hx (pa_cons (pv 9) (pa_cons (pv 2) (pa_cons (pe_op op_add pe_int (pe_op op_mod (pe_op op_fdivK (pv 6) pe_int) pe_int)) pa_nil))))))))))))))))))), ?_⟩
    have z14 : ∀ {n : Nat}, n ≤ 100 → n ≤ sizeLine := fun h => line1000 (Nat.le_trans h (by decide))
    refine ⟨fun σ' H' => ∃ fg : Int, 0 ≤ fg ∧ fg ≤ 99 ∧ H' = H ∧ σ' = [some (.ref sc), some (.int fg), none, none, none, none, none, none, none, none], ?_, ?_⟩
    · refine ⟨_, rfl, sc, ns, 0, rfl, hS, by decide, fun c => ⟨_, _, rfl, rfl, (by decide : (0 : Int) < 100), c % 100, Int.emod_nonneg _ (by decide), ?_, rfl, rfl⟩⟩
      have := Int.emod_lt_of_pos c (by decide : (0 : Int) < 100)
      omega
    rintro σ' H1 ⟨fg, g0, g1, rfl, rfl⟩
    -- one
    refine ⟨fun σ' H' => ∃ n x, Same H1 H' ∧ NumIs CN H' n x ∧ Sm x ∧ x.f = fg ∧ σ' = [some (.ref sc), some (.int fg), some (.ref n), none, none, none, none, none, none, none], ?_, ?_⟩
    · refine ⟨_, rfl, sc, ns, 1, rfl, hS, by decide, fun c1 => ⟨_, _, rfl, rfl, (by decide : (0 : Int) < 2), _, rfl, _, rfl, sc, ns, 1, rfl, hS, by decide, fun c2 => ⟨_, _, rfl, rfl, dv (n := 2) (by decide) (by decide +kernel), _, _, rfl, rfl, (by decide : (0 : Int) < 7), _, _, rfl, rfl, ?_⟩⟩⟩
      have big : (99 : Int) ≤ 10 ^ 60 - 1 := by decide +kernel
      refine ⟨_, _, _, rfl, .inl ⟨⟨c1 % 2, rfl, by omega, by omega⟩, ⟨fg, rfl, g0, by omega⟩, ⟨c2 / 2 % 7 - 3, rfl, by omega, by omega⟩, fun n H2 _ s2 num => ?_⟩⟩
      exact ⟨n, ⟨.plain, c1 % 2, fg, c2 / 2 % 7 - 3⟩, s2, num, ⟨rfl, by show 0 ≤ c1 % 2; omega, by show c1 % 2 ≤ 1; omega, g0, g1, by show -3 ≤ c2 / 2 % 7 - 3; omega, by show c2 / 2 % 7 - 3 ≤ 3; omega⟩, rfl, rfl⟩
    rintro σ' H2 ⟨n, x, s2, hn, hx', ef, rfl⟩
    have hS2 := s2.seq hS
    refine ⟨fun σ' H' => ∃ a : Int, 0 ≤ a ∧ a ≤ 6 ∧ H' = H2 ∧ σ' = [some (.ref sc), some (.int fg), some (.ref n), some (.int a), none, none, none, none, none, none], ⟨_, rfl, sc, ns, 2, rfl, hS2, by decide, fun c => ⟨_, _, rfl, rfl, (by decide : (0 : Int) < 7), c % 7, by omega, by omega, rfl, rfl⟩⟩, ?_⟩
    rintro σ' H3 ⟨a, a0, a6, rfl, rfl⟩
    refine ⟨fun σ' H' => ∃ b : Int, 0 ≤ b ∧ b ≤ 6 ∧ H' = H3 ∧ σ' = [some (.ref sc), some (.int fg), some (.ref n), some (.int a), some (.int b), none, none, none, none, none], ⟨_, rfl, sc, ns, 3, rfl, hS2, by decide, fun c => ⟨_, _, rfl, rfl, (by decide : (0 : Int) < 7), c % 7, by omega, by omega, rfl, rfl⟩⟩, ?_⟩
    rintro σ' H4 ⟨b, b0, b6, rfl, rfl⟩
    -- a nought is never to the power 0
    refine ⟨fun σ' H' => ∃ a b : Int, 0 ≤ a ∧ a ≤ 6 ∧ 0 ≤ b ∧ b ≤ 6 ∧ (fg = 0 → 1 ≤ a ∧ 1 ≤ b) ∧ H' = H4 ∧ σ' = [some (.ref sc), some (.int fg), some (.ref n), some (.int a), some (.int b), none, none, none, none, none], ?_, ?_⟩
    · refine ⟨_, rfl, rfl, _, rfl, iteD (fun h => ?_) (fun h => ⟨a, b, a0, a6, b0, b6, fun z => absurd (congrArg V.int z) h, rfl, rfl⟩)⟩
      refine ⟨fun σ' H' => H' = H4 ∧ σ' = [some (.ref sc), some (.int fg), some (.ref n), some (.int (1 + a % 6)), some (.int b), none, none, none, none, none], ⟨_, rfl, _, _, rfl, rfl, (by decide : (0 : Int) < 6), _, _, rfl, rfl, rfl, rfl⟩, ?_⟩
      rintro σ' H5 ⟨rfl, rfl⟩
      refine ⟨_, ?_, fun _ _ h => h⟩
      exact ⟨_, rfl, _, _, rfl, rfl, (by decide : (0 : Int) < 6), _, _, rfl, rfl, 1 + a % 6, 1 + b % 6, by omega, by omega, by omega, by omega, fun _ => ⟨by omega, by omega⟩, rfl, rfl⟩
    clear a0 a6 b0 b6
    rintro σ' H5 ⟨a, b, a0, a6, b0, b6, az, rfl, rfl⟩
    -- the context
    refine ⟨fun σ' H' => ∃ c v ra rb, Same H5 H' ∧ CtxV CC H' c v ra rb [] [] ∧ V24 v ∧ σ' = [some (.ref sc), some (.int fg), some (.ref n), some (.int a), some (.int b), some (.ref c), none, none, none, none], ?_, ?_⟩
    · refine ⟨z14 (by decide), fun l nl => ⟨_, rfl, sc, ns, 4, rfl, (Same.upd nl).seq hS2, by decide, fun c4 => ?_⟩⟩
      obtain ⟨y, iy⟩ := ways3 (n := c4)
      have ul := Same.upd (o := .lst [.str "down", .str "half even", .str "up"]) nl
      refine ⟨_, _, rfl, rfl, (by decide : (0 : Int) < 3), l, _, _, _, rfl, rfl, SqL.of upd_same, iy, ?_⟩
      intro x dx n1 n2 ne
      exact madeC n1 n2 ne rfl (by decide) (by decide) rfl (.inl ⟨rfl, rfl⟩) rfl (by decide) (by decide) fun ra rb H6 s6 hc => ⟨rfl, x, ⟨24, y, -60, 60⟩, ra, rb, ul.trans s6, hc, ⟨rfl, rfl, rfl⟩, rfl⟩
    rintro σ' H6 ⟨c, v, ra, rb, s6, hc, hv, rfl⟩
    -- together
    refine ⟨fun σ' H' => Exc c H6 H' ∧ σ' = [some (.ref sc), some (.int fg), some (.ref n), some (.int a), some (.int b), some (.ref c), none, none, none, none], ?_, ?_⟩
    · refine ⟨_, rfl, _, rfl, _, rfl, _, rfl, c, v, ra, rb, n, x, a, b, rfl, hc, hv, hn.same s6, hx', a0, a6, b0, b6, fun z => az (by omega), fun ra7 H7 x7 c7 => ⟨_, rfl, iteF ?_⟩⟩
      obtain ⟨⟨dx7, ec7⟩, _, _⟩ := id c7
      refine ⟨_, rfl, c, dx7, _, rfl, ec7, ctx_no_flags _ _ _ _ _ _, c, v.r, v.y, v.l, v.m, ra7, rb, _, _, rfl, c7, fun q1 nq1 => ⟨Nat.zero_le _, fun q2 nq2 => ?_⟩⟩
      have u1 := Same.upd (o := .lst (([] : List Str).map V.str)) nq1
      have u2 := Same.upd (o := .lst []) nq2
      refine ⟨.list [], .list [], .lst (SqL.of (u2 _ _ upd_same)) .nil, .lst (SqL.of upd_same) .nil, sh0, sh0, _, rfl, ?_⟩
      rw [if_pos rfl, eq0]
      exact iteF ⟨x7.trans (.of (u1.trans u2)), rfl⟩
    rintro σ' H7 ⟨x7, rfl⟩
    have hS7 := seqExcV (s6.seq hS2) hc x7
    have n7 := (hn.same s6).excC hc x7
    -- the draw
    refine ⟨fun σ' H' => ∃ d : Int, 0 ≤ d ∧ H' = H7 ∧ σ' = [some (.ref sc), some (.int fg), some (.ref n), some (.int a), some (.int b), some (.ref c), some (.int d), none, none, none], ?_, ?_⟩
    · exact ⟨_, rfl, sc, ns, 5, rfl, hS7, by decide, fun c5 => ⟨c5, 3, rfl, by decide, by decide, fun m m0 _ => ⟨_, _, rfl, rfl, dv (n := 7) (by decide) (by decide +kernel), m / 7, Int.ediv_nonneg m0 (by decide), rfl, rfl⟩⟩⟩
    rintro σ' H8 ⟨d, d0, rfl, rfl⟩
    refine ⟨fun σ' H' => ∃ y : Wy, Same H8 H' ∧ σ' = [some (.ref sc), some (.int fg), some (.ref n), some (.int a), some (.int b), some (.ref c), some (.int d), some (.str y.name), none, none], ?_, ?_⟩
    · obtain ⟨y, iy⟩ := ways26 (n := d)
      exact ⟨z14 (by decide), fun l nl => ⟨_, rfl, _, _, rfl, rfl, (by decide : (0 : Int) < 8), l, _, _, _, rfl, rfl, SqL.of upd_same, iy, y, Same.upd nl, rfl⟩⟩
    rintro σ' H9 ⟨y, s9, rfl⟩
    -- the bounds
    refine ⟨fun σ' H' => ∃ t, ∃ bl bm : Int, Same H9 H' ∧ H' t = some (.tup [.int bl, .int bm]) ∧ -60 ≤ bl ∧ bl ≤ 0 ∧ 0 ≤ bm ∧ bm ≤ 60 ∧ σ' = [some (.ref sc), some (.int fg), some (.ref n), some (.int a), some (.int b), some (.ref c), some (.int d), some (.str y.name), some (.ref t), none], ?_, ?_⟩
    · refine ⟨_, rfl, z14 (by decide), fun t1 n1 => ⟨_, rfl, z14 (by decide), fun t2 n2 => ⟨z14 (by decide), fun t3 n3 => ⟨_, rfl, z14 (by decide), fun t4 n4 => ⟨z14 (by simp), fun l nl => ?_⟩⟩⟩⟩⟩
      have u1 := Same.upd (o := .tup [.int (-60), .int 60]) n1
      have u2 := Same.upd (o := .tup [.int (-2), .int 2]) n2
      have u3 := Same.upd (o := .tup [.int 0, .int 0]) n3
      have u4 := Same.upd (o := .tup [.int (-9), .int 5]) n4
      have u5 := Same.upd (o := .lst [.ref t1, .ref t2, .ref t3, .ref t4]) nl
      have uA := u1.trans (u2.trans (u3.trans (u4.trans u5)))
      have e0 := Int.emod_nonneg (d / 8) (by decide : (4 : Int) ≠ 0)
      have e1 := Int.emod_lt_of_pos (d / 8) (by decide : (0 : Int) < 4)
      refine ⟨_, rfl, _, _, rfl, rfl, dv (n := 8) (by decide) (by decide +kernel), _, _, rfl, rfl, (by decide : (0 : Int) < 4), ?_⟩
      rcases (by omega : d / 8 % 4 = 0 ∨ d / 8 % 4 = 1 ∨ d / 8 % 4 = 2 ∨ d / 8 % 4 = 3) with h4 | h4 | h4 | h4
      · exact ⟨l, _, _, _, rfl, rfl, SqL.of upd_same, (show atI [V.ref t1, V.ref t2, V.ref t3, V.ref t4] (d / 8 % 4) = some (V.ref t1) by rw [h4]; rfl), t1, -60, 60, uA, (u2.trans (u3.trans (u4.trans u5))) _ _ upd_same, by decide, by decide, by decide, by decide, rfl⟩
      · exact ⟨l, _, _, _, rfl, rfl, SqL.of upd_same, (show atI [V.ref t1, V.ref t2, V.ref t3, V.ref t4] (d / 8 % 4) = some (V.ref t2) by rw [h4]; rfl), t2, -2, 2, uA, (u3.trans (u4.trans u5)) _ _ upd_same, by decide, by decide, by decide, by decide, rfl⟩
      · exact ⟨l, _, _, _, rfl, rfl, SqL.of upd_same, (show atI [V.ref t1, V.ref t2, V.ref t3, V.ref t4] (d / 8 % 4) = some (V.ref t3) by rw [h4]; rfl), t3, 0, 0, uA, (u4.trans u5) _ _ upd_same, by decide, by decide, by decide, by decide, rfl⟩
      · exact ⟨l, _, _, _, rfl, rfl, SqL.of upd_same, (show atI [V.ref t1, V.ref t2, V.ref t3, V.ref t4] (d / 8 % 4) = some (V.ref t4) by rw [h4]; rfl), t4, -9, 5, uA, u5 _ _ upd_same, by decide, by decide, by decide, by decide, rfl⟩
    rintro σ' H10 ⟨t, bl, bm, s10, et, l0, l1, m0, m1, rfl⟩
    have f0 := Int.emod_nonneg (d / 32) (by decide : (9 : Int) ≠ 0)
    have f1 := Int.emod_lt_of_pos (d / 32) (by decide : (0 : Int) < 9)
    -- two contexts alike
    refine ⟨fun σ' H' => ∃ l c0 c1 a0 b0 a1 b1, Same H10 H' ∧ H' l = some (.lst [.ref c0, .ref c1]) ∧ CtxV CC H' c0 ⟨1 + d / 32 % 9, y, bl, bm⟩ a0 b0 [] [] ∧ CtxV CC H' c1 ⟨1 + d / 32 % 9, y, bl, bm⟩ a1 b1 [] [] ∧ c0 ≠ c1 ∧ σ' = [some (.ref sc), some (.int fg), some (.ref n), some (.int a), some (.int b), some (.ref c), some (.int d), some (.str y.name), some (.ref t), some (.ref l)], ?_, ?_⟩
    · refine ⟨2, rfl, by decide, by decide, fun D' nD => ⟨2, fun i ys H2 => Same H10 H2 ∧ H2 D' = some (.lst ys) ∧ ((i = 0 ∧ ys = []) ∨ (i = 1 ∧ ∃ c a b, ys = [.ref c] ∧ CtxV CC H2 c ⟨1 + d / 32 % 9, y, bl, bm⟩ a b [] [] ∧ a ≠ D' ∧ b ≠ D') ∨ (i = 2 ∧ ∃ c0 c1 a0 b0 a1 b1, ys = [.ref c0, .ref c1] ∧ CtxV CC H2 c0 ⟨1 + d / 32 % 9, y, bl, bm⟩ a0 b0 [] [] ∧ CtxV CC H2 c1 ⟨1 + d / 32 % 9, y, bl, bm⟩ a1 b1 [] [] ∧ c0 ≠ c1)), ⟨Same.upd nD, upd_same, .inl ⟨rfl, rfl⟩⟩, ?_⟩⟩
      have keep : ∀ {H' : Hp} {q a b : Addr} {ys : List V}, CtxV CC H' q ⟨1 + d / 32 % 9, y, bl, bm⟩ a b [] [] → H' D' = some (.lst ys) → a ≠ D' → b ≠ D' → ∀ zs, CtxV CC (upd H' D' (.lst zs)) q ⟨1 + d / 32 % 9, y, bl, bm⟩ a b [] [] := fun {H' q a b ys} h eD ha hb zs => by
        obtain ⟨⟨dx, e⟩, h2, h3⟩ := h
        exact ⟨⟨dx, by rw [upd_ne (ne_of e eD (by intro z; cases z))]; exact e⟩, by rw [upd_ne ha]; exact h2, by rw [upd_ne hb]; exact h3⟩
      rintro i ys H2 ⟨sm, eD, h⟩
      rcases h with ⟨rfl, rfl⟩ | ⟨rfl, q, qa, qb, rfl, hq, na, nb⟩ | ⟨rfl, c0, c1, a0', b0', a1', b1', rfl, h0, h1, nc⟩
      · refine ⟨by decide, eD, .inr ⟨by decide, (by show 0 < 2; decide), fun x H3 yl => ?_⟩⟩
        obtain ⟨rfl, rfl⟩ := yl
        refine ⟨_, rfl, _, _, rfl, rfl, dv (n := 32) (by decide) (by decide +kernel), _, _, rfl, rfl, (by decide : (0 : Int) < 9), _, _, rfl, rfl, _, rfl, _, rfl, t, _, _, _, rfl, rfl, SqT.of (sm _ _ et), atI_nat (j := 0) rfl, _, rfl, t, _, _, _, rfl, rfl, SqT.of (sm _ _ et), atI_nat (j := 1) rfl, ?_⟩
        intro q dq n1 n2 ne
        refine madeC2 n1 n2 ne rfl (by omega) (by omega) rfl (.inr ⟨rfl, l0, l1⟩) rfl m0 m1 fun qa qb H4 s4 na nb hq => ⟨rfl, s4 _ _ eD, (by show 0 < sizeLine; exact small1000 (by decide)), ?_⟩
        have ca := Ne.symm (ne_of_none eD na)
        have cb := Ne.symm (ne_of_none eD nb)
        exact ⟨fun z o hz => by rw [upd_ne (ne_of_none hz nD)]; exact s4 _ _ (sm _ _ hz), upd_same, .inr (.inl ⟨rfl, q, qa, qb, rfl, keep hq (s4 _ _ eD) ca cb _, ca, cb⟩)⟩
      · refine ⟨by decide, eD, .inr ⟨by decide, (by show 1 < 2; decide), fun x H3 yl => ?_⟩⟩
        obtain ⟨rfl, rfl⟩ := yl
        refine ⟨_, rfl, _, _, rfl, rfl, dv (n := 32) (by decide) (by decide +kernel), _, _, rfl, rfl, (by decide : (0 : Int) < 9), _, _, rfl, rfl, _, rfl, _, rfl, t, _, _, _, rfl, rfl, SqT.of (sm _ _ et), atI_nat (j := 0) rfl, _, rfl, t, _, _, _, rfl, rfl, SqT.of (sm _ _ et), atI_nat (j := 1) rfl, ?_⟩
        intro q2 dq n1 n2 ne
        refine madeC2 n1 n2 ne rfl (by omega) (by omega) rfl (.inr ⟨rfl, l0, l1⟩) rfl m0 m1 fun qa2 qb2 H4 s4 na2 nb2 hq2 => ⟨rfl, s4 _ _ eD, (by show 1 < sizeLine; exact small1000 (by decide)), ?_⟩
        have ca := Ne.symm (ne_of_none eD na2)
        have cb := Ne.symm (ne_of_none eD nb2)
        obtain ⟨⟨dz, ez⟩, _, _⟩ := id hq
        exact ⟨fun z o hz => by rw [upd_ne (ne_of_none hz nD)]; exact s4 _ _ (sm _ _ hz), upd_same, .inr (.inr ⟨rfl, q, q2, qa, qb, qa2, qb2, rfl, keep (hq.same s4) (s4 _ _ eD) na nb _, keep hq2 (s4 _ _ eD) ca cb _, ne_of_none ez n1⟩)⟩
      · exact ⟨by decide, eD, .inl ⟨(by show 2 ≤ 2; decide), D', c0, c1, a0', b0', a1', b1', sm, eD, h0, h1, nc, rfl⟩⟩
    rintro σ' H11 ⟨l, c0, c1, a0', b0', a1', b1', s11, el, h0, h1, nc, rfl⟩
    refine ⟨_, rfl, rfl, _, rfl, ?_⟩
    by_cases hf0 : fg = 0
    · exact iteDT (congrArg V.int hf0) (kk H11)
    · refine iteDF (fun z => hf0 (by injection z)) ?_
      have d0' := Int.emod_nonneg (d / 288) (by decide : (6 : Int) ≠ 0)
      have d1' := Int.emod_lt_of_pos (d / 288) (by decide : (0 : Int) < 6)
      refine ⟨_, rfl, _, rfl, _, rfl, _, _, rfl, rfl, dv (n := 288) (by decide) (by decide +kernel), _, _, rfl, rfl, (by decide : (0 : Int) < 6), _, _, rfl, rfl, l, c0, c1, _, a0', b0', a1', b1', n, x, _, rfl, el, h0, h1, nc, ⟨by show 1 ≤ 1 + d / 32 % 9; omega, by show 1 + d / 32 % 9 ≤ 24; omega, l0, l1, m0, m1⟩, n7.same (s9.trans (s10.trans s11)), hx', by omega, (by show 1 ≤ 1 + d / 288 % 6; omega), (by show 1 + d / 288 % 6 ≤ 6; omega), kk⟩
end
end TR
set_option Elab.async false
set_option linter.all false
set_option maxRecDepth 100000
set_option maxHeartbeats 4000000
namespace TR
open PySem L2 PySem.W PyProof.Rows
theorem all_mk {l : OpenLaw} {w : World} {K : Frag} {h : Heap} {mg : Str → Option Value} {fa CW W0 f_name_W0 W1 f_name_W1 W2 f_name_W2 W3 f_name_W3 W4 f_name_W4 W5 f_name_W5 W6 f_name_W6 W7 f_name_W7 CN fI_CN f_goes_up_W0 f_to_end_W0 f_goes_up_W1 f_to_end_W1 f_goes_up_W2 f_to_end_W2 f_goes_up_W3 f_to_end_W3 f_goes_up_W4 f_to_end_W4 f_goes_up_W5 f_to_end_W5 f_goes_up_W6 f_to_end_W6 f_goes_up_W7 f_to_end_W7 CC fI_CC aD_CC f_flags_CC f_lowest_CC f_way_CC f_clear_CC f_raised_CC RA fI_RA aD_RA f_first_RA f_at_RA RO fI_RO aD_RO f_first_RO f_at_RO CE C1 C2 C3 C4 CR fX aS f_isb f_between f_needc f_bounded f_wayof f_needs f_inord f_plain f_end f_nothing f_told f_needn f_neednums f_somek f_unlike f_lead f_productof f_tento f_partof f_wlead f_wroot f_settled f_finest f_nearest f_neighbour f_within f_beyond f_burst f_nines f_sigrest f_siglead f_nought f_void f_split f_rounded f_root f_power f_powend f_pown f_over f_hasq f_oddq f_times f_isnought f_endbyn f_product f_cell f_mixed f_together f_quo f_law : Addr} (X : K.In h) (G : h.Ns mainGlobals mg) (hfa : mg "law" = some (.ref fa))
    {od_isb an_isb : Option Addr} {sl_isb : Array (Option Value)} {oc_isb kV_isb dc_isb pm_isb cd_isb ct_isb : Value}
    (a_isb : nsIn K mainGlobals "is_between" = some (some (.ref f_isb))) (l_isb : K.lookup f_isb = some ⟨oc_isb, od_isb, .func (fnOf "is_between" "is_between" (defArgs sIsB) (defBody sIsB) (defScope sIsB) .none kV_isb dc_isb pm_isb an_isb cd_isb ct_isb), sl_isb⟩) (c_isb : codeIn K cd_isb "is_between" = true) (k_isb : keepIn K (.ref f_isb) = true)
    {od_between an_between : Option Addr} {sl_between : Array (Option Value)} {oc_between kV_between dc_between pm_between cd_between ct_between : Value}
    (a_between : nsIn K mainGlobals "need_between" = some (some (.ref f_between))) (l_between : K.lookup f_between = some ⟨oc_between, od_between, .func (fnOf "need_between" "need_between" (defArgs sBetween) (defBody sBetween) (defScope sBetween) .none kV_between dc_between pm_between an_between cd_between ct_between), sl_between⟩) (c_between : codeIn K cd_between "need_between" = true) (k_between : keepIn K (.ref f_between) = true)
    {od_needc an_needc : Option Addr} {sl_needc : Array (Option Value)} {oc_needc kV_needc dc_needc pm_needc cd_needc ct_needc : Value}
    (a_needc : nsIn K mainGlobals "need_count" = some (some (.ref f_needc))) (l_needc : K.lookup f_needc = some ⟨oc_needc, od_needc, .func (fnOf "need_count" "need_count" (defArgs sNeedC) (defBody sNeedC) (defScope sNeedC) .none kV_needc dc_needc pm_needc an_needc cd_needc ct_needc), sl_needc⟩) (c_needc : codeIn K cd_needc "need_count" = true) (k_needc : keepIn K (.ref f_needc) = true)
    {od_bounded an_bounded : Option Addr} {sl_bounded : Array (Option Value)} {oc_bounded kV_bounded dc_bounded pm_bounded cd_bounded ct_bounded : Value}
    (a_bounded : nsIn K mainGlobals "bounded" = some (some (.ref f_bounded))) (l_bounded : K.lookup f_bounded = some ⟨oc_bounded, od_bounded, .func (fnOf "bounded" "bounded" (defArgs sBounded) (defBody sBounded) (defScope sBounded) .none kV_bounded dc_bounded pm_bounded an_bounded cd_bounded ct_bounded), sl_bounded⟩) (c_bounded : codeIn K cd_bounded "bounded" = true) (k_bounded : keepIn K (.ref f_bounded) = true)
    {od_wayof an_wayof : Option Addr} {sl_wayof : Array (Option Value)} {oc_wayof kV_wayof dc_wayof pm_wayof cd_wayof ct_wayof : Value}
    (a_wayof : nsIn K mainGlobals "way_of" = some (some (.ref f_wayof))) (l_wayof : K.lookup f_wayof = some ⟨oc_wayof, od_wayof, .func (fnOf "way_of" "way_of" (defArgs sWayOf) (defBody sWayOf) (defScope sWayOf) .none kV_wayof dc_wayof pm_wayof an_wayof cd_wayof ct_wayof), sl_wayof⟩) (c_wayof : codeIn K cd_wayof "way_of" = true) (k_wayof : keepIn K (.ref f_wayof) = true)
    {od_needs an_needs : Option Addr} {sl_needs : Array (Option Value)} {oc_needs kV_needs dc_needs pm_needs cd_needs ct_needs : Value}
    (a_needs : nsIn K mainGlobals "need_signals" = some (some (.ref f_needs))) (l_needs : K.lookup f_needs = some ⟨oc_needs, od_needs, .func (fnOf "need_signals" "need_signals" (defArgs sNeedS) (defBody sNeedS) (defScope sNeedS) .none kV_needs dc_needs pm_needs an_needs cd_needs ct_needs), sl_needs⟩) (c_needs : codeIn K cd_needs "need_signals" = true) (k_needs : keepIn K (.ref f_needs) = true)
    {od_inord an_inord : Option Addr} {sl_inord : Array (Option Value)} {oc_inord kV_inord dc_inord pm_inord cd_inord ct_inord : Value}
    (a_inord : nsIn K mainGlobals "in_order" = some (some (.ref f_inord))) (l_inord : K.lookup f_inord = some ⟨oc_inord, od_inord, .func (fnOf "in_order" "in_order" (defArgs sInOrd) (defBody sInOrd) (defScope sInOrd) .none kV_inord dc_inord pm_inord an_inord cd_inord ct_inord), sl_inord⟩) (c_inord : codeIn K cd_inord "in_order" = true) (k_inord : keepIn K (.ref f_inord) = true)
    {od_plain an_plain : Option Addr} {sl_plain : Array (Option Value)} {oc_plain kV_plain dc_plain pm_plain cd_plain ct_plain : Value}
    (a_plain : nsIn K mainGlobals "plain" = some (some (.ref f_plain))) (l_plain : K.lookup f_plain = some ⟨oc_plain, od_plain, .func (fnOf "plain" "plain" (defArgs sPlain) (defBody sPlain) (defScope sPlain) .none kV_plain dc_plain pm_plain an_plain cd_plain ct_plain), sl_plain⟩) (c_plain : codeIn K cd_plain "plain" = true) (k_plain : keepIn K (.ref f_plain) = true)
    {od_end an_end : Option Addr} {sl_end : Array (Option Value)} {oc_end kV_end dc_end pm_end cd_end ct_end : Value}
    (a_end : nsIn K mainGlobals "end" = some (some (.ref f_end))) (l_end : K.lookup f_end = some ⟨oc_end, od_end, .func (fnOf "end" "end" (defArgs sEnd) (defBody sEnd) (defScope sEnd) .none kV_end dc_end pm_end an_end cd_end ct_end), sl_end⟩) (c_end : codeIn K cd_end "end" = true) (k_end : keepIn K (.ref f_end) = true)
    {od_nothing an_nothing : Option Addr} {sl_nothing : Array (Option Value)} {oc_nothing kV_nothing dc_nothing pm_nothing cd_nothing ct_nothing : Value}
    (a_nothing : nsIn K mainGlobals "nothing" = some (some (.ref f_nothing))) (l_nothing : K.lookup f_nothing = some ⟨oc_nothing, od_nothing, .func (fnOf "nothing" "nothing" (defArgs sNothing) (defBody sNothing) (defScope sNothing) .none kV_nothing dc_nothing pm_nothing an_nothing cd_nothing ct_nothing), sl_nothing⟩) (c_nothing : codeIn K cd_nothing "nothing" = true) (k_nothing : keepIn K (.ref f_nothing) = true)
    {od_told an_told : Option Addr} {sl_told : Array (Option Value)} {oc_told kV_told dc_told pm_told cd_told ct_told : Value}
    (a_told : nsIn K mainGlobals "told" = some (some (.ref f_told))) (l_told : K.lookup f_told = some ⟨oc_told, od_told, .func (fnOf "told" "told" (defArgs sTold) (defBody sTold) (defScope sTold) .none kV_told dc_told pm_told an_told cd_told ct_told), sl_told⟩) (c_told : codeIn K cd_told "told" = true) (k_told : keepIn K (.ref f_told) = true)
    {od_needn an_needn : Option Addr} {sl_needn : Array (Option Value)} {oc_needn kV_needn dc_needn pm_needn cd_needn ct_needn : Value}
    (a_needn : nsIn K mainGlobals "need_number" = some (some (.ref f_needn))) (l_needn : K.lookup f_needn = some ⟨oc_needn, od_needn, .func (fnOf "need_number" "need_number" (defArgs sNeedN) (defBody sNeedN) (defScope sNeedN) .none kV_needn dc_needn pm_needn an_needn cd_needn ct_needn), sl_needn⟩) (c_needn : codeIn K cd_needn "need_number" = true) (k_needn : keepIn K (.ref f_needn) = true)
    {od_neednums an_neednums : Option Addr} {sl_neednums : Array (Option Value)} {oc_neednums kV_neednums dc_neednums pm_neednums cd_neednums ct_neednums : Value}
    (a_neednums : nsIn K mainGlobals "need_numbers" = some (some (.ref f_neednums))) (l_neednums : K.lookup f_neednums = some ⟨oc_neednums, od_neednums, .func (fnOf "need_numbers" "need_numbers" (defArgs sNeedNs) (defBody sNeedNs) (defScope sNeedNs) .none kV_neednums dc_neednums pm_neednums an_neednums cd_neednums ct_neednums), sl_neednums⟩) (c_neednums : codeIn K cd_neednums "need_numbers" = true) (k_neednums : keepIn K (.ref f_neednums) = true)
    {od_somek an_somek : Option Addr} {sl_somek : Array (Option Value)} {oc_somek kV_somek dc_somek pm_somek cd_somek ct_somek : Value}
    (a_somek : nsIn K mainGlobals "some_of_kind" = some (some (.ref f_somek))) (l_somek : K.lookup f_somek = some ⟨oc_somek, od_somek, .func (fnOf "some_of_kind" "some_of_kind" (defArgs sSomeK) (defBody sSomeK) (defScope sSomeK) .none kV_somek dc_somek pm_somek an_somek cd_somek ct_somek), sl_somek⟩) (c_somek : codeIn K cd_somek "some_of_kind" = true) (k_somek : keepIn K (.ref f_somek) = true)
    {od_unlike an_unlike : Option Addr} {sl_unlike : Array (Option Value)} {oc_unlike kV_unlike dc_unlike pm_unlike cd_unlike ct_unlike : Value}
    (a_unlike : nsIn K mainGlobals "unlike_sign" = some (some (.ref f_unlike))) (l_unlike : K.lookup f_unlike = some ⟨oc_unlike, od_unlike, .func (fnOf "unlike_sign" "unlike_sign" (defArgs sUnlike) (defBody sUnlike) (defScope sUnlike) .none kV_unlike dc_unlike pm_unlike an_unlike cd_unlike ct_unlike), sl_unlike⟩) (c_unlike : codeIn K cd_unlike "unlike_sign" = true) (k_unlike : keepIn K (.ref f_unlike) = true)
    {od_lead an_lead : Option Addr} {sl_lead : Array (Option Value)} {oc_lead kV_lead dc_lead pm_lead cd_lead ct_lead : Value}
    (a_lead : nsIn K mainGlobals "lead_of" = some (some (.ref f_lead))) (l_lead : K.lookup f_lead = some ⟨oc_lead, od_lead, .func (fnOf "lead_of" "lead_of" (defArgs sLead) (defBody sLead) (defScope sLead) .none kV_lead dc_lead pm_lead an_lead cd_lead ct_lead), sl_lead⟩) (c_lead : codeIn K cd_lead "lead_of" = true) (k_lead : keepIn K (.ref f_lead) = true)
    {od_productof an_productof : Option Addr} {sl_productof : Array (Option Value)} {oc_productof kV_productof dc_productof pm_productof cd_productof ct_productof : Value}
    (a_productof : nsIn K mainGlobals "product_of" = some (some (.ref f_productof))) (l_productof : K.lookup f_productof = some ⟨oc_productof, od_productof, .func (fnOf "product_of" "product_of" (defArgs sProductOf) (defBody sProductOf) (defScope sProductOf) .none kV_productof dc_productof pm_productof an_productof cd_productof ct_productof), sl_productof⟩) (c_productof : codeIn K cd_productof "product_of" = true) (k_productof : keepIn K (.ref f_productof) = true)
    {od_tento an_tento : Option Addr} {sl_tento : Array (Option Value)} {oc_tento kV_tento dc_tento pm_tento cd_tento ct_tento : Value}
    (a_tento : nsIn K mainGlobals "ten_to" = some (some (.ref f_tento))) (l_tento : K.lookup f_tento = some ⟨oc_tento, od_tento, .func (fnOf "ten_to" "ten_to" (defArgs sTenTo) (defBody sTenTo) (defScope sTenTo) .none kV_tento dc_tento pm_tento an_tento cd_tento ct_tento), sl_tento⟩) (c_tento : codeIn K cd_tento "ten_to" = true) (k_tento : keepIn K (.ref f_tento) = true)
    {od_partof an_partof : Option Addr} {sl_partof : Array (Option Value)} {oc_partof kV_partof dc_partof pm_partof cd_partof ct_partof : Value}
    (a_partof : nsIn K mainGlobals "part_of" = some (some (.ref f_partof))) (l_partof : K.lookup f_partof = some ⟨oc_partof, od_partof, .func (fnOf "part_of" "part_of" (defArgs sPartOf) (defBody sPartOf) (defScope sPartOf) .none kV_partof dc_partof pm_partof an_partof cd_partof ct_partof), sl_partof⟩) (c_partof : codeIn K cd_partof "part_of" = true) (k_partof : keepIn K (.ref f_partof) = true)
    {od_wlead an_wlead : Option Addr} {sl_wlead : Array (Option Value)} {oc_wlead kV_wlead dc_wlead pm_wlead cd_wlead ct_wlead : Value}
    (a_wlead : nsIn K mainGlobals "whole_lead" = some (some (.ref f_wlead))) (l_wlead : K.lookup f_wlead = some ⟨oc_wlead, od_wlead, .func (fnOf "whole_lead" "whole_lead" (defArgs sWLead) (defBody sWLead) (defScope sWLead) .none kV_wlead dc_wlead pm_wlead an_wlead cd_wlead ct_wlead), sl_wlead⟩) (c_wlead : codeIn K cd_wlead "whole_lead" = true) (k_wlead : keepIn K (.ref f_wlead) = true)
    {od_wroot an_wroot : Option Addr} {sl_wroot : Array (Option Value)} {oc_wroot kV_wroot dc_wroot pm_wroot cd_wroot ct_wroot : Value}
    (a_wroot : nsIn K mainGlobals "whole_root" = some (some (.ref f_wroot))) (l_wroot : K.lookup f_wroot = some ⟨oc_wroot, od_wroot, .func (fnOf "whole_root" "whole_root" (defArgs sWRoot) (defBody sWRoot) (defScope sWRoot) .none kV_wroot dc_wroot pm_wroot an_wroot cd_wroot ct_wroot), sl_wroot⟩) (c_wroot : codeIn K cd_wroot "whole_root" = true) (k_wroot : keepIn K (.ref f_wroot) = true)
    {od_settled an_settled : Option Addr} {sl_settled : Array (Option Value)} {oc_settled kV_settled dc_settled pm_settled cd_settled ct_settled : Value}
    (a_settled : nsIn K mainGlobals "settled" = some (some (.ref f_settled))) (l_settled : K.lookup f_settled = some ⟨oc_settled, od_settled, .func (fnOf "settled" "settled" (defArgs sSettled) (defBody sSettled) (defScope sSettled) .none kV_settled dc_settled pm_settled an_settled cd_settled ct_settled), sl_settled⟩) (c_settled : codeIn K cd_settled "settled" = true) (k_settled : keepIn K (.ref f_settled) = true)
    {od_finest an_finest : Option Addr} {sl_finest : Array (Option Value)} {oc_finest kV_finest dc_finest pm_finest cd_finest ct_finest : Value}
    (a_finest : nsIn K mainGlobals "finest_power" = some (some (.ref f_finest))) (l_finest : K.lookup f_finest = some ⟨oc_finest, od_finest, .func (fnOf "finest_power" "finest_power" (defArgs sFinest) (defBody sFinest) (defScope sFinest) .none kV_finest dc_finest pm_finest an_finest cd_finest ct_finest), sl_finest⟩) (c_finest : codeIn K cd_finest "finest_power" = true) (k_finest : keepIn K (.ref f_finest) = true)
    {od_nearest an_nearest : Option Addr} {sl_nearest : Array (Option Value)} {oc_nearest kV_nearest dc_nearest pm_nearest cd_nearest ct_nearest : Value}
    (a_nearest : nsIn K mainGlobals "nearest_to" = some (some (.ref f_nearest))) (l_nearest : K.lookup f_nearest = some ⟨oc_nearest, od_nearest, .func (fnOf "nearest_to" "nearest_to" (defArgs sNearest) (defBody sNearest) (defScope sNearest) .none kV_nearest dc_nearest pm_nearest an_nearest cd_nearest ct_nearest), sl_nearest⟩) (c_nearest : codeIn K cd_nearest "nearest_to" = true) (k_nearest : keepIn K (.ref f_nearest) = true)
    {od_neighbour an_neighbour : Option Addr} {sl_neighbour : Array (Option Value)} {oc_neighbour kV_neighbour dc_neighbour pm_neighbour cd_neighbour ct_neighbour : Value}
    (a_neighbour : nsIn K mainGlobals "neighbour" = some (some (.ref f_neighbour))) (l_neighbour : K.lookup f_neighbour = some ⟨oc_neighbour, od_neighbour, .func (fnOf "neighbour" "neighbour" (defArgs sNeighbour) (defBody sNeighbour) (defScope sNeighbour) .none kV_neighbour dc_neighbour pm_neighbour an_neighbour cd_neighbour ct_neighbour), sl_neighbour⟩) (c_neighbour : codeIn K cd_neighbour "neighbour" = true) (k_neighbour : keepIn K (.ref f_neighbour) = true)
    {od_within an_within : Option Addr} {sl_within : Array (Option Value)} {oc_within kV_within dc_within pm_within cd_within ct_within : Value}
    (a_within : nsIn K mainGlobals "within_room" = some (some (.ref f_within))) (l_within : K.lookup f_within = some ⟨oc_within, od_within, .func (fnOf "within_room" "within_room" (defArgs sWithin) (defBody sWithin) (defScope sWithin) .none kV_within dc_within pm_within an_within cd_within ct_within), sl_within⟩) (c_within : codeIn K cd_within "within_room" = true) (k_within : keepIn K (.ref f_within) = true)
    {od_beyond an_beyond : Option Addr} {sl_beyond : Array (Option Value)} {oc_beyond kV_beyond dc_beyond pm_beyond cd_beyond ct_beyond : Value}
    (a_beyond : nsIn K mainGlobals "is_beyond" = some (some (.ref f_beyond))) (l_beyond : K.lookup f_beyond = some ⟨oc_beyond, od_beyond, .func (fnOf "is_beyond" "is_beyond" (defArgs sBeyond) (defBody sBeyond) (defScope sBeyond) .none kV_beyond dc_beyond pm_beyond an_beyond cd_beyond ct_beyond), sl_beyond⟩) (c_beyond : codeIn K cd_beyond "is_beyond" = true) (k_beyond : keepIn K (.ref f_beyond) = true)
    {od_burst an_burst : Option Addr} {sl_burst : Array (Option Value)} {oc_burst kV_burst dc_burst pm_burst cd_burst ct_burst : Value}
    (a_burst : nsIn K mainGlobals "burst" = some (some (.ref f_burst))) (l_burst : K.lookup f_burst = some ⟨oc_burst, od_burst, .func (fnOf "burst" "burst" (defArgs sBurst) (defBody sBurst) (defScope sBurst) .none kV_burst dc_burst pm_burst an_burst cd_burst ct_burst), sl_burst⟩) (c_burst : codeIn K cd_burst "burst" = true) (k_burst : keepIn K (.ref f_burst) = true)
    {od_nines an_nines : Option Addr} {sl_nines : Array (Option Value)} {oc_nines kV_nines dc_nines pm_nines cd_nines ct_nines : Value}
    (a_nines : nsIn K mainGlobals "nines" = some (some (.ref f_nines))) (l_nines : K.lookup f_nines = some ⟨oc_nines, od_nines, .func (fnOf "nines" "nines" (defArgs sNines) (defBody sNines) (defScope sNines) .none kV_nines dc_nines pm_nines an_nines cd_nines ct_nines), sl_nines⟩) (c_nines : codeIn K cd_nines "nines" = true) (k_nines : keepIn K (.ref f_nines) = true)
    {od_sigrest an_sigrest : Option Addr} {sl_sigrest : Array (Option Value)} {oc_sigrest kV_sigrest dc_sigrest pm_sigrest cd_sigrest ct_sigrest : Value}
    (a_sigrest : nsIn K mainGlobals "signals_of_rest" = some (some (.ref f_sigrest))) (l_sigrest : K.lookup f_sigrest = some ⟨oc_sigrest, od_sigrest, .func (fnOf "signals_of_rest" "signals_of_rest" (defArgs sSigRest) (defBody sSigRest) (defScope sSigRest) .none kV_sigrest dc_sigrest pm_sigrest an_sigrest cd_sigrest ct_sigrest), sl_sigrest⟩) (c_sigrest : codeIn K cd_sigrest "signals_of_rest" = true) (k_sigrest : keepIn K (.ref f_sigrest) = true)
    {od_siglead an_siglead : Option Addr} {sl_siglead : Array (Option Value)} {oc_siglead kV_siglead dc_siglead pm_siglead cd_siglead ct_siglead : Value}
    (a_siglead : nsIn K mainGlobals "signals_of_lead" = some (some (.ref f_siglead))) (l_siglead : K.lookup f_siglead = some ⟨oc_siglead, od_siglead, .func (fnOf "signals_of_lead" "signals_of_lead" (defArgs sSigLead) (defBody sSigLead) (defScope sSigLead) .none kV_siglead dc_siglead pm_siglead an_siglead cd_siglead ct_siglead), sl_siglead⟩) (c_siglead : codeIn K cd_siglead "signals_of_lead" = true) (k_siglead : keepIn K (.ref f_siglead) = true)
    {od_nought an_nought : Option Addr} {sl_nought : Array (Option Value)} {oc_nought kV_nought dc_nought pm_nought cd_nought ct_nought : Value}
    (a_nought : nsIn K mainGlobals "nought" = some (some (.ref f_nought))) (l_nought : K.lookup f_nought = some ⟨oc_nought, od_nought, .func (fnOf "nought" "nought" (defArgs sNought) (defBody sNought) (defScope sNought) .none kV_nought dc_nought pm_nought an_nought cd_nought ct_nought), sl_nought⟩) (c_nought : codeIn K cd_nought "nought" = true) (k_nought : keepIn K (.ref f_nought) = true)
    {od_void an_void : Option Addr} {sl_void : Array (Option Value)} {oc_void kV_void dc_void pm_void cd_void ct_void : Value}
    (a_void : nsIn K mainGlobals "void" = some (some (.ref f_void))) (l_void : K.lookup f_void = some ⟨oc_void, od_void, .func (fnOf "void" "void" (defArgs sVoid) (defBody sVoid) (defScope sVoid) .none kV_void dc_void pm_void an_void cd_void ct_void), sl_void⟩) (c_void : codeIn K cd_void "void" = true) (k_void : keepIn K (.ref f_void) = true)
    {od_split an_split : Option Addr} {sl_split : Array (Option Value)} {oc_split kV_split dc_split pm_split cd_split ct_split : Value}
    (a_split : nsIn K mainGlobals "split_to_end" = some (some (.ref f_split))) (l_split : K.lookup f_split = some ⟨oc_split, od_split, .func (fnOf "split_to_end" "split_to_end" (defArgs sSplit) (defBody sSplit) (defScope sSplit) .none kV_split dc_split pm_split an_split cd_split ct_split), sl_split⟩) (c_split : codeIn K cd_split "split_to_end" = true) (k_split : keepIn K (.ref f_split) = true)
    {od_rounded an_rounded : Option Addr} {sl_rounded : Array (Option Value)} {oc_rounded kV_rounded dc_rounded pm_rounded cd_rounded ct_rounded : Value}
    (a_rounded : nsIn K mainGlobals "rounded" = some (some (.ref f_rounded))) (l_rounded : K.lookup f_rounded = some ⟨oc_rounded, od_rounded, .func (fnOf "rounded" "rounded" (defArgs sRounded) (defBody sRounded) (defScope sRounded) .none kV_rounded dc_rounded pm_rounded an_rounded cd_rounded ct_rounded), sl_rounded⟩) (c_rounded : codeIn K cd_rounded "rounded" = true) (k_rounded : keepIn K (.ref f_rounded) = true)
    {od_root an_root : Option Addr} {sl_root : Array (Option Value)} {oc_root kV_root dc_root pm_root cd_root ct_root : Value}
    (a_root : nsIn K mainGlobals "root" = some (some (.ref f_root))) (l_root : K.lookup f_root = some ⟨oc_root, od_root, .func (fnOf "root" "root" (defArgs sRoot) (defBody sRoot) (defScope sRoot) .none kV_root dc_root pm_root an_root cd_root ct_root), sl_root⟩) (c_root : codeIn K cd_root "root" = true) (k_root : keepIn K (.ref f_root) = true)
    {od_power an_power : Option Addr} {sl_power : Array (Option Value)} {oc_power kV_power dc_power pm_power cd_power ct_power : Value}
    (a_power : nsIn K mainGlobals "to_power" = some (some (.ref f_power))) (l_power : K.lookup f_power = some ⟨oc_power, od_power, .func (fnOf "to_power" "to_power" (defArgs sPower) (defBody sPower) (defScope sPower) .none kV_power dc_power pm_power an_power cd_power ct_power), sl_power⟩) (c_power : codeIn K cd_power "to_power" = true) (k_power : keepIn K (.ref f_power) = true)
    {od_powend an_powend : Option Addr} {sl_powend : Array (Option Value)} {oc_powend kV_powend dc_powend pm_powend cd_powend ct_powend : Value}
    (a_powend : nsIn K mainGlobals "power_of_end" = some (some (.ref f_powend))) (l_powend : K.lookup f_powend = some ⟨oc_powend, od_powend, .func (fnOf "power_of_end" "power_of_end" (defArgs sPowEnd) (defBody sPowEnd) (defScope sPowEnd) .none kV_powend dc_powend pm_powend an_powend cd_powend ct_powend), sl_powend⟩) (c_powend : codeIn K cd_powend "power_of_end" = true) (k_powend : keepIn K (.ref f_powend) = true)
    {od_pown an_pown : Option Addr} {sl_pown : Array (Option Value)} {oc_pown kV_pown dc_pown pm_pown cd_pown ct_pown : Value}
    (a_pown : nsIn K mainGlobals "power_of_nought" = some (some (.ref f_pown))) (l_pown : K.lookup f_pown = some ⟨oc_pown, od_pown, .func (fnOf "power_of_nought" "power_of_nought" (defArgs sPowNought) (defBody sPowNought) (defScope sPowNought) .none kV_pown dc_pown pm_pown an_pown cd_pown ct_pown), sl_pown⟩) (c_pown : codeIn K cd_pown "power_of_nought" = true) (k_pown : keepIn K (.ref f_pown) = true)
    {od_over an_over : Option Addr} {sl_over : Array (Option Value)} {oc_over kV_over dc_over pm_over cd_over ct_over : Value}
    (a_over : nsIn K mainGlobals "over" = some (some (.ref f_over))) (l_over : K.lookup f_over = some ⟨oc_over, od_over, .func (fnOf "over" "over" (defArgs sOver) (defBody sOver) (defScope sOver) .none kV_over dc_over pm_over an_over cd_over ct_over), sl_over⟩) (c_over : codeIn K cd_over "over" = true) (k_over : keepIn K (.ref f_over) = true)
    {od_hasq an_hasq : Option Addr} {sl_hasq : Array (Option Value)} {oc_hasq kV_hasq dc_hasq pm_hasq cd_hasq ct_hasq : Value}
    (a_hasq : nsIn K mainGlobals "has_plain_quotient" = some (some (.ref f_hasq))) (l_hasq : K.lookup f_hasq = some ⟨oc_hasq, od_hasq, .func (fnOf "has_plain_quotient" "has_plain_quotient" (defArgs sHasQ) (defBody sHasQ) (defScope sHasQ) .none kV_hasq dc_hasq pm_hasq an_hasq cd_hasq ct_hasq), sl_hasq⟩) (c_hasq : codeIn K cd_hasq "has_plain_quotient" = true) (k_hasq : keepIn K (.ref f_hasq) = true)
    {od_oddq an_oddq : Option Addr} {sl_oddq : Array (Option Value)} {oc_oddq kV_oddq dc_oddq pm_oddq cd_oddq ct_oddq : Value}
    (a_oddq : nsIn K mainGlobals "odd_quotient" = some (some (.ref f_oddq))) (l_oddq : K.lookup f_oddq = some ⟨oc_oddq, od_oddq, .func (fnOf "odd_quotient" "odd_quotient" (defArgs sOddQ) (defBody sOddQ) (defScope sOddQ) .none kV_oddq dc_oddq pm_oddq an_oddq cd_oddq ct_oddq), sl_oddq⟩) (c_oddq : codeIn K cd_oddq "odd_quotient" = true) (k_oddq : keepIn K (.ref f_oddq) = true)
    {od_times an_times : Option Addr} {sl_times : Array (Option Value)} {oc_times kV_times dc_times pm_times cd_times ct_times : Value}
    (a_times : nsIn K mainGlobals "times" = some (some (.ref f_times))) (l_times : K.lookup f_times = some ⟨oc_times, od_times, .func (fnOf "times" "times" (defArgs sTimes) (defBody sTimes) (defScope sTimes) .none kV_times dc_times pm_times an_times cd_times ct_times), sl_times⟩) (c_times : codeIn K cd_times "times" = true) (k_times : keepIn K (.ref f_times) = true)
    {od_isnought an_isnought : Option Addr} {sl_isnought : Array (Option Value)} {oc_isnought kV_isnought dc_isnought pm_isnought cd_isnought ct_isnought : Value}
    (a_isnought : nsIn K mainGlobals "is_nought" = some (some (.ref f_isnought))) (l_isnought : K.lookup f_isnought = some ⟨oc_isnought, od_isnought, .func (fnOf "is_nought" "is_nought" (defArgs sIsNought) (defBody sIsNought) (defScope sIsNought) .none kV_isnought dc_isnought pm_isnought an_isnought cd_isnought ct_isnought), sl_isnought⟩) (c_isnought : codeIn K cd_isnought "is_nought" = true) (k_isnought : keepIn K (.ref f_isnought) = true)
    {od_endbyn an_endbyn : Option Addr} {sl_endbyn : Array (Option Value)} {oc_endbyn kV_endbyn dc_endbyn pm_endbyn cd_endbyn ct_endbyn : Value}
    (a_endbyn : nsIn K mainGlobals "is_end_by_nought" = some (some (.ref f_endbyn))) (l_endbyn : K.lookup f_endbyn = some ⟨oc_endbyn, od_endbyn, .func (fnOf "is_end_by_nought" "is_end_by_nought" (defArgs sEndByN) (defBody sEndByN) (defScope sEndByN) .none kV_endbyn dc_endbyn pm_endbyn an_endbyn cd_endbyn ct_endbyn), sl_endbyn⟩) (c_endbyn : codeIn K cd_endbyn "is_end_by_nought" = true) (k_endbyn : keepIn K (.ref f_endbyn) = true)
    {od_product an_product : Option Addr} {sl_product : Array (Option Value)} {oc_product kV_product dc_product pm_product cd_product ct_product : Value}
    (a_product : nsIn K mainGlobals "product" = some (some (.ref f_product))) (l_product : K.lookup f_product = some ⟨oc_product, od_product, .func (fnOf "product" "product" (defArgs sProduct) (defBody sProduct) (defScope sProduct) .none kV_product dc_product pm_product an_product cd_product ct_product), sl_product⟩) (c_product : codeIn K cd_product "product" = true) (k_product : keepIn K (.ref f_product) = true)
    {od_cell an_cell : Option Addr} {sl_cell : Array (Option Value)} {oc_cell kV_cell dc_cell pm_cell cd_cell ct_cell : Value}
    (a_cell : nsIn K mainGlobals "_law_cell_at" = some (some (.ref f_cell))) (l_cell : K.lookup f_cell = some ⟨oc_cell, od_cell, .func (fnOf "_law_cell_at" "_law_cell_at" (defArgs sCell) (defBody sCell) (defScope sCell) .none kV_cell dc_cell pm_cell an_cell cd_cell ct_cell), sl_cell⟩) (c_cell : codeIn K cd_cell "_law_cell_at" = true) (k_cell : keepIn K (.ref f_cell) = true)
    {od_mixed an_mixed : Option Addr} {sl_mixed : Array (Option Value)} {oc_mixed kV_mixed dc_mixed pm_mixed cd_mixed ct_mixed : Value}
    (a_mixed : nsIn K mainGlobals "_law_mixed" = some (some (.ref f_mixed))) (l_mixed : K.lookup f_mixed = some ⟨oc_mixed, od_mixed, .func (fnOf "_law_mixed" "_law_mixed" (defArgs sMixed) (defBody sMixed) (defScope sMixed) .none kV_mixed dc_mixed pm_mixed an_mixed cd_mixed ct_mixed), sl_mixed⟩) (c_mixed : codeIn K cd_mixed "_law_mixed" = true) (k_mixed : keepIn K (.ref f_mixed) = true)
    {od_together an_together : Option Addr} {sl_together : Array (Option Value)} {oc_together kV_together dc_together pm_together cd_together ct_together : Value}
    (a_together : nsIn K mainGlobals "_law_together" = some (some (.ref f_together))) (l_together : K.lookup f_together = some ⟨oc_together, od_together, .func (fnOf "_law_together" "_law_together" (defArgs sTogether) (defBody sTogether) (defScope sTogether) .none kV_together dc_together pm_together an_together cd_together ct_together), sl_together⟩) (c_together : codeIn K cd_together "_law_together" = true) (k_together : keepIn K (.ref f_together) = true)
    {od_quo an_quo : Option Addr} {sl_quo : Array (Option Value)} {oc_quo kV_quo dc_quo pm_quo cd_quo ct_quo : Value}
    (a_quo : nsIn K mainGlobals "_law_quotients" = some (some (.ref f_quo))) (l_quo : K.lookup f_quo = some ⟨oc_quo, od_quo, .func (fnOf "_law_quotients" "_law_quotients" (defArgs sQuo) (defBody sQuo) (defScope sQuo) .none kV_quo dc_quo pm_quo an_quo cd_quo ct_quo), sl_quo⟩) (c_quo : codeIn K cd_quo "_law_quotients" = true) (k_quo : keepIn K (.ref f_quo) = true)
    {od_law an_law : Option Addr} {sl_law : Array (Option Value)} {oc_law kV_law dc_law pm_law cd_law ct_law : Value}
    (a_law : nsIn K mainGlobals "law" = some (some (.ref f_law))) (l_law : K.lookup f_law = some ⟨oc_law, od_law, .func (fnOf "law" "law" (defArgs sLaw) (defBody sLaw) (defScope sLaw) .none kV_law dc_law pm_law an_law cd_law ct_law), sl_law⟩) (c_law : codeIn K cd_law "law" = true) (k_law : keepIn K (.ref f_law) = true)
    (z_isinstance : nsIn K mainGlobals "isinstance" = some none)
    (z_int : nsIn K mainGlobals "int" = some none)
    (z_bool : nsIn K mainGlobals "bool" = some none)
    (z_str : nsIn K mainGlobals "str" = some none)
    (z_list : nsIn K mainGlobals "list" = some none)
    (z_tuple : nsIn K mainGlobals "tuple" = some none)
    (z_dict : nsIn K mainGlobals "dict" = some none)
    (z_len : nsIn K mainGlobals "len" = some none)
    (z_range : nsIn K mainGlobals "range" = some none)
    (z_min : nsIn K mainGlobals "min" = some none)
    (z_max : nsIn K mainGlobals "max" = some none)
    (z_abs : nsIn K mainGlobals "abs" = some none)
    (z_any : nsIn K mainGlobals "any" = some none)
    (z_all : nsIn K mainGlobals "all" = some none)
    (z_sum : nsIn K mainGlobals "sum" = some none)
    (z_repr : nsIn K mainGlobals "repr" = some none)
    (z_enumerate : nsIn K mainGlobals "enumerate" = some none)
    (z_reversed : nsIn K mainGlobals "reversed" = some none)
    (z_zip : nsIn K mainGlobals "zip" = some none)
    (z_sorted : nsIn K mainGlobals "sorted" = some none)
    (z_divmod : nsIn K mainGlobals "divmod" = some none)
    (z_set : nsIn K mainGlobals "set" = some none)
    (z_ValueError : nsIn K mainGlobals "ValueError" = some none)
    (kt_int_int : kitOne K (.type "int") (.type "int") = some true)
    (kt_int_bool : kitOne K (.type "int") (.type "bool") = some false)
    (kt_int_str : kitOne K (.type "int") (.type "str") = some false)
    (kt_int_list : kitOne K (.type "int") (.type "list") = some false)
    (kt_int_tuple : kitOne K (.type "int") (.type "tuple") = some false)
    (kt_int_dict : kitOne K (.type "int") (.type "dict") = some false)
    (kt_bool_int : kitOne K (.type "bool") (.type "int") = some true)
    (kt_bool_bool : kitOne K (.type "bool") (.type "bool") = some true)
    (kt_bool_str : kitOne K (.type "bool") (.type "str") = some false)
    (kt_bool_list : kitOne K (.type "bool") (.type "list") = some false)
    (kt_bool_tuple : kitOne K (.type "bool") (.type "tuple") = some false)
    (kt_bool_dict : kitOne K (.type "bool") (.type "dict") = some false)
    (kt_str_int : kitOne K (.type "str") (.type "int") = some false)
    (kt_str_bool : kitOne K (.type "str") (.type "bool") = some false)
    (kt_str_str : kitOne K (.type "str") (.type "str") = some true)
    (kt_str_list : kitOne K (.type "str") (.type "list") = some false)
    (kt_str_tuple : kitOne K (.type "str") (.type "tuple") = some false)
    (kt_str_dict : kitOne K (.type "str") (.type "dict") = some false)
    (kt_list_int : kitOne K (.type "list") (.type "int") = some false)
    (kt_list_bool : kitOne K (.type "list") (.type "bool") = some false)
    (kt_list_str : kitOne K (.type "list") (.type "str") = some false)
    (kt_list_list : kitOne K (.type "list") (.type "list") = some true)
    (kt_list_tuple : kitOne K (.type "list") (.type "tuple") = some false)
    (kt_list_dict : kitOne K (.type "list") (.type "dict") = some false)
    (kt_tuple_int : kitOne K (.type "tuple") (.type "int") = some false)
    (kt_tuple_bool : kitOne K (.type "tuple") (.type "bool") = some false)
    (kt_tuple_str : kitOne K (.type "tuple") (.type "str") = some false)
    (kt_tuple_list : kitOne K (.type "tuple") (.type "list") = some false)
    (kt_tuple_tuple : kitOne K (.type "tuple") (.type "tuple") = some true)
    (kt_tuple_dict : kitOne K (.type "tuple") (.type "dict") = some false)
    (kt_dict_int : kitOne K (.type "dict") (.type "int") = some false)
    (kt_dict_bool : kitOne K (.type "dict") (.type "bool") = some false)
    (kt_dict_str : kitOne K (.type "dict") (.type "str") = some false)
    (kt_dict_list : kitOne K (.type "dict") (.type "list") = some false)
    (kt_dict_tuple : kitOne K (.type "dict") (.type "tuple") = some false)
    (kt_dict_dict : kitOne K (.type "dict") (.type "dict") = some true)
    (kt_NoneType_int : kitOne K (.type "NoneType") (.type "int") = some false)
    (kt_NoneType_bool : kitOne K (.type "NoneType") (.type "bool") = some false)
    (kt_NoneType_str : kitOne K (.type "NoneType") (.type "str") = some false)
    (kt_NoneType_list : kitOne K (.type "NoneType") (.type "list") = some false)
    (kt_NoneType_tuple : kitOne K (.type "NoneType") (.type "tuple") = some false)
    (kt_NoneType_dict : kitOne K (.type "NoneType") (.type "dict") = some false)
    (sn : specialIn K (.builtin "object.__class__") "__get__" = some (some (.builtin "getset_descriptor.__get__")))
    (tk : takesIn K (.builtin "object.__class__") = some true)
    (a_CW : nsIn K mainGlobals "Way" = some (some (.ref CW)))
    (a_W0 : nsIn K mainGlobals "Down" = some (some (.ref W0)))
    (pg_W0 : plainGet K W0 Str.empty = true)
    (hd_W0 : hasDictIn K W0 = true)
    (po_W0 : plainOver K W0 = true)
    (sa_W0 : findIn K (.ref W0) "__setattr__" = some (some (.builtin "object.__setattr__")))
    (mk_W0 : makesIn K W0 = true)
    (kc_W0 : keepIn K (.ref W0) = true)
    (ca_W0 : findIn K (.ref W0) "__class__" = some (some (.builtin "object.__class__")))
    (ob_W0 : mroIn K W0 (.type "object") = some true)
    (aI_W0 : findIn K (.ref W0) "__init__" = some (some (.builtin "object.__init__")))
    (up_W0 : kitOne K (.ref W0) (.ref CW) = some true)
    (m_name_W0 : findIn K (.ref W0) "name" = some (some (.ref f_name_W0)))
    (i_name_W0 : isFn K (.ref f_name_W0) = true)
    {od_name_W0 an_name_W0 : Option Addr} {sl_name_W0 : Array (Option Value)} {oc_name_W0 kV_name_W0 dc_name_W0 pm_name_W0 cd_name_W0 ct_name_W0 : Value} (l_name_W0 : K.lookup f_name_W0 = some ⟨oc_name_W0, od_name_W0, .func (fnOf "name" "Down.name" (defArgs sN0) (defBody sN0) (defScope sN0) .none kV_name_W0 dc_name_W0 pm_name_W0 an_name_W0 cd_name_W0 ct_name_W0), sl_name_W0⟩)
    (c_name_W0 : codeIn K cd_name_W0 "Down.name" = true)
    (k_name_W0 : keepIn K (.ref f_name_W0) = true)
    (a_W1 : nsIn K mainGlobals "Up" = some (some (.ref W1)))
    (pg_W1 : plainGet K W1 Str.empty = true)
    (hd_W1 : hasDictIn K W1 = true)
    (po_W1 : plainOver K W1 = true)
    (sa_W1 : findIn K (.ref W1) "__setattr__" = some (some (.builtin "object.__setattr__")))
    (mk_W1 : makesIn K W1 = true)
    (kc_W1 : keepIn K (.ref W1) = true)
    (ca_W1 : findIn K (.ref W1) "__class__" = some (some (.builtin "object.__class__")))
    (ob_W1 : mroIn K W1 (.type "object") = some true)
    (aI_W1 : findIn K (.ref W1) "__init__" = some (some (.builtin "object.__init__")))
    (up_W1 : kitOne K (.ref W1) (.ref CW) = some true)
    (m_name_W1 : findIn K (.ref W1) "name" = some (some (.ref f_name_W1)))
    (i_name_W1 : isFn K (.ref f_name_W1) = true)
    {od_name_W1 an_name_W1 : Option Addr} {sl_name_W1 : Array (Option Value)} {oc_name_W1 kV_name_W1 dc_name_W1 pm_name_W1 cd_name_W1 ct_name_W1 : Value} (l_name_W1 : K.lookup f_name_W1 = some ⟨oc_name_W1, od_name_W1, .func (fnOf "name" "Up.name" (defArgs sN1) (defBody sN1) (defScope sN1) .none kV_name_W1 dc_name_W1 pm_name_W1 an_name_W1 cd_name_W1 ct_name_W1), sl_name_W1⟩)
    (c_name_W1 : codeIn K cd_name_W1 "Up.name" = true)
    (k_name_W1 : keepIn K (.ref f_name_W1) = true)
    (a_W2 : nsIn K mainGlobals "Floor" = some (some (.ref W2)))
    (pg_W2 : plainGet K W2 Str.empty = true)
    (hd_W2 : hasDictIn K W2 = true)
    (po_W2 : plainOver K W2 = true)
    (sa_W2 : findIn K (.ref W2) "__setattr__" = some (some (.builtin "object.__setattr__")))
    (mk_W2 : makesIn K W2 = true)
    (kc_W2 : keepIn K (.ref W2) = true)
    (ca_W2 : findIn K (.ref W2) "__class__" = some (some (.builtin "object.__class__")))
    (ob_W2 : mroIn K W2 (.type "object") = some true)
    (aI_W2 : findIn K (.ref W2) "__init__" = some (some (.builtin "object.__init__")))
    (up_W2 : kitOne K (.ref W2) (.ref CW) = some true)
    (m_name_W2 : findIn K (.ref W2) "name" = some (some (.ref f_name_W2)))
    (i_name_W2 : isFn K (.ref f_name_W2) = true)
    {od_name_W2 an_name_W2 : Option Addr} {sl_name_W2 : Array (Option Value)} {oc_name_W2 kV_name_W2 dc_name_W2 pm_name_W2 cd_name_W2 ct_name_W2 : Value} (l_name_W2 : K.lookup f_name_W2 = some ⟨oc_name_W2, od_name_W2, .func (fnOf "name" "Floor.name" (defArgs sN2) (defBody sN2) (defScope sN2) .none kV_name_W2 dc_name_W2 pm_name_W2 an_name_W2 cd_name_W2 ct_name_W2), sl_name_W2⟩)
    (c_name_W2 : codeIn K cd_name_W2 "Floor.name" = true)
    (k_name_W2 : keepIn K (.ref f_name_W2) = true)
    (a_W3 : nsIn K mainGlobals "Ceiling" = some (some (.ref W3)))
    (pg_W3 : plainGet K W3 Str.empty = true)
    (hd_W3 : hasDictIn K W3 = true)
    (po_W3 : plainOver K W3 = true)
    (sa_W3 : findIn K (.ref W3) "__setattr__" = some (some (.builtin "object.__setattr__")))
    (mk_W3 : makesIn K W3 = true)
    (kc_W3 : keepIn K (.ref W3) = true)
    (ca_W3 : findIn K (.ref W3) "__class__" = some (some (.builtin "object.__class__")))
    (ob_W3 : mroIn K W3 (.type "object") = some true)
    (aI_W3 : findIn K (.ref W3) "__init__" = some (some (.builtin "object.__init__")))
    (up_W3 : kitOne K (.ref W3) (.ref CW) = some true)
    (m_name_W3 : findIn K (.ref W3) "name" = some (some (.ref f_name_W3)))
    (i_name_W3 : isFn K (.ref f_name_W3) = true)
    {od_name_W3 an_name_W3 : Option Addr} {sl_name_W3 : Array (Option Value)} {oc_name_W3 kV_name_W3 dc_name_W3 pm_name_W3 cd_name_W3 ct_name_W3 : Value} (l_name_W3 : K.lookup f_name_W3 = some ⟨oc_name_W3, od_name_W3, .func (fnOf "name" "Ceiling.name" (defArgs sN3) (defBody sN3) (defScope sN3) .none kV_name_W3 dc_name_W3 pm_name_W3 an_name_W3 cd_name_W3 ct_name_W3), sl_name_W3⟩)
    (c_name_W3 : codeIn K cd_name_W3 "Ceiling.name" = true)
    (k_name_W3 : keepIn K (.ref f_name_W3) = true)
    (a_W4 : nsIn K mainGlobals "HalfUp" = some (some (.ref W4)))
    (pg_W4 : plainGet K W4 Str.empty = true)
    (hd_W4 : hasDictIn K W4 = true)
    (po_W4 : plainOver K W4 = true)
    (sa_W4 : findIn K (.ref W4) "__setattr__" = some (some (.builtin "object.__setattr__")))
    (mk_W4 : makesIn K W4 = true)
    (kc_W4 : keepIn K (.ref W4) = true)
    (ca_W4 : findIn K (.ref W4) "__class__" = some (some (.builtin "object.__class__")))
    (ob_W4 : mroIn K W4 (.type "object") = some true)
    (aI_W4 : findIn K (.ref W4) "__init__" = some (some (.builtin "object.__init__")))
    (up_W4 : kitOne K (.ref W4) (.ref CW) = some true)
    (m_name_W4 : findIn K (.ref W4) "name" = some (some (.ref f_name_W4)))
    (i_name_W4 : isFn K (.ref f_name_W4) = true)
    {od_name_W4 an_name_W4 : Option Addr} {sl_name_W4 : Array (Option Value)} {oc_name_W4 kV_name_W4 dc_name_W4 pm_name_W4 cd_name_W4 ct_name_W4 : Value} (l_name_W4 : K.lookup f_name_W4 = some ⟨oc_name_W4, od_name_W4, .func (fnOf "name" "HalfUp.name" (defArgs sN4) (defBody sN4) (defScope sN4) .none kV_name_W4 dc_name_W4 pm_name_W4 an_name_W4 cd_name_W4 ct_name_W4), sl_name_W4⟩)
    (c_name_W4 : codeIn K cd_name_W4 "HalfUp.name" = true)
    (k_name_W4 : keepIn K (.ref f_name_W4) = true)
    (a_W5 : nsIn K mainGlobals "HalfDown" = some (some (.ref W5)))
    (pg_W5 : plainGet K W5 Str.empty = true)
    (hd_W5 : hasDictIn K W5 = true)
    (po_W5 : plainOver K W5 = true)
    (sa_W5 : findIn K (.ref W5) "__setattr__" = some (some (.builtin "object.__setattr__")))
    (mk_W5 : makesIn K W5 = true)
    (kc_W5 : keepIn K (.ref W5) = true)
    (ca_W5 : findIn K (.ref W5) "__class__" = some (some (.builtin "object.__class__")))
    (ob_W5 : mroIn K W5 (.type "object") = some true)
    (aI_W5 : findIn K (.ref W5) "__init__" = some (some (.builtin "object.__init__")))
    (up_W5 : kitOne K (.ref W5) (.ref CW) = some true)
    (m_name_W5 : findIn K (.ref W5) "name" = some (some (.ref f_name_W5)))
    (i_name_W5 : isFn K (.ref f_name_W5) = true)
    {od_name_W5 an_name_W5 : Option Addr} {sl_name_W5 : Array (Option Value)} {oc_name_W5 kV_name_W5 dc_name_W5 pm_name_W5 cd_name_W5 ct_name_W5 : Value} (l_name_W5 : K.lookup f_name_W5 = some ⟨oc_name_W5, od_name_W5, .func (fnOf "name" "HalfDown.name" (defArgs sN5) (defBody sN5) (defScope sN5) .none kV_name_W5 dc_name_W5 pm_name_W5 an_name_W5 cd_name_W5 ct_name_W5), sl_name_W5⟩)
    (c_name_W5 : codeIn K cd_name_W5 "HalfDown.name" = true)
    (k_name_W5 : keepIn K (.ref f_name_W5) = true)
    (a_W6 : nsIn K mainGlobals "HalfEven" = some (some (.ref W6)))
    (pg_W6 : plainGet K W6 Str.empty = true)
    (hd_W6 : hasDictIn K W6 = true)
    (po_W6 : plainOver K W6 = true)
    (sa_W6 : findIn K (.ref W6) "__setattr__" = some (some (.builtin "object.__setattr__")))
    (mk_W6 : makesIn K W6 = true)
    (kc_W6 : keepIn K (.ref W6) = true)
    (ca_W6 : findIn K (.ref W6) "__class__" = some (some (.builtin "object.__class__")))
    (ob_W6 : mroIn K W6 (.type "object") = some true)
    (aI_W6 : findIn K (.ref W6) "__init__" = some (some (.builtin "object.__init__")))
    (up_W6 : kitOne K (.ref W6) (.ref CW) = some true)
    (m_name_W6 : findIn K (.ref W6) "name" = some (some (.ref f_name_W6)))
    (i_name_W6 : isFn K (.ref f_name_W6) = true)
    {od_name_W6 an_name_W6 : Option Addr} {sl_name_W6 : Array (Option Value)} {oc_name_W6 kV_name_W6 dc_name_W6 pm_name_W6 cd_name_W6 ct_name_W6 : Value} (l_name_W6 : K.lookup f_name_W6 = some ⟨oc_name_W6, od_name_W6, .func (fnOf "name" "HalfEven.name" (defArgs sN6) (defBody sN6) (defScope sN6) .none kV_name_W6 dc_name_W6 pm_name_W6 an_name_W6 cd_name_W6 ct_name_W6), sl_name_W6⟩)
    (c_name_W6 : codeIn K cd_name_W6 "HalfEven.name" = true)
    (k_name_W6 : keepIn K (.ref f_name_W6) = true)
    (a_W7 : nsIn K mainGlobals "FiveUp" = some (some (.ref W7)))
    (pg_W7 : plainGet K W7 Str.empty = true)
    (hd_W7 : hasDictIn K W7 = true)
    (po_W7 : plainOver K W7 = true)
    (sa_W7 : findIn K (.ref W7) "__setattr__" = some (some (.builtin "object.__setattr__")))
    (mk_W7 : makesIn K W7 = true)
    (kc_W7 : keepIn K (.ref W7) = true)
    (ca_W7 : findIn K (.ref W7) "__class__" = some (some (.builtin "object.__class__")))
    (ob_W7 : mroIn K W7 (.type "object") = some true)
    (aI_W7 : findIn K (.ref W7) "__init__" = some (some (.builtin "object.__init__")))
    (up_W7 : kitOne K (.ref W7) (.ref CW) = some true)
    (m_name_W7 : findIn K (.ref W7) "name" = some (some (.ref f_name_W7)))
    (i_name_W7 : isFn K (.ref f_name_W7) = true)
    {od_name_W7 an_name_W7 : Option Addr} {sl_name_W7 : Array (Option Value)} {oc_name_W7 kV_name_W7 dc_name_W7 pm_name_W7 cd_name_W7 ct_name_W7 : Value} (l_name_W7 : K.lookup f_name_W7 = some ⟨oc_name_W7, od_name_W7, .func (fnOf "name" "FiveUp.name" (defArgs sN7) (defBody sN7) (defScope sN7) .none kV_name_W7 dc_name_W7 pm_name_W7 an_name_W7 cd_name_W7 ct_name_W7), sl_name_W7⟩)
    (c_name_W7 : codeIn K cd_name_W7 "FiveUp.name" = true)
    (k_name_W7 : keepIn K (.ref f_name_W7) = true)
    (a_CN : nsIn K mainGlobals "Number" = some (some (.ref CN)))
    (pg_CN : plainGet K CN Str.empty = true)
    (hd_CN : hasDictIn K CN = true)
    (po_CN : plainOver K CN = true)
    (sa_CN : findIn K (.ref CN) "__setattr__" = some (some (.builtin "object.__setattr__")))
    (mk_CN : makesIn K CN = true)
    (kc_CN : keepIn K (.ref CN) = true)
    (ca_CN : findIn K (.ref CN) "__class__" = some (some (.builtin "object.__class__")))
    (ob_CN : mroIn K CN (.type "object") = some true)
    (n_CN_kind : findIn K (.ref CN) "kind" = some none)
    (n_CN_sign : findIn K (.ref CN) "sign" = some none)
    (n_CN_figures : findIn K (.ref CN) "figures" = some none)
    (n_CN_power : findIn K (.ref CN) "power" = some none)
    (aI_CN : findIn K (.ref CN) "__init__" = some (some (.ref fI_CN)))
    (iI_CN : isFn K (.ref fI_CN) = true)
    {od_iCN an_iCN : Option Addr} {sl_iCN : Array (Option Value)} {oc_iCN kV_iCN dc_iCN pm_iCN cd_iCN ct_iCN : Value} (l_iCN : K.lookup fI_CN = some ⟨oc_iCN, od_iCN, .func (fnOf "__init__" "Number.__init__" (defArgs sInit) (defBody sInit) (defScope sInit) .none kV_iCN dc_iCN pm_iCN an_iCN cd_iCN ct_iCN), sl_iCN⟩)
    (c_iCN : codeIn K cd_iCN "Number.__init__" = true)
    (k_iCN : keepIn K (.ref fI_CN) = true)
    (self_CN : kitOne K (.ref CN) (.ref CN) = some true)
    (m_goes_up_W0 : findIn K (.ref W0) "goes_up" = some (some (.ref f_goes_up_W0)))
    (i_goes_up_W0 : isFn K (.ref f_goes_up_W0) = true)
    {od_goes_up_W0 an_goes_up_W0 : Option Addr} {sl_goes_up_W0 : Array (Option Value)} {oc_goes_up_W0 kV_goes_up_W0 dc_goes_up_W0 pm_goes_up_W0 cd_goes_up_W0 ct_goes_up_W0 : Value} (l_goes_up_W0 : K.lookup f_goes_up_W0 = some ⟨oc_goes_up_W0, od_goes_up_W0, .func (fnOf "goes_up" "Down.goes_up" (defArgs sU0) (defBody sU0) (defScope sU0) .none kV_goes_up_W0 dc_goes_up_W0 pm_goes_up_W0 an_goes_up_W0 cd_goes_up_W0 ct_goes_up_W0), sl_goes_up_W0⟩)
    (c_goes_up_W0 : codeIn K cd_goes_up_W0 "Down.goes_up" = true)
    (k_goes_up_W0 : keepIn K (.ref f_goes_up_W0) = true)
    (m_to_end_W0 : findIn K (.ref W0) "to_end" = some (some (.ref f_to_end_W0)))
    (i_to_end_W0 : isFn K (.ref f_to_end_W0) = true)
    {od_to_end_W0 an_to_end_W0 : Option Addr} {sl_to_end_W0 : Array (Option Value)} {oc_to_end_W0 kV_to_end_W0 dc_to_end_W0 pm_to_end_W0 cd_to_end_W0 ct_to_end_W0 : Value} (l_to_end_W0 : K.lookup f_to_end_W0 = some ⟨oc_to_end_W0, od_to_end_W0, .func (fnOf "to_end" "Down.to_end" (defArgs sT0) (defBody sT0) (defScope sT0) .none kV_to_end_W0 dc_to_end_W0 pm_to_end_W0 an_to_end_W0 cd_to_end_W0 ct_to_end_W0), sl_to_end_W0⟩)
    (c_to_end_W0 : codeIn K cd_to_end_W0 "Down.to_end" = true)
    (k_to_end_W0 : keepIn K (.ref f_to_end_W0) = true)
    (m_goes_up_W1 : findIn K (.ref W1) "goes_up" = some (some (.ref f_goes_up_W1)))
    (i_goes_up_W1 : isFn K (.ref f_goes_up_W1) = true)
    {od_goes_up_W1 an_goes_up_W1 : Option Addr} {sl_goes_up_W1 : Array (Option Value)} {oc_goes_up_W1 kV_goes_up_W1 dc_goes_up_W1 pm_goes_up_W1 cd_goes_up_W1 ct_goes_up_W1 : Value} (l_goes_up_W1 : K.lookup f_goes_up_W1 = some ⟨oc_goes_up_W1, od_goes_up_W1, .func (fnOf "goes_up" "Up.goes_up" (defArgs sU1) (defBody sU1) (defScope sU1) .none kV_goes_up_W1 dc_goes_up_W1 pm_goes_up_W1 an_goes_up_W1 cd_goes_up_W1 ct_goes_up_W1), sl_goes_up_W1⟩)
    (c_goes_up_W1 : codeIn K cd_goes_up_W1 "Up.goes_up" = true)
    (k_goes_up_W1 : keepIn K (.ref f_goes_up_W1) = true)
    (m_to_end_W1 : findIn K (.ref W1) "to_end" = some (some (.ref f_to_end_W1)))
    (i_to_end_W1 : isFn K (.ref f_to_end_W1) = true)
    {od_to_end_W1 an_to_end_W1 : Option Addr} {sl_to_end_W1 : Array (Option Value)} {oc_to_end_W1 kV_to_end_W1 dc_to_end_W1 pm_to_end_W1 cd_to_end_W1 ct_to_end_W1 : Value} (l_to_end_W1 : K.lookup f_to_end_W1 = some ⟨oc_to_end_W1, od_to_end_W1, .func (fnOf "to_end" "Up.to_end" (defArgs sT1) (defBody sT1) (defScope sT1) .none kV_to_end_W1 dc_to_end_W1 pm_to_end_W1 an_to_end_W1 cd_to_end_W1 ct_to_end_W1), sl_to_end_W1⟩)
    (c_to_end_W1 : codeIn K cd_to_end_W1 "Up.to_end" = true)
    (k_to_end_W1 : keepIn K (.ref f_to_end_W1) = true)
    (m_goes_up_W2 : findIn K (.ref W2) "goes_up" = some (some (.ref f_goes_up_W2)))
    (i_goes_up_W2 : isFn K (.ref f_goes_up_W2) = true)
    {od_goes_up_W2 an_goes_up_W2 : Option Addr} {sl_goes_up_W2 : Array (Option Value)} {oc_goes_up_W2 kV_goes_up_W2 dc_goes_up_W2 pm_goes_up_W2 cd_goes_up_W2 ct_goes_up_W2 : Value} (l_goes_up_W2 : K.lookup f_goes_up_W2 = some ⟨oc_goes_up_W2, od_goes_up_W2, .func (fnOf "goes_up" "Floor.goes_up" (defArgs sU2) (defBody sU2) (defScope sU2) .none kV_goes_up_W2 dc_goes_up_W2 pm_goes_up_W2 an_goes_up_W2 cd_goes_up_W2 ct_goes_up_W2), sl_goes_up_W2⟩)
    (c_goes_up_W2 : codeIn K cd_goes_up_W2 "Floor.goes_up" = true)
    (k_goes_up_W2 : keepIn K (.ref f_goes_up_W2) = true)
    (m_to_end_W2 : findIn K (.ref W2) "to_end" = some (some (.ref f_to_end_W2)))
    (i_to_end_W2 : isFn K (.ref f_to_end_W2) = true)
    {od_to_end_W2 an_to_end_W2 : Option Addr} {sl_to_end_W2 : Array (Option Value)} {oc_to_end_W2 kV_to_end_W2 dc_to_end_W2 pm_to_end_W2 cd_to_end_W2 ct_to_end_W2 : Value} (l_to_end_W2 : K.lookup f_to_end_W2 = some ⟨oc_to_end_W2, od_to_end_W2, .func (fnOf "to_end" "Floor.to_end" (defArgs sT2) (defBody sT2) (defScope sT2) .none kV_to_end_W2 dc_to_end_W2 pm_to_end_W2 an_to_end_W2 cd_to_end_W2 ct_to_end_W2), sl_to_end_W2⟩)
    (c_to_end_W2 : codeIn K cd_to_end_W2 "Floor.to_end" = true)
    (k_to_end_W2 : keepIn K (.ref f_to_end_W2) = true)
    (m_goes_up_W3 : findIn K (.ref W3) "goes_up" = some (some (.ref f_goes_up_W3)))
    (i_goes_up_W3 : isFn K (.ref f_goes_up_W3) = true)
    {od_goes_up_W3 an_goes_up_W3 : Option Addr} {sl_goes_up_W3 : Array (Option Value)} {oc_goes_up_W3 kV_goes_up_W3 dc_goes_up_W3 pm_goes_up_W3 cd_goes_up_W3 ct_goes_up_W3 : Value} (l_goes_up_W3 : K.lookup f_goes_up_W3 = some ⟨oc_goes_up_W3, od_goes_up_W3, .func (fnOf "goes_up" "Ceiling.goes_up" (defArgs sU3) (defBody sU3) (defScope sU3) .none kV_goes_up_W3 dc_goes_up_W3 pm_goes_up_W3 an_goes_up_W3 cd_goes_up_W3 ct_goes_up_W3), sl_goes_up_W3⟩)
    (c_goes_up_W3 : codeIn K cd_goes_up_W3 "Ceiling.goes_up" = true)
    (k_goes_up_W3 : keepIn K (.ref f_goes_up_W3) = true)
    (m_to_end_W3 : findIn K (.ref W3) "to_end" = some (some (.ref f_to_end_W3)))
    (i_to_end_W3 : isFn K (.ref f_to_end_W3) = true)
    {od_to_end_W3 an_to_end_W3 : Option Addr} {sl_to_end_W3 : Array (Option Value)} {oc_to_end_W3 kV_to_end_W3 dc_to_end_W3 pm_to_end_W3 cd_to_end_W3 ct_to_end_W3 : Value} (l_to_end_W3 : K.lookup f_to_end_W3 = some ⟨oc_to_end_W3, od_to_end_W3, .func (fnOf "to_end" "Ceiling.to_end" (defArgs sT3) (defBody sT3) (defScope sT3) .none kV_to_end_W3 dc_to_end_W3 pm_to_end_W3 an_to_end_W3 cd_to_end_W3 ct_to_end_W3), sl_to_end_W3⟩)
    (c_to_end_W3 : codeIn K cd_to_end_W3 "Ceiling.to_end" = true)
    (k_to_end_W3 : keepIn K (.ref f_to_end_W3) = true)
    (m_goes_up_W4 : findIn K (.ref W4) "goes_up" = some (some (.ref f_goes_up_W4)))
    (i_goes_up_W4 : isFn K (.ref f_goes_up_W4) = true)
    {od_goes_up_W4 an_goes_up_W4 : Option Addr} {sl_goes_up_W4 : Array (Option Value)} {oc_goes_up_W4 kV_goes_up_W4 dc_goes_up_W4 pm_goes_up_W4 cd_goes_up_W4 ct_goes_up_W4 : Value} (l_goes_up_W4 : K.lookup f_goes_up_W4 = some ⟨oc_goes_up_W4, od_goes_up_W4, .func (fnOf "goes_up" "HalfUp.goes_up" (defArgs sU4) (defBody sU4) (defScope sU4) .none kV_goes_up_W4 dc_goes_up_W4 pm_goes_up_W4 an_goes_up_W4 cd_goes_up_W4 ct_goes_up_W4), sl_goes_up_W4⟩)
    (c_goes_up_W4 : codeIn K cd_goes_up_W4 "HalfUp.goes_up" = true)
    (k_goes_up_W4 : keepIn K (.ref f_goes_up_W4) = true)
    (m_to_end_W4 : findIn K (.ref W4) "to_end" = some (some (.ref f_to_end_W4)))
    (i_to_end_W4 : isFn K (.ref f_to_end_W4) = true)
    {od_to_end_W4 an_to_end_W4 : Option Addr} {sl_to_end_W4 : Array (Option Value)} {oc_to_end_W4 kV_to_end_W4 dc_to_end_W4 pm_to_end_W4 cd_to_end_W4 ct_to_end_W4 : Value} (l_to_end_W4 : K.lookup f_to_end_W4 = some ⟨oc_to_end_W4, od_to_end_W4, .func (fnOf "to_end" "HalfUp.to_end" (defArgs sT4) (defBody sT4) (defScope sT4) .none kV_to_end_W4 dc_to_end_W4 pm_to_end_W4 an_to_end_W4 cd_to_end_W4 ct_to_end_W4), sl_to_end_W4⟩)
    (c_to_end_W4 : codeIn K cd_to_end_W4 "HalfUp.to_end" = true)
    (k_to_end_W4 : keepIn K (.ref f_to_end_W4) = true)
    (m_goes_up_W5 : findIn K (.ref W5) "goes_up" = some (some (.ref f_goes_up_W5)))
    (i_goes_up_W5 : isFn K (.ref f_goes_up_W5) = true)
    {od_goes_up_W5 an_goes_up_W5 : Option Addr} {sl_goes_up_W5 : Array (Option Value)} {oc_goes_up_W5 kV_goes_up_W5 dc_goes_up_W5 pm_goes_up_W5 cd_goes_up_W5 ct_goes_up_W5 : Value} (l_goes_up_W5 : K.lookup f_goes_up_W5 = some ⟨oc_goes_up_W5, od_goes_up_W5, .func (fnOf "goes_up" "HalfDown.goes_up" (defArgs sU5) (defBody sU5) (defScope sU5) .none kV_goes_up_W5 dc_goes_up_W5 pm_goes_up_W5 an_goes_up_W5 cd_goes_up_W5 ct_goes_up_W5), sl_goes_up_W5⟩)
    (c_goes_up_W5 : codeIn K cd_goes_up_W5 "HalfDown.goes_up" = true)
    (k_goes_up_W5 : keepIn K (.ref f_goes_up_W5) = true)
    (m_to_end_W5 : findIn K (.ref W5) "to_end" = some (some (.ref f_to_end_W5)))
    (i_to_end_W5 : isFn K (.ref f_to_end_W5) = true)
    {od_to_end_W5 an_to_end_W5 : Option Addr} {sl_to_end_W5 : Array (Option Value)} {oc_to_end_W5 kV_to_end_W5 dc_to_end_W5 pm_to_end_W5 cd_to_end_W5 ct_to_end_W5 : Value} (l_to_end_W5 : K.lookup f_to_end_W5 = some ⟨oc_to_end_W5, od_to_end_W5, .func (fnOf "to_end" "HalfDown.to_end" (defArgs sT5) (defBody sT5) (defScope sT5) .none kV_to_end_W5 dc_to_end_W5 pm_to_end_W5 an_to_end_W5 cd_to_end_W5 ct_to_end_W5), sl_to_end_W5⟩)
    (c_to_end_W5 : codeIn K cd_to_end_W5 "HalfDown.to_end" = true)
    (k_to_end_W5 : keepIn K (.ref f_to_end_W5) = true)
    (m_goes_up_W6 : findIn K (.ref W6) "goes_up" = some (some (.ref f_goes_up_W6)))
    (i_goes_up_W6 : isFn K (.ref f_goes_up_W6) = true)
    {od_goes_up_W6 an_goes_up_W6 : Option Addr} {sl_goes_up_W6 : Array (Option Value)} {oc_goes_up_W6 kV_goes_up_W6 dc_goes_up_W6 pm_goes_up_W6 cd_goes_up_W6 ct_goes_up_W6 : Value} (l_goes_up_W6 : K.lookup f_goes_up_W6 = some ⟨oc_goes_up_W6, od_goes_up_W6, .func (fnOf "goes_up" "HalfEven.goes_up" (defArgs sU6) (defBody sU6) (defScope sU6) .none kV_goes_up_W6 dc_goes_up_W6 pm_goes_up_W6 an_goes_up_W6 cd_goes_up_W6 ct_goes_up_W6), sl_goes_up_W6⟩)
    (c_goes_up_W6 : codeIn K cd_goes_up_W6 "HalfEven.goes_up" = true)
    (k_goes_up_W6 : keepIn K (.ref f_goes_up_W6) = true)
    (m_to_end_W6 : findIn K (.ref W6) "to_end" = some (some (.ref f_to_end_W6)))
    (i_to_end_W6 : isFn K (.ref f_to_end_W6) = true)
    {od_to_end_W6 an_to_end_W6 : Option Addr} {sl_to_end_W6 : Array (Option Value)} {oc_to_end_W6 kV_to_end_W6 dc_to_end_W6 pm_to_end_W6 cd_to_end_W6 ct_to_end_W6 : Value} (l_to_end_W6 : K.lookup f_to_end_W6 = some ⟨oc_to_end_W6, od_to_end_W6, .func (fnOf "to_end" "HalfEven.to_end" (defArgs sT6) (defBody sT6) (defScope sT6) .none kV_to_end_W6 dc_to_end_W6 pm_to_end_W6 an_to_end_W6 cd_to_end_W6 ct_to_end_W6), sl_to_end_W6⟩)
    (c_to_end_W6 : codeIn K cd_to_end_W6 "HalfEven.to_end" = true)
    (k_to_end_W6 : keepIn K (.ref f_to_end_W6) = true)
    (m_goes_up_W7 : findIn K (.ref W7) "goes_up" = some (some (.ref f_goes_up_W7)))
    (i_goes_up_W7 : isFn K (.ref f_goes_up_W7) = true)
    {od_goes_up_W7 an_goes_up_W7 : Option Addr} {sl_goes_up_W7 : Array (Option Value)} {oc_goes_up_W7 kV_goes_up_W7 dc_goes_up_W7 pm_goes_up_W7 cd_goes_up_W7 ct_goes_up_W7 : Value} (l_goes_up_W7 : K.lookup f_goes_up_W7 = some ⟨oc_goes_up_W7, od_goes_up_W7, .func (fnOf "goes_up" "FiveUp.goes_up" (defArgs sU7) (defBody sU7) (defScope sU7) .none kV_goes_up_W7 dc_goes_up_W7 pm_goes_up_W7 an_goes_up_W7 cd_goes_up_W7 ct_goes_up_W7), sl_goes_up_W7⟩)
    (c_goes_up_W7 : codeIn K cd_goes_up_W7 "FiveUp.goes_up" = true)
    (k_goes_up_W7 : keepIn K (.ref f_goes_up_W7) = true)
    (m_to_end_W7 : findIn K (.ref W7) "to_end" = some (some (.ref f_to_end_W7)))
    (i_to_end_W7 : isFn K (.ref f_to_end_W7) = true)
    {od_to_end_W7 an_to_end_W7 : Option Addr} {sl_to_end_W7 : Array (Option Value)} {oc_to_end_W7 kV_to_end_W7 dc_to_end_W7 pm_to_end_W7 cd_to_end_W7 ct_to_end_W7 : Value} (l_to_end_W7 : K.lookup f_to_end_W7 = some ⟨oc_to_end_W7, od_to_end_W7, .func (fnOf "to_end" "FiveUp.to_end" (defArgs sT7) (defBody sT7) (defScope sT7) .none kV_to_end_W7 dc_to_end_W7 pm_to_end_W7 an_to_end_W7 cd_to_end_W7 ct_to_end_W7), sl_to_end_W7⟩)
    (c_to_end_W7 : codeIn K cd_to_end_W7 "FiveUp.to_end" = true)
    (k_to_end_W7 : keepIn K (.ref f_to_end_W7) = true)
    (a_CC : nsIn K mainGlobals "Context" = some (some (.ref CC)))
    (pg_CC : plainGet K CC Str.empty = true)
    (hd_CC : hasDictIn K CC = true)
    (po_CC : plainOver K CC = true)
    (sa_CC : findIn K (.ref CC) "__setattr__" = some (some (.builtin "object.__setattr__")))
    (mk_CC : makesIn K CC = true)
    (kc_CC : keepIn K (.ref CC) = true)
    (n_CC_room : findIn K (.ref CC) "room" = some none)
    (n_CC_rule : findIn K (.ref CC) "rule" = some none)
    (n_CC_least : findIn K (.ref CC) "least" = some none)
    (n_CC_most : findIn K (.ref CC) "most" = some none)
    (n_CC_risen : findIn K (.ref CC) "risen" = some none)
    (n_CC_trapped : findIn K (.ref CC) "trapped" = some none)
    (aI_CC : findIn K (.ref CC) "__init__" = some (some (.ref fI_CC)))
    (iI_CC : isFn K (.ref fI_CC) = true)
    {od_iCC an_iCC : Option Addr} {sl_iCC : Array (Option Value)} {oc_iCC kV_iCC dc_iCC pm_iCC cd_iCC ct_iCC : Value} (l_iCC : K.lookup fI_CC = some ⟨oc_iCC, od_iCC, .func (fnOf "__init__" "Context.__init__" (defArgs sCtxInit) (defBody sCtxInit) (defScope sCtxInit) (.ref aD_CC) kV_iCC dc_iCC pm_iCC an_iCC cd_iCC ct_iCC), sl_iCC⟩)
    (c_iCC : codeIn K cd_iCC "Context.__init__" = true)
    (k_iCC : keepIn K (.ref fI_CC) = true)
    {t0_CC t1_CC t3_CC : Tok} {nD_CC : Nat} {odD_CC : Option Addr} {ocD_CC : Value} {slD_CC : Array (Option Value)} (lD_CC : K.lookup aD_CC = some ⟨ocD_CC, odD_CC, .seq #[.int 9 t0_CC, .str "half even" t1_CC, .none, .int 60 t3_CC] nD_CC, slD_CC⟩)
    (m_flags_CC : findIn K (.ref CC) "flags" = some (some (.ref f_flags_CC)))
    (i_flags_CC : isFn K (.ref f_flags_CC) = true)
    {od_flags_CC an_flags_CC : Option Addr} {sl_flags_CC : Array (Option Value)} {oc_flags_CC kV_flags_CC dc_flags_CC pm_flags_CC cd_flags_CC ct_flags_CC : Value} (l_flags_CC : K.lookup f_flags_CC = some ⟨oc_flags_CC, od_flags_CC, .func (fnOf "flags" "Context.flags" (defArgs sCtxFlags) (defBody sCtxFlags) (defScope sCtxFlags) .none kV_flags_CC dc_flags_CC pm_flags_CC an_flags_CC cd_flags_CC ct_flags_CC), sl_flags_CC⟩)
    (c_flags_CC : codeIn K cd_flags_CC "Context.flags" = true)
    (k_flags_CC : keepIn K (.ref f_flags_CC) = true)
    (m_lowest_CC : findIn K (.ref CC) "lowest" = some (some (.ref f_lowest_CC)))
    (i_lowest_CC : isFn K (.ref f_lowest_CC) = true)
    {od_lowest_CC an_lowest_CC : Option Addr} {sl_lowest_CC : Array (Option Value)} {oc_lowest_CC kV_lowest_CC dc_lowest_CC pm_lowest_CC cd_lowest_CC ct_lowest_CC : Value} (l_lowest_CC : K.lookup f_lowest_CC = some ⟨oc_lowest_CC, od_lowest_CC, .func (fnOf "lowest" "Context.lowest" (defArgs sCtxLow) (defBody sCtxLow) (defScope sCtxLow) .none kV_lowest_CC dc_lowest_CC pm_lowest_CC an_lowest_CC cd_lowest_CC ct_lowest_CC), sl_lowest_CC⟩)
    (c_lowest_CC : codeIn K cd_lowest_CC "Context.lowest" = true)
    (k_lowest_CC : keepIn K (.ref f_lowest_CC) = true)
    (m_way_CC : findIn K (.ref CC) "way" = some (some (.ref f_way_CC)))
    (i_way_CC : isFn K (.ref f_way_CC) = true)
    {od_way_CC an_way_CC : Option Addr} {sl_way_CC : Array (Option Value)} {oc_way_CC kV_way_CC dc_way_CC pm_way_CC cd_way_CC ct_way_CC : Value} (l_way_CC : K.lookup f_way_CC = some ⟨oc_way_CC, od_way_CC, .func (fnOf "way" "Context.way" (defArgs sCtxWay) (defBody sCtxWay) (defScope sCtxWay) .none kV_way_CC dc_way_CC pm_way_CC an_way_CC cd_way_CC ct_way_CC), sl_way_CC⟩)
    (c_way_CC : codeIn K cd_way_CC "Context.way" = true)
    (k_way_CC : keepIn K (.ref f_way_CC) = true)
    (m_clear_CC : findIn K (.ref CC) "clear" = some (some (.ref f_clear_CC)))
    (i_clear_CC : isFn K (.ref f_clear_CC) = true)
    {od_clear_CC an_clear_CC : Option Addr} {sl_clear_CC : Array (Option Value)} {oc_clear_CC kV_clear_CC dc_clear_CC pm_clear_CC cd_clear_CC ct_clear_CC : Value} (l_clear_CC : K.lookup f_clear_CC = some ⟨oc_clear_CC, od_clear_CC, .func (fnOf "clear" "Context.clear" (defArgs sCtxClear) (defBody sCtxClear) (defScope sCtxClear) .none kV_clear_CC dc_clear_CC pm_clear_CC an_clear_CC cd_clear_CC ct_clear_CC), sl_clear_CC⟩)
    (c_clear_CC : codeIn K cd_clear_CC "Context.clear" = true)
    (k_clear_CC : keepIn K (.ref f_clear_CC) = true)
    (m_raised_CC : findIn K (.ref CC) "raised" = some (some (.ref f_raised_CC)))
    (i_raised_CC : isFn K (.ref f_raised_CC) = true)
    {od_raised_CC an_raised_CC : Option Addr} {sl_raised_CC : Array (Option Value)} {oc_raised_CC kV_raised_CC dc_raised_CC pm_raised_CC cd_raised_CC ct_raised_CC : Value} (l_raised_CC : K.lookup f_raised_CC = some ⟨oc_raised_CC, od_raised_CC, .func (fnOf "raised" "Context.raised" (defArgs sCtxRaised) (defBody sCtxRaised) (defScope sCtxRaised) .none kV_raised_CC dc_raised_CC pm_raised_CC an_raised_CC cd_raised_CC ct_raised_CC), sl_raised_CC⟩)
    (c_raised_CC : codeIn K cd_raised_CC "Context.raised" = true)
    (k_raised_CC : keepIn K (.ref f_raised_CC) = true)
    (a_RA : nsIn K mainGlobals "Ratio" = some (some (.ref RA)))
    (pg_RA : plainGet K RA Str.empty = true)
    (hd_RA : hasDictIn K RA = true)
    (po_RA : plainOver K RA = true)
    (sa_RA : findIn K (.ref RA) "__setattr__" = some (some (.builtin "object.__setattr__")))
    (mk_RA : makesIn K RA = true)
    (kc_RA : keepIn K (.ref RA) = true)
    (ca_RA : findIn K (.ref RA) "__class__" = some (some (.builtin "object.__class__")))
    (ob_RA : mroIn K RA (.type "object") = some true)
    (n_RA_top : findIn K (.ref RA) "top" = some none)
    (n_RA_bottom : findIn K (.ref RA) "bottom" = some none)
    (n_RA_power : findIn K (.ref RA) "power" = some none)
    (aI_RA : findIn K (.ref RA) "__init__" = some (some (.ref fI_RA)))
    (iI_RA : isFn K (.ref fI_RA) = true)
    {od_iRA an_iRA : Option Addr} {sl_iRA : Array (Option Value)} {oc_iRA kV_iRA dc_iRA pm_iRA cd_iRA ct_iRA : Value} (l_iRA : K.lookup fI_RA = some ⟨oc_iRA, od_iRA, .func (fnOf "__init__" "Ratio.__init__" (defArgs sRInit) (defBody sRInit) (defScope sRInit) (.ref aD_RA) kV_iRA dc_iRA pm_iRA an_iRA cd_iRA ct_iRA), sl_iRA⟩)
    (c_iRA : codeIn K cd_iRA "Ratio.__init__" = true)
    (k_iRA : keepIn K (.ref fI_RA) = true)
    {t0_RA : Tok} {nD_RA : Nat} {odD_RA : Option Addr} {ocD_RA : Value} {slD_RA : Array (Option Value)} (lD_RA : K.lookup aD_RA = some ⟨ocD_RA, odD_RA, .seq #[.int 0 t0_RA] nD_RA, slD_RA⟩)
    (m_first_RA : findIn K (.ref RA) "first" = some (some (.ref f_first_RA)))
    (i_first_RA : isFn K (.ref f_first_RA) = true)
    {od_first_RA an_first_RA : Option Addr} {sl_first_RA : Array (Option Value)} {oc_first_RA kV_first_RA dc_first_RA pm_first_RA cd_first_RA ct_first_RA : Value} (l_first_RA : K.lookup f_first_RA = some ⟨oc_first_RA, od_first_RA, .func (fnOf "first" "Ratio.first" (defArgs sRFirstM) (defBody sRFirstM) (defScope sRFirstM) .none kV_first_RA dc_first_RA pm_first_RA an_first_RA cd_first_RA ct_first_RA), sl_first_RA⟩)
    (c_first_RA : codeIn K cd_first_RA "Ratio.first" = true)
    (k_first_RA : keepIn K (.ref f_first_RA) = true)
    (m_at_RA : findIn K (.ref RA) "at" = some (some (.ref f_at_RA)))
    (i_at_RA : isFn K (.ref f_at_RA) = true)
    {od_at_RA an_at_RA : Option Addr} {sl_at_RA : Array (Option Value)} {oc_at_RA kV_at_RA dc_at_RA pm_at_RA cd_at_RA ct_at_RA : Value} (l_at_RA : K.lookup f_at_RA = some ⟨oc_at_RA, od_at_RA, .func (fnOf "at" "Ratio.at" (defArgs sRAtM) (defBody sRAtM) (defScope sRAtM) .none kV_at_RA dc_at_RA pm_at_RA an_at_RA cd_at_RA ct_at_RA), sl_at_RA⟩)
    (c_at_RA : codeIn K cd_at_RA "Ratio.at" = true)
    (k_at_RA : keepIn K (.ref f_at_RA) = true)
    (a_RO : nsIn K mainGlobals "Root" = some (some (.ref RO)))
    (pg_RO : plainGet K RO Str.empty = true)
    (hd_RO : hasDictIn K RO = true)
    (po_RO : plainOver K RO = true)
    (sa_RO : findIn K (.ref RO) "__setattr__" = some (some (.builtin "object.__setattr__")))
    (mk_RO : makesIn K RO = true)
    (kc_RO : keepIn K (.ref RO) = true)
    (ca_RO : findIn K (.ref RO) "__class__" = some (some (.builtin "object.__class__")))
    (ob_RO : mroIn K RO (.type "object") = some true)
    (n_RO_top : findIn K (.ref RO) "top" = some none)
    (n_RO_power : findIn K (.ref RO) "power" = some none)
    (aI_RO : findIn K (.ref RO) "__init__" = some (some (.ref fI_RO)))
    (iI_RO : isFn K (.ref fI_RO) = true)
    {od_iRO an_iRO : Option Addr} {sl_iRO : Array (Option Value)} {oc_iRO kV_iRO dc_iRO pm_iRO cd_iRO ct_iRO : Value} (l_iRO : K.lookup fI_RO = some ⟨oc_iRO, od_iRO, .func (fnOf "__init__" "Root.__init__" (defArgs sQInit) (defBody sQInit) (defScope sQInit) (.ref aD_RO) kV_iRO dc_iRO pm_iRO an_iRO cd_iRO ct_iRO), sl_iRO⟩)
    (c_iRO : codeIn K cd_iRO "Root.__init__" = true)
    (k_iRO : keepIn K (.ref fI_RO) = true)
    {t0_RO : Tok} {nD_RO : Nat} {odD_RO : Option Addr} {ocD_RO : Value} {slD_RO : Array (Option Value)} (lD_RO : K.lookup aD_RO = some ⟨ocD_RO, odD_RO, .seq #[.int 0 t0_RO] nD_RO, slD_RO⟩)
    (m_first_RO : findIn K (.ref RO) "first" = some (some (.ref f_first_RO)))
    (i_first_RO : isFn K (.ref f_first_RO) = true)
    {od_first_RO an_first_RO : Option Addr} {sl_first_RO : Array (Option Value)} {oc_first_RO kV_first_RO dc_first_RO pm_first_RO cd_first_RO ct_first_RO : Value} (l_first_RO : K.lookup f_first_RO = some ⟨oc_first_RO, od_first_RO, .func (fnOf "first" "Root.first" (defArgs sQFirstM) (defBody sQFirstM) (defScope sQFirstM) .none kV_first_RO dc_first_RO pm_first_RO an_first_RO cd_first_RO ct_first_RO), sl_first_RO⟩)
    (c_first_RO : codeIn K cd_first_RO "Root.first" = true)
    (k_first_RO : keepIn K (.ref f_first_RO) = true)
    (m_at_RO : findIn K (.ref RO) "at" = some (some (.ref f_at_RO)))
    (i_at_RO : isFn K (.ref f_at_RO) = true)
    {od_at_RO an_at_RO : Option Addr} {sl_at_RO : Array (Option Value)} {oc_at_RO kV_at_RO dc_at_RO pm_at_RO cd_at_RO ct_at_RO : Value} (l_at_RO : K.lookup f_at_RO = some ⟨oc_at_RO, od_at_RO, .func (fnOf "at" "Root.at" (defArgs sQAtM) (defBody sQAtM) (defScope sQAtM) .none kV_at_RO dc_at_RO pm_at_RO an_at_RO cd_at_RO ct_at_RO), sl_at_RO⟩)
    (c_at_RO : codeIn K cd_at_RO "Root.at" = true)
    (k_at_RO : keepIn K (.ref f_at_RO) = true)
    (a_CE : nsIn K mainGlobals "Exact" = some (some (.ref CE)))
    (up_RA : kitOne K (.ref RA) (.ref CE) = some true)
    (up_RO : kitOne K (.ref RO) (.ref CE) = some true)
    (a_C1 : nsIn K mainGlobals "BadContext" = some (some (.ref C1)))
    (a_C2 : nsIn K mainGlobals "BadNumber" = some (some (.ref C2)))
    (a_C3 : nsIn K mainGlobals "BadCount" = some (some (.ref C3)))
    (a_C4 : nsIn K mainGlobals "Trapped" = some (some (.ref C4)))
    (a_CR : nsIn K mainGlobals "ReckonError" = some (some (.ref CR)))
    (cty : typeIn K (.ref CR) = some (.type "type"))
    {dR : ClassData} (ccl : clsIn K CR = some dR)
    (cex : subIn K (.ref CR) (.type "BaseException") = some true)
    (q1 : excIn K C1 [.type "ValueError", .type "Exception", .type "BaseException", .type "object"] "ValueError.__new__" = true)
    (sub1 : subIn K (.ref C1) (.ref CR) = some true)
    (xga1 : findIn K (.ref C1) "__getattribute__" = some (some (.builtin "BaseException.__getattribute__")))
    (xgh1 : findIn K (.ref C1) "__getattr__" = some none)
    (xca1 : findIn K (.ref C1) "__class__" = some (some (.builtin "object.__class__")))
    (xob1 : mroIn K C1 (.type "object") = some true)
    (xbe1 : subIn K (.ref C1) (.type "BaseException") = some true)
    {d1 : ClassData} (xcl1 : clsIn K C1 = some d1)
    (h1_1 : kitOne K (.ref C1) (.ref C1) = some true)
    (h1_2 : kitOne K (.ref C1) (.ref C2) = some false)
    (h1_3 : kitOne K (.ref C1) (.ref C3) = some false)
    (h1_4 : kitOne K (.ref C1) (.ref C4) = some false)
    (hv1 : kitOne K (.ref C1) (.type "ValueError") = some true)
    (sub4 : subIn K (.ref C4) (.ref CR) = some true)
    (xga4 : findIn K (.ref C4) "__getattribute__" = some (some (.builtin "BaseException.__getattribute__")))
    (xgh4 : findIn K (.ref C4) "__getattr__" = some none)
    (xca4 : findIn K (.ref C4) "__class__" = some (some (.builtin "object.__class__")))
    (xob4 : mroIn K C4 (.type "object") = some true)
    (xbe4 : subIn K (.ref C4) (.type "BaseException") = some true)
    {d4 : ClassData} (xcl4 : clsIn K C4 = some d4)
    (h4_1 : kitOne K (.ref C4) (.ref C1) = some false)
    (h4_2 : kitOne K (.ref C4) (.ref C2) = some false)
    (h4_3 : kitOne K (.ref C4) (.ref C3) = some false)
    (h4_4 : kitOne K (.ref C4) (.ref C4) = some true)
    (hv4 : kitOne K (.ref C4) (.type "ValueError") = some true)
    {nmT qT : Str} {NT : Addr} {bsT bmT : List Value} {snT : List Str} {suT : List Value} {abT : Bool} {coT : Option Bool} {ddT : Option Addr} {kT0 kT1 kT2 kT3 kT5 : Option Value} (lT : K.lookup C4 = some (excClassObj nmT qT C4 NT bsT bmT true snT suT abT coT ddT kT0 kT1 kT2 kT3 kT5 "ValueError.__new__"))
    {ocN : Value} {odN : Option Addr} {esN : Array DictEntry} {epN : Nat} {slN : Array (Option Value)} (lN : K.lookup NT = some ⟨ocN, odN, .dict esN epN, slN⟩)
    (alN : (esN.all fun e => match e.key with | .str _ _ => true | _ => false) = true)
    (niT : nsIn K NT "__init__" = some (some (.ref fX)))
    {nmU qU : Str} {NU : Addr} {bsU : List Value} {snU : List Str} {suU : List Value} {abU : Bool} {coU : Option Bool} {ddU : Option Addr} {kU0 kU1 kU2 kU3 kU5 : Option Value} (lT1 : K.lookup C1 = some (excClassObj nmU qU C1 NU bsU bmT true snU suU abU coU ddU kU0 kU1 kU2 kU3 kU5 "ValueError.__new__"))
    (saT : findIn K (.ref C4) "__setattr__" = some (some (.builtin "object.__setattr__")))
    (nsg4 : findIn K (.ref C4) "signal" = some none)
    {od_iT an_iT : Option Addr} {sl_iT : Array (Option Value)} {oc_iT kV_iT dc_iT pm_iT cd_iT ct_iT : Value} (l_iT : K.lookup fX = some ⟨oc_iT, od_iT, .func (fnOf "__init__" "Trapped.__init__" (defArgs sTrInit) (defBody sTrInit) (defScope sTrInit) .none kV_iT dc_iT pm_iT an_iT cd_iT ct_iT), sl_iT⟩)
    (c_iT : codeIn K cd_iT "Trapped.__init__" = true)
    (k_iT : keepIn K (.ref fX) = true)
    (fcT : oc_iT = .type "function")
    (kTR : kitOne K (.ref C4) (.ref CR) = some true)
    (q2 : excIn K C2 [.type "ValueError", .type "Exception", .type "BaseException", .type "object"] "ValueError.__new__" = true)
    (q3 : excIn K C3 [.type "ValueError", .type "Exception", .type "BaseException", .type "object"] "ValueError.__new__" = true)
    (a_S : nsIn K mainGlobals "SIGNALS" = some (some (.ref aS)))
    {u0 u1 u2 u3 u4 u5 u6 : Tok} {nS : Nat} {odS : Option Addr} {slS : Array (Option Value)} (lS : K.lookup aS = some ⟨.type "tuple", odS, .seq #[.str "void" u0, .str "split" u1, .str "burst" u2, .str "sunk" u3, .str "faint" u4, .str "off" u5, .str "cut" u6] nS, slS⟩) :
    ∃ fd : FuncData, (∀ (s : Shared) (v : Value), BindsTo s fd ⟨[v], []⟩ [("_law_script", v)]) ∧ ∀ base : Heap, K.In base → base.Ns mainGlobals mg → FnOk l.prog w K mg base (CX1 l.prog w) 10 fa fd ["_law_script"] (spLaw K) := by
  have e := hfa.symm.trans (mg_of X G a_law)
  cases e
  have D_isb := def_mk (ps := ["thing", "least", "most"]) (st := sIsB) X G a_isb l_isb c_isb k_isb fun _ _ _ _ _ _ us hl => match us, hl with | [_, _, _], _ => rfl
  have D_between := def_mk (ps := ["thing", "least", "most"]) (st := sBetween) X G a_between l_between c_between k_between fun _ _ _ _ _ _ us hl => match us, hl with | [_, _, _], _ => rfl
  have D_needc := def_mk (ps := ["thing", "most"]) (st := sNeedC) X G a_needc l_needc c_needc k_needc fun _ _ _ _ _ _ us hl => match us, hl with | [_, _], _ => rfl
  have D_bounded := def_mk (ps := ["thing", "least", "most"]) (st := sBounded) X G a_bounded l_bounded c_bounded k_bounded fun _ _ _ _ _ _ us hl => match us, hl with | [_, _, _], _ => rfl
  have D_wayof := def_mk (ps := ["name"]) (st := sWayOf) X G a_wayof l_wayof c_wayof k_wayof fun _ _ _ _ _ _ us hl => match us, hl with | [_], _ => rfl
  have D_needs := def_mk (ps := ["names"]) (st := sNeedS) X G a_needs l_needs c_needs k_needs fun _ _ _ _ _ _ us hl => match us, hl with | [_], _ => rfl
  have D_inord := def_mk (ps := ["names"]) (st := sInOrd) X G a_inord l_inord c_inord k_inord fun _ _ _ _ _ _ us hl => match us, hl with | [_], _ => rfl
  have D_plain := def_mk (ps := ["sign", "figures", "power"]) (st := sPlain) X G a_plain l_plain c_plain k_plain fun _ _ _ _ _ _ us hl => match us, hl with | [_, _, _], _ => rfl
  have D_end := def_mk (ps := ["sign"]) (st := sEnd) X G a_end l_end c_end k_end fun _ _ _ _ _ _ us hl => match us, hl with | [_], _ => rfl
  have D_nothing := def_mk (ps := []) (st := sNothing) X G a_nothing l_nothing c_nothing k_nothing fun _ _ _ _ _ _ us hl => match us, hl with | [], _ => rfl
  have D_told := def_mk (ps := ["number"]) (st := sTold) X G a_told l_told c_told k_told fun _ _ _ _ _ _ us hl => match us, hl with | [_], _ => rfl
  have D_needn := def_mk (ps := ["thing"]) (st := sNeedN) X G a_needn l_needn c_needn k_needn fun _ _ _ _ _ _ us hl => match us, hl with | [_], _ => rfl
  have D_neednums := def_mk (ps := ["things"]) (st := sNeedNs) X G a_neednums l_neednums c_neednums k_neednums fun _ _ _ _ _ _ us hl => match us, hl with | [_], _ => rfl
  have D_somek := def_mk (ps := ["numbers", "kind"]) (st := sSomeK) X G a_somek l_somek c_somek k_somek fun _ _ _ _ _ _ us hl => match us, hl with | [_, _], _ => rfl
  have D_unlike := def_mk (ps := ["one", "other"]) (st := sUnlike) X G a_unlike l_unlike c_unlike k_unlike fun _ _ _ _ _ _ us hl => match us, hl with | [_, _], _ => rfl
  have D_lead := def_mk (ps := ["number"]) (st := sLead) X G a_lead l_lead c_lead k_lead fun _ _ _ _ _ _ us hl => match us, hl with | [_], _ => rfl
  have D_productof := def_mk (ps := ["whole", "count"]) (st := sProductOf) X G a_productof l_productof c_productof k_productof fun _ _ _ _ _ _ us hl => match us, hl with | [_, _], _ => rfl
  have D_tento := def_mk (ps := ["count"]) (st := sTenTo) X G a_tento l_tento c_tento k_tento fun _ _ _ _ _ _ us hl => match us, hl with | [_], _ => rfl
  have D_partof := def_mk (ps := ["size", "middle"]) (st := sPartOf) X G a_partof l_partof c_partof k_partof fun _ _ _ _ _ _ us hl => match us, hl with | [_, _], _ => rfl
  have D_wlead := def_mk (ps := ["whole"]) (st := sWLead) X G a_wlead l_wlead c_wlead k_wlead fun _ _ _ _ _ _ us hl => match us, hl with | [_], _ => rfl
  have D_wroot := def_mk (ps := ["whole"]) (st := sWRoot) X G a_wroot l_wroot c_wroot k_wroot fun _ _ _ _ _ _ us hl => match us, hl with | [_], _ => rfl
  have D_settled := def_mk (ps := ["context", "sign", "exact", "ideal"]) (st := sSettled) X G a_settled l_settled c_settled k_settled fun _ _ _ _ _ _ us hl => match us, hl with | [_, _, _, _], _ => rfl
  have D_finest := def_mk (ps := ["context", "exact"]) (st := sFinest) X G a_finest l_finest c_finest k_finest fun _ _ _ _ _ _ us hl => match us, hl with | [_, _], _ => rfl
  have D_nearest := def_mk (ps := ["ideal", "sign", "figures", "power"]) (st := sNearest) X G a_nearest l_nearest c_nearest k_nearest fun _ _ _ _ _ _ us hl => match us, hl with | [_, _, _, _], _ => rfl
  have D_neighbour := def_mk (ps := ["context", "sign", "pair"]) (st := sNeighbour) X G a_neighbour l_neighbour c_neighbour k_neighbour fun _ _ _ _ _ _ us hl => match us, hl with | [_, _, _], _ => rfl
  have D_within := def_mk (ps := ["context", "sign", "figures", "power"]) (st := sWithin) X G a_within l_within c_within k_within fun _ _ _ _ _ _ us hl => match us, hl with | [_, _, _, _], _ => rfl
  have D_beyond := def_mk (ps := ["context", "number"]) (st := sBeyond) X G a_beyond l_beyond c_beyond k_beyond fun _ _ _ _ _ _ us hl => match us, hl with | [_, _], _ => rfl
  have D_burst := def_mk (ps := ["context", "sign"]) (st := sBurst) X G a_burst l_burst c_burst k_burst fun _ _ _ _ _ _ us hl => match us, hl with | [_, _], _ => rfl
  have D_nines := def_mk (ps := ["context", "sign"]) (st := sNines) X G a_nines l_nines c_nines k_nines fun _ _ _ _ _ _ us hl => match us, hl with | [_, _], _ => rfl
  have D_sigrest := def_mk (ps := ["part", "is_cut"]) (st := sSigRest) X G a_sigrest l_sigrest c_sigrest k_sigrest fun _ _ _ _ _ _ us hl => match us, hl with | [_, _], _ => rfl
  have D_siglead := def_mk (ps := ["context", "lead", "part"]) (st := sSigLead) X G a_siglead l_siglead c_siglead k_siglead fun _ _ _ _ _ _ us hl => match us, hl with | [_, _, _], _ => rfl
  have D_nought := def_mk (ps := ["context", "sign", "ideal"]) (st := sNought) X G a_nought l_nought c_nought k_nought fun _ _ _ _ _ _ us hl => match us, hl with | [_, _, _], _ => rfl
  have D_void := def_mk (ps := ["context"]) (st := sVoid) X G a_void l_void c_void k_void fun _ _ _ _ _ _ us hl => match us, hl with | [_], _ => rfl
  have D_split := def_mk (ps := ["context", "sign"]) (st := sSplit) X G a_split l_split c_split k_split fun _ _ _ _ _ _ us hl => match us, hl with | [_, _], _ => rfl
  have D_rounded := def_mk (ps := ["context", "number"]) (st := sRounded) X G a_rounded l_rounded c_rounded k_rounded fun _ _ _ _ _ _ us hl => match us, hl with | [_, _], _ => rfl
  have D_root := def_mk (ps := ["context", "one"]) (st := sRoot) X G a_root l_root c_root k_root fun _ _ _ _ _ _ us hl => match us, hl with | [_, _], _ => rfl
  have D_power := def_mk (ps := ["context", "one", "count"]) (st := sPower) X G a_power l_power c_power k_power fun _ _ _ _ _ _ us hl => match us, hl with | [_, _, _], _ => rfl
  have D_powend := def_mk (ps := ["context", "sign", "count"]) (st := sPowEnd) X G a_powend l_powend c_powend k_powend fun _ _ _ _ _ _ us hl => match us, hl with | [_, _, _], _ => rfl
  have D_pown := def_mk (ps := ["context", "sign", "power", "count"]) (st := sPowNought) X G a_pown l_pown c_pown k_pown fun _ _ _ _ _ _ us hl => match us, hl with | [_, _, _, _], _ => rfl
  have D_over := def_mk (ps := ["context", "one", "other"]) (st := sOver) X G a_over l_over c_over k_over fun _ _ _ _ _ _ us hl => match us, hl with | [_, _, _], _ => rfl
  have D_hasq := def_mk (ps := ["one", "other"]) (st := sHasQ) X G a_hasq l_hasq c_hasq k_hasq fun _ _ _ _ _ _ us hl => match us, hl with | [_, _], _ => rfl
  have D_oddq := def_mk (ps := ["context", "one", "other", "ideal"]) (st := sOddQ) X G a_oddq l_oddq c_oddq k_oddq fun _ _ _ _ _ _ us hl => match us, hl with | [_, _, _, _], _ => rfl
  have D_times := def_mk (ps := ["context", "one", "other"]) (st := sTimes) X G a_times l_times c_times k_times fun _ _ _ _ _ _ us hl => match us, hl with | [_, _, _], _ => rfl
  have D_isnought := def_mk (ps := ["number"]) (st := sIsNought) X G a_isnought l_isnought c_isnought k_isnought fun _ _ _ _ _ _ us hl => match us, hl with | [_], _ => rfl
  have D_endbyn := def_mk (ps := ["one", "other"]) (st := sEndByN) X G a_endbyn l_endbyn c_endbyn k_endbyn fun _ _ _ _ _ _ us hl => match us, hl with | [_, _], _ => rfl
  have D_product := def_mk (ps := ["one", "other"]) (st := sProduct) X G a_product l_product c_product k_product fun _ _ _ _ _ _ us hl => match us, hl with | [_, _], _ => rfl
  have D_cell := def_mk (ps := ["_law_script", "_law_k"]) (st := sCell) X G a_cell l_cell c_cell k_cell fun _ _ _ _ _ _ us hl => match us, hl with | [_, _], _ => rfl
  have D_mixed := def_mk (ps := ["_law_cell", "_law_k"]) (st := sMixed) X G a_mixed l_mixed c_mixed k_mixed fun _ _ _ _ _ _ us hl => match us, hl with | [_, _], _ => rfl
  have D_together := def_mk (ps := ["_law_context", "_law_one", "_law_first", "_law_second"]) (st := sTogether) X G a_together l_together c_together k_together fun _ _ _ _ _ _ us hl => match us, hl with | [_, _, _, _], _ => rfl
  have D_quo := def_mk (ps := ["_law_contexts", "_law_one", "_law_count"]) (st := sQuo) X G a_quo l_quo c_quo k_quo fun _ _ _ _ _ _ us hl => match us, hl with | [_, _, _], _ => rfl
  have D_law := def_mk (ps := ["_law_script"]) (st := sLaw) X G a_law l_law c_law k_law fun _ _ _ _ _ _ us hl => match us, hl with | [_], _ => rfl
  have O : Own mg := ⟨mg_none_of X G z_isinstance, mg_none_of X G z_int, mg_none_of X G z_bool, mg_none_of X G z_str, mg_none_of X G z_list, mg_none_of X G z_tuple, mg_none_of X G z_dict, mg_none_of X G z_len, mg_none_of X G z_range, mg_none_of X G z_min, mg_none_of X G z_max, mg_none_of X G z_abs, mg_none_of X G z_any, mg_none_of X G z_all, mg_none_of X G z_sum, mg_none_of X G z_repr, mg_none_of X G z_enumerate, mg_none_of X G z_reversed, mg_none_of X G z_zip, mg_none_of X G z_sorted, mg_none_of X G z_divmod, mg_none_of X G z_set, mg_none_of X G z_ValueError⟩
  have T : Kit K := ⟨kt_int_int, kt_int_bool, kt_int_str, kt_int_list, kt_int_tuple, kt_int_dict, kt_bool_int, kt_bool_bool, kt_bool_str, kt_bool_list, kt_bool_tuple, kt_bool_dict, kt_str_int, kt_str_bool, kt_str_str, kt_str_list, kt_str_tuple, kt_str_dict, kt_list_int, kt_list_bool, kt_list_str, kt_list_list, kt_list_tuple, kt_list_dict, kt_tuple_int, kt_tuple_bool, kt_tuple_str, kt_tuple_list, kt_tuple_tuple, kt_tuple_dict, kt_dict_int, kt_dict_bool, kt_dict_str, kt_dict_list, kt_dict_tuple, kt_dict_dict, kt_NoneType_int, kt_NoneType_bool, kt_NoneType_str, kt_NoneType_list, kt_NoneType_tuple, kt_NoneType_dict⟩
  have cl_W0 : Cls K W0 := ⟨pg_W0, hd_W0, po_W0, sa_W0⟩
  have M0_W0 : Mk0 K W0 := ⟨mk_W0, aI_W0, kc_W0⟩
  have F_name_W0 := fun_mk (st := sN0) l_name_W0 c_name_W0 k_name_W0
  have b_name_W0 := F_name_W0.binds (ps := ["self"]) fun _ _ _ _ _ _ us hl => match us, hl with | [_], _ => rfl
  have me_name_W0 : Meth K W0 "name" f_name_W0 := ⟨m_name_W0, i_name_W0, k_name_W0⟩
  have WC0 : WayC K mg "Down" W0 CW := ⟨mg_of X G a_W0, cl_W0, M0_W0, ca_W0, sn, tk, ob_W0, up_W0⟩
  have cl_W1 : Cls K W1 := ⟨pg_W1, hd_W1, po_W1, sa_W1⟩
  have M0_W1 : Mk0 K W1 := ⟨mk_W1, aI_W1, kc_W1⟩
  have F_name_W1 := fun_mk (st := sN1) l_name_W1 c_name_W1 k_name_W1
  have b_name_W1 := F_name_W1.binds (ps := ["self"]) fun _ _ _ _ _ _ us hl => match us, hl with | [_], _ => rfl
  have me_name_W1 : Meth K W1 "name" f_name_W1 := ⟨m_name_W1, i_name_W1, k_name_W1⟩
  have WC1 : WayC K mg "Up" W1 CW := ⟨mg_of X G a_W1, cl_W1, M0_W1, ca_W1, sn, tk, ob_W1, up_W1⟩
  have cl_W2 : Cls K W2 := ⟨pg_W2, hd_W2, po_W2, sa_W2⟩
  have M0_W2 : Mk0 K W2 := ⟨mk_W2, aI_W2, kc_W2⟩
  have F_name_W2 := fun_mk (st := sN2) l_name_W2 c_name_W2 k_name_W2
  have b_name_W2 := F_name_W2.binds (ps := ["self"]) fun _ _ _ _ _ _ us hl => match us, hl with | [_], _ => rfl
  have me_name_W2 : Meth K W2 "name" f_name_W2 := ⟨m_name_W2, i_name_W2, k_name_W2⟩
  have WC2 : WayC K mg "Floor" W2 CW := ⟨mg_of X G a_W2, cl_W2, M0_W2, ca_W2, sn, tk, ob_W2, up_W2⟩
  have cl_W3 : Cls K W3 := ⟨pg_W3, hd_W3, po_W3, sa_W3⟩
  have M0_W3 : Mk0 K W3 := ⟨mk_W3, aI_W3, kc_W3⟩
  have F_name_W3 := fun_mk (st := sN3) l_name_W3 c_name_W3 k_name_W3
  have b_name_W3 := F_name_W3.binds (ps := ["self"]) fun _ _ _ _ _ _ us hl => match us, hl with | [_], _ => rfl
  have me_name_W3 : Meth K W3 "name" f_name_W3 := ⟨m_name_W3, i_name_W3, k_name_W3⟩
  have WC3 : WayC K mg "Ceiling" W3 CW := ⟨mg_of X G a_W3, cl_W3, M0_W3, ca_W3, sn, tk, ob_W3, up_W3⟩
  have cl_W4 : Cls K W4 := ⟨pg_W4, hd_W4, po_W4, sa_W4⟩
  have M0_W4 : Mk0 K W4 := ⟨mk_W4, aI_W4, kc_W4⟩
  have F_name_W4 := fun_mk (st := sN4) l_name_W4 c_name_W4 k_name_W4
  have b_name_W4 := F_name_W4.binds (ps := ["self"]) fun _ _ _ _ _ _ us hl => match us, hl with | [_], _ => rfl
  have me_name_W4 : Meth K W4 "name" f_name_W4 := ⟨m_name_W4, i_name_W4, k_name_W4⟩
  have WC4 : WayC K mg "HalfUp" W4 CW := ⟨mg_of X G a_W4, cl_W4, M0_W4, ca_W4, sn, tk, ob_W4, up_W4⟩
  have cl_W5 : Cls K W5 := ⟨pg_W5, hd_W5, po_W5, sa_W5⟩
  have M0_W5 : Mk0 K W5 := ⟨mk_W5, aI_W5, kc_W5⟩
  have F_name_W5 := fun_mk (st := sN5) l_name_W5 c_name_W5 k_name_W5
  have b_name_W5 := F_name_W5.binds (ps := ["self"]) fun _ _ _ _ _ _ us hl => match us, hl with | [_], _ => rfl
  have me_name_W5 : Meth K W5 "name" f_name_W5 := ⟨m_name_W5, i_name_W5, k_name_W5⟩
  have WC5 : WayC K mg "HalfDown" W5 CW := ⟨mg_of X G a_W5, cl_W5, M0_W5, ca_W5, sn, tk, ob_W5, up_W5⟩
  have cl_W6 : Cls K W6 := ⟨pg_W6, hd_W6, po_W6, sa_W6⟩
  have M0_W6 : Mk0 K W6 := ⟨mk_W6, aI_W6, kc_W6⟩
  have F_name_W6 := fun_mk (st := sN6) l_name_W6 c_name_W6 k_name_W6
  have b_name_W6 := F_name_W6.binds (ps := ["self"]) fun _ _ _ _ _ _ us hl => match us, hl with | [_], _ => rfl
  have me_name_W6 : Meth K W6 "name" f_name_W6 := ⟨m_name_W6, i_name_W6, k_name_W6⟩
  have WC6 : WayC K mg "HalfEven" W6 CW := ⟨mg_of X G a_W6, cl_W6, M0_W6, ca_W6, sn, tk, ob_W6, up_W6⟩
  have cl_W7 : Cls K W7 := ⟨pg_W7, hd_W7, po_W7, sa_W7⟩
  have M0_W7 : Mk0 K W7 := ⟨mk_W7, aI_W7, kc_W7⟩
  have F_name_W7 := fun_mk (st := sN7) l_name_W7 c_name_W7 k_name_W7
  have b_name_W7 := F_name_W7.binds (ps := ["self"]) fun _ _ _ _ _ _ us hl => match us, hl with | [_], _ => rfl
  have me_name_W7 : Meth K W7 "name" f_name_W7 := ⟨m_name_W7, i_name_W7, k_name_W7⟩
  have WC7 : WayC K mg "FiveUp" W7 CW := ⟨mg_of X G a_W7, cl_W7, M0_W7, ca_W7, sn, tk, ob_W7, up_W7⟩
  let cw : Wy → Addr := fun y => match y with | .down => W0 | .up => W1 | .floor => W2 | .ceiling => W3 | .halfUp => W4 | .halfDown => W5 | .halfEven => W6 | .fiveUp => W7
  have W : ∀ y : Wy, WayC K mg y.cls (cw y) CW := fun y => match y with | .down => WC0 | .up => WC1 | .floor => WC2 | .ceiling => WC3 | .halfUp => WC4 | .halfDown => WC5 | .halfEven => WC6 | .fiveUp => WC7
  have cl_CN : Cls K CN := ⟨pg_CN, hd_CN, po_CN, sa_CN⟩
  have FI_CN := fun_mk (st := sInit) l_iCN c_iCN k_iCN
  have bI_CN := FI_CN.binds (ps := ["self", "kind", "sign", "figures", "power"]) fun _ _ _ _ _ _ us hl => match us, hl with | [_, _, _, _, _], _ => rfl
  have M_CN : Mk K CN fI_CN := ⟨mk_CN, aI_CN, iI_CN, kc_CN⟩
  have N : Num K mg CN := ⟨mg_of X G a_CN, cl_CN, n_CN_kind, n_CN_sign, n_CN_figures, n_CN_power, ca_CN, sn, tk, ob_CN, self_CN⟩
  have F_goes_up_W0 := fun_mk (st := sU0) l_goes_up_W0 c_goes_up_W0 k_goes_up_W0
  have b_goes_up_W0 := F_goes_up_W0.binds (ps := ["self", "sign", "last", "part"]) fun _ _ _ _ _ _ us hl => match us, hl with | [_, _, _, _], _ => rfl
  have me_goes_up_W0 : Meth K W0 "goes_up" f_goes_up_W0 := ⟨m_goes_up_W0, i_goes_up_W0, k_goes_up_W0⟩
  have F_to_end_W0 := fun_mk (st := sT0) l_to_end_W0 c_to_end_W0 k_to_end_W0
  have b_to_end_W0 := F_to_end_W0.binds (ps := ["self", "sign"]) fun _ _ _ _ _ _ us hl => match us, hl with | [_, _], _ => rfl
  have me_to_end_W0 : Meth K W0 "to_end" f_to_end_W0 := ⟨m_to_end_W0, i_to_end_W0, k_to_end_W0⟩
  have F_goes_up_W1 := fun_mk (st := sU1) l_goes_up_W1 c_goes_up_W1 k_goes_up_W1
  have b_goes_up_W1 := F_goes_up_W1.binds (ps := ["self", "sign", "last", "part"]) fun _ _ _ _ _ _ us hl => match us, hl with | [_, _, _, _], _ => rfl
  have me_goes_up_W1 : Meth K W1 "goes_up" f_goes_up_W1 := ⟨m_goes_up_W1, i_goes_up_W1, k_goes_up_W1⟩
  have F_to_end_W1 := fun_mk (st := sT1) l_to_end_W1 c_to_end_W1 k_to_end_W1
  have b_to_end_W1 := F_to_end_W1.binds (ps := ["self", "sign"]) fun _ _ _ _ _ _ us hl => match us, hl with | [_, _], _ => rfl
  have me_to_end_W1 : Meth K W1 "to_end" f_to_end_W1 := ⟨m_to_end_W1, i_to_end_W1, k_to_end_W1⟩
  have F_goes_up_W2 := fun_mk (st := sU2) l_goes_up_W2 c_goes_up_W2 k_goes_up_W2
  have b_goes_up_W2 := F_goes_up_W2.binds (ps := ["self", "sign", "last", "part"]) fun _ _ _ _ _ _ us hl => match us, hl with | [_, _, _, _], _ => rfl
  have me_goes_up_W2 : Meth K W2 "goes_up" f_goes_up_W2 := ⟨m_goes_up_W2, i_goes_up_W2, k_goes_up_W2⟩
  have F_to_end_W2 := fun_mk (st := sT2) l_to_end_W2 c_to_end_W2 k_to_end_W2
  have b_to_end_W2 := F_to_end_W2.binds (ps := ["self", "sign"]) fun _ _ _ _ _ _ us hl => match us, hl with | [_, _], _ => rfl
  have me_to_end_W2 : Meth K W2 "to_end" f_to_end_W2 := ⟨m_to_end_W2, i_to_end_W2, k_to_end_W2⟩
  have F_goes_up_W3 := fun_mk (st := sU3) l_goes_up_W3 c_goes_up_W3 k_goes_up_W3
  have b_goes_up_W3 := F_goes_up_W3.binds (ps := ["self", "sign", "last", "part"]) fun _ _ _ _ _ _ us hl => match us, hl with | [_, _, _, _], _ => rfl
  have me_goes_up_W3 : Meth K W3 "goes_up" f_goes_up_W3 := ⟨m_goes_up_W3, i_goes_up_W3, k_goes_up_W3⟩
  have F_to_end_W3 := fun_mk (st := sT3) l_to_end_W3 c_to_end_W3 k_to_end_W3
  have b_to_end_W3 := F_to_end_W3.binds (ps := ["self", "sign"]) fun _ _ _ _ _ _ us hl => match us, hl with | [_, _], _ => rfl
  have me_to_end_W3 : Meth K W3 "to_end" f_to_end_W3 := ⟨m_to_end_W3, i_to_end_W3, k_to_end_W3⟩
  have F_goes_up_W4 := fun_mk (st := sU4) l_goes_up_W4 c_goes_up_W4 k_goes_up_W4
  have b_goes_up_W4 := F_goes_up_W4.binds (ps := ["self", "sign", "last", "part"]) fun _ _ _ _ _ _ us hl => match us, hl with | [_, _, _, _], _ => rfl
  have me_goes_up_W4 : Meth K W4 "goes_up" f_goes_up_W4 := ⟨m_goes_up_W4, i_goes_up_W4, k_goes_up_W4⟩
  have F_to_end_W4 := fun_mk (st := sT4) l_to_end_W4 c_to_end_W4 k_to_end_W4
  have b_to_end_W4 := F_to_end_W4.binds (ps := ["self", "sign"]) fun _ _ _ _ _ _ us hl => match us, hl with | [_, _], _ => rfl
  have me_to_end_W4 : Meth K W4 "to_end" f_to_end_W4 := ⟨m_to_end_W4, i_to_end_W4, k_to_end_W4⟩
  have F_goes_up_W5 := fun_mk (st := sU5) l_goes_up_W5 c_goes_up_W5 k_goes_up_W5
  have b_goes_up_W5 := F_goes_up_W5.binds (ps := ["self", "sign", "last", "part"]) fun _ _ _ _ _ _ us hl => match us, hl with | [_, _, _, _], _ => rfl
  have me_goes_up_W5 : Meth K W5 "goes_up" f_goes_up_W5 := ⟨m_goes_up_W5, i_goes_up_W5, k_goes_up_W5⟩
  have F_to_end_W5 := fun_mk (st := sT5) l_to_end_W5 c_to_end_W5 k_to_end_W5
  have b_to_end_W5 := F_to_end_W5.binds (ps := ["self", "sign"]) fun _ _ _ _ _ _ us hl => match us, hl with | [_, _], _ => rfl
  have me_to_end_W5 : Meth K W5 "to_end" f_to_end_W5 := ⟨m_to_end_W5, i_to_end_W5, k_to_end_W5⟩
  have F_goes_up_W6 := fun_mk (st := sU6) l_goes_up_W6 c_goes_up_W6 k_goes_up_W6
  have b_goes_up_W6 := F_goes_up_W6.binds (ps := ["self", "sign", "last", "part"]) fun _ _ _ _ _ _ us hl => match us, hl with | [_, _, _, _], _ => rfl
  have me_goes_up_W6 : Meth K W6 "goes_up" f_goes_up_W6 := ⟨m_goes_up_W6, i_goes_up_W6, k_goes_up_W6⟩
  have F_to_end_W6 := fun_mk (st := sT6) l_to_end_W6 c_to_end_W6 k_to_end_W6
  have b_to_end_W6 := F_to_end_W6.binds (ps := ["self", "sign"]) fun _ _ _ _ _ _ us hl => match us, hl with | [_, _], _ => rfl
  have me_to_end_W6 : Meth K W6 "to_end" f_to_end_W6 := ⟨m_to_end_W6, i_to_end_W6, k_to_end_W6⟩
  have F_goes_up_W7 := fun_mk (st := sU7) l_goes_up_W7 c_goes_up_W7 k_goes_up_W7
  have b_goes_up_W7 := F_goes_up_W7.binds (ps := ["self", "sign", "last", "part"]) fun _ _ _ _ _ _ us hl => match us, hl with | [_, _, _, _], _ => rfl
  have me_goes_up_W7 : Meth K W7 "goes_up" f_goes_up_W7 := ⟨m_goes_up_W7, i_goes_up_W7, k_goes_up_W7⟩
  have F_to_end_W7 := fun_mk (st := sT7) l_to_end_W7 c_to_end_W7 k_to_end_W7
  have b_to_end_W7 := F_to_end_W7.binds (ps := ["self", "sign"]) fun _ _ _ _ _ _ us hl => match us, hl with | [_, _], _ => rfl
  have me_to_end_W7 : Meth K W7 "to_end" f_to_end_W7 := ⟨m_to_end_W7, i_to_end_W7, k_to_end_W7⟩
  have cl_CC : Cls K CC := ⟨pg_CC, hd_CC, po_CC, sa_CC⟩
  have FI_CC := funD_mk (st := sCtxInit) l_iCC c_iCC k_iCC
  have M_CC : Mk K CC fI_CC := ⟨mk_CC, aI_CC, iI_CC, kc_CC⟩
  have F_flags_CC := fun_mk (st := sCtxFlags) l_flags_CC c_flags_CC k_flags_CC
  have b_flags_CC := F_flags_CC.binds (ps := ["self"]) fun _ _ _ _ _ _ us hl => match us, hl with | [_], _ => rfl
  have me_flags_CC : Meth K CC "flags" f_flags_CC := ⟨m_flags_CC, i_flags_CC, k_flags_CC⟩
  have F_lowest_CC := fun_mk (st := sCtxLow) l_lowest_CC c_lowest_CC k_lowest_CC
  have b_lowest_CC := F_lowest_CC.binds (ps := ["self"]) fun _ _ _ _ _ _ us hl => match us, hl with | [_], _ => rfl
  have me_lowest_CC : Meth K CC "lowest" f_lowest_CC := ⟨m_lowest_CC, i_lowest_CC, k_lowest_CC⟩
  have F_way_CC := fun_mk (st := sCtxWay) l_way_CC c_way_CC k_way_CC
  have b_way_CC := F_way_CC.binds (ps := ["self"]) fun _ _ _ _ _ _ us hl => match us, hl with | [_], _ => rfl
  have me_way_CC : Meth K CC "way" f_way_CC := ⟨m_way_CC, i_way_CC, k_way_CC⟩
  have F_clear_CC := fun_mk (st := sCtxClear) l_clear_CC c_clear_CC k_clear_CC
  have b_clear_CC := F_clear_CC.binds (ps := ["self"]) fun _ _ _ _ _ _ us hl => match us, hl with | [_], _ => rfl
  have me_clear_CC : Meth K CC "clear" f_clear_CC := ⟨m_clear_CC, i_clear_CC, k_clear_CC⟩
  have F_raised_CC := fun_mk (st := sCtxRaised) l_raised_CC c_raised_CC k_raised_CC
  have b_raised_CC := F_raised_CC.binds (ps := ["self", "names"]) fun _ _ _ _ _ _ us hl => match us, hl with | [_, _], _ => rfl
  have me_raised_CC : Meth K CC "raised" f_raised_CC := ⟨m_raised_CC, i_raised_CC, k_raised_CC⟩
  have cl_RA : Cls K RA := ⟨pg_RA, hd_RA, po_RA, sa_RA⟩
  have FI_RA := funD_mk (st := sRInit) l_iRA c_iRA k_iRA
  have M_RA : Mk K RA fI_RA := ⟨mk_RA, aI_RA, iI_RA, kc_RA⟩
  have F_first_RA := fun_mk (st := sRFirstM) l_first_RA c_first_RA k_first_RA
  have b_first_RA := F_first_RA.binds (ps := ["self"]) fun _ _ _ _ _ _ us hl => match us, hl with | [_], _ => rfl
  have me_first_RA : Meth K RA "first" f_first_RA := ⟨m_first_RA, i_first_RA, k_first_RA⟩
  have F_at_RA := fun_mk (st := sRAtM) l_at_RA c_at_RA k_at_RA
  have b_at_RA := F_at_RA.binds (ps := ["self", "power"]) fun _ _ _ _ _ _ us hl => match us, hl with | [_, _], _ => rfl
  have me_at_RA : Meth K RA "at" f_at_RA := ⟨m_at_RA, i_at_RA, k_at_RA⟩
  have cl_RO : Cls K RO := ⟨pg_RO, hd_RO, po_RO, sa_RO⟩
  have FI_RO := funD_mk (st := sQInit) l_iRO c_iRO k_iRO
  have M_RO : Mk K RO fI_RO := ⟨mk_RO, aI_RO, iI_RO, kc_RO⟩
  have F_first_RO := fun_mk (st := sQFirstM) l_first_RO c_first_RO k_first_RO
  have b_first_RO := F_first_RO.binds (ps := ["self"]) fun _ _ _ _ _ _ us hl => match us, hl with | [_], _ => rfl
  have me_first_RO : Meth K RO "first" f_first_RO := ⟨m_first_RO, i_first_RO, k_first_RO⟩
  have F_at_RO := fun_mk (st := sQAtM) l_at_RO c_at_RO k_at_RO
  have b_at_RO := F_at_RO.binds (ps := ["self", "power"]) fun _ _ _ _ _ _ us hl => match us, hl with | [_, _], _ => rfl
  have me_at_RO : Meth K RO "at" f_at_RO := ⟨m_at_RO, i_at_RO, k_at_RO⟩
  have xk1 : ExcK K C1 := ⟨xga1, xgh1, xca1, sn, tk, xob1, xbe1, by rw [xcl1]; rfl⟩
  have xk4 : ExcK K C4 := ⟨xga4, xgh4, xca4, sn, tk, xob4, xbe4, by rw [xcl4]; rfl⟩
  have nkT : nsOkIn K NT = true := by unfold nsOkIn; rw [lN]; exact alN
  have tlT : tailIn K veMro bmT = true := by
    have z := q1
    unfold excIn at z
    rw [lT1] at z
    simp only [excClassObj, Bool.and_eq_true] at z
    exact z.1.1.2
  have F_iT := fun_mk (st := sTrInit) l_iT c_iT k_iT
  have b_iT := F_iT.binds (ps := ["self", "signal"]) fun _ _ _ _ _ _ us hl => match us, hl with | [_, _], _ => rfl
  have XI4 : ExcI K C4 fX := ⟨⟨_, _, _, _, _, _, _, _, _, _, _, _, _, _, _, lT, nkT, niT, tlT⟩, ⟨_, l_iT, fcT⟩, saT, xob4⟩
  have SG : SigK K mg aS := ⟨mg_of X G a_S, ⟨_, lS, rfl⟩, fun H => .inr ⟨_, _, _, lS, rfl, rfl, line1000 (by show 7 ≤ 1000; decide), .cons ⟨_, rfl⟩ (.cons ⟨_, rfl⟩ (.cons ⟨_, rfl⟩ (.cons ⟨_, rfl⟩ (.cons ⟨_, rfl⟩ (.cons ⟨_, rfl⟩ (.cons ⟨_, rfl⟩ (.nil)))))))⟩⟩
  have C : CtxC K mg CC := ⟨mg_of X G a_CC, cl_CC, n_CC_room, n_CC_rule, n_CC_least, n_CC_most, n_CC_risen, n_CC_trapped⟩
  have B1 : Err K mg "BadContext" C1 := ⟨mg_of X G a_C1, q1⟩
  have B : Err K mg "BadNumber" C2 := ⟨mg_of X G a_C2, q2⟩
  have B3 : Err K mg "BadCount" C3 := ⟨mg_of X G a_C3, q3⟩
  have R : RatC K mg RA CE := ⟨mg_of X G a_RA, mg_of X G a_CE, cl_RA, n_RA_top, n_RA_bottom, n_RA_power, ca_RA, sn, tk, ob_RA, up_RA⟩
  have RQ : RooC K mg RO CE := ⟨mg_of X G a_RO, mg_of X G a_CE, cl_RO, n_RO_top, n_RO_power, ca_RO, sn, tk, ob_RO, up_RO⟩
  have b4 := bindsD (fd := fnOf "__init__" "Context.__init__" (defArgs sCtxInit) (defBody sCtxInit) (defScope sCtxInit) (.ref aD_CC) kV_iCC dc_iCC pm_iCC an_iCC cd_iCC ct_iCC) (ps := ["self", "room", "way", "least", "most"]) (ds := []) rfl lD_CC rfl fun us hl => by obtain ⟨a, b, c, d, e, rfl⟩ := len5 (lenD hl); exact ⟨_, rfl, rfl⟩
  have b2 := bindsD (fd := fnOf "__init__" "Context.__init__" (defArgs sCtxInit) (defBody sCtxInit) (defScope sCtxInit) (.ref aD_CC) kV_iCC dc_iCC pm_iCC an_iCC cd_iCC ct_iCC) (ps := ["self", "room", "way", "least", "most"]) (ds := [.none, .int 60 t3_CC]) rfl lD_CC rfl fun us hl => by obtain ⟨a, b, c, rfl⟩ := len3 (lenD hl); exact ⟨_, rfl, rfl⟩
  refine ⟨fnOf "law" "law" (defArgs sLaw) (defBody sLaw) (defScope sLaw) .none kV_law dc_law pm_law an_law cd_law ct_law, fun s v => .of_eq rfl, fun base _ _ => ?_⟩
  have WN : ∀ y : Wy, WayN l.prog w K mg base (cw y) y.name := fun y => match y with | .down => ⟨_, _, me_name_W0, ok_n0 F_name_W0, b_name_W0⟩ | .up => ⟨_, _, me_name_W1, ok_n1 F_name_W1, b_name_W1⟩ | .floor => ⟨_, _, me_name_W2, ok_n2 F_name_W2, b_name_W2⟩ | .ceiling => ⟨_, _, me_name_W3, ok_n3 F_name_W3, b_name_W3⟩ | .halfUp => ⟨_, _, me_name_W4, ok_n4 F_name_W4, b_name_W4⟩ | .halfDown => ⟨_, _, me_name_W5, ok_n5 F_name_W5, b_name_W5⟩ | .halfEven => ⟨_, _, me_name_W6, ok_n6 F_name_W6, b_name_W6⟩ | .fiveUp => ⟨_, _, me_name_W7, ok_n7 F_name_W7, b_name_W7⟩
  have U : ∀ y : Wy, WayU l.prog w K mg base (cw y) y := fun y => match y with | .down => ⟨_, _, me_goes_up_W0, ok_u0 F_goes_up_W0, b_goes_up_W0⟩ | .up => ⟨_, _, me_goes_up_W1, ok_u1 F_goes_up_W1, b_goes_up_W1⟩ | .floor => ⟨_, _, me_goes_up_W2, ok_u2 F_goes_up_W2, b_goes_up_W2⟩ | .ceiling => ⟨_, _, me_goes_up_W3, ok_u3 F_goes_up_W3, b_goes_up_W3⟩ | .halfUp => ⟨_, _, me_goes_up_W4, ok_u4 F_goes_up_W4, b_goes_up_W4⟩ | .halfDown => ⟨_, _, me_goes_up_W5, ok_u5 F_goes_up_W5, b_goes_up_W5⟩ | .halfEven => ⟨_, _, me_goes_up_W6, ok_u6 F_goes_up_W6, b_goes_up_W6⟩ | .fiveUp => ⟨_, _, me_goes_up_W7, ok_u7 F_goes_up_W7, b_goes_up_W7⟩
  have E2 : ∀ y : Wy, WayE l.prog w K mg base (cw y) y := fun y => match y with | .down => ⟨_, _, me_to_end_W0, ok_t0 F_to_end_W0, b_to_end_W0⟩ | .up => ⟨_, _, me_to_end_W1, ok_t1 F_to_end_W1, b_to_end_W1⟩ | .floor => ⟨_, _, me_to_end_W2, ok_t2 F_to_end_W2, b_to_end_W2⟩ | .ceiling => ⟨_, _, me_to_end_W3, ok_t3 F_to_end_W3, b_to_end_W3⟩ | .halfUp => ⟨_, _, me_to_end_W4, ok_t4 F_to_end_W4, b_to_end_W4⟩ | .halfDown => ⟨_, _, me_to_end_W5, ok_t5 F_to_end_W5, b_to_end_W5⟩ | .halfEven => ⟨_, _, me_to_end_W6, ok_t6 F_to_end_W6, b_to_end_W6⟩ | .fiveUp => ⟨_, _, me_to_end_W7, ok_t7 F_to_end_W7, b_to_end_W7⟩
  have Gb := ok_bounded (P := l.prog) (w := w) (base := base) D_bounded D_isb O T B1
  have Gw := ok_wayOf (P := l.prog) (w := w) (base := base) D_wayof O T B1 W
  have MC : Made26 l.prog w K mg base CC C1 fI_CC _ (.int 60 t3_CC) := ⟨⟨M_CC, ok_ctxInit FI_CC D_bounded D_wayof Gb Gw C W WN⟩, b4, b2, .cons rfl (.cons ⟨_, rfl⟩ .nil)⟩
  have MR : MakeR l.prog w K mg base RA fI_RA (fnOf "__init__" "Ratio.__init__" (defArgs sRInit) (defBody sRInit) (defScope sRInit) (.ref aD_RA) kV_iRA dc_iRA pm_iRA an_iRA cd_iRA ct_iRA) (.int 0 t0_RA) (fun us ws => match ws with | [a] => us ++ [a] | _ => []) (fun us ws => match ws with | [a] => us ++ [a] | _ => []) :=
    { m := M_RA
      g := ok_rInit FI_RA R
      b3 := bindsD rfl lD_RA rfl fun us hl => by obtain ⟨a, b, c, d, rfl⟩ := len4 (lenD hl); exact ⟨_, rfl, rfl⟩
      b2 := bindsD rfl lD_RA rfl fun us hl => by obtain ⟨a, b, c, rfl⟩ := len3 (lenD hl); exact ⟨_, rfl, rfl⟩
      r0 := ⟨_, rfl⟩
      kP := ⟨(fun s us ws XK hl => by
          rcases ws with _ | ⟨p, _ | ⟨q, t⟩⟩
          · cases hl
          · obtain ⟨a, b, c, rfl⟩ := len3 (lenD hl)
            exact binds_K XK rfl lD_RA rfl rfl rfl
          · cases hl), fun r z => match z with
        | .cons a .nil => r.append (.cons a .nil)
        | .nil => .nil
        | .cons _ (.cons _ _) => .nil⟩
      eP := fun _ _ _ _ => rfl }

  have MQ : MakeQ l.prog w K mg base RO fI_RO (fnOf "__init__" "Root.__init__" (defArgs sQInit) (defBody sQInit) (defScope sQInit) (.ref aD_RO) kV_iRO dc_iRO pm_iRO an_iRO cd_iRO ct_iRO) (.int 0 t0_RO) (fun us ws => match ws with | [a] => us ++ [a] | _ => []) (fun us ws => match ws with | [a] => us ++ [a] | _ => []) :=
    { m := M_RO
      g := ok_qInit FI_RO RQ
      b3 := bindsD rfl lD_RO rfl fun us hl => by obtain ⟨a, b, c, rfl⟩ := len3 (lenD hl); exact ⟨_, rfl, rfl⟩
      b2 := bindsD rfl lD_RO rfl fun us hl => by obtain ⟨a, b, rfl⟩ := len2 (lenD hl); exact ⟨_, rfl, rfl⟩
      r0 := ⟨_, rfl⟩
      kP := ⟨(fun s us ws XK hl => by
          rcases ws with _ | ⟨p, _ | ⟨q, t⟩⟩
          · cases hl
          · obtain ⟨a, b, rfl⟩ := len2 (lenD hl)
            exact binds_K XK rfl lD_RO rfl rfl rfl
          · cases hl), fun r z => match z with
        | .cons a .nil => r.append (.cons a .nil)
        | .nil => .nil
        | .cons _ (.cons _ _) => .nil⟩
      eP := fun _ _ _ => rfl }

  have M : MakeN l.prog w K mg base CN fI_CN _ := ⟨M_CN, ok_init FI_CN N, bI_CN⟩
  have Gn := ok_needS (P := l.prog) (w := w) (base := base) D_needs O T B1 SG
  have Go := ok_inOrd (P := l.prog) (w := w) (base := base) D_inord SG
  have GX := ok_trInit (P := l.prog) (w := w) (mg := mg) (base := base) F_iT XI4 nsg4
  have MF : Has l.prog w K mg base CC "flags" 1 ["self"] (spCtxFlags CC) := ⟨_, _, me_flags_CC, ok_ctxFlags F_flags_CC C O, b_flags_CC⟩
  have ML : Has l.prog w K mg base CC "lowest" 1 ["self"] (spCtxLow CC) := ⟨_, _, me_lowest_CC, ok_ctxLow F_lowest_CC C, b_lowest_CC⟩
  have MW : Has l.prog w K mg base CC "way" 2 ["self"] (spCtxWay CC cw) := ⟨_, _, me_way_CC, ok_ctxWay F_way_CC D_wayof Gw C, b_way_CC⟩
  have ME : Has l.prog w K mg base CC "clear" 1 ["self"] (spCtxClear CC) := ⟨_, _, me_clear_CC, ok_ctxClear F_clear_CC C, b_clear_CC⟩
  have MD : Has l.prog w K mg base CC "raised" 3 ["self", "names"] (spRaised K CC C1 C4) := ⟨_, _, me_raised_CC, ok_raised F_raised_CC D_needs Gn D_inord Go C (mg_of X G a_C4) XI4 GX b_iT, b_raised_CC⟩
  have CM : CtxM l.prog w K mg base CC C1 C4 CW cw := ⟨C, MW, ML, MD, W, U, E2⟩
  have Gneedn := ok_needN (P := l.prog) (w := w) (base := base) D_needn O T B N
  have Gneedns := ok_needNs (P := l.prog) (w := w) (base := base) D_neednums D_needn Gneedn
  have Gsomek := ok_someK (P := l.prog) (w := w) (base := base) D_somek O N
  have Gtold := ok_told (P := l.prog) (w := w) (base := base) D_told D_needn O T B N
  have Gplain := ok_plain (P := l.prog) (w := w) (base := base) D_plain D_between D_isb O T B N M
  have Gend := ok_end (P := l.prog) (w := w) (base := base) D_end D_between D_isb O T B N M
  have Gnothing := ok_nothing (P := l.prog) (w := w) (base := base) D_nothing N M
  have Glead := ok_lead (P := l.prog) (w := w) (base := base) D_lead O N
  have Gprod := ok_productOf (P := l.prog) (w := w) (base := base) D_productof
  have Gto := ok_tenTo (P := l.prog) (w := w) (base := base) D_tento D_productof Gprod
  have Gpart := ok_partOf (P := l.prog) (w := w) (base := base) D_partof
  have Gwl := ok_wLead (P := l.prog) (w := w) (base := base) D_wlead D_tento Gto
  have Gat := ok_rAt (P := l.prog) (w := w) (base := base) F_at_RA D_tento Gto D_partof Gpart R O
  have RM : RatM l.prog w K mg base RA f_first_RA f_at_RA _ _ := ⟨me_first_RA, ok_rFirst F_first_RA D_wlead Gwl me_at_RA Gat b_at_RA R, b_first_RA, me_at_RA, Gat, b_at_RA⟩
  have QM : RooM l.prog w K mg base RO f_first_RO f_at_RO _ _ := ⟨me_first_RO, ok_qFirst F_first_RO D_wlead Gwl RQ, b_first_RO, me_at_RO, ok_qAt F_at_RO D_tento Gto D_partof Gpart D_wroot (ok_wRoot D_wroot D_tento Gto D_wlead Gwl) RQ O, b_at_RO⟩
  have XR := ratM RM R
  have XQ := rooM QM RQ
  have Gnea := ok_nearest (P := l.prog) (w := w) (base := base) D_nearest N M
  have Gnei := ok_neighbour (P := l.prog) (w := w) (base := base) D_neighbour CM
  have Gwit := ok_within (P := l.prog) (w := w) (base := base) D_within D_tento Gto CM N M
  have Gbey := ok_beyond (P := l.prog) (w := w) (base := base) D_beyond D_lead Glead CM N
  have Gnin := ok_nines (P := l.prog) (w := w) (base := base) D_nines D_tento Gto CM N M
  have Gbur := ok_burst (P := l.prog) (w := w) (base := base) D_burst D_nines Gnin D_end Gend CM
  have Gsr := ok_sigRest (P := l.prog) (w := w) (base := base) D_sigrest
  have Gsl := ok_sigLead (P := l.prog) (w := w) (base := base) D_siglead CM
  have Gnou := ok_nought (P := l.prog) (w := w) (base := base) D_nought CM N M O
  have GsR := ok_settledX (CE := CE) (P := l.prog) (w := w) (base := base) D_settled D_finest (ok_finestX (CE := CE) D_finest CM XR O) D_nearest Gnea D_neighbour Gnei D_within Gwit D_beyond Gbey D_burst Gbur D_sigrest Gsr D_siglead Gsl CM XR N
  have GsQ := ok_settledX (CE := CE) (P := l.prog) (w := w) (base := base) D_settled D_finest (ok_finestX (CE := CE) D_finest CM XQ O) D_nearest Gnea D_neighbour Gnei D_within Gwit D_beyond Gbey D_burst Gbur D_sigrest Gsr D_siglead Gsl CM XQ N
  have Gset : FnOk l.prog w K mg base (CX1 l.prog w) 6 f_settled _ ["context", "sign", "exact", "ideal"] (spSettled CN CC C4 RA) := FnOk.weak (fun _ _ _ _ h => settled_rat h) GsR
  have Gset2 : FnOk l.prog w K mg base (CX1 l.prog w) 6 f_settled _ ["context", "sign", "exact", "ideal"] (spSettled2 CN CC C4 RA RO) := FnOk.both GsR GsQ
  have Grou := ok_rounded (P := l.prog) (w := w) (base := base) D_rounded D_needn Gneedn D_nought Gnou D_settled Gset CM MR R N
  have Gun := ok_unlike (P := l.prog) (w := w) (base := base) D_unlike N
  have Gtim := ok_times (P := l.prog) (w := w) (base := base) D_times D_neednums Gneedns D_somek Gsomek D_endbyn (ok_endByN D_endbyn D_somek Gsomek D_isnought) D_product (ok_prod D_product D_somek Gsomek D_unlike Gun D_end Gend N M) D_rounded Grou D_void D_nothing Gnothing
  have Gov := ok_over (P := l.prog) (w := w) (base := base) D_over D_neednums Gneedns D_somek Gsomek D_hasq (ok_hasQ D_hasq N) D_oddq D_unlike Gun D_nought Gnou D_settled Gset D_nothing Gnothing C ML N MR R
  have Gpow := ok_pow (P := l.prog) (w := w) (base := base) (CQ := RO) D_power D_needn Gneedn D_needc (ok_needC D_needc D_isb O T B3) D_nothing Gnothing D_powend D_pown (ok_powN D_pown D_void D_nought Gnou D_split) D_productof Gprod D_settled Gset N MR R O
  have Groot := ok_root (P := l.prog) (w := w) (base := base) D_root D_needn Gneedn D_nothing Gnothing D_nought Gnou D_void D_settled Gset2 N MQ RQ
  exact ok_law D_law D_cell (ok_cell D_cell O) D_mixed (ok_mixed D_mixed) D_plain Gplain D_together (ok_tog D_together D_power Gpow D_times Gtim D_root Groot D_told Gtold) D_quo (ok_quo D_quo D_power Gpow D_over Gov D_plain Gplain D_told Gtold MC C MF ME O) MC C MF O
theorem walk {l : OpenLaw} {q : Program} {loose : List Str} {XP : (Str → Option Value) → Heap → Prop} {YP : World → Heap → Prop} {d : DefRec} {K : Params → Frag} (hn : l.most = some 63) (hdf : d.params.defaults = [])
    (hY : ∀ (w : World) (h : Heap), YP w h → (K w.params).In h)
    (F : ∀ (w : World) (mg : Str → Option Value) (fa : Addr) (h : Heap), (K w.params).In h → h.Ns mainGlobals mg → mg d.name = some (.ref fa) →
      ∃ fd : FuncData, (∀ (s : Shared) (u : Value), BindsTo s fd ⟨[u], []⟩ [("_law_script", u)]) ∧ ∀ base : Heap, (K w.params).In base → base.Ns mainGlobals mg → FnOk l.prog w (K w.params) mg base (CX1 l.prog w) 10 fa fd ["_law_script"] ((spLaw (K w.params)))) :
    WalkO q loose XP YP l.row.toRowW d [] (fun f vs => PySem.call f vs) :=
  L2.walk_of (n := 63) (k := 10) (x := "_law_script") (CX := fun w => CX1 l.prog w) (sp := fun w => (spLaw (K w.params))) hn (by decide) hdf ⟨rfl, by decide, by decide⟩ hY F (fun _ _ a ns hl _ hS => ⟨a, ns, rfl, hl, hS, fun _ => rfl⟩) fun _ _ _ _ _ z => by
    obtain ⟨_, _, _, _, _, _, _, _, _, _, z, _⟩ := z
    exact z
end TR
set_option Elab.async false
set_option linter.all false
def PySem.W.Fast.tw18030925487119687644 : Unit := ()
def PySem.W.Fast.tw16552807233308628968 : Unit := ()
def PySem.W.Fast.tw1237591791472347596 : Unit := ()
def PySem.W.Fast.tw661457326441869253 : Unit := ()
def PySem.W.Fast.tw1375975338559293019 : Unit := ()
def PySem.W.Fast.tw11069116650447427749 : Unit := ()
def PySem.W.Fast.tw17193673847007008296 : Unit := ()
def PySem.W.Fast.tw10004303916823201086 : Unit := ()
def PySem.W.Fast.tw5266606358845763592 : Unit := ()
def PySem.W.Fast.tw10524531358311841965 : Unit := ()
def PySem.W.Fast.tw745909563101690310 : Unit := ()
def PySem.W.Fast.tw3568172676497048506 : Unit := ()
def PySem.W.Fast.tw8740587152414777333 : Unit := ()
def PySem.W.Fast.tw12415130224391116212 : Unit := ()
def PySem.W.Fast.tw3090141718707157180 : Unit := ()
def PySem.W.Fast.tw17825219985888674609 : Unit := ()
def PySem.W.Fast.tw10603682965449907267 : Unit := ()
def PySem.W.Fast.tw16945101005010850740 : Unit := ()
def PySem.W.Fast.tw12866356331123736089 : Unit := ()
def PySem.W.Fast.tw17532243350452633546 : Unit := ()
def PySem.W.Fast.tw14047305921859840132 : Unit := ()
def PySem.W.Fast.tw10536957550530852305 : Unit := ()
def PySem.W.Fast.tw7646120761095867018 : Unit := ()
def PySem.W.Fast.tw3827194578583921413 : Unit := ()
def PySem.W.Fast.tw18022725866576551162 : Unit := ()
def PySem.W.Fast.tw300303916442246139 : Unit := ()
def PySem.W.Fast.tw13713122761545177300 : Unit := ()
def PySem.W.Fast.tw5336379710506577687 : Unit := ()
def PySem.W.Fast.tw6313480663819137976 : Unit := ()
def PySem.W.Fast.tw17879600151947716060 : Unit := ()
def PySem.W.Fast.tw7307064323906726054 : Unit := ()
def PySem.W.Fast.tw2684840879832430486 : Unit := ()
def PySem.W.Fast.tw12896448871523582988 : Unit := ()
def PySem.W.Fast.tw3972997580301538690 : Unit := ()
def PySem.W.Fast.tw13533890889621583253 : Unit := ()
def PySem.W.Fast.tw17386260284631516584 : Unit := ()
def PySem.W.Fast.tw15381958468363647077 : Unit := ()
def PySem.W.Fast.tw15712056447538825545 : Unit := ()
def PySem.W.Fast.tw16310687546578964581 : Unit := ()
def PySem.W.Fast.tw10176598048962519852 : Unit := ()
def PySem.W.Fast.tw17025877007717386617 : Unit := ()
def PySem.W.Fast.tw2040063611852415738 : Unit := ()
def PySem.W.Fast.tw9268046467162756419 : Unit := ()
def PySem.W.Fast.tw13828713198846863835 : Unit := ()
def PySem.W.Fast.tw16590572941869254048 : Unit := ()
def PySem.W.Fast.tw1360775545444220714 : Unit := ()
def PySem.W.Fast.tw1164370886685053800 : Unit := ()
def PySem.W.Fast.tw17819726811555479787 : Unit := ()
def PySem.W.Fast.tw5955055947359573861 : Unit := ()
def PySem.W.Fast.tw5450024964402132725 : Unit := ()
def PySem.W.Fast.tw2606573811596336955 : Unit := ()
def PySem.W.Fast.tw2605907730217534370 : Unit := ()
def PySem.W.Fast.tw14352600947887300335 : Unit := ()
def PySem.W.Fast.tw17440565469427412945 : Unit := ()
def PySem.W.Fast.tw10375297635992171546 : Unit := ()
def PySem.W.Fast.tw8637296770513132777 : Unit := ()
def PySem.W.Fast.tw13202438555651032876 : Unit := ()
def PySem.W.Fast.tw4714772265333940717 : Unit := ()
def PySem.W.Fast.tw946252092934652339 : Unit := ()
def PySem.W.Fast.tw17041589860855648963 : Unit := ()
def PySem.W.Fast.tw16585781230421379251 : Unit := ()
def PySem.W.Fast.tw16207294804667818382 : Unit := ()
def PySem.W.Fast.tw11477188104890762770 : Unit := ()
def PySem.W.Fast.tw3976903566019985173 : Unit := ()
def PySem.W.Fast.tw14166236262330764256 : Unit := ()
def PySem.W.Fast.tw646227856770320604 : Unit := ()
def PySem.W.Fast.tw11734500685406004496 : Unit := ()
def PySem.W.Fast.tw5737497311263850723 : Unit := ()
def PySem.W.Fast.tw7363336241672584926 : Unit := ()
def PySem.W.Fast.tw12326230856279134688 : Unit := ()
def PySem.W.Fast.tw18388622231075426024 : Unit := ()
def PySem.W.Fast.tw2534348977176713740 : Unit := ()
open PySem PySem.W PyProof.Rows
set_option maxRecDepth 100000 in
set_option maxHeartbeats 0 in
theorem PySem.Challenge.cw_tenreckon_k26_whole_powers_holds : PySem.Challenge.rw_tenreckon_k26_whole_powers.Holds := by
  w_on; o_law; k_head; (case hw => w_witness2)
  k_fill
  refine TR.walk (l := PySem.Challenge.rw_tenreckon_k26_whole_powers) rfl rfl (fun w h Y => PySem.W.kIn_of Y) ?F
  case F =>
    intro w mg fa h KX G hmg
    refine' TR.all_mk KX G hmg ?a_isb ?l_isb ?c_isb ?k_isb ?a_between ?l_between ?c_between ?k_between ?a_needc ?l_needc ?c_needc ?k_needc ?a_bounded ?l_bounded ?c_bounded ?k_bounded ?a_wayof ?l_wayof ?c_wayof ?k_wayof ?a_needs ?l_needs ?c_needs ?k_needs ?a_inord ?l_inord ?c_inord ?k_inord ?a_plain ?l_plain ?c_plain ?k_plain ?a_end ?l_end ?c_end ?k_end ?a_nothing ?l_nothing ?c_nothing ?k_nothing ?a_told ?l_told ?c_told ?k_told ?a_needn ?l_needn ?c_needn ?k_needn ?a_neednums ?l_neednums ?c_neednums ?k_neednums ?a_somek ?l_somek ?c_somek ?k_somek ?a_unlike ?l_unlike ?c_unlike ?k_unlike ?a_lead ?l_lead ?c_lead ?k_lead ?a_productof ?l_productof ?c_productof ?k_productof ?a_tento ?l_tento ?c_tento ?k_tento ?a_partof ?l_partof ?c_partof ?k_partof ?a_wlead ?l_wlead ?c_wlead ?k_wlead ?a_wroot ?l_wroot ?c_wroot ?k_wroot ?a_settled ?l_settled ?c_settled ?k_settled ?a_finest ?l_finest ?c_finest ?k_finest ?a_nearest ?l_nearest ?c_nearest ?k_nearest ?a_neighbour ?l_neighbour ?c_neighbour ?k_neighbour ?a_within ?l_within ?c_within ?k_within ?a_beyond ?l_beyond ?c_beyond ?k_beyond ?a_burst ?l_burst ?c_burst ?k_burst ?a_nines ?l_nines ?c_nines ?k_nines ?a_sigrest ?l_sigrest ?c_sigrest ?k_sigrest ?a_siglead ?l_siglead ?c_siglead ?k_siglead ?a_nought ?l_nought ?c_nought ?k_nought ?a_void ?l_void ?c_void ?k_void ?a_split ?l_split ?c_split ?k_split ?a_rounded ?l_rounded ?c_rounded ?k_rounded ?a_root ?l_root ?c_root ?k_root ?a_power ?l_power ?c_power ?k_power ?a_powend ?l_powend ?c_powend ?k_powend ?a_pown ?l_pown ?c_pown ?k_pown ?a_over ?l_over ?c_over ?k_over ?a_hasq ?l_hasq ?c_hasq ?k_hasq ?a_oddq ?l_oddq ?c_oddq ?k_oddq ?a_times ?l_times ?c_times ?k_times ?a_isnought ?l_isnought ?c_isnought ?k_isnought ?a_endbyn ?l_endbyn ?c_endbyn ?k_endbyn ?a_product ?l_product ?c_product ?k_product ?a_cell ?l_cell ?c_cell ?k_cell ?a_mixed ?l_mixed ?c_mixed ?k_mixed ?a_together ?l_together ?c_together ?k_together ?a_quo ?l_quo ?c_quo ?k_quo ?a_law ?l_law ?c_law ?k_law ?z_isinstance ?z_int ?z_bool ?z_str ?z_list ?z_tuple ?z_dict ?z_len ?z_range ?z_min ?z_max ?z_abs ?z_any ?z_all ?z_sum ?z_repr ?z_enumerate ?z_reversed ?z_zip ?z_sorted ?z_divmod ?z_set ?z_ValueError ?kt_int_int ?kt_int_bool ?kt_int_str ?kt_int_list ?kt_int_tuple ?kt_int_dict ?kt_bool_int ?kt_bool_bool ?kt_bool_str ?kt_bool_list ?kt_bool_tuple ?kt_bool_dict ?kt_str_int ?kt_str_bool ?kt_str_str ?kt_str_list ?kt_str_tuple ?kt_str_dict ?kt_list_int ?kt_list_bool ?kt_list_str ?kt_list_list ?kt_list_tuple ?kt_list_dict ?kt_tuple_int ?kt_tuple_bool ?kt_tuple_str ?kt_tuple_list ?kt_tuple_tuple ?kt_tuple_dict ?kt_dict_int ?kt_dict_bool ?kt_dict_str ?kt_dict_list ?kt_dict_tuple ?kt_dict_dict ?kt_NoneType_int ?kt_NoneType_bool ?kt_NoneType_str ?kt_NoneType_list ?kt_NoneType_tuple ?kt_NoneType_dict ?sn ?tk ?a_CW ?a_W0 ?pg_W0 ?hd_W0 ?po_W0 ?sa_W0 ?mk_W0 ?kc_W0 ?ca_W0 ?ob_W0 ?aI_W0 ?up_W0 ?m_name_W0 ?i_name_W0 ?l_name_W0 ?c_name_W0 ?k_name_W0 ?a_W1 ?pg_W1 ?hd_W1 ?po_W1 ?sa_W1 ?mk_W1 ?kc_W1 ?ca_W1 ?ob_W1 ?aI_W1 ?up_W1 ?m_name_W1 ?i_name_W1 ?l_name_W1 ?c_name_W1 ?k_name_W1 ?a_W2 ?pg_W2 ?hd_W2 ?po_W2 ?sa_W2 ?mk_W2 ?kc_W2 ?ca_W2 ?ob_W2 ?aI_W2 ?up_W2 ?m_name_W2 ?i_name_W2 ?l_name_W2 ?c_name_W2 ?k_name_W2 ?a_W3 ?pg_W3 ?hd_W3 ?po_W3 ?sa_W3 ?mk_W3 ?kc_W3 ?ca_W3 ?ob_W3 ?aI_W3 ?up_W3 ?m_name_W3 ?i_name_W3 ?l_name_W3 ?c_name_W3 ?k_name_W3 ?a_W4 ?pg_W4 ?hd_W4 ?po_W4 ?sa_W4 ?mk_W4 ?kc_W4 ?ca_W4 ?ob_W4 ?aI_W4 ?up_W4 ?m_name_W4 ?i_name_W4 ?l_name_W4 ?c_name_W4 ?k_name_W4 ?a_W5 ?pg_W5 ?hd_W5 ?po_W5 ?sa_W5 ?mk_W5 ?kc_W5 ?ca_W5 ?ob_W5 ?aI_W5 ?up_W5 ?m_name_W5 ?i_name_W5 ?l_name_W5 ?c_name_W5 ?k_name_W5 ?a_W6 ?pg_W6 ?hd_W6 ?po_W6 ?sa_W6 ?mk_W6 ?kc_W6 ?ca_W6 ?ob_W6 ?aI_W6 ?up_W6 ?m_name_W6 ?i_name_W6 ?l_name_W6 ?c_name_W6 ?k_name_W6 ?a_W7 ?pg_W7 ?hd_W7 ?po_W7 ?sa_W7 ?mk_W7 ?kc_W7 ?ca_W7 ?ob_W7 ?aI_W7 ?up_W7 ?m_name_W7 ?i_name_W7 ?l_name_W7 ?c_name_W7 ?k_name_W7 ?a_CN ?pg_CN ?hd_CN ?po_CN ?sa_CN ?mk_CN ?kc_CN ?ca_CN ?ob_CN ?n_CN_kind ?n_CN_sign ?n_CN_figures ?n_CN_power ?aI_CN ?iI_CN ?l_iCN ?c_iCN ?k_iCN ?self_CN ?m_goes_up_W0 ?i_goes_up_W0 ?l_goes_up_W0 ?c_goes_up_W0 ?k_goes_up_W0 ?m_to_end_W0 ?i_to_end_W0 ?l_to_end_W0 ?c_to_end_W0 ?k_to_end_W0 ?m_goes_up_W1 ?i_goes_up_W1 ?l_goes_up_W1 ?c_goes_up_W1 ?k_goes_up_W1 ?m_to_end_W1 ?i_to_end_W1 ?l_to_end_W1 ?c_to_end_W1 ?k_to_end_W1 ?m_goes_up_W2 ?i_goes_up_W2 ?l_goes_up_W2 ?c_goes_up_W2 ?k_goes_up_W2 ?m_to_end_W2 ?i_to_end_W2 ?l_to_end_W2 ?c_to_end_W2 ?k_to_end_W2 ?m_goes_up_W3 ?i_goes_up_W3 ?l_goes_up_W3 ?c_goes_up_W3 ?k_goes_up_W3 ?m_to_end_W3 ?i_to_end_W3 ?l_to_end_W3 ?c_to_end_W3 ?k_to_end_W3 ?m_goes_up_W4 ?i_goes_up_W4 ?l_goes_up_W4 ?c_goes_up_W4 ?k_goes_up_W4 ?m_to_end_W4 ?i_to_end_W4 ?l_to_end_W4 ?c_to_end_W4 ?k_to_end_W4 ?m_goes_up_W5 ?i_goes_up_W5 ?l_goes_up_W5 ?c_goes_up_W5 ?k_goes_up_W5 ?m_to_end_W5 ?i_to_end_W5 ?l_to_end_W5 ?c_to_end_W5 ?k_to_end_W5 ?m_goes_up_W6 ?i_goes_up_W6 ?l_goes_up_W6 ?c_goes_up_W6 ?k_goes_up_W6 ?m_to_end_W6 ?i_to_end_W6 ?l_to_end_W6 ?c_to_end_W6 ?k_to_end_W6 ?m_goes_up_W7 ?i_goes_up_W7 ?l_goes_up_W7 ?c_goes_up_W7 ?k_goes_up_W7 ?m_to_end_W7 ?i_to_end_W7 ?l_to_end_W7 ?c_to_end_W7 ?k_to_end_W7 ?a_CC ?pg_CC ?hd_CC ?po_CC ?sa_CC ?mk_CC ?kc_CC ?n_CC_room ?n_CC_rule ?n_CC_least ?n_CC_most ?n_CC_risen ?n_CC_trapped ?aI_CC ?iI_CC ?l_iCC ?c_iCC ?k_iCC ?lD_CC ?m_flags_CC ?i_flags_CC ?l_flags_CC ?c_flags_CC ?k_flags_CC ?m_lowest_CC ?i_lowest_CC ?l_lowest_CC ?c_lowest_CC ?k_lowest_CC ?m_way_CC ?i_way_CC ?l_way_CC ?c_way_CC ?k_way_CC ?m_clear_CC ?i_clear_CC ?l_clear_CC ?c_clear_CC ?k_clear_CC ?m_raised_CC ?i_raised_CC ?l_raised_CC ?c_raised_CC ?k_raised_CC ?a_RA ?pg_RA ?hd_RA ?po_RA ?sa_RA ?mk_RA ?kc_RA ?ca_RA ?ob_RA ?n_RA_top ?n_RA_bottom ?n_RA_power ?aI_RA ?iI_RA ?l_iRA ?c_iRA ?k_iRA ?lD_RA ?m_first_RA ?i_first_RA ?l_first_RA ?c_first_RA ?k_first_RA ?m_at_RA ?i_at_RA ?l_at_RA ?c_at_RA ?k_at_RA ?a_RO ?pg_RO ?hd_RO ?po_RO ?sa_RO ?mk_RO ?kc_RO ?ca_RO ?ob_RO ?n_RO_top ?n_RO_power ?aI_RO ?iI_RO ?l_iRO ?c_iRO ?k_iRO ?lD_RO ?m_first_RO ?i_first_RO ?l_first_RO ?c_first_RO ?k_first_RO ?m_at_RO ?i_at_RO ?l_at_RO ?c_at_RO ?k_at_RO ?a_CE ?up_RA ?up_RO ?a_C1 ?a_C2 ?a_C3 ?a_C4 ?a_CR ?cty ?ccl ?cex ?q1 ?sub1 ?xga1 ?xgh1 ?xca1 ?xob1 ?xbe1 ?xcl1 ?h1_1 ?h1_2 ?h1_3 ?h1_4 ?hv1 ?sub4 ?xga4 ?xgh4 ?xca4 ?xob4 ?xbe4 ?xcl4 ?h4_1 ?h4_2 ?h4_3 ?h4_4 ?hv4 ?lT ?lN ?alN ?niT ?lT1 ?saT ?nsg4 ?l_iT ?c_iT ?k_iT ?fcT ?kTR ?q2 ?q3 ?a_S ?lS
    (case a_isb => k_is); (case l_isb => k_is); (case c_isb => k_is); (case k_isb => k_is); (case a_between => k_is); (case l_between => k_is); (case c_between => k_is); (case k_between => k_is)
    (case a_needc => k_is); (case l_needc => k_is); (case c_needc => k_is); (case k_needc => k_is); (case a_bounded => k_is); (case l_bounded => k_is); (case c_bounded => k_is); (case k_bounded => k_is)
    (case a_wayof => k_is); (case l_wayof => k_is); (case c_wayof => k_is); (case k_wayof => k_is); (case a_needs => k_is); (case l_needs => k_is); (case c_needs => k_is); (case k_needs => k_is)
    (case a_inord => k_is); (case l_inord => k_is); (case c_inord => k_is); (case k_inord => k_is); (case a_plain => k_is); (case l_plain => k_is); (case c_plain => k_is); (case k_plain => k_is)
    (case a_end => k_is); (case l_end => k_is); (case c_end => k_is); (case k_end => k_is); (case a_nothing => k_is); (case l_nothing => k_is); (case c_nothing => k_is); (case k_nothing => k_is)
    (case a_told => k_is); (case l_told => k_is); (case c_told => k_is); (case k_told => k_is); (case a_needn => k_is); (case l_needn => k_is); (case c_needn => k_is); (case k_needn => k_is)
    (case a_neednums => k_is); (case l_neednums => k_is); (case c_neednums => k_is); (case k_neednums => k_is); (case a_somek => k_is); (case l_somek => k_is); (case c_somek => k_is); (case k_somek => k_is)
    (case a_unlike => k_is); (case l_unlike => k_is); (case c_unlike => k_is); (case k_unlike => k_is); (case a_lead => k_is); (case l_lead => k_is); (case c_lead => k_is); (case k_lead => k_is)
    (case a_productof => k_is); (case l_productof => k_is); (case c_productof => k_is); (case k_productof => k_is); (case a_tento => k_is); (case l_tento => k_is); (case c_tento => k_is); (case k_tento => k_is)
    (case a_partof => k_is); (case l_partof => k_is); (case c_partof => k_is); (case k_partof => k_is); (case a_wlead => k_is); (case l_wlead => k_is); (case c_wlead => k_is); (case k_wlead => k_is)
    (case a_wroot => k_is); (case l_wroot => k_is); (case c_wroot => k_is); (case k_wroot => k_is); (case a_settled => k_is); (case l_settled => k_is); (case c_settled => k_is); (case k_settled => k_is)
    (case a_finest => k_is); (case l_finest => k_is); (case c_finest => k_is); (case k_finest => k_is); (case a_nearest => k_is); (case l_nearest => k_is); (case c_nearest => k_is); (case k_nearest => k_is)
    (case a_neighbour => k_is); (case l_neighbour => k_is); (case c_neighbour => k_is); (case k_neighbour => k_is); (case a_within => k_is); (case l_within => k_is); (case c_within => k_is); (case k_within => k_is)
    (case a_beyond => k_is); (case l_beyond => k_is); (case c_beyond => k_is); (case k_beyond => k_is); (case a_burst => k_is); (case l_burst => k_is); (case c_burst => k_is); (case k_burst => k_is)
    (case a_nines => k_is); (case l_nines => k_is); (case c_nines => k_is); (case k_nines => k_is); (case a_sigrest => k_is); (case l_sigrest => k_is); (case c_sigrest => k_is); (case k_sigrest => k_is)
    (case a_siglead => k_is); (case l_siglead => k_is); (case c_siglead => k_is); (case k_siglead => k_is); (case a_nought => k_is); (case l_nought => k_is); (case c_nought => k_is); (case k_nought => k_is)
    (case a_void => k_is); (case l_void => k_is); (case c_void => k_is); (case k_void => k_is); (case a_split => k_is); (case l_split => k_is); (case c_split => k_is); (case k_split => k_is)
    (case a_rounded => k_is); (case l_rounded => k_is); (case c_rounded => k_is); (case k_rounded => k_is); (case a_root => k_is); (case l_root => k_is); (case c_root => k_is); (case k_root => k_is)
    (case a_power => k_is); (case l_power => k_is); (case c_power => k_is); (case k_power => k_is); (case a_powend => k_is); (case l_powend => k_is); (case c_powend => k_is); (case k_powend => k_is)
    (case a_pown => k_is); (case l_pown => k_is); (case c_pown => k_is); (case k_pown => k_is); (case a_over => k_is); (case l_over => k_is); (case c_over => k_is); (case k_over => k_is)
    (case a_hasq => k_is); (case l_hasq => k_is); (case c_hasq => k_is); (case k_hasq => k_is); (case a_oddq => k_is); (case l_oddq => k_is); (case c_oddq => k_is); (case k_oddq => k_is)
    (case a_times => k_is); (case l_times => k_is); (case c_times => k_is); (case k_times => k_is); (case a_isnought => k_is); (case l_isnought => k_is); (case c_isnought => k_is); (case k_isnought => k_is)
    (case a_endbyn => k_is); (case l_endbyn => k_is); (case c_endbyn => k_is); (case k_endbyn => k_is); (case a_product => k_is); (case l_product => k_is); (case c_product => k_is); (case k_product => k_is)
    (case a_cell => k_is); (case l_cell => k_is); (case c_cell => k_is); (case k_cell => k_is); (case a_mixed => k_is); (case l_mixed => k_is); (case c_mixed => k_is); (case k_mixed => k_is)
    (case a_together => k_is); (case l_together => k_is); (case c_together => k_is); (case k_together => k_is); (case a_quo => k_is); (case l_quo => k_is); (case c_quo => k_is); (case k_quo => k_is)
    (case a_law => k_is); (case l_law => k_is); (case c_law => k_is); (case k_law => k_is); (case z_isinstance => k_is); (case z_int => k_is); (case z_bool => k_is); (case z_str => k_is)
    (case z_list => k_is); (case z_tuple => k_is); (case z_dict => k_is); (case z_len => k_is); (case z_range => k_is); (case z_min => k_is); (case z_max => k_is); (case z_abs => k_is)
    (case z_any => k_is); (case z_all => k_is); (case z_sum => k_is); (case z_repr => k_is); (case z_enumerate => k_is); (case z_reversed => k_is); (case z_zip => k_is); (case z_sorted => k_is)
    (case z_divmod => k_is); (case z_set => k_is); (case z_ValueError => k_is); (case kt_int_int => kit_is); (case kt_int_bool => kit_is); (case kt_int_str => kit_is); (case kt_int_list => kit_is); (case kt_int_tuple => kit_is)
    (case kt_int_dict => kit_is); (case kt_bool_int => kit_is); (case kt_bool_bool => kit_is); (case kt_bool_str => kit_is); (case kt_bool_list => kit_is); (case kt_bool_tuple => kit_is); (case kt_bool_dict => kit_is); (case kt_str_int => kit_is)
    (case kt_str_bool => kit_is); (case kt_str_str => kit_is); (case kt_str_list => kit_is); (case kt_str_tuple => kit_is); (case kt_str_dict => kit_is); (case kt_list_int => kit_is); (case kt_list_bool => kit_is); (case kt_list_str => kit_is)
    (case kt_list_list => kit_is); (case kt_list_tuple => kit_is); (case kt_list_dict => kit_is); (case kt_tuple_int => kit_is); (case kt_tuple_bool => kit_is); (case kt_tuple_str => kit_is); (case kt_tuple_list => kit_is); (case kt_tuple_tuple => kit_is)
    (case kt_tuple_dict => kit_is); (case kt_dict_int => kit_is); (case kt_dict_bool => kit_is); (case kt_dict_str => kit_is); (case kt_dict_list => kit_is); (case kt_dict_tuple => kit_is); (case kt_dict_dict => kit_is); (case kt_NoneType_int => kit_is)
    (case kt_NoneType_bool => kit_is); (case kt_NoneType_str => kit_is); (case kt_NoneType_list => kit_is); (case kt_NoneType_tuple => kit_is); (case kt_NoneType_dict => kit_is); (case sn => k_is); (case tk => k_is); (case a_CW => k_is)
    (case a_W0 => k_is); (case pg_W0 => k_is); (case hd_W0 => k_is); (case po_W0 => k_is); (case sa_W0 => k_is); (case mk_W0 => k_is); (case kc_W0 => k_is); (case ca_W0 => k_is)
    (case ob_W0 => k_is); (case aI_W0 => k_is); (case up_W0 => kit_is); (case m_name_W0 => k_is); (case i_name_W0 => k_is); (case l_name_W0 => k_is); (case c_name_W0 => k_is); (case k_name_W0 => k_is)
    (case a_W1 => k_is); (case pg_W1 => k_is); (case hd_W1 => k_is); (case po_W1 => k_is); (case sa_W1 => k_is); (case mk_W1 => k_is); (case kc_W1 => k_is); (case ca_W1 => k_is)
    (case ob_W1 => k_is); (case aI_W1 => k_is); (case up_W1 => kit_is); (case m_name_W1 => k_is); (case i_name_W1 => k_is); (case l_name_W1 => k_is); (case c_name_W1 => k_is); (case k_name_W1 => k_is)
    (case a_W2 => k_is); (case pg_W2 => k_is); (case hd_W2 => k_is); (case po_W2 => k_is); (case sa_W2 => k_is); (case mk_W2 => k_is); (case kc_W2 => k_is); (case ca_W2 => k_is)
    (case ob_W2 => k_is); (case aI_W2 => k_is); (case up_W2 => kit_is); (case m_name_W2 => k_is); (case i_name_W2 => k_is); (case l_name_W2 => k_is); (case c_name_W2 => k_is); (case k_name_W2 => k_is)
    (case a_W3 => k_is); (case pg_W3 => k_is); (case hd_W3 => k_is); (case po_W3 => k_is); (case sa_W3 => k_is); (case mk_W3 => k_is); (case kc_W3 => k_is); (case ca_W3 => k_is)
    (case ob_W3 => k_is); (case aI_W3 => k_is); (case up_W3 => kit_is); (case m_name_W3 => k_is); (case i_name_W3 => k_is); (case l_name_W3 => k_is); (case c_name_W3 => k_is); (case k_name_W3 => k_is)
    (case a_W4 => k_is); (case pg_W4 => k_is); (case hd_W4 => k_is); (case po_W4 => k_is); (case sa_W4 => k_is); (case mk_W4 => k_is); (case kc_W4 => k_is); (case ca_W4 => k_is)
    (case ob_W4 => k_is); (case aI_W4 => k_is); (case up_W4 => kit_is); (case m_name_W4 => k_is); (case i_name_W4 => k_is); (case l_name_W4 => k_is); (case c_name_W4 => k_is); (case k_name_W4 => k_is)
    (case a_W5 => k_is); (case pg_W5 => k_is); (case hd_W5 => k_is); (case po_W5 => k_is); (case sa_W5 => k_is); (case mk_W5 => k_is); (case kc_W5 => k_is); (case ca_W5 => k_is)
    (case ob_W5 => k_is); (case aI_W5 => k_is); (case up_W5 => kit_is); (case m_name_W5 => k_is); (case i_name_W5 => k_is); (case l_name_W5 => k_is); (case c_name_W5 => k_is); (case k_name_W5 => k_is)
    (case a_W6 => k_is); (case pg_W6 => k_is); (case hd_W6 => k_is); (case po_W6 => k_is); (case sa_W6 => k_is); (case mk_W6 => k_is); (case kc_W6 => k_is); (case ca_W6 => k_is)
    (case ob_W6 => k_is); (case aI_W6 => k_is); (case up_W6 => kit_is); (case m_name_W6 => k_is); (case i_name_W6 => k_is); (case l_name_W6 => k_is); (case c_name_W6 => k_is); (case k_name_W6 => k_is)
    (case a_W7 => k_is); (case pg_W7 => k_is); (case hd_W7 => k_is); (case po_W7 => k_is); (case sa_W7 => k_is); (case mk_W7 => k_is); (case kc_W7 => k_is); (case ca_W7 => k_is)
    (case ob_W7 => k_is); (case aI_W7 => k_is); (case up_W7 => kit_is); (case m_name_W7 => k_is); (case i_name_W7 => k_is); (case l_name_W7 => k_is); (case c_name_W7 => k_is); (case k_name_W7 => k_is)
    (case a_CN => k_is); (case pg_CN => k_is); (case hd_CN => k_is); (case po_CN => k_is); (case sa_CN => k_is); (case mk_CN => k_is); (case kc_CN => k_is); (case ca_CN => k_is)
    (case ob_CN => k_is); (case n_CN_kind => k_is); (case n_CN_sign => k_is); (case n_CN_figures => k_is); (case n_CN_power => k_is); (case aI_CN => k_is); (case iI_CN => k_is); (case l_iCN => k_is)
    (case c_iCN => k_is); (case k_iCN => k_is); (case self_CN => kit_is); (case m_goes_up_W0 => k_is); (case i_goes_up_W0 => k_is); (case l_goes_up_W0 => k_is); (case c_goes_up_W0 => k_is); (case k_goes_up_W0 => k_is)
    (case m_to_end_W0 => k_is); (case i_to_end_W0 => k_is); (case l_to_end_W0 => k_is); (case c_to_end_W0 => k_is); (case k_to_end_W0 => k_is); (case m_goes_up_W1 => k_is); (case i_goes_up_W1 => k_is); (case l_goes_up_W1 => k_is)
    (case c_goes_up_W1 => k_is); (case k_goes_up_W1 => k_is); (case m_to_end_W1 => k_is); (case i_to_end_W1 => k_is); (case l_to_end_W1 => k_is); (case c_to_end_W1 => k_is); (case k_to_end_W1 => k_is); (case m_goes_up_W2 => k_is)
    (case i_goes_up_W2 => k_is); (case l_goes_up_W2 => k_is); (case c_goes_up_W2 => k_is); (case k_goes_up_W2 => k_is); (case m_to_end_W2 => k_is); (case i_to_end_W2 => k_is); (case l_to_end_W2 => k_is); (case c_to_end_W2 => k_is)
    (case k_to_end_W2 => k_is); (case m_goes_up_W3 => k_is); (case i_goes_up_W3 => k_is); (case l_goes_up_W3 => k_is); (case c_goes_up_W3 => k_is); (case k_goes_up_W3 => k_is); (case m_to_end_W3 => k_is); (case i_to_end_W3 => k_is)
    (case l_to_end_W3 => k_is); (case c_to_end_W3 => k_is); (case k_to_end_W3 => k_is); (case m_goes_up_W4 => k_is); (case i_goes_up_W4 => k_is); (case l_goes_up_W4 => k_is); (case c_goes_up_W4 => k_is); (case k_goes_up_W4 => k_is)
    (case m_to_end_W4 => k_is); (case i_to_end_W4 => k_is); (case l_to_end_W4 => k_is); (case c_to_end_W4 => k_is); (case k_to_end_W4 => k_is); (case m_goes_up_W5 => k_is); (case i_goes_up_W5 => k_is); (case l_goes_up_W5 => k_is)
    (case c_goes_up_W5 => k_is); (case k_goes_up_W5 => k_is); (case m_to_end_W5 => k_is); (case i_to_end_W5 => k_is); (case l_to_end_W5 => k_is); (case c_to_end_W5 => k_is); (case k_to_end_W5 => k_is); (case m_goes_up_W6 => k_is)
    (case i_goes_up_W6 => k_is); (case l_goes_up_W6 => k_is); (case c_goes_up_W6 => k_is); (case k_goes_up_W6 => k_is); (case m_to_end_W6 => k_is); (case i_to_end_W6 => k_is); (case l_to_end_W6 => k_is); (case c_to_end_W6 => k_is)
    (case k_to_end_W6 => k_is); (case m_goes_up_W7 => k_is); (case i_goes_up_W7 => k_is); (case l_goes_up_W7 => k_is); (case c_goes_up_W7 => k_is); (case k_goes_up_W7 => k_is); (case m_to_end_W7 => k_is); (case i_to_end_W7 => k_is)
    (case l_to_end_W7 => k_is); (case c_to_end_W7 => k_is); (case k_to_end_W7 => k_is); (case a_CC => k_is); (case pg_CC => k_is); (case hd_CC => k_is); (case po_CC => k_is); (case sa_CC => k_is)
    (case mk_CC => k_is); (case kc_CC => k_is); (case n_CC_room => k_is); (case n_CC_rule => k_is); (case n_CC_least => k_is); (case n_CC_most => k_is); (case n_CC_risen => k_is); (case n_CC_trapped => k_is)
    (case aI_CC => k_is); (case iI_CC => k_is); (case l_iCC => k_is); (case c_iCC => k_is); (case k_iCC => k_is); (case lD_CC => k_is); (case m_flags_CC => k_is); (case i_flags_CC => k_is)
    (case l_flags_CC => k_is); (case c_flags_CC => k_is); (case k_flags_CC => k_is); (case m_lowest_CC => k_is); (case i_lowest_CC => k_is); (case l_lowest_CC => k_is); (case c_lowest_CC => k_is); (case k_lowest_CC => k_is)
    (case m_way_CC => k_is); (case i_way_CC => k_is); (case l_way_CC => k_is); (case c_way_CC => k_is); (case k_way_CC => k_is); (case m_clear_CC => k_is); (case i_clear_CC => k_is); (case l_clear_CC => k_is)
    (case c_clear_CC => k_is); (case k_clear_CC => k_is); (case m_raised_CC => k_is); (case i_raised_CC => k_is); (case l_raised_CC => k_is); (case c_raised_CC => k_is); (case k_raised_CC => k_is); (case a_RA => k_is)
    (case pg_RA => k_is); (case hd_RA => k_is); (case po_RA => k_is); (case sa_RA => k_is); (case mk_RA => k_is); (case kc_RA => k_is); (case ca_RA => k_is); (case ob_RA => k_is)
    (case n_RA_top => k_is); (case n_RA_bottom => k_is); (case n_RA_power => k_is); (case aI_RA => k_is); (case iI_RA => k_is); (case l_iRA => k_is); (case c_iRA => k_is); (case k_iRA => k_is)
    (case lD_RA => k_is); (case m_first_RA => k_is); (case i_first_RA => k_is); (case l_first_RA => k_is); (case c_first_RA => k_is); (case k_first_RA => k_is); (case m_at_RA => k_is); (case i_at_RA => k_is)
    (case l_at_RA => k_is); (case c_at_RA => k_is); (case k_at_RA => k_is); (case a_RO => k_is); (case pg_RO => k_is); (case hd_RO => k_is); (case po_RO => k_is); (case sa_RO => k_is)
    (case mk_RO => k_is); (case kc_RO => k_is); (case ca_RO => k_is); (case ob_RO => k_is); (case n_RO_top => k_is); (case n_RO_power => k_is); (case aI_RO => k_is); (case iI_RO => k_is)
    (case l_iRO => k_is); (case c_iRO => k_is); (case k_iRO => k_is); (case lD_RO => k_is); (case m_first_RO => k_is); (case i_first_RO => k_is); (case l_first_RO => k_is); (case c_first_RO => k_is)
    (case k_first_RO => k_is); (case m_at_RO => k_is); (case i_at_RO => k_is); (case l_at_RO => k_is); (case c_at_RO => k_is); (case k_at_RO => k_is); (case a_CE => k_is); (case up_RA => kit_is)
    (case up_RO => kit_is); (case a_C1 => k_is); (case a_C2 => k_is); (case a_C3 => k_is); (case a_C4 => k_is); (case a_CR => k_is); (case cty => k_is); (case ccl => k_is)
    (case cex => k_is); (case q1 => k_exc); (case sub1 => k_is); (case xga1 => k_is); (case xgh1 => k_is); (case xca1 => k_is); (case xob1 => k_is); (case xbe1 => k_is)
    (case xcl1 => k_is); (case h1_1 => kit_is); (case h1_2 => kit_is); (case h1_3 => kit_is); (case h1_4 => kit_is); (case hv1 => kit_is); (case sub4 => k_is); (case xga4 => k_is)
    (case xgh4 => k_is); (case xca4 => k_is); (case xob4 => k_is); (case xbe4 => k_is); (case xcl4 => k_is); (case h4_1 => kit_is); (case h4_2 => kit_is); (case h4_3 => kit_is)
    (case h4_4 => kit_is); (case hv4 => kit_is); (case lT => k_is); (case lN => k_is); (case alN => simp); (case niT => k_is); (case lT1 => k_is); (case saT => k_is)
    (case nsg4 => k_is); (case l_iT => k_is); (case c_iT => k_is); (case k_iT => k_is); (case fcT => rfl); (case kTR => kit_is); (case q2 => k_exc); (case q3 => k_exc)
    (case a_S => k_is); (case lS => k_is)

