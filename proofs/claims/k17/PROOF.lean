import PyProof.Rows.All
import Wide.All
import OpenK.AllK
import Wide.FinOn
import Lean
import PyProof.EqAt
import PyProof.EqKinds
import PyProof.TupleCall
import PyProof.Rows.Catch
import PyProof.Rows.TupIter
import PyProof.TupleIter
import PyProof.Seq
import PyProof.ExcInit
import PyProof.ExcClass2
import KE.KIntText
import PyProof.StrOps2
import PyProof.ConsumeWalk
import PyProof.Rows.RuleM_int
import PyProof.ZipIter
import PyProof.EnumMake
import PySem.Challenge.RW_tenreckon_k17_compared
set_option Elab.async false
set_option linter.all false
set_option maxRecDepth 100000
/-! THE HAND LAYER, for ints, bools, texts, own classes, LISTS and tuples (index, slices, in, append, pop ..), calls, loops. Paste it whole ahead of your own text; what your proof does not reach may be deleted. -/
namespace L2
open PySem PySem.Spec PyProof.Rows

/-- a key: an int or a str -/
abbrev Key := Sum Int Str
def keyIs : Key → Value → Bool
  | .inl k, v => Value.isInt k v
  | .inr x, v => Value.isStrOf x v
def keyH (w : World) : Key → Int
  | .inl k => hashInt k
  | .inr x => hashStr w x
theorem keyIs_shape : ∀ {k : Key} {v : Value}, keyIs k v = true → (∃ i t, k = Sum.inl i ∧ v = Value.int i t) ∨ (∃ x t, k = Sum.inr x ∧ v = Value.str x t)
  | .inl i, v, h => by
    obtain ⟨t, e⟩ := Value.isInt_shape (k := i) (v := v) h
    exact .inl ⟨i, t, rfl, e⟩
  | .inr x, v, h => by
    obtain ⟨t, e⟩ := Value.isStrOf_shape (x := x) (v := v) h
    exact .inr ⟨x, t, rfl, e⟩
theorem keyIs_int (i : Int) (t : Tok) : keyIs (.inl i) (.int i t) = true := by simp [keyIs, Value.isInt]
theorem keyIs_str (x : Str) (t : Tok) : keyIs (.inr x) (.str x t) = true := by simp [keyIs, Value.isStrOf]
theorem key_ll (a b : Int) : decide ((Sum.inl a : Key) = Sum.inl b) = (a == b) := by
  by_cases e : a = b
  · subst e; simp
  · have h : ¬ (Sum.inl a : Key) = Sum.inl b := fun q => e (Sum.inl.inj q)
    rw [decide_eq_false h]
    exact (beq_eq_false_iff_ne.mpr e).symm
theorem key_rr (a b : Str) : decide ((Sum.inr a : Key) = Sum.inr b) = decide (a = b) := by
  by_cases e : a = b
  · subst e; simp
  · have h : ¬ (Sum.inr a : Key) = Sum.inr b := fun q => e (Sum.inr.inj q)
    rw [decide_eq_false h, decide_eq_false e]
theorem key_lr (a : Int) (b : Str) : decide ((Sum.inl a : Key) = Sum.inr b) = false := decide_eq_false (fun q => nomatch q)
theorem key_rl (a : Str) (b : Int) : decide ((Sum.inr a : Key) = Sum.inl b) = false := decide_eq_false (fun q => nomatch q)

def mixKind (prog : Program) (w : World) : PySem.KeyKind prog w Key where
  is := keyIs
  hash := keyH w
  inj := fun v a b ha hb => by
    rcases keyIs_shape ha with ⟨i, t, rfl, rfl⟩ | ⟨x, t, rfl, rfl⟩
    · rcases keyIs_shape hb with ⟨j, u, rfl, e⟩ | ⟨y, u, rfl, e⟩
      · injection e with e1 _; rw [e1]
      · exact nomatch e
    · rcases keyIs_shape hb with ⟨j, u, rfl, e⟩ | ⟨y, u, rfl, e⟩
      · exact nomatch e
      · injection e with e1 _; rw [e1]
  byValue := fun k v h => by
    rcases keyIs_shape h with ⟨i, t, rfl, rfl⟩ | ⟨x, t, rfl, rfl⟩ <;> rfl
  pyHash := fun hv h => by
    rcases keyIs_shape hv with ⟨i, t, rfl, rfl⟩ | ⟨x, t, rfl, rfl⟩
    · exact wpAny_pyHash_int h
    · exact wpAny_pyHash_str h
  eqBool := fun hu hv h => by
    rcases keyIs_shape hu with ⟨i, t, rfl, rfl⟩ | ⟨x, t, rfl, rfl⟩
    · rcases keyIs_shape hv with ⟨j, u, rfl, rfl⟩ | ⟨y, u, rfl, rfl⟩
      · rw [key_ll] at h; exact wpAny_eqBool_int h
      · rw [key_lr] at h; exact SeqAt.EqAt.int_str i t y u _ _ _ _ h
    · rcases keyIs_shape hv with ⟨j, u, rfl, rfl⟩ | ⟨y, u, rfl, rfl⟩
      · rw [key_rl] at h; exact SeqAt.EqAt.str_int x t j u _ _ _ _ h
      · rw [key_rr] at h; exact wpAny_eqBool_str h
  «strs» := fun k x t v h => by
    rcases keyIs_shape h with ⟨i, u, rfl, e⟩ | ⟨y, u, rfl, e⟩
    · exact nomatch e
    · injection e with e1 _
      subst e1
      cases v <;> rfl

theorem mixKind_int (prog : Program) (w : World) (i : Int) (t : Tok) : (mixKind prog w).is (.inl i) (.int i t) = true := keyIs_int i t
theorem mixKind_str (prog : Program) (w : World) (x : Str) (t : Tok) : (mixKind prog w).is (.inr x) (.str x t) = true := keyIs_str x t
end L2

namespace L2
open PySem PySem.Spec PyProof.Rows

/-- a value, without the heap -/
inductive V where
  | non | bl (b : Bool) | int (i : Int) | str (x : Str) | byt (b : Array UInt8) | flt (b : UInt64) | ref (a : Addr) | ty (n : String)
  deriving DecidableEq

def RelV : V → Value → Prop
  | .non, u => u = Value.none
  | .bl b, u => u = Value.bool b
  | .int i, u => ∃ t, u = Value.int i t
  | .str x, u => ∃ t, u = Value.str x t
  | .byt b, u => ∃ t, u = Value.bytes b t
  | .flt b, u => ∃ t, u = Value.float b t
  | .ref a, u => u = Value.ref a
  | .ty n, u => u = Value.type n

abbrev Vals : List V → List Value → Prop := Paired RelV
theorem Vals.length {xs : List V} {us : List Value} (r : Vals xs us) : xs.length = us.length := Paired.length r
theorem Vals.get : ∀ {xs : List V} {us : List Value} {i : Nat} {x : V}, Vals xs us → xs[i]? = some x → ∃ u, us[i]? = some u ∧ RelV x u
  | _, _, _, _, .nil, e => by simp at e
  | _, _, 0, _, .cons r _, e => by simp at e; subst e; exact ⟨_, rfl, r⟩
  | _, _, i + 1, x, .cons _ t, e => by
    obtain ⟨u, h1, h2⟩ := Vals.get (i := i) (x := x) t (by simpa using e)
    exact ⟨u, by simpa using h1, h2⟩
theorem Vals.set {x : V} {u : Value} (r : RelV x u) : ∀ {xs : List V} {us : List Value} (i : Nat), Vals xs us → Vals (xs.set i x) (us.set i u)
  | _, _, _, .nil => .nil
  | _, _, 0, .cons _ t => .cons r t
  | _, _, i + 1, .cons q t => .cons q (Vals.set r i t)
theorem Vals.append : ∀ {xs ys : List V} {us ws : List Value}, Vals xs us → Vals ys ws → Vals (xs ++ ys) (us ++ ws)
  | _, _, _, _, .nil, s => s
  | _, _, _, _, .cons r t, s => .cons r (Vals.append t s)
theorem Vals.take : ∀ {xs : List V} {us : List Value} (n : Nat), Vals xs us → Vals (xs.take n) (us.take n)
  | _, _, 0, _ => .nil
  | _, _, _ + 1, .nil => .nil
  | _, _, n + 1, .cons r t => .cons r (Vals.take n t)
theorem Vals.drop : ∀ {xs : List V} {us : List Value} (n : Nat), Vals xs us → Vals (xs.drop n) (us.drop n)
  | _, _, 0, r => r
  | _, _, _ + 1, .nil => .nil
  | _, _, n + 1, .cons _ t => Vals.drop n t
def RelO : Option V → Option Value → Prop
  | some v, some u => RelV v u
  | none, none => True
  | _, _ => False
def KV {κ : Type} : List (κ × V) → List (κ × Value) → Prop := Paired fun (p : κ × V) (q : κ × Value) => p.1 = q.1 ∧ RelV p.2 q.2

/-- a key of a dict (00_mix): an int or a text -/
def kV : Key → V
  | .inl i => .int i
  | .inr x => .str x

/-- what stands at a tracked address -/
inductive HO where
  /-- a list -/
  | lst (xs : List V)
  /-- a tuple (never changes) -/
  | tup (xs : List V)
  /-- a dict whose keys are ints and texts; one whose keys are tuples of ints and texts (the empty one is both) -/
  | dK (kvs : List (Key × V)) | dT (kvs : List (List Key × V))
  /-- a set of ints: its members, its size -/
  | set (S : Int → Bool) (n : Nat)
  /-- an instance of the class at C, its dict at dx, its attributes -/
  | ins (C dx : Addr) (fs : List (Str × V))
  /-- the dict of the instance at x -/
  | own (x : Addr)
  /-- the dict of an exception -/
  | xd (fs : List (Str × V))
  /-- a bound method, f of x -/
  | met (f x : Addr)
  /-- a range object lo, lo + 1, .. below hi -/
  | rng (lo hi : Int)
  /-- a thing that is known to the object (the script; a dict while a loop walks it): read, never written while it is so -/
  | frz (o : Obj) (u : HO)
  /-- a code object's table -/
  | tbl (ps : Array Value)
  /-- any other thing, by what is true of its one object (a def of one's own: SetO a S n := HO.ext fun h => ..) -/
  | ext (φ : Heap → Prop)

abbrev Hp := Addr → Option HO
def upd (H : Hp) (a : Addr) (o : HO) : Hp := fun b => if b = a then some o else H b
theorem upd_same {H : Hp} {a : Addr} {o : HO} : upd H a o a = some o := by unfold upd; rw [if_pos rfl]
theorem upd_ne {H : Hp} {a b : Addr} {o : HO} (h : b ≠ a) : upd H a o b = H b := by unfold upd; rw [if_neg h]
/-- two objects of different content stand apart -/
theorem ne_of {H : Hp} {a b : Addr} {o u : HO} (h : H a = some o) (h' : H b = some u) (d : o ≠ u) : a ≠ b := by
  intro e; subst e; rw [h] at h'; exact d (Option.some.inj h')
theorem ne_of_none {H : Hp} {a b : Addr} {o : HO} (h : H a = some o) (h' : H b = none) : a ≠ b := by
  intro e; subst e; rw [h] at h'; cases h'

section
variable (P : Program) (w : World)
def ObjOk (H : Hp) (h : Heap) (a : Addr) : HO → Prop
  | .lst xs => xs.length ≤ sizeLine ∧ ∃ (its : List Value) (n : Nat), Vals xs its ∧ h.get? a = some { cls := .type "list", data := .seq its.toArray n }
  | .tup xs => xs.length ≤ sizeLine ∧ ∃ its : List Value, Vals xs its ∧ IsTup h a its.toArray
  | .dK kvs => kvs.length ≤ sizeLine ∧ (a == sysModules) = false ∧ ∃ vs, KV kvs vs ∧ h.DictOf (mixKind P w) a vs
  | .dT kvs => kvs.length ≤ sizeLine ∧ (a == sysModules) = false ∧ ∃ xs : List (List Key × Addr × Value),
      Paired (fun (p : List Key × V) (q : List Key × Addr × Value) => p.1 = q.1 ∧ H q.2.1 = some (.tup (p.1.map kV)) ∧ RelV p.2 q.2.2) kvs xs ∧
      ∃ o es ep, h.get? a = some o ∧ o.ExactDict ∧ o.data = .dict es ep ∧ es.toList = xs.map (entryOfKey (tupleKind (mixKind P w))) ∧ (xs.map (·.1)).Nodup
  | .set S n => h.SetOf (intKind P w) a S n
  | .ins C dx fs => H dx = some (.own a) ∧ fs.length ≤ 1000 ∧ dx ≠ a ∧ h.get? a = some (PySem.W.instObj C dx) ∧
      ∃ mA, h.Ns1 dx mA ∧ (∀ f, RelO (fs.lookup f) (mA f)) ∧ PySem.Within mA (fs.map (·.1))
  | .own _ => ∃ o, h.get? a = some o
  | .xd fs => ∃ mA, h.Ns1 a mA ∧ ∀ f, RelO (fs.lookup f) (mA f)
  | .rng lo hi => ∃ t u v, h.get? a = some { cls := .type "range", data := .fields #[.int lo t, .int hi u, .int 1 v] }
  | .frz o u => h.get? a = some o ∧ ObjOk H h a u
  | .tbl ps => h.get? a = some { cls := .none, data := .fields ps }
  | .met f x => h.get? a = some (PySem.W.methodObj (.ref f) (.ref x))
  | .ext φ => φ h ∧ (∃ o, h.get? a = some o) ∧ ∀ h1 h2 : Heap, φ h1 → (∀ o, h1.get? a = some o → h2.get? a = some o) → φ h2
/-- the abstract heap is held -/
def HOk (H : Hp) (h : Heap) : Prop := ∀ a o, H a = some o → ObjOk P w H h a o
end

section
variable {P : Program} {w : World} {H H' : Hp} {h h' : Heap} {a : Addr} {o : HO}
theorem ObjOk.lt (x : ObjOk P w H h a o) : a < h.objs.size := by
  cases o with
  | lst xs => obtain ⟨_, _, _, _, e⟩ := x; exact Heap.lt_size e
  | tup xs => obtain ⟨_, _, _, p⟩ := x; exact p.lt
  | dK kvs => obtain ⟨_, _, _, _, o, _, _, e, _⟩ := x; exact Heap.lt_size e
  | dT kvs => obtain ⟨_, _, _, _, o, _, _, e, _⟩ := x; exact Heap.lt_size e
  | set S n => obtain ⟨o, _, _, _, e, _⟩ := x; exact Heap.lt_size e
  | ins C dx fs => obtain ⟨_, _, _, e, _⟩ := x; exact Heap.lt_size e
  | own y => obtain ⟨_, e⟩ := x; exact Heap.lt_size e
  | xd fs => obtain ⟨_, ⟨_, _, _, e, _⟩, _⟩ := x; exact Heap.lt_size e
  | rng lo hi => obtain ⟨_, _, _, e⟩ := x; exact Heap.lt_size e
  | frz ob u => obtain ⟨e, _⟩ := x; exact Heap.lt_size e
  | tbl ps => exact Heap.lt_size (show h.get? a = some _ from x)
  | met f y => exact Heap.lt_size (show h.get? a = some _ from x)
  | ext φ => obtain ⟨_, ⟨_, e⟩, _⟩ := x; exact Heap.lt_size e
theorem Paired.mapP {α β : Type} {F G : α → β → Prop} : ∀ {l₁ : List α} {l₂ : List β}, Paired F l₁ l₂ → (∀ a b, F a b → G a b) → Paired G l₁ l₂
  | _, _, .nil, _ => .nil
  | _, _, .cons r t, f => .cons (f _ _ r) (Paired.mapP t f)
/-- what an object's description leans on: its own object, its own dict, the tuples -/
theorem ObjOk.stay (x : ObjOk P w H h a o) (k : ∀ b u, (b = a ∨ H b = some (.own a)) → h.get? b = some u → h'.get? b = some u)
    (ho : ∀ b, H b = some (.own a) → H' b = some (.own a)) (ht : ∀ b xs, H b = some (.tup xs) → H' b = some (.tup xs)) : ObjOk P w H' h' a o := by
  induction o with
  | lst xs => obtain ⟨z, its, n, r, e⟩ := x; exact ⟨z, its, n, r, k _ _ (.inl rfl) e⟩
  | tup xs => obtain ⟨z, its, r, ob, e, c⟩ := x; exact ⟨z, its, r, ob, k _ _ (.inl rfl) e, c⟩
  | dK kvs => obtain ⟨z, y, vs, r, ob, es, ep, e, c⟩ := x; exact ⟨z, y, vs, r, ob, es, ep, k _ _ (.inl rfl) e, c⟩
  | dT kvs =>
    obtain ⟨z, y, xs, r, ob, es, ep, e, c⟩ := x
    exact ⟨z, y, xs, Paired.mapP r fun p q z => ⟨z.1, ht _ _ z.2.1, z.2.2⟩, ob, es, ep, k _ _ (.inl rfl) e, c⟩
  | set S n => obtain ⟨ob, es, ep, t, e, c⟩ := x; exact ⟨ob, es, ep, t, k _ _ (.inl rfl) e, c⟩
  | ins C dx fs =>
    obtain ⟨d, z, ne, e, mA, ⟨od, es, ep, e2, c⟩, r⟩ := x
    exact ⟨ho _ d, z, ne, k _ _ (.inl rfl) e, mA, ⟨od, es, ep, k _ _ (.inr d) e2, c⟩, r⟩
  | own y => obtain ⟨ob, e⟩ := x; exact ⟨ob, k _ _ (.inl rfl) e⟩
  | xd fs => obtain ⟨mA, ⟨od, es, ep, e, c⟩, r⟩ := x; exact ⟨mA, ⟨od, es, ep, k _ _ (.inl rfl) e, c⟩, r⟩
  | rng lo hi => obtain ⟨t, u, v, e⟩ := x; exact ⟨t, u, v, k _ _ (.inl rfl) e⟩
  | frz ob u ih => obtain ⟨e, q⟩ := x; exact ⟨k _ _ (.inl rfl) e, ih q⟩
  | tbl ps =>
    have e : h.get? a = some { cls := .none, data := .fields ps } := x
    show h'.get? a = some { cls := .none, data := .fields ps }
    exact k a _ (.inl rfl) e
  | met f y =>
    have e : h.get? a = some (PySem.W.methodObj (.ref f) (.ref y)) := x
    show h'.get? a = some (PySem.W.methodObj (.ref f) (.ref y))
    exact k a _ (.inl rfl) e
  | ext φ => obtain ⟨p, ⟨o, e⟩, st⟩ := x; exact ⟨st _ _ p fun o q => k _ _ (.inl rfl) q, ⟨o, k _ _ (.inl rfl) e⟩, st⟩
theorem HOk.lt (x : HOk P w H h) (e : H a = some o) : a < h.objs.size := (x a o e).lt
theorem HOk.fresh (x : HOk P w H h) (e : h.objs.size ≤ a) : H a = none := by
  cases q : H a with
  | none => rfl
  | some u => exact absurd (Nat.lt_of_lt_of_le (x.lt q) e) (Nat.lt_irrefl _)
/-- every object of the heap is kept -/
theorem HOk.kept (x : HOk P w H h) (k : ∀ b u, h.get? b = some u → h'.get? b = some u) : HOk P w H h' := fun a o e =>
  (x a o e).stay (fun b u _ q => k b u q) (fun _ q => q) fun _ _ q => q
/-- a new object is laid and tracked -/
theorem HOk.laid (x : HOk P w H h) (k : ∀ b u, h.get? b = some u → h'.get? b = some u) (hp : h.objs.size ≤ a) (new : ObjOk P w (upd H a o) h' a o) : HOk P w (upd H a o) h' := fun b u e => by
  have hn := x.fresh hp
  by_cases hb : b = a
  · subst hb; rw [upd_same] at e; cases e; exact new
  · rw [upd_ne hb] at e
    exact (x b u e).stay (fun c v _ q => k c v q) (fun c q => by rw [upd_ne (ne_of_none q hn)]; exact q) fun c xs q => by rw [upd_ne (ne_of_none q hn)]; exact q
end

/-- what may be read as u: it is u, or a known u -/
def Rd (H : Hp) (a : Addr) (u : HO) : Prop := H a = some u ∨ ∃ o, H a = some (.frz o u)
theorem Rd.of {H : Hp} {a : Addr} {u : HO} (h : H a = some u) : Rd H a u := .inl h
theorem Rd.ok {P : Program} {w : World} {H : Hp} {h : Heap} {a : Addr} {u : HO} (r : Rd H a u) (x : HOk P w H h) : ObjOk P w H h a u := by
  rcases r with r | ⟨o, r⟩
  · exact x a u r
  · obtain ⟨_, q⟩ := x a _ r
    exact q
/-- what may be written -/
def Mut : Option HO → Prop
  | some (.lst _) => True
  | some (.dK _) => True
  | some (.dT _) => True
  | some (.set _ _) => True
  | some (.ins _ _ _) => True
  | some (.ext _) => True
  | _ => False
section
variable {P : Program} {w : World} {H : Hp} {h h' : Heap} {x e : Addr} {o' : HO}
/-- the object at e is changed: x itself, or the dict of the instance x -/
theorem HOk.write (ok : HOk P w H h) (mu : Mut (H x)) (he : e = x ∨ H e = some (.own x)) (k : ∀ b u, b ≠ e → h.get? b = some u → h'.get? b = some u) (heo : ∃ u, h'.get? e = some u)
    (new : ObjOk P w (upd H x o') h' x o') : HOk P w (upd H x o') h' := fun b u q => by
  have nown : ∀ c y, H c = some (.own y) → c ≠ x := fun c y r z => by subst z; rw [r] at mu; exact mu
  have ntup : ∀ c xs, H c = some (.tup xs) → c ≠ x := fun c xs r z => by subst z; rw [r] at mu; exact mu
  by_cases hb : b = x
  · subst hb; rw [upd_same] at q; cases q; exact new
  · rw [upd_ne hb] at q
    by_cases hbe : b = e
    · have q' : H b = some (.own x) := by
        rcases he with z | z
        · exact absurd (hbe.trans z) hb
        · rw [hbe]; exact z
      rw [q] at q'; cases q'
      obtain ⟨v, hv⟩ := heo
      exact ⟨v, by rw [hbe]; exact hv⟩
    · refine (ok b u q).stay (fun c v hc r => k c v ?_ r) (fun c r => by rw [upd_ne (nown c b r)]; exact r) fun c xs r => by rw [upd_ne (ntup c xs r)]; exact r
      rcases hc with rfl | hc
      · exact hbe
      · rintro rfl
        rcases he with z | z
        · exact nown c b hc z
        · rw [hc] at z; cases z; exact hb rfl
end

/-! ### kept unless tracked; of the frames at fs (the callers') the slots may change (an exception that passes writes there); of the records at ex (iterators) nothing is said -/
structure Un (fs ex : List Addr) (H H' : Hp) (h h' : Heap) : Prop where
  keep : ∀ b o, h.get? b = some o → H b = none → b ∉ fs → b ∉ ex → h'.get? b = some o
  slot : ∀ b o, h.get? b = some o → H b = none → b ∈ fs → b ∉ ex → ∃ sl, h'.get? b = some { o with slots := sl }
  free : ∀ b o, h.get? b = some o → H b = none → b ∉ ex → H' b = none
  there : ∀ b o, h.get? b = some o → b ∉ ex → ∃ o', h'.get? b = some o'
  tups : ∀ b xs, H b = some (.tup xs) → H' b = some (.tup xs)
  frzs : ∀ b o u, H b = some (.frz o u) → H' b = some (.frz o u)
  tbls : ∀ b ps, H b = some (.tbl ps) → ∃ more, H' b = some (.tbl (ps ++ more))
section
variable {fs fs' ex ex' : List Addr} {H H1 H2 : Hp} {h h1 h2 h' : Heap} {a x e : Addr} {o : HO}
theorem Un.any (u : Un fs ex H H1 h h1) {b : Addr} {ob : Obj} (q : h.get? b = some ob) (n : H b = none) (hx : b ∉ ex) : ∃ sl, h1.get? b = some { ob with slots := sl } := by
  by_cases hb : b ∈ fs
  · exact u.slot b ob q n hb hx
  · exact ⟨ob.slots, u.keep b ob q n hb hx⟩
theorem Un.trans (a : Un fs ex H H1 h h1) (b : Un fs ex H1 H2 h1 h2) : Un fs ex H H2 h h2 where
  keep := fun c ob q n hc hx => b.keep c ob (a.keep c ob q n hc hx) (a.free c ob q n hx) hc hx
  slot := fun c ob q n hc hx => by
    obtain ⟨sl, e1⟩ := a.slot c ob q n hc hx
    obtain ⟨sl', e2⟩ := b.slot c _ e1 (a.free c ob q n hx) hc hx
    exact ⟨sl', e2⟩
  free := fun c ob q n hx => by
    obtain ⟨o', e1⟩ := a.there c ob q hx
    exact b.free c o' e1 (a.free c ob q n hx) hx
  there := fun c ob q hx => by
    obtain ⟨o', e1⟩ := a.there c ob q hx
    exact b.there c o' e1 hx
  tups := fun c xs q => b.tups c xs (a.tups c xs q)
  frzs := fun c ob xs q => b.frzs c ob xs (a.frzs c ob xs q)
  tbls := fun c ps q => by
    obtain ⟨m1, e1⟩ := a.tbls c ps q
    obtain ⟨m2, e2⟩ := b.tbls c _ e1
    exact ⟨m1 ++ m2, by rw [e2, Array.append_assoc]⟩
theorem Un.kept (k : ∀ b u, h.get? b = some u → h'.get? b = some u) : Un fs ex H H h h' :=
  ⟨fun b ob q _ _ _ => k b ob q, fun b ob q _ _ _ => ⟨ob.slots, k b ob q⟩, fun _ _ _ n _ => n, fun b ob q _ => ⟨ob, k b ob q⟩, fun _ _ q => q, fun _ _ _ q => q, fun _ ps q => ⟨#[], by rw [q]; simp⟩⟩
theorem Un.refl : Un fs ex H H h h := Un.kept fun _ _ q => q
theorem Un.laid (k : ∀ b u, h.get? b = some u → h'.get? b = some u) (hp : h.objs.size ≤ a) (hn : H a = none) : Un fs ex H (upd H a o) h h' where
  keep := fun b u q _ _ _ => k b u q
  slot := fun b u q _ _ _ => ⟨u.slots, k b u q⟩
  free := fun b u q n _ => by rw [upd_ne (Nat.ne_of_lt (Nat.lt_of_lt_of_le (Heap.lt_size q) hp))]; exact n
  there := fun b u q _ => ⟨u, k b u q⟩
  tups := fun b xs q => by rw [upd_ne (ne_of_none q hn)]; exact q
  frzs := fun b u xs q => by rw [upd_ne (ne_of_none q hn)]; exact q
  tbls := fun b ps q => ⟨#[], by rw [upd_ne (ne_of_none q hn), q]; simp⟩
theorem Un.write (mu : Mut (H x)) (he : e = x ∨ H e = some (.own x)) (k : ∀ b u, b ≠ e → h.get? b = some u → h'.get? b = some u) (heo : ∃ u, h'.get? e = some u) : Un fs ex H (upd H x o) h h' := by
  have hx : ∀ b, H b = none → b ≠ x := fun b n z => by subst z; rw [n] at mu; exact mu
  have hb : ∀ b, H b = none → b ≠ e := fun b n z => by
    subst z
    rcases he with r | r
    · exact hx b n r
    · rw [n] at r; cases r
  have hm : ∀ b u, H b = some u → ¬ Mut (some u) → b ≠ x := fun b u q nm z => by subst z; rw [q] at mu; exact nm mu
  refine ⟨fun b u q n _ _ => k b u (hb b n) q, fun b u q n _ _ => ⟨u.slots, k b u (hb b n) q⟩, fun b u q n _ => by rw [upd_ne (hx b n)]; exact n, fun b u q _ => ?_,
    fun b xs q => by rw [upd_ne (hm b _ q fun z => z)]; exact q, fun b u xs q => by rw [upd_ne (hm b _ q fun z => z)]; exact q, fun b ps q => ⟨#[], by rw [upd_ne (hm b _ q fun z => z), q]; simp⟩⟩
  by_cases hbe : b = e
  · subst hbe; exact heo
  · exact ⟨u, k b u hbe q⟩
theorem Un.mono (u : Un fs ex H H1 h h1) (hs : ∀ b ∈ fs, b ∈ fs') (hx : ∀ b ∈ ex, b ∈ ex') : Un fs' ex' H H1 h h1 :=
  ⟨fun b ob q n hb he => u.keep b ob q n (fun z => hb (hs b z)) fun z => he (hx b z), fun _ _ q n _ he => u.any q n fun z => he (hx _ z), fun b ob q n he => u.free b ob q n fun z => he (hx b z), fun b ob q he => u.there b ob q fun z => he (hx b z), u.tups, u.frzs, u.tbls⟩
end

/-! ### the heap without what is tracked -/
def trk (h : Heap) (H : Hp) : List Addr := (List.range h.objs.size).filter fun a => (H a).isSome
def hidT (h : Heap) (H : Hp) : Heap := PySem.W.hideAll h (trk h H)
theorem hidT_size (h : Heap) (H : Hp) : (hidT h H).objs.size = h.objs.size := PySem.W.hideAll_size _ _
theorem hidT_get {h : Heap} {H : Hp} {b : Addr} {o : Obj} (e : h.get? b = some o) (n : H b = none) : (hidT h H).get? b = some o :=
  PySem.W.hideAll_get _ e fun hm => by
    have q : (H b).isSome = true := (List.mem_filter.mp hm).2
    rw [n] at q; simp at q
theorem of_hidT {h : Heap} {H : Hp} {b : Addr} {o : Obj} (e : (hidT h H).get? b = some o) : h.get? b = some o ∧ H b = none := by
  have e' : h.get? b = some o := PySem.W.of_hideAll (trk h H) e
  refine ⟨e', ?_⟩
  cases q : H b with
  | none => rfl
  | some x =>
    have hm : b ∈ trk h H := List.mem_filter.mpr ⟨List.mem_range.mpr (Heap.lt_size e'), by simp [q]⟩
    have z : (hidT h H).get? b = none := PySem.W.hideAll_none (trk h H) hm
    rw [z] at e; cases e

/-! ### OpenK's ledger, filled with every new object but one -/
def allNews (g h : Heap) (L : Addr) : List (Addr × Obj) := (List.range h.objs.size).filterMap fun a => if a = L ∨ (g.get? a).isSome = true then none else (h.get? a).map fun o => (a, o)
def rest (g h : Heap) (L d : Addr) : List (Addr × Obj) := (allNews g h L).filter fun p => decide (p.1 ≠ d)
end L2

namespace L2
open PySem PySem.Spec PyProof.Rows

/-- the module's facts, over the base: the heap at the law's entry without what is tracked there -/
structure Mod (K : PySem.W.Frag) (mg : Str → Option Value) (base : Heap) : Prop where
  kin : K.In base
  glob : base.Ns mainGlobals mg
  blt : ∃ mb, base.Ns builtinsNs mb ∧ ∀ x : Str, x ≠ "__name__" → mb x = bootBuiltins x
  nolimit : base.NoLimit

/-- the context: a def's body (or a comprehension's block) running. base: fixed through the whole law; s₀, H₀: the entry; outer: the frames whose slots others may change (a def's callers); stack: all frames that run;
   ex: iterators that were made ahead of the entry and are walked here (a comprehension's); fn: the names whose cells were made at the entry (a def: all; a comprehension's block: its own); calm: not within an except suite; pn: pins that every state bears; xe: what is wanted of an exception that leaves the code -/
structure Cx where
  prog : Program
  w : World
  K : PySem.W.Frag
  mg : Str → Option Value
  base : Heap
  A : Around
  N : List Str
  s₀ : Shared
  H₀ : Hp
  env : Env
  outer : List Env
  stack : List Env
  ex : List Addr
  fn : Str → Bool
  calm : Bool
  pn : List (Addr × Obj)
  xe : Value → Shared → Prop
/-- the callers' frames -/
def frs (l : List Env) : List Addr := l.filterMap (·.frame)
abbrev Cx.fs (X : Cx) : List Addr := frs X.outer

def Vis (sc : Scope) (x : Str) : Prop := sc.names.lookup x = some .local ∨ sc.names.lookup x = some .cell ∨ sc.names.lookup x = some .free
def Loc (sc : Scope) (x : Str) : Prop := sc.names.lookup x = some .local ∨ sc.names.lookup x = some .cell
def Look (env : Env) (h : Heap) (m : Str → Option Value) (x : Str) (u : Value) : Prop :=
  (env.kindOf x = some .local ∧ m x = some u) ∨ ((env.kindOf x = some .cell ∨ env.kindOf x = some .free) ∧ ∃ c, env.cells.lookup x = some c ∧ h.IsCell c (some u))

structure Cx.Ok (X : Cx) : Prop where
  mod : Mod X.K X.mg X.base
  kind : X.env.scope.kind = .function
  glob : X.env.globals = mainGlobals
  blt : X.env.builtins = builtinsNs
  above : X.s₀.heap.objs.size ≤ X.env.locals
  inj : ∀ x y c, X.env.cells.lookup x = some c → X.env.cells.lookup y = some c → x = y
  has : ∀ x, (X.env.kindOf x = some .cell ∨ X.env.kindOf x = some .free) → ∃ c, X.env.cells.lookup x = some c
  cab : ∀ x c, X.fn x = true → X.env.cells.lookup x = some c → X.s₀.heap.objs.size ≤ c
  hd : X.calm = true → X.A.handled = none
  frames : X.A.frames = some X.stack
  stk : X.stack = X.outer ∨ (X.stack = X.env :: X.outer ∧ X.env.frame = some X.env.locals)
  exf : ∀ b ∈ X.ex, b ≠ X.env.locals ∧ ∀ x c, X.env.cells.lookup x = some c → c ≠ b
  bs : ∀ b o, X.base.get? b = some o → X.s₀.heap.get? b = some o ∧ X.H₀ b = none
  bsz : X.base.objs.size ≤ X.s₀.heap.objs.size
  noex : ∀ b o, X.base.get? b = some o → b ∉ X.ex
  exfs : ∀ b ∈ X.ex, b ∉ X.fs
  funs : X.s₀.heap.FunFrames X.base X.outer
  frf : ∀ b ∈ X.fs, X.H₀ b = none

structure Inv (X : Cx) (pins : List (Addr × Obj)) (σ : List (Option V)) (H : Hp) (s : Shared) : Prop where
  ok : X.Ok
  os : s.os = X.s₀.os
  bare : AllBare s.gens
  base : Un X.fs X.ex X.H₀ H X.s₀.heap s.heap
  loc : ∃ m, s.heap.Ns X.env.locals m ∧ ∀ (i : Nat) (x : Str) (v : V), X.N[i]? = some x → σ[i]? = some (some v) → Vis X.env.scope x → ∃ u, RelV v u ∧ Look X.env s.heap m x u
  cell : ∀ x c, X.env.cells.lookup x = some c → ∃ v, s.heap.IsCell c v
  free : H X.env.locals = none
  freeC : ∀ x c, X.env.cells.lookup x = some c → H c = none
  pin : ∀ p ∈ X.pn ++ pins, s.heap.get? p.1 = some p.2 ∧ H p.1 = none ∧ p.1 ≠ X.env.locals ∧ p.1 ∉ X.fs ∧ ∀ v, p.2.data ≠ .cell v
  hok : HOk X.prog X.w H s.heap
  len : σ.length = X.N.length

section
variable {X : Cx} {pins : List (Addr × Obj)} {σ : List (Option V)} {H H' : Hp} {s : Shared} {h' : Heap}

theorem Cx.Ok.nofr (ok : X.Ok) {b : Addr} {o : Obj} (e : X.base.get? b = some o) : b ∉ X.fs := fun hb => by
  have := (ok.funs.mem hb).1
  rw [e] at this; cases this
theorem Inv.bs (I : Inv X pins σ H s) : ∀ b o, X.base.get? b = some o → s.heap.get? b = some o ∧ H b = none := fun b o e =>
  ⟨I.base.keep b o (I.ok.bs b o e).1 (I.ok.bs b o e).2 (I.ok.nofr e) (I.ok.noex b o e), I.base.free b o (I.ok.bs b o e).1 (I.ok.bs b o e).2 (I.ok.noex b o e)⟩
theorem Inv.bk (I : Inv X pins σ H s) : ∀ b o, X.base.get? b = some o → s.heap.get? b = some o := fun b o e => (I.bs b o e).1
theorem Inv.mod (I : Inv X pins σ H s) : Mod X.K X.mg X.base := I.ok.mod
theorem Inv.kIn (I : Inv X pins σ H s) : X.K.In s.heap := I.ok.mod.kin.keeps I.bk
theorem Inv.nolimit (I : Inv X pins σ H s) : s.heap.NoLimit := I.ok.mod.nolimit.keeps I.bk
/-- the frame over the base: for OpenK's rules (K.In X.base is I.mod.kin) -/
theorem Inv.fr (I : Inv X pins σ H s) : ∃ m, Fr X.base X.env.locals s.heap m :=
  let ⟨m, hn, _⟩ := I.loc
  ⟨m, hn, I.bk, Nat.le_trans I.ok.bsz I.ok.above⟩
theorem Inv.lt (I : Inv X pins σ H s) : X.env.locals < s.heap.objs.size := let ⟨_, hn, _⟩ := I.loc; hn.lt
theorem Inv.sz (I : Inv X pins σ H s) : X.s₀.heap.objs.size ≤ s.heap.objs.size := Nat.le_trans I.ok.above (Nat.le_of_lt I.lt)
theorem Inv.nofs (I : Inv X pins σ H s) {a : Addr} (h : s.heap.objs.size ≤ a) : a ∉ X.fs := fun hb => by
  obtain ⟨_, o, ho, _⟩ := I.ok.funs.mem hb
  exact absurd (Nat.lt_of_lt_of_le (Heap.lt_size ho) (Nat.le_trans I.sz h)) (Nat.lt_irrefl _)
theorem Inv.cne (I : Inv X pins σ H s) : ∀ x c, X.env.cells.lookup x = some c → c ≠ X.env.locals := fun x c e z => by
  obtain ⟨v, o, ho, hd⟩ := I.cell x c e
  obtain ⟨m, ⟨o', es, ep, ho', hd', _⟩, _⟩ := I.loc
  rw [z, ho'] at ho; cases ho; rw [hd'] at hd; cases hd
theorem Inv.funs (I : Inv X pins σ H s) : s.heap.FunFrames X.base X.outer := by
  have all : ∀ (l : List Env), (∀ b ∈ frs l, b ∈ X.fs) → X.s₀.heap.FunFrames X.base l → s.heap.FunFrames X.base l := by
    intro l
    induction l with
    | nil => intro _ _; trivial
    | cons env r ih =>
      intro hs hl
      obtain ⟨hk, ⟨L, o, hf, hn, ho, hd⟩, hr⟩ := hl
      have hL : L ∈ X.fs := hs L (by unfold frs; rw [List.filterMap_cons, hf]; exact List.mem_cons_self)
      obtain ⟨sl, e⟩ := I.base.slot L o ho (I.ok.frf L hL) hL fun z => I.ok.exfs L z hL
      exact ⟨hk, ⟨L, _, hf, hn, e, hd⟩, ih (fun b hb => hs b (by unfold frs; rw [List.filterMap_cons, hf]; exact List.mem_cons_of_mem _ hb)) hr⟩
  exact all X.outer (fun _ hb => hb) I.ok.funs

/-- the frames that run, for a call -/
theorem Inv.stack (I : Inv X pins σ H s) : s.heap.FunFrames X.base X.stack := by
  rcases I.ok.stk with e | ⟨e, hf⟩
  · rw [e]; exact I.funs
  · rw [e]
    obtain ⟨m, hn, _⟩ := I.loc
    refine .cons (by rw [I.ok.kind]; decide) hf hn ?_ I.funs
    exact Heap.get?_none_of_le (Nat.le_trans I.ok.bsz I.ok.above)
theorem Inv.stkSub (I : Inv X pins σ H s) : ∀ b ∈ frs X.stack, b ∈ X.env.locals :: X.fs := fun b hb => by
  rcases I.ok.stk with e | ⟨e, hf⟩
  · rw [e] at hb; exact List.mem_cons_of_mem _ hb
  · rw [e] at hb
    unfold frs at hb
    rw [List.filterMap_cons, hf] at hb
    exact hb
theorem Inv.stkFree (I : Inv X pins σ H s) : ∀ b ∈ frs X.stack, H b = none := fun b hb => by
  rcases List.mem_cons.mp (I.stkSub b hb) with e | hb
  · rw [e]; exact I.free
  · obtain ⟨_, o, ho, _⟩ := I.ok.funs.mem hb
    exact I.base.free b o ho (I.ok.frf b hb) fun z => I.ok.exfs b z hb

/-- THE STEP: the untracked objects but the frame and the records at ch are kept (the callers' frames up to slots), the frame's map is kept, the new abstract heap is held -/
theorem Inv.step {g' : Array GenState} {t' : Nat} {d' : Drawn} {ch : List Addr} (I : Inv X pins σ H s)
    (hch : ∀ b ∈ ch, (b ∈ X.ex ∨ X.s₀.heap.objs.size ≤ b) ∧ b ≠ X.env.locals ∧ (∀ x c, X.env.cells.lookup x = some c → c ≠ b) ∧ ∀ p ∈ X.pn ++ pins, p.1 ≠ b)
    (keep : ∀ b o, b ≠ X.env.locals → b ∉ X.fs → b ∉ ch → s.heap.get? b = some o → H b = none → h'.get? b = some o)
    (slot : ∀ b o, b ≠ X.env.locals → b ∈ X.fs → b ∉ ch → s.heap.get? b = some o → H b = none → ∃ sl, h'.get? b = some { o with slots := sl }) (free : ∀ b o, b ∉ ch → s.heap.get? b = some o → H b = none → H' b = none)
    (there : ∀ b o, b ∉ ch → s.heap.get? b = some o → ∃ o', h'.get? b = some o')
    (tups : ∀ b xs, H b = some (.tup xs) → H' b = some (.tup xs)) (frzs : ∀ b o u, H b = some (.frz o u) → H' b = some (.frz o u)) (tbls : ∀ b ps, H b = some (.tbl ps) → ∃ more, H' b = some (.tbl (ps ++ more)))
    (ns : ∀ m, s.heap.Ns X.env.locals m → h'.Ns X.env.locals m) (hok : HOk X.prog X.w H' h') (hg : AllBare g') :
    Inv X pins σ H' { s with heap := h', gens := g', drawn := d', toks := t' } := by
  have neL : ∀ b o, X.s₀.heap.get? b = some o → b ≠ X.env.locals := fun b o e => Nat.ne_of_lt (Nat.lt_of_lt_of_le (Heap.lt_size e) I.ok.above)
  have neC : ∀ b o, X.s₀.heap.get? b = some o → b ∉ X.ex → b ∉ ch := fun b o e hx hb => by
    rcases (hch b hb).1 with z | z
    · exact hx z
    · exact absurd (Nat.lt_of_lt_of_le (Heap.lt_size e) z) (Nat.lt_irrefl _)
  have cellK : ∀ x c, X.env.cells.lookup x = some c → ∀ v, s.heap.IsCell c v → h'.IsCell c v := fun x c e v ⟨o, ho, hd⟩ => by
    have nch : c ∉ ch := fun z => (hch c z).2.2.1 x c e rfl
    by_cases hc : c ∈ X.fs
    · obtain ⟨sl, q⟩ := slot c o (I.cne x c e) hc nch ho (I.freeC x c e)
      exact ⟨_, q, hd⟩
    · exact ⟨o, keep c o (I.cne x c e) hc nch ho (I.freeC x c e), hd⟩
  refine ⟨I.ok, I.os, hg, ⟨fun b o e n hb hx => ?_, fun b o e n hb hx => ?_, fun b o e n hx => ?_, fun b o e hx => ?_, fun b xs e => tups b xs (I.base.tups b xs e), fun b o xs e => frzs b o xs (I.base.frzs b o xs e), fun b ps e => ?_⟩, ?_, fun x c e => ?_, ?_, fun x c e => ?_, fun p hp => ?_, hok, I.len⟩
  · exact keep b o (neL b o e) hb (neC b o e hx) (I.base.keep b o e n hb hx) (I.base.free b o e n hx)
  · obtain ⟨sl, e1⟩ := I.base.slot b o e n hb hx
    obtain ⟨sl', e2⟩ := slot b _ (neL b o e) hb (neC b o e hx) e1 (I.base.free b o e n hx)
    exact ⟨sl', e2⟩
  · obtain ⟨o', e1⟩ := I.base.there b o e hx
    exact free b o' (neC b o e hx) e1 (I.base.free b o e n hx)
  · obtain ⟨o', e1⟩ := I.base.there b o e hx
    exact there b o' (neC b o e hx) e1
  · obtain ⟨m1, e1⟩ := I.base.tbls b ps e
    obtain ⟨m2, e2⟩ := tbls b _ e1
    exact ⟨m1 ++ m2, by rw [e2, Array.append_assoc]⟩
  · obtain ⟨m, hn, hl⟩ := I.loc
    refine ⟨m, ns m hn, fun i x v e1 e2 e3 => ?_⟩
    obtain ⟨u, r, l⟩ := hl i x v e1 e2 e3
    refine ⟨u, r, ?_⟩
    rcases l with l | ⟨k, c, e, z⟩
    · exact .inl l
    · exact .inr ⟨k, c, e, cellK x c e _ z⟩
  · obtain ⟨v, z⟩ := I.cell x c e
    exact ⟨v, cellK x c e v z⟩
  · obtain ⟨m, ⟨o, _, _, ho, _⟩, _⟩ := I.loc
    exact free _ o (fun z => (hch _ z).2.1 rfl) ho I.free
  · obtain ⟨v, o, ho, hd⟩ := I.cell x c e
    exact free c o (fun z => (hch c z).2.2.1 x c e rfl) ho (I.freeC x c e)
  · obtain ⟨e, n, ne, nf, d⟩ := I.pin p hp
    have nch : p.1 ∉ ch := fun z => (hch p.1 z).2.2.2 p hp rfl
    exact ⟨keep p.1 p.2 ne nf nch e n, free p.1 p.2 nch e n, ne, nf, d⟩
/-- .. where the frame's own object is kept too -/
theorem Inv.un {t' : Nat} (I : Inv X pins σ H s) (u : Un X.fs [] H H' s.heap h') (hok : HOk X.prog X.w H' h') : Inv X pins σ H' { s with heap := h', toks := t' } := by
  obtain ⟨m, ⟨o, es, ep, ho, r⟩, _⟩ := id I.loc
  obtain ⟨sl, hL⟩ := u.any ho I.free (by simp)
  exact I.step (g' := s.gens) (d' := s.drawn) (ch := []) (fun _ z => nomatch z) (fun b o _ hb _ e n => u.keep b o e n hb (by simp)) (fun b o _ hb _ e n => u.slot b o e n hb (by simp)) (fun b o _ e n => u.free b o e n (by simp)) (fun b o _ e => u.there b o e (by simp)) u.tups u.frzs u.tbls (fun m' hm => by
    obtain ⟨o', es', ep', ho', r'⟩ := hm
    rw [ho] at ho'; cases ho'
    exact ⟨_, es', ep', hL, r'⟩) hok I.bare
/-- behind a call (or a comprehension's block): the slots of this frame may have changed too, the records at ch may have turned -/
theorem Inv.call {g' : Array GenState} {t' : Nat} {d' : Drawn} {ch : List Addr} (I : Inv X pins σ H s) (u : Un (frs X.stack) ch H H' s.heap h') (hok : HOk X.prog X.w H' h') (hg : AllBare g')
    (hch : ∀ b ∈ ch, (b ∈ X.ex ∨ X.s₀.heap.objs.size ≤ b) ∧ b ≠ X.env.locals ∧ (∀ x c, X.env.cells.lookup x = some c → c ≠ b) ∧ ∀ p ∈ X.pn ++ pins, p.1 ≠ b) :
    Inv X pins σ H' { s with heap := h', gens := g', drawn := d', toks := t' } := by
  obtain ⟨m, ⟨o, es, ep, ho, r⟩, _⟩ := id I.loc
  obtain ⟨sl, hL⟩ := u.any ho I.free fun z => (hch _ z).2.1 rfl
  exact I.step (ch := ch) hch (fun b o hL hb hc e n => u.keep b o e n (fun z => (List.mem_cons.mp (I.stkSub b z)).elim hL hb) hc) (fun b o _ _ hc e n => u.any e n hc) (fun b o hc e n => u.free b o e n hc) (fun b o hc e => u.there b o e hc) u.tups u.frzs u.tbls (fun m' hm => by
    obtain ⟨o', es', ep', ho', r'⟩ := hm
    rw [ho] at ho'; cases ho'
    exact ⟨_, es', ep', hL, r'⟩) hok hg
/-- an untracked record of ours (an iterator) has turned -/
theorem Inv.turned {t' : Nat} {it : Addr} (I : Inv X pins σ H s) (k : ∀ b o, b ≠ it → s.heap.get? b = some o → h'.get? b = some o) (hn : H it = none) (hL : it ≠ X.env.locals)
    (h1 : it ∈ X.ex ∨ X.s₀.heap.objs.size ≤ it) (h2 : ∀ x c, X.env.cells.lookup x = some c → c ≠ it) (h3 : ∀ p ∈ X.pn ++ pins, p.1 ≠ it) : Inv X pins σ H { s with heap := h', toks := t' } := by
  have nit : ∀ b u, H b = some u → b ≠ it := fun b u e z => by rw [z, hn] at e; cases e
  refine I.step (g' := s.gens) (d' := s.drawn) (ch := [it]) (fun b hb => ?_) (fun b o _ _ hc e _ => k b o (fun z => hc (by simp [z])) e) (fun b o _ _ hc e _ => ⟨o.slots, k b o (fun z => hc (by simp [z])) e⟩) (fun _ _ _ _ n => n)
    (fun b o hc e => ⟨o, k b o (fun z => hc (by simp [z])) e⟩) (fun _ _ e => e) (fun _ _ _ e => e) (fun b ps e => ⟨#[], by rw [e]; simp⟩) (fun m hm => ?_) (fun b u e => ?_) I.bare
  · have e : b = it := by simpa using hb
    subst e
    exact ⟨h1, hL, h2, h3⟩
  · obtain ⟨o, es, ep, ho, r⟩ := hm
    exact ⟨o, es, ep, k _ o (Ne.symm hL) ho, r⟩
  · refine (I.hok b u e).stay (fun c v hc q => k c v ?_ q) (fun _ q => q) fun _ _ q => q
    rcases hc with z | z
    · rw [z]; exact nit b u e
    · exact nit c _ z
theorem Inv.tok (I : Inv X pins σ H s) (t : Nat) : Inv X pins σ H { s with toks := t } := I.un (h' := s.heap) (t' := t) Un.refl I.hok
/-- all objects kept -/
theorem Inv.kept {t' : Nat} (I : Inv X pins σ H s) (k : ∀ b u, s.heap.get? b = some u → h'.get? b = some u) : Inv X pins σ H { s with heap := h', toks := t' } := I.un (Un.kept k) (I.hok.kept k)
/-- a new object laid and tracked -/
theorem Inv.laid {a : Addr} {o : HO} {t' : Nat} (I : Inv X pins σ H s) (k : ∀ b u, s.heap.get? b = some u → h'.get? b = some u) (hp : s.heap.objs.size ≤ a) (new : ObjOk X.prog X.w (upd H a o) h' a o) :
    Inv X pins σ (upd H a o) { s with heap := h', toks := t' } := I.un (Un.laid k hp (I.hok.fresh hp)) (I.hok.laid k hp new)
/-- an object written -/
theorem Inv.write {x e : Addr} {o : HO} {t' : Nat} (I : Inv X pins σ H s) (mu : Mut (H x)) (he : e = x ∨ H e = some (.own x)) (k : ∀ b u, b ≠ e → s.heap.get? b = some u → h'.get? b = some u) (heo : ∃ u, h'.get? e = some u)
    (new : ObjOk X.prog X.w (upd H x o) h' x o) : Inv X pins σ (upd H x o) { s with heap := h', toks := t' } := I.un (Un.write mu he k heo) (I.hok.write mu he k heo new)
/-- forgetting slots, pins -/
theorem Inv.weak {σ' : List (Option V)} (I : Inv X pins σ H s) (hl : σ'.length = σ.length) (w : ∀ (i : Nat) v, σ'[i]? = some (some v) → σ[i]? = some (some v)) : Inv X pins σ' H s :=
  ⟨I.ok, I.os, I.bare, I.base, let ⟨m, hn, hl'⟩ := I.loc; ⟨m, hn, fun i x v e1 e2 e3 => hl' i x v e1 (w i v e2) e3⟩, I.cell, I.free, I.freeC, I.pin, I.hok, hl.trans I.len⟩
theorem Inv.pins_of {pins' : List (Addr × Obj)} (I : Inv X pins σ H s) (h : ∀ p ∈ pins', s.heap.get? p.1 = some p.2 ∧ H p.1 = none ∧ p.1 ≠ X.env.locals ∧ p.1 ∉ X.fs ∧ ∀ v, p.2.data ≠ .cell v) : Inv X pins' σ H s :=
  ⟨I.ok, I.os, I.bare, I.base, I.loc, I.cell, I.free, I.freeC, fun p hp => (List.mem_append.mp hp).elim (fun z => I.pin p (List.mem_append_left _ z)) (h p), I.hok, I.len⟩

theorem nodup_ix {N : List Str} (hN : N.Nodup) {i j : Nat} {x : Str} (a : N[i]? = some x) (b : N[j]? = some x) : i = j := by
  obtain ⟨h1, e1⟩ := List.getElem?_eq_some_iff.mp a
  obtain ⟨h2, e2⟩ := List.getElem?_eq_some_iff.mp b
  exact (List.getElem_inj hN).mp (e1.trans e2.symm)

/-- a name is stored; what changed -/
theorem store_ok2 {M : Model} {A : Around} {E : Value → Shared → Prop} {i : Nat} {x : Str} {v : V} {u : Value} {Q : Unit → Shared → Prop} (I : Inv X pins σ H s) (hN : X.N.Nodup) (hi : X.N[i]? = some x) (hx : Loc X.env.scope x) (r : RelV v u)
    (h : ∀ s', Inv X pins (σ.set i (some v)) H s' → (∃ a, Heap.SameBut a s.heap s'.heap ∧ (a = X.env.locals ∨ X.env.cells.lookup x = some a)) → Q () s') (hf : X.fn x = true ∨ X.env.scope.names.lookup x = some .local := by first | exact .inl rfl | exact .inr rfl | assumption) : wpAny M A (storeName X.env x u) Q E s := by
  obtain ⟨m, hn, hl⟩ := id I.loc
  have hcls : (X.env.scope.kind == .class || (X.env.scope.kind == .module && X.env.locals != X.env.globals)) = false := by rw [I.ok.kind]; rfl
  have hiσ : i < σ.length := by rw [I.len]; exact (List.getElem?_eq_some_iff.mp hi).1
  have cne := I.cne
  have tracked : ∀ {a : Addr} {h' : Heap}, (∃ o, s.heap.get? a = some o ∧ H a = none) → Heap.SameBut a s.heap h' → HOk X.prog X.w H h' := fun {a h'} ha hs b ob e => by
    obtain ⟨_, _, hfree⟩ := ha
    refine (I.hok b ob e).stay (fun c w' hc q => (hs.2 c ?_).trans q) (fun _ q => q) fun _ _ q => q
    rintro rfl
    rcases hc with rfl | hc
    · rw [hfree] at e; cases e
    · rw [hfree] at hc; cases hc
  rcases hx with hk | hk
  · refine wpAny_storeName_local hk hn (fun h' hn' hs => ?_) hcls
    obtain ⟨oL, _, _, hoL, _⟩ := id hn
    refine h _ ⟨I.ok, I.os, I.bare, ⟨fun b o e n hb hx => ?_, fun b o e n hb hx => ?_, I.base.free, fun b o e hx => ?_, I.base.tups, I.base.frzs, I.base.tbls⟩, ⟨_, hn', fun j y v' e1 e2 e3 => ?_⟩, fun y c e => ?_, I.free, I.freeC, fun p hp => ?_, tracked ⟨oL, hoL, I.free⟩ hs, by simpa using I.len⟩ ⟨_, hs, .inl rfl⟩
    · exact (hs.2 b (Nat.ne_of_lt (Nat.lt_of_lt_of_le (Heap.lt_size e) I.ok.above))).trans (I.base.keep b o e n hb hx)
    · obtain ⟨sl, e1⟩ := I.base.slot b o e n hb hx
      exact ⟨sl, (hs.2 b (Nat.ne_of_lt (Nat.lt_of_lt_of_le (Heap.lt_size e) I.ok.above))).trans e1⟩
    · obtain ⟨o', e1⟩ := I.base.there b o e hx
      exact ⟨o', (hs.2 b (Nat.ne_of_lt (Nat.lt_of_lt_of_le (Heap.lt_size e) I.ok.above))).trans e1⟩
    · by_cases hj : j = i
      · subst hj
        rw [hi] at e1; cases e1
        rw [List.getElem?_set_self hiσ] at e2
        cases e2
        exact ⟨u, r, .inl ⟨hk, by simp⟩⟩
      · rw [List.getElem?_set_ne (Ne.symm hj)] at e2
        obtain ⟨u', r', q⟩ := hl j y v' e1 e2 e3
        refine ⟨u', r', ?_⟩
        rcases q with ⟨k, e⟩ | ⟨k, c, e, z⟩
        · refine .inl ⟨k, ?_⟩
          have : y ≠ x := fun e => hj (nodup_ix hN e1 (e ▸ hi))
          simp [this, e]
        · exact .inr ⟨k, c, e, z.sameBut hs (cne y c e)⟩
    · obtain ⟨w', z⟩ := I.cell y c e
      exact ⟨w', z.sameBut hs (cne y c e)⟩
    · obtain ⟨e, n, ne, nf, d⟩ := I.pin p hp
      exact ⟨(hs.2 p.1 ne).trans e, n, ne, nf, d⟩
  · have hfn : X.fn x = true := by
      rcases hf with z | z
      · exact z
      · rw [z] at hk; cases hk
    obtain ⟨c, hc⟩ := I.ok.has x (.inl hk)
    obtain ⟨w', z⟩ := I.cell x c hc
    refine wpAny_storeName_cell I.ok.kind hk hc z (fun h' hc' hs => ?_)
    obtain ⟨oc, hoc, hocd⟩ := id z
    refine h { s with heap := h' } ⟨I.ok, I.os, I.bare, ⟨fun b o e n hb hx => ?_, fun b o e n hb hx => ?_, I.base.free, fun b o e hx => ?_, I.base.tups, I.base.frzs, I.base.tbls⟩, ⟨m, hn.sameBut hs (Ne.symm (cne x c hc)), fun j y v' e1 e2 e3 => ?_⟩, fun y c' e => ?_, I.free, I.freeC, fun p hp => ?_, tracked ⟨oc, hoc, I.freeC x c hc⟩ hs, by simpa using I.len⟩ ⟨c, hs, .inr hc⟩
    · exact (hs.2 b (Nat.ne_of_lt (Nat.lt_of_lt_of_le (Heap.lt_size e) (I.ok.cab x c hfn hc)))).trans (I.base.keep b o e n hb hx)
    · obtain ⟨sl, e1⟩ := I.base.slot b o e n hb hx
      exact ⟨sl, (hs.2 b (Nat.ne_of_lt (Nat.lt_of_lt_of_le (Heap.lt_size e) (I.ok.cab x c hfn hc)))).trans e1⟩
    · obtain ⟨o', e1⟩ := I.base.there b o e hx
      exact ⟨o', (hs.2 b (Nat.ne_of_lt (Nat.lt_of_lt_of_le (Heap.lt_size e) (I.ok.cab x c hfn hc)))).trans e1⟩
    · by_cases hj : j = i
      · subst hj
        rw [hi] at e1; cases e1
        rw [List.getElem?_set_self hiσ] at e2
        cases e2
        exact ⟨u, r, .inr ⟨.inl hk, c, hc, hc'⟩⟩
      · rw [List.getElem?_set_ne (Ne.symm hj)] at e2
        obtain ⟨u', r', q⟩ := hl j y v' e1 e2 e3
        refine ⟨u', r', ?_⟩
        rcases q with q | ⟨k, c', e, z'⟩
        · exact .inl q
        · refine .inr ⟨k, c', e, z'.sameBut hs ?_⟩
          rintro rfl
          exact hj (nodup_ix hN e1 (I.ok.inj _ _ _ e hc ▸ hi))
    · by_cases hcc : c' = c
      · subst hcc; exact ⟨_, hc'⟩
      · obtain ⟨w2, z2⟩ := I.cell y c' e
        exact ⟨w2, z2.sameBut hs hcc⟩
    · obtain ⟨e, n, ne, nf, d⟩ := I.pin p hp
      refine ⟨(hs.2 p.1 ?_).trans e, n, ne, nf, d⟩
      intro q
      rw [q, hoc] at e
      have q' : oc = p.2 := Option.some.inj e
      exact d w' (by rw [← q']; exact hocd)
theorem store_ok {M : Model} {A : Around} {E : Value → Shared → Prop} {i : Nat} {x : Str} {v : V} {u : Value} {Q : Unit → Shared → Prop} (I : Inv X pins σ H s) (hN : X.N.Nodup) (hi : X.N[i]? = some x) (hx : Loc X.env.scope x) (r : RelV v u)
    (h : ∀ s', Inv X pins (σ.set i (some v)) H s' → Q () s') (hf : X.fn x = true ∨ X.env.scope.names.lookup x = some .local := by first | exact .inl rfl | exact .inr rfl | assumption) : wpAny M A (storeName X.env x u) Q E s :=
  store_ok2 I hN hi hx r (fun s' I' _ => h s' I') hf
/-- behind a call or a block, the state as it is -/
theorem Inv.call' {s' : Shared} {ch : List Addr} (I : Inv X pins σ H s) (ho : s'.os = s.os) (u : Un (frs X.stack) ch H H' s.heap s'.heap) (hok : HOk X.prog X.w H' s'.heap) (hg : AllBare s'.gens)
    (hch : ∀ b ∈ ch, (b ∈ X.ex ∨ X.s₀.heap.objs.size ≤ b) ∧ b ≠ X.env.locals ∧ (∀ x c, X.env.cells.lookup x = some c → c ≠ b) ∧ ∀ p ∈ X.pn ++ pins, p.1 ≠ b) : Inv X pins σ H' s' := by
  obtain ⟨h', g', d', t', o'⟩ := s'
  have e : o' = s.os := ho
  subst e
  exact I.call (g' := g') (t' := t') (d' := d') u hok hg hch
end

/-! ### the judgements -/
/-- an exception: its class, its own dict's address (where it has one), the abstract heap behind it -/
abbrev XK := Value → Option Addr → Hp → Prop
abbrev St := List (Option V)
abbrev VK := V → Hp → Prop
/-- an expression's reading; a test's; an argument list's -/
abbrev TE := St → Hp → VK → Prop
abbrev TT := St → Hp → (Bool → Hp → Prop) → Prop
abbrev TA := St → Hp → (List V → Hp → Prop) → Prop
/-- what is wanted behind a statement -/
structure Ends where
  nx : St → Hp → Prop
  rt : VK
  bk : St → Hp → Prop := fun _ _ => False
  ct : St → Hp → Prop := fun _ _ => False
abbrev TS := Ends → St → Hp → Prop

def EP (X : Cx) (pins : List (Addr × Obj)) (σ : St) (Q : VK) (u : Value) (s' : Shared) : Prop := ∃ v H', Inv X pins σ H' s' ∧ RelV v u ∧ Q v H'
def TP (X : Cx) (pins : List (Addr × Obj)) (σ : St) (Q : Bool → Hp → Prop) (b : Bool) (s' : Shared) : Prop := ∃ H', Inv X pins σ H' s' ∧ Q b H'
def AP (X : Cx) (pins : List (Addr × Obj)) (σ : St) (Q : List V → Hp → Prop) (us : List Value) (s' : Shared) : Prop := ∃ vs H', Inv X pins σ H' s' ∧ Vals vs us ∧ Q vs H'
def SP (X : Cx) (pins : List (Addr × Obj)) (D : Ends) (f : Flow) (s' : Shared) : Prop :=
  match f with
  | .next => ∃ σ' H', Inv X pins σ' H' s' ∧ D.nx σ' H'
  | .brk => ∃ σ' H', Inv X pins σ' H' s' ∧ D.bk σ' H'
  | .cont => ∃ σ' H', Inv X pins σ' H' s' ∧ D.ct σ' H'
  | .ret u => ∃ v σ' H', Inv X pins σ' H' s' ∧ RelV v u ∧ D.rt v H'

def PE (X : Cx) (e : Expr) (t : TE) : Prop :=
  ∀ (pins : List (Addr × Obj)) (s : Shared) (σ : St) (H : Hp) (Q : VK), Inv X pins σ H s → t σ H Q → wpAny (model X.prog X.w) X.A (eval e X.env) (EP X pins σ Q) X.xe s
def PT (X : Cx) (e : Expr) (t : TT) : Prop :=
  ∀ (pins : List (Addr × Obj)) (s : Shared) (σ : St) (H : Hp) (Q : Bool → Hp → Prop), Inv X pins σ H s → t σ H Q → wpAny (model X.prog X.w) X.A (isTrue e X.env (eval e X.env)) (TP X pins σ Q) X.xe s
/-- a test whatever its 'whole' is (and, or) -/
def PW (X : Cx) (e : Expr) (t : TT) : Prop :=
  ∀ (whole : Sem Value) (pins : List (Addr × Obj)) (s : Shared) (σ : St) (H : Hp) (Q : Bool → Hp → Prop), Inv X pins σ H s → t σ H Q → wpAny (model X.prog X.w) X.A (isTrue e X.env whole) (TP X pins σ Q) X.xe s
theorem PW.pt {X : Cx} {e : Expr} {t : TT} (h : PW X e t) : PT X e t := h _
/-- an argument list (no star), from the left -/
def PA (X : Cx) (es : List Expr) (t : TA) : Prop :=
  ∀ (pos : Pos) (pins : List (Addr × Obj)) (s : Shared) (σ : St) (H : Hp) (Q : List V → Hp → Prop), Inv X pins σ H s → t σ H Q → wpAny (model X.prog X.w) X.A (spliced (backTo pos (starEach es X.env))) (AP X pins σ Q) X.xe s
def PS (X : Cx) (st : Stmt) (t : TS) : Prop :=
  ∀ (pins : List (Addr × Obj)) (s : Shared) (σ : St) (H : Hp) (D : Ends), Inv X pins σ H s → t D σ H → wpAny (model X.prog X.w) X.A (exec st X.env) (SP X pins D) X.xe s
def PSs (X : Cx) (st : List Stmt) (t : TS) : Prop :=
  ∀ (pins : List (Addr × Obj)) (s : Shared) (σ : St) (H : Hp) (D : Ends), Inv X pins σ H s → t D σ H → wpAny (model X.prog X.w) X.A (execs st X.env) (SP X pins D) X.xe s
/-- weaken the end -/
theorem thn {α : Type} {t : Sem α} {Q Q' : α → Shared → Prop} {M : Model} {A : Around} {E : Value → Shared → Prop} {s : Shared} (h : wpAny M A t Q E s) (hQ : ∀ a s, Q a s → Q' a s) : wpAny M A t Q' E s := wpAny_mono h hQ fun _ _ x => x
end L2

namespace L2
open PySem PySem.Spec PyProof.Rows
section
variable {X : Cx}

/-! ### names and constants -/
def tVar (i : Nat) : TE := fun σ H Q => ∃ v, σ[i]? = some (some v) ∧ Q v H
def tC (v : V) : TE := fun _ H Q => Q v H
theorem pe_var {i : Nat} {x : Str} {pos : Pos} (hN : X.N[i]? = some x) (hv : Vis X.env.scope x) (hd : (x == ("__debug__" : Str)) = false := by decide) (hcd : (x == ("__classdict__" : Str)) = false := by decide) : PE X (.Name x pos) (tVar i) := by
  intro pins s σ H Q I h
  obtain ⟨v, e, h⟩ := h
  obtain ⟨m, hn, hl⟩ := I.loc
  obtain ⟨u, r, l⟩ := hl i x v hN e hv
  have fin : EP X pins σ Q u s := ⟨v, H, I, r, h⟩
  rcases l with ⟨hk, hm⟩ | ⟨hk, c, hc, hcell⟩
  · exact wpAny_Name (wpAny_loadName_local I.ok.kind hk hn hm fin) hd
  · rcases hk with hk | hk
    · exact wpAny_Name (wpAny_loadName_cell I.ok.kind hk hc hcell fin) hd
    · exact wpAny_Name (wpAny_loadName_free I.ok.kind hk hc hcell fin hcd) hd
theorem pe_int {i j pos} : PE X (.Constant (.int i) j pos) (tC (.int i)) := fun _ _ _ H _ I h => wpAny_Constant_int ⟨.int i, H, I.tok _, ⟨_, rfl⟩, h⟩
theorem pe_bl {b j pos} : PE X (.Constant (.bool b) j pos) (tC (.bl b)) := fun _ _ _ H _ I h => Constant_bool ⟨.bl b, H, I, rfl, h⟩
theorem pe_non {j pos} : PE X (.Constant .none j pos) (tC .non) := fun _ _ _ H _ I h => Constant_none ⟨.non, H, I, rfl, h⟩
theorem pe_str {x j pos} : PE X (.Constant (.str x) j pos) (tC (.str x)) := fun _ _ _ H _ I h => Calls.Constant_str ⟨.str x, H, I.tok _, ⟨_, rfl⟩, h⟩

/-- a global name of the def -/
def Gl (X : Cx) (x : Str) : Prop := X.env.kindOf x = some .globalImplicit
theorem ld_glob {E : Value → Shared → Prop} {pins : List (Addr × Obj)} {s : Shared} {σ : St} {H : Hp} {x : Str} {u : Value} {pos : Pos} {Q : Value → Shared → Prop} (I : Inv X pins σ H s) (hg : Gl X x) (hm : X.mg x = some u) (h : Q u s)
    (hd : (x == ("__debug__" : Str)) = false := by decide) : wpAny (model X.prog X.w) X.A (eval (.Name x pos) X.env) Q E s :=
  Calls.Name_function_global I.ok.kind hg (Calls.loadGlobal_global (by rw [I.ok.glob]; exact I.mod.glob.keeps I.bk) hm h) hd
theorem ld_blt {E : Value → Shared → Prop} {pins : List (Addr × Obj)} {s : Shared} {σ : St} {H : Hp} {x : Str} {u : Value} {pos : Pos} {Q : Value → Shared → Prop} (I : Inv X pins σ H s) (hg : Gl X x) (hm : X.mg x = none) (hv : bootBuiltins x = some u) (h : Q u s)
    (hn : x ≠ "__name__" := by decide) (hd : (x == ("__debug__" : Str)) = false := by decide) : wpAny (model X.prog X.w) X.A (eval (.Name x pos) X.env) Q E s := by
  obtain ⟨mb, h1, h2⟩ := I.mod.blt
  exact Calls.Name_function_global I.ok.kind hg (Calls.loadGlobal_builtin (by rw [I.ok.glob]; exact I.mod.glob.keeps I.bk) hm (by rw [I.ok.blt]; exact h1.keeps I.bk) ((h2 x hn).trans hv) h) hd
/-- a module's constant, a class, a function, as a value -/
theorem pe_glob {x : Str} {v : V} {u : Value} {pos : Pos} (hg : Gl X x) (hm : X.mg x = some u) (r : RelV v u) (hd : (x == ("__debug__" : Str)) = false := by decide) : PE X (.Name x pos) (tC v) :=
  fun _ _ _ H _ I h => ld_glob I hg hm ⟨v, H, I, r, h⟩ hd
theorem pe_bltn {x : Str} {v : V} {u : Value} {pos : Pos} (hg : Gl X x) (hm : X.mg x = none) (hv : bootBuiltins x = some u) (r : RelV v u) (hn : x ≠ "__name__" := by decide) (hd : (x == ("__debug__" : Str)) = false := by decide) : PE X (.Name x pos) (tC v) :=
  fun _ _ _ H _ I h => ld_blt I hg hm hv ⟨v, H, I, r, h⟩ hn hd

variable {a b : Expr} {ta tb : TE} {pos : Pos}
/-- a comparison as a value, as a test -/
def tB (t : TE) : TT := fun σ H Q => t σ H fun x H1 => ∃ c, x = .bl c ∧ Q c H1
/-- an expression whose value is a bool, as a test -/
theorem pt_val {e : Expr} {t : TE} (h : PE X e t) (he : ∀ whole, isTrue e X.env whole = (do let v ← whole; standAt e.pos; holding [v] (truthy v)) := by intro _; rfl) : PT X e (tB t) := by
  intro pins s σ H Q I hw
  refine isTrue_plain (thn (h pins s σ H _ I hw) fun v s1 ⟨x, H1, I1, r1, q1⟩ => ?_) (he _)
  obtain ⟨d, rfl, q⟩ := q1
  cases r1
  exact wpAny_truthy_bool ⟨H1, I1, q⟩

/-! ### and, or, not -/
variable {tA tB' : TT} {rest : List Expr}
def tAnd (t u : TT) : TT := fun σ H Q => t σ H fun c H1 => if c = true then u σ H1 Q else Q false H1
def tOr (t u : TT) : TT := fun σ H Q => t σ H fun c H1 => if c = true then Q true H1 else u σ H1 Q
def tNot (t : TT) : TT := fun σ H Q => t σ H fun c H1 => Q (!c) H1
theorem pw_and1 (ha : PT X a tA) : PW X (.BoolOp .And [a] pos) tA := by
  intro wh pins s σ H Q I h
  refine isTrue_and (thn (ha pins s σ H Q I h) fun c s1 e => ?_)
  cases c with
  | true => exact isTrue_and_nil e
  | false => exact e
theorem pw_or1 (ha : PT X a tA) : PW X (.BoolOp .Or [a] pos) tA := by
  intro wh pins s σ H Q I h
  refine isTrue_or (thn (ha pins s σ H Q I h) fun c s1 e => ?_)
  cases c with
  | false => exact isTrue_or_nil e
  | true => exact e
theorem pw_and (ha : PT X a tA) (hb : PW X (.BoolOp .And (b :: rest) pos) tB') : PW X (.BoolOp .And (a :: b :: rest) pos) (tAnd tA tB') := by
  intro wh pins s σ H Q I h
  refine isTrue_and (thn (ha pins s σ H _ I h) fun c s1 ⟨H1, I1, q1⟩ => ?_)
  cases c with
  | true => exact hb wh pins s1 σ H1 Q I1 q1
  | false => exact ⟨H1, I1, q1⟩
theorem pw_or (ha : PT X a tA) (hb : PW X (.BoolOp .Or (b :: rest) pos) tB') : PW X (.BoolOp .Or (a :: b :: rest) pos) (tOr tA tB') := by
  intro wh pins s σ H Q I h
  refine isTrue_or (thn (ha pins s σ H _ I h) fun c s1 ⟨H1, I1, q1⟩ => ?_)
  cases c with
  | true => exact ⟨H1, I1, q1⟩
  | false => exact hb wh pins s1 σ H1 Q I1 q1
theorem pt_not (ha : PT X a tA) : PT X (.UnaryOp .Not a pos) (tNot tA) := by
  intro pins s σ H Q I h
  exact isTrue_not (ha pins s σ H (fun c H1 => Q (!c) H1) I h)
/-- .. as values (bools) -/
def tAndV (ta tb : TE) : TE := fun σ H Q => ta σ H fun x H1 => ∃ c, x = .bl c ∧ if c = true then tb σ H1 Q else Q (.bl false) H1
def tNotV (ta : TE) : TE := fun σ H Q => ta σ H fun x H1 => ∃ c, x = .bl c ∧ Q (.bl (!c)) H1
theorem pe_one {op} {t : TE} (h : PE X a t) : PE X (.BoolOp op [a] pos) t := fun pins s σ H Q I hw => BoolOp_one (h pins s σ H Q I hw)
theorem pe_and (ha : PE X a ta) (hb : PE X (.BoolOp .And (b :: rest) pos) tb) : PE X (.BoolOp .And (a :: b :: rest) pos) (tAndV ta tb) := by
  intro pins s σ H Q I h
  refine BoolOp_and (thn (ha pins s σ H _ I h) fun v s1 ⟨x, H1, I1, r1, q1⟩ => ?_)
  obtain ⟨c, rfl, q1⟩ := q1
  cases r1
  refine wpAny_truthy_bool ?_
  cases c with
  | true => exact hb pins s1 σ H1 Q I1 q1
  | false => exact ⟨.bl false, H1, I1, rfl, q1⟩
theorem pe_not (ha : PE X a ta) : PE X (.UnaryOp .Not a pos) (tNotV ta) := by
  intro pins s σ H Q I h
  refine UnaryOp_ (thn (ha pins s σ H _ I h) fun v s1 ⟨x, H1, I1, r1, q1⟩ => ?_)
  obtain ⟨c, rfl, q1⟩ := q1
  cases r1
  exact not_of (wpAny_truthy_bool ⟨.bl (!c), H1, I1, rfl, q1⟩)
/-- a if t else b -/
def tIf (t : TT) (ta tb : TE) : TE := fun σ H Q => t σ H fun c H1 => if c = true then ta σ H1 Q else tb σ H1 Q
theorem pe_ifExp {c : Expr} (hc : PT X c tA) (ha : PE X a ta) (hb : PE X b tb) : PE X (.IfExp c a b pos) (tIf tA ta tb) := by
  intro pins s σ H Q I h
  refine wpAny_IfExp (thn (hc pins s σ H _ I h) fun d s1 ⟨H1, I1, q1⟩ => ?_)
  cases d with
  | true => exact ha pins s1 σ H1 Q I1 q1
  | false => exact hb pins s1 σ H1 Q I1 q1
end
end L2

namespace L2
open PySem PySem.Spec PyProof.Rows

/-! ### a list, a tuple that is read: tracked, frozen, or an object of the module -/
def SqL (K : PySem.W.Frag) (H : Hp) (a : Addr) (xs : List V) : Prop :=
  Rd H a (.lst xs) ∨
    ∃ (o : Obj) (its : Array Value) (n : Nat), K.lookup a = some o ∧ o.cls = .type "list" ∧ o.dict = none ∧ o.data = .seq its n ∧ its.size ≤ sizeLine ∧ Vals xs its.toList
def SqT (K : PySem.W.Frag) (H : Hp) (a : Addr) (xs : List V) : Prop :=
  Rd H a (.tup xs) ∨
    ∃ (o : Obj) (its : Array Value) (n : Nat), K.lookup a = some o ∧ o.cls = .type "tuple" ∧ o.data = .seq its n ∧ its.size ≤ sizeLine ∧ Vals xs its.toList
def absV : Value → Option V
  | .none => some .non
  | .bool b => some (.bl b)
  | .int i _ => some (.int i)
  | .str x _ => some (.str x)
  | .bytes b _ => some (.byt b)
  | .float b _ => some (.flt b)
  | .ref a => some (.ref a)
  | .type n => some (.ty n)
  | _ => none
theorem RelV.abs {x : V} {u : Value} (r : RelV x u) : absV u = some x := by
  cases x with
  | non => cases r; rfl
  | bl _ => cases r; rfl
  | int _ => obtain ⟨t, rfl⟩ := r; rfl
  | str _ => obtain ⟨t, rfl⟩ := r; rfl
  | byt _ => obtain ⟨t, rfl⟩ := r; rfl
  | flt _ => obtain ⟨t, rfl⟩ := r; rfl
  | ref _ => cases r; rfl
  | ty _ => cases r; rfl
theorem RelV.inj {x y : V} {u : Value} (r : RelV x u) (q : RelV y u) : x = y := Option.some.inj (r.abs.symm.trans q.abs)
theorem Vals.inj : ∀ {xs ys : List V} {us : List Value}, Vals xs us → Vals ys us → xs = ys
  | _, _, _, .nil, .nil => rfl
  | _, _, _, .cons r t, .cons r' t' => by rw [r.inj r', Vals.inj t t']
section
variable {X : Cx} {pins : List (Addr × Obj)} {σ : St} {H : Hp} {s : Shared} {a : Addr} {xs ys : List V}
theorem SqL.of {K : PySem.W.Frag} (h : H a = some (.lst xs)) : SqL K H a xs := .inl (.inl h)
theorem SqT.of {K : PySem.W.Frag} (h : H a = some (.tup xs)) : SqT K H a xs := .inl (.inl h)
theorem Inv.list (I : Inv X pins σ H s) (h : SqL X.K H a xs) : ∃ its : List Value, Vals xs its ∧ PlainL s.heap a its.toArray ∧ xs.length ≤ sizeLine := by
  rcases h with h | ⟨o, its, n, hk, hc, hd, hs, hz, r⟩
  · obtain ⟨z, its, n, r, e⟩ := h.ok I.hok
    exact ⟨its, r, ⟨_, n, e, rfl, rfl, rfl⟩, z⟩
  · refine ⟨its.toList, r, ⟨o, n, I.kIn a o hk, hc, hd, by simpa using hs⟩, ?_⟩
    have e := r.length
    simp only [Array.length_toList] at e
    omega
theorem Inv.tuple (I : Inv X pins σ H s) (h : SqT X.K H a xs) : ∃ its : List Value, Vals xs its ∧ IsTup s.heap a its.toArray ∧ xs.length ≤ sizeLine := by
  rcases h with h | ⟨o, its, n, hk, hc, hs, hz, r⟩
  · obtain ⟨z, its, r, p⟩ := h.ok I.hok
    exact ⟨its, r, p, z⟩
  · refine ⟨its.toList, r, ⟨o, I.kIn a o hk, hc, n, by simpa using hs⟩, ?_⟩
    have e := r.length
    simp only [Array.length_toList] at e
    omega
theorem Inv.list_inj (I : Inv X pins σ H s) (h : SqL X.K H a xs) (h' : SqL X.K H a ys) : xs = ys := by
  obtain ⟨its, r, ⟨o, n, e, _, _, d⟩, _⟩ := I.list h
  obtain ⟨its', r', ⟨o', n', e', _, _, d'⟩, _⟩ := I.list h'
  rw [e] at e'; cases e'
  rw [d] at d'
  injection d' with d1 _
  have : its = its' := by simpa using congrArg Array.toList d1
  subst this
  exact r.inj r'
end

/-! ### another wish about exceptions -/
abbrev Cx.wish (X : Cx) (E : Value → Shared → Prop) : Cx := { X with xe := E }
/-- no exception leaves -/
abbrev Cx.nox (X : Cx) : Cx := X.wish fun _ _ => False
theorem Cx.Ok.wish {X : Cx} (ok : X.Ok) (E : Value → Shared → Prop) : (X.wish E).Ok :=
  ⟨ok.mod, ok.kind, ok.glob, ok.blt, ok.above, ok.inj, ok.has, ok.cab, ok.hd, ok.frames, ok.stk, ok.exf, ok.bs, ok.bsz, ok.noex, ok.exfs, ok.funs, ok.frf⟩
theorem Cx.Ok.unwish {X : Cx} {E : Value → Shared → Prop} (ok : (X.wish E).Ok) : X.Ok :=
  ⟨ok.mod, ok.kind, ok.glob, ok.blt, ok.above, ok.inj, ok.has, ok.cab, ok.hd, ok.frames, ok.stk, ok.exf, ok.bs, ok.bsz, ok.noex, ok.exfs, ok.funs, ok.frf⟩
section
variable {X : Cx} {pins : List (Addr × Obj)} {σ : St} {H : Hp} {s : Shared} {E : Value → Shared → Prop}
theorem Inv.wish (I : Inv X pins σ H s) (E : Value → Shared → Prop) : Inv (X.wish E) pins σ H s := ⟨I.ok.wish E, I.os, I.bare, I.base, I.loc, I.cell, I.free, I.freeC, I.pin, I.hok, I.len⟩
theorem Inv.unwish (I : Inv (X.wish E) pins σ H s) : Inv X pins σ H s := ⟨I.ok.unwish, I.os, I.bare, I.base, I.loc, I.cell, I.free, I.freeC, I.pin, I.hok, I.len⟩
theorem SP.unwish {D : Ends} {f : Flow} {s' : Shared} (h : SP (X.wish E) pins D f s') : SP X pins D f s' := by
  cases f with
  | next => obtain ⟨σ', H', I, q⟩ := h; exact ⟨σ', H', I.unwish, q⟩
  | brk => obtain ⟨σ', H', I, q⟩ := h; exact ⟨σ', H', I.unwish, q⟩
  | cont => obtain ⟨σ', H', I, q⟩ := h; exact ⟨σ', H', I.unwish, q⟩
  | ret u => obtain ⟨v, σ', H', I, r, q⟩ := h; exact ⟨v, σ', H', I.unwish, r, q⟩
theorem PE.nox {e : Expr} {t : TE} (h : PE X.nox e t) : PE X e t := fun pins s σ H Q I hw =>
  wpAny_mono (h pins s σ H Q (I.wish _) hw) (fun _ _ ⟨v, H', I', r, q⟩ => ⟨v, H', I'.unwish, r, q⟩) fun _ _ z => False.elim z
theorem PT.nox {e : Expr} {t : TT} (h : PT X.nox e t) : PT X e t := fun pins s σ H Q I hw =>
  wpAny_mono (h pins s σ H Q (I.wish _) hw) (fun _ _ ⟨H', I', q⟩ => ⟨H', I'.unwish, q⟩) fun _ _ z => False.elim z
theorem PSs.nox {st : List Stmt} {t : TS} (h : PSs X.nox st t) : PSs X st t := fun pins s σ H D I hw =>
  wpAny_mono (h pins s σ H D (I.wish _) hw) (fun _ _ q => q.unwish) fun _ _ z => False.elim z
end

/-! ### blocks and small statements -/
section
variable {X : Cx} {st : Stmt} {rest : List Stmt} {t u : TS} {e : Expr} {te : TE} {pos : Pos}
def tNext : TS := fun D σ H => D.nx σ H
def tSeq (t u : TS) : TS := fun D σ H => t { D with nx := u D } σ H
theorem pss_nil : PSs X [] tNext := fun _ _ σ H _ I h => wpAny_execs_nil ⟨σ, H, I, h⟩
theorem pss_cons (h1 : PS X st t) (h2 : PSs X rest u) : PSs X (st :: rest) (tSeq t u) := by
  intro pins s σ H D I h
  refine wpAny_execs_cons (thn (h1 pins s σ H { D with nx := u D } I h) fun f s1 q => ?_)
  cases f with
  | next =>
    obtain ⟨σ', H', I', q⟩ := q
    exact h2 pins s1 σ' H' D I' q
  | ret v => exact q
  | brk => exact q
  | cont => exact q
theorem pss_one (h1 : PS X st t) : PSs X [st] t := by
  intro pins s σ H D I h
  refine wpAny_execs_cons (thn (h1 pins s σ H D I h) fun f s1 q => ?_)
  cases f with
  | next => exact wpAny_execs_nil q
  | ret v => exact q
  | brk => exact q
  | cont => exact q
/-- in a def's body nothing is shown -/
theorem Inv.quiet {pins : List (Addr × Obj)} {σ : St} {H : Hp} {s : Shared} (I : Inv X pins σ H s) : interactive X.env = false := by simp [interactive, I.ok.kind]
/-- an expression whose value is dropped -/
def tDrop (te : TE) : TS := fun D σ H => te σ H fun _ H1 => D.nx σ H1
theorem ps_expr (he : PE X e te) (hs : swapsWith e none pos.line X.env = pure false := by rfl) : PS X (.Expr e pos) (tDrop te) := by
  intro pins s σ H D I h
  exact wpAny_Expr_any (thn (he pins s σ H _ I h) fun v s1 ⟨x, H1, I1, r1, q1⟩ => ⟨σ, H1, I1, q1⟩) I.quiet hs
def tRet (te : TE) : TS := fun D σ H => te σ H D.rt
theorem ps_ret (he : PE X e te) : PS X (.Return (some e) pos) (tRet te) := by
  intro pins s σ H D I h
  exact wpAny_Return_some (thn (he pins s σ H _ I h) fun v s1 ⟨x, H1, I1, r1, q1⟩ => ⟨x, σ, H1, I1, r1, q1⟩)
def tIfS (c : TT) (t u : TS) : TS := fun D σ H => c σ H fun b H1 => if b = true then t D σ H1 else u D σ H1
theorem ps_if {c : Expr} {a b : List Stmt} {tc : TT} (hc : PT X c tc) (ha : PSs X a t) (hb : PSs X b u) : PS X (.If c a b pos) (tIfS tc t u) := by
  intro pins s σ H D I h
  refine wpAny_If (thn (hc pins s σ H _ I h) fun d s1 ⟨H1, I1, q1⟩ => ?_)
  cases d with
  | true => exact ha pins s1 σ H1 D I1 q1
  | false => exact hb pins s1 σ H1 D I1 q1
end

/-! ### targets -/
abbrev TG := V → St → Hp → (St → Hp → Prop) → Prop
abbrev TGs := List V → St → Hp → (St → Hp → Prop) → Prop
def PG (X : Cx) (target : Expr) (t : TG) : Prop :=
  ∀ (pins : List (Addr × Obj)) (s : Shared) (σ : St) (H : Hp) (v : V) (u : Value) (Q : St → Hp → Prop), Inv X pins σ H s → RelV v u → t v σ H Q →
    wpAny (model X.prog X.w) X.A (assign target X.env u) (fun _ s' => ∃ σ' H', Inv X pins σ' H' s' ∧ Q σ' H') X.xe s
/-- several targets, one after another -/
def PGs (X : Cx) (ts : List Expr) (t : TGs) : Prop :=
  ∀ (pins : List (Addr × Obj)) (s : Shared) (σ : St) (H : Hp) (vs : List V) (us : List Value) (Q : St → Hp → Prop), Inv X pins σ H s → Vals vs us → t vs σ H Q →
    wpAny (model X.prog X.w) X.A (assignInOrder ((assignEach ts X.env).map (·.2)) us) (fun _ s' => ∃ σ' H', Inv X pins σ' H' s' ∧ Q σ' H') X.xe s
section
variable {X : Cx} {pos : Pos}
def gName (i : Nat) : TG := fun v σ H Q => Q (σ.set i (some v)) H
theorem pg_name {i : Nat} {x : Str} (hN : X.N.Nodup) (hi : X.N[i]? = some x) (hx : Loc X.env.scope x) (hf : X.fn x = true ∨ X.env.scope.names.lookup x = some .local := by first | exact .inl rfl | exact .inr rfl | assumption) : PG X (.Name x pos) (gName i) := by
  intro pins s σ H v u Q I r h
  exact wpAny_assign_Name (store_ok I hN hi hx r (fun s' I' => ⟨_, H, I', h⟩) hf)
def gNil : TGs := fun vs σ H Q => vs = [] ∧ Q σ H
def gCons (t : TG) (u : TGs) : TGs := fun vs σ H Q => ∃ v r, vs = v :: r ∧ t v σ H fun σ' H' => u r σ' H' Q
theorem pgs_nil : PGs X [] gNil := by
  intro pins s σ H vs us Q I r h
  obtain ⟨e, h⟩ := h
  subst e
  cases r
  exact assignInOrder_nil ⟨σ, H, I, h⟩
theorem pgs_cons {e : Expr} {es : List Expr} {t : TG} {u : TGs} (h1 : PG X e t) (h2 : PGs X es u)
    (hs : (assignEach (e :: es) X.env).map (·.2) = assign e X.env :: (assignEach es X.env).map (·.2) := by rfl) : PGs X (e :: es) (gCons t u) := by
  intro pins s σ H vs us Q I r h
  obtain ⟨v, vr, e1, h⟩ := h
  subst e1
  cases r with
  | cons r rr =>
    rw [hs]
    refine assignInOrder_cons (thn (h1 pins s σ H _ _ _ I r h) fun _ s1 ⟨σ1, H1, I1, q1⟩ => ?_)
    exact h2 pins s1 σ1 H1 _ _ Q I1 rr q1
/-- (a, b, ..) = a tuple of that length -/
def gTup (K : PySem.W.Frag) (n : Nat) (t : TGs) : TG := fun v σ H Q => ∃ a xs, v = .ref a ∧ SqT K H a xs ∧ xs.length = n ∧ t xs σ H Q
theorem pg_tup {es : List Expr} {k : Nat} {t : TGs} {n : Nat} (hc : X.calm = true) (h : PGs X es t)
    (hn : (assignEach es X.env).length = n := by rfl) (hst : (assignEach es X.env).findIdx? (·.1) = none := by rfl) : PG X (.Tuple es k pos) (gTup X.K n t) := by
  intro pins s σ H v u Q I r hw
  obtain ⟨a, xs, e1, hq, hl, hw⟩ := hw
  subst e1
  cases r
  obtain ⟨its, rv, ht, hz⟩ := I.tuple hq
  refine assign_Tuple_tuple (I.ok.hd hc) ht (by simp [hn, ← hl, rv.length]) hst fun h' hx => ?_
  have I1 : Inv X pins σ H { s with heap := h' } := I.kept (t' := s.toks) fun b o e => hx b o (Nat.ne_of_lt (Heap.lt_size e)) e
  exact h pins _ σ H xs _ Q I1 (by simpa using rv) hw
/-- target = value -/
def tAsg (te : TE) (g : TG) : TS := fun D σ H => te σ H fun x H1 => g x σ H1 D.nx
theorem ps_asg {tg e : Expr} {te : TE} {g : TG} (he : PE X e te) (hg : PG X tg g) (hs : swapsWithSole [tg] e pos.line X.env = pure false := by rfl) (hw : swappedStores [tg] e X.env = pure none := by rfl)
    (h1 : (assignEach [tg] X.env).map (·.2) = [assign tg X.env] := by rfl) : PS X (.Assign [tg] e pos) (tAsg te g) := by
  intro pins s σ H D I h
  refine wpAny_Assign_stores (thn (he pins s σ H _ I h) fun v s1 ⟨x, H1, I1, r1, q1⟩ => ?_) hs hw
  rw [h1]
  exact thn (hg pins s1 σ H1 x v _ I1 r1 q1) fun _ s2 q => q
/-- name = value -/
theorem ps_set {i : Nat} {x : Str} {e : Expr} {te : TE} {pos' : Pos} (hN : X.N.Nodup) (hi : X.N[i]? = some x) (hx : Loc X.env.scope x) (he : PE X e te) (hs : swapsWith e (some (.Name x pos')) pos.line X.env = pure false := by rfl) (hf : X.fn x = true ∨ X.env.scope.names.lookup x = some .local := by first | exact .inl rfl | exact .inr rfl | assumption) :
    PS X (.Assign [.Name x pos'] e pos) (tAsg te (gName i)) := by
  intro pins s σ H D I h
  refine wpAny_Assign_Name (thn (he pins s σ H _ I h) fun v s1 ⟨y, H1, I1, r1, q1⟩ => ?_) hs
  exact store_ok I1 hN hi hx r1 (fun s2 I2 => ⟨_, H1, I2, q1⟩) hf
end

/-! ### while -/
section
variable {X : Cx} {pos : Pos}
/-- the invariant W with its measure -/
def tWhile (c : TT) (tb : TS) : TS := fun D σ H => ∃ W : Nat → St → Hp → Prop, (∃ m, W m σ H) ∧ ∀ m σ H, W m σ H →
  c σ H fun b H1 => if b = true then ∃ N : St → Hp → Prop, (∀ σ' H', N σ' H' → ∃ m', m' < m ∧ W m' σ' H') ∧ tb { D with nx := N, ct := N, bk := D.nx } σ H1 else D.nx σ H1
theorem ps_while {c : Expr} {body : List Stmt} {tc : TT} {tb : TS} (hp : PassesOwn (model X.prog X.w) X.A X.env X.xe) (hc : PT X c tc) (hb : PSs X body tb) : PS X (.While c body [] pos) (tWhile tc tb) := by
  intro pins s σ H D I h
  obtain ⟨W, ⟨m0, w0⟩, turn⟩ := h
  refine wpAny_While (codeAny_whileLoop (fun n s' => ∃ σ' H', Inv X pins σ' H' s' ∧ W n σ' H') ?_ m0 ⟨σ, H, I, w0⟩)
  rintro n s1 ⟨σ1, H1, I1, w1⟩
  refine wpAny_passesOwn hp (thn (hc pins s1 σ1 H1 _ I1 (turn n σ1 H1 w1)) fun b s2 ⟨H2, I2, q2⟩ => ?_)
  cases b with
  | true =>
    obtain ⟨N, hN, q2⟩ := q2
    rw [if_pos rfl]
    refine wpAny_passesOwn hp (thn (hb pins s2 σ1 H2 _ I2 q2) fun f s3 q3 => ?_)
    cases f with
    | next =>
      obtain ⟨σ3, H3, I3, n3⟩ := q3
      obtain ⟨m', hm, w3⟩ := hN σ3 H3 n3
      exact ⟨m', hm, σ3, H3, I3, w3⟩
    | cont =>
      obtain ⟨σ3, H3, I3, n3⟩ := q3
      obtain ⟨m', hm, w3⟩ := hN σ3 H3 n3
      exact ⟨m', hm, σ3, H3, I3, w3⟩
    | brk => exact q3
    | ret v => exact q3
  | false =>
    rw [if_neg Bool.false_ne_true]
    exact wpAny_execs_nil ⟨σ1, H2, I2, q2⟩
end

/-! ### what a loop or a comprehension walks -/
/-- at turn i: it yields x (the heap may grow), or it stops -/
structure It where
  go : Nat → Hp → Prop
  yld : Nat → Hp → V → Hp → Prop
  stop : Nat → Hp → Prop
/-- the iterator's own objects may turn: they are not the frame's, not pinned, younger than the entry (or a comprehension's own) -/
def FpOk (X : Cx) (pins : List (Addr × Obj)) (H : Hp) (b : Addr) : Prop :=
  H b = none ∧ b ≠ X.env.locals ∧ b ∉ X.fs ∧ (b ∈ X.ex ∨ X.s₀.heap.objs.size ≤ b) ∧ (∀ x c, X.env.cells.lookup x = some c → c ≠ b) ∧ ∀ p ∈ X.pn ++ pins, p.1 ≠ b
theorem Inv.fpOk {X : Cx} {pins : List (Addr × Obj)} {σ : St} {H H' : Hp} {s : Shared} {b : Addr} (I : Inv X pins σ H s) (hb : s.heap.objs.size ≤ b) (hn : H' b = none) : FpOk X pins H' b := by
  refine ⟨hn, Nat.ne_of_gt (Nat.lt_of_lt_of_le I.lt hb), I.nofs hb, .inr (Nat.le_trans I.sz hb), fun x c e z => ?_, fun p hp z => ?_⟩
  · obtain ⟨v, q⟩ := I.cell x c e
    exact absurd (Nat.lt_of_lt_of_le q.lt (by rw [z]; exact hb)) (Nat.lt_irrefl _)
  · exact absurd (Nat.lt_of_lt_of_le (Heap.lt_size (I.pin p hp).1) (by rw [z]; exact hb)) (Nat.lt_irrefl _)
structure Turn (P : Program) (w : World) (K : PySem.W.Frag) (tg : Expr) (J : It) (fp : List Addr) (it : Addr) (tn : Nat → Heap → Prop) : Prop where
  mem : it ∈ fp
  obj : ∀ i h, tn i h → ∀ b ∈ fp, ∃ o, h.get? b = some o ∧ ∀ v, o.data ≠ .cell v
  keep : ∀ i h h', tn i h → (∀ b ∈ fp, ∀ o, h.get? b = some o → h'.get? b = some o) → tn i h'
  item : ∀ (X : Cx), X.prog = P → X.w = w → X.K = K → X.calm = true → ∀ (i : Nat) (pins : List (Addr × Obj)) (s : Shared) (σ : St) (H : Hp) (E : Value → Shared → Prop), Inv X pins σ H s → (∀ b ∈ fp, FpOk X pins H b) → tn i s.heap → J.go i H →
    wpAny (model P w) X.A (pyNext (.ref it)) (fun r s1 => ∃ u, r = some u ∧
      wpAny (model P w) X.A (letOwnedTupleGo tg (.ref it) u) (fun _ s2 => ∃ x H', Inv X pins σ H' s2 ∧ RelV x u ∧ J.yld i H x H' ∧ tn (i + 1) s2.heap ∧ ∀ b ∈ fp, H' b = none) E s1) E s
  done : ∀ (X : Cx), X.prog = P → X.w = w → X.K = K → X.calm = true → ∀ (i : Nat) (pins : List (Addr × Obj)) (s : Shared) (σ : St) (H : Hp) (E : Value → Shared → Prop), Inv X pins σ H s → (∀ b ∈ fp, FpOk X pins H b) → tn i s.heap → J.stop i H →
    wpAny (model P w) X.A (pyNext (.ref it)) (fun r s1 => r = none ∧ Inv X pins σ H s1) E s
  self : ∀ (A : Around) (i : Nat) (s : Shared) (Q : Value → Shared → Prop) (E : Value → Shared → Prop), tn i s.heap → Q (.ref it) s → wpAny (model P w) A (pyIter (.ref it)) Q E s
abbrev TI := St → Hp → (It → Hp → Prop) → Prop
/-- an iterator has come -/
def PIE (X : Cx) (pins : List (Addr × Obj)) (σ : St) (tg : Expr) (R : It → Hp → Prop) (itv : Value) (s2 : Shared) : Prop :=
  ∃ (it : Addr) (fp : List Addr) (tn : Nat → Heap → Prop) (J : It) (H' : Hp), itv = .ref it ∧ Inv X pins σ H' s2 ∧ Turn X.prog X.w X.K tg J fp it tn ∧ tn 0 s2.heap ∧ (∀ b ∈ fp, FpOk X pins H' b) ∧ R J H'
def PI (X : Cx) (tg iter : Expr) (wi : TI) : Prop :=
  ∀ (pins : List (Addr × Obj)) (s : Shared) (σ : St) (H : Hp) (R : It → Hp → Prop), Inv X pins σ H s → wi σ H R →
    wpAny (model X.prog X.w) X.A (eval iter X.env) (fun v s1 => wpAny (model X.prog X.w) X.A (pyIter v) (PIE X pins σ tg R) X.xe s1) X.xe s

/-- the step ahead of the store is nothing for an iterator that keeps no tuple -/
theorem go_of {M : Model} {A : Around} {E : Value → Shared → Prop} {s : Shared} {tg : Expr} {it : Addr} {u : Value} {o : Obj} {n : String} {vs : Array Value} {Q : Unit → Shared → Prop} (ho : s.heap.get? it = some o) (hc : o.cls = .type n) (hd : o.data = .fields vs)
    (hn : ["enumerate", "zip", "dict_itemiterator", "dict_reverseitemiterator", "odict_iterator", "itertools.zip_longest", "itertools.pairwise"].contains n = false) (hQ : Q () s) : wpAny M A (letOwnedTupleGo tg (.ref it) u) Q E s := by
  unfold letOwnedTupleGo
  cases tg <;> first
    | exact wpAny_pure hQ
    | (cases u <;> first
        | exact wpAny_pure hQ
        | (refine wpAny_bind (wpAny_load ho ?_)
           rw [hc, hd]
           show wpAny M A (if (["enumerate", "zip", "dict_itemiterator", "dict_reverseitemiterator", "odict_iterator", "itertools.zip_longest", "itertools.pairwise"].contains n && vs[0]? == some (rawInt _)) = true then _ else _) Q E s
           rw [if_neg (by intro h; rw [hn, Bool.false_and] at h; cases h)]
           exact wpAny_pure hQ))

/-- the list at a, as it stands at each turn (a loop may append to it) -/
def Itl (K : PySem.W.Frag) (a : Addr) : It :=
  ⟨fun i H => ∃ xs x, SqL K H a xs ∧ xs[i]? = some x, fun i H x H' => H' = H ∧ ∀ xs, SqL K H a xs → xs[i]? = some x, fun i H => ∃ xs, SqL K H a xs ∧ xs.length ≤ i⟩
/-- lo, lo + 1, .. (n of them) -/
def Itr (lo : Int) (n : Nat) : It := ⟨fun i _ => i < n, fun i H x H' => H' = H ∧ x = .int (lo + i), fun i _ => n ≤ i⟩
theorem turn_list {P : Program} {w : World} {K : PySem.W.Frag} {tg : Expr} (a it : Addr) : Turn P w K tg (Itl K a) [it] it (fun i h => h.IsListIter it a i) where
  mem := by simp
  obj := fun i h st b hb => by
    have e : b = it := by simpa using hb
    subst e
    obtain ⟨o, e, c, d⟩ := st
    exact ⟨o, e, fun v z => by rw [d] at z; cases z⟩
  keep := fun i h h' st k => st.at fun o e => k it (by simp) o e
  item := by
    intro X hP hw hK hc i pins s σ H E I hf st hg
    subst hP hw hK
    obtain ⟨xs, x, hq, hx⟩ := hg
    obtain ⟨its, rv, p, hz⟩ := I.list hq
    obtain ⟨u, hu, ru⟩ := rv.get hx
    obtain ⟨f0, f1, f2, f3, f4, f5⟩ := hf it (by simp)
    refine wpAny_pyNext_list_item st p.isList (x := u) (by simpa using hu) fun h' st' sb => ?_
    have I1 : Inv X pins σ H { s with heap := h' } := I.turned (t' := s.toks) (fun b o hb e => (sb.2 b hb).trans e) f0 f1 f3 f4 f5
    obtain ⟨o, e, c, d⟩ := id st'
    exact ⟨u, rfl, go_of (s := { s with heap := h' }) e c d (by decide) ⟨x, H, I1, ru, ⟨rfl, fun ys hy => by rw [I.list_inj hy hq]; exact hx⟩, st', fun b hb => (hf b hb).1⟩⟩
  done := by
    intro X hP hw hK hc i pins s σ H E I hf st hg
    subst hP hw hK
    obtain ⟨xs, hq, hx⟩ := hg
    obtain ⟨its, rv, p, hz⟩ := I.list hq
    obtain ⟨f0, f1, f2, f3, f4, f5⟩ := hf it (by simp)
    have hl := rv.length
    exact wpAny_pyNext_list_end (I.ok.hd hc) st p.isList (by simp; omega) fun h' eb => ⟨rfl, I.turned (t' := s.toks) (fun b o hb e => eb b o hb e) f0 f1 f3 f4 f5⟩
  self := fun _ _ _ _ _ st h => wpAny_pyIter_listiter st h
theorem turn_range {P : Program} {w : World} {K : PySem.W.Frag} {tg : Expr} (it : Addr) (lo : Int) (n : Nat) : Turn P w K tg (Itr lo n) [it] it (fun i h => IsRangeIter h it (lo + (i : Nat) * 1) ((n : Int) - (i : Nat)) 1) where
  mem := by simp
  obj := fun i h st b hb => by
    have e : b = it := by simpa using hb
    subst e
    exact ⟨_, st, fun v z => by
      have z' : Data.fields _ = Data.cell v := z
      cases z'⟩
  keep := fun i h h' st k => k it (by simp) _ st
  item := by
    intro X hP hw hK hc i pins s σ H E I hf st hg
    subst hP hw hK
    obtain ⟨f0, f1, f2, f3, f4, f5⟩ := hf it (by simp)
    have W := Walks.range (prog := X.prog) (w := X.w) (I.ok.hd hc) it lo 1 n
    refine W.item i s _ _ hg st fun v h' tk hv st' kk => ?_
    obtain ⟨t, rfl⟩ := hv
    have I1 : Inv X pins σ H { s with heap := h', toks := tk } := I.turned (fun b o hb e => kk b o (by simpa using hb) e) f0 f1 f3 f4 f5
    refine ⟨_, rfl, go_of (s := { s with heap := h', toks := tk }) (n := "range_iterator") st' rfl rfl (by decide) ⟨.int (lo + i), H, I1, ⟨t, ?_⟩, ⟨rfl, rfl⟩, st', fun b hb => (hf b hb).1⟩⟩
    rw [Int.mul_one]
  done := by
    intro X hP hw hK hc i pins s σ H E I hf st hg
    subst hP hw hK
    obtain ⟨f0, f1, f2, f3, f4, f5⟩ := hf it (by simp)
    exact wpAny_pyNext_range_end (I.ok.hd hc) st (by have : n ≤ i := hg; omega) fun h' eb => ⟨rfl, I.turned (t' := s.toks) (fun b o hb e => eb b o hb e) f0 f1 f3 f4 f5⟩
  self := fun _ _ _ _ _ st h => wpAny_pyIter_rangeiter st h
end L2

namespace L2
open PySem PySem.Spec PyProof.Rows
section
variable {X : Cx} {tg : Expr}
def iList (K : PySem.W.Frag) (tl : TE) : TI := fun σ H R => tl σ H fun x H1 => ∃ a, x = .ref a ∧ (∃ xs, SqL K H1 a xs) ∧ R (Itl K a) H1
theorem pi_list {l : Expr} {tl : TE} (hl : PE X l tl) : PI X tg l (iList X.K tl) := by
  intro pins s σ H R I h
  refine thn (hl pins s σ H _ I h) fun v s1 ⟨x, H1, I1, r1, q1⟩ => ?_
  obtain ⟨a, e, ⟨xs, hq⟩, q⟩ := q1
  subst e
  cases r1
  obtain ⟨its, rv, p, hz⟩ := I1.list hq
  refine wpAny_pyIter_list p.isList ?_
  refine ⟨s1.heap.objs.size, [s1.heap.objs.size], _, _, H1, rfl, I1.kept (t' := s1.toks) fun b o e => Heap.get?_push_of_some _ e, turn_list a _, ⟨_, Heap.get?_push_size _ rfl, rfl, rfl⟩, fun b hb => ?_, q⟩
  have e : b = s1.heap.objs.size := by simpa using hb
  subst e
  exact I1.fpOk (Nat.le_refl _) (I1.hok.fresh (Nat.le_refl _))
/-- a range object just made, walked -/
theorem range_it {pins : List (Addr × Obj)} {σ : St} {H : Hp} {s : Shared} {R : It → Hp → Prop} {E : Value → Shared → Prop} {lo hi : Int} {t u v : Tok} {tk : Nat} (I : Inv X pins σ H s) (h1 : -(2 ^ 62) ≤ lo) (h2 : lo < 2 ^ 62) (h3 : -(2 ^ 62) ≤ hi) (h4 : hi < 2 ^ 62)
    (q : R (Itr lo (hi - lo).toNat) H) : wpAny (model X.prog X.w) X.A (pyIter (.ref s.heap.objs.size)) (PIE X pins σ tg R) E { s with heap := s.heap.push { cls := .type "range", data := .fields #[.int lo t, .int hi u, .int 1 v] }, toks := tk } := by
  refine wpAny_pyIter_range (IsRange.new ..) (small_one h1 h2 h3 h4) ?_
  have I1 : Inv X pins σ H { s with heap := s.heap.push { cls := .type "range", data := .fields #[.int lo t, .int hi u, .int 1 v] }, toks := tk } := I.kept fun b o e => Heap.get?_push_of_some _ e
  refine ⟨(s.heap.push { cls := .type "range", data := .fields #[.int lo t, .int hi u, .int 1 v] }).objs.size, [(s.heap.push { cls := .type "range", data := .fields #[.int lo t, .int hi u, .int 1 v] }).objs.size], _, _, H, rfl,
    I1.kept (t' := tk) fun b o e => Heap.get?_push_of_some _ e, turn_range _ lo (hi - lo).toNat, ?_, fun b hb => ?_, q⟩
  · have e1 : lo + ((0 : Nat) : Int) * 1 = lo := by simp
    have e2 : (((hi - lo).toNat : Nat) : Int) - ((0 : Nat) : Int) = Builtin.Range.rangeSize lo hi 1 := by rw [rangeSize_one]; split <;> omega
    show IsRangeIter _ _ (lo + ((0 : Nat) : Int) * 1) ((((hi - lo).toNat : Nat) : Int) - ((0 : Nat) : Int)) 1
    rw [e1, e2]
    exact Heap.get?_push_size _ rfl
  · have e : b = (s.heap.push { cls := .type "range", data := .fields #[.int lo t, .int hi u, .int 1 v] }).objs.size := by simpa using hb
    subst e
    exact I1.fpOk (Nat.le_refl _) (I1.hok.fresh (Nat.le_refl _))
def iRng1 (ta : TA) : TI := fun σ H R => ta σ H fun vs H1 => ∃ j : Int, vs = [.int j] ∧ -(2 ^ 62) ≤ j ∧ j < 2 ^ 62 ∧ R (Itr 0 j.toNat) H1
def iRng2 (ta : TA) : TI := fun σ H R => ta σ H fun vs H1 => ∃ i j : Int, vs = [.int i, .int j] ∧ (-(2 ^ 62) ≤ i ∧ i < 2 ^ 62 ∧ -(2 ^ 62) ≤ j ∧ j < 2 ^ 62) ∧ R (Itr i (j - i).toNat) H1
theorem pi_range1 {a : Expr} {ta : TA} {p pos : Pos} (hg : Gl X "range") (hm : X.mg "range" = none) (ha : PA X [a] ta) (hs : starEach [a] X.env = [(false, eval a X.env)] := by rfl) : PI X tg (.Call (.Name "range" p) [a] [] pos) (iRng1 ta) := by
  intro pins s σ H R I h
  refine Call_ (ld_blt I hg hm boot_range (PyProof.Rows.callWith_type1 (thn (ha pos pins s σ H _ I h) fun us s1 ⟨vs, H1, I1, r1, q1⟩ => ?_) hs rfl))
  obtain ⟨j, e, q1, q2, q⟩ := q1
  subst e
  cases r1 with
  | cons r rr =>
    cases rr
    obtain ⟨t, rfl⟩ := r
    exact call_range_1 (range_it I1 (by omega) (by omega) q1 q2 (by simpa using q))
theorem pi_range2 {a b : Expr} {ta : TA} {p pos : Pos} (hg : Gl X "range") (hm : X.mg "range" = none) (ha : PA X [a, b] ta) (hs : starEach [a, b] X.env = [(false, eval a X.env), (false, eval b X.env)] := by rfl) (hs2 : starEach [b] X.env = [(false, eval b X.env)] := by rfl) :
    PI X tg (.Call (.Name "range" p) [a, b] [] pos) (iRng2 ta) := by
  intro pins s σ H R I h
  refine Call_ (ld_blt I hg hm boot_range (PyProof.Rows.callWith_type1 (thn (ha pos pins s σ H _ I h) fun us s1 ⟨vs, H1, I1, r1, q1⟩ => ?_) (by rw [hs, hs2]) (by rw [hs2]; rfl)))
  obtain ⟨i, j, e, ⟨q1, q2, q3, q4⟩, q⟩ := q1
  subst e
  cases r1 with
  | cons r rr =>
    cases rr with
    | cons r' rr =>
      cases rr
      obtain ⟨t, rfl⟩ := r
      obtain ⟨t', rfl⟩ := r'
      exact call_range_2 (range_it I1 q1 q2 q3 q4 q)

/-! ### for -/
/-- W: the invariant by the turn and a measure; N: what the body is to reach -/
def tFor (wi : TI) (g : TG) (tb : TS) : TS := fun D σ H => wi σ H fun J H1 => ∃ W : Nat → Nat → St → Hp → Prop, (∃ m, W 0 m σ H1) ∧ ∀ i m σ H, W i m σ H →
  (J.stop i H ∧ D.nx σ H) ∨ (J.go i H ∧ ∃ N : St → Hp → Prop, (∀ σ' H', N σ' H' → ∃ m', m' < m ∧ W (i + 1) m' σ' H') ∧ ∀ x H', J.yld i H x H' → g x σ H' fun σ2 H2 => tb { D with nx := N, ct := N, bk := D.nx } σ2 H2)
/-- the records at fp as they stand -/
def pinsAt (fp : List Addr) (h : Heap) : List (Addr × Obj) := fp.filterMap fun b => (h.get? b).map fun o => (b, o)
theorem mem_pinsAt {fp : List Addr} {h : Heap} {b : Addr} {o : Obj} (hb : b ∈ fp) (e : h.get? b = some o) : (b, o) ∈ pinsAt fp h := List.mem_filterMap.mpr ⟨b, hb, by rw [e]; rfl⟩
theorem of_pinsAt {fp : List Addr} {h : Heap} {p : Addr × Obj} (hp : p ∈ pinsAt fp h) : p.1 ∈ fp ∧ h.get? p.1 = some p.2 := by
  obtain ⟨b, hb, e⟩ := List.mem_filterMap.mp hp
  cases q : h.get? b with
  | none => rw [q] at e; cases e
  | some o =>
    rw [q] at e
    have e' : (b, o) = p := Option.some.inj e
    subst e'
    exact ⟨hb, q⟩
theorem Inv.pinned {pins : List (Addr × Obj)} {σ : St} {H : Hp} {s : Shared} {fp : List Addr} (I : Inv X pins σ H s) (hf : ∀ b ∈ fp, FpOk X pins H b) (ho : ∀ b ∈ fp, ∃ o, s.heap.get? b = some o ∧ ∀ v, o.data ≠ .cell v) : Inv X (pins ++ pinsAt fp s.heap) σ H s :=
  I.pins_of fun p hp => (List.mem_append.mp hp).elim (fun z => I.pin p (List.mem_append_right _ z)) fun z => by
    obtain ⟨hb, e⟩ := of_pinsAt z
    obtain ⟨f0, f1, f2, _⟩ := hf p.1 hb
    obtain ⟨o, e', d⟩ := ho p.1 hb
    rw [e] at e'; cases e'
    exact ⟨e, f0, f1, f2, d⟩
theorem Inv.unpinned {pins pl : List (Addr × Obj)} {σ : St} {H : Hp} {s : Shared} (I : Inv X (pins ++ pl) σ H s) : Inv X pins σ H s := I.pins_of fun p hp => I.pin p (List.mem_append_right _ (List.mem_append_left _ hp))
theorem ps_for {iter : Expr} {body : List Stmt} {wi : TI} {g : TG} {tb : TS} {pos : Pos} (hp : PassesOwn (model X.prog X.w) X.A X.env X.xe) (hc : X.calm = true) (hi : PI X tg iter wi) (hg : PG X tg g) (hb : PSs X body tb)
    (hs : ∀ x, foldedSetIterable iter X.env x = pure x := by intro _; rfl) : PS X (.For tg iter body [] pos) (tFor wi g tb) := by
  intro pins s σ H D I h
  refine wpAny_For (thn (hi pins s σ H _ I h) fun v s1 h1 => thn h1 fun itv s2 h2 => ?_) hs
  obtain ⟨it, fp, tn, J, H2, e, I2, T, st2, f2, W, ⟨m0, w0⟩, turn⟩ := h2
  subst e
  -- what stays true of the iterator's objects through the loop
  have stat : ∀ {H' : Hp}, (∀ b ∈ fp, H' b = none) → ∀ b ∈ fp, FpOk X pins H' b := fun hn b hb => ⟨hn b hb, (f2 b hb).2⟩
  refine codeAny_forLoop_any (fun n s' => ∃ i σ' H', Inv X pins σ' H' s' ∧ tn i s'.heap ∧ (∀ b ∈ fp, H' b = none) ∧ W i n σ' H') ?_ m0 ⟨0, σ, H2, I2, st2, fun b hb => (f2 b hb).1, w0⟩
  rintro n s3 ⟨i, σ3, H3, I3, st3, fr3, w3⟩
  rcases turn i n σ3 H3 w3 with ⟨stop, qn⟩ | ⟨go, N, hN, step⟩
  · refine wpAny_passesOwn hp (thn (T.done X rfl rfl rfl hc i pins s3 σ3 H3 X.xe I3 (stat fr3) st3 stop) fun r s4 ⟨hr, I4⟩ => ?_)
    subst hr
    exact wpAny_execs_nil ⟨σ3, H3, I4, qn⟩
  · refine wpAny_passesOwn hp (thn (T.item X rfl rfl rfl hc i pins s3 σ3 H3 X.xe I3 (stat fr3) st3 go) fun r s4 ⟨u, hr, h4⟩ => ?_)
    subst hr
    refine wpAny_passesOwn hp (thn h4 fun _ s5 ⟨x, H5, I5, r5, y5, st5, fr5⟩ => ?_)
    have I5' := I5.pinned (stat fr5) (T.obj _ _ st5)
    refine wpAny_passesOwn hp (thn (hg _ s5 σ3 H5 x u _ I5' r5 (step x H5 y5)) fun _ s6 ⟨σ6, H6, I6, q6⟩ => ?_)
    refine wpAny_passesOwn hp (thn (hb _ s6 σ6 H6 _ I6 q6) fun f s7 q7 => ?_)
    have again : ∀ {σ7 : St} {H7 : Hp}, Inv X (pins ++ pinsAt fp s5.heap) σ7 H7 s7 → N σ7 H7 → ∃ m, m < n ∧ ∃ i σ' H', Inv X pins σ' H' s7 ∧ tn i s7.heap ∧ (∀ b ∈ fp, H' b = none) ∧ W i m σ' H' := fun {σ7 H7} I7 n7 => by
      obtain ⟨m', hm, w7⟩ := hN σ7 H7 n7
      refine ⟨m', hm, i + 1, σ7, H7, I7.unpinned, T.keep _ _ _ st5 fun b hb o e => (I7.pin (b, o) (List.mem_append_right _ (List.mem_append_right _ (mem_pinsAt hb e)))).1, fun b hb => ?_, w7⟩
      obtain ⟨o, e, d⟩ := T.obj _ _ st5 b hb
      exact (I7.pin (b, o) (List.mem_append_right _ (List.mem_append_right _ (mem_pinsAt hb e)))).2.1
    cases f with
    | next => obtain ⟨σ7, H7, I7, n7⟩ := q7; exact again I7 n7
    | cont => obtain ⟨σ7, H7, I7, n7⟩ := q7; exact again I7 n7
    | brk => obtain ⟨σ7, H7, I7, q7⟩ := q7; exact ⟨σ7, H7, I7.unpinned, q7⟩
    | ret v => obtain ⟨x7, σ7, H7, I7, r7, q7⟩ := q7; exact ⟨x7, σ7, H7, I7.unpinned, r7, q7⟩
end

/-! ### the forms one uses -/
/-- over a list that the body leaves as it is -/
theorem for_list {K : PySem.W.Frag} {a : Addr} {xs : List V} {g : TG} {tb : TS} {D : Ends} {σ : St} {H : Hp} (Pv : Nat → St → Hp → Prop) (h0 : Pv 0 σ H) (hl : ∀ i σ H, i ≤ xs.length → Pv i σ H → SqL K H a xs)
    (hs : ∀ i x σ H, xs[i]? = some x → Pv i σ H → g x σ H fun σ2 H2 => tb { D with nx := Pv (i + 1), ct := Pv (i + 1), bk := D.nx } σ2 H2) (hd : ∀ σ H, Pv xs.length σ H → D.nx σ H) :
    ∃ W : Nat → Nat → St → Hp → Prop, (∃ m, W 0 m σ H) ∧ ∀ i m σ H, W i m σ H →
      ((Itl K a).stop i H ∧ D.nx σ H) ∨ ((Itl K a).go i H ∧ ∃ N : St → Hp → Prop, (∀ σ' H', N σ' H' → ∃ m', m' < m ∧ W (i + 1) m' σ' H') ∧ ∀ x H', (Itl K a).yld i H x H' → g x σ H' fun σ2 H2 => tb { D with nx := N, ct := N, bk := D.nx } σ2 H2) := by
  refine ⟨fun i m σ H => m = xs.length - i ∧ i ≤ xs.length ∧ Pv i σ H, ⟨xs.length, by simp, Nat.zero_le _, h0⟩, ?_⟩
  rintro i m σ H ⟨rfl, hi, p⟩
  have q := hl i σ H hi p
  by_cases hlt : i < xs.length
  · refine .inr ⟨⟨xs, xs[i], q, by simp [hlt]⟩, Pv (i + 1), fun σ' H' p' => ⟨xs.length - (i + 1), by omega, rfl, hlt, p'⟩, fun x H' y => ?_⟩
    obtain ⟨e, y⟩ := y
    subst e
    exact hs i x σ _ (y xs q) p
  · have e : i = xs.length := by omega
    subst e
    exact .inl ⟨⟨xs, q, Nat.le_refl _⟩, hd σ H p⟩
theorem for_range {lo : Int} {n : Nat} {g : TG} {tb : TS} {D : Ends} {σ : St} {H : Hp} (Pv : Nat → St → Hp → Prop) (h0 : Pv 0 σ H)
    (hs : ∀ i σ H, i < n → Pv i σ H → g (.int (lo + i)) σ H fun σ2 H2 => tb { D with nx := Pv (i + 1), ct := Pv (i + 1), bk := D.nx } σ2 H2) (hd : ∀ σ H, Pv n σ H → D.nx σ H) :
    ∃ W : Nat → Nat → St → Hp → Prop, (∃ m, W 0 m σ H) ∧ ∀ i m σ H, W i m σ H →
      ((Itr lo n).stop i H ∧ D.nx σ H) ∨ ((Itr lo n).go i H ∧ ∃ N : St → Hp → Prop, (∀ σ' H', N σ' H' → ∃ m', m' < m ∧ W (i + 1) m' σ' H') ∧ ∀ x H', (Itr lo n).yld i H x H' → g x σ H' fun σ2 H2 => tb { D with nx := N, ct := N, bk := D.nx } σ2 H2) := by
  refine ⟨fun i m σ H => m = n - i ∧ i ≤ n ∧ Pv i σ H, ⟨n, by simp, Nat.zero_le _, h0⟩, ?_⟩
  rintro i m σ H ⟨rfl, hi, p⟩
  by_cases hlt : i < n
  · refine .inr ⟨hlt, Pv (i + 1), fun σ' H' p' => ⟨n - (i + 1), by omega, rfl, hlt, p'⟩, fun x H' y => ?_⟩
    obtain ⟨e, y⟩ := y
    subst e y
    exact hs i σ _ hlt p
  · have e : i = n := by omega
    subst e
    exact .inl ⟨Nat.le_refl _, hd σ H p⟩
/-- while, by a word and a measure of the state -/
theorem while_by {c : TT} {tb : TS} {D : Ends} {σ : St} {H : Hp} (Pv : St → Hp → Prop) (μ : St → Hp → Nat) (h0 : Pv σ H)
    (hs : ∀ σ H, Pv σ H → c σ H fun b H1 => if b = true then tb { D with nx := fun σ' H' => Pv σ' H' ∧ μ σ' H' < μ σ H, ct := fun σ' H' => Pv σ' H' ∧ μ σ' H' < μ σ H, bk := D.nx } σ H1 else D.nx σ H1)
    (mono : ∀ σ H Q Q', (∀ b H1, Q b H1 → Q' b H1) → c σ H Q → c σ H Q') : tWhile c tb D σ H := by
  refine ⟨fun m σ H => m = μ σ H ∧ Pv σ H, ⟨_, rfl, h0⟩, ?_⟩
  rintro m σ H ⟨rfl, p⟩
  refine mono σ H _ _ (fun b H1 q => ?_) (hs σ H p)
  cases b with
  | true => exact ⟨_, fun σ' H' ⟨p', l⟩ => ⟨_, l, rfl, p'⟩, q⟩
  | false => exact q
end L2

namespace L2
open PySem PySem.Spec PyProof.Rows

abbrev R2 := V → V → Hp → VK → Prop
/-- a two-place operation on values: f is binaryOp op, inplaceOp op or compareOp op -/
def OpR (X : Cx) (f : Value → Value → Sem Value) (r : R2) : Prop :=
  ∀ (pins : List (Addr × Obj)) (s : Shared) (σ : St) (H : Hp) (x y : V) (v u : Value) (Q : VK), Inv X pins σ H s → RelV x v → RelV y u → r x y H Q →
    wpAny (model X.prog X.w) X.A (f v u) (EP X pins σ Q) X.xe s
/-- a one-place operation -/
def UnR (X : Cx) (f : Value → Sem Value) (r : V → Hp → VK → Prop) : Prop :=
  ∀ (pins : List (Addr × Obj)) (s : Shared) (σ : St) (H : Hp) (x : V) (v : Value) (Q : VK), Inv X pins σ H s → RelV x v → r x H Q →
    wpAny (model X.prog X.w) X.A (f v) (EP X pins σ Q) X.xe s
/-- a call of a value that is known (a builtin, a type) with values -/
def CallR (X : Cx) (f : Value) (r : List V → Hp → VK → Prop) : Prop :=
  ∀ (pins : List (Addr × Obj)) (s : Shared) (σ : St) (H : Hp) (xs : List V) (us : List Value) (Q : VK), Inv X pins σ H s → Vals xs us → r xs H Q →
    wpAny (model X.prog X.w) X.A (call f us) (EP X pins σ Q) X.xe s
def tOp (r : R2) (ta tb : TE) : TE := fun σ H Q => ta σ H fun x H1 => tb σ H1 fun y H2 => r x y H2 Q
def tUn (r : V → Hp → VK → Prop) (ta : TE) : TE := fun σ H Q => ta σ H fun x H1 => r x H1 Q
/-- ints in, under C, and a value out -/
def rI (C : Int → Int → Prop) (g : Int → Int → V) : R2 := fun x y H Q => ∃ i j, x = .int i ∧ y = .int j ∧ C i j ∧ Q (g i j) H
def rI0 (g : Int → Int → V) : R2 := fun x y H Q => ∃ i j, x = .int i ∧ y = .int j ∧ Q (g i j) H
def rU (g : Int → V) : V → Hp → VK → Prop := fun x H Q => ∃ i, x = .int i ∧ Q (g i) H

section
variable {X : Cx} {a b c : Expr} {ta tb tc : TE} {pos : Pos}

theorem binT (ha : PE X a ta) (hb : PE X b tb) {pins : List (Addr × Obj)} {s : Shared} {σ : St} {H : Hp} {R : V → V → Hp → Prop} (I : Inv X pins σ H s)
    (h : ta σ H fun x H1 => tb σ H1 fun y H2 => R x y H2) {Q : Value → Shared → Prop} {f : Value → Value → Sem Value}
    (hf : ∀ v u s2 x y H2, Inv X pins σ H2 s2 → RelV x v → RelV y u → R x y H2 → wpAny (model X.prog X.w) X.A (f v u) Q X.xe s2) :
    wpAny (model X.prog X.w) X.A (eval a X.env) (fun v s₁ => wpAny (model X.prog X.w) X.A (eval b X.env) (fun u s₂ => wpAny (model X.prog X.w) X.A (f v u) Q X.xe s₂) X.xe s₁) X.xe s := by
  refine thn (ha pins s σ H _ I h) fun v s1 ⟨x, H1, I1, r1, q1⟩ => ?_
  refine thn (hb pins s1 σ H1 _ I1 q1) fun u s2 ⟨y, H2, I2, r2, q2⟩ => ?_
  exact hf v u s2 x y H2 I2 r1 r2 q2

theorem pe_op {op : Operator} {r : R2} (ho : OpR X (binaryOp op) r) (ha : PE X a ta) (hb : PE X b tb) : PE X (.BinOp a op b pos) (tOp r ta tb) := by
  intro pins s σ H Q I h
  exact wpAny_BinOp (binT ha hb I h fun v u s2 x y H2 I2 rx ry q => ho pins s2 σ H2 x y v u Q I2 rx ry q)
theorem pe_un {op : UnaryOp} {r : V → Hp → VK → Prop} (ho : UnR X (unaryOp op) r) (ha : PE X a ta) : PE X (.UnaryOp op a pos) (tUn r ta) := by
  intro pins s σ H Q I h
  exact UnaryOp_ (thn (ha pins s σ H _ I h) fun v s1 ⟨x, H1, I1, r1, q1⟩ => ho pins s1 σ H1 x v Q I1 r1 q1)
/-! ### ints -/
theorem opI {f : Value → Value → Sem Value} {C : Int → Int → Prop} {g : Int → Int → Int}
    (rule : ∀ (i j : Int) (t u : Tok) (s : Shared) (Q : Value → Shared → Prop) (E : Value → Shared → Prop), C i j → Q (.int (g i j) s.toks) { s with toks := s.toks + 1 } → wpAny (model X.prog X.w) X.A (f (.int i t) (.int j u)) Q E s) :
    OpR X f (rI C fun i j => .int (g i j)) := by
  intro pins s σ H x y v u Q I rx ry h
  obtain ⟨i, j, rfl, rfl, hc, q⟩ := h
  obtain ⟨t, rfl⟩ := rx
  obtain ⟨t', rfl⟩ := ry
  exact rule i j t t' s _ _ hc ⟨.int (g i j), H, I.tok _, ⟨_, rfl⟩, q⟩
theorem opI0 {f : Value → Value → Sem Value} {g : Int → Int → Int}
    (rule : ∀ (i j : Int) (t u : Tok) (s : Shared) (Q : Value → Shared → Prop) (E : Value → Shared → Prop), Q (.int (g i j) s.toks) { s with toks := s.toks + 1 } → wpAny (model X.prog X.w) X.A (f (.int i t) (.int j u)) Q E s) :
    OpR X f (rI0 fun i j => .int (g i j)) := by
  intro pins s σ H x y v u Q I rx ry h
  obtain ⟨i, j, rfl, rfl, q⟩ := h
  obtain ⟨t, rfl⟩ := rx
  obtain ⟨t', rfl⟩ := ry
  exact rule i j t t' s _ _ ⟨.int (g i j), H, I.tok _, ⟨_, rfl⟩, q⟩
theorem opB0 {f : Value → Value → Sem Value} {g : Int → Int → Bool}
    (rule : ∀ (i j : Int) (t u : Tok) (s : Shared) (Q : Value → Shared → Prop) (E : Value → Shared → Prop), Q (.bool (g i j)) s → wpAny (model X.prog X.w) X.A (f (.int i t) (.int j u)) Q E s) :
    OpR X f (rI0 fun i j => .bl (g i j)) := by
  intro pins s σ H x y v u Q I rx ry h
  obtain ⟨i, j, rfl, rfl, q⟩ := h
  obtain ⟨t, rfl⟩ := rx
  obtain ⟨t', rfl⟩ := ry
  exact rule i j t t' s _ _ ⟨.bl (g i j), H, I, rfl, q⟩

def CPow (i j : Int) : Prop := 0 ≤ j ∧ j ≤ 1000000 ∧ i.natAbs < 2 ^ 64
def CMul (i j : Int) : Prop := (-(2 ^ 64) < i ∧ i < 2 ^ 64) ∨ (-(2 ^ 64) < j ∧ j < 2 ^ 64)
theorem CMul.ok {i j : Int} (h : CMul i j) : IntMulOk i j := by
  rcases h with ⟨h1, h2⟩ | ⟨h1, h2⟩
  · exact .of_left (intBits_le_64 h1 h2)
  · exact .of_right (intBits_le_64 h1 h2)
theorem op_add : OpR X (binaryOp .Add) (rI0 fun i j => .int (i + j)) := opI0 fun _ _ _ _ _ _ _ q => add_int q
theorem op_sub : OpR X (binaryOp .Sub) (rI0 fun i j => .int (i - j)) := opI0 fun _ _ _ _ _ _ _ q => sub_int q
/-- % by a positive divisor of any size -/
theorem op_mod : OpR X (binaryOp .Mod) (rI (fun _ j => 0 < j) fun i j => .int (i % j)) := opI fun i j _ _ _ _ _ hc q => by
  have h1 : (0 : Int) < j := hc
  exact mod_int' (by omega) (by rw [Int.fmod_eq_emod_of_nonneg i (by omega)]; exact q)
theorem op_pow : OpR X (binaryOp .Pow) (rI CPow fun i j => .int (i ^ j.toNat)) := opI fun _ _ _ _ _ _ _ hc q => pow_int_small hc.1 hc.2.1 hc.2.2 q
theorem unI {f : Value → Sem Value} {g : Int → Int}
    (rule : ∀ (i : Int) (t : Tok) (s : Shared) (Q : Value → Shared → Prop) (E : Value → Shared → Prop), Q (.int (g i) s.toks) { s with toks := s.toks + 1 } → wpAny (model X.prog X.w) X.A (f (.int i t)) Q E s) :
    UnR X f (rU fun i => .int (g i)) := by
  intro pins s σ H x v Q I rx h
  obtain ⟨i, rfl, q⟩ := h
  obtain ⟨t, rfl⟩ := rx
  exact rule i t s _ _ ⟨.int (g i), H, I.tok _, ⟨_, rfl⟩, q⟩
theorem un_neg : UnR X (unaryOp .USub) (rU fun i => .int (-i)) := unI fun _ _ _ _ _ q => neg_int q
end

/-! ### comparisons -/
/-- the scalars that == tells apart as data does -/
def scal : V → V → Bool
  | .non, .non => true | .non, .int _ => true | .int _, .non => true | .non, .bl _ => true | .bl _, .non => true | .non, .str _ => true | .str _, .non => true
  | .int _, .int _ => true | .bl _, .bl _ => true | .str _, .str _ => true | .byt _, .byt _ => true
  | .int _, .str _ => true | .str _, .int _ => true | .bl _, .str _ => true | .str _, .bl _ => true
  | _, _ => false
def rEq : R2 := fun x y H Q => scal x y = true ∧ Q (.bl (decide (x = y))) H
theorem dec_int {i j : Int} : decide (V.int i = V.int j) = (i == j) := by
  rw [Bool.eq_iff_iff]
  simp
theorem dec_bl {i j : Bool} : decide (V.bl i = V.bl j) = (i == j) := by
  rw [Bool.eq_iff_iff]
  simp
theorem dec_str {i j : Str} : decide (V.str i = V.str j) = (i == j) := by
  rw [Bool.eq_iff_iff]
  simp
theorem dec_byt {i j : Array UInt8} : decide (V.byt i = V.byt j) = (i.toList == j.toList) := by
  rw [Bool.eq_iff_iff]
  cases i
  cases j
  simp

section
variable {X : Cx} {a b c : Expr} {ta tb tc : TE} {pos : Pos}
theorem fin_bl {pins : List (Addr × Obj)} {σ : St} {H : Hp} {s : Shared} {Q : VK} {k k' : Bool} (I : Inv X pins σ H s) (q : Q (.bl k) H) (e : k = k') : EP X pins σ Q (.bool k') s := by
  subst e
  exact ⟨.bl k, H, I, rfl, q⟩
theorem op_eq : OpR X (compareOp .Eq) rEq := by
  intro pins s σ H x y v u Q I rx ry h
  obtain ⟨hs, q⟩ := h
  cases x with
  | non =>
    cases rx
    cases y with
    | non => cases ry; exact PySem.EqNone.eq_none_none (fin_bl I q (by simp))
    | bl j => cases ry; exact PySem.EqNone.eq_none_bool (fin_bl I q (by simp))
    | int j => obtain ⟨t', rfl⟩ := ry; exact PySem.EqNone.eq_none_int (fin_bl I q (by simp))
    | str j => obtain ⟨t', rfl⟩ := ry; exact PySem.EqNone.eq_none_str (fin_bl I q (by simp))
    | _ => exact absurd (show false = true from hs) Bool.false_ne_true
  | bl i =>
    cases rx
    cases y with
    | non => cases ry; exact PySem.EqNone.eq_bool_none (fin_bl I q (by simp))
    | bl j => cases ry; exact eq_bool (fin_bl I q dec_bl)
    | str j => obtain ⟨t', rfl⟩ := ry; exact PySem.EqMixed.eq_bool_str (fin_bl I q (by simp))
    | _ => exact absurd (show false = true from hs) Bool.false_ne_true
  | int i =>
    obtain ⟨t, rfl⟩ := rx
    cases y with
    | non => cases ry; exact PySem.EqNone.eq_int_none (fin_bl I q (by simp))
    | int j => obtain ⟨t', rfl⟩ := ry; exact eq_int (fin_bl I q dec_int)
    | str j => obtain ⟨t', rfl⟩ := ry; exact PySem.EqMixed.eq_int_str (fin_bl I q (by simp))
    | _ => exact absurd (show false = true from hs) Bool.false_ne_true
  | str i =>
    obtain ⟨t, rfl⟩ := rx
    cases y with
    | non => cases ry; exact PySem.EqNone.eq_str_none (fin_bl I q (by simp))
    | bl j => cases ry; exact PySem.EqMixed.eq_str_bool (fin_bl I q (by simp))
    | int j => obtain ⟨t', rfl⟩ := ry; exact PySem.EqMixed.eq_str_int (fin_bl I q (by simp))
    | str j => obtain ⟨t', rfl⟩ := ry; exact eq_str (fin_bl I q dec_str)
    | _ => exact absurd (show false = true from hs) Bool.false_ne_true
  | byt i =>
    obtain ⟨t, rfl⟩ := rx
    cases y with
    | byt j => obtain ⟨t', rfl⟩ := ry; exact PySem.W.eq_bytes (fin_bl I q dec_byt)
    | _ => exact absurd (show false = true from hs) Bool.false_ne_true
  | _ => cases y <;> exact absurd (show false = true from hs) Bool.false_ne_true
theorem op_lt : OpR X (compareOp .Lt) (rI0 fun i j => .bl (decide (i < j))) := opB0 fun _ _ _ _ _ _ _ q => lt_int q
theorem op_le : OpR X (compareOp .LtE) (rI0 fun i j => .bl (decide (i ≤ j))) := opB0 fun _ _ _ _ _ _ _ q => le_int q
theorem op_gt : OpR X (compareOp .Gt) (rI0 fun i j => .bl (decide (j < i))) := opB0 fun _ _ _ _ _ _ _ q => gt_int q
theorem op_ge : OpR X (compareOp .GtE) (rI0 fun i j => .bl (decide (j ≤ i))) := opB0 fun _ _ _ _ _ _ _ q => ge_int q
/-- is None, is not None: the right side a value none -/
theorem op_isN : OpR X (compareOp .Is) (fun x y H Q => y = .non ∧ Q (.bl (decide (x = .non))) H) := by
  intro pins s σ H x y v u Q I rx ry h
  obtain ⟨rfl, q⟩ := h
  cases ry
  refine is_none_gen (fin_bl I q ?_)
  cases x <;> first
    | (cases rx; rfl)
    | (obtain ⟨t, rfl⟩ := rx; rfl)
/-- two rules for one operation: by cases -/
theorem OpR.or {f : Value → Value → Sem Value} {r r' : R2} (h : OpR X f r) (h' : OpR X f r') : OpR X f (fun x y H Q => r x y H Q ∨ r' x y H Q) := by
  intro pins s σ H x y v u Q I rx ry q
  rcases q with q | q
  · exact h pins s σ H x y v u Q I rx ry q
  · exact h' pins s σ H x y v u Q I rx ry q

theorem nomark (b : Expr) {op : CmpOp} (h : op ≠ .In := by decide) (h2 : op ≠ .NotIn := by decide) : behindInMarks op b = false := by
  have e1 : (op == CmpOp.In) = false := by cases op <;> first | rfl | exact absurd rfl h
  have e2 : (op == CmpOp.NotIn) = false := by cases op <;> first | rfl | exact absurd rfl h2
  cases b <;> simp [behindInMarks, e1, e2]
/-- a comparison as a value; hm: nomark b, or (for in, not in) by with_unfolding_all rfl -/
theorem pe_cmpR {op : CmpOp} {r : R2} (ho : OpR X (compareOp op) r) (ha : PE X a ta) (hb : PE X b tb) (hm : behindInMarks op b = false) : PE X (.Compare a [op] [b] pos) (tOp r ta tb) := by
  intro pins s σ H Q I h
  exact wpAny_Compare1 (binT ha hb I h fun v u s2 x y H2 I2 rx ry q => ho pins s2 σ H2 x y v u Q I2 rx ry q) hm
/-- a reading of a value as a test -/
def tTest (t : TE) : TT := fun σ H Q => t σ H fun x H' => ∃ k, x = .bl k ∧ Q k H'
theorem pt_cmpR {op : CmpOp} {r : R2} (ho : OpR X (compareOp op) r) (ha : PE X a ta) (hb : PE X b tb) (hm : behindInMarks op b = false) : PT X (.Compare a [op] [b] pos) (tTest (tOp r ta tb)) := by
  intro pins s σ H Q I h
  refine wpAny_isTrue_Compare1 (thn (ha pins s σ H _ I h) fun v s1 ⟨x, H1, I1, r1, q1⟩ => thn (hb pins s1 σ H1 _ I1 q1) fun u s2 ⟨y, H2, I2, r2, q2⟩ =>
    thn (ho pins s2 σ H2 x y v u _ I2 r1 r2 q2) fun c s3 ⟨z, H3, I3, r3, k, e, q3⟩ => ?_) hm
  subst e
  cases r3
  exact wpAny_truthy_bool ⟨H3, I3, q3⟩
/-- a op1 b op2 c -/
def tChain (r r' : R2) (ta tb tc : TE) : TE := fun σ H Q => ta σ H fun x H1 => tb σ H1 fun y H2 => r x y H2 fun z H3 => ∃ k, z = .bl k ∧
  (if k = true then tc σ H3 fun w' H4 => r' y w' H4 Q else Q (.bl false) H3)
theorem pt_chain {op op' : CmpOp} {r r' : R2} (ho : OpR X (compareOp op) r) (ho' : OpR X (compareOp op') r') (ha : PE X a ta) (hb : PE X b tb) (hc : PE X c tc)
    (hm : lastMarks [op, op'] [b, c] = false := by with_unfolding_all rfl) : PT X (.Compare a [op, op'] [b, c] pos) (tTest (tChain r r' ta tb tc)) := by
  intro pins s σ H Q I h
  refine isTrue_chain (thn (ha pins s σ H _ I h) fun v s1 ⟨x, H1, I1, r1, q1⟩ => test_link (thn (hb pins s1 σ H1 _ I1 q1) fun u s2 ⟨y, H2, I2, r2, q2⟩ =>
    thn (ho pins s2 σ H2 x y v u _ I2 r1 r2 q2) fun d s3 ⟨z, H3, I3, r3, k, e, q3⟩ => ?_)) hm
  subst e
  cases r3
  refine wpAny_truthy_bool ?_
  cases k with
  | false =>
    obtain ⟨k', e', q'⟩ := q3
    cases e'
    exact ite_ff ⟨H3, I3, q'⟩
  | true =>
    refine ite_tt (test_last (thn (hc pins s3 σ H3 _ I3 q3) fun w' s4 ⟨z', H4, I4, r4, q4⟩ => thn (ho' pins s4 σ H4 y z' u w' _ I4 r2 r4 q4) fun d' s5 ⟨z2, H5, I5, r5, k2, e2, q5⟩ => ?_))
    subst e2
    cases r5
    exact wpAny_truthy_bool ⟨H5, I5, q5⟩

theorem line63 : (sizeLine : Nat) < 2 ^ 63 := by rw [sizeLine_eq]; decide
theorem op_add_str : OpR X (binaryOp .Add) (fun x y H Q => ∃ i j, x = .str i ∧ y = .str j ∧ i.length + j.length ≤ sizeLine ∧ Q (.str (i ++ j)) H) := by
  intro pins s σ H x y v u Q I rx ry h
  obtain ⟨i, j, rfl, rfl, hz, q⟩ := h
  obtain ⟨t, rfl⟩ := rx
  obtain ⟨t', rfl⟩ := ry
  exact add_str (fun t' tk => ⟨.str (i ++ j), H, I.tok _, ⟨_, rfl⟩, q⟩) hz
/-! ### scalar builtins, by CallR -/
theorem vals1 {x : V} {us : List Value} (r : Vals [x] us) : ∃ u, us = [u] ∧ RelV x u := by
  cases r with
  | cons r1 r2 => cases r2; exact ⟨_, rfl, r1⟩
theorem vals2 {x y : V} {us : List Value} (r : Vals [x, y] us) : ∃ u w', us = [u, w'] ∧ RelV x u ∧ RelV y w' := by
  cases r with
  | cons r1 r2 =>
    cases r2 with
    | cons r3 r4 => cases r4; exact ⟨_, _, rfl, r1, r3⟩
theorem call_max2 (hc : X.calm = true) : CallR X (.builtin "max") (fun xs H Q => ∃ i j, xs = [.int i, .int j] ∧ Q (.int (if j > i then j else i)) H) := by
  intro pins s σ H xs us Q I r h
  obtain ⟨i, j, rfl, q⟩ := h
  obtain ⟨u, w', rfl, ⟨t, rfl⟩, ⟨t', rfl⟩⟩ := vals2 r
  refine max_two_ints (I.ok.hd hc) fun h' tk k => ⟨_, H, I.kept k, ?_, q⟩
  by_cases hj : j > i
  · rw [if_pos hj, if_pos hj]; exact ⟨_, rfl⟩
  · rw [if_neg hj, if_neg hj]; exact ⟨_, rfl⟩
theorem call_min2 (hc : X.calm = true) : CallR X (.builtin "min") (fun xs H Q => ∃ i j, xs = [.int i, .int j] ∧ Q (.int (if j < i then j else i)) H) := by
  intro pins s σ H xs us Q I r h
  obtain ⟨i, j, rfl, q⟩ := h
  obtain ⟨u, w', rfl, ⟨t, rfl⟩, ⟨t', rfl⟩⟩ := vals2 r
  refine min_two_ints (I.ok.hd hc) fun h' tk k => ⟨_, H, I.kept k, ?_, q⟩
  by_cases hj : j < i
  · rw [if_pos hj, if_pos hj]; exact ⟨_, rfl⟩
  · rw [if_neg hj, if_neg hj]; exact ⟨_, rfl⟩
theorem call_int1 : CallR X (.type "int") (fun xs H Q => (∃ i, xs = [.int i] ∧ Q (.int i) H) ∨ ∃ k, xs = [.bl k] ∧ Q (.int (if k then 1 else 0)) H) := by
  intro pins s σ H xs us Q I r h
  rcases h with ⟨i, rfl, q⟩ | ⟨k, rfl, q⟩
  · obtain ⟨u, rfl, t, rfl⟩ := vals1 r
    exact call_int_int ⟨.int i, H, I, ⟨_, rfl⟩, q⟩
  · obtain ⟨u, rfl, r1⟩ := vals1 r
    cases r1
    exact call_int_bool ⟨.int (if k then 1 else 0), H, I.tok _, ⟨_, rfl⟩, q⟩
end
end L2

namespace L2
open PySem PySem.Spec PyProof.Rows

/-! ### an instance, its attributes a map -/
structure ObjM (h : Heap) (x dx C : Addr) (mA : Str → Option Value) : Prop where
  obj : h.get? x = some (PySem.W.instObj C dx)
  ns : h.Ns1 dx mA
  ne : dx ≠ x

theorem lookIn_ns {h : Heap} {dx : Addr} {mA : Str → Option Value} (n : h.Ns1 dx mA) : ∃ od, h.get? dx = some od ∧ ∀ name, PySem.W.lookIn name od = some (mA name) := by
  obtain ⟨o, es, ep, ho, hd, hk, _, hm⟩ := n
  refine ⟨o, ho, fun name => ?_⟩
  have e := hm name
  unfold nsFind findBy at e
  rw [← Array.find?_toList] at e
  unfold PySem.W.lookIn
  rw [hd]
  dsimp only
  split
  · rename_i y q
    rw [q] at e
    exact congrArg some e
  · rename_i q
    rw [q] at e
    have a : es.toList.any (·.refKey) = false := by
      rw [List.any_eq_false]
      intro y hy
      obtain ⟨z, t, hkey⟩ := hk y (Array.mem_toList_iff.mp hy)
      simp [DictEntry.refKey, hkey]
    have a' : ¬ es.toList.any (·.refKey) = true := by rw [a]; exact Bool.false_ne_true
    rw [if_neg a']
    exact congrArg some e

theorem ObjM.look {h : Heap} {x dx C : Addr} {mA : Str → Option Value} (I : ObjM h x dx C mA) : ∃ od, PySem.W.InstAt h x (PySem.W.instObj C dx) C (some od) ∧ ∀ name, PySem.W.lookIn name od = some (mA name) :=
  let ⟨od, ho, hl⟩ := lookIn_ns I.ns
  ⟨od, ⟨I.obj, rfl, rfl, ho⟩, hl⟩

section
variable {prog : Program} {w : World} {A : Around} {E : Value → Shared → Prop} {s : Shared} {K : PySem.W.Frag} {x dx C f : Addr} {mA : Str → Option Value} {name : Str} {v : Value}

theorem get_map {expr : Bool} {Q : Value → Shared → Prop} (X : K.In s.heap) (I : ObjM s.heap x dx C mA) (hg : PySem.W.plainGet K C name = true) (hh : PySem.W.hasDictIn K C = true)
    (ha : PySem.W.findIn K (.ref C) name = some none) (hv : mA name = some v) (hv' : PySem.W.handedIn v = true) (h : Q v { s with toks := s.toks + 1 }) :
    wpAny (model prog w) A (getAttr (.ref x) name expr) Q E s := by
  obtain ⟨od, J, hl⟩ := I.look
  exact PySem.W.get_value X J (PySem.W.plainGet_of hg).1 (PySem.W.findObj_own hh ha rfl (by rw [hl, hv])) hv' h

theorem set_map {ns : List Str} {Q : Unit → Shared → Prop} (X : K.In s.heap) (I : ObjM s.heap x dx C mA)
    (hs : PySem.W.findIn K (.ref C) "__setattr__" = some (some (.builtin "object.__setattr__"))) (hp : PySem.W.plainOver K C = true) (ht : PySem.W.takerIn K C name = some none) (hh : PySem.W.hasDictIn K C = true)
    (hw : PySem.Within mA ns) (hsz : ns.length ≤ sizeLine)
    (h : ∀ h', ObjM h' x dx C (fun y => if y = name then some v else mA y) → Heap.SameBut dx s.heap h' → Q () { s with heap := h', toks := s.toks + 2 }) :
    wpAny (model prog w) A (setAttr (.ref x) name v) Q E s := by
  obtain ⟨od, J, hl⟩ := I.look
  refine PySem.W.set_plain X J hs (PySem.W.osa_open (s := { s with toks := s.toks + 1 }) (r := none) X J hp ht fun b => ?_)
  obtain ⟨cd, hc, hd'⟩ := PySem.W.any_some hh
  have hx : s.heap.get? x = some ⟨.ref C, some dx, .plain, #[]⟩ := I.obj
  refine wpAny_bind (wpAny_pure (wpAny_bind (wpAny_bind (wpAny_loadPart hx (wpAny_bind (PySem.W.Looks.here (s := { s with toks := s.toks + 1 }) (PySem.W.looks_clsIn X hc) ?_))))))
  rw [hd']
  refine wpAny_pure (a := some dx) (wpAny_bind (wpAny_pure (wpAny_bind ?_)))
  refine wpAny_nsSet1 (s := { s with toks := s.toks + 1 }) I.ns fun h' hn2 hs2 => ?_
  obtain ⟨oD, esD, epD, hoD, hdD, hcD⟩ := hn2.count (PySem.Within.cons name v hw)
  refine wpAny_bind (wpAny_lookBehind hoD (by rw [hdD]; exact pastItsLine_dict (Nat.le_trans hcD (by rw [List.length_cons]; omega))) ?_)
  exact wpAny_pure (h _ ⟨(hs2.2 _ (Ne.symm I.ne)).trans I.obj, hn2, I.ne⟩ hs2)

/-- C(..): the dict at the heap's end, the instance behind it; then its __init__ -/
theorem make_map {R : Result → Shared → Prop} {vs : List Value} {kw : List (Str × Value)} (X : K.In s.heap) (hm : PySem.W.makesIn K C = true)
    (hi : PySem.W.findIn K (.ref C) "__init__" = some (some (.ref f))) (hf : PySem.W.typeIn K (.ref f) = some (.type "function"))
    (h : codeAny (model prog w) (A.under (.builtin "type.__call__" ⟨.ref C :: vs, kw⟩)) (.call (.ref f) ⟨.ref (s.heap.objs.size + 1) :: vs, kw⟩) (PySem.W.InitBack (s.heap.objs.size + 1) R)
      { s with heap := (s.heap.push PySem.W.emptyDict).push (PySem.W.instObj C s.heap.objs.size) }) :
    codeAny (model prog w) A (.call (.ref C) ⟨vs, kw⟩) R s := by
  obtain ⟨hh, g, d, t, os⟩ := s
  exact PySem.W.make_core (PySem.W.makes_of X hm) (PySem.W.looks_findIn X hi) (fun self => PySem.W.bind_fn X self hf) (.inl rfl) h
end

/-! ### the attributes as a list of pairs -/
def putF (f : Str) (v : V) : List (Str × V) → List (Str × V)
  | [] => [(f, v)]
  | (g, x) :: r => if g = f then (g, v) :: r else (g, x) :: putF f v r
theorem lookup_putF (f g : Str) (v : V) : ∀ fs : List (Str × V), (putF f v fs).lookup g = if g = f then some v else fs.lookup g
  | [] => by
    show List.lookup g [(f, v)] = _
    by_cases h : g = f
    · have hb : (g == f) = true := beq_iff_eq.mpr h
      simp only [List.lookup, hb, if_pos h]
    · have hb : (g == f) = false := beq_eq_false_iff_ne.mpr h
      simp only [List.lookup, hb, if_neg h]
  | (k, x) :: r => by
    have ih := lookup_putF f g v r
    rw [show putF f v ((k, x) :: r) = (if k = f then (k, v) :: r else (k, x) :: putF f v r) from rfl]
    by_cases hk : k = f
    · rw [if_pos hk]
      by_cases h : g = k
      · have hb : (g == k) = true := beq_iff_eq.mpr h
        simp only [List.lookup, hb, if_pos (h.trans hk)]
      · have hb : (g == k) = false := beq_eq_false_iff_ne.mpr h
        simp only [List.lookup, hb, if_neg (fun e : g = f => h (e.trans hk.symm))]
    · rw [if_neg hk]
      by_cases h : g = k
      · have hb : (g == k) = true := beq_iff_eq.mpr h
        simp only [List.lookup, hb, if_neg (fun e : g = f => hk (h.symm.trans e))]
      · have hb : (g == k) = false := beq_eq_false_iff_ne.mpr h
        simp only [List.lookup, hb]
        exact ih
theorem keys_putF (f : Str) (v : V) : ∀ fs : List (Str × V), f ∈ (putF f v fs).map (·.1) ∧ ∀ g, g ∈ fs.map (·.1) → g ∈ (putF f v fs).map (·.1)
  | [] => ⟨by simp [putF], fun g h => by simp at h⟩
  | (k, x) :: r => by
    obtain ⟨i1, i2⟩ := keys_putF f v r
    rw [show putF f v ((k, x) :: r) = (if k = f then (k, v) :: r else (k, x) :: putF f v r) from rfl]
    by_cases hk : k = f
    · rw [if_pos hk]
      subst hk
      exact ⟨by simp, fun g h => by simpa using h⟩
    · rw [if_neg hk]
      refine ⟨?_, fun g h => ?_⟩
      · rw [List.map_cons]
        exact List.mem_cons_of_mem _ i1
      · rw [List.map_cons] at h ⊢
        rcases List.mem_cons.mp h with e | e
        · exact List.mem_cons.mpr (.inl e)
        · exact List.mem_cons_of_mem _ (i2 g e)
theorem length_putF (f : Str) (v : V) : ∀ fs : List (Str × V), (putF f v fs).length ≤ fs.length + 1
  | [] => by simp [putF]
  | (k, x) :: r => by
    have ih := length_putF f v r
    rw [show putF f v ((k, x) :: r) = (if k = f then (k, v) :: r else (k, x) :: putF f v r) from rfl]
    by_cases hk : k = f
    · rw [if_pos hk, List.length_cons, List.length_cons]; omega
    · rw [if_neg hk, List.length_cons, List.length_cons]; omega

theorem RelO.some_of {v : V} {o : Option Value} (r : RelO (some v) o) : ∃ u, o = some u ∧ RelV v u := by
  cases o with
  | none => exact (show False from r).elim
  | some u => exact ⟨u, rfl, r⟩
theorem handed_of {v : V} {u : Value} (r : RelV v u) : PySem.W.handedIn u = true := by
  cases v with
  | non => cases (show u = Value.none from r); rfl
  | bl b => cases (show u = Value.bool b from r); rfl
  | int i => obtain ⟨t, e⟩ := (show ∃ t, u = Value.int i t from r); cases e; rfl
  | str x => obtain ⟨t, e⟩ := (show ∃ t, u = Value.str x t from r); cases e; rfl
  | byt b => obtain ⟨t, e⟩ := (show ∃ t, u = Value.bytes b t from r); cases e; rfl
  | flt b => obtain ⟨t, e⟩ := (show ∃ t, u = Value.float b t from r); cases e; rfl
  | ref a => cases (show u = Value.ref a from r); rfl
  | ty n => cases (show u = Value.type n from r); rfl

section
variable {P : Program} {w : World} {H H' : Hp} {h h' : Heap} {a C dx : Addr} {fs fs' : List (Str × V)}
theorem ins_get (hok : HOk P w H h) (e : H a = some (.ins C dx fs)) : ∃ mA, ObjM h a dx C mA ∧ (∀ f, RelO (fs.lookup f) (mA f)) ∧ PySem.Within mA (fs.map (·.1)) ∧ fs.length ≤ 1000 ∧ H dx = some (.own a) := by
  obtain ⟨d, z, ne, ob, mA, n, r, q⟩ := (show ObjOk P w H h a (.ins C dx fs) from hok a _ e)
  exact ⟨mA, ⟨ob, n, ne⟩, r, q, z, d⟩
end

/-! ### what of the text a class must have -/
structure Cls (K : PySem.W.Frag) (C : Addr) : Prop where
  pg : PySem.W.plainGet K C Str.empty = true
  hd : PySem.W.hasDictIn K C = true
  po : PySem.W.plainOver K C = true
  sa : PySem.W.findIn K (.ref C) "__setattr__" = some (some (.builtin "object.__setattr__"))
theorem Cls.get {K : PySem.W.Frag} {C : Addr} (c : Cls K C) (f : Str) : PySem.W.plainGet K C f = true := c.pg
/-- no class of it has the name -/
def NoAttr (K : PySem.W.Frag) (C : Addr) (f : Str) : Prop := PySem.W.findIn K (.ref C) f = some none
theorem NoAttr.taker {K : PySem.W.Frag} {C : Addr} {f : Str} (n : NoAttr K C f) : PySem.W.takerIn K C f = some none := by
  unfold PySem.W.takerIn
  rw [show PySem.W.findIn K (.ref C) f = some none from n]
  rfl
section
variable {X : Cx} {pins : List (Addr × Obj)} {σ : St} {H : Hp} {s : Shared} {a C dx : Addr} {fs : List (Str × V)} {f : Str} {v : V} {A : Around} {E : Value → Shared → Prop}

theorem getattr_ok {b : Bool} {Q : Value → Shared → Prop} (I : Inv X pins σ H s) (e : H a = some (.ins C dx fs)) (c : Cls X.K C) (n : NoAttr X.K C f) (l : fs.lookup f = some v)
    (h : ∀ u s', Inv X pins σ H s' → RelV v u → Q u s') : wpAny (model X.prog X.w) A (getAttr (.ref a) f b) Q E s := by
  obtain ⟨mA, O, r, _, _, _⟩ := ins_get I.hok e
  obtain ⟨u, hu, ru⟩ := RelO.some_of (v := v) (o := mA f) (by rw [← l]; exact r f)
  exact get_map I.kIn O (c.get f) c.hd n hu (handed_of ru) (h u _ (I.tok _) ru)

theorem setattr_ok {y : V} {u : Value} {Q : Unit → Shared → Prop} (I : Inv X pins σ H s) (e : H a = some (.ins C dx fs)) (c : Cls X.K C) (n : NoAttr X.K C f) (hl : fs.length < 1000) (ry : RelV y u)
    (h : ∀ s', Inv X pins σ (upd H a (.ins C dx (putF f y fs))) s' → Q () s') : wpAny (model X.prog X.w) A (setAttr (.ref a) f u) Q E s := by
  obtain ⟨mA, O, r, wi, _, ho⟩ := ins_get I.hok e
  have hz : (fs.map (·.1)).length ≤ sizeLine := by rw [List.length_map, sizeLine_eq]; omega
  refine set_map I.kIn O c.sa c.po n.taker c.hd wi hz fun h' O' sb => h _ ?_
  have hd : ∃ o, h'.get? dx = some o := let ⟨o, _, _, e', _⟩ := O'.ns; ⟨o, e'⟩
  refine I.write (x := a) (e := dx) (by rw [e]; exact True.intro) (.inr ho) (fun b q hb z => (sb.2 b hb).trans z) hd ?_
  refine ⟨by rw [upd_ne O.ne]; exact ho, ?_, O.ne, O'.obj, _, O'.ns, fun g => ?_, fun g hg => ?_⟩
  · have := length_putF f y fs; omega
  · show RelO ((putF f y fs).lookup g) (if g = f then some u else mA g)
    rw [lookup_putF]
    by_cases q : g = f
    · rw [if_pos q, if_pos q]; exact ry
    · rw [if_neg q, if_neg q]; exact r g
  · by_cases q : g = f
    · rw [q]; exact (keys_putF f y fs).1
    · refine (keys_putF f y fs).2 g (wi g fun z => hg ?_)
      show (if g = f then some u else mA g) = none
      rw [if_neg q]; exact z

/-- a new instance, tracked, without attributes -/
theorem Inv.made (I : Inv X pins σ H s) : Inv X pins σ (upd (upd H s.heap.objs.size (.own (s.heap.objs.size + 1))) (s.heap.objs.size + 1) (.ins C s.heap.objs.size []))
    { s with heap := (s.heap.push PySem.W.emptyDict).push (PySem.W.instObj C s.heap.objs.size) } := by
  have e1 : (s.heap.push PySem.W.emptyDict).get? s.heap.objs.size = some PySem.W.emptyDict := Heap.get?_push_size s.heap rfl
  have e2 : ((s.heap.push PySem.W.emptyDict).push (PySem.W.instObj C s.heap.objs.size)).get? (s.heap.objs.size + 1) = some (PySem.W.instObj C s.heap.objs.size) := by
    have := Heap.get?_push_size (s.heap.push PySem.W.emptyDict) (o := PySem.W.instObj C s.heap.objs.size) rfl
    rwa [Heap.size_push] at this
  have e3 : (s.heap.push PySem.W.emptyDict).Ns s.heap.objs.size (fun _ => none) := ⟨PySem.W.emptyDict, #[], _, e1, rfl, (fun e he => absurd he (by simp)), fun _ => rfl⟩
  have I1 := I.laid (a := s.heap.objs.size) (o := .own (s.heap.objs.size + 1)) (h' := s.heap.push PySem.W.emptyDict) (t' := s.toks) (fun b u q => Heap.get?_push_of_some _ q) (Nat.le_refl _) ⟨_, e1⟩
  refine I1.laid (a := s.heap.objs.size + 1) (o := .ins C s.heap.objs.size []) (t' := s.toks) (fun b u q => Heap.get?_push_of_some _ q) (Nat.le_of_eq (Heap.size_push _ _)) ?_
  have ne : s.heap.objs.size ≠ s.heap.objs.size + 1 := Nat.ne_of_lt (Nat.lt_succ_self _)
  refine ⟨by rw [upd_ne ne, upd_same], Nat.zero_le _, ne, e2, fun _ => none, (Heap.Ns1.of_empty e3).at fun o q => Heap.get?_push_of_some _ q, fun _ => True.intro, fun y hy => absurd rfl hy⟩

/-- e.f where nothing but the object is asked: through attributeBase (super) and the last hold -/
theorem attr_of {prog : Program} {w : World} {env : Env} {e : Expr} {f : Str} {pos : Pos} {s : Shared} {Q : Value → Shared → Prop} (hb : attributeBase e f env (eval e env) = eval e env)
    (h : wpAny (model prog w) A (eval e env) (fun o s₁ => wpAny (model prog w) A (getAttr o f true) Q E s₁) E s) : wpAny (model prog w) A (eval (.Attribute e f pos) env) Q E s :=
  Attribute_any_ h (by rw [arm_eval_Attribute, hb])
end

/-! ### readings and rules -/
/-- e.f, an attribute of the instance -/
def tFld (K : PySem.W.Frag) (ta : TE) (f : Str) : TE := fun σ H Q => ta σ H fun x H1 => ∃ a C dx fs v, x = .ref a ∧ H1 a = some (.ins C dx fs) ∧ Cls K C ∧ NoAttr K C f ∧ fs.lookup f = some v ∧ Q v H1
/-- e.f = value -/
def sFld (K : PySem.W.Frag) (ta tv : TE) (f : Str) : TS := fun D σ H => tv σ H fun y H1 => ta σ H1 fun x H2 => ∃ a C dx fs, x = .ref a ∧ H2 a = some (.ins C dx fs) ∧ Cls K C ∧ NoAttr K C f ∧ fs.length < 1000 ∧
  D.nx σ (upd H2 a (.ins C dx (putF f y fs)))
section
variable {X : Cx} {o e value : Expr} {f : Str} {pos pos' tpos : Pos} {ta tv : TE}
theorem pe_fld (he : PE X e ta) (hb : attributeBase e f X.env (eval e X.env) = eval e X.env) : PE X (.Attribute e f pos) (tFld X.K ta f) := by
  intro pins s σ H Q I h
  refine attr_of hb (thn (he pins s σ H _ I h) fun u s1 ⟨x, H1, I1, rx, a, C, dx, fs, v, ex, ea, c, n, l, q⟩ => ?_)
  subst ex
  obtain rfl : u = Value.ref a := rx
  exact getattr_ok I1 ea c n l fun u' s2 I2 ru => ⟨v, H1, I2, ru, q⟩
theorem ps_fld (ha : PE X o ta) (hv : PE X value tv) (hs : swapsWith value (some (.Attribute o f pos')) pos.line X.env = pure false) : PS X (.Assign [.Attribute o f pos'] value pos) (sFld X.K ta tv f) := by
  intro pins s σ H D I h
  refine plainObj_wpAny_Assign_Attribute (thn (hv pins s σ H _ I h) fun u s1 ⟨y, H1, I1, ry, q⟩ => thn (ha pins s1 σ H1 _ I1 q) fun ov s2 ⟨x, H2, I2, rx, a, C, dx, fs, ex, ea, c, n, l, q2⟩ => ?_) hs
  subst ex
  obtain rfl : ov = Value.ref a := rx
  exact setattr_ok I2 ea c n l ry fun s3 I3 => ⟨σ, _, I3, q2⟩
end

/-! ### isinstance -/
section
variable {X : Cx} {pins : List (Addr × Obj)} {σ : St} {H : Hp} {s : Shared} {A : Around} {E : Value → Shared → Prop} {Q : Value → Shared → Prop} {c : Value} {b : Bool}
/-- the type of a value, as the fragment's deciders take it; for an instance its class -/
inductive TyOf (K : PySem.W.Frag) (H : Hp) : V → Value → Prop where
  | non : TyOf K H .non (.type "NoneType")
  | bl (x : Bool) : TyOf K H (.bl x) (.type "bool")
  | int (i : Int) : TyOf K H (.int i) (.type "int")
  | str (x : Str) : TyOf K H (.str x) (.type "str")
  | flt (x : UInt64) : TyOf K H (.flt x) (.type "float")
  | lst {a : Addr} {xs : List V} (e : H a = some (.lst xs)) : TyOf K H (.ref a) (.type "list")
  | frz {a : Addr} {o : Obj} {xs : List V} (e : H a = some (.frz o (.lst xs))) : TyOf K H (.ref a) (.type "list")
  | tup {a : Addr} {xs : List V} (e : H a = some (.tup xs)) : TyOf K H (.ref a) (.type "tuple")
  | dK {a : Addr} {kvs : List (Key × V)} (e : H a = some (.dK kvs)) : TyOf K H (.ref a) (.type "dict")
  | dT {a : Addr} {kvs : List (List Key × V)} (e : H a = some (.dT kvs)) : TyOf K H (.ref a) (.type "dict")
  | ins {a C dx : Addr} {fs : List (Str × V)} (e : H a = some (.ins C dx fs)) (cl : Cls K C) (ha : PySem.W.findIn K (.ref C) "__class__" = some (some (.builtin "object.__class__")))
      (hn : PySem.W.specialIn K (.builtin "object.__class__") "__get__" = some (some (.builtin "getset_descriptor.__get__"))) (htk : PySem.W.takesIn K (.builtin "object.__class__") = some true)
      (hm : PySem.W.mroIn K C (.type "object") = some true) : TyOf K H (.ref a) (.ref C)
/-- isinstance(x, c) for one class c, a built-in or an own one: kitOne's answer -/
theorem isinst_ok {x : V} {u t : Value} (I : Inv X pins σ H s) (rx : RelV x u) (ty : TyOf X.K H x t) (e : PySem.W.kitOne X.K t c = some b) (h : ∀ tk, Q (.bool b) { s with toks := tk }) :
    wpAny (model X.prog X.w) A (call (.builtin "isinstance") [u, c]) Q E s := by
  cases ty with
  | non => cases (show u = Value.none from rx); exact PySem.W.kia_one PySem.W.kitx_none I.kIn True.intro e (fun z => nomatch z) h
  | bl y => cases (show u = Value.bool y from rx); exact PySem.W.kia_one PySem.W.kitx_bool I.kIn True.intro e (fun z => nomatch z) h
  | int i => obtain ⟨t, q⟩ := (show ∃ t, u = Value.int i t from rx); cases q; exact PySem.W.kia_one PySem.W.kitx_int I.kIn True.intro e (fun z => nomatch z) h
  | str y => obtain ⟨t, q⟩ := (show ∃ t, u = Value.str y t from rx); cases q; exact PySem.W.kia_one PySem.W.kitx_str I.kIn True.intro e (fun z => nomatch z) h
  | flt y => obtain ⟨t, q⟩ := (show ∃ t, u = Value.float y t from rx); cases q; exact PySem.W.kia_one PySem.W.kitx_float I.kIn True.intro e (fun z => nomatch z) h
  | @lst a xs ea =>
    cases (show u = Value.ref a from rx)
    obtain ⟨_, _, n, _, h1⟩ := (show ObjOk X.prog X.w H s.heap a (.lst xs) from I.hok a _ ea)
    exact PySem.W.kia_one PySem.W.kitx_list I.kIn ⟨_, h1, rfl⟩ e (fun z => nomatch z) h
  | @frz a ob xs ea =>
    cases (show u = Value.ref a from rx)
    obtain ⟨_, _, _, n, _, h1⟩ := (show ObjOk X.prog X.w H s.heap a (.frz ob (.lst xs)) from I.hok a _ ea)
    exact PySem.W.kia_one PySem.W.kitx_list I.kIn ⟨_, h1, rfl⟩ e (fun z => nomatch z) h
  | @tup a xs ea =>
    cases (show u = Value.ref a from rx)
    obtain ⟨_, _, _, p⟩ := (show ObjOk X.prog X.w H s.heap a (.tup xs) from I.hok a _ ea)
    obtain ⟨o, h1, h2, _⟩ := p
    exact PySem.W.kia_one PySem.W.kitx_tuple I.kIn ⟨o, h1, h2⟩ e (fun z => nomatch z) h
  | @dK a kvs ea =>
    cases (show u = Value.ref a from rx)
    obtain ⟨_, _, vs, _, p⟩ := (show ObjOk X.prog X.w H s.heap a (.dK kvs) from I.hok a _ ea)
    obtain ⟨o, es, ep, h1, h2, _⟩ := p
    exact PySem.W.kia_one PySem.W.kitx_dict I.kIn ⟨o, h1, h2.1⟩ e (fun z => nomatch z) h
  | @dT a kvs ea =>
    cases (show u = Value.ref a from rx)
    obtain ⟨_, _, xs, _, o, es, ep, h1, h2, _⟩ := (show ObjOk X.prog X.w H s.heap a (.dT kvs) from I.hok a _ ea)
    exact PySem.W.kia_one PySem.W.kitx_dict I.kIn ⟨o, h1, h2.1⟩ e (fun z => nomatch z) h
  | @ins a C dx fs ea cl ha hn htk hm =>
    cases (show u = Value.ref a from rx)
    obtain ⟨mA, O, _⟩ := ins_get I.hok ea
    obtain ⟨od, J, _⟩ := O.look
    exact PySem.W.kia_one (PySem.W.kitx_own (cl.get _) cl.hd ha hn htk hm) I.kIn J e (fun z => nomatch z) h
end
end L2

namespace L2
open PySem PySem.Spec PyProof.Rows

/-! ### room -/
structure Room (k : Nat) (A : Around) : Prop where
  hd : A.handled = none
  dp : A.depth + 3 * k + 5 < recursionLimit
  un : A.units + 16 * k + 200 < cLine
theorem Room.mono {j k : Nat} {A : Around} (r : Room k A) (h : j ≤ k) : Room j A := ⟨r.hd, by have := r.dp; omega, by have := r.un; omega⟩
theorem Room.deeper {k : Nat} {A : Around} (r : Room (k + 1) A) (env : Env) : Room k (A.deeper env) :=
  ⟨r.hd, by have := r.dp; show A.depth + 1 + 3 * k + 5 < _; omega, by have := r.un; show A.units + 3 + 16 * k + 200 < _; omega⟩
theorem Room.in1 {k : Nat} {A : Around} (r : Room (k + 1) A) : Room k A.in1 :=
  ⟨r.hd, by have := r.dp; show A.depth + 3 * k + 5 < _; omega, by have := r.un; show A.units + 1 + 16 * k + 200 < _; omega⟩
theorem make_depth {A : Around} {C : Addr} {us : List Value} {kw : List (Str × Value)} : (A.under (.builtin "type.__call__" ⟨.ref C :: us, kw⟩)).depth = A.depth + 1 := by
  first | rfl | simp [Around.under, Code.weight, Code.isCreation, Code.isGuard, Code.isCaller, Code.frames, Code.isFrame, guardIds]
theorem make_units {A : Around} {C : Addr} {us : List Value} {kw : List (Str × Value)} : (A.under (.builtin "type.__call__" ⟨.ref C :: us, kw⟩)).units = A.units + 1 := by
  first | rfl | simp [Around.under, Code.cUnits, Code.frames, Code.isFrame]
theorem Room.make {k : Nat} {A : Around} (r : Room (k + 1) A) (C : Addr) (us : List Value) (kw : List (Str × Value)) : Room k (A.under (.builtin "type.__call__" ⟨.ref C :: us, kw⟩)) :=
  ⟨r.hd, by have := r.dp; rw [make_depth]; omega, by have := r.un; rw [make_units]; omega⟩
theorem Room.depth {k : Nat} {A : Around} (r : Room k A) : A.depth < recursionLimit := by have := r.dp; omega
theorem Room.units {k : Nat} {A : Around} (r : Room k A) : A.units + 64 < cLine := by have := r.un; omega
/-! ### argument lists and displays -/
def tNil : TA := fun _ H Q => Q [] H
def tCons (ta : TE) (tr : TA) : TA := fun σ H Q => ta σ H fun x H1 => tr σ H1 fun xs H2 => Q (x :: xs) H2
section
variable {X : Cx} {e : Expr} {es : List Expr} {te : TE} {t : TA} {pos : Pos}
theorem pa_nil : PA X [] tNil := fun _ _ _ _ H Q I h => Calls.spliced_nil ⟨[], H, I, .nil, h⟩
theorem pa_cons (ha : PE X e te) (hr : PA X es t) (hs : starEach (e :: es) X.env = (false, eval e X.env) :: starEach es X.env := by rfl) : PA X (e :: es) (tCons te t) := by
  intro pos pins s σ H Q I h
  rw [hs]
  show wpAny _ _ (spliced ((false, eval e X.env) :: backTo pos (starEach es X.env))) _ _ s
  refine Calls.spliced_cons (thn (ha pins s σ H _ I h) fun u s1 ⟨x, H1, I1, r1, q1⟩ => ?_)
  exact thn (hr pos pins s1 σ H1 _ I1 q1) fun us s2 ⟨xs, H2, I2, r2, q2⟩ => ⟨x :: xs, H2, I2, .cons r1 r2, q2⟩

/-- a tuple, a list of written items -/
def tTup (t : TA) : TE := fun σ H Q => t σ H fun xs H1 => xs.length ≤ sizeLine ∧ ∀ p, H1 p = none → Q (.ref p) (upd H1 p (.tup xs))
def tLst (t : TA) : TE := fun σ H Q => t σ H fun xs H1 => xs.length ≤ sizeLine ∧ ∀ p, H1 p = none → Q (.ref p) (upd H1 p (.lst xs))
theorem pe_tup {x1} (h : PA X es t) : PE X (.Tuple es x1 pos) (tTup t) := by
  intro pins s σ H Q I hq
  refine wpAny_Tuple_spliced (thn (h pos pins s σ H _ I hq) fun us s1 ⟨xs, H1, I1, r, z, q⟩ => ⟨by rw [← r.length]; exact z, ?_⟩)
  have hf : H1 s1.heap.objs.size = none := I1.hok.fresh (Nat.le_refl _)
  refine ⟨.ref s1.heap.objs.size, upd H1 s1.heap.objs.size (.tup xs), I1.laid (t' := s1.toks) (fun b u e => Heap.get?_push_of_some _ e) (Nat.le_refl _) ?_, rfl, q _ hf⟩
  exact ⟨z, us, r, ⟨_, Heap.get?_push_size _ rfl, rfl, _, rfl⟩⟩
theorem pe_lst (h : PA X es t) : PE X (.List es pos) (tLst t) := by
  intro pins s σ H Q I hq
  refine wpAny_List_spliced (thn (h pos pins s σ H _ I hq) fun us s1 ⟨xs, H1, I1, r, z, q⟩ => ⟨by rw [← r.length]; exact z, ?_⟩)
  have hf : H1 s1.heap.objs.size = none := I1.hok.fresh (Nat.le_refl _)
  refine ⟨.ref s1.heap.objs.size, upd H1 s1.heap.objs.size (.lst xs), I1.laid (t' := s1.toks) (fun b u e => Heap.get?_push_of_some _ e) (Nat.le_refl _) ?_, rfl, q _ hf⟩
  exact ⟨z, us, 0, r, Heap.get?_push_size _ rfl⟩
end

/-! ### what a def promises -/
/-- a def's promise: the bound arguments in the parameters' order, the heap, the wanted end, the wanted exception -/
abbrev Sp := List V → Hp → VK → XK → Prop
/-- how an exception lies behind a call (file 08 gives it): the callers' frames, abstract heap and state ahead of the call, the wish, the exception, the state -/
abbrev CXT := List Env → Hp → Shared → XK → Value → Shared → Prop

/-- the state at a call -/
structure Env0 (P : Program) (w : World) (K : PySem.W.Frag) (mg : Str → Option Value) (base : Heap) (A : Around) (outer : List Env) (s : Shared) (H : Hp) : Prop where
  frames : A.frames = some outer
  mod : Mod K mg base
  bs : ∀ b o, base.get? b = some o → s.heap.get? b = some o ∧ H b = none
  bsz : base.objs.size ≤ s.heap.objs.size
  funs : s.heap.FunFrames base outer
  frf : ∀ b ∈ frs outer, H b = none
  hok : HOk P w H s.heap
  bare : AllBare s.gens
/-- a call's end -/
def CE (outer : List Env) (P : Program) (w : World) (H : Hp) (s : Shared) (Q : VK) (u : Value) (s' : Shared) : Prop :=
  ∃ v H', s'.os = s.os ∧ AllBare s'.gens ∧ Un (frs outer) [] H H' s.heap s'.heap ∧ HOk P w H' s'.heap ∧ RelV v u ∧ Q v H'
def CR (CX : CXT) (outer : List Env) (P : Program) (w : World) (H : Hp) (s : Shared) (Q : VK) (E : XK) (r : Result) (s' : Shared) : Prop :=
  match r with
  | .ok (.ret u) => CE outer P w H s Q u s'
  | .ok _ => False
  | .error e => CX outer H s E e s'
structure FnOk (P : Program) (w : World) (K : PySem.W.Frag) (mg : Str → Option Value) (base : Heap) (CX : CXT) (k : Nat) (f : Addr) (fd : FuncData) (ps : List Str) (sp : Sp) : Prop where
  len : ∀ vs H Q E, sp vs H Q E → vs.length = ps.length
  run : ∀ (A : Around) (outer : List Env) (s : Shared) (H : Hp) (args : Args) (us : List Value) (vs : List V) (Q : VK) (E : XK), Room k A → Env0 P w K mg base A outer s H → BindsTo s fd args (ps.zip us) → Vals vs us → sp vs H Q E →
    codeAny (model P w) A (.call (.ref f) args) (CR CX outer P w H s Q E) s
theorem FnOk.mono {P : Program} {w : World} {K : PySem.W.Frag} {mg : Str → Option Value} {base : Heap} {CX : CXT} {j k : Nat} {f : Addr} {fd : FuncData} {ps : List Str} {sp : Sp} (F : FnOk P w K mg base CX j f fd ps sp) (h : j ≤ k) :
    FnOk P w K mg base CX k f fd ps sp := ⟨F.len, fun A outer s H args us vs Q E hr => F.run A outer s H args us vs Q E (hr.mono h)⟩
theorem Env0.make {P : Program} {w : World} {K : PySem.W.Frag} {mg : Str → Option Value} {base : Heap} {A : Around} {outer : List Env} {s : Shared} {H : Hp} (e : Env0 P w K mg base A outer s H) (C : Addr) (us : List Value) (kw : List (Str × Value)) :
    Env0 P w K mg base (A.under (.builtin "type.__call__" ⟨.ref C :: us, kw⟩)) outer s H := ⟨by first | exact e.frames | (simpa [Around.under, Code.envs, Code.isFrame, pushEnvs] using e.frames), e.mod, e.bs, e.bsz, e.funs, e.frf, e.hok, e.bare⟩
theorem Env0.in1 {P : Program} {w : World} {K : PySem.W.Frag} {mg : Str → Option Value} {base : Heap} {A : Around} {outer : List Env} {s : Shared} {H : Hp} (e : Env0 P w K mg base A outer s H) :
    Env0 P w K mg base A.in1 outer s H := ⟨e.frames, e.mod, e.bs, e.bsz, e.funs, e.frf, e.hok, e.bare⟩

section
variable {X : Cx} {pins : List (Addr × Obj)} {σ : St} {H : Hp} {s s' : Shared}
/-- from a body: what a callee wants -/
theorem Inv.env0 (I : Inv X pins σ H s) : Env0 X.prog X.w X.K X.mg X.base X.A X.stack s H :=
  ⟨I.ok.frames, I.ok.mod, I.bs, Nat.le_trans I.ok.bsz I.sz, I.stack, I.stkFree, I.hok, I.bare⟩
/-- behind a call -/
theorem Inv.after {Q : VK} {u : Value} (I : Inv X pins σ H s) (h : CE X.stack X.prog X.w H s Q u s') : EP X pins σ Q u s' := by
  obtain ⟨v, H', os, bare, un, hok, r, q⟩ := h
  obtain ⟨hh, g, d, t, os'⟩ := s'
  obtain rfl : os' = s.os := os
  exact ⟨v, H', I.call (h' := hh) (g' := g) (d' := d) (t' := t) (ch := []) un hok bare (fun b z => absurd z (by simp)), r, q⟩
end

/-- C(..): a new instance and its dict, then __init__ -/
def tMake (C : Addr) (sp : Sp) (dvs : List V) (E : XK) (t : TA) : TE := fun σ H Q => t σ H fun vs H1 => ∀ x dx, H1 x = none → H1 dx = none → dx ≠ x →
  sp (.ref x :: (vs ++ dvs)) (upd (upd H1 dx (.own x)) x (.ins C dx [])) (fun v H2 => v = .non ∧ Q (.ref x) H2) E

/-- how the parameters are bound: us the positional arguments, kw the keywords' values by name, ds the defaults that fill up -/
def Binds (K : PySem.W.Frag) (fd : FuncData) (ps : List Str) (ds : List Value) : Prop :=
  ∀ (s : Shared) (us : List Value), K.In s.heap → (us ++ ds).length = ps.length → BindsTo s fd ⟨us, []⟩ (ps.zip (us ++ ds))
/-- every parameter is given -/
theorem Binds.all {K : PySem.W.Frag} {fd : FuncData} {ps : List Str} (h : ∀ us : List Value, us.length = ps.length → bindArgs fd ⟨us, []⟩ = pure (ps.zip us)) : Binds K fd ps [] := fun s us _ hl => by
  rw [List.append_nil] at hl ⊢
  exact .of_eq (h us hl)

/-- an exception of a callee reaches what this body wants of exceptions -/
def Passes (CX : CXT) (X : Cx) (E : XK) : Prop := ∀ (pins : List (Addr × Obj)) (σ : St) (H : Hp) (s : Shared) (e : Value) (s' : Shared), Inv X pins σ H s → CX X.stack H s E e s' → X.xe e s'

section
variable {X : Cx} {CX : CXT} {k : Nat} {f C : Addr} {fd : FuncData} {ps : List Str} {sp : Sp} {dvs : List V} {ds : List Value} {E : XK} {x m : Str} {p pos apos : Pos} {e o : Expr} {es : List Expr} {ta : TE} {t : TA}

/-- what a class must have to be made -/
structure Mk (K : PySem.W.Frag) (C f : Addr) : Prop where
  makes : PySem.W.makesIn K C = true
  init : PySem.W.findIn K (.ref C) "__init__" = some (some (.ref f))
  fn : PySem.W.isFn K (.ref f) = true
  kp : PySem.W.keepIn K (.ref C) = true

theorem run_make {pins : List (Addr × Obj)} {σ : St} {H : Hp} {s : Shared} {Q : VK} {us : List Value} {vs : List V} (M : Mk X.K C f) (F : FnOk X.prog X.w X.K X.mg X.base CX k f fd ps sp) (hr : Room (k + 1) X.A) (hb : Binds X.K fd ps ds) (hd : Vals dvs ds)
    (hx : Passes CX X E) (I : Inv X pins σ H s) (r : Vals vs us)
    (h : ∀ x dx, H x = none → H dx = none → dx ≠ x → sp (.ref x :: (vs ++ dvs)) (upd (upd H dx (.own x)) x (.ins C dx [])) (fun v H2 => v = .non ∧ Q (.ref x) H2) E) :
    wpAny (model X.prog X.w) X.A (call (.ref C) us) (EP X pins σ Q) X.xe s := by
  have hq := h (s.heap.objs.size + 1) s.heap.objs.size (I.hok.fresh (Nat.le_succ _)) (I.hok.fresh (Nat.le_refl _)) (Nat.ne_of_lt (Nat.lt_succ_self _))
  have I2 := Inv.made (C := C) I
  have r2 : Vals (V.ref (s.heap.objs.size + 1) :: (vs ++ dvs)) (Value.ref (s.heap.objs.size + 1) :: (us ++ ds)) := .cons rfl (r.append hd)
  have hl : (Value.ref (s.heap.objs.size + 1) :: us ++ ds).length = ps.length := by
    have e := r2.length
    rw [F.len _ _ _ _ hq] at e
    exact e.symm
  refine wpAny_call (make_map (f := f) I.kIn M.makes M.init (beq_iff_eq.mp M.fn) (codeAny_mono (F.run _ X.stack _ _ ⟨Value.ref (s.heap.objs.size + 1) :: us, []⟩ (Value.ref (s.heap.objs.size + 1) :: (us ++ ds)) _ _ E (hr.make C us [])
    (I2.env0.make C us []) (hb _ (Value.ref (s.heap.objs.size + 1) :: us) I2.kIn hl) r2 hq) fun r s' hq' => ?_))
  cases r with
  | error e => exact hx pins σ _ _ e s' I2 hq'
  | ok fl =>
    cases fl with
    | ret u =>
      obtain ⟨v, H', I3, rv, ev, q3⟩ := I2.after hq'
      subst ev
      exact ⟨rv, ⟨V.ref (s.heap.objs.size + 1), H', I3, rfl, q3⟩⟩
    | next => exact False.elim hq'
    | brk => exact False.elim hq'
    | cont => exact False.elim hq'
theorem pe_make (M : Mk X.K C f) (F : FnOk X.prog X.w X.K X.mg X.base CX k f fd ps sp) (hr : Room (k + 1) X.A) (hg : Gl X x) (hm : X.mg x = some (.ref C)) (hb : Binds X.K fd ps ds) (hd : Vals dvs ds) (hx : Passes CX X E)
    (ha : PA X (e :: es) t) (hdb : (x == ("__debug__" : Str)) = false := by decide) (he : starEach (e :: es) X.env = (false, eval e X.env) :: starEach es X.env := by rfl) (hpl : (backTo pos (starEach es X.env)).any (·.1) = false := by rfl) :
    PE X (.Call (.Name x p) (e :: es) [] pos) (tMake C sp dvs E t) := by
  intro pins s σ H Q I h
  refine wpAny_Call_Name_kw (ld_glob I hg hm ?_ hdb)
  refine PySem.W.callWith_K (h₀ := X.base) I.ok.mod.kin M.kp (thn (ha pos pins s σ H _ I h) fun us s1 ⟨vs, H1, I1, r, q⟩ => ⟨I1.kIn, ?_⟩) he hpl
  exact run_make M F hr hb hd hx I1 r q
end

section
variable {X : Cx} {CX : CXT} {k : Nat} {f C : Addr} {fd : FuncData} {ps ks : List Str} {sp : Sp} {E : XK} {x m : Str} {p pos apos kpos : Pos} {e o : Expr} {es : List Expr} {kws : List Keyword} {te ta : TE} {t tk : TA} {nm : Option Str}
variable {g : List Value → List Value → List Value} {gV : List V → List V → List V}
end

/-! ### a def's body keeps its promise -/
/-- names: the parameters first -/
structure FnScope (N P : List Str) (sc : Scope) : Prop where
  kind : sc.kind = .function
  co : sc.isCoroutine = false
  gen : sc.isGenerator = false
  nd : N.Nodup
  pre : N.take P.length = P
  par : ∀ x ∈ P, sc.names.lookup x = some .local ∨ sc.names.lookup x = some .cell
  nofree : ∀ y ∈ sc.names, y.2 ≠ .free

theorem bindL_out {kindOf : Str → Option NameKind} {x : Str} : ∀ {binds : List (Str × Value)} {m : Str → Option Value}, (∀ v, (x, v) ∉ binds) → bindL kindOf binds m x = m x
  | [], _, _ => rfl
  | (n, v) :: r, m, h => by
    unfold bindL
    rw [bindL_out fun w hw => h w (List.mem_cons_of_mem _ hw)]
    split
    · have : x ≠ n := by rintro rfl; exact h v List.mem_cons_self
      simp [this]
    · rfl
theorem bindC_out {kindOf : Str → Option NameKind} {x : Str} : ∀ {binds : List (Str × Value)} {m : Str → Option Value}, (∀ v, (x, v) ∉ binds) → bindC kindOf binds m x = m x
  | [], _, _ => rfl
  | (n, v) :: r, m, h => by
    unfold bindC
    rw [bindC_out fun w hw => h w (List.mem_cons_of_mem _ hw)]
    split
    · rfl
    · have : x ≠ n := by rintro rfl; exact h v List.mem_cons_self
      simp [this]
theorem bindL_get {kindOf : Str → Option NameKind} {x : Str} {v : Value} : ∀ {P : List Str} {vs : List Value} {i : Nat} {m : Str → Option Value}, P.Nodup → P[i]? = some x → vs[i]? = some v → kindOf x = some .local →
    bindL kindOf (P.zip vs) m x = some v
  | [], _, _, _, _, h, _, _ => by simp at h
  | _ :: _, [], _, _, _, _, h, _ => by simp at h
  | p :: P, w :: vs, 0, m, nd, h1, h2, hk => by
    simp at h1 h2; subst h1; subst h2
    show bindL kindOf ((p, w) :: P.zip vs) m p = _
    unfold bindL
    rw [bindL_out fun v hv => (List.nodup_cons.mp nd).1 (List.of_mem_zip hv).1, if_pos hk]
    simp
  | p :: P, w :: vs, i + 1, m, nd, h1, h2, hk => by
    show bindL kindOf ((p, w) :: P.zip vs) m x = _
    unfold bindL
    exact bindL_get (i := i) (List.nodup_cons.mp nd).2 (by simpa using h1) (by simpa using h2) hk
theorem bindC_get {kindOf : Str → Option NameKind} {x : Str} {v : Value} : ∀ {P : List Str} {vs : List Value} {i : Nat} {m : Str → Option Value}, P.Nodup → P[i]? = some x → vs[i]? = some v → kindOf x ≠ some .local →
    bindC kindOf (P.zip vs) m x = some v
  | [], _, _, _, _, h, _, _ => by simp at h
  | _ :: _, [], _, _, _, _, h, _ => by simp at h
  | p :: P, w :: vs, 0, m, nd, h1, h2, hk => by
    simp at h1 h2; subst h1; subst h2
    show bindC kindOf ((p, w) :: P.zip vs) m p = _
    unfold bindC
    rw [bindC_out fun v hv => (List.nodup_cons.mp nd).1 (List.of_mem_zip hv).1, if_neg hk]
    simp
  | p :: P, w :: vs, i + 1, m, nd, h1, h2, hk => by
    show bindC kindOf ((p, w) :: P.zip vs) m x = _
    unfold bindC
    exact bindC_get (i := i) (List.nodup_cons.mp nd).2 (by simpa using h1) (by simpa using h2) hk

/-- the names' values at the entry -/
def start (N : List Str) (vs : List V) : St := vs.map some ++ List.replicate (N.length - vs.length) none

/-- the context of a def's body, at its entry; an exception leaves the frame, then lies as CX says -/
def cxOf (CX : CXT) (P : Program) (w : World) (K : PySem.W.Frag) (mg : Str → Option Value) (base : Heap) (N : List Str) (qual : Str) (scope : Scope) (f : Addr) (cd : Value) (A : Around) (outer : List Env) (s : Shared) (H : Hp) (E : XK) : Cx where
  prog := P
  w := w
  K := K
  mg := mg
  base := base
  A := A.deeper (envOfC qual scope s.heap.objs.size f cd)
  N := N
  s₀ := s
  H₀ := H
  env := envOfC qual scope s.heap.objs.size f cd
  outer := outer
  stack := envOfC qual scope s.heap.objs.size f cd :: outer
  ex := []
  calm := true
  fn := fun _ => true
  pn := []
  xe := fun e s' => wpAny (model P w) (A.deeper (envOfC qual scope s.heap.objs.size f cd)) (leaving (envOfC qual scope s.heap.objs.size f cd) e) (fun _ s'' => CX outer H s E e s'') (fun e' s'' => CX outer H s E e' s'') s'

theorem cell_has {sc : Scope} {n : Nat} {x : Str} (h : sc.names.lookup x = some .cell) : ∃ c, (cellsFrom n sc.names []).lookup x = some c := by
  have q := PySem.W.cellsFrom_some sc.names n [] (.inl h)
  exact Option.isSome_iff_exists.mp q

theorem inv_start {CX : CXT} {P : Program} {w : World} {K : PySem.W.Frag} {mg : Str → Option Value} {base : Heap} {N ps : List Str} {qual : Str} {scope : Scope} {f : Addr} {cd : Value} {A : Around} {outer : List Env} {s s1 : Shared} {H : Hp} {E : XK} {us : List Value} {vs : List V}
    (S : FnScope N ps scope) (hd : A.handled = none) (e0 : Env0 P w K mg base A outer s H) (hl : vs.length = ps.length) (r : Vals vs us)
    (x : InCallC s s.heap.objs.size (bindL (envOfC qual scope s.heap.objs.size f cd).kindOf (ps.zip us) fun _ => none) (cellsFrom (s.heap.objs.size + 1) scope.names []) (bindC (envOfC qual scope s.heap.objs.size f cd).kindOf (ps.zip us) fun _ => none) s1) :
    Inv (cxOf CX P w K mg base N qual scope f cd A outer s H E) [] (start N vs) H s1 := by
  have hpl : ps.length ≤ N.length := by have := congrArg List.length S.pre; rw [List.length_take] at this; omega
  obtain ⟨h1, tk, rfl, hk⟩ := x.done
  have noA : ∀ b : Addr, b ∉ (cxOf CX P w K mg base N qual scope f cd A outer s H E).ex := fun b z => absurd (show b ∈ ([] : List Addr) from z) (by simp)
  refine ⟨⟨e0.mod, S.kind, rfl, rfl, Nat.le_refl _, fun y z c h1 h2 => ?_, fun y hy => ?_, fun y c _ h => ?_, fun _ => hd, Around.frames_deeper e0.frames, .inr ⟨rfl, rfl⟩, fun b z => absurd z (noA b), e0.bs, e0.bsz, fun b _ _ => noA b, fun b z => absurd z (noA b), e0.funs, e0.frf⟩,
    rfl, e0.bare, Un.kept hk, ⟨_, x.toInCall.ns, fun i y v h1 h2 h3 => ?_⟩, fun y c h => ⟨_, x.cell y c h⟩, e0.hok.fresh (Nat.le_refl _), fun y c h => ?_, fun p hp => absurd (show p ∈ ([] : List (Addr × Obj)) from hp) (by simp), e0.hok.kept hk, ?_⟩
  · exact name_of_addr x.apart (PySem.mem_of_lookup h1) (PySem.mem_of_lookup h2)
  · have hy : scope.names.lookup y = some .cell ∨ scope.names.lookup y = some .free := hy
    rcases hy with hy | hy
    · exact cell_has hy
    · exact absurd rfl (S.nofree _ (PySem.mem_of_lookup hy))
  · exact Nat.le_of_lt (x.above y c (PySem.mem_of_lookup h))
  · have hi : i < vs.length := by
      unfold start at h2
      by_cases hi : i < vs.length
      · exact hi
      · rw [List.getElem?_append_right (by simpa using hi)] at h2
        rw [List.getElem?_replicate] at h2
        split at h2 <;> cases h2
    have ha : vs[i]? = some v := by
      unfold start at h2
      rw [List.getElem?_append_left (by simpa using hi), List.getElem?_map] at h2
      cases e : vs[i]? with
      | none => rw [e] at h2; cases h2
      | some a => rw [e] at h2; cases h2; rfl
    obtain ⟨u, hu, rv⟩ := r.get ha
    have hp : ps[i]? = some y := by
      rw [← S.pre, List.getElem?_take_of_lt (by omega)]; exact h1
    have ndP : ps.Nodup := by rw [← S.pre]; exact S.nd.sublist (List.take_sublist _ _)
    refine ⟨u, rv, ?_⟩
    rcases S.par y (List.mem_of_getElem? hp) with k | k
    · exact .inl ⟨k, bindL_get ndP hp hu k⟩
    · obtain ⟨c, e⟩ := cell_has (n := s.heap.objs.size + 1) k
      refine .inr ⟨.inl k, c, e, ?_⟩
      have q := x.cell y c e
      rw [bindC_get ndP hp hu (by show scope.names.lookup y ≠ _; rw [k]; decide)] at q
      exact q
  · exact e0.hok.fresh (Nat.le_of_lt (x.above y c (PySem.mem_of_lookup h)))
  · unfold start
    show _ = N.length
    rw [List.length_append, List.length_map, List.length_replicate]
    omega

/-- THE RULE: a def (or a method) of the text, by its body. The body's reading t is chosen for each entry; it is run at the parameters' values -/
theorem fn_of {CX : CXT} {P : Program} {w : World} {K : PySem.W.Frag} {mg : Str → Option Value} {base : Heap} {k : Nat} {f : Addr} {name qual : Str} {params : Arguments} {body : List Stmt} {scope : Scope} {dV kV doc pm cdv ct oc : Value} {an od : Option Addr}
    {osl : Array (Option Value)} {N ps : List Str} {sp : Sp} (lk : K.lookup f = some ⟨oc, od, .func (PySem.W.fnOf name qual params body scope dV kV doc pm an cdv ct), osl⟩) (hcd : PySem.W.codeIn K cdv qual = true) (S : FnScope N ps scope)
    (len : ∀ vs H Q E, sp vs H Q E → vs.length = ps.length)
    (hbody : ∀ (A : Around) (outer : List Env) (s : Shared) (H : Hp) (vs : List V) (Q : VK) (E : XK), Room k (A.deeper (envOfC qual scope s.heap.objs.size f cdv)) → sp vs H Q E →
      ∃ t, PSs (cxOf CX P w K mg base N qual scope f cdv A outer s H E) body t ∧ t { nx := fun _ H' => Q .non H', rt := Q } (start N vs) H) :
    FnOk P w K mg base CX (k + 1) f (PySem.W.fnOf name qual params body scope dV kV doc pm an cdv ct) ps sp := by
  refine ⟨len, fun A outer s H args us vs Q E hr e0 hb r hsp => ?_⟩
  have hl := len _ _ _ _ hsp
  have KX : K.In s.heap := e0.mod.kin.keeps fun b o e => (e0.bs b o e).1
  have lim : s.heap.NoLimit := e0.mod.nolimit.keeps fun b o e => (e0.bs b o e).1
  have hkind : ∀ y ∈ ps.zip us, scope.names.lookup y.1 = some .local ∨ (scope.names.lookup y.1 = some .cell ∧ ((cellsFrom (s.heap.objs.size + 1) scope.names []).lookup y.1).isSome = true) := fun ⟨n, v⟩ hy => by
    rcases S.par n (List.of_mem_zip hy).1 with q | q
    · exact .inl q
    · exact .inr ⟨q, PySem.W.cellsFrom_some _ _ _ (.inl q)⟩
  refine codeAny_call_function hr.depth (KX _ _ lk) rfl S.co S.gen rfl (PySem.W.codeRec_of KX hcd) (hb _ _ _ _ ?_)
  refine wpAny_newFunctionEnv_cells S.kind hkind fun env he s1 x => ?_
  subst he
  refine ⟨lim.keeps x.toInCall.keep, codeAny_func ?_⟩
  obtain ⟨t, ht, hq⟩ := hbody A outer s H vs Q E (hr.deeper _) hsp
  have I : Inv (cxOf CX P w K mg base N qual scope f cdv A outer s H E) [] (start N vs) H s1 := inv_start S hr.hd e0 hl r x
  refine wpAny_mono (ht [] s1 (start N vs) H _ I hq) (fun fl s' hs => ?_) fun e s' hs => hs
  have fin : ∀ {σ' : St} {H' : Hp} {v : V} {u : Value}, Inv (cxOf CX P w K mg base N qual scope f cdv A outer s H E) [] σ' H' s' → RelV v u → Q v H' → CE outer P w H s Q u s' :=
    fun {σ' H' v u} J rv q => ⟨v, H', J.os, J.bare, J.base, J.hok, rv, q⟩
  cases fl with
  | ret u =>
    obtain ⟨v, σ', H', J, rv, q⟩ := hs
    exact fin J rv q
  | next =>
    obtain ⟨σ', H', J, q⟩ := hs
    exact fin (v := V.non) (u := Value.none) J rfl q
  | brk =>
    obtain ⟨_, _, _, q⟩ := hs
    exact False.elim q
  | cont =>
    obtain ⟨_, _, _, q⟩ := hs
    exact False.elim q
end L2

namespace L2
open PySem PySem.Spec PyProof.Rows
section
variable {X : Cx} {x : Str} {p pos : Pos} {e : Expr} {es : List Expr} {t : TA} {id T : String} {r : List V → Hp → VK → Prop}

def tCB (r : List V → Hp → VK → Prop) (t : TA) : TE := fun σ H Q => t σ H fun vs H1 => r vs H1 Q
/-- f(e, ..), f a built-in function -/
theorem pe_callB (hc : CallR X (.builtin id) r) (hg : Gl X x) (hm : X.mg x = none) (hv : bootBuiltins x = some (.builtin id)) (ha : PA X (e :: es) t) (hn : x ≠ "__name__" := by decide) (hdb : (x == ("__debug__" : Str)) = false := by decide)
    (he : starEach (e :: es) X.env = (false, eval e X.env) :: starEach es X.env := by rfl) (hpl : (backTo pos (starEach es X.env)).any (·.1) = false := by rfl) : PE X (.Call (.Name x p) (e :: es) [] pos) (tCB r t) := by
  intro pins s σ H Q I h
  refine wpAny_Call_Name_kw (ld_blt I hg hm hv ?_ hn hdb)
  exact PyProof.Rows.callWith_builtin1 (thn (ha pos pins s σ H _ I h) fun us s1 ⟨vs, H1, I1, r1, q1⟩ => hc pins s1 σ H1 vs us Q I1 r1 q1) he hpl
/-- T(e, ..), T a built-in type -/
theorem pe_callTy (hc : CallR X (.type T) r) (hg : Gl X x) (hm : X.mg x = none) (hv : bootBuiltins x = some (.type T)) (ha : PA X (e :: es) t) (hn : x ≠ "__name__" := by decide) (hdb : (x == ("__debug__" : Str)) = false := by decide)
    (he : starEach (e :: es) X.env = (false, eval e X.env) :: starEach es X.env := by rfl) (hpl : (backTo pos (starEach es X.env)).any (·.1) = false := by rfl) : PE X (.Call (.Name x p) (e :: es) [] pos) (tCB r t) := by
  intro pins s σ H Q I h
  refine wpAny_Call_Name_kw (ld_blt I hg hm hv ?_ hn hdb)
  exact PyProof.Rows.callWith_type1 (thn (ha pos pins s σ H _ I h) fun us s1 ⟨vs, H1, I1, r1, q1⟩ => hc pins s1 σ H1 vs us Q I1 r1 q1) he hpl
end
end L2

namespace HT
open PySem PyProof.Rows

section
open PySem.SeqAt
open PySem.AutoSeq1 (wpAny_loadPart')
open PySem.MeetsSeq PySem.MeetsSeq2 PySem.MeetsSeq3

end

section
variable {prog : Program} {w : World} {A : Around} {E : Value → Shared → Prop} {s : Shared}

/-! ### t[a:b], not the whole -/
/-- a slice's bound as a place among n (d where it is left out) -/
def sIx (n d : Nat) : Option Int → Nat
  | none => d
  | some v => if v < 0 then (v + (n : Int)).toNat else min v.toNat n
end
end HT

namespace L2
open PySem PySem.Spec PyProof.Rows

/-! ### the parts of a slice -/
abbrev TO := St → Hp → (Option Int → Hp → Prop) → Prop
/-- a slice's part (left out, or an int) -/
def PO (X : Cx) (e : Option Expr) (t : TO) : Prop :=
  ∀ (pins : List (Addr × Obj)) (s : Shared) (σ : St) (H : Hp) (Q : Option Int → Hp → Prop), Inv X pins σ H s → t σ H Q →
    wpAny (model X.prog X.w) X.A (evalPart e X.env) (fun u s' => ∃ o H', Inv X pins σ H' s' ∧ IsPart u o ∧ Q o H') X.xe s
def tNoPart : TO := fun _ H Q => Q none H
def tPart (t : TE) : TO := fun σ H Q => t σ H fun x H1 => ∃ i, x = .int i ∧ Q (some i) H1

section
variable {X : Cx} {e : Expr} {te : TE} {lo hi : Option Expr} {tl th : TO} {pos p2 : Pos}

theorem po_none : PO X none tNoPart := by
  intro pins s σ H Q I h
  rw [evalPart_none]
  exact wpAny_pure ⟨none, H, I, .none, h⟩
theorem po_some (h : PE X e te) : PO X (some e) (tPart te) := by
  intro pins s σ H Q I hw
  rw [evalPart_some]
  refine thn (h pins s σ H _ I hw) fun u s1 ⟨x, H1, I1, r1, q1⟩ => ?_
  obtain ⟨i, rfl, q⟩ := q1
  obtain ⟨t, rfl⟩ := r1
  exact ⟨some i, H1, I1, .int i t, q⟩

/-- what a slice of a value is, by values: the slice object stands at sl -/
def SlR (X : Cx) (r : V → Option Int → Option Int → Hp → VK → Prop) : Prop :=
  ∀ (pins : List (Addr × Obj)) (s : Shared) (σ : St) (H : Hp) (x : V) (v vl vu : Value) (lo hi : Option Int) (sl : Addr) (Q : VK), Inv X pins σ H s → RelV x v → s.heap.IsSliceOf sl vl vu .none → IsPart vl lo → IsPart vu hi → r x lo hi H Q →
    ∃ T id, typeLookup (.type T) "__getitem__" = pure (some (.builtin id)) ∧ s.TypeIs v T ∧ wpAny (model X.prog X.w) X.A (getItem v (.ref sl)) (EP X pins σ Q) X.xe s
theorem SlR.or {r r' : V → Option Int → Option Int → Hp → VK → Prop} (h : SlR X r) (h' : SlR X r') : SlR X (fun x lo hi H Q => r x lo hi H Q ∨ r' x lo hi H Q) := by
  intro pins s σ H x v vl vu lo hi sl Q I rx hs pl pu q
  rcases q with q | q
  · exact h pins s σ H x v vl vu lo hi sl Q I rx hs pl pu q
  · exact h' pins s σ H x v vl vu lo hi sl Q I rx hs pl pu q
def tSl (r : V → Option Int → Option Int → Hp → VK → Prop) (te : TE) (tl th : TO) : TE := fun σ H Q => te σ H fun x H1 => tl σ H1 fun l H2 => th σ H2 fun u H3 => r x l u H3 Q
/-- a[lo:hi], any a -/
theorem pe_slice {r : V → Option Int → Option Int → Hp → VK → Prop} (hr : SlR X r) (he : PE X e te) (hl : PO X lo tl) (hu : PO X hi th) : PE X (.Subscript e (.Slice lo hi none p2) pos) (tSl r te tl th) := by
  intro pins s σ H Q I h
  refine Subscript_ (thn (he pins s σ H _ I h) fun v s1 ⟨x, H1, I1, r1, q1⟩ => ?_)
  refine wpAny_Slice (thn (hl pins s1 σ H1 _ I1 q1) fun vl s2 ⟨l, H2, I2, pl, q2⟩ => thn (hu pins s2 σ H2 _ I2 q2) fun vu s3 ⟨u, H3, I3, pu, q3⟩ => ?_)
  rw [evalPart_none]
  refine wpAny_pure ?_
  have I4 : Inv X pins σ H3 { s3 with heap := s3.heap.push { cls := .type "slice", data := .fields #[vl, vu, .none] } } := I3.kept (t' := s3.toks) fun b ob q => Heap.get?_push_of_some _ q
  obtain ⟨T, id, hT, ht, hg⟩ := hr pins { s3 with heap := s3.heap.push { cls := .type "slice", data := .fields #[vl, vu, .none] } } σ H3 x v vl vu l u s3.heap.objs.size Q I4 r1 (Heap.IsSliceOf.new ..) pl pu q3
  show wpAny (model X.prog X.w) X.A (subscriptTail e (.Slice lo hi none p2) v (.ref s3.heap.objs.size)) (EP X pins σ Q) X.xe { s3 with heap := s3.heap.push { cls := .type "slice", data := .fields #[vl, vu, .none] } }
  exact tail_any (ops := [.ref s3.heap.objs.size, v]) ht hT hg (by with_unfolding_all rfl)

/-- the items of xs[lo:hi] -/
def cutV (xs : List V) (lo hi : Option Int) : List V := (xs.drop (HT.sIx xs.length 0 lo)).take (HT.sIx xs.length xs.length hi - HT.sIx xs.length 0 lo)
theorem cutV_length (xs : List V) (lo hi : Option Int) : (cutV xs lo hi).length ≤ xs.length := by
  unfold cutV
  rw [List.length_take, List.length_drop]
  omega
end
end L2

namespace L2
open PySem PySem.Spec PyProof.Rows

/-! ### places -/
/-- the place that an index of any sign means -/
def ixN (n : Nat) (i : Int) : Option Nat := if 0 ≤ i then (if i < n then some i.toNat else none) else if -(n : Int) ≤ i then some (i + n).toNat else none
def atI {α : Type} (xs : List α) (i : Int) : Option α := (ixN xs.length i).bind fun j => xs[j]?
theorem ixN_seq {n : Nat} {i : Int} {j : Nat} (h : ixN n i = some j) : seqIndex? i n = some j ∧ j < n ∧ -(n : Int) ≤ i ∧ i < n := by
  unfold ixN at h
  by_cases h0 : 0 ≤ i
  · rw [if_pos h0] at h
    by_cases h1 : i < n
    · rw [if_pos h1] at h
      have e : i.toNat = j := Option.some.inj h
      exact ⟨by rw [seqIndex_of h0 h1, e], by omega, by omega, h1⟩
    · rw [if_neg h1] at h; cases h
  · rw [if_neg h0] at h
    by_cases h1 : -(n : Int) ≤ i
    · rw [if_pos h1] at h
      have e : (i + n).toNat = j := Option.some.inj h
      exact ⟨by rw [seqIndex_neg (by omega) h1, e], by omega, h1, by omega⟩
    · rw [if_neg h1] at h; cases h
theorem atI_get {α : Type} {xs : List α} {i : Int} {v : α} (h : atI xs i = some v) : ∃ j, seqIndex? i xs.length = some j ∧ xs[j]? = some v ∧ j < xs.length ∧ -(xs.length : Int) ≤ i ∧ i < xs.length := by
  unfold atI at h
  cases e : ixN xs.length i with
  | none => rw [e] at h; cases h
  | some j =>
    rw [e] at h
    obtain ⟨h1, h2, h3, h4⟩ := ixN_seq e
    exact ⟨j, h1, h, h2, h3, h4⟩
theorem atI_nat {α : Type} {xs : List α} {j : Nat} {v : α} (h : xs[j]? = some v) : atI xs (j : Int) = some v := by
  have hj : j < xs.length := (List.getElem?_eq_some_iff.mp h).1
  have e : ixN xs.length (j : Int) = some j := by
    unfold ixN
    rw [if_pos (by omega), if_pos (by omega)]; simp
  unfold atI; rw [e]; exact h
/-! ### what may be subscripted -/
/-- what stands as an index of a plain subscript -/
def PlainIx (b : Expr) : Prop := ∀ o i, subscripted b false o i = operate [o, i] (getItem o i)
/-- a subscript by values -/
def IxR (X : Cx) (r : R2) : Prop :=
  ∀ (value slice : Expr) (pins : List (Addr × Obj)) (s : Shared) (σ : St) (H : Hp) (x y : V) (v u : Value) (Q : VK), Inv X pins σ H s → RelV x v → RelV y u → r x y H Q →
    subscripted slice false v u = operate [v, u] (getItem v u) → wpAny (model X.prog X.w) X.A (subscriptTail value slice v u) (EP X pins σ Q) X.xe s
/-- a call of a builtin's method by values: the receiver, the arguments -/
def MtR (X : Cx) (id : String) (r : V → List V → Hp → VK → Prop) : Prop :=
  ∀ (pins : List (Addr × Obj)) (s : Shared) (σ : St) (H : Hp) (x : V) (xs : List V) (v : Value) (us : List Value) (Q : VK), Inv X pins σ H s → RelV x v → Vals xs us → r x xs H Q →
    wpAny (model X.prog X.w) X.A (call (.builtin id) (v :: us)) (EP X pins σ Q) X.xe s
section
variable {X : Cx} {a b : Expr} {ta tb : TE} {pos : Pos}
theorem IxR.or {r r' : R2} (h : IxR X r) (h' : IxR X r') : IxR X (fun x y H Q => r x y H Q ∨ r' x y H Q) := by
  intro value slice pins s σ H x y v u Q I rx ry q hs
  rcases q with q | q
  · exact h value slice pins s σ H x y v u Q I rx ry q hs
  · exact h' value slice pins s σ H x y v u Q I rx ry q hs
theorem MtR.or {id : String} {r r' : V → List V → Hp → VK → Prop} (h : MtR X id r) (h' : MtR X id r') : MtR X id (fun x xs H Q => r x xs H Q ∨ r' x xs H Q) := by
  intro pins s σ H x xs v us Q I rx rs q
  rcases q with q | q
  · exact h pins s σ H x xs v us Q I rx rs q
  · exact h' pins s σ H x xs v us Q I rx rs q
/-- a[b] -/
theorem pe_ix {r : R2} (hr : IxR X r) (ha : PE X a ta) (hb : PE X b tb) (hs : PlainIx b) : PE X (.Subscript a b pos) (tOp r ta tb) := by
  intro pins s σ H Q I h
  exact Subscript_ (binT ha hb I h fun v u s2 x y H2 I2 rx ry q => hr a b pins s2 σ H2 x y v u Q I2 rx ry q (hs _ _))

def rIxL (K : PySem.W.Frag) : R2 := fun x y H Q => ∃ p xs i v, x = .ref p ∧ y = .int i ∧ SqL K H p xs ∧ atI xs i = some v ∧ Q v H
def rIxT (K : PySem.W.Frag) : R2 := fun x y H Q => ∃ p xs i v, x = .ref p ∧ y = .int i ∧ SqT K H p xs ∧ atI xs i = some v ∧ Q v H
theorem ix_list : IxR X (rIxL X.K) := by
  intro value slice pins s σ H x y v u Q I rx ry h hs
  obtain ⟨p, xs, i, z, rfl, rfl, hq, he, q⟩ := h
  cases rx
  obtain ⟨t, rfl⟩ := ry
  obtain ⟨its, r, pl, hz⟩ := I.list hq
  obtain ⟨j, h1, h2, h3, h4, h5⟩ := atI_get he
  obtain ⟨w, ew, rw'⟩ := r.get h2
  have hl := r.length
  have hn := line63
  have fin : EP X pins σ Q w s := ⟨z, H, I, rw', q⟩
  by_cases h0 : 0 ≤ i
  · have hj : i.toNat = j := by
      rw [seqIndex_of h0 h5] at h1
      exact Option.some.inj h1
    exact item_listR pl.isList h0 (by omega) (by rw [hj]; simpa using ew) fin hs
  · have hj : (i + (its.toArray.size : Int)).toNat = j := by
      rw [seqIndex_neg (by omega) h4] at h1
      rw [List.size_toArray, ← hl]
      exact Option.some.inj h1
    exact subscriptTail_builtinR (x := w) pl.isList.typeIs slot_list_getitem.lookup
      (wpAny_getItem_list_neg (Q := fun r s' => r = w ∧ EP X pins σ Q r s') pl.isList (by omega) (by rw [List.size_toArray] <;> omega) (by omega) (by rw [hj]; simpa using ew) ⟨rfl, fin⟩) hs
theorem ix_tup : IxR X (rIxT X.K) := by
  intro value slice pins s σ H x y v u Q I rx ry h hs
  obtain ⟨p, xs, i, z, rfl, rfl, hq, he, q⟩ := h
  cases rx
  obtain ⟨t, rfl⟩ := ry
  obtain ⟨its, r, pl, hz⟩ := I.tuple hq
  obtain ⟨j, h1, h2, h3, h4, h5⟩ := atI_get he
  obtain ⟨w, ew, rw'⟩ := r.get h2
  have hl := r.length
  have hn := line63
  have fin : EP X pins σ Q w s := ⟨z, H, I, rw', q⟩
  exact subscriptTail_builtinR (x := w) pl.typeIs slot_tuple_getitem.lookup
    (getItem_tuple (j := j) (Q := fun r s' => r = w ∧ EP X pins σ Q r s') pl (by omega) (by omega) (by rw [List.size_toArray, ← hl]; exact h1) (by simpa using ew) ⟨rfl, fin⟩) hs
theorem Inv.lst {pins : List (Addr × Obj)} {σ : St} {H : Hp} {s : Shared} {p : Addr} {xs : List V} (I : Inv X pins σ H s) (h : H p = some (.lst xs)) :
    ∃ (its : List Value) (n : Nat), Vals xs its ∧ s.heap.get? p = some { cls := .type "list", data := .seq its.toArray n } ∧ xs.length ≤ sizeLine := by
  obtain ⟨z, its, n, r, e⟩ := I.hok p _ h
  exact ⟨its, n, r, e, z⟩
/-! ### slices -/
theorem slice_bounds (lo hi : Option Int) (n : Nat) : (sliceBounds lo hi none n).1 = ((HT.sIx n 0 lo : Nat) : Int) ∧ (sliceBounds lo hi none n).2.1 = ((HT.sIx n n hi : Nat) : Int) ∧ (sliceBounds lo hi none n).2.2 = 1 := by
  refine ⟨?_, ?_, rfl⟩
  · cases lo with
    | none => simp [sliceBounds, HT.sIx]
    | some i =>
      simp only [sliceBounds, HT.sIx, Option.getD_none, show (1 : Int) > 0 by decide, if_true]
      by_cases h : i < 0
      · simp only [h, if_true] <;> omega
      · simp only [h, if_false] <;> omega
  · cases hi with
    | none => simp [sliceBounds, HT.sIx]
    | some i =>
      simp only [sliceBounds, HT.sIx, Option.getD_none, show (1 : Int) > 0 by decide, if_true]
      by_cases h : i < 0
      · simp only [h, if_true] <;> omega
      · simp only [h, if_false] <;> omega
theorem slicePick_cut (its : List Value) (lo hi : Option Int) : slicePick its.toArray lo hi none = ((its.drop (HT.sIx its.length 0 lo)).take (HT.sIx its.length its.length hi - HT.sIx its.length 0 lo)).toArray := by
  obtain ⟨h1, h2, h3⟩ := slice_bounds lo hi its.toArray.size
  unfold slicePick
  rw [h1, h2, h3]
  simp only [sliceRange_one, pick_run, List.size_toArray] <;> rfl
/-- xs[lo:hi] of a list: a new list -/
def rSlL (K : PySem.W.Frag) : V → Option Int → Option Int → Hp → VK → Prop := fun x lo hi H Q => ∃ a xs, x = .ref a ∧ SqL K H a xs ∧ ∀ p, H p = none → Q (.ref p) (upd H p (.lst (cutV xs lo hi)))
theorem sl_list : SlR X (rSlL X.K) := by
  intro pins s σ H x v vl vu lo hi sl Q I rx hs pl pu h
  obtain ⟨a, xs, rfl, hx, q⟩ := h
  cases rx
  obtain ⟨its, r, ht, hz⟩ := I.list hx
  have hlen := r.length
  refine ⟨"list", _, slot_list_getitem.lookup, ht.isList.typeIs, ?_⟩
  refine wpAny_getItem_list_slice ht.isList hs pl pu .none (by simp) ?_ (by rw [List.size_toArray] <;> omega)
  rw [slicePick_cut, ← hlen]
  refine ⟨.ref s.heap.objs.size, _, I.laid (t' := s.toks) (o := .lst (cutV xs lo hi)) (fun b ob q => Heap.get?_push_of_some _ q) (Nat.le_refl _) ?_, rfl, q _ (I.hok.fresh (Nat.le_refl _))⟩
  exact ⟨Nat.le_trans (cutV_length xs lo hi) hz, _, 0, (r.drop (HT.sIx xs.length 0 lo)).take (HT.sIx xs.length xs.length hi - HT.sIx xs.length 0 lo), Heap.get?_push_size _ rfl⟩

/-! ### in, not in: flat items -/
def flatV : V → Bool
  | .non => true
  | .bl _ => true
  | .int _ => true
  | .str _ => true
  | _ => false
/-- == of flat values -/
def eqV : V → V → Bool
  | .non, .non => true
  | .bl a, .bl b => a == b
  | .bl a, .int b => (if a then 1 else 0) == b
  | .int a, .bl b => a == (if b then 1 else 0)
  | .int a, .int b => a == b
  | .str a, .str b => a == b
  | _, _ => false
theorem eqAt_V {A : Around} {s : Shared} {y x : V} {u v : Value} (ry : RelV y u) (rx : RelV x v) (fy : flatV y = true) (fx : flatV x = true) : SeqAt.EqAt A s u v (eqV y x) := by
  cases y with
  | non =>
    cases ry
    cases x with
    | non => cases rx; exact SeqAt.EqAt.same _
    | bl b => cases rx; exact SeqAt.EqAt.none_bool b
    | int b => obtain ⟨t, rfl⟩ := rx; exact SeqAt.EqAt.none_int b t
    | str b => obtain ⟨t, rfl⟩ := rx; exact SeqAt.EqAt.none_str b t
    | _ => exact absurd (show false = true from fx) Bool.false_ne_true
  | bl a =>
    cases ry
    cases x with
    | non => cases rx; exact SeqAt.EqAt.bool_none a
    | bl b => cases rx; exact SeqAt.EqAt.bool_bool a b
    | int b => obtain ⟨t, rfl⟩ := rx; exact SeqAt.EqAt.bool_int a b t
    | str b => obtain ⟨t, rfl⟩ := rx; exact SeqAt.EqAt.bool_str a b t
    | _ => exact absurd (show false = true from fx) Bool.false_ne_true
  | int a =>
    obtain ⟨t', rfl⟩ := ry
    cases x with
    | non => cases rx; exact SeqAt.EqAt.int_none a t'
    | bl b => cases rx; exact SeqAt.EqAt.int_bool a t' b
    | int b => obtain ⟨t, rfl⟩ := rx; exact SeqAt.EqAt.int_int a t' b t
    | str b => obtain ⟨t, rfl⟩ := rx; exact SeqAt.EqAt.int_str a t' b t
    | _ => exact absurd (show false = true from fx) Bool.false_ne_true
  | str a =>
    obtain ⟨t', rfl⟩ := ry
    cases x with
    | non => cases rx; exact SeqAt.EqAt.str_none a t'
    | bl b => cases rx; exact SeqAt.EqAt.str_bool a t' b
    | int b => obtain ⟨t, rfl⟩ := rx; exact SeqAt.EqAt.str_int a t' b t
    | str b => obtain ⟨t, rfl⟩ := rx; exact SeqAt.EqAt.str_str a t' b t
    | _ => exact absurd (show false = true from fx) Bool.false_ne_true
  | _ => exact absurd (show false = true from fy) Bool.false_ne_true
/-- the items' answers, read off the values (a value's own answer does not lean on its token) -/
def eqU (x : V) (u : Value) : Bool := match u with
  | .none => eqV .non x
  | .bool b => eqV (.bl b) x
  | .int i _ => eqV (.int i) x
  | .str z _ => eqV (.str z) x
  | _ => false
theorem eqU_of {x y : V} {u : Value} (r : RelV y u) (f : flatV y = true) : eqU x u = eqV y x := by
  cases y with
  | non => cases r; rfl
  | bl b => cases r; rfl
  | int i => obtain ⟨t, rfl⟩ := r; rfl
  | str z => obtain ⟨t, rfl⟩ := r; rfl
  | _ => exact absurd (show false = true from f) Bool.false_ne_true
theorem any_eqU {x : V} : ∀ {xs : List V} {us : List Value}, Vals xs us → xs.all flatV = true → us.any (eqU x) = xs.any fun y => eqV y x
  | _, _, .nil, _ => rfl
  | y :: xs, u :: us, .cons r t, f => by
    rw [List.all_cons, Bool.and_eq_true] at f
    rw [List.any_cons, List.any_cons, eqU_of r f.1, any_eqU t f.2]
theorem mem_eqAt {A : Around} {s : Shared} {x : V} {v : Value} (rx : RelV x v) (fx : flatV x = true) : ∀ {xs : List V} {us : List Value}, Vals xs us → xs.all flatV = true → ∀ u ∈ us, SeqAt.EqAt A s u v (eqU x u)
  | _, _, .nil, _ => fun u hu => by cases hu
  | y :: xs, u :: us, .cons r t, f => fun u' hu => by
    rw [List.all_cons, Bool.and_eq_true] at f
    rcases List.mem_cons.mp hu with rfl | hu
    · rw [eqU_of r f.1]; exact eqAt_V r rx f.1 fx
    · exact mem_eqAt rx fx t f.2 u' hu
def inV (x : V) (xs : List V) : Bool := xs.any fun y => eqV y x
/-- x in a list or tuple of flat items -/
def rIn (K : PySem.W.Frag) (neg : Bool) : R2 := fun x y H Q => ∃ p xs, y = .ref p ∧ (SqL K H p xs ∨ SqT K H p xs) ∧ flatV x = true ∧ xs.all flatV = true ∧ Q (.bl (if neg then !inV x xs else inV x xs)) H
theorem op_in_seq : OpR X (compareOp .In) (rIn X.K false) := by
  intro pins s σ H x y v u Q I rx ry h
  obtain ⟨p, xs, rfl, hq, fx, fs, q⟩ := h
  cases ry
  rcases hq with hq | hq
  · obtain ⟨its, r, pl, hz⟩ := I.list hq
    refine SeqAt.in_listAt (eqU x) pl.isList (fun w hw => mem_eqAt rx fx r fs w (by simpa using hw)) ⟨.bl _, H, I, rfl, ?_⟩
    rw [show its.toArray.any (eqU x) = its.any (eqU x) by simp, any_eqU r fs]
    exact q
  · obtain ⟨its, r, pl, hz⟩ := I.tuple hq
    refine SeqAt.in_tupleAt (eqU x) pl (fun w hw => mem_eqAt rx fx r fs w (by simpa using hw)) ⟨.bl _, H, I, rfl, ?_⟩
    rw [show its.toArray.any (eqU x) = its.any (eqU x) by simp, any_eqU r fs]
    exact q
theorem op_notIn_seq : OpR X (compareOp .NotIn) (rIn X.K true) := by
  intro pins s σ H x y v u Q I rx ry h
  obtain ⟨p, xs, rfl, hq, fx, fs, q⟩ := h
  cases ry
  rcases hq with hq | hq
  · obtain ⟨its, r, pl, hz⟩ := I.list hq
    refine SeqAt.notIn_listAt (eqU x) pl.isList (fun w hw => mem_eqAt rx fx r fs w (by simpa using hw)) ⟨.bl _, H, I, rfl, ?_⟩
    rw [show its.toArray.any (eqU x) = its.any (eqU x) by simp, any_eqU r fs]
    exact q
  · obtain ⟨its, r, pl, hz⟩ := I.tuple hq
    refine SeqAt.notIn_tupleAt (eqU x) pl (fun w hw => mem_eqAt rx fx r fs w (by simpa using hw)) ⟨.bl _, H, I, rfl, ?_⟩
    rw [show its.toArray.any (eqU x) = its.any (eqU x) by simp, any_eqU r fs]
    exact q
/-! ### len, list(x), tuple(x) of any list or tuple that is read -/
theorem call_len_seq : CallR X (.builtin "len") (fun xs H Q => ∃ p ys, xs = [.ref p] ∧ (SqL X.K H p ys ∨ SqT X.K H p ys) ∧ Q (.int ys.length) H) := by
  intro pins s σ H xs us Q I r h
  obtain ⟨p, ys, rfl, hq, q⟩ := h
  obtain ⟨u, rfl, rx⟩ := vals1 r
  cases rx
  have hn := line63
  rcases hq with hq | hq
  · obtain ⟨its, r', pl, hz⟩ := I.list hq
    have hlen := r'.length
    exact Calls.call_len_list pl.isList (by simp only [List.size_toArray] <;> omega) ⟨.int ys.length, H, I.tok _, ⟨s.toks + 1, by rw [List.size_toArray, hlen]⟩, q⟩
  · obtain ⟨its, r', pl, hz⟩ := I.tuple hq
    have hlen := r'.length
    exact len_tuple pl (by simp only [List.size_toArray] <;> omega) ⟨.int ys.length, H, I.tok _, ⟨s.toks + 1, by rw [List.size_toArray, hlen]⟩, q⟩
theorem CallR.or {f : Value} {r r' : List V → Hp → VK → Prop} (h : CallR X f r) (h' : CallR X f r') : CallR X f (fun xs H Q => r xs H Q ∨ r' xs H Q) := by
  intro pins s σ H xs us Q I rs q
  rcases q with q | q
  · exact h pins s σ H xs us Q I rs q
  · exact h' pins s σ H xs us Q I rs q
/-! ### the call of a builtin's method: o.m(..) -/
/-- the value is of that builtin type -/
def tyV (K : PySem.W.Frag) (T : String) (x : V) (H : Hp) : Prop := match x with
  | .str _ => T = "str"
  | .int _ => T = "int"
  | .ref p => (T = "list" ∧ ∃ xs, SqL K H p xs) ∨ (T = "tuple" ∧ ∃ o, K.lookup p = some o ∧ o.cls = .type "tuple" ∧ o.dict = none) ∨
      (T = "dict" ∧ ((∃ kvs, H p = some (.dK kvs)) ∨ ∃ kvs, H p = some (.dT kvs))) ∨ (T = "set" ∧ ∃ S n, H p = some (.set S n))
  | _ => False
theorem tyV_is {pins : List (Addr × Obj)} {σ : St} {H : Hp} {s : Shared} {T : String} {x : V} {v : Value} (I : Inv X pins σ H s) (r : RelV x v) (ty : tyV X.K T x H) :
    s.TypeIs v T ∧ ∀ a, v = .ref a → ∃ ob, s.heap.get? a = some ob ∧ ob.dict = none := by
  cases x with
  | str z =>
    obtain ⟨t, rfl⟩ := r
    cases (show T = "str" from ty)
    exact ⟨typeIs_str s z t, fun _ e => nomatch e⟩
  | int i =>
    obtain ⟨t, rfl⟩ := r
    cases (show T = "int" from ty)
    exact ⟨typeIs_int s i t, fun _ e => nomatch e⟩
  | ref p =>
    cases r
    rcases ty with ⟨rfl, xs, hq⟩ | ⟨rfl, o, hk, hc, hd⟩ | ⟨rfl, hk⟩ | ⟨rfl, S, n, hk⟩
    · obtain ⟨its, _, pl, _⟩ := I.list hq
      refine ⟨pl.isList.typeIs, fun a e => ?_⟩
      cases e
      obtain ⟨o, n, e, c, hd, _⟩ := pl
      exact ⟨o, e, hd⟩
    · refine ⟨⟨o, I.kIn p o hk, hc⟩, fun a e => ?_⟩
      cases e
      exact ⟨o, I.kIn _ o hk, hd⟩
    · have z : ∃ o, s.heap.get? p = some o ∧ o.ExactDict := by
        rcases hk with ⟨kvs, hk⟩ | ⟨kvs, hk⟩
        · obtain ⟨_, _, _, _, o, _, _, e, ex, _⟩ := I.hok p _ hk
          exact ⟨o, e, ex⟩
        · obtain ⟨_, _, _, _, o, _, _, e, ex, _⟩ := I.hok p _ hk
          exact ⟨o, e, ex⟩
      obtain ⟨o, e, ex⟩ := z
      refine ⟨⟨o, e, ex.1⟩, fun a e2 => ?_⟩
      cases e2
      exact ⟨o, e, ex.2.1⟩
    · obtain ⟨o, _, _, _, e, ex, _⟩ := I.hok p _ hk
      refine ⟨⟨o, e, ex.1⟩, fun a e2 => ?_⟩
      cases e2
      exact ⟨o, e, ex.2.1⟩
  | _ => exact False.elim ty
def tBM (K : PySem.W.Frag) (T : String) (r : V → List V → Hp → VK → Prop) (to : TE) (t : TA) : TE := fun σ H Q => to σ H fun x H1 => tyV K T x H1 ∧ t σ H1 fun xs H2 => r x xs H2 Q
variable {o e : Expr} {es : List Expr} {to : TE} {t : TA} {name : Str} {apos cpos : Pos} {T id : String} {r : V → List V → Hp → VK → Prop}
theorem pe_bm (pa : PlainAttrs T) (slot : Slot T name id) (hty : typeOf (.builtin id) = pure (.type "method_descriptor")) (hm : MtR X id r) (ho : PE X o to) (ha : PA X (e :: es) t)
    (hbase : attributeBase o name X.env (eval o X.env) = eval o X.env := by rfl)
    (hfew : ((backTo cpos (starEach (e :: es) X.env)).all (fun x => !x.1) && (backToKw cpos (keywordEach [] X.env)).all (fun x => x.1.isSome)
      && decide ((e :: es).length + ([] : List Keyword).length + (if ([] : List Keyword).isEmpty then 0 else 1) < 30)) = true := by rfl)
    (hline : (apos.endLine == cpos.line) = true := by rfl) (hs : starEach (e :: es) X.env = (false, eval e X.env) :: starEach es X.env := by rfl) (hplain : (backTo cpos (starEach es X.env)).any (·.1) = false := by rfl) :
    PE X (.Call (.Attribute o name apos) (e :: es) [] cpos) (tBM X.K T r to t) := by
  intro pins s σ H Q I h
  refine wpAny_Call_method_late hbase hfew hline rfl (thn (ho pins s σ H _ I h) fun v s1 ⟨x, H1, I1, r1, ty, q1⟩ => ?_)
  obtain ⟨h1, h2⟩ := tyV_is I1 r1 ty
  refine ⟨T, id, pa, slot, hty, h1, h2, ?_⟩
  have hA := ha cpos pins s1 σ H1 _ I1 q1
  rw [hs] at hA ⊢
  refine Calls.callWith_builtin (by show (false || (backTo cpos (starEach es X.env)).any (·.1)) = false; rw [hplain] <;> rfl) (Calls.evalArgs_plain ?_)
  exact thn hA fun us s2 ⟨vs, H2, I2, r2, q2⟩ => hm pins s2 σ H2 x vs v us Q I2 r1 r2 q2
/- xs.append(e), list.index on a module's tuple .. are MtR facts of 06m -/
end
end L2

namespace L2
open PySem PySem.Spec PyProof.Rows

def MtM (X : Cx) (id : String) (r : V → List V → Hp → VK → Prop) : Prop :=
  ∀ (pins : List (Addr × Obj)) (s : Shared) (σ : St) (H : Hp) (x : V) (xs : List V) (v : Value) (us : List Value) (Q : VK), Inv X pins σ H s → RelV x v → Vals xs us → r x xs H Q →
    wpAny (model X.prog X.w) X.A (call (.builtin id) (v :: us)) (EP X pins σ Q) X.xe s

/-! ### lists of values -/
theorem Vals.one : ∀ {x : V} {us : List Value}, Vals [x] us → ∃ u, us = [u] ∧ RelV x u
  | _, _, .cons r .nil => ⟨_, rfl, r⟩
theorem Vals.two : ∀ {x y : V} {us : List Value}, Vals [x, y] us → ∃ u v, us = [u, v] ∧ RelV x u ∧ RelV y v
  | _, _, _, .cons r (.cons q .nil) => ⟨_, _, rfl, r, q⟩
theorem Vals.zero : ∀ {us : List Value}, Vals [] us → us = []
  | _, .nil => rfl
theorem Vals.reverse {xs : List V} {us : List Value} (h : Vals xs us) : Vals xs.reverse us.reverse := by
  induction h with
  | nil => exact .nil
  | cons r t ih => rw [List.reverse_cons, List.reverse_cons]; exact Vals.append ih (.cons r .nil)
section
variable {X : Cx} {pins : List (Addr × Obj)} {σ : St} {H : Hp} {s : Shared} {l b : Addr} {xs ys zs : List V}

/-! ### the two steps: a tracked list is rewritten, a new list is laid -/
theorem Inv.lset {its its' : List Value} {n : Nat} {f : Array Value → Array Value} {t' : Nat} (I : Inv X pins σ H s) (hH : H l = some (.lst xs))
    (e : s.heap.get? l = some { cls := .type "list", data := .seq its.toArray n }) (hf : f its.toArray = its'.toArray) (hv : Vals ys its') (hz : ys.length ≤ sizeLine) :
    Inv X pins σ (upd H l (.lst ys)) { s with heap := s.heap.update l (Obj.mapSeq f), toks := t' } := by
  have q := PySem.IsL.update e f
  rw [hf] at q
  refine I.write (x := l) (e := l) (by rw [hH]; exact trivial) (.inl rfl) (fun b' u hb hu => (Heap.get?_update_other s.heap (Obj.mapSeq f) (Ne.symm hb)).trans hu) ⟨_, q⟩ ?_
  exact ⟨hz, its', _, hv, q⟩
theorem Inv.lnew {its : List Value} {t' : Nat} (I : Inv X pins σ H s) (hv : Vals ys its) (hz : ys.length ≤ sizeLine) :
    Inv X pins σ (upd H s.heap.objs.size (.lst ys)) { s with heap := s.heap.push { cls := .type "list", data := .seq its.toArray }, toks := t' } :=
  I.laid (fun _ _ q => Heap.get?_push_of_some _ q) (Nat.le_refl _) ⟨hz, its, 0, hv, Heap.get?_push_size _ rfl⟩
theorem Inv.fresh (I : Inv X pins σ H s) : H s.heap.objs.size = none := I.hok.fresh (Nat.le_refl _)
theorem Inv.lstM (I : Inv X pins σ H s) (hH : H l = some (.lst xs)) : xs.length ≤ sizeLine ∧ ∃ (its : List Value) (n : Nat), Vals xs its ∧ xs.length = its.length ∧ s.heap.get? l = some { cls := .type "list", data := .seq its.toArray n } := by
  obtain ⟨z, its, n, r, e⟩ := I.hok l _ hH
  exact ⟨z, its, n, r, r.length, e⟩

end

section
variable {X : Cx}

/-! ### methods -/
def rAppend : V → List V → Hp → VK → Prop := fun x vs H Q => ∃ l xs y, x = .ref l ∧ vs = [y] ∧ H l = some (.lst xs) ∧ xs.length < sizeLine ∧ Q .non (upd H l (.lst (xs ++ [y])))
theorem mt_append : MtM X "list.append" rAppend := by
  intro pins s σ H x vs v us Q I rx rv h
  obtain ⟨l, xs, y, rfl, rfl, hH, hz, q⟩ := h
  cases rx
  obtain ⟨u, rfl, ru⟩ := rv.one
  obtain ⟨z, its, n, r, hl, e⟩ := I.lstM hH
  refine call_meets F.slot_list_append ⟨_, e, rfl⟩ F.entry_list_append (F.args_list_append_2 _ _) (PySem.list_append l its.toArray n u (by rw [List.size_toArray]; omega)) ⟨e, ?_⟩
  refine ⟨.non, _, I.lset (its' := its ++ [u]) hH e (by simp) (r.append (.cons ru .nil)) ?_, rfl, q⟩
  rw [List.length_append, List.length_singleton]
  omega

/-! ### list + list, list += list, list * int -/
def rCat : R2 := fun x y H Q => ∃ l b xs zs, x = .ref l ∧ y = .ref b ∧ H l = some (.lst xs) ∧ H b = some (.lst zs) ∧ xs.length + zs.length ≤ sizeLine ∧ ∀ p, H p = none → Q (.ref p) (upd H p (.lst (xs ++ zs)))
theorem op_cat : OpR X (binaryOp .Add) rCat := by
  intro pins s σ H x y v u Q I rx ry h
  obtain ⟨l, b, xs, zs, rfl, rfl, hH, hB, hz, q⟩ := h
  cases rx
  cases ry
  obtain ⟨z, its, n, r, hl, e⟩ := I.lstM hH
  obtain ⟨z2, its2, n2, r2, hl2, e2⟩ := I.lstM hB
  refine PySem.P.add_list e e2 ?_ (by rw [List.size_toArray, List.size_toArray]; omega)
  have ea : its.toArray ++ its2.toArray = (its ++ its2).toArray := by simp
  rw [ea]
  exact ⟨.ref _, _, I.lnew (t' := s.toks) (r.append r2) (by rw [List.length_append]; omega), rfl, q _ I.fresh⟩
theorem len_rep {α : Type} (xs : List α) (k : Nat) : (List.replicate k xs).flatten.length = k * xs.length := by
  induction k with
  | zero => simp
  | succ k ih => rw [List.replicate_succ, List.flatten_cons, List.length_append, ih, Nat.succ_mul, Nat.add_comm]
end

/-! ### xs[a:b] = ys -/
section
variable {prog : Program} {w : World} {A : Around} {E : Value → Shared → Prop} {s : Shared}
set_option maxRecDepth 100000 in
end

section
variable {X : Cx}
end
end L2

namespace Att
open PySem PySem.W PySem.Calls PyProof.Rows

/-! ### the script -/
theorem ints_of_wellAll {P : Params} {h : Heap} : ∀ (ns : List Int) (vs : List Value), WellAll P h vs (ns.map WData.int) → IntsAre vs ns := by
  intro ns
  induction ns with
  | nil =>
    intro vs w
    rw [List.map_nil] at w
    cases w
    exact .nil
  | cons n ns ih =>
    intro vs w
    rw [List.map_cons] at w
    cases w with
    | cons a b =>
      cases a
      exact .cons _ _ (ih _ b)

theorem script_of {l : OpenLaw} {n : Nat} (hn : l.most = some n) {P : Params} {h : Heap} {args : List WData} {vals : List Value}
    (hpre : l.row.toRowW.claim.pre args = true) (hwl : WellAll P h vals args) :
    ∃ a vs ns, vals = [Value.ref a] ∧ args = [WData.list (ns.map WData.int)] ∧ h.get? a = some { cls := .type "list", data := .seq vs.toArray } ∧ IntsAre vs ns ∧ ns.length ≤ n := by
  have hsh : WShape.hasAll [] args [.list .int] = true := (pre_splitW hpre).1
  have hc : l.pre.holds [] { args := args } = true := (pre_splitW hpre).2
  obtain ⟨d, r, rfl, h1, h2⟩ := hasAllW_cons hsh
  obtain rfl := hasAllW_nil h2
  obtain ⟨xs, rfl, h3⟩ := hasW_list h1
  obtain ⟨ns, rfl⟩ := items_int h3
  have hlen : ns.length ≤ n := by
    unfold OpenLaw.pre at hc
    have h4 : (WTm.not (.lt (.lit (.int (n : Int))) (.len (.arg 0)))).holds [] { args := [.list (ns.map .int)] } = true := by
      have h4 := (holds_andW hc).1
      rw [hn] at h4
      exact h4
    have h5 := condW_of h4 (w_not (w_lt w_lit (w_len_list (w_arg rfl))))
    rw [List.length_map] at h5
    refine Nat.le_of_not_lt fun q => ?_
    have q' : (n : Int) < ((ns.length : Nat) : Int) := by omega
    first
      | (rw [decide_eq_true q'] at h5; exact absurd h5 (by decide))
      | (simp at h5; omega)
  cases hwl with
  | cons w1 w2 =>
    cases w2
    cases w1 with
    | list ho hall => exact ⟨_, _, ns, rfl, rfl, ho, ints_of_wellAll ns _ hall, hlen⟩

theorem post_true (l : OpenLaw) (args : List WData) : l.row.toRowW.claim.post args (.bool true) args = true :=
  postW_of (r := l.row.toRowW) (X := (true == true))
    (show WShape.has [] (.bool true) .bool = true by first | rfl | decide | simp [WShape.has, WShape.arms, WShape.armsAll])
    (show (WTm.eq .res (.lit (.bool true))).value [] { args := args, res := some (.bool true), after := args } = some (.bool (true == true)) from w_eq_bool (w_res rfl) w_lit) rfl

/-- the same from a codeAny of the CALL (for a layer whose function contracts speak of calls) -/
theorem attach_call {l : OpenLaw} {n : Nat} {q : Program} {loose : List Str} {XP : (Str → Option Value) → Heap → Prop} {YP : World → Heap → Prop} {d : DefRec}
    (hn : l.most = some n) (hdf : d.params.defaults = [])
    (call : ∀ (w : World) (s₀ s₁ : Shared) (mg mb : Str → Option Value) (fa : Addr) (o : Obj) (pm cd doc : Value) (a : Addr) (vs : List Value) (ns : List Int),
      Ground q loose [] XP w s₀ mg mb s₁.heap → YP w s₁.heap →
      s₁.heap.get? fa = some o → o.data = .func (docDef d.name d.params d.body d.scope pm cd doc) → s₁.heap.CodeRec cd d.name → mg d.name = some (.ref fa) →
      s₁.heap.get? a = some { cls := .type "list", data := .seq vs.toArray } → IntsAre vs ns → ns.length ≤ n → s₁.gens = #[] →
      codeAny (model l.prog w) callerA (.call (.ref fa) ⟨[.ref a], []⟩) (fun r s' => r = .ok (.ret (.bool true)) ∧ OldK s₁.heap s'.heap ∧ s'.os = s₁.os ∧ AllBare s'.gens) s₁) :
    WalkO q loose XP YP l.row.toRowW d [] (fun f vs => PySem.call f vs) := by
  intro w s₀ s₁ mg mb G Y fa o pm cd doc dV kV ho hd hcd hD hmg hg args vals as hpre hlay hrd hwl hlo
  obtain rfl : dV = .none := Dflts.none hD hdf
  obtain rfl : kV = .none := Dflts.noKw hD
  obtain ⟨a, vs, ns, rfl, rfl, hobj, hints, hlen⟩ := script_of hn hpre hwl
  refine enter_call (codeAny_mono (call w s₀ s₁ mg mb fa o pm cd doc a vs ns G Y ho (fd_plain hd) hcd hmg hobj hints hlen hg) fun r s' hq => ?_)
  obtain ⟨rfl, h2, h3, h4⟩ := hq
  exact ⟨.inl ⟨.bool true, .bool true, [], rfl, fun _ => rfl, .bool true, post_true l _, fun _ => ⟨List.Pairwise.nil, fun _ hm => (nomatch hm)⟩⟩, h2, h3, h4⟩

/-! ### rules over ANY heap (no ledger) from facts about the written part K: the library's own take a ledger (News) for what they write -/
section
variable {prog : Program} {w : World} {A : Around} {E : Value → Shared → Prop} {s : Shared} {K : Frag}

def ledger (h : Heap) (L d : Addr) : List (Addr × Obj) := (List.range h.objs.size).filterMap fun a => if a = L ∨ a = d then none else (h.get? a).map fun o => (a, o)
end
end Att

namespace L2
open PySem PySem.Spec PyProof.Rows

theorem vals_ints : ∀ {vs : List Value} {ns : List Int}, IntsAre vs ns → Vals (ns.map V.int) vs
  | _, _, .nil => .nil
  | _, _, .cons n t h => .cons ⟨t, rfl⟩ (vals_ints h)

/-- nothing is tracked but the script, known to the object (or it is an object of the module) -/
def Only (H : Hp) : Prop := ∀ b, H b = none ∨ ∃ o xs, H b = some (.frz o (.lst xs))

/-- THE HEAD: the law's promise, at the heap behind the top. F, the promise of the law's def, may use that base is part of the heap (so K.In base, base.Ns mainGlobals mg stand in Mod) -/
theorem law_call {P : Program} {w : World} {K : PySem.W.Frag} {mg mb : Str → Option Value} {CX : CXT} {k : Nat} {fa a : Addr} {fd : FuncData} {x : Str} {sp : Sp} {s₁ : Shared} {vs : List Value} {ns : List Int}
    (KX : K.In s₁.heap) (hns : s₁.heap.Ns mainGlobals mg) (hb : s₁.heap.Ns builtinsNs mb) (hbb : ∀ x : Str, x ≠ "__name__" → mb x = bootBuiltins x) (hlim : s₁.heap.NoLimit) (hg : s₁.gens = #[])
    (ha : s₁.heap.get? a = some { cls := .type "list", data := .seq vs.toArray }) (hi : IntsAre vs ns) (hl : ns.length ≤ sizeLine) (hr : Room k callerA)
    (F : ∀ base : Heap, K.In base → base.Ns mainGlobals mg → FnOk P w K mg base CX k fa fd [x] sp) (hbind : ∀ (s : Shared) (u : Value), BindsTo s fd ⟨[u], []⟩ [(x, u)])
    (hsp : ∀ H : Hp, Only H → SqL K H a (ns.map V.int) → sp [.ref a] H (fun v _ => v = .bl true) fun _ _ _ => False)
    (hCX : ∀ H e s', CX [] H s₁ (fun _ _ _ => False) e s' → False) :
    codeAny (model P w) callerA (.call (.ref fa) ⟨[.ref a], []⟩) (fun r s' => r = .ok (.ret (.bool true)) ∧ OldK s₁.heap s'.heap ∧ s'.os = s₁.os ∧ AllBare s'.gens) s₁ := by
  have rv := vals_ints hi
  have lenV := hi.length
  -- from an abstract heap in which nothing but the script may be tracked
  have core : ∀ H : Hp, Only H → SqL K H a (ns.map V.int) → HOk P w H s₁.heap → (∀ b, H b ≠ none → b = a) → (H a ≠ none → K.lookup a = none) →
      codeAny (model P w) callerA (.call (.ref fa) ⟨[.ref a], []⟩) (fun r s' => r = .ok (.ret (.bool true)) ∧ OldK s₁.heap s'.heap ∧ s'.os = s₁.os ∧ AllBare s'.gens) s₁ := by
    intro H hO hS hok hA hK
    have base_of : ∀ {b : Addr} {o : Obj}, s₁.heap.get? b = some o → H b = none → (hidT s₁.heap H).get? b = some o := fun e n => hidT_get e n
    have noA : ∀ {b : Addr} {o : Obj} {es : Array DictEntry} {ep : Nat}, s₁.heap.get? b = some o → o.data = .dict es ep → H b = none := fun {b o es ep} e d => by
      cases q : H b with
      | none => rfl
      | some u =>
        have e' : b = a := hA b (by rw [q]; simp)
        subst e'
        rw [ha] at e; cases e
        have d' : Data.seq vs.toArray _ = Data.dict es ep := d
        cases d'
    have nsK : ∀ {b : Addr} {m : Str → Option Value}, s₁.heap.Ns b m → (hidT s₁.heap H).Ns b m := fun {b m} ⟨o, es, ep, e, d, r⟩ => ⟨o, es, ep, base_of e (noA e d), d, r⟩
    have hKb : K.In (hidT s₁.heap H) := fun b o e => base_of (KX b o e) (by
      cases q : H b with
      | none => rfl
      | some u =>
        have e' : b = a := hA b (by rw [q]; simp)
        subst e'
        rw [hK (by rw [q]; simp)] at e; cases e)
    have hM : Mod K mg (hidT s₁.heap H) := ⟨hKb, nsK hns, ⟨mb, nsK hb, hbb⟩, let ⟨mc, h1, h2⟩ := hlim; ⟨mc, nsK h1, h2⟩⟩
    have e0 : Env0 P w K mg (hidT s₁.heap H) callerA [] s₁ H := ⟨rfl, hM, fun b o e => of_hidT e, Nat.le_of_eq (hidT_size _ _), trivial, fun b hb => absurd (show b ∈ ([] : List Addr) from hb) (by simp), hok, .of_eq hg⟩
    refine codeAny_mono ((F _ hKb (nsK hns)).run callerA [] s₁ H ⟨[.ref a], []⟩ [.ref a] [.ref a] _ _ hr e0 (hbind s₁ (.ref a)) (.cons rfl .nil) (hsp H hO hS)) fun r s' h => ?_
    cases r with
    | error e => exact (hCX H e s' h).elim
    | ok fl =>
      cases fl with
      | next => exact False.elim h
      | brk => exact False.elim h
      | cont => exact False.elim h
      | ret u =>
        obtain ⟨v, H', os, bare, un, hok', r', q⟩ := h
        have q' : v = .bl true := q
        subst q'
        obtain rfl : u = Value.bool true := r'
        refine ⟨rfl, OldK.of_keep fun b o e => ?_, os, bare⟩
        cases q : H b with
        | none => exact un.keep b o e q (by intro z; exact absurd (show b ∈ ([] : List Addr) from z) (by simp)) (by simp)
        | some u =>
          rcases hO b with z | ⟨ob, xs, z⟩
          · rw [q] at z; cases z
          · have z2 := un.frzs b ob _ z
            obtain ⟨e1, _⟩ := hok b _ z
            obtain ⟨e2, _⟩ := hok' b _ z2
            rw [e] at e1; cases e1
            exact e2
  cases hk : K.lookup a with
  | some o =>
    -- the script is one of the module's own objects
    have e := KX a o hk
    rw [ha] at e
    cases e
    refine core (fun _ => none) (fun _ => .inl rfl) (.inr ⟨_, vs.toArray, _, hk, rfl, rfl, rfl, by rw [List.size_toArray, lenV]; exact hl, by simpa using rv⟩) (fun b u z => by have z' : (none : Option HO) = some u := z; cases z') (fun b z => absurd rfl z) fun z => absurd rfl z
  | none =>
    refine core (fun b => if b = a then some (.frz { cls := .type "list", data := .seq vs.toArray } (.lst (ns.map V.int))) else none) (fun b => ?_) (.inl (.inr ⟨{ cls := .type "list", data := .seq vs.toArray }, if_pos rfl⟩)) (fun b u z => ?_) (fun b z => ?_) fun _ => hk
    · by_cases hb : b = a
      · exact .inr ⟨_, _, if_pos hb⟩
      · exact .inl (if_neg hb)
    · by_cases hb : b = a
      · have z' := (if_pos hb).symm.trans z
        cases z'
        subst hb
        exact ⟨ha, by rw [List.length_map]; exact hl, vs, _, rv, ha⟩
      · have z' := (if_neg hb).symm.trans z
        cases z'
    · by_cases hb : b = a
      · exact hb
      · exact absurd (if_neg hb) z
end L2

namespace L2
open PySem PySem.Spec PyProof.Rows

abbrev KOf {K : PySem.W.Frag} {h : Heap} (_ : K.In h) : PySem.W.Frag := K

/-- the goal that k_head leaves (case hc), from the law's promise. F gives the function object fd (K's own) once, then the promise over every base -/
theorem walk_of {l : PySem.W.OpenLaw} {n k : Nat} {q : Program} {loose : List Str} {XP : (Str → Option Value) → Heap → Prop} {YP : World → Heap → Prop} {d : DefRec} {K : Params → PySem.W.Frag} {CX : World → CXT} {sp : World → Sp} {x : Str}
    (hn : l.most = some n) (hn2 : n ≤ sizeLine) (hdf : d.params.defaults = []) (hr : Room k callerA)
    (hY : ∀ (w : World) (h : Heap), YP w h → (K w.params).In h)
    (F : ∀ (w : World) (mg : Str → Option Value) (fa : Addr) (h : Heap), (K w.params).In h → h.Ns mainGlobals mg → mg d.name = some (.ref fa) →
      ∃ fd : FuncData, (∀ (s : Shared) (u : Value), BindsTo s fd ⟨[u], []⟩ [(x, u)]) ∧
        ∀ base : Heap, (K w.params).In base → base.Ns mainGlobals mg → FnOk l.prog w (K w.params) mg base (CX w) k fa fd [x] (sp w))
    (hsp : ∀ (w : World) (H : Hp) (a : Addr) (ns : List Int), ns.length ≤ n → Only H → SqL (K w.params) H a (ns.map V.int) → sp w [.ref a] H (fun v _ => v = .bl true) fun _ _ _ => False)
    (hCX : ∀ (w : World) (H : Hp) (s : Shared) (e : Value) (s' : Shared), CX w [] H s (fun _ _ _ => False) e s' → False) :
    PySem.W.WalkO q loose XP YP l.row.toRowW d [] (fun f vs => PySem.call f vs) := by
  refine Att.attach_call hn hdf fun w s₀ s₁ mg mb fa o pm cd doc a vs ns G Y ho hd hcd hmg hobj hints hlen hg => ?_
  have KX := hY w _ Y
  obtain ⟨fd, hb, hF⟩ := F w mg fa _ KX G.T.g hmg
  exact law_call KX G.T.g G.T.b G.T.builtins G.T.nolimit hg hobj hints (Nat.le_trans hlen hn2) hr hF hb (fun H hO hS => hsp w H a ns hlen hO hS) fun H e s' => hCX w H s₁ e s'
end L2

/- THE LAST THEOREM (shape; LID, My.* are yours):
   My.Adr: a structure of the addresses that your layer names (classes, functions); My.Txt K t: a structure (Prop) of the equations over K;
   My.txt_mk : {K} {implicit addresses ..} (e1 : nsIn K mainGlobals "law" = some (some (.ref f))) (e2 : K.lookup f = some ⟨oc, od, .func (fnOf "law" "law" params body scope dV kV doc pm an cdv ct), sl⟩) (e3 : codeIn K cdv "law" = true) .. : ∃ t, My.Txt K t

set_option maxRecDepth 100000 in
set_option maxHeartbeats 0 in
theorem PySem.Challenge.cw_LID_holds : PySem.Challenge.rw_LID.Holds := by
  w_on; o_law; k_head; (case hw => w_witness2)
  k_fill
  refine L2.walk_of (l := PySem.Challenge.rw_LID) (n := 63) (k := 40) (x := "script") (CX := fun w => ..) (sp := fun _ => My.sp_law) rfl (by decide) rfl ⟨rfl, by decide, by decide⟩ (fun w h Y => PySem.W.kIn_of Y) ?F ?S ?C
  case F =>
    intro w mg fa h KX G hmg
    have T : ∃ t, My.Txt (L2.KOf KX) t := by
      dsimp only [L2.KOf]                          -- K must stand as «<heap const> w.params» for k_is
      refine' My.txt_mk ?e1 ?e2 ?e3 ..
      (case e1 => PySem.W.k_is)                    -- in the order: a name -> its address -> its object -> its parts
      (case e2 => PySem.W.k_is)
      ..
    obtain ⟨t, T⟩ := T
    have e0 := hmg.symm.trans (PySem.W.mg_of KX G T.law)
    cases e0                                       -- fa is the law's own address
    exact ⟨_, fun s u => .of_eq rfl, fun base kb nb => My.law_fn T kb nb⟩     -- if «.of_eq rfl» comes too early: refine' ⟨_, ?b, fun base kb nb => My.law_fn T kb nb⟩; exact fun s u => .of_eq rfl
  case S => exact fun w H a ns hl hO hS => ..
  case C => exact ..
(the tactic k_is has no namespace: write k_is) -/

/-! SHORT WORDS over the layer: a def of the text, its body, what a loop and a test want. -/
namespace L2
open PySem PySem.Spec PyProof.Rows

/-! ### the text by places -/
/-- the j-th statement of a class's body -/
def inClass (s : Stmt) (j : Nat) : Stmt := match s with
  | .ClassDef _ _ _ body _ _ _ _ _ _ _ => body.getD j (.Pass ⟨0, 0, 0, 0⟩)
  | _ => .Pass ⟨0, 0, 0, 0⟩
def defArgs (s : Stmt) : Arguments := match s with
  | .FunctionDef _ a _ _ _ _ _ _ _ _ => a
  | _ => { posonlyargs := [], args := [], vararg := none, kwonlyargs := [], kw_defaults := [], kwarg := none, defaults := [] }
def defBody (s : Stmt) : List Stmt := match s with
  | .FunctionDef _ _ b _ _ _ _ _ _ _ => b
  | _ => []
def defScope (s : Stmt) : Scope := match s with
  | .FunctionDef _ _ _ _ _ _ sc _ _ _ => sc
  | _ => { kind := .function, names := [], isGenerator := false, isCoroutine := false }

/-! ### no exception leaves a def -/
abbrev CX0 : CXT := fun _ _ _ _ _ _ => False
abbrev E0 : XK := fun _ _ _ => False
theorem pass0 {X : Cx} : Passes CX0 X E0 := fun _ _ _ _ _ _ _ h => h.elim

/-! ### a def (or method) of the text as it stands behind the top -/
structure Fun (K : PySem.W.Frag) (x qual : Str) (st : Stmt) (f : Addr) (fd : FuncData) : Prop where
  ex : ∃ (oc : Value) (od : Option Addr) (kV doc pm : Value) (an : Option Addr) (cdv ct : Value) (osl : Array (Option Value)),
    fd = PySem.W.fnOf x qual (defArgs st) (defBody st) (defScope st) .none kV doc pm an cdv ct ∧ K.lookup f = some ⟨oc, od, .func fd, osl⟩ ∧ PySem.W.codeIn K cdv qual = true
  kp : PySem.W.keepIn K (.ref f) = true
section
variable {P : Program} {w : World} {K : PySem.W.Frag} {mg : Str → Option Value} {base : Heap}
/-- THE RULE for a def: its body as a term of rules, and the reading of that term -/
theorem Fun.ok {x qual : Str} {st : Stmt} {f : Addr} {fd : FuncData} {N ps : List Str} {k : Nat} {sp : Sp} (F : Fun K x qual st f fd) (S : FnScope N ps (defScope st)) (len : ∀ vs H Q E, sp vs H Q E → vs.length = ps.length)
    (hbody : ∀ (cdv : Value) (A : Around) (outer : List Env) (s : Shared) (H : Hp) (vs : List V) (Q : VK) (E : XK), Room k (A.deeper (envOfC qual (defScope st) s.heap.objs.size f cdv)) → sp vs H Q E →
      ∃ t, PSs (cxOf CX0 P w K mg base N qual (defScope st) f cdv A outer s H E).nox (defBody st) t ∧ t { nx := fun _ H' => Q .non H', rt := Q } (start N vs) H) : FnOk P w K mg base CX0 (k + 1) f fd ps sp := by
  obtain ⟨oc, od, kV, doc, pm, an, cdv, ct, osl, rfl, lk, hcd⟩ := F.ex
  refine fn_of lk hcd S len fun A outer s H vs Q E hr hsp => ?_
  obtain ⟨t, h, q⟩ := hbody cdv A outer s H vs Q E hr hsp
  exact ⟨t, h.nox, q⟩
/-- how its arguments bind (no defaults): h is «fun _ _ _ _ _ _ us hl => match us, hl with | [_, _], _ => rfl», one _ a parameter -/
theorem Fun.binds {x qual : Str} {st : Stmt} {f : Addr} {fd : FuncData} {ps : List Str} (F : Fun K x qual st f fd)
    (h : ∀ (kV doc pm : Value) (an : Option Addr) (cdv ct : Value) (us : List Value), us.length = ps.length → bindArgs (PySem.W.fnOf x qual (defArgs st) (defBody st) (defScope st) .none kV doc pm an cdv ct) ⟨us, []⟩ = pure (ps.zip us)) : Binds K fd ps [] := by
  obtain ⟨oc, od, kV, doc, pm, an, cdv, ct, osl, rfl, lk, hcd⟩ := F.ex
  exact .all (h kV doc pm an cdv ct)
theorem fun_mk {x qual : Str} {st : Stmt} {f : Addr} {oc : Value} {od an : Option Addr} {osl : Array (Option Value)} {kV doc pm cdv ct : Value} (l : K.lookup f = some ⟨oc, od, .func (PySem.W.fnOf x qual (defArgs st) (defBody st) (defScope st) .none kV doc pm an cdv ct), osl⟩)
    (c : PySem.W.codeIn K cdv qual = true) (k : PySem.W.keepIn K (.ref f) = true) : Fun K x qual st f (PySem.W.fnOf x qual (defArgs st) (defBody st) (defScope st) .none kV doc pm an cdv ct) := ⟨⟨oc, od, kV, doc, pm, an, cdv, ct, osl, rfl, l, c⟩, k⟩
end
theorem small1000 {n : Nat} (h : n ≤ 1000) : n < sizeLine := Nat.lt_of_le_of_lt h (by decide)

/-! ### expressions in short: the name that stands in the i-th slot -/
section
variable {X : Cx}
theorem pv (i : Nat) {x : Str} {pos : Pos} (hN : X.N[i]? = some x := by rfl) (hv : Vis X.env.scope x := by first | exact Or.inl rfl | exact Or.inr (Or.inl rfl) | exact Or.inr (Or.inr rfl)) (hd : (x == ("__debug__" : Str)) = false := by decide)
    (hcd : (x == ("__classdict__" : Str)) = false := by decide) : PE X (.Name x pos) (tVar i) := pe_var hN hv hd hcd
end

/-! ### tests -/
theorem iteF {A B : Prop} (h : B) : if false = true then A else B := by
  rw [if_neg Bool.false_ne_true]
  exact h
theorem iteT {A B : Prop} (h : A) : if true = true then A else B := by
  rw [if_pos rfl]
  exact h
/-! ### heaps -/
/-- all that was tracked is as it was -/
def Same (H H' : Hp) : Prop := ∀ b o, H b = some o → H' b = some o
theorem Same.refl (H : Hp) : Same H H := fun _ _ h => h
theorem Same.trans {H H1 H2 : Hp} (a : Same H H1) (b : Same H1 H2) : Same H H2 := fun c o h => b c o (a c o h)
theorem Same.free {H H' : Hp} (e : Same H H') {l : Addr} (h : H' l = Option.none) : H l = Option.none := by
  cases q : H l with
  | none => rfl
  | some o =>
    rw [e l o q] at h
    cases h
theorem Same.seq {K : PySem.W.Frag} {H H' : Hp} {a : Addr} {xs : List V} (e : Same H H') (h : SqL K H a xs) : SqL K H' a xs := by
  rcases h with (h | ⟨o, h⟩) | h
  · exact .inl (.inl (e _ _ h))
  · exact .inl (.inr ⟨o, e _ _ h⟩)
  · exact .inr h

end L2
set_option Elab.async false
set_option linter.all false
set_option maxRecDepth 100000
set_option maxHeartbeats 4000000
/-! exceptions on their way: what noteFrame, setFlight, leaving do to the heap -/
namespace L2
open PySem PySem.Spec PyProof.Rows

/-- an exception's object: its class, its arguments' tuple, its dict, its traceback -/
abbrev ExcO (C : Value) (t : Addr) (dd : Option Addr) (tb : Value) : Obj :=
  { cls := C, dict := dd, data := .fields #[.ref t, tb, .none, .none, .bool false, .none] }
/-- behind a step of the flight: all but the frames' slots, the exception and its old entry is as it was -/
structure Noted (fs : List Addr) (h h' : Heap) (a : Addr) (C : Value) (t : Addr) (dd : Option Addr) (T : Addr) (fl : Value) : Prop where
  keep : ∀ b o, b ∉ fs → b ≠ a → h.get? b = some o → h'.get? b = some o
  slot : ∀ b o, b ≠ a → h.get? b = some o → ∃ sl, h'.get? b = some { o with slots := sl }
  new : h.get? T = none
  ne : T ≠ a
  exc : h'.get? a = some (ExcO C t dd (.ref T))
  tbk : ∃ oT ts, h'.get? T = some oT ∧ oT.data = .fields ts ∧ ts[3]? = some fl

section
variable {M : Model} {A : Around} {E : Value → Shared → Prop} {s : Shared} {base : Heap} {env : Env} {outer : List Env} {L a t : Addr} {C : Value} {dd : Option Addr} {tb : Value} {Q : Unit → Shared → Prop}

theorem nofr_of {oa : Obj} {vs : Array Value} {l : List Env} (hl : s.heap.FunFrames base l) (ha : s.heap.get? a = some oa) (hd : oa.data = .fields vs) : a ∉ l.filterMap (·.frame) := by
  intro hm
  obtain ⟨_, o, ho, hn⟩ := hl.mem hm
  rw [ha] at ho
  cases ho
  exact hn vs hd

theorem entry_x {head : Value} {hn : Bool} (hfr : A.frames = some (env :: outer)) (hl : s.heap.FunFrames base (env :: outer)) (hf : env.frame = some L)
    (ha : s.heap.get? a = some (ExcO C t dd tb))
    (h : ∀ h' T, Noted ((env :: outer).filterMap (·.frame)) s.heap h' a C t dd T (rawInt L) → Q () { s with heap := h' }) :
    wpAny M A (do
      let x ← frameOf env
      let pl ← entryPlaceOf L hn
      let b ← EntryCells.newEntry head x .none (rawInt L) .none pl
      setField (.ref a) 1 b) Q E s := by
  have na := nofr_of hl ha rfl
  refine wpAny_bind (wpAny_frameOf_fun hfr hl hf fun g hg => ?_)
  refine wpAny_bind (wpAny_entryPlaceOf fun pl hpl => ?_)
  unfold EntryCells.newEntry newFields
  refine wpAny_bind (wpAny_newObj_type ?_ (hpl.sizeOk5 _ _ _ _ _))
  have a1 : g.get? a = some (ExcO C t dd tb) := (hg.2.1 a na).trans ha
  have a2 := fun (z : Obj) => Heap.get?_push_of_some (h := g) z a1
  have nT : g.objs.size ≠ a := Nat.ne_of_gt (Heap.lt_size a1)
  refine wpAny_setField (a2 _) rfl (by show 1 < 6; decide) (h _ g.objs.size ?_)
  have up : ∀ (z : Obj) (f : Obj → Obj) b o, b ≠ a → g.get? b = some o → ((g.push z).update a f).get? b = some o := by
    intro z f b o hb e
    rw [Heap.get?_update_other _ _ (Ne.symm hb)]
    exact Heap.get?_push_of_some _ e
  refine ⟨fun b o hb hba e => up _ _ b o hba ((hg.2.1 b hb).trans e), fun b o hba e => ?_, ?_, nT, ?_, ?_⟩
  · obtain ⟨sl, e1⟩ := hg.2.2 b o e
    exact ⟨sl, up _ _ b _ hba e1⟩
  · refine Heap.get?_none_of_le ?_
    rw [hg.1]
    exact Nat.le_refl _
  · exact Heap.get?_update_self _ (a2 _) rfl
  · refine ⟨_, _, (Heap.get?_update_other _ _ (Ne.symm nT)).trans (Heap.get?_push_size _ rfl), rfl, ?_⟩
    first
      | (simp; done)
      | (rcases hpl with rfl | ⟨_, _, _, _, _, _, _, rfl⟩ <;> simp)

/-- the traceback of a flying exception: none yet, or one that is not here -/
def TbOk (h : Heap) (a : Addr) (tb : Value) : Prop := tb = .none ∨ ∃ T oT ts, tb = .ref T ∧ T ≠ a ∧ h.get? T = some oT ∧ oT.data = .fields ts ∧ ts[3]? = some .none

theorem note_x (hfr : A.frames = some (env :: outer)) (hl : s.heap.FunFrames base (env :: outer)) (hf : env.frame = some L)
    (ha : s.heap.get? a = some (ExcO C t dd tb)) (ht : TbOk s.heap a tb)
    (h : ∀ h' T, (∀ b o, b ∉ (env :: outer).filterMap (·.frame) → b ≠ a → tb ≠ .ref b → s.heap.get? b = some o → h'.get? b = some o) →
      (∀ b o, b ≠ a → tb ≠ .ref b → s.heap.get? b = some o → ∃ sl, h'.get? b = some { o with slots := sl }) → s.heap.get? T = none → T ≠ a →
      h'.get? a = some (ExcO C t dd (.ref T)) → (∃ oT ts, h'.get? T = some oT ∧ oT.data = .fields ts ∧ ts[3]? = some (rawInt L)) → Q () { s with heap := h' }) :
    wpAny M A (noteFrame (.ref a) env) Q E s := by
  unfold noteFrame
  simp only [hf]
  refine wpAny_bind (wpAny_field ha rfl (x := tb) rfl ?_)
  rcases ht with rfl | ⟨T, oT, ts, rfl, nT, hT, dT, h3⟩
  · rw [if_neg (by decide)]
    refine entry_x hfr hl hf ha fun h' T N => ?_
    exact h h' T (fun b o hb hba _ e => N.keep b o hb hba e) (fun b o hba _ e => N.slot b o hba e) N.new N.ne N.exc N.tbk
  · rw [if_pos (show (Value.ref T != Value.none) = true by simp)]
    refine wpAny_bind (wpAny_field hT dT h3 ?_)
    rw [if_neg (show ¬ ((Value.none == rawInt L) = true) by simp [rawInt])]
    refine wpAny_bind (wpAny_setField hT dT (Array.getElem?_eq_some_iff.mp h3).1 ?_)
    have oth : ∀ (f : Obj → Obj) b, b ≠ T → (s.heap.update T f).get? b = s.heap.get? b := fun f b hb => Heap.get?_update_other _ _ (Ne.symm hb)
    have nrec : ∀ b o, s.heap.get? b = some o → (∀ vs, o.data ≠ .fields vs) → b ≠ T := by
      intro b o e hn q
      rw [q, hT] at e
      cases e
      exact hn ts dT
    refine entry_x (s := { s with heap := _ }) hfr (hl.of_keeps fun b o e hn => ⟨o, (oth _ b (nrec b o e hn)).trans e, rfl⟩) hf ((oth _ a (Ne.symm nT)).trans ha) fun h' T' N => ?_
    have neb : ∀ b, Value.ref T ≠ Value.ref b → b ≠ T := fun b q z => q (by rw [z])
    refine h h' T' (fun b o hb hba hbT e => N.keep b o hb hba ((oth _ b (neb b hbT)).trans e)) (fun b o hba hbT e => N.slot b o hba ((oth _ b (neb b hbT)).trans e)) ?_ N.ne N.exc N.tbk
    have nw := N.new
    by_cases q : T' = T
    · subst q
      have := Heap.get?_update_self (Obj.mapFields (·.setIfInBounds 3 Value.none)) hT (Obj.isFreed_of_fields (Obj.data_mapFields dT _))
      rw [nw] at this
      cases this
    · rw [oth _ T' q] at nw
      exact nw

theorem land_x {T : Addr} {oT : Obj} {ts : Array Value} {fl : Value} (ha : s.heap.get? a = some (ExcO C t dd (.ref T))) (nT : T ≠ a) (hT : s.heap.get? T = some oT) (dT : oT.data = .fields ts) (h3 : ts[3]? = some fl)
    (h : ∀ h', (∀ b o, b ≠ T → s.heap.get? b = some o → h'.get? b = some o) → TbOk h' a (.ref T) → Q () { s with heap := h' }) : wpAny M A (setFlight (.ref a) none) Q E s := by
  have sz : 3 < ts.size := (Array.getElem?_eq_some_iff.mp h3).1
  unfold setFlight
  refine wpAny_bind (wpAny_field ha rfl (x := .ref T) rfl ?_)
  rw [if_pos (show (Value.ref T != Value.none) = true by simp)]
  refine wpAny_setField hT dT sz (h _ (fun b o hb e => (Heap.get?_update_other _ _ (Ne.symm hb)).trans e) ?_)
  have d2 := Obj.data_mapFields dT (·.setIfInBounds 3 ((none : Option Addr).elim Value.none fun f => rawInt f))
  exact .inr ⟨T, _, _, rfl, nT, Heap.get?_update_self _ hT (Obj.isFreed_of_fields d2), d2, by simp [sz]⟩
end
end L2
set_option Elab.async false
set_option linter.all false
set_option maxRecDepth 100000
set_option maxHeartbeats 4000000
/-! the end of an iterator within an except suite: StopIteration gets the handled exception as its context -/
namespace L2
open PySem PySem.Spec PyProof.Rows

/-- nothing is handled, or an exception without a context -/
def Hd (A : Around) (h : Heap) : Prop := A.handled = none ∨ ∃ x ox vs, A.handled = some (.ref x) ∧ h.get? x = some ox ∧ ox.data = .fields vs ∧ vs[2]? = some .none

theorem entry_unchain : entryFor table "proto.unchain" = some Builtin.«proto.unchain» := entryFor_of_tree (by kernel_rfl)

section
variable {prog : Program} {w : World} {A : Around} {E : Value → Shared → Prop} {s : Shared}

theorem Hd.keeps {h h' : Heap} (x : Hd A h) (k : ∀ b o, h.get? b = some o → h'.get? b = some o) : Hd A h' := by
  rcases x with z | ⟨x, ox, vs, z, e, d, n⟩
  · exact .inl z
  · exact .inr ⟨x, ox, vs, z, k x ox e, d, n⟩

/-- raising a new object: the others stay, its class too -/
theorem raiseNew_hd {α : Type} {a : Addr} {oa : Obj} {ws : Array Value} {h₀ : Heap} {Q : α → Shared → Prop} (hd : Hd A h₀) (k : ∀ b o, h₀.get? b = some o → s.heap.get? b = some o) (na : h₀.get? a = none)
    (ha : s.heap.get? a = some oa) (da : oa.data = .fields ws) (h2 : 2 < ws.size)
    (h : ∀ h', (∀ b o, b ≠ a → s.heap.get? b = some o → h'.get? b = some o) → (∃ o', h'.get? a = some o' ∧ o'.cls = oa.cls) → E (.ref a) { s with heap := h' }) :
    wpAny (model prog w) A (raiseNew (.ref a) : Sem α) Q E s := by
  unfold raiseNew
  refine wpAny_bind (wpAny_handled ?_)
  rcases hd with z | ⟨x, ox, vs, z, e, d, n⟩
  · rw [z]
    exact wpAny_bind (wpAny_pure (wpAny_throw (h _ (fun b o _ e => e) ⟨_, ha, rfl⟩)))
  · rw [z]
    have nx : x ≠ a := by
      intro q
      rw [q, na] at e
      cases e
    dsimp only
    rw [if_pos (show (Value.ref x != Value.ref a) = true by simpa using nx)]
    refine wpAny_bind (wpAny_holding (wpAny_runValue (codeAny_builtin entry_unchain ?_)))
    unfold Builtin.«proto.unchain»
    dsimp only
    refine wpAny_bind (wpAny_field (k x ox e) d n ?_)
    rw [if_pos (by decide)]
    refine wpAny_pure ?_
    dsimp only
    unfold updateField
    refine wpAny_bind (wpAny_bind (wpAny_load ha ?_))
    rw [da]
    dsimp only
    rw [if_pos h2]
    refine wpAny_update ha (wpAny_throw (h _ (fun b o hb e => (Heap.get?_update_other _ _ (Ne.symm hb)).trans e) ⟨_, Heap.get?_update_self _ ha (Obj.isFreed_of_fields (Obj.data_mapFields da _)), Obj.cls_mapFields _ _⟩))

/-- StopIteration, raised -/
theorem stop_hd {α : Type} {Q : α → Shared → Prop} (hd : Hd A s.heap)
    (h : ∀ h' e, (∀ b o, s.heap.get? b = some o → h'.get? b = some o) → ({ s with heap := h' } : Shared).TypeIs (.ref e) "StopIteration" → E (.ref e) { s with heap := h' }) :
    wpAny (model prog w) A (newExc (.type "StopIteration") [] >>= fun e => (raiseNew e : Sem α)) Q E s := by
  refine wpAny_bind ?_
  simp only [newExc, newTuple]
  refine wpAny_bind (wpAny_newObj_type ?_ (by size_fits)); refine wpAny_bind (m := firstArgMember _ _) (wpAny_of_eq (a := Value.none) (by first | rfl | (simp only [firstArgMember]; rfl)) ?_)
  refine wpAny_newObj_type ?_ (by size_fits); dsimp only
  have k1 : ∀ (z : Obj) b o, s.heap.get? b = some o → (s.heap.push z).get? b = some o := fun z b o e => Heap.get?_push_of_some _ e
  have k2 : ∀ (z y : Obj) b o, s.heap.get? b = some o → ((s.heap.push z).push y).get? b = some o := fun z y b o e => Heap.get?_push_of_some _ (Heap.get?_push_of_some _ e)
  have nw : ∀ (z : Obj), s.heap.get? (s.heap.push z).objs.size = none := fun z => Heap.get?_none_of_le (by rw [Heap.size_push]; exact Nat.le_succ _)
  refine raiseNew_hd (s := { s with heap := _ }) (h₀ := s.heap) hd (k2 _ _) (nw _) (Heap.get?_push_size _ rfl) rfl (by show 2 < 6; decide) fun h' k ⟨o', e', c'⟩ => h h' _ (fun b o e => ?_) ⟨o', e', c'⟩
  refine k b o ?_ (k2 _ _ b o e)
  intro q; rw [q, nw] at e; cases e

theorem next_list_end_hd {it l : Addr} {i : Nat} {items : Array Value} {Q : Option Value → Shared → Prop} (hd : ∀ h' : Heap, Heap.ExtBut it s.heap h' → Hd A h')
    (hit : s.heap.IsListIter it l i) (hl : s.heap.IsList l items) (hx : items[i]? = none)
    (hQ : ∀ h', Heap.ExtBut it s.heap h' → Q none { s with heap := h' }) : wpAny (model prog w) A (pyNext (.ref it)) Q E s := by
  obtain ⟨o, ho, hc, dt⟩ := id hit
  obtain ⟨ol, hol, _, nl, dl⟩ := hl
  unfold pyNext
  refine wpAny_bind (wpAny_attempt (wpAny_callSpecial?_slot (name := Str.ofString "__next__") hit.typeIs slot_listiter_next (wpAny_call_entry slot_listiter_next hit.typeIs entry_listiter_next ?_ (args_listiter_next _))))
  show wpAny _ _ (field (.ref it) 0 >>= _) _ _ _; refine wpAny_bind (wpAny_field ho dt (x := .ref l) rfl ?_)
  show wpAny _ _ (if (Value.ref l == Value.none) = true then _ else _) _ _ _; rw [if_neg (show ¬ ((Value.ref l == Value.none) = true) by simp)]
  show wpAny _ _ (field (.ref it) 1 >>= _) _ _ _; refine wpAny_bind (wpAny_field ho dt (x := .int i 0) rfl ?_)
  show wpAny _ _ (seqItems? (.ref l) >>= _) _ _ _; refine wpAny_bind (wpAny_seqItems hol dl ?_)
  simp only [Int.toNat_natCast, hx]
  refine wpAny_bind (wpAny_rule (wpAny_bind (wpAny_setField ho dt (by simp) ?_)))
  have up := fun f => (Heap.SameBut.update (a := it) (h := s.heap) (f := f)).extBut
  refine stop_hd (s := { s with heap := _ }) (A := A.in1) (hd _ (up _)) fun h' e k ty => ?_
  refine wpAny_bind (wpAny_isInstance (T := "StopIteration") (b := true) ty isSubtype_stop ?_)
  exact wpAny_pure (hQ h' fun b o hb z => k b o (up _ b o hb z))
theorem next_tup_end_hd {it t : Addr} {i : Nat} {items : Array Value} {Q : Option Value → Shared → Prop} (hd : ∀ h' : Heap, Heap.ExtBut it s.heap h' → Hd A h')
    (hit : IsTupIter s.heap it t i) (hl : IsTup s.heap t items) (hx : items[i]? = none)
    (hQ : ∀ h', Heap.ExtBut it s.heap h' → Q none { s with heap := h' }) : wpAny (model prog w) A (pyNext (.ref it)) Q E s := by
  obtain ⟨o, ho, hc, dt⟩ := id hit
  obtain ⟨ol, hol, _, nl, dl⟩ := hl
  unfold pyNext
  refine wpAny_bind (wpAny_attempt (wpAny_callSpecial?_slot (name := Str.ofString "__next__") hit.typeIs slot_tupleiter_next (wpAny_call_entry slot_tupleiter_next hit.typeIs entry_tupleiter_next ?_ (args_tupleiter_next _))))
  show wpAny _ _ (field (.ref it) 0 >>= _) _ _ _; refine wpAny_bind (wpAny_field ho dt (x := .ref t) rfl ?_)
  show wpAny _ _ (if (Value.ref t == Value.none) = true then _ else _) _ _ _; rw [if_neg (show ¬ ((Value.ref t == Value.none) = true) by simp)]
  show wpAny _ _ (field (.ref it) 1 >>= _) _ _ _; refine wpAny_bind (wpAny_field ho dt (x := .int i 0) rfl ?_)
  show wpAny _ _ (seqItems? (.ref t) >>= _) _ _ _; refine wpAny_bind (wpAny_seqItems hol dl ?_)
  simp only [Int.toNat_natCast, hx]
  refine wpAny_bind (wpAny_rule (wpAny_bind (wpAny_setField ho dt (by simp) ?_)))
  have up := fun f => (Heap.SameBut.update (a := it) (h := s.heap) (f := f)).extBut
  refine stop_hd (s := { s with heap := _ }) (A := A.in1) (hd _ (up _)) fun h' e k ty => ?_
  refine wpAny_bind (wpAny_isInstance (T := "StopIteration") (b := true) ty isSubtype_stop ?_)
  exact wpAny_pure (hQ h' fun b o hb z => k b o (up _ b o hb z))

/-- a, b = a tuple of two -/
theorem unpack_hd {t : Addr} {items : Array Value} {targets : List (Bool × (Value → Sem Unit))} {Q : Unit → Shared → Prop} (hd : Hd A s.heap) (ht : IsTup s.heap t items)
    (hn : targets.length = items.size) (hst : targets.findIdx? (·.1) = none)
    (h : ∀ h', Heap.ExtBut s.heap.objs.size s.heap h' → wpAny (model prog w) A (assignInOrder (targets.map (·.2)) items.toList) Q E { s with heap := h' }) :
    wpAny (model prog w) A (unpack (.ref t) targets) Q E s := by
  have ne : t ≠ s.heap.objs.size := by obtain ⟨o, ho, _⟩ := ht; exact Nat.ne_of_lt (Heap.lt_size ho)
  unfold unpack
  rw [hn, hst]
  refine wpAny_bind (wpAny_holding ?_)
  unfold unpackItems
  refine wpAny_bind ?_
  unfold notIterableAtAll
  refine wpAny_bind (wpAny_specialOf ht.typeIs slot_tuple_iter.lookup (wpAny_pure ?_))
  simp only [Bool.false_eq_true, if_false]
  refine wpAny_bind (wpAny_holding (iter_tuple ht (wpAny_bind (wpAny_holding (draw_tuple ne items.size 0 _ _ ⟨_, Heap.get?_push_size _ rfl, rfl, rfl⟩ (ht.push _) (by omega) fun g hit sb => ?_)))))
  have all : List.take items.size (List.drop 0 items.toList) = items.toList := List.take_of_length_le (by simp)
  rw [all, if_neg (by simp)]
  have old : ∀ b o, b ≠ s.heap.objs.size → s.heap.get? b = some o → g.get? b = some o := fun b o hb e => sb.extBut b o hb (Heap.get?_push_of_some _ e)
  refine wpAny_bind (wpAny_holding (next_tup_end_hd (fun h' k => hd.keeps fun b o e => ?_) hit ((ht.push _).extBut sb.extBut ne) (by simp) fun h₂ he₂ => ?_))
  · have nb : b ≠ s.heap.objs.size := Nat.ne_of_lt (Heap.lt_size e)
    exact k b o nb (old b o nb e)
  · simp only [Option.isSome_none, Bool.false_eq_true, if_false]
    exact wpAny_pure (h h₂ fun b o hb e => he₂ b o hb (old b o hb e))
end
end L2
set_option Elab.async false
set_option linter.all false
set_option maxRecDepth 100000
set_option maxHeartbeats 4000000
namespace L2
open PySem PySem.Spec PyProof.Rows
/-! ### what is new to a state -/
theorem ObjOk.there {P : Program} {w : World} {H : Hp} {h : Heap} {a : Addr} {o : HO} (x : ObjOk P w H h a o) : ∃ u, h.get? a = some u := by
  cases o with
  | lst xs => obtain ⟨_, _, _, _, e⟩ := x; exact ⟨_, e⟩
  | tup xs => obtain ⟨_, _, _, _, e, _⟩ := x; exact ⟨_, e⟩
  | dK kvs => obtain ⟨_, _, _, _, o, _, _, e, _⟩ := x; exact ⟨_, e⟩
  | dT kvs => obtain ⟨_, _, _, _, o, _, _, e, _⟩ := x; exact ⟨_, e⟩
  | set S n => obtain ⟨o, _, _, _, e, _⟩ := x; exact ⟨_, e⟩
  | ins C dx fs => obtain ⟨_, _, _, e, _⟩ := x; exact ⟨_, e⟩
  | own y => obtain ⟨_, e⟩ := x; exact ⟨_, e⟩
  | xd fs => obtain ⟨_, ⟨_, _, _, e, _⟩, _⟩ := x; exact ⟨_, e⟩
  | rng lo hi => obtain ⟨_, _, _, e⟩ := x; exact ⟨_, e⟩
  | frz ob u => obtain ⟨e, _⟩ := x; exact ⟨_, e⟩
  | tbl ps => exact ⟨_, show h.get? a = some _ from x⟩
  | met f y => exact ⟨_, show h.get? a = some _ from x⟩
  | ext φ => obtain ⟨_, e, _⟩ := x; exact e
theorem HOk.new {P : Program} {w : World} {H : Hp} {h : Heap} {a : Addr} (x : HOk P w H h) (e : h.get? a = none) : H a = none := by
  cases q : H a with
  | none => rfl
  | some u =>
    obtain ⟨o, z⟩ := (x a u q).there
    rw [e] at z
    cases z
/-- b is nothing of the state's own -/
structure Nw (X : Cx) (pins : List (Addr × Obj)) (H : Hp) (b : Addr) : Prop where
  un : H b = none
  loc : b ≠ X.env.locals
  fs : b ∉ X.fs
  old : X.s₀.heap.get? b = none
  cell : ∀ x c, X.env.cells.lookup x = some c → c ≠ b
  pin : ∀ p ∈ X.pn ++ pins, p.1 ≠ b
section
variable {X : Cx} {pins : List (Addr × Obj)} {σ : St} {H H' : Hp} {s s' : Shared} {a b t : Addr} {C : Value} {dd : Option Addr}
theorem Inv.fsFree (I : Inv X pins σ H s) : ∀ b ∈ X.fs, H b = none := fun b hb => I.stkFree b (by
  rcases I.ok.stk with z | ⟨z, zf⟩
  · rw [z]; exact hb
  · rw [z]
    unfold frs
    rw [List.filterMap_cons, zf]
    exact List.mem_cons_of_mem _ hb)
theorem Inv.nw (I : Inv X pins σ H s) (hex : X.ex = []) (e : s.heap.get? b = none) (hu : H' b = none) : Nw X pins H' b := by
  refine ⟨hu, ?_, ?_, ?_, ?_, ?_⟩
  · rintro rfl
    obtain ⟨m, ⟨o, _, _, ho, _⟩, _⟩ := I.loc
    rw [e] at ho
    cases ho
  · intro hb
    obtain ⟨_, o, ho, _⟩ := I.funs.mem hb
    rw [e] at ho
    cases ho
  · cases q : X.s₀.heap.get? b with
    | none => rfl
    | some o =>
      obtain ⟨o', z⟩ := I.base.there b o q (by rw [hex]; simp)
      rw [e] at z
      cases z
  · rintro x c h rfl
    obtain ⟨v, o, ho, _⟩ := I.cell x c h
    rw [e] at ho
    cases ho
  · rintro p hp rfl
    obtain ⟨z, _⟩ := I.pin p hp
    rw [e] at z
    cases z
/-- records of nobody's may change, the frames' slots too -/
theorem Inv.stepN {h' : Heap} {ch : List Addr} (I : Inv X pins σ H s) (hch : ∀ b ∈ ch, Nw X pins H b)
    (keep : ∀ b o, b ≠ X.env.locals → b ∉ X.fs → b ∉ ch → s.heap.get? b = some o → h'.get? b = some o)
    (slot : ∀ b o, b ∉ ch → s.heap.get? b = some o → ∃ sl, h'.get? b = some { o with slots := sl }) : Inv X pins σ H { s with heap := h' } := by
  have neL : ∀ b o, X.s₀.heap.get? b = some o → b ≠ X.env.locals := fun b o e => Nat.ne_of_lt (Nat.lt_of_lt_of_le (Heap.lt_size e) I.ok.above)
  have neC : ∀ b o, X.s₀.heap.get? b = some o → b ∉ ch := fun b o e hb => by
    have z := (hch b hb).old
    rw [e] at z
    cases z
  have cellK : ∀ x c, X.env.cells.lookup x = some c → ∀ v, s.heap.IsCell c v → h'.IsCell c v := fun x c e v ⟨o, ho, hd⟩ => by
    have nch : c ∉ ch := fun z => (hch c z).cell x c e rfl
    obtain ⟨sl, q⟩ := slot c o nch ho
    exact ⟨_, q, hd⟩
  refine ⟨I.ok, I.os, I.bare, ⟨fun b o e n hb hx => ?_, fun b o e n hb hx => ?_, I.base.free, fun b o e hx => ?_, I.base.tups, I.base.frzs, I.base.tbls⟩, ?_, fun x c e => ?_, I.free, I.freeC, fun p hp => ?_, ?_, I.len⟩
  · exact keep b o (neL b o e) hb (neC b o e) (I.base.keep b o e n hb hx)
  · obtain ⟨sl, e1⟩ := I.base.slot b o e n hb hx
    obtain ⟨sl', e2⟩ := slot b _ (neC b o e) e1
    exact ⟨sl', e2⟩
  · obtain ⟨o', e1⟩ := I.base.there b o e hx
    obtain ⟨sl', e2⟩ := slot b _ (neC b o e) e1
    exact ⟨_, e2⟩
  · obtain ⟨m, hn, hl⟩ := I.loc
    refine ⟨m, ?_, fun i x v e1 e2 e3 => ?_⟩
    · obtain ⟨o, es, ep, ho, r⟩ := hn
      obtain ⟨sl, q⟩ := slot _ o (fun z => (hch _ z).loc rfl) ho
      exact ⟨_, es, ep, q, r⟩
    · obtain ⟨u, r, l⟩ := hl i x v e1 e2 e3
      refine ⟨u, r, ?_⟩
      rcases l with l | ⟨k, c, e, z⟩
      · exact .inl l
      · exact .inr ⟨k, c, e, cellK x c e _ z⟩
  · obtain ⟨v, z⟩ := I.cell x c e
    exact ⟨v, cellK x c e v z⟩
  · obtain ⟨e, n, ne, nf, d⟩ := I.pin p hp
    exact ⟨keep p.1 p.2 ne nf (fun z => (hch p.1 z).pin p hp rfl) e, n, ne, nf, d⟩
  · intro c o e
    have tr : ∀ b, H b ≠ none → ∀ u, s.heap.get? b = some u → h'.get? b = some u := fun b hb u q =>
      keep b u (fun z => hb (by rw [z]; exact I.free)) (fun z => hb (I.fsFree b z)) (fun z => hb (hch b z).un) q
    refine (I.hok c o e).stay (fun b u hb q => tr b ?_ u q) (fun _ q => q) fun _ _ q => q
    rcases hb with rfl | hb
    · rw [e]; simp
    · rw [hb]; simp
/-! ### an exception on its way through a body -/
/-- the exception at a, of the class C, is nobody's; its traceback is nobody's -/
def Flt (X : Cx) (pins : List (Addr × Obj)) (H : Hp) (s : Shared) (a : Addr) (C : Value) (t : Addr) (dd : Option Addr) : Prop :=
  Nw X pins H a ∧ ∃ tb, s.heap.get? a = some (ExcO C t dd tb) ∧ TbOk s.heap a tb ∧ ∀ T, tb = .ref T → Nw X pins H T
/-- .. noted at this frame -/
def FltAt (X : Cx) (pins : List (Addr × Obj)) (H : Hp) (s : Shared) (a : Addr) (C : Value) (t : Addr) (dd : Option Addr) (fl : Value) : Prop :=
  Nw X pins H a ∧ ∃ T oT ts, s.heap.get? a = some (ExcO C t dd (.ref T)) ∧ T ≠ a ∧ Nw X pins H T ∧ s.heap.get? T = some oT ∧ oT.data = .fields ts ∧ ts[3]? = some fl
/-- the body of a def: its own frame on the stack -/
structure Body (X : Cx) : Prop where
  ex : X.ex = []
  st : X.stack = X.env :: X.outer
  fr : X.env.frame = some X.env.locals
theorem FltAt.flt (F : FltAt X pins H s a C t dd .none) : Flt X pins H s a C t dd := by
  obtain ⟨n, T, oT, ts, e, ne, nT, eT, dT, h3⟩ := F
  exact ⟨n, _, e, .inr ⟨T, oT, ts, rfl, ne, eT, dT, h3⟩, fun T' z => by cases z; exact nT⟩
def refsOf : Value → List Addr
  | .ref z => [z]
  | _ => []
theorem flt_note {M : Model} {E : Value → Shared → Prop} {Q : Unit → Shared → Prop} (B : Body X) (I : Inv X pins σ H s) (F : Flt X pins H s a C t dd)
    (k : ∀ s', Inv X pins σ H s' → FltAt X pins H s' a C t dd (rawInt X.env.locals) → Q () s') : wpAny M X.A (noteFrame (.ref a) X.env) Q E s := by
  obtain ⟨na, tb, e, ht, nT⟩ := F
  have hfr := I.ok.frames
  rw [B.st] at hfr
  have hl := I.stack
  rw [B.st] at hl
  refine note_x hfr hl B.fr e ht fun h' T k1 k2 k3 k4 k5 k6 => ?_
  have ch : ∀ b, b ∉ a :: refsOf tb → b ≠ a ∧ tb ≠ .ref b := by
    intro b hb
    refine ⟨fun z => hb (by rw [z]; exact List.mem_cons_self), fun z => hb ?_⟩
    rw [z]
    exact List.mem_cons_of_mem _ (List.mem_singleton.mpr rfl)
  have I' : Inv X pins σ H { s with heap := h' } := by
    refine I.stepN (ch := a :: refsOf tb) (fun b hb => ?_) (fun b o h1 h2 h3 q => k1 b o ?_ (ch b h3).1 (ch b h3).2 q) (fun b o h3 q => k2 b o (ch b h3).1 (ch b h3).2 q)
    · rcases List.mem_cons.mp hb with rfl | hb
      · exact na
      · cases tb <;> simp [refsOf] at hb
        subst hb
        exact nT _ rfl
    · intro z
      rw [List.filterMap_cons, B.fr] at z
      rcases List.mem_cons.mp z with z | z
      · exact h1 z
      · exact h2 z
  obtain ⟨oT, ts, q1, q2, q3⟩ := k6
  exact k _ I' ⟨na, T, oT, ts, k5, k4, I.nw B.ex k3 (I.hok.new k3), q1, q2, q3⟩
theorem flt_land {M : Model} {A : Around} {E : Value → Shared → Prop} {Q : Unit → Shared → Prop} {fl : Value} (I : Inv X pins σ H s) (F : FltAt X pins H s a C t dd fl)
    (k : ∀ s', Inv X pins σ H s' → FltAt X pins H s' a C t dd .none → Q () s') : wpAny M A (setFlight (.ref a) none) Q E s := by
  obtain ⟨na, T, oT, ts, e, ne, nT, eT, dT, h3⟩ := F
  refine land_x e ne eT dT h3 fun h' k1 k2 => ?_
  have I' : Inv X pins σ H { s with heap := h' } := I.stepN (ch := [T]) (fun b hb => by
    have : b = T := by simpa using hb
    subst this
    exact nT) (fun b o _ _ hb q => k1 b o (fun z => hb (by simp [z])) q) (fun b o hb q => ⟨_, k1 b o (fun z => hb (by simp [z])) q⟩)
  rcases k2 with z | ⟨T', oT', ts', z, _, q1, q2, q3⟩
  · cases z
  · cases z
    exact k _ I' ⟨na, T, oT', ts', k1 a _ (Ne.symm ne) e, ne, nT, q1, q2, q3⟩
theorem flt_leave {M : Model} {E : Value → Shared → Prop} {Q : Unit → Shared → Prop} (B : Body X) (I : Inv X pins σ H s) (F : Flt X pins H s a C t dd)
    (k : ∀ s', Inv X pins σ H s' → FltAt X pins H s' a C t dd .none → Q () s') : wpAny M X.A (leaving X.env (.ref a)) Q E s := by
  unfold leaving
  exact wpAny_bind (flt_note B I F fun s1 I1 F1 => flt_land I1 F1 k)
end
/-! ### how it lies behind a call -/
/-- the exception a body may let go: its class, its dict, the names, the heap -/
abbrev EK := Value → Option Addr → St → Hp → Prop
def Catches (X : Cx) (EH : EK) : Prop := ∀ (pins : List (Addr × Obj)) (σ : St) (H : Hp) (s : Shared) (a t : Addr) (C : Value) (dd : Option Addr), Inv X pins σ H s → Flt X pins H s a C t dd → EH C dd σ H → X.xe (.ref a) s
def CX1 (P : Program) (w : World) : CXT := fun outer H s E e s' => ∃ (a t : Addr) (C : Value) (dd : Option Addr) (H' : Hp), e = .ref a ∧ s'.os = s.os ∧ AllBare s'.gens ∧ Un (frs outer) [] H H' s.heap s'.heap ∧ HOk P w H' s'.heap ∧ E C dd H' ∧
  (s.heap.get? a = none ∧ H' a = none) ∧ ∃ T oT ts, s'.heap.get? a = some (ExcO C t dd (.ref T)) ∧ T ≠ a ∧ (s.heap.get? T = none ∧ H' T = none) ∧ s'.heap.get? T = some oT ∧ oT.data = .fields ts ∧ ts[3]? = some .none
theorem catches_fn {P : Program} {w : World} {K : PySem.W.Frag} {mg : Str → Option Value} {base : Heap} {N : List Str} {qual : Str} {scope : Scope} {f : Addr} {cd : Value} {A : Around} {outer : List Env} {s : Shared} {H : Hp} {E : XK} :
    Catches (cxOf (CX1 P w) P w K mg base N qual scope f cd A outer s H E) (fun C dd _ H' => E C dd H') := by
  intro pins σ H' s' a t C dd I F h
  refine flt_leave (X := cxOf (CX1 P w) P w K mg base N qual scope f cd A outer s H E) ⟨rfl, rfl, rfl⟩ I F fun s2 I2 F2 => ?_
  obtain ⟨na, T, oT, ts, e, ne, nT, eT, dT, h3⟩ := F2
  exact ⟨a, t, C, dd, H', rfl, I2.os, I2.bare, I2.base, I2.hok, h, ⟨na.old, na.un⟩, T, oT, ts, e, ne, ⟨nT.old, nT.un⟩, eT, dT, h3⟩
section
variable {X : Cx} {k : Nat} {f C : Addr} {fd : FuncData} {ps : List Str} {sp : Sp} {dvs : List V} {ds : List Value} {EH : EK} {x m : Str} {p pos apos : Pos} {e o : Expr} {es : List Expr} {ta : TE} {t : TA}
/-- a callee's exception is one of this body's -/
theorem came {pins : List (Addr × Obj)} {σ : St} {H : Hp} {s : Shared} {e : Value} {s' : Shared} (hx : Catches X EH) (hex : X.ex = []) (I : Inv X pins σ H s)
    (h : CX1 X.prog X.w X.stack H s (fun C d H' => EH C d σ H') e s') : X.xe e s' := by
  obtain ⟨a, t, C, dd, H', rfl, os, bare, un, hok, hE, ⟨a1, a2⟩, T, oT, ts, z, ne, ⟨t1, t2⟩, eT, dT, h3⟩ := h
  have I' : Inv X pins σ H' s' := I.call' (ch := []) os un hok bare (fun b q => absurd q (by simp))
  exact hx pins σ H' s' a t C dd I' (FltAt.flt ⟨I.nw hex a1 a2, T, oT, ts, z, ne, I.nw hex t1 t2, eT, dT, h3⟩) hE
theorem run_fnE {pins : List (Addr × Obj)} {σ : St} {H : Hp} {s : Shared} {Q : VK} {us : List Value} {vs : List V} (F : FnOk X.prog X.w X.K X.mg X.base (CX1 X.prog X.w) k f fd ps sp) (hr : Room k X.A) (hb : Binds X.K fd ps ds) (hd : Vals dvs ds)
    (hx : Catches X EH) (hex : X.ex = []) (I : Inv X pins σ H s) (r : Vals vs us) (h : sp (vs ++ dvs) H Q (fun C d H' => EH C d σ H')) : wpAny (model X.prog X.w) X.A (call (.ref f) us) (EP X pins σ Q) X.xe s := by
  have r2 : Vals (vs ++ dvs) (us ++ ds) := r.append hd
  have hl : (us ++ ds).length = ps.length := by rw [← r2.length]; exact F.len _ _ _ _ h
  refine wpAny_call (codeAny_mono (F.run X.A X.stack s H ⟨us, []⟩ (us ++ ds) (vs ++ dvs) Q _ hr I.env0 (hb s us I.kIn hl) r2 h) fun r s' hq => ?_)
  cases r with
  | error e => exact came hx hex I hq
  | ok fl =>
    cases fl with
    | ret u => exact I.after hq
    | next => exact False.elim hq
    | brk => exact False.elim hq
    | cont => exact False.elim hq
/-- f(..) of a def that may raise -/
def tCallE (sp : Sp) (dvs : List V) (EH : EK) (t : TA) : TE := fun σ H Q => t σ H fun vs H1 => sp (vs ++ dvs) H1 Q (fun C d H' => EH C d σ H')
theorem pe_callE (F : FnOk X.prog X.w X.K X.mg X.base (CX1 X.prog X.w) k f fd ps sp) (hr : Room k X.A) (hg : Gl X x) (hm : X.mg x = some (.ref f)) (hk : PySem.W.keepIn X.K (.ref f) = true) (hb : Binds X.K fd ps ds) (hd : Vals dvs ds)
    (hx : Catches X EH) (ha : PA X (e :: es) t) (hex : X.ex = [] := by rfl) (hdb : (x == ("__debug__" : Str)) = false := by decide) (he : starEach (e :: es) X.env = (false, eval e X.env) :: starEach es X.env := by rfl)
    (hpl : (backTo pos (starEach es X.env)).any (·.1) = false := by rfl) : PE X (.Call (.Name x p) (e :: es) [] pos) (tCallE sp dvs EH t) := by
  intro pins s σ H Q I h
  refine wpAny_Call_Name_kw (ld_glob I hg hm ?_ hdb)
  refine PySem.W.callWith_K (h₀ := X.base) I.ok.mod.kin hk (thn (ha pos pins s σ H _ I h) fun us s1 ⟨vs, H1, I1, r, q⟩ => ⟨I1.kIn, ?_⟩) he hpl
  exact run_fnE F hr hb hd hx hex I1 r q
theorem pe_call0E (F : FnOk X.prog X.w X.K X.mg X.base (CX1 X.prog X.w) k f fd ps sp) (hr : Room k X.A) (hg : Gl X x) (hm : X.mg x = some (.ref f)) (hk : PySem.W.keepIn X.K (.ref f) = true) (hb : Binds X.K fd ps ds) (hd : Vals dvs ds)
    (hx : Catches X EH) (hex : X.ex = [] := by rfl) (hdb : (x == ("__debug__" : Str)) = false := by decide) : PE X (.Call (.Name x p) [] [] pos) (tCallE sp dvs EH tNil) := by
  intro pins s σ H Q I h
  refine wpAny_Call_Name_kw (ld_glob I hg hm ?_ hdb)
  exact PySem.W.callWith_K0 I.kIn hk (run_fnE (us := []) F hr hb hd hx hex I .nil h)
end
/-! ### a def that may raise, by its body -/
section
variable {P : Program} {w : World} {K : PySem.W.Frag} {mg : Str → Option Value} {base : Heap}
theorem Fun.okE {x qual : Str} {st : Stmt} {f : Addr} {fd : FuncData} {N ps : List Str} {k : Nat} {sp : Sp} (F : Fun K x qual st f fd) (S : FnScope N ps (defScope st)) (len : ∀ vs H Q E, sp vs H Q E → vs.length = ps.length)
    (hbody : ∀ (X : Cx) (cdv : Value) (A : Around) (outer : List Env) (s : Shared) (H : Hp) (vs : List V) (Q : VK) (E : XK), X = cxOf (CX1 P w) P w K mg base N qual (defScope st) f cdv A outer s H E → Room k X.A → Catches X (fun C dd _ H' => E C dd H') → sp vs H Q E →
      ∃ t, PSs (cxOf (CX1 P w) P w K mg base N qual (defScope st) f cdv A outer s H E) (defBody st) t ∧ t { nx := fun _ H' => Q .non H', rt := Q } (start N vs) H) : FnOk P w K mg base (CX1 P w) (k + 1) f fd ps sp := by
  obtain ⟨oc, od, kV, doc, pm, an, cdv, ct, osl, rfl, lk, hc⟩ := F.ex
  exact fn_of lk hc S len fun A outer s H vs Q E hr h => hbody _ cdv A outer s H vs Q E rfl hr catches_fn h
/-- a def that lets none go -/
theorem FnOk.up {k : Nat} {f : Addr} {fd : FuncData} {ps : List Str} {sp : Sp} (F : FnOk P w K mg base CX0 k f fd ps sp) : FnOk P w K mg base (CX1 P w) k f fd ps sp := by
  refine ⟨F.len, fun A outer s H args us vs Q E hr e0 hb r h => codeAny_mono (F.run A outer s H args us vs Q E hr e0 hb r h) fun r s' q => ?_⟩
  cases r with
  | error e => exact False.elim q
  | ok fl => cases fl <;> exact q
end
end L2
set_option Elab.async false
set_option linter.all false
set_option maxRecDepth 100000
set_option maxHeartbeats 4000000
namespace L2
open PySem PySem.Spec PyProof.Rows PySem.W
/-! ### raise C(..) of an own class -/
theorem exc_obj {K : Frag} {h : Heap} {C : Addr} {bmB : List Value} {newId : String} (X : K.In h) (q : excIn K C bmB newId = true) :
    ∃ (bm : List Value) (N : Addr) (nm qn : Str) (bs : List Value) (hd : Bool) (sn : List Str) (sub : List Value) (ab : Bool) (col : Option Bool) (dd : Option Addr) (k0 k1 k2 k3 k5 : Option Value) (mN : Str → Option Value),
      h.get? C = some (excClassObj nm qn C N bs bm hd sn sub ab col dd k0 k1 k2 k3 k5 newId) ∧ h.Ns N mN ∧ mN "__init__" = none ∧ OwnTail h bmB bm := by
  unfold excIn at q
  split at q
  · rename_i dd cd sl ho
    split at q
    · rename_i C' bm k0 k1 k2 k3 n k5 hm hs
      simp only [Bool.and_eq_true, beq_iff_eq, Bool.not_eq_true'] at q
      obtain ⟨⟨⟨⟨⟨r1, r2⟩, r3⟩, r4⟩, r5⟩, r6⟩ := q
      subst r1 r2
      obtain ⟨a1, a2, a3, a4, a5, a6, a7, a8, a9, a10, a11⟩ := cd
      dsimp only at hm r3 r5 r6
      subst hm r3
      have hsl : sl = #[k0, k1, k2, k3, some (.builtin n), k5] := by
        obtain ⟨l⟩ := sl
        simp only at hs
        rw [hs]
      subst hsl
      exact ⟨bm, a4, a1, a5, a2, a6, a7, a8, a9, a10, dd, k0, k1, k2, k3, k5, _, X _ _ ho, .of_isNs (isNs_of_in X r5), nsMap_none_of_in X r5 r6, tail_of_in X r4⟩
    · cases q
  · cases q
section
variable {X : Cx} {x : Str} {p cpos pos : Pos} {e : Expr} {es : List Expr} {t : TA} {C : Addr} {bmB : List Value} {B newId initId : String} {EH : EK}
def tRaise (C : Addr) (EH : EK) (t : TA) : TS := fun _ σ H => t σ H fun vs H1 => vs.length ≤ sizeLine ∧ EH (.ref C) none σ H1
theorem ps_raise (hg : Gl X x) (hm : X.mg x = some (.ref C)) (q : excIn X.K C bmB newId = true) (FB : ExcBaseFacts B newId initId bmB) (hh : X.A.handled = none) (hx : Catches X EH) (ha : PA X (e :: es) t) (hex : X.ex = [] := by rfl)
    (hdb : (x == ("__debug__" : Str)) = false := by decide) (he : starEach (e :: es) X.env = (false, eval e X.env) :: starEach es X.env := by rfl) (hpl : (backTo cpos (starEach es X.env)).any (·.1) = false := by rfl) :
    PS X (.Raise (some (.Call (.Name x p) (e :: es) [] cpos)) none pos) (tRaise C EH t) := by
  intro pins s σ H D I h
  obtain ⟨bm, N, nm, qn, bs, hd, sn, sub, ab, col, dd, k0, k1, k2, k3, k5, mN, hC, hN, hni, T⟩ := exc_obj I.ok.mod.kin q
  refine wpAny_Raise_call_subT (C := C) (nm := nm) (q := qn) (N := N) (bs := bs) (bm := bm) (hdct := hd) (sn := sn) (sub := sub) (ab := ab) (col := col) (dd := dd) (k0 := k0) (k1 := k1) (k2 := k2) (k3 := k3) (k5 := k5) FB (mN := mN) (T.hasType FB.hasBase) hh
    (by rw [he]; show (false || (backTo cpos (starEach es X.env)).any (·.1)) = false; rw [hpl]; rfl) hni (ld_glob I hg hm ⟨rfl, ?_⟩ hdb)
  have ha' := ha cpos pins s σ H _ I h
  rw [he] at ha' ⊢
  refine Calls.evalArgs_plain (wpAny_mono ha' (fun us s2 ⟨vs, H1, I1, r, z, q⟩ => ⟨rfl, by rw [← r.length]; exact z, I1.bk _ _ hC, hN.keeps I1.bk, T.keeps I1.bk, fun h' a m => ?_⟩) fun _ _ y => y)
  have I2 : Inv X pins σ H1 { s2 with heap := h' } := I1.kept (t' := s2.toks) m.keeps
  obtain ⟨t', e1, tn, e2⟩ := m.there
  exact hx pins σ H1 _ a t' (.ref C) none I2 ⟨I1.nw hex m.new (I1.hok.new m.new), .none, e1, .inl rfl, fun T z => nomatch z⟩ q
end
/-! ### except R as n -/
section
variable {X : Cx} {pins : List (Addr × Obj)} {σ : St} {H : Hp} {s : Shared}
/-- what stands at a new address is known from now on, and stays -/
theorem Inv.track {a : Addr} {o : Obj} (I : Inv X pins σ H s) (n : Nw X pins H a) (e : s.heap.get? a = some o) : Inv X pins σ (upd H a (.frz o (.own a))) s := by
  have ne : ∀ b u, H b = some u → b ≠ a := fun b u z q => by rw [q, n.un] at z; cases z
  have up : ∀ b, b ≠ a → upd H a (.frz o (.own a)) b = H b := fun b hb => upd_ne hb
  refine ⟨I.ok, I.os, I.bare, ⟨I.base.keep, I.base.slot, fun b u z m hx => ?_, I.base.there, fun b xs z => ?_, fun b u v z => ?_, fun b ps z => ?_⟩, I.loc, I.cell, ?_, fun x c z => ?_, fun p hp => ?_, fun b u z => ?_, I.len⟩
  · rw [up b fun q => by rw [q, n.old] at z; cases z]
    exact I.base.free b u z m hx
  · have := I.base.tups b xs z
    rw [up b (ne b _ this)]; exact this
  · have := I.base.frzs b u v z
    rw [up b (ne b _ this)]; exact this
  · obtain ⟨more, this⟩ := I.base.tbls b ps z
    exact ⟨more, by rw [up b (ne b _ this)]; exact this⟩
  · rw [up _ (Ne.symm n.loc)]; exact I.free
  · rw [up _ (n.cell x c z)]; exact I.freeC x c z
  · obtain ⟨q1, q2, q3⟩ := I.pin p hp
    exact ⟨q1, by rw [up _ (n.pin p hp)]; exact q2, q3⟩
  · by_cases hb : b = a
    · subst hb
      rw [upd_same] at z
      cases z
      exact ⟨e, _, e⟩
    · rw [up b hb] at z
      exact (I.hok b u z).stay (fun _ _ _ q => q) (fun c q => by rw [up c (ne c _ q)]; exact q) (fun c xs q => by rw [up c (ne c _ q)]; exact q)
/-- the name is let go -/
theorem unbind_ok {M : Model} {A : Around} {E : Value → Shared → Prop} {i : Nat} {x : Str} {v : V} {Q : Unit → Shared → Prop} (I : Inv X pins σ H s) (hN : X.N.Nodup) (hi : X.N[i]? = some x) (hk : X.env.scope.names.lookup x = some .local) (hv : σ[i]? = some (some v))
    (k : ∀ s', Inv X pins (σ.set i none) H s' → Q () s') : wpAny M A (unbindName X.env x) Q E s := by
  obtain ⟨m, hn, hl⟩ := id I.loc
  have hcls : (X.env.scope.kind == .class || (X.env.scope.kind == .module && X.env.locals != X.env.globals)) = false := by rw [I.ok.kind]; rfl
  obtain ⟨u, _, lk⟩ := hl i x v hi hv (.inl hk)
  have hm : m x = some u := by
    rcases lk with ⟨_, z⟩ | ⟨z, _⟩
    · exact z
    · have z : X.env.scope.names.lookup x = some .cell ∨ X.env.scope.names.lookup x = some .free := z
      rw [hk] at z
      rcases z with z | z <;> cases z
  refine wpAny_unbindName_local hk hn hm hcls fun h' w' hn' hs => k _ ?_
  obtain ⟨oL, _, _, hoL, _⟩ := id hn
  have nl : ∀ b o, X.s₀.heap.get? b = some o → b ≠ X.env.locals := fun b o e => Nat.ne_of_lt (Nat.lt_of_lt_of_le (Heap.lt_size e) I.ok.above)
  refine ⟨I.ok, I.os, I.bare, ⟨fun b o e n hb hx => ?_, fun b o e n hb hx => ?_, I.base.free, fun b o e hx => ?_, I.base.tups, I.base.frzs, I.base.tbls⟩, ⟨_, hn', fun j y v' e1 e2 e3 => ?_⟩, fun y c e => ?_, I.free, I.freeC, fun p hp => ?_, fun b u z => ?_, by simpa using I.len⟩
  · exact (hs.2 b (nl b o e)).trans (I.base.keep b o e n hb hx)
  · obtain ⟨sl, e1⟩ := I.base.slot b o e n hb hx
    exact ⟨sl, (hs.2 b (nl b o e)).trans e1⟩
  · obtain ⟨o', e1⟩ := I.base.there b o e hx
    exact ⟨o', (hs.2 b (nl b o e)).trans e1⟩
  · by_cases hj : j = i
    · subst hj
      have hlen : j < σ.length := (List.getElem?_eq_some_iff.mp hv).1
      rw [List.getElem?_set_self hlen] at e2
      cases e2
    · rw [List.getElem?_set_ne (Ne.symm hj)] at e2
      obtain ⟨u', r', q⟩ := hl j y v' e1 e2 e3
      refine ⟨u', r', ?_⟩
      rcases q with ⟨k1, e⟩ | ⟨k1, c, e, z⟩
      · have : y ≠ x := fun e => hj (nodup_ix hN e1 (e ▸ hi))
        exact .inl ⟨k1, by simp [this, e]⟩
      · exact .inr ⟨k1, c, e, z.sameBut hs (I.cne y c e)⟩
  · obtain ⟨w2, z⟩ := I.cell y c e
    exact ⟨w2, z.sameBut hs (I.cne y c e)⟩
  · obtain ⟨e, n, ne, nf, d⟩ := I.pin p hp
    exact ⟨(hs.2 p.1 ne).trans e, n, ne, nf, d⟩
  · refine (I.hok b u z).stay (fun c w2 hc q => (hs.2 c ?_).trans q) (fun _ q => q) fun _ _ q => q
    rintro rfl
    rcases hc with rfl | hc
    · rw [I.free] at z; cases z
    · rw [I.free] at hc; cases hc
end
/-- within a try's body: the pins are kept, exceptions go to E -/
abbrev Cx.hold (X : Cx) (pins : List (Addr × Obj)) (E : Value → Shared → Prop) : Cx := { X with pn := X.pn ++ pins, xe := E }
/-- within an except suite: the exception at a is handled; none leaves -/
abbrev Cx.hnd (X : Cx) (pins : List (Addr × Obj)) (a : Addr) : Cx := { X with A := X.A.mark (some (.ref a)), calm := false, pn := X.pn ++ pins, xe := fun _ _ => False }
section
variable {X : Cx} {pins pins' : List (Addr × Obj)} {σ : St} {H : Hp} {s : Shared} {a : Addr} {E : Value → Shared → Prop}
theorem Inv.hold (I : Inv X pins σ H s) : Inv (X.hold pins E) [] σ H s :=
  ⟨⟨I.ok.mod, I.ok.kind, I.ok.glob, I.ok.blt, I.ok.above, I.ok.inj, I.ok.has, I.ok.cab, I.ok.hd, I.ok.frames, I.ok.stk, I.ok.exf, I.ok.bs, I.ok.bsz, I.ok.noex, I.ok.exfs, I.ok.funs, I.ok.frf⟩,
    I.os, I.bare, I.base, I.loc, I.cell, I.free, I.freeC, fun p hp => I.pin p (by simpa using hp), I.hok, I.len⟩
theorem Inv.unhold (I : Inv (X.hold pins E) pins' σ H s) : Inv X pins σ H s :=
  ⟨⟨I.ok.mod, I.ok.kind, I.ok.glob, I.ok.blt, I.ok.above, I.ok.inj, I.ok.has, I.ok.cab, I.ok.hd, I.ok.frames, I.ok.stk, I.ok.exf, I.ok.bs, I.ok.bsz, I.ok.noex, I.ok.exfs, I.ok.funs, I.ok.frf⟩,
    I.os, I.bare, I.base, I.loc, I.cell, I.free, I.freeC, fun p hp => I.pin p (List.mem_append_left _ hp), I.hok, I.len⟩
theorem Inv.hnd (I : Inv X pins σ H s) : Inv (X.hnd pins a) [] σ H s :=
  ⟨⟨I.ok.mod, I.ok.kind, I.ok.glob, I.ok.blt, I.ok.above, I.ok.inj, I.ok.has, I.ok.cab, (fun z => nomatch z), I.ok.frames, I.ok.stk, I.ok.exf, I.ok.bs, I.ok.bsz, I.ok.noex, I.ok.exfs, I.ok.funs, I.ok.frf⟩,
    I.os, I.bare, I.base, I.loc, I.cell, I.free, I.freeC, fun p hp => I.pin p (by simpa using hp), I.hok, I.len⟩
/-- (the handled one is gone again; calm: as X says) -/
theorem Inv.unhnd (ok : X.Ok) (I : Inv (X.hnd pins a) pins' σ H s) : Inv X pins σ H s :=
  ⟨ok, I.os, I.bare, I.base, I.loc, I.cell, I.free, I.freeC, fun p hp => I.pin p (List.mem_append_left _ hp), I.hok, I.len⟩
theorem Nw.unhold {b : Addr} (n : Nw (X.hold pins E) pins' H b) : Nw X pins H b := ⟨n.un, n.loc, n.fs, n.old, n.cell, fun p hp => n.pin p (List.mem_append_left _ hp)⟩
theorem Flt.unhold {t : Addr} {C : Value} {dd : Option Addr} (F : Flt (X.hold pins E) pins' H s a C t dd) : Flt X pins H s a C t dd := by
  obtain ⟨n, tb, e, ok, m⟩ := F
  exact ⟨n.unhold, tb, e, ok, fun T z => (m T z).unhold⟩
theorem SP.unhold {D : Ends} {f : Flow} {s' : Shared} (h : SP (X.hold pins E) pins' D f s') : SP X pins D f s' := by
  cases f with
  | next => obtain ⟨σ', H', I, q⟩ := h; exact ⟨σ', H', I.unhold, q⟩
  | brk => obtain ⟨σ', H', I, q⟩ := h; exact ⟨σ', H', I.unhold, q⟩
  | cont => obtain ⟨σ', H', I, q⟩ := h; exact ⟨σ', H', I.unhold, q⟩
  | ret u => obtain ⟨v, σ', H', I, r, q⟩ := h; exact ⟨v, σ', H', I.unhold, r, q⟩
end
/-- the class R as a clause's -/
structure Clause (K : Frag) (R : Addr) : Prop where
  ty : typeIn K (.ref R) = some (.type "type")
  cl : (clsIn K R).isSome = true
  ex : subIn K (.ref R) (.type "BaseException") = some true
theorem looks_isType {K : Frag} {M : Model} {h : Heap} {R : Addr} (X : K.In h) (c : (clsIn K R).isSome = true) : Looks M h (isType (.ref R)) true := by
  unfold clsIn at c
  split at c
  · rename_i ho
    intro A' Q' E' s' k q
    unfold isType loadHead
    exact wpAny_bind (wpAny_loadPart (k _ _ (X _ _ ho)) (wpAny_pure q))
  · cases c
theorem exc_match {K : Frag} {M : Model} {A : Around} {E : Value → Shared → Prop} {s : Shared} {a R : Addr} {C : Value} {oa : Obj} {b : Bool} {Q : Bool → Shared → Prop} (X : K.In s.heap) (ha : s.heap.get? a = some oa) (hc : oa.cls = C) (c : Clause K R)
    (m : subIn K C (.ref R) = some b) (h : Q b s) : wpAny M A (excMatches (.ref a) (.ref R)) Q E s := by
  obtain ⟨hp, g, d, tk, os⟩ := s
  have L1 : Looks M hp (typeOf (.ref R)) (.type "type") := looks_typeIn X c.ty
  have L2 : Looks M hp (isSubtype (.ref R) (.type "BaseException")) true := looks_subIn X c.ex
  have L3 : Looks M hp (isSubtype C (.ref R)) b := looks_subIn X m
  have L4 : Looks M hp (typeOf (.ref a)) C := hc ▸ (Looks.ld ha).andThen .now
  have L5 : Looks M hp (isType (.ref R)) true := looks_isType X c.cl
  unfold excMatches
  unfold isInstance
  refine wpAny_bind (wpAny_bind (L1.at ?_))
  rw [tc_notTuple]
  refine wpAny_pure ?_
  simp only [Bool.false_eq_true, if_false]
  refine wpAny_bind (wpAny_pure ?_)
  simp only [List.forIn_cons, List.forIn_nil]
  unfold isExcClass
  refine wpAny_bind (wpAny_bind (wpAny_bind (wpAny_bind (L5.at ?_))))
  simp only [if_true]
  refine L2.at ?_
  simp only [Bool.not_true, Bool.false_eq_true, if_false]
  refine wpAny_pure (wpAny_pure ?_)
  refine wpAny_bind (L4.at ?_)
  refine wpAny_bind (wpAny_bind (wpAny_bind (L3.at ?_)))
  cases b with
  | true => simp only [if_true]; exact wpAny_pure (wpAny_pure (wpAny_pure h))
  | false => simp only [Bool.false_eq_true, if_false]; exact wpAny_pure (wpAny_pure (wpAny_pure h))
end L2
set_option Elab.async false
set_option linter.all false
set_option maxRecDepth 100000
set_option maxHeartbeats 4000000
namespace L2
open PySem PySem.Spec PyProof.Rows PySem.W
/-! ### try: body / except R as n: suite -/
def tTry (K : Frag) (R : Addr) (i : Nat) (tb : EK → TS) (ts : Addr → TS) : TS := fun D σ H =>
  tb (fun C dd σ' H' => subIn K C (.ref R) = some true ∧ ∀ (a t T : Addr), H' a = none →
    ts a { nx := fun σ2 H2 => D.nx (σ2.set i none) H2, rt := D.rt, bk := fun σ2 H2 => D.bk (σ2.set i none) H2, ct := fun σ2 H2 => D.ct (σ2.set i none) H2 }
      (σ'.set i (some (.ref a))) (upd H' a (.frz (ExcO C t dd (.ref T)) (.own a)))) D σ H
section
variable {X : Cx} {x n : Str} {np hpos pos : Pos} {R : Addr} {i : Nat} {body suite : List Stmt} {b₀ : Stmt} {tb : EK → TS} {ts : Addr → TS}
theorem ps_try (B : Body X) (hg : Gl X x) (hm : X.mg x = some (.ref R)) (c : Clause X.K R) (hN : X.N.Nodup) (hi : X.N[i]? = some n) (hk : X.env.scope.names.lookup n = some .local)
    (hb : ∀ pins Ew EHb, Catches (X.hold pins Ew) EHb → PSs (X.hold pins Ew) body (tb EHb)) (hs : ∀ pins a, PSs (X.hnd pins a) (b₀ :: suite) (ts a))
    (hdb : (x == ("__debug__" : Str)) = false := by decide) (hf : X.fn n = true ∨ X.env.scope.names.lookup n = some .local := by first | exact .inl rfl | exact .inr rfl | assumption) :
    PS X (.Try body [.ExceptHandler (some (.Name x np)) (some n) (b₀ :: suite) hpos] [] [] pos) (tTry X.K R i tb ts) := by
  intro pins s σ H D I h
  refine wpAny_Try_except ?_
  refine wpAny_mono (hb pins _ _ ?cat [] s σ H D I.hold h) (fun f s1 hf1 => ?_) (fun e s1 he => he)
  case cat =>
    intro pins' σ' H' s' a t C dd I' F' hE
    obtain ⟨hsub, hE⟩ := hE
    show wpAny (model X.prog X.w) X.A (noteFrame (.ref a) X.env) _ X.xe s'
    have J := I'.unhold
    have F := F'.unhold
    refine flt_note B J F fun s2 J2 F2 => flt_land J2 F2 fun s3 J3 F3 => ?_
    obtain ⟨na, T, oT, ts', e3, ne3, nT3, eT3, dT3, h33⟩ := id F3
    refine wpAny_handleBy_cons (codeAny_handlers_test ?_) (by intro z; cases z)
    have K3 : Inv (X.hnd pins a) [] σ' H' s3 := J3.hnd
    refine ld_glob K3 hg hm ?_ hdb
    refine exc_match J3.kIn e3 rfl c hsub ?_
    show codeAny _ _ _ _ _
    refine codeAny_handlers_suite_as ?_
    refine flt_land J3 F3 fun s4 J4 F4 => ?_
    obtain ⟨na4, T4, oT4, ts4, e4, _⟩ := id F4
    have J5 := J4.track na4 e4
    refine store_ok (v := .ref a) J5 hN hi (.inl hk) rfl (fun s5 J6 => ?_) hf
    refine wpAny_mono (hs pins a [] s5 _ _ _ J6.hnd (hE a t T4 na4.un)) (fun f s6 hf6 => ?_) (fun _ _ z => z.elim)
    have fin : ∀ {σ6 : St} {H6 : Hp} {Q6 : Unit → Shared → Prop}, Inv (X.hnd pins a) [] σ6 H6 s6 → (∀ s7, Inv X pins (σ6.set i none) H6 s7 → Q6 () s7) →
        wpAny (model X.prog X.w) X.A (do bindName X.env n .none; unbindBehindTheSuite X.env n hpos) Q6 X.xe s6 := by
      intro σ6 H6 Q6 K6 k6
      have L6 := K6.unhnd J6.ok
      refine wpAny_bind (wpAny_bindName (store_ok (v := .non) L6 hN hi (.inl hk) rfl (fun s7 J7 => ?_) hf))
      unfold unbindBehindTheSuite
      have hlen : i < σ6.length := by rw [L6.len]; exact (List.getElem?_eq_some_iff.mp hi).1
      refine wpAny_onRaise (unbind_ok J7 hN hi hk (List.getElem?_set_self hlen) fun s8 J8 => k6 s8 ?_)
      rw [List.set_set] at J8
      exact J8
    cases f with
    | next => obtain ⟨σ6, H6, K6, q⟩ := hf6; exact fin K6 fun s7 J7 => ⟨_, _, J7, q⟩
    | brk => obtain ⟨σ6, H6, K6, q⟩ := hf6; exact fin K6 fun s7 J7 => ⟨_, _, J7, q⟩
    | cont => obtain ⟨σ6, H6, K6, q⟩ := hf6; exact fin K6 fun s7 J7 => ⟨_, _, J7, q⟩
    | ret u => obtain ⟨v, σ6, H6, K6, r, q⟩ := hf6; exact fin K6 fun s7 J7 => ⟨v, _, _, J7, r, q⟩
  · cases f with
    | next => exact wpAny_execs_nil (SP.unhold hf1)
    | brk => exact SP.unhold hf1
    | cont => exact SP.unhold hf1
    | ret u => exact SP.unhold hf1
end
end L2
set_option Elab.async false
set_option linter.all false
set_option maxRecDepth 100000
set_option maxHeartbeats 4000000
namespace L2
open PySem PySem.Spec PyProof.Rows PySem.W
/-! ### isinstance of an exception of an own class -/
structure ExcK (K : Frag) (C : Addr) : Prop where
  ga : findIn K (.ref C) "__getattribute__" = some (some (.builtin "BaseException.__getattribute__"))
  gh : findIn K (.ref C) "__getattr__" = some none
  ca : findIn K (.ref C) "__class__" = some (some (.builtin "object.__class__"))
  sn : specialIn K (.builtin "object.__class__") "__get__" = some (some (.builtin "getset_descriptor.__get__"))
  tk : takesIn K (.builtin "object.__class__") = some true
  ob : mroIn K C (.type "object") = some true
  be : subIn K (.ref C) (.type "BaseException") = some true
  cl : (clsIn K C).isSome = true
theorem exc_class_attr {prog : Program} {w : World} {A : Around} {E : Value → Shared → Prop} {s : Shared} {K : Frag} {a C : Addr} {oa : Obj} {od : Option Obj} {Q : Option Value → Shared → Prop} (F : ExcK K C) (X : K.In s.heap) (I : PySem.W.InstAt s.heap a oa C od)
    (h : Q (some (.ref C)) { s with toks := s.toks + 1 }) : wpAny (model prog w) A (getAttr? (.ref a) "__class__") Q E s := by
  obtain ⟨hp, g, d, t, os⟩ := s
  have L0 := I.type (M := model prog w)
  have L1 := looks_findIn (M := model prog w) X F.ga
  have L2 := looks_findIn (M := model prog w) X F.gh
  have L3 : Looks (model prog w) hp (isInstance (.ref a) (.type "BaseException")) true := L0.andThen (looks_subIn X F.be)
  have hf : findObj K C od "__class__" = some (.bind (.builtin "getset_descriptor.__get__") (.builtin "object.__class__")) := by
    obtain ⟨cd, hc⟩ := Option.isSome_iff_exists.mp F.cl
    unfold findObj
    rw [hc, Option.bind_some, F.ca, Option.bind_some]
    simp [F.sn, F.tk]
  have L4 := looks_find (M := model prog w) X I hf
  have hk : builtinKind "BaseException.__getattribute__" = some .slot := by decide +kernel
  have hsplit : splitId "BaseException.__getattribute__" = some ("BaseException", "__getattribute__") := by decide +kernel
  have hargs := PySem.F.args_bexc_ga (.ref a) (.str "__class__" t)
  have hb := PySem.F.attr_ValueError.ga.bind (.ref a)
  unfold getAttr? getAttrBy? getAttrBy
  refine wpAny_bind (wpAny_mkText (wpAny_bind (wpAny_attempt (wpAny_holding (wpAny_bind (L0.at (wpAny_bind (L1.at ?_))))))))
  dsimp only
  rw [if_neg (show ¬ ((onTheHeap (Value.ref C) && Value.builtin "BaseException.__getattribute__" == Value.builtin "object.__getattribute__") = true) by
    rw [show (Value.builtin "BaseException.__getattribute__" == Value.builtin "object.__getattribute__") = false by decide +kernel, Bool.and_false]; exact Bool.false_ne_true)]
  unfold getAttrByItsOwn
  refine wpAny_bind (m := hookBefore (.ref C)) (L2.at ?_)
  refine wpAny_bind (wpAny_attempt (wpAny_holding ?_))
  unfold callGetattribute
  rw [if_neg (by decide)]
  unfold boundAndCalled
  rw [hb]
  refine wpAny_bind (wpAny_pure ?_)
  refine wpAny_call (codeAny_call_builtin PySem.F.attr_ValueError.ga.plain PySem.F.entry_bexc_ga ?_)
  have chk : ∀ {A' : Around} {Q' : Unit → Shared → Prop} {E' : Value → Shared → Prop}, Q' () ⟨hp, g, d, t + 1, os⟩ → wpAny (model prog w) A' (checkBuiltinCall "BaseException.__getattribute__" ⟨[.ref a, .str "__class__" t], []⟩) Q' E' ⟨hp, g, d, t + 1, os⟩ := by
    intro A' Q' E' hq
    simp only [checkBuiltinCall, hk, hsplit]
    refine wpAny_bind ?_
    refine L3.at ?_
    repeat (first | assumption | wp_step)
  refine chk ?_
  show wpAny _ _ (Builtin.«object.__getattribute__» ⟨[.ref a, .str "__class__" t], []⟩) _ _ _
  unfold Builtin.«object.__getattribute__»
  refine wpAny_bind (wpAny_pure ?_)
  refine wpAny_bind (wpAny_pure ?_)
  refine wpAny_bind (L0.at (wpAny_bind (L4.at ?_)))
  dsimp only
  show wpAny _ _ (holding [Value.builtin "object.__class__"] (call (.builtin "getset_descriptor.__get__") [.builtin "object.__class__", .ref a, .ref C]) >>= ret) _ _ _
  refine wpAny_bind (wpAny_holding (wpAny_call (class_get (s := ⟨hp, g, d, t + 1, os⟩) X I F.ob (wpAny_pure ?_))))
  exact handed_on rfl (wpAny_pure h)
end L2
set_option Elab.async false
set_option linter.all false
set_option maxRecDepth 100000
set_option maxHeartbeats 4000000
namespace L2
open PySem PySem.Spec PyProof.Rows PySem.W
/-! ### iterators, within an except suite too -/
/-- nothing is handled, or an exception that is known and has no context -/
def HdOk (X : Cx) : Prop := X.A.handled = none ∨ ∃ x o u vs, X.A.handled = some (.ref x) ∧ X.H₀ x = some (.frz o u) ∧ o.data = .fields vs ∧ vs[2]? = some .none
section
variable {X : Cx} {pins : List (Addr × Obj)} {σ : St} {H : Hp} {s : Shared}
theorem Inv.hdA (I : Inv X pins σ H s) (h : HdOk X) : Hd X.A s.heap := by
  rcases h with z | ⟨x, o, u, vs, z, e, d, n⟩
  · exact .inl z
  · exact .inr ⟨x, o, vs, z, (I.hok x _ (I.base.frzs x o u e)).1, d, n⟩
/-- .. also where an iterator that is nobody's has turned -/
theorem Inv.hdB {it : Addr} (I : Inv X pins σ H s) (h : HdOk X) (hn : H it = none) : ∀ h' : Heap, Heap.ExtBut it s.heap h' → Hd X.A h' := by
  intro h' k
  rcases h with z | ⟨x, o, u, vs, z, e, d, n⟩
  · exact .inl z
  · have q := I.base.frzs x o u e
    exact .inr ⟨x, o, vs, z, k x o (fun w => by rw [w, hn] at q; cases q) (I.hok x _ q).1, d, n⟩
end
structure TurnH (P : Program) (w : World) (K : Frag) (tg : Expr) (J : It) (it : Addr) (tn : Nat → Heap → Prop) : Prop where
  obj : ∀ i h, tn i h → ∃ o, h.get? it = some o ∧ ∀ v, o.data ≠ .cell v
  keep : ∀ i h h', tn i h → (∀ o, h.get? it = some o → h'.get? it = some o) → tn i h'
  item : ∀ (X : Cx), X.prog = P → X.w = w → X.K = K → HdOk X → ∀ (i : Nat) (pins : List (Addr × Obj)) (s : Shared) (σ : St) (H : Hp) (E : Value → Shared → Prop), Inv X pins σ H s → FpOk X pins H it → tn i s.heap → J.go i H →
    wpAny (model P w) X.A (pyNext (.ref it)) (fun r s1 => ∃ u, r = some u ∧
      wpAny (model P w) X.A (letOwnedTupleGo tg (.ref it) u) (fun _ s2 => ∃ x, Inv X pins σ H s2 ∧ RelV x u ∧ J.yld i H x H ∧ tn (i + 1) s2.heap) E s1) E s
  done : ∀ (X : Cx), X.prog = P → X.w = w → X.K = K → HdOk X → ∀ (i : Nat) (pins : List (Addr × Obj)) (s : Shared) (σ : St) (H : Hp) (E : Value → Shared → Prop), Inv X pins σ H s → FpOk X pins H it → tn i s.heap → J.stop i H →
    wpAny (model P w) X.A (pyNext (.ref it)) (fun r s1 => r = none ∧ Inv X pins σ H s1) E s
  self : ∀ (A : Around) (i : Nat) (s : Shared) (Q : Value → Shared → Prop) (E : Value → Shared → Prop), tn i s.heap → Q (.ref it) s → wpAny (model P w) A (pyIter (.ref it)) Q E s
theorem turnH_list {P : Program} {w : World} {K : Frag} {tg : Expr} (a it : Addr) : TurnH P w K tg (Itl K a) it (fun i h => h.IsListIter it a i) where
  obj := fun i h ⟨o, e, c, d⟩ => ⟨o, e, fun v z => by rw [d] at z; cases z⟩
  keep := fun i h h' st k => st.at fun o e => k o e
  item := by
    intro X hP hw hK hc i pins s σ H E I hf st hg
    subst hP hw hK
    obtain ⟨xs, x, hq, hx⟩ := hg
    obtain ⟨its, rv, p, hz⟩ := I.list hq
    obtain ⟨u, hu, ru⟩ := rv.get hx
    obtain ⟨f0, f1, f2, f3, f4, f5⟩ := hf
    refine wpAny_pyNext_list_item st p.isList (x := u) (by simpa using hu) fun h' st' sb => ?_
    have I1 : Inv X pins σ H { s with heap := h' } := I.turned (t' := s.toks) (fun b o hb e => (sb.2 b hb).trans e) f0 f1 f3 f4 f5
    obtain ⟨o, e, c, d⟩ := id st'
    exact ⟨u, rfl, go_of (s := { s with heap := h' }) e c d (by decide) ⟨x, I1, ru, ⟨rfl, fun ys hy => by rw [I.list_inj hy hq]; exact hx⟩, st'⟩⟩
  done := by
    intro X hP hw hK hc i pins s σ H E I hf st hg
    subst hP hw hK
    obtain ⟨xs, hq, hx⟩ := hg
    obtain ⟨its, rv, p, hz⟩ := I.list hq
    obtain ⟨f0, f1, f2, f3, f4, f5⟩ := hf
    have hl := rv.length
    exact next_list_end_hd (I.hdB hc f0) st p.isList (by simp; omega) fun h' eb => ⟨rfl, I.turned (t' := s.toks) (fun b o hb e => eb b o hb e) f0 f1 f3 f4 f5⟩
  self := fun _ _ _ _ _ st h => wpAny_pyIter_listiter st h
def PIH (X : Cx) (tg iter : Expr) (wi : TI) : Prop :=
  ∀ (pins : List (Addr × Obj)) (s : Shared) (σ : St) (H : Hp) (R : It → Hp → Prop), Inv X pins σ H s → wi σ H R →
    wpAny (model X.prog X.w) X.A (eval iter X.env) (fun v s1 => wpAny (model X.prog X.w) X.A (pyIter v) (fun itv s2 => ∃ (it : Addr) (tn : Nat → Heap → Prop) (J : It) (H' : Hp), itv = .ref it ∧ Inv X pins σ H' s2 ∧ TurnH X.prog X.w X.K tg J it tn ∧ tn 0 s2.heap ∧
      FpOk X pins H' it ∧ R J H') X.xe s1) X.xe s
section
variable {X : Cx} {tg : Expr}
theorem pih_list {l : Expr} {tl : TE} (hl : PE X l tl) : PIH X tg l (iList X.K tl) := by
  intro pins s σ H R I h
  refine thn (hl pins s σ H _ I h) fun v s1 ⟨x, H1, I1, r1, q1⟩ => ?_
  obtain ⟨a, e, ⟨xs, hq⟩, q⟩ := q1
  subst e
  cases r1
  obtain ⟨its, rv, p, hz⟩ := I1.list hq
  exact wpAny_pyIter_list p.isList ⟨s1.heap.objs.size, _, _, H1, rfl, I1.kept (t' := s1.toks) fun b o e => Heap.get?_push_of_some _ e, turnH_list a _, ⟨_, Heap.get?_push_size _ rfl, rfl, rfl⟩, I1.fpOk (Nat.le_refl _) (I1.hok.fresh (Nat.le_refl _)), q⟩
/-- (a, b) = a pair, within an except suite too -/
theorem pg_tupH {es : List Expr} {k : Nat} {t : TGs} {n : Nat} {pos : Pos} (hc : HdOk X) (h : PGs X es t) (hn : (assignEach es X.env).length = n := by rfl) (hst : (assignEach es X.env).findIdx? (·.1) = none := by rfl) : PG X (.Tuple es k pos) (gTup X.K n t) := by
  intro pins s σ H v u Q I r q
  obtain ⟨a, xs, ev, hq, hl, q⟩ := q
  subst ev
  cases r
  obtain ⟨its, rv, p, hz⟩ := I.tuple hq
  rw [assign_Tuple]
  refine wpAny_bind (wpAny_standAt (unpack_hd (I.hdA hc) p (by rw [hn, ← hl, rv.length]; simp) hst fun h' hx => ?_))
  have I1 : Inv X pins σ H { s with heap := h' } := I.kept (t' := s.toks) fun b o e => hx b o (Nat.ne_of_lt (Heap.lt_size e)) e
  exact thn (h pins _ σ H xs its Q I1 rv q) fun _ s' z => z
theorem pg_tupK {K : Frag} {es : List Expr} {k : Nat} {t : TGs} {n : Nat} {pos : Pos} (hK : X.K = K) (hc : HdOk X) (h : PGs X es t) (hn : (assignEach es X.env).length = n := by rfl) (hst : (assignEach es X.env).findIdx? (·.1) = none := by rfl) : PG X (.Tuple es k pos) (gTup K n t) := by
  subst hK
  exact pg_tupH hc h hn hst
end
end L2

set_option Elab.async false
set_option linter.all false
set_option maxRecDepth 100000
set_option maxHeartbeats 4000000
namespace L2
open PySem PySem.Spec PyProof.Rows PySem.W
/-! ### [elt for target in iter if c], no name of the def's own in it -/
abbrev Cx.comp (X : Cx) (scope : Scope) (N : List Str) (C : Addr) (s₀ : Shared) (H₀ : Hp) (ex : List Addr) (pins : List (Addr × Obj)) : Cx :=
  { X with N := N, s₀ := s₀, H₀ := H₀, env := compEnv scope C X.env, outer := X.stack, ex := ex, fn := fun _ => false, pn := pins, xe := fun _ _ => False }
/-- what a comprehension's scope must be: names of its own alone -/
structure CompScope (N : List Str) (sc : Scope) : Prop where
  kind : sc.kind = .function
  free : ∀ y ∈ sc.names, y.2 ≠ .free
  cell : ∀ y ∈ sc.names, y.2 ≠ .cell
  loc : ∀ y ∈ sc.names, y.2 = .local → sc.names.lookup y.1 = some .local
  nd : N.Nodup
/-- [elt for target in iter] -/
def tComp0 (n : Nat) (wi : TI) (g : TG) (te : TE) : TE := fun σ H Q => wi σ H fun J H1 => ∀ D, H1 D = none →
  ∃ (m : Nat) (W : Nat → List V → Hp → Prop), W 0 [] (upd H1 D (.lst [])) ∧ ∀ i ys H2, W i ys H2 → i ≤ m ∧ H2 D = some (.lst ys) ∧ ((J.stop i H2 ∧ Q (.ref D) H2) ∨ (i < m ∧ J.go i H2 ∧ ∀ x H3, J.yld i H2 x H3 →
    g x (List.replicate n none) H3 fun σ4 H4 => te σ4 H4 fun y H6 => H6 D = some (.lst ys) ∧ ys.length < sizeLine ∧ W (i + 1) (ys ++ [y]) (upd H6 D (.lst (ys ++ [y])))))
theorem kc0_loop {prog : Program} {w : World} {A : Around} {s : Shared} {elt target iter : Expr} {scope : Scope} {pos : Pos} {it acc : Value} {env : Env} {R : Result → Shared → Prop} (I : Nat → Shared → Prop)
    (turn : ∀ n s, I n s → wpAny (model prog w) A (pyNext it) (fun r s₁ => match r with
      | none => R (.ok .next) s₁
      | some v => wpAny (model prog w) A (letOwnedTupleGo target it v) (fun _ s₀ => wpAny (model prog w) A (assign target env v) (fun _ s₂ => wpAny (model prog w) A (eval elt env) (fun x s₄ =>
          wpAny (model prog w) A (call (.builtin "list.append") [acc, x]) (fun _ s₅ => ∃ m, m < n ∧ I m s₅) (notedBy (model prog w) A env fun e s' => R (.error e) s') s₄) (notedBy (model prog w) A env fun e s' => R (.error e) s') s₂)
          (notedBy (model prog w) A env fun e s' => R (.error e) s') s₀) (notedBy (model prog w) A env fun e s' => R (.error e) s') s₁) (notedBy (model prog w) A env fun e s' => R (.error e) s') s)
    (n : Nat) (h : I n s) : codeAny (model prog w) A (.compLoop (.ListComp elt [⟨target, iter, [], 0⟩] scope pos) 0 it acc env) R s := by
  refine codeAny_loop rfl I (fun n s hI => ?_) n h
  show wpAny _ A ((compTurn (.ListComp elt [⟨target, iter, [], 0⟩] scope pos) 0 it acc env).onRaise (fun x => do noteFrame x env; theTreesLotGoes x)) _ _ s
  refine wpAny_noted ?_; rw [compTurn_list1]
  refine wpAny_bind (wpAny_standAt (wpAny_bind (wpAny_mono (turn n s hI) (fun r s₁ h₁ => ?_) fun _ _ z => z)))
  cases r with
  | none => exact wpAny_pure h₁
  | some v =>
    refine wpAny_bind (wpAny_mono h₁ (fun _ s₀ q₀ => ?_) fun _ _ z => z)
    refine wpAny_bind (wpAny_mono q₀ (fun _ s₂ q₂ => ?_) fun _ _ z => z)
    exact wpAny_bind (wpAny_bind (wpAny_mono q₂ (fun x s₄ q₄ => wpAny_bind (wpAny_mono q₄ (fun _ s₅ q₅ => wpAny_pure (wpAny_pure ⟨rfl, q₅⟩)) fun _ _ z => z)) fun _ _ z => z))
section
variable {X : Cx}
theorem inv_comp {pins : List (Addr × Obj)} {σ : St} {H : Hp} {s : Shared} {scope : Scope} {N : List Str} {it : Addr} {h' : Heap} (S : CompScope N scope) (I : Inv X pins σ H s) (hf : FpOk X pins H it) (hit : ∃ o, s.heap.get? it = some o) (hnb : X.base.get? it = none)
    (hns : h'.Ns s.heap.objs.size (fun _ => none)) (hsb : ∀ b o, s.heap.get? b = some o → h'.get? b = some o) {tk : Nat} :
    Inv (X.comp scope N s.heap.objs.size s H [it] (X.pn ++ pins)) [] (List.replicate N.length none) H { s with heap := h', toks := tk } := by
  obtain ⟨f0, f1, f2, f3, f4, f5⟩ := hf
  obtain ⟨oi, ei⟩ := hit
  have lt : it < s.heap.objs.size := Heap.lt_size ei
  have nc : ∀ x c, (compEnv scope s.heap.objs.size X.env).cells.lookup x = some c → False := fun x c z => by cases z
  have nk : ∀ x, ¬ ((compEnv scope s.heap.objs.size X.env).kindOf x = some .cell ∨ (compEnv scope s.heap.objs.size X.env).kindOf x = some .free) := by
    intro x z
    have z : scope.names.lookup x = some .cell ∨ scope.names.lookup x = some .free := z
    rcases z with z | z
    · exact S.cell _ (PySem.mem_of_lookup z) rfl
    · exact S.free _ (PySem.mem_of_lookup z) rfl
  refine ⟨⟨I.ok.mod, S.kind, I.ok.glob, I.ok.blt, Nat.le_refl _, fun x y c z => (nc x c z).elim, fun x z => (nk x z).elim, fun x c _ z => (nc x c z).elim, I.ok.hd, I.ok.frames, .inl rfl, fun b hb => ?_, I.bs, Nat.le_trans I.ok.bsz I.sz, fun b o e hb => ?_, fun b hb hfs => ?_, I.stack, I.stkFree⟩,
    rfl, I.bare, Un.kept hsb, ⟨_, hns, fun i x v e1 e2 e3 => ?_⟩, fun x c z => (nc x c z).elim, I.hok.fresh (Nat.le_refl _), fun x c z => (nc x c z).elim, fun p hp => ?_, I.hok.kept hsb, by simp⟩
  · have e : b = it := by simpa using hb
    subst e
    exact ⟨Nat.ne_of_lt lt, fun x c z => (nc x c z).elim⟩
  · have e' : b = it := by simpa using hb
    subst e'
    rw [hnb] at e
    cases e
  · have e' : b = it := by simpa using hb
    subst e'
    rcases List.mem_cons.mp (I.stkSub b hfs) with z | z
    · exact f1 z
    · exact f2 z
  · rw [List.getElem?_replicate] at e2
    split at e2 <;> cases e2
  · have hp' : p ∈ X.pn ++ pins := by simpa using hp
    obtain ⟨q1, q2, q3, q4, q5⟩ := I.pin p hp'
    refine ⟨hsb _ _ q1, q2, Nat.ne_of_lt (Heap.lt_size q1), fun z => ?_, q5⟩
    rcases List.mem_cons.mp (I.stkSub p.1 z) with z | z
    · exact q3 z
    · exact q4 z
theorem comp_walk0 {elt target iter : Expr} {scope : Scope} {pos : Pos} {N : List Str} {wi : TI} {g : TG} {te : TE} (S : CompScope N scope) (hd : HdOk X) (hi : PIH X target iter wi) (hex : X.ex = [])
    (hg : ∀ C s₀ H₀ ex pn, HdOk (X.comp scope N C s₀ H₀ ex pn) → PG (X.comp scope N C s₀ H₀ ex pn) target g)
    (he : ∀ C s₀ H₀ ex pn, HdOk (X.comp scope N C s₀ H₀ ex pn) → PE (X.comp scope N C s₀ H₀ ex pn) elt te)
    {pins : List (Addr × Obj)} {s : Shared} {σ : St} {H : Hp} {Q : VK} {RR : Value → Env → Result → Shared → Prop} (I : Inv X pins σ H s) (h : (tComp0 N.length wi g te) σ H Q)
    (hRR : ∀ (D C : Addr) (s6 : Shared) (H5 : Hp) (mm : Str → Option Value), Inv X pins σ H5 s6 → s6.heap.Ns C mm → FpOk X pins H5 C → Q (.ref D) H5 → RR (.ref D) (compEnv scope C X.env) (.ok .next) s6) :
    wpAny (model X.prog X.w) X.A (eval iter X.env) (fun v s1 => wpAny (model X.prog X.w) X.A (pyIter v) (fun itv s2 => wpAny (model X.prog X.w) X.A (newList []) (fun acc s3 => wpAny (model X.prog X.w) X.A (newFunctionEnv scope X.env.globals [] [] X.env.qual none .none (some X.env)) (fun cenv s4 =>
      codeAny (model X.prog X.w) X.A (.compStart (.ListComp elt [⟨target, iter, [], 0⟩] scope pos) 0 itv acc { cenv with scope := scope }) (RR acc { cenv with scope := scope }) s4) X.xe s3) X.xe s2) X.xe s1) X.xe s := by
  refine thn (hi pins s σ H _ I h) fun v s1 h1 => thn h1 fun itv s2 h2 => ?_
  obtain ⟨it, tn, J, H2, rfl, I2, T, st2, f2, R⟩ := h2
  obtain ⟨oi, ei, di⟩ := T.obj _ _ st2
  have hf2 := I2.hok.fresh (Nat.le_refl _)
  refine wpAny_newObj_type ?_
  have I3 : Inv X pins σ (upd H2 s2.heap.objs.size (.lst [])) { s2 with heap := s2.heap.push { cls := .type "list", dict := none, data := .seq ([] : List Value).toArray } } := Inv.lnew (t' := s2.toks) I2 .nil (Nat.zero_le _)
  refine wpAny_newFunctionEnv S.cell (by intro y hy; simp at hy) (fun h4 hns hsb => ?_) S.kind
  dsimp only at hns hsb ⊢
  generalize hG : s2.heap.push { cls := .type "list", dict := none, data := .seq ([] : List Value).toArray } = G at I3 hns hsb ⊢
  generalize hD : s2.heap.objs.size = D at I3 hf2
  have nD : it ≠ D := by rw [← hD]; exact Nat.ne_of_lt (Heap.lt_size ei)
  have eiG : G.get? it = some oi := by rw [← hG]; exact Heap.get?_push_of_some _ ei
  have kp : ∀ b o, G.get? b = some o → h4.get? b = some o := fun b o e => hsb.extBut b o (Nat.ne_of_lt (Heap.lt_size e)) (Heap.get?_push_of_some _ e)
  have f3 : FpOk X pins (upd H2 D (.lst [])) it := ⟨by rw [upd_ne nD]; exact f2.1, f2.2⟩
  have nb : X.base.get? it = none := by
    cases q : X.base.get? it with
    | none => rfl
    | some o =>
      have := (I.ok.bs it o q).1
      rcases f2.2.2.2.1 with z | z
      · rw [hex] at z; simp at z
      · exact absurd (Nat.lt_of_lt_of_le (Heap.lt_size this) z) (Nat.lt_irrefl _)
  have hns' : h4.Ns G.objs.size (fun _ => none) := by
    obtain ⟨o, es, ep, q1, q2, q3, q4⟩ := hns
    exact ⟨o, es, ep, q1, q2, q3, fun x => by rw [q4]; rfl⟩
  have I4 := inv_comp (tk := s2.toks + ([] : List (Str × Value)).length) S I3 f3 ⟨oi, eiG⟩ nb hns' kp
  have hdc : HdOk (X.comp scope N G.objs.size { s2 with heap := G } (upd H2 D (.lst [])) [it] (X.pn ++ pins)) := by
    rcases hd with z | ⟨x, o, u, vs, z, e, d, n⟩
    · exact .inl z
    · refine .inr ⟨x, o, u, vs, z, ?_, d, n⟩
      have q := I2.base.frzs x o u e
      show upd H2 D (.lst []) x = _
      rw [upd_ne fun w => by rw [w, hf2] at q; cases q]
      exact q
  obtain ⟨m, W, w0, turn⟩ := R D hf2
  have gg := hg _ _ _ _ _ hdc
  have ee := he _ _ _ _ _ hdc
  have fpc : ∀ {H' : Hp} {σ' : St} {s' : Shared} {pl : List (Addr × Obj)}, Inv (X.comp scope N G.objs.size { s2 with heap := G } (upd H2 D (.lst [])) [it] (X.pn ++ pins)) pl σ' H' s' → H' it = none → (∀ p ∈ pl, p.1 ≠ it) → FpOk (X.comp scope N G.objs.size { s2 with heap := G } (upd H2 D (.lst [])) [it] (X.pn ++ pins)) pl H' it := by
    intro H' σ' s' pl J' hn hp
    refine ⟨hn, Nat.ne_of_lt (Heap.lt_size eiG), ?_, .inl (List.mem_singleton.mpr rfl), (fun x c z => nomatch z), fun p hpp => ?_⟩
    · intro z
      rcases List.mem_cons.mp (I.stkSub it z) with z | z
      · exact f2.2.1 z
      · exact f2.2.2.1 z
    · rcases List.mem_append.mp hpp with z | z
      · exact f2.2.2.2.2.2 p z
      · exact hp p z
  -- the turns
  have loop : codeAny (model X.prog X.w) X.A (.compLoop (.ListComp elt [⟨target, iter, [], 0⟩] scope pos) 0 (.ref it) (.ref D) (compEnv scope G.objs.size X.env))
      (RR (.ref D) (compEnv scope G.objs.size X.env))
      { s2 with heap := h4, toks := s2.toks + ([] : List (Str × Value)).length } := by
    refine kc0_loop (fun k s' => ∃ i ys H', k = m + 1 - i ∧ Inv (X.comp scope N G.objs.size { s2 with heap := G } (upd H2 D (.lst [])) [it] (X.pn ++ pins)) [] (List.replicate N.length none) H' s' ∧ tn i s'.heap ∧ H' it = none ∧ W i ys H') ?_ (m + 1)
      ⟨0, [], _, rfl, I4, T.keep _ _ _ st2 fun o e => kp it o (by rw [← hG]; exact Heap.get?_push_of_some _ e), f3.1, w0⟩
    rintro k s5 ⟨i, ys, H5, rfl, I5, st5, n5, w5⟩
    obtain ⟨hi5, hD5, w5⟩ := turn i ys H5 w5
    rcases w5 with ⟨stop, q⟩ | ⟨lt5, go, step⟩
    · refine wpAny_mono (T.done (X.comp scope N G.objs.size { s2 with heap := G } (upd H2 D (.lst [])) [it] (X.pn ++ pins)) rfl rfl rfl hdc i [] s5 _ H5 (fun _ _ => False) I5 (fpc I5 n5 (by simp)) st5 stop) (fun r s6 z => ?_) (fun _ _ z => z.elim)
      obtain ⟨rfl, I6⟩ := z
      obtain ⟨mm, hn6, _⟩ := I6.loc
      have B6 := I6.base
      have J6 : Inv X pins σ H5 s6 := by
        refine I3.call' (ch := [it]) I6.os ⟨B6.keep, B6.slot, B6.free, B6.there, B6.tups, B6.frzs, B6.tbls⟩ I6.hok I6.bare (fun b hb => ?_)
        have e : b = it := by simpa using hb
        subst e
        exact ⟨f2.2.2.2.1, f2.2.1, f2.2.2.2.2.1, f2.2.2.2.2.2⟩
      have szG : X.s₀.heap.objs.size ≤ G.objs.size := I3.sz
      refine hRR D G.objs.size s6 H5 mm J6 hn6 ⟨I6.free, ?_, ?_, .inr szG, ?_, ?_⟩ q
      · exact Nat.ne_of_gt I3.lt
      · intro z
        obtain ⟨_, o, ho, _⟩ := I3.funs.mem z
        exact Nat.lt_irrefl _ (Heap.lt_size ho)
      · rintro x c z rfl
        obtain ⟨v', o, ho, _⟩ := I3.cell x _ z
        exact Nat.lt_irrefl _ (Heap.lt_size ho)
      · rintro p hp z
        have zz := (I3.pin p hp).1
        rw [z] at zz
        exact Nat.lt_irrefl _ (Heap.lt_size zz)
    · refine wpAny_mono (T.item (X.comp scope N G.objs.size { s2 with heap := G } (upd H2 D (.lst [])) [it] (X.pn ++ pins)) rfl rfl rfl hdc i [] s5 _ H5 (fun _ _ => False) I5 (fpc I5 n5 (by simp)) st5 go) (fun r s6 z => ?_) (fun _ _ z => z.elim)
      obtain ⟨u, rfl, z⟩ := z
      refine wpAny_mono z (fun _ s7 z => ?_) (fun _ _ z => z.elim)
      obtain ⟨x, I7, rx, yl, st7⟩ := z
      obtain ⟨o7, e7, d7⟩ := T.obj _ _ st7
      obtain ⟨p0, p1, p2, _⟩ := fpc I7 n5 (by simp)
      have I7' : Inv (X.comp scope N G.objs.size { s2 with heap := G } (upd H2 D (.lst [])) [it] (X.pn ++ pins)) [(it, o7)] (List.replicate N.length none) H5 s7 := I7.pins_of fun p hp => by
        have e : p = (it, o7) := by simpa using hp
        subst e
        exact ⟨e7, p0, p1, p2, d7⟩
      have back : ∀ {i' : Nat} {ys' : List V} {H' : Hp} {σ' : St} {s' : Shared}, i' = i + 1 → Inv (X.comp scope N G.objs.size { s2 with heap := G } (upd H2 D (.lst [])) [it] (X.pn ++ pins)) [(it, o7)] σ' H' s' → W i' ys' H' →
          ∃ k', k' < m + 1 - i ∧ ∃ i ys H', k' = m + 1 - i ∧ Inv (X.comp scope N G.objs.size { s2 with heap := G } (upd H2 D (.lst [])) [it] (X.pn ++ pins)) [] (List.replicate N.length none) H' s' ∧ tn i s'.heap ∧ H' it = none ∧ W i ys H' := by
        rintro i' ys' H' σ' s' rfl J' w'
        obtain ⟨q1, q2, _⟩ := J'.pin (it, o7) (List.mem_append_right _ (List.mem_singleton.mpr rfl))
        have jl : σ'.length = N.length := J'.len
        refine ⟨m + 1 - (i + 1), by omega, i + 1, ys', H', rfl, Inv.weak (J'.pins_of fun p hp => absurd hp (by simp)) (by rw [jl]; simp) (fun j v z => ?_), T.keep _ _ _ st7 fun o z => ?_, q2, w'⟩
        · rw [List.getElem?_replicate] at z
          split at z <;> cases z
        · rw [e7] at z
          cases z
          exact q1
      refine wpAny_mono (gg [(it, o7)] s7 _ H5 x u _ I7' rx (step x H5 yl)) (fun _ s8 z => ?_) (fun _ _ z => z.elim)
      obtain ⟨σ8, H8, I8, q8⟩ := z
      refine wpAny_mono (ee [(it, o7)] s8 σ8 H8 _ I8 q8) (fun y s10 z => ?_) (fun _ _ z => z.elim)
      obtain ⟨yv, H10, I10, ry, hD10, hz10, w10⟩ := z
      refine wpAny_mono (mt_append (X := X.comp scope N G.objs.size { s2 with heap := G } (upd H2 D (.lst [])) [it] (X.pn ++ pins)) [(it, o7)] s10 σ8 H10 (.ref D) [yv] (.ref D) [y] (fun _ H11 => W (i + 1) (ys ++ [yv]) H11) I10 rfl (.cons ry .nil) ⟨D, ys, yv, rfl, rfl, hD10, hz10, w10⟩) (fun _ s11 z => ?_) (fun _ _ z => z.elim)
      obtain ⟨_, H11, I11, _, w11⟩ := z
      exact back rfl I11 w11
  exact codeAny_compStart_list loop (T.self _ 0 _ _ _ (T.keep _ _ _ st2 fun o e => kp it o (by rw [← hG]; exact Heap.get?_push_of_some _ e)) loop)
/-- the comprehension as a value -/
theorem letgo {pins : List (Addr × Obj)} {σ : St} {H : Hp} {s : Shared} {C : Addr} {h' : Heap} (I : Inv X pins σ H s) (f : FpOk X pins H C) (sb : Heap.SameBut C s.heap h') : Inv X pins σ H { s with heap := h' } :=
  I.turned (t' := s.toks) (fun b o hb e => (sb.2 b hb).trans e) f.1 f.2.1 f.2.2.2.1 f.2.2.2.2.1 f.2.2.2.2.2
/-- name = the comprehension, on one row -/
theorem ps_comp0 {i : Nat} {y : Str} {py spos : Pos} {elt target iter : Expr} {scope : Scope} {pos : Pos} {N : List Str} {wi : TI} {g : TG} {te : TE} (S : CompScope N scope) (hd : HdOk X) (hi : PIH X target iter wi) (hex : X.ex = [])
    (hg : ∀ C s₀ H₀ ex pn, HdOk (X.comp scope N C s₀ H₀ ex pn) → PG (X.comp scope N C s₀ H₀ ex pn) target g)
    (he : ∀ C s₀ H₀ ex pn, HdOk (X.comp scope N C s₀ H₀ ex pn) → PE (X.comp scope N C s₀ H₀ ex pn) elt te) (hN : X.N.Nodup) (hi' : X.N[i]? = some y) (hy : X.env.scope.names.lookup y = some .local)
    (hsw : swapsWith (.ListComp elt [⟨target, iter, [], 0⟩] scope pos) (some (.Name y py)) spos.line X.env = pure true := by rfl)
    (hs : ∀ x, foldedSetIterable iter X.env x = pure x := by intro _; rfl) : PS X (.Assign [.Name y py] (.ListComp elt [⟨target, iter, [], 0⟩] scope pos) spos) (tAsg (tComp0 N.length wi g te) (gName i)) := by
  intro pins s σ H D I h
  rw [exec_Assign_Name_used _ _ _ _ hsw]
  refine wpAny_bind (wpAny_standAt (wpAny_bind ?_))
  show wpAny _ X.A (do let _ ← comprehension (.ListComp elt [⟨target, iter, [], 0⟩] scope pos) scope X.env _ (newList []) false (eval iter X.env) (some (assign (.Name y py) X.env))) _ _ s
  refine wpAny_bind (wpAny_mono (wpAny_comprehension_use (Q := fun _ s' => SP X pins D .next s') rfl hs S.free S.kind S.loc (comp_walk0 S hd hi hex hg he I h (RR := fun acc ce r s' => match r with
      | .ok _ => wpAny (model X.prog X.w) X.A (assign (.Name y py) X.env acc) (fun _ s'' => ∃ m, s''.heap.Ns ce.locals m ∧ ∀ h', Heap.SameBut ce.locals s''.heap h' → SP X pins D .next { s'' with heap := h' }) X.xe s'
      | .error x => ∃ m, s'.heap.Ns ce.locals m ∧ ∀ h', Heap.SameBut ce.locals s'.heap h' → wpAny (model X.prog X.w) X.A (passOn "comprehension.variables-let-go" x ce) (fun _ s' => SP X pins D .next s') X.xe { s' with heap := h' }) ?_))
    (fun _ s' hq => wpAny_pure (wpAny_pure hq)) fun _ _ e => e)
  intro D' C s6 H5 mm I6 n6 f6 q
  refine wpAny_assign_Name (store_ok2 (v := .ref D') I6 hN hi' (.inl hy) rfl (fun s7 I7 st => ?_) (.inr hy))
  obtain ⟨a, sb, ha⟩ := st
  have na : C ≠ a := by
    rcases ha with rfl | ha
    · exact f6.2.1
    · exact (f6.2.2.2.2.1 y a ha).symm
  exact ⟨mm, n6.sameBut sb na, fun h' sb' => ⟨_, _, letgo I7 f6 sb', q⟩⟩
end
end L2
set_option Elab.async false
set_option linter.all false
set_option maxRecDepth 100000
set_option maxHeartbeats 4000000
namespace L2
open PySem PySem.Spec PyProof.Rows PySem.W
section
variable {X : Cx} {a b c : Expr} {ta tb tc : TE} {pos : Pos}
/-! ### great ints -/
theorem op_mulK : OpR X (binaryOp .Mult) (rI IntMulOk fun i j => .int (i * j)) := opI fun _ _ _ _ _ _ _ hc q => mul_int q hc
theorem op_fdivK : OpR X (binaryOp .FloorDiv) (rI (fun _ j => 0 < j ∧ j.natAbs.log2 < 9000) fun i j => .int (i / j)) := opI fun i j _ _ _ _ _ hc q => by
  have h1 : (0 : Int) < j := hc.1
  exact floordiv_int (by omega) (by rw [Int.fdiv_eq_ediv_of_nonneg i (by omega)]; exact q) (.inl (PyProof.noPylong_of_log2 hc.2))
/-! ### isinstance -/
/-- the type of a value, an exception that is known too -/
inductive TyE (K : Frag) (H : Hp) : V → Value → Prop where
  | of {x : V} {t : Value} (h : TyOf K H x t) : TyE K H x t
  | exc {a C t T : Addr} {u : HO} (e : H a = some (.frz (ExcO (.ref C) t none (.ref T)) u)) (k : ExcK K C) : TyE K H (.ref a) (.ref C)
  | excD {a C t T d : Addr} {u : HO} {fs : List (Str × V)} (e : H a = some (.frz (ExcO (.ref C) t (some d) (.ref T)) u)) (hd : H d = some (.xd fs)) (k : ExcK K C) : TyE K H (.ref a) (.ref C)
  | tupK {a : Addr} {o : Obj} (l : K.lookup a = some o) (c : o.cls = .type "tuple") : TyE K H (.ref a) (.type "tuple")
theorem isinst_okE {pins : List (Addr × Obj)} {σ : St} {H : Hp} {s : Shared} {A : Around} {E : Value → Shared → Prop} {Q : Value → Shared → Prop} {c : Value} {b : Bool} {x : V} {u t : Value} (I : Inv X pins σ H s) (rx : RelV x u) (ty : TyE X.K H x t)
    (e : kitOne X.K t c = some b) (h : ∀ tk, Q (.bool b) { s with toks := tk }) : wpAny (model X.prog X.w) A (call (.builtin "isinstance") [u, c]) Q E s := by
  cases ty with
  | of h' => exact isinst_ok I rx h' e h
  | exc ea k =>
    cases rx
    rename_i a C t0 T u0
    have o1 : s.heap.get? a = some (ExcO (.ref C) t0 none (.ref T)) := (I.hok a _ ea).1
    refine kia_one (H := fun h => PySem.W.InstAt h a (ExcO (.ref C) t0 none (.ref T)) C none) ?_ I.kIn ⟨o1, rfl, rfl, trivial⟩ e (fun z => nomatch z) h
    refine ⟨fun M h _ J => J.type, fun M h K _ => looks_isType K k.cl, fun h tp dd its n sl K htp => ?_, fun K J q => exc_class_attr k K J q⟩
    refine Bool.eq_false_iff.mpr fun q => ?_
    have e : C = tp := Value.ref.inj (beq_iff_eq.mp q)
    subst e
    have z := k.cl
    unfold clsIn at z
    split at z
    · rename_i ho
      have y := (K _ _ ho).symm.trans htp
      cases y
    · cases z
  | tupK l c =>
    cases rx
    exact PySem.W.kia_one PySem.W.kitx_tuple I.kIn ⟨_, I.kIn _ _ l, c⟩ e (fun z => nomatch z) h
  | excD ea hd k =>
    cases rx
    rename_i a C t0 T d u0 fs
    have o1 : s.heap.get? a = some (ExcO (.ref C) t0 (some d) (.ref T)) := (I.hok a _ ea).1
    obtain ⟨mA, nA, _⟩ := (show ∃ mA, s.heap.Ns1 d mA ∧ ∀ f, RelO (fs.lookup f) (mA f) from I.hok d _ hd)
    obtain ⟨od, o2, _⟩ := lookIn_ns nA
    refine kia_one (H := fun h => PySem.W.InstAt h a (ExcO (.ref C) t0 (some d) (.ref T)) C (some od)) ?_ I.kIn ⟨o1, rfl, rfl, o2⟩ e (fun z => nomatch z) h
    refine ⟨fun M h _ J => J.type, fun M h K _ => looks_isType K k.cl, fun h tp dd its n sl K htp => ?_, fun K J q => exc_class_attr k K J q⟩
    refine Bool.eq_false_iff.mpr fun q => ?_
    have e : C = tp := Value.ref.inj (beq_iff_eq.mp q)
    subst e
    have z := k.cl
    unfold clsIn at z
    split at z
    · rename_i ho
      have y := (K _ _ ho).symm.trans htp
      cases y
    · cases z
/-- a class, as a value -/
def clsV : V → Option Value
  | .ty n => some (.type n)
  | .ref a => some (.ref a)
  | _ => none
theorem call_isinst : CallR X (.builtin "isinstance") (fun xs H Q => ∃ x c cv t b, xs = [x, c] ∧ clsV c = some cv ∧ TyE X.K H x t ∧ kitOne X.K t cv = some b ∧ Q (.bl b) H) := by
  intro pins s σ H xs us Q I r h
  obtain ⟨x, c, cv, t, b, rfl, hc, ty, e, q⟩ := h
  obtain ⟨u, v, rfl, ru, rv⟩ := Vals.two r
  have : v = cv := by
    cases c <;> simp only [clsV] at hc <;> first | (cases hc; exact rv) | cases hc
  subst this
  exact isinst_okE I ru ty e fun tk => ⟨.bl b, H, I.tok tk, rfl, q⟩
/-! ### == of data -/
mutual
/-- a value as data: flat ones, tuples and lists of such -/
inductive RdD (K : Frag) (H : Hp) : V → PyData → Prop where
  | non : RdD K H .non .none
  | bl (b : Bool) : RdD K H (.bl b) (.bool b)
  | int (i : Int) : RdD K H (.int i) (.int i)
  | str (x : Str) : RdD K H (.str x) (.str x)
  | tup {a : Addr} {xs : List V} {ds : List PyData} (h : SqT K H a xs) (r : RdDs K H xs ds) : RdD K H (.ref a) (.tuple ds)
  | lst {a : Addr} {xs : List V} {ds : List PyData} (h : SqL K H a xs) (r : RdDs K H xs ds) : RdD K H (.ref a) (.list ds)
inductive RdDs (K : Frag) (H : Hp) : List V → List PyData → Prop where
  | nil : RdDs K H [] []
  | cons {x : V} {xs : List V} {d : PyData} {ds : List PyData} (h : RdD K H x d) (r : RdDs K H xs ds) : RdDs K H (x :: xs) (d :: ds)
end
mutual
theorem RdD.reads {pins : List (Addr × Obj)} {σ : St} {H : Hp} {s : Shared} (I : Inv X pins σ H s) : ∀ {x : V} {d : PyData} {u : Value}, RdD X.K H x d → RelV x u → ∃ as, Reads s.heap u d as
  | _, _, _, .non, r => by cases r; exact ⟨_, .none⟩
  | _, _, _, .bl b, r => by cases r; exact ⟨_, .bool b⟩
  | _, _, _, .int i, r => by obtain ⟨t, rfl⟩ := r; exact ⟨_, .int i t⟩
  | _, _, _, .str x, r => by obtain ⟨t, rfl⟩ := r; exact ⟨_, .str x t⟩
  | _, _, _, .tup h q, r => by
    cases r
    obtain ⟨its, rv, ⟨o, e, c, n, d⟩, _⟩ := I.tuple h
    obtain ⟨as, z⟩ := RdDs.reads I q rv
    exact ⟨_, reads_tuple_at e c d (by simpa using z)⟩
  | _, _, _, .lst h q, r => by
    cases r
    obtain ⟨its, rv, p, _⟩ := I.list h
    obtain ⟨o, e, c, n, d⟩ := p.isList
    obtain ⟨as, z⟩ := RdDs.reads I q rv
    exact ⟨_, reads_list_at e c d (by simpa using z)⟩
theorem RdDs.reads {pins : List (Addr × Obj)} {σ : St} {H : Hp} {s : Shared} (I : Inv X pins σ H s) : ∀ {xs : List V} {ds : List PyData} {us : List Value}, RdDs X.K H xs ds → Vals xs us → ∃ as, ReadsAll s.heap us ds as
  | _, _, _, .nil, r => by cases r; exact ⟨_, .nil⟩
  | _, _, _, .cons h q, r => by
    cases r with
    | cons r1 r2 =>
      obtain ⟨as, z⟩ := RdD.reads I h r1
      obtain ⟨bs, y⟩ := RdDs.reads I q r2
      exact ⟨_, .cons z y⟩
end
def rEqD (K : Frag) (n : Bool) : R2 := fun x y H Q => ∃ d e, RdD K H x d ∧ RdD K H y e ∧ SeqAt.shaped d = true ∧ SeqAt.shaped e = true ∧ Q (.bl (if n then !PyData.eqv d e else PyData.eqv d e)) H
theorem op_eqD (hu : X.A.units + 64 < cLine) : OpR X (compareOp .Eq) (rEqD X.K false) := by
  intro pins s σ H x y v u Q I rx ry q
  obtain ⟨d, e, hx, hy, sd, se, q⟩ := q
  obtain ⟨as, z⟩ := hx.reads I rx
  obtain ⟨bs, z'⟩ := hy.reads I ry
  exact eq_dataH z z' sd se hu ⟨.bl (PyData.eqv d e), H, I, rfl, q⟩
/-! ### any(a list of bools) -/
theorem call_any (hc : X.A.handled = none) : CallR X (.builtin "any") (fun xs H Q => ∃ (l : Addr) (bs : List Bool), xs = [.ref l] ∧ SqL X.K H l (bs.map V.bl) ∧ Q (.bl (bs.any id)) H) := by
  intro pins s σ H xs us Q I r h
  obtain ⟨l, bs, rfl, hl, q⟩ := h
  obtain ⟨u, rfl, ru⟩ := Vals.one r
  cases ru
  obtain ⟨its, rv, p, hz⟩ := I.list hl
  obtain ⟨o, e, _⟩ := id p.isList
  have hlt : l < s.heap.objs.size := Heap.lt_size e
  have hlen : its.length = bs.length := by rw [← rv.length, List.length_map]
  refine call_any_walk (wpAny_pyIter_list p.isList ?_)
  refine ⟨s.heap.objs.size, [s.heap.objs.size, l], [s.heap.objs.size], its.toArray.size, _, _, fun i => (bs[i]?).getD false, rfl, Walks.list (A := X.A.in1) hc _ l (Nat.ne_of_lt hlt) its.toArray, ⟨⟨_, Heap.get?_push_size _ rfl, rfl, rfl⟩, p.isList.push _⟩, fun i v s' Q' E' hP hQ => ?_, fun h' tk hk => ?_⟩
  · have hP : its[i]? = some v := by simpa using hP
    have hi : i < bs.length := by rw [← hlen]; exact (List.getElem?_eq_some_iff.mp hP).1
    obtain ⟨u', hu', ru'⟩ := rv.get (i := i) (x := V.bl bs[i]) (by simp [hi])
    rw [hP] at hu'
    cases hu'
    cases ru'
    have z : (bs[i]?).getD false = bs[i] := by simp [hi]
    dsimp only at hQ
    rw [z] at hQ
    exact wpAny_truthy_bool hQ
  · have z : ((List.range its.toArray.size).any fun i => (bs[i]?).getD false) = bs.any id := by
      rw [List.size_toArray, hlen]
      exact LSm.range_any bs
    rw [z]
    exact ⟨.bl (bs.any id), H, I.kept fun b x e => hk b x (fun hm => by rw [List.mem_singleton.mp hm] at e; exact Nat.lt_irrefl _ (Heap.lt_size e)) (Heap.get?_push_of_some _ e), rfl, q⟩
/-! ### f'a {x} b': some text comes -/
/-- the parts of an f-string: written ones, and ints that are not too long -/
inductive FPart (X : Cx) : Expr → TE → Prop where
  | lit {x : Str} {j : Nat} {pos : Pos} : FPart X (.Constant (.str x) j pos) (tC (.str x))
  | int {v : Expr} {tv : TE} {pos : Pos} (h : PE X v tv) : FPart X (.FormattedValue v (-1) none pos) (fun σ H Q => tv σ H fun y H1 => ∃ i, y = .int i ∧ i.natAbs.log2 < 1920 ∧ Q (.str (toString i)) H1)
theorem FPart.pe {e : Expr} {t : TE} (h : FPart X e t) : PE X e t := by
  cases h with
  | lit => exact pe_str
  | int h =>
    intro pins s σ H Q I q
    refine FormattedValue_plain (thn (h pins s σ H _ I q) fun u s1 ⟨y, H1, I1, r, i, e, l, q⟩ => ?_)
    subst e
    obtain ⟨t, rfl⟩ := r
    exact formatField_int_small l ⟨.str (toString i), H1, I1.tok _, ⟨_, rfl⟩, q⟩
/-- the joined parts, from the left -/
inductive FParts (X : Cx) : List Expr → (Str → TE) → Prop where
  | nil : FParts X [] (fun out _ H Q => out.length ≤ sizeLine ∧ Q (.str out) H)
  | cons {e : Expr} {es : List Expr} {t : TE} {r : Str → TE} (h : FPart X e t) (hr : FParts X es r) : FParts X (e :: es) (fun out σ H Q => t σ H fun x H1 => ∃ y, x = .str y ∧ (out ++ y).length ≤ sizeLine ∧ r (out ++ y) σ H1 Q)
theorem FParts.run {es : List Expr} {t : Str → TE} (h : FParts X es t) : ∀ (out : Str) (pins : List (Addr × Obj)) (s : Shared) (σ : St) (H : Hp) (Q : VK), Inv X pins σ H s → t out σ H Q →
    wpAny (model X.prog X.w) X.A (joinParts out (evalEach es X.env)) (EP X pins σ Q) X.xe s := by
  induction h with
  | nil =>
    intro out pins s σ H Q I q
    exact joinParts_nil ⟨.str out, H, I.tok _, ⟨_, rfl⟩, q.2⟩ q.1
  | @cons e es t r h hr ih =>
    intro out pins s σ H Q I q
    show wpAny _ _ (joinParts out (eval e X.env :: evalEach es X.env)) _ _ _
    refine joinParts_cons (thn (h.pe pins s σ H _ I q) fun u s1 ⟨x, H1, I1, rx, y, ey, z, q⟩ => ?_)
    subst ey
    obtain ⟨t', rfl⟩ := rx
    exact ⟨z, ih _ pins s1 σ H1 Q I1 q⟩
theorem pe_fstr {e1 e2 : Expr} {es : List Expr} {t : Str → TE} {pos : Pos} (h : FParts X (e1 :: e2 :: es) t) : PE X (.JoinedStr (e1 :: e2 :: es) pos) (t Str.empty) := by
  intro pins s σ H Q I q
  exact JoinedStr_many (h.run _ pins s σ H Q I q)
end
end L2
set_option Elab.async false
set_option linter.all false
set_option maxRecDepth 100000
set_option maxHeartbeats 4000000
namespace L2
open PySem PySem.Spec PyProof.Rows PySem.W
/-! ### a def that is called within an except suite -/
structure RoomH (k : Nat) (A : Around) : Prop where
  dp : A.depth + 3 * k + 5 < recursionLimit
  un : A.units + 16 * k + 200 < cLine
theorem Room.h {k : Nat} {A : Around} (r : Room k A) : RoomH k A := ⟨r.dp, r.un⟩
theorem Room.hm {k : Nat} {A : Around} (r : Room k A) (h : Option Value) : RoomH k (A.mark h) := ⟨r.dp, r.un⟩
theorem RoomH.mono {j k : Nat} {A : Around} (r : RoomH k A) (h : j ≤ k) : RoomH j A := ⟨by have := r.dp; omega, by have := r.un; omega⟩
theorem RoomH.deeper {k : Nat} {A : Around} (r : RoomH (k + 1) A) (env : Env) : RoomH k (A.deeper env) :=
  ⟨by have := r.dp; show A.depth + 1 + 3 * k + 5 < _; omega, by have := r.un; show A.units + 3 + 16 * k + 200 < _; omega⟩
theorem RoomH.depth {k : Nat} {A : Around} (r : RoomH k A) : A.depth < recursionLimit := by have := r.dp; omega
def HdH (A : Around) (H : Hp) : Prop := A.handled = none ∨ ∃ x o u vs, A.handled = some (.ref x) ∧ H x = some (.frz o u) ∧ o.data = .fields vs ∧ vs[2]? = some .none
structure FnOkH (P : Program) (w : World) (K : Frag) (mg : Str → Option Value) (base : Heap) (k : Nat) (f : Addr) (fd : FuncData) (ps : List Str) (sp : Sp) : Prop where
  len : ∀ vs H Q E, sp vs H Q E → vs.length = ps.length
  run : ∀ (A : Around) (outer : List Env) (s : Shared) (H : Hp) (args : Args) (us : List Value) (vs : List V) (Q : VK), RoomH k A → Env0 P w K mg base A outer s H → HdH A H → BindsTo s fd args (ps.zip us) → Vals vs us → sp vs H Q E0 →
    codeAny (model P w) A (.call (.ref f) args) (CR CX0 outer P w H s Q E0) s
/-- A without what is handled -/
abbrev quiet (A : Around) : Around := { A with handled := none }
theorem Env0.quiet {P : Program} {w : World} {K : Frag} {mg : Str → Option Value} {base : Heap} {A : Around} {outer : List Env} {s : Shared} {H : Hp} (e : Env0 P w K mg base A outer s H) : Env0 P w K mg base (quiet A) outer s H :=
  ⟨e.frames, e.mod, e.bs, e.bsz, e.funs, e.frf, e.hok, e.bare⟩
section
variable {P : Program} {w : World} {K : Frag} {mg : Str → Option Value} {base : Heap}
/-- it may be called elsewhere too -/
theorem FnOkH.calm {k : Nat} {f : Addr} {fd : FuncData} {ps : List Str} {sp : Sp} (F : FnOkH P w K mg base k f fd ps sp) (h : ∀ vs H Q E, sp vs H Q E → sp vs H Q E0) : FnOk P w K mg base CX0 k f fd ps sp := by
  refine ⟨F.len, fun A outer s H args us vs Q E hr e0 hb r hsp => codeAny_mono (F.run A outer s H args us vs Q hr.h e0 (.inl hr.hd) hb r (h _ _ _ _ hsp)) fun r s' q => ?_⟩
  cases r with
  | error e => exact q
  | ok fl => cases fl <;> exact q
end
section
variable {X : Cx} {k : Nat} {f : Addr} {fd : FuncData} {ps : List Str} {sp : Sp} {x : Str} {p pos : Pos} {e : Expr} {es : List Expr} {t : TA}
end
end L2
set_option Elab.async false
set_option linter.all false
set_option maxRecDepth 100000
set_option maxHeartbeats 4000000
namespace L2
open PySem PySem.Spec PyProof.Rows PySem.W
/-! ### {} -/
theorem Inv.big {X : Cx} {pins : List (Addr × Obj)} {σ : St} {H : Hp} {s : Shared} (I : Inv X pins σ H s) : sysModules < s.heap.objs.size := by
  have h : mainGlobals < s.heap.objs.size := (I.mod.glob.keeps I.bk).lt
  exact Nat.lt_trans (by decide) h
theorem dk_empty {P : Program} {w : World} {H : Hp} (h : Heap) (hb : sysModules < h.objs.size) : ObjOk P w H (h.push { cls := .type "dict", data := .dict #[] }) h.objs.size (.dK []) :=
  ⟨Nat.zero_le _, beq_eq_false_iff_ne.mpr (Ne.symm (Nat.ne_of_lt hb)), [], .nil, Heap.DictOf.new h⟩
def tDNewK : TE := fun _ H Q => ∀ p, H p = none → Q (.ref p) (upd H p (.dK []))
theorem pe_dnewK {X : Cx} {pos : Pos} : PE X (.Dict [] [] pos) tDNewK := fun pins s σ H Q I h =>
  wpAny_Dict_empty ⟨.ref s.heap.objs.size, _, I.laid (a := s.heap.objs.size) (o := .dK []) (t' := s.toks) (fun _ _ q => Heap.get?_push_of_some _ q) (Nat.le_refl _) (dk_empty s.heap I.big), rfl, h _ (I.hok.fresh (Nat.le_refl _))⟩
/-! ### where no exception may come -/
abbrev EKF : EK := fun _ _ _ _ => False
theorem catches0 {X : Cx} : Catches X EKF := fun _ _ _ _ _ _ _ _ _ _ h => h.elim
theorem Catches.mono {X : Cx} {E E' : EK} (h : Catches X E) (k : ∀ C d σ H, E' C d σ H → E C d σ H) : Catches X E' := fun pins σ H s a t C dd I F q => h pins σ H s a t C dd I F (k _ _ _ _ q)
/-! ### a def of the text -/
structure Def (K : Frag) (mg : Str → Option Value) (x : Str) (ps : List Str) (st : Stmt) (f : Addr) (fd : FuncData) : Prop where
  F : Fun K x x st f fd
  g : mg x = some (.ref f)
  b : Binds K fd ps []
theorem def_mk {K : Frag} {h : Heap} {mg : Str → Option Value} {x : Str} {ps : List Str} {st : Stmt} {f : Addr} {oc : Value} {od an : Option Addr} {osl : Array (Option Value)} {kV doc pm cdv ct : Value} (X : K.In h) (G : h.Ns mainGlobals mg)
    (a : nsIn K mainGlobals x = some (some (.ref f))) (l : K.lookup f = some ⟨oc, od, .func (fnOf x x (defArgs st) (defBody st) (defScope st) .none kV doc pm an cdv ct), osl⟩) (c : codeIn K cdv x = true) (k : keepIn K (.ref f) = true)
    (hb : ∀ (kV doc pm : Value) (an : Option Addr) (cdv ct : Value) (us : List Value), us.length = ps.length → bindArgs (fnOf x x (defArgs st) (defBody st) (defScope st) .none kV doc pm an cdv ct) ⟨us, []⟩ = pure (ps.zip us)) :
    Def K mg x ps st f (fnOf x x (defArgs st) (defBody st) (defScope st) .none kV doc pm an cdv ct) :=
  ⟨fun_mk (st := st) l c k, mg_of X G a, (fun_mk (st := st) l c k).binds hb⟩
theorem iteDF {c A B : Prop} [Decidable c] (h : ¬ c) (b : B) : if decide c = true then A else B := by rw [decide_eq_false h]; exact iteF b
theorem iteDT {c A B : Prop} [Decidable c] (h : c) (a : A) : if decide c = true then A else B := by rw [decide_eq_true h]; exact iteT a
theorem iteD {c A B : Prop} [Decidable c] (a : c → A) (b : ¬ c → B) : if decide c = true then A else B := by
  by_cases h : c
  · exact iteDT h (a h)
  · exact iteDF h (b h)
/-! ### ways that meet again -/
def tJoin (t : TS) : TS := fun D σ H => ∃ J : St → Hp → Prop, t { D with nx := J } σ H ∧ ∀ σ' H', J σ' H' → D.nx σ' H'
theorem ps_join {X : Cx} {st : Stmt} {t : TS} (h : PS X st t) : PS X st (tJoin t) := by
  intro pins s σ H D I q
  obtain ⟨J, q, k⟩ := q
  refine thn (h pins s σ H _ I q) fun f s' z => ?_
  cases f with
  | next => obtain ⟨σ', H', I', y⟩ := z; exact ⟨σ', H', I', k _ _ y⟩
  | brk => exact z
  | cont => exact z
  | ret u => exact z
/-- an item of a list of ints at an open place -/
theorem ixs {xs : List Int} {i : Int} (h0 : 0 ≤ i) (h1 : i < xs.length) : ∃ v, v ∈ xs ∧ atI (xs.map V.int) i = some (.int v) := by
  obtain ⟨j, rfl⟩ := Int.eq_ofNat_of_zero_le h0
  have hj : j < xs.length := by omega
  exact ⟨xs[j], List.getElem_mem hj, atI_nat (by simp [hj])⟩
theorem ixv {xs : List V} {i : Int} (h0 : 0 ≤ i) (h1 : i < xs.length) : ∃ v, v ∈ xs ∧ atI xs i = some v := by
  obtain ⟨j, rfl⟩ := Int.eq_ofNat_of_zero_le h0
  have hj : j < xs.length := by omega
  exact ⟨xs[j], List.getElem_mem hj, atI_nat (by simp [hj])⟩
theorem Same.upd {H : Hp} {p : Addr} {o : HO} (h : H p = none) : Same H (L2.upd H p o) := fun b u e => by rw [upd_ne (ne_of_none e h)]; exact e
theorem line1000 {n : Nat} (h : n ≤ 1000) : n ≤ sizeLine := Nat.le_of_lt (small1000 h)
section
variable {X : Cx} {k j : Nat} {f : Addr} {fd : FuncData} {ps : List Str} {sp : Sp} {EH : EK} {x : Str} {st : Stmt} {p pos : Pos} {e : Expr} {es : List Expr} {t : TA}
/-- f(..) -/
theorem pcall (D : Def X.K X.mg x ps st f fd) (F : FnOk X.prog X.w X.K X.mg X.base (CX1 X.prog X.w) j f fd ps sp) (hr : Room k X.A) (hx : Catches X EH) (ha : PA X (e :: es) t) (hj : j ≤ k := by decide) (hg : Gl X x := by rfl) (hex : X.ex = [] := by rfl) (hdb : (x == ("__debug__" : Str)) = false := by decide)
    (he : starEach (e :: es) X.env = (false, eval e X.env) :: starEach es X.env := by rfl) (hpl : (backTo pos (starEach es X.env)).any (·.1) = false := by rfl) : PE X (.Call (.Name x p) (e :: es) [] pos) (tCallE sp [] EH t) :=
  pe_callE (F.mono hj) hr hg D.g D.F.kp D.b .nil hx ha hex hdb he hpl
theorem pcall0 (D : Def X.K X.mg x ps st f fd) (F : FnOk X.prog X.w X.K X.mg X.base (CX1 X.prog X.w) j f fd ps sp) (hr : Room k X.A) (hx : Catches X EH) (hj : j ≤ k := by decide) (hg : Gl X x := by rfl) (hex : X.ex = [] := by rfl) (hdb : (x == ("__debug__" : Str)) = false := by decide) :
    PE X (.Call (.Name x p) [] [] pos) (tCallE sp [] EH tNil) :=
  pe_call0E (F.mono hj) hr hg D.g D.F.kp D.b .nil hx hex hdb
/-- a type of Python's own, as a value -/
theorem pty {n : Str} {T : String} (hm : X.mg n = none) (hv : bootBuiltins n = some (.type T)) (hg : Gl X n := by rfl) (hn : n ≠ "__name__" := by decide) (hdb : (n == ("__debug__" : Str)) = false := by decide) : PE X (.Name n pos) (tC (.ty T)) := pe_bltn hg hm hv rfl hn hdb
/-- a class of the text, as a value -/
theorem pcls {n : Str} {C : Addr} (hm : X.mg n = some (.ref C)) (hg : Gl X n := by rfl) (hdb : (n == ("__debug__" : Str)) = false := by decide) : PE X (.Name n pos) (tC (.ref C)) := pe_glob hg hm rfl hdb
/-- isinstance(a, b) -/
theorem pisi {a b : Expr} {ta tb : TE} (hm : X.mg "isinstance" = none) (ha : PE X a ta) (hb : PE X b tb) (hg : Gl X "isinstance" := by rfl)
    (h1 : starEach [a, b] X.env = (false, eval a X.env) :: starEach [b] X.env := by rfl) (h2 : starEach [b] X.env = (false, eval b X.env) :: starEach [] X.env := by rfl) (h3 : (backTo pos (starEach [b] X.env)).any (·.1) = false := by rfl) :
    PE X (.Call (.Name "isinstance" p) [a, b] [] pos) (tCB (fun xs H Q => ∃ x c cv t b, xs = [x, c] ∧ clsV c = some cv ∧ TyE X.K H x t ∧ kitOne X.K t cv = some b ∧ Q (.bl b) H) (tCons ta (tCons tb tNil))) :=
  pe_callB call_isinst hg hm boot_isinstance (pa_cons ha (pa_cons hb pa_nil h2) h1) (he := h1) (hpl := h3)
theorem pisiK {K : Frag} {a b : Expr} {ta tb : TE} (hK : X.K = K) (hm : X.mg "isinstance" = none) (ha : PE X a ta) (hb : PE X b tb) (hg : Gl X "isinstance" := by rfl)
    (h1 : starEach [a, b] X.env = (false, eval a X.env) :: starEach [b] X.env := by rfl) (h2 : starEach [b] X.env = (false, eval b X.env) :: starEach [] X.env := by rfl) (h3 : (backTo pos (starEach [b] X.env)).any (·.1) = false := by rfl) :
    PE X (.Call (.Name "isinstance" p) [a, b] [] pos) (tCB (fun xs H Q => ∃ x c cv t b, xs = [x, c] ∧ clsV c = some cv ∧ TyE K H x t ∧ kitOne K t cv = some b ∧ Q (.bl b) H) (tCons ta (tCons tb tNil))) := by
  subst hK
  exact pisi hm ha hb hg h1 h2 h3
end
end L2
set_option Elab.async false
set_option linter.all false
set_option maxRecDepth 100000
set_option maxHeartbeats 4000000
namespace L2
open PySem PySem.Spec PyProof.Rows PySem.W
/-! ### readings that name no inner state -/
section
variable {X : Cx} {k j : Nat} {f : Addr} {fd : FuncData} {ps : List Str} {sp : Sp} {x : Str} {st : Stmt} {p pos : Pos} {e : Expr} {es : List Expr} {t : TA}
theorem op_eqDK {K : Frag} (hK : X.K = K) (hu : X.A.units + 64 < cLine) : OpR X (compareOp .Eq) (rEqD K false) := by subst hK; exact op_eqD hu
end
end L2
set_option Elab.async false
set_option linter.all false
set_option maxRecDepth 100000
set_option maxHeartbeats 4000000
namespace L2
open PySem PySem.Spec PyProof.Rows PySem.W
section
variable {X : Cx} {k j : Nat} {f C : Addr} {fd : FuncData} {ps : List Str} {sp : Sp} {dvs : List V} {ds : List Value} {EH : EK} {x m : Str} {p pos apos : Pos} {e o : Expr} {es : List Expr} {ta : TE} {t : TA}
end
/-! ### texts -/
theorem notLong {n : Nat} (h : n ≤ sizeLine) : Builtin.Str.tooLong n = false := by
  unfold Builtin.Str.tooLong
  exact decide_eq_false (by omega)
section
variable {X : Cx}
end
end L2
set_option Elab.async false
set_option linter.all false
set_option maxRecDepth 100000
set_option maxHeartbeats 4000000
namespace L2
open PySem PySem.Spec PyProof.Rows PySem.W
/-! ### a def with defaults -/
structure FunD (K : Frag) (x qual : Str) (st : Stmt) (dV : Value) (f : Addr) (fd : FuncData) : Prop where
  ex : ∃ (oc : Value) (od : Option Addr) (kV doc pm : Value) (an : Option Addr) (cdv ct : Value) (osl : Array (Option Value)),
    fd = fnOf x qual (defArgs st) (defBody st) (defScope st) dV kV doc pm an cdv ct ∧ K.lookup f = some ⟨oc, od, .func fd, osl⟩ ∧ codeIn K cdv qual = true
  kp : keepIn K (.ref f) = true
section
variable {P : Program} {w : World} {K : Frag} {mg : Str → Option Value} {base : Heap}
theorem FunD.okE {x qual : Str} {st : Stmt} {dV : Value} {f : Addr} {fd : FuncData} {N ps : List Str} {k : Nat} {sp : Sp} (F : FunD K x qual st dV f fd) (S : FnScope N ps (defScope st)) (len : ∀ vs H Q E, sp vs H Q E → vs.length = ps.length)
    (hbody : ∀ (X : Cx) (cdv : Value) (A : Around) (outer : List Env) (s : Shared) (H : Hp) (vs : List V) (Q : VK) (E : XK), X = cxOf (CX1 P w) P w K mg base N qual (defScope st) f cdv A outer s H E → Room k X.A → Catches X (fun C dd _ H' => E C dd H') → sp vs H Q E →
      ∃ t, PSs (cxOf (CX1 P w) P w K mg base N qual (defScope st) f cdv A outer s H E) (defBody st) t ∧ t { nx := fun _ H' => Q .non H', rt := Q } (start N vs) H) : FnOk P w K mg base (CX1 P w) (k + 1) f fd ps sp := by
  obtain ⟨oc, od, kV, doc, pm, an, cdv, ct, osl, rfl, lk, hc⟩ := F.ex
  exact fn_of lk hc S len fun A outer s H vs Q E hr h => hbody _ cdv A outer s H vs Q E rfl hr catches_fn h
end
/-! ### C(.., k = v, ..) -/
section
variable {X : Cx} {k j : Nat} {f C : Addr} {fd : FuncData} {ps ks : List Str} {sp : Sp} {EH : EK} {x m : Str} {p pos apos : Pos} {e o : Expr} {es : List Expr} {kws : List Keyword} {ta : TE} {t tk : TA} {g : List Value → List Value → List Value} {gV : List V → List V → List V}
end
end L2
namespace L2
open PySem PySem.Spec PyProof.Rows PySem.W
/-! ### readings that name no inner context -/
section
variable {X : Cx} {K : Frag} {e : Expr} {f : Str} {pos : Pos} {ta : TE}
theorem pe_fldK (h : X.K = K) (he : PE X e ta) (hb : attributeBase e f X.env (eval e X.env) = eval e X.env) : PE X (.Attribute e f pos) (tFld K ta f) := by subst h; exact pe_fld he hb
theorem op_notIn_seqK (h : X.K = K) : OpR X (compareOp .NotIn) (rIn K true) := by subst h; exact op_notIn_seq
end
end L2
set_option Elab.async false
set_option linter.all false
set_option maxRecDepth 100000
set_option maxHeartbeats 4000000
namespace TR
open PySem L2 PySem.W PyProof.Rows
/-- names of Python's own: the text binds none of them -/
structure Own (mg : Str → Option Value) : Prop where
  isi : mg "isinstance" = none
  int_ : mg "int" = none
  bool_ : mg "bool" = none
  str_ : mg "str" = none
  list_ : mg "list" = none
  tuple_ : mg "tuple" = none
  dict_ : mg "dict" = none
  len_ : mg "len" = none
  range_ : mg "range" = none
  min_ : mg "min" = none
  max_ : mg "max" = none
  abs_ : mg "abs" = none
  any_ : mg "any" = none
  all_ : mg "all" = none
  sum_ : mg "sum" = none
  repr_ : mg "repr" = none
  enumerate_ : mg "enumerate" = none
  reversed_ : mg "reversed" = none
  zip_ : mg "zip" = none
  sorted_ : mg "sorted" = none
  divmod_ : mg "divmod" = none
  set_ : mg "set" = none
  ValueError_ : mg "ValueError" = none
/-- kinds of Python's own -/
structure Kit (K : Frag) : Prop where
  int_int : kitOne K (.type "int") (.type "int") = some true
  int_bool : kitOne K (.type "int") (.type "bool") = some false
  int_str : kitOne K (.type "int") (.type "str") = some false
  int_list : kitOne K (.type "int") (.type "list") = some false
  int_tuple : kitOne K (.type "int") (.type "tuple") = some false
  int_dict : kitOne K (.type "int") (.type "dict") = some false
  bool_int : kitOne K (.type "bool") (.type "int") = some true
  bool_bool : kitOne K (.type "bool") (.type "bool") = some true
  bool_str : kitOne K (.type "bool") (.type "str") = some false
  bool_list : kitOne K (.type "bool") (.type "list") = some false
  bool_tuple : kitOne K (.type "bool") (.type "tuple") = some false
  bool_dict : kitOne K (.type "bool") (.type "dict") = some false
  str_int : kitOne K (.type "str") (.type "int") = some false
  str_bool : kitOne K (.type "str") (.type "bool") = some false
  str_str : kitOne K (.type "str") (.type "str") = some true
  str_list : kitOne K (.type "str") (.type "list") = some false
  str_tuple : kitOne K (.type "str") (.type "tuple") = some false
  str_dict : kitOne K (.type "str") (.type "dict") = some false
  list_int : kitOne K (.type "list") (.type "int") = some false
  list_bool : kitOne K (.type "list") (.type "bool") = some false
  list_str : kitOne K (.type "list") (.type "str") = some false
  list_list : kitOne K (.type "list") (.type "list") = some true
  list_tuple : kitOne K (.type "list") (.type "tuple") = some false
  list_dict : kitOne K (.type "list") (.type "dict") = some false
  tuple_int : kitOne K (.type "tuple") (.type "int") = some false
  tuple_bool : kitOne K (.type "tuple") (.type "bool") = some false
  tuple_str : kitOne K (.type "tuple") (.type "str") = some false
  tuple_list : kitOne K (.type "tuple") (.type "list") = some false
  tuple_tuple : kitOne K (.type "tuple") (.type "tuple") = some true
  tuple_dict : kitOne K (.type "tuple") (.type "dict") = some false
  dict_int : kitOne K (.type "dict") (.type "int") = some false
  dict_bool : kitOne K (.type "dict") (.type "bool") = some false
  dict_str : kitOne K (.type "dict") (.type "str") = some false
  dict_list : kitOne K (.type "dict") (.type "list") = some false
  dict_tuple : kitOne K (.type "dict") (.type "tuple") = some false
  dict_dict : kitOne K (.type "dict") (.type "dict") = some true
  NoneType_int : kitOne K (.type "NoneType") (.type "int") = some false
  NoneType_bool : kitOne K (.type "NoneType") (.type "bool") = some false
  NoneType_str : kitOne K (.type "NoneType") (.type "str") = some false
  NoneType_list : kitOne K (.type "NoneType") (.type "list") = some false
  NoneType_tuple : kitOne K (.type "NoneType") (.type "tuple") = some false
  NoneType_dict : kitOne K (.type "NoneType") (.type "dict") = some false
/-- v is of Python's kind t -/
theorem tyInt {K : Frag} {H : Hp} (i : Int) : TyE K H (.int i) (.type "int") := .of (.int i)
theorem TyOf.same {K : Frag} {H H' : Hp} {x : V} {t : Value} (h : TyOf K H x t) (e : Same H H') : TyOf K H' x t := by
  cases h with
  | non => exact .non
  | bl x => exact .bl x
  | int i => exact .int i
  | str x => exact .str x
  | flt x => exact .flt x
  | lst z => exact .lst (e _ _ z)
  | frz z => exact .frz (e _ _ z)
  | tup z => exact .tup (e _ _ z)
  | dK z => exact .dK (e _ _ z)
  | dT z => exact .dT (e _ _ z)
  | ins z a b c d f => exact .ins (e _ _ z) a b c d f
theorem TyE.same {K : Frag} {H H' : Hp} {x : V} {t : Value} (h : TyE K H x t) (e : Same H H') : TyE K H' x t := by
  cases h with
  | of h => exact .of (TyOf.same h e)
  | exc z k => exact .exc (e _ _ z) k
  | excD z d k => exact .excD (e _ _ z) (e _ _ d) k
  | tupK l c => exact .tupK l c
/-- a whole number from lo to hi -/
def GoodV (lo hi : Int) (v : V) : Prop := ∃ i, v = .int i ∧ lo ≤ i ∧ i ≤ hi
/-- no whole number from lo to hi -/
def BadV (K : Frag) (H : Hp) (lo hi : Int) (v : V) : Prop := ∃ t b1 b2, TyE K H v t ∧ kitOne K t (.type "int") = some b1 ∧ kitOne K t (.type "bool") = some b2 ∧ ((b1 && !b2) = false ∨ ∃ i, v = .int i ∧ (i < lo ∨ hi < i))
theorem BadV.same {K : Frag} {H H' : Hp} {lo hi : Int} {v : V} (h : BadV K H lo hi v) (e : Same H H') : BadV K H' lo hi v := by
  obtain ⟨t, b1, b2, ty, r⟩ := h
  exact ⟨t, b1, b2, TyE.same ty e, r⟩
section
variable {K : Frag} {H : Hp} {lo hi : Int}
end
/-- H' has all of H, but perhaps p -/
def Exc (p : Addr) (H H' : Hp) : Prop := ∀ b o, H b = some o → b ≠ p → H' b = some o
theorem Exc.refl (p : Addr) (H : Hp) : Exc p H H := fun _ _ h _ => h
theorem Exc.trans {p : Addr} {H H1 H2 : Hp} (a : Exc p H H1) (b : Exc p H1 H2) : Exc p H H2 := fun c o h n => b c o (a c o h n) n
theorem Exc.upd {p : Addr} {H : Hp} {o : HO} : Exc p H (L2.upd H p o) := fun b u e n => by rw [upd_ne n]; exact e
theorem Exc.of {p : Addr} {H H' : Hp} (s : Same H H') : Exc p H H' := fun b o h _ => s b o h
/-- what is new to H may change -/
theorem Exc.same {p : Addr} {H H' : Hp} (n : H p = none) (x : Exc p H H') : Same H H' := fun b o h => x b o h (ne_of_none h n)
end TR
set_option Elab.async false
set_option linter.all false
set_option maxRecDepth 100000
set_option maxHeartbeats 4000000
namespace TR
open PySem L2 PySem.W PyProof.Rows
/-- the classes that the words are of -/
structure Fits (K : Frag) (C C1 C2 C3 C4 C5 : Addr) (b1 b2 b3 b4 b5 : Bool) : Prop where
  k : ExcK K C
  h1 : kitOne K (.ref C) (.ref C1) = some b1
  h2 : kitOne K (.ref C) (.ref C2) = some b2
  h3 : kitOne K (.ref C) (.ref C3) = some b3
  h4 : kitOne K (.ref C) (.ref C4) = some b4
  h5 : kitOne K (.ref C) (.ref C5) = some b5
  hv : kitOne K (.ref C) (.type "ValueError") = some true
/-- an exception that was taken, of the class C: its dict none, or one -/
def ExcAt (H : Hp) (a C : Addr) (d : Option Addr) : Prop := ∃ t T u, H a = some (.frz (ExcO (.ref C) t d (.ref T)) u) ∧ ∀ x, d = some x → ∃ fs, H x = some (.xd fs)
theorem ExcAt.same {H H' : Hp} {a C : Addr} {d : Option Addr} (h : ExcAt H a C d) (s : Same H H') : ExcAt H' a C d := by
  obtain ⟨t, T, u, e, k⟩ := h
  exact ⟨t, T, u, s _ _ e, fun x z => let ⟨fs, q⟩ := k x z; ⟨fs, s _ _ q⟩⟩
theorem ExcAt.ty {K : Frag} {H : Hp} {a C : Addr} {d : Option Addr} (h : ExcAt H a C d) (k : ExcK K C) : TyE K H (.ref a) (.ref C) := by
  obtain ⟨t, T, u, e, q⟩ := h
  cases d with
  | none => exact .exc e k
  | some x =>
    obtain ⟨fs, z⟩ := q x rfl
    exact .excD e z k
theorem len1 : ∀ {us : List Value}, us.length = 1 → ∃ a, us = [a]
  | [a], _ => ⟨a, rfl⟩
theorem len2 : ∀ {us : List Value}, us.length = 2 → ∃ a b, us = [a, b]
  | [a, b], _ => ⟨a, b, rfl⟩
theorem len3 : ∀ {us : List Value}, us.length = 3 → ∃ a b c, us = [a, b, c]
  | [a, b, c], _ => ⟨a, b, c, rfl⟩
theorem len4 : ∀ {us : List Value}, us.length = 4 → ∃ a b c d, us = [a, b, c, d]
  | [a, b, c, d], _ => ⟨a, b, c, d, rfl⟩
theorem len5 : ∀ {us : List Value}, us.length = 5 → ∃ a b c d e, us = [a, b, c, d, e]
  | [a, b, c, d, e], _ => ⟨a, b, c, d, e, rfl⟩
end TR
set_option Elab.async false
set_option linter.all false
set_option maxRecDepth 100000
set_option maxHeartbeats 4000000
namespace L2
open PySem PySem.Spec PyProof.Rows
section
variable {κ : Type} [DecidableEq κ]
def valV (kvs : List (κ × V)) (k : κ) : Option V := (kvs.find? fun kv => decide (kv.1 = k)).map (·.2)
/-- in its place, or at the end -/
def putK (kvs : List (κ × V)) (k : κ) (v : V) : List (κ × V) :=
  if (kvs.any fun kv => decide (kv.1 = k)) = true then kvs.map (fun kv => if kv.1 = k then (kv.1, v) else kv) else kvs ++ [(k, v)]
def dropK (kvs : List (κ × V)) (k : κ) : List (κ × V) := kvs.filter fun kv => decide (kv.1 ≠ k)

theorem RelO.getD {o : Option V} {u : Option Value} {d : V} {d' : Value} (r : RelO o u) (rd : RelV d d') : RelV (o.getD d) (u.getD d') := by
  cases o with
  | none => cases u with
    | none => exact rd
    | some _ => exact (show False from r).elim
  | some _ => cases u with
    | none => exact (show False from r).elim
    | some _ => exact r

theorem KV.any {kvs : List (κ × V)} {vs : List (κ × Value)} (r : KV kvs vs) (k : κ) : (kvs.any fun kv => decide (kv.1 = k)) = vs.any fun kv => decide (kv.1 = k) := by
  unfold KV at r
  induction r with
  | nil => rfl
  | cons h t ih => rw [List.any_cons, List.any_cons, ih, h.1]
theorem KV.drop {kvs : List (κ × V)} {vs : List (κ × Value)} (r : KV kvs vs) (k : κ) : KV (dropK kvs k) (without vs k) := by
  unfold KV at r ⊢
  unfold dropK without
  induction r with
  | nil => exact .nil
  | @cons p q ps qs h t ih =>
    obtain ⟨h1, h2⟩ := h
    rw [List.filter_cons, List.filter_cons]
    by_cases e : p.1 = k
    · have a : ¬ decide (p.1 ≠ k) = true := by simp [e]
      have b : ¬ decide (q.1 ≠ k) = true := by simp [h1.symm.trans e]
      rw [if_neg a, if_neg b]; exact ih
    · have e' : ¬ q.1 = k := fun z => e (h1.trans z)
      have a : decide (p.1 ≠ k) = true := by simp [e]
      have b : decide (q.1 ≠ k) = true := by simp [e']
      rw [if_pos a, if_pos b]; exact .cons ⟨h1, h2⟩ ih
theorem KV.keys {kvs : List (κ × V)} {vs : List (κ × Value)} (r : KV kvs vs) : kvs.map (·.1) = vs.map (·.1) := by
  unfold KV at r
  induction r with
  | nil => rfl
  | cons h t ih => rw [List.map_cons, List.map_cons, ih, h.1]
theorem KV.length {kvs : List (κ × V)} {vs : List (κ × Value)} (r : KV kvs vs) : kvs.length = vs.length := Paired.length r
end


/-! ### a tracked dict, its keys ints and texts or tuples of these -/
theorem kV_is {P : Program} {w : World} {k : Key} {u : Value} (r : RelV (kV k) u) : (mixKind P w).is k u = true := by
  cases k with
  | inl i => obtain ⟨t, e⟩ := (show ∃ t, u = Value.int i t from r); subst e; exact mixKind_int P w i t
  | inr x => obtain ⟨t, e⟩ := (show ∃ t, u = Value.str x t from r); subst e; exact mixKind_str P w x t
/-- raw entries of a dict with tuple keys -/
abbrev KT (H : Hp) : List (List Key × V) → List (List Key × Addr × Value) → Prop := Paired fun p q => p.1 = q.1 ∧ H q.2.1 = some (.tup (p.1.map kV)) ∧ RelV p.2 q.2.2
theorem KT.keeps {H H' : Hp} {kvs : List (List Key × V)} {xs : List (List Key × Addr × Value)} (r : KT H kvs xs) (ht : ∀ b ys, H b = some (.tup ys) → H' b = some (.tup ys)) : KT H' kvs xs :=
  Paired.mapP r fun _ _ z => ⟨z.1, ht _ _ z.2.1, z.2.2⟩

section
variable {P : Program} {w : World} {H : Hp} {h : Heap} {a : Addr}
end

/-- what the dict at a holds at the key y -/
def DGet (H : Hp) (a : Addr) (y : V) (r : Option V) : Prop :=
  (∃ kvs k, Rd H a (.dK kvs) ∧ y = kV k ∧ r = valV kvs k) ∨ ∃ kvs k b, Rd H a (.dT kvs) ∧ y = .ref b ∧ H b = some (.tup (k.map kV)) ∧ r = valV kvs k
/-- the heap behind a[y] = v -/
def DPut (H : Hp) (a : Addr) (y v : V) (H' : Hp) : Prop :=
  (∃ kvs k, H a = some (.dK kvs) ∧ y = kV k ∧ kvs.length < sizeLine ∧ H' = upd H a (.dK (putK kvs k v))) ∨
  ∃ kvs k b, H a = some (.dT kvs) ∧ y = .ref b ∧ H b = some (.tup (k.map kV)) ∧ kvs.length < sizeLine ∧ H' = upd H a (.dT (putK kvs k v))
theorem DGet.k {H : Hp} {a : Addr} {kvs : List (Key × V)} {k : Key} (e : H a = some (.dK kvs)) : DGet H a (kV k) (valV kvs k) := .inl ⟨kvs, k, .inl e, rfl, rfl⟩
theorem DGet.t {H : Hp} {a b : Addr} {kvs : List (List Key × V)} {k : List Key} (e : H a = some (.dT kvs)) (eb : H b = some (.tup (k.map kV))) : DGet H a (.ref b) (valV kvs k) := .inr ⟨kvs, k, b, .inl e, rfl, eb, rfl⟩
theorem DPut.k {H : Hp} {a : Addr} {kvs : List (Key × V)} {k : Key} {v : V} (e : H a = some (.dK kvs)) (hl : kvs.length < sizeLine) : DPut H a (kV k) v (upd H a (.dK (putK kvs k v))) := .inl ⟨kvs, k, e, rfl, hl, rfl⟩
theorem DPut.t {H : Hp} {a b : Addr} {kvs : List (List Key × V)} {k : List Key} {v : V} (e : H a = some (.dT kvs)) (eb : H b = some (.tup (k.map kV))) (hl : kvs.length < sizeLine) :
    DPut H a (.ref b) v (upd H a (.dT (putK kvs k v))) := .inr ⟨kvs, k, b, e, rfl, eb, hl, rfl⟩


section
variable {X : Cx} {pins : List (Addr × Obj)} {σ : St} {H : Hp} {s : Shared} {a : Addr} {y v : V} {u r : Value} {o : Option V} {A : Around} {E : Value → Shared → Prop}

end

section
variable {X : Cx} {pins : List (Addr × Obj)} {σ : St} {H : Hp} {s : Shared} {a : Addr} {kvs : List (Key × V)} {k : Key} {u : Value} {A : Around} {E : Value → Shared → Prop}
end


section
variable {X : Cx} {o i e value : Expr} {pos pos' tpos : Pos} {td ty tv : TE}
end


section
variable {X : Cx} {pos : Pos}
end

end L2
set_option Elab.async false
set_option linter.all false
set_option maxRecDepth 100000
set_option maxHeartbeats 4000000
namespace L2
open PySem PySem.Spec PyProof.Rows PySem.W
/-! ### [elt for target in iter if c] that reads names of its def -/
/-- the cells that it takes along -/
def clOf (F : List Str) (env : Env) : List (Str × Addr) := F.map fun x => (x, (env.cells.lookup x).getD 0)
/-- their values -/
def fvOf (js : List Nat) (σ : St) : St := js.map fun j => (σ[j]?).getD none
abbrev Cx.compF (X : Cx) (scope : Scope) (N F : List Str) (C : Addr) (s₀ : Shared) (H₀ : Hp) (ex : List Addr) (pins : List (Addr × Obj)) : Cx :=
  { X with N := N ++ F, s₀ := s₀, H₀ := H₀, env := compEnvC scope (clOf F X.env) C X.env, outer := X.stack, ex := ex, fn := fun _ => false, pn := pins, xe := fun _ _ => False }
structure CompScopeF (N F : List Str) (js : List Nat) (sc : Scope) (XN : List Str) (env : Env) : Prop where
  kind : sc.kind = .function
  cell : ∀ y ∈ sc.names, y.2 ≠ .cell
  loc : ∀ y ∈ sc.names, y.2 = .local → sc.names.lookup y.1 = some .local
  nd : (N ++ F).Nodup
  clos : closureFor sc env = pure (clOf F env)
  fr : ∀ y ∈ (relabel sc env).names, y.2 = .cell ∨ y.2 = .free → y.1 ∈ F
  at_ : ∀ (k : Nat) (x : Str), F[k]? = some x → (∃ j : Nat, js[k]? = some j ∧ XN[j]? = some x) ∧ (∃ c, env.cells.lookup x = some c) ∧ env.kindOf x = some .cell ∧ (relabel sc env).names.lookup x = some .cell
  jl : js.length = F.length
def tCompF0 (n : Nat) (js : List Nat) (wi : TI) (g : TG) (te : TE) : TE := fun σ H Q => wi σ H fun J H1 => ∀ D, H1 D = none →
  ∃ (m : Nat) (W : Nat → List V → Hp → Prop), W 0 [] (upd H1 D (.lst [])) ∧ ∀ i ys H2, W i ys H2 → i ≤ m ∧ H2 D = some (.lst ys) ∧ ((J.stop i H2 ∧ Q (.ref D) H2) ∨ (i < m ∧ J.go i H2 ∧ ∀ x H3, J.yld i H2 x H3 →
    g x (List.replicate n none ++ fvOf js σ) H3 fun σ4 H4 => te σ4 H4 fun y H6 => H6 D = some (.lst ys) ∧ ys.length < sizeLine ∧ W (i + 1) (ys ++ [y]) (upd H6 D (.lst (ys ++ [y])))))
theorem cl_mem {F : List Str} {env : Env} {x : Str} {c : Addr} (h : (clOf F env).lookup x = some c) : x ∈ F ∧ c = (env.cells.lookup x).getD 0 := by
  have := PySem.mem_of_lookup h
  obtain ⟨y, hy, e⟩ := List.mem_map.mp this
  cases e
  exact ⟨hy, rfl⟩
theorem cl_of {env : Env} {x : Str} : ∀ {F : List Str}, x ∈ F → (clOf F env).lookup x = some ((env.cells.lookup x).getD 0)
  | y :: F, h => by
    show List.lookup x ((y, (env.cells.lookup y).getD 0) :: clOf F env) = _
    by_cases e : x = y
    · subst e; simp [List.lookup]
    · have hb : (x == y) = false := beq_eq_false_iff_ne.mpr e
      rw [List.lookup_cons, hb]
      exact cl_of (by rcases List.mem_cons.mp h with z | z; exact absurd z e; exact z)
section
variable {X : Cx} {N F : List Str} {js : List Nat} {scope : Scope}
theorem CompScopeF.sub (S : CompScopeF N F js scope X.N X.env) : ∀ x c, (clOf F X.env).lookup x = some c → X.env.cells.lookup x = some c := fun x c z => by
  obtain ⟨hx, rfl⟩ := cl_mem z
  obtain ⟨k, hk⟩ := List.mem_iff_getElem?.mp hx
  obtain ⟨_, ⟨c, hc⟩, _⟩ := S.at_ k x hk
  rw [hc]; rfl
theorem CompScopeF.has (S : CompScopeF N F js scope X.N X.env) {x : Str} (hx : x ∈ F) : ∃ c, (clOf F X.env).lookup x = some c ∧ X.env.cells.lookup x = some c :=
  ⟨_, cl_of hx, S.sub _ _ (cl_of hx)⟩
/-- what it takes along is there: the cells' contents at its entry -/
theorem comp_look {pins : List (Addr × Obj)} {σ : St} {H : Hp} {s : Shared} (S : CompScopeF N F js scope X.N X.env) (I : Inv X pins σ H s) {h' : Heap} {m : Str → Option Value} {C : Addr} (hc : ∀ x c v, X.env.cells.lookup x = some c → s.heap.IsCell c v → h'.IsCell c v) :
    ∀ (i : Nat) (x : Str) (v : V), (N ++ F)[i]? = some x → (List.replicate N.length none ++ fvOf js σ)[i]? = some (some v) → ∃ u, RelV v u ∧ Look (compEnvC scope (clOf F X.env) C X.env) h' m x u := by
  intro i x v e1 e2
  by_cases hi : i < N.length
  · rw [List.getElem?_append_left (by simpa using hi), List.getElem?_replicate] at e2
    split at e2 <;> cases e2
  · rw [List.getElem?_append_right (by omega)] at e1
    rw [List.getElem?_append_right (by simp; omega)] at e2
    rw [List.length_replicate] at e2
    obtain ⟨⟨j, hj, hx⟩, ⟨c, hcc⟩, kx, kr⟩ := S.at_ _ x e1
    unfold fvOf at e2
    rw [List.getElem?_map, hj] at e2
    have e2 : (σ[j]?).getD none = some v := Option.some.inj e2
    have e3 : σ[j]? = some (some v) := by
      cases q : σ[j]? with
      | none => rw [q] at e2; cases e2
      | some o => rw [q] at e2; exact congrArg some e2
    obtain ⟨m0, _, hl⟩ := I.loc
    obtain ⟨u, r, l⟩ := hl j x v hx e3 (.inr (.inl kx))
    refine ⟨u, r, .inr ⟨.inl kr, c, ?_, ?_⟩⟩
    · obtain ⟨c', h1, h2⟩ := S.has (List.mem_of_getElem? e1)
      rw [hcc] at h2
      cases h2
      exact h1
    · rcases l with ⟨k, _⟩ | ⟨_, c', h1, h2⟩
      · rw [kx] at k; cases k
      · rw [hcc] at h1
        cases h1
        exact hc x c _ hcc h2
theorem fv_len (S : CompScopeF N F js scope X.N X.env) (σ : St) : (List.replicate N.length none ++ fvOf js σ : St).length = (N ++ F).length := by
  unfold fvOf
  rw [List.length_append, List.length_replicate, List.length_map, S.jl, List.length_append]
theorem inv_compF {pins : List (Addr × Obj)} {σ : St} {H : Hp} {s : Shared} {it : Addr} {h' : Heap} (S : CompScopeF N F js scope X.N X.env) (I : Inv X pins σ H s) (hf : FpOk X pins H it) (hit : ∃ o, s.heap.get? it = some o) (hnb : X.base.get? it = none)
    (hns : h'.Ns s.heap.objs.size (fun _ => none)) (hsb : ∀ b o, s.heap.get? b = some o → h'.get? b = some o) {tk : Nat} :
    Inv (X.compF scope N F s.heap.objs.size s H [it] (X.pn ++ pins)) [] (List.replicate N.length none ++ fvOf js σ) H { s with heap := h', toks := tk } := by
  obtain ⟨f0, f1, f2, f3, f4, f5⟩ := hf
  obtain ⟨oi, ei⟩ := hit
  have lt : it < s.heap.objs.size := Heap.lt_size ei
  have ck : ∀ c v, s.heap.IsCell c v → h'.IsCell c v := fun c v ⟨o, e, d⟩ => ⟨o, hsb _ _ e, d⟩
  have inF : ∀ x, ((compEnvC scope (clOf F X.env) s.heap.objs.size X.env).kindOf x = some .cell ∨ (compEnvC scope (clOf F X.env) s.heap.objs.size X.env).kindOf x = some .free) → x ∈ F := by
    intro x z
    have z : (relabel scope X.env).names.lookup x = some .cell ∨ (relabel scope X.env).names.lookup x = some .free := z
    rcases z with z | z
    · exact S.fr _ (PySem.mem_of_lookup z) (.inl rfl)
    · exact S.fr _ (PySem.mem_of_lookup z) (.inr rfl)
  refine ⟨⟨I.ok.mod, S.kind, I.ok.glob, I.ok.blt, Nat.le_refl _, fun x y c z z' => I.ok.inj x y c (S.sub x c z) (S.sub y c z'), fun x z => ?_, fun x c z _ => (nomatch z), I.ok.hd, I.ok.frames, .inl rfl, fun b hb => ?_, I.bs, Nat.le_trans I.ok.bsz I.sz, fun b o e hb => ?_, fun b hb hfs => ?_, I.stack, I.stkFree⟩,
    rfl, I.bare, Un.kept hsb, ⟨_, hns, fun i x v e1 e2 e3 => comp_look S I (fun x c v _ z => ck c v z) i x v e1 e2⟩, fun x c z => ?_, I.hok.fresh (Nat.le_refl _), fun x c z => I.freeC x c (S.sub x c z), fun p hp => ?_, I.hok.kept hsb, fv_len S σ⟩
  · obtain ⟨c, h1, _⟩ := S.has (inF x z)
    exact ⟨c, h1⟩
  · have e : b = it := by simpa using hb
    subst e
    exact ⟨Nat.ne_of_lt lt, fun x c z => f4 x c (S.sub x c z)⟩
  · have e' : b = it := by simpa using hb
    subst e'
    rw [hnb] at e
    cases e
  · have e' : b = it := by simpa using hb
    subst e'
    rcases List.mem_cons.mp (I.stkSub b hfs) with z | z
    · exact f1 z
    · exact f2 z
  · obtain ⟨v, z'⟩ := I.cell x c (S.sub x c z)
    exact ⟨v, ck c v z'⟩
  · have hp' : p ∈ X.pn ++ pins := by simpa using hp
    obtain ⟨q1, q2, q3, q4, q5⟩ := I.pin p hp'
    refine ⟨hsb _ _ q1, q2, Nat.ne_of_lt (Heap.lt_size q1), fun z => ?_, q5⟩
    rcases List.mem_cons.mp (I.stkSub p.1 z) with z | z
    · exact q3 z
    · exact q4 z
/-- ahead of the next turn: the own names are none again, the others as they were -/
theorem inv_fresh {pins pl : List (Addr × Obj)} {σ σ' : St} {H H' : Hp} {s s' : Shared} {it : Addr} (S : CompScopeF N F js scope X.N X.env) (I : Inv X pins σ H s) (hf : FpOk X pins H it) (J : Inv (X.compF scope N F s.heap.objs.size s H [it] (X.pn ++ pins)) pl σ' H' s') :
    Inv (X.compF scope N F s.heap.objs.size s H [it] (X.pn ++ pins)) [] (List.replicate N.length none ++ fvOf js σ) H' s' := by
  obtain ⟨m, hn, _⟩ := J.loc
  refine ⟨J.ok, J.os, J.bare, J.base, ⟨m, hn, fun i x v e1 e2 e3 => comp_look S I (fun x c v z q => ?_) i x v e1 e2⟩, J.cell, J.free, J.freeC, fun p hp => J.pin p (by
    have hp : p ∈ (X.pn ++ pins) ++ [] := hp
    rw [List.append_nil] at hp
    exact List.mem_append_left _ hp), J.hok, fv_len S σ⟩
  obtain ⟨o, e, d⟩ := q
  have ne : c ∉ [it] := fun w => hf.2.2.2.2.1 x c z (by simpa using w)
  obtain ⟨sl, q⟩ := J.base.any e (I.freeC x c z) ne
  exact ⟨_, q, d⟩
theorem comp_walkF0 {elt target iter : Expr} {scope : Scope} {pos : Pos} {N F : List Str} {js : List Nat} {wi : TI} {g : TG} {te : TE} (S : CompScopeF N F js scope X.N X.env) (hd : HdOk X) (hi : PIH X target iter wi) (hex : X.ex = [])
    (hg : ∀ C s₀ H₀ ex pn, HdOk (X.compF scope N F C s₀ H₀ ex pn) → PG (X.compF scope N F C s₀ H₀ ex pn) target g)
    (he : ∀ C s₀ H₀ ex pn, HdOk (X.compF scope N F C s₀ H₀ ex pn) → PE (X.compF scope N F C s₀ H₀ ex pn) elt te)
    {pins : List (Addr × Obj)} {s : Shared} {σ : St} {H : Hp} {Q : VK} {RR : Value → Env → Result → Shared → Prop} (I : Inv X pins σ H s) (h : (tCompF0 N.length js wi g te) σ H Q)
    (hRR : ∀ (D C : Addr) (s6 : Shared) (H5 : Hp) (mm : Str → Option Value), Inv X pins σ H5 s6 → s6.heap.Ns C mm → FpOk X pins H5 C → Q (.ref D) H5 → RR (.ref D) (compEnvC scope (clOf F X.env) C X.env) (.ok .next) s6) :
    wpAny (model X.prog X.w) X.A (eval iter X.env) (fun v s1 => wpAny (model X.prog X.w) X.A (pyIter v) (fun itv s2 => wpAny (model X.prog X.w) X.A (newList []) (fun acc s3 => wpAny (model X.prog X.w) X.A (newFunctionEnv scope X.env.globals (clOf F X.env) [] X.env.qual none .none (some X.env)) (fun cenv s4 =>
      codeAny (model X.prog X.w) X.A (.compStart (.ListComp elt [⟨target, iter, [], 0⟩] scope pos) 0 itv acc { cenv with scope := relabel scope X.env }) (RR acc { cenv with scope := relabel scope X.env }) s4) X.xe s3) X.xe s2) X.xe s1) X.xe s := by
  refine thn (hi pins s σ H _ I h) fun v s1 h1 => thn h1 fun itv s2 h2 => ?_
  obtain ⟨it, tn, J, H2, rfl, I2, T, st2, f2, R⟩ := h2
  obtain ⟨oi, ei, di⟩ := T.obj _ _ st2
  have hf2 := I2.hok.fresh (Nat.le_refl _)
  refine wpAny_newObj_type ?_
  have I3 : Inv X pins σ (upd H2 s2.heap.objs.size (.lst [])) { s2 with heap := s2.heap.push { cls := .type "list", dict := none, data := .seq ([] : List Value).toArray } } := Inv.lnew (t' := s2.toks) I2 .nil (Nat.zero_le _)
  refine wpAny_newFunctionEnv S.cell (by intro y hy; simp at hy) (fun h4 hns hsb => ?_) S.kind
  dsimp only at hns hsb ⊢
  generalize hG : s2.heap.push { cls := .type "list", dict := none, data := .seq ([] : List Value).toArray } = G at I3 hns hsb ⊢
  generalize hD : s2.heap.objs.size = D at I3 hf2
  have nD : it ≠ D := by rw [← hD]; exact Nat.ne_of_lt (Heap.lt_size ei)
  have eiG : G.get? it = some oi := by rw [← hG]; exact Heap.get?_push_of_some _ ei
  have kp : ∀ b o, G.get? b = some o → h4.get? b = some o := fun b o e => hsb.extBut b o (Nat.ne_of_lt (Heap.lt_size e)) (Heap.get?_push_of_some _ e)
  have f3 : FpOk X pins (upd H2 D (.lst [])) it := ⟨by rw [upd_ne nD]; exact f2.1, f2.2⟩
  have nb : X.base.get? it = none := by
    cases q : X.base.get? it with
    | none => rfl
    | some o =>
      have := (I.ok.bs it o q).1
      rcases f2.2.2.2.1 with z | z
      · rw [hex] at z; simp at z
      · exact absurd (Nat.lt_of_lt_of_le (Heap.lt_size this) z) (Nat.lt_irrefl _)
  have hns' : h4.Ns G.objs.size (fun _ => none) := by
    obtain ⟨o, es, ep, q1, q2, q3, q4⟩ := hns
    exact ⟨o, es, ep, q1, q2, q3, fun x => by rw [q4]; rfl⟩
  have I4 := inv_compF (tk := s2.toks + ([] : List (Str × Value)).length) S I3 f3 ⟨oi, eiG⟩ nb hns' kp
  have hdc : HdOk (X.compF scope N F G.objs.size { s2 with heap := G } (upd H2 D (.lst [])) [it] (X.pn ++ pins)) := by
    rcases hd with z | ⟨x, o, u, vs, z, e, d, n⟩
    · exact .inl z
    · refine .inr ⟨x, o, u, vs, z, ?_, d, n⟩
      have q := I2.base.frzs x o u e
      show upd H2 D (.lst []) x = _
      rw [upd_ne fun w => by rw [w, hf2] at q; cases q]
      exact q
  obtain ⟨m, W, w0, turn⟩ := R D hf2
  have gg := hg _ _ _ _ _ hdc
  have ee := he _ _ _ _ _ hdc
  have fpc : ∀ {H' : Hp} {σ' : St} {s' : Shared} {pl : List (Addr × Obj)}, Inv (X.compF scope N F G.objs.size { s2 with heap := G } (upd H2 D (.lst [])) [it] (X.pn ++ pins)) pl σ' H' s' → H' it = none → (∀ p ∈ pl, p.1 ≠ it) → FpOk (X.compF scope N F G.objs.size { s2 with heap := G } (upd H2 D (.lst [])) [it] (X.pn ++ pins)) pl H' it := by
    intro H' σ' s' pl J' hn hp
    refine ⟨hn, Nat.ne_of_lt (Heap.lt_size eiG), ?_, .inl (List.mem_singleton.mpr rfl), (fun x c z => f2.2.2.2.2.1 x c (S.sub x c z)), fun p hpp => ?_⟩
    · intro z
      rcases List.mem_cons.mp (I.stkSub it z) with z | z
      · exact f2.2.1 z
      · exact f2.2.2.1 z
    · rcases List.mem_append.mp hpp with z | z
      · exact f2.2.2.2.2.2 p z
      · exact hp p z
  -- the turns
  have loop : codeAny (model X.prog X.w) X.A (.compLoop (.ListComp elt [⟨target, iter, [], 0⟩] scope pos) 0 (.ref it) (.ref D) (compEnvC scope (clOf F X.env) G.objs.size X.env))
      (RR (.ref D) (compEnvC scope (clOf F X.env) G.objs.size X.env))
      { s2 with heap := h4, toks := s2.toks + ([] : List (Str × Value)).length } := by
    refine kc0_loop (fun k s' => ∃ i ys H', k = m + 1 - i ∧ Inv (X.compF scope N F G.objs.size { s2 with heap := G } (upd H2 D (.lst [])) [it] (X.pn ++ pins)) [] (List.replicate N.length none ++ fvOf js σ) H' s' ∧ tn i s'.heap ∧ H' it = none ∧ W i ys H') ?_ (m + 1)
      ⟨0, [], _, rfl, I4, T.keep _ _ _ st2 fun o e => kp it o (by rw [← hG]; exact Heap.get?_push_of_some _ e), f3.1, w0⟩
    rintro k s5 ⟨i, ys, H5, rfl, I5, st5, n5, w5⟩
    obtain ⟨hi5, hD5, w5⟩ := turn i ys H5 w5
    rcases w5 with ⟨stop, q⟩ | ⟨lt5, go, step⟩
    · refine wpAny_mono (T.done (X.compF scope N F G.objs.size { s2 with heap := G } (upd H2 D (.lst [])) [it] (X.pn ++ pins)) rfl rfl rfl hdc i [] s5 _ H5 (fun _ _ => False) I5 (fpc I5 n5 (by simp)) st5 stop) (fun r s6 z => ?_) (fun _ _ z => z.elim)
      obtain ⟨rfl, I6⟩ := z
      obtain ⟨mm, hn6, _⟩ := I6.loc
      have B6 := I6.base
      have J6 : Inv X pins σ H5 s6 := by
        refine I3.call' (ch := [it]) I6.os ⟨B6.keep, B6.slot, B6.free, B6.there, B6.tups, B6.frzs, B6.tbls⟩ I6.hok I6.bare (fun b hb => ?_)
        have e : b = it := by simpa using hb
        subst e
        exact ⟨f2.2.2.2.1, f2.2.1, f2.2.2.2.2.1, f2.2.2.2.2.2⟩
      have szG : X.s₀.heap.objs.size ≤ G.objs.size := I3.sz
      refine hRR D G.objs.size s6 H5 mm J6 hn6 ⟨I6.free, ?_, ?_, .inr szG, ?_, ?_⟩ q
      · exact Nat.ne_of_gt I3.lt
      · intro z
        obtain ⟨_, o, ho, _⟩ := I3.funs.mem z
        exact Nat.lt_irrefl _ (Heap.lt_size ho)
      · rintro x c z rfl
        obtain ⟨v', o, ho, _⟩ := I3.cell x _ z
        exact Nat.lt_irrefl _ (Heap.lt_size ho)
      · rintro p hp z
        have zz := (I3.pin p hp).1
        rw [z] at zz
        exact Nat.lt_irrefl _ (Heap.lt_size zz)
    · refine wpAny_mono (T.item (X.compF scope N F G.objs.size { s2 with heap := G } (upd H2 D (.lst [])) [it] (X.pn ++ pins)) rfl rfl rfl hdc i [] s5 _ H5 (fun _ _ => False) I5 (fpc I5 n5 (by simp)) st5 go) (fun r s6 z => ?_) (fun _ _ z => z.elim)
      obtain ⟨u, rfl, z⟩ := z
      refine wpAny_mono z (fun _ s7 z => ?_) (fun _ _ z => z.elim)
      obtain ⟨x, I7, rx, yl, st7⟩ := z
      obtain ⟨o7, e7, d7⟩ := T.obj _ _ st7
      obtain ⟨p0, p1, p2, _⟩ := fpc I7 n5 (by simp)
      have I7' : Inv (X.compF scope N F G.objs.size { s2 with heap := G } (upd H2 D (.lst [])) [it] (X.pn ++ pins)) [(it, o7)] (List.replicate N.length none ++ fvOf js σ) H5 s7 := I7.pins_of fun p hp => by
        have e : p = (it, o7) := by simpa using hp
        subst e
        exact ⟨e7, p0, p1, p2, d7⟩
      have back : ∀ {i' : Nat} {ys' : List V} {H' : Hp} {σ' : St} {s' : Shared}, i' = i + 1 → Inv (X.compF scope N F G.objs.size { s2 with heap := G } (upd H2 D (.lst [])) [it] (X.pn ++ pins)) [(it, o7)] σ' H' s' → W i' ys' H' →
          ∃ k', k' < m + 1 - i ∧ ∃ i ys H', k' = m + 1 - i ∧ Inv (X.compF scope N F G.objs.size { s2 with heap := G } (upd H2 D (.lst [])) [it] (X.pn ++ pins)) [] (List.replicate N.length none ++ fvOf js σ) H' s' ∧ tn i s'.heap ∧ H' it = none ∧ W i ys H' := by
        rintro i' ys' H' σ' s' rfl J' w'
        obtain ⟨q1, q2, _⟩ := J'.pin (it, o7) (List.mem_append_right _ (List.mem_singleton.mpr rfl))
        refine ⟨m + 1 - (i + 1), by omega, i + 1, ys', H', rfl, inv_fresh S I3 f3 J', T.keep _ _ _ st7 fun o z => ?_, q2, w'⟩
        rw [e7] at z
        cases z
        exact q1
      refine wpAny_mono (gg [(it, o7)] s7 _ H5 x u _ I7' rx (step x H5 yl)) (fun _ s8 z => ?_) (fun _ _ z => z.elim)
      obtain ⟨σ8, H8, I8, q8⟩ := z
      refine wpAny_mono (ee [(it, o7)] s8 σ8 H8 _ I8 q8) (fun y s10 z => ?_) (fun _ _ z => z.elim)
      obtain ⟨yv, H10, I10, ry, hD10, hz10, w10⟩ := z
      refine wpAny_mono (mt_append (X := X.compF scope N F G.objs.size { s2 with heap := G } (upd H2 D (.lst [])) [it] (X.pn ++ pins)) [(it, o7)] s10 σ8 H10 (.ref D) [yv] (.ref D) [y] (fun _ H11 => W (i + 1) (ys ++ [yv]) H11) I10 rfl (.cons ry .nil) ⟨D, ys, yv, rfl, rfl, hD10, hz10, w10⟩) (fun _ s11 z => ?_) (fun _ _ z => z.elim)
      obtain ⟨_, H11, I11, _, w11⟩ := z
      exact back rfl I11 w11
  exact codeAny_compStart_list loop (T.self _ 0 _ _ _ (T.keep _ _ _ st2 fun o e => kp it o (by rw [← hG]; exact Heap.get?_push_of_some _ e)) loop)
theorem pe_compF0 {elt target iter : Expr} {pos : Pos} {wi : TI} {g : TG} {te : TE} (S : CompScopeF N F js scope X.N X.env) (hd : HdOk X) (hi : PIH X target iter wi) (hex : X.ex = [])
    (hg : ∀ C s₀ H₀ ex pn, HdOk (X.compF scope N F C s₀ H₀ ex pn) → PG (X.compF scope N F C s₀ H₀ ex pn) target g)
    (he : ∀ C s₀ H₀ ex pn, HdOk (X.compF scope N F C s₀ H₀ ex pn) → PE (X.compF scope N F C s₀ H₀ ex pn) elt te)
    (hs : ∀ x, foldedSetIterable iter X.env x = pure x := by intro _; rfl) : PE X (.ListComp elt [⟨target, iter, [], 0⟩] scope pos) (tCompF0 N.length js wi g te) := by
  intro pins s σ H Q I h
  rw [eval_ListComp]
  refine wpAny_comprehension_free (use := none) rfl hs S.clos S.kind S.loc (comp_walkF0 S hd hi hex hg he I h (RR := fun acc ce r s' => compPost (model X.prog X.w) X.A X.xe none (EP X pins σ Q) acc ce.locals r s') ?_)
  intro D C s6 H5 mm I6 n6 f6 q
  exact ⟨mm, n6, fun h' sb => ⟨.ref D, H5, letgo I6 f6 sb, rfl, q⟩⟩
end
end L2

set_option Elab.async false
set_option linter.all false
set_option maxRecDepth 100000
set_option maxHeartbeats 4000000
namespace L2
open PySem PySem.Spec PyProof.Rows PySem.W
/-- what of a comprehension's scope is seen in the text alone -/
structure CompS (N F : List Str) (sc : Scope) : Prop where
  kind : sc.kind = .function
  cell : ∀ y ∈ sc.names, y.2 ≠ .cell
  loc : ∀ y ∈ sc.names, y.2 = .local → sc.names.lookup y.1 = some .local
  fr : ∀ y ∈ sc.names, y.2 = .free → y.1 ∈ F
  nd : (N ++ F).Nodup
theorem fr_relabel {sc : Scope} {env : Env} {F : List Str} (cell : ∀ y ∈ sc.names, y.2 ≠ .cell) (fr : ∀ y ∈ sc.names, y.2 = .free → y.1 ∈ F) : ∀ y ∈ (relabel sc env).names, y.2 = .cell ∨ y.2 = .free → y.1 ∈ F := by
  intro y hy h
  obtain ⟨⟨n, k⟩, hm, e⟩ := List.mem_map.mp hy
  dsimp only at e
  split at e
  · rename_i hc
    subst e
    simp only [Bool.and_eq_true] at hc
    exact fr (n, k) hm (by simpa using hc.1.1)
  · subst e
    rcases h with h | h
    · exact absurd h (cell (n, k) hm)
    · exact fr (n, k) hm h
theorem CompScopeF.of1 {N : List Str} {x : Str} {j : Nat} {sc : Scope} {XN : List Str} {env : Env} (S : CompS N [x] sc) (clos : closureFor sc env = pure (clOf [x] env)) (hj : XN[j]? = some x) (hc : ∃ c, env.cells.lookup x = some c) (hk : env.kindOf x = some .cell)
    (hr : (relabel sc env).names.lookup x = some .cell) : CompScopeF N [x] [j] sc XN env :=
  ⟨S.kind, S.cell, S.loc, S.nd, clos, fr_relabel S.cell S.fr, fun k y h => match k, h with
    | 0, h => by cases h; exact ⟨⟨j, rfl, hj⟩, hc, hk, hr⟩
    | k + 1, h => by simp at h, rfl⟩
end L2
set_option Elab.async false
set_option linter.all false
set_option maxRecDepth 100000
set_option maxHeartbeats 4000000
/-! an exception class of one's own with an __init__ of its own, under another class of one's own -/
namespace L2
open PySem
section
variable {prog : Program} {w : World} {A : Around} {E : Value → Shared → Prop} {h : Heap} {g : Array GenState} {d : Drawn} {t : Nat} {os : OsState}
variable {nm q : Str} {C N : Addr} {bs bm bmB : List Value} {hdct : Bool} {sn : List Str} {sub : List Value} {ab : Bool} {col : Option Bool} {dd : Option Addr} {k0 k1 k2 k3 k5 : Option Value} {B newId initId : String}
end
section
variable {M : Model} {prog : Program} {w : World} {A : Around} {E : Value → Shared → Prop} {s : Shared} {env : Env}
variable {nm q : Str} {C N : Addr} {bs bm bmB : List Value} {hdct : Bool} {sn : List Str} {sub : List Value} {ab : Bool} {col : Option Bool} {dd : Option Addr} {k0 k1 k2 k3 k5 : Option Value} {B newId initId : String}
end
end L2
set_option Elab.async false
set_option linter.all false
set_option maxRecDepth 100000
set_option maxHeartbeats 4000000
namespace L2
open PySem PySem.Spec PyProof.Rows PySem.W
section
variable {prog : Program} {w : World} {A : Around} {s : Shared} {K : Frag} {C e fI : Addr} {t : Addr} {R : Result → Shared → Prop} {name : Str} {tk : Tok} {v : Value}
end
section
variable {X : Cx} {pins : List (Addr × Obj)} {σ : St} {H : Hp} {s : Shared}
end
section
variable {X : Cx} {o value : Expr} {f : Str} {pos pos' : Pos} {ta tv : TE} {C fI : Addr}
end
section
variable {X : Cx} {x f : Str} {p cpos pos : Pos} {e : Expr} {t : TA} {C fI : Addr} {fdI : FuncData} {ps : List Str} {EH : EK} {j k : Nat}
end
end L2
set_option Elab.async false
set_option linter.all false
set_option maxRecDepth 100000
set_option maxHeartbeats 4000000
namespace L2
open PySem PySem.Spec PyProof.Rows PySem.W
section
variable {X : Cx} {e : Expr} {f : Str} {pos : Pos} {ta : TE}
end
end L2
set_option Elab.async false
set_option linter.all false
set_option maxRecDepth 100000
set_option maxHeartbeats 4000000
namespace L2
open PySem PySem.Spec PyProof.Rows PySem.W
/-! ### a text n times, int of a text -/
def timesS (z : Str) (n : Int) : Str := if n < 1 then Str.empty else if (n == 1 || z.length == 0) = true then z else ⟨(List.replicate n.toNat z.cps).foldl (· ++ ·) #[]⟩
def rTimes : R2 := fun x y H Q => ∃ z n, x = .str z ∧ y = .int n ∧ -(2 ^ 63) ≤ n ∧ n < 2 ^ 63 ∧ z.length * n.toNat ≤ sizeLine ∧ Q (.str (timesS z n)) H
theorem foldl_app (z : Array Nat) : ∀ (k : Nat) (acc : Array Nat), ((List.replicate k z).foldl (· ++ ·) acc).toList = acc.toList ++ (List.replicate k z.toList).flatten
  | 0, acc => by simp
  | k + 1, acc => by
    rw [List.replicate_succ, List.foldl_cons, foldl_app z k, Array.toList_append, List.replicate_succ, List.flatten_cons, List.append_assoc]
theorem len_of_toList (z : Str) : z.cps.toList.length = z.length := Array.length_toList
theorem timesS_list (z : Str) (n : Int) : (timesS z n).cps.toList = (List.replicate n.toNat z.cps.toList).flatten := by
  unfold timesS
  split
  · have : n.toNat = 0 := by omega
    rw [this]; rfl
  · split
    · rename_i h1 h2
      rcases Bool.or_eq_true _ _ |>.mp h2 with h | h
      · have : n = 1 := by simpa using h
        subst this
        simp
      · have e : z.length = 0 := by simpa using h
        have e2 : z.cps.toList = [] := List.eq_nil_of_length_eq_zero (by rw [len_of_toList]; exact e)
        rw [e2]
        have : ∀ k : Nat, (List.replicate k ([] : List Nat)).flatten = [] := fun k => by simp
        rw [this]
    · show ((List.replicate n.toNat z.cps).foldl (· ++ ·) #[]).toList = _
      rw [foldl_app]
      rfl
theorem timesS_len (z : Str) (n : Int) : (timesS z n).length = n.toNat * z.length := by
  rw [← len_of_toList, timesS_list, len_rep, len_of_toList]
section
variable {X : Cx}
theorem op_rep_str : OpR X (binaryOp .Mult) rTimes := by
  intro pins s σ H x y v u Q I rx ry h
  obtain ⟨z, n, rfl, rfl, h1, h2, hz, q⟩ := h
  obtain ⟨t, rfl⟩ := rx
  obtain ⟨t', rfl⟩ := ry
  have lo : ¬ n < -(2 ^ 63 : Int) := by omega
  have hi : ¬ n ≥ (2 ^ 63 : Int) := by omega
  have hl := timesS_len z n
  have hs : (timesS z n).length ≤ sizeLine := by rw [hl, Nat.mul_comm]; exact hz
  refine PySem.P.mul_str (by rw [decide_eq_false lo, decide_eq_false hi]; rfl) (fun n1 n2 => ?_) (fun n1 n2 => notLong hz) ?_
  · intro g
    have p : 0 < n := by omega
    have e : ((z.length * n.toNat : Nat) : Int) = (z.length : Int) * n := by rw [Int.natCast_mul, Int.toNat_of_nonneg (by omega)]
    have c : ((z.length * n.toNat : Nat) : Int) ≤ (sizeLine : Nat) := Int.ofNat_le.mpr hz
    have k : (sizeLine : Nat) ≤ 2 ^ 63 - 1 := by decide
    have k' : ((sizeLine : Nat) : Int) ≤ (2 ^ 63 - 1 : Int) := by
      have := Int.ofNat_le.mpr k
      exact this
    have : (z.length : Int) ≤ (2 ^ 63 - 1) / n := (Int.le_ediv_iff_mul_le p).mpr (by omega)
    omega
  · unfold timesS at q hs
    split
    · rw [if_pos (by assumption)] at q
      exact ⟨by decide, .str _, H, I.tok _, ⟨_, rfl⟩, q⟩
    · rw [if_neg (by assumption)] at q hs
      split
      · rw [if_pos (by assumption)] at q
        exact ⟨.str _, H, I, ⟨_, rfl⟩, q⟩
      · rw [if_neg (by assumption)] at q hs
        exact ⟨hs, .str _, H, I.tok _, ⟨_, rfl⟩, q⟩
theorem call_int_text : CallR X (.type "int") (fun xs H Q => ∃ z n, xs = [.str z] ∧ PySem.intText? z = some n ∧ z.length ≤ 640 ∧ Q (.int n) H) := by
  intro pins s σ H xs us Q I r h
  obtain ⟨z, n, rfl, h1, h2, q⟩ := h
  obtain ⟨u, rfl, t, rfl⟩ := vals1 r
  exact KIN.call_text h1 h2 ⟨.int n, H, I.tok _, ⟨_, rfl⟩, q⟩
end
/-- '1' + '0' * n -/
def tenS (n : Nat) : Str := ("1" : Str) ++ timesS ("0" : Str) (n : Int)
theorem rep1_flat (n : Nat) : (List.replicate n [48]).flatten = List.replicate n 48 := by
  induction n with
  | zero => rfl
  | succ n ih => rw [List.replicate_succ, List.flatten_cons, ih, List.replicate_succ]; rfl
theorem tenS_list (n : Nat) : (tenS n).cps.toList = 49 :: List.replicate n 48 := by
  unfold tenS
  show (("1" : Str).cps ++ (timesS ("0" : Str) (n : Int)).cps).toList = _
  rw [Array.toList_append, timesS_list]
  have a : ("1" : Str).cps.toList = [49] := by decide +kernel
  have b : ("0" : Str).cps.toList = [48] := by decide +kernel
  rw [a, b]
  show [49] ++ (List.replicate n [48]).flatten = _
  rw [rep1_flat]
  rfl
theorem tenS_len (n : Nat) : (tenS n).length = n + 1 := by
  rw [← len_of_toList, tenS_list]
  simp
theorem fold_zeros (n : Nat) : ∀ a : Nat, (List.replicate n 48).foldl (fun acc c => acc * 10 + (c - 48)) a = a * 10 ^ n := by
  induction n with
  | zero => intro a; simp
  | succ n ih =>
    intro a
    rw [List.replicate_succ, List.foldl_cons, ih, Nat.pow_succ]
    show (a * 10 + 0) * 10 ^ n = _
    rw [Nat.add_zero, Nat.mul_assoc, Nat.mul_comm 10]
theorem tenS_val (n : Nat) (h : n ≤ 600) : PySem.intText? (tenS n) = some ((10 ^ n : Nat) : Int) := by
  have e : PySem.NumText.digitsVal (tenS n).cps.toList = 10 ^ n := by
    rw [tenS_list]
    unfold PySem.NumText.digitsVal
    rw [List.foldl_cons, fold_zeros]
    show (0 * 10 + 1) * 10 ^ n = _
    omega
  rw [← e]
  refine PySem.intText_digits ?_ ?_ ?_
  · rw [tenS_list]
    intro c hc
    rcases List.mem_cons.mp hc with rfl | hc
    · exact ⟨by decide, by decide⟩
    · obtain ⟨_, rfl⟩ := List.mem_replicate.mp hc
      exact ⟨by decide, by decide⟩
  · rw [tenS_list]; exact fun z => nomatch z
  · rw [tenS_len]; omega
end L2
set_option Elab.async false
set_option linter.all false
set_option maxRecDepth 100000
set_option maxHeartbeats 4000000
namespace L2
open PySem PySem.Spec PyProof.Rows PySem.W
section
variable {X : Cx}
/-! ### all(a list of bools) -/
theorem call_all (hc : X.A.handled = none) : CallR X (.builtin "all") (fun xs H Q => ∃ (l : Addr) (bs : List Bool), xs = [.ref l] ∧ SqL X.K H l (bs.map V.bl) ∧ Q (.bl (bs.all id)) H) := by
  intro pins s σ H xs us Q I r h
  obtain ⟨l, bs, rfl, hl, q⟩ := h
  obtain ⟨u, rfl, ru⟩ := Vals.one r
  cases ru
  obtain ⟨its, rv, p, hz⟩ := I.list hl
  obtain ⟨o, e, _⟩ := id p.isList
  have hlt : l < s.heap.objs.size := Heap.lt_size e
  have hlen : its.length = bs.length := by rw [← rv.length, List.length_map]
  refine call_all_walk (wpAny_pyIter_list p.isList ?_)
  refine ⟨s.heap.objs.size, [s.heap.objs.size, l], [s.heap.objs.size], its.toArray.size, _, _, fun i => (bs[i]?).getD true, rfl, Walks.list (A := X.A.in1) hc _ l (Nat.ne_of_lt hlt) its.toArray, ⟨⟨_, Heap.get?_push_size _ rfl, rfl, rfl⟩, p.isList.push _⟩, fun i v s' Q' E' hP hQ => ?_, fun h' tk hk => ?_⟩
  · have hP : its[i]? = some v := by simpa using hP
    have hi : i < bs.length := by rw [← hlen]; exact (List.getElem?_eq_some_iff.mp hP).1
    obtain ⟨u', hu', ru'⟩ := rv.get (i := i) (x := V.bl bs[i]) (by simp [hi])
    rw [hP] at hu'
    cases hu'
    cases ru'
    have z : (bs[i]?).getD true = bs[i] := by simp [hi]
    dsimp only at hQ
    rw [z] at hQ
    exact wpAny_truthy_bool hQ
  · have z : ((List.range its.toArray.size).all fun i => (bs[i]?).getD true) = bs.all id := by
      rw [List.size_toArray, hlen]
      exact LSm.range_all bs
    rw [z]
    exact ⟨.bl (bs.all id), H, I.kept fun b x e => hk b x (fun hm => by rw [List.mem_singleton.mp hm] at e; exact Nat.lt_irrefl _ (Heap.lt_size e)) (Heap.get?_push_of_some _ e), rfl, q⟩
end
end L2
namespace L2
open PySem PySem.Spec PyProof.Rows PySem.W
section
variable {X : Cx} {a b : Expr} {rest : List Expr} {pos : Pos} {ta tb : TE}
end
end L2
set_option Elab.async false
set_option linter.all false
set_option maxRecDepth 100000
set_option maxHeartbeats 4000000
namespace L2
open PySem PySem.Spec PyProof.Rows PySem.W
end L2
namespace L2
open PySem PySem.Spec PyProof.Rows PySem.W
end L2
set_option Elab.async false
set_option linter.all false
set_option maxRecDepth 100000
set_option maxHeartbeats 4000000
namespace L2
open PySem PySem.Spec PyProof.Rows PySem.W
/-! ### calls that never raise, wherever they stand -/
section
variable {X : Cx} {j k : Nat} {f C : Addr} {fd : FuncData} {ps : List Str} {sp : Sp} {dvs : List V} {ds : List Value} {x m : Str} {p pos apos : Pos} {e o : Expr} {es : List Expr} {ta : TE} {t : TA} {st : Stmt}
theorem run_fnN {pins : List (Addr × Obj)} {σ : St} {H : Hp} {s : Shared} {Q : VK} {us : List Value} {vs : List V} (F : FnOk X.prog X.w X.K X.mg X.base (CX1 X.prog X.w) k f fd ps sp) (hr : Room k X.A) (hb : Binds X.K fd ps ds) (hd : Vals dvs ds)
    (I : Inv X pins σ H s) (r : Vals vs us) (h : sp (vs ++ dvs) H Q (fun C d H' => EKF C d σ H')) : wpAny (model X.prog X.w) X.A (call (.ref f) us) (EP X pins σ Q) X.xe s := by
  have r2 : Vals (vs ++ dvs) (us ++ ds) := r.append hd
  have hl : (us ++ ds).length = ps.length := by rw [← r2.length]; exact F.len _ _ _ _ h
  refine wpAny_call (codeAny_mono (F.run X.A X.stack s H ⟨us, []⟩ (us ++ ds) (vs ++ dvs) Q _ hr I.env0 (hb s us I.kIn hl) r2 h) fun r s' hq => ?_)
  cases r with
  | error e =>
    obtain ⟨a, t, C, dd, H', _, _, _, _, _, hE, _⟩ := hq
    exact False.elim hE
  | ok fl =>
    cases fl with
    | ret u => exact I.after hq
    | next => exact False.elim hq
    | brk => exact False.elim hq
    | cont => exact False.elim hq
theorem pcallN (D : Def X.K X.mg x ps st f fd) (F : FnOk X.prog X.w X.K X.mg X.base (CX1 X.prog X.w) j f fd ps sp) (hr : Room k X.A) (ha : PA X (e :: es) t) (hj : j ≤ k := by decide) (hg : Gl X x := by rfl) (hdb : (x == ("__debug__" : Str)) = false := by decide)
    (he : starEach (e :: es) X.env = (false, eval e X.env) :: starEach es X.env := by rfl) (hpl : (backTo pos (starEach es X.env)).any (·.1) = false := by rfl) : PE X (.Call (.Name x p) (e :: es) [] pos) (tCallE sp [] EKF t) := by
  intro pins s σ H Q I h
  refine wpAny_Call_Name_kw (ld_glob I hg D.g ?_ hdb)
  refine PySem.W.callWith_K (h₀ := X.base) I.ok.mod.kin D.F.kp (thn (ha pos pins s σ H _ I h) fun us s1 ⟨vs, H1, I1, r, q⟩ => ⟨I1.kIn, ?_⟩) he hpl
  exact run_fnN (F.mono hj) hr D.b .nil I1 r q
end
end L2
set_option Elab.async false
set_option linter.all false
set_option maxRecDepth 100000
set_option maxHeartbeats 4000000
namespace L2
open PySem PySem.Spec PyProof.Rows PySem.W
/-! ### comprehensions over what a for walks -/
section
variable {X : Cx} {N F : List Str} {js : List Nat} {scope : Scope}
theorem inv_compG {pins : List (Addr × Obj)} {σ : St} {H : Hp} {s : Shared} {fp : List Addr} {h' : Heap} (S : CompScopeF N F js scope X.N X.env) (I : Inv X pins σ H s) (hf : ∀ b ∈ fp, FpOk X pins H b) (hit : ∀ b ∈ fp, ∃ o, s.heap.get? b = some o) (hnb : ∀ b ∈ fp, X.base.get? b = none)
    (hns : h'.Ns s.heap.objs.size (fun _ => none)) (hsb : ∀ b o, s.heap.get? b = some o → h'.get? b = some o) {tk : Nat} :
    Inv (X.compF scope N F s.heap.objs.size s H fp (X.pn ++ pins)) [] (List.replicate N.length none ++ fvOf js σ) H { s with heap := h', toks := tk } := by
  have ck : ∀ c v, s.heap.IsCell c v → h'.IsCell c v := fun c v ⟨o, e, d⟩ => ⟨o, hsb _ _ e, d⟩
  have inF : ∀ x, ((compEnvC scope (clOf F X.env) s.heap.objs.size X.env).kindOf x = some .cell ∨ (compEnvC scope (clOf F X.env) s.heap.objs.size X.env).kindOf x = some .free) → x ∈ F := by
    intro x z
    have z : (relabel scope X.env).names.lookup x = some .cell ∨ (relabel scope X.env).names.lookup x = some .free := z
    rcases z with z | z
    · exact S.fr _ (PySem.mem_of_lookup z) (.inl rfl)
    · exact S.fr _ (PySem.mem_of_lookup z) (.inr rfl)
  refine ⟨⟨I.ok.mod, S.kind, I.ok.glob, I.ok.blt, Nat.le_refl _, fun x y c z z' => I.ok.inj x y c (S.sub x c z) (S.sub y c z'), fun x z => ?_, fun x c z _ => (nomatch z), I.ok.hd, I.ok.frames, .inl rfl, fun b hb => ?_, I.bs, Nat.le_trans I.ok.bsz I.sz, fun b o e hb => ?_, fun b hb hfs => ?_, I.stack, I.stkFree⟩,
    rfl, I.bare, Un.kept hsb, ⟨_, hns, fun i x v e1 e2 e3 => comp_look S I (fun x c v _ z => ck c v z) i x v e1 e2⟩, fun x c z => ?_, I.hok.fresh (Nat.le_refl _), fun x c z => I.freeC x c (S.sub x c z), fun p hp => ?_, I.hok.kept hsb, fv_len S σ⟩
  · obtain ⟨c, h1, _⟩ := S.has (inF x z)
    exact ⟨c, h1⟩
  · obtain ⟨oi, ei⟩ := hit b hb
    exact ⟨Nat.ne_of_lt (Heap.lt_size ei), fun x c z => (hf b hb).2.2.2.2.1 x c (S.sub x c z)⟩
  · rw [hnb b hb] at e
    cases e
  · rcases List.mem_cons.mp (I.stkSub b hfs) with z | z
    · exact (hf b hb).2.1 z
    · exact (hf b hb).2.2.1 z
  · obtain ⟨v, z'⟩ := I.cell x c (S.sub x c z)
    exact ⟨v, ck c v z'⟩
  · have hp' : p ∈ X.pn ++ pins := by simpa using hp
    obtain ⟨q1, q2, q3, q4, q5⟩ := I.pin p hp'
    refine ⟨hsb _ _ q1, q2, Nat.ne_of_lt (Heap.lt_size q1), fun z => ?_, q5⟩
    rcases List.mem_cons.mp (I.stkSub p.1 z) with z | z
    · exact q3 z
    · exact q4 z
/-- ahead of the next turn: the own names are none again, the others as they were -/
theorem inv_freshG {pins pl : List (Addr × Obj)} {σ σ' : St} {H H' : Hp} {s s' : Shared} {fp : List Addr} (S : CompScopeF N F js scope X.N X.env) (I : Inv X pins σ H s) (hf : ∀ b ∈ fp, FpOk X pins H b) (J : Inv (X.compF scope N F s.heap.objs.size s H fp (X.pn ++ pins)) pl σ' H' s') :
    Inv (X.compF scope N F s.heap.objs.size s H fp (X.pn ++ pins)) [] (List.replicate N.length none ++ fvOf js σ) H' s' := by
  obtain ⟨m, hn, _⟩ := J.loc
  refine ⟨J.ok, J.os, J.bare, J.base, ⟨m, hn, fun i x v e1 e2 e3 => comp_look S I (fun x c v z q => ?_) i x v e1 e2⟩, J.cell, J.free, J.freeC, fun p hp => J.pin p (by
    have hp : p ∈ (X.pn ++ pins) ++ [] := hp
    rw [List.append_nil] at hp
    exact List.mem_append_left _ hp), J.hok, fv_len S σ⟩
  obtain ⟨o, e, d⟩ := q
  have ne : c ∉ fp := fun w => (hf c w).2.2.2.2.1 x c z rfl
  obtain ⟨sl, q⟩ := J.base.any e (I.freeC x c z) ne
  exact ⟨_, q, d⟩
theorem comp_walkG0 {elt target iter : Expr} {scope : Scope} {pos : Pos} {N F : List Str} {js : List Nat} {wi : TI} {g : TG} {te : TE} (S : CompScopeF N F js scope X.N X.env) (hd : HdOk X) (hc0 : X.calm = true) (hi : PI X target iter wi) (hex : X.ex = [])
    (hg : ∀ C s₀ H₀ ex pn, HdOk (X.compF scope N F C s₀ H₀ ex pn) → PG (X.compF scope N F C s₀ H₀ ex pn) target g)
    (he : ∀ C s₀ H₀ ex pn, HdOk (X.compF scope N F C s₀ H₀ ex pn) → PE (X.compF scope N F C s₀ H₀ ex pn) elt te)
    {pins : List (Addr × Obj)} {s : Shared} {σ : St} {H : Hp} {Q : VK} {RR : Value → Env → Result → Shared → Prop} (I : Inv X pins σ H s) (h : (tCompF0 N.length js wi g te) σ H Q)
    (hRR : ∀ (D C : Addr) (s6 : Shared) (H5 : Hp) (mm : Str → Option Value), Inv X pins σ H5 s6 → s6.heap.Ns C mm → FpOk X pins H5 C → Q (.ref D) H5 → RR (.ref D) (compEnvC scope (clOf F X.env) C X.env) (.ok .next) s6) :
    wpAny (model X.prog X.w) X.A (eval iter X.env) (fun v s1 => wpAny (model X.prog X.w) X.A (pyIter v) (fun itv s2 => wpAny (model X.prog X.w) X.A (newList []) (fun acc s3 => wpAny (model X.prog X.w) X.A (newFunctionEnv scope X.env.globals (clOf F X.env) [] X.env.qual none .none (some X.env)) (fun cenv s4 =>
      codeAny (model X.prog X.w) X.A (.compStart (.ListComp elt [⟨target, iter, [], 0⟩] scope pos) 0 itv acc { cenv with scope := relabel scope X.env }) (RR acc { cenv with scope := relabel scope X.env }) s4) X.xe s3) X.xe s2) X.xe s1) X.xe s := by
  refine thn (hi pins s σ H _ I h) fun v s1 h1 => thn h1 fun itv s2 h2 => ?_
  obtain ⟨it, fp, tn, J, H2, rfl, I2, T, st2, f2, R⟩ := h2
  have ob2 := T.obj _ _ st2
  have hf2 := I2.hok.fresh (Nat.le_refl _)
  refine wpAny_newObj_type ?_
  have I3 : Inv X pins σ (upd H2 s2.heap.objs.size (.lst [])) { s2 with heap := s2.heap.push { cls := .type "list", dict := none, data := .seq ([] : List Value).toArray } } := Inv.lnew (t' := s2.toks) I2 .nil (Nat.zero_le _)
  refine wpAny_newFunctionEnv S.cell (by intro y hy; simp at hy) (fun h4 hns hsb => ?_) S.kind
  dsimp only at hns hsb ⊢
  generalize hG : s2.heap.push { cls := .type "list", dict := none, data := .seq ([] : List Value).toArray } = G at I3 hns hsb ⊢
  generalize hD : s2.heap.objs.size = D at I3 hf2
  have nD : ∀ b ∈ fp, b ≠ D := fun b hb => by
    obtain ⟨o, eo, _⟩ := ob2 b hb
    rw [← hD]; exact Nat.ne_of_lt (Heap.lt_size eo)
  have eiG : ∀ b ∈ fp, ∃ o, G.get? b = some o := fun b hb => by
    obtain ⟨o, eo, _⟩ := ob2 b hb
    exact ⟨o, by rw [← hG]; exact Heap.get?_push_of_some _ eo⟩
  have kp : ∀ b o, G.get? b = some o → h4.get? b = some o := fun b o e => hsb.extBut b o (Nat.ne_of_lt (Heap.lt_size e)) (Heap.get?_push_of_some _ e)
  have f3 : ∀ b ∈ fp, FpOk X pins (upd H2 D (.lst [])) b := fun b hb => ⟨by rw [upd_ne (nD b hb)]; exact (f2 b hb).1, (f2 b hb).2⟩
  have nb : ∀ b ∈ fp, X.base.get? b = none := fun b hb => by
    cases q : X.base.get? b with
    | none => rfl
    | some o =>
      have := (I.ok.bs b o q).1
      rcases (f2 b hb).2.2.2.1 with z | z
      · rw [hex] at z; simp at z
      · exact absurd (Nat.lt_of_lt_of_le (Heap.lt_size this) z) (Nat.lt_irrefl _)
  have hns' : h4.Ns G.objs.size (fun _ => none) := by
    obtain ⟨o, es, ep, q1, q2, q3, q4⟩ := hns
    exact ⟨o, es, ep, q1, q2, q3, fun x => by rw [q4]; rfl⟩
  have I4 := inv_compG (tk := s2.toks + ([] : List (Str × Value)).length) S I3 f3 eiG nb hns' kp
  have hdc : HdOk (X.compF scope N F G.objs.size { s2 with heap := G } (upd H2 D (.lst [])) fp (X.pn ++ pins)) := by
    rcases hd with z | ⟨x, o, u, vs, z, e, d, n⟩
    · exact .inl z
    · refine .inr ⟨x, o, u, vs, z, ?_, d, n⟩
      have q := I2.base.frzs x o u e
      show upd H2 D (.lst []) x = _
      rw [upd_ne fun w => by rw [w, hf2] at q; cases q]
      exact q
  obtain ⟨m, W, w0, turn⟩ := R D hf2
  have gg := hg _ _ _ _ _ hdc
  have ee := he _ _ _ _ _ hdc
  have fpc : ∀ {H' : Hp} {σ' : St} {s' : Shared} {pl : List (Addr × Obj)}, Inv (X.compF scope N F G.objs.size { s2 with heap := G } (upd H2 D (.lst [])) fp (X.pn ++ pins)) pl σ' H' s' → (∀ b ∈ fp, H' b = none) → (∀ b ∈ fp, ∀ p ∈ pl, p.1 ≠ b) → ∀ b ∈ fp, FpOk (X.compF scope N F G.objs.size { s2 with heap := G } (upd H2 D (.lst [])) fp (X.pn ++ pins)) pl H' b := by
    intro H' σ' s' pl J' hn hp b hb
    obtain ⟨oi, ei⟩ := eiG b hb
    refine ⟨hn b hb, Nat.ne_of_lt (Heap.lt_size ei), ?_, .inl hb, (fun x c z => (f2 b hb).2.2.2.2.1 x c (S.sub x c z)), fun p hpp => ?_⟩
    · intro z
      rcases List.mem_cons.mp (I.stkSub b z) with z | z
      · exact (f2 b hb).2.1 z
      · exact (f2 b hb).2.2.1 z
    · rcases List.mem_append.mp hpp with z | z
      · exact (f2 b hb).2.2.2.2.2 p z
      · exact hp b hb p z
  -- the turns
  have loop : codeAny (model X.prog X.w) X.A (.compLoop (.ListComp elt [⟨target, iter, [], 0⟩] scope pos) 0 (.ref it) (.ref D) (compEnvC scope (clOf F X.env) G.objs.size X.env))
      (RR (.ref D) (compEnvC scope (clOf F X.env) G.objs.size X.env))
      { s2 with heap := h4, toks := s2.toks + ([] : List (Str × Value)).length } := by
    refine kc0_loop (fun k s' => ∃ i ys H', k = m + 1 - i ∧ Inv (X.compF scope N F G.objs.size { s2 with heap := G } (upd H2 D (.lst [])) fp (X.pn ++ pins)) [] (List.replicate N.length none ++ fvOf js σ) H' s' ∧ tn i s'.heap ∧ (∀ b ∈ fp, H' b = none) ∧ W i ys H') ?_ (m + 1)
      ⟨0, [], _, rfl, I4, T.keep _ _ _ st2 fun b hb o e => kp b o (by rw [← hG]; exact Heap.get?_push_of_some _ e), fun b hb => (f3 b hb).1, w0⟩
    rintro k s5 ⟨i, ys, H5, rfl, I5, st5, n5, w5⟩
    obtain ⟨hi5, hD5, w5⟩ := turn i ys H5 w5
    rcases w5 with ⟨stop, q⟩ | ⟨lt5, go, step⟩
    · refine wpAny_mono (T.done (X.compF scope N F G.objs.size { s2 with heap := G } (upd H2 D (.lst [])) fp (X.pn ++ pins)) rfl rfl rfl hc0 i [] s5 _ H5 (fun _ _ => False) I5 (fpc I5 n5 (by simp)) st5 stop) (fun r s6 z => ?_) (fun _ _ z => z.elim)
      obtain ⟨rfl, I6⟩ := z
      obtain ⟨mm, hn6, _⟩ := I6.loc
      have B6 := I6.base
      have J6 : Inv X pins σ H5 s6 := by
        refine I3.call' (ch := fp) I6.os ⟨B6.keep, B6.slot, B6.free, B6.there, B6.tups, B6.frzs, B6.tbls⟩ I6.hok I6.bare (fun b hb => ⟨(f2 b hb).2.2.2.1, (f2 b hb).2.1, (f2 b hb).2.2.2.2.1, (f2 b hb).2.2.2.2.2⟩)
      have szG : X.s₀.heap.objs.size ≤ G.objs.size := I3.sz
      refine hRR D G.objs.size s6 H5 mm J6 hn6 ⟨I6.free, ?_, ?_, .inr szG, ?_, ?_⟩ q
      · exact Nat.ne_of_gt I3.lt
      · intro z
        obtain ⟨_, o, ho, _⟩ := I3.funs.mem z
        exact Nat.lt_irrefl _ (Heap.lt_size ho)
      · rintro x c z rfl
        obtain ⟨v', o, ho, _⟩ := I3.cell x _ z
        exact Nat.lt_irrefl _ (Heap.lt_size ho)
      · rintro p hp z
        have zz := (I3.pin p hp).1
        rw [z] at zz
        exact Nat.lt_irrefl _ (Heap.lt_size zz)
    · refine wpAny_mono (T.item (X.compF scope N F G.objs.size { s2 with heap := G } (upd H2 D (.lst [])) fp (X.pn ++ pins)) rfl rfl rfl hc0 i [] s5 _ H5 (fun _ _ => False) I5 (fpc I5 n5 (by simp)) st5 go) (fun r s6 z => ?_) (fun _ _ z => z.elim)
      obtain ⟨u, rfl, z⟩ := z
      refine wpAny_mono z (fun _ s7 z => ?_) (fun _ _ z => z.elim)
      obtain ⟨x, H7, I7, rx, yl, st7, fr7⟩ := z
      have ob7 := T.obj _ _ st7
      have I7' : Inv (X.compF scope N F G.objs.size { s2 with heap := G } (upd H2 D (.lst [])) fp (X.pn ++ pins)) (pinsAt fp s7.heap) (List.replicate N.length none ++ fvOf js σ) H7 s7 := I7.pinned (fpc I7 fr7 (by simp)) ob7
      have back : ∀ {i' : Nat} {ys' : List V} {H' : Hp} {σ' : St} {s' : Shared}, i' = i + 1 → Inv (X.compF scope N F G.objs.size { s2 with heap := G } (upd H2 D (.lst [])) fp (X.pn ++ pins)) (pinsAt fp s7.heap) σ' H' s' → W i' ys' H' →
          ∃ k', k' < m + 1 - i ∧ ∃ i ys H', k' = m + 1 - i ∧ Inv (X.compF scope N F G.objs.size { s2 with heap := G } (upd H2 D (.lst [])) fp (X.pn ++ pins)) [] (List.replicate N.length none ++ fvOf js σ) H' s' ∧ tn i s'.heap ∧ (∀ b ∈ fp, H' b = none) ∧ W i ys H' := by
        rintro i' ys' H' σ' s' rfl J' w'
        refine ⟨m + 1 - (i + 1), by omega, i + 1, ys', H', rfl, inv_freshG S I3 f3 J', T.keep _ _ _ st7 fun b hb o z => (J'.pin (b, o) (List.mem_append_right _ (mem_pinsAt hb z))).1, fun b hb => ?_, w'⟩
        obtain ⟨o, eo, _⟩ := ob7 b hb
        exact (J'.pin (b, o) (List.mem_append_right _ (mem_pinsAt hb eo))).2.1
      refine wpAny_mono (gg (pinsAt fp s7.heap) s7 _ H7 x u _ I7' rx (step x H7 yl)) (fun _ s8 z => ?_) (fun _ _ z => z.elim)
      obtain ⟨σ8, H8, I8, q8⟩ := z
      refine wpAny_mono (ee (pinsAt fp s7.heap) s8 σ8 H8 _ I8 q8) (fun y s10 z => ?_) (fun _ _ z => z.elim)
      obtain ⟨yv, H10, I10, ry, hD10, hz10, w10⟩ := z
      refine wpAny_mono (mt_append (X := X.compF scope N F G.objs.size { s2 with heap := G } (upd H2 D (.lst [])) fp (X.pn ++ pins)) (pinsAt fp s7.heap) s10 σ8 H10 (.ref D) [yv] (.ref D) [y] (fun _ H11 => W (i + 1) (ys ++ [yv]) H11) I10 rfl (.cons ry .nil) ⟨D, ys, yv, rfl, rfl, hD10, hz10, w10⟩) (fun _ s11 z => ?_) (fun _ _ z => z.elim)
      obtain ⟨_, H11, I11, _, w11⟩ := z
      exact back rfl I11 w11
  exact codeAny_compStart_list loop (T.self _ 0 _ _ _ (T.keep _ _ _ st2 fun b hb o e => kp b o (by rw [← hG]; exact Heap.get?_push_of_some _ e)) loop)
theorem pe_compG0 {elt target iter : Expr} {pos : Pos} {wi : TI} {g : TG} {te : TE} (S : CompScopeF N F js scope X.N X.env) (hd : HdOk X) (hc0 : X.calm = true) (hi : PI X target iter wi) (hex : X.ex = [])
    (hg : ∀ C s₀ H₀ ex pn, HdOk (X.compF scope N F C s₀ H₀ ex pn) → PG (X.compF scope N F C s₀ H₀ ex pn) target g)
    (he : ∀ C s₀ H₀ ex pn, HdOk (X.compF scope N F C s₀ H₀ ex pn) → PE (X.compF scope N F C s₀ H₀ ex pn) elt te)
    (hs : ∀ x, foldedSetIterable iter X.env x = pure x := by intro _; rfl) : PE X (.ListComp elt [⟨target, iter, [], 0⟩] scope pos) (tCompF0 N.length js wi g te) := by
  intro pins s σ H Q I h
  rw [eval_ListComp]
  refine wpAny_comprehension_free (use := none) rfl hs S.clos S.kind S.loc (comp_walkG0 S hd hc0 hi hex hg he I h (RR := fun acc ce r s' => compPost (model X.prog X.w) X.A X.xe none (EP X pins σ Q) acc ce.locals r s') ?_)
  intro D C s6 H5 mm I6 n6 f6 q
  exact ⟨mm, n6, fun h' sb => ⟨.ref D, H5, letgo I6 f6 sb, rfl, q⟩⟩
theorem ps_compG0 {i : Nat} {y : Str} {py spos : Pos} {elt target iter : Expr} {pos : Pos} {wi : TI} {g : TG} {te : TE} (S : CompScopeF N F js scope X.N X.env) (hd : HdOk X) (hc0 : X.calm = true) (hi : PI X target iter wi) (hex : X.ex = [])
    (hg : ∀ C s₀ H₀ ex pn, HdOk (X.compF scope N F C s₀ H₀ ex pn) → PG (X.compF scope N F C s₀ H₀ ex pn) target g)
    (he : ∀ C s₀ H₀ ex pn, HdOk (X.compF scope N F C s₀ H₀ ex pn) → PE (X.compF scope N F C s₀ H₀ ex pn) elt te) (hN : X.N.Nodup) (hi' : X.N[i]? = some y) (hy : Loc X.env.scope y)
    (hf : X.fn y = true ∨ X.env.scope.names.lookup y = some .local := by first | exact .inl rfl | exact .inr rfl | assumption)
    (hsw : swapsWith (.ListComp elt [⟨target, iter, [], 0⟩] scope pos) (some (.Name y py)) spos.line X.env = pure true := by rfl)
    (hs : ∀ x, foldedSetIterable iter X.env x = pure x := by intro _; rfl) : PS X (.Assign [.Name y py] (.ListComp elt [⟨target, iter, [], 0⟩] scope pos) spos) (tAsg (tCompF0 N.length js wi g te) (gName i)) := by
  intro pins s σ H D I h
  rw [exec_Assign_Name_used _ _ _ _ hsw]
  refine wpAny_bind (wpAny_standAt (wpAny_bind ?_))
  show wpAny _ X.A (do let _ ← comprehension (.ListComp elt [⟨target, iter, [], 0⟩] scope pos) scope X.env _ (newList []) false (eval iter X.env) (some (assign (.Name y py) X.env))) _ _ s
  refine wpAny_bind (wpAny_mono (wpAny_comprehension_free (Q := fun _ s' => SP X pins D .next s') rfl hs S.clos S.kind S.loc (comp_walkG0 S hd hc0 hi hex hg he I h (RR := fun acc ce r s' => compPost (model X.prog X.w) X.A X.xe (some (assign (.Name y py) X.env)) (fun _ s' => SP X pins D .next s') acc ce.locals r s') ?_))
    (fun _ s' hq => wpAny_pure (wpAny_pure hq)) fun _ _ e => e)
  intro D' C s6 H5 mm I6 n6 f6 q
  refine wpAny_assign_Name (store_ok2 (v := .ref D') I6 hN hi' hy rfl (fun s7 I7 st => ?_) hf)
  obtain ⟨a, sb, ha⟩ := st
  have na : C ≠ a := by
    rcases ha with rfl | ha
    · exact f6.2.1
    · exact (f6.2.2.2.2.1 y a ha).symm
  exact ⟨mm, n6.sameBut sb na, fun h' sb' => ⟨_, _, letgo I7 f6 sb', q⟩⟩
end
theorem CompScopeF.of0 {N : List Str} {sc : Scope} {XN : List Str} {env : Env} (S : CompS N [] sc) (clos : closureFor sc env = pure (clOf [] env)) : CompScopeF N [] [] sc XN env :=
  ⟨S.kind, S.cell, S.loc, S.nd, clos, fr_relabel S.cell S.fr, fun k y h => by simp at h, rfl⟩
end L2
set_option Elab.async false
set_option linter.all false
set_option maxRecDepth 100000
set_option maxHeartbeats 4000000
namespace L2
open PySem PySem.Spec PyProof.Rows PySem.W
theorem boot_zip : bootBuiltins "zip" = some (.type "zip") := by decide +kernel
section
variable {X : Cx} {pins : List (Addr × Obj)} {σ : St} {H : Hp} {s : Shared} {h' : Heap}
/-- several objects that are nobody's have turned -/
theorem Inv.turnedL {t' : Nat} {fp : List Addr} (I : Inv X pins σ H s) (k : ∀ b o, b ∉ fp → s.heap.get? b = some o → h'.get? b = some o) (hf : ∀ b ∈ fp, FpOk X pins H b) : Inv X pins σ H { s with heap := h', toks := t' } := by
  have nit : ∀ b u, H b = some u → b ∉ fp := fun b u e z => by rw [(hf b z).1] at e; cases e
  refine I.step (g' := s.gens) (d' := s.drawn) (ch := fp) (fun b hb => ?_) (fun b o _ _ hc e _ => k b o hc e) (fun b o _ _ hc e _ => ⟨o.slots, k b o hc e⟩) (fun _ _ _ _ n => n)
    (fun b o hc e => ⟨o, k b o hc e⟩) (fun _ _ e => e) (fun _ _ _ e => e) (fun b ps e => ⟨#[], by rw [e]; simp⟩) (fun m hm => ?_) (fun b u e => ?_) I.bare
  · obtain ⟨_, f1, _, f3, f4, f5⟩ := hf b hb
    exact ⟨f3, f1, f4, f5⟩
  · obtain ⟨o, es, ep, ho, r⟩ := hm
    exact ⟨o, es, ep, k _ o (fun z => (hf _ z).2.1 rfl) ho, r⟩
  · refine (I.hok b u e).stay (fun c v hc q => k c v ?_ q) (fun _ q => q) fun _ _ q => q
    rcases hc with z | z
    · rw [z]; exact nit b u e
    · exact nit c _ z
/-- a new pair, and objects that are nobody's have turned -/
theorem Inv.paired {t' : Nat} {fp : List Addr} {x y : V} {u v : Value} (I : Inv X pins σ H s) (rx : RelV x u) (ry : RelV y v) (hf : ∀ b ∈ fp, FpOk X pins H b) (hl : ∀ b ∈ fp, b < s.heap.objs.size)
    (k : ∀ b o, b ∉ fp → s.heap.get? b = some o → h'.get? b = some o) (hT : h'.get? s.heap.objs.size = some { cls := .type "tuple", data := .seq #[u, v] }) :
    Inv X pins σ (upd H s.heap.objs.size (.tup [x, y])) { s with heap := h', toks := t' } ∧ ∀ b ∈ fp, upd H s.heap.objs.size (.tup [x, y]) b = none := by
  have hn : ∀ b ∈ fp, upd H s.heap.objs.size (.tup [x, y]) b = none := fun b hb => by rw [upd_ne (Nat.ne_of_lt (hl b hb))]; exact (hf b hb).1
  have I1 : Inv X pins σ (upd H s.heap.objs.size (.tup [x, y])) { s with heap := s.heap.push { cls := .type "tuple", data := .seq #[u, v] }, toks := t' } :=
    I.laid (fun b o z => Heap.get?_push_of_some _ z) (Nat.le_refl _) ⟨line1000 (by show 2 ≤ 1000; decide), [u, v], .cons rx (.cons ry .nil), ⟨_, Heap.get?_push_size _ rfl, rfl, _, rfl⟩⟩
  have I2 : Inv X pins σ (upd H s.heap.objs.size (.tup [x, y])) { heap := h', gens := s.gens, drawn := s.drawn, toks := t', os := s.os } := Inv.turnedL (s := { heap := s.heap.push { cls := .type "tuple", data := .seq #[u, v] }, gens := s.gens, drawn := s.drawn, toks := t', os := s.os }) (h' := h') (t' := t') (fp := fp) I1 (fun b o hb z => ?_) (fun b hb => ⟨hn b hb, (hf b hb).2⟩)
  · exact ⟨I2, hn⟩
  rcases Heap.get?_push_cases z with ⟨rfl, rfl⟩ | z
  · exact hT
  · exact k b o hb z
end
/-- (one's item, the other's item): each turn a new pair -/
def Itz (K : Frag) (a b : Addr) : It :=
  ⟨fun i H => ∃ xs ys x y, SqL K H a xs ∧ SqL K H b ys ∧ xs[i]? = some x ∧ ys[i]? = some y,
   fun i H x H' => ∃ t u v, x = .ref t ∧ H t = none ∧ H' = upd H t (.tup [u, v]) ∧ (∀ xs, SqL K H a xs → xs[i]? = some u) ∧ ∀ ys, SqL K H b ys → ys[i]? = some v,
   fun i H => ∃ xs ys, SqL K H a xs ∧ SqL K H b ys ∧ (xs.length ≤ i ∨ ys.length ≤ i)⟩
theorem turn_zip {P : Program} {w : World} {K : Frag} {es : List Expr} {k : Nat} {pos : Pos} (a b z TI TO i1 i2 : Addr) (D : ZipApart z TI TO i1 i2 a b) :
    Turn P w K (.Tuple es k pos) (Itz K a b) [z, TI, TO, i1, i2] z (fun i h => IsZip h z TI TO .none ∧ IsPair h TI (.ref i1) (.ref i2) ∧ (∃ u v, IsPair h TO u v) ∧ h.IsListIter i1 a i ∧ h.IsListIter i2 b i) where
  mem := by simp
  obj := fun i h st c hc => by
    obtain ⟨hz, hTI, ⟨u, v, hTO⟩, ⟨o1, e1, c1, d1⟩, o2, e2, c2, d2⟩ := st
    rcases (by simpa using hc : c = z ∨ c = TI ∨ c = TO ∨ c = i1 ∨ c = i2) with rfl | rfl | rfl | rfl | rfl
    · exact ⟨_, hz, fun v z => by
        have z' : Data.fields _ = Data.cell v := z
        cases z'⟩
    · exact ⟨_, hTI, fun v z => by
        have z' : Data.seq _ _ = Data.cell v := z
        cases z'⟩
    · exact ⟨_, hTO, fun v z => by
        have z' : Data.seq _ _ = Data.cell v := z
        cases z'⟩
    · exact ⟨o1, e1, fun v z => by rw [d1] at z; cases z⟩
    · exact ⟨o2, e2, fun v z => by rw [d2] at z; cases z⟩
  keep := fun i h h' st k => by
    obtain ⟨hz, hTI, ⟨u, v, hTO⟩, h1, h2⟩ := st
    exact ⟨k z (by simp) _ hz, k TI (by simp) _ hTI, ⟨u, v, k TO (by simp) _ hTO⟩, h1.at fun o x => k i1 (by simp) o x, h2.at fun o x => k i2 (by simp) o x⟩
  item := by
    intro X hP hw hK hc i pins s σ H E I hf st hg
    subst hP hw hK
    obtain ⟨xs, ys, x, y, hq, hr, hx, hy⟩ := hg
    obtain ⟨its, rv, p, _⟩ := I.list hq
    obtain ⟨jts, rw', p', _⟩ := I.list hr
    obtain ⟨u, hu, ru⟩ := rv.get hx
    obtain ⟨v, hv, rv'⟩ := rw'.get hy
    obtain ⟨hz, hTI, ⟨c0, c1, hTO⟩, h1, h2⟩ := st
    have zlt : z < s.heap.objs.size := Heap.lt_size hz
    have lts : ∀ c ∈ [z, TI, TO, i1, i2], c < s.heap.objs.size := fun c hc => by
      obtain ⟨o1, e1, _⟩ := id h1
      obtain ⟨o2, e2, _⟩ := id h2
      rcases (by simpa using hc : c = z ∨ c = TI ∨ c = TO ∨ c = i1 ∨ c = i2) with rfl | rfl | rfl | rfl | rfl
      · exact zlt
      · exact Heap.lt_size hTI
      · exact Heap.lt_size hTO
      · exact Heap.lt_size e1
      · exact Heap.lt_size e2
    refine wpAny_pyNext_zip_item D hz hTI hTO h1 h2 p.isList p'.isList (x := u) (y := v) (by simpa using hu) (by simpa using hv) fun g1 ho hTO1 h11 h21 hT hsz hk => ?_
    refine ⟨_, rfl, wpAny_letOwnedTupleGo_zip ho fun g2 hz2 hs2 => ?_⟩
    have hs2 : Heap.SameBut z g1 g2 := hs2
    obtain ⟨I2, hn⟩ := I.paired (h' := g2) (t' := s.toks) (fp := [z, TI, TO, i1, i2]) ru rv' hf lts
      (fun c o hb q => (hs2.2 c (fun w => hb (by simp [w]))).trans (hk c o (fun w => hb (by simp [w])) (fun w => hb (by simp [w])) (fun w => hb (by simp [w])) (fun w => hb (by simp [w])) q)) ((hs2.2 _ (Nat.ne_of_gt zlt)).trans hT)
    refine ⟨.ref s.heap.objs.size, _, I2, rfl, ⟨_, x, y, rfl, I.hok.fresh (Nat.le_refl _), rfl, fun ws hw => by rw [I.list_inj hw hq]; exact hx, fun ws hw => by rw [I.list_inj hw hr]; exact hy⟩, ⟨hz2, ?_, ⟨u, v, ?_⟩, ?_, ?_⟩, hn⟩
    · exact (hs2.2 _ D.TIz).trans (hk TI _ D.TIz D.TITO D.TIi1 D.TIi2 hTI)
    · exact (hs2.2 _ D.TOz).trans hTO1
    · exact h11.at fun o q => (hs2.2 _ D.i1z).trans q
    · exact h21.at fun o q => (hs2.2 _ D.i2z).trans q
  done := by
    intro X hP hw hK hc i pins s σ H E I hf st hg
    subst hP hw hK
    obtain ⟨xs, ys, hq, hr, hx⟩ := hg
    obtain ⟨its, rv, p, _⟩ := I.list hq
    obtain ⟨jts, rw', p', _⟩ := I.list hr
    obtain ⟨hz, hTI, ⟨c0, c1, hTO⟩, h1, h2⟩ := st
    have hl := rv.length
    have hl' := rw'.length
    refine wpAny_pyNext_zip_end (I.ok.hd hc) D hz hTI hTO h1 h2 p.isList p'.isList ?_ fun h' eb => ⟨rfl, I.turnedL (t' := s.toks) (fp := [z, TI, TO, i1, i2]) (fun c o hb q => eb c o (fun w => hb (by simp [w])) (fun w => hb (by simp [w])) (fun w => hb (by simp [w])) (fun w => hb (by simp [w])) q) hf⟩
    rcases hx with hx | hx
    · exact .inl (by simp; omega)
    · exact .inr (by simp; omega)
  self := fun _ _ _ _ _ st h => wpAny_pyIter_zip st.1 h
theorem zip_apart (n l l' : Nat) (h1 : l < n) (h2 : l' < n) : ZipApart (n + 4) (n + 2) (n + 3) n (n + 1) l l' := by
  constructor <;> (show @Ne Nat _ _; omega)
section
variable {X : Cx} {es : List Expr} {k : Nat} {tp : Pos}
def iZip (K : Frag) (ta : TA) : TI := fun σ H R => ta σ H fun vs H1 => ∃ a b, vs = [.ref a, .ref b] ∧ (∃ xs, SqL K H1 a xs) ∧ (∃ ys, SqL K H1 b ys) ∧ R (Itz K a b) H1
theorem pi_zip {a b : Expr} {ta : TA} {p pos : Pos} (hg : Gl X "zip") (hm : X.mg "zip" = none) (ha : PA X [a, b] ta) (hs : starEach [a, b] X.env = [(false, eval a X.env), (false, eval b X.env)] := by rfl) (hs2 : starEach [b] X.env = [(false, eval b X.env)] := by rfl) :
    PI X (.Tuple es k tp) (.Call (.Name "zip" p) [a, b] [] pos) (iZip X.K ta) := by
  intro pins s σ H R I h
  refine Call_ (ld_blt I hg hm boot_zip (PyProof.Rows.callWith_type1 (thn (ha pos pins s σ H _ I h) fun us s1 ⟨vs, H1, I1, r1, q1⟩ => ?_) (by rw [hs, hs2]) (by rw [hs2]; rfl)))
  obtain ⟨l, l', e, ⟨xs, hq⟩, ⟨ys, hr⟩, q⟩ := q1
  subst e
  cases r1 with
  | cons r rr =>
    cases rr with
    | cons r' rr =>
      cases rr
      cases r
      cases r'
      obtain ⟨its, rv, pl, _⟩ := I1.list hq
      obtain ⟨jts, rw', pl', _⟩ := I1.list hr
      obtain ⟨o1, e1, _⟩ := id pl.isList
      obtain ⟨o2, e2, _⟩ := id pl'.isList
      have l1 := Heap.lt_size e1
      have l2 := Heap.lt_size e2
      refine call_zip_2 pl.isList pl'.isList fun h' hz hTI hTO h1 h2 hsz hk => wpAny_pyIter_zip hz ?_
      have I2 : Inv X pins σ H1 { s1 with heap := h' } := I1.kept (t' := s1.toks) hk
      have D : ZipApart (s1.heap.objs.size + 4) (s1.heap.objs.size + 2) (s1.heap.objs.size + 3) s1.heap.objs.size (s1.heap.objs.size + 1) l l' := zip_apart _ _ _ l1 l2
      refine ⟨s1.heap.objs.size + 4, [s1.heap.objs.size + 4, s1.heap.objs.size + 2, s1.heap.objs.size + 3, s1.heap.objs.size, s1.heap.objs.size + 1], _, _, H1, rfl, I2, turn_zip l l' _ _ _ _ _ D, ⟨hz, hTI, ⟨_, _, hTO⟩, h1, h2⟩, fun b hb => ?_, q⟩
      have hb : b = s1.heap.objs.size + 4 ∨ b = s1.heap.objs.size + 2 ∨ b = s1.heap.objs.size + 3 ∨ b = s1.heap.objs.size ∨ b = s1.heap.objs.size + 1 := by simpa using hb
      have ge : s1.heap.objs.size ≤ b := by
        rcases hb with rfl | rfl | rfl | rfl | rfl
        · exact Nat.le_add_right _ _
        · exact Nat.le_add_right _ _
        · exact Nat.le_add_right _ _
        · exact Nat.le_refl _
        · exact Nat.le_add_right _ _
      exact I1.fpOk ge (I1.hok.fresh ge)
/-- e[::-1] of a list -/
def tRev (K : Frag) (te ts : TE) : TE := fun σ H Q => te σ H fun x H1 => ts σ H1 fun z H2 => z = .int (-1) ∧ ∃ a xs, x = .ref a ∧ SqL K H2 a xs ∧ ∀ p, H2 p = none → Q (.ref p) (upd H2 p (.lst xs.reverse))
theorem filterMap_all {α β : Type} {f : α → Option β} {g : α → β} : ∀ l : List α, (∀ k ∈ l, f k = some (g k)) → l.filterMap f = l.map g
  | [], _ => rfl
  | a :: l, h => by
    rw [List.filterMap_cons, h a (List.mem_cons_self ..)]
    show g a :: l.filterMap f = g a :: l.map g
    rw [filterMap_all l fun k hk => h k (List.mem_cons_of_mem _ hk)]
theorem pick_rev (its : List Value) : slicePick its.toArray none none (some (-1)) = its.reverse.toArray := by
  unfold slicePick
  congr 1
  show (sliceRange ((its.toArray.size : Int) - 1) (-1) (-1)).filterMap (its.toArray[·]?) = its.reverse
  have e : sliceRange ((its.toArray.size : Int) - 1) (-1) (-1) = (List.range its.length).map fun k => its.length - 1 - k := by
    unfold sliceRange
    have c : (if (-1 : Int) > 0 then (if ((its.toArray.size : Int) - 1) < -1 then (-1 - ((its.toArray.size : Int) - 1) + -1 - 1) / -1 else 0) else (if ((its.toArray.size : Int) - 1) > -1 then (((its.toArray.size : Int) - 1) - -1 - -1 - 1) / (- -1) else 0)).toNat = its.length := by
      rw [if_neg (by decide), List.size_toArray]
      split
      · rw [show (- -1 : Int) = 1 by decide, Int.ediv_one]; omega
      · omega
    show (List.range (if (-1 : Int) > 0 then (if ((its.toArray.size : Int) - 1) < -1 then (-1 - ((its.toArray.size : Int) - 1) + -1 - 1) / -1 else 0) else (if ((its.toArray.size : Int) - 1) > -1 then (((its.toArray.size : Int) - 1) - -1 - -1 - 1) / (- -1) else 0)).toNat).map (fun k : Nat => (((its.toArray.size : Int) - 1) + (-1) * (k : Int)).toNat) = _
    rw [c]
    refine List.map_congr_left fun k hk => ?_
    have := List.mem_range.mp hk
    rw [List.size_toArray]
    omega
  rw [e]
  apply List.ext_getElem?
  intro i
  have fm : ((List.range its.length).map fun k => its.length - 1 - k).filterMap (its.toArray[·]?) = ((List.range its.length).map fun k => its.length - 1 - k).filterMap (its[·]?) := by simp
  rw [fm, List.filterMap_map]
  have g : (List.range its.length).filterMap ((its[·]?) ∘ fun k => its.length - 1 - k) = its.reverse := by
    have h1 : ∀ k ∈ List.range its.length, ((its[·]?) ∘ fun k => its.length - 1 - k) k = some (its.reverse[k]?.getD .none) := fun k hk => by
      have hk := List.mem_range.mp hk
      show its[its.length - 1 - k]? = _
      rw [List.getElem?_reverse hk, List.getElem?_eq_getElem (by omega)]
      rfl
    rw [filterMap_all _ h1]
    apply List.ext_getElem?
    intro j
    rw [List.getElem?_map]
    by_cases hj : j < its.length
    · rw [List.getElem?_range hj]
      show some (its.reverse[j]?.getD .none) = its.reverse[j]?
      rw [List.getElem?_eq_getElem (by simpa using hj)]
      rfl
    · rw [List.getElem?_eq_none (by simpa using hj), List.getElem?_eq_none (by simpa using hj)]
      rfl
  rw [g]
theorem pe_rev {e st : Expr} {te ts : TE} {p2 pos : Pos} (he : PE X e te) (hst : PE X st ts) : PE X (.Subscript e (.Slice none none (some st) p2) pos) (tRev X.K te ts) := by
  intro pins s σ H Q I h
  refine Subscript_ (thn (he pins s σ H _ I h) fun v s1 ⟨x, H1, I1, r1, q1⟩ => ?_)
  refine wpAny_Slice ?_
  rw [evalPart_none]
  refine wpAny_pure (wpAny_pure ?_)
  rw [evalPart_some]
  refine thn (hst pins s1 σ H1 _ I1 q1) fun vs s3 ⟨z, H3, I3, rz, q3⟩ => ?_
  obtain ⟨rfl, a, xs, rfl, hx, q⟩ := q3
  obtain ⟨t, rfl⟩ := rz
  cases r1
  have I4 : Inv X pins σ H3 { s3 with heap := s3.heap.push { cls := .type "slice", data := .fields #[.none, .none, .int (-1) t] } } := I3.kept (t' := s3.toks) fun b ob q => Heap.get?_push_of_some _ q
  obtain ⟨its, r, ht, hz⟩ := I4.list hx
  have hlen := r.length
  have hg : wpAny (model X.prog X.w) X.A (getItem (.ref a) (.ref s3.heap.objs.size)) (EP X pins σ Q) X.xe { s3 with heap := s3.heap.push { cls := .type "slice", data := .fields #[.none, .none, .int (-1) t] } } := by
    refine wpAny_getItem_list_slice ht.isList (Heap.IsSliceOf.new ..) .none .none (.int (-1) t) (by decide) ?_ (by rw [List.size_toArray] <;> omega)
    rw [pick_rev]
    refine ⟨.ref _, _, I4.laid (t' := s3.toks) (o := .lst xs.reverse) (fun b ob q => Heap.get?_push_of_some _ q) (Nat.le_refl _) ?_, rfl, q _ (I4.hok.fresh (Nat.le_refl _))⟩
    exact ⟨by rw [List.length_reverse]; exact hz, _, 0, r.reverse, Heap.get?_push_size _ rfl⟩
  show wpAny (model X.prog X.w) X.A (subscriptTail e (.Slice none none (some st) p2) (.ref a) (.ref s3.heap.objs.size)) (EP X pins σ Q) X.xe { s3 with heap := s3.heap.push { cls := .type "slice", data := .fields #[.none, .none, .int (-1) t] } }
  exact tail_any (ops := [.ref a, .ref s3.heap.objs.size]) ht.isList.typeIs slot_list_getitem.lookup hg (by with_unfolding_all rfl)
end
/-! ### a comprehension, turn by turn -/
/-- all objects but the one at D stay -/
def Exc1 (D : Addr) (H H' : Hp) : Prop := ∀ b o, H b = some o → b ≠ D → H' b = some o
/-- each turn makes one item, told by R, and keeps all that is there -/
theorem comp_gen0 {J : It} {g : TG} {te : TE} {σ0 : St} {H1 : Hp} {QD : Addr → Hp → Prop} {n : Nat} (R : Nat → V → Hp → Prop) (hn : n ≤ 1000)
    (mono : ∀ i y H' H'' D l, R i y H' → H' D = some (.lst l) → Exc1 D H' H'' → R i y H'')
    (step : ∀ i H2 Qy, i < n → Same H1 H2 → (∀ y H6, Same H2 H6 → R i y H6 → Qy y H6) → J.go i H2 ∧ ∀ x H3, J.yld i H2 x H3 → g x σ0 H3 fun σ4 H4 => te σ4 H4 Qy)
    (stop : ∀ H2, Same H1 H2 → J.stop n H2)
    (k : ∀ D H' ys, Same H1 H' → H1 D = none → H' D = some (.lst ys) → ys.length = n → (∀ i y, ys[i]? = some y → R i y H') → QD D H') : ∀ D, H1 D = none →
    ∃ (m : Nat) (W : Nat → List V → Hp → Prop), W 0 [] (upd H1 D (.lst [])) ∧ ∀ i ys H2, W i ys H2 → i ≤ m ∧ H2 D = some (.lst ys) ∧ ((J.stop i H2 ∧ QD D H2) ∨ (i < m ∧ J.go i H2 ∧ ∀ x H3, J.yld i H2 x H3 →
      g x σ0 H3 fun σ4 H4 => te σ4 H4 fun y H6 => H6 D = some (.lst ys) ∧ ys.length < sizeLine ∧ W (i + 1) (ys ++ [y]) (upd H6 D (.lst (ys ++ [y]))))) := by
  intro D hD
  refine ⟨n, fun i ys H2 => i ≤ n ∧ ys.length = i ∧ H2 D = some (.lst ys) ∧ Same H1 H2 ∧ ∀ j y, ys[j]? = some y → R j y H2, ⟨Nat.zero_le _, rfl, upd_same, Same.upd hD, fun j y h => by simp at h⟩, ?_⟩
  rintro i ys H2 ⟨hi, hl, hd, sm, hR⟩
  refine ⟨hi, hd, ?_⟩
  by_cases hlt : i < n
  · refine .inr ⟨hlt, step i H2 _ hlt sm fun y H6 s6 r6 => ?_⟩
    have d6 : H6 D = some (.lst ys) := s6 _ _ hd
    have ex : Exc1 D H6 (upd H6 D (.lst (ys ++ [y]))) := fun b o e hb => by rw [upd_ne hb]; exact e
    refine ⟨d6, Nat.lt_of_le_of_lt (by omega : ys.length ≤ 1000) (small1000 (Nat.le_refl _)), hlt, by simp [hl], upd_same, fun b o e => ?_, fun j z hj => ?_⟩
    · rw [upd_ne (ne_of_none e hD)]
      exact s6 _ _ (sm _ _ e)
    · by_cases hj' : j < ys.length
      · rw [List.getElem?_append_left hj'] at hj
        exact mono j z H6 _ D ys (mono j z H2 H6 D ys (hR j z hj) hd fun b o e _ => s6 _ _ e) d6 ex
      · rw [List.getElem?_append_right (by omega)] at hj
        have e0 : j - ys.length = 0 := by
          apply Classical.byContradiction
          intro q
          rw [List.getElem?_eq_none (by simp; omega)] at hj
          cases hj
        rw [e0] at hj
        have ej : j = i := by omega
        subst ej
        cases hj
        exact mono _ _ H6 _ D ys r6 d6 ex
  · have e : i = n := by omega
    subst e
    exact .inl ⟨stop H2 sm, k D H2 ys sm hD hd hl hR⟩
end L2
set_option Elab.async false
set_option linter.all false
set_option maxRecDepth 100000
set_option maxHeartbeats 4000000
namespace TR
open PySem L2 PySem.W PyProof.Rows
seal PE PS PSs PA PT PW PG PGs PI PO
def top (i : Nat) : Stmt := PySem.Challenge.pw_tenreckon_k17_compared.main.body.getD i (.Pass ⟨0, 0, 0, 0⟩)
abbrev sIsB : Stmt := (top 20)
section
variable {P : Program} {w : World} {K : Frag} {mg : Str → Option Value} {base : Heap}
def spIsB (K : Frag) : Sp := fun vs H Q _ => ∃ v lo hi, vs = [v, .int lo, .int hi] ∧ ((GoodV lo hi v ∧ Q (.bl true) H) ∨ (BadV K H lo hi v ∧ Q (.bl false) H))
theorem scIsB : FnScope ["thing", "least", "most"] ["thing", "least", "most"] (defScope sIsB) := ⟨rfl, rfl, rfl, by decide +kernel, rfl, by decide +kernel, by decide +kernel⟩
theorem ok_isB {f : Addr} {fd : FuncData} (D : Def K mg "is_between" ["thing", "least", "most"] sIsB f fd) (O : Own mg) (T : Kit K) : FnOk P w K mg base (CX1 P w) 1 f fd ["thing", "least", "most"] (spIsB K) := by
  refine FnOk.up (D.F.ok scIsB (fun vs H Q E h => ?_) (fun cdv A outer s H vs Q E hr h => ?_))
  · obtain ⟨v, lo, hi, rfl, _⟩ := h
    rfl
  · obtain ⟨v, lo, hi, rfl, h⟩ := h
    refine ⟨_, (pss_cons (ps_if (PW.pt (pw_or (pt_not (pt_val (pisi O.isi (pv 0) (pty O.int_ boot_int)))) (pw_or1 (pt_val (pisi O.isi (pv 0) (pty O.bool_ boot_bool)))))) (pss_one (ps_ret pe_bl)) pss_nil)
      (pss_one (ps_ret (pe_and (pe_cmpR op_ge (pv 0) (pv 1) (nomark _)) (pe_one (pe_cmpR op_le (pv 0) (pv 2) (nomark _))))))), ?_⟩
    rcases h with ⟨⟨i, rfl, h1, h2⟩, k⟩ | ⟨⟨t, b1, b2, ty, k1, k2, bad⟩, k⟩
    · refine ⟨_, rfl, _, _, _, _, true, rfl, rfl, tyInt i, T.int_int, _, rfl, iteF ?_⟩
      refine ⟨_, rfl, _, _, _, _, false, rfl, rfl, tyInt i, T.int_bool, _, rfl, iteF ?_⟩
      refine ⟨_, rfl, _, rfl, _, _, rfl, rfl, _, rfl, iteDT h1 ?_⟩
      refine ⟨_, rfl, _, rfl, _, _, rfl, rfl, ?_⟩
      show Q (.bl (decide (i ≤ hi))) H
      rw [decide_eq_true h2]
      exact k
    · refine ⟨_, rfl, _, _, _, _, b1, rfl, rfl, ty, k1, _, rfl, ?_⟩
      cases b1 with
      | false => exact iteT (iteT k)
      | true =>
        refine iteF ⟨_, rfl, _, _, _, _, b2, rfl, rfl, ty, k2, _, rfl, ?_⟩
        cases b2 with
        | true => exact iteT k
        | false =>
          obtain ⟨i, rfl, out⟩ := bad.resolve_left (by decide)
          refine iteF ⟨_, rfl, _, rfl, _, _, rfl, rfl, _, rfl, iteD (fun h1 => ?_) (fun h1 => ?_)⟩
          · refine ⟨_, rfl, _, rfl, _, _, rfl, rfl, ?_⟩
            show Q (.bl (decide (i ≤ hi))) H
            rw [decide_eq_false (by omega : ¬ i ≤ hi)]
            exact k
          · exact k
end
end TR
set_option Elab.async false
set_option linter.all false
set_option maxRecDepth 100000
set_option maxHeartbeats 4000000
namespace TR
open PySem L2 PySem.W PyProof.Rows
seal PE PS PSs PA PT PW PG PGs PI PO
/-- the error class BadContext -/
structure Err (K : Frag) (mg : Str → Option Value) (x : Str) (CB : Addr) : Prop where
  g : mg x = some (.ref CB)
  q : excIn K CB [.type "ValueError", .type "Exception", .type "BaseException", .type "object"] "ValueError.__new__" = true
end TR
set_option Elab.async false
set_option linter.all false
set_option maxRecDepth 100000
set_option maxHeartbeats 4000000
namespace TR
open PySem L2 PySem.W PyProof.Rows
seal PE PS PSs PA PT PW PG PGs PI PO
def Lits (lo hi : Int) : Prop := lo.natAbs.log2 < 1920 ∧ hi.natAbs.log2 < 1920 ∧ (Str.ofString (toString lo)).length ≤ 100 ∧ (Str.ofString (toString hi)).length ≤ 100
end TR
set_option Elab.async false
set_option linter.all false
set_option maxRecDepth 100000
set_option maxHeartbeats 4000000
namespace TR
open PySem L2 PySem.W PyProof.Rows
seal PE PS PSs PA PT PW PG PGs PI PO
abbrev sBetween : Stmt := (top 21)
section
variable {P : Program} {w : World} {K : Frag} {mg : Str → Option Value} {base : Heap}
def spBetween (K : Frag) (CB : Addr) : Sp := fun vs H Q E => ∃ v lo hi, vs = [v, .int lo, .int hi] ∧ Lits lo hi ∧
  ((GoodV lo hi v ∧ Q .non H) ∨ (BadV K H lo hi v ∧ E (.ref CB) none H))
theorem scBetween : FnScope ["thing", "least", "most"] ["thing", "least", "most"] (defScope sBetween) := ⟨rfl, rfl, rfl, by decide +kernel, rfl, by decide +kernel, by decide +kernel⟩
theorem ok_between {f f1 CB : Addr} {fd fd1 : FuncData} (D : Def K mg "need_between" ["thing", "least", "most"] sBetween f fd) (D1 : Def K mg "is_between" ["thing", "least", "most"] sIsB f1 fd1) (O : Own mg) (T : Kit K) (B : Err K mg "BadNumber" CB) :
    FnOk P w K mg base (CX1 P w) 2 f fd ["thing", "least", "most"] (spBetween K CB) := by
  have G1 := ok_isB (P := P) (w := w) (base := base) D1 O T
  refine D.F.okE scBetween (fun vs H Q E h => ?_) (fun X cdv A outer s H vs Q E hX hr hx h => ?_)
  · obtain ⟨v, lo, hi, rfl, _⟩ := h
    rfl
  · subst hX
    obtain ⟨v, lo, hi, rfl, ⟨l1, l2, l3, l4⟩, h⟩ := h
    refine ⟨_, (pss_one (ps_if (pt_not (pt_val (pcall D1 G1 hr hx (pa_cons (pv 0) (pa_cons (pv 1) (pa_cons (pv 2) pa_nil))))))
      (pss_one (ps_raise (by rfl) B.g B.q PySem.F.excBase_ValueError hr.hd hx (pa_cons (pe_fstr (.cons .lit (.cons (.int (pv 1)) (.cons .lit (.cons (.int (pv 2)) .nil))))) pa_nil))) pss_nil)), ?_⟩
    rcases h with ⟨g, k⟩ | ⟨bad, k⟩
    · exact ⟨_, rfl, _, rfl, _, rfl, _, _, _, rfl, .inl ⟨g, _, rfl, iteF k⟩⟩
    · have a0 : Str.empty.length = 0 := rfl
      have a1 : (Str.ofString "not a whole number from ").length = 24 := by decide +kernel
      have a2 : (Str.ofString " to ").length = 4 := by decide +kernel
      have sz : ∀ {n : Nat}, n ≤ 1000 → n ≤ sizeLine := fun h => Nat.le_of_lt (small1000 h)
      refine ⟨_, rfl, _, rfl, _, rfl, _, _, _, rfl, .inr ⟨bad, _, rfl, iteT ?_⟩⟩
      exact ⟨_, rfl, sz (by rw [strLen_append]; omega), _, rfl, _, rfl, l1, _, rfl, sz (by rw [strLen_append, strLen_append]; omega), _, rfl, sz (by rw [strLen_append, strLen_append, strLen_append]; omega), _, rfl, _, rfl, l2, _, rfl, sz (by rw [strLen_append, strLen_append, strLen_append, strLen_append]; omega), sz (by rw [strLen_append, strLen_append, strLen_append, strLen_append]; omega), sz (by show 1 ≤ 1000; decide), k⟩
end
end TR
set_option Elab.async false
set_option linter.all false
set_option maxRecDepth 100000
set_option maxHeartbeats 4000000
namespace TR
open PySem L2 PySem.W PyProof.Rows
seal PE PS PSs PA PT PW PG PGs PI PO
abbrev sInit : Stmt := (inClass (top 11) 0)
abbrev sTold : Stmt := (top 15)
abbrev sNeedN : Stmt := (top 16)
/-! ### the class Number -/
structure Num (K : Frag) (mg : Str → Option Value) (CN : Addr) : Prop where
  g : mg "Number" = some (.ref CN)
  cl : Cls K CN
  n1 : NoAttr K CN "kind"
  n2 : NoAttr K CN "sign"
  n3 : NoAttr K CN "figures"
  n4 : NoAttr K CN "power"
  ca : findIn K (.ref CN) "__class__" = some (some (.builtin "object.__class__"))
  sn : specialIn K (.builtin "object.__class__") "__get__" = some (some (.builtin "getset_descriptor.__get__"))
  tk : takesIn K (.builtin "object.__class__") = some true
  ob : mroIn K CN (.type "object") = some true
  self : kitOne K (.ref CN) (.ref CN) = some true
def numF (k s f p : V) : List (Str × V) := putF "power" p (putF "figures" f (putF "sign" s (putF "kind" k [])))
theorem e12 : ¬ (("kind" : Str) = "sign") := by decide +kernel
theorem e13 : ¬ (("kind" : Str) = "figures") := by decide +kernel
theorem e14 : ¬ (("kind" : Str) = "power") := by decide +kernel
theorem e23 : ¬ (("sign" : Str) = "figures") := by decide +kernel
theorem e24 : ¬ (("sign" : Str) = "power") := by decide +kernel
theorem e34 : ¬ (("figures" : Str) = "power") := by decide +kernel
theorem num1 (k s f p : V) : (numF k s f p).lookup ("kind" : Str) = some k := by unfold numF; rw [lookup_putF, if_neg e14, lookup_putF, if_neg e13, lookup_putF, if_neg e12, lookup_putF, if_pos rfl]
theorem num2 (k s f p : V) : (numF k s f p).lookup ("sign" : Str) = some s := by unfold numF; rw [lookup_putF, if_neg e24, lookup_putF, if_neg e23, lookup_putF, if_pos rfl]
theorem num3 (k s f p : V) : (numF k s f p).lookup ("figures" : Str) = some f := by unfold numF; rw [lookup_putF, if_neg e34, lookup_putF, if_pos rfl]
theorem num4 (k s f p : V) : (numF k s f p).lookup ("power" : Str) = some p := by unfold numF; rw [lookup_putF, if_pos rfl]
/-- a number stands at n -/
def NumAt (CN : Addr) (H : Hp) (n : Addr) (k s f p : V) : Prop := ∃ dx, H n = some (.ins CN dx (numF k s f p))
theorem NumAt.same {CN : Addr} {H H' : Hp} {n : Addr} {k s f p : V} (h : NumAt CN H n k s f p) (e : Same H H') : NumAt CN H' n k s f p := by
  obtain ⟨dx, z⟩ := h
  exact ⟨dx, e _ _ z⟩
theorem Num.ty {K : Frag} {mg : Str → Option Value} {CN : Addr} (N : Num K mg CN) {H : Hp} {n : Addr} {k s f p : V} (h : NumAt CN H n k s f p) : TyE K H (.ref n) (.ref CN) := by
  obtain ⟨dx, z⟩ := h
  exact .of (.ins z N.cl N.ca N.sn N.tk N.ob)
section
variable {P : Program} {w : World} {K : Frag} {mg : Str → Option Value} {base : Heap}
def spInit (CN : Addr) : Sp := fun vs H Q _ => ∃ (p dx : Addr) (k s f pw : V), vs = [.ref p, k, s, f, pw] ∧ H p = some (.ins CN dx []) ∧ ∀ H', H' p = some (.ins CN dx (numF k s f pw)) → (∀ b o, H b = some o → b ≠ p → H' b = some o) → Q .non H'
theorem scInit : FnScope ["self", "kind", "sign", "figures", "power"] ["self", "kind", "sign", "figures", "power"] (defScope sInit) := ⟨rfl, rfl, rfl, by decide +kernel, rfl, by decide +kernel, by decide +kernel⟩
theorem ok_init {f CN : Addr} {fd : FuncData} (F : Fun K "__init__" "Number.__init__" sInit f fd) (N : Num K mg CN) : FnOk P w K mg base CX0 1 f fd ["self", "kind", "sign", "figures", "power"] (spInit CN) := by
  refine F.ok scInit (fun vs H Q E h => ?_) (fun cdv A outer s H vs Q E hr h => ?_)
  · obtain ⟨p, dx, a, b, c, d, rfl, _⟩ := h
    rfl
  · obtain ⟨p, dx, a, b, c, d, rfl, hp, k⟩ := h
    refine ⟨_, pss_cons (ps_fld (pv 0) (pv 1) rfl) (pss_cons (ps_fld (pv 0) (pv 2) rfl) (pss_cons (ps_fld (pv 0) (pv 3) rfl) (pss_one (ps_fld (pv 0) (pv 4) rfl)))), ?_⟩
    have l : ∀ (fs : List (Str × V)) (f : Str) (v : V) (n : Nat), fs.length ≤ n → (putF f v fs).length ≤ n + 1 := fun fs f v n h => Nat.le_trans (length_putF f v fs) (Nat.succ_le_succ h)
    refine ⟨_, rfl, _, rfl, p, CN, dx, [], rfl, hp, N.cl, N.n1, (by show 0 < 1000; decide), ?_⟩
    refine ⟨_, rfl, _, rfl, p, CN, dx, _, rfl, upd_same, N.cl, N.n2, Nat.lt_of_le_of_lt (l _ _ _ 0 (Nat.le_refl _)) (by decide), ?_⟩
    refine ⟨_, rfl, _, rfl, p, CN, dx, _, rfl, upd_same, N.cl, N.n3, Nat.lt_of_le_of_lt (l _ _ _ 1 (l _ _ _ 0 (Nat.le_refl _))) (by decide), ?_⟩
    refine ⟨_, rfl, _, rfl, p, CN, dx, _, rfl, upd_same, N.cl, N.n4, Nat.lt_of_le_of_lt (l _ _ _ 2 (l _ _ _ 1 (l _ _ _ 0 (Nat.le_refl _)))) (by decide), ?_⟩
    refine k _ upd_same fun b o e hb => ?_
    rw [upd_ne hb, upd_ne hb, upd_ne hb, upd_ne hb]
    exact e
/-- how a Number is made -/
structure MakeN (P : Program) (w : World) (K : Frag) (mg : Str → Option Value) (base : Heap) (CN fI : Addr) (fdI : FuncData) : Prop where
  m : Mk K CN fI
  g : FnOk P w K mg base CX0 1 fI fdI ["self", "kind", "sign", "figures", "power"] (spInit CN)
  b : Binds K fdI ["self", "kind", "sign", "figures", "power"] []
/-- behind Number(..) -/
theorem made {CN : Addr} {H : Hp} {Q : VK} {k s f p : V} (h : ∀ n H', H n = none → Same H H' → NumAt CN H' n k s f p → Q (.ref n) H') :
    ∀ x dx, H x = none → H dx = none → dx ≠ x → spInit CN (.ref x :: ([k, s, f, p] ++ [])) (upd (upd H dx (.own x)) x (.ins CN dx [])) (fun v H2 => v = .non ∧ Q (.ref x) H2) E0 := by
  intro x dx nx nd ne
  refine ⟨x, dx, k, s, f, p, rfl, upd_same, fun H' e kp => ⟨rfl, h x H' nx (fun b o z => ?_) ⟨dx, e⟩⟩⟩
  refine kp b o ?_ (ne_of_none z nx)
  rw [upd_ne (ne_of_none z nx), upd_ne (ne_of_none z nd)]
  exact z
/-- a thing that is no Number -/
def NotNum (K : Frag) (CN : Addr) (H : Hp) (v : V) : Prop := ∃ t, TyE K H v t ∧ kitOne K t (.ref CN) = some false
def spNeedN (K : Frag) (CN CB : Addr) : Sp := fun vs H Q E => ∃ v, vs = [v] ∧ ((∃ n k s f p, v = .ref n ∧ NumAt CN H n k s f p ∧ Q v H) ∨ (NotNum K CN H v ∧ E (.ref CB) none H))
theorem scNeedN : FnScope ["thing"] ["thing"] (defScope sNeedN) := ⟨rfl, rfl, rfl, by decide +kernel, rfl, by decide +kernel, by decide +kernel⟩
theorem ok_needN {f CN CB : Addr} {fd : FuncData} (D : Def K mg "need_number" ["thing"] sNeedN f fd) (O : Own mg) (T : Kit K) (B : Err K mg "BadNumber" CB) (N : Num K mg CN) : FnOk P w K mg base (CX1 P w) 1 f fd ["thing"] (spNeedN K CN CB) := by
  refine D.F.okE scNeedN (fun vs H Q E h => ?_) (fun X cdv A outer s H vs Q E hX hr hx h => ?_)
  · obtain ⟨v, rfl, _⟩ := h
    rfl
  · subst hX
    obtain ⟨v, rfl, h⟩ := h
    refine ⟨_, (pss_cons (ps_if (pt_not (pt_val (pisi O.isi (pv 0) (pcls N.g)))) (pss_one (ps_raise (by rfl) B.g B.q PySem.F.excBase_ValueError hr.hd hx (pa_cons pe_str pa_nil))) pss_nil)
      (pss_one (ps_ret (pv 0)))), ?_⟩
    rcases h with ⟨n, a, b, c, d, rfl, hn, k⟩ | ⟨⟨t, ty, k1⟩, k⟩
    · exact ⟨_, rfl, _, _, _, _, true, rfl, rfl, N.ty hn, N.self, _, rfl, iteF ⟨_, rfl, k⟩⟩
    · exact ⟨_, rfl, _, _, _, t, false, rfl, rfl, ty, k1, _, rfl, iteT ⟨Nat.le_of_lt (small1000 (by show 1 ≤ 1000; decide)), k⟩⟩
def spTold (K : Frag) (CN CB : Addr) : Sp := fun vs H Q E => ∃ v, vs = [v] ∧ ((∃ n k s f p, v = .ref n ∧ NumAt CN H n k s f p ∧ ∀ t, H t = none → Q (.ref t) (upd H t (.tup [k, s, f, p]))) ∨ (NotNum K CN H v ∧ E (.ref CB) none H))
theorem scTold : FnScope ["number"] ["number"] (defScope sTold) := ⟨rfl, rfl, rfl, by decide +kernel, rfl, by decide +kernel, by decide +kernel⟩
theorem ok_told {f f1 CN CB : Addr} {fd fd1 : FuncData} (D : Def K mg "told" ["number"] sTold f fd) (D_need_number : Def K mg "need_number" ["thing"] sNeedN f1 fd1) (O : Own mg) (T : Kit K) (B : Err K mg "BadNumber" CB) (N : Num K mg CN) :
    FnOk P w K mg base (CX1 P w) 2 f fd ["number"] (spTold K CN CB) := by
  have G_need_number := ok_needN (P := P) (w := w) (base := base) D_need_number O T B N
  refine D.F.okE scTold (fun vs H Q E h => ?_) (fun X cdv A outer s H vs Q E hX hr hx h => ?_)
  · obtain ⟨v, rfl, _⟩ := h
    rfl
  · subst hX
    obtain ⟨v, rfl, h⟩ := h
    refine ⟨_, (pss_cons (ps_expr (pcall D_need_number G_need_number hr hx (pa_cons (pv 0) pa_nil)))
      (pss_one (ps_ret (pe_tup (pa_cons (pe_fld (pv 0) rfl) (pa_cons (pe_fld (pv 0) rfl) (pa_cons (pe_fld (pv 0) rfl) (pa_cons (pe_fld (pv 0) rfl) pa_nil)))))))), ?_⟩
    rcases h with ⟨n, a, b, c, d, rfl, hn, k⟩ | ⟨bad, k⟩
    · refine ⟨_, rfl, _, rfl, .inl ⟨n, a, b, c, d, rfl, hn, ?_⟩⟩
      obtain ⟨dx, e⟩ := hn
      exact ⟨_, rfl, n, CN, dx, _, _, rfl, e, N.cl, N.n1, num1 _ _ _ _, _, rfl, n, CN, dx, _, _, rfl, e, N.cl, N.n2, num2 _ _ _ _, _, rfl, n, CN, dx, _, _, rfl, e, N.cl, N.n3, num3 _ _ _ _, _, rfl, n, CN, dx, _, _, rfl, e, N.cl, N.n4, num4 _ _ _ _,
        Nat.le_of_lt (small1000 (by show 4 ≤ 1000; decide)), k⟩
    · exact ⟨_, rfl, _, rfl, .inr ⟨bad, k⟩⟩
end
end TR
set_option Elab.async false
set_option linter.all false
set_option maxRecDepth 100000
set_option maxHeartbeats 4000000
namespace TR
open PySem L2 PySem.W PyProof.Rows
seal PE PS PSs PA PT PW PG PGs PI PO
abbrev sPlain : Stmt := (top 12)
abbrev sEnd : Stmt := (top 13)
abbrev sNothing : Stmt := (top 14)
section
variable {P : Program} {w : World} {K : Frag} {mg : Str → Option Value} {base : Heap}
def spPlain (K : Frag) (CN CB : Addr) : Sp := fun vs H Q E => ∃ x y z, vs = [x, y, z] ∧
  ((GoodV 0 1 x ∧ GoodV 0 (10 ^ 60 - 1) y ∧ GoodV (-200) 200 z ∧ ∀ n H', H n = none → Same H H' → NumAt CN H' n (.str "plain") x y z → Q (.ref n) H') ∨
   ((BadV K H 0 1 x ∨ (GoodV 0 1 x ∧ (BadV K H 0 (10 ^ 60 - 1) y ∨ (GoodV 0 (10 ^ 60 - 1) y ∧ BadV K H (-200) 200 z)))) ∧ E (.ref CB) none H))
theorem scPlain : FnScope ["sign", "figures", "power"] ["sign", "figures", "power"] (defScope sPlain) := ⟨rfl, rfl, rfl, by decide +kernel, rfl, by decide +kernel, by decide +kernel⟩
theorem b01 : Lits 0 1 := by unfold Lits; decide +kernel
theorem b60 : Lits 0 (10 ^ 60 - 1) := by unfold Lits; decide +kernel
theorem b200 : Lits (-200) 200 := by unfold Lits; decide +kernel
theorem ok_plain {f f1 f2 fI CN CB : Addr} {fd fd1 fd2 fdI : FuncData} (D : Def K mg "plain" ["sign", "figures", "power"] sPlain f fd) (D_need_between : Def K mg "need_between" ["thing", "least", "most"] sBetween f1 fd1) (D2 : Def K mg "is_between" ["thing", "least", "most"] sIsB f2 fd2)
    (O : Own mg) (T : Kit K) (B : Err K mg "BadNumber" CB) (N : Num K mg CN) (M : MakeN P w K mg base CN fI fdI) : FnOk P w K mg base (CX1 P w) 3 f fd ["sign", "figures", "power"] (spPlain K CN CB) := by
  have G_need_between := ok_between (P := P) (w := w) (base := base) D_need_between D2 O T B
  refine D.F.okE scPlain (fun vs H Q E h => ?_) (fun X cdv A outer s H vs Q E hX hr hx h => ?_)
  · obtain ⟨x, y, z, rfl, _⟩ := h
    rfl
  · subst hX
    obtain ⟨x, y, z, rfl, h⟩ := h
    refine ⟨_, (pss_cons (ps_expr (pcall D_need_between G_need_between hr hx (pa_cons (pv 0) (pa_cons pe_int (pa_cons pe_int pa_nil)))))
      (pss_cons (ps_expr (pcall D_need_between G_need_between hr hx (pa_cons (pv 1) (pa_cons pe_int (pa_cons (pe_op op_sub (pe_op op_pow pe_int pe_int) pe_int) pa_nil)))))
      (pss_cons (ps_expr (pcall D_need_between G_need_between hr hx (pa_cons (pv 2) (pa_cons (pe_un un_neg pe_int) (pa_cons pe_int pa_nil)))))
      (pss_one (ps_ret (pe_make M.m M.g hr rfl N.g M.b .nil pass0 (pa_cons pe_str (pa_cons (pv 0) (pa_cons (pv 1) (pa_cons (pv 2) pa_nil)))))))))), ?_⟩
    have pw : CPow 10 60 := ⟨by decide, by decide, by decide⟩
    rcases h with ⟨⟨i1, rfl, l1, u1⟩, ⟨i2, rfl, l2, u2⟩, ⟨i3, rfl, l3, u3⟩, k⟩ | ⟨bad, k⟩
    · refine ⟨_, rfl, _, _, _, rfl, b01, .inl ⟨⟨i1, rfl, l1, u1⟩, ?_⟩⟩
      refine ⟨_, rfl, _, _, rfl, rfl, pw, _, _, rfl, rfl, _, _, _, rfl, b60, .inl ⟨⟨i2, rfl, l2, u2⟩, ?_⟩⟩
      refine ⟨_, rfl, _, rfl, _, _, _, rfl, b200, .inl ⟨⟨i3, rfl, l3, u3⟩, ?_⟩⟩
      exact ⟨_, rfl, _, rfl, _, rfl, made k⟩
    · rcases bad with bad | ⟨⟨i1, rfl, l1, u1⟩, bad | ⟨⟨i2, rfl, l2, u2⟩, bad⟩⟩
      · exact ⟨_, rfl, _, _, _, rfl, b01, .inr ⟨bad, k⟩⟩
      · refine ⟨_, rfl, _, _, _, rfl, b01, .inl ⟨⟨i1, rfl, l1, u1⟩, ?_⟩⟩
        exact ⟨_, rfl, _, _, rfl, rfl, pw, _, _, rfl, rfl, _, _, _, rfl, b60, .inr ⟨bad, k⟩⟩
      · refine ⟨_, rfl, _, _, _, rfl, b01, .inl ⟨⟨i1, rfl, l1, u1⟩, ?_⟩⟩
        refine ⟨_, rfl, _, _, rfl, rfl, pw, _, _, rfl, rfl, _, _, _, rfl, b60, .inl ⟨⟨i2, rfl, l2, u2⟩, ?_⟩⟩
        exact ⟨_, rfl, _, rfl, _, _, _, rfl, b200, .inr ⟨bad, k⟩⟩
def spEnd (K : Frag) (CN CB : Addr) : Sp := fun vs H Q E => ∃ x, vs = [x] ∧ ((GoodV 0 1 x ∧ ∀ n H', H n = none → Same H H' → NumAt CN H' n (.str "end") x (.int 0) (.int 0) → Q (.ref n) H') ∨ (BadV K H 0 1 x ∧ E (.ref CB) none H))
theorem scEnd : FnScope ["sign"] ["sign"] (defScope sEnd) := ⟨rfl, rfl, rfl, by decide +kernel, rfl, by decide +kernel, by decide +kernel⟩
theorem ok_end {f f1 f2 fI CN CB : Addr} {fd fd1 fd2 fdI : FuncData} (D : Def K mg "end" ["sign"] sEnd f fd) (D_need_between : Def K mg "need_between" ["thing", "least", "most"] sBetween f1 fd1) (D2 : Def K mg "is_between" ["thing", "least", "most"] sIsB f2 fd2)
    (O : Own mg) (T : Kit K) (B : Err K mg "BadNumber" CB) (N : Num K mg CN) (M : MakeN P w K mg base CN fI fdI) : FnOk P w K mg base (CX1 P w) 3 f fd ["sign"] (spEnd K CN CB) := by
  have G_need_between := ok_between (P := P) (w := w) (base := base) D_need_between D2 O T B
  refine D.F.okE scEnd (fun vs H Q E h => ?_) (fun X cdv A outer s H vs Q E hX hr hx h => ?_)
  · obtain ⟨x, rfl, _⟩ := h
    rfl
  · subst hX
    obtain ⟨x, rfl, h⟩ := h
    refine ⟨_, (pss_cons (ps_expr (pcall D_need_between G_need_between hr hx (pa_cons (pv 0) (pa_cons pe_int (pa_cons pe_int pa_nil)))))
      (pss_one (ps_ret (pe_make M.m M.g hr rfl N.g M.b .nil pass0 (pa_cons pe_str (pa_cons (pv 0) (pa_cons pe_int (pa_cons pe_int pa_nil)))))))), ?_⟩
    rcases h with ⟨⟨i1, rfl, l1, u1⟩, k⟩ | ⟨bad, k⟩
    · refine ⟨_, rfl, _, _, _, rfl, b01, .inl ⟨⟨i1, rfl, l1, u1⟩, ?_⟩⟩
      exact ⟨_, rfl, made k⟩
    · exact ⟨_, rfl, _, _, _, rfl, b01, .inr ⟨bad, k⟩⟩
def spNothing (CN : Addr) : Sp := fun vs H Q _ => vs = [] ∧ ∀ n H', H n = none → Same H H' → NumAt CN H' n (.str "none") (.int 0) (.int 0) (.int 0) → Q (.ref n) H'
theorem scNothing : FnScope [] [] (defScope sNothing) := ⟨rfl, rfl, rfl, by decide +kernel, rfl, by decide +kernel, by decide +kernel⟩
theorem ok_nothing {f fI CN : Addr} {fd fdI : FuncData} (D : Def K mg "nothing" [] sNothing f fd) (N : Num K mg CN) (M : MakeN P w K mg base CN fI fdI) : FnOk P w K mg base (CX1 P w) 3 f fd [] (spNothing CN) := by
  refine D.F.okE scNothing (fun vs H Q E h => ?_) (fun X cdv A outer s H vs Q E hX hr hx h => ?_)
  · obtain ⟨rfl, _⟩ := h
    rfl
  · subst hX
    obtain ⟨rfl, k⟩ := h
    refine ⟨_, (pss_one (ps_ret (pe_make M.m M.g hr rfl N.g M.b .nil pass0 (pa_cons pe_str (pa_cons pe_int (pa_cons pe_int (pa_cons pe_int pa_nil))))))), ?_⟩
    exact made k
end
end TR
set_option Elab.async false
set_option linter.all false
set_option maxRecDepth 100000
set_option maxHeartbeats 4000000
namespace TR
open PySem L2 PySem.W PyProof.Rows
seal PE PS PSs PA PT PW PG PGs PI PO
abbrev sProductOf : Stmt := (top 8)
abbrev sTenTo : Stmt := (top 9)
theorem bits_le {x k : Nat} (h : x < 2 ^ k) (hk : k ≤ 1048576) : Builtin.Int.intBits (x : Int) ≤ 2 ^ 20 := by
  unfold Builtin.Int.intBits
  split
  · exact Nat.zero_le _
  · have z : (x : Int).natAbs ≠ 0 := by
      intro z
      rename_i hz
      exact hz (by simpa using z)
    have : (x : Int).natAbs.log2 < k := (Nat.log2_lt z).mpr h
    have e : (2 : Nat) ^ 20 = 1048576 := by decide
    omega
theorem pow_bits {b s j n : Nat} (hb : b < 2 ^ s) (hj : j ≤ n) (hn : n * s < 1048576) : Builtin.Int.intBits ((b ^ j : Nat) : Int) ≤ 2 ^ 20 := by
  refine bits_le (k := n * s + 1) ?_ hn
  have a : b ^ j ≤ (2 ^ s) ^ j := Nat.pow_le_pow_left (Nat.le_of_lt hb) j
  have c : (2 ^ s) ^ j ≤ 2 ^ (n * s) := by
    rw [← Nat.pow_mul, Nat.mul_comm n s]
    exact Nat.pow_le_pow_right (by decide) (Nat.mul_le_mul_left s hj)
  have d : 2 ^ (n * s) < 2 ^ (n * s + 1) := Nat.pow_lt_pow_right (by decide) (by omega)
  exact Nat.lt_of_le_of_lt a (Nat.lt_of_le_of_lt c d)
theorem pow_mulOk {b s i j n : Nat} (hb : b < 2 ^ s) (hi : i ≤ n) (hj : j ≤ n) (hn : n * s < 1048576) : IntMulOk ((b ^ i : Nat) : Int) ((b ^ j : Nat) : Int) := IntMulOk.of_bits (pow_bits hb hi hn) (pow_bits hb hj hn)
section
variable {P : Program} {w : World} {K : Frag} {mg : Str → Option Value} {base : Heap}
def spProductOf : Sp := fun vs H Q _ => ∃ b n s : Nat, vs = [.int (b : Int), .int (n : Int)] ∧ b < 2 ^ s ∧ n * s < 1048576 ∧ Q (.int ((b ^ n : Nat) : Int)) H
theorem scProductOf : FnScope ["whole", "count", "product"] ["whole", "count"] (defScope sProductOf) := ⟨rfl, rfl, rfl, by decide +kernel, rfl, by decide +kernel, by decide +kernel⟩
theorem ok_productOf {f : Addr} {fd : FuncData} (D : Def K mg "product_of" ["whole", "count"] sProductOf f fd) : FnOk P w K mg base (CX1 P w) 1 f fd ["whole", "count"] spProductOf := by
  refine FnOk.up (D.F.ok scProductOf (fun vs H Q E h => ?_) (fun cdv A outer s H vs Q E hr h => ?_))
  · obtain ⟨b, n, z, rfl, _⟩ := h
    rfl
  · obtain ⟨b, n, z, rfl, hb, hn, k⟩ := h
    refine ⟨_, (pss_cons (ps_set (i := 2) scProductOf.nd rfl (Or.inl rfl) pe_int)
      (pss_cons (ps_while PassesOwn.never (pt_cmpR op_gt (pv 1) pe_int (nomark _)) (pss_cons (ps_if (pt_cmpR op_eq (pe_op op_mod (pv 1) pe_int) pe_int (nomark _)) (pss_one (ps_set (i := 2) scProductOf.nd rfl (Or.inl rfl) (pe_op op_mulK (pv 2) (pv 0)))) pss_nil)
      (pss_cons (ps_set (i := 0) scProductOf.nd rfl (Or.inl rfl) (pe_op op_mulK (pv 0) (pv 0)))
      (pss_one (ps_set (i := 1) scProductOf.nd rfl (Or.inl rfl) (pe_op op_fdivK (pv 1) pe_int))))))
      (pss_one (ps_ret (pv 2))))), ?_⟩
    have d2 : (0 : Int) < 2 ∧ (2 : Int).natAbs.log2 < 9000 := ⟨by decide, by decide +kernel⟩
    refine while_by (fun σ H2 => H2 = H ∧ ∃ i m c : Nat, m + i * c = n ∧ σ = [some (.int ((b ^ i : Nat) : Int)), some (.int (c : Int)), some (.int ((b ^ m : Nat) : Int))]) (fun σ _ => match σ with | [_, some (.int c), _] => c.toNat | _ => 0) ?_ ?_ ?_
    · exact ⟨rfl, 1, 0, n, by omega, by rw [Nat.pow_one]; rfl⟩
    · rintro σ H2 ⟨rfl, i, m, c, hc, rfl⟩
      refine ⟨_, rfl, _, _, rfl, rfl, _, rfl, iteD (fun h0 => ?_) (fun h0 => ?_)⟩
      · have c1 : 1 ≤ c := by have : (0 : Int) < c := h0
                              omega
        have hi : i ≤ n := Nat.le_trans (Nat.le_mul_of_pos_right i c1) (by omega)
        have hm : m ≤ n := by omega
        have sq : ((b ^ i : Nat) : Int) * ((b ^ i : Nat) : Int) = ((b ^ (2 * i) : Nat) : Int) := by rw [Nat.two_mul, Nat.pow_add]; rfl
        have lt : ((c : Int) / 2).toNat < (c : Int).toNat := by omega
        refine ⟨_, rfl, _, _, rfl, rfl, d2.1, rfl, _, rfl, iteD (fun ho => ?_) (fun he => ?_)⟩
        · have ho : (c : Int) % 2 = 1 := by injection ho
          have mu : ((b ^ m : Nat) : Int) * ((b ^ i : Nat) : Int) = ((b ^ (m + i) : Nat) : Int) := by rw [Nat.pow_add]; rfl
          refine ⟨_, rfl, _, rfl, _, _, rfl, rfl, pow_mulOk hb hm hi hn, _, rfl, _, rfl, _, _, rfl, rfl, pow_mulOk hb hi hi hn, _, rfl, _, _, rfl, rfl, d2, ⟨rfl, 2 * i, m + i, c / 2, ?_, ?_⟩, lt⟩
          · have e : i * c = i * (2 * (c / 2) + 1) := congrArg (i * ·) (by omega)
            rw [Nat.mul_add, Nat.mul_one, ← Nat.mul_assoc, Nat.mul_comm i 2] at e
            omega
          · show [some (V.int (((b ^ i : Nat) : Int) * ((b ^ i : Nat) : Int))), some (V.int ((c : Int) / 2)), some (V.int (((b ^ m : Nat) : Int) * ((b ^ i : Nat) : Int)))] = _
            rw [sq, mu]
            rfl
        · have he : ¬ (c : Int) % 2 = 1 := fun z => he (congrArg V.int z)
          refine ⟨_, rfl, _, rfl, _, _, rfl, rfl, pow_mulOk hb hi hi hn, _, rfl, _, _, rfl, rfl, d2, ⟨rfl, 2 * i, m, c / 2, ?_, ?_⟩, lt⟩
          · have e : i * c = i * (2 * (c / 2)) := congrArg (i * ·) (by omega)
            rw [← Nat.mul_assoc, Nat.mul_comm i 2] at e
            omega
          · show [some (V.int (((b ^ i : Nat) : Int) * ((b ^ i : Nat) : Int))), some (V.int ((c : Int) / 2)), some (V.int ((b ^ m : Nat) : Int))] = _
            rw [sq]
            rfl
      · have c0 : c = 0 := by have : ¬ (0 : Int) < c := h0
                              omega
        subst c0
        have hm : m = n := by omega
        subst hm
        exact ⟨_, rfl, k⟩
    · rintro σ H2 Q1 Q2 hQ ⟨v, e, i, j, e1, e2, b, e3, q⟩
      exact ⟨v, e, i, j, e1, e2, b, e3, hQ _ _ q⟩
def spTenTo : Sp := fun vs H Q _ => ∃ n : Nat, vs = [.int (n : Int)] ∧ n ≤ 4000 ∧ Q (.int ((10 ^ n : Nat) : Int)) H
theorem scTenTo : FnScope ["count"] ["count"] (defScope sTenTo) := ⟨rfl, rfl, rfl, by decide +kernel, rfl, by decide +kernel, by decide +kernel⟩
theorem ok_tenTo {f f1 : Addr} {fd fd1 : FuncData} (D : Def K mg "ten_to" ["count"] sTenTo f fd) (D_product_of : Def K mg "product_of" ["whole", "count"] sProductOf f1 fd1) (G_product_of : FnOk P w K mg base (CX1 P w) 1 f1 fd1 ["whole", "count"] spProductOf) : FnOk P w K mg base (CX1 P w) 2 f fd ["count"] spTenTo := by
  refine FnOk.up (D.F.ok scTenTo (fun vs H Q E h => ?_) (fun cdv A outer s H vs Q E hr h => ?_))
  · obtain ⟨n, rfl, _⟩ := h
    rfl
  · obtain ⟨n, rfl, hn, k⟩ := h
    have hx : Catches (cxOf CX0 P w K mg base ["count"] "ten_to" (defScope sTenTo) f cdv A outer s H E).nox EKF := catches0
    refine ⟨_, (pss_one (ps_ret (pcall D_product_of G_product_of hr hx (pa_cons pe_int (pa_cons (pv 0) pa_nil))))), ?_⟩
    exact ⟨_, rfl, 10, n, 4, rfl, by decide, by omega, k⟩
end
end TR
set_option Elab.async false
set_option linter.all false
set_option maxRecDepth 100000
set_option maxHeartbeats 4000000
namespace TR
open PySem L2 PySem.W PyProof.Rows
seal PE PS PSs PA PT PW PG PGs PI PO
/-! ### numbers, by what is told of them -/
inductive Kd where
  | plain | end_ | none
def Kd.str : Kd → Str
  | .plain => "plain"
  | .end_ => "end"
  | .none => "none"
theorem Kd.str_inj {a b : Kd} (h : a.str = b.str) : a = b := by
  cases a <;> cases b <;> first | rfl | exact absurd h (by decide +kernel)
structure Nm where
  k : Kd
  s : Int
  f : Int
  p : Int
def Nm.vs (x : Nm) : List V := [.str x.k.str, .int x.s, .int x.f, .int x.p]
structure Nm.Ok (x : Nm) : Prop where
  s0 : 0 ≤ x.s
  s1 : x.s ≤ 1
  f0 : 0 ≤ x.f
  f1 : x.f ≤ 10 ^ 60 - 1
  p0 : -200 ≤ x.p
  p1 : x.p ≤ 200
def NumIs (CN : Addr) (H : Hp) (n : Addr) (x : Nm) : Prop := NumAt CN H n (.str x.k.str) (.int x.s) (.int x.f) (.int x.p)
theorem NumIs.same {CN : Addr} {H H' : Hp} {n : Addr} {x : Nm} (h : NumIs CN H n x) (e : Same H H') : NumIs CN H' n x := NumAt.same h e
theorem NumIs.exc {CN : Addr} {H H' : Hp} {n D : Addr} {l : List V} {x : Nm} (h : NumIs CN H n x) (hD : H D = some (.lst l)) (e : Exc1 D H H') : NumIs CN H' n x := by
  obtain ⟨dx, z⟩ := h
  exact ⟨dx, e _ _ z fun q => by rw [q, hD] at z; cases z⟩
theorem NotNum.same {K : Frag} {CN : Addr} {H H' : Hp} {v : V} (h : NotNum K CN H v) (e : Same H H') : NotNum K CN H' v := by
  obtain ⟨t, ty, r⟩ := h
  exact ⟨t, TyE.same ty e, r⟩
/-- numbers in a list -/
structure NumsAt (CN : Addr) (H : Hp) (l : Addr) (ns : List (Addr × Nm)) : Prop where
  l : H l = some (.lst (ns.map fun p => V.ref p.1))
  n : ∀ p ∈ ns, NumIs CN H p.1 p.2
def tenI (n : Int) : Int := ((10 ^ n.toNat : Nat) : Int)
theorem neS {a b : Kd} (h : ¬ V.str a.str = V.str b.str) : a ≠ b := fun q => h (by rw [q])
theorem eqS {a b : Kd} (h : V.str a.str = V.str b.str) : a = b := Kd.str_inj (by injection h)
end TR
set_option Elab.async false
set_option linter.all false
set_option maxRecDepth 100000
set_option maxHeartbeats 4000000
namespace TR
open PySem L2 PySem.W PyProof.Rows
seal PE PS PSs PA PT PW PG PGs PI PO
abbrev sNeedNs : Stmt := (top 17)
abbrev sSomeK : Stmt := (top 18)
abbrev sWholeAt : Stmt := (top 19)
section
variable {P : Program} {w : World} {K : Frag} {mg : Str → Option Value} {base : Heap}
def spNeedNs (K : Frag) (CN CB : Addr) : Sp := fun vs H Q E => ∃ l ns, vs = [.ref l] ∧ (∀ p ∈ (ns : List (Addr × Nm)), NumIs CN H p.1 p.2) ∧
  ((H l = some (.lst (ns.map fun p => V.ref p.1)) ∧ Q .non H) ∨ (∃ v r, H l = some (.lst ((ns.map fun p => V.ref p.1) ++ v :: r)) ∧ NotNum K CN H v ∧ E (.ref CB) none H))
theorem scNeedNs : FnScope ["things", "thing"] ["things"] (defScope sNeedNs) := ⟨rfl, rfl, rfl, by decide +kernel, rfl, by decide +kernel, by decide +kernel⟩
theorem ok_needNs {f f1 CN CB : Addr} {fd fd1 : FuncData} (D : Def K mg "need_numbers" ["things"] sNeedNs f fd) (D_need_number : Def K mg "need_number" ["thing"] sNeedN f1 fd1) (G_need_number : FnOk P w K mg base (CX1 P w) 1 f1 fd1 ["thing"] (spNeedN K CN CB)) : FnOk P w K mg base (CX1 P w) 2 f fd ["things"] (spNeedNs K CN CB) := by
  refine D.F.okE scNeedNs (fun vs H Q E h => ?_) (fun X cdv A outer s H vs Q E hX hr hx h => ?_)
  · obtain ⟨l, ns, rfl, _⟩ := h
    rfl
  · subst hX
    obtain ⟨l, ns, rfl, hn, h⟩ := h
    refine ⟨_, (pss_one (ps_for PassesOwn.leaving rfl (pi_list (pv 0)) (pg_name (i := 1) scNeedNs.nd rfl (Or.inl rfl)) (pss_one (ps_expr (pcall D_need_number G_need_number hr hx (pa_cons (pv 1) pa_nil)))))), ?_⟩
    rcases h with ⟨hl, k⟩ | ⟨v, r, hl, nv, k⟩
    · refine ⟨_, rfl, l, rfl, ⟨_, SqL.of hl⟩, for_list (xs := ns.map fun p => V.ref p.1) (fun i σ H' => H' = H ∧ ∃ v, σ = [some (.ref l), v]) ⟨rfl, none, rfl⟩ ?_ ?_ ?_⟩
      · rintro i σ H' _ ⟨rfl, _⟩
        exact SqL.of hl
      · rintro i x σ H' hi ⟨rfl, v, rfl⟩
        obtain ⟨p, hp, rfl⟩ := List.mem_map.mp (List.mem_of_getElem? hi)
        exact ⟨_, rfl, _, rfl, .inl ⟨p.1, _, _, _, _, rfl, hn p hp, rfl, _, rfl⟩⟩
      · rintro σ H' ⟨rfl, v, rfl⟩
        exact k
    · refine ⟨_, rfl, l, rfl, ⟨_, SqL.of hl⟩, for_list (xs := (ns.map fun p => V.ref p.1) ++ v :: r) (fun i σ H' => H' = H ∧ i ≤ ns.length ∧ ∃ v, σ = [some (.ref l), v]) ⟨rfl, Nat.zero_le _, none, rfl⟩ ?_ ?_ ?_⟩
      · rintro i σ H' _ ⟨rfl, _⟩
        exact SqL.of hl
      · rintro i x σ H' hi ⟨rfl, hle, u, rfl⟩
        by_cases hlt : i < ns.length
        · rw [List.getElem?_append_left (by simpa using hlt)] at hi
          obtain ⟨p, hp, rfl⟩ := List.mem_map.mp (List.mem_of_getElem? hi)
          exact ⟨_, rfl, _, rfl, .inl ⟨p.1, _, _, _, _, rfl, hn p hp, rfl, by omega, _, rfl⟩⟩
        · have e : i = ns.length := by omega
          subst e
          rw [List.getElem?_append_right (by simp)] at hi
          simp at hi
          subst hi
          exact ⟨_, rfl, _, rfl, .inr ⟨nv, k⟩⟩
      · rintro σ H' ⟨rfl, hle, _⟩
        exfalso
        rw [List.length_append, List.length_map, List.length_cons] at hle
        omega
def spSomeK (CN : Addr) : Sp := fun vs H Q _ => ∃ l ns z, vs = [.ref l, .str z] ∧ NumsAt CN H l ns ∧ ns.length ≤ 1000 ∧ ∀ H', Same H H' → Q (.bl (ns.any fun p => decide (p.2.k.str = z))) H'
theorem scSomeK : FnScope ["numbers", "kind"] ["numbers", "kind"] (defScope sSomeK) := ⟨rfl, rfl, rfl, by decide +kernel, rfl, by decide +kernel, by decide +kernel⟩
theorem any_bl (ns : List (Addr × Nm)) (z : Str) : (ns.map fun p => decide (p.2.k.str = z)).any id = ns.any fun p => decide (p.2.k.str = z) := by rw [List.any_map]; rfl
theorem dec_str {a b : Str} : decide (V.str a = V.str b) = decide (a = b) := by
  by_cases h : a = b
  · rw [decide_eq_true h, decide_eq_true (congrArg V.str h)]
  · rw [decide_eq_false h, decide_eq_false fun q => h (by injection q)]
theorem ok_someK {f CN : Addr} {fd : FuncData} (D : Def K mg "some_of_kind" ["numbers", "kind"] sSomeK f fd) (O : Own mg) (N : Num K mg CN) : FnOk P w K mg base (CX1 P w) 1 f fd ["numbers", "kind"] (spSomeK CN) := by
  refine FnOk.up (D.F.ok scSomeK (fun vs H Q E h => ?_) (fun cdv A outer s H vs Q E hr h => ?_))
  · obtain ⟨l, ns, z, rfl, _⟩ := h
    rfl
  · obtain ⟨l, ns, z, rfl, ⟨hl, hn⟩, hz, k⟩ := h
    refine ⟨_, (pss_one (ps_ret (pe_callB (call_any hr.hd) (by rfl) O.any_ boot_any (pa_cons (pe_compF0 (N := ["number"]) (F := ["kind"]) (js := [1]) (CompScopeF.of1 ⟨rfl, by decide +kernel, by decide +kernel, by decide +kernel, by decide +kernel⟩ (by rfl) (by rfl) ⟨_, by rfl⟩ (by rfl) (by rfl)) (.inl hr.hd) (pih_list (pv 0)) rfl (fun C s₀ H₀ ex pn h => pg_name (i := 0) (by decide +kernel : (["number", "kind"] : List Str).Nodup) rfl (Or.inl rfl)) (fun C s₀ H₀ ex pn h => (pe_cmpR op_eq (pe_fldK (K := K) rfl (pv 0) rfl) (pv 1) (nomark _)))) pa_nil)))), ?_⟩
    refine ⟨_, rfl, l, rfl, ⟨_, SqL.of hl⟩, comp_gen0 (J := Itl K l) (n := ns.length) (fun i y _ => ∃ p, ns[i]? = some p ∧ y = .bl (decide (p.2.k.str = z))) hz (fun _ _ _ _ _ _ h _ _ => h) (fun i H2 Qy hi sm hy => ⟨⟨_, V.ref ns[i].1, SqL.of (sm _ _ hl), by simp [hi]⟩, fun x H3 yl => ?_⟩) (fun H2 sm => ⟨_, SqL.of (sm _ _ hl), by simp⟩) (fun D H' ys sm nD eD hlen hR => ?_)⟩
    · obtain ⟨rfl, yl⟩ := yl
      have ex : x = V.ref ns[i].1 := by
        have := yl _ (SqL.of (sm _ _ hl))
        simp [hi] at this
        exact this.symm
      subst ex
      obtain ⟨dx, e⟩ := (hn _ (List.getElem_mem hi)).same sm
      refine ⟨_, rfl, ns[i].1, CN, dx, _, _, rfl, e, N.cl, N.n1, num1 _ _ _ _, _, rfl, rfl, hy _ _ (Same.refl _) ⟨ns[i], by simp [hi], ?_⟩⟩
      rw [dec_str]
    · have ey : ys = (ns.map fun p => decide (p.2.k.str = z)).map V.bl := by
        apply List.ext_getElem?
        intro i
        by_cases hi : i < ns.length
        · obtain ⟨p, hp, hy⟩ := hR i ys[i] (by simp [hlen, hi])
          rw [List.getElem?_eq_getElem (by omega), hy]
          simp [hp]
        · rw [List.getElem?_eq_none (by omega), List.getElem?_eq_none (by simp; omega)]
      subst ey
      refine ⟨D, _, rfl, SqL.of eD, ?_⟩
      rw [any_bl]
      exact k H' sm
/-- the number, counted in ones of a power -/
def Nm.wh (x : Nm) (q : Int) : Int := if x.s = 1 then -(x.f * tenI (x.p - q)) else x.f * tenI (x.p - q)
def spWholeAt (CN : Addr) : Sp := fun vs H Q _ => ∃ n x q, vs = [.ref n, .int q] ∧ NumIs CN H n x ∧ x.Ok ∧ 0 ≤ x.p - q ∧ x.p - q ≤ 1000 ∧ Q (.int (x.wh q)) H
theorem scWholeAt : FnScope ["number", "power", "size"] ["number", "power"] (defScope sWholeAt) := ⟨rfl, rfl, rfl, by decide +kernel, rfl, by decide +kernel, by decide +kernel⟩
theorem Nm.Ok.bits {x : Nm} (h : x.Ok) : Builtin.Int.intBits x.f ≤ 2 ^ 20 := by
  obtain ⟨n, hn⟩ := Int.eq_ofNat_of_zero_le h.f0
  rw [hn]
  refine bits_le (k := 200) ?_ (by decide)
  have := h.f1
  have e : ((10 ^ 60 : Nat) : Int) = 10 ^ 60 := by decide +kernel
  have : n < 10 ^ 60 := by omega
  exact Nat.lt_trans this (by decide +kernel)
theorem tenI_bits {d : Int} (h : d ≤ 4000) : Builtin.Int.intBits (tenI d) ≤ 2 ^ 20 := pow_bits (b := 10) (s := 4) (n := 4000) (by decide) (by omega) (by decide)
theorem ok_wholeAt {f f1 CN : Addr} {fd fd1 : FuncData} (D : Def K mg "whole_at" ["number", "power"] sWholeAt f fd) (D_ten_to : Def K mg "ten_to" ["count"] sTenTo f1 fd1) (G_ten_to : FnOk P w K mg base (CX1 P w) 2 f1 fd1 ["count"] spTenTo) (N : Num K mg CN) : FnOk P w K mg base (CX1 P w) 3 f fd ["number", "power"] (spWholeAt CN) := by
  refine FnOk.up (D.F.ok scWholeAt (fun vs H Q E h => ?_) (fun cdv A outer s H vs Q E hr h => ?_))
  · obtain ⟨n, x, q, rfl, _⟩ := h
    rfl
  · obtain ⟨n, x, q, rfl, ⟨dx, e⟩, ok, h0, h1, k⟩ := h
    have hx : Catches (cxOf CX0 P w K mg base ["number", "power", "size"] "whole_at" (defScope sWholeAt) f cdv A outer s H E).nox EKF := catches0
    refine ⟨_, (pss_cons (ps_set (i := 2) scWholeAt.nd rfl (Or.inl rfl) (pe_op op_mulK (pe_fld (pv 0) rfl) (pcall D_ten_to G_ten_to hr hx (pa_cons (pe_op op_sub (pe_fld (pv 0) rfl) (pv 1)) pa_nil))))
      (pss_one (ps_ret (pe_ifExp (pt_cmpR op_eq (pe_fld (pv 0) rfl) pe_int (nomark _)) (pe_un un_neg (pv 2)) (pv 2))))), ?_⟩
    have mu : IntMulOk x.f (tenI (x.p - q)) := IntMulOk.of_bits ok.bits (tenI_bits (by omega))
    refine ⟨_, rfl, n, CN, dx, _, _, rfl, e, N.cl, N.n3, num3 _ _ _ _, _, rfl, n, CN, dx, _, _, rfl, e, N.cl, N.n4, num4 _ _ _ _, _, rfl, _, _, rfl, rfl, (x.p - q).toNat, (by rw [Int.toNat_of_nonneg h0]; rfl), by omega, _, _, rfl, rfl, mu, ?_⟩
    refine ⟨_, rfl, n, CN, dx, _, _, rfl, e, N.cl, N.n2, num2 _ _ _ _, rfl, _, rfl, ?_⟩
    unfold Nm.wh at k
    refine iteD (fun h => ?_) (fun h => ?_)
    · rw [if_pos (by injection h)] at k
      exact ⟨_, rfl, _, rfl, k⟩
    · rw [if_neg fun q => h (congrArg V.int q)] at k
      exact ⟨_, rfl, k⟩
end
end TR
set_option Elab.async false
set_option linter.all false
set_option maxRecDepth 100000
set_option maxHeartbeats 4000000
namespace TR
open PySem L2 PySem.W PyProof.Rows
seal PE PS PSs PA PT PW PG PGs PI PO
abbrev sSide : Stmt := (top 24)
abbrev sOrder : Stmt := (top 25)
abbrev sCompared : Stmt := (top 23)
def Nm.side (x : Nm) : Int := match x.k with
  | .plain => 0
  | _ => if x.s = 1 then -1 else 1
def ordI (a b : Int) : Int := if a = b then 0 else if a < b then -1 else 1
def Kd.isN : Kd → Bool
  | .none => true
  | _ => false
def Kd.isE : Kd → Bool
  | .end_ => true
  | _ => false
/-- how the two stand: none, where there is nothing to say -/
def cmpN (x y : Nm) : Option Int :=
  if (x.k.isN || y.k.isN) = true then none else if (x.k.isE || y.k.isE) = true then some (ordI x.side y.side) else some (ordI (x.wh (if y.p < x.p then y.p else x.p)) (y.wh (if y.p < x.p then y.p else x.p)))
def optV : Option Int → V
  | none => .non
  | some i => .int i
theorem isN_str (k : Kd) : decide (k.str = ("none" : Str)) = k.isN := by cases k <;> decide +kernel
theorem isE_str (k : Kd) : decide (k.str = ("end" : Str)) = k.isE := by cases k <;> decide +kernel
section
variable {P : Program} {w : World} {K : Frag} {mg : Str → Option Value} {base : Heap}
def spSide (CN : Addr) : Sp := fun vs H Q _ => ∃ n x, vs = [.ref n] ∧ NumIs CN H n x ∧ Q (.int x.side) H
theorem scSide : FnScope ["number"] ["number"] (defScope sSide) := ⟨rfl, rfl, rfl, by decide +kernel, rfl, by decide +kernel, by decide +kernel⟩
theorem ok_side {f CN : Addr} {fd : FuncData} (D : Def K mg "side_of" ["number"] sSide f fd) (N : Num K mg CN) : FnOk P w K mg base (CX1 P w) 1 f fd ["number"] (spSide CN) := by
  refine FnOk.up (D.F.ok scSide (fun vs H Q E h => ?_) (fun cdv A outer s H vs Q E hr h => ?_))
  · obtain ⟨n, x, rfl, _⟩ := h
    rfl
  · obtain ⟨n, x, rfl, ⟨dx, e⟩, k⟩ := h
    refine ⟨_, (pss_cons (ps_if (pt_cmpR op_eq (pe_fld (pv 0) rfl) pe_str (nomark _)) (pss_one (ps_ret pe_int)) pss_nil)
      (pss_one (ps_ret (pe_ifExp (pt_cmpR op_eq (pe_fld (pv 0) rfl) pe_int (nomark _)) (pe_un un_neg pe_int) pe_int)))), ?_⟩
    refine ⟨_, rfl, n, CN, dx, _, _, rfl, e, N.cl, N.n1, num1 _ _ _ _, rfl, _, rfl, iteD (fun h => ?_) (fun h => ?_)⟩
    · have hk : x.k = .plain := eqS (b := .plain) h
      unfold Nm.side at k
      rw [hk] at k
      exact k
    · have hk : x.k ≠ .plain := neS (b := .plain) h
      have es : x.side = if x.s = 1 then -1 else 1 := by
        unfold Nm.side
        split
        · rename_i q; exact absurd q hk
        · rfl
      rw [es] at k
      refine ⟨_, rfl, n, CN, dx, _, _, rfl, e, N.cl, N.n2, num2 _ _ _ _, rfl, _, rfl, iteD (fun h => ?_) (fun h => ?_)⟩
      · rw [if_pos (by injection h)] at k
        exact ⟨_, rfl, k⟩
      · rw [if_neg fun q => h (congrArg V.int q)] at k
        exact k
def spOrder : Sp := fun vs H Q _ => ∃ a b, vs = [.int a, .int b] ∧ Q (.int (ordI a b)) H
theorem scOrder : FnScope ["one", "other"] ["one", "other"] (defScope sOrder) := ⟨rfl, rfl, rfl, by decide +kernel, rfl, by decide +kernel, by decide +kernel⟩
theorem ok_order {f : Addr} {fd : FuncData} (D : Def K mg "order_of" ["one", "other"] sOrder f fd) : FnOk P w K mg base (CX1 P w) 1 f fd ["one", "other"] spOrder := by
  refine FnOk.up (D.F.ok scOrder (fun vs H Q E h => ?_) (fun cdv A outer s H vs Q E hr h => ?_))
  · obtain ⟨a, b, rfl, _⟩ := h
    rfl
  · obtain ⟨a, b, rfl, k⟩ := h
    refine ⟨_, (pss_cons (ps_if (pt_cmpR op_eq (pv 0) (pv 1) (nomark _)) (pss_one (ps_ret pe_int)) pss_nil)
      (pss_one (ps_ret (pe_ifExp (pt_cmpR op_lt (pv 0) (pv 1) (nomark _)) (pe_un un_neg pe_int) pe_int)))), ?_⟩
    unfold ordI at k
    refine ⟨_, rfl, _, rfl, rfl, _, rfl, iteD (fun h => ?_) (fun h => ?_)⟩
    · rw [if_pos (by injection h)] at k
      exact k
    · rw [if_neg fun q => h (congrArg V.int q)] at k
      refine ⟨_, rfl, _, rfl, _, _, rfl, rfl, _, rfl, iteD (fun h => ?_) (fun h => ?_)⟩
      · rw [if_pos h] at k
        exact ⟨_, rfl, k⟩
      · rw [if_neg h] at k
        exact k
def spCompared (K : Frag) (CN CB : Addr) : Sp := fun vs H Q E => ∃ v u, vs = [v, u] ∧ ((∃ n m x y, v = .ref n ∧ u = .ref m ∧ NumIs CN H n x ∧ NumIs CN H m y ∧ x.Ok ∧ y.Ok ∧ ∀ H', Same H H' → Q (optV (cmpN x y)) H') ∨
  ((NotNum K CN H v ∨ ∃ n x, v = .ref n ∧ NumIs CN H n x ∧ NotNum K CN H u) ∧ ∀ H', Same H H' → E (.ref CB) none H'))
theorem scCompared : FnScope ["one", "other", "low"] ["one", "other"] (defScope sCompared) := ⟨rfl, rfl, rfl, by decide +kernel, rfl, by decide +kernel, by decide +kernel⟩
theorem ok_compared {f f1 f2 f3 f4 f5 CN CB : Addr} {fd fd1 fd2 fd3 fd4 fd5 : FuncData} (D : Def K mg "compared" ["one", "other"] sCompared f fd) (D_need_numbers : Def K mg "need_numbers" ["things"] sNeedNs f1 fd1) (G_need_numbers : FnOk P w K mg base (CX1 P w) 2 f1 fd1 ["things"] (spNeedNs K CN CB))
    (D_some_of_kind : Def K mg "some_of_kind" ["numbers", "kind"] sSomeK f2 fd2) (G_some_of_kind : FnOk P w K mg base (CX1 P w) 1 f2 fd2 ["numbers", "kind"] (spSomeK CN)) (D_side_of : Def K mg "side_of" ["number"] sSide f3 fd3) (G_side_of : FnOk P w K mg base (CX1 P w) 1 f3 fd3 ["number"] (spSide CN))
    (D_order_of : Def K mg "order_of" ["one", "other"] sOrder f4 fd4) (G_order_of : FnOk P w K mg base (CX1 P w) 1 f4 fd4 ["one", "other"] spOrder) (D_whole_at : Def K mg "whole_at" ["number", "power"] sWholeAt f5 fd5) (G_whole_at : FnOk P w K mg base (CX1 P w) 3 f5 fd5 ["number", "power"] (spWholeAt CN)) (O : Own mg) (N : Num K mg CN) :
    FnOk P w K mg base (CX1 P w) 4 f fd ["one", "other"] (spCompared K CN CB) := by
  refine D.F.okE scCompared (fun vs H Q E h => ?_) (fun X cdv A outer s H vs Q E hX hr hx h => ?_)
  · obtain ⟨v, u, rfl, _⟩ := h
    rfl
  · subst hX
    obtain ⟨v, u, rfl, h⟩ := h
    refine ⟨_, (pss_cons (ps_expr (pcall D_need_numbers G_need_numbers hr hx (pa_cons (pe_lst (pa_cons (pv 0) (pa_cons (pv 1) pa_nil))) pa_nil)))
      (pss_cons (ps_if (pt_val (pcall D_some_of_kind G_some_of_kind hr hx (pa_cons (pe_lst (pa_cons (pv 0) (pa_cons (pv 1) pa_nil))) (pa_cons pe_str pa_nil)))) (pss_one (ps_ret pe_non)) pss_nil)
      (pss_cons (ps_if (pt_val (pcall D_some_of_kind G_some_of_kind hr hx (pa_cons (pe_lst (pa_cons (pv 0) (pa_cons (pv 1) pa_nil))) (pa_cons pe_str pa_nil)))) (pss_one (ps_ret (pcall D_order_of G_order_of hr hx (pa_cons (pcall D_side_of G_side_of hr hx (pa_cons (pv 0) pa_nil)) (pa_cons (pcall D_side_of G_side_of hr hx (pa_cons (pv 1) pa_nil)) pa_nil))))) pss_nil)
      (pss_cons (ps_set (i := 2) scCompared.nd rfl (Or.inl rfl) (pe_callB (call_min2 rfl) (by rfl) O.min_ boot_min (pa_cons (pe_fld (pv 0) rfl) (pa_cons (pe_fld (pv 1) rfl) pa_nil))))
      (pss_one (ps_ret (pcall D_order_of G_order_of hr hx (pa_cons (pcall D_whole_at G_whole_at hr hx (pa_cons (pv 0) (pa_cons (pv 2) pa_nil))) (pa_cons (pcall D_whole_at G_whole_at hr hx (pa_cons (pv 1) (pa_cons (pv 2) pa_nil))) pa_nil))))))))), ?_⟩
    have z2 : 2 ≤ sizeLine := line1000 (by decide)
    rcases h with ⟨n, m, x, y, rfl, rfl, hn, hm, ox, oy, k⟩ | ⟨bad, k⟩
    · refine ⟨_, rfl, _, rfl, z2, fun l nl => ⟨l, [(n, x), (m, y)], rfl, ?_, .inl ⟨upd_same, ?_⟩⟩⟩
      · intro p hp
        rcases (by simpa using hp : p = (n, x) ∨ p = (m, y)) with rfl | rfl
        · exact hn.same (Same.upd nl)
        · exact hm.same (Same.upd nl)
      have s1 := Same.upd (o := .lst [.ref n, .ref m]) nl
      generalize upd H l (.lst [.ref n, .ref m]) = H1 at s1
      have both : ∀ {H' : Hp} {l : Addr}, Same H1 H' → H' l = none → NumsAt CN (upd H' l (.lst [.ref n, .ref m])) l [(n, x), (m, y)] := fun s' nl => ⟨upd_same, fun p hp => by
        rcases (by simpa using hp : p = (n, x) ∨ p = (m, y)) with rfl | rfl
        · exact hn.same (s1.trans (s'.trans (Same.upd nl)))
        · exact hm.same (s1.trans (s'.trans (Same.upd nl)))⟩
      refine ⟨_, rfl, _, rfl, z2, fun l2 nl2 => ⟨l2, _, "none", rfl, both (Same.refl _) nl2, (by decide : 2 ≤ 1000), fun H2 s2 => ?_⟩⟩
      have s2 : Same H1 H2 := (Same.upd nl2).trans s2
      have an : ([(n, x), (m, y)].any fun p => decide (p.2.k.str = ("none" : Str))) = (x.k.isN || y.k.isN) := by
        show (decide (x.k.str = ("none" : Str)) || (decide (y.k.str = ("none" : Str)) || false)) = _
        rw [isN_str, isN_str, Bool.or_false]
      rw [an]
      unfold cmpN at k
      refine ⟨_, rfl, ?_⟩
      cases eN : (x.k.isN || y.k.isN) with
      | true =>
        rw [eN, if_pos rfl] at k
        exact iteT (k H2 (s1.trans s2))
      | false =>
        rw [eN, if_neg Bool.false_ne_true] at k
        refine iteF ⟨_, rfl, _, rfl, z2, fun l3 nl3 => ⟨l3, _, "end", rfl, both s2 nl3, (by decide : 2 ≤ 1000), fun H3 s3 => ?_⟩⟩
        have s3 : Same H1 H3 := s2.trans ((Same.upd nl3).trans s3)
        have ae : ([(n, x), (m, y)].any fun p => decide (p.2.k.str = ("end" : Str))) = (x.k.isE || y.k.isE) := by
          show (decide (x.k.str = ("end" : Str)) || (decide (y.k.str = ("end" : Str)) || false)) = _
          rw [isE_str, isE_str, Bool.or_false]
        rw [ae]
        have hn3 := hn.same (s1.trans s3)
        have hm3 := hm.same (s1.trans s3)
        refine ⟨_, rfl, ?_⟩
        cases eE : (x.k.isE || y.k.isE) with
        | true =>
          rw [eE, if_pos rfl] at k
          exact iteT ⟨_, rfl, n, x, rfl, hn3, _, rfl, m, y, rfl, hm3, _, _, rfl, k H3 (s1.trans s3)⟩
        | false =>
          rw [eE, if_neg Bool.false_ne_true] at k
          obtain ⟨dx, e⟩ := id hn3
          obtain ⟨dy, e'⟩ := id hm3
          refine iteF ⟨_, rfl, n, CN, dx, _, _, rfl, e, N.cl, N.n4, num4 _ _ _ _, _, rfl, m, CN, dy, _, _, rfl, e', N.cl, N.n4, num4 _ _ _ _, _, _, rfl, ?_⟩
          have := ox.p0; have := ox.p1; have := oy.p0; have := oy.p1
          have lo : ∃ q, (if y.p < x.p then y.p else x.p) = q ∧ q ≤ x.p ∧ q ≤ y.p ∧ -200 ≤ q := by
            by_cases hq : y.p < x.p
            · exact ⟨y.p, if_pos hq, by omega, by omega, by omega⟩
            · exact ⟨x.p, if_neg hq, by omega, by omega, by omega⟩
          obtain ⟨q, eq, q1, q2, q3⟩ := lo
          rw [eq] at k ⊢
          exact ⟨_, rfl, _, rfl, n, x, q, rfl, hn3, ox, by omega, by omega, _, rfl, _, rfl, m, y, q, rfl, hm3, oy, by omega, by omega, _, _, rfl, k H3 (s1.trans s3)⟩
    · refine ⟨_, rfl, _, rfl, z2, fun l nl => ?_⟩
      have s1 := Same.upd (o := .lst [v, u]) nl
      rcases bad with bad | ⟨n, x, rfl, hn, bad⟩
      · exact ⟨l, [], rfl, fun p hp => by simp at hp, .inr ⟨v, [u], upd_same, bad.same s1, k _ s1⟩⟩
      · refine ⟨l, [(n, x)], rfl, fun p hp => ?_, .inr ⟨u, [], upd_same, bad.same s1, k _ s1⟩⟩
        have e : p = (n, x) := by simpa using hp
        subst e
        exact hn.same s1
end
end TR
set_option Elab.async false
set_option linter.all false
set_option maxRecDepth 100000
set_option maxHeartbeats 4000000
namespace TR
open PySem L2 PySem.W PyProof.Rows
seal PE PS PSs PA PT PW PG PGs PI PO
abbrev sCell : Stmt := (top 27)
section
variable {P : Program} {w : World} {K : Frag} {mg : Str → Option Value} {base : Heap}
def spCell (K : Frag) : Sp := fun vs H Q _ => ∃ a ns k, vs = [.ref a, .int k] ∧ SqL K H a ((ns : List Int).map V.int) ∧ 0 ≤ k ∧ ∀ i, Q (.int i) H
theorem scCell : FnScope ["_law_script", "_law_k"] ["_law_script", "_law_k"] (defScope sCell) := ⟨rfl, rfl, rfl, by decide +kernel, rfl, by decide +kernel, by decide +kernel⟩
theorem ok_cell {f : Addr} {fd : FuncData} (D : Def K mg "_law_cell_at" ["_law_script", "_law_k"] sCell f fd) (O : Own mg) : FnOk P w K mg base (CX1 P w) 1 f fd ["_law_script", "_law_k"] (spCell K) := by
  refine FnOk.up (D.F.ok scCell (fun vs H Q E h => ?_) (fun cdv A outer s H vs Q E hr h => ?_))
  · obtain ⟨a, ns, k, rfl, _⟩ := h
    rfl
  · obtain ⟨a, ns, i, rfl, hs, h0, k⟩ := h
    refine ⟨_, (pss_cons (ps_if (pt_cmpR op_lt (pv 1) (pe_callB call_len_seq (by rfl) O.len_ PySem.boot_len (pa_cons (pv 0) pa_nil)) (nomark _)) (pss_one (ps_ret (pe_ix ix_list (pv 0) (pv 1) (fun _ _ => rfl)))) pss_nil)
      (pss_one (ps_ret pe_int))), ?_⟩
    refine ⟨_, rfl, _, rfl, a, _, rfl, .inl hs, _, _, rfl, rfl, _, rfl, ?_⟩
    refine iteD (fun hlt => ?_) (fun _ => k 0)
    rw [List.length_map] at hlt
    obtain ⟨j, rfl⟩ := Int.eq_ofNat_of_zero_le h0
    have hj : j < ns.length := by omega
    exact ⟨_, rfl, _, rfl, a, _, _, _, rfl, rfl, hs, atI_nat (v := V.int ns[j]) (by simp [hj]), k _⟩
end
end TR
set_option Elab.async false
set_option linter.all false
set_option maxRecDepth 100000
set_option maxHeartbeats 4000000
namespace TR
open PySem L2 PySem.W PyProof.Rows
seal PE PS PSs PA PT PW PG PGs PI PO
abbrev sMixed : Stmt := (top 28)
section
variable {P : Program} {w : World} {K : Frag} {mg : Str → Option Value} {base : Heap}
def spMixed : Sp := fun vs H Q _ => ∃ c k, vs = [.int c, .int k] ∧ 0 ≤ k ∧ k ≤ 100 ∧ ∀ m, 0 ≤ m → m < 2147483629 → Q (.int m) H
theorem scMixed : FnScope ["_law_cell", "_law_k"] ["_law_cell", "_law_k"] (defScope sMixed) := ⟨rfl, rfl, rfl, by decide +kernel, rfl, by decide +kernel, by decide +kernel⟩
theorem ok_mixed {f : Addr} {fd : FuncData} (D : Def K mg "_law_mixed" ["_law_cell", "_law_k"] sMixed f fd) : FnOk P w K mg base (CX1 P w) 1 f fd ["_law_cell", "_law_k"] spMixed := by
  refine FnOk.up (D.F.ok scMixed (fun vs H Q E h => ?_) (fun cdv A outer s H vs Q E hr h => ?_))
  · obtain ⟨c, k, rfl, _⟩ := h
    rfl
  · obtain ⟨c, i, rfl, h0, h1, k⟩ := h
    refine ⟨_, (pss_one (ps_ret (pe_op op_mod (pe_op op_mulK (pe_op op_mod (pe_op op_add (pe_op op_add (pe_op op_mulK (pv 0) (pe_op op_add pe_int (pe_op op_mulK (pe_op op_mulK pe_int (pv 1)) (pv 1)))) (pe_op op_mulK pe_int (pv 1))) pe_int) pe_int) pe_int) pe_int))), ?_⟩
    have q0 : (0 : Int) ≤ 2 * i * i := Int.mul_nonneg (by omega) h0
    have q1 : 2 * i * i ≤ 200 * 100 := Int.mul_le_mul (by omega) h1 h0 (by decide)
    have m1 : IntMulOk 2 i := CMul.ok (.inl ⟨by decide, by decide⟩)
    have m2 : IntMulOk (2 * i) i := CMul.ok (.inr ⟨by omega, by omega⟩)
    have m3 : IntMulOk c (48271 + 2 * i * i) := CMul.ok (.inr ⟨by omega, by omega⟩)
    have m4 : IntMulOk 69621 i := CMul.ok (.inl ⟨by decide, by decide⟩)
    have m5 : ∀ z : Int, IntMulOk z 69621 := fun z => CMul.ok (.inr ⟨by decide, by decide⟩)
    refine ⟨_, rfl, _, rfl, _, _, rfl, rfl, m1, _, rfl, _, _, rfl, rfl, m2, _, _, rfl, rfl, _, _, rfl, rfl, m3, _, rfl, _, _, rfl, rfl, m4, _, _, rfl, rfl, _, _, rfl, rfl, _, _, rfl, rfl, (by show (0 : Int) < 2147483647; decide), _, _, rfl, rfl, m5 _, _, _, rfl, rfl, (by show (0 : Int) < 2147483629; decide), ?_⟩
    exact k _ (Int.emod_nonneg _ (by decide)) (Int.emod_lt_of_pos _ (by decide))
end
end TR
set_option Elab.async false
set_option linter.all false
set_option maxRecDepth 100000
set_option maxHeartbeats 4000000
namespace TR
open PySem L2 PySem.W PyProof.Rows
seal PE PS PSs PA PT PW PG PGs PI PO
abbrev sTenT : Stmt := (top 29)
section
variable {P : Program} {w : World} {K : Frag} {mg : Str → Option Value} {base : Heap}
def spTenT : Sp := fun vs H Q _ => ∃ n : Nat, vs = [.int (n : Int)] ∧ n ≤ 600 ∧ Q (.int ((10 ^ n : Nat) : Int)) H
theorem scTenT : FnScope ["_law_count"] ["_law_count"] (defScope sTenT) := ⟨rfl, rfl, rfl, by decide +kernel, rfl, by decide +kernel, by decide +kernel⟩
theorem ok_tenT {f : Addr} {fd : FuncData} (D : Def K mg "_law_ten" ["_law_count"] sTenT f fd) (O : Own mg) : FnOk P w K mg base (CX1 P w) 1 f fd ["_law_count"] spTenT := by
  refine FnOk.up (D.F.ok scTenT (fun vs H Q E h => ?_) (fun cdv A outer s H vs Q E hr h => ?_))
  · obtain ⟨n, rfl, _⟩ := h
    rfl
  · obtain ⟨n, rfl, hn, k⟩ := h
    refine ⟨_, (pss_one (ps_ret (pe_callTy call_int_text (by rfl) O.int_ boot_int (pa_cons (pe_op op_add_str pe_str (pe_op op_rep_str pe_str (pv 0))) pa_nil)))), ?_⟩
    have l1 : ("1" : Str).length = 1 := by decide +kernel
    have l0 : ("0" : Str).length = 1 := by decide +kernel
    refine ⟨_, rfl, _, _, rfl, rfl, by omega, by omega, line1000 (by rw [l0]; omega), _, _, rfl, rfl, line1000 (by rw [timesS_len, l0, l1]; omega), ?_⟩
    exact ⟨tenS n, _, rfl, tenS_val n hn, by rw [tenS_len]; omega, k⟩
end
end TR
set_option Elab.async false
set_option linter.all false
set_option maxRecDepth 100000
set_option maxHeartbeats 4000000
namespace TR
open PySem L2 PySem.W PyProof.Rows
seal PE PS PSs PA PT PW PG PGs PI PO
abbrev sLWhole : Stmt := (top 30)
abbrev sLNumber : Stmt := (top 31)
abbrev sLMade : Stmt := (top 32)
/-- a number that can be made and told -/
structure Nm.Wf (x : Nm) : Prop where
  ok : x.Ok
  e : x.k = .end_ → x.f = 0 ∧ x.p = 0
  n : x.k = .none → x.s = 0 ∧ x.f = 0 ∧ x.p = 0
theorem wf_plain {s f p : Int} (h1 : 0 ≤ s ∧ s ≤ 1) (h2 : 0 ≤ f ∧ f ≤ 10 ^ 60 - 1) (h3 : -200 ≤ p ∧ p ≤ 200) : (Nm.mk .plain s f p).Wf := ⟨⟨h1.1, h1.2, h2.1, h2.2, h3.1, h3.2⟩, fun q => (by cases q), fun q => (by cases q)⟩
theorem wf_end {s : Int} (h1 : 0 ≤ s ∧ s ≤ 1) : (Nm.mk .end_ s 0 0).Wf := ⟨⟨h1.1, h1.2, by show (0 : Int) ≤ 0; decide, by show (0 : Int) ≤ 10 ^ 60 - 1; decide, by show (-200 : Int) ≤ 0; decide, by show (0 : Int) ≤ 200; decide⟩, fun _ => ⟨rfl, rfl⟩, fun q => (by cases q)⟩
theorem wf_none : (Nm.mk .none 0 0 0).Wf := ⟨⟨by show (0 : Int) ≤ 0; decide, by show (0 : Int) ≤ 1; decide, by show (0 : Int) ≤ 0; decide, by show (0 : Int) ≤ 10 ^ 60 - 1; decide, by show (-200 : Int) ≤ 0; decide, by show (0 : Int) ≤ 200; decide⟩, fun q => (by cases q), fun _ => ⟨rfl, rfl, rfl⟩⟩
theorem fig_mod {L : Int} {n : Nat} (hn : n ≤ 60) : 0 ≤ L % ((10 ^ n : Nat) : Int) ∧ L % ((10 ^ n : Nat) : Int) ≤ 10 ^ 60 - 1 := by
  have p : 0 < ((10 ^ n : Nat) : Int) := Int.natCast_pos.mpr (Nat.pow_pos (by decide))
  have a := Int.emod_nonneg L (Int.ne_of_gt p)
  have b := Int.emod_lt_of_pos L p
  have c : (10 : Nat) ^ n ≤ 10 ^ 60 := Nat.pow_le_pow_right (by decide) hn
  have e : ((10 ^ 60 : Nat) : Int) = 10 ^ 60 := by decide +kernel
  omega
theorem fig_nines {L : Int} {n : Nat} (h1 : 1 ≤ n) (hn : n ≤ 60) : 0 ≤ ((10 ^ n : Nat) : Int) - 1 - L % 3 ∧ ((10 ^ n : Nat) : Int) - 1 - L % 3 ≤ 10 ^ 60 - 1 := by
  have c : (10 : Nat) ^ n ≤ 10 ^ 60 := Nat.pow_le_pow_right (by decide) hn
  have d : (10 : Nat) ^ 1 ≤ 10 ^ n := Nat.pow_le_pow_right (by decide) h1
  have e : ((10 ^ 60 : Nat) : Int) = 10 ^ 60 := by decide +kernel
  omega
theorem fig_round {L : Int} {n : Nat} (hn : n < 60) : 0 ≤ ((10 ^ n : Nat) : Int) * (1 + L % 9) ∧ ((10 ^ n : Nat) : Int) * (1 + L % 9) ≤ 10 ^ 60 - 1 := by
  have c : (10 : Nat) ^ n ≤ 10 ^ 59 := Nat.pow_le_pow_right (by decide) (by omega)
  have q : 0 ≤ 1 + L % 9 ∧ 1 + L % 9 ≤ 9 := by omega
  generalize 1 + L % 9 = d at q
  have a : ((10 ^ n : Nat) : Int) * d ≤ ((10 ^ 59 : Nat) : Int) * 9 := Int.mul_le_mul (Int.ofNat_le.mpr c) q.2 q.1 (by omega)
  have b : 0 ≤ ((10 ^ n : Nat) : Int) * d := Int.mul_nonneg (Int.natCast_nonneg _) q.1
  have e : ((10 ^ 59 : Nat) : Int) * 9 ≤ 10 ^ 60 - 1 := by decide +kernel
  exact ⟨b, Int.le_trans a e⟩
section
variable {P : Program} {w : World} {K : Frag} {mg : Str → Option Value} {base : Heap}
def spLWhole : Sp := fun vs H Q _ => ∃ i, vs = [.int i] ∧ Q (.bl true) H
theorem scLWhole : FnScope ["_law_thing"] ["_law_thing"] (defScope sLWhole) := ⟨rfl, rfl, rfl, by decide +kernel, rfl, by decide +kernel, by decide +kernel⟩
theorem ok_lWhole {f : Addr} {fd : FuncData} (D : Def K mg "_law_whole" ["_law_thing"] sLWhole f fd) (O : Own mg) (T : Kit K) : FnOk P w K mg base (CX1 P w) 1 f fd ["_law_thing"] spLWhole := by
  refine FnOk.up (D.F.ok scLWhole (fun vs H Q E h => ?_) (fun cdv A outer s H vs Q E hr h => ?_))
  · obtain ⟨i, rfl, _⟩ := h
    rfl
  · obtain ⟨i, rfl, k⟩ := h
    refine ⟨_, (pss_one (ps_ret (pe_and (pisi O.isi (pv 0) (pty O.int_ boot_int)) (pe_one (pe_not (pisi O.isi (pv 0) (pty O.bool_ boot_bool))))))), ?_⟩
    exact ⟨_, rfl, _, _, _, _, true, rfl, rfl, tyInt i, T.int_int, _, rfl, iteT ⟨_, rfl, _, _, _, _, false, rfl, rfl, tyInt i, T.int_bool, _, rfl, k⟩⟩
def spLNumber : Sp := fun vs H Q _ => ∃ c, vs = [.int c] ∧ ∀ (x : Nm) t H', x.Wf → Same H H' → H' t = some (.tup x.vs) → Q (.ref t) H'
theorem scLNumber : FnScope ["_law_cell", "_law_kind", "_law_sign", "_law_many", "_law_long", "_law_k", "_law_figures", "_law_power"] ["_law_cell"] (defScope sLNumber) := ⟨rfl, rfl, rfl, by decide +kernel, rfl, by decide +kernel, by decide +kernel⟩
theorem ok_lNumber {f f1 f2 : Addr} {fd fd1 fd2 : FuncData} (D : Def K mg "_law_number" ["_law_cell"] sLNumber f fd) (D_l_mixed : Def K mg "_law_mixed" ["_law_cell", "_law_k"] sMixed f1 fd1) (G_l_mixed : FnOk P w K mg base (CX1 P w) 1 f1 fd1 ["_law_cell", "_law_k"] spMixed)
    (D_l_ten : Def K mg "_law_ten" ["_law_count"] sTenT f2 fd2) (G_l_ten : FnOk P w K mg base (CX1 P w) 1 f2 fd2 ["_law_count"] spTenT) (O : Own mg) : FnOk P w K mg base (CX1 P w) 2 f fd ["_law_cell"] spLNumber := by
  refine FnOk.up (D.F.ok scLNumber (fun vs H Q E h => ?_) (fun cdv A outer s H vs Q E hr h => ?_))
  · obtain ⟨c, rfl, _⟩ := h
    rfl
  · obtain ⟨c, rfl, k⟩ := h
    have hx : Catches (cxOf CX0 P w K mg base ["_law_cell", "_law_kind", "_law_sign", "_law_many", "_law_long", "_law_k", "_law_figures", "_law_power"] "_law_number" (defScope sLNumber) f cdv A outer s H E).nox EKF := catches0
    refine ⟨_, (pss_cons (ps_join (ps_set (i := 1) scLNumber.nd rfl (Or.inl rfl) (pe_op op_mod (pe_op op_fdivK (pcall D_l_mixed G_l_mixed hr hx (pa_cons (pv 0) (pa_cons pe_int pa_nil))) pe_int) pe_int)))
      (pss_cons (ps_join (ps_set (i := 2) scLNumber.nd rfl (Or.inl rfl) (pe_op op_mod (pe_op op_fdivK (pcall D_l_mixed G_l_mixed hr hx (pa_cons (pv 0) (pa_cons pe_int pa_nil))) pe_int) pe_int)))
      (pss_cons (ps_join (ps_if (pt_cmpR op_lt (pv 1) pe_int (nomark _)) (pss_one (ps_ret (pe_ix ix_list (pe_lst (pa_cons (pe_tup (pa_cons pe_str (pa_cons pe_int (pa_cons pe_int (pa_cons pe_int pa_nil))))) (pa_cons (pe_tup (pa_cons pe_str (pa_cons (pv 2) (pa_cons pe_int (pa_cons pe_int pa_nil))))) pa_nil))) (pv 1) (fun _ _ => rfl)))) pss_nil))
      (pss_cons (ps_join (ps_set (i := 3) scLNumber.nd rfl (Or.inl rfl) (pe_ix ix_list (pe_lst (pa_cons pe_int (pa_cons pe_int (pa_cons pe_int (pa_cons pe_int (pa_cons pe_int (pa_cons pe_int (pa_cons pe_int (pa_cons pe_int (pa_cons pe_int (pa_cons pe_int (pa_cons pe_int (pa_cons pe_int pa_nil))))))))))))) (pe_op op_mod (pe_op op_fdivK (pcall D_l_mixed G_l_mixed hr hx (pa_cons (pv 0) (pa_cons pe_int pa_nil))) pe_int) pe_int) (fun _ _ => rfl))))
      (pss_cons (ps_join (ps_set (i := 4) scLNumber.nd rfl (Or.inl rfl) pe_int))
      (pss_cons (ps_join (ps_for PassesOwn.never rfl (pi_range1 rfl O.range_ (pa_cons (pe_op op_add pe_int (pe_op op_fdivK (pv 3) pe_int)) pa_nil)) (pg_name (i := 5) scLNumber.nd rfl (Or.inl rfl)) (pss_one (ps_set (i := 4) scLNumber.nd rfl (Or.inl rfl) (pe_op op_add (pe_op op_mulK (pv 4) pe_int) (pcall D_l_mixed G_l_mixed hr hx (pa_cons (pv 0) (pa_cons (pe_op op_add pe_int (pv 5)) pa_nil))))))))
      (pss_cons (ps_join (ps_set (i := 6) scLNumber.nd rfl (Or.inl rfl) (pe_op op_mod (pv 4) (pcall D_l_ten G_l_ten hr hx (pa_cons (pv 3) pa_nil)))))
      (pss_cons (ps_join (ps_if (pt_cmpR op_lt (pv 1) pe_int (nomark _)) (pss_one (ps_set (i := 6) scLNumber.nd rfl (Or.inl rfl) pe_int)) (pss_one (ps_if (pt_cmpR op_lt (pv 1) pe_int (nomark _)) (pss_one (ps_set (i := 6) scLNumber.nd rfl (Or.inl rfl) (pe_op op_sub (pe_op op_sub (pcall D_l_ten G_l_ten hr hx (pa_cons (pv 3) pa_nil)) pe_int) (pe_op op_mod (pv 4) pe_int)))) (pss_one (ps_if (pt_cmpR op_lt (pv 1) pe_int (nomark _)) (pss_one (ps_set (i := 6) scLNumber.nd rfl (Or.inl rfl) (pe_op op_mulK (pcall D_l_ten G_l_ten hr hx (pa_cons (pe_op op_sub (pv 3) pe_int) pa_nil)) (pe_op op_add pe_int (pe_op op_mod (pv 4) pe_int))))) pss_nil))))))
      (pss_cons (ps_join (ps_set (i := 7) scLNumber.nd rfl (Or.inl rfl) (pe_op op_sub (pe_op op_mod (pe_op op_fdivK (pcall D_l_mixed G_l_mixed hr hx (pa_cons (pv 0) (pa_cons pe_int pa_nil))) pe_int) pe_int) pe_int)))
      (pss_cons (ps_join (ps_if (pt_cmpR op_eq (pe_op op_mod (pe_op op_fdivK (pcall D_l_mixed G_l_mixed hr hx (pa_cons (pv 0) (pa_cons pe_int pa_nil))) pe_int) pe_int) pe_int (nomark _)) (pss_one (ps_set (i := 7) scLNumber.nd rfl (Or.inl rfl) (pe_ix ix_list (pe_lst (pa_cons (pe_un un_neg pe_int) (pa_cons pe_int (pa_cons pe_int (pa_cons (pe_un un_neg pe_int) (pa_cons pe_int (pa_cons (pe_un un_neg pe_int) (pa_cons pe_int (pa_cons (pe_un un_neg pe_int) pa_nil))))))))) (pe_op op_mod (pe_op op_fdivK (pcall D_l_mixed G_l_mixed hr hx (pa_cons (pv 0) (pa_cons pe_int pa_nil))) pe_int) pe_int) (fun _ _ => rfl)))) pss_nil))
      (pss_one (ps_ret (pe_tup (pa_cons pe_str (pa_cons (pv 2) (pa_cons (pv 6) (pa_cons (pv 7) pa_nil))))))))))))))))), ?_⟩
    have z2 : 2 ≤ sizeLine := line1000 (by decide)
    have z4 : 4 ≤ sizeLine := line1000 (by decide)
    have z8 : 8 ≤ sizeLine := line1000 (by decide)
    have z12 : 12 ≤ sizeLine := line1000 (by decide)
    have d7 : (0 : Int) < 7 ∧ (7 : Int).natAbs.log2 < 9000 := ⟨by decide, by decide +kernel⟩
    have d8 : (0 : Int) < 8 ∧ (8 : Int).natAbs.log2 < 9000 := ⟨by decide, by decide +kernel⟩
    have mC : ∀ z n : Int, -(2 ^ 64) < n → n < 2 ^ 64 → IntMulOk z n := fun z n a b => CMul.ok (.inr ⟨a, b⟩)
    have pT : ∀ n : Nat, 0 < ((10 ^ n : Nat) : Int) := fun n => Int.natCast_pos.mpr (Nat.pow_pos (by decide))
    -- the kind
    refine ⟨fun σ' H' => ∃ kd : Int, H' = H ∧ 0 ≤ kd ∧ kd < 24 ∧ σ' = [some (.int c), some (.int kd), none, none, none, none, none, none], ?_, ?_⟩
    · refine ⟨_, rfl, c, 1, rfl, by decide, by decide, fun m _ _ => ⟨_, _, rfl, rfl, d7, _, _, rfl, rfl, (by decide : (0 : Int) < 24), _, rfl, Int.emod_nonneg _ (by decide), Int.emod_lt_of_pos _ (by decide), rfl⟩⟩
    rintro σ' H' ⟨kd, rfl, k0, k1, rfl⟩
    -- the sign
    refine ⟨fun σ' H2 => ∃ sg : Int, H2 = H' ∧ 0 ≤ sg ∧ sg ≤ 1 ∧ σ' = [some (.int c), some (.int kd), some (.int sg), none, none, none, none, none], ?_, ?_⟩
    · refine ⟨_, rfl, c, 2, rfl, by decide, by decide, fun m _ _ => ⟨_, _, rfl, rfl, d7, _, _, rfl, rfl, (by decide : (0 : Int) < 2), m / 7 % 2, rfl, by omega, by omega, rfl⟩⟩
    rintro σ' H2 ⟨sg, rfl, s0, s1, rfl⟩
    -- an end, nothing
    refine ⟨fun σ' H3 => H3 = H2 ∧ σ' = [some (.int c), some (.int kd), some (.int sg), none, none, none, none, none], ?_, ?_⟩
    · refine ⟨_, rfl, _, _, rfl, rfl, _, rfl, iteD (fun hk => ?_) (fun hk => ⟨rfl, rfl⟩)⟩
      refine ⟨z4, fun t1 n1 => ?_⟩
      have u1 := Same.upd (o := .tup [.str "none", .int 0, .int 0, .int 0]) n1
      refine ⟨_, rfl, z4, fun t2 n2 => ⟨z2, fun l nl => ?_⟩⟩
      have u2 := Same.upd (o := .tup [.str "end", .int sg, .int 0, .int 0]) n2
      have u3 := Same.upd (o := .lst [.ref t1, .ref t2]) nl
      have hk : kd < 2 := hk
      rcases (by omega : kd = 0 ∨ kd = 1) with rfl | rfl
      · exact ⟨_, rfl, l, _, _, _, rfl, rfl, SqL.of upd_same, atI_nat (j := 0) rfl, k ⟨.none, 0, 0, 0⟩ t1 _ wf_none ((u1.trans u2).trans u3) ((u2.trans u3) _ _ upd_same)⟩
      · exact ⟨_, rfl, l, _, _, _, rfl, rfl, SqL.of upd_same, atI_nat (j := 1) rfl, k ⟨.end_, sg, 0, 0⟩ t2 _ (wf_end ⟨s0, s1⟩) ((u1.trans u2).trans u3) (u3 _ _ upd_same)⟩
    rintro σ' H3 ⟨rfl, rfl⟩
    -- how many figures
    refine ⟨fun σ' H4 => ∃ n : Nat, Same H3 H4 ∧ 1 ≤ n ∧ n ≤ 60 ∧ σ' = [some (.int c), some (.int kd), some (.int sg), some (.int (n : Int)), none, none, none, none], ?_, ?_⟩
    · refine ⟨z12, fun l nl => ⟨_, rfl, c, 3, rfl, by decide, by decide, fun m _ _ => ?_⟩⟩
      obtain ⟨v, hv, ix⟩ := ixs (xs := [1, 1, 2, 2, 3, 3, 4, 5, 9, 12, 24, 60]) (i := m / 7 % 12) (Int.emod_nonneg _ (by decide)) (by show m / 7 % 12 < 12; exact Int.emod_lt_of_pos _ (by decide))
      have bv : 1 ≤ v ∧ v ≤ 60 := by
        simp only [List.mem_cons, List.not_mem_nil, or_false] at hv
        omega
      obtain ⟨n, rfl⟩ := Int.eq_ofNat_of_zero_le (show 0 ≤ v by omega)
      exact ⟨_, _, rfl, rfl, d7, _, _, rfl, rfl, (by decide : (0 : Int) < 12), l, _, _, _, rfl, rfl, SqL.of upd_same, ix, n, Same.upd nl, by omega, by omega, rfl⟩
    rintro σ' H4 ⟨n, s4, n1, n2, rfl⟩
    refine ⟨fun σ' H5 => H5 = H4 ∧ σ' = [some (.int c), some (.int kd), some (.int sg), some (.int (n : Int)), some (.int 0), none, none, none], ⟨rfl, rfl⟩, ?_⟩
    rintro σ' H5 ⟨rfl, rfl⟩
    -- a long number
    refine ⟨fun σ' H6 => H6 = H5 ∧ ∃ (L : Int) (v : Option V), σ' = [some (.int c), some (.int kd), some (.int sg), some (.int (n : Int)), some (.int L), v, none, none], ?_, ?_⟩
    · refine ⟨_, rfl, _, _, rfl, rfl, d8, _, _, rfl, rfl, _, rfl, by omega, by omega, for_range (fun i σ' H6 => H6 = H5 ∧ ∃ (L : Int) (v : Option V), σ' = [some (.int c), some (.int kd), some (.int sg), some (.int (n : Int)), some (.int L), v, none, none]) ⟨rfl, 0, none, rfl⟩ ?_ ?_⟩
      · rintro i σ' H6 hi ⟨rfl, L, v, rfl⟩
        exact ⟨_, rfl, _, _, rfl, rfl, mC _ _ (by decide) (by decide), _, rfl, _, rfl, _, _, rfl, rfl, c, _, rfl, by omega, by omega, fun m _ _ => ⟨_, _, rfl, rfl, rfl, _, _, rfl⟩⟩
      · rintro σ' H6 h
        exact h
    rintro σ' H6 ⟨rfl, L, v, rfl⟩
    -- the figures
    refine ⟨fun σ' H7 => H7 = H6 ∧ σ' = [some (.int c), some (.int kd), some (.int sg), some (.int (n : Int)), some (.int L), v, some (.int (L % ((10 ^ n : Nat) : Int))), none], ?_, ?_⟩
    · exact ⟨_, rfl, _, rfl, n, rfl, by omega, _, _, rfl, rfl, pT n, rfl, rfl⟩
    rintro σ' H7 ⟨rfl, rfl⟩
    refine ⟨fun σ' H8 => H8 = H7 ∧ ∃ fg : Int, 0 ≤ fg ∧ fg ≤ 10 ^ 60 - 1 ∧ σ' = [some (.int c), some (.int kd), some (.int sg), some (.int (n : Int)), some (.int L), v, some (.int fg), none], ?_, ?_⟩
    · have f1 := fig_mod (L := L) n2
      have f2 := fig_nines (L := L) n1 n2
      have f3 := fig_round (L := L) (n := n - 1) (by omega)
      refine ⟨_, rfl, _, _, rfl, rfl, _, rfl, iteD (fun _ => ⟨rfl, 0, by decide, by decide, rfl⟩) (fun _ => ?_)⟩
      refine ⟨_, rfl, _, _, rfl, rfl, _, rfl, iteD (fun _ => ?_) (fun _ => ?_)⟩
      · exact ⟨_, rfl, n, rfl, by omega, _, _, rfl, rfl, _, rfl, _, _, rfl, rfl, (by decide : (0 : Int) < 3), _, _, rfl, rfl, rfl, _, f2.1, f2.2, rfl⟩
      refine ⟨_, rfl, _, _, rfl, rfl, _, rfl, iteD (fun _ => ?_) (fun _ => ⟨rfl, _, f1.1, f1.2, rfl⟩)⟩
      have mu : IntMulOk ((10 ^ (n - 1) : Nat) : Int) (1 + L % 9) := CMul.ok (.inr ⟨by omega, by omega⟩)
      exact ⟨_, rfl, _, _, rfl, rfl, n - 1, (by show [V.int ((n : Int) - 1)] = [V.int ((n - 1 : Nat) : Int)]; rw [show (n : Int) - 1 = ((n - 1 : Nat) : Int) by omega]), by omega, _, rfl, _, _, rfl, rfl, (by decide : (0 : Int) < 9), _, _, rfl, rfl, _, _, rfl, rfl, mu, rfl, _, f3.1, f3.2, rfl⟩
    rintro σ' H8 ⟨rfl, fg, g0, g1, rfl⟩
    -- the power
    refine ⟨fun σ' H9 => H9 = H8 ∧ ∃ pw : Int, -200 ≤ pw ∧ pw ≤ 200 ∧ σ' = [some (.int c), some (.int kd), some (.int sg), some (.int (n : Int)), some (.int L), v, some (.int fg), some (.int pw)], ?_, ?_⟩
    · exact ⟨_, rfl, c, 14, rfl, by decide, by decide, fun m _ _ => ⟨_, _, rfl, rfl, d7, _, _, rfl, rfl, (by decide : (0 : Int) < 13), _, _, rfl, rfl, rfl, m / 7 % 13 - 6, by omega, by omega, rfl⟩⟩
    rintro σ' H9 ⟨rfl, pw, p0, p1, rfl⟩
    refine ⟨fun σ' H10 => Same H9 H10 ∧ ∃ pw : Int, -200 ≤ pw ∧ pw ≤ 200 ∧ σ' = [some (.int c), some (.int kd), some (.int sg), some (.int (n : Int)), some (.int L), v, some (.int fg), some (.int pw)], ?_, ?_⟩
    · refine ⟨_, rfl, c, 15, rfl, by decide, by decide, fun m _ _ => ⟨_, _, rfl, rfl, d7, _, _, rfl, rfl, (by decide : (0 : Int) < 12), rfl, _, rfl, iteD (fun _ => ?_) (fun _ => ⟨Same.refl _, pw, p0, p1, rfl⟩)⟩⟩
      refine ⟨_, rfl, _, rfl, _, rfl, _, rfl, z8, fun l nl => ⟨_, rfl, c, 16, rfl, by decide, by decide, fun m' _ _ => ?_⟩⟩
      obtain ⟨q, hq, ix⟩ := ixs (xs := [-200, 200, 60, -60, 97, -83, 30, -30]) (i := m' / 7 % 8) (Int.emod_nonneg _ (by decide)) (by show m' / 7 % 8 < 8; exact Int.emod_lt_of_pos _ (by decide))
      have bq : -200 ≤ q ∧ q ≤ 200 := by
        simp only [List.mem_cons, List.not_mem_nil, or_false] at hq
        omega
      exact ⟨_, _, rfl, rfl, d7, _, _, rfl, rfl, (by decide : (0 : Int) < 8), l, _, _, _, rfl, rfl, SqL.of upd_same, ix, Same.upd nl, q, bq.1, bq.2, rfl⟩
    rintro σ' H10 ⟨s10, pw, p0, p1, rfl⟩
    refine ⟨_, rfl, _, rfl, _, rfl, z4, fun t nt => ?_⟩
    exact k ⟨.plain, sg, fg, pw⟩ t _ (wf_plain ⟨s0, s1⟩ ⟨g0, g1⟩ ⟨p0, p1⟩) (s4.trans (s10.trans (Same.upd nt))) upd_same
end
end TR
set_option Elab.async false
set_option linter.all false
set_option maxRecDepth 100000
set_option maxHeartbeats 4000000
namespace TR
open PySem L2 PySem.W PyProof.Rows
seal PE PS PSs PA PT PW PG PGs PI PO
section
variable {P : Program} {w : World} {K : Frag} {mg : Str → Option Value} {base : Heap}
def spLMade (CN : Addr) : Sp := fun vs H Q _ => ∃ t x, vs = [.ref t] ∧ H t = some (.tup (Nm.vs x)) ∧ x.Wf ∧ ∀ n H', H n = none → Same H H' → NumIs CN H' n x → Q (.ref n) H'
theorem scLMade : FnScope ["_law_number_here", "_law_kind", "_law_sign", "_law_figures", "_law_power"] ["_law_number_here"] (defScope sLMade) := ⟨rfl, rfl, rfl, by decide +kernel, rfl, by decide +kernel, by decide +kernel⟩
theorem ok_lMade {f f1 f2 f3 CN CB : Addr} {fd fd1 fd2 fd3 : FuncData} (D : Def K mg "_law_made" ["_law_number_here"] sLMade f fd) (D_plain : Def K mg "plain" ["sign", "figures", "power"] sPlain f1 fd1) (G_plain : FnOk P w K mg base (CX1 P w) 3 f1 fd1 ["sign", "figures", "power"] (spPlain K CN CB))
    (D_end : Def K mg "end" ["sign"] sEnd f2 fd2) (G_end : FnOk P w K mg base (CX1 P w) 3 f2 fd2 ["sign"] (spEnd K CN CB)) (D_nothing : Def K mg "nothing" [] sNothing f3 fd3) (G_nothing : FnOk P w K mg base (CX1 P w) 3 f3 fd3 [] (spNothing CN)) : FnOk P w K mg base (CX1 P w) 4 f fd ["_law_number_here"] (spLMade CN) := by
  refine FnOk.up (D.F.ok scLMade (fun vs H Q E h => ?_) (fun cdv A outer s H vs Q E hr h => ?_))
  · obtain ⟨t, x, rfl, _⟩ := h
    rfl
  · obtain ⟨t, x, rfl, ht, wf, k⟩ := h
    have hx : Catches (cxOf CX0 P w K mg base ["_law_number_here", "_law_kind", "_law_sign", "_law_figures", "_law_power"] "_law_made" (defScope sLMade) f cdv A outer s H E).nox EKF := catches0
    refine ⟨_, (pss_cons (ps_asg (pv 0) (pg_tup rfl (pgs_cons (pg_name (i := 1) scLMade.nd rfl (Or.inl rfl)) (pgs_cons (pg_name (i := 2) scLMade.nd rfl (Or.inl rfl)) (pgs_cons (pg_name (i := 3) scLMade.nd rfl (Or.inl rfl)) (pgs_cons (pg_name (i := 4) scLMade.nd rfl (Or.inl rfl)) pgs_nil))))))
      (pss_cons (ps_if (pt_cmpR op_eq (pv 1) pe_str (nomark _)) (pss_one (ps_ret (pcall D_plain G_plain hr hx (pa_cons (pv 2) (pa_cons (pv 3) (pa_cons (pv 4) pa_nil)))))) pss_nil)
      (pss_cons (ps_if (pt_cmpR op_eq (pv 1) pe_str (nomark _)) (pss_one (ps_ret (pcall D_end G_end hr hx (pa_cons (pv 2) pa_nil)))) pss_nil)
      (pss_one (ps_ret (pcall0 D_nothing G_nothing hr hx)))))), ?_⟩
    have ok := wf.ok
    have g1 : GoodV 0 1 (.int x.s) := ⟨_, rfl, ok.s0, ok.s1⟩
    have g2 : GoodV 0 (10 ^ 60 - 1) (.int x.f) := ⟨_, rfl, ok.f0, ok.f1⟩
    have g3 : GoodV (-200) 200 (.int x.p) := ⟨_, rfl, ok.p0, ok.p1⟩
    refine ⟨_, rfl, t, _, rfl, SqT.of ht, rfl, _, _, rfl, _, _, rfl, _, _, rfl, _, _, rfl, rfl, ?_⟩
    refine ⟨_, rfl, rfl, _, rfl, iteD (fun h => ?_) (fun h => ?_)⟩
    · have hk : x.k = .plain := eqS (b := .plain) h
      refine ⟨_, rfl, _, rfl, _, rfl, _, _, _, rfl, .inl ⟨g1, g2, g3, fun n H' nn sm num => k n H' nn sm ?_⟩⟩
      unfold NumIs
      rw [hk]
      exact num
    · have hk : x.k ≠ .plain := neS (b := .plain) h
      refine ⟨_, rfl, rfl, _, rfl, iteD (fun h => ?_) (fun h => ?_)⟩
      · have hk : x.k = .end_ := eqS (b := .end_) h
        obtain ⟨ef, ep⟩ := wf.e hk
        refine ⟨_, rfl, _, rfl, .inl ⟨g1, fun n H' nn sm num => k n H' nn sm ?_⟩⟩
        unfold NumIs
        rw [hk, ef, ep]
        exact num
      · have hk' : x.k = .none := by
          have a := neS (b := .end_) h
          cases q : x.k with
          | plain => exact absurd q hk
          | end_ => exact absurd q a
          | none => rfl
        obtain ⟨es, ef, ep⟩ := wf.n hk'
        refine ⟨rfl, fun n H' nn sm num => k n H' nn sm ?_⟩
        unfold NumIs
        rw [hk', es, ef, ep]
        exact num
end
end TR
set_option Elab.async false
set_option linter.all false
set_option maxRecDepth 100000
set_option maxHeartbeats 4000000
namespace TR
open PySem L2 PySem.W PyProof.Rows
seal PE PS PSs PA PT PW PG PGs PI PO
/-! ### lists of numbers as told -/
structure TupsAt (H : Hp) (l : Addr) (ts : List (Addr × Nm)) : Prop where
  l : H l = some (.lst (ts.map fun p => V.ref p.1))
  t : ∀ p ∈ ts, H p.1 = some (.tup p.2.vs) ∧ p.2.Wf
theorem TupsAt.same {H H' : Hp} {l : Addr} {ts : List (Addr × Nm)} (h : TupsAt H l ts) (e : Same H H') : TupsAt H' l ts := ⟨e _ _ h.l, fun p hp => ⟨e _ _ (h.t p hp).1, (h.t p hp).2⟩⟩
theorem TupsAt.push {H : Hp} {l t : Addr} {ts : List (Addr × Nm)} {x : Nm} (h : TupsAt H l ts) (nt : H t = none) (wf : x.Wf) : TupsAt (upd (upd H t (.tup x.vs)) l (.lst ((ts.map fun p => V.ref p.1) ++ [.ref t]))) l (ts ++ [(t, x)]) := by
  have ne : t ≠ l := fun q => by rw [q, h.l] at nt; cases nt
  refine ⟨by rw [upd_same, List.map_append]; rfl, fun p hp => ?_⟩
  rcases List.mem_append.mp hp with hp | hp
  · have := (h.t p hp).1
    refine ⟨?_, (h.t p hp).2⟩
    rw [upd_ne (ne_of this h.l (by intro q; cases q)), upd_ne (ne_of_none this nt)]
    exact this
  · have e : p = (t, x) := by simpa using hp
    subst e
    exact ⟨by rw [upd_ne ne, upd_same], wf⟩
theorem TupsAt.cat {H : Hp} {l m c : Addr} {ts us : List (Addr × Nm)} (h : TupsAt H l ts) (h' : TupsAt H m us) (nc : H c = none) : TupsAt (upd H c (.lst ((ts.map fun p => V.ref p.1) ++ (us.map fun p => V.ref p.1)))) c (ts ++ us) := by
  refine ⟨by rw [upd_same, List.map_append], fun p hp => ?_⟩
  rcases List.mem_append.mp hp with hp | hp
  · exact ⟨Same.upd nc _ _ (h.t p hp).1, (h.t p hp).2⟩
  · exact ⟨Same.upd nc _ _ (h'.t p hp).1, (h'.t p hp).2⟩
/-- an object that was not there at H is written -/
theorem same_at {H H' : Hp} {l : Addr} {o : HO} (s : Same H H') (n : H l = none) : Same H (upd H' l o) := fun b u e => by
  rw [upd_ne (ne_of_none e n)]
  exact s _ _ e
theorem list_of {α : Type} {f : α → V} {R : α → Prop} : ∀ {ys : List V}, (∀ (i : Nat) y, ys[i]? = some y → ∃ a, y = f a ∧ R a) → ∃ as : List α, ys = as.map f ∧ ∀ a ∈ as, R a
  | [], _ => ⟨[], rfl, fun a h => by simp at h⟩
  | y :: ys, h => by
    obtain ⟨a, ha, ra⟩ := h 0 y rfl
    obtain ⟨as, e, r⟩ := list_of (ys := ys) (fun i z hz => h (i + 1) z (by simpa using hz))
    refine ⟨a :: as, by rw [ha, e]; rfl, fun b hb => ?_⟩
    rcases List.mem_cons.mp hb with rfl | hb
    · exact ra
    · exact r b hb
/-- .. each by the item of another list at its place -/
theorem list_of2 {α β : Type} {f : α → V} {R : β → α → Prop} : ∀ {bs : List β} {ys : List V}, ys.length = bs.length → (∀ (i : Nat) y b, ys[i]? = some y → bs[i]? = some b → ∃ a, y = f a ∧ R b a) → ∃ as : List α, ys = as.map f ∧ as.length = bs.length ∧ ∀ (i : Nat) b a, bs[i]? = some b → as[i]? = some a → R b a
  | [], [], _, _ => ⟨[], rfl, rfl, fun i b a h => by simp at h⟩
  | b :: bs, y :: ys, hl, h => by
    obtain ⟨a, ha, ra⟩ := h 0 y b rfl rfl
    obtain ⟨as, e, l, r⟩ := list_of2 (bs := bs) (ys := ys) (by simpa using hl) (fun i z c hz hc => h (i + 1) z c (by simpa using hz) (by simpa using hc))
    refine ⟨a :: as, by rw [ha, e]; rfl, by simp [l], fun i c d hc hd => ?_⟩
    cases i with
    | zero => cases hc; cases hd; exact ra
    | succ i => exact r i c d (by simpa using hc) (by simpa using hd)
  | [], _ :: _, hl, _ => by simp at hl
  | _ :: _, [], hl, _ => by simp at hl
end TR
set_option Elab.async false
set_option linter.all false
set_option maxRecDepth 100000
set_option maxHeartbeats 4000000
namespace TR
open PySem L2 PySem.W PyProof.Rows
seal PE PS PSs PA PT PW PG PGs PI PO
abbrev sNear : Stmt := (top 34)
section
variable {P : Program} {w : World} {K : Frag} {mg : Str → Option Value} {base : Heap}
def spNear : Sp := fun vs H Q _ => ∃ t x c, vs = [.ref t, .int c] ∧ H t = some (.tup (Nm.vs x)) ∧ x.Wf ∧ ∀ l ts H', Same H H' → TupsAt H' l ts → ts.length ≤ 5 → Q (.ref l) H'
theorem scNear : FnScope ["_law_number_here", "_law_cell", "_law_kind", "_law_sign", "_law_figures", "_law_power", "_law_found"] ["_law_number_here", "_law_cell"] (defScope sNear) := ⟨rfl, rfl, rfl, by decide +kernel, rfl, by decide +kernel, by decide +kernel⟩
theorem ok_near {f f1 : Addr} {fd fd1 : FuncData} (D : Def K mg "_law_near" ["_law_number_here", "_law_cell"] sNear f fd) (D_l_ten : Def K mg "_law_ten" ["_law_count"] sTenT f1 fd1) (G_l_ten : FnOk P w K mg base (CX1 P w) 1 f1 fd1 ["_law_count"] spTenT) (O : Own mg) : FnOk P w K mg base (CX1 P w) 2 f fd ["_law_number_here", "_law_cell"] spNear := by
  refine FnOk.up (D.F.ok scNear (fun vs H Q E h => ?_) (fun cdv A outer s H vs Q E hr h => ?_))
  · obtain ⟨t, x, c, rfl, _⟩ := h
    rfl
  · obtain ⟨t, ⟨kd, sg, fg, pw⟩, c, rfl, ht, wf, k⟩ := h
    have hx : Catches (cxOf CX0 P w K mg base ["_law_number_here", "_law_cell", "_law_kind", "_law_sign", "_law_figures", "_law_power", "_law_found"] "_law_near" (defScope sNear) f cdv A outer s H E).nox EKF := catches0
    refine ⟨_, (pss_cons (ps_join (ps_asg (pv 0) (pg_tup rfl (pgs_cons (pg_name (i := 2) scNear.nd rfl (Or.inl rfl)) (pgs_cons (pg_name (i := 3) scNear.nd rfl (Or.inl rfl)) (pgs_cons (pg_name (i := 4) scNear.nd rfl (Or.inl rfl)) (pgs_cons (pg_name (i := 5) scNear.nd rfl (Or.inl rfl)) pgs_nil)))))))
      (pss_cons (ps_join (ps_set (i := 6) scNear.nd rfl (Or.inl rfl) (pe_lst pa_nil)))
      (pss_cons (ps_join (ps_if (PW.pt (pw_and (pt_cmpR op_eq (pv 2) pe_str (nomark _)) (pw_and (pt_cmpR op_lt (pv 4) (pcall D_l_ten G_l_ten hr hx (pa_cons pe_int pa_nil)) (nomark _)) (pw_and1 (pt_chain op_le op_lt (pe_un un_neg pe_int) (pv 5) pe_int))))) (pss_cons (ps_join (ps_set (i := 6) scNear.nd rfl (Or.inl rfl) (pe_lst (pa_cons (pe_tup (pa_cons (pv 2) (pa_cons (pv 3) (pa_cons (pe_op op_mulK pe_int (pv 4)) (pa_cons (pe_op op_sub (pv 5) pe_int) pa_nil))))) (pa_cons (pe_tup (pa_cons (pv 2) (pa_cons (pv 3) (pa_cons (pe_op op_mulK pe_int (pv 4)) (pa_cons (pe_op op_sub (pv 5) pe_int) pa_nil))))) pa_nil)))))
      (pss_cons (ps_join (ps_expr (pe_bm PySem.F.plainAttrs_list PySem.F.slot_list_append PySem.F.type_list_append mt_append (pv 6) (pa_cons (pe_tup (pa_cons (pv 2) (pa_cons (pv 3) (pa_cons (pe_op op_add (pe_op op_add (pe_op op_mulK pe_int (pv 4)) pe_int) (pe_op op_mod (pv 1) pe_int)) (pa_cons (pe_op op_sub (pv 5) pe_int) pa_nil))))) pa_nil))))
      (pss_cons (ps_join (ps_expr (pe_bm PySem.F.plainAttrs_list PySem.F.slot_list_append PySem.F.type_list_append mt_append (pv 6) (pa_cons (pe_tup (pa_cons (pv 2) (pa_cons (pv 3) (pa_cons (pe_callB (call_max2 rfl) (by rfl) O.max_ boot_max (pa_cons pe_int (pa_cons (pe_op op_sub (pe_op op_mulK pe_int (pv 4)) pe_int) pa_nil))) (pa_cons (pe_op op_sub (pv 5) pe_int) pa_nil))))) pa_nil))))
      (pss_one (ps_join (ps_expr (pe_bm PySem.F.plainAttrs_list PySem.F.slot_list_append PySem.F.type_list_append mt_append (pv 6) (pa_cons (pe_tup (pa_cons (pv 2) (pa_cons (pe_op op_sub pe_int (pv 3)) (pa_cons (pv 4) (pa_cons (pv 5) pa_nil))))) pa_nil)))))))) pss_nil))
      (pss_one (ps_ret (pv 6)))))), ?_⟩
    have z0 : 0 ≤ sizeLine := Nat.zero_le _
    have z2 : 2 ≤ sizeLine := line1000 (by decide)
    have z4 : 4 ≤ sizeLine := line1000 (by decide)
    have mC : ∀ z n : Int, -(2 ^ 64) < n → n < 2 ^ 64 → IntMulOk n z := fun z n a b => CMul.ok (.inl ⟨a, b⟩)
    have ok := wf.ok
    refine ⟨fun σ' H' => H' = H ∧ σ' = [some (.ref t), some (.int c), some (.str kd.str), some (.int sg), some (.int fg), some (.int pw), none], ?_, ?_⟩
    · exact ⟨_, rfl, t, _, rfl, SqT.of ht, rfl, _, _, rfl, _, _, rfl, _, _, rfl, _, _, rfl, rfl, rfl, rfl⟩
    rintro σ' H' ⟨rfl, rfl⟩
    refine ⟨fun σ' H2 => ∃ l, Same H' H2 ∧ TupsAt H2 l [] ∧ H' l = none ∧ σ' = [some (.ref t), some (.int c), some (.str kd.str), some (.int sg), some (.int fg), some (.int pw), some (.ref l)], ?_, ?_⟩
    · exact ⟨z0, fun l nl => ⟨l, Same.upd nl, ⟨upd_same, fun p hp => by simp at hp⟩, nl, rfl⟩⟩
    rintro σ' H2 ⟨l, s2, hl, nl, rfl⟩
    refine ⟨fun σ' H3 => ∃ l ts, Same H' H3 ∧ TupsAt H3 l ts ∧ ts.length ≤ 5 ∧ σ' = [some (.ref t), some (.int c), some (.str kd.str), some (.int sg), some (.int fg), some (.int pw), some (.ref l)], ?_, ?_⟩
    · refine ⟨_, rfl, rfl, _, rfl, iteD (fun h1 => ?_) (fun _ => iteF ⟨l, [], s2, hl, by decide, rfl⟩)⟩
      have hk : kd = .plain := eqS (b := .plain) h1
      subst hk
      refine ⟨_, rfl, 58, rfl, by decide, _, _, rfl, rfl, _, rfl, iteD (fun h2 => ?_) (fun _ => iteF ⟨l, [], s2, hl, by decide, rfl⟩)⟩
      have h2 : fg < ((10 ^ 58 : Nat) : Int) := h2
      refine ⟨_, rfl, _, rfl, _, _, rfl, rfl, _, rfl, iteD (fun h3 => ?_) (fun _ => ⟨_, rfl, iteF ⟨l, [], s2, hl, by decide, rfl⟩⟩)⟩
      have h3 : -198 ≤ pw := h3
      refine ⟨_, _, rfl, rfl, _, rfl, iteD (fun h4 => ?_) (fun _ => ⟨l, [], s2, hl, by decide, rfl⟩)⟩
      have h4 : pw < 200 := h4
      have e58 : ((10 ^ 58 : Nat) : Int) * 100 = 10 ^ 60 := by decide +kernel
      have bs : 0 ≤ sg ∧ sg ≤ 1 := ⟨ok.s0, ok.s1⟩
      have bf : 0 ≤ fg := ok.f0
      generalize ((10 ^ 58 : Nat) : Int) = M at h2 e58
      have b1 : 0 ≤ 100 * fg ∧ 100 * fg ≤ 10 ^ 60 - 1 := by omega
      have b2 : 0 ≤ 10 * fg ∧ 10 * fg ≤ 10 ^ 60 - 1 := by omega
      have b3 : 0 ≤ 100 * fg + 1 + c % 3 ∧ 100 * fg + 1 + c % 3 ≤ 10 ^ 60 - 1 := by omega
      have w1 : (Nm.mk .plain sg (100 * fg) (pw - 2)).Wf := wf_plain bs b1 (by omega)
      have w2 : (Nm.mk .plain sg (10 * fg) (pw - 1)).Wf := wf_plain bs b2 (by omega)
      have w3 : (Nm.mk .plain sg (100 * fg + 1 + c % 3) (pw - 2)).Wf := wf_plain bs b3 (by omega)
      have w5 : (Nm.mk .plain (1 - sg) fg pw).Wf := wf_plain (by omega) (by omega) (by omega)
      have tyL : ∀ {H' : Hp} {l1 : Addr} {ys : List V}, H' l1 = some (.lst ys) → tyV K "list" (.ref l1) H' := fun e => .inl ⟨rfl, _, SqL.of e⟩
      refine ⟨fun σ' H3 => ∃ l ts, Same H' H3 ∧ H' l = none ∧ TupsAt H3 l ts ∧ ts.length = 2 ∧ σ' = [some (.ref t), some (.int c), some (.str Kd.plain.str), some (.int sg), some (.int fg), some (.int pw), some (.ref l)], ?_, ?_⟩
      · refine ⟨_, rfl, _, rfl, _, rfl, _, _, rfl, rfl, mC _ _ (by decide) (by decide), _, rfl, _, _, rfl, rfl, z4, fun t1 n1 => ?_⟩
        have u1 := Same.upd (o := .tup (Nm.vs ⟨.plain, sg, 100 * fg, pw - 2⟩)) n1
        refine ⟨_, rfl, _, rfl, _, rfl, _, _, rfl, rfl, mC _ _ (by decide) (by decide), _, rfl, _, _, rfl, rfl, z4, fun t2 n2 => ⟨z2, fun l1 m1 => ?_⟩⟩
        have u2 := Same.upd (o := .tup (Nm.vs ⟨.plain, sg, 10 * fg, pw - 1⟩)) n2
        have u3 := Same.upd (o := .lst [.ref t1, .ref t2]) m1
        refine ⟨l1, [(t1, ⟨.plain, sg, 100 * fg, pw - 2⟩), (t2, ⟨.plain, sg, 10 * fg, pw - 1⟩)], s2.trans ((u1.trans u2).trans u3), (s2.trans (u1.trans u2)).free m1, ⟨upd_same, fun p hp => ?_⟩, rfl, rfl⟩
        rcases (by simpa using hp : p = (t1, Nm.mk .plain sg (100 * fg) (pw - 2)) ∨ p = (t2, Nm.mk .plain sg (10 * fg) (pw - 1))) with rfl | rfl
        · exact ⟨(u2.trans u3) _ _ upd_same, w1⟩
        · exact ⟨u3 _ _ upd_same, w2⟩
      rintro σ' H3 ⟨l1, ts, s3, nl1, a3, len3, rfl⟩
      refine ⟨fun σ' H3 => ∃ l ts, Same H' H3 ∧ H' l = none ∧ TupsAt H3 l ts ∧ ts.length = 3 ∧ σ' = [some (.ref t), some (.int c), some (.str Kd.plain.str), some (.int sg), some (.int fg), some (.int pw), some (.ref l)], ?_, ?_⟩
      · refine ⟨_, rfl, tyL a3.l, _, rfl, _, rfl, _, rfl, _, _, rfl, rfl, mC _ _ (by decide) (by decide), _, _, rfl, rfl, _, rfl, _, _, rfl, rfl, (by decide : (0 : Int) < 3), _, _, rfl, rfl, _, rfl, _, _, rfl, rfl, z4, fun t3 n3 => ⟨l1, _, _, rfl, rfl, (Same.upd n3) _ _ a3.l, Nat.lt_of_le_of_lt (by rw [List.length_map, len3]; decide) (small1000 (Nat.le_refl _)), ?_⟩⟩
        exact ⟨l1, _, same_at (s3.trans (Same.upd n3)) nl1, nl1, a3.push n3 w3, by rw [List.length_append, len3]; rfl, rfl⟩
      rintro σ' H4 ⟨l2, ts, s4, nl2, a4, len4, rfl⟩
      refine ⟨fun σ' H3 => ∃ l ts, Same H' H3 ∧ H' l = none ∧ TupsAt H3 l ts ∧ ts.length = 4 ∧ σ' = [some (.ref t), some (.int c), some (.str Kd.plain.str), some (.int sg), some (.int fg), some (.int pw), some (.ref l)], ?_, ?_⟩
      · have bm : 0 ≤ (if (10 * fg - 1 : Int) > 0 then 10 * fg - 1 else 0) ∧ (if (10 * fg - 1 : Int) > 0 then 10 * fg - 1 else 0) ≤ 10 ^ 60 - 1 := by
          split <;> omega
        have w4 : (Nm.mk .plain sg (if (10 * fg - 1 : Int) > 0 then 10 * fg - 1 else 0) (pw - 1)).Wf := wf_plain bs bm (by omega)
        refine ⟨_, rfl, tyL a4.l, _, rfl, _, rfl, _, rfl, _, _, rfl, rfl, mC _ _ (by decide) (by decide), _, _, rfl, rfl, _, _, rfl, _, rfl, _, _, rfl, rfl, z4, fun t4 n4 => ⟨l2, _, _, rfl, rfl, (Same.upd n4) _ _ a4.l, Nat.lt_of_le_of_lt (by rw [List.length_map, len4]; decide) (small1000 (Nat.le_refl _)), ?_⟩⟩
        exact ⟨l2, _, same_at (s4.trans (Same.upd n4)) nl2, nl2, a4.push n4 w4, by rw [List.length_append, len4]; rfl, rfl⟩
      rintro σ' H5 ⟨l3, ts, s5, nl3, a5, len5, rfl⟩
      refine ⟨fun σ' H3 => ∃ l ts, Same H' H3 ∧ TupsAt H3 l ts ∧ ts.length ≤ 5 ∧ σ' = [some (.ref t), some (.int c), some (.str Kd.plain.str), some (.int sg), some (.int fg), some (.int pw), some (.ref l)], ?_, fun _ _ h => h⟩
      refine ⟨_, rfl, tyL a5.l, _, rfl, _, rfl, _, _, rfl, rfl, _, rfl, _, rfl, z4, fun t5 n5 => ⟨l3, _, _, rfl, rfl, (Same.upd n5) _ _ a5.l, Nat.lt_of_le_of_lt (by rw [List.length_map, len5]; decide) (small1000 (Nat.le_refl _)), ?_⟩⟩
      exact ⟨l3, _, same_at (s5.trans (Same.upd n5)) nl3, a5.push n5 w5, by rw [List.length_append, len5]; exact Nat.le_refl 5, rfl⟩
    rintro σ' H3 ⟨l, ts, s3, a3, len, rfl⟩
    exact ⟨_, rfl, k l ts H3 s3 a3 len⟩
end
end TR
set_option Elab.async false
set_option linter.all false
set_option maxRecDepth 100000
set_option maxHeartbeats 4000000
namespace TR
open PySem L2 PySem.W PyProof.Rows
seal PE PS PSs PA PT PW PG PGs PI PO
abbrev sDue : Stmt := (top 35)
abbrev sIs : Stmt := (top 36)
/-- the law's own side of a number -/
def Nm.lside (x : Nm) : Int := if x.k.isE = true then 1 - 2 * x.s else 0
theorem side_eq {x : Nm} (h : x.k.isN = false) (ok : x.Ok) : x.side = x.lside := by
  have := ok.s0; have := ok.s1
  obtain ⟨k, s, f, p⟩ := x
  unfold Nm.side Nm.lside
  cases k with
  | plain => rfl
  | end_ =>
    show (if s = 1 then (-1 : Int) else 1) = 1 - 2 * s
    split <;> (simp only at *; omega)
  | none => cases h
theorem wh_eq {x : Nm} {q : Int} (ok : x.Ok) : (1 - 2 * x.s) * x.f * tenI (x.p - q) = x.wh q := by
  have := ok.s0; have := ok.s1
  unfold Nm.wh
  rcases (by omega : x.s = 0 ∨ x.s = 1) with e | e
  · rw [e, if_neg (by decide)]; simp
  · rw [e, if_pos rfl, show (1 - 2 * 1 : Int) = -1 by decide, Int.neg_mul, Int.neg_mul, Int.one_mul]
theorem lside_0 {x : Nm} (ok : x.Ok) : x.lside = 0 ↔ x.k.isE = false := by
  have := ok.s0; have := ok.s1
  unfold Nm.lside
  cases x.k.isE with
  | true => rw [if_pos rfl]; constructor
            · intro h; omega
            · intro h; cases h
  | false => simp
section
variable {P : Program} {w : World} {K : Frag} {mg : Str → Option Value} {base : Heap}
def spDue : Sp := fun vs H Q _ => ∃ t u x y, vs = [.ref t, .ref u] ∧ H t = some (.tup (Nm.vs x)) ∧ H u = some (.tup (Nm.vs y)) ∧ x.Ok ∧ y.Ok ∧ ∀ H', Same H H' → Q (optV (cmpN x y)) H'
theorem scDue : FnScope ["_law_one", "_law_other", "_law_here", "_law_there", "_law_power"] ["_law_one", "_law_other"] (defScope sDue) := ⟨rfl, rfl, rfl, by decide +kernel, rfl, by decide +kernel, by decide +kernel⟩
theorem inN (a b : Kd) : inV (.str "none") [.str a.str, .str b.str] = (a.isN || b.isN) := by cases a <;> cases b <;> decide +kernel
theorem ok_due {f f1 : Addr} {fd fd1 : FuncData} (D : Def K mg "_law_due" ["_law_one", "_law_other"] sDue f fd) (D_l_ten : Def K mg "_law_ten" ["_law_count"] sTenT f1 fd1) (G_l_ten : FnOk P w K mg base (CX1 P w) 1 f1 fd1 ["_law_count"] spTenT) (O : Own mg) : FnOk P w K mg base (CX1 P w) 2 f fd ["_law_one", "_law_other"] spDue := by
  refine FnOk.up (D.F.ok scDue (fun vs H Q E h => ?_) (fun cdv A outer s H vs Q E hr h => ?_))
  · obtain ⟨t, u, x, y, rfl, _⟩ := h
    rfl
  · obtain ⟨t, u, x, y, rfl, ht, hu, ox, oy, k⟩ := h
    have hx : Catches (cxOf CX0 P w K mg base ["_law_one", "_law_other", "_law_here", "_law_there", "_law_power"] "_law_due" (defScope sDue) f cdv A outer s H E).nox EKF := catches0
    refine ⟨_, (pss_cons (ps_join (ps_if (pt_cmpR op_in_seq pe_str (pe_tup (pa_cons (pe_ix ix_tup (pv 0) pe_int (fun _ _ => rfl)) (pa_cons (pe_ix ix_tup (pv 1) pe_int (fun _ _ => rfl)) pa_nil))) (by rfl)) (pss_one (ps_ret pe_non)) pss_nil))
      (pss_cons (ps_join (ps_set (i := 2) scDue.nd rfl (Or.inl rfl) (pe_ix ix_list (pe_lst (pa_cons pe_int (pa_cons (pe_op op_sub pe_int (pe_op op_mulK pe_int (pe_ix ix_tup (pv 0) pe_int (fun _ _ => rfl)))) pa_nil))) (pe_callTy call_int1 (by rfl) O.int_ boot_int (pa_cons (pe_cmpR op_eq (pe_ix ix_tup (pv 0) pe_int (fun _ _ => rfl)) pe_str (nomark _)) pa_nil)) (fun _ _ => rfl))))
      (pss_cons (ps_join (ps_set (i := 3) scDue.nd rfl (Or.inl rfl) (pe_ix ix_list (pe_lst (pa_cons pe_int (pa_cons (pe_op op_sub pe_int (pe_op op_mulK pe_int (pe_ix ix_tup (pv 1) pe_int (fun _ _ => rfl)))) pa_nil))) (pe_callTy call_int1 (by rfl) O.int_ boot_int (pa_cons (pe_cmpR op_eq (pe_ix ix_tup (pv 1) pe_int (fun _ _ => rfl)) pe_str (nomark _)) pa_nil)) (fun _ _ => rfl))))
      (pss_cons (ps_join (ps_if (PW.pt (pw_and (pt_cmpR op_eq (pv 2) pe_int (nomark _)) (pw_and1 (pt_cmpR op_eq (pv 3) pe_int (nomark _))))) (pss_cons (ps_set (i := 4) scDue.nd rfl (Or.inl rfl) (pe_callB (call_min2 rfl) (by rfl) O.min_ boot_min (pa_cons (pe_ix ix_tup (pv 0) pe_int (fun _ _ => rfl)) (pa_cons (pe_ix ix_tup (pv 1) pe_int (fun _ _ => rfl)) pa_nil))))
      (pss_cons (ps_set (i := 2) scDue.nd rfl (Or.inl rfl) (pe_op op_mulK (pe_op op_mulK (pe_op op_sub pe_int (pe_op op_mulK pe_int (pe_ix ix_tup (pv 0) pe_int (fun _ _ => rfl)))) (pe_ix ix_tup (pv 0) pe_int (fun _ _ => rfl))) (pcall D_l_ten G_l_ten hr hx (pa_cons (pe_op op_sub (pe_ix ix_tup (pv 0) pe_int (fun _ _ => rfl)) (pv 4)) pa_nil))))
      (pss_one (ps_set (i := 3) scDue.nd rfl (Or.inl rfl) (pe_op op_mulK (pe_op op_mulK (pe_op op_sub pe_int (pe_op op_mulK pe_int (pe_ix ix_tup (pv 1) pe_int (fun _ _ => rfl)))) (pe_ix ix_tup (pv 1) pe_int (fun _ _ => rfl))) (pcall D_l_ten G_l_ten hr hx (pa_cons (pe_op op_sub (pe_ix ix_tup (pv 1) pe_int (fun _ _ => rfl)) (pv 4)) pa_nil))))))) pss_nil))
      (pss_cons (ps_join (ps_if (pt_cmpR op_lt (pv 2) (pv 3) (nomark _)) (pss_one (ps_ret (pe_un un_neg pe_int))) pss_nil))
      (pss_one (ps_ret (pe_callTy call_int1 (by rfl) O.int_ boot_int (pa_cons (pe_cmpR op_gt (pv 2) (pv 3) (nomark _)) pa_nil))))))))), ?_⟩
    have z2 : 2 ≤ sizeLine := line1000 (by decide)
    have mC : ∀ z n : Int, -(2 ^ 64) < n → n < 2 ^ 64 → IntMulOk n z := fun z n a b => CMul.ok (.inl ⟨a, b⟩)
    have x0 := ox.s0; have x1 := ox.s1; have y0 := oy.s0; have y1 := oy.s1
    have px0 := ox.p0; have px1 := ox.p1; have py0 := oy.p0; have py1 := oy.p1
    -- nothing
    refine ⟨fun σ' H' => Same H H' ∧ x.k.isN = false ∧ y.k.isN = false ∧ σ' = [some (.ref t), some (.ref u), none, none, none], ?_, ?_⟩
    · refine ⟨_, rfl, t, _, _, _, rfl, rfl, SqT.of ht, atI_nat (j := 0) rfl, _, rfl, u, _, _, _, rfl, rfl, SqT.of hu, atI_nat (j := 0) rfl, z2, fun p np => ?_⟩
      refine ⟨p, _, rfl, .inr (SqT.of upd_same), rfl, rfl, _, rfl, ?_⟩
      show if (inV (.str "none") [.str x.k.str, .str y.k.str]) = true then _ else _
      rw [inN]
      cases e : (x.k.isN || y.k.isN) with
      | true =>
        have c : cmpN x y = none := by unfold cmpN; rw [e]; rfl
        rw [c] at k
        exact iteT (k _ (Same.upd np))
      | false =>
        have e' := Bool.or_eq_false_iff.mp e
        exact iteF ⟨Same.upd np, e'.1, e'.2, rfl⟩
    rintro σ' H1 ⟨s1, nx, ny, rfl⟩
    -- the sides
    have here : ∀ (z : Nm) (b : Bool), b = z.k.isE → ∃ v, atI [V.int 0, .int (1 - 2 * z.s)] (if b = true then 1 else 0) = some v ∧ v = .int z.lside := fun z b hb => by
      subst hb
      unfold Nm.lside
      cases z.k.isE with
      | true => exact ⟨_, atI_nat (j := 1) rfl, rfl⟩
      | false => exact ⟨_, atI_nat (j := 0) rfl, rfl⟩
    refine ⟨fun σ' H' => Same H1 H' ∧ σ' = [some (.ref t), some (.ref u), some (.int x.lside), none, none], ?_, ?_⟩
    · obtain ⟨v, ix, rfl⟩ := here x (decide (V.str x.k.str = V.str "end")) (by rw [dec_str, isE_str])
      refine ⟨_, rfl, t, _, _, _, rfl, rfl, SqT.of (s1 _ _ ht), atI_nat (j := 1) rfl, _, _, rfl, rfl, mC _ _ (by decide) (by decide), _, _, rfl, rfl, z2, fun p np => ?_⟩
      have u1 := Same.upd (o := .lst [.int 0, .int (1 - 2 * x.s)]) np
      refine ⟨_, rfl, t, _, _, _, rfl, rfl, SqT.of (u1 _ _ (s1 _ _ ht)), atI_nat (j := 0) rfl, rfl, .inr ⟨_, rfl, p, _, _, _, rfl, rfl, SqL.of upd_same, ix, u1, rfl⟩⟩
    rintro σ' H2 ⟨s2, rfl⟩
    refine ⟨fun σ' H' => Same H2 H' ∧ σ' = [some (.ref t), some (.ref u), some (.int x.lside), some (.int y.lside), none], ?_, ?_⟩
    · obtain ⟨v, ix, rfl⟩ := here y (decide (V.str y.k.str = V.str "end")) (by rw [dec_str, isE_str])
      have hu := (s1.trans s2) _ _ hu
      refine ⟨_, rfl, u, _, _, _, rfl, rfl, SqT.of hu, atI_nat (j := 1) rfl, _, _, rfl, rfl, mC _ _ (by decide) (by decide), _, _, rfl, rfl, z2, fun p np => ?_⟩
      have u1 := Same.upd (o := .lst [.int 0, .int (1 - 2 * y.s)]) np
      refine ⟨_, rfl, u, _, _, _, rfl, rfl, SqT.of (u1 _ _ hu), atI_nat (j := 0) rfl, rfl, .inr ⟨_, rfl, p, _, _, _, rfl, rfl, SqL.of upd_same, ix, u1, rfl⟩⟩
    rintro σ' H3 ⟨s3, rfl⟩
    have sA := (s1.trans s2).trans s3
    have ht3 := sA _ _ ht
    have hu3 := sA _ _ hu
    -- what is compared
    refine ⟨fun σ' H' => H' = H3 ∧ ∃ a b v, cmpN x y = some (ordI a b) ∧ σ' = [some (.ref t), some (.ref u), some (.int a), some (.int b), v], ?_, ?_⟩
    · have nn : (x.k.isN || y.k.isN) = false := by rw [nx, ny]; rfl
      have ends : (x.k.isE || y.k.isE) = true → cmpN x y = some (ordI x.lside y.lside) := fun h => by
        unfold cmpN
        rw [nn, if_neg Bool.false_ne_true, if_pos h, side_eq nx ox, side_eq ny oy]
      refine ⟨_, rfl, rfl, _, rfl, iteD (fun h1 => ?_) (fun h1 => ?_)⟩
      · have h1 : x.k.isE = false := (lside_0 ox).mp (by injection h1)
        refine ⟨_, rfl, rfl, _, rfl, iteD (fun h2 => ?_) (fun h2 => ?_)⟩
        · have h2 : y.k.isE = false := (lside_0 oy).mp (by injection h2)
          have c : cmpN x y = some (ordI (x.wh (if y.p < x.p then y.p else x.p)) (y.wh (if y.p < x.p then y.p else x.p))) := by
            unfold cmpN
            rw [nn, if_neg Bool.false_ne_true, h1, h2]
            rfl
          refine ⟨_, rfl, t, _, _, _, rfl, rfl, SqT.of ht3, atI_nat (j := 3) rfl, _, rfl, u, _, _, _, rfl, rfl, SqT.of hu3, atI_nat (j := 3) rfl, _, _, rfl, ?_⟩
          obtain ⟨q, eq, q1, q2, q3⟩ : ∃ q, (if y.p < x.p then y.p else x.p) = q ∧ q ≤ x.p ∧ q ≤ y.p ∧ -200 ≤ q := by
            by_cases hq : y.p < x.p
            · exact ⟨y.p, if_pos hq, by omega, by omega, by omega⟩
            · exact ⟨x.p, if_neg hq, by omega, by omega, by omega⟩
          rw [eq] at c ⊢
          have m1 : ∀ z : Nm, z.Ok → IntMulOk (1 - 2 * z.s) z.f := fun z oz => CMul.ok (.inl ⟨by have := oz.s0; have := oz.s1; omega, by have := oz.s0; have := oz.s1; omega⟩)
          have m2 : ∀ z : Nm, z.Ok → -200 ≤ q → IntMulOk ((1 - 2 * z.s) * z.f) (tenI (z.p - q)) := fun z oz hq => by
            refine IntMulOk.of_bits ?_ (tenI_bits (by have := oz.p1; omega))
            have := oz.s0; have := oz.s1
            rcases (by omega : z.s = 0 ∨ z.s = 1) with e | e
            · rw [e, show (1 - 2 * 0 : Int) = 1 by decide, Int.one_mul]; exact oz.bits
            · rw [e, show (1 - 2 * 1 : Int) = -1 by decide, Int.neg_one_mul]
              have := oz.bits
              unfold Builtin.Int.intBits at this ⊢
              simpa using this
          refine ⟨_, rfl, t, _, _, _, rfl, rfl, SqT.of ht3, atI_nat (j := 1) rfl, _, _, rfl, rfl, mC _ _ (by decide) (by decide), _, _, rfl, rfl, _, rfl, t, _, _, _, rfl, rfl, SqT.of ht3, atI_nat (j := 2) rfl, _, _, rfl, rfl, m1 x ox, ?_⟩
          refine ⟨_, rfl, t, _, _, _, rfl, rfl, SqT.of ht3, atI_nat (j := 3) rfl, _, rfl, _, _, rfl, rfl, (x.p - q).toNat, (by rw [Int.toNat_of_nonneg (by omega)]; rfl), by omega, _, _, rfl, rfl, m2 x ox q3, ?_⟩
          refine ⟨_, rfl, u, _, _, _, rfl, rfl, SqT.of hu3, atI_nat (j := 1) rfl, _, _, rfl, rfl, mC _ _ (by decide) (by decide), _, _, rfl, rfl, _, rfl, u, _, _, _, rfl, rfl, SqT.of hu3, atI_nat (j := 2) rfl, _, _, rfl, rfl, m1 y oy, ?_⟩
          refine ⟨_, rfl, u, _, _, _, rfl, rfl, SqT.of hu3, atI_nat (j := 3) rfl, _, rfl, _, _, rfl, rfl, (y.p - q).toNat, (by rw [Int.toNat_of_nonneg (by omega)]; rfl), by omega, _, _, rfl, rfl, m2 y oy q3, rfl, x.wh q, y.wh q, some (.int q), c, ?_⟩
          rw [← wh_eq ox, ← wh_eq oy]
          rfl
        · have h2 : y.k.isE = true := by
            cases e : y.k.isE with
            | true => rfl
            | false => exact absurd (congrArg V.int ((lside_0 oy).mpr e)) h2
          exact ⟨rfl, _, _, none, ends (by rw [h2, Bool.or_true]), rfl⟩
      · have h1 : x.k.isE = true := by
          cases e : x.k.isE with
          | true => rfl
          | false => exact absurd (congrArg V.int ((lside_0 ox).mpr e)) h1
        exact iteF ⟨rfl, _, _, none, ends (by rw [h1, Bool.true_or]), rfl⟩
    rintro σ' H4 ⟨rfl, a, b, v, c, rfl⟩
    rw [c] at k
    unfold ordI at k
    refine ⟨fun σ' H' => H' = H4 ∧ ¬ a < b ∧ σ' = [some (.ref t), some (.ref u), some (.int a), some (.int b), v], ?_, ?_⟩
    · refine ⟨_, rfl, _, rfl, _, _, rfl, rfl, _, rfl, iteD (fun h => ?_) (fun h => ⟨rfl, h, rfl⟩)⟩
      have h : a < b := h
      rw [if_neg (by omega), if_pos h] at k
      exact ⟨_, rfl, k _ sA⟩
    rintro σ' H5 ⟨rfl, h, rfl⟩
    refine ⟨_, rfl, _, rfl, _, _, rfl, rfl, .inr ⟨_, rfl, ?_⟩⟩
    have e : (if (decide (a > b)) = true then (1 : Int) else 0) = if a = b then 0 else if a < b then -1 else 1 := by
      by_cases q : a = b
      · rw [if_pos q, decide_eq_false (by omega)]; rfl
      · rw [if_neg q, if_neg h, decide_eq_true (by omega)]; rfl
    rw [e]
    exact k _ sA
def spIs : Sp := fun vs H Q _ => ∃ r, vs = [optV r, optV r] ∧ Q (.bl true) H
theorem scIs : FnScope ["_law_found", "_law_due_here"] ["_law_found", "_law_due_here"] (defScope sIs) := ⟨rfl, rfl, rfl, by decide +kernel, rfl, by decide +kernel, by decide +kernel⟩
theorem ok_is {f f1 : Addr} {fd fd1 : FuncData} (D : Def K mg "_law_is" ["_law_found", "_law_due_here"] sIs f fd) (D_l_whole : Def K mg "_law_whole" ["_law_thing"] sLWhole f1 fd1) (G_l_whole : FnOk P w K mg base (CX1 P w) 1 f1 fd1 ["_law_thing"] spLWhole) : FnOk P w K mg base (CX1 P w) 2 f fd ["_law_found", "_law_due_here"] spIs := by
  refine FnOk.up (D.F.ok scIs (fun vs H Q E h => ?_) (fun cdv A outer s H vs Q E hr h => ?_))
  · obtain ⟨r, rfl, _⟩ := h
    rfl
  · obtain ⟨r, rfl, k⟩ := h
    have hx : Catches (cxOf CX0 P w K mg base ["_law_found", "_law_due_here"] "_law_is" (defScope sIs) f cdv A outer s H E).nox EKF := catches0
    refine ⟨_, (pss_cons (ps_if (pt_cmpR op_isN (pv 1) pe_non (nomark _)) (pss_one (ps_ret (pe_cmpR op_isN (pv 0) pe_non (nomark _)))) pss_nil)
      (pss_one (ps_ret (pe_and (pcall D_l_whole G_l_whole hr hx (pa_cons (pv 0) pa_nil)) (pe_one (pe_cmpR op_eq (pv 0) (pv 1) (nomark _))))))), ?_⟩
    cases r with
    | none => exact ⟨_, rfl, rfl, _, rfl, iteDT rfl ⟨_, rfl, rfl, k⟩⟩
    | some i =>
      refine ⟨_, rfl, rfl, _, rfl, iteDF (fun q => (by cases q)) ⟨_, rfl, i, rfl, _, rfl, iteT ⟨_, rfl, _, rfl, rfl, ?_⟩⟩⟩
      show Q (.bl (decide (V.int i = V.int i))) H
      rw [decide_eq_true rfl]
      exact k
end
end TR
set_option Elab.async false
set_option linter.all false
set_option maxRecDepth 100000
set_option maxHeartbeats 4000000
namespace TR
open PySem L2 PySem.W PyProof.Rows
seal PE PS PSs PA PT PW PG PGs PI PO
abbrev sRefused : Stmt := (top 37)
/-- the error classes by their names -/
structure ErrsN (mg : Str → Option Value) (C1 C2 C3 C4 C5 : Addr) : Prop where
  g1 : mg "BadNumber" = some (.ref C1)
  g2 : mg "NoText" = some (.ref C2)
  g3 : mg "BadContext" = some (.ref C3)
  g4 : mg "BadCount" = some (.ref C4)
  g5 : mg "Trapped" = some (.ref C5)
/-- the clause «except ReckonError» and an exception of BadNumber -/
structure CaughtN (K : Frag) (mg : Str → Option Value) (CR CB C2 C3 C4 C5 : Addr) : Prop where
  g : mg "ReckonError" = some (.ref CR)
  c : Clause K CR
  sub : subIn K (.ref CB) (.ref CR) = some true
  fits : Fits K CB CB C2 C3 C4 C5 true false false false false
section
variable {P : Program} {w : World} {K : Frag} {mg : Str → Option Value} {base : Heap}
def spRefused (K : Frag) (CN : Addr) : Sp := fun vs H Q _ => ∃ v u, vs = [v, u] ∧ (NotNum K CN H v ∨ ∃ n x, v = .ref n ∧ NumIs CN H n x ∧ NotNum K CN H u) ∧ ∀ H', Same H H' → Q (.bl true) H'
theorem scRefused : FnScope ["_law_one", "_law_other", "e", "_law_others"] ["_law_one", "_law_other"] (defScope sRefused) := ⟨rfl, rfl, rfl, by decide +kernel, rfl, by decide +kernel, by decide +kernel⟩
theorem ok_refused {f f1 CN CR C1 C2 C3 C4 C5 : Addr} {fd fd1 : FuncData} (D : Def K mg "_law_refused" ["_law_one", "_law_other"] sRefused f fd) (D_compared : Def K mg "compared" ["one", "other"] sCompared f1 fd1) (G_compared : FnOk P w K mg base (CX1 P w) 4 f1 fd1 ["one", "other"] (spCompared K CN C1))
    (C : CaughtN K mg CR C1 C2 C3 C4 C5) (ES : ErrsN mg C1 C2 C3 C4 C5) (O : Own mg) (T : Kit K) : FnOk P w K mg base (CX1 P w) 5 f fd ["_law_one", "_law_other"] (spRefused K CN) := by
  refine FnOk.up (D.F.ok scRefused (fun vs H Q E h => ?_) (fun cdv A outer s H vs Q E hr h => ?_))
  · obtain ⟨v, u, rfl, _⟩ := h
    rfl
  · obtain ⟨v, u, rfl, bad, k⟩ := h
    refine ⟨_, (pss_cons (ps_try ⟨rfl, rfl, rfl⟩ (by rfl) C.g C.c scRefused.nd (i := 2) rfl rfl (fun pins Ew EHb hc => (pss_one (ps_expr (pcall D_compared G_compared hr hc (pa_cons (pv 0) (pa_cons (pv 1) pa_nil)))))) (fun pins a => (pss_cons (ps_set (i := 3) scRefused.nd rfl (Or.inl rfl) (pe_lst (pa_cons (pisiK (K := K) rfl O.isi (pv 2) (pcls ES.g3)) (pa_cons (pisiK (K := K) rfl O.isi (pv 2) (pcls ES.g4)) (pa_cons (pisiK (K := K) rfl O.isi (pv 2) (pcls ES.g2)) (pa_cons (pisiK (K := K) rfl O.isi (pv 2) (pcls ES.g5)) pa_nil))))))
      (pss_one (ps_ret (pe_and (pisiK (K := K) rfl O.isi (pv 2) (pcls ES.g1)) (pe_and (pisiK (K := K) rfl O.isi (pv 2) (pty O.ValueError_ (show bootBuiltins "ValueError" = some (.type "ValueError") by decide +kernel))) (pe_one (pe_cmpR (op_notIn_seqK (K := K) rfl) pe_bl (pv 3) (by rfl))))))))))
      (pss_one (ps_ret pe_bl))), ?_⟩
    have z4 : 4 ≤ sizeLine := line1000 (by decide)
    refine ⟨_, rfl, _, rfl, _, _, rfl, .inr ⟨bad, fun H1 s1 => ⟨C.sub, fun a t T na => ?_⟩⟩⟩
    have u1 := Same.upd (o := .frz (ExcO (.ref C1) t none (.ref T)) (.own a)) na
    have tyx : ∀ {H' : Hp}, Same (upd H1 a (.frz (ExcO (.ref C1) t none (.ref T)) (.own a))) H' → TyE K H' (.ref a) (.ref C1) := fun e => .exc (e _ _ upd_same) C.fits.k
    have r := Same.refl (upd H1 a (.frz (ExcO (.ref C1) t none (.ref T)) (.own a)))
    refine ⟨_, rfl, _, _, _, _, false, rfl, rfl, tyx r, C.fits.h3, _, rfl, _, _, _, _, false, rfl, rfl, tyx r, C.fits.h4, _, rfl, _, _, _, _, false, rfl, rfl, tyx r, C.fits.h2, _, rfl, _, _, _, _, false, rfl, rfl, tyx r, C.fits.h5, z4, fun l nl => ?_⟩
    have u2 := Same.upd (o := .lst [.bl false, .bl false, .bl false, .bl false]) nl
    exact ⟨_, rfl, _, _, _, _, true, rfl, rfl, tyx u2, C.fits.h1, _, rfl, iteT ⟨_, rfl, _, _, _, _, true, rfl, rfl, tyx u2, C.fits.hv, _, rfl, iteT ⟨_, rfl, l, _, rfl, .inl (SqL.of upd_same), rfl, rfl, k _ ((s1.trans u1).trans u2)⟩⟩⟩
end
end TR
set_option Elab.async false
set_option linter.all false
set_option maxRecDepth 100000
set_option maxHeartbeats 4000000
namespace TR
open PySem L2 PySem.W PyProof.Rows
seal PE PS PSs PA PT PW PG PGs PI PO
/-- Python's own kinds are no numbers -/
structure Own4 (K : Frag) (CN : Addr) : Prop where
  non : kitOne K (.type "NoneType") (.ref CN) = some false
  int : kitOne K (.type "int") (.ref CN) = some false
  str : kitOne K (.type "str") (.ref CN) = some false
  bl : kitOne K (.type "bool") (.ref CN) = some false
  tup : kitOne K (.type "tuple") (.ref CN) = some false
  lst : kitOne K (.type "list") (.ref CN) = some false
  dic : kitOne K (.type "dict") (.ref CN) = some false
  lt : kitOne K (.type "list") (.type "tuple") = some false
end TR
set_option Elab.async false
set_option linter.all false
set_option maxRecDepth 100000
set_option maxHeartbeats 4000000
namespace TR
open PySem L2 PySem.W PyProof.Rows
seal PE PS PSs PA PT PW PG PGs PI PO
/-! ### (kind, sign, figures, power) as data -/
def datN (k : Str) (s f p : Int) : PyData := .tuple [.str k, .int s, .int f, .int p]
theorem shD {k : Str} (s f p : Int) (h : PyData.strOk k = true) : SeqAt.shaped (datN k s f p) = true := by
  unfold SeqAt.shaped datN
  simp [PyData.canLay0, PyData.canLayAll0, PyData.depth, PyData.depthAll, h]
theorem eqD (k : Str) (s f p : Int) : PyData.eqv (datN k s f p) (datN k s f p) = true := by
  simp [datN, PyData.eqv, PyData.eqvAll]
theorem rdD {K : Frag} {H : Hp} {d : Addr} {k : Str} {s f p : Int} (h : H d = some (.tup [.str k, .int s, .int f, .int p])) : RdD K H (.ref d) (datN k s f p) := .tup (SqT.of h) (.cons (.str _) (.cons (.int _) (.cons (.int _) (.cons (.int _) .nil))))
theorem okK (k : Kd) : PyData.strOk k.str = true := by cases k <;> decide +kernel
end TR
set_option Elab.async false
set_option linter.all false
set_option maxRecDepth 100000
set_option maxHeartbeats 4000000
namespace TR
open PySem L2 PySem.W PyProof.Rows
seal PE PS PSs PA PT PW PG PGs PI PO
abbrev sLaw : Stmt := (top 38)
theorem ord_swap (a b : Int) : ordI b a = 0 - ordI a b := by
  unfold ordI
  by_cases h : a = b
  · rw [if_pos h, if_pos h.symm]; rfl
  · rw [if_neg h, if_neg (Ne.symm h)]
    by_cases q : a < b
    · rw [if_pos q, if_neg (by omega)]; rfl
    · rw [if_neg q, if_pos (by omega)]; rfl
theorem cmp_swap (x y : Nm) : cmpN y x = (cmpN x y).map (0 - ·) := by
  unfold cmpN
  rw [Bool.or_comm y.k.isN, Bool.or_comm y.k.isE]
  have lo : (if x.p < y.p then x.p else y.p) = (if y.p < x.p then y.p else x.p) := by
    by_cases h : x.p < y.p
    · rw [if_pos h, if_neg (by omega)]
    · rw [if_neg h]
      by_cases q : y.p < x.p
      · rw [if_pos q]
      · rw [if_neg q]; omega
  rw [lo]
  cases (x.k.isN || y.k.isN) with
  | true => rfl
  | false =>
    cases (x.k.isE || y.k.isE) with
    | true => show some _ = some _; rw [ord_swap]
    | false => show some _ = some _; rw [ord_swap]
/-- a pair of places below n -/
def PairV (n : Nat) (H : Hp) (v : V) : Prop := ∃ (t : Addr) (i j : Nat), v = .ref t ∧ H t = some (.tup [.int (i : Int), .int (j : Int)]) ∧ i < n ∧ j < n
theorem PairV.same {n : Nat} {H H' : Hp} {v : V} (h : PairV n H v) (s : Same H H') : PairV n H' v := by
  obtain ⟨t, i, j, e, ht, hi, hj⟩ := h
  exact ⟨t, i, j, e, s _ _ ht, hi, hj⟩
theorem PairV.upd {n : Nat} {H : Hp} {v : V} {l : Addr} {xs ys : List V} (h : PairV n H v) (hl : H l = some (.lst xs)) : PairV n (upd H l (.lst ys)) v := by
  obtain ⟨t, i, j, e, ht, hi, hj⟩ := h
  exact ⟨t, i, j, e, by rw [upd_ne (ne_of ht hl (by intro z; cases z))]; exact ht, hi, hj⟩
theorem mem_cut {xs : List V} {lo hi : Option Int} {v : V} (h : v ∈ cutV xs lo hi) : v ∈ xs := List.mem_of_mem_drop (List.mem_of_mem_take h)
/-- the numbers as told and as made -/
structure Here (CN : Addr) (H H' : Hp) (l m : Addr) (ts : List (Addr × Nm)) (ms : List Addr) : Prop where
  sm : Same H H'
  t : TupsAt H' l ts
  m : H' m = some (.lst (ms.map V.ref))
  len : ms.length = ts.length
  num : ∀ (i : Nat) p n, ts[i]? = some p → ms[i]? = some n → NumIs CN H' n p.2
  l5 : 5 ≤ ts.length
  l10 : ts.length ≤ 10
theorem Here.same {CN : Addr} {H H' H2 : Hp} {l m : Addr} {ts : List (Addr × Nm)} {ms : List Addr} (h : Here CN H H' l m ts ms) (s : Same H' H2) : Here CN H H2 l m ts ms :=
  ⟨h.sm.trans s, h.t.same s, s _ _ h.m, h.len, fun i p n hp hn => (h.num i p n hp hn).same s, h.l5, h.l10⟩
theorem Here.at {CN : Addr} {H H' : Hp} {l m : Addr} {ts : List (Addr × Nm)} {ms : List Addr} (h : Here CN H H' l m ts ms) {i : Nat} (hi : i < ts.length) :
    ∃ t x n, ts[i]? = some (t, x) ∧ ms[i]? = some n ∧ H' t = some (.tup (Nm.vs x)) ∧ x.Wf ∧ NumIs CN H' n x := by
  have hm : i < ms.length := by rw [h.len]; exact hi
  have e1 : ts[i]? = some ts[i] := List.getElem?_eq_getElem hi
  have e2 : ms[i]? = some ms[i] := List.getElem?_eq_getElem hm
  obtain ⟨a, b⟩ := h.t.t ts[i] (List.getElem_mem hi)
  exact ⟨ts[i].1, ts[i].2, ms[i], e1, e2, a, b, h.num i _ _ e1 e2⟩
section
variable {P : Program} {w : World} {K : Frag} {mg : Str → Option Value} {base : Heap}
def spLaw (K : Frag) : Sp := fun vs H Q _ => ∃ a ns, vs = [.ref a] ∧ SqL K H a ((ns : List Int).map V.int) ∧ ∀ H', Q (.bl true) H'
abbrev lawN : List Str := ["_law_script", "_law_numbers", "_law_made_here", "_law_pairs", "_law_one", "_law_other", "_law_turn", "_law_due_here", "_law_odd"]
theorem scLaw : FnScope lawN ["_law_script"] (defScope sLaw) := ⟨rfl, rfl, rfl, by decide +kernel, rfl, by decide +kernel, by decide +kernel⟩
theorem ok_law {f f1 f2 f3 f4 f5 f6 f7 f8 f9 CN C1 : Addr} {fd fd1 fd2 fd3 fd4 fd5 fd6 fd7 fd8 fd9 : FuncData} (D : Def K mg "law" ["_law_script"] sLaw f fd)
    (D_l_number : Def K mg "_law_number" ["_law_cell"] sLNumber f1 fd1) (G_l_number : FnOk P w K mg base (CX1 P w) 2 f1 fd1 ["_law_cell"] spLNumber) (D_l_cell_at : Def K mg "_law_cell_at" ["_law_script", "_law_k"] sCell f2 fd2) (G_l_cell_at : FnOk P w K mg base (CX1 P w) 1 f2 fd2 ["_law_script", "_law_k"] (spCell K))
    (D_l_near : Def K mg "_law_near" ["_law_number_here", "_law_cell"] sNear f3 fd3) (G_l_near : FnOk P w K mg base (CX1 P w) 2 f3 fd3 ["_law_number_here", "_law_cell"] spNear) (D_l_made : Def K mg "_law_made" ["_law_number_here"] sLMade f4 fd4) (G_l_made : FnOk P w K mg base (CX1 P w) 4 f4 fd4 ["_law_number_here"] (spLMade CN))
    (D_l_due : Def K mg "_law_due" ["_law_one", "_law_other"] sDue f5 fd5) (G_l_due : FnOk P w K mg base (CX1 P w) 2 f5 fd5 ["_law_one", "_law_other"] spDue) (D_l_is : Def K mg "_law_is" ["_law_found", "_law_due_here"] sIs f6 fd6) (G_l_is : FnOk P w K mg base (CX1 P w) 2 f6 fd6 ["_law_found", "_law_due_here"] spIs)
    (D_compared : Def K mg "compared" ["one", "other"] sCompared f7 fd7) (G_compared : FnOk P w K mg base (CX1 P w) 4 f7 fd7 ["one", "other"] (spCompared K CN C1)) (D_l_refused : Def K mg "_law_refused" ["_law_one", "_law_other"] sRefused f8 fd8) (G_l_refused : FnOk P w K mg base (CX1 P w) 5 f8 fd8 ["_law_one", "_law_other"] (spRefused K CN))
    (D_told : Def K mg "told" ["number"] sTold f9 fd9) (G_told : FnOk P w K mg base (CX1 P w) 2 f9 fd9 ["number"] (spTold K CN C1)) (O : Own mg) (T : Kit K) (O4 : Own4 K CN) : FnOk P w K mg base (CX1 P w) 6 f fd ["_law_script"] (spLaw K) := by
  refine FnOk.up (D.F.ok scLaw (fun vs H Q E h => ?_) (fun cdv A outer s H vs Q E hr h => ?_))
  · obtain ⟨a, ns, rfl, _⟩ := h
    rfl
  · obtain ⟨a, ns, rfl, hS, k⟩ := h
    have hx : Catches (cxOf CX0 P w K mg base lawN "law" (defScope sLaw) f cdv A outer s H E).nox EKF := catches0
    refine ⟨_, (pss_cons (ps_join (ps_compG0 (i := 1) (N := ["_law_k"]) (F := ["_law_script"]) (js := [0]) (CompScopeF.of1 ⟨rfl, by decide +kernel, by decide +kernel, by decide +kernel, by decide +kernel⟩ (by rfl) (by rfl) ⟨_, by rfl⟩ (by rfl) (by rfl)) (.inl hr.hd) rfl (pi_range1 rfl O.range_ (pa_cons pe_int pa_nil)) rfl (fun C s₀ H₀ ex pn h => pg_name (i := 0) (by decide +kernel : (["_law_k", "_law_script"] : List Str).Nodup) rfl (Or.inl rfl)) (fun C s₀ H₀ ex pn h => (pcallN D_l_number G_l_number hr (pa_cons (pe_op op_add (pcallN D_l_cell_at G_l_cell_at hr (pa_cons (pv 1) (pa_cons (pe_op op_add pe_int (pv 0)) pa_nil))) (pe_op op_mulK pe_int (pv 0))) pa_nil))) scLaw.nd rfl (Or.inl rfl)))
      (pss_cons (ps_join (ps_set (i := 1) scLaw.nd rfl (Or.inl rfl) (pe_op op_cat (pv 1) (pcall D_l_near G_l_near hr hx (pa_cons (pe_ix ix_list (pv 1) pe_int (fun _ _ => rfl)) (pa_cons (pcall D_l_cell_at G_l_cell_at hr hx (pa_cons (pv 0) (pa_cons pe_int pa_nil))) pa_nil))))))
      (pss_cons (ps_join (ps_comp0 (i := 2) (N := ["_law_number_here"]) ⟨rfl, by decide +kernel, by decide +kernel, by decide +kernel, by decide +kernel⟩ (.inl hr.hd) (pih_list (pv 1)) rfl (fun C s₀ H₀ ex pn h => pg_name (i := 0) (by decide +kernel : (["_law_number_here"] : List Str).Nodup) rfl (Or.inl rfl)) (fun C s₀ H₀ ex pn h => (pcallN D_l_made G_l_made hr (pa_cons (pv 0) pa_nil))) scLaw.nd rfl rfl))
      (pss_cons (ps_join (ps_set (i := 3) scLaw.nd rfl (Or.inl rfl) (pe_lst pa_nil)))
      (pss_cons (ps_join (ps_for PassesOwn.never rfl (pi_range1 rfl O.range_ (pa_cons (pe_callB call_len_seq (by rfl) O.len_ PySem.boot_len (pa_cons (pv 1) pa_nil)) pa_nil)) (pg_name (i := 4) scLaw.nd rfl (Or.inl rfl)) (pss_one (ps_for PassesOwn.never rfl (pi_range2 rfl O.range_ (pa_cons (pv 4) (pa_cons (pe_callB call_len_seq (by rfl) O.len_ PySem.boot_len (pa_cons (pv 1) pa_nil)) pa_nil))) (pg_name (i := 5) scLaw.nd rfl (Or.inl rfl)) (pss_one (ps_expr (pe_bm PySem.F.plainAttrs_list PySem.F.slot_list_append PySem.F.type_list_append mt_append (pv 3) (pa_cons (pe_tup (pa_cons (pv 4) (pa_cons (pv 5) pa_nil))) pa_nil))))))))
      (pss_cons (ps_join (ps_set (i := 6) scLaw.nd rfl (Or.inl rfl) (pe_op op_mod (pcall D_l_cell_at G_l_cell_at hr hx (pa_cons (pv 0) (pa_cons pe_int pa_nil))) (pe_callB call_len_seq (by rfl) O.len_ PySem.boot_len (pa_cons (pv 3) pa_nil)))))
      (pss_cons (ps_join (ps_set (i := 3) scLaw.nd rfl (Or.inl rfl) (pe_op op_cat (pe_slice sl_list (pv 3) (po_some (pv 6)) po_none) (pe_slice sl_list (pv 3) po_none (po_some (pv 6))))))
      (pss_cons (ps_join (ps_for PassesOwn.never rfl (pi_list (pe_op op_cat (pv 3) (pe_slice sl_list (pe_rev (pv 3) (pe_un un_neg pe_int)) po_none (po_some pe_int)))) (pg_tup rfl (pgs_cons (pg_name (i := 4) scLaw.nd rfl (Or.inl rfl)) (pgs_cons (pg_name (i := 5) scLaw.nd rfl (Or.inl rfl)) pgs_nil))) (pss_cons (ps_set (i := 7) scLaw.nd rfl (Or.inl rfl) (pcall D_l_due G_l_due hr hx (pa_cons (pe_ix ix_list (pv 1) (pv 4) (fun _ _ => rfl)) (pa_cons (pe_ix ix_list (pv 1) (pv 5) (fun _ _ => rfl)) pa_nil))))
      (pss_cons (ps_if (pt_not (pt_val (pcall D_l_is G_l_is hr hx (pa_cons (pcall D_compared G_compared hr hx (pa_cons (pe_ix ix_list (pv 2) (pv 4) (fun _ _ => rfl)) (pa_cons (pe_ix ix_list (pv 2) (pv 5) (fun _ _ => rfl)) pa_nil))) (pa_cons (pv 7) pa_nil))))) (pss_one (ps_ret pe_bl)) pss_nil)
      (pss_one (ps_if (pt_not (pt_val (pcall D_l_is G_l_is hr hx (pa_cons (pcall D_compared G_compared hr hx (pa_cons (pe_ix ix_list (pv 2) (pv 5) (fun _ _ => rfl)) (pa_cons (pe_ix ix_list (pv 2) (pv 4) (fun _ _ => rfl)) pa_nil))) (pa_cons (pe_ifExp (pt_cmpR op_isN (pv 7) pe_non (nomark _)) pe_non (pe_op op_sub pe_int (pv 7))) pa_nil))))) (pss_one (ps_ret pe_bl)) pss_nil))))))
      (pss_cons (ps_join (ps_set (i := 8) scLaw.nd rfl (Or.inl rfl) (pe_ix ix_list (pe_lst (pa_cons pe_non (pa_cons pe_int (pa_cons pe_str (pa_cons (pe_tup (pa_cons pe_str (pa_cons pe_int (pa_cons pe_int (pa_cons pe_int pa_nil))))) (pa_cons (pe_lst (pa_cons pe_int pa_nil)) (pa_cons pe_bl (pa_cons pe_dnewK (pa_cons pe_str pa_nil))))))))) (pe_op op_mod (pcall D_l_cell_at G_l_cell_at hr hx (pa_cons (pv 0) (pa_cons pe_int pa_nil))) pe_int) (fun _ _ => rfl))))
      (pss_cons (ps_join (ps_if (PW.pt (pw_or (pt_not (pt_val (pcall D_l_refused G_l_refused hr hx (pa_cons (pv 8) (pa_cons (pe_ix ix_list (pv 2) (pe_op op_mod (pv 6) pe_int) (fun _ _ => rfl)) pa_nil))))) (pw_or (pt_not (pt_val (pcall D_l_refused G_l_refused hr hx (pa_cons (pe_ix ix_list (pv 2) (pe_op op_mod (pv 6) pe_int) (fun _ _ => rfl)) (pa_cons (pv 8) pa_nil))))) (pw_or1 (pt_not (pt_val (pcall D_l_refused G_l_refused hr hx (pa_cons (pv 8) (pa_cons (pv 8) pa_nil))))))))) (pss_one (ps_ret pe_bl)) pss_nil))
      (pss_one (ps_ret (pe_callB (call_all hr.hd) (by rfl) O.all_ boot_all (pa_cons (pe_compG0 (N := ["_law_number_here", "_law_due_here"]) (F := []) (js := []) (CompScopeF.of0 ⟨rfl, by decide +kernel, by decide +kernel, by decide +kernel, by decide +kernel⟩ (by rfl)) (.inl hr.hd) rfl (pi_zip rfl O.zip_ (pa_cons (pv 2) (pa_cons (pv 1) pa_nil))) rfl (fun C s₀ H₀ ex pn h => pg_tupK (K := K) (n := 2) rfl h (pgs_cons (pg_name (i := 0) (by decide +kernel : (["_law_number_here", "_law_due_here"] : List Str).Nodup) rfl (Or.inl rfl)) (pgs_cons (pg_name (i := 1) (by decide +kernel : (["_law_number_here", "_law_due_here"] : List Str).Nodup) rfl (Or.inl rfl)) pgs_nil))) (fun C s₀ H₀ ex pn h => (pe_cmpR (op_eqDK (K := K) rfl hr.units) (pcallN D_told G_told hr (pa_cons (pv 0) pa_nil)) (pv 1) (nomark _)))) pa_nil)))))))))))))), ?_⟩
    have z0 : 0 ≤ sizeLine := Nat.zero_le _
    have z1 : 1 ≤ sizeLine := line1000 (by decide)
    have z2 : 2 ≤ sizeLine := line1000 (by decide)
    have z4 : 4 ≤ sizeLine := line1000 (by decide)
    have z8 : 8 ≤ sizeLine := line1000 (by decide)
    have mC : ∀ z n : Int, -(2 ^ 64) < n → n < 2 ^ 64 → IntMulOk n z := fun z n a b => CMul.ok (.inl ⟨a, b⟩)
    -- five numbers
    refine ⟨fun σ' H' => ∃ l ts, Same H H' ∧ TupsAt H' l ts ∧ ts.length = 5 ∧ σ' = [some (.ref a), some (.ref l), none, none, none, none, none, none, none], ?_, ?_⟩
    · refine ⟨5, rfl, by decide, by decide, comp_gen0 (J := Itr 0 5) (n := 5) (fun _ y H' => ∃ p : Addr × Nm, y = .ref p.1 ∧ H' p.1 = some (.tup p.2.vs) ∧ p.2.Wf) (by decide) (fun i y H1 H2 D l h hD e => ?_) (fun i H2 Qy hi sm hy => ⟨hi, fun x H3 yl => ?_⟩) (fun H2 sm => Nat.le_refl _) (fun D H' ys sm nD eD hlen hR => ?_)⟩
      · obtain ⟨p, rfl, hp, wf⟩ := h
        exact ⟨p, rfl, e _ _ hp (ne_of hp hD (by intro z; cases z)), wf⟩
      · obtain ⟨rfl, rfl⟩ := yl
        refine ⟨_, rfl, _, rfl, _, _, rfl, rfl, a, ns, _, rfl, sm.seq hS, by omega, fun c => ⟨_, rfl, _, _, rfl, rfl, mC _ _ (by decide) (by decide), _, _, rfl, rfl, _, rfl, fun x t H' wf s' e => hy _ _ s' ⟨(t, x), rfl, e, wf⟩⟩⟩
      · obtain ⟨ts, rfl, hts⟩ := list_of (f := fun p : Addr × Nm => V.ref p.1) (R := fun p => H' p.1 = some (.tup p.2.vs) ∧ p.2.Wf) hR
        exact ⟨D, ts, sm, ⟨eD, hts⟩, by simpa using hlen, rfl⟩
    rintro σ' H1 ⟨l, ts, s1, a1, len1, rfl⟩
    -- and those near the first
    refine ⟨fun σ' H' => ∃ l ts, Same H H' ∧ TupsAt H' l ts ∧ 5 ≤ ts.length ∧ ts.length ≤ 10 ∧ σ' = [some (.ref a), some (.ref l), none, none, none, none, none, none, none], ?_, ?_⟩
    · obtain ⟨⟨t0, x0⟩, r0, rfl⟩ : ∃ p r, ts = p :: r := by
        cases ts with
        | nil => simp at len1
        | cons p r => exact ⟨p, r, rfl⟩
      obtain ⟨e0, w0⟩ := a1.t (t0, x0) (List.mem_cons_self ..)
      refine ⟨_, rfl, _, rfl, l, _, _, _, rfl, rfl, SqL.of a1.l, atI_nat (j := 0) rfl, _, rfl, a, ns, 6, rfl, s1.seq hS, by decide, fun c => ⟨t0, x0, c, rfl, e0, w0, fun l2 us H2 s2 a2 len2 => ?_⟩⟩
      have b1 := a1.same s2
      refine ⟨l, l2, _, _, rfl, rfl, b1.l, a2.l, line1000 (by rw [List.length_map, List.length_map]; omega), fun p np => ?_⟩
      exact ⟨p, _, (s1.trans s2).trans (Same.upd np), b1.cat a2 np, by rw [List.length_append]; omega, by rw [List.length_append]; omega, rfl⟩
    rintro σ' H2 ⟨l, ts, s2, a2, l5, l10, rfl⟩
    clear a1 s1 H1
    -- made
    refine ⟨fun σ' H' => ∃ m ms, Here CN H H' l m ts ms ∧ σ' = [some (.ref a), some (.ref l), some (.ref m), none, none, none, none, none, none], ?_, ?_⟩
    · refine ⟨_, rfl, l, rfl, ⟨_, SqL.of a2.l⟩, comp_gen0 (J := Itl K l) (n := ts.length) (fun i y H' => ∃ p, ts[i]? = some p ∧ ∃ n : Addr, y = .ref n ∧ NumIs CN H' n p.2) (by omega) (fun i y H1 H2 D l h hD e => ?_) (fun i H3 Qy hi sm hy => ⟨⟨_, V.ref ts[i].1, SqL.of (sm _ _ a2.l), by simp [hi]⟩, fun x H4 yl => ?_⟩) (fun H3 sm => ⟨_, SqL.of (sm _ _ a2.l), by simp⟩) (fun D H' ys sm nD eD hlen hR => ?_)⟩
      · obtain ⟨p, hp, n, rfl, hn⟩ := h
        exact ⟨p, hp, n, rfl, hn.exc hD e⟩
      · obtain ⟨rfl, yl⟩ := yl
        have ex : x = V.ref ts[i].1 := by
          have := yl _ (SqL.of (sm _ _ a2.l))
          simp [hi] at this
          exact this.symm
        subst ex
        obtain ⟨et, wt⟩ := a2.t ts[i] (List.getElem_mem hi)
        exact ⟨_, rfl, ts[i].1, ts[i].2, rfl, sm _ _ et, wt, fun n H' _ s' hn => hy _ _ s' ⟨ts[i], by simp [hi], n, rfl, hn⟩⟩
      · obtain ⟨ms, rfl, hl, hms⟩ := list_of2 (f := V.ref) (R := fun (p : Addr × Nm) (n : Addr) => NumIs CN H' n p.2) (bs := ts) hlen (fun i y p hy hp => by
          obtain ⟨p', hp', n, e, hn⟩ := hR i y hy
          rw [hp] at hp'
          cases hp'
          exact ⟨n, e, hn⟩)
        exact ⟨D, ms, ⟨s2.trans sm, a2.same sm, eD, hl, hms, l5, l10⟩, rfl⟩
    rintro σ' H3 ⟨m, ms, h3, rfl⟩
    clear a2 s2 H2
    refine ⟨fun σ' H' => ∃ q, Here CN H H' l m ts ms ∧ H3 q = none ∧ Same H3 H' ∧ H' q = some (.lst []) ∧ σ' = [some (.ref a), some (.ref l), some (.ref m), some (.ref q), none, none, none, none, none], ?_, ?_⟩
    · exact ⟨z0, fun q nq => ⟨q, h3.same (Same.upd nq), nq, Same.upd nq, upd_same, rfl⟩⟩
    rintro σ' H4 ⟨q, h4, nq, s4, hq, rfl⟩
    -- the pairs
    refine ⟨fun σ' H' => ∃ xs v4 v5, Same H3 H' ∧ H' q = some (.lst xs) ∧ (∀ v ∈ xs, PairV ts.length H' v) ∧ 0 < xs.length ∧ xs.length ≤ 100 ∧ σ' = [some (.ref a), some (.ref l), some (.ref m), some (.ref q), v4, v5, none, none, none], ?_, ?_⟩
    · refine ⟨_, rfl, l, _, rfl, .inl (SqL.of h4.t.l), _, rfl, by rw [List.length_map]; omega, by rw [List.length_map]; omega, ?_⟩
      rw [List.length_map]
      refine for_range (fun i σ' H' => i ≤ ts.length ∧ ∃ xs v4 v5, Same H3 H' ∧ H' q = some (.lst xs) ∧ (∀ v ∈ xs, PairV ts.length H' v) ∧ (0 < i → 0 < xs.length) ∧ xs.length ≤ 10 * i ∧ σ' = [some (.ref a), some (.ref l), some (.ref m), some (.ref q), v4, v5, none, none, none]) ⟨Nat.zero_le _, [], none, none, s4, hq, fun v hv => by simp at hv, fun h => absurd h (Nat.lt_irrefl _), Nat.le_refl _, rfl⟩ ?_ ?_
      · rintro i σ' H5 hi ⟨hi', xs, v4, v5, s5, hq5, hp5, pos5, len5, rfl⟩
        have hi : i < ts.length := by omega
        have hl5 := (h3.same s5).t.l
        refine ⟨_, rfl, _, rfl, l, _, rfl, .inl (SqL.of hl5), _, _, rfl, ⟨by omega, by omega, by rw [List.length_map]; omega, by rw [List.length_map]; omega⟩, ?_⟩
        rw [List.length_map]
        refine for_range (fun c σ' H' => c + i ≤ ts.length ∧ ∃ xs v4 v5, Same H3 H' ∧ H' q = some (.lst xs) ∧ (∀ v ∈ xs, PairV ts.length H' v) ∧ (0 < c → 0 < xs.length) ∧ xs.length ≤ 10 * i + c ∧ v4 = some (.int (i : Int)) ∧ σ' = [some (.ref a), some (.ref l), some (.ref m), some (.ref q), v4, v5, none, none, none]) ⟨by omega, xs, _, v5, s5, hq5, hp5, fun h => absurd h (Nat.lt_irrefl _), by omega, ?_, rfl⟩ ?_ ?_
        · rw [Int.zero_add]
        · rintro c σ' H6 hc ⟨hc', xs, v4, v5, s6, hq6, hp6, pos6, len6, rfl, rfl⟩
          refine ⟨_, rfl, .inl ⟨rfl, _, SqL.of hq6⟩, _, rfl, _, rfl, z2, fun t nt => ⟨q, _, _, rfl, rfl, (Same.upd nt) _ _ hq6, Nat.lt_of_le_of_lt (by omega : xs.length ≤ 1000) (small1000 (Nat.le_refl _)), ?_⟩⟩
          have u := Same.upd (o := .tup [.int (i : Int), .int (0 + (i : Int) + (c : Int))]) nt
          refine ⟨by omega, _, _, _, same_at (s6.trans u) nq, upd_same, fun v hv => ?_, fun _ => by rw [List.length_append]; exact Nat.succ_pos _, by rw [List.length_append]; show xs.length + 1 ≤ _; omega, rfl, rfl⟩
          have hq7 := u _ _ hq6
          rcases List.mem_append.mp hv with hv | hv
          · exact ((hp6 v hv).same u).upd hq7
          · have e : v = .ref t := by simpa using hv
            subst e
            refine PairV.upd ⟨t, i, i + c, rfl, ?_, hi, by omega⟩ hq7
            rw [upd_same, show (0 : Int) + (i : Int) + (c : Int) = ((i + c : Nat) : Int) by omega]
        · rintro σ' H6 ⟨hc', xs, v4, v5, s6, hq6, hp6, pos6, len6, rfl, rfl⟩
          refine ⟨by omega, xs, _, v5, s6, hq6, hp6, fun _ => pos6 (by omega), by omega, rfl⟩
      · rintro σ' H5 ⟨hi', xs, v4, v5, s5, hq5, hp5, pos5, len5, rfl⟩
        exact ⟨xs, v4, v5, s5, hq5, hp5, pos5 (by omega), by omega, rfl⟩
    rintro σ' H5 ⟨xs, v4, v5, s5, hq5, hp5, pos5, len5, rfl⟩
    have h5 := h3.same s5
    clear h4 s4 hq H4
    -- the turn
    refine ⟨fun σ' H' => ∃ tu : Nat, H' = H5 ∧ σ' = [some (.ref a), some (.ref l), some (.ref m), some (.ref q), v4, v5, some (.int (tu : Int)), none, none], ?_, ?_⟩
    · refine ⟨_, rfl, a, ns, 0, rfl, h5.sm.seq hS, by decide, fun c => ⟨_, rfl, q, xs, rfl, .inl (SqL.of hq5), _, _, rfl, rfl, by omega, ?_⟩⟩
      obtain ⟨tu, e⟩ := Int.eq_ofNat_of_zero_le (Int.emod_nonneg c (show (xs.length : Int) ≠ 0 by omega))
      exact ⟨tu, rfl, by show [some (V.ref a), some (.ref l), some (.ref m), some (.ref q), v4, v5, some (V.int (c % (xs.length : Int))), none, none] = _; rw [e]⟩
    rintro σ' H6 ⟨tu, rfl, rfl⟩
    refine ⟨fun σ' H' => ∃ q xs, Here CN H H' l m ts ms ∧ H' q = some (.lst xs) ∧ (∀ v ∈ xs, PairV ts.length H' v) ∧ xs.length ≤ 200 ∧ σ' = [some (.ref a), some (.ref l), some (.ref m), some (.ref q), v4, v5, some (.int (tu : Int)), none, none], ?_, ?_⟩
    · refine ⟨_, rfl, _, rfl, _, rfl, q, xs, rfl, SqL.of hq5, fun p1 n1 => ?_⟩
      have u1 := Same.upd (o := .lst (cutV xs (some (tu : Int)) none)) n1
      refine ⟨_, rfl, _, rfl, _, rfl, q, xs, rfl, SqL.of (u1 _ _ hq5), fun p2 n2 => ?_⟩
      have u2 := Same.upd (o := .lst (cutV xs none (some (tu : Int)))) n2
      have c1 := cutV_length xs (some (tu : Int)) none
      have c2 := cutV_length xs none (some (tu : Int))
      refine ⟨p1, p2, _, _, rfl, rfl, u2 _ _ upd_same, upd_same, line1000 (by omega), fun p3 n3 => ?_⟩
      have u3 := Same.upd (o := .lst (cutV xs (some (tu : Int)) none ++ cutV xs none (some (tu : Int)))) n3
      have u := (u1.trans u2).trans u3
      refine ⟨p3, _, h5.same u, upd_same, fun v hv => ?_, by rw [List.length_append]; omega, rfl⟩
      rcases List.mem_append.mp hv with hv | hv
      · exact (hp5 v (mem_cut hv)).same u
      · exact (hp5 v (mem_cut hv)).same u
    rintro σ' H7 ⟨q, xs, h7, hq7, hp7, len7, rfl⟩
    clear h5 hq5 hp5
    -- all of them, and some behind
    refine ⟨fun σ' H' => ∃ v4 v5 v7, Here CN H H' l m ts ms ∧ σ' = [some (.ref a), some (.ref l), some (.ref m), some (.ref q), v4, v5, some (.int (tu : Int)), v7, none], ?_, ?_⟩
    · refine ⟨_, rfl, _, rfl, _, rfl, rfl, q, xs, rfl, SqL.of hq7, fun p1 n1 => ?_⟩
      have u1 := Same.upd (o := .lst xs.reverse) n1
      refine ⟨_, rfl, p1, _, rfl, SqL.of upd_same, fun p2 n2 => ?_⟩
      have u2 := Same.upd (o := .lst (cutV xs.reverse none (some 9))) n2
      have c2 := cutV_length xs.reverse none (some 9)
      rw [List.length_reverse] at c2
      refine ⟨q, p2, _, _, rfl, rfl, (u1.trans u2) _ _ hq7, upd_same, line1000 (by omega), fun p3 n3 => ?_⟩
      have u3 := Same.upd (o := .lst (xs ++ cutV xs.reverse none (some 9))) n3
      have u := (u1.trans u2).trans u3
      have all : ∀ v ∈ xs ++ cutV xs.reverse none (some 9), PairV ts.length H7 v := fun v hv => by
        rcases List.mem_append.mp hv with hv | hv
        · exact hp7 v hv
        · exact hp7 v (List.mem_reverse.mp (mem_cut hv))
      have e3 : upd (upd (upd H7 p1 (.lst xs.reverse)) p2 (.lst (cutV xs.reverse none (some 9)))) p3 (.lst (xs ++ cutV xs.reverse none (some 9))) p3 = some (.lst (xs ++ cutV xs.reverse none (some 9))) := upd_same
      generalize upd (upd (upd H7 p1 (.lst xs.reverse)) p2 (.lst (cutV xs.reverse none (some 9)))) p3 (.lst (xs ++ cutV xs.reverse none (some 9))) = H8 at u e3
      generalize xs ++ cutV xs.reverse none (some 9) = ys at all e3
      refine ⟨p3, rfl, ⟨_, SqL.of e3⟩, for_list (xs := ys) (fun i σ' H' => Same H8 H' ∧ ∃ v4 v5 v7, σ' = [some (.ref a), some (.ref l), some (.ref m), some (.ref q), v4, v5, some (.int (tu : Int)), v7, none]) ⟨Same.refl _, v4, v5, none, rfl⟩ ?_ ?_ ?_⟩
      · rintro i σ' H9 _ ⟨s9, _⟩
        exact SqL.of (s9 _ _ e3)
      · rintro i y σ' H9 hi ⟨s9, w4, w5, w7, rfl⟩
        obtain ⟨t, j, j', rfl, ht, hj, hj'⟩ := (all y (List.mem_of_getElem? hi)).same (u.trans s9)
        have h9 := h7.same (u.trans s9)
        obtain ⟨t1, x, n, et, en, tt, wx, nx⟩ := h9.at hj
        obtain ⟨t2, y, n', et', en', tt', wy, ny⟩ := h9.at hj'
        have at1 : ∀ {i : Nat} {p : Addr × Nm}, ts[i]? = some p → atI (ts.map fun p => V.ref p.1) (i : Int) = some (.ref p.1) := fun h => atI_nat (by simp [h])
        have at2 : ∀ {i : Nat} {n : Addr}, ms[i]? = some n → atI (ms.map V.ref) (i : Int) = some (.ref n) := fun h => atI_nat (by simp [h])
        refine ⟨t, _, rfl, SqT.of ht, rfl, _, _, rfl, _, _, rfl, rfl, ?_⟩
        refine ⟨_, rfl, _, rfl, l, _, _, _, rfl, rfl, SqL.of h9.t.l, at1 et, _, rfl, _, rfl, l, _, _, _, rfl, rfl, SqL.of h9.t.l, at1 et', t1, t2, x, y, rfl, tt, tt', wx.ok, wy.ok, fun H10 s10 => ?_⟩
        have h10 := h9.same s10
        refine ⟨_, rfl, _, rfl, m, _, _, _, rfl, rfl, SqL.of h10.m, at2 en, _, rfl, _, rfl, m, _, _, _, rfl, rfl, SqL.of h10.m, at2 en', _, _, rfl, .inl ⟨n, n', x, y, rfl, rfl, nx.same s10, ny.same s10, wx.ok, wy.ok, fun H11 s11 => ?_⟩⟩
        refine ⟨_, rfl, cmpN x y, rfl, _, rfl, iteF ?_⟩
        have h11 := h10.same s11
        refine ⟨_, rfl, _, rfl, m, _, _, _, rfl, rfl, SqL.of h11.m, at2 en', _, rfl, _, rfl, m, _, _, _, rfl, rfl, SqL.of h11.m, at2 en, _, _, rfl, .inl ⟨n', n, y, x, rfl, rfl, (ny.same s10).same s11, (nx.same s10).same s11, wy.ok, wx.ok, fun H12 s12 => ?_⟩⟩
        rw [cmp_swap x y]
        cases e : cmpN x y with
        | none =>
          exact ⟨_, rfl, rfl, _, rfl, iteDT rfl ⟨none, rfl, _, rfl, iteF ⟨s9.trans (s10.trans (s11.trans s12)), _, _, _, rfl⟩⟩⟩
        | some z =>
          exact ⟨_, rfl, rfl, _, rfl, iteDF (fun h => (by cases h)) ⟨_, rfl, _, _, rfl, rfl, some (0 - z), rfl, _, rfl, iteF ⟨s9.trans (s10.trans (s11.trans s12)), _, _, _, rfl⟩⟩⟩
      · rintro σ' H9 ⟨s9, w4, w5, w7, rfl⟩
        exact ⟨w4, w5, w7, h7.same (u.trans s9), rfl⟩
    rintro σ' H8 ⟨v4, v5, v7, h8, rfl⟩
    clear h7 hq7 hp7
    -- what is no number
    refine ⟨fun σ' H' => ∃ o, Here CN H H' l m ts ms ∧ NotNum K CN H' o ∧ σ' = [some (.ref a), some (.ref l), some (.ref m), some (.ref q), v4, v5, some (.int (tu : Int)), v7, some o], ?_, ?_⟩
    · refine ⟨z4, fun t1 n1 => ⟨z1, fun q1 m1 => fun d1 m2 => ⟨z8, fun L m4 => ?_⟩⟩⟩
      have u1 := Same.upd (o := .tup [.str "plain", .int 0, .int 1, .int 0]) n1
      have u2 := Same.upd (o := .lst [.int 1]) m1
      have u3 := Same.upd (o := .dK []) m2
      have u4 := Same.upd (o := .lst [.non, .int 5, .str "1", .ref t1, .ref q1, .bl true, .ref d1, .str ""]) m4
      have u := ((u1.trans u2).trans u3).trans u4
      refine ⟨_, rfl, a, ns, 7, rfl, (h8.same u).sm.seq hS, by decide, fun c => ?_⟩
      obtain ⟨y1, hy, ix⟩ := ixv (xs := [V.non, .int 5, .str "1", .ref t1, .ref q1, .bl true, .ref d1, .str ""]) (i := c % 8) (Int.emod_nonneg _ (by decide)) (by show c % 8 < 8; exact Int.emod_lt_of_pos _ (by decide))
      refine ⟨_, _, rfl, rfl, (by decide : (0 : Int) < 8), L, _, _, _, rfl, rfl, SqL.of upd_same, ix, y1, h8.same u, ?_, rfl⟩
      simp only [List.mem_cons, List.not_mem_nil, or_false] at hy
      rcases hy with rfl | rfl | rfl | rfl | rfl | rfl | rfl | rfl
      · exact ⟨_, .of .non, O4.non⟩
      · exact ⟨_, .of (.int _), O4.int⟩
      · exact ⟨_, .of (.str _), O4.str⟩
      · exact ⟨_, .of (.tup ((u2.trans (u3.trans u4)) _ _ upd_same)), O4.tup⟩
      · exact ⟨_, .of (.lst ((u3.trans u4) _ _ upd_same)), O4.lst⟩
      · exact ⟨_, .of (.bl _), O4.bl⟩
      · exact ⟨_, .of (.dK (u4 _ _ upd_same)), O4.dic⟩
      · exact ⟨_, .of (.str _), O4.str⟩
    rintro σ' H9 ⟨o, h9, no, rfl⟩
    refine ⟨fun σ' H' => Here CN H H' l m ts ms ∧ σ' = [some (.ref a), some (.ref l), some (.ref m), some (.ref q), v4, v5, some (.int (tu : Int)), v7, some o], ?_, ?_⟩
    · have t5 : tu % 5 < ts.length := by have := h9.l5; omega
      obtain ⟨t1, x, n, et, en, tt, wx, nx⟩ := h9.at t5
      have at2 : atI (ms.map V.ref) ((tu : Int) % 5) = some (.ref n) := atI_nat (j := tu % 5) (by simp [en])
      refine ⟨_, rfl, _, rfl, _, rfl, _, _, rfl, rfl, (by decide : (0 : Int) < 5), m, _, _, _, rfl, rfl, SqL.of h9.m, at2, _, _, rfl, .inl no, fun H10 s10 => ⟨_, rfl, iteF ?_⟩⟩
      have h10 := h9.same s10
      refine ⟨_, rfl, _, rfl, _, _, rfl, rfl, (by decide : (0 : Int) < 5), m, _, _, _, rfl, rfl, SqL.of h10.m, at2, _, rfl, _, _, rfl, .inr ⟨n, x, rfl, nx.same s10, no.same s10⟩, fun H11 s11 => ⟨_, rfl, iteF ?_⟩⟩
      refine ⟨_, rfl, _, rfl, _, _, rfl, .inl ((no.same s10).same s11), fun H12 s12 => ⟨_, rfl, iteF ⟨(h10.same s11).same s12, rfl⟩⟩⟩
    rintro σ' H10 ⟨h10, rfl⟩
    -- they stay
    refine ⟨_, rfl, _, rfl, m, l, rfl, ⟨_, SqL.of h10.m⟩, ⟨_, SqL.of h10.t.l⟩, comp_gen0 (J := Itz K m l) (n := ts.length) (fun _ y _ => y = .bl true) (by have := h10.l10; omega) (fun _ _ _ _ _ _ h _ _ => h) (fun i H2 Qy hi sm hy => ?_) (fun H2 sm => ⟨_, _, SqL.of (sm _ _ h10.m), SqL.of (sm _ _ h10.t.l), .inr (by simp)⟩) (fun D H' ys sm nD eD hlen hR => ?_)⟩
    · have h11 := h10.same sm
      obtain ⟨t1, x, n, et, en, tt, wx, nx⟩ := h11.at hi
      refine ⟨⟨_, _, V.ref n, V.ref t1, SqL.of h11.m, SqL.of h11.t.l, by simp [en], by simp [et]⟩, fun z H3 yl => ?_⟩
      obtain ⟨t, u, v, rfl, nt, rfl, hu, hv⟩ := yl
      have hu := hu _ (SqL.of h11.m)
      have hv := hv _ (SqL.of h11.t.l)
      have eu : u = .ref n := by
        rw [List.getElem?_map, en] at hu
        exact (Option.some.inj hu).symm
      have ev : v = .ref t1 := by
        rw [List.getElem?_map, et] at hv
        exact (Option.some.inj hv).symm
      subst eu ev
      have u1 := Same.upd (o := .tup [.ref n, .ref t1]) nt
      refine ⟨t, _, rfl, SqT.of upd_same, rfl, _, _, rfl, _, _, rfl, rfl, ?_⟩
      refine ⟨_, rfl, _, rfl, .inl ⟨n, _, _, _, _, rfl, nx.same u1, fun t2 n2 => ?_⟩⟩
      have u2 := Same.upd (o := .tup (Nm.vs x)) n2
      refine ⟨_, rfl, _, _, rdD (k := x.k.str) (s := x.s) (f := x.f) (p := x.p) upd_same, rdD (k := x.k.str) (s := x.s) (f := x.f) (p := x.p) ((u1.trans u2) _ _ tt), shD _ _ _ (okK _), shD _ _ _ (okK _), ?_⟩
      rw [eqD]
      exact hy _ _ (u1.trans u2) rfl
    · have ey : ys = (List.replicate ts.length true).map V.bl := by
        apply List.ext_getElem?
        intro i
        by_cases hi : i < ts.length
        · rw [List.getElem?_eq_getElem (by omega), hR i ys[i] (by simp [hlen, hi])]
          simp [hi]
        · rw [List.getElem?_eq_none (by omega), List.getElem?_eq_none (by simp; omega)]
      subst ey
      refine ⟨D, _, rfl, SqL.of eD, ?_⟩
      rw [show (List.replicate ts.length true).all id = true by simp]
      exact k H'
end
end TR
set_option Elab.async false
set_option linter.all false
set_option maxRecDepth 100000
set_option maxHeartbeats 4000000
namespace TR
open PySem L2 PySem.W PyProof.Rows
theorem all_mk {l : OpenLaw} {w : World} {K : Frag} {h : Heap} {mg : Str → Option Value} {fa CN fI_CN C1 C2 C3 C4 C5 CR f_plain f_end f_nothing f_told f_needn f_isb f_between f_product f_tento f_neednums f_somek f_wholeat f_side f_order f_compared f_cell f_mixed f_ten f_lwhole f_number f_made f_near f_due f_is f_refused f_law : Addr} (X : K.In h) (G : h.Ns mainGlobals mg) (hfa : mg "law" = some (.ref fa))
    {od_plain an_plain : Option Addr} {sl_plain : Array (Option Value)} {oc_plain kV_plain dc_plain pm_plain cd_plain ct_plain : Value}
    (a_plain : nsIn K mainGlobals "plain" = some (some (.ref f_plain))) (l_plain : K.lookup f_plain = some ⟨oc_plain, od_plain, .func (fnOf "plain" "plain" (defArgs sPlain) (defBody sPlain) (defScope sPlain) .none kV_plain dc_plain pm_plain an_plain cd_plain ct_plain), sl_plain⟩) (c_plain : codeIn K cd_plain "plain" = true) (k_plain : keepIn K (.ref f_plain) = true)
    {od_end an_end : Option Addr} {sl_end : Array (Option Value)} {oc_end kV_end dc_end pm_end cd_end ct_end : Value}
    (a_end : nsIn K mainGlobals "end" = some (some (.ref f_end))) (l_end : K.lookup f_end = some ⟨oc_end, od_end, .func (fnOf "end" "end" (defArgs sEnd) (defBody sEnd) (defScope sEnd) .none kV_end dc_end pm_end an_end cd_end ct_end), sl_end⟩) (c_end : codeIn K cd_end "end" = true) (k_end : keepIn K (.ref f_end) = true)
    {od_nothing an_nothing : Option Addr} {sl_nothing : Array (Option Value)} {oc_nothing kV_nothing dc_nothing pm_nothing cd_nothing ct_nothing : Value}
    (a_nothing : nsIn K mainGlobals "nothing" = some (some (.ref f_nothing))) (l_nothing : K.lookup f_nothing = some ⟨oc_nothing, od_nothing, .func (fnOf "nothing" "nothing" (defArgs sNothing) (defBody sNothing) (defScope sNothing) .none kV_nothing dc_nothing pm_nothing an_nothing cd_nothing ct_nothing), sl_nothing⟩) (c_nothing : codeIn K cd_nothing "nothing" = true) (k_nothing : keepIn K (.ref f_nothing) = true)
    {od_told an_told : Option Addr} {sl_told : Array (Option Value)} {oc_told kV_told dc_told pm_told cd_told ct_told : Value}
    (a_told : nsIn K mainGlobals "told" = some (some (.ref f_told))) (l_told : K.lookup f_told = some ⟨oc_told, od_told, .func (fnOf "told" "told" (defArgs sTold) (defBody sTold) (defScope sTold) .none kV_told dc_told pm_told an_told cd_told ct_told), sl_told⟩) (c_told : codeIn K cd_told "told" = true) (k_told : keepIn K (.ref f_told) = true)
    {od_needn an_needn : Option Addr} {sl_needn : Array (Option Value)} {oc_needn kV_needn dc_needn pm_needn cd_needn ct_needn : Value}
    (a_needn : nsIn K mainGlobals "need_number" = some (some (.ref f_needn))) (l_needn : K.lookup f_needn = some ⟨oc_needn, od_needn, .func (fnOf "need_number" "need_number" (defArgs sNeedN) (defBody sNeedN) (defScope sNeedN) .none kV_needn dc_needn pm_needn an_needn cd_needn ct_needn), sl_needn⟩) (c_needn : codeIn K cd_needn "need_number" = true) (k_needn : keepIn K (.ref f_needn) = true)
    {od_isb an_isb : Option Addr} {sl_isb : Array (Option Value)} {oc_isb kV_isb dc_isb pm_isb cd_isb ct_isb : Value}
    (a_isb : nsIn K mainGlobals "is_between" = some (some (.ref f_isb))) (l_isb : K.lookup f_isb = some ⟨oc_isb, od_isb, .func (fnOf "is_between" "is_between" (defArgs sIsB) (defBody sIsB) (defScope sIsB) .none kV_isb dc_isb pm_isb an_isb cd_isb ct_isb), sl_isb⟩) (c_isb : codeIn K cd_isb "is_between" = true) (k_isb : keepIn K (.ref f_isb) = true)
    {od_between an_between : Option Addr} {sl_between : Array (Option Value)} {oc_between kV_between dc_between pm_between cd_between ct_between : Value}
    (a_between : nsIn K mainGlobals "need_between" = some (some (.ref f_between))) (l_between : K.lookup f_between = some ⟨oc_between, od_between, .func (fnOf "need_between" "need_between" (defArgs sBetween) (defBody sBetween) (defScope sBetween) .none kV_between dc_between pm_between an_between cd_between ct_between), sl_between⟩) (c_between : codeIn K cd_between "need_between" = true) (k_between : keepIn K (.ref f_between) = true)
    {od_product an_product : Option Addr} {sl_product : Array (Option Value)} {oc_product kV_product dc_product pm_product cd_product ct_product : Value}
    (a_product : nsIn K mainGlobals "product_of" = some (some (.ref f_product))) (l_product : K.lookup f_product = some ⟨oc_product, od_product, .func (fnOf "product_of" "product_of" (defArgs sProductOf) (defBody sProductOf) (defScope sProductOf) .none kV_product dc_product pm_product an_product cd_product ct_product), sl_product⟩) (c_product : codeIn K cd_product "product_of" = true) (k_product : keepIn K (.ref f_product) = true)
    {od_tento an_tento : Option Addr} {sl_tento : Array (Option Value)} {oc_tento kV_tento dc_tento pm_tento cd_tento ct_tento : Value}
    (a_tento : nsIn K mainGlobals "ten_to" = some (some (.ref f_tento))) (l_tento : K.lookup f_tento = some ⟨oc_tento, od_tento, .func (fnOf "ten_to" "ten_to" (defArgs sTenTo) (defBody sTenTo) (defScope sTenTo) .none kV_tento dc_tento pm_tento an_tento cd_tento ct_tento), sl_tento⟩) (c_tento : codeIn K cd_tento "ten_to" = true) (k_tento : keepIn K (.ref f_tento) = true)
    {od_neednums an_neednums : Option Addr} {sl_neednums : Array (Option Value)} {oc_neednums kV_neednums dc_neednums pm_neednums cd_neednums ct_neednums : Value}
    (a_neednums : nsIn K mainGlobals "need_numbers" = some (some (.ref f_neednums))) (l_neednums : K.lookup f_neednums = some ⟨oc_neednums, od_neednums, .func (fnOf "need_numbers" "need_numbers" (defArgs sNeedNs) (defBody sNeedNs) (defScope sNeedNs) .none kV_neednums dc_neednums pm_neednums an_neednums cd_neednums ct_neednums), sl_neednums⟩) (c_neednums : codeIn K cd_neednums "need_numbers" = true) (k_neednums : keepIn K (.ref f_neednums) = true)
    {od_somek an_somek : Option Addr} {sl_somek : Array (Option Value)} {oc_somek kV_somek dc_somek pm_somek cd_somek ct_somek : Value}
    (a_somek : nsIn K mainGlobals "some_of_kind" = some (some (.ref f_somek))) (l_somek : K.lookup f_somek = some ⟨oc_somek, od_somek, .func (fnOf "some_of_kind" "some_of_kind" (defArgs sSomeK) (defBody sSomeK) (defScope sSomeK) .none kV_somek dc_somek pm_somek an_somek cd_somek ct_somek), sl_somek⟩) (c_somek : codeIn K cd_somek "some_of_kind" = true) (k_somek : keepIn K (.ref f_somek) = true)
    {od_wholeat an_wholeat : Option Addr} {sl_wholeat : Array (Option Value)} {oc_wholeat kV_wholeat dc_wholeat pm_wholeat cd_wholeat ct_wholeat : Value}
    (a_wholeat : nsIn K mainGlobals "whole_at" = some (some (.ref f_wholeat))) (l_wholeat : K.lookup f_wholeat = some ⟨oc_wholeat, od_wholeat, .func (fnOf "whole_at" "whole_at" (defArgs sWholeAt) (defBody sWholeAt) (defScope sWholeAt) .none kV_wholeat dc_wholeat pm_wholeat an_wholeat cd_wholeat ct_wholeat), sl_wholeat⟩) (c_wholeat : codeIn K cd_wholeat "whole_at" = true) (k_wholeat : keepIn K (.ref f_wholeat) = true)
    {od_side an_side : Option Addr} {sl_side : Array (Option Value)} {oc_side kV_side dc_side pm_side cd_side ct_side : Value}
    (a_side : nsIn K mainGlobals "side_of" = some (some (.ref f_side))) (l_side : K.lookup f_side = some ⟨oc_side, od_side, .func (fnOf "side_of" "side_of" (defArgs sSide) (defBody sSide) (defScope sSide) .none kV_side dc_side pm_side an_side cd_side ct_side), sl_side⟩) (c_side : codeIn K cd_side "side_of" = true) (k_side : keepIn K (.ref f_side) = true)
    {od_order an_order : Option Addr} {sl_order : Array (Option Value)} {oc_order kV_order dc_order pm_order cd_order ct_order : Value}
    (a_order : nsIn K mainGlobals "order_of" = some (some (.ref f_order))) (l_order : K.lookup f_order = some ⟨oc_order, od_order, .func (fnOf "order_of" "order_of" (defArgs sOrder) (defBody sOrder) (defScope sOrder) .none kV_order dc_order pm_order an_order cd_order ct_order), sl_order⟩) (c_order : codeIn K cd_order "order_of" = true) (k_order : keepIn K (.ref f_order) = true)
    {od_compared an_compared : Option Addr} {sl_compared : Array (Option Value)} {oc_compared kV_compared dc_compared pm_compared cd_compared ct_compared : Value}
    (a_compared : nsIn K mainGlobals "compared" = some (some (.ref f_compared))) (l_compared : K.lookup f_compared = some ⟨oc_compared, od_compared, .func (fnOf "compared" "compared" (defArgs sCompared) (defBody sCompared) (defScope sCompared) .none kV_compared dc_compared pm_compared an_compared cd_compared ct_compared), sl_compared⟩) (c_compared : codeIn K cd_compared "compared" = true) (k_compared : keepIn K (.ref f_compared) = true)
    {od_cell an_cell : Option Addr} {sl_cell : Array (Option Value)} {oc_cell kV_cell dc_cell pm_cell cd_cell ct_cell : Value}
    (a_cell : nsIn K mainGlobals "_law_cell_at" = some (some (.ref f_cell))) (l_cell : K.lookup f_cell = some ⟨oc_cell, od_cell, .func (fnOf "_law_cell_at" "_law_cell_at" (defArgs sCell) (defBody sCell) (defScope sCell) .none kV_cell dc_cell pm_cell an_cell cd_cell ct_cell), sl_cell⟩) (c_cell : codeIn K cd_cell "_law_cell_at" = true) (k_cell : keepIn K (.ref f_cell) = true)
    {od_mixed an_mixed : Option Addr} {sl_mixed : Array (Option Value)} {oc_mixed kV_mixed dc_mixed pm_mixed cd_mixed ct_mixed : Value}
    (a_mixed : nsIn K mainGlobals "_law_mixed" = some (some (.ref f_mixed))) (l_mixed : K.lookup f_mixed = some ⟨oc_mixed, od_mixed, .func (fnOf "_law_mixed" "_law_mixed" (defArgs sMixed) (defBody sMixed) (defScope sMixed) .none kV_mixed dc_mixed pm_mixed an_mixed cd_mixed ct_mixed), sl_mixed⟩) (c_mixed : codeIn K cd_mixed "_law_mixed" = true) (k_mixed : keepIn K (.ref f_mixed) = true)
    {od_ten an_ten : Option Addr} {sl_ten : Array (Option Value)} {oc_ten kV_ten dc_ten pm_ten cd_ten ct_ten : Value}
    (a_ten : nsIn K mainGlobals "_law_ten" = some (some (.ref f_ten))) (l_ten : K.lookup f_ten = some ⟨oc_ten, od_ten, .func (fnOf "_law_ten" "_law_ten" (defArgs sTenT) (defBody sTenT) (defScope sTenT) .none kV_ten dc_ten pm_ten an_ten cd_ten ct_ten), sl_ten⟩) (c_ten : codeIn K cd_ten "_law_ten" = true) (k_ten : keepIn K (.ref f_ten) = true)
    {od_lwhole an_lwhole : Option Addr} {sl_lwhole : Array (Option Value)} {oc_lwhole kV_lwhole dc_lwhole pm_lwhole cd_lwhole ct_lwhole : Value}
    (a_lwhole : nsIn K mainGlobals "_law_whole" = some (some (.ref f_lwhole))) (l_lwhole : K.lookup f_lwhole = some ⟨oc_lwhole, od_lwhole, .func (fnOf "_law_whole" "_law_whole" (defArgs sLWhole) (defBody sLWhole) (defScope sLWhole) .none kV_lwhole dc_lwhole pm_lwhole an_lwhole cd_lwhole ct_lwhole), sl_lwhole⟩) (c_lwhole : codeIn K cd_lwhole "_law_whole" = true) (k_lwhole : keepIn K (.ref f_lwhole) = true)
    {od_number an_number : Option Addr} {sl_number : Array (Option Value)} {oc_number kV_number dc_number pm_number cd_number ct_number : Value}
    (a_number : nsIn K mainGlobals "_law_number" = some (some (.ref f_number))) (l_number : K.lookup f_number = some ⟨oc_number, od_number, .func (fnOf "_law_number" "_law_number" (defArgs sLNumber) (defBody sLNumber) (defScope sLNumber) .none kV_number dc_number pm_number an_number cd_number ct_number), sl_number⟩) (c_number : codeIn K cd_number "_law_number" = true) (k_number : keepIn K (.ref f_number) = true)
    {od_made an_made : Option Addr} {sl_made : Array (Option Value)} {oc_made kV_made dc_made pm_made cd_made ct_made : Value}
    (a_made : nsIn K mainGlobals "_law_made" = some (some (.ref f_made))) (l_made : K.lookup f_made = some ⟨oc_made, od_made, .func (fnOf "_law_made" "_law_made" (defArgs sLMade) (defBody sLMade) (defScope sLMade) .none kV_made dc_made pm_made an_made cd_made ct_made), sl_made⟩) (c_made : codeIn K cd_made "_law_made" = true) (k_made : keepIn K (.ref f_made) = true)
    {od_near an_near : Option Addr} {sl_near : Array (Option Value)} {oc_near kV_near dc_near pm_near cd_near ct_near : Value}
    (a_near : nsIn K mainGlobals "_law_near" = some (some (.ref f_near))) (l_near : K.lookup f_near = some ⟨oc_near, od_near, .func (fnOf "_law_near" "_law_near" (defArgs sNear) (defBody sNear) (defScope sNear) .none kV_near dc_near pm_near an_near cd_near ct_near), sl_near⟩) (c_near : codeIn K cd_near "_law_near" = true) (k_near : keepIn K (.ref f_near) = true)
    {od_due an_due : Option Addr} {sl_due : Array (Option Value)} {oc_due kV_due dc_due pm_due cd_due ct_due : Value}
    (a_due : nsIn K mainGlobals "_law_due" = some (some (.ref f_due))) (l_due : K.lookup f_due = some ⟨oc_due, od_due, .func (fnOf "_law_due" "_law_due" (defArgs sDue) (defBody sDue) (defScope sDue) .none kV_due dc_due pm_due an_due cd_due ct_due), sl_due⟩) (c_due : codeIn K cd_due "_law_due" = true) (k_due : keepIn K (.ref f_due) = true)
    {od_is an_is : Option Addr} {sl_is : Array (Option Value)} {oc_is kV_is dc_is pm_is cd_is ct_is : Value}
    (a_is : nsIn K mainGlobals "_law_is" = some (some (.ref f_is))) (l_is : K.lookup f_is = some ⟨oc_is, od_is, .func (fnOf "_law_is" "_law_is" (defArgs sIs) (defBody sIs) (defScope sIs) .none kV_is dc_is pm_is an_is cd_is ct_is), sl_is⟩) (c_is : codeIn K cd_is "_law_is" = true) (k_is : keepIn K (.ref f_is) = true)
    {od_refused an_refused : Option Addr} {sl_refused : Array (Option Value)} {oc_refused kV_refused dc_refused pm_refused cd_refused ct_refused : Value}
    (a_refused : nsIn K mainGlobals "_law_refused" = some (some (.ref f_refused))) (l_refused : K.lookup f_refused = some ⟨oc_refused, od_refused, .func (fnOf "_law_refused" "_law_refused" (defArgs sRefused) (defBody sRefused) (defScope sRefused) .none kV_refused dc_refused pm_refused an_refused cd_refused ct_refused), sl_refused⟩) (c_refused : codeIn K cd_refused "_law_refused" = true) (k_refused : keepIn K (.ref f_refused) = true)
    {od_law an_law : Option Addr} {sl_law : Array (Option Value)} {oc_law kV_law dc_law pm_law cd_law ct_law : Value}
    (a_law : nsIn K mainGlobals "law" = some (some (.ref f_law))) (l_law : K.lookup f_law = some ⟨oc_law, od_law, .func (fnOf "law" "law" (defArgs sLaw) (defBody sLaw) (defScope sLaw) .none kV_law dc_law pm_law an_law cd_law ct_law), sl_law⟩) (c_law : codeIn K cd_law "law" = true) (k_law : keepIn K (.ref f_law) = true)
    (z_isinstance : nsIn K mainGlobals "isinstance" = some none)
    (z_int : nsIn K mainGlobals "int" = some none)
    (z_bool : nsIn K mainGlobals "bool" = some none)
    (z_str : nsIn K mainGlobals "str" = some none)
    (z_list : nsIn K mainGlobals "list" = some none)
    (z_tuple : nsIn K mainGlobals "tuple" = some none)
    (z_dict : nsIn K mainGlobals "dict" = some none)
    (z_len : nsIn K mainGlobals "len" = some none)
    (z_range : nsIn K mainGlobals "range" = some none)
    (z_min : nsIn K mainGlobals "min" = some none)
    (z_max : nsIn K mainGlobals "max" = some none)
    (z_abs : nsIn K mainGlobals "abs" = some none)
    (z_any : nsIn K mainGlobals "any" = some none)
    (z_all : nsIn K mainGlobals "all" = some none)
    (z_sum : nsIn K mainGlobals "sum" = some none)
    (z_repr : nsIn K mainGlobals "repr" = some none)
    (z_enumerate : nsIn K mainGlobals "enumerate" = some none)
    (z_reversed : nsIn K mainGlobals "reversed" = some none)
    (z_zip : nsIn K mainGlobals "zip" = some none)
    (z_sorted : nsIn K mainGlobals "sorted" = some none)
    (z_divmod : nsIn K mainGlobals "divmod" = some none)
    (z_set : nsIn K mainGlobals "set" = some none)
    (z_ValueError : nsIn K mainGlobals "ValueError" = some none)
    (kt_int_int : kitOne K (.type "int") (.type "int") = some true)
    (kt_int_bool : kitOne K (.type "int") (.type "bool") = some false)
    (kt_int_str : kitOne K (.type "int") (.type "str") = some false)
    (kt_int_list : kitOne K (.type "int") (.type "list") = some false)
    (kt_int_tuple : kitOne K (.type "int") (.type "tuple") = some false)
    (kt_int_dict : kitOne K (.type "int") (.type "dict") = some false)
    (kt_bool_int : kitOne K (.type "bool") (.type "int") = some true)
    (kt_bool_bool : kitOne K (.type "bool") (.type "bool") = some true)
    (kt_bool_str : kitOne K (.type "bool") (.type "str") = some false)
    (kt_bool_list : kitOne K (.type "bool") (.type "list") = some false)
    (kt_bool_tuple : kitOne K (.type "bool") (.type "tuple") = some false)
    (kt_bool_dict : kitOne K (.type "bool") (.type "dict") = some false)
    (kt_str_int : kitOne K (.type "str") (.type "int") = some false)
    (kt_str_bool : kitOne K (.type "str") (.type "bool") = some false)
    (kt_str_str : kitOne K (.type "str") (.type "str") = some true)
    (kt_str_list : kitOne K (.type "str") (.type "list") = some false)
    (kt_str_tuple : kitOne K (.type "str") (.type "tuple") = some false)
    (kt_str_dict : kitOne K (.type "str") (.type "dict") = some false)
    (kt_list_int : kitOne K (.type "list") (.type "int") = some false)
    (kt_list_bool : kitOne K (.type "list") (.type "bool") = some false)
    (kt_list_str : kitOne K (.type "list") (.type "str") = some false)
    (kt_list_list : kitOne K (.type "list") (.type "list") = some true)
    (kt_list_tuple : kitOne K (.type "list") (.type "tuple") = some false)
    (kt_list_dict : kitOne K (.type "list") (.type "dict") = some false)
    (kt_tuple_int : kitOne K (.type "tuple") (.type "int") = some false)
    (kt_tuple_bool : kitOne K (.type "tuple") (.type "bool") = some false)
    (kt_tuple_str : kitOne K (.type "tuple") (.type "str") = some false)
    (kt_tuple_list : kitOne K (.type "tuple") (.type "list") = some false)
    (kt_tuple_tuple : kitOne K (.type "tuple") (.type "tuple") = some true)
    (kt_tuple_dict : kitOne K (.type "tuple") (.type "dict") = some false)
    (kt_dict_int : kitOne K (.type "dict") (.type "int") = some false)
    (kt_dict_bool : kitOne K (.type "dict") (.type "bool") = some false)
    (kt_dict_str : kitOne K (.type "dict") (.type "str") = some false)
    (kt_dict_list : kitOne K (.type "dict") (.type "list") = some false)
    (kt_dict_tuple : kitOne K (.type "dict") (.type "tuple") = some false)
    (kt_dict_dict : kitOne K (.type "dict") (.type "dict") = some true)
    (kt_NoneType_int : kitOne K (.type "NoneType") (.type "int") = some false)
    (kt_NoneType_bool : kitOne K (.type "NoneType") (.type "bool") = some false)
    (kt_NoneType_str : kitOne K (.type "NoneType") (.type "str") = some false)
    (kt_NoneType_list : kitOne K (.type "NoneType") (.type "list") = some false)
    (kt_NoneType_tuple : kitOne K (.type "NoneType") (.type "tuple") = some false)
    (kt_NoneType_dict : kitOne K (.type "NoneType") (.type "dict") = some false)
    (sn : specialIn K (.builtin "object.__class__") "__get__" = some (some (.builtin "getset_descriptor.__get__")))
    (tk : takesIn K (.builtin "object.__class__") = some true)
    (a_CN : nsIn K mainGlobals "Number" = some (some (.ref CN)))
    (pg_CN : plainGet K CN Str.empty = true)
    (hd_CN : hasDictIn K CN = true)
    (po_CN : plainOver K CN = true)
    (sa_CN : findIn K (.ref CN) "__setattr__" = some (some (.builtin "object.__setattr__")))
    (mk_CN : makesIn K CN = true)
    (kc_CN : keepIn K (.ref CN) = true)
    (ca_CN : findIn K (.ref CN) "__class__" = some (some (.builtin "object.__class__")))
    (ob_CN : mroIn K CN (.type "object") = some true)
    (n_CN_kind : findIn K (.ref CN) "kind" = some none)
    (n_CN_sign : findIn K (.ref CN) "sign" = some none)
    (n_CN_figures : findIn K (.ref CN) "figures" = some none)
    (n_CN_power : findIn K (.ref CN) "power" = some none)
    (aI_CN : findIn K (.ref CN) "__init__" = some (some (.ref fI_CN)))
    (iI_CN : isFn K (.ref fI_CN) = true)
    {od_iCN an_iCN : Option Addr} {sl_iCN : Array (Option Value)} {oc_iCN kV_iCN dc_iCN pm_iCN cd_iCN ct_iCN : Value} (l_iCN : K.lookup fI_CN = some ⟨oc_iCN, od_iCN, .func (fnOf "__init__" "Number.__init__" (defArgs sInit) (defBody sInit) (defScope sInit) .none kV_iCN dc_iCN pm_iCN an_iCN cd_iCN ct_iCN), sl_iCN⟩)
    (c_iCN : codeIn K cd_iCN "Number.__init__" = true)
    (k_iCN : keepIn K (.ref fI_CN) = true)
    (self_CN : kitOne K (.ref CN) (.ref CN) = some true)
    (a_C1 : nsIn K mainGlobals "BadNumber" = some (some (.ref C1)))
    (a_C2 : nsIn K mainGlobals "NoText" = some (some (.ref C2)))
    (a_C3 : nsIn K mainGlobals "BadContext" = some (some (.ref C3)))
    (a_C4 : nsIn K mainGlobals "BadCount" = some (some (.ref C4)))
    (a_C5 : nsIn K mainGlobals "Trapped" = some (some (.ref C5)))
    (a_CR : nsIn K mainGlobals "ReckonError" = some (some (.ref CR)))
    (cty : typeIn K (.ref CR) = some (.type "type"))
    {dR : ClassData} (ccl : clsIn K CR = some dR)
    (cex : subIn K (.ref CR) (.type "BaseException") = some true)
    (q1 : excIn K C1 [.type "ValueError", .type "Exception", .type "BaseException", .type "object"] "ValueError.__new__" = true)
    (sub1 : subIn K (.ref C1) (.ref CR) = some true)
    (xga1 : findIn K (.ref C1) "__getattribute__" = some (some (.builtin "BaseException.__getattribute__")))
    (xgh1 : findIn K (.ref C1) "__getattr__" = some none)
    (xca1 : findIn K (.ref C1) "__class__" = some (some (.builtin "object.__class__")))
    (xob1 : mroIn K C1 (.type "object") = some true)
    (xbe1 : subIn K (.ref C1) (.type "BaseException") = some true)
    {d1 : ClassData} (xcl1 : clsIn K C1 = some d1)
    (h1_1 : kitOne K (.ref C1) (.ref C1) = some true)
    (h1_2 : kitOne K (.ref C1) (.ref C2) = some false)
    (h1_3 : kitOne K (.ref C1) (.ref C3) = some false)
    (h1_4 : kitOne K (.ref C1) (.ref C4) = some false)
    (h1_5 : kitOne K (.ref C1) (.ref C5) = some false)
    (hv1 : kitOne K (.ref C1) (.type "ValueError") = some true)
    (nn_NoneType : kitOne K (.type "NoneType") (.ref CN) = some false)
    (nn_int : kitOne K (.type "int") (.ref CN) = some false)
    (nn_str : kitOne K (.type "str") (.ref CN) = some false)
    (nn_bool : kitOne K (.type "bool") (.ref CN) = some false)
    (nn_tuple : kitOne K (.type "tuple") (.ref CN) = some false)
    (nn_list : kitOne K (.type "list") (.ref CN) = some false)
    (nn_dict : kitOne K (.type "dict") (.ref CN) = some false) :
    ∃ fd : FuncData, (∀ (s : Shared) (v : Value), BindsTo s fd ⟨[v], []⟩ [("_law_script", v)]) ∧ ∀ base : Heap, K.In base → base.Ns mainGlobals mg → FnOk l.prog w K mg base (CX1 l.prog w) 6 fa fd ["_law_script"] (spLaw K) := by
  have e := hfa.symm.trans (mg_of X G a_law)
  cases e
  have D_plain := def_mk (ps := ["sign", "figures", "power"]) (st := sPlain) X G a_plain l_plain c_plain k_plain fun _ _ _ _ _ _ us hl => match us, hl with | [_, _, _], _ => rfl
  have D_end := def_mk (ps := ["sign"]) (st := sEnd) X G a_end l_end c_end k_end fun _ _ _ _ _ _ us hl => match us, hl with | [_], _ => rfl
  have D_nothing := def_mk (ps := []) (st := sNothing) X G a_nothing l_nothing c_nothing k_nothing fun _ _ _ _ _ _ us hl => match us, hl with | [], _ => rfl
  have D_told := def_mk (ps := ["number"]) (st := sTold) X G a_told l_told c_told k_told fun _ _ _ _ _ _ us hl => match us, hl with | [_], _ => rfl
  have D_needn := def_mk (ps := ["thing"]) (st := sNeedN) X G a_needn l_needn c_needn k_needn fun _ _ _ _ _ _ us hl => match us, hl with | [_], _ => rfl
  have D_isb := def_mk (ps := ["thing", "least", "most"]) (st := sIsB) X G a_isb l_isb c_isb k_isb fun _ _ _ _ _ _ us hl => match us, hl with | [_, _, _], _ => rfl
  have D_between := def_mk (ps := ["thing", "least", "most"]) (st := sBetween) X G a_between l_between c_between k_between fun _ _ _ _ _ _ us hl => match us, hl with | [_, _, _], _ => rfl
  have D_product := def_mk (ps := ["whole", "count"]) (st := sProductOf) X G a_product l_product c_product k_product fun _ _ _ _ _ _ us hl => match us, hl with | [_, _], _ => rfl
  have D_tento := def_mk (ps := ["count"]) (st := sTenTo) X G a_tento l_tento c_tento k_tento fun _ _ _ _ _ _ us hl => match us, hl with | [_], _ => rfl
  have D_neednums := def_mk (ps := ["things"]) (st := sNeedNs) X G a_neednums l_neednums c_neednums k_neednums fun _ _ _ _ _ _ us hl => match us, hl with | [_], _ => rfl
  have D_somek := def_mk (ps := ["numbers", "kind"]) (st := sSomeK) X G a_somek l_somek c_somek k_somek fun _ _ _ _ _ _ us hl => match us, hl with | [_, _], _ => rfl
  have D_wholeat := def_mk (ps := ["number", "power"]) (st := sWholeAt) X G a_wholeat l_wholeat c_wholeat k_wholeat fun _ _ _ _ _ _ us hl => match us, hl with | [_, _], _ => rfl
  have D_side := def_mk (ps := ["number"]) (st := sSide) X G a_side l_side c_side k_side fun _ _ _ _ _ _ us hl => match us, hl with | [_], _ => rfl
  have D_order := def_mk (ps := ["one", "other"]) (st := sOrder) X G a_order l_order c_order k_order fun _ _ _ _ _ _ us hl => match us, hl with | [_, _], _ => rfl
  have D_compared := def_mk (ps := ["one", "other"]) (st := sCompared) X G a_compared l_compared c_compared k_compared fun _ _ _ _ _ _ us hl => match us, hl with | [_, _], _ => rfl
  have D_cell := def_mk (ps := ["_law_script", "_law_k"]) (st := sCell) X G a_cell l_cell c_cell k_cell fun _ _ _ _ _ _ us hl => match us, hl with | [_, _], _ => rfl
  have D_mixed := def_mk (ps := ["_law_cell", "_law_k"]) (st := sMixed) X G a_mixed l_mixed c_mixed k_mixed fun _ _ _ _ _ _ us hl => match us, hl with | [_, _], _ => rfl
  have D_ten := def_mk (ps := ["_law_count"]) (st := sTenT) X G a_ten l_ten c_ten k_ten fun _ _ _ _ _ _ us hl => match us, hl with | [_], _ => rfl
  have D_lwhole := def_mk (ps := ["_law_thing"]) (st := sLWhole) X G a_lwhole l_lwhole c_lwhole k_lwhole fun _ _ _ _ _ _ us hl => match us, hl with | [_], _ => rfl
  have D_number := def_mk (ps := ["_law_cell"]) (st := sLNumber) X G a_number l_number c_number k_number fun _ _ _ _ _ _ us hl => match us, hl with | [_], _ => rfl
  have D_made := def_mk (ps := ["_law_number_here"]) (st := sLMade) X G a_made l_made c_made k_made fun _ _ _ _ _ _ us hl => match us, hl with | [_], _ => rfl
  have D_near := def_mk (ps := ["_law_number_here", "_law_cell"]) (st := sNear) X G a_near l_near c_near k_near fun _ _ _ _ _ _ us hl => match us, hl with | [_, _], _ => rfl
  have D_due := def_mk (ps := ["_law_one", "_law_other"]) (st := sDue) X G a_due l_due c_due k_due fun _ _ _ _ _ _ us hl => match us, hl with | [_, _], _ => rfl
  have D_is := def_mk (ps := ["_law_found", "_law_due_here"]) (st := sIs) X G a_is l_is c_is k_is fun _ _ _ _ _ _ us hl => match us, hl with | [_, _], _ => rfl
  have D_refused := def_mk (ps := ["_law_one", "_law_other"]) (st := sRefused) X G a_refused l_refused c_refused k_refused fun _ _ _ _ _ _ us hl => match us, hl with | [_, _], _ => rfl
  have D_law := def_mk (ps := ["_law_script"]) (st := sLaw) X G a_law l_law c_law k_law fun _ _ _ _ _ _ us hl => match us, hl with | [_], _ => rfl
  have O : Own mg := ⟨mg_none_of X G z_isinstance, mg_none_of X G z_int, mg_none_of X G z_bool, mg_none_of X G z_str, mg_none_of X G z_list, mg_none_of X G z_tuple, mg_none_of X G z_dict, mg_none_of X G z_len, mg_none_of X G z_range, mg_none_of X G z_min, mg_none_of X G z_max, mg_none_of X G z_abs, mg_none_of X G z_any, mg_none_of X G z_all, mg_none_of X G z_sum, mg_none_of X G z_repr, mg_none_of X G z_enumerate, mg_none_of X G z_reversed, mg_none_of X G z_zip, mg_none_of X G z_sorted, mg_none_of X G z_divmod, mg_none_of X G z_set, mg_none_of X G z_ValueError⟩
  have T : Kit K := ⟨kt_int_int, kt_int_bool, kt_int_str, kt_int_list, kt_int_tuple, kt_int_dict, kt_bool_int, kt_bool_bool, kt_bool_str, kt_bool_list, kt_bool_tuple, kt_bool_dict, kt_str_int, kt_str_bool, kt_str_str, kt_str_list, kt_str_tuple, kt_str_dict, kt_list_int, kt_list_bool, kt_list_str, kt_list_list, kt_list_tuple, kt_list_dict, kt_tuple_int, kt_tuple_bool, kt_tuple_str, kt_tuple_list, kt_tuple_tuple, kt_tuple_dict, kt_dict_int, kt_dict_bool, kt_dict_str, kt_dict_list, kt_dict_tuple, kt_dict_dict, kt_NoneType_int, kt_NoneType_bool, kt_NoneType_str, kt_NoneType_list, kt_NoneType_tuple, kt_NoneType_dict⟩
  have cl_CN : Cls K CN := ⟨pg_CN, hd_CN, po_CN, sa_CN⟩
  have FI_CN := fun_mk (st := sInit) l_iCN c_iCN k_iCN
  have bI_CN := FI_CN.binds (ps := ["self", "kind", "sign", "figures", "power"]) fun _ _ _ _ _ _ us hl => match us, hl with | [_, _, _, _, _], _ => rfl
  have M_CN : Mk K CN fI_CN := ⟨mk_CN, aI_CN, iI_CN, kc_CN⟩
  have N : Num K mg CN := ⟨mg_of X G a_CN, cl_CN, n_CN_kind, n_CN_sign, n_CN_figures, n_CN_power, ca_CN, sn, tk, ob_CN, self_CN⟩
  have xk1 : ExcK K C1 := ⟨xga1, xgh1, xca1, sn, tk, xob1, xbe1, by rw [xcl1]; rfl⟩
  have O4 : Own4 K CN := ⟨nn_NoneType, nn_int, nn_str, nn_bool, nn_tuple, nn_list, nn_dict, kt_list_tuple⟩
  have B : Err K mg "BadNumber" C1 := ⟨mg_of X G a_C1, q1⟩
  have ES : ErrsN mg C1 C2 C3 C4 C5 := ⟨mg_of X G a_C1, mg_of X G a_C2, mg_of X G a_C3, mg_of X G a_C4, mg_of X G a_C5⟩
  have C : CaughtN K mg CR C1 C2 C3 C4 C5 := ⟨mg_of X G a_CR, ⟨cty, by rw [ccl]; rfl, cex⟩, sub1, ⟨xk1, h1_1, h1_2, h1_3, h1_4, h1_5, hv1⟩⟩
  refine ⟨fnOf "law" "law" (defArgs sLaw) (defBody sLaw) (defScope sLaw) .none kV_law dc_law pm_law an_law cd_law ct_law, fun s v => .of_eq rfl, fun base _ _ => ?_⟩
  have M : MakeN l.prog w K mg base CN fI_CN _ := ⟨M_CN, ok_init FI_CN N, bI_CN⟩
  have Gneedn := ok_needN (P := l.prog) (w := w) (base := base) D_needn O T B N
  have Gtold := ok_told (P := l.prog) (w := w) (base := base) D_told D_needn O T B N
  have Gplain := ok_plain (P := l.prog) (w := w) (base := base) D_plain D_between D_isb O T B N M
  have Gend := ok_end (P := l.prog) (w := w) (base := base) D_end D_between D_isb O T B N M
  have Gnothing := ok_nothing (P := l.prog) (w := w) (base := base) D_nothing N M
  have Gto := ok_tenTo (P := l.prog) (w := w) (base := base) D_tento D_product (ok_productOf D_product)
  have Gten := ok_tenT (P := l.prog) (w := w) (base := base) D_ten O
  have Gcmp := ok_compared (P := l.prog) (w := w) (base := base) D_compared D_neednums (ok_needNs D_neednums D_needn Gneedn) D_somek (ok_someK D_somek O N) D_side (ok_side D_side N) D_order (ok_order D_order) D_wholeat (ok_wholeAt D_wholeat D_tento Gto N) O N
  exact ok_law D_law D_number (ok_lNumber D_number D_mixed (ok_mixed D_mixed) D_ten Gten O) D_cell (ok_cell D_cell O) D_near (ok_near D_near D_ten Gten O) D_made (ok_lMade D_made D_plain Gplain D_end Gend D_nothing Gnothing)
    D_due (ok_due D_due D_ten Gten O) D_is (ok_is D_is D_lwhole (ok_lWhole D_lwhole O T)) D_compared Gcmp D_refused (ok_refused D_refused D_compared Gcmp C ES O T) D_told Gtold O T O4
theorem walk {l : OpenLaw} {q : Program} {loose : List Str} {XP : (Str → Option Value) → Heap → Prop} {YP : World → Heap → Prop} {d : DefRec} {K : Params → Frag} (hn : l.most = some 63) (hdf : d.params.defaults = [])
    (hY : ∀ (w : World) (h : Heap), YP w h → (K w.params).In h)
    (F : ∀ (w : World) (mg : Str → Option Value) (fa : Addr) (h : Heap), (K w.params).In h → h.Ns mainGlobals mg → mg d.name = some (.ref fa) →
      ∃ fd : FuncData, (∀ (s : Shared) (u : Value), BindsTo s fd ⟨[u], []⟩ [("_law_script", u)]) ∧ ∀ base : Heap, (K w.params).In base → base.Ns mainGlobals mg → FnOk l.prog w (K w.params) mg base (CX1 l.prog w) 6 fa fd ["_law_script"] ((spLaw (K w.params)))) :
    WalkO q loose XP YP l.row.toRowW d [] (fun f vs => PySem.call f vs) :=
  L2.walk_of (n := 63) (k := 6) (x := "_law_script") (CX := fun w => CX1 l.prog w) (sp := fun w => (spLaw (K w.params))) hn (by decide) hdf ⟨rfl, by decide, by decide⟩ hY F (fun _ _ a ns hl _ hS => ⟨a, ns, rfl, hS, fun _ => rfl⟩) fun _ _ _ _ _ z => by
    obtain ⟨_, _, _, _, _, _, _, _, _, _, z, _⟩ := z
    exact z
end TR
set_option Elab.async false
set_option linter.all false
open PySem PySem.W PyProof.Rows
set_option maxRecDepth 100000 in
set_option maxHeartbeats 0 in
theorem PySem.Challenge.cw_tenreckon_k17_compared_holds : PySem.Challenge.rw_tenreckon_k17_compared.Holds := by
  w_on; o_law; k_head; (case hw => w_witness2)
  k_fill
  refine TR.walk (l := PySem.Challenge.rw_tenreckon_k17_compared) rfl rfl (fun w h Y => PySem.W.kIn_of Y) ?F
  case F =>
    intro w mg fa h KX G hmg
    refine' TR.all_mk KX G hmg ?a_plain ?l_plain ?c_plain ?k_plain ?a_end ?l_end ?c_end ?k_end ?a_nothing ?l_nothing ?c_nothing ?k_nothing ?a_told ?l_told ?c_told ?k_told ?a_needn ?l_needn ?c_needn ?k_needn ?a_isb ?l_isb ?c_isb ?k_isb ?a_between ?l_between ?c_between ?k_between ?a_product ?l_product ?c_product ?k_product ?a_tento ?l_tento ?c_tento ?k_tento ?a_neednums ?l_neednums ?c_neednums ?k_neednums ?a_somek ?l_somek ?c_somek ?k_somek ?a_wholeat ?l_wholeat ?c_wholeat ?k_wholeat ?a_side ?l_side ?c_side ?k_side ?a_order ?l_order ?c_order ?k_order ?a_compared ?l_compared ?c_compared ?k_compared ?a_cell ?l_cell ?c_cell ?k_cell ?a_mixed ?l_mixed ?c_mixed ?k_mixed ?a_ten ?l_ten ?c_ten ?k_ten ?a_lwhole ?l_lwhole ?c_lwhole ?k_lwhole ?a_number ?l_number ?c_number ?k_number ?a_made ?l_made ?c_made ?k_made ?a_near ?l_near ?c_near ?k_near ?a_due ?l_due ?c_due ?k_due ?a_is ?l_is ?c_is ?k_is ?a_refused ?l_refused ?c_refused ?k_refused ?a_law ?l_law ?c_law ?k_law ?z_isinstance ?z_int ?z_bool ?z_str ?z_list ?z_tuple ?z_dict ?z_len ?z_range ?z_min ?z_max ?z_abs ?z_any ?z_all ?z_sum ?z_repr ?z_enumerate ?z_reversed ?z_zip ?z_sorted ?z_divmod ?z_set ?z_ValueError ?kt_int_int ?kt_int_bool ?kt_int_str ?kt_int_list ?kt_int_tuple ?kt_int_dict ?kt_bool_int ?kt_bool_bool ?kt_bool_str ?kt_bool_list ?kt_bool_tuple ?kt_bool_dict ?kt_str_int ?kt_str_bool ?kt_str_str ?kt_str_list ?kt_str_tuple ?kt_str_dict ?kt_list_int ?kt_list_bool ?kt_list_str ?kt_list_list ?kt_list_tuple ?kt_list_dict ?kt_tuple_int ?kt_tuple_bool ?kt_tuple_str ?kt_tuple_list ?kt_tuple_tuple ?kt_tuple_dict ?kt_dict_int ?kt_dict_bool ?kt_dict_str ?kt_dict_list ?kt_dict_tuple ?kt_dict_dict ?kt_NoneType_int ?kt_NoneType_bool ?kt_NoneType_str ?kt_NoneType_list ?kt_NoneType_tuple ?kt_NoneType_dict ?sn ?tk ?a_CN ?pg_CN ?hd_CN ?po_CN ?sa_CN ?mk_CN ?kc_CN ?ca_CN ?ob_CN ?n_CN_kind ?n_CN_sign ?n_CN_figures ?n_CN_power ?aI_CN ?iI_CN ?l_iCN ?c_iCN ?k_iCN ?self_CN ?a_C1 ?a_C2 ?a_C3 ?a_C4 ?a_C5 ?a_CR ?cty ?ccl ?cex ?q1 ?sub1 ?xga1 ?xgh1 ?xca1 ?xob1 ?xbe1 ?xcl1 ?h1_1 ?h1_2 ?h1_3 ?h1_4 ?h1_5 ?hv1 ?nn_NoneType ?nn_int ?nn_str ?nn_bool ?nn_tuple ?nn_list ?nn_dict
    (case a_plain => k_is); (case l_plain => k_is); (case c_plain => k_is); (case k_plain => k_is); (case a_end => k_is); (case l_end => k_is); (case c_end => k_is); (case k_end => k_is)
    (case a_nothing => k_is); (case l_nothing => k_is); (case c_nothing => k_is); (case k_nothing => k_is); (case a_told => k_is); (case l_told => k_is); (case c_told => k_is); (case k_told => k_is)
    (case a_needn => k_is); (case l_needn => k_is); (case c_needn => k_is); (case k_needn => k_is); (case a_isb => k_is); (case l_isb => k_is); (case c_isb => k_is); (case k_isb => k_is)
    (case a_between => k_is); (case l_between => k_is); (case c_between => k_is); (case k_between => k_is); (case a_product => k_is); (case l_product => k_is); (case c_product => k_is); (case k_product => k_is)
    (case a_tento => k_is); (case l_tento => k_is); (case c_tento => k_is); (case k_tento => k_is); (case a_neednums => k_is); (case l_neednums => k_is); (case c_neednums => k_is); (case k_neednums => k_is)
    (case a_somek => k_is); (case l_somek => k_is); (case c_somek => k_is); (case k_somek => k_is); (case a_wholeat => k_is); (case l_wholeat => k_is); (case c_wholeat => k_is); (case k_wholeat => k_is)
    (case a_side => k_is); (case l_side => k_is); (case c_side => k_is); (case k_side => k_is); (case a_order => k_is); (case l_order => k_is); (case c_order => k_is); (case k_order => k_is)
    (case a_compared => k_is); (case l_compared => k_is); (case c_compared => k_is); (case k_compared => k_is); (case a_cell => k_is); (case l_cell => k_is); (case c_cell => k_is); (case k_cell => k_is)
    (case a_mixed => k_is); (case l_mixed => k_is); (case c_mixed => k_is); (case k_mixed => k_is); (case a_ten => k_is); (case l_ten => k_is); (case c_ten => k_is); (case k_ten => k_is)
    (case a_lwhole => k_is); (case l_lwhole => k_is); (case c_lwhole => k_is); (case k_lwhole => k_is); (case a_number => k_is); (case l_number => k_is); (case c_number => k_is); (case k_number => k_is)
    (case a_made => k_is); (case l_made => k_is); (case c_made => k_is); (case k_made => k_is); (case a_near => k_is); (case l_near => k_is); (case c_near => k_is); (case k_near => k_is)
    (case a_due => k_is); (case l_due => k_is); (case c_due => k_is); (case k_due => k_is); (case a_is => k_is); (case l_is => k_is); (case c_is => k_is); (case k_is => k_is)
    (case a_refused => k_is); (case l_refused => k_is); (case c_refused => k_is); (case k_refused => k_is); (case a_law => k_is); (case l_law => k_is); (case c_law => k_is); (case k_law => k_is)
    (case z_isinstance => k_is); (case z_int => k_is); (case z_bool => k_is); (case z_str => k_is); (case z_list => k_is); (case z_tuple => k_is); (case z_dict => k_is); (case z_len => k_is)
    (case z_range => k_is); (case z_min => k_is); (case z_max => k_is); (case z_abs => k_is); (case z_any => k_is); (case z_all => k_is); (case z_sum => k_is); (case z_repr => k_is)
    (case z_enumerate => k_is); (case z_reversed => k_is); (case z_zip => k_is); (case z_sorted => k_is); (case z_divmod => k_is); (case z_set => k_is); (case z_ValueError => k_is); (case kt_int_int => kit_is)
    (case kt_int_bool => kit_is); (case kt_int_str => kit_is); (case kt_int_list => kit_is); (case kt_int_tuple => kit_is); (case kt_int_dict => kit_is); (case kt_bool_int => kit_is); (case kt_bool_bool => kit_is); (case kt_bool_str => kit_is)
    (case kt_bool_list => kit_is); (case kt_bool_tuple => kit_is); (case kt_bool_dict => kit_is); (case kt_str_int => kit_is); (case kt_str_bool => kit_is); (case kt_str_str => kit_is); (case kt_str_list => kit_is); (case kt_str_tuple => kit_is)
    (case kt_str_dict => kit_is); (case kt_list_int => kit_is); (case kt_list_bool => kit_is); (case kt_list_str => kit_is); (case kt_list_list => kit_is); (case kt_list_tuple => kit_is); (case kt_list_dict => kit_is); (case kt_tuple_int => kit_is)
    (case kt_tuple_bool => kit_is); (case kt_tuple_str => kit_is); (case kt_tuple_list => kit_is); (case kt_tuple_tuple => kit_is); (case kt_tuple_dict => kit_is); (case kt_dict_int => kit_is); (case kt_dict_bool => kit_is); (case kt_dict_str => kit_is)
    (case kt_dict_list => kit_is); (case kt_dict_tuple => kit_is); (case kt_dict_dict => kit_is); (case kt_NoneType_int => kit_is); (case kt_NoneType_bool => kit_is); (case kt_NoneType_str => kit_is); (case kt_NoneType_list => kit_is); (case kt_NoneType_tuple => kit_is)
    (case kt_NoneType_dict => kit_is); (case sn => k_is); (case tk => k_is); (case a_CN => k_is); (case pg_CN => k_is); (case hd_CN => k_is); (case po_CN => k_is); (case sa_CN => k_is)
    (case mk_CN => k_is); (case kc_CN => k_is); (case ca_CN => k_is); (case ob_CN => k_is); (case n_CN_kind => k_is); (case n_CN_sign => k_is); (case n_CN_figures => k_is); (case n_CN_power => k_is)
    (case aI_CN => k_is); (case iI_CN => k_is); (case l_iCN => k_is); (case c_iCN => k_is); (case k_iCN => k_is); (case self_CN => kit_is); (case a_C1 => k_is); (case a_C2 => k_is)
    (case a_C3 => k_is); (case a_C4 => k_is); (case a_C5 => k_is); (case a_CR => k_is); (case cty => k_is); (case ccl => k_is); (case cex => k_is); (case q1 => k_exc)
    (case sub1 => k_is); (case xga1 => k_is); (case xgh1 => k_is); (case xca1 => k_is); (case xob1 => k_is); (case xbe1 => k_is); (case xcl1 => k_is); (case h1_1 => kit_is)
    (case h1_2 => kit_is); (case h1_3 => kit_is); (case h1_4 => kit_is); (case h1_5 => kit_is); (case hv1 => kit_is); (case nn_NoneType => kit_is); (case nn_int => kit_is); (case nn_str => kit_is)
    (case nn_bool => kit_is); (case nn_tuple => kit_is); (case nn_list => kit_is); (case nn_dict => kit_is)

