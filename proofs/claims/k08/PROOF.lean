import PyProof.Rows.All
import Wide.All
import OpenK.AllK
import Wide.FinOn
import Lean
import PyProof.EqAt
import PyProof.EqKinds
import PyProof.TupleCall
import PyProof.Rows.Catch
import PyProof.Rows.TupIter
import PyProof.TupleIter
import PyProof.Seq
import PyProof.ExcInit
import PyProof.ExcClass2
import KE.KIntText
import PyProof.StrOps2
import PyProof.ConsumeWalk
import PyProof.Rows.RuleM_int
import PyProof.ZipIter
import PyProof.EnumMake
import PySem.Challenge.RW_tenreckon_k08_traps_refused
set_option Elab.async false
set_option linter.all false
set_option maxRecDepth 100000
/-! THE HAND LAYER, for ints, bools, texts, own classes, LISTS and tuples (index, slices, in, append, pop ..), calls, loops. Paste it whole ahead of your own text; what your proof does not reach may be deleted. -/
namespace L2
open PySem PySem.Spec PyProof.Rows

/-- a key: an int or a str -/
abbrev Key := Sum Int Str
def keyIs : Key → Value → Bool
  | .inl k, v => Value.isInt k v
  | .inr x, v => Value.isStrOf x v
def keyH (w : World) : Key → Int
  | .inl k => hashInt k
  | .inr x => hashStr w x
theorem keyIs_shape : ∀ {k : Key} {v : Value}, keyIs k v = true → (∃ i t, k = Sum.inl i ∧ v = Value.int i t) ∨ (∃ x t, k = Sum.inr x ∧ v = Value.str x t)
  | .inl i, v, h => by
    obtain ⟨t, e⟩ := Value.isInt_shape (k := i) (v := v) h
    exact .inl ⟨i, t, rfl, e⟩
  | .inr x, v, h => by
    obtain ⟨t, e⟩ := Value.isStrOf_shape (x := x) (v := v) h
    exact .inr ⟨x, t, rfl, e⟩
theorem keyIs_int (i : Int) (t : Tok) : keyIs (.inl i) (.int i t) = true := by simp [keyIs, Value.isInt]
theorem keyIs_str (x : Str) (t : Tok) : keyIs (.inr x) (.str x t) = true := by simp [keyIs, Value.isStrOf]
theorem key_ll (a b : Int) : decide ((Sum.inl a : Key) = Sum.inl b) = (a == b) := by
  by_cases e : a = b
  · subst e; simp
  · have h : ¬ (Sum.inl a : Key) = Sum.inl b := fun q => e (Sum.inl.inj q)
    rw [decide_eq_false h]
    exact (beq_eq_false_iff_ne.mpr e).symm
theorem key_rr (a b : Str) : decide ((Sum.inr a : Key) = Sum.inr b) = decide (a = b) := by
  by_cases e : a = b
  · subst e; simp
  · have h : ¬ (Sum.inr a : Key) = Sum.inr b := fun q => e (Sum.inr.inj q)
    rw [decide_eq_false h, decide_eq_false e]
theorem key_lr (a : Int) (b : Str) : decide ((Sum.inl a : Key) = Sum.inr b) = false := decide_eq_false (fun q => nomatch q)
theorem key_rl (a : Str) (b : Int) : decide ((Sum.inr a : Key) = Sum.inl b) = false := decide_eq_false (fun q => nomatch q)

def mixKind (prog : Program) (w : World) : PySem.KeyKind prog w Key where
  is := keyIs
  hash := keyH w
  inj := fun v a b ha hb => by
    rcases keyIs_shape ha with ⟨i, t, rfl, rfl⟩ | ⟨x, t, rfl, rfl⟩
    · rcases keyIs_shape hb with ⟨j, u, rfl, e⟩ | ⟨y, u, rfl, e⟩
      · injection e with e1 _; rw [e1]
      · exact nomatch e
    · rcases keyIs_shape hb with ⟨j, u, rfl, e⟩ | ⟨y, u, rfl, e⟩
      · exact nomatch e
      · injection e with e1 _; rw [e1]
  byValue := fun k v h => by
    rcases keyIs_shape h with ⟨i, t, rfl, rfl⟩ | ⟨x, t, rfl, rfl⟩ <;> rfl
  pyHash := fun hv h => by
    rcases keyIs_shape hv with ⟨i, t, rfl, rfl⟩ | ⟨x, t, rfl, rfl⟩
    · exact wpAny_pyHash_int h
    · exact wpAny_pyHash_str h
  eqBool := fun hu hv h => by
    rcases keyIs_shape hu with ⟨i, t, rfl, rfl⟩ | ⟨x, t, rfl, rfl⟩
    · rcases keyIs_shape hv with ⟨j, u, rfl, rfl⟩ | ⟨y, u, rfl, rfl⟩
      · rw [key_ll] at h; exact wpAny_eqBool_int h
      · rw [key_lr] at h; exact SeqAt.EqAt.int_str i t y u _ _ _ _ h
    · rcases keyIs_shape hv with ⟨j, u, rfl, rfl⟩ | ⟨y, u, rfl, rfl⟩
      · rw [key_rl] at h; exact SeqAt.EqAt.str_int x t j u _ _ _ _ h
      · rw [key_rr] at h; exact wpAny_eqBool_str h
  «strs» := fun k x t v h => by
    rcases keyIs_shape h with ⟨i, u, rfl, e⟩ | ⟨y, u, rfl, e⟩
    · exact nomatch e
    · injection e with e1 _
      subst e1
      cases v <;> rfl

theorem mixKind_int (prog : Program) (w : World) (i : Int) (t : Tok) : (mixKind prog w).is (.inl i) (.int i t) = true := keyIs_int i t
theorem mixKind_str (prog : Program) (w : World) (x : Str) (t : Tok) : (mixKind prog w).is (.inr x) (.str x t) = true := keyIs_str x t
end L2

namespace L2
open PySem PySem.Spec PyProof.Rows

/-- a value, without the heap -/
inductive V where
  | non | bl (b : Bool) | int (i : Int) | str (x : Str) | byt (b : Array UInt8) | flt (b : UInt64) | ref (a : Addr) | ty (n : String)
  deriving DecidableEq

def RelV : V → Value → Prop
  | .non, u => u = Value.none
  | .bl b, u => u = Value.bool b
  | .int i, u => ∃ t, u = Value.int i t
  | .str x, u => ∃ t, u = Value.str x t
  | .byt b, u => ∃ t, u = Value.bytes b t
  | .flt b, u => ∃ t, u = Value.float b t
  | .ref a, u => u = Value.ref a
  | .ty n, u => u = Value.type n

abbrev Vals : List V → List Value → Prop := Paired RelV
theorem Vals.length {xs : List V} {us : List Value} (r : Vals xs us) : xs.length = us.length := Paired.length r
theorem Vals.get : ∀ {xs : List V} {us : List Value} {i : Nat} {x : V}, Vals xs us → xs[i]? = some x → ∃ u, us[i]? = some u ∧ RelV x u
  | _, _, _, _, .nil, e => by simp at e
  | _, _, 0, _, .cons r _, e => by simp at e; subst e; exact ⟨_, rfl, r⟩
  | _, _, i + 1, x, .cons _ t, e => by
    obtain ⟨u, h1, h2⟩ := Vals.get (i := i) (x := x) t (by simpa using e)
    exact ⟨u, by simpa using h1, h2⟩
theorem Vals.set {x : V} {u : Value} (r : RelV x u) : ∀ {xs : List V} {us : List Value} (i : Nat), Vals xs us → Vals (xs.set i x) (us.set i u)
  | _, _, _, .nil => .nil
  | _, _, 0, .cons _ t => .cons r t
  | _, _, i + 1, .cons q t => .cons q (Vals.set r i t)
theorem Vals.append : ∀ {xs ys : List V} {us ws : List Value}, Vals xs us → Vals ys ws → Vals (xs ++ ys) (us ++ ws)
  | _, _, _, _, .nil, s => s
  | _, _, _, _, .cons r t, s => .cons r (Vals.append t s)
theorem Vals.take : ∀ {xs : List V} {us : List Value} (n : Nat), Vals xs us → Vals (xs.take n) (us.take n)
  | _, _, 0, _ => .nil
  | _, _, _ + 1, .nil => .nil
  | _, _, n + 1, .cons r t => .cons r (Vals.take n t)
theorem Vals.drop : ∀ {xs : List V} {us : List Value} (n : Nat), Vals xs us → Vals (xs.drop n) (us.drop n)
  | _, _, 0, r => r
  | _, _, _ + 1, .nil => .nil
  | _, _, n + 1, .cons _ t => Vals.drop n t
theorem Vals.none_of : ∀ {xs : List V} {us : List Value} {i : Nat}, Vals xs us → xs[i]? = none → us[i]? = none := fun {xs us i} r e => by
  have h1 := r.length
  have h2 : xs.length ≤ i := List.getElem?_eq_none_iff.mp e
  exact List.getElem?_eq_none_iff.mpr (by omega)

def RelO : Option V → Option Value → Prop
  | some v, some u => RelV v u
  | none, none => True
  | _, _ => False
def KV {κ : Type} : List (κ × V) → List (κ × Value) → Prop := Paired fun (p : κ × V) (q : κ × Value) => p.1 = q.1 ∧ RelV p.2 q.2

/-- a key of a dict (00_mix): an int or a text -/
def kV : Key → V
  | .inl i => .int i
  | .inr x => .str x

/-- what stands at a tracked address -/
inductive HO where
  /-- a list -/
  | lst (xs : List V)
  /-- a tuple (never changes) -/
  | tup (xs : List V)
  /-- a dict whose keys are ints and texts; one whose keys are tuples of ints and texts (the empty one is both) -/
  | dK (kvs : List (Key × V)) | dT (kvs : List (List Key × V))
  /-- a set of ints: its members, its size -/
  | set (S : Int → Bool) (n : Nat)
  /-- an instance of the class at C, its dict at dx, its attributes -/
  | ins (C dx : Addr) (fs : List (Str × V))
  /-- the dict of the instance at x -/
  | own (x : Addr)
  /-- the dict of an exception -/
  | xd (fs : List (Str × V))
  /-- a bound method, f of x -/
  | met (f x : Addr)
  /-- a range object lo, lo + 1, .. below hi -/
  | rng (lo hi : Int)
  /-- a thing that is known to the object (the script; a dict while a loop walks it): read, never written while it is so -/
  | frz (o : Obj) (u : HO)
  /-- a code object's table -/
  | tbl (ps : Array Value)
  /-- any other thing, by what is true of its one object (a def of one's own: SetO a S n := HO.ext fun h => ..) -/
  | ext (φ : Heap → Prop)

abbrev Hp := Addr → Option HO
def upd (H : Hp) (a : Addr) (o : HO) : Hp := fun b => if b = a then some o else H b
theorem upd_same {H : Hp} {a : Addr} {o : HO} : upd H a o a = some o := by unfold upd; rw [if_pos rfl]
theorem upd_ne {H : Hp} {a b : Addr} {o : HO} (h : b ≠ a) : upd H a o b = H b := by unfold upd; rw [if_neg h]
theorem upd_upd {H : Hp} {a : Addr} {o u : HO} : upd (upd H a o) a u = upd H a u := by
  funext b; unfold upd; split <;> rfl
/-- two objects of different content stand apart -/
theorem ne_of {H : Hp} {a b : Addr} {o u : HO} (h : H a = some o) (h' : H b = some u) (d : o ≠ u) : a ≠ b := by
  intro e; subst e; rw [h] at h'; exact d (Option.some.inj h')
theorem ne_of_none {H : Hp} {a b : Addr} {o : HO} (h : H a = some o) (h' : H b = none) : a ≠ b := by
  intro e; subst e; rw [h] at h'; cases h'

section
variable (P : Program) (w : World)
def ObjOk (H : Hp) (h : Heap) (a : Addr) : HO → Prop
  | .lst xs => xs.length ≤ sizeLine ∧ ∃ (its : List Value) (n : Nat), Vals xs its ∧ h.get? a = some { cls := .type "list", data := .seq its.toArray n }
  | .tup xs => xs.length ≤ sizeLine ∧ ∃ its : List Value, Vals xs its ∧ IsTup h a its.toArray
  | .dK kvs => kvs.length ≤ sizeLine ∧ (a == sysModules) = false ∧ ∃ vs, KV kvs vs ∧ h.DictOf (mixKind P w) a vs
  | .dT kvs => kvs.length ≤ sizeLine ∧ (a == sysModules) = false ∧ ∃ xs : List (List Key × Addr × Value),
      Paired (fun (p : List Key × V) (q : List Key × Addr × Value) => p.1 = q.1 ∧ H q.2.1 = some (.tup (p.1.map kV)) ∧ RelV p.2 q.2.2) kvs xs ∧
      ∃ o es ep, h.get? a = some o ∧ o.ExactDict ∧ o.data = .dict es ep ∧ es.toList = xs.map (entryOfKey (tupleKind (mixKind P w))) ∧ (xs.map (·.1)).Nodup
  | .set S n => h.SetOf (intKind P w) a S n
  | .ins C dx fs => H dx = some (.own a) ∧ fs.length ≤ 1000 ∧ dx ≠ a ∧ h.get? a = some (PySem.W.instObj C dx) ∧
      ∃ mA, h.Ns1 dx mA ∧ (∀ f, RelO (fs.lookup f) (mA f)) ∧ PySem.Within mA (fs.map (·.1))
  | .own _ => ∃ o, h.get? a = some o
  | .xd fs => ∃ mA, h.Ns1 a mA ∧ ∀ f, RelO (fs.lookup f) (mA f)
  | .rng lo hi => ∃ t u v, h.get? a = some { cls := .type "range", data := .fields #[.int lo t, .int hi u, .int 1 v] }
  | .frz o u => h.get? a = some o ∧ ObjOk H h a u
  | .tbl ps => h.get? a = some { cls := .none, data := .fields ps }
  | .met f x => h.get? a = some (PySem.W.methodObj (.ref f) (.ref x))
  | .ext φ => φ h ∧ (∃ o, h.get? a = some o) ∧ ∀ h1 h2 : Heap, φ h1 → (∀ o, h1.get? a = some o → h2.get? a = some o) → φ h2
/-- the abstract heap is held -/
def HOk (H : Hp) (h : Heap) : Prop := ∀ a o, H a = some o → ObjOk P w H h a o
end

section
variable {P : Program} {w : World} {H H' : Hp} {h h' : Heap} {a : Addr} {o : HO}
theorem ObjOk.lt (x : ObjOk P w H h a o) : a < h.objs.size := by
  cases o with
  | lst xs => obtain ⟨_, _, _, _, e⟩ := x; exact Heap.lt_size e
  | tup xs => obtain ⟨_, _, _, p⟩ := x; exact p.lt
  | dK kvs => obtain ⟨_, _, _, _, o, _, _, e, _⟩ := x; exact Heap.lt_size e
  | dT kvs => obtain ⟨_, _, _, _, o, _, _, e, _⟩ := x; exact Heap.lt_size e
  | set S n => obtain ⟨o, _, _, _, e, _⟩ := x; exact Heap.lt_size e
  | ins C dx fs => obtain ⟨_, _, _, e, _⟩ := x; exact Heap.lt_size e
  | own y => obtain ⟨_, e⟩ := x; exact Heap.lt_size e
  | xd fs => obtain ⟨_, ⟨_, _, _, e, _⟩, _⟩ := x; exact Heap.lt_size e
  | rng lo hi => obtain ⟨_, _, _, e⟩ := x; exact Heap.lt_size e
  | frz ob u => obtain ⟨e, _⟩ := x; exact Heap.lt_size e
  | tbl ps => exact Heap.lt_size (show h.get? a = some _ from x)
  | met f y => exact Heap.lt_size (show h.get? a = some _ from x)
  | ext φ => obtain ⟨_, ⟨_, e⟩, _⟩ := x; exact Heap.lt_size e
theorem Paired.mapP {α β : Type} {F G : α → β → Prop} : ∀ {l₁ : List α} {l₂ : List β}, Paired F l₁ l₂ → (∀ a b, F a b → G a b) → Paired G l₁ l₂
  | _, _, .nil, _ => .nil
  | _, _, .cons r t, f => .cons (f _ _ r) (Paired.mapP t f)
/-- what an object's description leans on: its own object, its own dict, the tuples -/
theorem ObjOk.stay (x : ObjOk P w H h a o) (k : ∀ b u, (b = a ∨ H b = some (.own a)) → h.get? b = some u → h'.get? b = some u)
    (ho : ∀ b, H b = some (.own a) → H' b = some (.own a)) (ht : ∀ b xs, H b = some (.tup xs) → H' b = some (.tup xs)) : ObjOk P w H' h' a o := by
  induction o with
  | lst xs => obtain ⟨z, its, n, r, e⟩ := x; exact ⟨z, its, n, r, k _ _ (.inl rfl) e⟩
  | tup xs => obtain ⟨z, its, r, ob, e, c⟩ := x; exact ⟨z, its, r, ob, k _ _ (.inl rfl) e, c⟩
  | dK kvs => obtain ⟨z, y, vs, r, ob, es, ep, e, c⟩ := x; exact ⟨z, y, vs, r, ob, es, ep, k _ _ (.inl rfl) e, c⟩
  | dT kvs =>
    obtain ⟨z, y, xs, r, ob, es, ep, e, c⟩ := x
    exact ⟨z, y, xs, Paired.mapP r fun p q z => ⟨z.1, ht _ _ z.2.1, z.2.2⟩, ob, es, ep, k _ _ (.inl rfl) e, c⟩
  | set S n => obtain ⟨ob, es, ep, t, e, c⟩ := x; exact ⟨ob, es, ep, t, k _ _ (.inl rfl) e, c⟩
  | ins C dx fs =>
    obtain ⟨d, z, ne, e, mA, ⟨od, es, ep, e2, c⟩, r⟩ := x
    exact ⟨ho _ d, z, ne, k _ _ (.inl rfl) e, mA, ⟨od, es, ep, k _ _ (.inr d) e2, c⟩, r⟩
  | own y => obtain ⟨ob, e⟩ := x; exact ⟨ob, k _ _ (.inl rfl) e⟩
  | xd fs => obtain ⟨mA, ⟨od, es, ep, e, c⟩, r⟩ := x; exact ⟨mA, ⟨od, es, ep, k _ _ (.inl rfl) e, c⟩, r⟩
  | rng lo hi => obtain ⟨t, u, v, e⟩ := x; exact ⟨t, u, v, k _ _ (.inl rfl) e⟩
  | frz ob u ih => obtain ⟨e, q⟩ := x; exact ⟨k _ _ (.inl rfl) e, ih q⟩
  | tbl ps =>
    have e : h.get? a = some { cls := .none, data := .fields ps } := x
    show h'.get? a = some { cls := .none, data := .fields ps }
    exact k a _ (.inl rfl) e
  | met f y =>
    have e : h.get? a = some (PySem.W.methodObj (.ref f) (.ref y)) := x
    show h'.get? a = some (PySem.W.methodObj (.ref f) (.ref y))
    exact k a _ (.inl rfl) e
  | ext φ => obtain ⟨p, ⟨o, e⟩, st⟩ := x; exact ⟨st _ _ p fun o q => k _ _ (.inl rfl) q, ⟨o, k _ _ (.inl rfl) e⟩, st⟩
theorem HOk.lt (x : HOk P w H h) (e : H a = some o) : a < h.objs.size := (x a o e).lt
theorem HOk.fresh (x : HOk P w H h) (e : h.objs.size ≤ a) : H a = none := by
  cases q : H a with
  | none => rfl
  | some u => exact absurd (Nat.lt_of_lt_of_le (x.lt q) e) (Nat.lt_irrefl _)
/-- every object of the heap is kept -/
theorem HOk.kept (x : HOk P w H h) (k : ∀ b u, h.get? b = some u → h'.get? b = some u) : HOk P w H h' := fun a o e =>
  (x a o e).stay (fun b u _ q => k b u q) (fun _ q => q) fun _ _ q => q
/-- a new object is laid and tracked -/
theorem HOk.laid (x : HOk P w H h) (k : ∀ b u, h.get? b = some u → h'.get? b = some u) (hp : h.objs.size ≤ a) (new : ObjOk P w (upd H a o) h' a o) : HOk P w (upd H a o) h' := fun b u e => by
  have hn := x.fresh hp
  by_cases hb : b = a
  · subst hb; rw [upd_same] at e; cases e; exact new
  · rw [upd_ne hb] at e
    exact (x b u e).stay (fun c v _ q => k c v q) (fun c q => by rw [upd_ne (ne_of_none q hn)]; exact q) fun c xs q => by rw [upd_ne (ne_of_none q hn)]; exact q
end

/-- what may be read as u: it is u, or a known u -/
def Rd (H : Hp) (a : Addr) (u : HO) : Prop := H a = some u ∨ ∃ o, H a = some (.frz o u)
theorem Rd.of {H : Hp} {a : Addr} {u : HO} (h : H a = some u) : Rd H a u := .inl h
theorem Rd.ok {P : Program} {w : World} {H : Hp} {h : Heap} {a : Addr} {u : HO} (r : Rd H a u) (x : HOk P w H h) : ObjOk P w H h a u := by
  rcases r with r | ⟨o, r⟩
  · exact x a u r
  · obtain ⟨_, q⟩ := x a _ r
    exact q
/-- what may be written -/
def Mut : Option HO → Prop
  | some (.lst _) => True
  | some (.dK _) => True
  | some (.dT _) => True
  | some (.set _ _) => True
  | some (.ins _ _ _) => True
  | some (.ext _) => True
  | _ => False
section
variable {P : Program} {w : World} {H : Hp} {h h' : Heap} {x e : Addr} {o' : HO}
/-- the object at e is changed: x itself, or the dict of the instance x -/
theorem HOk.write (ok : HOk P w H h) (mu : Mut (H x)) (he : e = x ∨ H e = some (.own x)) (k : ∀ b u, b ≠ e → h.get? b = some u → h'.get? b = some u) (heo : ∃ u, h'.get? e = some u)
    (new : ObjOk P w (upd H x o') h' x o') : HOk P w (upd H x o') h' := fun b u q => by
  have nown : ∀ c y, H c = some (.own y) → c ≠ x := fun c y r z => by subst z; rw [r] at mu; exact mu
  have ntup : ∀ c xs, H c = some (.tup xs) → c ≠ x := fun c xs r z => by subst z; rw [r] at mu; exact mu
  by_cases hb : b = x
  · subst hb; rw [upd_same] at q; cases q; exact new
  · rw [upd_ne hb] at q
    by_cases hbe : b = e
    · have q' : H b = some (.own x) := by
        rcases he with z | z
        · exact absurd (hbe.trans z) hb
        · rw [hbe]; exact z
      rw [q] at q'; cases q'
      obtain ⟨v, hv⟩ := heo
      exact ⟨v, by rw [hbe]; exact hv⟩
    · refine (ok b u q).stay (fun c v hc r => k c v ?_ r) (fun c r => by rw [upd_ne (nown c b r)]; exact r) fun c xs r => by rw [upd_ne (ntup c xs r)]; exact r
      rcases hc with rfl | hc
      · exact hbe
      · rintro rfl
        rcases he with z | z
        · exact nown c b hc z
        · rw [hc] at z; cases z; exact hb rfl
end

/-! ### kept unless tracked; of the frames at fs (the callers') the slots may change (an exception that passes writes there); of the records at ex (iterators) nothing is said -/
structure Un (fs ex : List Addr) (H H' : Hp) (h h' : Heap) : Prop where
  keep : ∀ b o, h.get? b = some o → H b = none → b ∉ fs → b ∉ ex → h'.get? b = some o
  slot : ∀ b o, h.get? b = some o → H b = none → b ∈ fs → b ∉ ex → ∃ sl, h'.get? b = some { o with slots := sl }
  free : ∀ b o, h.get? b = some o → H b = none → b ∉ ex → H' b = none
  there : ∀ b o, h.get? b = some o → b ∉ ex → ∃ o', h'.get? b = some o'
  tups : ∀ b xs, H b = some (.tup xs) → H' b = some (.tup xs)
  frzs : ∀ b o u, H b = some (.frz o u) → H' b = some (.frz o u)
  tbls : ∀ b ps, H b = some (.tbl ps) → ∃ more, H' b = some (.tbl (ps ++ more))
section
variable {fs fs' ex ex' : List Addr} {H H1 H2 : Hp} {h h1 h2 h' : Heap} {a x e : Addr} {o : HO}
theorem Un.any (u : Un fs ex H H1 h h1) {b : Addr} {ob : Obj} (q : h.get? b = some ob) (n : H b = none) (hx : b ∉ ex) : ∃ sl, h1.get? b = some { ob with slots := sl } := by
  by_cases hb : b ∈ fs
  · exact u.slot b ob q n hb hx
  · exact ⟨ob.slots, u.keep b ob q n hb hx⟩
theorem Un.trans (a : Un fs ex H H1 h h1) (b : Un fs ex H1 H2 h1 h2) : Un fs ex H H2 h h2 where
  keep := fun c ob q n hc hx => b.keep c ob (a.keep c ob q n hc hx) (a.free c ob q n hx) hc hx
  slot := fun c ob q n hc hx => by
    obtain ⟨sl, e1⟩ := a.slot c ob q n hc hx
    obtain ⟨sl', e2⟩ := b.slot c _ e1 (a.free c ob q n hx) hc hx
    exact ⟨sl', e2⟩
  free := fun c ob q n hx => by
    obtain ⟨o', e1⟩ := a.there c ob q hx
    exact b.free c o' e1 (a.free c ob q n hx) hx
  there := fun c ob q hx => by
    obtain ⟨o', e1⟩ := a.there c ob q hx
    exact b.there c o' e1 hx
  tups := fun c xs q => b.tups c xs (a.tups c xs q)
  frzs := fun c ob xs q => b.frzs c ob xs (a.frzs c ob xs q)
  tbls := fun c ps q => by
    obtain ⟨m1, e1⟩ := a.tbls c ps q
    obtain ⟨m2, e2⟩ := b.tbls c _ e1
    exact ⟨m1 ++ m2, by rw [e2, Array.append_assoc]⟩
theorem Un.kept (k : ∀ b u, h.get? b = some u → h'.get? b = some u) : Un fs ex H H h h' :=
  ⟨fun b ob q _ _ _ => k b ob q, fun b ob q _ _ _ => ⟨ob.slots, k b ob q⟩, fun _ _ _ n _ => n, fun b ob q _ => ⟨ob, k b ob q⟩, fun _ _ q => q, fun _ _ _ q => q, fun _ ps q => ⟨#[], by rw [q]; simp⟩⟩
theorem Un.refl : Un fs ex H H h h := Un.kept fun _ _ q => q
theorem Un.laid (k : ∀ b u, h.get? b = some u → h'.get? b = some u) (hp : h.objs.size ≤ a) (hn : H a = none) : Un fs ex H (upd H a o) h h' where
  keep := fun b u q _ _ _ => k b u q
  slot := fun b u q _ _ _ => ⟨u.slots, k b u q⟩
  free := fun b u q n _ => by rw [upd_ne (Nat.ne_of_lt (Nat.lt_of_lt_of_le (Heap.lt_size q) hp))]; exact n
  there := fun b u q _ => ⟨u, k b u q⟩
  tups := fun b xs q => by rw [upd_ne (ne_of_none q hn)]; exact q
  frzs := fun b u xs q => by rw [upd_ne (ne_of_none q hn)]; exact q
  tbls := fun b ps q => ⟨#[], by rw [upd_ne (ne_of_none q hn), q]; simp⟩
theorem Un.write (mu : Mut (H x)) (he : e = x ∨ H e = some (.own x)) (k : ∀ b u, b ≠ e → h.get? b = some u → h'.get? b = some u) (heo : ∃ u, h'.get? e = some u) : Un fs ex H (upd H x o) h h' := by
  have hx : ∀ b, H b = none → b ≠ x := fun b n z => by subst z; rw [n] at mu; exact mu
  have hb : ∀ b, H b = none → b ≠ e := fun b n z => by
    subst z
    rcases he with r | r
    · exact hx b n r
    · rw [n] at r; cases r
  have hm : ∀ b u, H b = some u → ¬ Mut (some u) → b ≠ x := fun b u q nm z => by subst z; rw [q] at mu; exact nm mu
  refine ⟨fun b u q n _ _ => k b u (hb b n) q, fun b u q n _ _ => ⟨u.slots, k b u (hb b n) q⟩, fun b u q n _ => by rw [upd_ne (hx b n)]; exact n, fun b u q _ => ?_,
    fun b xs q => by rw [upd_ne (hm b _ q fun z => z)]; exact q, fun b u xs q => by rw [upd_ne (hm b _ q fun z => z)]; exact q, fun b ps q => ⟨#[], by rw [upd_ne (hm b _ q fun z => z), q]; simp⟩⟩
  by_cases hbe : b = e
  · subst hbe; exact heo
  · exact ⟨u, k b u hbe q⟩
theorem Un.mono (u : Un fs ex H H1 h h1) (hs : ∀ b ∈ fs, b ∈ fs') (hx : ∀ b ∈ ex, b ∈ ex') : Un fs' ex' H H1 h h1 :=
  ⟨fun b ob q n hb he => u.keep b ob q n (fun z => hb (hs b z)) fun z => he (hx b z), fun _ _ q n _ he => u.any q n fun z => he (hx _ z), fun b ob q n he => u.free b ob q n fun z => he (hx b z), fun b ob q he => u.there b ob q fun z => he (hx b z), u.tups, u.frzs, u.tbls⟩
end

/-! ### the heap without what is tracked -/
def trk (h : Heap) (H : Hp) : List Addr := (List.range h.objs.size).filter fun a => (H a).isSome
def hidT (h : Heap) (H : Hp) : Heap := PySem.W.hideAll h (trk h H)
theorem hidT_size (h : Heap) (H : Hp) : (hidT h H).objs.size = h.objs.size := PySem.W.hideAll_size _ _
theorem hidT_get {h : Heap} {H : Hp} {b : Addr} {o : Obj} (e : h.get? b = some o) (n : H b = none) : (hidT h H).get? b = some o :=
  PySem.W.hideAll_get _ e fun hm => by
    have q : (H b).isSome = true := (List.mem_filter.mp hm).2
    rw [n] at q; simp at q
theorem of_hidT {h : Heap} {H : Hp} {b : Addr} {o : Obj} (e : (hidT h H).get? b = some o) : h.get? b = some o ∧ H b = none := by
  have e' : h.get? b = some o := PySem.W.of_hideAll (trk h H) e
  refine ⟨e', ?_⟩
  cases q : H b with
  | none => rfl
  | some x =>
    have hm : b ∈ trk h H := List.mem_filter.mpr ⟨List.mem_range.mpr (Heap.lt_size e'), by simp [q]⟩
    have z : (hidT h H).get? b = none := PySem.W.hideAll_none (trk h H) hm
    rw [z] at e; cases e

/-! ### OpenK's ledger, filled with every new object but one -/
def allNews (g h : Heap) (L : Addr) : List (Addr × Obj) := (List.range h.objs.size).filterMap fun a => if a = L ∨ (g.get? a).isSome = true then none else (h.get? a).map fun o => (a, o)
def rest (g h : Heap) (L d : Addr) : List (Addr × Obj) := (allNews g h L).filter fun p => decide (p.1 ≠ d)
end L2

namespace L2
open PySem PySem.Spec PyProof.Rows

/-- the module's facts, over the base: the heap at the law's entry without what is tracked there -/
structure Mod (K : PySem.W.Frag) (mg : Str → Option Value) (base : Heap) : Prop where
  kin : K.In base
  glob : base.Ns mainGlobals mg
  blt : ∃ mb, base.Ns builtinsNs mb ∧ ∀ x : Str, x ≠ "__name__" → mb x = bootBuiltins x
  nolimit : base.NoLimit

/-- the context: a def's body (or a comprehension's block) running. base: fixed through the whole law; s₀, H₀: the entry; outer: the frames whose slots others may change (a def's callers); stack: all frames that run;
   ex: iterators that were made ahead of the entry and are walked here (a comprehension's); fn: the names whose cells were made at the entry (a def: all; a comprehension's block: its own); calm: not within an except suite; pn: pins that every state bears; xe: what is wanted of an exception that leaves the code -/
structure Cx where
  prog : Program
  w : World
  K : PySem.W.Frag
  mg : Str → Option Value
  base : Heap
  A : Around
  N : List Str
  s₀ : Shared
  H₀ : Hp
  env : Env
  outer : List Env
  stack : List Env
  ex : List Addr
  fn : Str → Bool
  calm : Bool
  pn : List (Addr × Obj)
  xe : Value → Shared → Prop
/-- the callers' frames -/
def frs (l : List Env) : List Addr := l.filterMap (·.frame)
abbrev Cx.fs (X : Cx) : List Addr := frs X.outer

def Vis (sc : Scope) (x : Str) : Prop := sc.names.lookup x = some .local ∨ sc.names.lookup x = some .cell ∨ sc.names.lookup x = some .free
def Loc (sc : Scope) (x : Str) : Prop := sc.names.lookup x = some .local ∨ sc.names.lookup x = some .cell
def Look (env : Env) (h : Heap) (m : Str → Option Value) (x : Str) (u : Value) : Prop :=
  (env.kindOf x = some .local ∧ m x = some u) ∨ ((env.kindOf x = some .cell ∨ env.kindOf x = some .free) ∧ ∃ c, env.cells.lookup x = some c ∧ h.IsCell c (some u))

structure Cx.Ok (X : Cx) : Prop where
  mod : Mod X.K X.mg X.base
  kind : X.env.scope.kind = .function
  glob : X.env.globals = mainGlobals
  blt : X.env.builtins = builtinsNs
  above : X.s₀.heap.objs.size ≤ X.env.locals
  inj : ∀ x y c, X.env.cells.lookup x = some c → X.env.cells.lookup y = some c → x = y
  has : ∀ x, (X.env.kindOf x = some .cell ∨ X.env.kindOf x = some .free) → ∃ c, X.env.cells.lookup x = some c
  cab : ∀ x c, X.fn x = true → X.env.cells.lookup x = some c → X.s₀.heap.objs.size ≤ c
  hd : X.calm = true → X.A.handled = none
  frames : X.A.frames = some X.stack
  stk : X.stack = X.outer ∨ (X.stack = X.env :: X.outer ∧ X.env.frame = some X.env.locals)
  exf : ∀ b ∈ X.ex, b ≠ X.env.locals ∧ ∀ x c, X.env.cells.lookup x = some c → c ≠ b
  bs : ∀ b o, X.base.get? b = some o → X.s₀.heap.get? b = some o ∧ X.H₀ b = none
  bsz : X.base.objs.size ≤ X.s₀.heap.objs.size
  noex : ∀ b o, X.base.get? b = some o → b ∉ X.ex
  exfs : ∀ b ∈ X.ex, b ∉ X.fs
  funs : X.s₀.heap.FunFrames X.base X.outer
  frf : ∀ b ∈ X.fs, X.H₀ b = none

structure Inv (X : Cx) (pins : List (Addr × Obj)) (σ : List (Option V)) (H : Hp) (s : Shared) : Prop where
  ok : X.Ok
  os : s.os = X.s₀.os
  bare : AllBare s.gens
  base : Un X.fs X.ex X.H₀ H X.s₀.heap s.heap
  loc : ∃ m, s.heap.Ns X.env.locals m ∧ ∀ (i : Nat) (x : Str) (v : V), X.N[i]? = some x → σ[i]? = some (some v) → Vis X.env.scope x → ∃ u, RelV v u ∧ Look X.env s.heap m x u
  cell : ∀ x c, X.env.cells.lookup x = some c → ∃ v, s.heap.IsCell c v
  free : H X.env.locals = none
  freeC : ∀ x c, X.env.cells.lookup x = some c → H c = none
  pin : ∀ p ∈ X.pn ++ pins, s.heap.get? p.1 = some p.2 ∧ H p.1 = none ∧ p.1 ≠ X.env.locals ∧ p.1 ∉ X.fs ∧ ∀ v, p.2.data ≠ .cell v
  hok : HOk X.prog X.w H s.heap
  len : σ.length = X.N.length

section
variable {X : Cx} {pins : List (Addr × Obj)} {σ : List (Option V)} {H H' : Hp} {s : Shared} {h' : Heap}

theorem Cx.Ok.nofr (ok : X.Ok) {b : Addr} {o : Obj} (e : X.base.get? b = some o) : b ∉ X.fs := fun hb => by
  have := (ok.funs.mem hb).1
  rw [e] at this; cases this
theorem Inv.bs (I : Inv X pins σ H s) : ∀ b o, X.base.get? b = some o → s.heap.get? b = some o ∧ H b = none := fun b o e =>
  ⟨I.base.keep b o (I.ok.bs b o e).1 (I.ok.bs b o e).2 (I.ok.nofr e) (I.ok.noex b o e), I.base.free b o (I.ok.bs b o e).1 (I.ok.bs b o e).2 (I.ok.noex b o e)⟩
theorem Inv.bk (I : Inv X pins σ H s) : ∀ b o, X.base.get? b = some o → s.heap.get? b = some o := fun b o e => (I.bs b o e).1
theorem Inv.mod (I : Inv X pins σ H s) : Mod X.K X.mg X.base := I.ok.mod
theorem Inv.kIn (I : Inv X pins σ H s) : X.K.In s.heap := I.ok.mod.kin.keeps I.bk
theorem Inv.nolimit (I : Inv X pins σ H s) : s.heap.NoLimit := I.ok.mod.nolimit.keeps I.bk
/-- the frame over the base: for OpenK's rules (K.In X.base is I.mod.kin) -/
theorem Inv.fr (I : Inv X pins σ H s) : ∃ m, Fr X.base X.env.locals s.heap m :=
  let ⟨m, hn, _⟩ := I.loc
  ⟨m, hn, I.bk, Nat.le_trans I.ok.bsz I.ok.above⟩
theorem Inv.lt (I : Inv X pins σ H s) : X.env.locals < s.heap.objs.size := let ⟨_, hn, _⟩ := I.loc; hn.lt
theorem Inv.sz (I : Inv X pins σ H s) : X.s₀.heap.objs.size ≤ s.heap.objs.size := Nat.le_trans I.ok.above (Nat.le_of_lt I.lt)
theorem Inv.nofs (I : Inv X pins σ H s) {a : Addr} (h : s.heap.objs.size ≤ a) : a ∉ X.fs := fun hb => by
  obtain ⟨_, o, ho, _⟩ := I.ok.funs.mem hb
  exact absurd (Nat.lt_of_lt_of_le (Heap.lt_size ho) (Nat.le_trans I.sz h)) (Nat.lt_irrefl _)
theorem Inv.cne (I : Inv X pins σ H s) : ∀ x c, X.env.cells.lookup x = some c → c ≠ X.env.locals := fun x c e z => by
  obtain ⟨v, o, ho, hd⟩ := I.cell x c e
  obtain ⟨m, ⟨o', es, ep, ho', hd', _⟩, _⟩ := I.loc
  rw [z, ho'] at ho; cases ho; rw [hd'] at hd; cases hd
theorem Inv.funs (I : Inv X pins σ H s) : s.heap.FunFrames X.base X.outer := by
  have all : ∀ (l : List Env), (∀ b ∈ frs l, b ∈ X.fs) → X.s₀.heap.FunFrames X.base l → s.heap.FunFrames X.base l := by
    intro l
    induction l with
    | nil => intro _ _; trivial
    | cons env r ih =>
      intro hs hl
      obtain ⟨hk, ⟨L, o, hf, hn, ho, hd⟩, hr⟩ := hl
      have hL : L ∈ X.fs := hs L (by unfold frs; rw [List.filterMap_cons, hf]; exact List.mem_cons_self)
      obtain ⟨sl, e⟩ := I.base.slot L o ho (I.ok.frf L hL) hL fun z => I.ok.exfs L z hL
      exact ⟨hk, ⟨L, _, hf, hn, e, hd⟩, ih (fun b hb => hs b (by unfold frs; rw [List.filterMap_cons, hf]; exact List.mem_cons_of_mem _ hb)) hr⟩
  exact all X.outer (fun _ hb => hb) I.ok.funs

/-- the frames that run, for a call -/
theorem Inv.stack (I : Inv X pins σ H s) : s.heap.FunFrames X.base X.stack := by
  rcases I.ok.stk with e | ⟨e, hf⟩
  · rw [e]; exact I.funs
  · rw [e]
    obtain ⟨m, hn, _⟩ := I.loc
    refine .cons (by rw [I.ok.kind]; decide) hf hn ?_ I.funs
    exact Heap.get?_none_of_le (Nat.le_trans I.ok.bsz I.ok.above)
theorem Inv.stkSub (I : Inv X pins σ H s) : ∀ b ∈ frs X.stack, b ∈ X.env.locals :: X.fs := fun b hb => by
  rcases I.ok.stk with e | ⟨e, hf⟩
  · rw [e] at hb; exact List.mem_cons_of_mem _ hb
  · rw [e] at hb
    unfold frs at hb
    rw [List.filterMap_cons, hf] at hb
    exact hb
theorem Inv.stkFree (I : Inv X pins σ H s) : ∀ b ∈ frs X.stack, H b = none := fun b hb => by
  rcases List.mem_cons.mp (I.stkSub b hb) with e | hb
  · rw [e]; exact I.free
  · obtain ⟨_, o, ho, _⟩ := I.ok.funs.mem hb
    exact I.base.free b o ho (I.ok.frf b hb) fun z => I.ok.exfs b z hb

/-- THE STEP: the untracked objects but the frame and the records at ch are kept (the callers' frames up to slots), the frame's map is kept, the new abstract heap is held -/
theorem Inv.step {g' : Array GenState} {t' : Nat} {d' : Drawn} {ch : List Addr} (I : Inv X pins σ H s)
    (hch : ∀ b ∈ ch, (b ∈ X.ex ∨ X.s₀.heap.objs.size ≤ b) ∧ b ≠ X.env.locals ∧ (∀ x c, X.env.cells.lookup x = some c → c ≠ b) ∧ ∀ p ∈ X.pn ++ pins, p.1 ≠ b)
    (keep : ∀ b o, b ≠ X.env.locals → b ∉ X.fs → b ∉ ch → s.heap.get? b = some o → H b = none → h'.get? b = some o)
    (slot : ∀ b o, b ≠ X.env.locals → b ∈ X.fs → b ∉ ch → s.heap.get? b = some o → H b = none → ∃ sl, h'.get? b = some { o with slots := sl }) (free : ∀ b o, b ∉ ch → s.heap.get? b = some o → H b = none → H' b = none)
    (there : ∀ b o, b ∉ ch → s.heap.get? b = some o → ∃ o', h'.get? b = some o')
    (tups : ∀ b xs, H b = some (.tup xs) → H' b = some (.tup xs)) (frzs : ∀ b o u, H b = some (.frz o u) → H' b = some (.frz o u)) (tbls : ∀ b ps, H b = some (.tbl ps) → ∃ more, H' b = some (.tbl (ps ++ more)))
    (ns : ∀ m, s.heap.Ns X.env.locals m → h'.Ns X.env.locals m) (hok : HOk X.prog X.w H' h') (hg : AllBare g') :
    Inv X pins σ H' { s with heap := h', gens := g', drawn := d', toks := t' } := by
  have neL : ∀ b o, X.s₀.heap.get? b = some o → b ≠ X.env.locals := fun b o e => Nat.ne_of_lt (Nat.lt_of_lt_of_le (Heap.lt_size e) I.ok.above)
  have neC : ∀ b o, X.s₀.heap.get? b = some o → b ∉ X.ex → b ∉ ch := fun b o e hx hb => by
    rcases (hch b hb).1 with z | z
    · exact hx z
    · exact absurd (Nat.lt_of_lt_of_le (Heap.lt_size e) z) (Nat.lt_irrefl _)
  have cellK : ∀ x c, X.env.cells.lookup x = some c → ∀ v, s.heap.IsCell c v → h'.IsCell c v := fun x c e v ⟨o, ho, hd⟩ => by
    have nch : c ∉ ch := fun z => (hch c z).2.2.1 x c e rfl
    by_cases hc : c ∈ X.fs
    · obtain ⟨sl, q⟩ := slot c o (I.cne x c e) hc nch ho (I.freeC x c e)
      exact ⟨_, q, hd⟩
    · exact ⟨o, keep c o (I.cne x c e) hc nch ho (I.freeC x c e), hd⟩
  refine ⟨I.ok, I.os, hg, ⟨fun b o e n hb hx => ?_, fun b o e n hb hx => ?_, fun b o e n hx => ?_, fun b o e hx => ?_, fun b xs e => tups b xs (I.base.tups b xs e), fun b o xs e => frzs b o xs (I.base.frzs b o xs e), fun b ps e => ?_⟩, ?_, fun x c e => ?_, ?_, fun x c e => ?_, fun p hp => ?_, hok, I.len⟩
  · exact keep b o (neL b o e) hb (neC b o e hx) (I.base.keep b o e n hb hx) (I.base.free b o e n hx)
  · obtain ⟨sl, e1⟩ := I.base.slot b o e n hb hx
    obtain ⟨sl', e2⟩ := slot b _ (neL b o e) hb (neC b o e hx) e1 (I.base.free b o e n hx)
    exact ⟨sl', e2⟩
  · obtain ⟨o', e1⟩ := I.base.there b o e hx
    exact free b o' (neC b o e hx) e1 (I.base.free b o e n hx)
  · obtain ⟨o', e1⟩ := I.base.there b o e hx
    exact there b o' (neC b o e hx) e1
  · obtain ⟨m1, e1⟩ := I.base.tbls b ps e
    obtain ⟨m2, e2⟩ := tbls b _ e1
    exact ⟨m1 ++ m2, by rw [e2, Array.append_assoc]⟩
  · obtain ⟨m, hn, hl⟩ := I.loc
    refine ⟨m, ns m hn, fun i x v e1 e2 e3 => ?_⟩
    obtain ⟨u, r, l⟩ := hl i x v e1 e2 e3
    refine ⟨u, r, ?_⟩
    rcases l with l | ⟨k, c, e, z⟩
    · exact .inl l
    · exact .inr ⟨k, c, e, cellK x c e _ z⟩
  · obtain ⟨v, z⟩ := I.cell x c e
    exact ⟨v, cellK x c e v z⟩
  · obtain ⟨m, ⟨o, _, _, ho, _⟩, _⟩ := I.loc
    exact free _ o (fun z => (hch _ z).2.1 rfl) ho I.free
  · obtain ⟨v, o, ho, hd⟩ := I.cell x c e
    exact free c o (fun z => (hch c z).2.2.1 x c e rfl) ho (I.freeC x c e)
  · obtain ⟨e, n, ne, nf, d⟩ := I.pin p hp
    have nch : p.1 ∉ ch := fun z => (hch p.1 z).2.2.2 p hp rfl
    exact ⟨keep p.1 p.2 ne nf nch e n, free p.1 p.2 nch e n, ne, nf, d⟩
/-- .. where the frame's own object is kept too -/
theorem Inv.un {t' : Nat} (I : Inv X pins σ H s) (u : Un X.fs [] H H' s.heap h') (hok : HOk X.prog X.w H' h') : Inv X pins σ H' { s with heap := h', toks := t' } := by
  obtain ⟨m, ⟨o, es, ep, ho, r⟩, _⟩ := id I.loc
  obtain ⟨sl, hL⟩ := u.any ho I.free (by simp)
  exact I.step (g' := s.gens) (d' := s.drawn) (ch := []) (fun _ z => nomatch z) (fun b o _ hb _ e n => u.keep b o e n hb (by simp)) (fun b o _ hb _ e n => u.slot b o e n hb (by simp)) (fun b o _ e n => u.free b o e n (by simp)) (fun b o _ e => u.there b o e (by simp)) u.tups u.frzs u.tbls (fun m' hm => by
    obtain ⟨o', es', ep', ho', r'⟩ := hm
    rw [ho] at ho'; cases ho'
    exact ⟨_, es', ep', hL, r'⟩) hok I.bare
/-- behind a call (or a comprehension's block): the slots of this frame may have changed too, the records at ch may have turned -/
theorem Inv.call {g' : Array GenState} {t' : Nat} {d' : Drawn} {ch : List Addr} (I : Inv X pins σ H s) (u : Un (frs X.stack) ch H H' s.heap h') (hok : HOk X.prog X.w H' h') (hg : AllBare g')
    (hch : ∀ b ∈ ch, (b ∈ X.ex ∨ X.s₀.heap.objs.size ≤ b) ∧ b ≠ X.env.locals ∧ (∀ x c, X.env.cells.lookup x = some c → c ≠ b) ∧ ∀ p ∈ X.pn ++ pins, p.1 ≠ b) :
    Inv X pins σ H' { s with heap := h', gens := g', drawn := d', toks := t' } := by
  obtain ⟨m, ⟨o, es, ep, ho, r⟩, _⟩ := id I.loc
  obtain ⟨sl, hL⟩ := u.any ho I.free fun z => (hch _ z).2.1 rfl
  exact I.step (ch := ch) hch (fun b o hL hb hc e n => u.keep b o e n (fun z => (List.mem_cons.mp (I.stkSub b z)).elim hL hb) hc) (fun b o _ _ hc e n => u.any e n hc) (fun b o hc e n => u.free b o e n hc) (fun b o hc e => u.there b o e hc) u.tups u.frzs u.tbls (fun m' hm => by
    obtain ⟨o', es', ep', ho', r'⟩ := hm
    rw [ho] at ho'; cases ho'
    exact ⟨_, es', ep', hL, r'⟩) hok hg
/-- an untracked record of ours (an iterator) has turned -/
theorem Inv.turned {t' : Nat} {it : Addr} (I : Inv X pins σ H s) (k : ∀ b o, b ≠ it → s.heap.get? b = some o → h'.get? b = some o) (hn : H it = none) (hL : it ≠ X.env.locals)
    (h1 : it ∈ X.ex ∨ X.s₀.heap.objs.size ≤ it) (h2 : ∀ x c, X.env.cells.lookup x = some c → c ≠ it) (h3 : ∀ p ∈ X.pn ++ pins, p.1 ≠ it) : Inv X pins σ H { s with heap := h', toks := t' } := by
  have nit : ∀ b u, H b = some u → b ≠ it := fun b u e z => by rw [z, hn] at e; cases e
  refine I.step (g' := s.gens) (d' := s.drawn) (ch := [it]) (fun b hb => ?_) (fun b o _ _ hc e _ => k b o (fun z => hc (by simp [z])) e) (fun b o _ _ hc e _ => ⟨o.slots, k b o (fun z => hc (by simp [z])) e⟩) (fun _ _ _ _ n => n)
    (fun b o hc e => ⟨o, k b o (fun z => hc (by simp [z])) e⟩) (fun _ _ e => e) (fun _ _ _ e => e) (fun b ps e => ⟨#[], by rw [e]; simp⟩) (fun m hm => ?_) (fun b u e => ?_) I.bare
  · have e : b = it := by simpa using hb
    subst e
    exact ⟨h1, hL, h2, h3⟩
  · obtain ⟨o, es, ep, ho, r⟩ := hm
    exact ⟨o, es, ep, k _ o (Ne.symm hL) ho, r⟩
  · refine (I.hok b u e).stay (fun c v hc q => k c v ?_ q) (fun _ q => q) fun _ _ q => q
    rcases hc with z | z
    · rw [z]; exact nit b u e
    · exact nit c _ z
theorem Inv.tok (I : Inv X pins σ H s) (t : Nat) : Inv X pins σ H { s with toks := t } := I.un (h' := s.heap) (t' := t) Un.refl I.hok
/-- all objects kept -/
theorem Inv.kept {t' : Nat} (I : Inv X pins σ H s) (k : ∀ b u, s.heap.get? b = some u → h'.get? b = some u) : Inv X pins σ H { s with heap := h', toks := t' } := I.un (Un.kept k) (I.hok.kept k)
/-- a new object laid and tracked -/
theorem Inv.laid {a : Addr} {o : HO} {t' : Nat} (I : Inv X pins σ H s) (k : ∀ b u, s.heap.get? b = some u → h'.get? b = some u) (hp : s.heap.objs.size ≤ a) (new : ObjOk X.prog X.w (upd H a o) h' a o) :
    Inv X pins σ (upd H a o) { s with heap := h', toks := t' } := I.un (Un.laid k hp (I.hok.fresh hp)) (I.hok.laid k hp new)
/-- an object written -/
theorem Inv.write {x e : Addr} {o : HO} {t' : Nat} (I : Inv X pins σ H s) (mu : Mut (H x)) (he : e = x ∨ H e = some (.own x)) (k : ∀ b u, b ≠ e → s.heap.get? b = some u → h'.get? b = some u) (heo : ∃ u, h'.get? e = some u)
    (new : ObjOk X.prog X.w (upd H x o) h' x o) : Inv X pins σ (upd H x o) { s with heap := h', toks := t' } := I.un (Un.write mu he k heo) (I.hok.write mu he k heo new)
theorem Inv.pins_of {pins' : List (Addr × Obj)} (I : Inv X pins σ H s) (h : ∀ p ∈ pins', s.heap.get? p.1 = some p.2 ∧ H p.1 = none ∧ p.1 ≠ X.env.locals ∧ p.1 ∉ X.fs ∧ ∀ v, p.2.data ≠ .cell v) : Inv X pins' σ H s :=
  ⟨I.ok, I.os, I.bare, I.base, I.loc, I.cell, I.free, I.freeC, fun p hp => (List.mem_append.mp hp).elim (fun z => I.pin p (List.mem_append_left _ z)) (h p), I.hok, I.len⟩

theorem nodup_ix {N : List Str} (hN : N.Nodup) {i j : Nat} {x : Str} (a : N[i]? = some x) (b : N[j]? = some x) : i = j := by
  obtain ⟨h1, e1⟩ := List.getElem?_eq_some_iff.mp a
  obtain ⟨h2, e2⟩ := List.getElem?_eq_some_iff.mp b
  exact (List.getElem_inj hN).mp (e1.trans e2.symm)

/-- a name is stored; what changed -/
theorem store_ok2 {M : Model} {A : Around} {E : Value → Shared → Prop} {i : Nat} {x : Str} {v : V} {u : Value} {Q : Unit → Shared → Prop} (I : Inv X pins σ H s) (hN : X.N.Nodup) (hi : X.N[i]? = some x) (hx : Loc X.env.scope x) (r : RelV v u)
    (h : ∀ s', Inv X pins (σ.set i (some v)) H s' → (∃ a, Heap.SameBut a s.heap s'.heap ∧ (a = X.env.locals ∨ X.env.cells.lookup x = some a)) → Q () s') (hf : X.fn x = true ∨ X.env.scope.names.lookup x = some .local := by first | exact .inl rfl | exact .inr rfl | assumption) : wpAny M A (storeName X.env x u) Q E s := by
  obtain ⟨m, hn, hl⟩ := id I.loc
  have hcls : (X.env.scope.kind == .class || (X.env.scope.kind == .module && X.env.locals != X.env.globals)) = false := by rw [I.ok.kind]; rfl
  have hiσ : i < σ.length := by rw [I.len]; exact (List.getElem?_eq_some_iff.mp hi).1
  have cne := I.cne
  have tracked : ∀ {a : Addr} {h' : Heap}, (∃ o, s.heap.get? a = some o ∧ H a = none) → Heap.SameBut a s.heap h' → HOk X.prog X.w H h' := fun {a h'} ha hs b ob e => by
    obtain ⟨_, _, hfree⟩ := ha
    refine (I.hok b ob e).stay (fun c w' hc q => (hs.2 c ?_).trans q) (fun _ q => q) fun _ _ q => q
    rintro rfl
    rcases hc with rfl | hc
    · rw [hfree] at e; cases e
    · rw [hfree] at hc; cases hc
  rcases hx with hk | hk
  · refine wpAny_storeName_local hk hn (fun h' hn' hs => ?_) hcls
    obtain ⟨oL, _, _, hoL, _⟩ := id hn
    refine h _ ⟨I.ok, I.os, I.bare, ⟨fun b o e n hb hx => ?_, fun b o e n hb hx => ?_, I.base.free, fun b o e hx => ?_, I.base.tups, I.base.frzs, I.base.tbls⟩, ⟨_, hn', fun j y v' e1 e2 e3 => ?_⟩, fun y c e => ?_, I.free, I.freeC, fun p hp => ?_, tracked ⟨oL, hoL, I.free⟩ hs, by simpa using I.len⟩ ⟨_, hs, .inl rfl⟩
    · exact (hs.2 b (Nat.ne_of_lt (Nat.lt_of_lt_of_le (Heap.lt_size e) I.ok.above))).trans (I.base.keep b o e n hb hx)
    · obtain ⟨sl, e1⟩ := I.base.slot b o e n hb hx
      exact ⟨sl, (hs.2 b (Nat.ne_of_lt (Nat.lt_of_lt_of_le (Heap.lt_size e) I.ok.above))).trans e1⟩
    · obtain ⟨o', e1⟩ := I.base.there b o e hx
      exact ⟨o', (hs.2 b (Nat.ne_of_lt (Nat.lt_of_lt_of_le (Heap.lt_size e) I.ok.above))).trans e1⟩
    · by_cases hj : j = i
      · subst hj
        rw [hi] at e1; cases e1
        rw [List.getElem?_set_self hiσ] at e2
        cases e2
        exact ⟨u, r, .inl ⟨hk, by simp⟩⟩
      · rw [List.getElem?_set_ne (Ne.symm hj)] at e2
        obtain ⟨u', r', q⟩ := hl j y v' e1 e2 e3
        refine ⟨u', r', ?_⟩
        rcases q with ⟨k, e⟩ | ⟨k, c, e, z⟩
        · refine .inl ⟨k, ?_⟩
          have : y ≠ x := fun e => hj (nodup_ix hN e1 (e ▸ hi))
          simp [this, e]
        · exact .inr ⟨k, c, e, z.sameBut hs (cne y c e)⟩
    · obtain ⟨w', z⟩ := I.cell y c e
      exact ⟨w', z.sameBut hs (cne y c e)⟩
    · obtain ⟨e, n, ne, nf, d⟩ := I.pin p hp
      exact ⟨(hs.2 p.1 ne).trans e, n, ne, nf, d⟩
  · have hfn : X.fn x = true := by
      rcases hf with z | z
      · exact z
      · rw [z] at hk; cases hk
    obtain ⟨c, hc⟩ := I.ok.has x (.inl hk)
    obtain ⟨w', z⟩ := I.cell x c hc
    refine wpAny_storeName_cell I.ok.kind hk hc z (fun h' hc' hs => ?_)
    obtain ⟨oc, hoc, hocd⟩ := id z
    refine h { s with heap := h' } ⟨I.ok, I.os, I.bare, ⟨fun b o e n hb hx => ?_, fun b o e n hb hx => ?_, I.base.free, fun b o e hx => ?_, I.base.tups, I.base.frzs, I.base.tbls⟩, ⟨m, hn.sameBut hs (Ne.symm (cne x c hc)), fun j y v' e1 e2 e3 => ?_⟩, fun y c' e => ?_, I.free, I.freeC, fun p hp => ?_, tracked ⟨oc, hoc, I.freeC x c hc⟩ hs, by simpa using I.len⟩ ⟨c, hs, .inr hc⟩
    · exact (hs.2 b (Nat.ne_of_lt (Nat.lt_of_lt_of_le (Heap.lt_size e) (I.ok.cab x c hfn hc)))).trans (I.base.keep b o e n hb hx)
    · obtain ⟨sl, e1⟩ := I.base.slot b o e n hb hx
      exact ⟨sl, (hs.2 b (Nat.ne_of_lt (Nat.lt_of_lt_of_le (Heap.lt_size e) (I.ok.cab x c hfn hc)))).trans e1⟩
    · obtain ⟨o', e1⟩ := I.base.there b o e hx
      exact ⟨o', (hs.2 b (Nat.ne_of_lt (Nat.lt_of_lt_of_le (Heap.lt_size e) (I.ok.cab x c hfn hc)))).trans e1⟩
    · by_cases hj : j = i
      · subst hj
        rw [hi] at e1; cases e1
        rw [List.getElem?_set_self hiσ] at e2
        cases e2
        exact ⟨u, r, .inr ⟨.inl hk, c, hc, hc'⟩⟩
      · rw [List.getElem?_set_ne (Ne.symm hj)] at e2
        obtain ⟨u', r', q⟩ := hl j y v' e1 e2 e3
        refine ⟨u', r', ?_⟩
        rcases q with q | ⟨k, c', e, z'⟩
        · exact .inl q
        · refine .inr ⟨k, c', e, z'.sameBut hs ?_⟩
          rintro rfl
          exact hj (nodup_ix hN e1 (I.ok.inj _ _ _ e hc ▸ hi))
    · by_cases hcc : c' = c
      · subst hcc; exact ⟨_, hc'⟩
      · obtain ⟨w2, z2⟩ := I.cell y c' e
        exact ⟨w2, z2.sameBut hs hcc⟩
    · obtain ⟨e, n, ne, nf, d⟩ := I.pin p hp
      refine ⟨(hs.2 p.1 ?_).trans e, n, ne, nf, d⟩
      intro q
      rw [q, hoc] at e
      have q' : oc = p.2 := Option.some.inj e
      exact d w' (by rw [← q']; exact hocd)
theorem store_ok {M : Model} {A : Around} {E : Value → Shared → Prop} {i : Nat} {x : Str} {v : V} {u : Value} {Q : Unit → Shared → Prop} (I : Inv X pins σ H s) (hN : X.N.Nodup) (hi : X.N[i]? = some x) (hx : Loc X.env.scope x) (r : RelV v u)
    (h : ∀ s', Inv X pins (σ.set i (some v)) H s' → Q () s') (hf : X.fn x = true ∨ X.env.scope.names.lookup x = some .local := by first | exact .inl rfl | exact .inr rfl | assumption) : wpAny M A (storeName X.env x u) Q E s :=
  store_ok2 I hN hi hx r (fun s' I' _ => h s' I') hf
/-- behind a call or a block, the state as it is -/
theorem Inv.call' {s' : Shared} {ch : List Addr} (I : Inv X pins σ H s) (ho : s'.os = s.os) (u : Un (frs X.stack) ch H H' s.heap s'.heap) (hok : HOk X.prog X.w H' s'.heap) (hg : AllBare s'.gens)
    (hch : ∀ b ∈ ch, (b ∈ X.ex ∨ X.s₀.heap.objs.size ≤ b) ∧ b ≠ X.env.locals ∧ (∀ x c, X.env.cells.lookup x = some c → c ≠ b) ∧ ∀ p ∈ X.pn ++ pins, p.1 ≠ b) : Inv X pins σ H' s' := by
  obtain ⟨h', g', d', t', o'⟩ := s'
  have e : o' = s.os := ho
  subst e
  exact I.call (g' := g') (t' := t') (d' := d') u hok hg hch
end

/-! ### the judgements -/
/-- an exception: its class, its own dict's address (where it has one), the abstract heap behind it -/
abbrev XK := Value → Option Addr → Hp → Prop
abbrev St := List (Option V)
abbrev VK := V → Hp → Prop
/-- an expression's reading; a test's; an argument list's -/
abbrev TE := St → Hp → VK → Prop
abbrev TT := St → Hp → (Bool → Hp → Prop) → Prop
abbrev TA := St → Hp → (List V → Hp → Prop) → Prop
/-- what is wanted behind a statement -/
structure Ends where
  nx : St → Hp → Prop
  rt : VK
  bk : St → Hp → Prop := fun _ _ => False
  ct : St → Hp → Prop := fun _ _ => False
abbrev TS := Ends → St → Hp → Prop

def EP (X : Cx) (pins : List (Addr × Obj)) (σ : St) (Q : VK) (u : Value) (s' : Shared) : Prop := ∃ v H', Inv X pins σ H' s' ∧ RelV v u ∧ Q v H'
def TP (X : Cx) (pins : List (Addr × Obj)) (σ : St) (Q : Bool → Hp → Prop) (b : Bool) (s' : Shared) : Prop := ∃ H', Inv X pins σ H' s' ∧ Q b H'
def AP (X : Cx) (pins : List (Addr × Obj)) (σ : St) (Q : List V → Hp → Prop) (us : List Value) (s' : Shared) : Prop := ∃ vs H', Inv X pins σ H' s' ∧ Vals vs us ∧ Q vs H'
def SP (X : Cx) (pins : List (Addr × Obj)) (D : Ends) (f : Flow) (s' : Shared) : Prop :=
  match f with
  | .next => ∃ σ' H', Inv X pins σ' H' s' ∧ D.nx σ' H'
  | .brk => ∃ σ' H', Inv X pins σ' H' s' ∧ D.bk σ' H'
  | .cont => ∃ σ' H', Inv X pins σ' H' s' ∧ D.ct σ' H'
  | .ret u => ∃ v σ' H', Inv X pins σ' H' s' ∧ RelV v u ∧ D.rt v H'

def PE (X : Cx) (e : Expr) (t : TE) : Prop :=
  ∀ (pins : List (Addr × Obj)) (s : Shared) (σ : St) (H : Hp) (Q : VK), Inv X pins σ H s → t σ H Q → wpAny (model X.prog X.w) X.A (eval e X.env) (EP X pins σ Q) X.xe s
def PT (X : Cx) (e : Expr) (t : TT) : Prop :=
  ∀ (pins : List (Addr × Obj)) (s : Shared) (σ : St) (H : Hp) (Q : Bool → Hp → Prop), Inv X pins σ H s → t σ H Q → wpAny (model X.prog X.w) X.A (isTrue e X.env (eval e X.env)) (TP X pins σ Q) X.xe s
/-- a test whatever its 'whole' is (and, or) -/
def PW (X : Cx) (e : Expr) (t : TT) : Prop :=
  ∀ (whole : Sem Value) (pins : List (Addr × Obj)) (s : Shared) (σ : St) (H : Hp) (Q : Bool → Hp → Prop), Inv X pins σ H s → t σ H Q → wpAny (model X.prog X.w) X.A (isTrue e X.env whole) (TP X pins σ Q) X.xe s
theorem PW.pt {X : Cx} {e : Expr} {t : TT} (h : PW X e t) : PT X e t := h _
/-- an argument list (no star), from the left -/
def PA (X : Cx) (es : List Expr) (t : TA) : Prop :=
  ∀ (pos : Pos) (pins : List (Addr × Obj)) (s : Shared) (σ : St) (H : Hp) (Q : List V → Hp → Prop), Inv X pins σ H s → t σ H Q → wpAny (model X.prog X.w) X.A (spliced (backTo pos (starEach es X.env))) (AP X pins σ Q) X.xe s
def PS (X : Cx) (st : Stmt) (t : TS) : Prop :=
  ∀ (pins : List (Addr × Obj)) (s : Shared) (σ : St) (H : Hp) (D : Ends), Inv X pins σ H s → t D σ H → wpAny (model X.prog X.w) X.A (exec st X.env) (SP X pins D) X.xe s
def PSs (X : Cx) (st : List Stmt) (t : TS) : Prop :=
  ∀ (pins : List (Addr × Obj)) (s : Shared) (σ : St) (H : Hp) (D : Ends), Inv X pins σ H s → t D σ H → wpAny (model X.prog X.w) X.A (execs st X.env) (SP X pins D) X.xe s
/-- weaken the end -/
theorem thn {α : Type} {t : Sem α} {Q Q' : α → Shared → Prop} {M : Model} {A : Around} {E : Value → Shared → Prop} {s : Shared} (h : wpAny M A t Q E s) (hQ : ∀ a s, Q a s → Q' a s) : wpAny M A t Q' E s := wpAny_mono h hQ fun _ _ x => x
end L2

namespace L2
open PySem PySem.Spec PyProof.Rows
section
variable {X : Cx}

/-! ### names and constants -/
def tVar (i : Nat) : TE := fun σ H Q => ∃ v, σ[i]? = some (some v) ∧ Q v H
def tC (v : V) : TE := fun _ H Q => Q v H
theorem pe_var {i : Nat} {x : Str} {pos : Pos} (hN : X.N[i]? = some x) (hv : Vis X.env.scope x) (hd : (x == ("__debug__" : Str)) = false := by decide) (hcd : (x == ("__classdict__" : Str)) = false := by decide) : PE X (.Name x pos) (tVar i) := by
  intro pins s σ H Q I h
  obtain ⟨v, e, h⟩ := h
  obtain ⟨m, hn, hl⟩ := I.loc
  obtain ⟨u, r, l⟩ := hl i x v hN e hv
  have fin : EP X pins σ Q u s := ⟨v, H, I, r, h⟩
  rcases l with ⟨hk, hm⟩ | ⟨hk, c, hc, hcell⟩
  · exact wpAny_Name (wpAny_loadName_local I.ok.kind hk hn hm fin) hd
  · rcases hk with hk | hk
    · exact wpAny_Name (wpAny_loadName_cell I.ok.kind hk hc hcell fin) hd
    · exact wpAny_Name (wpAny_loadName_free I.ok.kind hk hc hcell fin hcd) hd
theorem pe_int {i j pos} : PE X (.Constant (.int i) j pos) (tC (.int i)) := fun _ _ _ H _ I h => wpAny_Constant_int ⟨.int i, H, I.tok _, ⟨_, rfl⟩, h⟩
theorem pe_bl {b j pos} : PE X (.Constant (.bool b) j pos) (tC (.bl b)) := fun _ _ _ H _ I h => Constant_bool ⟨.bl b, H, I, rfl, h⟩
theorem pe_non {j pos} : PE X (.Constant .none j pos) (tC .non) := fun _ _ _ H _ I h => Constant_none ⟨.non, H, I, rfl, h⟩
theorem pe_str {x j pos} : PE X (.Constant (.str x) j pos) (tC (.str x)) := fun _ _ _ H _ I h => Calls.Constant_str ⟨.str x, H, I.tok _, ⟨_, rfl⟩, h⟩

/-- a global name of the def -/
def Gl (X : Cx) (x : Str) : Prop := X.env.kindOf x = some .globalImplicit
theorem ld_glob {E : Value → Shared → Prop} {pins : List (Addr × Obj)} {s : Shared} {σ : St} {H : Hp} {x : Str} {u : Value} {pos : Pos} {Q : Value → Shared → Prop} (I : Inv X pins σ H s) (hg : Gl X x) (hm : X.mg x = some u) (h : Q u s)
    (hd : (x == ("__debug__" : Str)) = false := by decide) : wpAny (model X.prog X.w) X.A (eval (.Name x pos) X.env) Q E s :=
  Calls.Name_function_global I.ok.kind hg (Calls.loadGlobal_global (by rw [I.ok.glob]; exact I.mod.glob.keeps I.bk) hm h) hd
theorem ld_blt {E : Value → Shared → Prop} {pins : List (Addr × Obj)} {s : Shared} {σ : St} {H : Hp} {x : Str} {u : Value} {pos : Pos} {Q : Value → Shared → Prop} (I : Inv X pins σ H s) (hg : Gl X x) (hm : X.mg x = none) (hv : bootBuiltins x = some u) (h : Q u s)
    (hn : x ≠ "__name__" := by decide) (hd : (x == ("__debug__" : Str)) = false := by decide) : wpAny (model X.prog X.w) X.A (eval (.Name x pos) X.env) Q E s := by
  obtain ⟨mb, h1, h2⟩ := I.mod.blt
  exact Calls.Name_function_global I.ok.kind hg (Calls.loadGlobal_builtin (by rw [I.ok.glob]; exact I.mod.glob.keeps I.bk) hm (by rw [I.ok.blt]; exact h1.keeps I.bk) ((h2 x hn).trans hv) h) hd
/-- a module's constant, a class, a function, as a value -/
theorem pe_glob {x : Str} {v : V} {u : Value} {pos : Pos} (hg : Gl X x) (hm : X.mg x = some u) (r : RelV v u) (hd : (x == ("__debug__" : Str)) = false := by decide) : PE X (.Name x pos) (tC v) :=
  fun _ _ _ H _ I h => ld_glob I hg hm ⟨v, H, I, r, h⟩ hd
theorem pe_bltn {x : Str} {v : V} {u : Value} {pos : Pos} (hg : Gl X x) (hm : X.mg x = none) (hv : bootBuiltins x = some u) (r : RelV v u) (hn : x ≠ "__name__" := by decide) (hd : (x == ("__debug__" : Str)) = false := by decide) : PE X (.Name x pos) (tC v) :=
  fun _ _ _ H _ I h => ld_blt I hg hm hv ⟨v, H, I, r, h⟩ hn hd

variable {a b : Expr} {ta tb : TE} {pos : Pos}
/-- a comparison as a value, as a test -/
def tB (t : TE) : TT := fun σ H Q => t σ H fun x H1 => ∃ c, x = .bl c ∧ Q c H1
/-- an expression whose value is a bool, as a test -/
theorem pt_val {e : Expr} {t : TE} (h : PE X e t) (he : ∀ whole, isTrue e X.env whole = (do let v ← whole; standAt e.pos; holding [v] (truthy v)) := by intro _; rfl) : PT X e (tB t) := by
  intro pins s σ H Q I hw
  refine isTrue_plain (thn (h pins s σ H _ I hw) fun v s1 ⟨x, H1, I1, r1, q1⟩ => ?_) (he _)
  obtain ⟨d, rfl, q⟩ := q1
  cases r1
  exact wpAny_truthy_bool ⟨H1, I1, q⟩

/-! ### and, or, not -/
variable {tA tB' : TT} {rest : List Expr}
def tOr (t u : TT) : TT := fun σ H Q => t σ H fun c H1 => if c = true then Q true H1 else u σ H1 Q
def tNot (t : TT) : TT := fun σ H Q => t σ H fun c H1 => Q (!c) H1
theorem pw_or1 (ha : PT X a tA) : PW X (.BoolOp .Or [a] pos) tA := by
  intro wh pins s σ H Q I h
  refine isTrue_or (thn (ha pins s σ H Q I h) fun c s1 e => ?_)
  cases c with
  | false => exact isTrue_or_nil e
  | true => exact e
theorem pw_or (ha : PT X a tA) (hb : PW X (.BoolOp .Or (b :: rest) pos) tB') : PW X (.BoolOp .Or (a :: b :: rest) pos) (tOr tA tB') := by
  intro wh pins s σ H Q I h
  refine isTrue_or (thn (ha pins s σ H _ I h) fun c s1 ⟨H1, I1, q1⟩ => ?_)
  cases c with
  | true => exact ⟨H1, I1, q1⟩
  | false => exact hb wh pins s1 σ H1 Q I1 q1
theorem pt_not (ha : PT X a tA) : PT X (.UnaryOp .Not a pos) (tNot tA) := by
  intro pins s σ H Q I h
  exact isTrue_not (ha pins s σ H (fun c H1 => Q (!c) H1) I h)
/-- .. as values (bools) -/
def tAndV (ta tb : TE) : TE := fun σ H Q => ta σ H fun x H1 => ∃ c, x = .bl c ∧ if c = true then tb σ H1 Q else Q (.bl false) H1
def tNotV (ta : TE) : TE := fun σ H Q => ta σ H fun x H1 => ∃ c, x = .bl c ∧ Q (.bl (!c)) H1
theorem pe_one {op} {t : TE} (h : PE X a t) : PE X (.BoolOp op [a] pos) t := fun pins s σ H Q I hw => BoolOp_one (h pins s σ H Q I hw)
theorem pe_and (ha : PE X a ta) (hb : PE X (.BoolOp .And (b :: rest) pos) tb) : PE X (.BoolOp .And (a :: b :: rest) pos) (tAndV ta tb) := by
  intro pins s σ H Q I h
  refine BoolOp_and (thn (ha pins s σ H _ I h) fun v s1 ⟨x, H1, I1, r1, q1⟩ => ?_)
  obtain ⟨c, rfl, q1⟩ := q1
  cases r1
  refine wpAny_truthy_bool ?_
  cases c with
  | true => exact hb pins s1 σ H1 Q I1 q1
  | false => exact ⟨.bl false, H1, I1, rfl, q1⟩
theorem pe_not (ha : PE X a ta) : PE X (.UnaryOp .Not a pos) (tNotV ta) := by
  intro pins s σ H Q I h
  refine UnaryOp_ (thn (ha pins s σ H _ I h) fun v s1 ⟨x, H1, I1, r1, q1⟩ => ?_)
  obtain ⟨c, rfl, q1⟩ := q1
  cases r1
  exact not_of (wpAny_truthy_bool ⟨.bl (!c), H1, I1, rfl, q1⟩)
/-- a if t else b -/
def tIf (t : TT) (ta tb : TE) : TE := fun σ H Q => t σ H fun c H1 => if c = true then ta σ H1 Q else tb σ H1 Q
theorem pe_ifExp {c : Expr} (hc : PT X c tA) (ha : PE X a ta) (hb : PE X b tb) : PE X (.IfExp c a b pos) (tIf tA ta tb) := by
  intro pins s σ H Q I h
  refine wpAny_IfExp (thn (hc pins s σ H _ I h) fun d s1 ⟨H1, I1, q1⟩ => ?_)
  cases d with
  | true => exact ha pins s1 σ H1 Q I1 q1
  | false => exact hb pins s1 σ H1 Q I1 q1
end
end L2

namespace L2
open PySem PySem.Spec PyProof.Rows

/-! ### a list, a tuple that is read: tracked, frozen, or an object of the module -/
def SqL (K : PySem.W.Frag) (H : Hp) (a : Addr) (xs : List V) : Prop :=
  Rd H a (.lst xs) ∨
    ∃ (o : Obj) (its : Array Value) (n : Nat), K.lookup a = some o ∧ o.cls = .type "list" ∧ o.dict = none ∧ o.data = .seq its n ∧ its.size ≤ sizeLine ∧ Vals xs its.toList
def SqT (K : PySem.W.Frag) (H : Hp) (a : Addr) (xs : List V) : Prop :=
  Rd H a (.tup xs) ∨
    ∃ (o : Obj) (its : Array Value) (n : Nat), K.lookup a = some o ∧ o.cls = .type "tuple" ∧ o.data = .seq its n ∧ its.size ≤ sizeLine ∧ Vals xs its.toList
def absV : Value → Option V
  | .none => some .non
  | .bool b => some (.bl b)
  | .int i _ => some (.int i)
  | .str x _ => some (.str x)
  | .bytes b _ => some (.byt b)
  | .float b _ => some (.flt b)
  | .ref a => some (.ref a)
  | .type n => some (.ty n)
  | _ => none
theorem RelV.abs {x : V} {u : Value} (r : RelV x u) : absV u = some x := by
  cases x with
  | non => cases r; rfl
  | bl _ => cases r; rfl
  | int _ => obtain ⟨t, rfl⟩ := r; rfl
  | str _ => obtain ⟨t, rfl⟩ := r; rfl
  | byt _ => obtain ⟨t, rfl⟩ := r; rfl
  | flt _ => obtain ⟨t, rfl⟩ := r; rfl
  | ref _ => cases r; rfl
  | ty _ => cases r; rfl
theorem RelV.inj {x y : V} {u : Value} (r : RelV x u) (q : RelV y u) : x = y := Option.some.inj (r.abs.symm.trans q.abs)
theorem Vals.inj : ∀ {xs ys : List V} {us : List Value}, Vals xs us → Vals ys us → xs = ys
  | _, _, _, .nil, .nil => rfl
  | _, _, _, .cons r t, .cons r' t' => by rw [r.inj r', Vals.inj t t']
section
variable {X : Cx} {pins : List (Addr × Obj)} {σ : St} {H : Hp} {s : Shared} {a : Addr} {xs ys : List V}
theorem SqL.of {K : PySem.W.Frag} (h : H a = some (.lst xs)) : SqL K H a xs := .inl (.inl h)
theorem SqT.of {K : PySem.W.Frag} (h : H a = some (.tup xs)) : SqT K H a xs := .inl (.inl h)
theorem Inv.list (I : Inv X pins σ H s) (h : SqL X.K H a xs) : ∃ its : List Value, Vals xs its ∧ PlainL s.heap a its.toArray ∧ xs.length ≤ sizeLine := by
  rcases h with h | ⟨o, its, n, hk, hc, hd, hs, hz, r⟩
  · obtain ⟨z, its, n, r, e⟩ := h.ok I.hok
    exact ⟨its, r, ⟨_, n, e, rfl, rfl, rfl⟩, z⟩
  · refine ⟨its.toList, r, ⟨o, n, I.kIn a o hk, hc, hd, by simpa using hs⟩, ?_⟩
    have e := r.length
    simp only [Array.length_toList] at e
    omega
theorem Inv.tuple (I : Inv X pins σ H s) (h : SqT X.K H a xs) : ∃ its : List Value, Vals xs its ∧ IsTup s.heap a its.toArray ∧ xs.length ≤ sizeLine := by
  rcases h with h | ⟨o, its, n, hk, hc, hs, hz, r⟩
  · obtain ⟨z, its, r, p⟩ := h.ok I.hok
    exact ⟨its, r, p, z⟩
  · refine ⟨its.toList, r, ⟨o, I.kIn a o hk, hc, n, by simpa using hs⟩, ?_⟩
    have e := r.length
    simp only [Array.length_toList] at e
    omega
theorem Inv.list_inj (I : Inv X pins σ H s) (h : SqL X.K H a xs) (h' : SqL X.K H a ys) : xs = ys := by
  obtain ⟨its, r, ⟨o, n, e, _, _, d⟩, _⟩ := I.list h
  obtain ⟨its', r', ⟨o', n', e', _, _, d'⟩, _⟩ := I.list h'
  rw [e] at e'; cases e'
  rw [d] at d'
  injection d' with d1 _
  have : its = its' := by simpa using congrArg Array.toList d1
  subst this
  exact r.inj r'
theorem Inv.tuple_inj (I : Inv X pins σ H s) (h : SqT X.K H a xs) (h' : SqT X.K H a ys) : xs = ys := by
  obtain ⟨its, r, ⟨o, e, _, n, d⟩, _⟩ := I.tuple h
  obtain ⟨its', r', ⟨o', e', _, n', d'⟩, _⟩ := I.tuple h'
  rw [e] at e'; cases e'
  rw [d] at d'
  injection d' with d1 _
  have : its = its' := by simpa using congrArg Array.toList d1
  subst this
  exact r.inj r'
end

/-! ### another wish about exceptions -/
abbrev Cx.wish (X : Cx) (E : Value → Shared → Prop) : Cx := { X with xe := E }
/-- no exception leaves -/
abbrev Cx.nox (X : Cx) : Cx := X.wish fun _ _ => False
theorem Cx.Ok.wish {X : Cx} (ok : X.Ok) (E : Value → Shared → Prop) : (X.wish E).Ok :=
  ⟨ok.mod, ok.kind, ok.glob, ok.blt, ok.above, ok.inj, ok.has, ok.cab, ok.hd, ok.frames, ok.stk, ok.exf, ok.bs, ok.bsz, ok.noex, ok.exfs, ok.funs, ok.frf⟩
theorem Cx.Ok.unwish {X : Cx} {E : Value → Shared → Prop} (ok : (X.wish E).Ok) : X.Ok :=
  ⟨ok.mod, ok.kind, ok.glob, ok.blt, ok.above, ok.inj, ok.has, ok.cab, ok.hd, ok.frames, ok.stk, ok.exf, ok.bs, ok.bsz, ok.noex, ok.exfs, ok.funs, ok.frf⟩
section
variable {X : Cx} {pins : List (Addr × Obj)} {σ : St} {H : Hp} {s : Shared} {E : Value → Shared → Prop}
theorem Inv.wish (I : Inv X pins σ H s) (E : Value → Shared → Prop) : Inv (X.wish E) pins σ H s := ⟨I.ok.wish E, I.os, I.bare, I.base, I.loc, I.cell, I.free, I.freeC, I.pin, I.hok, I.len⟩
theorem Inv.unwish (I : Inv (X.wish E) pins σ H s) : Inv X pins σ H s := ⟨I.ok.unwish, I.os, I.bare, I.base, I.loc, I.cell, I.free, I.freeC, I.pin, I.hok, I.len⟩
theorem SP.unwish {D : Ends} {f : Flow} {s' : Shared} (h : SP (X.wish E) pins D f s') : SP X pins D f s' := by
  cases f with
  | next => obtain ⟨σ', H', I, q⟩ := h; exact ⟨σ', H', I.unwish, q⟩
  | brk => obtain ⟨σ', H', I, q⟩ := h; exact ⟨σ', H', I.unwish, q⟩
  | cont => obtain ⟨σ', H', I, q⟩ := h; exact ⟨σ', H', I.unwish, q⟩
  | ret u => obtain ⟨v, σ', H', I, r, q⟩ := h; exact ⟨v, σ', H', I.unwish, r, q⟩
theorem PE.nox {e : Expr} {t : TE} (h : PE X.nox e t) : PE X e t := fun pins s σ H Q I hw =>
  wpAny_mono (h pins s σ H Q (I.wish _) hw) (fun _ _ ⟨v, H', I', r, q⟩ => ⟨v, H', I'.unwish, r, q⟩) fun _ _ z => False.elim z
theorem PT.nox {e : Expr} {t : TT} (h : PT X.nox e t) : PT X e t := fun pins s σ H Q I hw =>
  wpAny_mono (h pins s σ H Q (I.wish _) hw) (fun _ _ ⟨H', I', q⟩ => ⟨H', I'.unwish, q⟩) fun _ _ z => False.elim z
theorem PSs.nox {st : List Stmt} {t : TS} (h : PSs X.nox st t) : PSs X st t := fun pins s σ H D I hw =>
  wpAny_mono (h pins s σ H D (I.wish _) hw) (fun _ _ q => q.unwish) fun _ _ z => False.elim z
end

/-! ### blocks and small statements -/
section
variable {X : Cx} {st : Stmt} {rest : List Stmt} {t u : TS} {e : Expr} {te : TE} {pos : Pos}
def tNext : TS := fun D σ H => D.nx σ H
def tSeq (t u : TS) : TS := fun D σ H => t { D with nx := u D } σ H
theorem pss_nil : PSs X [] tNext := fun _ _ σ H _ I h => wpAny_execs_nil ⟨σ, H, I, h⟩
theorem pss_cons (h1 : PS X st t) (h2 : PSs X rest u) : PSs X (st :: rest) (tSeq t u) := by
  intro pins s σ H D I h
  refine wpAny_execs_cons (thn (h1 pins s σ H { D with nx := u D } I h) fun f s1 q => ?_)
  cases f with
  | next =>
    obtain ⟨σ', H', I', q⟩ := q
    exact h2 pins s1 σ' H' D I' q
  | ret v => exact q
  | brk => exact q
  | cont => exact q
theorem pss_one (h1 : PS X st t) : PSs X [st] t := by
  intro pins s σ H D I h
  refine wpAny_execs_cons (thn (h1 pins s σ H D I h) fun f s1 q => ?_)
  cases f with
  | next => exact wpAny_execs_nil q
  | ret v => exact q
  | brk => exact q
  | cont => exact q
/-- in a def's body nothing is shown -/
theorem Inv.quiet {pins : List (Addr × Obj)} {σ : St} {H : Hp} {s : Shared} (I : Inv X pins σ H s) : interactive X.env = false := by simp [interactive, I.ok.kind]
/-- an expression whose value is dropped -/
def tDrop (te : TE) : TS := fun D σ H => te σ H fun _ H1 => D.nx σ H1
theorem ps_expr (he : PE X e te) (hs : swapsWith e none pos.line X.env = pure false := by rfl) : PS X (.Expr e pos) (tDrop te) := by
  intro pins s σ H D I h
  exact wpAny_Expr_any (thn (he pins s σ H _ I h) fun v s1 ⟨x, H1, I1, r1, q1⟩ => ⟨σ, H1, I1, q1⟩) I.quiet hs
def tRet (te : TE) : TS := fun D σ H => te σ H D.rt
theorem ps_ret (he : PE X e te) : PS X (.Return (some e) pos) (tRet te) := by
  intro pins s σ H D I h
  exact wpAny_Return_some (thn (he pins s σ H _ I h) fun v s1 ⟨x, H1, I1, r1, q1⟩ => ⟨x, σ, H1, I1, r1, q1⟩)
def tIfS (c : TT) (t u : TS) : TS := fun D σ H => c σ H fun b H1 => if b = true then t D σ H1 else u D σ H1
theorem ps_if {c : Expr} {a b : List Stmt} {tc : TT} (hc : PT X c tc) (ha : PSs X a t) (hb : PSs X b u) : PS X (.If c a b pos) (tIfS tc t u) := by
  intro pins s σ H D I h
  refine wpAny_If (thn (hc pins s σ H _ I h) fun d s1 ⟨H1, I1, q1⟩ => ?_)
  cases d with
  | true => exact ha pins s1 σ H1 D I1 q1
  | false => exact hb pins s1 σ H1 D I1 q1
end

/-! ### targets -/
abbrev TG := V → St → Hp → (St → Hp → Prop) → Prop
abbrev TGs := List V → St → Hp → (St → Hp → Prop) → Prop
def PG (X : Cx) (target : Expr) (t : TG) : Prop :=
  ∀ (pins : List (Addr × Obj)) (s : Shared) (σ : St) (H : Hp) (v : V) (u : Value) (Q : St → Hp → Prop), Inv X pins σ H s → RelV v u → t v σ H Q →
    wpAny (model X.prog X.w) X.A (assign target X.env u) (fun _ s' => ∃ σ' H', Inv X pins σ' H' s' ∧ Q σ' H') X.xe s
/-- several targets, one after another -/
def PGs (X : Cx) (ts : List Expr) (t : TGs) : Prop :=
  ∀ (pins : List (Addr × Obj)) (s : Shared) (σ : St) (H : Hp) (vs : List V) (us : List Value) (Q : St → Hp → Prop), Inv X pins σ H s → Vals vs us → t vs σ H Q →
    wpAny (model X.prog X.w) X.A (assignInOrder ((assignEach ts X.env).map (·.2)) us) (fun _ s' => ∃ σ' H', Inv X pins σ' H' s' ∧ Q σ' H') X.xe s
/-- a op= b, by values -/
abbrev TIp := V → V → Hp → VK → Prop
def PIp (X : Cx) (op : Operator) (t : TIp) : Prop :=
  ∀ (pins : List (Addr × Obj)) (s : Shared) (σ : St) (H : Hp) (x y : V) (v u : Value) (Q : VK), Inv X pins σ H s → RelV x v → RelV y u → t x y H Q →
    wpAny (model X.prog X.w) X.A (inplaceOp op v u) (EP X pins σ Q) X.xe s
section
variable {X : Cx} {pos : Pos}
def gName (i : Nat) : TG := fun v σ H Q => Q (σ.set i (some v)) H
theorem pg_name {i : Nat} {x : Str} (hN : X.N.Nodup) (hi : X.N[i]? = some x) (hx : Loc X.env.scope x) (hf : X.fn x = true ∨ X.env.scope.names.lookup x = some .local := by first | exact .inl rfl | exact .inr rfl | assumption) : PG X (.Name x pos) (gName i) := by
  intro pins s σ H v u Q I r h
  exact wpAny_assign_Name (store_ok I hN hi hx r (fun s' I' => ⟨_, H, I', h⟩) hf)
def gNil : TGs := fun vs σ H Q => vs = [] ∧ Q σ H
def gCons (t : TG) (u : TGs) : TGs := fun vs σ H Q => ∃ v r, vs = v :: r ∧ t v σ H fun σ' H' => u r σ' H' Q
theorem pgs_nil : PGs X [] gNil := by
  intro pins s σ H vs us Q I r h
  obtain ⟨e, h⟩ := h
  subst e
  cases r
  exact assignInOrder_nil ⟨σ, H, I, h⟩
theorem pgs_cons {e : Expr} {es : List Expr} {t : TG} {u : TGs} (h1 : PG X e t) (h2 : PGs X es u)
    (hs : (assignEach (e :: es) X.env).map (·.2) = assign e X.env :: (assignEach es X.env).map (·.2) := by rfl) : PGs X (e :: es) (gCons t u) := by
  intro pins s σ H vs us Q I r h
  obtain ⟨v, vr, e1, h⟩ := h
  subst e1
  cases r with
  | cons r rr =>
    rw [hs]
    refine assignInOrder_cons (thn (h1 pins s σ H _ _ _ I r h) fun _ s1 ⟨σ1, H1, I1, q1⟩ => ?_)
    exact h2 pins s1 σ1 H1 _ _ Q I1 rr q1
/-- (a, b, ..) = a tuple of that length -/
def gTup (K : PySem.W.Frag) (n : Nat) (t : TGs) : TG := fun v σ H Q => ∃ a xs, v = .ref a ∧ SqT K H a xs ∧ xs.length = n ∧ t xs σ H Q
/-- target = value -/
def tAsg (te : TE) (g : TG) : TS := fun D σ H => te σ H fun x H1 => g x σ H1 D.nx
/-- name = value -/
theorem ps_set {i : Nat} {x : Str} {e : Expr} {te : TE} {pos' : Pos} (hN : X.N.Nodup) (hi : X.N[i]? = some x) (hx : Loc X.env.scope x) (he : PE X e te) (hs : swapsWith e (some (.Name x pos')) pos.line X.env = pure false := by rfl) (hf : X.fn x = true ∨ X.env.scope.names.lookup x = some .local := by first | exact .inl rfl | exact .inr rfl | assumption) :
    PS X (.Assign [.Name x pos'] e pos) (tAsg te (gName i)) := by
  intro pins s σ H D I h
  refine wpAny_Assign_Name (thn (he pins s σ H _ I h) fun v s1 ⟨y, H1, I1, r1, q1⟩ => ?_) hs
  exact store_ok I1 hN hi hx r1 (fun s2 I2 => ⟨_, H1, I2, q1⟩) hf
/-- name op= e -/
def tAug (i : Nat) (te : TE) (ti : TIp) : TS := fun D σ H => ∃ x, σ[i]? = some (some x) ∧ te σ H fun y H1 => ti x y H1 fun z H2 => D.nx (σ.set i (some z)) H2
theorem ps_aug {i : Nat} {x : Str} {e : Expr} {te : TE} {op : Operator} {ti : TIp} {pos' : Pos} (hN : X.N.Nodup) (hi : X.N[i]? = some x) (hx : Loc X.env.scope x) (he : PE X e te) (ho : PIp X op ti) (hf : X.fn x = true ∨ X.env.scope.names.lookup x = some .local := by first | exact .inl rfl | exact .inr rfl | assumption) :
    PS X (.AugAssign (.Name x pos') op e pos) (tAug i te ti) := by
  intro pins s σ H D I h
  obtain ⟨v, e1, h⟩ := h
  obtain ⟨m, hn, hl⟩ := I.loc
  have vis : Vis X.env.scope x := by rcases hx with k | k; exact .inl k; exact .inr (.inl k)
  obtain ⟨u, r, l⟩ := hl i x v hi e1 vis
  refine wpAny_AugAssign_Name ?_
  have go : wpAny (model X.prog X.w) X.A (eval e X.env) (fun w s₂ => wpAny (model X.prog X.w) X.A (inplaceOp op u w) (fun r s₃ => wpAny (model X.prog X.w) X.A (storeName X.env x r) (fun _ => SP X pins D .next) X.xe s₃) X.xe s₂) X.xe s := by
    refine thn (he pins s σ H _ I h) fun w s1 ⟨y, H1, I1, r1, q1⟩ => ?_
    refine thn (ho pins s1 σ H1 v y u w _ I1 r r1 q1) fun z s2 ⟨zv, H2, I2, r2, q2⟩ => ?_
    exact store_ok I2 hN hi hx r2 (fun s3 I3 => ⟨_, H2, I3, q2⟩) hf
  rcases l with ⟨hk, hm⟩ | ⟨hk, c, hc, hcell⟩
  · exact wpAny_loadName_local I.ok.kind hk hn hm go
  · rcases hk with hk | hk
    · exact wpAny_loadName_cell I.ok.kind hk hc hcell go
    · rcases hx with k | k
      · have : X.env.scope.names.lookup x = some .free := hk
        rw [k] at this; cases this
      · have : X.env.scope.names.lookup x = some .free := hk
        rw [k] at this; cases this
end

/-! ### while -/
section
variable {X : Cx} {pos : Pos}
end

/-! ### what a loop or a comprehension walks -/
/-- at turn i: it yields x (the heap may grow), or it stops -/
structure It where
  go : Nat → Hp → Prop
  yld : Nat → Hp → V → Hp → Prop
  stop : Nat → Hp → Prop
/-- the iterator's own objects may turn: they are not the frame's, not pinned, younger than the entry (or a comprehension's own) -/
def FpOk (X : Cx) (pins : List (Addr × Obj)) (H : Hp) (b : Addr) : Prop :=
  H b = none ∧ b ≠ X.env.locals ∧ b ∉ X.fs ∧ (b ∈ X.ex ∨ X.s₀.heap.objs.size ≤ b) ∧ (∀ x c, X.env.cells.lookup x = some c → c ≠ b) ∧ ∀ p ∈ X.pn ++ pins, p.1 ≠ b
theorem Inv.fpOk {X : Cx} {pins : List (Addr × Obj)} {σ : St} {H H' : Hp} {s : Shared} {b : Addr} (I : Inv X pins σ H s) (hb : s.heap.objs.size ≤ b) (hn : H' b = none) : FpOk X pins H' b := by
  refine ⟨hn, Nat.ne_of_gt (Nat.lt_of_lt_of_le I.lt hb), I.nofs hb, .inr (Nat.le_trans I.sz hb), fun x c e z => ?_, fun p hp z => ?_⟩
  · obtain ⟨v, q⟩ := I.cell x c e
    exact absurd (Nat.lt_of_lt_of_le q.lt (by rw [z]; exact hb)) (Nat.lt_irrefl _)
  · exact absurd (Nat.lt_of_lt_of_le (Heap.lt_size (I.pin p hp).1) (by rw [z]; exact hb)) (Nat.lt_irrefl _)
structure Turn (P : Program) (w : World) (K : PySem.W.Frag) (tg : Expr) (J : It) (fp : List Addr) (it : Addr) (tn : Nat → Heap → Prop) : Prop where
  mem : it ∈ fp
  obj : ∀ i h, tn i h → ∀ b ∈ fp, ∃ o, h.get? b = some o ∧ ∀ v, o.data ≠ .cell v
  keep : ∀ i h h', tn i h → (∀ b ∈ fp, ∀ o, h.get? b = some o → h'.get? b = some o) → tn i h'
  item : ∀ (X : Cx), X.prog = P → X.w = w → X.K = K → X.calm = true → ∀ (i : Nat) (pins : List (Addr × Obj)) (s : Shared) (σ : St) (H : Hp) (E : Value → Shared → Prop), Inv X pins σ H s → (∀ b ∈ fp, FpOk X pins H b) → tn i s.heap → J.go i H →
    wpAny (model P w) X.A (pyNext (.ref it)) (fun r s1 => ∃ u, r = some u ∧
      wpAny (model P w) X.A (letOwnedTupleGo tg (.ref it) u) (fun _ s2 => ∃ x H', Inv X pins σ H' s2 ∧ RelV x u ∧ J.yld i H x H' ∧ tn (i + 1) s2.heap ∧ ∀ b ∈ fp, H' b = none) E s1) E s
  done : ∀ (X : Cx), X.prog = P → X.w = w → X.K = K → X.calm = true → ∀ (i : Nat) (pins : List (Addr × Obj)) (s : Shared) (σ : St) (H : Hp) (E : Value → Shared → Prop), Inv X pins σ H s → (∀ b ∈ fp, FpOk X pins H b) → tn i s.heap → J.stop i H →
    wpAny (model P w) X.A (pyNext (.ref it)) (fun r s1 => r = none ∧ Inv X pins σ H s1) E s
  self : ∀ (A : Around) (i : Nat) (s : Shared) (Q : Value → Shared → Prop) (E : Value → Shared → Prop), tn i s.heap → Q (.ref it) s → wpAny (model P w) A (pyIter (.ref it)) Q E s
abbrev TI := St → Hp → (It → Hp → Prop) → Prop
/-- an iterator has come -/
def PIE (X : Cx) (pins : List (Addr × Obj)) (σ : St) (tg : Expr) (R : It → Hp → Prop) (itv : Value) (s2 : Shared) : Prop :=
  ∃ (it : Addr) (fp : List Addr) (tn : Nat → Heap → Prop) (J : It) (H' : Hp), itv = .ref it ∧ Inv X pins σ H' s2 ∧ Turn X.prog X.w X.K tg J fp it tn ∧ tn 0 s2.heap ∧ (∀ b ∈ fp, FpOk X pins H' b) ∧ R J H'
def PI (X : Cx) (tg iter : Expr) (wi : TI) : Prop :=
  ∀ (pins : List (Addr × Obj)) (s : Shared) (σ : St) (H : Hp) (R : It → Hp → Prop), Inv X pins σ H s → wi σ H R →
    wpAny (model X.prog X.w) X.A (eval iter X.env) (fun v s1 => wpAny (model X.prog X.w) X.A (pyIter v) (PIE X pins σ tg R) X.xe s1) X.xe s

/-- the step ahead of the store is nothing for an iterator that keeps no tuple -/
theorem go_of {M : Model} {A : Around} {E : Value → Shared → Prop} {s : Shared} {tg : Expr} {it : Addr} {u : Value} {o : Obj} {n : String} {vs : Array Value} {Q : Unit → Shared → Prop} (ho : s.heap.get? it = some o) (hc : o.cls = .type n) (hd : o.data = .fields vs)
    (hn : ["enumerate", "zip", "dict_itemiterator", "dict_reverseitemiterator", "odict_iterator", "itertools.zip_longest", "itertools.pairwise"].contains n = false) (hQ : Q () s) : wpAny M A (letOwnedTupleGo tg (.ref it) u) Q E s := by
  unfold letOwnedTupleGo
  cases tg <;> first
    | exact wpAny_pure hQ
    | (cases u <;> first
        | exact wpAny_pure hQ
        | (refine wpAny_bind (wpAny_load ho ?_)
           rw [hc, hd]
           show wpAny M A (if (["enumerate", "zip", "dict_itemiterator", "dict_reverseitemiterator", "odict_iterator", "itertools.zip_longest", "itertools.pairwise"].contains n && vs[0]? == some (rawInt _)) = true then _ else _) Q E s
           rw [if_neg (by intro h; rw [hn, Bool.false_and] at h; cases h)]
           exact wpAny_pure hQ))

/-- the list at a, as it stands at each turn (a loop may append to it) -/
def Itl (K : PySem.W.Frag) (a : Addr) : It :=
  ⟨fun i H => ∃ xs x, SqL K H a xs ∧ xs[i]? = some x, fun i H x H' => H' = H ∧ ∀ xs, SqL K H a xs → xs[i]? = some x, fun i H => ∃ xs, SqL K H a xs ∧ xs.length ≤ i⟩
def Itt (K : PySem.W.Frag) (a : Addr) : It :=
  ⟨fun i H => ∃ xs x, SqT K H a xs ∧ xs[i]? = some x, fun i H x H' => H' = H ∧ ∀ xs, SqT K H a xs → xs[i]? = some x, fun i H => ∃ xs, SqT K H a xs ∧ xs.length ≤ i⟩
/-- lo, lo + 1, .. (n of them) -/
def Itr (lo : Int) (n : Nat) : It := ⟨fun i _ => i < n, fun i H x H' => H' = H ∧ x = .int (lo + i), fun i _ => n ≤ i⟩
theorem turn_list {P : Program} {w : World} {K : PySem.W.Frag} {tg : Expr} (a it : Addr) : Turn P w K tg (Itl K a) [it] it (fun i h => h.IsListIter it a i) where
  mem := by simp
  obj := fun i h st b hb => by
    have e : b = it := by simpa using hb
    subst e
    obtain ⟨o, e, c, d⟩ := st
    exact ⟨o, e, fun v z => by rw [d] at z; cases z⟩
  keep := fun i h h' st k => st.at fun o e => k it (by simp) o e
  item := by
    intro X hP hw hK hc i pins s σ H E I hf st hg
    subst hP hw hK
    obtain ⟨xs, x, hq, hx⟩ := hg
    obtain ⟨its, rv, p, hz⟩ := I.list hq
    obtain ⟨u, hu, ru⟩ := rv.get hx
    obtain ⟨f0, f1, f2, f3, f4, f5⟩ := hf it (by simp)
    refine wpAny_pyNext_list_item st p.isList (x := u) (by simpa using hu) fun h' st' sb => ?_
    have I1 : Inv X pins σ H { s with heap := h' } := I.turned (t' := s.toks) (fun b o hb e => (sb.2 b hb).trans e) f0 f1 f3 f4 f5
    obtain ⟨o, e, c, d⟩ := id st'
    exact ⟨u, rfl, go_of (s := { s with heap := h' }) e c d (by decide) ⟨x, H, I1, ru, ⟨rfl, fun ys hy => by rw [I.list_inj hy hq]; exact hx⟩, st', fun b hb => (hf b hb).1⟩⟩
  done := by
    intro X hP hw hK hc i pins s σ H E I hf st hg
    subst hP hw hK
    obtain ⟨xs, hq, hx⟩ := hg
    obtain ⟨its, rv, p, hz⟩ := I.list hq
    obtain ⟨f0, f1, f2, f3, f4, f5⟩ := hf it (by simp)
    have hl := rv.length
    exact wpAny_pyNext_list_end (I.ok.hd hc) st p.isList (by simp; omega) fun h' eb => ⟨rfl, I.turned (t' := s.toks) (fun b o hb e => eb b o hb e) f0 f1 f3 f4 f5⟩
  self := fun _ _ _ _ _ st h => wpAny_pyIter_listiter st h
theorem turn_range {P : Program} {w : World} {K : PySem.W.Frag} {tg : Expr} (it : Addr) (lo : Int) (n : Nat) : Turn P w K tg (Itr lo n) [it] it (fun i h => IsRangeIter h it (lo + (i : Nat) * 1) ((n : Int) - (i : Nat)) 1) where
  mem := by simp
  obj := fun i h st b hb => by
    have e : b = it := by simpa using hb
    subst e
    exact ⟨_, st, fun v z => by
      have z' : Data.fields _ = Data.cell v := z
      cases z'⟩
  keep := fun i h h' st k => k it (by simp) _ st
  item := by
    intro X hP hw hK hc i pins s σ H E I hf st hg
    subst hP hw hK
    obtain ⟨f0, f1, f2, f3, f4, f5⟩ := hf it (by simp)
    have W := Walks.range (prog := X.prog) (w := X.w) (I.ok.hd hc) it lo 1 n
    refine W.item i s _ _ hg st fun v h' tk hv st' kk => ?_
    obtain ⟨t, rfl⟩ := hv
    have I1 : Inv X pins σ H { s with heap := h', toks := tk } := I.turned (fun b o hb e => kk b o (by simpa using hb) e) f0 f1 f3 f4 f5
    refine ⟨_, rfl, go_of (s := { s with heap := h', toks := tk }) (n := "range_iterator") st' rfl rfl (by decide) ⟨.int (lo + i), H, I1, ⟨t, ?_⟩, ⟨rfl, rfl⟩, st', fun b hb => (hf b hb).1⟩⟩
    rw [Int.mul_one]
  done := by
    intro X hP hw hK hc i pins s σ H E I hf st hg
    subst hP hw hK
    obtain ⟨f0, f1, f2, f3, f4, f5⟩ := hf it (by simp)
    exact wpAny_pyNext_range_end (I.ok.hd hc) st (by have : n ≤ i := hg; omega) fun h' eb => ⟨rfl, I.turned (t' := s.toks) (fun b o hb e => eb b o hb e) f0 f1 f3 f4 f5⟩
  self := fun _ _ _ _ _ st h => wpAny_pyIter_rangeiter st h
end L2

namespace L2
open PySem PySem.Spec PyProof.Rows
section
variable {X : Cx} {tg : Expr}
def iList (K : PySem.W.Frag) (tl : TE) : TI := fun σ H R => tl σ H fun x H1 => ∃ a, x = .ref a ∧ (∃ xs, SqL K H1 a xs) ∧ R (Itl K a) H1
def iTup (K : PySem.W.Frag) (tl : TE) : TI := fun σ H R => tl σ H fun x H1 => ∃ a, x = .ref a ∧ (∃ xs, SqT K H1 a xs) ∧ R (Itt K a) H1
theorem pi_list {l : Expr} {tl : TE} (hl : PE X l tl) : PI X tg l (iList X.K tl) := by
  intro pins s σ H R I h
  refine thn (hl pins s σ H _ I h) fun v s1 ⟨x, H1, I1, r1, q1⟩ => ?_
  obtain ⟨a, e, ⟨xs, hq⟩, q⟩ := q1
  subst e
  cases r1
  obtain ⟨its, rv, p, hz⟩ := I1.list hq
  refine wpAny_pyIter_list p.isList ?_
  refine ⟨s1.heap.objs.size, [s1.heap.objs.size], _, _, H1, rfl, I1.kept (t' := s1.toks) fun b o e => Heap.get?_push_of_some _ e, turn_list a _, ⟨_, Heap.get?_push_size _ rfl, rfl, rfl⟩, fun b hb => ?_, q⟩
  have e : b = s1.heap.objs.size := by simpa using hb
  subst e
  exact I1.fpOk (Nat.le_refl _) (I1.hok.fresh (Nat.le_refl _))
/-- a range object just made, walked -/
theorem range_it {pins : List (Addr × Obj)} {σ : St} {H : Hp} {s : Shared} {R : It → Hp → Prop} {E : Value → Shared → Prop} {lo hi : Int} {t u v : Tok} {tk : Nat} (I : Inv X pins σ H s) (h1 : -(2 ^ 62) ≤ lo) (h2 : lo < 2 ^ 62) (h3 : -(2 ^ 62) ≤ hi) (h4 : hi < 2 ^ 62)
    (q : R (Itr lo (hi - lo).toNat) H) : wpAny (model X.prog X.w) X.A (pyIter (.ref s.heap.objs.size)) (PIE X pins σ tg R) E { s with heap := s.heap.push { cls := .type "range", data := .fields #[.int lo t, .int hi u, .int 1 v] }, toks := tk } := by
  refine wpAny_pyIter_range (IsRange.new ..) (small_one h1 h2 h3 h4) ?_
  have I1 : Inv X pins σ H { s with heap := s.heap.push { cls := .type "range", data := .fields #[.int lo t, .int hi u, .int 1 v] }, toks := tk } := I.kept fun b o e => Heap.get?_push_of_some _ e
  refine ⟨(s.heap.push { cls := .type "range", data := .fields #[.int lo t, .int hi u, .int 1 v] }).objs.size, [(s.heap.push { cls := .type "range", data := .fields #[.int lo t, .int hi u, .int 1 v] }).objs.size], _, _, H, rfl,
    I1.kept (t' := tk) fun b o e => Heap.get?_push_of_some _ e, turn_range _ lo (hi - lo).toNat, ?_, fun b hb => ?_, q⟩
  · have e1 : lo + ((0 : Nat) : Int) * 1 = lo := by simp
    have e2 : (((hi - lo).toNat : Nat) : Int) - ((0 : Nat) : Int) = Builtin.Range.rangeSize lo hi 1 := by rw [rangeSize_one]; split <;> omega
    show IsRangeIter _ _ (lo + ((0 : Nat) : Int) * 1) ((((hi - lo).toNat : Nat) : Int) - ((0 : Nat) : Int)) 1
    rw [e1, e2]
    exact Heap.get?_push_size _ rfl
  · have e : b = (s.heap.push { cls := .type "range", data := .fields #[.int lo t, .int hi u, .int 1 v] }).objs.size := by simpa using hb
    subst e
    exact I1.fpOk (Nat.le_refl _) (I1.hok.fresh (Nat.le_refl _))
def iRng1 (ta : TA) : TI := fun σ H R => ta σ H fun vs H1 => ∃ j : Int, vs = [.int j] ∧ -(2 ^ 62) ≤ j ∧ j < 2 ^ 62 ∧ R (Itr 0 j.toNat) H1
theorem pi_range1 {a : Expr} {ta : TA} {p pos : Pos} (hg : Gl X "range") (hm : X.mg "range" = none) (ha : PA X [a] ta) (hs : starEach [a] X.env = [(false, eval a X.env)] := by rfl) : PI X tg (.Call (.Name "range" p) [a] [] pos) (iRng1 ta) := by
  intro pins s σ H R I h
  refine Call_ (ld_blt I hg hm boot_range (PyProof.Rows.callWith_type1 (thn (ha pos pins s σ H _ I h) fun us s1 ⟨vs, H1, I1, r1, q1⟩ => ?_) hs rfl))
  obtain ⟨j, e, q1, q2, q⟩ := q1
  subst e
  cases r1 with
  | cons r rr =>
    cases rr
    obtain ⟨t, rfl⟩ := r
    exact call_range_1 (range_it I1 (by omega) (by omega) q1 q2 (by simpa using q))
/-! ### for -/
/-- W: the invariant by the turn and a measure; N: what the body is to reach -/
def tFor (wi : TI) (g : TG) (tb : TS) : TS := fun D σ H => wi σ H fun J H1 => ∃ W : Nat → Nat → St → Hp → Prop, (∃ m, W 0 m σ H1) ∧ ∀ i m σ H, W i m σ H →
  (J.stop i H ∧ D.nx σ H) ∨ (J.go i H ∧ ∃ N : St → Hp → Prop, (∀ σ' H', N σ' H' → ∃ m', m' < m ∧ W (i + 1) m' σ' H') ∧ ∀ x H', J.yld i H x H' → g x σ H' fun σ2 H2 => tb { D with nx := N, ct := N, bk := D.nx } σ2 H2)
/-- the records at fp as they stand -/
def pinsAt (fp : List Addr) (h : Heap) : List (Addr × Obj) := fp.filterMap fun b => (h.get? b).map fun o => (b, o)
theorem mem_pinsAt {fp : List Addr} {h : Heap} {b : Addr} {o : Obj} (hb : b ∈ fp) (e : h.get? b = some o) : (b, o) ∈ pinsAt fp h := List.mem_filterMap.mpr ⟨b, hb, by rw [e]; rfl⟩
theorem of_pinsAt {fp : List Addr} {h : Heap} {p : Addr × Obj} (hp : p ∈ pinsAt fp h) : p.1 ∈ fp ∧ h.get? p.1 = some p.2 := by
  obtain ⟨b, hb, e⟩ := List.mem_filterMap.mp hp
  cases q : h.get? b with
  | none => rw [q] at e; cases e
  | some o =>
    rw [q] at e
    have e' : (b, o) = p := Option.some.inj e
    subst e'
    exact ⟨hb, q⟩
theorem Inv.pinned {pins : List (Addr × Obj)} {σ : St} {H : Hp} {s : Shared} {fp : List Addr} (I : Inv X pins σ H s) (hf : ∀ b ∈ fp, FpOk X pins H b) (ho : ∀ b ∈ fp, ∃ o, s.heap.get? b = some o ∧ ∀ v, o.data ≠ .cell v) : Inv X (pins ++ pinsAt fp s.heap) σ H s :=
  I.pins_of fun p hp => (List.mem_append.mp hp).elim (fun z => I.pin p (List.mem_append_right _ z)) fun z => by
    obtain ⟨hb, e⟩ := of_pinsAt z
    obtain ⟨f0, f1, f2, _⟩ := hf p.1 hb
    obtain ⟨o, e', d⟩ := ho p.1 hb
    rw [e] at e'; cases e'
    exact ⟨e, f0, f1, f2, d⟩
theorem Inv.unpinned {pins pl : List (Addr × Obj)} {σ : St} {H : Hp} {s : Shared} (I : Inv X (pins ++ pl) σ H s) : Inv X pins σ H s := I.pins_of fun p hp => I.pin p (List.mem_append_right _ (List.mem_append_left _ hp))
theorem ps_for {iter : Expr} {body : List Stmt} {wi : TI} {g : TG} {tb : TS} {pos : Pos} (hp : PassesOwn (model X.prog X.w) X.A X.env X.xe) (hc : X.calm = true) (hi : PI X tg iter wi) (hg : PG X tg g) (hb : PSs X body tb)
    (hs : ∀ x, foldedSetIterable iter X.env x = pure x := by intro _; rfl) : PS X (.For tg iter body [] pos) (tFor wi g tb) := by
  intro pins s σ H D I h
  refine wpAny_For (thn (hi pins s σ H _ I h) fun v s1 h1 => thn h1 fun itv s2 h2 => ?_) hs
  obtain ⟨it, fp, tn, J, H2, e, I2, T, st2, f2, W, ⟨m0, w0⟩, turn⟩ := h2
  subst e
  -- what stays true of the iterator's objects through the loop
  have stat : ∀ {H' : Hp}, (∀ b ∈ fp, H' b = none) → ∀ b ∈ fp, FpOk X pins H' b := fun hn b hb => ⟨hn b hb, (f2 b hb).2⟩
  refine codeAny_forLoop_any (fun n s' => ∃ i σ' H', Inv X pins σ' H' s' ∧ tn i s'.heap ∧ (∀ b ∈ fp, H' b = none) ∧ W i n σ' H') ?_ m0 ⟨0, σ, H2, I2, st2, fun b hb => (f2 b hb).1, w0⟩
  rintro n s3 ⟨i, σ3, H3, I3, st3, fr3, w3⟩
  rcases turn i n σ3 H3 w3 with ⟨stop, qn⟩ | ⟨go, N, hN, step⟩
  · refine wpAny_passesOwn hp (thn (T.done X rfl rfl rfl hc i pins s3 σ3 H3 X.xe I3 (stat fr3) st3 stop) fun r s4 ⟨hr, I4⟩ => ?_)
    subst hr
    exact wpAny_execs_nil ⟨σ3, H3, I4, qn⟩
  · refine wpAny_passesOwn hp (thn (T.item X rfl rfl rfl hc i pins s3 σ3 H3 X.xe I3 (stat fr3) st3 go) fun r s4 ⟨u, hr, h4⟩ => ?_)
    subst hr
    refine wpAny_passesOwn hp (thn h4 fun _ s5 ⟨x, H5, I5, r5, y5, st5, fr5⟩ => ?_)
    have I5' := I5.pinned (stat fr5) (T.obj _ _ st5)
    refine wpAny_passesOwn hp (thn (hg _ s5 σ3 H5 x u _ I5' r5 (step x H5 y5)) fun _ s6 ⟨σ6, H6, I6, q6⟩ => ?_)
    refine wpAny_passesOwn hp (thn (hb _ s6 σ6 H6 _ I6 q6) fun f s7 q7 => ?_)
    have again : ∀ {σ7 : St} {H7 : Hp}, Inv X (pins ++ pinsAt fp s5.heap) σ7 H7 s7 → N σ7 H7 → ∃ m, m < n ∧ ∃ i σ' H', Inv X pins σ' H' s7 ∧ tn i s7.heap ∧ (∀ b ∈ fp, H' b = none) ∧ W i m σ' H' := fun {σ7 H7} I7 n7 => by
      obtain ⟨m', hm, w7⟩ := hN σ7 H7 n7
      refine ⟨m', hm, i + 1, σ7, H7, I7.unpinned, T.keep _ _ _ st5 fun b hb o e => (I7.pin (b, o) (List.mem_append_right _ (List.mem_append_right _ (mem_pinsAt hb e)))).1, fun b hb => ?_, w7⟩
      obtain ⟨o, e, d⟩ := T.obj _ _ st5 b hb
      exact (I7.pin (b, o) (List.mem_append_right _ (List.mem_append_right _ (mem_pinsAt hb e)))).2.1
    cases f with
    | next => obtain ⟨σ7, H7, I7, n7⟩ := q7; exact again I7 n7
    | cont => obtain ⟨σ7, H7, I7, n7⟩ := q7; exact again I7 n7
    | brk => obtain ⟨σ7, H7, I7, q7⟩ := q7; exact ⟨σ7, H7, I7.unpinned, q7⟩
    | ret v => obtain ⟨x7, σ7, H7, I7, r7, q7⟩ := q7; exact ⟨x7, σ7, H7, I7.unpinned, r7, q7⟩
end

/-! ### the forms one uses -/
/-- over a list that the body leaves as it is -/
theorem for_list {K : PySem.W.Frag} {a : Addr} {xs : List V} {g : TG} {tb : TS} {D : Ends} {σ : St} {H : Hp} (Pv : Nat → St → Hp → Prop) (h0 : Pv 0 σ H) (hl : ∀ i σ H, i ≤ xs.length → Pv i σ H → SqL K H a xs)
    (hs : ∀ i x σ H, xs[i]? = some x → Pv i σ H → g x σ H fun σ2 H2 => tb { D with nx := Pv (i + 1), ct := Pv (i + 1), bk := D.nx } σ2 H2) (hd : ∀ σ H, Pv xs.length σ H → D.nx σ H) :
    ∃ W : Nat → Nat → St → Hp → Prop, (∃ m, W 0 m σ H) ∧ ∀ i m σ H, W i m σ H →
      ((Itl K a).stop i H ∧ D.nx σ H) ∨ ((Itl K a).go i H ∧ ∃ N : St → Hp → Prop, (∀ σ' H', N σ' H' → ∃ m', m' < m ∧ W (i + 1) m' σ' H') ∧ ∀ x H', (Itl K a).yld i H x H' → g x σ H' fun σ2 H2 => tb { D with nx := N, ct := N, bk := D.nx } σ2 H2) := by
  refine ⟨fun i m σ H => m = xs.length - i ∧ i ≤ xs.length ∧ Pv i σ H, ⟨xs.length, by simp, Nat.zero_le _, h0⟩, ?_⟩
  rintro i m σ H ⟨rfl, hi, p⟩
  have q := hl i σ H hi p
  by_cases hlt : i < xs.length
  · refine .inr ⟨⟨xs, xs[i], q, by simp [hlt]⟩, Pv (i + 1), fun σ' H' p' => ⟨xs.length - (i + 1), by omega, rfl, hlt, p'⟩, fun x H' y => ?_⟩
    obtain ⟨e, y⟩ := y
    subst e
    exact hs i x σ _ (y xs q) p
  · have e : i = xs.length := by omega
    subst e
    exact .inl ⟨⟨xs, q, Nat.le_refl _⟩, hd σ H p⟩
theorem for_range {lo : Int} {n : Nat} {g : TG} {tb : TS} {D : Ends} {σ : St} {H : Hp} (Pv : Nat → St → Hp → Prop) (h0 : Pv 0 σ H)
    (hs : ∀ i σ H, i < n → Pv i σ H → g (.int (lo + i)) σ H fun σ2 H2 => tb { D with nx := Pv (i + 1), ct := Pv (i + 1), bk := D.nx } σ2 H2) (hd : ∀ σ H, Pv n σ H → D.nx σ H) :
    ∃ W : Nat → Nat → St → Hp → Prop, (∃ m, W 0 m σ H) ∧ ∀ i m σ H, W i m σ H →
      ((Itr lo n).stop i H ∧ D.nx σ H) ∨ ((Itr lo n).go i H ∧ ∃ N : St → Hp → Prop, (∀ σ' H', N σ' H' → ∃ m', m' < m ∧ W (i + 1) m' σ' H') ∧ ∀ x H', (Itr lo n).yld i H x H' → g x σ H' fun σ2 H2 => tb { D with nx := N, ct := N, bk := D.nx } σ2 H2) := by
  refine ⟨fun i m σ H => m = n - i ∧ i ≤ n ∧ Pv i σ H, ⟨n, by simp, Nat.zero_le _, h0⟩, ?_⟩
  rintro i m σ H ⟨rfl, hi, p⟩
  by_cases hlt : i < n
  · refine .inr ⟨hlt, Pv (i + 1), fun σ' H' p' => ⟨n - (i + 1), by omega, rfl, hlt, p'⟩, fun x H' y => ?_⟩
    obtain ⟨e, y⟩ := y
    subst e y
    exact hs i σ _ hlt p
  · have e : i = n := by omega
    subst e
    exact .inl ⟨Nat.le_refl _, hd σ H p⟩
end L2

namespace L2
open PySem PySem.Spec PyProof.Rows

abbrev R2 := V → V → Hp → VK → Prop
/-- a two-place operation on values: f is binaryOp op, inplaceOp op or compareOp op -/
def OpR (X : Cx) (f : Value → Value → Sem Value) (r : R2) : Prop :=
  ∀ (pins : List (Addr × Obj)) (s : Shared) (σ : St) (H : Hp) (x y : V) (v u : Value) (Q : VK), Inv X pins σ H s → RelV x v → RelV y u → r x y H Q →
    wpAny (model X.prog X.w) X.A (f v u) (EP X pins σ Q) X.xe s
/-- a one-place operation -/
def UnR (X : Cx) (f : Value → Sem Value) (r : V → Hp → VK → Prop) : Prop :=
  ∀ (pins : List (Addr × Obj)) (s : Shared) (σ : St) (H : Hp) (x : V) (v : Value) (Q : VK), Inv X pins σ H s → RelV x v → r x H Q →
    wpAny (model X.prog X.w) X.A (f v) (EP X pins σ Q) X.xe s
/-- a call of a value that is known (a builtin, a type) with values -/
def CallR (X : Cx) (f : Value) (r : List V → Hp → VK → Prop) : Prop :=
  ∀ (pins : List (Addr × Obj)) (s : Shared) (σ : St) (H : Hp) (xs : List V) (us : List Value) (Q : VK), Inv X pins σ H s → Vals xs us → r xs H Q →
    wpAny (model X.prog X.w) X.A (call f us) (EP X pins σ Q) X.xe s
def tOp (r : R2) (ta tb : TE) : TE := fun σ H Q => ta σ H fun x H1 => tb σ H1 fun y H2 => r x y H2 Q
def tUn (r : V → Hp → VK → Prop) (ta : TE) : TE := fun σ H Q => ta σ H fun x H1 => r x H1 Q
/-- ints in, under C, and a value out -/
def rI (C : Int → Int → Prop) (g : Int → Int → V) : R2 := fun x y H Q => ∃ i j, x = .int i ∧ y = .int j ∧ C i j ∧ Q (g i j) H
def rI0 (g : Int → Int → V) : R2 := fun x y H Q => ∃ i j, x = .int i ∧ y = .int j ∧ Q (g i j) H
def rU (g : Int → V) : V → Hp → VK → Prop := fun x H Q => ∃ i, x = .int i ∧ Q (g i) H

section
variable {X : Cx} {a b c : Expr} {ta tb tc : TE} {pos : Pos}

theorem binT (ha : PE X a ta) (hb : PE X b tb) {pins : List (Addr × Obj)} {s : Shared} {σ : St} {H : Hp} {R : V → V → Hp → Prop} (I : Inv X pins σ H s)
    (h : ta σ H fun x H1 => tb σ H1 fun y H2 => R x y H2) {Q : Value → Shared → Prop} {f : Value → Value → Sem Value}
    (hf : ∀ v u s2 x y H2, Inv X pins σ H2 s2 → RelV x v → RelV y u → R x y H2 → wpAny (model X.prog X.w) X.A (f v u) Q X.xe s2) :
    wpAny (model X.prog X.w) X.A (eval a X.env) (fun v s₁ => wpAny (model X.prog X.w) X.A (eval b X.env) (fun u s₂ => wpAny (model X.prog X.w) X.A (f v u) Q X.xe s₂) X.xe s₁) X.xe s := by
  refine thn (ha pins s σ H _ I h) fun v s1 ⟨x, H1, I1, r1, q1⟩ => ?_
  refine thn (hb pins s1 σ H1 _ I1 q1) fun u s2 ⟨y, H2, I2, r2, q2⟩ => ?_
  exact hf v u s2 x y H2 I2 r1 r2 q2

theorem pe_op {op : Operator} {r : R2} (ho : OpR X (binaryOp op) r) (ha : PE X a ta) (hb : PE X b tb) : PE X (.BinOp a op b pos) (tOp r ta tb) := by
  intro pins s σ H Q I h
  exact wpAny_BinOp (binT ha hb I h fun v u s2 x y H2 I2 rx ry q => ho pins s2 σ H2 x y v u Q I2 rx ry q)
theorem pe_un {op : UnaryOp} {r : V → Hp → VK → Prop} (ho : UnR X (unaryOp op) r) (ha : PE X a ta) : PE X (.UnaryOp op a pos) (tUn r ta) := by
  intro pins s σ H Q I h
  exact UnaryOp_ (thn (ha pins s σ H _ I h) fun v s1 ⟨x, H1, I1, r1, q1⟩ => ho pins s1 σ H1 x v Q I1 r1 q1)
/-! ### ints -/
theorem opI {f : Value → Value → Sem Value} {C : Int → Int → Prop} {g : Int → Int → Int}
    (rule : ∀ (i j : Int) (t u : Tok) (s : Shared) (Q : Value → Shared → Prop) (E : Value → Shared → Prop), C i j → Q (.int (g i j) s.toks) { s with toks := s.toks + 1 } → wpAny (model X.prog X.w) X.A (f (.int i t) (.int j u)) Q E s) :
    OpR X f (rI C fun i j => .int (g i j)) := by
  intro pins s σ H x y v u Q I rx ry h
  obtain ⟨i, j, rfl, rfl, hc, q⟩ := h
  obtain ⟨t, rfl⟩ := rx
  obtain ⟨t', rfl⟩ := ry
  exact rule i j t t' s _ _ hc ⟨.int (g i j), H, I.tok _, ⟨_, rfl⟩, q⟩
theorem opI0 {f : Value → Value → Sem Value} {g : Int → Int → Int}
    (rule : ∀ (i j : Int) (t u : Tok) (s : Shared) (Q : Value → Shared → Prop) (E : Value → Shared → Prop), Q (.int (g i j) s.toks) { s with toks := s.toks + 1 } → wpAny (model X.prog X.w) X.A (f (.int i t) (.int j u)) Q E s) :
    OpR X f (rI0 fun i j => .int (g i j)) := by
  intro pins s σ H x y v u Q I rx ry h
  obtain ⟨i, j, rfl, rfl, q⟩ := h
  obtain ⟨t, rfl⟩ := rx
  obtain ⟨t', rfl⟩ := ry
  exact rule i j t t' s _ _ ⟨.int (g i j), H, I.tok _, ⟨_, rfl⟩, q⟩
theorem opB0 {f : Value → Value → Sem Value} {g : Int → Int → Bool}
    (rule : ∀ (i j : Int) (t u : Tok) (s : Shared) (Q : Value → Shared → Prop) (E : Value → Shared → Prop), Q (.bool (g i j)) s → wpAny (model X.prog X.w) X.A (f (.int i t) (.int j u)) Q E s) :
    OpR X f (rI0 fun i j => .bl (g i j)) := by
  intro pins s σ H x y v u Q I rx ry h
  obtain ⟨i, j, rfl, rfl, q⟩ := h
  obtain ⟨t, rfl⟩ := rx
  obtain ⟨t', rfl⟩ := ry
  exact rule i j t t' s _ _ ⟨.bl (g i j), H, I, rfl, q⟩

def CMul (i j : Int) : Prop := (-(2 ^ 64) < i ∧ i < 2 ^ 64) ∨ (-(2 ^ 64) < j ∧ j < 2 ^ 64)
theorem CMul.ok {i j : Int} (h : CMul i j) : IntMulOk i j := by
  rcases h with ⟨h1, h2⟩ | ⟨h1, h2⟩
  · exact .of_left (intBits_le_64 h1 h2)
  · exact .of_right (intBits_le_64 h1 h2)
theorem op_add : OpR X (binaryOp .Add) (rI0 fun i j => .int (i + j)) := opI0 fun _ _ _ _ _ _ _ q => add_int q
/-- % by a positive divisor of any size -/
theorem op_mod : OpR X (binaryOp .Mod) (rI (fun _ j => 0 < j) fun i j => .int (i % j)) := opI fun i j _ _ _ _ _ hc q => by
  have h1 : (0 : Int) < j := hc
  exact mod_int' (by omega) (by rw [Int.fmod_eq_emod_of_nonneg i (by omega)]; exact q)
theorem unI {f : Value → Sem Value} {g : Int → Int}
    (rule : ∀ (i : Int) (t : Tok) (s : Shared) (Q : Value → Shared → Prop) (E : Value → Shared → Prop), Q (.int (g i) s.toks) { s with toks := s.toks + 1 } → wpAny (model X.prog X.w) X.A (f (.int i t)) Q E s) :
    UnR X f (rU fun i => .int (g i)) := by
  intro pins s σ H x v Q I rx h
  obtain ⟨i, rfl, q⟩ := h
  obtain ⟨t, rfl⟩ := rx
  exact rule i t s _ _ ⟨.int (g i), H, I.tok _, ⟨_, rfl⟩, q⟩
theorem un_neg : UnR X (unaryOp .USub) (rU fun i => .int (-i)) := unI fun _ _ _ _ _ q => neg_int q
end

/-! ### comparisons -/
/-- the scalars that == tells apart as data does -/
def scal : V → V → Bool
  | .non, .non => true | .non, .int _ => true | .int _, .non => true | .non, .bl _ => true | .bl _, .non => true | .non, .str _ => true | .str _, .non => true
  | .int _, .int _ => true | .bl _, .bl _ => true | .str _, .str _ => true | .byt _, .byt _ => true
  | .int _, .str _ => true | .str _, .int _ => true | .bl _, .str _ => true | .str _, .bl _ => true
  | _, _ => false
def rEq : R2 := fun x y H Q => scal x y = true ∧ Q (.bl (decide (x = y))) H
def rNe : R2 := fun x y H Q => scal x y = true ∧ Q (.bl (!decide (x = y))) H

theorem dec_int {i j : Int} : decide (V.int i = V.int j) = (i == j) := by
  rw [Bool.eq_iff_iff]
  simp
theorem dec_bl {i j : Bool} : decide (V.bl i = V.bl j) = (i == j) := by
  rw [Bool.eq_iff_iff]
  simp
theorem dec_str {i j : Str} : decide (V.str i = V.str j) = (i == j) := by
  rw [Bool.eq_iff_iff]
  simp
theorem dec_byt {i j : Array UInt8} : decide (V.byt i = V.byt j) = (i.toList == j.toList) := by
  rw [Bool.eq_iff_iff]
  cases i
  cases j
  simp

section
variable {X : Cx} {a b c : Expr} {ta tb tc : TE} {pos : Pos}
theorem fin_bl {pins : List (Addr × Obj)} {σ : St} {H : Hp} {s : Shared} {Q : VK} {k k' : Bool} (I : Inv X pins σ H s) (q : Q (.bl k) H) (e : k = k') : EP X pins σ Q (.bool k') s := by
  subst e
  exact ⟨.bl k, H, I, rfl, q⟩
theorem op_eq : OpR X (compareOp .Eq) rEq := by
  intro pins s σ H x y v u Q I rx ry h
  obtain ⟨hs, q⟩ := h
  cases x with
  | non =>
    cases rx
    cases y with
    | non => cases ry; exact PySem.EqNone.eq_none_none (fin_bl I q (by simp))
    | bl j => cases ry; exact PySem.EqNone.eq_none_bool (fin_bl I q (by simp))
    | int j => obtain ⟨t', rfl⟩ := ry; exact PySem.EqNone.eq_none_int (fin_bl I q (by simp))
    | str j => obtain ⟨t', rfl⟩ := ry; exact PySem.EqNone.eq_none_str (fin_bl I q (by simp))
    | _ => exact absurd (show false = true from hs) Bool.false_ne_true
  | bl i =>
    cases rx
    cases y with
    | non => cases ry; exact PySem.EqNone.eq_bool_none (fin_bl I q (by simp))
    | bl j => cases ry; exact eq_bool (fin_bl I q dec_bl)
    | str j => obtain ⟨t', rfl⟩ := ry; exact PySem.EqMixed.eq_bool_str (fin_bl I q (by simp))
    | _ => exact absurd (show false = true from hs) Bool.false_ne_true
  | int i =>
    obtain ⟨t, rfl⟩ := rx
    cases y with
    | non => cases ry; exact PySem.EqNone.eq_int_none (fin_bl I q (by simp))
    | int j => obtain ⟨t', rfl⟩ := ry; exact eq_int (fin_bl I q dec_int)
    | str j => obtain ⟨t', rfl⟩ := ry; exact PySem.EqMixed.eq_int_str (fin_bl I q (by simp))
    | _ => exact absurd (show false = true from hs) Bool.false_ne_true
  | str i =>
    obtain ⟨t, rfl⟩ := rx
    cases y with
    | non => cases ry; exact PySem.EqNone.eq_str_none (fin_bl I q (by simp))
    | bl j => cases ry; exact PySem.EqMixed.eq_str_bool (fin_bl I q (by simp))
    | int j => obtain ⟨t', rfl⟩ := ry; exact PySem.EqMixed.eq_str_int (fin_bl I q (by simp))
    | str j => obtain ⟨t', rfl⟩ := ry; exact eq_str (fin_bl I q dec_str)
    | _ => exact absurd (show false = true from hs) Bool.false_ne_true
  | byt i =>
    obtain ⟨t, rfl⟩ := rx
    cases y with
    | byt j => obtain ⟨t', rfl⟩ := ry; exact PySem.W.eq_bytes (fin_bl I q dec_byt)
    | _ => exact absurd (show false = true from hs) Bool.false_ne_true
  | _ => cases y <;> exact absurd (show false = true from hs) Bool.false_ne_true
theorem op_ne : OpR X (compareOp .NotEq) rNe := by
  intro pins s σ H x y v u Q I rx ry h
  obtain ⟨hs, q⟩ := h
  cases x with
  | non =>
    cases rx
    cases y with
    | non => cases ry; exact PySem.EqNone.ne_none_none (fin_bl I q (by simp))
    | bl j => cases ry; exact PySem.EqNone.ne_none_bool (fin_bl I q (by simp))
    | int j => obtain ⟨t', rfl⟩ := ry; exact PySem.EqNone.ne_none_int (fin_bl I q (by simp))
    | str j => obtain ⟨t', rfl⟩ := ry; exact PySem.EqNone.ne_none_str (fin_bl I q (by simp))
    | _ => exact absurd (show false = true from hs) Bool.false_ne_true
  | bl i =>
    cases rx
    cases y with
    | non => cases ry; exact PySem.EqNone.ne_bool_none (fin_bl I q (by simp))
    | bl j => cases ry; exact ne_bool (fin_bl I q (congrArg not dec_bl))
    | str j => obtain ⟨t', rfl⟩ := ry; exact PySem.EqMixed.ne_bool_str (fin_bl I q (by simp))
    | _ => exact absurd (show false = true from hs) Bool.false_ne_true
  | int i =>
    obtain ⟨t, rfl⟩ := rx
    cases y with
    | non => cases ry; exact PySem.EqNone.ne_int_none (fin_bl I q (by simp))
    | int j => obtain ⟨t', rfl⟩ := ry; exact ne_int (fin_bl I q (congrArg not dec_int))
    | str j => obtain ⟨t', rfl⟩ := ry; exact PySem.EqMixed.ne_int_str (fin_bl I q (by simp))
    | _ => exact absurd (show false = true from hs) Bool.false_ne_true
  | str i =>
    obtain ⟨t, rfl⟩ := rx
    cases y with
    | non => cases ry; exact PySem.EqNone.ne_str_none (fin_bl I q (by simp))
    | bl j => cases ry; exact PySem.EqMixed.ne_str_bool (fin_bl I q (by simp))
    | int j => obtain ⟨t', rfl⟩ := ry; exact PySem.EqMixed.ne_str_int (fin_bl I q (by simp))
    | str j => obtain ⟨t', rfl⟩ := ry; exact ne_str (fin_bl I q (congrArg not dec_str))
    | _ => exact absurd (show false = true from hs) Bool.false_ne_true
  | byt i =>
    obtain ⟨t, rfl⟩ := rx
    cases y with
    | byt j => obtain ⟨t', rfl⟩ := ry; exact PySem.W.ne_bytes (fin_bl I q (congrArg not dec_byt))
    | _ => exact absurd (show false = true from hs) Bool.false_ne_true
  | _ => cases y <;> exact absurd (show false = true from hs) Bool.false_ne_true

theorem op_lt : OpR X (compareOp .Lt) (rI0 fun i j => .bl (decide (i < j))) := opB0 fun _ _ _ _ _ _ _ q => lt_int q
theorem op_le : OpR X (compareOp .LtE) (rI0 fun i j => .bl (decide (i ≤ j))) := opB0 fun _ _ _ _ _ _ _ q => le_int q
theorem op_ge : OpR X (compareOp .GtE) (rI0 fun i j => .bl (decide (j ≤ i))) := opB0 fun _ _ _ _ _ _ _ q => ge_int q
/-- is None, is not None: the right side a value none -/
theorem op_isN : OpR X (compareOp .Is) (fun x y H Q => y = .non ∧ Q (.bl (decide (x = .non))) H) := by
  intro pins s σ H x y v u Q I rx ry h
  obtain ⟨rfl, q⟩ := h
  cases ry
  refine is_none_gen (fin_bl I q ?_)
  cases x <;> first
    | (cases rx; rfl)
    | (obtain ⟨t, rfl⟩ := rx; rfl)
theorem op_notN : OpR X (compareOp .IsNot) (fun x y H Q => y = .non ∧ Q (.bl (!decide (x = .non))) H) := by
  intro pins s σ H x y v u Q I rx ry h
  obtain ⟨rfl, q⟩ := h
  cases ry
  refine isnot_none_gen (fin_bl I q ?_)
  cases x <;> first
    | (cases rx; rfl)
    | (obtain ⟨t, rfl⟩ := rx; rfl)

/-- two rules for one operation: by cases -/
theorem OpR.or {f : Value → Value → Sem Value} {r r' : R2} (h : OpR X f r) (h' : OpR X f r') : OpR X f (fun x y H Q => r x y H Q ∨ r' x y H Q) := by
  intro pins s σ H x y v u Q I rx ry q
  rcases q with q | q
  · exact h pins s σ H x y v u Q I rx ry q
  · exact h' pins s σ H x y v u Q I rx ry q

theorem nomark (b : Expr) {op : CmpOp} (h : op ≠ .In := by decide) (h2 : op ≠ .NotIn := by decide) : behindInMarks op b = false := by
  have e1 : (op == CmpOp.In) = false := by cases op <;> first | rfl | exact absurd rfl h
  have e2 : (op == CmpOp.NotIn) = false := by cases op <;> first | rfl | exact absurd rfl h2
  cases b <;> simp [behindInMarks, e1, e2]
/-- a comparison as a value; hm: nomark b, or (for in, not in) by with_unfolding_all rfl -/
theorem pe_cmpR {op : CmpOp} {r : R2} (ho : OpR X (compareOp op) r) (ha : PE X a ta) (hb : PE X b tb) (hm : behindInMarks op b = false) : PE X (.Compare a [op] [b] pos) (tOp r ta tb) := by
  intro pins s σ H Q I h
  exact wpAny_Compare1 (binT ha hb I h fun v u s2 x y H2 I2 rx ry q => ho pins s2 σ H2 x y v u Q I2 rx ry q) hm
/-- a reading of a value as a test -/
def tTest (t : TE) : TT := fun σ H Q => t σ H fun x H' => ∃ k, x = .bl k ∧ Q k H'
theorem pt_cmpR {op : CmpOp} {r : R2} (ho : OpR X (compareOp op) r) (ha : PE X a ta) (hb : PE X b tb) (hm : behindInMarks op b = false) : PT X (.Compare a [op] [b] pos) (tTest (tOp r ta tb)) := by
  intro pins s σ H Q I h
  refine wpAny_isTrue_Compare1 (thn (ha pins s σ H _ I h) fun v s1 ⟨x, H1, I1, r1, q1⟩ => thn (hb pins s1 σ H1 _ I1 q1) fun u s2 ⟨y, H2, I2, r2, q2⟩ =>
    thn (ho pins s2 σ H2 x y v u _ I2 r1 r2 q2) fun c s3 ⟨z, H3, I3, r3, k, e, q3⟩ => ?_) hm
  subst e
  cases r3
  exact wpAny_truthy_bool ⟨H3, I3, q3⟩
theorem line63 : (sizeLine : Nat) < 2 ^ 63 := by rw [sizeLine_eq]; decide
theorem op_add_str : OpR X (binaryOp .Add) (fun x y H Q => ∃ i j, x = .str i ∧ y = .str j ∧ i.length + j.length ≤ sizeLine ∧ Q (.str (i ++ j)) H) := by
  intro pins s σ H x y v u Q I rx ry h
  obtain ⟨i, j, rfl, rfl, hz, q⟩ := h
  obtain ⟨t, rfl⟩ := rx
  obtain ⟨t', rfl⟩ := ry
  exact add_str (fun t' tk => ⟨.str (i ++ j), H, I.tok _, ⟨_, rfl⟩, q⟩) hz
/-! ### scalar builtins, by CallR -/
theorem vals1 {x : V} {us : List Value} (r : Vals [x] us) : ∃ u, us = [u] ∧ RelV x u := by
  cases r with
  | cons r1 r2 => cases r2; exact ⟨_, rfl, r1⟩
theorem call_int1 : CallR X (.type "int") (fun xs H Q => (∃ i, xs = [.int i] ∧ Q (.int i) H) ∨ ∃ k, xs = [.bl k] ∧ Q (.int (if k then 1 else 0)) H) := by
  intro pins s σ H xs us Q I r h
  rcases h with ⟨i, rfl, q⟩ | ⟨k, rfl, q⟩
  · obtain ⟨u, rfl, t, rfl⟩ := vals1 r
    exact call_int_int ⟨.int i, H, I, ⟨_, rfl⟩, q⟩
  · obtain ⟨u, rfl, r1⟩ := vals1 r
    cases r1
    exact call_int_bool ⟨.int (if k then 1 else 0), H, I.tok _, ⟨_, rfl⟩, q⟩
end
end L2

namespace L2
open PySem PySem.Spec PyProof.Rows

/-! ### an instance, its attributes a map -/
structure ObjM (h : Heap) (x dx C : Addr) (mA : Str → Option Value) : Prop where
  obj : h.get? x = some (PySem.W.instObj C dx)
  ns : h.Ns1 dx mA
  ne : dx ≠ x

theorem lookIn_ns {h : Heap} {dx : Addr} {mA : Str → Option Value} (n : h.Ns1 dx mA) : ∃ od, h.get? dx = some od ∧ ∀ name, PySem.W.lookIn name od = some (mA name) := by
  obtain ⟨o, es, ep, ho, hd, hk, _, hm⟩ := n
  refine ⟨o, ho, fun name => ?_⟩
  have e := hm name
  unfold nsFind findBy at e
  rw [← Array.find?_toList] at e
  unfold PySem.W.lookIn
  rw [hd]
  dsimp only
  split
  · rename_i y q
    rw [q] at e
    exact congrArg some e
  · rename_i q
    rw [q] at e
    have a : es.toList.any (·.refKey) = false := by
      rw [List.any_eq_false]
      intro y hy
      obtain ⟨z, t, hkey⟩ := hk y (Array.mem_toList_iff.mp hy)
      simp [DictEntry.refKey, hkey]
    have a' : ¬ es.toList.any (·.refKey) = true := by rw [a]; exact Bool.false_ne_true
    rw [if_neg a']
    exact congrArg some e

theorem ObjM.look {h : Heap} {x dx C : Addr} {mA : Str → Option Value} (I : ObjM h x dx C mA) : ∃ od, PySem.W.InstAt h x (PySem.W.instObj C dx) C (some od) ∧ ∀ name, PySem.W.lookIn name od = some (mA name) :=
  let ⟨od, ho, hl⟩ := lookIn_ns I.ns
  ⟨od, ⟨I.obj, rfl, rfl, ho⟩, hl⟩

section
variable {prog : Program} {w : World} {A : Around} {E : Value → Shared → Prop} {s : Shared} {K : PySem.W.Frag} {x dx C f : Addr} {mA : Str → Option Value} {name : Str} {v : Value}

theorem get_map {expr : Bool} {Q : Value → Shared → Prop} (X : K.In s.heap) (I : ObjM s.heap x dx C mA) (hg : PySem.W.plainGet K C name = true) (hh : PySem.W.hasDictIn K C = true)
    (ha : PySem.W.findIn K (.ref C) name = some none) (hv : mA name = some v) (hv' : PySem.W.handedIn v = true) (h : Q v { s with toks := s.toks + 1 }) :
    wpAny (model prog w) A (getAttr (.ref x) name expr) Q E s := by
  obtain ⟨od, J, hl⟩ := I.look
  exact PySem.W.get_value X J (PySem.W.plainGet_of hg).1 (PySem.W.findObj_own hh ha rfl (by rw [hl, hv])) hv' h

theorem get_meth {pl : Sem Bool} {Q : Value × List Value → Shared → Prop} (X : K.In s.heap) (I : ObjM s.heap x dx C mA) (hg : PySem.W.plainGet K C name = true)
    (hf : PySem.W.findIn K (.ref C) name = some (some (.ref f))) (ht : PySem.W.isFn K (.ref f) = true) (hv : mA name = none) (h : Q (.ref f, [.ref x]) s) :
    wpAny (model prog w) A (getMethod (.ref x) name pl) Q E s := by
  obtain ⟨od, J, hl⟩ := I.look
  exact PySem.W.method_fn X J (PySem.W.plainGet_of hg).1 (PySem.W.plainGet_of hg).2 hf (beq_iff_eq.mp ht) (by show (PySem.W.lookIn name od).map (·.isSome) = some false; rw [hl, hv]; rfl) h

theorem set_map {ns : List Str} {Q : Unit → Shared → Prop} (X : K.In s.heap) (I : ObjM s.heap x dx C mA)
    (hs : PySem.W.findIn K (.ref C) "__setattr__" = some (some (.builtin "object.__setattr__"))) (hp : PySem.W.plainOver K C = true) (ht : PySem.W.takerIn K C name = some none) (hh : PySem.W.hasDictIn K C = true)
    (hw : PySem.Within mA ns) (hsz : ns.length ≤ sizeLine)
    (h : ∀ h', ObjM h' x dx C (fun y => if y = name then some v else mA y) → Heap.SameBut dx s.heap h' → Q () { s with heap := h', toks := s.toks + 2 }) :
    wpAny (model prog w) A (setAttr (.ref x) name v) Q E s := by
  obtain ⟨od, J, hl⟩ := I.look
  refine PySem.W.set_plain X J hs (PySem.W.osa_open (s := { s with toks := s.toks + 1 }) (r := none) X J hp ht fun b => ?_)
  obtain ⟨cd, hc, hd'⟩ := PySem.W.any_some hh
  have hx : s.heap.get? x = some ⟨.ref C, some dx, .plain, #[]⟩ := I.obj
  refine wpAny_bind (wpAny_pure (wpAny_bind (wpAny_bind (wpAny_loadPart hx (wpAny_bind (PySem.W.Looks.here (s := { s with toks := s.toks + 1 }) (PySem.W.looks_clsIn X hc) ?_))))))
  rw [hd']
  refine wpAny_pure (a := some dx) (wpAny_bind (wpAny_pure (wpAny_bind ?_)))
  refine wpAny_nsSet1 (s := { s with toks := s.toks + 1 }) I.ns fun h' hn2 hs2 => ?_
  obtain ⟨oD, esD, epD, hoD, hdD, hcD⟩ := hn2.count (PySem.Within.cons name v hw)
  refine wpAny_bind (wpAny_lookBehind hoD (by rw [hdD]; exact pastItsLine_dict (Nat.le_trans hcD (by rw [List.length_cons]; omega))) ?_)
  exact wpAny_pure (h _ ⟨(hs2.2 _ (Ne.symm I.ne)).trans I.obj, hn2, I.ne⟩ hs2)

/-- C(..): the dict at the heap's end, the instance behind it; then its __init__ -/
theorem make_map {R : Result → Shared → Prop} {vs : List Value} {kw : List (Str × Value)} (X : K.In s.heap) (hm : PySem.W.makesIn K C = true)
    (hi : PySem.W.findIn K (.ref C) "__init__" = some (some (.ref f))) (hf : PySem.W.typeIn K (.ref f) = some (.type "function"))
    (h : codeAny (model prog w) (A.under (.builtin "type.__call__" ⟨.ref C :: vs, kw⟩)) (.call (.ref f) ⟨.ref (s.heap.objs.size + 1) :: vs, kw⟩) (PySem.W.InitBack (s.heap.objs.size + 1) R)
      { s with heap := (s.heap.push PySem.W.emptyDict).push (PySem.W.instObj C s.heap.objs.size) }) :
    codeAny (model prog w) A (.call (.ref C) ⟨vs, kw⟩) R s := by
  obtain ⟨hh, g, d, t, os⟩ := s
  exact PySem.W.make_core (PySem.W.makes_of X hm) (PySem.W.looks_findIn X hi) (fun self => PySem.W.bind_fn X self hf) (.inl rfl) h
/-- C() where there is no __init__ but object's -/
theorem make_map0 {R : Result → Shared → Prop} (X : K.In s.heap) (hm : PySem.W.makesIn K C = true)
    (hi : PySem.W.findIn K (.ref C) "__init__" = some (some (.builtin "object.__init__")))
    (hb : ∀ self, PySem.W.Looks (model prog w) s.heap (bindSpecial (.builtin "object.__init__") self) (.builtin "object.__init__", [self]))
    (h : codeAny (model prog w) (A.under (.builtin "type.__call__" ⟨[.ref C], []⟩)) (.call (.builtin "object.__init__") ⟨[.ref (s.heap.objs.size + 1)], []⟩) (PySem.W.InitBack (s.heap.objs.size + 1) R)
      { s with heap := (s.heap.push PySem.W.emptyDict).push (PySem.W.instObj C s.heap.objs.size) }) :
    codeAny (model prog w) A (.call (.ref C) ⟨[], []⟩) R s := by
  obtain ⟨hh, g, d, t, os⟩ := s
  exact PySem.W.make_core (PySem.W.makes_of X hm) (PySem.W.looks_findIn X hi) hb (.inr ⟨rfl, rfl⟩) h
end

/-! ### the attributes as a list of pairs -/
def putF (f : Str) (v : V) : List (Str × V) → List (Str × V)
  | [] => [(f, v)]
  | (g, x) :: r => if g = f then (g, v) :: r else (g, x) :: putF f v r
theorem lookup_putF (f g : Str) (v : V) : ∀ fs : List (Str × V), (putF f v fs).lookup g = if g = f then some v else fs.lookup g
  | [] => by
    show List.lookup g [(f, v)] = _
    by_cases h : g = f
    · have hb : (g == f) = true := beq_iff_eq.mpr h
      simp only [List.lookup, hb, if_pos h]
    · have hb : (g == f) = false := beq_eq_false_iff_ne.mpr h
      simp only [List.lookup, hb, if_neg h]
  | (k, x) :: r => by
    have ih := lookup_putF f g v r
    rw [show putF f v ((k, x) :: r) = (if k = f then (k, v) :: r else (k, x) :: putF f v r) from rfl]
    by_cases hk : k = f
    · rw [if_pos hk]
      by_cases h : g = k
      · have hb : (g == k) = true := beq_iff_eq.mpr h
        simp only [List.lookup, hb, if_pos (h.trans hk)]
      · have hb : (g == k) = false := beq_eq_false_iff_ne.mpr h
        simp only [List.lookup, hb, if_neg (fun e : g = f => h (e.trans hk.symm))]
    · rw [if_neg hk]
      by_cases h : g = k
      · have hb : (g == k) = true := beq_iff_eq.mpr h
        simp only [List.lookup, hb, if_neg (fun e : g = f => hk (h.symm.trans e))]
      · have hb : (g == k) = false := beq_eq_false_iff_ne.mpr h
        simp only [List.lookup, hb]
        exact ih
theorem keys_putF (f : Str) (v : V) : ∀ fs : List (Str × V), f ∈ (putF f v fs).map (·.1) ∧ ∀ g, g ∈ fs.map (·.1) → g ∈ (putF f v fs).map (·.1)
  | [] => ⟨by simp [putF], fun g h => by simp at h⟩
  | (k, x) :: r => by
    obtain ⟨i1, i2⟩ := keys_putF f v r
    rw [show putF f v ((k, x) :: r) = (if k = f then (k, v) :: r else (k, x) :: putF f v r) from rfl]
    by_cases hk : k = f
    · rw [if_pos hk]
      subst hk
      exact ⟨by simp, fun g h => by simpa using h⟩
    · rw [if_neg hk]
      refine ⟨?_, fun g h => ?_⟩
      · rw [List.map_cons]
        exact List.mem_cons_of_mem _ i1
      · rw [List.map_cons] at h ⊢
        rcases List.mem_cons.mp h with e | e
        · exact List.mem_cons.mpr (.inl e)
        · exact List.mem_cons_of_mem _ (i2 g e)
theorem length_putF (f : Str) (v : V) : ∀ fs : List (Str × V), (putF f v fs).length ≤ fs.length + 1
  | [] => by simp [putF]
  | (k, x) :: r => by
    have ih := length_putF f v r
    rw [show putF f v ((k, x) :: r) = (if k = f then (k, v) :: r else (k, x) :: putF f v r) from rfl]
    by_cases hk : k = f
    · rw [if_pos hk, List.length_cons, List.length_cons]; omega
    · rw [if_neg hk, List.length_cons, List.length_cons]; omega

theorem RelO.some_of {v : V} {o : Option Value} (r : RelO (some v) o) : ∃ u, o = some u ∧ RelV v u := by
  cases o with
  | none => exact (show False from r).elim
  | some u => exact ⟨u, rfl, r⟩
theorem RelO.none_of {o : Option Value} (r : RelO none o) : o = none := by
  cases o with
  | none => rfl
  | some u => exact (show False from r).elim
theorem handed_of {v : V} {u : Value} (r : RelV v u) : PySem.W.handedIn u = true := by
  cases v with
  | non => cases (show u = Value.none from r); rfl
  | bl b => cases (show u = Value.bool b from r); rfl
  | int i => obtain ⟨t, e⟩ := (show ∃ t, u = Value.int i t from r); cases e; rfl
  | str x => obtain ⟨t, e⟩ := (show ∃ t, u = Value.str x t from r); cases e; rfl
  | byt b => obtain ⟨t, e⟩ := (show ∃ t, u = Value.bytes b t from r); cases e; rfl
  | flt b => obtain ⟨t, e⟩ := (show ∃ t, u = Value.float b t from r); cases e; rfl
  | ref a => cases (show u = Value.ref a from r); rfl
  | ty n => cases (show u = Value.type n from r); rfl

section
variable {P : Program} {w : World} {H H' : Hp} {h h' : Heap} {a C dx : Addr} {fs fs' : List (Str × V)}
theorem ins_get (hok : HOk P w H h) (e : H a = some (.ins C dx fs)) : ∃ mA, ObjM h a dx C mA ∧ (∀ f, RelO (fs.lookup f) (mA f)) ∧ PySem.Within mA (fs.map (·.1)) ∧ fs.length ≤ 1000 ∧ H dx = some (.own a) := by
  obtain ⟨d, z, ne, ob, mA, n, r, q⟩ := (show ObjOk P w H h a (.ins C dx fs) from hok a _ e)
  exact ⟨mA, ⟨ob, n, ne⟩, r, q, z, d⟩
end

/-! ### what of the text a class must have -/
structure Cls (K : PySem.W.Frag) (C : Addr) : Prop where
  pg : PySem.W.plainGet K C Str.empty = true
  hd : PySem.W.hasDictIn K C = true
  po : PySem.W.plainOver K C = true
  sa : PySem.W.findIn K (.ref C) "__setattr__" = some (some (.builtin "object.__setattr__"))
theorem Cls.get {K : PySem.W.Frag} {C : Addr} (c : Cls K C) (f : Str) : PySem.W.plainGet K C f = true := c.pg
/-- no class of it has the name -/
def NoAttr (K : PySem.W.Frag) (C : Addr) (f : Str) : Prop := PySem.W.findIn K (.ref C) f = some none
theorem NoAttr.taker {K : PySem.W.Frag} {C : Addr} {f : Str} (n : NoAttr K C f) : PySem.W.takerIn K C f = some none := by
  unfold PySem.W.takerIn
  rw [show PySem.W.findIn K (.ref C) f = some none from n]
  rfl
/-- a method: a plain def of the class or of one above it -/
structure Meth (K : PySem.W.Frag) (C : Addr) (m : Str) (f : Addr) : Prop where
  at_ : PySem.W.findIn K (.ref C) m = some (some (.ref f))
  fn : PySem.W.isFn K (.ref f) = true
  kp : PySem.W.keepIn K (.ref f) = true

section
variable {X : Cx} {pins : List (Addr × Obj)} {σ : St} {H : Hp} {s : Shared} {a C dx : Addr} {fs : List (Str × V)} {f : Str} {v : V} {A : Around} {E : Value → Shared → Prop}

theorem getattr_ok {b : Bool} {Q : Value → Shared → Prop} (I : Inv X pins σ H s) (e : H a = some (.ins C dx fs)) (c : Cls X.K C) (n : NoAttr X.K C f) (l : fs.lookup f = some v)
    (h : ∀ u s', Inv X pins σ H s' → RelV v u → Q u s') : wpAny (model X.prog X.w) A (getAttr (.ref a) f b) Q E s := by
  obtain ⟨mA, O, r, _, _, _⟩ := ins_get I.hok e
  obtain ⟨u, hu, ru⟩ := RelO.some_of (v := v) (o := mA f) (by rw [← l]; exact r f)
  exact get_map I.kIn O (c.get f) c.hd n hu (handed_of ru) (h u _ (I.tok _) ru)

theorem getmeth_ok {m : Str} {g : Addr} {pl : Sem Bool} {Q : Value × List Value → Shared → Prop} (I : Inv X pins σ H s) (e : H a = some (.ins C dx fs)) (c : Cls X.K C) (k : Meth X.K C m g) (l : fs.lookup m = none)
    (h : Q (.ref g, [.ref a]) s) : wpAny (model X.prog X.w) A (getMethod (.ref a) m pl) Q E s := by
  obtain ⟨mA, O, r, _, _, _⟩ := ins_get I.hok e
  have hn : mA m = none := RelO.none_of (by rw [← l]; exact r m)
  exact get_meth I.kIn O (c.get m) k.at_ k.fn hn h

theorem setattr_ok {y : V} {u : Value} {Q : Unit → Shared → Prop} (I : Inv X pins σ H s) (e : H a = some (.ins C dx fs)) (c : Cls X.K C) (n : NoAttr X.K C f) (hl : fs.length < 1000) (ry : RelV y u)
    (h : ∀ s', Inv X pins σ (upd H a (.ins C dx (putF f y fs))) s' → Q () s') : wpAny (model X.prog X.w) A (setAttr (.ref a) f u) Q E s := by
  obtain ⟨mA, O, r, wi, _, ho⟩ := ins_get I.hok e
  have hz : (fs.map (·.1)).length ≤ sizeLine := by rw [List.length_map, sizeLine_eq]; omega
  refine set_map I.kIn O c.sa c.po n.taker c.hd wi hz fun h' O' sb => h _ ?_
  have hd : ∃ o, h'.get? dx = some o := let ⟨o, _, _, e', _⟩ := O'.ns; ⟨o, e'⟩
  refine I.write (x := a) (e := dx) (by rw [e]; exact True.intro) (.inr ho) (fun b q hb z => (sb.2 b hb).trans z) hd ?_
  refine ⟨by rw [upd_ne O.ne]; exact ho, ?_, O.ne, O'.obj, _, O'.ns, fun g => ?_, fun g hg => ?_⟩
  · have := length_putF f y fs; omega
  · show RelO ((putF f y fs).lookup g) (if g = f then some u else mA g)
    rw [lookup_putF]
    by_cases q : g = f
    · rw [if_pos q, if_pos q]; exact ry
    · rw [if_neg q, if_neg q]; exact r g
  · by_cases q : g = f
    · rw [q]; exact (keys_putF f y fs).1
    · refine (keys_putF f y fs).2 g (wi g fun z => hg ?_)
      show (if g = f then some u else mA g) = none
      rw [if_neg q]; exact z

/-- a new instance, tracked, without attributes -/
theorem Inv.made (I : Inv X pins σ H s) : Inv X pins σ (upd (upd H s.heap.objs.size (.own (s.heap.objs.size + 1))) (s.heap.objs.size + 1) (.ins C s.heap.objs.size []))
    { s with heap := (s.heap.push PySem.W.emptyDict).push (PySem.W.instObj C s.heap.objs.size) } := by
  have e1 : (s.heap.push PySem.W.emptyDict).get? s.heap.objs.size = some PySem.W.emptyDict := Heap.get?_push_size s.heap rfl
  have e2 : ((s.heap.push PySem.W.emptyDict).push (PySem.W.instObj C s.heap.objs.size)).get? (s.heap.objs.size + 1) = some (PySem.W.instObj C s.heap.objs.size) := by
    have := Heap.get?_push_size (s.heap.push PySem.W.emptyDict) (o := PySem.W.instObj C s.heap.objs.size) rfl
    rwa [Heap.size_push] at this
  have e3 : (s.heap.push PySem.W.emptyDict).Ns s.heap.objs.size (fun _ => none) := ⟨PySem.W.emptyDict, #[], _, e1, rfl, (fun e he => absurd he (by simp)), fun _ => rfl⟩
  have I1 := I.laid (a := s.heap.objs.size) (o := .own (s.heap.objs.size + 1)) (h' := s.heap.push PySem.W.emptyDict) (t' := s.toks) (fun b u q => Heap.get?_push_of_some _ q) (Nat.le_refl _) ⟨_, e1⟩
  refine I1.laid (a := s.heap.objs.size + 1) (o := .ins C s.heap.objs.size []) (t' := s.toks) (fun b u q => Heap.get?_push_of_some _ q) (Nat.le_of_eq (Heap.size_push _ _)) ?_
  have ne : s.heap.objs.size ≠ s.heap.objs.size + 1 := Nat.ne_of_lt (Nat.lt_succ_self _)
  refine ⟨by rw [upd_ne ne, upd_same], Nat.zero_le _, ne, e2, fun _ => none, (Heap.Ns1.of_empty e3).at fun o q => Heap.get?_push_of_some _ q, fun _ => True.intro, fun y hy => absurd rfl hy⟩

/-- e.f where nothing but the object is asked: through attributeBase (super) and the last hold -/
theorem attr_of {prog : Program} {w : World} {env : Env} {e : Expr} {f : Str} {pos : Pos} {s : Shared} {Q : Value → Shared → Prop} (hb : attributeBase e f env (eval e env) = eval e env)
    (h : wpAny (model prog w) A (eval e env) (fun o s₁ => wpAny (model prog w) A (getAttr o f true) Q E s₁) E s) : wpAny (model prog w) A (eval (.Attribute e f pos) env) Q E s :=
  Attribute_any_ h (by rw [arm_eval_Attribute, hb])
end

/-! ### readings and rules -/
/-- e.f, an attribute of the instance -/
def tFld (K : PySem.W.Frag) (ta : TE) (f : Str) : TE := fun σ H Q => ta σ H fun x H1 => ∃ a C dx fs v, x = .ref a ∧ H1 a = some (.ins C dx fs) ∧ Cls K C ∧ NoAttr K C f ∧ fs.lookup f = some v ∧ Q v H1
/-- e.f = value -/
def sFld (K : PySem.W.Frag) (ta tv : TE) (f : Str) : TS := fun D σ H => tv σ H fun y H1 => ta σ H1 fun x H2 => ∃ a C dx fs, x = .ref a ∧ H2 a = some (.ins C dx fs) ∧ Cls K C ∧ NoAttr K C f ∧ fs.length < 1000 ∧
  D.nx σ (upd H2 a (.ins C dx (putF f y fs)))
section
variable {X : Cx} {o e value : Expr} {f : Str} {pos pos' tpos : Pos} {ta tv : TE}
theorem pe_fld (he : PE X e ta) (hb : attributeBase e f X.env (eval e X.env) = eval e X.env) : PE X (.Attribute e f pos) (tFld X.K ta f) := by
  intro pins s σ H Q I h
  refine attr_of hb (thn (he pins s σ H _ I h) fun u s1 ⟨x, H1, I1, rx, a, C, dx, fs, v, ex, ea, c, n, l, q⟩ => ?_)
  subst ex
  obtain rfl : u = Value.ref a := rx
  exact getattr_ok I1 ea c n l fun u' s2 I2 ru => ⟨v, H1, I2, ru, q⟩
theorem ps_fld (ha : PE X o ta) (hv : PE X value tv) (hs : swapsWith value (some (.Attribute o f pos')) pos.line X.env = pure false) : PS X (.Assign [.Attribute o f pos'] value pos) (sFld X.K ta tv f) := by
  intro pins s σ H D I h
  refine plainObj_wpAny_Assign_Attribute (thn (hv pins s σ H _ I h) fun u s1 ⟨y, H1, I1, ry, q⟩ => thn (ha pins s1 σ H1 _ I1 q) fun ov s2 ⟨x, H2, I2, rx, a, C, dx, fs, ex, ea, c, n, l, q2⟩ => ?_) hs
  subst ex
  obtain rfl : ov = Value.ref a := rx
  exact setattr_ok I2 ea c n l ry fun s3 I3 => ⟨σ, _, I3, q2⟩
end

/-! ### isinstance -/
section
variable {X : Cx} {pins : List (Addr × Obj)} {σ : St} {H : Hp} {s : Shared} {A : Around} {E : Value → Shared → Prop} {Q : Value → Shared → Prop} {c : Value} {b : Bool}
/-- the type of a value, as the fragment's deciders take it; for an instance its class -/
inductive TyOf (K : PySem.W.Frag) (H : Hp) : V → Value → Prop where
  | non : TyOf K H .non (.type "NoneType")
  | bl (x : Bool) : TyOf K H (.bl x) (.type "bool")
  | int (i : Int) : TyOf K H (.int i) (.type "int")
  | str (x : Str) : TyOf K H (.str x) (.type "str")
  | flt (x : UInt64) : TyOf K H (.flt x) (.type "float")
  | lst {a : Addr} {xs : List V} (e : H a = some (.lst xs)) : TyOf K H (.ref a) (.type "list")
  | frz {a : Addr} {o : Obj} {xs : List V} (e : H a = some (.frz o (.lst xs))) : TyOf K H (.ref a) (.type "list")
  | tup {a : Addr} {xs : List V} (e : H a = some (.tup xs)) : TyOf K H (.ref a) (.type "tuple")
  | dK {a : Addr} {kvs : List (Key × V)} (e : H a = some (.dK kvs)) : TyOf K H (.ref a) (.type "dict")
  | dT {a : Addr} {kvs : List (List Key × V)} (e : H a = some (.dT kvs)) : TyOf K H (.ref a) (.type "dict")
  | ins {a C dx : Addr} {fs : List (Str × V)} (e : H a = some (.ins C dx fs)) (cl : Cls K C) (ha : PySem.W.findIn K (.ref C) "__class__" = some (some (.builtin "object.__class__")))
      (hn : PySem.W.specialIn K (.builtin "object.__class__") "__get__" = some (some (.builtin "getset_descriptor.__get__"))) (htk : PySem.W.takesIn K (.builtin "object.__class__") = some true)
      (hm : PySem.W.mroIn K C (.type "object") = some true) : TyOf K H (.ref a) (.ref C)
/-- isinstance(x, c) for one class c, a built-in or an own one: kitOne's answer -/
theorem isinst_ok {x : V} {u t : Value} (I : Inv X pins σ H s) (rx : RelV x u) (ty : TyOf X.K H x t) (e : PySem.W.kitOne X.K t c = some b) (h : ∀ tk, Q (.bool b) { s with toks := tk }) :
    wpAny (model X.prog X.w) A (call (.builtin "isinstance") [u, c]) Q E s := by
  cases ty with
  | non => cases (show u = Value.none from rx); exact PySem.W.kia_one PySem.W.kitx_none I.kIn True.intro e (fun z => nomatch z) h
  | bl y => cases (show u = Value.bool y from rx); exact PySem.W.kia_one PySem.W.kitx_bool I.kIn True.intro e (fun z => nomatch z) h
  | int i => obtain ⟨t, q⟩ := (show ∃ t, u = Value.int i t from rx); cases q; exact PySem.W.kia_one PySem.W.kitx_int I.kIn True.intro e (fun z => nomatch z) h
  | str y => obtain ⟨t, q⟩ := (show ∃ t, u = Value.str y t from rx); cases q; exact PySem.W.kia_one PySem.W.kitx_str I.kIn True.intro e (fun z => nomatch z) h
  | flt y => obtain ⟨t, q⟩ := (show ∃ t, u = Value.float y t from rx); cases q; exact PySem.W.kia_one PySem.W.kitx_float I.kIn True.intro e (fun z => nomatch z) h
  | @lst a xs ea =>
    cases (show u = Value.ref a from rx)
    obtain ⟨_, _, n, _, h1⟩ := (show ObjOk X.prog X.w H s.heap a (.lst xs) from I.hok a _ ea)
    exact PySem.W.kia_one PySem.W.kitx_list I.kIn ⟨_, h1, rfl⟩ e (fun z => nomatch z) h
  | @frz a ob xs ea =>
    cases (show u = Value.ref a from rx)
    obtain ⟨_, _, _, n, _, h1⟩ := (show ObjOk X.prog X.w H s.heap a (.frz ob (.lst xs)) from I.hok a _ ea)
    exact PySem.W.kia_one PySem.W.kitx_list I.kIn ⟨_, h1, rfl⟩ e (fun z => nomatch z) h
  | @tup a xs ea =>
    cases (show u = Value.ref a from rx)
    obtain ⟨_, _, _, p⟩ := (show ObjOk X.prog X.w H s.heap a (.tup xs) from I.hok a _ ea)
    obtain ⟨o, h1, h2, _⟩ := p
    exact PySem.W.kia_one PySem.W.kitx_tuple I.kIn ⟨o, h1, h2⟩ e (fun z => nomatch z) h
  | @dK a kvs ea =>
    cases (show u = Value.ref a from rx)
    obtain ⟨_, _, vs, _, p⟩ := (show ObjOk X.prog X.w H s.heap a (.dK kvs) from I.hok a _ ea)
    obtain ⟨o, es, ep, h1, h2, _⟩ := p
    exact PySem.W.kia_one PySem.W.kitx_dict I.kIn ⟨o, h1, h2.1⟩ e (fun z => nomatch z) h
  | @dT a kvs ea =>
    cases (show u = Value.ref a from rx)
    obtain ⟨_, _, xs, _, o, es, ep, h1, h2, _⟩ := (show ObjOk X.prog X.w H s.heap a (.dT kvs) from I.hok a _ ea)
    exact PySem.W.kia_one PySem.W.kitx_dict I.kIn ⟨o, h1, h2.1⟩ e (fun z => nomatch z) h
  | @ins a C dx fs ea cl ha hn htk hm =>
    cases (show u = Value.ref a from rx)
    obtain ⟨mA, O, _⟩ := ins_get I.hok ea
    obtain ⟨od, J, _⟩ := O.look
    exact PySem.W.kia_one (PySem.W.kitx_own (cl.get _) cl.hd ha hn htk hm) I.kIn J e (fun z => nomatch z) h
end
end L2

namespace L2
open PySem PySem.Spec PyProof.Rows

/-! ### room -/
structure Room (k : Nat) (A : Around) : Prop where
  hd : A.handled = none
  dp : A.depth + 3 * k + 5 < recursionLimit
  un : A.units + 16 * k + 200 < cLine
theorem Room.mono {j k : Nat} {A : Around} (r : Room k A) (h : j ≤ k) : Room j A := ⟨r.hd, by have := r.dp; omega, by have := r.un; omega⟩
theorem Room.deeper {k : Nat} {A : Around} (r : Room (k + 1) A) (env : Env) : Room k (A.deeper env) :=
  ⟨r.hd, by have := r.dp; show A.depth + 1 + 3 * k + 5 < _; omega, by have := r.un; show A.units + 3 + 16 * k + 200 < _; omega⟩
theorem Room.in1 {k : Nat} {A : Around} (r : Room (k + 1) A) : Room k A.in1 :=
  ⟨r.hd, by have := r.dp; show A.depth + 3 * k + 5 < _; omega, by have := r.un; show A.units + 1 + 16 * k + 200 < _; omega⟩
theorem make_depth {A : Around} {C : Addr} {us : List Value} {kw : List (Str × Value)} : (A.under (.builtin "type.__call__" ⟨.ref C :: us, kw⟩)).depth = A.depth + 1 := by
  first | rfl | simp [Around.under, Code.weight, Code.isCreation, Code.isGuard, Code.isCaller, Code.frames, Code.isFrame, guardIds]
theorem make_units {A : Around} {C : Addr} {us : List Value} {kw : List (Str × Value)} : (A.under (.builtin "type.__call__" ⟨.ref C :: us, kw⟩)).units = A.units + 1 := by
  first | rfl | simp [Around.under, Code.cUnits, Code.frames, Code.isFrame]
theorem Room.make {k : Nat} {A : Around} (r : Room (k + 1) A) (C : Addr) (us : List Value) (kw : List (Str × Value)) : Room k (A.under (.builtin "type.__call__" ⟨.ref C :: us, kw⟩)) :=
  ⟨r.hd, by have := r.dp; rw [make_depth]; omega, by have := r.un; rw [make_units]; omega⟩
theorem Room.depth {k : Nat} {A : Around} (r : Room k A) : A.depth < recursionLimit := by have := r.dp; omega
theorem Room.units {k : Nat} {A : Around} (r : Room k A) : A.units + 64 < cLine := by have := r.un; omega
/-! ### argument lists and displays -/
def tNil : TA := fun _ H Q => Q [] H
def tCons (ta : TE) (tr : TA) : TA := fun σ H Q => ta σ H fun x H1 => tr σ H1 fun xs H2 => Q (x :: xs) H2
section
variable {X : Cx} {e : Expr} {es : List Expr} {te : TE} {t : TA} {pos : Pos}
theorem pa_nil : PA X [] tNil := fun _ _ _ _ H Q I h => Calls.spliced_nil ⟨[], H, I, .nil, h⟩
theorem pa_cons (ha : PE X e te) (hr : PA X es t) (hs : starEach (e :: es) X.env = (false, eval e X.env) :: starEach es X.env := by rfl) : PA X (e :: es) (tCons te t) := by
  intro pos pins s σ H Q I h
  rw [hs]
  show wpAny _ _ (spliced ((false, eval e X.env) :: backTo pos (starEach es X.env))) _ _ s
  refine Calls.spliced_cons (thn (ha pins s σ H _ I h) fun u s1 ⟨x, H1, I1, r1, q1⟩ => ?_)
  exact thn (hr pos pins s1 σ H1 _ I1 q1) fun us s2 ⟨xs, H2, I2, r2, q2⟩ => ⟨x :: xs, H2, I2, .cons r1 r2, q2⟩

/-- a tuple, a list of written items -/
def tTup (t : TA) : TE := fun σ H Q => t σ H fun xs H1 => xs.length ≤ sizeLine ∧ ∀ p, H1 p = none → Q (.ref p) (upd H1 p (.tup xs))
def tLst (t : TA) : TE := fun σ H Q => t σ H fun xs H1 => xs.length ≤ sizeLine ∧ ∀ p, H1 p = none → Q (.ref p) (upd H1 p (.lst xs))
theorem pe_tup {x1} (h : PA X es t) : PE X (.Tuple es x1 pos) (tTup t) := by
  intro pins s σ H Q I hq
  refine wpAny_Tuple_spliced (thn (h pos pins s σ H _ I hq) fun us s1 ⟨xs, H1, I1, r, z, q⟩ => ⟨by rw [← r.length]; exact z, ?_⟩)
  have hf : H1 s1.heap.objs.size = none := I1.hok.fresh (Nat.le_refl _)
  refine ⟨.ref s1.heap.objs.size, upd H1 s1.heap.objs.size (.tup xs), I1.laid (t' := s1.toks) (fun b u e => Heap.get?_push_of_some _ e) (Nat.le_refl _) ?_, rfl, q _ hf⟩
  exact ⟨z, us, r, ⟨_, Heap.get?_push_size _ rfl, rfl, _, rfl⟩⟩
theorem pe_lst (h : PA X es t) : PE X (.List es pos) (tLst t) := by
  intro pins s σ H Q I hq
  refine wpAny_List_spliced (thn (h pos pins s σ H _ I hq) fun us s1 ⟨xs, H1, I1, r, z, q⟩ => ⟨by rw [← r.length]; exact z, ?_⟩)
  have hf : H1 s1.heap.objs.size = none := I1.hok.fresh (Nat.le_refl _)
  refine ⟨.ref s1.heap.objs.size, upd H1 s1.heap.objs.size (.lst xs), I1.laid (t' := s1.toks) (fun b u e => Heap.get?_push_of_some _ e) (Nat.le_refl _) ?_, rfl, q _ hf⟩
  exact ⟨z, us, 0, r, Heap.get?_push_size _ rfl⟩
end

/-! ### what a def promises -/
/-- a def's promise: the bound arguments in the parameters' order, the heap, the wanted end, the wanted exception -/
abbrev Sp := List V → Hp → VK → XK → Prop
/-- how an exception lies behind a call (file 08 gives it): the callers' frames, abstract heap and state ahead of the call, the wish, the exception, the state -/
abbrev CXT := List Env → Hp → Shared → XK → Value → Shared → Prop

/-- the state at a call -/
structure Env0 (P : Program) (w : World) (K : PySem.W.Frag) (mg : Str → Option Value) (base : Heap) (A : Around) (outer : List Env) (s : Shared) (H : Hp) : Prop where
  frames : A.frames = some outer
  mod : Mod K mg base
  bs : ∀ b o, base.get? b = some o → s.heap.get? b = some o ∧ H b = none
  bsz : base.objs.size ≤ s.heap.objs.size
  funs : s.heap.FunFrames base outer
  frf : ∀ b ∈ frs outer, H b = none
  hok : HOk P w H s.heap
  bare : AllBare s.gens
/-- a call's end -/
def CE (outer : List Env) (P : Program) (w : World) (H : Hp) (s : Shared) (Q : VK) (u : Value) (s' : Shared) : Prop :=
  ∃ v H', s'.os = s.os ∧ AllBare s'.gens ∧ Un (frs outer) [] H H' s.heap s'.heap ∧ HOk P w H' s'.heap ∧ RelV v u ∧ Q v H'
def CR (CX : CXT) (outer : List Env) (P : Program) (w : World) (H : Hp) (s : Shared) (Q : VK) (E : XK) (r : Result) (s' : Shared) : Prop :=
  match r with
  | .ok (.ret u) => CE outer P w H s Q u s'
  | .ok _ => False
  | .error e => CX outer H s E e s'
structure FnOk (P : Program) (w : World) (K : PySem.W.Frag) (mg : Str → Option Value) (base : Heap) (CX : CXT) (k : Nat) (f : Addr) (fd : FuncData) (ps : List Str) (sp : Sp) : Prop where
  len : ∀ vs H Q E, sp vs H Q E → vs.length = ps.length
  run : ∀ (A : Around) (outer : List Env) (s : Shared) (H : Hp) (args : Args) (us : List Value) (vs : List V) (Q : VK) (E : XK), Room k A → Env0 P w K mg base A outer s H → BindsTo s fd args (ps.zip us) → Vals vs us → sp vs H Q E →
    codeAny (model P w) A (.call (.ref f) args) (CR CX outer P w H s Q E) s
theorem FnOk.mono {P : Program} {w : World} {K : PySem.W.Frag} {mg : Str → Option Value} {base : Heap} {CX : CXT} {j k : Nat} {f : Addr} {fd : FuncData} {ps : List Str} {sp : Sp} (F : FnOk P w K mg base CX j f fd ps sp) (h : j ≤ k) :
    FnOk P w K mg base CX k f fd ps sp := ⟨F.len, fun A outer s H args us vs Q E hr => F.run A outer s H args us vs Q E (hr.mono h)⟩
theorem Env0.make {P : Program} {w : World} {K : PySem.W.Frag} {mg : Str → Option Value} {base : Heap} {A : Around} {outer : List Env} {s : Shared} {H : Hp} (e : Env0 P w K mg base A outer s H) (C : Addr) (us : List Value) (kw : List (Str × Value)) :
    Env0 P w K mg base (A.under (.builtin "type.__call__" ⟨.ref C :: us, kw⟩)) outer s H := ⟨by first | exact e.frames | (simpa [Around.under, Code.envs, Code.isFrame, pushEnvs] using e.frames), e.mod, e.bs, e.bsz, e.funs, e.frf, e.hok, e.bare⟩
theorem Env0.in1 {P : Program} {w : World} {K : PySem.W.Frag} {mg : Str → Option Value} {base : Heap} {A : Around} {outer : List Env} {s : Shared} {H : Hp} (e : Env0 P w K mg base A outer s H) :
    Env0 P w K mg base A.in1 outer s H := ⟨e.frames, e.mod, e.bs, e.bsz, e.funs, e.frf, e.hok, e.bare⟩

section
variable {X : Cx} {pins : List (Addr × Obj)} {σ : St} {H : Hp} {s s' : Shared}
/-- from a body: what a callee wants -/
theorem Inv.env0 (I : Inv X pins σ H s) : Env0 X.prog X.w X.K X.mg X.base X.A X.stack s H :=
  ⟨I.ok.frames, I.ok.mod, I.bs, Nat.le_trans I.ok.bsz I.sz, I.stack, I.stkFree, I.hok, I.bare⟩
/-- behind a call -/
theorem Inv.after {Q : VK} {u : Value} (I : Inv X pins σ H s) (h : CE X.stack X.prog X.w H s Q u s') : EP X pins σ Q u s' := by
  obtain ⟨v, H', os, bare, un, hok, r, q⟩ := h
  obtain ⟨hh, g, d, t, os'⟩ := s'
  obtain rfl : os' = s.os := os
  exact ⟨v, H', I.call (h' := hh) (g' := g) (d' := d) (t' := t) (ch := []) un hok bare (fun b z => absurd z (by simp)), r, q⟩
end

/-- how the parameters are bound: us the positional arguments, kw the keywords' values by name, ds the defaults that fill up -/
def Binds (K : PySem.W.Frag) (fd : FuncData) (ps : List Str) (ds : List Value) : Prop :=
  ∀ (s : Shared) (us : List Value), K.In s.heap → (us ++ ds).length = ps.length → BindsTo s fd ⟨us, []⟩ (ps.zip (us ++ ds))
/-- every parameter is given -/
theorem Binds.all {K : PySem.W.Frag} {fd : FuncData} {ps : List Str} (h : ∀ us : List Value, us.length = ps.length → bindArgs fd ⟨us, []⟩ = pure (ps.zip us)) : Binds K fd ps [] := fun s us _ hl => by
  rw [List.append_nil] at hl ⊢
  exact .of_eq (h us hl)

section
variable {X : Cx} {CX : CXT} {k : Nat} {f C : Addr} {fd : FuncData} {ps : List Str} {sp : Sp} {dvs : List V} {ds : List Value} {E : XK} {x m : Str} {p pos apos : Pos} {e o : Expr} {es : List Expr} {ta : TE} {t : TA}

/-- what a class must have to be made -/
structure Mk (K : PySem.W.Frag) (C f : Addr) : Prop where
  makes : PySem.W.makesIn K C = true
  init : PySem.W.findIn K (.ref C) "__init__" = some (some (.ref f))
  fn : PySem.W.isFn K (.ref f) = true
  kp : PySem.W.keepIn K (.ref C) = true

end

section
variable {X : Cx} {CX : CXT} {k : Nat} {f C : Addr} {fd : FuncData} {ps ks : List Str} {sp : Sp} {E : XK} {x m : Str} {p pos apos kpos : Pos} {e o : Expr} {es : List Expr} {kws : List Keyword} {te ta : TE} {t tk : TA} {nm : Option Str}
variable {g : List Value → List Value → List Value} {gV : List V → List V → List V}
end

/-! ### a def's body keeps its promise -/
/-- names: the parameters first -/
structure FnScope (N P : List Str) (sc : Scope) : Prop where
  kind : sc.kind = .function
  co : sc.isCoroutine = false
  gen : sc.isGenerator = false
  nd : N.Nodup
  pre : N.take P.length = P
  par : ∀ x ∈ P, sc.names.lookup x = some .local ∨ sc.names.lookup x = some .cell
  nofree : ∀ y ∈ sc.names, y.2 ≠ .free

theorem bindL_out {kindOf : Str → Option NameKind} {x : Str} : ∀ {binds : List (Str × Value)} {m : Str → Option Value}, (∀ v, (x, v) ∉ binds) → bindL kindOf binds m x = m x
  | [], _, _ => rfl
  | (n, v) :: r, m, h => by
    unfold bindL
    rw [bindL_out fun w hw => h w (List.mem_cons_of_mem _ hw)]
    split
    · have : x ≠ n := by rintro rfl; exact h v List.mem_cons_self
      simp [this]
    · rfl
theorem bindC_out {kindOf : Str → Option NameKind} {x : Str} : ∀ {binds : List (Str × Value)} {m : Str → Option Value}, (∀ v, (x, v) ∉ binds) → bindC kindOf binds m x = m x
  | [], _, _ => rfl
  | (n, v) :: r, m, h => by
    unfold bindC
    rw [bindC_out fun w hw => h w (List.mem_cons_of_mem _ hw)]
    split
    · rfl
    · have : x ≠ n := by rintro rfl; exact h v List.mem_cons_self
      simp [this]
theorem bindL_get {kindOf : Str → Option NameKind} {x : Str} {v : Value} : ∀ {P : List Str} {vs : List Value} {i : Nat} {m : Str → Option Value}, P.Nodup → P[i]? = some x → vs[i]? = some v → kindOf x = some .local →
    bindL kindOf (P.zip vs) m x = some v
  | [], _, _, _, _, h, _, _ => by simp at h
  | _ :: _, [], _, _, _, _, h, _ => by simp at h
  | p :: P, w :: vs, 0, m, nd, h1, h2, hk => by
    simp at h1 h2; subst h1; subst h2
    show bindL kindOf ((p, w) :: P.zip vs) m p = _
    unfold bindL
    rw [bindL_out fun v hv => (List.nodup_cons.mp nd).1 (List.of_mem_zip hv).1, if_pos hk]
    simp
  | p :: P, w :: vs, i + 1, m, nd, h1, h2, hk => by
    show bindL kindOf ((p, w) :: P.zip vs) m x = _
    unfold bindL
    exact bindL_get (i := i) (List.nodup_cons.mp nd).2 (by simpa using h1) (by simpa using h2) hk
theorem bindC_get {kindOf : Str → Option NameKind} {x : Str} {v : Value} : ∀ {P : List Str} {vs : List Value} {i : Nat} {m : Str → Option Value}, P.Nodup → P[i]? = some x → vs[i]? = some v → kindOf x ≠ some .local →
    bindC kindOf (P.zip vs) m x = some v
  | [], _, _, _, _, h, _, _ => by simp at h
  | _ :: _, [], _, _, _, _, h, _ => by simp at h
  | p :: P, w :: vs, 0, m, nd, h1, h2, hk => by
    simp at h1 h2; subst h1; subst h2
    show bindC kindOf ((p, w) :: P.zip vs) m p = _
    unfold bindC
    rw [bindC_out fun v hv => (List.nodup_cons.mp nd).1 (List.of_mem_zip hv).1, if_neg hk]
    simp
  | p :: P, w :: vs, i + 1, m, nd, h1, h2, hk => by
    show bindC kindOf ((p, w) :: P.zip vs) m x = _
    unfold bindC
    exact bindC_get (i := i) (List.nodup_cons.mp nd).2 (by simpa using h1) (by simpa using h2) hk

/-- the names' values at the entry -/
def start (N : List Str) (vs : List V) : St := vs.map some ++ List.replicate (N.length - vs.length) none

/-- the context of a def's body, at its entry; an exception leaves the frame, then lies as CX says -/
def cxOf (CX : CXT) (P : Program) (w : World) (K : PySem.W.Frag) (mg : Str → Option Value) (base : Heap) (N : List Str) (qual : Str) (scope : Scope) (f : Addr) (cd : Value) (A : Around) (outer : List Env) (s : Shared) (H : Hp) (E : XK) : Cx where
  prog := P
  w := w
  K := K
  mg := mg
  base := base
  A := A.deeper (envOfC qual scope s.heap.objs.size f cd)
  N := N
  s₀ := s
  H₀ := H
  env := envOfC qual scope s.heap.objs.size f cd
  outer := outer
  stack := envOfC qual scope s.heap.objs.size f cd :: outer
  ex := []
  calm := true
  fn := fun _ => true
  pn := []
  xe := fun e s' => wpAny (model P w) (A.deeper (envOfC qual scope s.heap.objs.size f cd)) (leaving (envOfC qual scope s.heap.objs.size f cd) e) (fun _ s'' => CX outer H s E e s'') (fun e' s'' => CX outer H s E e' s'') s'

theorem cell_has {sc : Scope} {n : Nat} {x : Str} (h : sc.names.lookup x = some .cell) : ∃ c, (cellsFrom n sc.names []).lookup x = some c := by
  have q := PySem.W.cellsFrom_some sc.names n [] (.inl h)
  exact Option.isSome_iff_exists.mp q

theorem inv_start {CX : CXT} {P : Program} {w : World} {K : PySem.W.Frag} {mg : Str → Option Value} {base : Heap} {N ps : List Str} {qual : Str} {scope : Scope} {f : Addr} {cd : Value} {A : Around} {outer : List Env} {s s1 : Shared} {H : Hp} {E : XK} {us : List Value} {vs : List V}
    (S : FnScope N ps scope) (hd : A.handled = none) (e0 : Env0 P w K mg base A outer s H) (hl : vs.length = ps.length) (r : Vals vs us)
    (x : InCallC s s.heap.objs.size (bindL (envOfC qual scope s.heap.objs.size f cd).kindOf (ps.zip us) fun _ => none) (cellsFrom (s.heap.objs.size + 1) scope.names []) (bindC (envOfC qual scope s.heap.objs.size f cd).kindOf (ps.zip us) fun _ => none) s1) :
    Inv (cxOf CX P w K mg base N qual scope f cd A outer s H E) [] (start N vs) H s1 := by
  have hpl : ps.length ≤ N.length := by have := congrArg List.length S.pre; rw [List.length_take] at this; omega
  obtain ⟨h1, tk, rfl, hk⟩ := x.done
  have noA : ∀ b : Addr, b ∉ (cxOf CX P w K mg base N qual scope f cd A outer s H E).ex := fun b z => absurd (show b ∈ ([] : List Addr) from z) (by simp)
  refine ⟨⟨e0.mod, S.kind, rfl, rfl, Nat.le_refl _, fun y z c h1 h2 => ?_, fun y hy => ?_, fun y c _ h => ?_, fun _ => hd, Around.frames_deeper e0.frames, .inr ⟨rfl, rfl⟩, fun b z => absurd z (noA b), e0.bs, e0.bsz, fun b _ _ => noA b, fun b z => absurd z (noA b), e0.funs, e0.frf⟩,
    rfl, e0.bare, Un.kept hk, ⟨_, x.toInCall.ns, fun i y v h1 h2 h3 => ?_⟩, fun y c h => ⟨_, x.cell y c h⟩, e0.hok.fresh (Nat.le_refl _), fun y c h => ?_, fun p hp => absurd (show p ∈ ([] : List (Addr × Obj)) from hp) (by simp), e0.hok.kept hk, ?_⟩
  · exact name_of_addr x.apart (PySem.mem_of_lookup h1) (PySem.mem_of_lookup h2)
  · have hy : scope.names.lookup y = some .cell ∨ scope.names.lookup y = some .free := hy
    rcases hy with hy | hy
    · exact cell_has hy
    · exact absurd rfl (S.nofree _ (PySem.mem_of_lookup hy))
  · exact Nat.le_of_lt (x.above y c (PySem.mem_of_lookup h))
  · have hi : i < vs.length := by
      unfold start at h2
      by_cases hi : i < vs.length
      · exact hi
      · rw [List.getElem?_append_right (by simpa using hi)] at h2
        rw [List.getElem?_replicate] at h2
        split at h2 <;> cases h2
    have ha : vs[i]? = some v := by
      unfold start at h2
      rw [List.getElem?_append_left (by simpa using hi), List.getElem?_map] at h2
      cases e : vs[i]? with
      | none => rw [e] at h2; cases h2
      | some a => rw [e] at h2; cases h2; rfl
    obtain ⟨u, hu, rv⟩ := r.get ha
    have hp : ps[i]? = some y := by
      rw [← S.pre, List.getElem?_take_of_lt (by omega)]; exact h1
    have ndP : ps.Nodup := by rw [← S.pre]; exact S.nd.sublist (List.take_sublist _ _)
    refine ⟨u, rv, ?_⟩
    rcases S.par y (List.mem_of_getElem? hp) with k | k
    · exact .inl ⟨k, bindL_get ndP hp hu k⟩
    · obtain ⟨c, e⟩ := cell_has (n := s.heap.objs.size + 1) k
      refine .inr ⟨.inl k, c, e, ?_⟩
      have q := x.cell y c e
      rw [bindC_get ndP hp hu (by show scope.names.lookup y ≠ _; rw [k]; decide)] at q
      exact q
  · exact e0.hok.fresh (Nat.le_of_lt (x.above y c (PySem.mem_of_lookup h)))
  · unfold start
    show _ = N.length
    rw [List.length_append, List.length_map, List.length_replicate]
    omega

/-- THE RULE: a def (or a method) of the text, by its body. The body's reading t is chosen for each entry; it is run at the parameters' values -/
theorem fn_of {CX : CXT} {P : Program} {w : World} {K : PySem.W.Frag} {mg : Str → Option Value} {base : Heap} {k : Nat} {f : Addr} {name qual : Str} {params : Arguments} {body : List Stmt} {scope : Scope} {dV kV doc pm cdv ct oc : Value} {an od : Option Addr}
    {osl : Array (Option Value)} {N ps : List Str} {sp : Sp} (lk : K.lookup f = some ⟨oc, od, .func (PySem.W.fnOf name qual params body scope dV kV doc pm an cdv ct), osl⟩) (hcd : PySem.W.codeIn K cdv qual = true) (S : FnScope N ps scope)
    (len : ∀ vs H Q E, sp vs H Q E → vs.length = ps.length)
    (hbody : ∀ (A : Around) (outer : List Env) (s : Shared) (H : Hp) (vs : List V) (Q : VK) (E : XK), Room k (A.deeper (envOfC qual scope s.heap.objs.size f cdv)) → sp vs H Q E →
      ∃ t, PSs (cxOf CX P w K mg base N qual scope f cdv A outer s H E) body t ∧ t { nx := fun _ H' => Q .non H', rt := Q } (start N vs) H) :
    FnOk P w K mg base CX (k + 1) f (PySem.W.fnOf name qual params body scope dV kV doc pm an cdv ct) ps sp := by
  refine ⟨len, fun A outer s H args us vs Q E hr e0 hb r hsp => ?_⟩
  have hl := len _ _ _ _ hsp
  have KX : K.In s.heap := e0.mod.kin.keeps fun b o e => (e0.bs b o e).1
  have lim : s.heap.NoLimit := e0.mod.nolimit.keeps fun b o e => (e0.bs b o e).1
  have hkind : ∀ y ∈ ps.zip us, scope.names.lookup y.1 = some .local ∨ (scope.names.lookup y.1 = some .cell ∧ ((cellsFrom (s.heap.objs.size + 1) scope.names []).lookup y.1).isSome = true) := fun ⟨n, v⟩ hy => by
    rcases S.par n (List.of_mem_zip hy).1 with q | q
    · exact .inl q
    · exact .inr ⟨q, PySem.W.cellsFrom_some _ _ _ (.inl q)⟩
  refine codeAny_call_function hr.depth (KX _ _ lk) rfl S.co S.gen rfl (PySem.W.codeRec_of KX hcd) (hb _ _ _ _ ?_)
  refine wpAny_newFunctionEnv_cells S.kind hkind fun env he s1 x => ?_
  subst he
  refine ⟨lim.keeps x.toInCall.keep, codeAny_func ?_⟩
  obtain ⟨t, ht, hq⟩ := hbody A outer s H vs Q E (hr.deeper _) hsp
  have I : Inv (cxOf CX P w K mg base N qual scope f cdv A outer s H E) [] (start N vs) H s1 := inv_start S hr.hd e0 hl r x
  refine wpAny_mono (ht [] s1 (start N vs) H _ I hq) (fun fl s' hs => ?_) fun e s' hs => hs
  have fin : ∀ {σ' : St} {H' : Hp} {v : V} {u : Value}, Inv (cxOf CX P w K mg base N qual scope f cdv A outer s H E) [] σ' H' s' → RelV v u → Q v H' → CE outer P w H s Q u s' :=
    fun {σ' H' v u} J rv q => ⟨v, H', J.os, J.bare, J.base, J.hok, rv, q⟩
  cases fl with
  | ret u =>
    obtain ⟨v, σ', H', J, rv, q⟩ := hs
    exact fin J rv q
  | next =>
    obtain ⟨σ', H', J, q⟩ := hs
    exact fin (v := V.non) (u := Value.none) J rfl q
  | brk =>
    obtain ⟨_, _, _, q⟩ := hs
    exact False.elim q
  | cont =>
    obtain ⟨_, _, _, q⟩ := hs
    exact False.elim q
end L2

namespace L2
open PySem PySem.Spec PyProof.Rows
section
variable {X : Cx} {x : Str} {p pos : Pos} {e : Expr} {es : List Expr} {t : TA} {id T : String} {r : List V → Hp → VK → Prop}

def tCB (r : List V → Hp → VK → Prop) (t : TA) : TE := fun σ H Q => t σ H fun vs H1 => r vs H1 Q
/-- f(e, ..), f a built-in function -/
theorem pe_callB (hc : CallR X (.builtin id) r) (hg : Gl X x) (hm : X.mg x = none) (hv : bootBuiltins x = some (.builtin id)) (ha : PA X (e :: es) t) (hn : x ≠ "__name__" := by decide) (hdb : (x == ("__debug__" : Str)) = false := by decide)
    (he : starEach (e :: es) X.env = (false, eval e X.env) :: starEach es X.env := by rfl) (hpl : (backTo pos (starEach es X.env)).any (·.1) = false := by rfl) : PE X (.Call (.Name x p) (e :: es) [] pos) (tCB r t) := by
  intro pins s σ H Q I h
  refine wpAny_Call_Name_kw (ld_blt I hg hm hv ?_ hn hdb)
  exact PyProof.Rows.callWith_builtin1 (thn (ha pos pins s σ H _ I h) fun us s1 ⟨vs, H1, I1, r1, q1⟩ => hc pins s1 σ H1 vs us Q I1 r1 q1) he hpl
/-- T(e, ..), T a built-in type -/
theorem pe_callTy (hc : CallR X (.type T) r) (hg : Gl X x) (hm : X.mg x = none) (hv : bootBuiltins x = some (.type T)) (ha : PA X (e :: es) t) (hn : x ≠ "__name__" := by decide) (hdb : (x == ("__debug__" : Str)) = false := by decide)
    (he : starEach (e :: es) X.env = (false, eval e X.env) :: starEach es X.env := by rfl) (hpl : (backTo pos (starEach es X.env)).any (·.1) = false := by rfl) : PE X (.Call (.Name x p) (e :: es) [] pos) (tCB r t) := by
  intro pins s σ H Q I h
  refine wpAny_Call_Name_kw (ld_blt I hg hm hv ?_ hn hdb)
  exact PyProof.Rows.callWith_type1 (thn (ha pos pins s σ H _ I h) fun us s1 ⟨vs, H1, I1, r1, q1⟩ => hc pins s1 σ H1 vs us Q I1 r1 q1) he hpl
end
end L2

namespace HT
open PySem PyProof.Rows

section
open PySem.SeqAt
open PySem.AutoSeq1 (wpAny_loadPart')
open PySem.MeetsSeq PySem.MeetsSeq2 PySem.MeetsSeq3

end

section
variable {prog : Program} {w : World} {A : Around} {E : Value → Shared → Prop} {s : Shared}

/-! ### t[a:b], not the whole -/
/-- a slice's bound as a place among n (d where it is left out) -/
def sIx (n d : Nat) : Option Int → Nat
  | none => d
  | some v => if v < 0 then (v + (n : Int)).toNat else min v.toNat n
end
end HT

namespace L2
open PySem PySem.Spec PyProof.Rows

/-! ### the parts of a slice -/
abbrev TO := St → Hp → (Option Int → Hp → Prop) → Prop
/-- a slice's part (left out, or an int) -/
def PO (X : Cx) (e : Option Expr) (t : TO) : Prop :=
  ∀ (pins : List (Addr × Obj)) (s : Shared) (σ : St) (H : Hp) (Q : Option Int → Hp → Prop), Inv X pins σ H s → t σ H Q →
    wpAny (model X.prog X.w) X.A (evalPart e X.env) (fun u s' => ∃ o H', Inv X pins σ H' s' ∧ IsPart u o ∧ Q o H') X.xe s
def tNoPart : TO := fun _ H Q => Q none H
def tPart (t : TE) : TO := fun σ H Q => t σ H fun x H1 => ∃ i, x = .int i ∧ Q (some i) H1

section
variable {X : Cx} {e : Expr} {te : TE} {lo hi : Option Expr} {tl th : TO} {pos p2 : Pos}

theorem po_none : PO X none tNoPart := by
  intro pins s σ H Q I h
  rw [evalPart_none]
  exact wpAny_pure ⟨none, H, I, .none, h⟩
theorem po_some (h : PE X e te) : PO X (some e) (tPart te) := by
  intro pins s σ H Q I hw
  rw [evalPart_some]
  refine thn (h pins s σ H _ I hw) fun u s1 ⟨x, H1, I1, r1, q1⟩ => ?_
  obtain ⟨i, rfl, q⟩ := q1
  obtain ⟨t, rfl⟩ := r1
  exact ⟨some i, H1, I1, .int i t, q⟩

/-- what a slice of a value is, by values: the slice object stands at sl -/
def SlR (X : Cx) (r : V → Option Int → Option Int → Hp → VK → Prop) : Prop :=
  ∀ (pins : List (Addr × Obj)) (s : Shared) (σ : St) (H : Hp) (x : V) (v vl vu : Value) (lo hi : Option Int) (sl : Addr) (Q : VK), Inv X pins σ H s → RelV x v → s.heap.IsSliceOf sl vl vu .none → IsPart vl lo → IsPart vu hi → r x lo hi H Q →
    ∃ T id, typeLookup (.type T) "__getitem__" = pure (some (.builtin id)) ∧ s.TypeIs v T ∧ wpAny (model X.prog X.w) X.A (getItem v (.ref sl)) (EP X pins σ Q) X.xe s
theorem SlR.or {r r' : V → Option Int → Option Int → Hp → VK → Prop} (h : SlR X r) (h' : SlR X r') : SlR X (fun x lo hi H Q => r x lo hi H Q ∨ r' x lo hi H Q) := by
  intro pins s σ H x v vl vu lo hi sl Q I rx hs pl pu q
  rcases q with q | q
  · exact h pins s σ H x v vl vu lo hi sl Q I rx hs pl pu q
  · exact h' pins s σ H x v vl vu lo hi sl Q I rx hs pl pu q
def tSl (r : V → Option Int → Option Int → Hp → VK → Prop) (te : TE) (tl th : TO) : TE := fun σ H Q => te σ H fun x H1 => tl σ H1 fun l H2 => th σ H2 fun u H3 => r x l u H3 Q
/-- a[lo:hi], any a -/
theorem pe_slice {r : V → Option Int → Option Int → Hp → VK → Prop} (hr : SlR X r) (he : PE X e te) (hl : PO X lo tl) (hu : PO X hi th) : PE X (.Subscript e (.Slice lo hi none p2) pos) (tSl r te tl th) := by
  intro pins s σ H Q I h
  refine Subscript_ (thn (he pins s σ H _ I h) fun v s1 ⟨x, H1, I1, r1, q1⟩ => ?_)
  refine wpAny_Slice (thn (hl pins s1 σ H1 _ I1 q1) fun vl s2 ⟨l, H2, I2, pl, q2⟩ => thn (hu pins s2 σ H2 _ I2 q2) fun vu s3 ⟨u, H3, I3, pu, q3⟩ => ?_)
  rw [evalPart_none]
  refine wpAny_pure ?_
  have I4 : Inv X pins σ H3 { s3 with heap := s3.heap.push { cls := .type "slice", data := .fields #[vl, vu, .none] } } := I3.kept (t' := s3.toks) fun b ob q => Heap.get?_push_of_some _ q
  obtain ⟨T, id, hT, ht, hg⟩ := hr pins { s3 with heap := s3.heap.push { cls := .type "slice", data := .fields #[vl, vu, .none] } } σ H3 x v vl vu l u s3.heap.objs.size Q I4 r1 (Heap.IsSliceOf.new ..) pl pu q3
  show wpAny (model X.prog X.w) X.A (subscriptTail e (.Slice lo hi none p2) v (.ref s3.heap.objs.size)) (EP X pins σ Q) X.xe { s3 with heap := s3.heap.push { cls := .type "slice", data := .fields #[vl, vu, .none] } }
  exact tail_any (ops := [.ref s3.heap.objs.size, v]) ht hT hg (by with_unfolding_all rfl)

/-- the items of xs[lo:hi] -/
def cutV (xs : List V) (lo hi : Option Int) : List V := (xs.drop (HT.sIx xs.length 0 lo)).take (HT.sIx xs.length xs.length hi - HT.sIx xs.length 0 lo)
theorem cutV_length (xs : List V) (lo hi : Option Int) : (cutV xs lo hi).length ≤ xs.length := by
  unfold cutV
  rw [List.length_take, List.length_drop]
  omega
end
end L2

namespace L2
open PySem PySem.Spec PyProof.Rows

/-! ### places -/
/-- the place that an index of any sign means -/
def ixN (n : Nat) (i : Int) : Option Nat := if 0 ≤ i then (if i < n then some i.toNat else none) else if -(n : Int) ≤ i then some (i + n).toNat else none
def atI {α : Type} (xs : List α) (i : Int) : Option α := (ixN xs.length i).bind fun j => xs[j]?
theorem ixN_seq {n : Nat} {i : Int} {j : Nat} (h : ixN n i = some j) : seqIndex? i n = some j ∧ j < n ∧ -(n : Int) ≤ i ∧ i < n := by
  unfold ixN at h
  by_cases h0 : 0 ≤ i
  · rw [if_pos h0] at h
    by_cases h1 : i < n
    · rw [if_pos h1] at h
      have e : i.toNat = j := Option.some.inj h
      exact ⟨by rw [seqIndex_of h0 h1, e], by omega, by omega, h1⟩
    · rw [if_neg h1] at h; cases h
  · rw [if_neg h0] at h
    by_cases h1 : -(n : Int) ≤ i
    · rw [if_pos h1] at h
      have e : (i + n).toNat = j := Option.some.inj h
      exact ⟨by rw [seqIndex_neg (by omega) h1, e], by omega, h1, by omega⟩
    · rw [if_neg h1] at h; cases h
theorem atI_get {α : Type} {xs : List α} {i : Int} {v : α} (h : atI xs i = some v) : ∃ j, seqIndex? i xs.length = some j ∧ xs[j]? = some v ∧ j < xs.length ∧ -(xs.length : Int) ≤ i ∧ i < xs.length := by
  unfold atI at h
  cases e : ixN xs.length i with
  | none => rw [e] at h; cases h
  | some j =>
    rw [e] at h
    obtain ⟨h1, h2, h3, h4⟩ := ixN_seq e
    exact ⟨j, h1, h, h2, h3, h4⟩
theorem atI_nat {α : Type} {xs : List α} {j : Nat} {v : α} (h : xs[j]? = some v) : atI xs (j : Int) = some v := by
  have hj : j < xs.length := (List.getElem?_eq_some_iff.mp h).1
  have e : ixN xs.length (j : Int) = some j := by
    unfold ixN
    rw [if_pos (by omega), if_pos (by omega)]; simp
  unfold atI; rw [e]; exact h
/-! ### what may be subscripted -/
/-- what stands as an index of a plain subscript -/
def PlainIx (b : Expr) : Prop := ∀ o i, subscripted b false o i = operate [o, i] (getItem o i)
/-- a subscript by values -/
def IxR (X : Cx) (r : R2) : Prop :=
  ∀ (value slice : Expr) (pins : List (Addr × Obj)) (s : Shared) (σ : St) (H : Hp) (x y : V) (v u : Value) (Q : VK), Inv X pins σ H s → RelV x v → RelV y u → r x y H Q →
    subscripted slice false v u = operate [v, u] (getItem v u) → wpAny (model X.prog X.w) X.A (subscriptTail value slice v u) (EP X pins σ Q) X.xe s
/-- a call of a builtin's method by values: the receiver, the arguments -/
def MtR (X : Cx) (id : String) (r : V → List V → Hp → VK → Prop) : Prop :=
  ∀ (pins : List (Addr × Obj)) (s : Shared) (σ : St) (H : Hp) (x : V) (xs : List V) (v : Value) (us : List Value) (Q : VK), Inv X pins σ H s → RelV x v → Vals xs us → r x xs H Q →
    wpAny (model X.prog X.w) X.A (call (.builtin id) (v :: us)) (EP X pins σ Q) X.xe s
section
variable {X : Cx} {a b : Expr} {ta tb : TE} {pos : Pos}
theorem IxR.or {r r' : R2} (h : IxR X r) (h' : IxR X r') : IxR X (fun x y H Q => r x y H Q ∨ r' x y H Q) := by
  intro value slice pins s σ H x y v u Q I rx ry q hs
  rcases q with q | q
  · exact h value slice pins s σ H x y v u Q I rx ry q hs
  · exact h' value slice pins s σ H x y v u Q I rx ry q hs
theorem MtR.or {id : String} {r r' : V → List V → Hp → VK → Prop} (h : MtR X id r) (h' : MtR X id r') : MtR X id (fun x xs H Q => r x xs H Q ∨ r' x xs H Q) := by
  intro pins s σ H x xs v us Q I rx rs q
  rcases q with q | q
  · exact h pins s σ H x xs v us Q I rx rs q
  · exact h' pins s σ H x xs v us Q I rx rs q
/-- a[b] -/
theorem pe_ix {r : R2} (hr : IxR X r) (ha : PE X a ta) (hb : PE X b tb) (hs : PlainIx b) : PE X (.Subscript a b pos) (tOp r ta tb) := by
  intro pins s σ H Q I h
  exact Subscript_ (binT ha hb I h fun v u s2 x y H2 I2 rx ry q => hr a b pins s2 σ H2 x y v u Q I2 rx ry q (hs _ _))

def rIxL (K : PySem.W.Frag) : R2 := fun x y H Q => ∃ p xs i v, x = .ref p ∧ y = .int i ∧ SqL K H p xs ∧ atI xs i = some v ∧ Q v H
theorem ix_list : IxR X (rIxL X.K) := by
  intro value slice pins s σ H x y v u Q I rx ry h hs
  obtain ⟨p, xs, i, z, rfl, rfl, hq, he, q⟩ := h
  cases rx
  obtain ⟨t, rfl⟩ := ry
  obtain ⟨its, r, pl, hz⟩ := I.list hq
  obtain ⟨j, h1, h2, h3, h4, h5⟩ := atI_get he
  obtain ⟨w, ew, rw'⟩ := r.get h2
  have hl := r.length
  have hn := line63
  have fin : EP X pins σ Q w s := ⟨z, H, I, rw', q⟩
  by_cases h0 : 0 ≤ i
  · have hj : i.toNat = j := by
      rw [seqIndex_of h0 h5] at h1
      exact Option.some.inj h1
    exact item_listR pl.isList h0 (by omega) (by rw [hj]; simpa using ew) fin hs
  · have hj : (i + (its.toArray.size : Int)).toNat = j := by
      rw [seqIndex_neg (by omega) h4] at h1
      rw [List.size_toArray, ← hl]
      exact Option.some.inj h1
    exact subscriptTail_builtinR (x := w) pl.isList.typeIs slot_list_getitem.lookup
      (wpAny_getItem_list_neg (Q := fun r s' => r = w ∧ EP X pins σ Q r s') pl.isList (by omega) (by rw [List.size_toArray] <;> omega) (by omega) (by rw [hj]; simpa using ew) ⟨rfl, fin⟩) hs
theorem Inv.lst {pins : List (Addr × Obj)} {σ : St} {H : Hp} {s : Shared} {p : Addr} {xs : List V} (I : Inv X pins σ H s) (h : H p = some (.lst xs)) :
    ∃ (its : List Value) (n : Nat), Vals xs its ∧ s.heap.get? p = some { cls := .type "list", data := .seq its.toArray n } ∧ xs.length ≤ sizeLine := by
  obtain ⟨z, its, n, r, e⟩ := I.hok p _ h
  exact ⟨its, n, r, e, z⟩
/-! ### slices -/
theorem slice_bounds (lo hi : Option Int) (n : Nat) : (sliceBounds lo hi none n).1 = ((HT.sIx n 0 lo : Nat) : Int) ∧ (sliceBounds lo hi none n).2.1 = ((HT.sIx n n hi : Nat) : Int) ∧ (sliceBounds lo hi none n).2.2 = 1 := by
  refine ⟨?_, ?_, rfl⟩
  · cases lo with
    | none => simp [sliceBounds, HT.sIx]
    | some i =>
      simp only [sliceBounds, HT.sIx, Option.getD_none, show (1 : Int) > 0 by decide, if_true]
      by_cases h : i < 0
      · simp only [h, if_true] <;> omega
      · simp only [h, if_false] <;> omega
  · cases hi with
    | none => simp [sliceBounds, HT.sIx]
    | some i =>
      simp only [sliceBounds, HT.sIx, Option.getD_none, show (1 : Int) > 0 by decide, if_true]
      by_cases h : i < 0
      · simp only [h, if_true] <;> omega
      · simp only [h, if_false] <;> omega
theorem slicePick_cut (its : List Value) (lo hi : Option Int) : slicePick its.toArray lo hi none = ((its.drop (HT.sIx its.length 0 lo)).take (HT.sIx its.length its.length hi - HT.sIx its.length 0 lo)).toArray := by
  obtain ⟨h1, h2, h3⟩ := slice_bounds lo hi its.toArray.size
  unfold slicePick
  rw [h1, h2, h3]
  simp only [sliceRange_one, pick_run, List.size_toArray] <;> rfl
/-- xs[lo:hi] of a list: a new list -/
def rSlL (K : PySem.W.Frag) : V → Option Int → Option Int → Hp → VK → Prop := fun x lo hi H Q => ∃ a xs, x = .ref a ∧ SqL K H a xs ∧ ∀ p, H p = none → Q (.ref p) (upd H p (.lst (cutV xs lo hi)))
theorem sl_list : SlR X (rSlL X.K) := by
  intro pins s σ H x v vl vu lo hi sl Q I rx hs pl pu h
  obtain ⟨a, xs, rfl, hx, q⟩ := h
  cases rx
  obtain ⟨its, r, ht, hz⟩ := I.list hx
  have hlen := r.length
  refine ⟨"list", _, slot_list_getitem.lookup, ht.isList.typeIs, ?_⟩
  refine wpAny_getItem_list_slice ht.isList hs pl pu .none (by simp) ?_ (by rw [List.size_toArray] <;> omega)
  rw [slicePick_cut, ← hlen]
  refine ⟨.ref s.heap.objs.size, _, I.laid (t' := s.toks) (o := .lst (cutV xs lo hi)) (fun b ob q => Heap.get?_push_of_some _ q) (Nat.le_refl _) ?_, rfl, q _ (I.hok.fresh (Nat.le_refl _))⟩
  exact ⟨Nat.le_trans (cutV_length xs lo hi) hz, _, 0, (r.drop (HT.sIx xs.length 0 lo)).take (HT.sIx xs.length xs.length hi - HT.sIx xs.length 0 lo), Heap.get?_push_size _ rfl⟩

/-! ### in, not in: flat items -/
def flatV : V → Bool
  | .non => true
  | .bl _ => true
  | .int _ => true
  | .str _ => true
  | _ => false
/-- == of flat values -/
def eqV : V → V → Bool
  | .non, .non => true
  | .bl a, .bl b => a == b
  | .bl a, .int b => (if a then 1 else 0) == b
  | .int a, .bl b => a == (if b then 1 else 0)
  | .int a, .int b => a == b
  | .str a, .str b => a == b
  | _, _ => false
theorem eqAt_V {A : Around} {s : Shared} {y x : V} {u v : Value} (ry : RelV y u) (rx : RelV x v) (fy : flatV y = true) (fx : flatV x = true) : SeqAt.EqAt A s u v (eqV y x) := by
  cases y with
  | non =>
    cases ry
    cases x with
    | non => cases rx; exact SeqAt.EqAt.same _
    | bl b => cases rx; exact SeqAt.EqAt.none_bool b
    | int b => obtain ⟨t, rfl⟩ := rx; exact SeqAt.EqAt.none_int b t
    | str b => obtain ⟨t, rfl⟩ := rx; exact SeqAt.EqAt.none_str b t
    | _ => exact absurd (show false = true from fx) Bool.false_ne_true
  | bl a =>
    cases ry
    cases x with
    | non => cases rx; exact SeqAt.EqAt.bool_none a
    | bl b => cases rx; exact SeqAt.EqAt.bool_bool a b
    | int b => obtain ⟨t, rfl⟩ := rx; exact SeqAt.EqAt.bool_int a b t
    | str b => obtain ⟨t, rfl⟩ := rx; exact SeqAt.EqAt.bool_str a b t
    | _ => exact absurd (show false = true from fx) Bool.false_ne_true
  | int a =>
    obtain ⟨t', rfl⟩ := ry
    cases x with
    | non => cases rx; exact SeqAt.EqAt.int_none a t'
    | bl b => cases rx; exact SeqAt.EqAt.int_bool a t' b
    | int b => obtain ⟨t, rfl⟩ := rx; exact SeqAt.EqAt.int_int a t' b t
    | str b => obtain ⟨t, rfl⟩ := rx; exact SeqAt.EqAt.int_str a t' b t
    | _ => exact absurd (show false = true from fx) Bool.false_ne_true
  | str a =>
    obtain ⟨t', rfl⟩ := ry
    cases x with
    | non => cases rx; exact SeqAt.EqAt.str_none a t'
    | bl b => cases rx; exact SeqAt.EqAt.str_bool a t' b
    | int b => obtain ⟨t, rfl⟩ := rx; exact SeqAt.EqAt.str_int a t' b t
    | str b => obtain ⟨t, rfl⟩ := rx; exact SeqAt.EqAt.str_str a t' b t
    | _ => exact absurd (show false = true from fx) Bool.false_ne_true
  | _ => exact absurd (show false = true from fy) Bool.false_ne_true
/-- the items' answers, read off the values (a value's own answer does not lean on its token) -/
def eqU (x : V) (u : Value) : Bool := match u with
  | .none => eqV .non x
  | .bool b => eqV (.bl b) x
  | .int i _ => eqV (.int i) x
  | .str z _ => eqV (.str z) x
  | _ => false
theorem eqU_of {x y : V} {u : Value} (r : RelV y u) (f : flatV y = true) : eqU x u = eqV y x := by
  cases y with
  | non => cases r; rfl
  | bl b => cases r; rfl
  | int i => obtain ⟨t, rfl⟩ := r; rfl
  | str z => obtain ⟨t, rfl⟩ := r; rfl
  | _ => exact absurd (show false = true from f) Bool.false_ne_true
theorem any_eqU {x : V} : ∀ {xs : List V} {us : List Value}, Vals xs us → xs.all flatV = true → us.any (eqU x) = xs.any fun y => eqV y x
  | _, _, .nil, _ => rfl
  | y :: xs, u :: us, .cons r t, f => by
    rw [List.all_cons, Bool.and_eq_true] at f
    rw [List.any_cons, List.any_cons, eqU_of r f.1, any_eqU t f.2]
theorem mem_eqAt {A : Around} {s : Shared} {x : V} {v : Value} (rx : RelV x v) (fx : flatV x = true) : ∀ {xs : List V} {us : List Value}, Vals xs us → xs.all flatV = true → ∀ u ∈ us, SeqAt.EqAt A s u v (eqU x u)
  | _, _, .nil, _ => fun u hu => by cases hu
  | y :: xs, u :: us, .cons r t, f => fun u' hu => by
    rw [List.all_cons, Bool.and_eq_true] at f
    rcases List.mem_cons.mp hu with rfl | hu
    · rw [eqU_of r f.1]; exact eqAt_V r rx f.1 fx
    · exact mem_eqAt rx fx t f.2 u' hu
def inV (x : V) (xs : List V) : Bool := xs.any fun y => eqV y x
/-- x in a list or tuple of flat items -/
def rIn (K : PySem.W.Frag) (neg : Bool) : R2 := fun x y H Q => ∃ p xs, y = .ref p ∧ (SqL K H p xs ∨ SqT K H p xs) ∧ flatV x = true ∧ xs.all flatV = true ∧ Q (.bl (if neg then !inV x xs else inV x xs)) H
theorem op_in_seq : OpR X (compareOp .In) (rIn X.K false) := by
  intro pins s σ H x y v u Q I rx ry h
  obtain ⟨p, xs, rfl, hq, fx, fs, q⟩ := h
  cases ry
  rcases hq with hq | hq
  · obtain ⟨its, r, pl, hz⟩ := I.list hq
    refine SeqAt.in_listAt (eqU x) pl.isList (fun w hw => mem_eqAt rx fx r fs w (by simpa using hw)) ⟨.bl _, H, I, rfl, ?_⟩
    rw [show its.toArray.any (eqU x) = its.any (eqU x) by simp, any_eqU r fs]
    exact q
  · obtain ⟨its, r, pl, hz⟩ := I.tuple hq
    refine SeqAt.in_tupleAt (eqU x) pl (fun w hw => mem_eqAt rx fx r fs w (by simpa using hw)) ⟨.bl _, H, I, rfl, ?_⟩
    rw [show its.toArray.any (eqU x) = its.any (eqU x) by simp, any_eqU r fs]
    exact q
theorem op_notIn_seq : OpR X (compareOp .NotIn) (rIn X.K true) := by
  intro pins s σ H x y v u Q I rx ry h
  obtain ⟨p, xs, rfl, hq, fx, fs, q⟩ := h
  cases ry
  rcases hq with hq | hq
  · obtain ⟨its, r, pl, hz⟩ := I.list hq
    refine SeqAt.notIn_listAt (eqU x) pl.isList (fun w hw => mem_eqAt rx fx r fs w (by simpa using hw)) ⟨.bl _, H, I, rfl, ?_⟩
    rw [show its.toArray.any (eqU x) = its.any (eqU x) by simp, any_eqU r fs]
    exact q
  · obtain ⟨its, r, pl, hz⟩ := I.tuple hq
    refine SeqAt.notIn_tupleAt (eqU x) pl (fun w hw => mem_eqAt rx fx r fs w (by simpa using hw)) ⟨.bl _, H, I, rfl, ?_⟩
    rw [show its.toArray.any (eqU x) = its.any (eqU x) by simp, any_eqU r fs]
    exact q
/-! ### len, list(x), tuple(x) of any list or tuple that is read -/
theorem call_len_seq : CallR X (.builtin "len") (fun xs H Q => ∃ p ys, xs = [.ref p] ∧ (SqL X.K H p ys ∨ SqT X.K H p ys) ∧ Q (.int ys.length) H) := by
  intro pins s σ H xs us Q I r h
  obtain ⟨p, ys, rfl, hq, q⟩ := h
  obtain ⟨u, rfl, rx⟩ := vals1 r
  cases rx
  have hn := line63
  rcases hq with hq | hq
  · obtain ⟨its, r', pl, hz⟩ := I.list hq
    have hlen := r'.length
    exact Calls.call_len_list pl.isList (by simp only [List.size_toArray] <;> omega) ⟨.int ys.length, H, I.tok _, ⟨s.toks + 1, by rw [List.size_toArray, hlen]⟩, q⟩
  · obtain ⟨its, r', pl, hz⟩ := I.tuple hq
    have hlen := r'.length
    exact len_tuple pl (by simp only [List.size_toArray] <;> omega) ⟨.int ys.length, H, I.tok _, ⟨s.toks + 1, by rw [List.size_toArray, hlen]⟩, q⟩
theorem CallR.or {f : Value} {r r' : List V → Hp → VK → Prop} (h : CallR X f r) (h' : CallR X f r') : CallR X f (fun xs H Q => r xs H Q ∨ r' xs H Q) := by
  intro pins s σ H xs us Q I rs q
  rcases q with q | q
  · exact h pins s σ H xs us Q I rs q
  · exact h' pins s σ H xs us Q I rs q
theorem call_list_of : CallR X (.type "list") (fun xs H Q => ∃ p ys, xs = [.ref p] ∧ (SqL X.K H p ys ∨ SqT X.K H p ys) ∧ ∀ l, H l = none → Q (.ref l) (upd H l (.lst ys))) := by
  intro pins s σ H xs us Q I r h
  obtain ⟨p, ys, rfl, hq, q⟩ := h
  obtain ⟨u, rfl, rx⟩ := vals1 r
  cases rx
  have fin : ∀ (its : List Value), Vals ys its → ys.length ≤ sizeLine → ∀ (h' : Heap) (c' : Nat), (∀ b o', s.heap.get? b = some o' → h'.get? b = some o') →
      h'.get? s.heap.objs.size = some { cls := .type "list", dict := none, data := .seq its.toArray c', slots := #[] } → EP X pins σ Q (.ref s.heap.objs.size) { s with heap := h' } := fun its r' hz h' c' kp e =>
    ⟨.ref s.heap.objs.size, _, I.laid (t' := s.toks) kp (Nat.le_refl _) (show ObjOk X.prog X.w _ h' _ (.lst ys) from ⟨hz, its, c', r', e⟩), rfl, q _ (I.hok.fresh (Nat.le_refl _))⟩
  rcases hq with hq | hq
  · obtain ⟨its, r', pl, hz⟩ := I.list hq
    have hlen := r'.length
    obtain ⟨o, ho, hc, n, hd⟩ := pl.isList
    exact call_list_seq p (.inl rfl) ho hc hd (fun h' c' kp e => fin its r' hz h' c' kp e) (by simp only [List.size_toArray] <;> omega)
  · obtain ⟨its, r', pl, hz⟩ := I.tuple hq
    have hlen := r'.length
    obtain ⟨o, ho, hc, n, hd⟩ := pl
    exact call_list_seq p (.inr rfl) ho hc hd (fun h' c' kp e => fin its r' hz h' c' kp e) (by simp only [List.size_toArray] <;> omega)
theorem call_tuple_of : CallR X (.type "tuple") (fun xs H Q => ∃ p ys, xs = [.ref p] ∧ ((SqL X.K H p ys ∧ ∀ l, H l = none → Q (.ref l) (upd H l (.tup ys))) ∨ (SqT X.K H p ys ∧ Q (.ref p) H))) := by
  intro pins s σ H xs us Q I r h
  obtain ⟨p, ys, rfl, h⟩ := h
  obtain ⟨u, rfl, rx⟩ := vals1 r
  cases rx
  rcases h with ⟨hq, q⟩ | ⟨hq, q⟩
  · obtain ⟨its, r', pl, hz⟩ := I.list hq
    have hlen := r'.length
    refine call_tuple_list pl.isList (fun h' kp => ?_) (by simp only [List.size_toArray] <;> omega)
    have I1 : Inv X pins σ H { s with heap := h' } := I.kept (t' := s.toks) kp
    have I2 : Inv X pins σ (upd H h'.objs.size (.tup ys)) { s with heap := h'.push { cls := .type "tuple", data := .seq its.toArray } } :=
      I1.laid (t' := s.toks) (fun b o e => Heap.get?_push_of_some _ e) (Nat.le_refl _) (show ObjOk X.prog X.w _ _ _ (.tup ys) from ⟨hz, its, r', IsTup.new _ _⟩)
    exact ⟨.ref h'.objs.size, _, I2, rfl, q _ (I1.hok.fresh (Nat.le_refl _))⟩
  · obtain ⟨its, r', pl, hz⟩ := I.tuple hq
    exact call_tuple_same pl ⟨.ref p, H, I, rfl, q⟩

/-! ### the call of a builtin's method: o.m(..) -/
/-- the value is of that builtin type -/
def tyV (K : PySem.W.Frag) (T : String) (x : V) (H : Hp) : Prop := match x with
  | .str _ => T = "str"
  | .int _ => T = "int"
  | .ref p => (T = "list" ∧ ∃ xs, SqL K H p xs) ∨ (T = "tuple" ∧ ∃ o, K.lookup p = some o ∧ o.cls = .type "tuple" ∧ o.dict = none) ∨
      (T = "dict" ∧ ((∃ kvs, H p = some (.dK kvs)) ∨ ∃ kvs, H p = some (.dT kvs))) ∨ (T = "set" ∧ ∃ S n, H p = some (.set S n))
  | _ => False
theorem tyV_is {pins : List (Addr × Obj)} {σ : St} {H : Hp} {s : Shared} {T : String} {x : V} {v : Value} (I : Inv X pins σ H s) (r : RelV x v) (ty : tyV X.K T x H) :
    s.TypeIs v T ∧ ∀ a, v = .ref a → ∃ ob, s.heap.get? a = some ob ∧ ob.dict = none := by
  cases x with
  | str z =>
    obtain ⟨t, rfl⟩ := r
    cases (show T = "str" from ty)
    exact ⟨typeIs_str s z t, fun _ e => nomatch e⟩
  | int i =>
    obtain ⟨t, rfl⟩ := r
    cases (show T = "int" from ty)
    exact ⟨typeIs_int s i t, fun _ e => nomatch e⟩
  | ref p =>
    cases r
    rcases ty with ⟨rfl, xs, hq⟩ | ⟨rfl, o, hk, hc, hd⟩ | ⟨rfl, hk⟩ | ⟨rfl, S, n, hk⟩
    · obtain ⟨its, _, pl, _⟩ := I.list hq
      refine ⟨pl.isList.typeIs, fun a e => ?_⟩
      cases e
      obtain ⟨o, n, e, c, hd, _⟩ := pl
      exact ⟨o, e, hd⟩
    · refine ⟨⟨o, I.kIn p o hk, hc⟩, fun a e => ?_⟩
      cases e
      exact ⟨o, I.kIn _ o hk, hd⟩
    · have z : ∃ o, s.heap.get? p = some o ∧ o.ExactDict := by
        rcases hk with ⟨kvs, hk⟩ | ⟨kvs, hk⟩
        · obtain ⟨_, _, _, _, o, _, _, e, ex, _⟩ := I.hok p _ hk
          exact ⟨o, e, ex⟩
        · obtain ⟨_, _, _, _, o, _, _, e, ex, _⟩ := I.hok p _ hk
          exact ⟨o, e, ex⟩
      obtain ⟨o, e, ex⟩ := z
      refine ⟨⟨o, e, ex.1⟩, fun a e2 => ?_⟩
      cases e2
      exact ⟨o, e, ex.2.1⟩
    · obtain ⟨o, _, _, _, e, ex, _⟩ := I.hok p _ hk
      refine ⟨⟨o, e, ex.1⟩, fun a e2 => ?_⟩
      cases e2
      exact ⟨o, e, ex.2.1⟩
  | _ => exact False.elim ty
def tBM0 (K : PySem.W.Frag) (T : String) (r : V → List V → Hp → VK → Prop) (to : TE) : TE := fun σ H Q => to σ H fun x H1 => tyV K T x H1 ∧ r x [] H1 Q
def tBM (K : PySem.W.Frag) (T : String) (r : V → List V → Hp → VK → Prop) (to : TE) (t : TA) : TE := fun σ H Q => to σ H fun x H1 => tyV K T x H1 ∧ t σ H1 fun xs H2 => r x xs H2 Q
variable {o e : Expr} {es : List Expr} {to : TE} {t : TA} {name : Str} {apos cpos : Pos} {T id : String} {r : V → List V → Hp → VK → Prop}
theorem pe_bm0 (pa : PlainAttrs T) (slot : Slot T name id) (hty : typeOf (.builtin id) = pure (.type "method_descriptor")) (hm : MtR X id r) (ho : PE X o to)
    (hbase : attributeBase o name X.env (eval o X.env) = eval o X.env := by rfl) (hline : (apos.endLine == cpos.line) = true := by rfl) : PE X (.Call (.Attribute o name apos) [] [] cpos) (tBM0 X.K T r to) := by
  intro pins s σ H Q I h
  refine wpAny_Call_method0_late hbase hline (thn (ho pins s σ H _ I h) fun v s1 ⟨x, H1, I1, r1, ty, q1⟩ => ?_)
  obtain ⟨h1, h2⟩ := tyV_is I1 r1 ty
  exact ⟨T, id, pa, slot, hty, h1, h2, Calls.callWith_builtin rfl (PySem.evalArgs_none (hm pins s1 σ H1 x [] v [] Q I1 r1 .nil q1))⟩
theorem pe_bm (pa : PlainAttrs T) (slot : Slot T name id) (hty : typeOf (.builtin id) = pure (.type "method_descriptor")) (hm : MtR X id r) (ho : PE X o to) (ha : PA X (e :: es) t)
    (hbase : attributeBase o name X.env (eval o X.env) = eval o X.env := by rfl)
    (hfew : ((backTo cpos (starEach (e :: es) X.env)).all (fun x => !x.1) && (backToKw cpos (keywordEach [] X.env)).all (fun x => x.1.isSome)
      && decide ((e :: es).length + ([] : List Keyword).length + (if ([] : List Keyword).isEmpty then 0 else 1) < 30)) = true := by rfl)
    (hline : (apos.endLine == cpos.line) = true := by rfl) (hs : starEach (e :: es) X.env = (false, eval e X.env) :: starEach es X.env := by rfl) (hplain : (backTo cpos (starEach es X.env)).any (·.1) = false := by rfl) :
    PE X (.Call (.Attribute o name apos) (e :: es) [] cpos) (tBM X.K T r to t) := by
  intro pins s σ H Q I h
  refine wpAny_Call_method_late hbase hfew hline rfl (thn (ho pins s σ H _ I h) fun v s1 ⟨x, H1, I1, r1, ty, q1⟩ => ?_)
  obtain ⟨h1, h2⟩ := tyV_is I1 r1 ty
  refine ⟨T, id, pa, slot, hty, h1, h2, ?_⟩
  have hA := ha cpos pins s1 σ H1 _ I1 q1
  rw [hs] at hA ⊢
  refine Calls.callWith_builtin (by show (false || (backTo cpos (starEach es X.env)).any (·.1)) = false; rw [hplain] <;> rfl) (Calls.evalArgs_plain ?_)
  exact thn hA fun us s2 ⟨vs, H2, I2, r2, q2⟩ => hm pins s2 σ H2 x vs v us Q I2 r1 r2 q2
/- xs.append(e), list.index on a module's tuple .. are MtR facts of 06m -/
end
end L2

namespace L2
open PySem PySem.Spec PyProof.Rows

def MtM (X : Cx) (id : String) (r : V → List V → Hp → VK → Prop) : Prop :=
  ∀ (pins : List (Addr × Obj)) (s : Shared) (σ : St) (H : Hp) (x : V) (xs : List V) (v : Value) (us : List Value) (Q : VK), Inv X pins σ H s → RelV x v → Vals xs us → r x xs H Q →
    wpAny (model X.prog X.w) X.A (call (.builtin id) (v :: us)) (EP X pins σ Q) X.xe s

/-! ### lists of values -/
theorem Vals.one : ∀ {x : V} {us : List Value}, Vals [x] us → ∃ u, us = [u] ∧ RelV x u
  | _, _, .cons r .nil => ⟨_, rfl, r⟩
theorem Vals.two : ∀ {x y : V} {us : List Value}, Vals [x, y] us → ∃ u v, us = [u, v] ∧ RelV x u ∧ RelV y v
  | _, _, _, .cons r (.cons q .nil) => ⟨_, _, rfl, r, q⟩
theorem Vals.zero : ∀ {us : List Value}, Vals [] us → us = []
  | _, .nil => rfl
theorem Vals.reverse {xs : List V} {us : List Value} (h : Vals xs us) : Vals xs.reverse us.reverse := by
  induction h with
  | nil => exact .nil
  | cons r t ih => rw [List.reverse_cons, List.reverse_cons]; exact Vals.append ih (.cons r .nil)
theorem Vals.rep {xs : List V} {us : List Value} (h : Vals xs us) : ∀ k : Nat, Vals (List.replicate k xs).flatten (List.replicate k us).flatten
  | 0 => .nil
  | k + 1 => by
    rw [List.replicate_succ, List.replicate_succ, List.flatten_cons, List.flatten_cons]
    exact Vals.append h (Vals.rep h k)
theorem foldl_rep (its : List Value) : ∀ (k : Nat) (acc : List Value),
    List.foldl (fun x1 x2 => x1 ++ x2) acc.toArray (List.replicate k its.toArray) = (acc ++ (List.replicate k its).flatten).toArray
  | 0, acc => by simp
  | k + 1, acc => by
    have e : acc.toArray ++ its.toArray = (acc ++ its).toArray := by simp
    have e2 : (acc ++ its) ++ (List.replicate k its).flatten = acc ++ (List.replicate (k + 1) its).flatten := by
      rw [List.replicate_succ, List.flatten_cons, List.append_assoc]
    rw [← e2, ← foldl_rep its k (acc ++ its), ← e, List.replicate_succ, List.foldl_cons]

section
variable {X : Cx} {pins : List (Addr × Obj)} {σ : St} {H : Hp} {s : Shared} {l b : Addr} {xs ys zs : List V}

/-! ### the two steps: a tracked list is rewritten, a new list is laid -/
theorem Inv.lset {its its' : List Value} {n : Nat} {f : Array Value → Array Value} {t' : Nat} (I : Inv X pins σ H s) (hH : H l = some (.lst xs))
    (e : s.heap.get? l = some { cls := .type "list", data := .seq its.toArray n }) (hf : f its.toArray = its'.toArray) (hv : Vals ys its') (hz : ys.length ≤ sizeLine) :
    Inv X pins σ (upd H l (.lst ys)) { s with heap := s.heap.update l (Obj.mapSeq f), toks := t' } := by
  have q := PySem.IsL.update e f
  rw [hf] at q
  refine I.write (x := l) (e := l) (by rw [hH]; exact trivial) (.inl rfl) (fun b' u hb hu => (Heap.get?_update_other s.heap (Obj.mapSeq f) (Ne.symm hb)).trans hu) ⟨_, q⟩ ?_
  exact ⟨hz, its', _, hv, q⟩
theorem Inv.lnew {its : List Value} {t' : Nat} (I : Inv X pins σ H s) (hv : Vals ys its) (hz : ys.length ≤ sizeLine) :
    Inv X pins σ (upd H s.heap.objs.size (.lst ys)) { s with heap := s.heap.push { cls := .type "list", data := .seq its.toArray }, toks := t' } :=
  I.laid (fun _ _ q => Heap.get?_push_of_some _ q) (Nat.le_refl _) ⟨hz, its, 0, hv, Heap.get?_push_size _ rfl⟩
theorem Inv.fresh (I : Inv X pins σ H s) : H s.heap.objs.size = none := I.hok.fresh (Nat.le_refl _)
theorem Inv.lstM (I : Inv X pins σ H s) (hH : H l = some (.lst xs)) : xs.length ≤ sizeLine ∧ ∃ (its : List Value) (n : Nat), Vals xs its ∧ xs.length = its.length ∧ s.heap.get? l = some { cls := .type "list", data := .seq its.toArray n } := by
  obtain ⟨z, its, n, r, e⟩ := I.hok l _ hH
  exact ⟨z, its, n, r, r.length, e⟩

theorem notLongL {n : Nat} (h : n ≤ sizeLine) : Builtin.List.listTooLong n = false := by
  unfold Builtin.List.listTooLong
  exact decide_eq_false (by omega)
end

section
variable {X : Cx}

/-! ### methods -/
def rAppend : V → List V → Hp → VK → Prop := fun x vs H Q => ∃ l xs y, x = .ref l ∧ vs = [y] ∧ H l = some (.lst xs) ∧ xs.length < sizeLine ∧ Q .non (upd H l (.lst (xs ++ [y])))
theorem mt_append : MtM X "list.append" rAppend := by
  intro pins s σ H x vs v us Q I rx rv h
  obtain ⟨l, xs, y, rfl, rfl, hH, hz, q⟩ := h
  cases rx
  obtain ⟨u, rfl, ru⟩ := rv.one
  obtain ⟨z, its, n, r, hl, e⟩ := I.lstM hH
  refine call_meets F.slot_list_append ⟨_, e, rfl⟩ F.entry_list_append (F.args_list_append_2 _ _) (PySem.list_append l its.toArray n u (by rw [List.size_toArray]; omega)) ⟨e, ?_⟩
  refine ⟨.non, _, I.lset (its' := its ++ [u]) hH e (by simp) (r.append (.cons ru .nil)) ?_, rfl, q⟩
  rw [List.length_append, List.length_singleton]
  omega

def rExtend : V → List V → Hp → VK → Prop := fun x vs H Q => ∃ l b xs zs, x = .ref l ∧ vs = [.ref b] ∧ H l = some (.lst xs) ∧ H b = some (.lst zs) ∧ xs.length + zs.length ≤ sizeLine ∧ Q .non (upd H l (.lst (xs ++ zs)))
theorem mt_extend : MtM X "list.extend" rExtend := by
  intro pins s σ H x vs v us Q I rx rv h
  obtain ⟨l, b, xs, zs, rfl, rfl, hH, hB, hz, q⟩ := h
  cases rx
  obtain ⟨u, rfl, ru⟩ := rv.one
  cases ru
  obtain ⟨z, its, n, r, hl, e⟩ := I.lstM hH
  obtain ⟨z2, its2, n2, r2, hl2, e2⟩ := I.lstM hB
  have hsz : its.toArray.size + its2.toArray.size ≤ sizeLine := by rw [List.size_toArray, List.size_toArray]; omega
  have hlong : ¬ (!its.toArray.isEmpty && Builtin.List.listTooLong (its.toArray.size + its2.toArray.size)) = true := by
    rw [notLongL hsz, Bool.and_false]
    exact Bool.false_ne_true
  refine call_meets F.slot_list_extend ⟨_, e, rfl⟩ F.entry_list_extend (F.args_list_extend_2 _ _)
    (AutoSeq1.list_extend_list_list_0 l its.toArray n b its2.toArray n2 hlong (by rw [List.size_toArray]; omega) (by omega)) ⟨e, e2, ?_⟩
  refine ⟨.non, _, I.lset (its' := its ++ its2) hH e (by simp) (r.append r2) ?_, rfl, q⟩
  rw [List.length_append]
  omega

def rClear : V → List V → Hp → VK → Prop := fun x vs H Q => ∃ l xs, x = .ref l ∧ vs = [] ∧ H l = some (.lst xs) ∧ Q .non (upd H l (.lst []))
theorem mt_clear : MtM X "list.clear" rClear := by
  intro pins s σ H x vs v us Q I rx rv h
  obtain ⟨l, xs, rfl, rfl, hH, q⟩ := h
  cases rx
  have hus := rv.zero
  subst hus
  obtain ⟨z, its, n, r, hl, e⟩ := I.lstM hH
  refine call_meets F.slot_list_clear ⟨_, e, rfl⟩ F.entry_list_clear (F.args_list_clear_1 _) (AutoSeq1.list_clear_list_0 l its.toArray n (by rw [List.size_toArray]; omega)) ⟨e, ?_⟩
  exact ⟨.non, _, I.lset (its' := []) (ys := []) hH e rfl .nil (Nat.zero_le _), rfl, q⟩

/-! ### list + list, list += list, list * int -/
def rCat : R2 := fun x y H Q => ∃ l b xs zs, x = .ref l ∧ y = .ref b ∧ H l = some (.lst xs) ∧ H b = some (.lst zs) ∧ xs.length + zs.length ≤ sizeLine ∧ ∀ p, H p = none → Q (.ref p) (upd H p (.lst (xs ++ zs)))
theorem op_cat : OpR X (binaryOp .Add) rCat := by
  intro pins s σ H x y v u Q I rx ry h
  obtain ⟨l, b, xs, zs, rfl, rfl, hH, hB, hz, q⟩ := h
  cases rx
  cases ry
  obtain ⟨z, its, n, r, hl, e⟩ := I.lstM hH
  obtain ⟨z2, its2, n2, r2, hl2, e2⟩ := I.lstM hB
  refine PySem.P.add_list e e2 ?_ (by rw [List.size_toArray, List.size_toArray]; omega)
  have ea : its.toArray ++ its2.toArray = (its ++ its2).toArray := by simp
  rw [ea]
  exact ⟨.ref _, _, I.lnew (t' := s.toks) (r.append r2) (by rw [List.length_append]; omega), rfl, q _ I.fresh⟩
/-- a list times an int (a negative one is nothing) -/
def rRep : R2 := fun x y H Q => ∃ l k xs, x = .ref l ∧ y = .int k ∧ H l = some (.lst xs) ∧ -(2 ^ 63) ≤ k ∧ k < 2 ^ 63 ∧ xs.length * k.toNat ≤ sizeLine ∧
  ∀ p, H p = none → Q (.ref p) (upd H p (.lst (List.replicate k.toNat xs).flatten))
theorem len_rep {α : Type} (xs : List α) (k : Nat) : (List.replicate k xs).flatten.length = k * xs.length := by
  induction k with
  | zero => simp
  | succ k ih => rw [List.replicate_succ, List.flatten_cons, List.length_append, ih, Nat.succ_mul, Nat.add_comm]
theorem op_rep : OpR X (binaryOp .Mult) rRep := by
  intro pins s σ H x y v u Q I rx ry h
  obtain ⟨l, k, xs, rfl, rfl, hH, h1, h2, hz, q⟩ := h
  cases rx
  obtain ⟨t, rfl⟩ := ry
  obtain ⟨z, its, n, r, hl, e⟩ := I.lstM hH
  have hlen : its.toArray.size * k.toNat ≤ sizeLine := by rw [List.size_toArray, ← hl]; exact hz
  have hcap : ¬ its.toArray.size * k.toNat > (2 ^ 63 - 1) / 8 := by
    have : (sizeLine : Nat) ≤ (2 ^ 63 - 1) / 8 := by decide
    omega
  have hfit : ¬ (!Builtin.List.listFitsIndex k) = true := by
    rw [fitsIndex_both h1 h2]
    exact Bool.false_ne_true
  have hlong : ¬ Builtin.List.listTooLong (its.toArray.size * k.toNat) = true := by
    rw [notLongL hlen]
    exact Bool.false_ne_true
  have hnew : List.foldl (fun x1 x2 => x1 ++ x2) #[] (List.replicate (if its.toArray.isEmpty = true then 0 else k.toNat) its.toArray) = (List.replicate k.toNat its).flatten.toArray := by
    have f0 : ∀ m : Nat, List.foldl (fun x1 x2 => x1 ++ x2) #[] (List.replicate m its.toArray) = (List.replicate m its).flatten.toArray := fun m => by
      have := foldl_rep its m []
      rw [List.nil_append] at this
      exact this
    rw [f0]
    cases its with
    | nil => simp
    | cons a r' => rw [if_neg (by simp)]
  refine wpAny_binaryOp_repeat_ref (T := "list") (U := "int") (by decide) ⟨_, e, rfl⟩ (fun s' => typeIs_int s' k t) noFill_list_mul F.fills_int_mul F.slot_int_rmul repeat_list F.slot_int_index.lookup
    (call_meets F.slot_int_rmul (typeIs_int s k t) F.entry_int_rmul (F.args_int_rmul_2 _ _) (int___rmul___int_list k t l its.toArray n)
      ⟨e, rfl, ⟨_, e, rfl⟩, call_meets F.slot_list_mul ⟨_, e, rfl⟩ F.entry_list_mul (F.args_list_mul_2 _ _) (AutoListH.list___mul___list_int_3 l its.toArray n k t hfit hcap hlong) ⟨e, ?_⟩⟩)
  rw [hnew]
  exact ⟨.ref _, _, I.lnew (t' := s.toks) (r.rep k.toNat) (by rw [len_rep, Nat.mul_comm]; exact hz), rfl, q _ I.fresh⟩

end

/-! ### xs[a:b] = ys -/
section
variable {prog : Program} {w : World} {A : Around} {E : Value → Shared → Prop} {s : Shared}
set_option maxRecDepth 100000 in
end

section
variable {X : Cx}
end
end L2

namespace Att
open PySem PySem.W PySem.Calls PyProof.Rows

/-! ### the script -/
theorem ints_of_wellAll {P : Params} {h : Heap} : ∀ (ns : List Int) (vs : List Value), WellAll P h vs (ns.map WData.int) → IntsAre vs ns := by
  intro ns
  induction ns with
  | nil =>
    intro vs w
    rw [List.map_nil] at w
    cases w
    exact .nil
  | cons n ns ih =>
    intro vs w
    rw [List.map_cons] at w
    cases w with
    | cons a b =>
      cases a
      exact .cons _ _ (ih _ b)

theorem script_of {l : OpenLaw} {n : Nat} (hn : l.most = some n) {P : Params} {h : Heap} {args : List WData} {vals : List Value}
    (hpre : l.row.toRowW.claim.pre args = true) (hwl : WellAll P h vals args) :
    ∃ a vs ns, vals = [Value.ref a] ∧ args = [WData.list (ns.map WData.int)] ∧ h.get? a = some { cls := .type "list", data := .seq vs.toArray } ∧ IntsAre vs ns ∧ ns.length ≤ n := by
  have hsh : WShape.hasAll [] args [.list .int] = true := (pre_splitW hpre).1
  have hc : l.pre.holds [] { args := args } = true := (pre_splitW hpre).2
  obtain ⟨d, r, rfl, h1, h2⟩ := hasAllW_cons hsh
  obtain rfl := hasAllW_nil h2
  obtain ⟨xs, rfl, h3⟩ := hasW_list h1
  obtain ⟨ns, rfl⟩ := items_int h3
  have hlen : ns.length ≤ n := by
    unfold OpenLaw.pre at hc
    have h4 : (WTm.not (.lt (.lit (.int (n : Int))) (.len (.arg 0)))).holds [] { args := [.list (ns.map .int)] } = true := by
      have h4 := (holds_andW hc).1
      rw [hn] at h4
      exact h4
    have h5 := condW_of h4 (w_not (w_lt w_lit (w_len_list (w_arg rfl))))
    rw [List.length_map] at h5
    refine Nat.le_of_not_lt fun q => ?_
    have q' : (n : Int) < ((ns.length : Nat) : Int) := by omega
    first
      | (rw [decide_eq_true q'] at h5; exact absurd h5 (by decide))
      | (simp at h5; omega)
  cases hwl with
  | cons w1 w2 =>
    cases w2
    cases w1 with
    | list ho hall => exact ⟨_, _, ns, rfl, rfl, ho, ints_of_wellAll ns _ hall, hlen⟩

theorem post_true (l : OpenLaw) (args : List WData) : l.row.toRowW.claim.post args (.bool true) args = true :=
  postW_of (r := l.row.toRowW) (X := (true == true))
    (show WShape.has [] (.bool true) .bool = true by first | rfl | decide | simp [WShape.has, WShape.arms, WShape.armsAll])
    (show (WTm.eq .res (.lit (.bool true))).value [] { args := args, res := some (.bool true), after := args } = some (.bool (true == true)) from w_eq_bool (w_res rfl) w_lit) rfl

/-- the same from a codeAny of the CALL (for a layer whose function contracts speak of calls) -/
theorem attach_call {l : OpenLaw} {n : Nat} {q : Program} {loose : List Str} {XP : (Str → Option Value) → Heap → Prop} {YP : World → Heap → Prop} {d : DefRec}
    (hn : l.most = some n) (hdf : d.params.defaults = [])
    (call : ∀ (w : World) (s₀ s₁ : Shared) (mg mb : Str → Option Value) (fa : Addr) (o : Obj) (pm cd doc : Value) (a : Addr) (vs : List Value) (ns : List Int),
      Ground q loose [] XP w s₀ mg mb s₁.heap → YP w s₁.heap →
      s₁.heap.get? fa = some o → o.data = .func (docDef d.name d.params d.body d.scope pm cd doc) → s₁.heap.CodeRec cd d.name → mg d.name = some (.ref fa) →
      s₁.heap.get? a = some { cls := .type "list", data := .seq vs.toArray } → IntsAre vs ns → ns.length ≤ n → s₁.gens = #[] →
      codeAny (model l.prog w) callerA (.call (.ref fa) ⟨[.ref a], []⟩) (fun r s' => r = .ok (.ret (.bool true)) ∧ OldK s₁.heap s'.heap ∧ s'.os = s₁.os ∧ AllBare s'.gens) s₁) :
    WalkO q loose XP YP l.row.toRowW d [] (fun f vs => PySem.call f vs) := by
  intro w s₀ s₁ mg mb G Y fa o pm cd doc dV kV ho hd hcd hD hmg hg args vals as hpre hlay hrd hwl hlo
  obtain rfl : dV = .none := Dflts.none hD hdf
  obtain rfl : kV = .none := Dflts.noKw hD
  obtain ⟨a, vs, ns, rfl, rfl, hobj, hints, hlen⟩ := script_of hn hpre hwl
  refine enter_call (codeAny_mono (call w s₀ s₁ mg mb fa o pm cd doc a vs ns G Y ho (fd_plain hd) hcd hmg hobj hints hlen hg) fun r s' hq => ?_)
  obtain ⟨rfl, h2, h3, h4⟩ := hq
  exact ⟨.inl ⟨.bool true, .bool true, [], rfl, fun _ => rfl, .bool true, post_true l _, fun _ => ⟨List.Pairwise.nil, fun _ hm => (nomatch hm)⟩⟩, h2, h3, h4⟩

/-! ### rules over ANY heap (no ledger) from facts about the written part K: the library's own take a ledger (News) for what they write -/
section
variable {prog : Program} {w : World} {A : Around} {E : Value → Shared → Prop} {s : Shared} {K : Frag}

def ledger (h : Heap) (L d : Addr) : List (Addr × Obj) := (List.range h.objs.size).filterMap fun a => if a = L ∨ a = d then none else (h.get? a).map fun o => (a, o)
end
end Att

namespace L2
open PySem PySem.Spec PyProof.Rows

theorem vals_ints : ∀ {vs : List Value} {ns : List Int}, IntsAre vs ns → Vals (ns.map V.int) vs
  | _, _, .nil => .nil
  | _, _, .cons n t h => .cons ⟨t, rfl⟩ (vals_ints h)

/-- nothing is tracked but the script, known to the object (or it is an object of the module) -/
def Only (H : Hp) : Prop := ∀ b, H b = none ∨ ∃ o xs, H b = some (.frz o (.lst xs))

/-- THE HEAD: the law's promise, at the heap behind the top. F, the promise of the law's def, may use that base is part of the heap (so K.In base, base.Ns mainGlobals mg stand in Mod) -/
theorem law_call {P : Program} {w : World} {K : PySem.W.Frag} {mg mb : Str → Option Value} {CX : CXT} {k : Nat} {fa a : Addr} {fd : FuncData} {x : Str} {sp : Sp} {s₁ : Shared} {vs : List Value} {ns : List Int}
    (KX : K.In s₁.heap) (hns : s₁.heap.Ns mainGlobals mg) (hb : s₁.heap.Ns builtinsNs mb) (hbb : ∀ x : Str, x ≠ "__name__" → mb x = bootBuiltins x) (hlim : s₁.heap.NoLimit) (hg : s₁.gens = #[])
    (ha : s₁.heap.get? a = some { cls := .type "list", data := .seq vs.toArray }) (hi : IntsAre vs ns) (hl : ns.length ≤ sizeLine) (hr : Room k callerA)
    (F : ∀ base : Heap, K.In base → base.Ns mainGlobals mg → FnOk P w K mg base CX k fa fd [x] sp) (hbind : ∀ (s : Shared) (u : Value), BindsTo s fd ⟨[u], []⟩ [(x, u)])
    (hsp : ∀ H : Hp, Only H → SqL K H a (ns.map V.int) → sp [.ref a] H (fun v _ => v = .bl true) fun _ _ _ => False)
    (hCX : ∀ H e s', CX [] H s₁ (fun _ _ _ => False) e s' → False) :
    codeAny (model P w) callerA (.call (.ref fa) ⟨[.ref a], []⟩) (fun r s' => r = .ok (.ret (.bool true)) ∧ OldK s₁.heap s'.heap ∧ s'.os = s₁.os ∧ AllBare s'.gens) s₁ := by
  have rv := vals_ints hi
  have lenV := hi.length
  -- from an abstract heap in which nothing but the script may be tracked
  have core : ∀ H : Hp, Only H → SqL K H a (ns.map V.int) → HOk P w H s₁.heap → (∀ b, H b ≠ none → b = a) → (H a ≠ none → K.lookup a = none) →
      codeAny (model P w) callerA (.call (.ref fa) ⟨[.ref a], []⟩) (fun r s' => r = .ok (.ret (.bool true)) ∧ OldK s₁.heap s'.heap ∧ s'.os = s₁.os ∧ AllBare s'.gens) s₁ := by
    intro H hO hS hok hA hK
    have base_of : ∀ {b : Addr} {o : Obj}, s₁.heap.get? b = some o → H b = none → (hidT s₁.heap H).get? b = some o := fun e n => hidT_get e n
    have noA : ∀ {b : Addr} {o : Obj} {es : Array DictEntry} {ep : Nat}, s₁.heap.get? b = some o → o.data = .dict es ep → H b = none := fun {b o es ep} e d => by
      cases q : H b with
      | none => rfl
      | some u =>
        have e' : b = a := hA b (by rw [q]; simp)
        subst e'
        rw [ha] at e; cases e
        have d' : Data.seq vs.toArray _ = Data.dict es ep := d
        cases d'
    have nsK : ∀ {b : Addr} {m : Str → Option Value}, s₁.heap.Ns b m → (hidT s₁.heap H).Ns b m := fun {b m} ⟨o, es, ep, e, d, r⟩ => ⟨o, es, ep, base_of e (noA e d), d, r⟩
    have hKb : K.In (hidT s₁.heap H) := fun b o e => base_of (KX b o e) (by
      cases q : H b with
      | none => rfl
      | some u =>
        have e' : b = a := hA b (by rw [q]; simp)
        subst e'
        rw [hK (by rw [q]; simp)] at e; cases e)
    have hM : Mod K mg (hidT s₁.heap H) := ⟨hKb, nsK hns, ⟨mb, nsK hb, hbb⟩, let ⟨mc, h1, h2⟩ := hlim; ⟨mc, nsK h1, h2⟩⟩
    have e0 : Env0 P w K mg (hidT s₁.heap H) callerA [] s₁ H := ⟨rfl, hM, fun b o e => of_hidT e, Nat.le_of_eq (hidT_size _ _), trivial, fun b hb => absurd (show b ∈ ([] : List Addr) from hb) (by simp), hok, .of_eq hg⟩
    refine codeAny_mono ((F _ hKb (nsK hns)).run callerA [] s₁ H ⟨[.ref a], []⟩ [.ref a] [.ref a] _ _ hr e0 (hbind s₁ (.ref a)) (.cons rfl .nil) (hsp H hO hS)) fun r s' h => ?_
    cases r with
    | error e => exact (hCX H e s' h).elim
    | ok fl =>
      cases fl with
      | next => exact False.elim h
      | brk => exact False.elim h
      | cont => exact False.elim h
      | ret u =>
        obtain ⟨v, H', os, bare, un, hok', r', q⟩ := h
        have q' : v = .bl true := q
        subst q'
        obtain rfl : u = Value.bool true := r'
        refine ⟨rfl, OldK.of_keep fun b o e => ?_, os, bare⟩
        cases q : H b with
        | none => exact un.keep b o e q (by intro z; exact absurd (show b ∈ ([] : List Addr) from z) (by simp)) (by simp)
        | some u =>
          rcases hO b with z | ⟨ob, xs, z⟩
          · rw [q] at z; cases z
          · have z2 := un.frzs b ob _ z
            obtain ⟨e1, _⟩ := hok b _ z
            obtain ⟨e2, _⟩ := hok' b _ z2
            rw [e] at e1; cases e1
            exact e2
  cases hk : K.lookup a with
  | some o =>
    -- the script is one of the module's own objects
    have e := KX a o hk
    rw [ha] at e
    cases e
    refine core (fun _ => none) (fun _ => .inl rfl) (.inr ⟨_, vs.toArray, _, hk, rfl, rfl, rfl, by rw [List.size_toArray, lenV]; exact hl, by simpa using rv⟩) (fun b u z => by have z' : (none : Option HO) = some u := z; cases z') (fun b z => absurd rfl z) fun z => absurd rfl z
  | none =>
    refine core (fun b => if b = a then some (.frz { cls := .type "list", data := .seq vs.toArray } (.lst (ns.map V.int))) else none) (fun b => ?_) (.inl (.inr ⟨{ cls := .type "list", data := .seq vs.toArray }, if_pos rfl⟩)) (fun b u z => ?_) (fun b z => ?_) fun _ => hk
    · by_cases hb : b = a
      · exact .inr ⟨_, _, if_pos hb⟩
      · exact .inl (if_neg hb)
    · by_cases hb : b = a
      · have z' := (if_pos hb).symm.trans z
        cases z'
        subst hb
        exact ⟨ha, by rw [List.length_map]; exact hl, vs, _, rv, ha⟩
      · have z' := (if_neg hb).symm.trans z
        cases z'
    · by_cases hb : b = a
      · exact hb
      · exact absurd (if_neg hb) z
end L2

namespace L2
open PySem PySem.Spec PyProof.Rows

abbrev KOf {K : PySem.W.Frag} {h : Heap} (_ : K.In h) : PySem.W.Frag := K

/-- the goal that k_head leaves (case hc), from the law's promise. F gives the function object fd (K's own) once, then the promise over every base -/
theorem walk_of {l : PySem.W.OpenLaw} {n k : Nat} {q : Program} {loose : List Str} {XP : (Str → Option Value) → Heap → Prop} {YP : World → Heap → Prop} {d : DefRec} {K : Params → PySem.W.Frag} {CX : World → CXT} {sp : World → Sp} {x : Str}
    (hn : l.most = some n) (hn2 : n ≤ sizeLine) (hdf : d.params.defaults = []) (hr : Room k callerA)
    (hY : ∀ (w : World) (h : Heap), YP w h → (K w.params).In h)
    (F : ∀ (w : World) (mg : Str → Option Value) (fa : Addr) (h : Heap), (K w.params).In h → h.Ns mainGlobals mg → mg d.name = some (.ref fa) →
      ∃ fd : FuncData, (∀ (s : Shared) (u : Value), BindsTo s fd ⟨[u], []⟩ [(x, u)]) ∧
        ∀ base : Heap, (K w.params).In base → base.Ns mainGlobals mg → FnOk l.prog w (K w.params) mg base (CX w) k fa fd [x] (sp w))
    (hsp : ∀ (w : World) (H : Hp) (a : Addr) (ns : List Int), ns.length ≤ n → Only H → SqL (K w.params) H a (ns.map V.int) → sp w [.ref a] H (fun v _ => v = .bl true) fun _ _ _ => False)
    (hCX : ∀ (w : World) (H : Hp) (s : Shared) (e : Value) (s' : Shared), CX w [] H s (fun _ _ _ => False) e s' → False) :
    PySem.W.WalkO q loose XP YP l.row.toRowW d [] (fun f vs => PySem.call f vs) := by
  refine Att.attach_call hn hdf fun w s₀ s₁ mg mb fa o pm cd doc a vs ns G Y ho hd hcd hmg hobj hints hlen hg => ?_
  have KX := hY w _ Y
  obtain ⟨fd, hb, hF⟩ := F w mg fa _ KX G.T.g hmg
  exact law_call KX G.T.g G.T.b G.T.builtins G.T.nolimit hg hobj hints (Nat.le_trans hlen hn2) hr hF hb (fun H hO hS => hsp w H a ns hlen hO hS) fun H e s' => hCX w H s₁ e s'
end L2

/- THE LAST THEOREM (shape; LID, My.* are yours):
   My.Adr: a structure of the addresses that your layer names (classes, functions); My.Txt K t: a structure (Prop) of the equations over K;
   My.txt_mk : {K} {implicit addresses ..} (e1 : nsIn K mainGlobals "law" = some (some (.ref f))) (e2 : K.lookup f = some ⟨oc, od, .func (fnOf "law" "law" params body scope dV kV doc pm an cdv ct), sl⟩) (e3 : codeIn K cdv "law" = true) .. : ∃ t, My.Txt K t

set_option maxRecDepth 100000 in
set_option maxHeartbeats 0 in
theorem PySem.Challenge.cw_LID_holds : PySem.Challenge.rw_LID.Holds := by
  w_on; o_law; k_head; (case hw => w_witness2)
  k_fill
  refine L2.walk_of (l := PySem.Challenge.rw_LID) (n := 63) (k := 40) (x := "script") (CX := fun w => ..) (sp := fun _ => My.sp_law) rfl (by decide) rfl ⟨rfl, by decide, by decide⟩ (fun w h Y => PySem.W.kIn_of Y) ?F ?S ?C
  case F =>
    intro w mg fa h KX G hmg
    have T : ∃ t, My.Txt (L2.KOf KX) t := by
      dsimp only [L2.KOf]                          -- K must stand as «<heap const> w.params» for k_is
      refine' My.txt_mk ?e1 ?e2 ?e3 ..
      (case e1 => PySem.W.k_is)                    -- in the order: a name -> its address -> its object -> its parts
      (case e2 => PySem.W.k_is)
      ..
    obtain ⟨t, T⟩ := T
    have e0 := hmg.symm.trans (PySem.W.mg_of KX G T.law)
    cases e0                                       -- fa is the law's own address
    exact ⟨_, fun s u => .of_eq rfl, fun base kb nb => My.law_fn T kb nb⟩     -- if «.of_eq rfl» comes too early: refine' ⟨_, ?b, fun base kb nb => My.law_fn T kb nb⟩; exact fun s u => .of_eq rfl
  case S => exact fun w H a ns hl hO hS => ..
  case C => exact ..
(the tactic k_is has no namespace: write k_is) -/

/-! SHORT WORDS over the layer: a def of the text, its body, what a loop and a test want. -/
namespace L2
open PySem PySem.Spec PyProof.Rows

/-! ### the text by places -/
/-- the j-th statement of a class's body -/
def inClass (s : Stmt) (j : Nat) : Stmt := match s with
  | .ClassDef _ _ _ body _ _ _ _ _ _ _ => body.getD j (.Pass ⟨0, 0, 0, 0⟩)
  | _ => .Pass ⟨0, 0, 0, 0⟩
def defArgs (s : Stmt) : Arguments := match s with
  | .FunctionDef _ a _ _ _ _ _ _ _ _ => a
  | _ => { posonlyargs := [], args := [], vararg := none, kwonlyargs := [], kw_defaults := [], kwarg := none, defaults := [] }
def defBody (s : Stmt) : List Stmt := match s with
  | .FunctionDef _ _ b _ _ _ _ _ _ _ => b
  | _ => []
def defScope (s : Stmt) : Scope := match s with
  | .FunctionDef _ _ _ _ _ _ sc _ _ _ => sc
  | _ => { kind := .function, names := [], isGenerator := false, isCoroutine := false }

/-! ### no exception leaves a def -/
abbrev CX0 : CXT := fun _ _ _ _ _ _ => False
abbrev E0 : XK := fun _ _ _ => False
/-! ### a def (or method) of the text as it stands behind the top -/
structure Fun (K : PySem.W.Frag) (x qual : Str) (st : Stmt) (f : Addr) (fd : FuncData) : Prop where
  ex : ∃ (oc : Value) (od : Option Addr) (kV doc pm : Value) (an : Option Addr) (cdv ct : Value) (osl : Array (Option Value)),
    fd = PySem.W.fnOf x qual (defArgs st) (defBody st) (defScope st) .none kV doc pm an cdv ct ∧ K.lookup f = some ⟨oc, od, .func fd, osl⟩ ∧ PySem.W.codeIn K cdv qual = true
  kp : PySem.W.keepIn K (.ref f) = true
section
variable {P : Program} {w : World} {K : PySem.W.Frag} {mg : Str → Option Value} {base : Heap}
/-- THE RULE for a def: its body as a term of rules, and the reading of that term -/
theorem Fun.ok {x qual : Str} {st : Stmt} {f : Addr} {fd : FuncData} {N ps : List Str} {k : Nat} {sp : Sp} (F : Fun K x qual st f fd) (S : FnScope N ps (defScope st)) (len : ∀ vs H Q E, sp vs H Q E → vs.length = ps.length)
    (hbody : ∀ (cdv : Value) (A : Around) (outer : List Env) (s : Shared) (H : Hp) (vs : List V) (Q : VK) (E : XK), Room k (A.deeper (envOfC qual (defScope st) s.heap.objs.size f cdv)) → sp vs H Q E →
      ∃ t, PSs (cxOf CX0 P w K mg base N qual (defScope st) f cdv A outer s H E).nox (defBody st) t ∧ t { nx := fun _ H' => Q .non H', rt := Q } (start N vs) H) : FnOk P w K mg base CX0 (k + 1) f fd ps sp := by
  obtain ⟨oc, od, kV, doc, pm, an, cdv, ct, osl, rfl, lk, hcd⟩ := F.ex
  refine fn_of lk hcd S len fun A outer s H vs Q E hr hsp => ?_
  obtain ⟨t, h, q⟩ := hbody cdv A outer s H vs Q E hr hsp
  exact ⟨t, h.nox, q⟩
/-- how its arguments bind (no defaults): h is «fun _ _ _ _ _ _ us hl => match us, hl with | [_, _], _ => rfl», one _ a parameter -/
theorem Fun.binds {x qual : Str} {st : Stmt} {f : Addr} {fd : FuncData} {ps : List Str} (F : Fun K x qual st f fd)
    (h : ∀ (kV doc pm : Value) (an : Option Addr) (cdv ct : Value) (us : List Value), us.length = ps.length → bindArgs (PySem.W.fnOf x qual (defArgs st) (defBody st) (defScope st) .none kV doc pm an cdv ct) ⟨us, []⟩ = pure (ps.zip us)) : Binds K fd ps [] := by
  obtain ⟨oc, od, kV, doc, pm, an, cdv, ct, osl, rfl, lk, hcd⟩ := F.ex
  exact .all (h kV doc pm an cdv ct)
theorem fun_mk {x qual : Str} {st : Stmt} {f : Addr} {oc : Value} {od an : Option Addr} {osl : Array (Option Value)} {kV doc pm cdv ct : Value} (l : K.lookup f = some ⟨oc, od, .func (PySem.W.fnOf x qual (defArgs st) (defBody st) (defScope st) .none kV doc pm an cdv ct), osl⟩)
    (c : PySem.W.codeIn K cdv qual = true) (k : PySem.W.keepIn K (.ref f) = true) : Fun K x qual st f (PySem.W.fnOf x qual (defArgs st) (defBody st) (defScope st) .none kV doc pm an cdv ct) := ⟨⟨oc, od, kV, doc, pm, an, cdv, ct, osl, rfl, l, c⟩, k⟩
end
theorem small1000 {n : Nat} (h : n ≤ 1000) : n < sizeLine := Nat.lt_of_le_of_lt h (by decide)

/-! ### expressions in short: the name that stands in the i-th slot -/
section
variable {X : Cx}
theorem pv (i : Nat) {x : Str} {pos : Pos} (hN : X.N[i]? = some x := by rfl) (hv : Vis X.env.scope x := by first | exact Or.inl rfl | exact Or.inr (Or.inl rfl) | exact Or.inr (Or.inr rfl)) (hd : (x == ("__debug__" : Str)) = false := by decide)
    (hcd : (x == ("__classdict__" : Str)) = false := by decide) : PE X (.Name x pos) (tVar i) := pe_var hN hv hd hcd
end

/-! ### tests -/
theorem iteF {A B : Prop} (h : B) : if false = true then A else B := by
  rw [if_neg Bool.false_ne_true]
  exact h
theorem iteT {A B : Prop} (h : A) : if true = true then A else B := by
  rw [if_pos rfl]
  exact h
theorem iteNS {c A B : Prop} [Decidable c] (hc : c) (h : B) : if (!decide c) = true then A else B := by
  rw [decide_eq_true hc]
  exact iteF h

/-! ### heaps -/
/-- all that was tracked is as it was -/
def Same (H H' : Hp) : Prop := ∀ b o, H b = some o → H' b = some o
theorem Same.refl (H : Hp) : Same H H := fun _ _ h => h
theorem Same.trans {H H1 H2 : Hp} (a : Same H H1) (b : Same H1 H2) : Same H H2 := fun c o h => b c o (a c o h)
theorem Same.free {H H' : Hp} (e : Same H H') {l : Addr} (h : H' l = Option.none) : H l = Option.none := by
  cases q : H l with
  | none => rfl
  | some o =>
    rw [e l o q] at h
    cases h
theorem Same.seq {K : PySem.W.Frag} {H H' : Hp} {a : Addr} {xs : List V} (e : Same H H') (h : SqL K H a xs) : SqL K H' a xs := by
  rcases h with (h | ⟨o, h⟩) | h
  · exact .inl (.inl (e _ _ h))
  · exact .inl (.inr ⟨o, e _ _ h⟩)
  · exact .inr h

end L2
set_option Elab.async false
set_option linter.all false
set_option maxRecDepth 100000
set_option maxHeartbeats 4000000
/-! exceptions on their way: what noteFrame, setFlight, leaving do to the heap -/
namespace L2
open PySem PySem.Spec PyProof.Rows

/-- an exception's object: its class, its arguments' tuple, its dict, its traceback -/
abbrev ExcO (C : Value) (t : Addr) (dd : Option Addr) (tb : Value) : Obj :=
  { cls := C, dict := dd, data := .fields #[.ref t, tb, .none, .none, .bool false, .none] }
/-- behind a step of the flight: all but the frames' slots, the exception and its old entry is as it was -/
structure Noted (fs : List Addr) (h h' : Heap) (a : Addr) (C : Value) (t : Addr) (dd : Option Addr) (T : Addr) (fl : Value) : Prop where
  keep : ∀ b o, b ∉ fs → b ≠ a → h.get? b = some o → h'.get? b = some o
  slot : ∀ b o, b ≠ a → h.get? b = some o → ∃ sl, h'.get? b = some { o with slots := sl }
  new : h.get? T = none
  ne : T ≠ a
  exc : h'.get? a = some (ExcO C t dd (.ref T))
  tbk : ∃ oT ts, h'.get? T = some oT ∧ oT.data = .fields ts ∧ ts[3]? = some fl

section
variable {M : Model} {A : Around} {E : Value → Shared → Prop} {s : Shared} {base : Heap} {env : Env} {outer : List Env} {L a t : Addr} {C : Value} {dd : Option Addr} {tb : Value} {Q : Unit → Shared → Prop}

theorem nofr_of {oa : Obj} {vs : Array Value} {l : List Env} (hl : s.heap.FunFrames base l) (ha : s.heap.get? a = some oa) (hd : oa.data = .fields vs) : a ∉ l.filterMap (·.frame) := by
  intro hm
  obtain ⟨_, o, ho, hn⟩ := hl.mem hm
  rw [ha] at ho
  cases ho
  exact hn vs hd

theorem entry_x {head : Value} {hn : Bool} (hfr : A.frames = some (env :: outer)) (hl : s.heap.FunFrames base (env :: outer)) (hf : env.frame = some L)
    (ha : s.heap.get? a = some (ExcO C t dd tb))
    (h : ∀ h' T, Noted ((env :: outer).filterMap (·.frame)) s.heap h' a C t dd T (rawInt L) → Q () { s with heap := h' }) :
    wpAny M A (do
      let x ← frameOf env
      let pl ← entryPlaceOf L hn
      let b ← EntryCells.newEntry head x .none (rawInt L) .none pl
      setField (.ref a) 1 b) Q E s := by
  have na := nofr_of hl ha rfl
  refine wpAny_bind (wpAny_frameOf_fun hfr hl hf fun g hg => ?_)
  refine wpAny_bind (wpAny_entryPlaceOf fun pl hpl => ?_)
  unfold EntryCells.newEntry newFields
  refine wpAny_bind (wpAny_newObj_type ?_ (hpl.sizeOk5 _ _ _ _ _))
  have a1 : g.get? a = some (ExcO C t dd tb) := (hg.2.1 a na).trans ha
  have a2 := fun (z : Obj) => Heap.get?_push_of_some (h := g) z a1
  have nT : g.objs.size ≠ a := Nat.ne_of_gt (Heap.lt_size a1)
  refine wpAny_setField (a2 _) rfl (by show 1 < 6; decide) (h _ g.objs.size ?_)
  have up : ∀ (z : Obj) (f : Obj → Obj) b o, b ≠ a → g.get? b = some o → ((g.push z).update a f).get? b = some o := by
    intro z f b o hb e
    rw [Heap.get?_update_other _ _ (Ne.symm hb)]
    exact Heap.get?_push_of_some _ e
  refine ⟨fun b o hb hba e => up _ _ b o hba ((hg.2.1 b hb).trans e), fun b o hba e => ?_, ?_, nT, ?_, ?_⟩
  · obtain ⟨sl, e1⟩ := hg.2.2 b o e
    exact ⟨sl, up _ _ b _ hba e1⟩
  · refine Heap.get?_none_of_le ?_
    rw [hg.1]
    exact Nat.le_refl _
  · exact Heap.get?_update_self _ (a2 _) rfl
  · refine ⟨_, _, (Heap.get?_update_other _ _ (Ne.symm nT)).trans (Heap.get?_push_size _ rfl), rfl, ?_⟩
    first
      | (simp; done)
      | (rcases hpl with rfl | ⟨_, _, _, _, _, _, _, rfl⟩ <;> simp)

/-- the traceback of a flying exception: none yet, or one that is not here -/
def TbOk (h : Heap) (a : Addr) (tb : Value) : Prop := tb = .none ∨ ∃ T oT ts, tb = .ref T ∧ T ≠ a ∧ h.get? T = some oT ∧ oT.data = .fields ts ∧ ts[3]? = some .none

theorem note_x (hfr : A.frames = some (env :: outer)) (hl : s.heap.FunFrames base (env :: outer)) (hf : env.frame = some L)
    (ha : s.heap.get? a = some (ExcO C t dd tb)) (ht : TbOk s.heap a tb)
    (h : ∀ h' T, (∀ b o, b ∉ (env :: outer).filterMap (·.frame) → b ≠ a → tb ≠ .ref b → s.heap.get? b = some o → h'.get? b = some o) →
      (∀ b o, b ≠ a → tb ≠ .ref b → s.heap.get? b = some o → ∃ sl, h'.get? b = some { o with slots := sl }) → s.heap.get? T = none → T ≠ a →
      h'.get? a = some (ExcO C t dd (.ref T)) → (∃ oT ts, h'.get? T = some oT ∧ oT.data = .fields ts ∧ ts[3]? = some (rawInt L)) → Q () { s with heap := h' }) :
    wpAny M A (noteFrame (.ref a) env) Q E s := by
  unfold noteFrame
  simp only [hf]
  refine wpAny_bind (wpAny_field ha rfl (x := tb) rfl ?_)
  rcases ht with rfl | ⟨T, oT, ts, rfl, nT, hT, dT, h3⟩
  · rw [if_neg (by decide)]
    refine entry_x hfr hl hf ha fun h' T N => ?_
    exact h h' T (fun b o hb hba _ e => N.keep b o hb hba e) (fun b o hba _ e => N.slot b o hba e) N.new N.ne N.exc N.tbk
  · rw [if_pos (show (Value.ref T != Value.none) = true by simp)]
    refine wpAny_bind (wpAny_field hT dT h3 ?_)
    rw [if_neg (show ¬ ((Value.none == rawInt L) = true) by simp [rawInt])]
    refine wpAny_bind (wpAny_setField hT dT (Array.getElem?_eq_some_iff.mp h3).1 ?_)
    have oth : ∀ (f : Obj → Obj) b, b ≠ T → (s.heap.update T f).get? b = s.heap.get? b := fun f b hb => Heap.get?_update_other _ _ (Ne.symm hb)
    have nrec : ∀ b o, s.heap.get? b = some o → (∀ vs, o.data ≠ .fields vs) → b ≠ T := by
      intro b o e hn q
      rw [q, hT] at e
      cases e
      exact hn ts dT
    refine entry_x (s := { s with heap := _ }) hfr (hl.of_keeps fun b o e hn => ⟨o, (oth _ b (nrec b o e hn)).trans e, rfl⟩) hf ((oth _ a (Ne.symm nT)).trans ha) fun h' T' N => ?_
    have neb : ∀ b, Value.ref T ≠ Value.ref b → b ≠ T := fun b q z => q (by rw [z])
    refine h h' T' (fun b o hb hba hbT e => N.keep b o hb hba ((oth _ b (neb b hbT)).trans e)) (fun b o hba hbT e => N.slot b o hba ((oth _ b (neb b hbT)).trans e)) ?_ N.ne N.exc N.tbk
    have nw := N.new
    by_cases q : T' = T
    · subst q
      have := Heap.get?_update_self (Obj.mapFields (·.setIfInBounds 3 Value.none)) hT (Obj.isFreed_of_fields (Obj.data_mapFields dT _))
      rw [nw] at this
      cases this
    · rw [oth _ T' q] at nw
      exact nw

theorem land_x {T : Addr} {oT : Obj} {ts : Array Value} {fl : Value} (ha : s.heap.get? a = some (ExcO C t dd (.ref T))) (nT : T ≠ a) (hT : s.heap.get? T = some oT) (dT : oT.data = .fields ts) (h3 : ts[3]? = some fl)
    (h : ∀ h', (∀ b o, b ≠ T → s.heap.get? b = some o → h'.get? b = some o) → TbOk h' a (.ref T) → Q () { s with heap := h' }) : wpAny M A (setFlight (.ref a) none) Q E s := by
  have sz : 3 < ts.size := (Array.getElem?_eq_some_iff.mp h3).1
  unfold setFlight
  refine wpAny_bind (wpAny_field ha rfl (x := .ref T) rfl ?_)
  rw [if_pos (show (Value.ref T != Value.none) = true by simp)]
  refine wpAny_setField hT dT sz (h _ (fun b o hb e => (Heap.get?_update_other _ _ (Ne.symm hb)).trans e) ?_)
  have d2 := Obj.data_mapFields dT (·.setIfInBounds 3 ((none : Option Addr).elim Value.none fun f => rawInt f))
  exact .inr ⟨T, _, _, rfl, nT, Heap.get?_update_self _ hT (Obj.isFreed_of_fields d2), d2, by simp [sz]⟩
end
end L2
set_option Elab.async false
set_option linter.all false
set_option maxRecDepth 100000
set_option maxHeartbeats 4000000
/-! the end of an iterator within an except suite: StopIteration gets the handled exception as its context -/
namespace L2
open PySem PySem.Spec PyProof.Rows

/-- nothing is handled, or an exception without a context -/
def Hd (A : Around) (h : Heap) : Prop := A.handled = none ∨ ∃ x ox vs, A.handled = some (.ref x) ∧ h.get? x = some ox ∧ ox.data = .fields vs ∧ vs[2]? = some .none

theorem entry_unchain : entryFor table "proto.unchain" = some Builtin.«proto.unchain» := entryFor_of_tree (by kernel_rfl)

section
variable {prog : Program} {w : World} {A : Around} {E : Value → Shared → Prop} {s : Shared}

theorem Hd.keeps {h h' : Heap} (x : Hd A h) (k : ∀ b o, h.get? b = some o → h'.get? b = some o) : Hd A h' := by
  rcases x with z | ⟨x, ox, vs, z, e, d, n⟩
  · exact .inl z
  · exact .inr ⟨x, ox, vs, z, k x ox e, d, n⟩

/-- raising a new object: the others stay, its class too -/
theorem raiseNew_hd {α : Type} {a : Addr} {oa : Obj} {ws : Array Value} {h₀ : Heap} {Q : α → Shared → Prop} (hd : Hd A h₀) (k : ∀ b o, h₀.get? b = some o → s.heap.get? b = some o) (na : h₀.get? a = none)
    (ha : s.heap.get? a = some oa) (da : oa.data = .fields ws) (h2 : 2 < ws.size)
    (h : ∀ h', (∀ b o, b ≠ a → s.heap.get? b = some o → h'.get? b = some o) → (∃ o', h'.get? a = some o' ∧ o'.cls = oa.cls) → E (.ref a) { s with heap := h' }) :
    wpAny (model prog w) A (raiseNew (.ref a) : Sem α) Q E s := by
  unfold raiseNew
  refine wpAny_bind (wpAny_handled ?_)
  rcases hd with z | ⟨x, ox, vs, z, e, d, n⟩
  · rw [z]
    exact wpAny_bind (wpAny_pure (wpAny_throw (h _ (fun b o _ e => e) ⟨_, ha, rfl⟩)))
  · rw [z]
    have nx : x ≠ a := by
      intro q
      rw [q, na] at e
      cases e
    dsimp only
    rw [if_pos (show (Value.ref x != Value.ref a) = true by simpa using nx)]
    refine wpAny_bind (wpAny_holding (wpAny_runValue (codeAny_builtin entry_unchain ?_)))
    unfold Builtin.«proto.unchain»
    dsimp only
    refine wpAny_bind (wpAny_field (k x ox e) d n ?_)
    rw [if_pos (by decide)]
    refine wpAny_pure ?_
    dsimp only
    unfold updateField
    refine wpAny_bind (wpAny_bind (wpAny_load ha ?_))
    rw [da]
    dsimp only
    rw [if_pos h2]
    refine wpAny_update ha (wpAny_throw (h _ (fun b o hb e => (Heap.get?_update_other _ _ (Ne.symm hb)).trans e) ⟨_, Heap.get?_update_self _ ha (Obj.isFreed_of_fields (Obj.data_mapFields da _)), Obj.cls_mapFields _ _⟩))

/-- StopIteration, raised -/
theorem stop_hd {α : Type} {Q : α → Shared → Prop} (hd : Hd A s.heap)
    (h : ∀ h' e, (∀ b o, s.heap.get? b = some o → h'.get? b = some o) → ({ s with heap := h' } : Shared).TypeIs (.ref e) "StopIteration" → E (.ref e) { s with heap := h' }) :
    wpAny (model prog w) A (newExc (.type "StopIteration") [] >>= fun e => (raiseNew e : Sem α)) Q E s := by
  refine wpAny_bind ?_
  simp only [newExc, newTuple]
  refine wpAny_bind (wpAny_newObj_type ?_ (by size_fits)); refine wpAny_bind (m := firstArgMember _ _) (wpAny_of_eq (a := Value.none) (by first | rfl | (simp only [firstArgMember]; rfl)) ?_)
  refine wpAny_newObj_type ?_ (by size_fits); dsimp only
  have k1 : ∀ (z : Obj) b o, s.heap.get? b = some o → (s.heap.push z).get? b = some o := fun z b o e => Heap.get?_push_of_some _ e
  have k2 : ∀ (z y : Obj) b o, s.heap.get? b = some o → ((s.heap.push z).push y).get? b = some o := fun z y b o e => Heap.get?_push_of_some _ (Heap.get?_push_of_some _ e)
  have nw : ∀ (z : Obj), s.heap.get? (s.heap.push z).objs.size = none := fun z => Heap.get?_none_of_le (by rw [Heap.size_push]; exact Nat.le_succ _)
  refine raiseNew_hd (s := { s with heap := _ }) (h₀ := s.heap) hd (k2 _ _) (nw _) (Heap.get?_push_size _ rfl) rfl (by show 2 < 6; decide) fun h' k ⟨o', e', c'⟩ => h h' _ (fun b o e => ?_) ⟨o', e', c'⟩
  refine k b o ?_ (k2 _ _ b o e)
  intro q; rw [q, nw] at e; cases e

theorem next_list_end_hd {it l : Addr} {i : Nat} {items : Array Value} {Q : Option Value → Shared → Prop} (hd : ∀ h' : Heap, Heap.ExtBut it s.heap h' → Hd A h')
    (hit : s.heap.IsListIter it l i) (hl : s.heap.IsList l items) (hx : items[i]? = none)
    (hQ : ∀ h', Heap.ExtBut it s.heap h' → Q none { s with heap := h' }) : wpAny (model prog w) A (pyNext (.ref it)) Q E s := by
  obtain ⟨o, ho, hc, dt⟩ := id hit
  obtain ⟨ol, hol, _, nl, dl⟩ := hl
  unfold pyNext
  refine wpAny_bind (wpAny_attempt (wpAny_callSpecial?_slot (name := Str.ofString "__next__") hit.typeIs slot_listiter_next (wpAny_call_entry slot_listiter_next hit.typeIs entry_listiter_next ?_ (args_listiter_next _))))
  show wpAny _ _ (field (.ref it) 0 >>= _) _ _ _; refine wpAny_bind (wpAny_field ho dt (x := .ref l) rfl ?_)
  show wpAny _ _ (if (Value.ref l == Value.none) = true then _ else _) _ _ _; rw [if_neg (show ¬ ((Value.ref l == Value.none) = true) by simp)]
  show wpAny _ _ (field (.ref it) 1 >>= _) _ _ _; refine wpAny_bind (wpAny_field ho dt (x := .int i 0) rfl ?_)
  show wpAny _ _ (seqItems? (.ref l) >>= _) _ _ _; refine wpAny_bind (wpAny_seqItems hol dl ?_)
  simp only [Int.toNat_natCast, hx]
  refine wpAny_bind (wpAny_rule (wpAny_bind (wpAny_setField ho dt (by simp) ?_)))
  have up := fun f => (Heap.SameBut.update (a := it) (h := s.heap) (f := f)).extBut
  refine stop_hd (s := { s with heap := _ }) (A := A.in1) (hd _ (up _)) fun h' e k ty => ?_
  refine wpAny_bind (wpAny_isInstance (T := "StopIteration") (b := true) ty isSubtype_stop ?_)
  exact wpAny_pure (hQ h' fun b o hb z => k b o (up _ b o hb z))
theorem next_tup_end_hd {it t : Addr} {i : Nat} {items : Array Value} {Q : Option Value → Shared → Prop} (hd : ∀ h' : Heap, Heap.ExtBut it s.heap h' → Hd A h')
    (hit : IsTupIter s.heap it t i) (hl : IsTup s.heap t items) (hx : items[i]? = none)
    (hQ : ∀ h', Heap.ExtBut it s.heap h' → Q none { s with heap := h' }) : wpAny (model prog w) A (pyNext (.ref it)) Q E s := by
  obtain ⟨o, ho, hc, dt⟩ := id hit
  obtain ⟨ol, hol, _, nl, dl⟩ := hl
  unfold pyNext
  refine wpAny_bind (wpAny_attempt (wpAny_callSpecial?_slot (name := Str.ofString "__next__") hit.typeIs slot_tupleiter_next (wpAny_call_entry slot_tupleiter_next hit.typeIs entry_tupleiter_next ?_ (args_tupleiter_next _))))
  show wpAny _ _ (field (.ref it) 0 >>= _) _ _ _; refine wpAny_bind (wpAny_field ho dt (x := .ref t) rfl ?_)
  show wpAny _ _ (if (Value.ref t == Value.none) = true then _ else _) _ _ _; rw [if_neg (show ¬ ((Value.ref t == Value.none) = true) by simp)]
  show wpAny _ _ (field (.ref it) 1 >>= _) _ _ _; refine wpAny_bind (wpAny_field ho dt (x := .int i 0) rfl ?_)
  show wpAny _ _ (seqItems? (.ref t) >>= _) _ _ _; refine wpAny_bind (wpAny_seqItems hol dl ?_)
  simp only [Int.toNat_natCast, hx]
  refine wpAny_bind (wpAny_rule (wpAny_bind (wpAny_setField ho dt (by simp) ?_)))
  have up := fun f => (Heap.SameBut.update (a := it) (h := s.heap) (f := f)).extBut
  refine stop_hd (s := { s with heap := _ }) (A := A.in1) (hd _ (up _)) fun h' e k ty => ?_
  refine wpAny_bind (wpAny_isInstance (T := "StopIteration") (b := true) ty isSubtype_stop ?_)
  exact wpAny_pure (hQ h' fun b o hb z => k b o (up _ b o hb z))

/-- a, b = a tuple of two -/
theorem unpack_hd {t : Addr} {items : Array Value} {targets : List (Bool × (Value → Sem Unit))} {Q : Unit → Shared → Prop} (hd : Hd A s.heap) (ht : IsTup s.heap t items)
    (hn : targets.length = items.size) (hst : targets.findIdx? (·.1) = none)
    (h : ∀ h', Heap.ExtBut s.heap.objs.size s.heap h' → wpAny (model prog w) A (assignInOrder (targets.map (·.2)) items.toList) Q E { s with heap := h' }) :
    wpAny (model prog w) A (unpack (.ref t) targets) Q E s := by
  have ne : t ≠ s.heap.objs.size := by obtain ⟨o, ho, _⟩ := ht; exact Nat.ne_of_lt (Heap.lt_size ho)
  unfold unpack
  rw [hn, hst]
  refine wpAny_bind (wpAny_holding ?_)
  unfold unpackItems
  refine wpAny_bind ?_
  unfold notIterableAtAll
  refine wpAny_bind (wpAny_specialOf ht.typeIs slot_tuple_iter.lookup (wpAny_pure ?_))
  simp only [Bool.false_eq_true, if_false]
  refine wpAny_bind (wpAny_holding (iter_tuple ht (wpAny_bind (wpAny_holding (draw_tuple ne items.size 0 _ _ ⟨_, Heap.get?_push_size _ rfl, rfl, rfl⟩ (ht.push _) (by omega) fun g hit sb => ?_)))))
  have all : List.take items.size (List.drop 0 items.toList) = items.toList := List.take_of_length_le (by simp)
  rw [all, if_neg (by simp)]
  have old : ∀ b o, b ≠ s.heap.objs.size → s.heap.get? b = some o → g.get? b = some o := fun b o hb e => sb.extBut b o hb (Heap.get?_push_of_some _ e)
  refine wpAny_bind (wpAny_holding (next_tup_end_hd (fun h' k => hd.keeps fun b o e => ?_) hit ((ht.push _).extBut sb.extBut ne) (by simp) fun h₂ he₂ => ?_))
  · have nb : b ≠ s.heap.objs.size := Nat.ne_of_lt (Heap.lt_size e)
    exact k b o nb (old b o nb e)
  · simp only [Option.isSome_none, Bool.false_eq_true, if_false]
    exact wpAny_pure (h h₂ fun b o hb e => he₂ b o hb (old b o hb e))
end
end L2
set_option Elab.async false
set_option linter.all false
set_option maxRecDepth 100000
set_option maxHeartbeats 4000000
namespace L2
open PySem PySem.Spec PyProof.Rows
/-! ### what is new to a state -/
theorem ObjOk.there {P : Program} {w : World} {H : Hp} {h : Heap} {a : Addr} {o : HO} (x : ObjOk P w H h a o) : ∃ u, h.get? a = some u := by
  cases o with
  | lst xs => obtain ⟨_, _, _, _, e⟩ := x; exact ⟨_, e⟩
  | tup xs => obtain ⟨_, _, _, _, e, _⟩ := x; exact ⟨_, e⟩
  | dK kvs => obtain ⟨_, _, _, _, o, _, _, e, _⟩ := x; exact ⟨_, e⟩
  | dT kvs => obtain ⟨_, _, _, _, o, _, _, e, _⟩ := x; exact ⟨_, e⟩
  | set S n => obtain ⟨o, _, _, _, e, _⟩ := x; exact ⟨_, e⟩
  | ins C dx fs => obtain ⟨_, _, _, e, _⟩ := x; exact ⟨_, e⟩
  | own y => obtain ⟨_, e⟩ := x; exact ⟨_, e⟩
  | xd fs => obtain ⟨_, ⟨_, _, _, e, _⟩, _⟩ := x; exact ⟨_, e⟩
  | rng lo hi => obtain ⟨_, _, _, e⟩ := x; exact ⟨_, e⟩
  | frz ob u => obtain ⟨e, _⟩ := x; exact ⟨_, e⟩
  | tbl ps => exact ⟨_, show h.get? a = some _ from x⟩
  | met f y => exact ⟨_, show h.get? a = some _ from x⟩
  | ext φ => obtain ⟨_, e, _⟩ := x; exact e
theorem HOk.new {P : Program} {w : World} {H : Hp} {h : Heap} {a : Addr} (x : HOk P w H h) (e : h.get? a = none) : H a = none := by
  cases q : H a with
  | none => rfl
  | some u =>
    obtain ⟨o, z⟩ := (x a u q).there
    rw [e] at z
    cases z
/-- b is nothing of the state's own -/
structure Nw (X : Cx) (pins : List (Addr × Obj)) (H : Hp) (b : Addr) : Prop where
  un : H b = none
  loc : b ≠ X.env.locals
  fs : b ∉ X.fs
  old : X.s₀.heap.get? b = none
  cell : ∀ x c, X.env.cells.lookup x = some c → c ≠ b
  pin : ∀ p ∈ X.pn ++ pins, p.1 ≠ b
section
variable {X : Cx} {pins : List (Addr × Obj)} {σ : St} {H H' : Hp} {s s' : Shared} {a b t : Addr} {C : Value} {dd : Option Addr}
theorem Inv.fsFree (I : Inv X pins σ H s) : ∀ b ∈ X.fs, H b = none := fun b hb => I.stkFree b (by
  rcases I.ok.stk with z | ⟨z, zf⟩
  · rw [z]; exact hb
  · rw [z]
    unfold frs
    rw [List.filterMap_cons, zf]
    exact List.mem_cons_of_mem _ hb)
theorem Inv.nw (I : Inv X pins σ H s) (hex : X.ex = []) (e : s.heap.get? b = none) (hu : H' b = none) : Nw X pins H' b := by
  refine ⟨hu, ?_, ?_, ?_, ?_, ?_⟩
  · rintro rfl
    obtain ⟨m, ⟨o, _, _, ho, _⟩, _⟩ := I.loc
    rw [e] at ho
    cases ho
  · intro hb
    obtain ⟨_, o, ho, _⟩ := I.funs.mem hb
    rw [e] at ho
    cases ho
  · cases q : X.s₀.heap.get? b with
    | none => rfl
    | some o =>
      obtain ⟨o', z⟩ := I.base.there b o q (by rw [hex]; simp)
      rw [e] at z
      cases z
  · rintro x c h rfl
    obtain ⟨v, o, ho, _⟩ := I.cell x c h
    rw [e] at ho
    cases ho
  · rintro p hp rfl
    obtain ⟨z, _⟩ := I.pin p hp
    rw [e] at z
    cases z
/-- records of nobody's may change, the frames' slots too -/
theorem Inv.stepN {h' : Heap} {ch : List Addr} (I : Inv X pins σ H s) (hch : ∀ b ∈ ch, Nw X pins H b)
    (keep : ∀ b o, b ≠ X.env.locals → b ∉ X.fs → b ∉ ch → s.heap.get? b = some o → h'.get? b = some o)
    (slot : ∀ b o, b ∉ ch → s.heap.get? b = some o → ∃ sl, h'.get? b = some { o with slots := sl }) : Inv X pins σ H { s with heap := h' } := by
  have neL : ∀ b o, X.s₀.heap.get? b = some o → b ≠ X.env.locals := fun b o e => Nat.ne_of_lt (Nat.lt_of_lt_of_le (Heap.lt_size e) I.ok.above)
  have neC : ∀ b o, X.s₀.heap.get? b = some o → b ∉ ch := fun b o e hb => by
    have z := (hch b hb).old
    rw [e] at z
    cases z
  have cellK : ∀ x c, X.env.cells.lookup x = some c → ∀ v, s.heap.IsCell c v → h'.IsCell c v := fun x c e v ⟨o, ho, hd⟩ => by
    have nch : c ∉ ch := fun z => (hch c z).cell x c e rfl
    obtain ⟨sl, q⟩ := slot c o nch ho
    exact ⟨_, q, hd⟩
  refine ⟨I.ok, I.os, I.bare, ⟨fun b o e n hb hx => ?_, fun b o e n hb hx => ?_, I.base.free, fun b o e hx => ?_, I.base.tups, I.base.frzs, I.base.tbls⟩, ?_, fun x c e => ?_, I.free, I.freeC, fun p hp => ?_, ?_, I.len⟩
  · exact keep b o (neL b o e) hb (neC b o e) (I.base.keep b o e n hb hx)
  · obtain ⟨sl, e1⟩ := I.base.slot b o e n hb hx
    obtain ⟨sl', e2⟩ := slot b _ (neC b o e) e1
    exact ⟨sl', e2⟩
  · obtain ⟨o', e1⟩ := I.base.there b o e hx
    obtain ⟨sl', e2⟩ := slot b _ (neC b o e) e1
    exact ⟨_, e2⟩
  · obtain ⟨m, hn, hl⟩ := I.loc
    refine ⟨m, ?_, fun i x v e1 e2 e3 => ?_⟩
    · obtain ⟨o, es, ep, ho, r⟩ := hn
      obtain ⟨sl, q⟩ := slot _ o (fun z => (hch _ z).loc rfl) ho
      exact ⟨_, es, ep, q, r⟩
    · obtain ⟨u, r, l⟩ := hl i x v e1 e2 e3
      refine ⟨u, r, ?_⟩
      rcases l with l | ⟨k, c, e, z⟩
      · exact .inl l
      · exact .inr ⟨k, c, e, cellK x c e _ z⟩
  · obtain ⟨v, z⟩ := I.cell x c e
    exact ⟨v, cellK x c e v z⟩
  · obtain ⟨e, n, ne, nf, d⟩ := I.pin p hp
    exact ⟨keep p.1 p.2 ne nf (fun z => (hch p.1 z).pin p hp rfl) e, n, ne, nf, d⟩
  · intro c o e
    have tr : ∀ b, H b ≠ none → ∀ u, s.heap.get? b = some u → h'.get? b = some u := fun b hb u q =>
      keep b u (fun z => hb (by rw [z]; exact I.free)) (fun z => hb (I.fsFree b z)) (fun z => hb (hch b z).un) q
    refine (I.hok c o e).stay (fun b u hb q => tr b ?_ u q) (fun _ q => q) fun _ _ q => q
    rcases hb with rfl | hb
    · rw [e]; simp
    · rw [hb]; simp
/-! ### an exception on its way through a body -/
/-- the exception at a, of the class C, is nobody's; its traceback is nobody's -/
def Flt (X : Cx) (pins : List (Addr × Obj)) (H : Hp) (s : Shared) (a : Addr) (C : Value) (t : Addr) (dd : Option Addr) : Prop :=
  Nw X pins H a ∧ ∃ tb, s.heap.get? a = some (ExcO C t dd tb) ∧ TbOk s.heap a tb ∧ ∀ T, tb = .ref T → Nw X pins H T
/-- .. noted at this frame -/
def FltAt (X : Cx) (pins : List (Addr × Obj)) (H : Hp) (s : Shared) (a : Addr) (C : Value) (t : Addr) (dd : Option Addr) (fl : Value) : Prop :=
  Nw X pins H a ∧ ∃ T oT ts, s.heap.get? a = some (ExcO C t dd (.ref T)) ∧ T ≠ a ∧ Nw X pins H T ∧ s.heap.get? T = some oT ∧ oT.data = .fields ts ∧ ts[3]? = some fl
/-- the body of a def: its own frame on the stack -/
structure Body (X : Cx) : Prop where
  ex : X.ex = []
  st : X.stack = X.env :: X.outer
  fr : X.env.frame = some X.env.locals
theorem FltAt.flt (F : FltAt X pins H s a C t dd .none) : Flt X pins H s a C t dd := by
  obtain ⟨n, T, oT, ts, e, ne, nT, eT, dT, h3⟩ := F
  exact ⟨n, _, e, .inr ⟨T, oT, ts, rfl, ne, eT, dT, h3⟩, fun T' z => by cases z; exact nT⟩
def refsOf : Value → List Addr
  | .ref z => [z]
  | _ => []
theorem flt_note {M : Model} {E : Value → Shared → Prop} {Q : Unit → Shared → Prop} (B : Body X) (I : Inv X pins σ H s) (F : Flt X pins H s a C t dd)
    (k : ∀ s', Inv X pins σ H s' → FltAt X pins H s' a C t dd (rawInt X.env.locals) → Q () s') : wpAny M X.A (noteFrame (.ref a) X.env) Q E s := by
  obtain ⟨na, tb, e, ht, nT⟩ := F
  have hfr := I.ok.frames
  rw [B.st] at hfr
  have hl := I.stack
  rw [B.st] at hl
  refine note_x hfr hl B.fr e ht fun h' T k1 k2 k3 k4 k5 k6 => ?_
  have ch : ∀ b, b ∉ a :: refsOf tb → b ≠ a ∧ tb ≠ .ref b := by
    intro b hb
    refine ⟨fun z => hb (by rw [z]; exact List.mem_cons_self), fun z => hb ?_⟩
    rw [z]
    exact List.mem_cons_of_mem _ (List.mem_singleton.mpr rfl)
  have I' : Inv X pins σ H { s with heap := h' } := by
    refine I.stepN (ch := a :: refsOf tb) (fun b hb => ?_) (fun b o h1 h2 h3 q => k1 b o ?_ (ch b h3).1 (ch b h3).2 q) (fun b o h3 q => k2 b o (ch b h3).1 (ch b h3).2 q)
    · rcases List.mem_cons.mp hb with rfl | hb
      · exact na
      · cases tb <;> simp [refsOf] at hb
        subst hb
        exact nT _ rfl
    · intro z
      rw [List.filterMap_cons, B.fr] at z
      rcases List.mem_cons.mp z with z | z
      · exact h1 z
      · exact h2 z
  obtain ⟨oT, ts, q1, q2, q3⟩ := k6
  exact k _ I' ⟨na, T, oT, ts, k5, k4, I.nw B.ex k3 (I.hok.new k3), q1, q2, q3⟩
theorem flt_land {M : Model} {A : Around} {E : Value → Shared → Prop} {Q : Unit → Shared → Prop} {fl : Value} (I : Inv X pins σ H s) (F : FltAt X pins H s a C t dd fl)
    (k : ∀ s', Inv X pins σ H s' → FltAt X pins H s' a C t dd .none → Q () s') : wpAny M A (setFlight (.ref a) none) Q E s := by
  obtain ⟨na, T, oT, ts, e, ne, nT, eT, dT, h3⟩ := F
  refine land_x e ne eT dT h3 fun h' k1 k2 => ?_
  have I' : Inv X pins σ H { s with heap := h' } := I.stepN (ch := [T]) (fun b hb => by
    have : b = T := by simpa using hb
    subst this
    exact nT) (fun b o _ _ hb q => k1 b o (fun z => hb (by simp [z])) q) (fun b o hb q => ⟨_, k1 b o (fun z => hb (by simp [z])) q⟩)
  rcases k2 with z | ⟨T', oT', ts', z, _, q1, q2, q3⟩
  · cases z
  · cases z
    exact k _ I' ⟨na, T, oT', ts', k1 a _ (Ne.symm ne) e, ne, nT, q1, q2, q3⟩
theorem flt_leave {M : Model} {E : Value → Shared → Prop} {Q : Unit → Shared → Prop} (B : Body X) (I : Inv X pins σ H s) (F : Flt X pins H s a C t dd)
    (k : ∀ s', Inv X pins σ H s' → FltAt X pins H s' a C t dd .none → Q () s') : wpAny M X.A (leaving X.env (.ref a)) Q E s := by
  unfold leaving
  exact wpAny_bind (flt_note B I F fun s1 I1 F1 => flt_land I1 F1 k)
end
/-! ### how it lies behind a call -/
/-- the exception a body may let go: its class, its dict, the names, the heap -/
abbrev EK := Value → Option Addr → St → Hp → Prop
def Catches (X : Cx) (EH : EK) : Prop := ∀ (pins : List (Addr × Obj)) (σ : St) (H : Hp) (s : Shared) (a t : Addr) (C : Value) (dd : Option Addr), Inv X pins σ H s → Flt X pins H s a C t dd → EH C dd σ H → X.xe (.ref a) s
def CX1 (P : Program) (w : World) : CXT := fun outer H s E e s' => ∃ (a t : Addr) (C : Value) (dd : Option Addr) (H' : Hp), e = .ref a ∧ s'.os = s.os ∧ AllBare s'.gens ∧ Un (frs outer) [] H H' s.heap s'.heap ∧ HOk P w H' s'.heap ∧ E C dd H' ∧
  (s.heap.get? a = none ∧ H' a = none) ∧ ∃ T oT ts, s'.heap.get? a = some (ExcO C t dd (.ref T)) ∧ T ≠ a ∧ (s.heap.get? T = none ∧ H' T = none) ∧ s'.heap.get? T = some oT ∧ oT.data = .fields ts ∧ ts[3]? = some .none
theorem catches_fn {P : Program} {w : World} {K : PySem.W.Frag} {mg : Str → Option Value} {base : Heap} {N : List Str} {qual : Str} {scope : Scope} {f : Addr} {cd : Value} {A : Around} {outer : List Env} {s : Shared} {H : Hp} {E : XK} :
    Catches (cxOf (CX1 P w) P w K mg base N qual scope f cd A outer s H E) (fun C dd _ H' => E C dd H') := by
  intro pins σ H' s' a t C dd I F h
  refine flt_leave (X := cxOf (CX1 P w) P w K mg base N qual scope f cd A outer s H E) ⟨rfl, rfl, rfl⟩ I F fun s2 I2 F2 => ?_
  obtain ⟨na, T, oT, ts, e, ne, nT, eT, dT, h3⟩ := F2
  exact ⟨a, t, C, dd, H', rfl, I2.os, I2.bare, I2.base, I2.hok, h, ⟨na.old, na.un⟩, T, oT, ts, e, ne, ⟨nT.old, nT.un⟩, eT, dT, h3⟩
section
variable {X : Cx} {k : Nat} {f C : Addr} {fd : FuncData} {ps : List Str} {sp : Sp} {dvs : List V} {ds : List Value} {EH : EK} {x m : Str} {p pos apos : Pos} {e o : Expr} {es : List Expr} {ta : TE} {t : TA}
/-- a callee's exception is one of this body's -/
theorem came {pins : List (Addr × Obj)} {σ : St} {H : Hp} {s : Shared} {e : Value} {s' : Shared} (hx : Catches X EH) (hex : X.ex = []) (I : Inv X pins σ H s)
    (h : CX1 X.prog X.w X.stack H s (fun C d H' => EH C d σ H') e s') : X.xe e s' := by
  obtain ⟨a, t, C, dd, H', rfl, os, bare, un, hok, hE, ⟨a1, a2⟩, T, oT, ts, z, ne, ⟨t1, t2⟩, eT, dT, h3⟩ := h
  have I' : Inv X pins σ H' s' := I.call' (ch := []) os un hok bare (fun b q => absurd q (by simp))
  exact hx pins σ H' s' a t C dd I' (FltAt.flt ⟨I.nw hex a1 a2, T, oT, ts, z, ne, I.nw hex t1 t2, eT, dT, h3⟩) hE
theorem run_fnE {pins : List (Addr × Obj)} {σ : St} {H : Hp} {s : Shared} {Q : VK} {us : List Value} {vs : List V} (F : FnOk X.prog X.w X.K X.mg X.base (CX1 X.prog X.w) k f fd ps sp) (hr : Room k X.A) (hb : Binds X.K fd ps ds) (hd : Vals dvs ds)
    (hx : Catches X EH) (hex : X.ex = []) (I : Inv X pins σ H s) (r : Vals vs us) (h : sp (vs ++ dvs) H Q (fun C d H' => EH C d σ H')) : wpAny (model X.prog X.w) X.A (call (.ref f) us) (EP X pins σ Q) X.xe s := by
  have r2 : Vals (vs ++ dvs) (us ++ ds) := r.append hd
  have hl : (us ++ ds).length = ps.length := by rw [← r2.length]; exact F.len _ _ _ _ h
  refine wpAny_call (codeAny_mono (F.run X.A X.stack s H ⟨us, []⟩ (us ++ ds) (vs ++ dvs) Q _ hr I.env0 (hb s us I.kIn hl) r2 h) fun r s' hq => ?_)
  cases r with
  | error e => exact came hx hex I hq
  | ok fl =>
    cases fl with
    | ret u => exact I.after hq
    | next => exact False.elim hq
    | brk => exact False.elim hq
    | cont => exact False.elim hq
/-- f(..) of a def that may raise -/
def tCallE (sp : Sp) (dvs : List V) (EH : EK) (t : TA) : TE := fun σ H Q => t σ H fun vs H1 => sp (vs ++ dvs) H1 Q (fun C d H' => EH C d σ H')
theorem pe_callE (F : FnOk X.prog X.w X.K X.mg X.base (CX1 X.prog X.w) k f fd ps sp) (hr : Room k X.A) (hg : Gl X x) (hm : X.mg x = some (.ref f)) (hk : PySem.W.keepIn X.K (.ref f) = true) (hb : Binds X.K fd ps ds) (hd : Vals dvs ds)
    (hx : Catches X EH) (ha : PA X (e :: es) t) (hex : X.ex = [] := by rfl) (hdb : (x == ("__debug__" : Str)) = false := by decide) (he : starEach (e :: es) X.env = (false, eval e X.env) :: starEach es X.env := by rfl)
    (hpl : (backTo pos (starEach es X.env)).any (·.1) = false := by rfl) : PE X (.Call (.Name x p) (e :: es) [] pos) (tCallE sp dvs EH t) := by
  intro pins s σ H Q I h
  refine wpAny_Call_Name_kw (ld_glob I hg hm ?_ hdb)
  refine PySem.W.callWith_K (h₀ := X.base) I.ok.mod.kin hk (thn (ha pos pins s σ H _ I h) fun us s1 ⟨vs, H1, I1, r, q⟩ => ⟨I1.kIn, ?_⟩) he hpl
  exact run_fnE F hr hb hd hx hex I1 r q
theorem pe_call0E (F : FnOk X.prog X.w X.K X.mg X.base (CX1 X.prog X.w) k f fd ps sp) (hr : Room k X.A) (hg : Gl X x) (hm : X.mg x = some (.ref f)) (hk : PySem.W.keepIn X.K (.ref f) = true) (hb : Binds X.K fd ps ds) (hd : Vals dvs ds)
    (hx : Catches X EH) (hex : X.ex = [] := by rfl) (hdb : (x == ("__debug__" : Str)) = false := by decide) : PE X (.Call (.Name x p) [] [] pos) (tCallE sp dvs EH tNil) := by
  intro pins s σ H Q I h
  refine wpAny_Call_Name_kw (ld_glob I hg hm ?_ hdb)
  exact PySem.W.callWith_K0 I.kIn hk (run_fnE (us := []) F hr hb hd hx hex I .nil h)
end
/-! ### a def that may raise, by its body -/
section
variable {P : Program} {w : World} {K : PySem.W.Frag} {mg : Str → Option Value} {base : Heap}
theorem Fun.okE {x qual : Str} {st : Stmt} {f : Addr} {fd : FuncData} {N ps : List Str} {k : Nat} {sp : Sp} (F : Fun K x qual st f fd) (S : FnScope N ps (defScope st)) (len : ∀ vs H Q E, sp vs H Q E → vs.length = ps.length)
    (hbody : ∀ (X : Cx) (cdv : Value) (A : Around) (outer : List Env) (s : Shared) (H : Hp) (vs : List V) (Q : VK) (E : XK), X = cxOf (CX1 P w) P w K mg base N qual (defScope st) f cdv A outer s H E → Room k X.A → Catches X (fun C dd _ H' => E C dd H') → sp vs H Q E →
      ∃ t, PSs (cxOf (CX1 P w) P w K mg base N qual (defScope st) f cdv A outer s H E) (defBody st) t ∧ t { nx := fun _ H' => Q .non H', rt := Q } (start N vs) H) : FnOk P w K mg base (CX1 P w) (k + 1) f fd ps sp := by
  obtain ⟨oc, od, kV, doc, pm, an, cdv, ct, osl, rfl, lk, hc⟩ := F.ex
  exact fn_of lk hc S len fun A outer s H vs Q E hr h => hbody _ cdv A outer s H vs Q E rfl hr catches_fn h
/-- a def that lets none go -/
theorem FnOk.up {k : Nat} {f : Addr} {fd : FuncData} {ps : List Str} {sp : Sp} (F : FnOk P w K mg base CX0 k f fd ps sp) : FnOk P w K mg base (CX1 P w) k f fd ps sp := by
  refine ⟨F.len, fun A outer s H args us vs Q E hr e0 hb r h => codeAny_mono (F.run A outer s H args us vs Q E hr e0 hb r h) fun r s' q => ?_⟩
  cases r with
  | error e => exact False.elim q
  | ok fl => cases fl <;> exact q
end
end L2
set_option Elab.async false
set_option linter.all false
set_option maxRecDepth 100000
set_option maxHeartbeats 4000000
namespace L2
open PySem PySem.Spec PyProof.Rows PySem.W
/-! ### raise C(..) of an own class -/
theorem exc_obj {K : Frag} {h : Heap} {C : Addr} {bmB : List Value} {newId : String} (X : K.In h) (q : excIn K C bmB newId = true) :
    ∃ (bm : List Value) (N : Addr) (nm qn : Str) (bs : List Value) (hd : Bool) (sn : List Str) (sub : List Value) (ab : Bool) (col : Option Bool) (dd : Option Addr) (k0 k1 k2 k3 k5 : Option Value) (mN : Str → Option Value),
      h.get? C = some (excClassObj nm qn C N bs bm hd sn sub ab col dd k0 k1 k2 k3 k5 newId) ∧ h.Ns N mN ∧ mN "__init__" = none ∧ OwnTail h bmB bm := by
  unfold excIn at q
  split at q
  · rename_i dd cd sl ho
    split at q
    · rename_i C' bm k0 k1 k2 k3 n k5 hm hs
      simp only [Bool.and_eq_true, beq_iff_eq, Bool.not_eq_true'] at q
      obtain ⟨⟨⟨⟨⟨r1, r2⟩, r3⟩, r4⟩, r5⟩, r6⟩ := q
      subst r1 r2
      obtain ⟨a1, a2, a3, a4, a5, a6, a7, a8, a9, a10, a11⟩ := cd
      dsimp only at hm r3 r5 r6
      subst hm r3
      have hsl : sl = #[k0, k1, k2, k3, some (.builtin n), k5] := by
        obtain ⟨l⟩ := sl
        simp only at hs
        rw [hs]
      subst hsl
      exact ⟨bm, a4, a1, a5, a2, a6, a7, a8, a9, a10, dd, k0, k1, k2, k3, k5, _, X _ _ ho, .of_isNs (isNs_of_in X r5), nsMap_none_of_in X r5 r6, tail_of_in X r4⟩
    · cases q
  · cases q
section
variable {X : Cx} {x : Str} {p cpos pos : Pos} {e : Expr} {es : List Expr} {t : TA} {C : Addr} {bmB : List Value} {B newId initId : String} {EH : EK}
def tRaise (C : Addr) (EH : EK) (t : TA) : TS := fun _ σ H => t σ H fun vs H1 => vs.length ≤ sizeLine ∧ EH (.ref C) none σ H1
theorem ps_raise (hg : Gl X x) (hm : X.mg x = some (.ref C)) (q : excIn X.K C bmB newId = true) (FB : ExcBaseFacts B newId initId bmB) (hh : X.A.handled = none) (hx : Catches X EH) (ha : PA X (e :: es) t) (hex : X.ex = [] := by rfl)
    (hdb : (x == ("__debug__" : Str)) = false := by decide) (he : starEach (e :: es) X.env = (false, eval e X.env) :: starEach es X.env := by rfl) (hpl : (backTo cpos (starEach es X.env)).any (·.1) = false := by rfl) :
    PS X (.Raise (some (.Call (.Name x p) (e :: es) [] cpos)) none pos) (tRaise C EH t) := by
  intro pins s σ H D I h
  obtain ⟨bm, N, nm, qn, bs, hd, sn, sub, ab, col, dd, k0, k1, k2, k3, k5, mN, hC, hN, hni, T⟩ := exc_obj I.ok.mod.kin q
  refine wpAny_Raise_call_subT (C := C) (nm := nm) (q := qn) (N := N) (bs := bs) (bm := bm) (hdct := hd) (sn := sn) (sub := sub) (ab := ab) (col := col) (dd := dd) (k0 := k0) (k1 := k1) (k2 := k2) (k3 := k3) (k5 := k5) FB (mN := mN) (T.hasType FB.hasBase) hh
    (by rw [he]; show (false || (backTo cpos (starEach es X.env)).any (·.1)) = false; rw [hpl]; rfl) hni (ld_glob I hg hm ⟨rfl, ?_⟩ hdb)
  have ha' := ha cpos pins s σ H _ I h
  rw [he] at ha' ⊢
  refine Calls.evalArgs_plain (wpAny_mono ha' (fun us s2 ⟨vs, H1, I1, r, z, q⟩ => ⟨rfl, by rw [← r.length]; exact z, I1.bk _ _ hC, hN.keeps I1.bk, T.keeps I1.bk, fun h' a m => ?_⟩) fun _ _ y => y)
  have I2 : Inv X pins σ H1 { s2 with heap := h' } := I1.kept (t' := s2.toks) m.keeps
  obtain ⟨t', e1, tn, e2⟩ := m.there
  exact hx pins σ H1 _ a t' (.ref C) none I2 ⟨I1.nw hex m.new (I1.hok.new m.new), .none, e1, .inl rfl, fun T z => nomatch z⟩ q
end
/-! ### except R as n -/
section
variable {X : Cx} {pins : List (Addr × Obj)} {σ : St} {H : Hp} {s : Shared}
/-- what stands at a new address is known from now on, and stays -/
theorem Inv.track {a : Addr} {o : Obj} (I : Inv X pins σ H s) (n : Nw X pins H a) (e : s.heap.get? a = some o) : Inv X pins σ (upd H a (.frz o (.own a))) s := by
  have ne : ∀ b u, H b = some u → b ≠ a := fun b u z q => by rw [q, n.un] at z; cases z
  have up : ∀ b, b ≠ a → upd H a (.frz o (.own a)) b = H b := fun b hb => upd_ne hb
  refine ⟨I.ok, I.os, I.bare, ⟨I.base.keep, I.base.slot, fun b u z m hx => ?_, I.base.there, fun b xs z => ?_, fun b u v z => ?_, fun b ps z => ?_⟩, I.loc, I.cell, ?_, fun x c z => ?_, fun p hp => ?_, fun b u z => ?_, I.len⟩
  · rw [up b fun q => by rw [q, n.old] at z; cases z]
    exact I.base.free b u z m hx
  · have := I.base.tups b xs z
    rw [up b (ne b _ this)]; exact this
  · have := I.base.frzs b u v z
    rw [up b (ne b _ this)]; exact this
  · obtain ⟨more, this⟩ := I.base.tbls b ps z
    exact ⟨more, by rw [up b (ne b _ this)]; exact this⟩
  · rw [up _ (Ne.symm n.loc)]; exact I.free
  · rw [up _ (n.cell x c z)]; exact I.freeC x c z
  · obtain ⟨q1, q2, q3⟩ := I.pin p hp
    exact ⟨q1, by rw [up _ (n.pin p hp)]; exact q2, q3⟩
  · by_cases hb : b = a
    · subst hb
      rw [upd_same] at z
      cases z
      exact ⟨e, _, e⟩
    · rw [up b hb] at z
      exact (I.hok b u z).stay (fun _ _ _ q => q) (fun c q => by rw [up c (ne c _ q)]; exact q) (fun c xs q => by rw [up c (ne c _ q)]; exact q)
/-- the name is let go -/
theorem unbind_ok {M : Model} {A : Around} {E : Value → Shared → Prop} {i : Nat} {x : Str} {v : V} {Q : Unit → Shared → Prop} (I : Inv X pins σ H s) (hN : X.N.Nodup) (hi : X.N[i]? = some x) (hk : X.env.scope.names.lookup x = some .local) (hv : σ[i]? = some (some v))
    (k : ∀ s', Inv X pins (σ.set i none) H s' → Q () s') : wpAny M A (unbindName X.env x) Q E s := by
  obtain ⟨m, hn, hl⟩ := id I.loc
  have hcls : (X.env.scope.kind == .class || (X.env.scope.kind == .module && X.env.locals != X.env.globals)) = false := by rw [I.ok.kind]; rfl
  obtain ⟨u, _, lk⟩ := hl i x v hi hv (.inl hk)
  have hm : m x = some u := by
    rcases lk with ⟨_, z⟩ | ⟨z, _⟩
    · exact z
    · have z : X.env.scope.names.lookup x = some .cell ∨ X.env.scope.names.lookup x = some .free := z
      rw [hk] at z
      rcases z with z | z <;> cases z
  refine wpAny_unbindName_local hk hn hm hcls fun h' w' hn' hs => k _ ?_
  obtain ⟨oL, _, _, hoL, _⟩ := id hn
  have nl : ∀ b o, X.s₀.heap.get? b = some o → b ≠ X.env.locals := fun b o e => Nat.ne_of_lt (Nat.lt_of_lt_of_le (Heap.lt_size e) I.ok.above)
  refine ⟨I.ok, I.os, I.bare, ⟨fun b o e n hb hx => ?_, fun b o e n hb hx => ?_, I.base.free, fun b o e hx => ?_, I.base.tups, I.base.frzs, I.base.tbls⟩, ⟨_, hn', fun j y v' e1 e2 e3 => ?_⟩, fun y c e => ?_, I.free, I.freeC, fun p hp => ?_, fun b u z => ?_, by simpa using I.len⟩
  · exact (hs.2 b (nl b o e)).trans (I.base.keep b o e n hb hx)
  · obtain ⟨sl, e1⟩ := I.base.slot b o e n hb hx
    exact ⟨sl, (hs.2 b (nl b o e)).trans e1⟩
  · obtain ⟨o', e1⟩ := I.base.there b o e hx
    exact ⟨o', (hs.2 b (nl b o e)).trans e1⟩
  · by_cases hj : j = i
    · subst hj
      have hlen : j < σ.length := (List.getElem?_eq_some_iff.mp hv).1
      rw [List.getElem?_set_self hlen] at e2
      cases e2
    · rw [List.getElem?_set_ne (Ne.symm hj)] at e2
      obtain ⟨u', r', q⟩ := hl j y v' e1 e2 e3
      refine ⟨u', r', ?_⟩
      rcases q with ⟨k1, e⟩ | ⟨k1, c, e, z⟩
      · have : y ≠ x := fun e => hj (nodup_ix hN e1 (e ▸ hi))
        exact .inl ⟨k1, by simp [this, e]⟩
      · exact .inr ⟨k1, c, e, z.sameBut hs (I.cne y c e)⟩
  · obtain ⟨w2, z⟩ := I.cell y c e
    exact ⟨w2, z.sameBut hs (I.cne y c e)⟩
  · obtain ⟨e, n, ne, nf, d⟩ := I.pin p hp
    exact ⟨(hs.2 p.1 ne).trans e, n, ne, nf, d⟩
  · refine (I.hok b u z).stay (fun c w2 hc q => (hs.2 c ?_).trans q) (fun _ q => q) fun _ _ q => q
    rintro rfl
    rcases hc with rfl | hc
    · rw [I.free] at z; cases z
    · rw [I.free] at hc; cases hc
end
/-- within a try's body: the pins are kept, exceptions go to E -/
abbrev Cx.hold (X : Cx) (pins : List (Addr × Obj)) (E : Value → Shared → Prop) : Cx := { X with pn := X.pn ++ pins, xe := E }
/-- within an except suite: the exception at a is handled; none leaves -/
abbrev Cx.hnd (X : Cx) (pins : List (Addr × Obj)) (a : Addr) : Cx := { X with A := X.A.mark (some (.ref a)), calm := false, pn := X.pn ++ pins, xe := fun _ _ => False }
section
variable {X : Cx} {pins pins' : List (Addr × Obj)} {σ : St} {H : Hp} {s : Shared} {a : Addr} {E : Value → Shared → Prop}
theorem Inv.hold (I : Inv X pins σ H s) : Inv (X.hold pins E) [] σ H s :=
  ⟨⟨I.ok.mod, I.ok.kind, I.ok.glob, I.ok.blt, I.ok.above, I.ok.inj, I.ok.has, I.ok.cab, I.ok.hd, I.ok.frames, I.ok.stk, I.ok.exf, I.ok.bs, I.ok.bsz, I.ok.noex, I.ok.exfs, I.ok.funs, I.ok.frf⟩,
    I.os, I.bare, I.base, I.loc, I.cell, I.free, I.freeC, fun p hp => I.pin p (by simpa using hp), I.hok, I.len⟩
theorem Inv.unhold (I : Inv (X.hold pins E) pins' σ H s) : Inv X pins σ H s :=
  ⟨⟨I.ok.mod, I.ok.kind, I.ok.glob, I.ok.blt, I.ok.above, I.ok.inj, I.ok.has, I.ok.cab, I.ok.hd, I.ok.frames, I.ok.stk, I.ok.exf, I.ok.bs, I.ok.bsz, I.ok.noex, I.ok.exfs, I.ok.funs, I.ok.frf⟩,
    I.os, I.bare, I.base, I.loc, I.cell, I.free, I.freeC, fun p hp => I.pin p (List.mem_append_left _ hp), I.hok, I.len⟩
theorem Inv.hnd (I : Inv X pins σ H s) : Inv (X.hnd pins a) [] σ H s :=
  ⟨⟨I.ok.mod, I.ok.kind, I.ok.glob, I.ok.blt, I.ok.above, I.ok.inj, I.ok.has, I.ok.cab, (fun z => nomatch z), I.ok.frames, I.ok.stk, I.ok.exf, I.ok.bs, I.ok.bsz, I.ok.noex, I.ok.exfs, I.ok.funs, I.ok.frf⟩,
    I.os, I.bare, I.base, I.loc, I.cell, I.free, I.freeC, fun p hp => I.pin p (by simpa using hp), I.hok, I.len⟩
/-- (the handled one is gone again; calm: as X says) -/
theorem Inv.unhnd (ok : X.Ok) (I : Inv (X.hnd pins a) pins' σ H s) : Inv X pins σ H s :=
  ⟨ok, I.os, I.bare, I.base, I.loc, I.cell, I.free, I.freeC, fun p hp => I.pin p (List.mem_append_left _ hp), I.hok, I.len⟩
theorem Nw.unhold {b : Addr} (n : Nw (X.hold pins E) pins' H b) : Nw X pins H b := ⟨n.un, n.loc, n.fs, n.old, n.cell, fun p hp => n.pin p (List.mem_append_left _ hp)⟩
theorem Flt.unhold {t : Addr} {C : Value} {dd : Option Addr} (F : Flt (X.hold pins E) pins' H s a C t dd) : Flt X pins H s a C t dd := by
  obtain ⟨n, tb, e, ok, m⟩ := F
  exact ⟨n.unhold, tb, e, ok, fun T z => (m T z).unhold⟩
theorem SP.unhold {D : Ends} {f : Flow} {s' : Shared} (h : SP (X.hold pins E) pins' D f s') : SP X pins D f s' := by
  cases f with
  | next => obtain ⟨σ', H', I, q⟩ := h; exact ⟨σ', H', I.unhold, q⟩
  | brk => obtain ⟨σ', H', I, q⟩ := h; exact ⟨σ', H', I.unhold, q⟩
  | cont => obtain ⟨σ', H', I, q⟩ := h; exact ⟨σ', H', I.unhold, q⟩
  | ret u => obtain ⟨v, σ', H', I, r, q⟩ := h; exact ⟨v, σ', H', I.unhold, r, q⟩
end
/-- the class R as a clause's -/
structure Clause (K : Frag) (R : Addr) : Prop where
  ty : typeIn K (.ref R) = some (.type "type")
  cl : (clsIn K R).isSome = true
  ex : subIn K (.ref R) (.type "BaseException") = some true
theorem looks_isType {K : Frag} {M : Model} {h : Heap} {R : Addr} (X : K.In h) (c : (clsIn K R).isSome = true) : Looks M h (isType (.ref R)) true := by
  unfold clsIn at c
  split at c
  · rename_i ho
    intro A' Q' E' s' k q
    unfold isType loadHead
    exact wpAny_bind (wpAny_loadPart (k _ _ (X _ _ ho)) (wpAny_pure q))
  · cases c
theorem exc_match {K : Frag} {M : Model} {A : Around} {E : Value → Shared → Prop} {s : Shared} {a R : Addr} {C : Value} {oa : Obj} {b : Bool} {Q : Bool → Shared → Prop} (X : K.In s.heap) (ha : s.heap.get? a = some oa) (hc : oa.cls = C) (c : Clause K R)
    (m : subIn K C (.ref R) = some b) (h : Q b s) : wpAny M A (excMatches (.ref a) (.ref R)) Q E s := by
  obtain ⟨hp, g, d, tk, os⟩ := s
  have L1 : Looks M hp (typeOf (.ref R)) (.type "type") := looks_typeIn X c.ty
  have L2 : Looks M hp (isSubtype (.ref R) (.type "BaseException")) true := looks_subIn X c.ex
  have L3 : Looks M hp (isSubtype C (.ref R)) b := looks_subIn X m
  have L4 : Looks M hp (typeOf (.ref a)) C := hc ▸ (Looks.ld ha).andThen .now
  have L5 : Looks M hp (isType (.ref R)) true := looks_isType X c.cl
  unfold excMatches
  unfold isInstance
  refine wpAny_bind (wpAny_bind (L1.at ?_))
  rw [tc_notTuple]
  refine wpAny_pure ?_
  simp only [Bool.false_eq_true, if_false]
  refine wpAny_bind (wpAny_pure ?_)
  simp only [List.forIn_cons, List.forIn_nil]
  unfold isExcClass
  refine wpAny_bind (wpAny_bind (wpAny_bind (wpAny_bind (L5.at ?_))))
  simp only [if_true]
  refine L2.at ?_
  simp only [Bool.not_true, Bool.false_eq_true, if_false]
  refine wpAny_pure (wpAny_pure ?_)
  refine wpAny_bind (L4.at ?_)
  refine wpAny_bind (wpAny_bind (wpAny_bind (L3.at ?_)))
  cases b with
  | true => simp only [if_true]; exact wpAny_pure (wpAny_pure (wpAny_pure h))
  | false => simp only [Bool.false_eq_true, if_false]; exact wpAny_pure (wpAny_pure (wpAny_pure h))
end L2
set_option Elab.async false
set_option linter.all false
set_option maxRecDepth 100000
set_option maxHeartbeats 4000000
namespace L2
open PySem PySem.Spec PyProof.Rows PySem.W
/-! ### try: body / except R as n: suite -/
def tTry (K : Frag) (R : Addr) (i : Nat) (tb : EK → TS) (ts : Addr → TS) : TS := fun D σ H =>
  tb (fun C dd σ' H' => subIn K C (.ref R) = some true ∧ ∀ (a t T : Addr), H' a = none →
    ts a { nx := fun σ2 H2 => D.nx (σ2.set i none) H2, rt := D.rt, bk := fun σ2 H2 => D.bk (σ2.set i none) H2, ct := fun σ2 H2 => D.ct (σ2.set i none) H2 }
      (σ'.set i (some (.ref a))) (upd H' a (.frz (ExcO C t dd (.ref T)) (.own a)))) D σ H
section
variable {X : Cx} {x n : Str} {np hpos pos : Pos} {R : Addr} {i : Nat} {body suite : List Stmt} {b₀ : Stmt} {tb : EK → TS} {ts : Addr → TS}
theorem ps_try (B : Body X) (hg : Gl X x) (hm : X.mg x = some (.ref R)) (c : Clause X.K R) (hN : X.N.Nodup) (hi : X.N[i]? = some n) (hk : X.env.scope.names.lookup n = some .local)
    (hb : ∀ pins Ew EHb, Catches (X.hold pins Ew) EHb → PSs (X.hold pins Ew) body (tb EHb)) (hs : ∀ pins a, PSs (X.hnd pins a) (b₀ :: suite) (ts a))
    (hdb : (x == ("__debug__" : Str)) = false := by decide) (hf : X.fn n = true ∨ X.env.scope.names.lookup n = some .local := by first | exact .inl rfl | exact .inr rfl | assumption) :
    PS X (.Try body [.ExceptHandler (some (.Name x np)) (some n) (b₀ :: suite) hpos] [] [] pos) (tTry X.K R i tb ts) := by
  intro pins s σ H D I h
  refine wpAny_Try_except ?_
  refine wpAny_mono (hb pins _ _ ?cat [] s σ H D I.hold h) (fun f s1 hf1 => ?_) (fun e s1 he => he)
  case cat =>
    intro pins' σ' H' s' a t C dd I' F' hE
    obtain ⟨hsub, hE⟩ := hE
    show wpAny (model X.prog X.w) X.A (noteFrame (.ref a) X.env) _ X.xe s'
    have J := I'.unhold
    have F := F'.unhold
    refine flt_note B J F fun s2 J2 F2 => flt_land J2 F2 fun s3 J3 F3 => ?_
    obtain ⟨na, T, oT, ts', e3, ne3, nT3, eT3, dT3, h33⟩ := id F3
    refine wpAny_handleBy_cons (codeAny_handlers_test ?_) (by intro z; cases z)
    have K3 : Inv (X.hnd pins a) [] σ' H' s3 := J3.hnd
    refine ld_glob K3 hg hm ?_ hdb
    refine exc_match J3.kIn e3 rfl c hsub ?_
    show codeAny _ _ _ _ _
    refine codeAny_handlers_suite_as ?_
    refine flt_land J3 F3 fun s4 J4 F4 => ?_
    obtain ⟨na4, T4, oT4, ts4, e4, _⟩ := id F4
    have J5 := J4.track na4 e4
    refine store_ok (v := .ref a) J5 hN hi (.inl hk) rfl (fun s5 J6 => ?_) hf
    refine wpAny_mono (hs pins a [] s5 _ _ _ J6.hnd (hE a t T4 na4.un)) (fun f s6 hf6 => ?_) (fun _ _ z => z.elim)
    have fin : ∀ {σ6 : St} {H6 : Hp} {Q6 : Unit → Shared → Prop}, Inv (X.hnd pins a) [] σ6 H6 s6 → (∀ s7, Inv X pins (σ6.set i none) H6 s7 → Q6 () s7) →
        wpAny (model X.prog X.w) X.A (do bindName X.env n .none; unbindBehindTheSuite X.env n hpos) Q6 X.xe s6 := by
      intro σ6 H6 Q6 K6 k6
      have L6 := K6.unhnd J6.ok
      refine wpAny_bind (wpAny_bindName (store_ok (v := .non) L6 hN hi (.inl hk) rfl (fun s7 J7 => ?_) hf))
      unfold unbindBehindTheSuite
      have hlen : i < σ6.length := by rw [L6.len]; exact (List.getElem?_eq_some_iff.mp hi).1
      refine wpAny_onRaise (unbind_ok J7 hN hi hk (List.getElem?_set_self hlen) fun s8 J8 => k6 s8 ?_)
      rw [List.set_set] at J8
      exact J8
    cases f with
    | next => obtain ⟨σ6, H6, K6, q⟩ := hf6; exact fin K6 fun s7 J7 => ⟨_, _, J7, q⟩
    | brk => obtain ⟨σ6, H6, K6, q⟩ := hf6; exact fin K6 fun s7 J7 => ⟨_, _, J7, q⟩
    | cont => obtain ⟨σ6, H6, K6, q⟩ := hf6; exact fin K6 fun s7 J7 => ⟨_, _, J7, q⟩
    | ret u => obtain ⟨v, σ6, H6, K6, r, q⟩ := hf6; exact fin K6 fun s7 J7 => ⟨v, _, _, J7, r, q⟩
  · cases f with
    | next => exact wpAny_execs_nil (SP.unhold hf1)
    | brk => exact SP.unhold hf1
    | cont => exact SP.unhold hf1
    | ret u => exact SP.unhold hf1
end
end L2
set_option Elab.async false
set_option linter.all false
set_option maxRecDepth 100000
set_option maxHeartbeats 4000000
namespace L2
open PySem PySem.Spec PyProof.Rows PySem.W
/-! ### isinstance of an exception of an own class -/
structure ExcK (K : Frag) (C : Addr) : Prop where
  ga : findIn K (.ref C) "__getattribute__" = some (some (.builtin "BaseException.__getattribute__"))
  gh : findIn K (.ref C) "__getattr__" = some none
  ca : findIn K (.ref C) "__class__" = some (some (.builtin "object.__class__"))
  sn : specialIn K (.builtin "object.__class__") "__get__" = some (some (.builtin "getset_descriptor.__get__"))
  tk : takesIn K (.builtin "object.__class__") = some true
  ob : mroIn K C (.type "object") = some true
  be : subIn K (.ref C) (.type "BaseException") = some true
  cl : (clsIn K C).isSome = true
theorem exc_class_attr {prog : Program} {w : World} {A : Around} {E : Value → Shared → Prop} {s : Shared} {K : Frag} {a C : Addr} {oa : Obj} {od : Option Obj} {Q : Option Value → Shared → Prop} (F : ExcK K C) (X : K.In s.heap) (I : PySem.W.InstAt s.heap a oa C od)
    (h : Q (some (.ref C)) { s with toks := s.toks + 1 }) : wpAny (model prog w) A (getAttr? (.ref a) "__class__") Q E s := by
  obtain ⟨hp, g, d, t, os⟩ := s
  have L0 := I.type (M := model prog w)
  have L1 := looks_findIn (M := model prog w) X F.ga
  have L2 := looks_findIn (M := model prog w) X F.gh
  have L3 : Looks (model prog w) hp (isInstance (.ref a) (.type "BaseException")) true := L0.andThen (looks_subIn X F.be)
  have hf : findObj K C od "__class__" = some (.bind (.builtin "getset_descriptor.__get__") (.builtin "object.__class__")) := by
    obtain ⟨cd, hc⟩ := Option.isSome_iff_exists.mp F.cl
    unfold findObj
    rw [hc, Option.bind_some, F.ca, Option.bind_some]
    simp [F.sn, F.tk]
  have L4 := looks_find (M := model prog w) X I hf
  have hk : builtinKind "BaseException.__getattribute__" = some .slot := by decide +kernel
  have hsplit : splitId "BaseException.__getattribute__" = some ("BaseException", "__getattribute__") := by decide +kernel
  have hargs := PySem.F.args_bexc_ga (.ref a) (.str "__class__" t)
  have hb := PySem.F.attr_ValueError.ga.bind (.ref a)
  unfold getAttr? getAttrBy? getAttrBy
  refine wpAny_bind (wpAny_mkText (wpAny_bind (wpAny_attempt (wpAny_holding (wpAny_bind (L0.at (wpAny_bind (L1.at ?_))))))))
  dsimp only
  rw [if_neg (show ¬ ((onTheHeap (Value.ref C) && Value.builtin "BaseException.__getattribute__" == Value.builtin "object.__getattribute__") = true) by
    rw [show (Value.builtin "BaseException.__getattribute__" == Value.builtin "object.__getattribute__") = false by decide +kernel, Bool.and_false]; exact Bool.false_ne_true)]
  unfold getAttrByItsOwn
  refine wpAny_bind (m := hookBefore (.ref C)) (L2.at ?_)
  refine wpAny_bind (wpAny_attempt (wpAny_holding ?_))
  unfold callGetattribute
  rw [if_neg (by decide)]
  unfold boundAndCalled
  rw [hb]
  refine wpAny_bind (wpAny_pure ?_)
  refine wpAny_call (codeAny_call_builtin PySem.F.attr_ValueError.ga.plain PySem.F.entry_bexc_ga ?_)
  have chk : ∀ {A' : Around} {Q' : Unit → Shared → Prop} {E' : Value → Shared → Prop}, Q' () ⟨hp, g, d, t + 1, os⟩ → wpAny (model prog w) A' (checkBuiltinCall "BaseException.__getattribute__" ⟨[.ref a, .str "__class__" t], []⟩) Q' E' ⟨hp, g, d, t + 1, os⟩ := by
    intro A' Q' E' hq
    simp only [checkBuiltinCall, hk, hsplit]
    refine wpAny_bind ?_
    refine L3.at ?_
    repeat (first | assumption | wp_step)
  refine chk ?_
  show wpAny _ _ (Builtin.«object.__getattribute__» ⟨[.ref a, .str "__class__" t], []⟩) _ _ _
  unfold Builtin.«object.__getattribute__»
  refine wpAny_bind (wpAny_pure ?_)
  refine wpAny_bind (wpAny_pure ?_)
  refine wpAny_bind (L0.at (wpAny_bind (L4.at ?_)))
  dsimp only
  show wpAny _ _ (holding [Value.builtin "object.__class__"] (call (.builtin "getset_descriptor.__get__") [.builtin "object.__class__", .ref a, .ref C]) >>= ret) _ _ _
  refine wpAny_bind (wpAny_holding (wpAny_call (class_get (s := ⟨hp, g, d, t + 1, os⟩) X I F.ob (wpAny_pure ?_))))
  exact handed_on rfl (wpAny_pure h)
end L2
set_option Elab.async false
set_option linter.all false
set_option maxRecDepth 100000
set_option maxHeartbeats 4000000
namespace L2
open PySem PySem.Spec PyProof.Rows PySem.W
/-! ### iterators, within an except suite too -/
/-- nothing is handled, or an exception that is known and has no context -/
def HdOk (X : Cx) : Prop := X.A.handled = none ∨ ∃ x o u vs, X.A.handled = some (.ref x) ∧ X.H₀ x = some (.frz o u) ∧ o.data = .fields vs ∧ vs[2]? = some .none
section
variable {X : Cx} {pins : List (Addr × Obj)} {σ : St} {H : Hp} {s : Shared}
theorem Inv.hdA (I : Inv X pins σ H s) (h : HdOk X) : Hd X.A s.heap := by
  rcases h with z | ⟨x, o, u, vs, z, e, d, n⟩
  · exact .inl z
  · exact .inr ⟨x, o, vs, z, (I.hok x _ (I.base.frzs x o u e)).1, d, n⟩
/-- .. also where an iterator that is nobody's has turned -/
theorem Inv.hdB {it : Addr} (I : Inv X pins σ H s) (h : HdOk X) (hn : H it = none) : ∀ h' : Heap, Heap.ExtBut it s.heap h' → Hd X.A h' := by
  intro h' k
  rcases h with z | ⟨x, o, u, vs, z, e, d, n⟩
  · exact .inl z
  · have q := I.base.frzs x o u e
    exact .inr ⟨x, o, vs, z, k x o (fun w => by rw [w, hn] at q; cases q) (I.hok x _ q).1, d, n⟩
end
structure TurnH (P : Program) (w : World) (K : Frag) (tg : Expr) (J : It) (it : Addr) (tn : Nat → Heap → Prop) : Prop where
  obj : ∀ i h, tn i h → ∃ o, h.get? it = some o ∧ ∀ v, o.data ≠ .cell v
  keep : ∀ i h h', tn i h → (∀ o, h.get? it = some o → h'.get? it = some o) → tn i h'
  item : ∀ (X : Cx), X.prog = P → X.w = w → X.K = K → HdOk X → ∀ (i : Nat) (pins : List (Addr × Obj)) (s : Shared) (σ : St) (H : Hp) (E : Value → Shared → Prop), Inv X pins σ H s → FpOk X pins H it → tn i s.heap → J.go i H →
    wpAny (model P w) X.A (pyNext (.ref it)) (fun r s1 => ∃ u, r = some u ∧
      wpAny (model P w) X.A (letOwnedTupleGo tg (.ref it) u) (fun _ s2 => ∃ x, Inv X pins σ H s2 ∧ RelV x u ∧ J.yld i H x H ∧ tn (i + 1) s2.heap) E s1) E s
  done : ∀ (X : Cx), X.prog = P → X.w = w → X.K = K → HdOk X → ∀ (i : Nat) (pins : List (Addr × Obj)) (s : Shared) (σ : St) (H : Hp) (E : Value → Shared → Prop), Inv X pins σ H s → FpOk X pins H it → tn i s.heap → J.stop i H →
    wpAny (model P w) X.A (pyNext (.ref it)) (fun r s1 => r = none ∧ Inv X pins σ H s1) E s
  self : ∀ (A : Around) (i : Nat) (s : Shared) (Q : Value → Shared → Prop) (E : Value → Shared → Prop), tn i s.heap → Q (.ref it) s → wpAny (model P w) A (pyIter (.ref it)) Q E s
theorem turnH_list {P : Program} {w : World} {K : Frag} {tg : Expr} (a it : Addr) : TurnH P w K tg (Itl K a) it (fun i h => h.IsListIter it a i) where
  obj := fun i h ⟨o, e, c, d⟩ => ⟨o, e, fun v z => by rw [d] at z; cases z⟩
  keep := fun i h h' st k => st.at fun o e => k o e
  item := by
    intro X hP hw hK hc i pins s σ H E I hf st hg
    subst hP hw hK
    obtain ⟨xs, x, hq, hx⟩ := hg
    obtain ⟨its, rv, p, hz⟩ := I.list hq
    obtain ⟨u, hu, ru⟩ := rv.get hx
    obtain ⟨f0, f1, f2, f3, f4, f5⟩ := hf
    refine wpAny_pyNext_list_item st p.isList (x := u) (by simpa using hu) fun h' st' sb => ?_
    have I1 : Inv X pins σ H { s with heap := h' } := I.turned (t' := s.toks) (fun b o hb e => (sb.2 b hb).trans e) f0 f1 f3 f4 f5
    obtain ⟨o, e, c, d⟩ := id st'
    exact ⟨u, rfl, go_of (s := { s with heap := h' }) e c d (by decide) ⟨x, I1, ru, ⟨rfl, fun ys hy => by rw [I.list_inj hy hq]; exact hx⟩, st'⟩⟩
  done := by
    intro X hP hw hK hc i pins s σ H E I hf st hg
    subst hP hw hK
    obtain ⟨xs, hq, hx⟩ := hg
    obtain ⟨its, rv, p, hz⟩ := I.list hq
    obtain ⟨f0, f1, f2, f3, f4, f5⟩ := hf
    have hl := rv.length
    exact next_list_end_hd (I.hdB hc f0) st p.isList (by simp; omega) fun h' eb => ⟨rfl, I.turned (t' := s.toks) (fun b o hb e => eb b o hb e) f0 f1 f3 f4 f5⟩
  self := fun _ _ _ _ _ st h => wpAny_pyIter_listiter st h
theorem turnH_tup {P : Program} {w : World} {K : Frag} {tg : Expr} (a it : Addr) : TurnH P w K tg (Itt K a) it (fun i h => h.IsTupleIter it a i) where
  obj := fun i h ⟨o, e, c, d⟩ => ⟨o, e, fun v z => by rw [d] at z; cases z⟩
  keep := fun i h h' st k => st.at fun o e => k o e
  item := by
    intro X hP hw hK hc i pins s σ H E I hf st hg
    subst hP hw hK
    obtain ⟨xs, x, hq, hx⟩ := hg
    obtain ⟨its, rv, p, hz⟩ := I.tuple hq
    obtain ⟨u, hu, ru⟩ := rv.get hx
    obtain ⟨f0, f1, f2, f3, f4, f5⟩ := hf
    refine wpAny_pyNext_tuple_item st (show s.heap.IsTuple a its.toArray from p) (x := u) (by simpa using hu) fun h' st' sb => ?_
    have I1 : Inv X pins σ H { s with heap := h' } := I.turned (t' := s.toks) (fun b o hb e => (sb.2 b hb).trans e) f0 f1 f3 f4 f5
    obtain ⟨o, e, c, d⟩ := id st'
    exact ⟨u, rfl, go_of (s := { s with heap := h' }) e c d (by decide) ⟨x, I1, ru, ⟨rfl, fun ys hy => by rw [I.tuple_inj hy hq]; exact hx⟩, st'⟩⟩
  done := by
    intro X hP hw hK hc i pins s σ H E I hf st hg
    subst hP hw hK
    obtain ⟨xs, hq, hx⟩ := hg
    obtain ⟨its, rv, p, hz⟩ := I.tuple hq
    obtain ⟨f0, f1, f2, f3, f4, f5⟩ := hf
    have hl := rv.length
    exact next_tup_end_hd (I.hdB hc f0) st p (by simp; omega) fun h' eb => ⟨rfl, I.turned (t' := s.toks) (fun b o hb e => eb b o hb e) f0 f1 f3 f4 f5⟩
  self := fun _ _ _ _ _ st h => wpAny_pyIter_tupleiter st h
def PIH (X : Cx) (tg iter : Expr) (wi : TI) : Prop :=
  ∀ (pins : List (Addr × Obj)) (s : Shared) (σ : St) (H : Hp) (R : It → Hp → Prop), Inv X pins σ H s → wi σ H R →
    wpAny (model X.prog X.w) X.A (eval iter X.env) (fun v s1 => wpAny (model X.prog X.w) X.A (pyIter v) (fun itv s2 => ∃ (it : Addr) (tn : Nat → Heap → Prop) (J : It) (H' : Hp), itv = .ref it ∧ Inv X pins σ H' s2 ∧ TurnH X.prog X.w X.K tg J it tn ∧ tn 0 s2.heap ∧
      FpOk X pins H' it ∧ R J H') X.xe s1) X.xe s
section
variable {X : Cx} {tg : Expr}
theorem pih_list {l : Expr} {tl : TE} (hl : PE X l tl) : PIH X tg l (iList X.K tl) := by
  intro pins s σ H R I h
  refine thn (hl pins s σ H _ I h) fun v s1 ⟨x, H1, I1, r1, q1⟩ => ?_
  obtain ⟨a, e, ⟨xs, hq⟩, q⟩ := q1
  subst e
  cases r1
  obtain ⟨its, rv, p, hz⟩ := I1.list hq
  exact wpAny_pyIter_list p.isList ⟨s1.heap.objs.size, _, _, H1, rfl, I1.kept (t' := s1.toks) fun b o e => Heap.get?_push_of_some _ e, turnH_list a _, ⟨_, Heap.get?_push_size _ rfl, rfl, rfl⟩, I1.fpOk (Nat.le_refl _) (I1.hok.fresh (Nat.le_refl _)), q⟩
theorem pih_tup {l : Expr} {tl : TE} (hl : PE X l tl) : PIH X tg l (iTup X.K tl) := by
  intro pins s σ H R I h
  refine thn (hl pins s σ H _ I h) fun v s1 ⟨x, H1, I1, r1, q1⟩ => ?_
  obtain ⟨a, e, ⟨xs, hq⟩, q⟩ := q1
  subst e
  cases r1
  obtain ⟨its, rv, p, hz⟩ := I1.tuple hq
  exact wpAny_pyIter_tuple (show s1.heap.IsTuple a its.toArray from p) ⟨s1.heap.objs.size, _, _, H1, rfl, I1.kept (t' := s1.toks) fun b o e => Heap.get?_push_of_some _ e, turnH_tup a _, ⟨_, Heap.get?_push_size _ rfl, rfl, rfl⟩, I1.fpOk (Nat.le_refl _) (I1.hok.fresh (Nat.le_refl _)), q⟩
/-- (a, b) = a pair, within an except suite too -/
theorem pg_tupH {es : List Expr} {k : Nat} {t : TGs} {n : Nat} {pos : Pos} (hc : HdOk X) (h : PGs X es t) (hn : (assignEach es X.env).length = n := by rfl) (hst : (assignEach es X.env).findIdx? (·.1) = none := by rfl) : PG X (.Tuple es k pos) (gTup X.K n t) := by
  intro pins s σ H v u Q I r q
  obtain ⟨a, xs, ev, hq, hl, q⟩ := q
  subst ev
  cases r
  obtain ⟨its, rv, p, hz⟩ := I.tuple hq
  rw [assign_Tuple]
  refine wpAny_bind (wpAny_standAt (unpack_hd (I.hdA hc) p (by rw [hn, ← hl, rv.length]; simp) hst fun h' hx => ?_))
  have I1 : Inv X pins σ H { s with heap := h' } := I.kept (t' := s.toks) fun b o e => hx b o (Nat.ne_of_lt (Heap.lt_size e)) e
  exact thn (h pins _ σ H xs its Q I1 rv q) fun _ s' z => z
theorem pg_tupK {K : Frag} {es : List Expr} {k : Nat} {t : TGs} {n : Nat} {pos : Pos} (hK : X.K = K) (hc : HdOk X) (h : PGs X es t) (hn : (assignEach es X.env).length = n := by rfl) (hst : (assignEach es X.env).findIdx? (·.1) = none := by rfl) : PG X (.Tuple es k pos) (gTup K n t) := by
  subst hK
  exact pg_tupH hc h hn hst
end
end L2

set_option Elab.async false
set_option linter.all false
set_option maxRecDepth 100000
set_option maxHeartbeats 4000000
namespace L2
open PySem PySem.Spec PyProof.Rows PySem.W
section
variable {X : Cx}
/-- the comprehension as a value -/
theorem letgo {pins : List (Addr × Obj)} {σ : St} {H : Hp} {s : Shared} {C : Addr} {h' : Heap} (I : Inv X pins σ H s) (f : FpOk X pins H C) (sb : Heap.SameBut C s.heap h') : Inv X pins σ H { s with heap := h' } :=
  I.turned (t' := s.toks) (fun b o hb e => (sb.2 b hb).trans e) f.1 f.2.1 f.2.2.2.1 f.2.2.2.2.1 f.2.2.2.2.2
end
end L2
set_option Elab.async false
set_option linter.all false
set_option maxRecDepth 100000
set_option maxHeartbeats 4000000
namespace L2
open PySem PySem.Spec PyProof.Rows PySem.W
section
variable {X : Cx} {a b c : Expr} {ta tb tc : TE} {pos : Pos}
/-! ### great ints -/
theorem op_mulK : OpR X (binaryOp .Mult) (rI IntMulOk fun i j => .int (i * j)) := opI fun _ _ _ _ _ _ _ hc q => mul_int q hc
theorem op_fdivK : OpR X (binaryOp .FloorDiv) (rI (fun _ j => 0 < j ∧ j.natAbs.log2 < 9000) fun i j => .int (i / j)) := opI fun i j _ _ _ _ _ hc q => by
  have h1 : (0 : Int) < j := hc.1
  exact floordiv_int (by omega) (by rw [Int.fdiv_eq_ediv_of_nonneg i (by omega)]; exact q) (.inl (PyProof.noPylong_of_log2 hc.2))
/-! ### isinstance -/
/-- the type of a value, an exception that is known too -/
inductive TyE (K : Frag) (H : Hp) : V → Value → Prop where
  | of {x : V} {t : Value} (h : TyOf K H x t) : TyE K H x t
  | exc {a C t : Addr} {T : Value} {u : HO} (e : H a = some (.frz (ExcO (.ref C) t none T) u)) (k : ExcK K C) : TyE K H (.ref a) (.ref C)
  | excD {a C t : Addr} {T : Value} {d : Addr} {u : HO} {fs : List (Str × V)} (e : H a = some (.frz (ExcO (.ref C) t (some d) T) u)) (hd : H d = some (.xd fs)) (k : ExcK K C) : TyE K H (.ref a) (.ref C)
  | tupK {a : Addr} {o : Obj} (l : K.lookup a = some o) (c : o.cls = .type "tuple") : TyE K H (.ref a) (.type "tuple")
theorem isinst_okE {pins : List (Addr × Obj)} {σ : St} {H : Hp} {s : Shared} {A : Around} {E : Value → Shared → Prop} {Q : Value → Shared → Prop} {c : Value} {b : Bool} {x : V} {u t : Value} (I : Inv X pins σ H s) (rx : RelV x u) (ty : TyE X.K H x t)
    (e : kitOne X.K t c = some b) (h : ∀ tk, Q (.bool b) { s with toks := tk }) : wpAny (model X.prog X.w) A (call (.builtin "isinstance") [u, c]) Q E s := by
  cases ty with
  | of h' => exact isinst_ok I rx h' e h
  | exc ea k =>
    cases rx
    rename_i a C t0 T u0
    have o1 : s.heap.get? a = some (ExcO (.ref C) t0 none T) := (I.hok a _ ea).1
    refine kia_one (H := fun h => PySem.W.InstAt h a (ExcO (.ref C) t0 none T) C none) ?_ I.kIn ⟨o1, rfl, rfl, trivial⟩ e (fun z => nomatch z) h
    refine ⟨fun M h _ J => J.type, fun M h K _ => looks_isType K k.cl, fun h tp dd its n sl K htp => ?_, fun K J q => exc_class_attr k K J q⟩
    refine Bool.eq_false_iff.mpr fun q => ?_
    have e : C = tp := Value.ref.inj (beq_iff_eq.mp q)
    subst e
    have z := k.cl
    unfold clsIn at z
    split at z
    · rename_i ho
      have y := (K _ _ ho).symm.trans htp
      cases y
    · cases z
  | tupK l c =>
    cases rx
    exact PySem.W.kia_one PySem.W.kitx_tuple I.kIn ⟨_, I.kIn _ _ l, c⟩ e (fun z => nomatch z) h
  | excD ea hd k =>
    cases rx
    rename_i a C t0 T d u0 fs
    have o1 : s.heap.get? a = some (ExcO (.ref C) t0 (some d) T) := (I.hok a _ ea).1
    obtain ⟨mA, nA, _⟩ := (show ∃ mA, s.heap.Ns1 d mA ∧ ∀ f, RelO (fs.lookup f) (mA f) from I.hok d _ hd)
    obtain ⟨od, o2, _⟩ := lookIn_ns nA
    refine kia_one (H := fun h => PySem.W.InstAt h a (ExcO (.ref C) t0 (some d) T) C (some od)) ?_ I.kIn ⟨o1, rfl, rfl, o2⟩ e (fun z => nomatch z) h
    refine ⟨fun M h _ J => J.type, fun M h K _ => looks_isType K k.cl, fun h tp dd its n sl K htp => ?_, fun K J q => exc_class_attr k K J q⟩
    refine Bool.eq_false_iff.mpr fun q => ?_
    have e : C = tp := Value.ref.inj (beq_iff_eq.mp q)
    subst e
    have z := k.cl
    unfold clsIn at z
    split at z
    · rename_i ho
      have y := (K _ _ ho).symm.trans htp
      cases y
    · cases z
/-- a class, as a value -/
def clsV : V → Option Value
  | .ty n => some (.type n)
  | .ref a => some (.ref a)
  | _ => none
theorem call_isinst : CallR X (.builtin "isinstance") (fun xs H Q => ∃ x c cv t b, xs = [x, c] ∧ clsV c = some cv ∧ TyE X.K H x t ∧ kitOne X.K t cv = some b ∧ Q (.bl b) H) := by
  intro pins s σ H xs us Q I r h
  obtain ⟨x, c, cv, t, b, rfl, hc, ty, e, q⟩ := h
  obtain ⟨u, v, rfl, ru, rv⟩ := Vals.two r
  have : v = cv := by
    cases c <;> simp only [clsV] at hc <;> first | (cases hc; exact rv) | cases hc
  subst this
  exact isinst_okE I ru ty e fun tk => ⟨.bl b, H, I.tok tk, rfl, q⟩
/-! ### == of data -/
mutual
/-- a value as data: flat ones, tuples and lists of such -/
inductive RdD (K : Frag) (H : Hp) : V → PyData → Prop where
  | non : RdD K H .non .none
  | bl (b : Bool) : RdD K H (.bl b) (.bool b)
  | int (i : Int) : RdD K H (.int i) (.int i)
  | str (x : Str) : RdD K H (.str x) (.str x)
  | tup {a : Addr} {xs : List V} {ds : List PyData} (h : SqT K H a xs) (r : RdDs K H xs ds) : RdD K H (.ref a) (.tuple ds)
  | lst {a : Addr} {xs : List V} {ds : List PyData} (h : SqL K H a xs) (r : RdDs K H xs ds) : RdD K H (.ref a) (.list ds)
inductive RdDs (K : Frag) (H : Hp) : List V → List PyData → Prop where
  | nil : RdDs K H [] []
  | cons {x : V} {xs : List V} {d : PyData} {ds : List PyData} (h : RdD K H x d) (r : RdDs K H xs ds) : RdDs K H (x :: xs) (d :: ds)
end
mutual
theorem RdD.reads {pins : List (Addr × Obj)} {σ : St} {H : Hp} {s : Shared} (I : Inv X pins σ H s) : ∀ {x : V} {d : PyData} {u : Value}, RdD X.K H x d → RelV x u → ∃ as, Reads s.heap u d as
  | _, _, _, .non, r => by cases r; exact ⟨_, .none⟩
  | _, _, _, .bl b, r => by cases r; exact ⟨_, .bool b⟩
  | _, _, _, .int i, r => by obtain ⟨t, rfl⟩ := r; exact ⟨_, .int i t⟩
  | _, _, _, .str x, r => by obtain ⟨t, rfl⟩ := r; exact ⟨_, .str x t⟩
  | _, _, _, .tup h q, r => by
    cases r
    obtain ⟨its, rv, ⟨o, e, c, n, d⟩, _⟩ := I.tuple h
    obtain ⟨as, z⟩ := RdDs.reads I q rv
    exact ⟨_, reads_tuple_at e c d (by simpa using z)⟩
  | _, _, _, .lst h q, r => by
    cases r
    obtain ⟨its, rv, p, _⟩ := I.list h
    obtain ⟨o, e, c, n, d⟩ := p.isList
    obtain ⟨as, z⟩ := RdDs.reads I q rv
    exact ⟨_, reads_list_at e c d (by simpa using z)⟩
theorem RdDs.reads {pins : List (Addr × Obj)} {σ : St} {H : Hp} {s : Shared} (I : Inv X pins σ H s) : ∀ {xs : List V} {ds : List PyData} {us : List Value}, RdDs X.K H xs ds → Vals xs us → ∃ as, ReadsAll s.heap us ds as
  | _, _, _, .nil, r => by cases r; exact ⟨_, .nil⟩
  | _, _, _, .cons h q, r => by
    cases r with
    | cons r1 r2 =>
      obtain ⟨as, z⟩ := RdD.reads I h r1
      obtain ⟨bs, y⟩ := RdDs.reads I q r2
      exact ⟨_, .cons z y⟩
end
def rEqD (K : Frag) (n : Bool) : R2 := fun x y H Q => ∃ d e, RdD K H x d ∧ RdD K H y e ∧ SeqAt.shaped d = true ∧ SeqAt.shaped e = true ∧ Q (.bl (if n then !PyData.eqv d e else PyData.eqv d e)) H
theorem op_eqD (hu : X.A.units + 64 < cLine) : OpR X (compareOp .Eq) (rEqD X.K false) := by
  intro pins s σ H x y v u Q I rx ry q
  obtain ⟨d, e, hx, hy, sd, se, q⟩ := q
  obtain ⟨as, z⟩ := hx.reads I rx
  obtain ⟨bs, z'⟩ := hy.reads I ry
  exact eq_dataH z z' sd se hu ⟨.bl (PyData.eqv d e), H, I, rfl, q⟩
theorem op_neD (hu : X.A.units + 64 < cLine) : OpR X (compareOp .NotEq) (rEqD X.K true) := by
  intro pins s σ H x y v u Q I rx ry q
  obtain ⟨d, e, hx, hy, sd, se, q⟩ := q
  obtain ⟨as, z⟩ := hx.reads I rx
  obtain ⟨bs, z'⟩ := hy.reads I ry
  exact ne_dataH z z' sd se hu ⟨.bl (!PyData.eqv d e), H, I, rfl, q⟩
/-! ### f'a {x} b': some text comes -/
/-- the parts of an f-string: written ones, and ints that are not too long -/
inductive FPart (X : Cx) : Expr → TE → Prop where
  | lit {x : Str} {j : Nat} {pos : Pos} : FPart X (.Constant (.str x) j pos) (tC (.str x))
  | int {v : Expr} {tv : TE} {pos : Pos} (h : PE X v tv) : FPart X (.FormattedValue v (-1) none pos) (fun σ H Q => tv σ H fun y H1 => ∃ i, y = .int i ∧ i.natAbs.log2 < 1920 ∧ Q (.str (toString i)) H1)
theorem FPart.pe {e : Expr} {t : TE} (h : FPart X e t) : PE X e t := by
  cases h with
  | lit => exact pe_str
  | int h =>
    intro pins s σ H Q I q
    refine FormattedValue_plain (thn (h pins s σ H _ I q) fun u s1 ⟨y, H1, I1, r, i, e, l, q⟩ => ?_)
    subst e
    obtain ⟨t, rfl⟩ := r
    exact formatField_int_small l ⟨.str (toString i), H1, I1.tok _, ⟨_, rfl⟩, q⟩
/-- the joined parts, from the left -/
inductive FParts (X : Cx) : List Expr → (Str → TE) → Prop where
  | nil : FParts X [] (fun out _ H Q => out.length ≤ sizeLine ∧ Q (.str out) H)
  | cons {e : Expr} {es : List Expr} {t : TE} {r : Str → TE} (h : FPart X e t) (hr : FParts X es r) : FParts X (e :: es) (fun out σ H Q => t σ H fun x H1 => ∃ y, x = .str y ∧ (out ++ y).length ≤ sizeLine ∧ r (out ++ y) σ H1 Q)
theorem FParts.run {es : List Expr} {t : Str → TE} (h : FParts X es t) : ∀ (out : Str) (pins : List (Addr × Obj)) (s : Shared) (σ : St) (H : Hp) (Q : VK), Inv X pins σ H s → t out σ H Q →
    wpAny (model X.prog X.w) X.A (joinParts out (evalEach es X.env)) (EP X pins σ Q) X.xe s := by
  induction h with
  | nil =>
    intro out pins s σ H Q I q
    exact joinParts_nil ⟨.str out, H, I.tok _, ⟨_, rfl⟩, q.2⟩ q.1
  | @cons e es t r h hr ih =>
    intro out pins s σ H Q I q
    show wpAny _ _ (joinParts out (eval e X.env :: evalEach es X.env)) _ _ _
    refine joinParts_cons (thn (h.pe pins s σ H _ I q) fun u s1 ⟨x, H1, I1, rx, y, ey, z, q⟩ => ?_)
    subst ey
    obtain ⟨t', rfl⟩ := rx
    exact ⟨z, ih _ pins s1 σ H1 Q I1 q⟩
theorem pe_fstr {e1 e2 : Expr} {es : List Expr} {t : Str → TE} {pos : Pos} (h : FParts X (e1 :: e2 :: es) t) : PE X (.JoinedStr (e1 :: e2 :: es) pos) (t Str.empty) := by
  intro pins s σ H Q I q
  exact JoinedStr_many (h.run _ pins s σ H Q I q)
end
end L2
set_option Elab.async false
set_option linter.all false
set_option maxRecDepth 100000
set_option maxHeartbeats 4000000
namespace L2
open PySem PySem.Spec PyProof.Rows PySem.W
/-! ### a def that is called within an except suite -/
structure RoomH (k : Nat) (A : Around) : Prop where
  dp : A.depth + 3 * k + 5 < recursionLimit
  un : A.units + 16 * k + 200 < cLine
theorem Room.h {k : Nat} {A : Around} (r : Room k A) : RoomH k A := ⟨r.dp, r.un⟩
theorem Room.hm {k : Nat} {A : Around} (r : Room k A) (h : Option Value) : RoomH k (A.mark h) := ⟨r.dp, r.un⟩
theorem RoomH.mono {j k : Nat} {A : Around} (r : RoomH k A) (h : j ≤ k) : RoomH j A := ⟨by have := r.dp; omega, by have := r.un; omega⟩
theorem RoomH.deeper {k : Nat} {A : Around} (r : RoomH (k + 1) A) (env : Env) : RoomH k (A.deeper env) :=
  ⟨by have := r.dp; show A.depth + 1 + 3 * k + 5 < _; omega, by have := r.un; show A.units + 3 + 16 * k + 200 < _; omega⟩
theorem RoomH.depth {k : Nat} {A : Around} (r : RoomH k A) : A.depth < recursionLimit := by have := r.dp; omega
def HdH (A : Around) (H : Hp) : Prop := A.handled = none ∨ ∃ x o u vs, A.handled = some (.ref x) ∧ H x = some (.frz o u) ∧ o.data = .fields vs ∧ vs[2]? = some .none
structure FnOkH (P : Program) (w : World) (K : Frag) (mg : Str → Option Value) (base : Heap) (k : Nat) (f : Addr) (fd : FuncData) (ps : List Str) (sp : Sp) : Prop where
  len : ∀ vs H Q E, sp vs H Q E → vs.length = ps.length
  run : ∀ (A : Around) (outer : List Env) (s : Shared) (H : Hp) (args : Args) (us : List Value) (vs : List V) (Q : VK), RoomH k A → Env0 P w K mg base A outer s H → HdH A H → BindsTo s fd args (ps.zip us) → Vals vs us → sp vs H Q E0 →
    codeAny (model P w) A (.call (.ref f) args) (CR CX0 outer P w H s Q E0) s
abbrev cxOfH (P : Program) (w : World) (K : Frag) (mg : Str → Option Value) (base : Heap) (N : List Str) (qual : Str) (scope : Scope) (f : Addr) (cd : Value) (A : Around) (outer : List Env) (s : Shared) (H : Hp) : Cx :=
  { cxOf CX0 P w K mg base N qual scope f cd A outer s H E0 with calm := false, xe := fun _ _ => False }
/-- the same state, nothing said of what is handled -/
theorem Inv.loud {X : Cx} {pins : List (Addr × Obj)} {σ : St} {H : Hp} {s : Shared} {A : Around} {E : Value → Shared → Prop} (hA : A.frames = X.A.frames) (I : Inv X pins σ H s) : Inv { X with A := A, calm := false, xe := E } pins σ H s :=
  ⟨⟨I.ok.mod, I.ok.kind, I.ok.glob, I.ok.blt, I.ok.above, I.ok.inj, I.ok.has, I.ok.cab, (fun z => nomatch z), hA.trans I.ok.frames, I.ok.stk, I.ok.exf, I.ok.bs, I.ok.bsz, I.ok.noex, I.ok.exfs, I.ok.funs, I.ok.frf⟩,
    I.os, I.bare, I.base, I.loc, I.cell, I.free, I.freeC, I.pin, I.hok, I.len⟩
/-- A without what is handled -/
abbrev quiet (A : Around) : Around := { A with handled := none }
theorem Env0.quiet {P : Program} {w : World} {K : Frag} {mg : Str → Option Value} {base : Heap} {A : Around} {outer : List Env} {s : Shared} {H : Hp} (e : Env0 P w K mg base A outer s H) : Env0 P w K mg base (quiet A) outer s H :=
  ⟨e.frames, e.mod, e.bs, e.bsz, e.funs, e.frf, e.hok, e.bare⟩
section
variable {P : Program} {w : World} {K : Frag} {mg : Str → Option Value} {base : Heap}
theorem Fun.okH {x qual : Str} {st : Stmt} {f : Addr} {fd : FuncData} {N ps : List Str} {k : Nat} {sp : Sp} (F : Fun K x qual st f fd) (S : FnScope N ps (defScope st)) (len : ∀ vs H Q E, sp vs H Q E → vs.length = ps.length)
    (hbody : ∀ (cdv : Value) (A : Around) (outer : List Env) (s : Shared) (H : Hp) (vs : List V) (Q : VK), RoomH k (A.deeper (envOfC qual (defScope st) s.heap.objs.size f cdv)) → HdOk (cxOfH P w K mg base N qual (defScope st) f cdv A outer s H) → sp vs H Q E0 →
      ∃ t, PSs (cxOfH P w K mg base N qual (defScope st) f cdv A outer s H) (defBody st) t ∧ t { nx := fun _ H' => Q .non H', rt := Q } (start N vs) H) : FnOkH P w K mg base (k + 1) f fd ps sp := by
  obtain ⟨oc, od, kV, doc, pm, an, cdv, ct, osl, rfl, lk, hcd⟩ := F.ex
  refine ⟨len, fun A outer s H args us vs Q hr e0 hdh hb r hsp => ?_⟩
  have hl := len _ _ _ _ hsp
  have KX : K.In s.heap := e0.mod.kin.keeps fun b o e => (e0.bs b o e).1
  have lim : s.heap.NoLimit := e0.mod.nolimit.keeps fun b o e => (e0.bs b o e).1
  have hkind : ∀ y ∈ ps.zip us, (defScope st).names.lookup y.1 = some .local ∨ ((defScope st).names.lookup y.1 = some .cell ∧ ((cellsFrom (s.heap.objs.size + 1) (defScope st).names []).lookup y.1).isSome = true) := fun ⟨n, v⟩ hy => by
    rcases S.par n (List.of_mem_zip hy).1 with q | q
    · exact .inl q
    · exact .inr ⟨q, PySem.W.cellsFrom_some _ _ _ (.inl q)⟩
  refine codeAny_call_function hr.depth (KX _ _ lk) rfl S.co S.gen rfl (PySem.W.codeRec_of KX hcd) (hb _ _ _ _ ?_)
  refine wpAny_newFunctionEnv_cells S.kind hkind fun env he s1 x => ?_
  subst he
  refine ⟨lim.keeps x.toInCall.keep, codeAny_func ?_⟩
  obtain ⟨t, ht, hq⟩ := hbody cdv A outer s H vs Q (hr.deeper _) hdh hsp
  have I0 : Inv (cxOf CX0 P w K mg base N qual (defScope st) f cdv (L2.quiet A) outer s H E0) [] (start N vs) H s1 := inv_start S rfl e0.quiet hl r x
  have I : Inv (cxOfH P w K mg base N qual (defScope st) f cdv A outer s H) [] (start N vs) H s1 :=
    Inv.loud (X := cxOf CX0 P w K mg base N qual (defScope st) f cdv (L2.quiet A) outer s H E0) (A := A.deeper (envOfC qual (defScope st) s.heap.objs.size f cdv)) (E := fun _ _ => False) rfl I0
  refine wpAny_mono (ht [] s1 (start N vs) H _ I hq) (fun fl s' hs => ?_) fun e s' hs => hs.elim
  have fin : ∀ {σ' : St} {H' : Hp} {v : V} {u : Value}, Inv (cxOfH P w K mg base N qual (defScope st) f cdv A outer s H) [] σ' H' s' → RelV v u → Q v H' → CE outer P w H s Q u s' :=
    fun {σ' H' v u} J rv q => ⟨v, H', J.os, J.bare, J.base, J.hok, rv, q⟩
  cases fl with
  | ret u =>
    obtain ⟨v, σ', H', J, rv, q⟩ := hs
    exact fin J rv q
  | next =>
    obtain ⟨σ', H', J, q⟩ := hs
    exact fin (v := V.non) (u := Value.none) J rfl q
  | brk =>
    obtain ⟨_, _, _, q⟩ := hs
    exact False.elim q
  | cont =>
    obtain ⟨_, _, _, q⟩ := hs
    exact False.elim q
/-- it may be called elsewhere too -/
theorem FnOkH.calm {k : Nat} {f : Addr} {fd : FuncData} {ps : List Str} {sp : Sp} (F : FnOkH P w K mg base k f fd ps sp) (h : ∀ vs H Q E, sp vs H Q E → sp vs H Q E0) : FnOk P w K mg base CX0 k f fd ps sp := by
  refine ⟨F.len, fun A outer s H args us vs Q E hr e0 hb r hsp => codeAny_mono (F.run A outer s H args us vs Q hr.h e0 (.inl hr.hd) hb r (h _ _ _ _ hsp)) fun r s' q => ?_⟩
  cases r with
  | error e => exact q
  | ok fl => cases fl <;> exact q
end
section
variable {X : Cx} {k : Nat} {f : Addr} {fd : FuncData} {ps : List Str} {sp : Sp} {x : Str} {p pos : Pos} {e : Expr} {es : List Expr} {t : TA}
/-- f(..) within an except suite -/
def tCallH (A : Around) (sp : Sp) (t : TA) : TE := fun σ H Q => t σ H fun vs H1 => HdH A H1 ∧ sp vs H1 Q E0
theorem pe_callH (F : FnOkH X.prog X.w X.K X.mg X.base k f fd ps sp) (hr : RoomH k X.A) (hg : Gl X x) (hm : X.mg x = some (.ref f)) (hk : PySem.W.keepIn X.K (.ref f) = true) (hb : Binds X.K fd ps [])
    (ha : PA X (e :: es) t) (hdb : (x == ("__debug__" : Str)) = false := by decide) (he : starEach (e :: es) X.env = (false, eval e X.env) :: starEach es X.env := by rfl)
    (hpl : (backTo pos (starEach es X.env)).any (·.1) = false := by rfl) : PE X (.Call (.Name x p) (e :: es) [] pos) (tCallH X.A sp t) := by
  intro pins s σ H Q I h
  refine wpAny_Call_Name_kw (ld_glob I hg hm ?_ hdb)
  refine PySem.W.callWith_K (h₀ := X.base) I.ok.mod.kin hk (thn (ha pos pins s σ H _ I h) fun us s1 ⟨vs, H1, I1, r, hd, q⟩ => ⟨I1.kIn, ?_⟩) he hpl
  have hl : (us ++ []).length = ps.length := by rw [List.append_nil, ← r.length]; exact F.len _ _ _ _ q
  have hb' := hb s1 us I1.kIn hl
  rw [List.append_nil] at hb'
  refine wpAny_call (codeAny_mono (F.run X.A X.stack s1 H1 ⟨us, []⟩ us vs Q hr I1.env0 hd hb' r q) fun r s' hq => ?_)
  cases r with
  | error e => exact False.elim hq
  | ok fl =>
    cases fl with
    | ret u => exact I1.after hq
    | next => exact False.elim hq
    | brk => exact False.elim hq
    | cont => exact False.elim hq
end
end L2
set_option Elab.async false
set_option linter.all false
set_option maxRecDepth 100000
set_option maxHeartbeats 4000000
namespace L2
open PySem PySem.Spec PyProof.Rows PySem.W
/-! ### {} -/
theorem Inv.big {X : Cx} {pins : List (Addr × Obj)} {σ : St} {H : Hp} {s : Shared} (I : Inv X pins σ H s) : sysModules < s.heap.objs.size := by
  have h : mainGlobals < s.heap.objs.size := (I.mod.glob.keeps I.bk).lt
  exact Nat.lt_trans (by decide) h
theorem dk_empty {P : Program} {w : World} {H : Hp} (h : Heap) (hb : sysModules < h.objs.size) : ObjOk P w H (h.push { cls := .type "dict", data := .dict #[] }) h.objs.size (.dK []) :=
  ⟨Nat.zero_le _, beq_eq_false_iff_ne.mpr (Ne.symm (Nat.ne_of_lt hb)), [], .nil, Heap.DictOf.new h⟩
def tDNewK : TE := fun _ H Q => ∀ p, H p = none → Q (.ref p) (upd H p (.dK []))
theorem pe_dnewK {X : Cx} {pos : Pos} : PE X (.Dict [] [] pos) tDNewK := fun pins s σ H Q I h =>
  wpAny_Dict_empty ⟨.ref s.heap.objs.size, _, I.laid (a := s.heap.objs.size) (o := .dK []) (t' := s.toks) (fun _ _ q => Heap.get?_push_of_some _ q) (Nat.le_refl _) (dk_empty s.heap I.big), rfl, h _ (I.hok.fresh (Nat.le_refl _))⟩
theorem Catches.mono {X : Cx} {E E' : EK} (h : Catches X E) (k : ∀ C d σ H, E' C d σ H → E C d σ H) : Catches X E' := fun pins σ H s a t C dd I F q => h pins σ H s a t C dd I F (k _ _ _ _ q)
/-! ### a def of the text -/
structure Def (K : Frag) (mg : Str → Option Value) (x : Str) (ps : List Str) (st : Stmt) (f : Addr) (fd : FuncData) : Prop where
  F : Fun K x x st f fd
  g : mg x = some (.ref f)
  b : Binds K fd ps []
theorem def_mk {K : Frag} {h : Heap} {mg : Str → Option Value} {x : Str} {ps : List Str} {st : Stmt} {f : Addr} {oc : Value} {od an : Option Addr} {osl : Array (Option Value)} {kV doc pm cdv ct : Value} (X : K.In h) (G : h.Ns mainGlobals mg)
    (a : nsIn K mainGlobals x = some (some (.ref f))) (l : K.lookup f = some ⟨oc, od, .func (fnOf x x (defArgs st) (defBody st) (defScope st) .none kV doc pm an cdv ct), osl⟩) (c : codeIn K cdv x = true) (k : keepIn K (.ref f) = true)
    (hb : ∀ (kV doc pm : Value) (an : Option Addr) (cdv ct : Value) (us : List Value), us.length = ps.length → bindArgs (fnOf x x (defArgs st) (defBody st) (defScope st) .none kV doc pm an cdv ct) ⟨us, []⟩ = pure (ps.zip us)) :
    Def K mg x ps st f (fnOf x x (defArgs st) (defBody st) (defScope st) .none kV doc pm an cdv ct) :=
  ⟨fun_mk (st := st) l c k, mg_of X G a, (fun_mk (st := st) l c k).binds hb⟩
theorem iteDF {c A B : Prop} [Decidable c] (h : ¬ c) (b : B) : if decide c = true then A else B := by rw [decide_eq_false h]; exact iteF b
theorem iteDT {c A B : Prop} [Decidable c] (h : c) (a : A) : if decide c = true then A else B := by rw [decide_eq_true h]; exact iteT a
theorem iteD {c A B : Prop} [Decidable c] (a : c → A) (b : ¬ c → B) : if decide c = true then A else B := by
  by_cases h : c
  · exact iteDT h (a h)
  · exact iteDF h (b h)
/-! ### ways that meet again -/
def tJoin (t : TS) : TS := fun D σ H => ∃ J : St → Hp → Prop, t { D with nx := J } σ H ∧ ∀ σ' H', J σ' H' → D.nx σ' H'
theorem ps_join {X : Cx} {st : Stmt} {t : TS} (h : PS X st t) : PS X st (tJoin t) := by
  intro pins s σ H D I q
  obtain ⟨J, q, k⟩ := q
  refine thn (h pins s σ H _ I q) fun f s' z => ?_
  cases f with
  | next => obtain ⟨σ', H', I', y⟩ := z; exact ⟨σ', H', I', k _ _ y⟩
  | brk => exact z
  | cont => exact z
  | ret u => exact z
theorem ixv {xs : List V} {i : Int} (h0 : 0 ≤ i) (h1 : i < xs.length) : ∃ v, v ∈ xs ∧ atI xs i = some v := by
  obtain ⟨j, rfl⟩ := Int.eq_ofNat_of_zero_le h0
  have hj : j < xs.length := by omega
  exact ⟨xs[j], List.getElem_mem hj, atI_nat (by simp [hj])⟩
theorem Same.upd {H : Hp} {p : Addr} {o : HO} (h : H p = none) : Same H (L2.upd H p o) := fun b u e => by rw [upd_ne (ne_of_none e h)]; exact e
theorem line1000 {n : Nat} (h : n ≤ 1000) : n ≤ sizeLine := Nat.le_of_lt (small1000 h)
section
variable {X : Cx} {k j : Nat} {f : Addr} {fd : FuncData} {ps : List Str} {sp : Sp} {EH : EK} {x : Str} {st : Stmt} {p pos : Pos} {e : Expr} {es : List Expr} {t : TA}
/-- f(..) -/
theorem pcall (D : Def X.K X.mg x ps st f fd) (F : FnOk X.prog X.w X.K X.mg X.base (CX1 X.prog X.w) j f fd ps sp) (hr : Room k X.A) (hx : Catches X EH) (ha : PA X (e :: es) t) (hj : j ≤ k := by decide) (hg : Gl X x := by rfl) (hex : X.ex = [] := by rfl) (hdb : (x == ("__debug__" : Str)) = false := by decide)
    (he : starEach (e :: es) X.env = (false, eval e X.env) :: starEach es X.env := by rfl) (hpl : (backTo pos (starEach es X.env)).any (·.1) = false := by rfl) : PE X (.Call (.Name x p) (e :: es) [] pos) (tCallE sp [] EH t) :=
  pe_callE (F.mono hj) hr hg D.g D.F.kp D.b .nil hx ha hex hdb he hpl
theorem pcall0 (D : Def X.K X.mg x ps st f fd) (F : FnOk X.prog X.w X.K X.mg X.base (CX1 X.prog X.w) j f fd ps sp) (hr : Room k X.A) (hx : Catches X EH) (hj : j ≤ k := by decide) (hg : Gl X x := by rfl) (hex : X.ex = [] := by rfl) (hdb : (x == ("__debug__" : Str)) = false := by decide) :
    PE X (.Call (.Name x p) [] [] pos) (tCallE sp [] EH tNil) :=
  pe_call0E (F.mono hj) hr hg D.g D.F.kp D.b .nil hx hex hdb
/-- a type of Python's own, as a value -/
theorem pty {n : Str} {T : String} (hm : X.mg n = none) (hv : bootBuiltins n = some (.type T)) (hg : Gl X n := by rfl) (hn : n ≠ "__name__" := by decide) (hdb : (n == ("__debug__" : Str)) = false := by decide) : PE X (.Name n pos) (tC (.ty T)) := pe_bltn hg hm hv rfl hn hdb
/-- a class of the text, as a value -/
theorem pcls {n : Str} {C : Addr} (hm : X.mg n = some (.ref C)) (hg : Gl X n := by rfl) (hdb : (n == ("__debug__" : Str)) = false := by decide) : PE X (.Name n pos) (tC (.ref C)) := pe_glob hg hm rfl hdb
/-- isinstance(a, b) -/
theorem pisi {a b : Expr} {ta tb : TE} (hm : X.mg "isinstance" = none) (ha : PE X a ta) (hb : PE X b tb) (hg : Gl X "isinstance" := by rfl)
    (h1 : starEach [a, b] X.env = (false, eval a X.env) :: starEach [b] X.env := by rfl) (h2 : starEach [b] X.env = (false, eval b X.env) :: starEach [] X.env := by rfl) (h3 : (backTo pos (starEach [b] X.env)).any (·.1) = false := by rfl) :
    PE X (.Call (.Name "isinstance" p) [a, b] [] pos) (tCB (fun xs H Q => ∃ x c cv t b, xs = [x, c] ∧ clsV c = some cv ∧ TyE X.K H x t ∧ kitOne X.K t cv = some b ∧ Q (.bl b) H) (tCons ta (tCons tb tNil))) :=
  pe_callB call_isinst hg hm boot_isinstance (pa_cons ha (pa_cons hb pa_nil h2) h1) (he := h1) (hpl := h3)
/-- within an except suite -/
theorem pcallH (D : Def X.K X.mg x ps st f fd) (F : FnOkH X.prog X.w X.K X.mg X.base j f fd ps sp) (hr : RoomH k X.A) (ha : PA X (e :: es) t) (hj : j ≤ k := by decide) (hg : Gl X x := by rfl) (hdb : (x == ("__debug__" : Str)) = false := by decide)
    (he : starEach (e :: es) X.env = (false, eval e X.env) :: starEach es X.env := by rfl) (hpl : (backTo pos (starEach es X.env)).any (·.1) = false := by rfl) : PE X (.Call (.Name x p) (e :: es) [] pos) (tCallH X.A sp t) :=
  pe_callH ⟨F.len, fun A outer s H args us vs Q hr => F.run A outer s H args us vs Q (hr.mono hj)⟩ hr hg D.g D.F.kp D.b ha hdb he hpl
end
end L2
set_option Elab.async false
set_option linter.all false
set_option maxRecDepth 100000
set_option maxHeartbeats 4000000
namespace L2
open PySem PySem.Spec PyProof.Rows PySem.W
/-! ### readings that name no inner state -/
section
variable {X : Cx} {k j : Nat} {f : Addr} {fd : FuncData} {ps : List Str} {sp : Sp} {x : Str} {st : Stmt} {p pos : Pos} {e : Expr} {es : List Expr} {t : TA}
/-- f(..) within an except suite that handles a -/
def tCallHA (a : Addr) (sp : Sp) (t : TA) : TE := fun σ H Q => t σ H fun vs H1 => (∃ o u fs, H1 a = some (.frz o u) ∧ o.data = .fields fs ∧ fs[2]? = some .none) ∧ sp vs H1 Q E0
theorem pcallHA {a : Addr} (hA : X.A.handled = some (.ref a)) (D : Def X.K X.mg x ps st f fd) (F : FnOkH X.prog X.w X.K X.mg X.base j f fd ps sp) (hr : RoomH k X.A) (ha : PA X (e :: es) t) (hj : j ≤ k := by decide) (hg : Gl X x := by rfl) (hdb : (x == ("__debug__" : Str)) = false := by decide)
    (he : starEach (e :: es) X.env = (false, eval e X.env) :: starEach es X.env := by rfl) (hpl : (backTo pos (starEach es X.env)).any (·.1) = false := by rfl) : PE X (.Call (.Name x p) (e :: es) [] pos) (tCallHA a sp t) := by
  have z : tCallHA a sp t = tCallH X.A sp t := by
    funext σ H Q
    unfold tCallHA tCallH
    congr 1
    funext vs H1
    refine propext ⟨fun ⟨⟨o, u, fs, h1, h2, h3⟩, q⟩ => ⟨.inr ⟨a, o, u, fs, hA, h1, h2, h3⟩, q⟩, fun ⟨h, q⟩ => ⟨?_, q⟩⟩
    rcases h with h | ⟨x, o, u, fs, h0, h1, h2, h3⟩
    · rw [hA] at h; cases h
    · rw [hA] at h0; cases h0; exact ⟨o, u, fs, h1, h2, h3⟩
  rw [z]
  exact pcallH D F hr ha hj hg hdb he hpl
end
end L2
set_option Elab.async false
set_option linter.all false
set_option maxRecDepth 100000
set_option maxHeartbeats 4000000
namespace L2
open PySem PySem.Spec PyProof.Rows PySem.W
/-! ### C() of a class without an __init__ of its own -/
structure Mk0 (K : Frag) (C : Addr) : Prop where
  makes : makesIn K C = true
  init : findIn K (.ref C) "__init__" = some (some (.builtin "object.__init__"))
  kp : keepIn K (.ref C) = true
section
variable {X : Cx} {k j : Nat} {f C : Addr} {fd : FuncData} {ps : List Str} {sp : Sp} {dvs : List V} {ds : List Value} {EH : EK} {x m : Str} {p pos apos : Pos} {e o : Expr} {es : List Expr} {ta : TE} {t : TA}
def tNew (C : Addr) : TE := fun _ H Q => ∀ x dx, H x = none → H dx = none → dx ≠ x → Q (.ref x) (upd (upd H dx (.own x)) x (.ins C dx []))
theorem run_new {pins : List (Addr × Obj)} {σ : St} {H : Hp} {s : Shared} {Q : VK} (M : Mk0 X.K C) (I : Inv X pins σ H s) (h : tNew C σ H Q) : wpAny (model X.prog X.w) X.A (call (.ref C) []) (EP X pins σ Q) X.xe s := by
  have hq := h (s.heap.objs.size + 1) s.heap.objs.size (I.hok.fresh (Nat.le_succ _)) (I.hok.fresh (Nat.le_refl _)) (Nat.ne_of_lt (Nat.lt_succ_self _))
  have I2 := Inv.made (C := C) I
  have Y := makes_of (M := model X.prog X.w) I.kIn M.makes
  refine wpAny_call (make_map0 I.kIn M.makes M.init (fun self => Looks.of_pure (oi_bind self)) ?_)
  have e2 : ((s.heap.push emptyDict).push (instObj C s.heap.objs.size)).get? (s.heap.objs.size + 1) = some (instObj C s.heap.objs.size) := by
    have := Heap.get?_push_size (s.heap.push emptyDict) (o := instObj C s.heap.objs.size) rfl
    rwa [Heap.size_push] at this
  have t1 : Looks (model X.prog X.w) ((s.heap.push emptyDict).push (instObj C s.heap.objs.size)) (typeOf (.ref (s.heap.objs.size + 1))) (.ref C) := (Looks.ld e2).andThen .now
  have t2 : Looks (model X.prog X.w) ((s.heap.push emptyDict).push (instObj C s.heap.objs.size)) (isInstance (.ref (s.heap.objs.size + 1)) (.type "object")) true := t1.andThen (Y.top.keeps fun b o e => Heap.get?_push_of_some _ (Heap.get?_push_of_some _ e))
  refine codeAny_call_builtin oi_plain entry_oi (@check_slot (model X.prog X.w) _ _ _ "object.__init__" "object" "__init__" (.ref (s.heap.objs.size + 1)) [] [] _ oi_kind oi_split t2 (oi_args (.ref (s.heap.objs.size + 1))) ?_)
  rw [oi_run]
  exact wpAny_pure (And.intro rfl ⟨V.ref (s.heap.objs.size + 1), _, I2, rfl, hq⟩)
theorem pe_new (M : Mk0 X.K C) (hg : Gl X x) (hm : X.mg x = some (.ref C)) (hdb : (x == ("__debug__" : Str)) = false := by decide) : PE X (.Call (.Name x p) [] [] pos) (tNew C) := by
  intro pins s σ H Q I h
  refine wpAny_Call_Name_kw (ld_glob I hg hm ?_ hdb)
  exact callWith_K0 I.kIn M.kp (run_new M I h)
/-! ### methods that may raise -/
def tMethE (C : Addr) (m : Str) (sp : Sp) (dvs : List V) (EH : EK) (ta : TE) (t : TA) : TE := fun σ H Q => ta σ H fun x H1 => ∃ a dx fs, x = .ref a ∧ H1 a = some (.ins C dx fs) ∧ fs.lookup m = none ∧
  t σ H1 fun vs H2 => sp (x :: (vs ++ dvs)) H2 Q (fun C d H' => EH C d σ H')
/-- o.m(e, ..) -/
theorem pmeth {pl : Sem Bool} (he : PE X o ta) (c : Cls X.K C) (hm : Meth X.K C m f) (F : FnOk X.prog X.w X.K X.mg X.base (CX1 X.prog X.w) j f fd ps sp) (hr : Room k X.A) (hb : Binds X.K fd ps ds) (hd : Vals dvs ds) (hx : Catches X EH) (ha : PA X (e :: es) t)
    (hj : j ≤ k := by decide) (hex : X.ex = [] := by rfl)
    (hst : starEach (e :: es) X.env = (false, eval e X.env) :: starEach es X.env := by rfl) (hpl : (backTo pos (starEach es X.env)).any (·.1) = false := by rfl)
    (ht : eval (.Call (.Attribute o m apos) (e :: es) [] pos) X.env = (do
      let ov ← eval o X.env
      standAt apos.atName
      let (f, first) ← holding [ov] (getMethod ov m pl)
      callWith pos f first (backTo pos (starEach (e :: es) X.env)) (backToKw pos (keywordEach [] X.env))) := by rfl) :
    PE X (.Call (.Attribute o m apos) (e :: es) [] pos) (tMethE C m sp dvs EH ta t) := by
  intro pins s σ H Q I h
  refine methodCall_KW (pl := pl) (thn (he pins s σ H _ I h) fun u s1 ⟨x, H1, I1, rx, a, dx, fs, ex, ea, l, q⟩ => ?_) ht
  subst ex
  obtain rfl : u = Value.ref a := rx
  refine getmeth_ok I1 ea c hm l ?_
  refine callWith_K (first := [.ref a]) (h₀ := X.base) I.ok.mod.kin hm.kp (thn (ha pos pins s1 σ H1 _ I1 q) fun us s2 ⟨vs, H2, I2, r, q2⟩ => ⟨I2.kIn, ?_⟩) hst hpl
  exact run_fnE (us := .ref a :: us) (vs := .ref a :: vs) (F.mono hj) hr hb hd hx hex I2 (.cons rfl r) q2
/-- o.m() -/
theorem pmeth0 {pl : Sem Bool} (he : PE X o ta) (c : Cls X.K C) (hm : Meth X.K C m f) (F : FnOk X.prog X.w X.K X.mg X.base (CX1 X.prog X.w) j f fd ps sp) (hr : Room k X.A) (hb : Binds X.K fd ps ds) (hd : Vals dvs ds) (hx : Catches X EH)
    (hj : j ≤ k := by decide) (hex : X.ex = [] := by rfl)
    (ht : eval (.Call (.Attribute o m apos) [] [] pos) X.env = (do
      let ov ← eval o X.env
      standAt apos.atName
      let (f, first) ← holding [ov] (getMethod ov m pl)
      callWith pos f first (backTo pos (starEach [] X.env)) (backToKw pos (keywordEach [] X.env))) := by rfl) :
    PE X (.Call (.Attribute o m apos) [] [] pos) (tMethE C m sp dvs EH ta tNil) := by
  intro pins s σ H Q I h
  refine methodCall_KW (pl := pl) (thn (he pins s σ H _ I h) fun u s1 ⟨x, H1, I1, rx, a, dx, fs, ex, ea, l, q⟩ => ?_) ht
  subst ex
  obtain rfl : u = Value.ref a := rx
  refine getmeth_ok I1 ea c hm l ?_
  exact callWith_K0 (first := [.ref a]) I1.kIn hm.kp (run_fnE (us := [.ref a]) (vs := [.ref a]) (F.mono hj) hr hb hd hx hex I1 (.cons rfl .nil) q)
/-! ### makings that may raise -/
def tMakeE (C : Addr) (sp : Sp) (dvs : List V) (EH : EK) (t : TA) : TE := fun σ H Q => t σ H fun vs H1 => ∀ x dx, H1 x = none → H1 dx = none → dx ≠ x →
  sp (.ref x :: (vs ++ dvs)) (upd (upd H1 dx (.own x)) x (.ins C dx [])) (fun v H2 => v = .non ∧ Q (.ref x) H2) (fun C d H' => EH C d σ H')
theorem run_makeE {pins : List (Addr × Obj)} {σ : St} {H : Hp} {s : Shared} {Q : VK} {us : List Value} {vs : List V} (M : Mk X.K C f) (F : FnOk X.prog X.w X.K X.mg X.base (CX1 X.prog X.w) k f fd ps sp) (hr : Room (k + 1) X.A) (hb : Binds X.K fd ps ds) (hd : Vals dvs ds)
    (hx : Catches X EH) (hex : X.ex = []) (I : Inv X pins σ H s) (r : Vals vs us)
    (h : ∀ x dx, H x = none → H dx = none → dx ≠ x → sp (.ref x :: (vs ++ dvs)) (upd (upd H dx (.own x)) x (.ins C dx [])) (fun v H2 => v = .non ∧ Q (.ref x) H2) (fun C d H' => EH C d σ H')) :
    wpAny (model X.prog X.w) X.A (call (.ref C) us) (EP X pins σ Q) X.xe s := by
  have hq := h (s.heap.objs.size + 1) s.heap.objs.size (I.hok.fresh (Nat.le_succ _)) (I.hok.fresh (Nat.le_refl _)) (Nat.ne_of_lt (Nat.lt_succ_self _))
  have I2 := Inv.made (C := C) I
  have r2 : Vals (V.ref (s.heap.objs.size + 1) :: (vs ++ dvs)) (Value.ref (s.heap.objs.size + 1) :: (us ++ ds)) := .cons rfl (r.append hd)
  have hl : (Value.ref (s.heap.objs.size + 1) :: us ++ ds).length = ps.length := by
    have e := r2.length
    rw [F.len _ _ _ _ hq] at e
    exact e.symm
  refine wpAny_call (make_map (f := f) I.kIn M.makes M.init (beq_iff_eq.mp M.fn) (codeAny_mono (F.run _ X.stack _ _ ⟨Value.ref (s.heap.objs.size + 1) :: us, []⟩ (Value.ref (s.heap.objs.size + 1) :: (us ++ ds)) _ _ _ (hr.make C us [])
    (I2.env0.make C us []) (hb _ (Value.ref (s.heap.objs.size + 1) :: us) I2.kIn hl) r2 hq) fun r s' hq' => ?_))
  cases r with
  | error e => exact came hx hex I2 hq'
  | ok fl =>
    cases fl with
    | ret u =>
      obtain ⟨v, H', I3, rv, ev, q3⟩ := I2.after hq'
      subst ev
      exact ⟨rv, ⟨V.ref (s.heap.objs.size + 1), H', I3, rfl, q3⟩⟩
    | next => exact False.elim hq'
    | brk => exact False.elim hq'
    | cont => exact False.elim hq'
/-- C() -/
theorem pmake0 (M : Mk X.K C f) (F : FnOk X.prog X.w X.K X.mg X.base (CX1 X.prog X.w) j f fd ps sp) (hr : Room k X.A) (hm : X.mg x = some (.ref C)) (hb : Binds X.K fd ps ds) (hd : Vals dvs ds) (hx : Catches X EH)
    (hj : j + 1 ≤ k := by decide) (hg : Gl X x := by rfl) (hex : X.ex = [] := by rfl) (hdb : (x == ("__debug__" : Str)) = false := by decide) : PE X (.Call (.Name x p) [] [] pos) (tMakeE C sp dvs EH tNil) := by
  intro pins s σ H Q I h
  refine wpAny_Call_Name_kw (ld_glob I hg hm ?_ hdb)
  exact callWith_K0 I.kIn M.kp (run_makeE (us := []) M F (hr.mono hj) hb hd hx hex I .nil h)
end
/-! ### texts -/
theorem notLong {n : Nat} (h : n ≤ sizeLine) : Builtin.Str.tooLong n = false := by
  unfold Builtin.Str.tooLong
  exact decide_eq_false (by omega)
section
variable {X : Cx}
def rUpper : V → List V → Hp → VK → Prop := fun x vs H Q => ∃ z, x = .str z ∧ vs = [] ∧ (Txt.upper z).length ≤ sizeLine ∧ Q (.str (Txt.upper z)) H
theorem mt_upper : MtR X "str.upper" rUpper := by
  intro pins s σ H x vs v us Q I rx rv h
  obtain ⟨z, rfl, rfl, hz, q⟩ := h
  obtain ⟨t, rfl⟩ := (show ∃ t, v = Value.str z t from rx)
  rw [rv.zero]
  exact SC.upper (notLong hz) ⟨.str _, H, I.tok _, ⟨_, rfl⟩, q⟩
/-- the texts of a list -/
theorem strs_of : ∀ {zs : List Str} {us : List Value}, Vals (zs.map V.str) us → ∃ l : List (Str × Tok), us = strValues l ∧ l.map (·.1) = zs
  | [], _, r => by cases r; exact ⟨[], rfl, rfl⟩
  | z :: zs, _, r => by
    cases r with
    | cons h t =>
      obtain ⟨l, rfl, e⟩ := strs_of t
      obtain ⟨k, rfl⟩ := (show ∃ k, _ = Value.str z k from h)
      exact ⟨(z, k) :: l, rfl, by rw [List.map_cons, e]⟩
def rJoin (K : Frag) : V → List V → Hp → VK → Prop := fun x vs H Q => ∃ z l zs, x = .str z ∧ vs = [.ref l] ∧ SqL K H l (zs.map V.str) ∧ JoinOk z zs = true ∧ Q (.str (Txt.join z zs)) H
theorem mt_join : MtR X "str.join" (rJoin X.K) := by
  intro pins s σ H x vs v us Q I rx rv h
  obtain ⟨z, l, zs, rfl, rfl, hl, ok, q⟩ := h
  obtain ⟨t, rfl⟩ := (show ∃ t, v = Value.str z t from rx)
  obtain ⟨u, rfl, ru⟩ := rv.one
  cases ru
  obtain ⟨its, r, ht, hz⟩ := I.list hl
  obtain ⟨ls, rfl, e⟩ := strs_of r
  exact SC.join ht.isList e ok fun t' k => ⟨.str _, H, I.tok _, ⟨_, rfl⟩, q⟩
/-- text[lo:hi] -/
theorem part_of {v : Value} {o : Option Int} (h : IsPart v o) : ∃ p : Option (Int × Tok), v = partValue p ∧ p.map (·.1) = o := by
  cases h with
  | none => exact ⟨none, rfl, rfl⟩
  | int i t => exact ⟨some (i, t), rfl, rfl⟩
def cutS (x : Str) (lo hi : Option Int) : Str := if ((Builtin.Str.strSliceIndices lo hi 1 x.length).length == x.length) = true then x else ⟨((Builtin.Str.strSliceIndices lo hi 1 x.length).filterMap (x.cps[·]?)).toArray⟩
def rSlS : V → Option Int → Option Int → Hp → VK → Prop := fun x lo hi H Q => ∃ z, x = .str z ∧ (cutS z lo hi).length ≤ sizeLine ∧ Q (.str (cutS z lo hi)) H
theorem sl_str : SlR X rSlS := by
  intro pins s σ H x v vl vu lo hi sl Q I rx hs pl pu h
  obtain ⟨z, rfl, hz, q⟩ := h
  obtain ⟨t, rfl⟩ := (show ∃ t, v = Value.str z t from rx)
  obtain ⟨l, rfl, rfl⟩ := part_of pl
  obtain ⟨u, rfl, rfl⟩ := part_of pu
  refine ⟨"str", _, F.slot_str_getitem.lookup, typeIs_str _ _ _, wpAny_getItem_str_slice (l := l) (u := u) (st := none) hs rfl ?_⟩
  exact post_val_or_str ⟨hz, fun t' k => ⟨.str _, H, I.tok _, ⟨_, rfl⟩, q⟩⟩
/-! ### xs += ys -/
def ipCat : TIp := fun x y H Q => ∃ l b xs zs, x = .ref l ∧ y = .ref b ∧ H l = some (.lst xs) ∧ H b = some (.lst zs) ∧ xs.length + zs.length ≤ sizeLine ∧ Q (.ref l) (upd H l (.lst (xs ++ zs)))
theorem inplace_list {M : Model} {A : Around} {E : Value → Shared → Prop} {s : Shared} {a b : Value} {Q : Value → Shared → Prop} (ha : s.TypeIs a "list") (hb : s.TypeIs b "list")
    (hc : wpAny M A (call (.builtin "list.__iadd__") [a, b]) Q E s) : wpAny M A (inplaceOp .Add a b) Q E s := by
  unfold inplaceOp
  refine wpAny_holding ?_
  have hfi : fillsInplaceSlot (.type "list") "add" (Operator.Add == .Add) = pure false := by
    unfold fillsInplaceSlot
    show (typeLookup (.type "list") (dunderI "add") >>= fun fi => pure (fi.isSome && !isSeqSlot fi)) = pure false
    rw [F.slot_list_iadd.lookup]; rfl
  have hsi : seqSlot? (.type "list") (dunderI "add") = pure (some (.builtin "list.__iadd__")) := by
    unfold seqSlot?
    rw [F.slot_list_iadd.lookup]; rfl
  refine wpAny_bind (wpAny_typeOf ha (wpAny_bind (wpAny_of_eq hfi ?_)))
  show wpAny M A (if false = true then _ else _) Q E s
  rw [if_neg Bool.false_ne_true]
  refine wpAny_bind (wpAny_binaryOp1_none (nm := "add") ha hb noFill_list_add ?_)
  refine wpAny_bind (wpAny_of_eq hsi ?_)
  exact wpAny_bind (wpAny_rule hc)
theorem ip_cat : PIp X .Add ipCat := by
  intro pins s σ H x y v u Q I rx ry h
  obtain ⟨l, b, xs, zs, rfl, rfl, hH, hB, hz, q⟩ := h
  cases rx
  cases ry
  obtain ⟨z, its, n, r, hl, e⟩ := I.lstM hH
  obtain ⟨z2, its2, n2, r2, hl2, e2⟩ := I.lstM hB
  have hsz : its.toArray.size + its2.toArray.size ≤ sizeLine := by rw [List.size_toArray, List.size_toArray]; omega
  have hlong : ¬ (!its.toArray.isEmpty && Builtin.List.listTooLong (its.toArray.size + its2.toArray.size)) = true := by
    rw [notLongL hsz, Bool.and_false]
    exact Bool.false_ne_true
  refine inplace_list ⟨_, e, rfl⟩ ⟨_, e2, rfl⟩ ?_
  refine call_meets F.slot_list_iadd ⟨_, e, rfl⟩ F.entry_list_iadd (F.args_list_iadd_2 _ _)
    (AutoSeq1.list___iadd___list_list_0 l its.toArray n b its2.toArray n2 hlong (by rw [List.size_toArray]; omega) (by omega)) ⟨e, e2, ?_⟩
  refine ⟨.ref l, _, I.lset (its' := its ++ its2) hH e (by simp) (r.append r2) ?_, rfl, q⟩
  rw [List.length_append]
  omega
end
end L2
set_option Elab.async false
set_option linter.all false
set_option maxRecDepth 100000
set_option maxHeartbeats 4000000
namespace L2
open PySem PySem.Spec PyProof.Rows PySem.W
/-! ### a def with defaults -/
structure FunD (K : Frag) (x qual : Str) (st : Stmt) (dV : Value) (f : Addr) (fd : FuncData) : Prop where
  ex : ∃ (oc : Value) (od : Option Addr) (kV doc pm : Value) (an : Option Addr) (cdv ct : Value) (osl : Array (Option Value)),
    fd = fnOf x qual (defArgs st) (defBody st) (defScope st) dV kV doc pm an cdv ct ∧ K.lookup f = some ⟨oc, od, .func fd, osl⟩ ∧ codeIn K cdv qual = true
  kp : keepIn K (.ref f) = true
section
variable {P : Program} {w : World} {K : Frag} {mg : Str → Option Value} {base : Heap}
theorem FunD.okE {x qual : Str} {st : Stmt} {dV : Value} {f : Addr} {fd : FuncData} {N ps : List Str} {k : Nat} {sp : Sp} (F : FunD K x qual st dV f fd) (S : FnScope N ps (defScope st)) (len : ∀ vs H Q E, sp vs H Q E → vs.length = ps.length)
    (hbody : ∀ (X : Cx) (cdv : Value) (A : Around) (outer : List Env) (s : Shared) (H : Hp) (vs : List V) (Q : VK) (E : XK), X = cxOf (CX1 P w) P w K mg base N qual (defScope st) f cdv A outer s H E → Room k X.A → Catches X (fun C dd _ H' => E C dd H') → sp vs H Q E →
      ∃ t, PSs (cxOf (CX1 P w) P w K mg base N qual (defScope st) f cdv A outer s H E) (defBody st) t ∧ t { nx := fun _ H' => Q .non H', rt := Q } (start N vs) H) : FnOk P w K mg base (CX1 P w) (k + 1) f fd ps sp := by
  obtain ⟨oc, od, kV, doc, pm, an, cdv, ct, osl, rfl, lk, hc⟩ := F.ex
  exact fn_of lk hc S len fun A outer s H vs Q E hr h => hbody _ cdv A outer s H vs Q E rfl hr catches_fn h
theorem funD_mk {x qual : Str} {st : Stmt} {dV : Value} {f : Addr} {oc : Value} {od an : Option Addr} {osl : Array (Option Value)} {kV doc pm cdv ct : Value} (l : K.lookup f = some ⟨oc, od, .func (fnOf x qual (defArgs st) (defBody st) (defScope st) dV kV doc pm an cdv ct), osl⟩)
    (c : codeIn K cdv qual = true) (k : keepIn K (.ref f) = true) : FunD K x qual st dV f (fnOf x qual (defArgs st) (defBody st) (defScope st) dV kV doc pm an cdv ct) := ⟨⟨oc, od, kV, doc, pm, an, cdv, ct, osl, rfl, l, c⟩, k⟩
/-- positional arguments, the last ones by the defaults -/
theorem bindsD {fd : FuncData} {ps : List Str} {ds : List Value} {T : Addr} {o : Obj} {items : Array Value} {n : Nat} (hd : fd.defaults = .ref T) (ho : K.lookup T = some o) (hs : o.data = .seq items n)
    (h : ∀ us : List Value, (us ++ ds).length = ps.length → ∃ k, bindArgs fd ⟨us, []⟩ = seqItems? fd.defaults >>= k ∧ k (some items) = pure (ps.zip (us ++ ds))) : Binds K fd ps ds := fun s us X hl => by
  obtain ⟨k, h1, h2⟩ := h us hl
  exact binds_K X hd ho hs h1 h2
end
/-! ### C(.., k = v, ..) -/
section
variable {X : Cx} {k j : Nat} {f C : Addr} {fd : FuncData} {ps ks : List Str} {sp : Sp} {EH : EK} {x m : Str} {p pos apos : Pos} {e o : Expr} {es : List Expr} {kws : List Keyword} {ta : TE} {t tk : TA} {g : List Value → List Value → List Value} {gV : List V → List V → List V}
end
end L2
namespace L2
open PySem PySem.Spec PyProof.Rows PySem.W
/-! ### readings that name no inner context -/
section
variable {X : Cx} {K : Frag} {e : Expr} {f : Str} {pos : Pos} {ta : TE}
theorem ix_listK (h : X.K = K) : IxR X (rIxL K) := by subst h; exact ix_list
theorem op_in_seqK (h : X.K = K) : OpR X (compareOp .In) (rIn K false) := by subst h; exact op_in_seq
end
end L2
set_option Elab.async false
set_option linter.all false
set_option maxRecDepth 100000
set_option maxHeartbeats 4000000
namespace TR
open PySem L2 PySem.W PyProof.Rows
/-- names of Python's own: the text binds none of them -/
structure Own (mg : Str → Option Value) : Prop where
  isi : mg "isinstance" = none
  int_ : mg "int" = none
  bool_ : mg "bool" = none
  str_ : mg "str" = none
  list_ : mg "list" = none
  tuple_ : mg "tuple" = none
  dict_ : mg "dict" = none
  len_ : mg "len" = none
  range_ : mg "range" = none
  min_ : mg "min" = none
  max_ : mg "max" = none
  abs_ : mg "abs" = none
  any_ : mg "any" = none
  all_ : mg "all" = none
  sum_ : mg "sum" = none
  repr_ : mg "repr" = none
  enumerate_ : mg "enumerate" = none
  reversed_ : mg "reversed" = none
  zip_ : mg "zip" = none
  sorted_ : mg "sorted" = none
  divmod_ : mg "divmod" = none
  set_ : mg "set" = none
  ValueError_ : mg "ValueError" = none
/-- kinds of Python's own -/
structure Kit (K : Frag) : Prop where
  int_int : kitOne K (.type "int") (.type "int") = some true
  int_bool : kitOne K (.type "int") (.type "bool") = some false
  int_str : kitOne K (.type "int") (.type "str") = some false
  int_list : kitOne K (.type "int") (.type "list") = some false
  int_tuple : kitOne K (.type "int") (.type "tuple") = some false
  int_dict : kitOne K (.type "int") (.type "dict") = some false
  bool_int : kitOne K (.type "bool") (.type "int") = some true
  bool_bool : kitOne K (.type "bool") (.type "bool") = some true
  bool_str : kitOne K (.type "bool") (.type "str") = some false
  bool_list : kitOne K (.type "bool") (.type "list") = some false
  bool_tuple : kitOne K (.type "bool") (.type "tuple") = some false
  bool_dict : kitOne K (.type "bool") (.type "dict") = some false
  str_int : kitOne K (.type "str") (.type "int") = some false
  str_bool : kitOne K (.type "str") (.type "bool") = some false
  str_str : kitOne K (.type "str") (.type "str") = some true
  str_list : kitOne K (.type "str") (.type "list") = some false
  str_tuple : kitOne K (.type "str") (.type "tuple") = some false
  str_dict : kitOne K (.type "str") (.type "dict") = some false
  list_int : kitOne K (.type "list") (.type "int") = some false
  list_bool : kitOne K (.type "list") (.type "bool") = some false
  list_str : kitOne K (.type "list") (.type "str") = some false
  list_list : kitOne K (.type "list") (.type "list") = some true
  list_tuple : kitOne K (.type "list") (.type "tuple") = some false
  list_dict : kitOne K (.type "list") (.type "dict") = some false
  tuple_int : kitOne K (.type "tuple") (.type "int") = some false
  tuple_bool : kitOne K (.type "tuple") (.type "bool") = some false
  tuple_str : kitOne K (.type "tuple") (.type "str") = some false
  tuple_list : kitOne K (.type "tuple") (.type "list") = some false
  tuple_tuple : kitOne K (.type "tuple") (.type "tuple") = some true
  tuple_dict : kitOne K (.type "tuple") (.type "dict") = some false
  dict_int : kitOne K (.type "dict") (.type "int") = some false
  dict_bool : kitOne K (.type "dict") (.type "bool") = some false
  dict_str : kitOne K (.type "dict") (.type "str") = some false
  dict_list : kitOne K (.type "dict") (.type "list") = some false
  dict_tuple : kitOne K (.type "dict") (.type "tuple") = some false
  dict_dict : kitOne K (.type "dict") (.type "dict") = some true
  NoneType_int : kitOne K (.type "NoneType") (.type "int") = some false
  NoneType_bool : kitOne K (.type "NoneType") (.type "bool") = some false
  NoneType_str : kitOne K (.type "NoneType") (.type "str") = some false
  NoneType_list : kitOne K (.type "NoneType") (.type "list") = some false
  NoneType_tuple : kitOne K (.type "NoneType") (.type "tuple") = some false
  NoneType_dict : kitOne K (.type "NoneType") (.type "dict") = some false
/-- v is of Python's kind t -/
theorem tyInt {K : Frag} {H : Hp} (i : Int) : TyE K H (.int i) (.type "int") := .of (.int i)
theorem tyBl {K : Frag} {H : Hp} (b : Bool) : TyE K H (.bl b) (.type "bool") := .of (.bl b)
theorem tyStr {K : Frag} {H : Hp} (z : Str) : TyE K H (.str z) (.type "str") := .of (.str z)
theorem tyNon {K : Frag} {H : Hp} : TyE K H .non (.type "NoneType") := .of .non
theorem tyLst {K : Frag} {H : Hp} {a : Addr} {xs : List V} (h : H a = some (.lst xs)) : TyE K H (.ref a) (.type "list") := .of (.lst h)
theorem tyTup {K : Frag} {H : Hp} {a : Addr} {xs : List V} (h : H a = some (.tup xs)) : TyE K H (.ref a) (.type "tuple") := .of (.tup h)
theorem tyDic {K : Frag} {H : Hp} {a : Addr} {xs : List (Key × V)} (h : H a = some (.dK xs)) : TyE K H (.ref a) (.type "dict") := .of (.dK h)
theorem TyOf.same {K : Frag} {H H' : Hp} {x : V} {t : Value} (h : TyOf K H x t) (e : Same H H') : TyOf K H' x t := by
  cases h with
  | non => exact .non
  | bl x => exact .bl x
  | int i => exact .int i
  | str x => exact .str x
  | flt x => exact .flt x
  | lst z => exact .lst (e _ _ z)
  | frz z => exact .frz (e _ _ z)
  | tup z => exact .tup (e _ _ z)
  | dK z => exact .dK (e _ _ z)
  | dT z => exact .dT (e _ _ z)
  | ins z a b c d f => exact .ins (e _ _ z) a b c d f
theorem TyE.same {K : Frag} {H H' : Hp} {x : V} {t : Value} (h : TyE K H x t) (e : Same H H') : TyE K H' x t := by
  cases h with
  | of h => exact .of (TyOf.same h e)
  | exc z k => exact .exc (e _ _ z) k
  | excD z d k => exact .excD (e _ _ z) (e _ _ d) k
  | tupK l c => exact .tupK l c
/-- a whole number from lo to hi -/
def GoodV (lo hi : Int) (v : V) : Prop := ∃ i, v = .int i ∧ lo ≤ i ∧ i ≤ hi
/-- no whole number from lo to hi -/
def BadV (K : Frag) (H : Hp) (lo hi : Int) (v : V) : Prop := ∃ t b1 b2, TyE K H v t ∧ kitOne K t (.type "int") = some b1 ∧ kitOne K t (.type "bool") = some b2 ∧ ((b1 && !b2) = false ∨ ∃ i, v = .int i ∧ (i < lo ∨ hi < i))
theorem BadV.same {K : Frag} {H H' : Hp} {lo hi : Int} {v : V} (h : BadV K H lo hi v) (e : Same H H') : BadV K H' lo hi v := by
  obtain ⟨t, b1, b2, ty, r⟩ := h
  exact ⟨t, b1, b2, TyE.same ty e, r⟩
section
variable {K : Frag} {H : Hp} {lo hi : Int}
end
/-- H' has all of H, but perhaps p -/
def Exc (p : Addr) (H H' : Hp) : Prop := ∀ b o, H b = some o → b ≠ p → H' b = some o
theorem Exc.refl (p : Addr) (H : Hp) : Exc p H H := fun _ _ h _ => h
theorem Exc.trans {p : Addr} {H H1 H2 : Hp} (a : Exc p H H1) (b : Exc p H1 H2) : Exc p H H2 := fun c o h n => b c o (a c o h n) n
theorem Exc.upd {p : Addr} {H : Hp} {o : HO} : Exc p H (L2.upd H p o) := fun b u e n => by rw [upd_ne n]; exact e
theorem Exc.of {p : Addr} {H H' : Hp} (s : Same H H') : Exc p H H' := fun b o h _ => s b o h
/-- what is new to H may change -/
theorem Exc.same {p : Addr} {H H' : Hp} (n : H p = none) (x : Exc p H H') : Same H H' := fun b o h => x b o h (ne_of_none h n)
/-- a method of the class at C keeps a promise -/
def Has (P : Program) (w : World) (K : Frag) (mg : Str → Option Value) (base : Heap) (C : Addr) (m : Str) (k : Nat) (ps : List Str) (sp : Sp) : Prop := ∃ f fd, Meth K C m f ∧ FnOk P w K mg base (CX1 P w) k f fd ps sp ∧ Binds K fd ps []
end TR
set_option Elab.async false
set_option linter.all false
set_option maxRecDepth 100000
set_option maxHeartbeats 4000000
namespace TR
open PySem L2 PySem.W PyProof.Rows
/-! ### the word of a refusal: texts by truths -/
def rep1 (z : Str) (b : Bool) : List Str := if b then [z] else []
theorem rep1_map (z : Str) (b : Bool) : (List.replicate (if b then (1 : Int) else 0).toNat [V.str z]).flatten = (rep1 z b).map V.str := by cases b <;> rfl
def rInt1 : List V → Hp → VK → Prop := fun xs H Q => (∃ i, xs = [.int i] ∧ Q (.int i) H) ∨ ∃ k, xs = [.bl k] ∧ Q (.int (if k then 1 else 0)) H
theorem rep1_bd (b : Bool) : -(2 ^ 63) ≤ (if b then (1 : Int) else 0) ∧ (if b then (1 : Int) else 0) < 2 ^ 63 := by cases b <;> exact ⟨by decide, by decide⟩
theorem rep1_sz (z : V) (b : Bool) : [z].length * (if b then (1 : Int) else 0).toNat ≤ sizeLine := by cases b <;> exact line1000 (by simp)
theorem rep1_len (z : Str) (b : Bool) : ((rep1 z b).map V.str).length ≤ 1 := by cases b <;> simp [rep1]
theorem rep_one {σ : L2.St} {H : Hp} {Q : VK} {x : Str} {b : Bool} {ti : TE} (hi : ∀ H' (Q' : VK), Same H H' → Q' (.bl b) H' → ti σ H' Q')
    (k : ∀ p H', Same H H' → H p = none → H' p = some (.lst ((rep1 x b).map V.str)) → Q (.ref p) H') : tOp rRep (tLst (tCons (tC (.str x)) tNil)) (tCB rInt1 (tCons ti tNil)) σ H Q := by
  refine ⟨line1000 (by show 1 ≤ 1000; decide), fun l nl => ?_⟩
  refine hi _ _ (Same.upd nl) ?_
  refine .inr ⟨b, rfl, ?_⟩
  refine ⟨l, _, _, rfl, rfl, upd_same, (rep1_bd b).1, (rep1_bd b).2, rep1_sz _ b, fun p np => ?_⟩
  rw [rep1_map]
  exact k p _ ((Same.upd nl).trans (Same.upd np)) ((Same.upd nl).free np) upd_same
theorem rep_two {σ : L2.St} {H : Hp} {Q : VK} {x y : Str} {b c : Bool} {ti tj : TE} (hi : ∀ H' (Q' : VK), Same H H' → Q' (.bl b) H' → ti σ H' Q') (hj : ∀ H' (Q' : VK), Same H H' → Q' (.bl c) H' → tj σ H' Q')
    (k : ∀ p H', Same H H' → H p = none → H' p = some (.lst ((rep1 x b ++ rep1 y c).map V.str)) → Q (.ref p) H') :
    tOp rCat (tOp rRep (tLst (tCons (tC (.str x)) tNil)) (tCB rInt1 (tCons ti tNil))) (tOp rRep (tLst (tCons (tC (.str y)) tNil)) (tCB rInt1 (tCons tj tNil))) σ H Q := by
  refine rep_one hi fun p1 H1 s1 n1 e1 => ?_
  refine rep_one (fun H' Q' s q => hj H' Q' (s1.trans s) q) fun p2 H2 s2 n2 e2 => ?_
  refine ⟨p1, p2, _, _, rfl, rfl, s2 _ _ e1, e2, ?_, fun p np => ?_⟩
  · have a := rep1_len x b
    have c := rep1_len y c
    exact line1000 (by omega)
  · rw [← List.map_append]
    exact k p _ ((s1.trans s2).trans (Same.upd np)) ((s1.trans s2).free np) upd_same
/-- the classes that the words are of -/
structure Fits (K : Frag) (C C1 C2 C3 C4 C5 : Addr) (b1 b2 b3 b4 b5 : Bool) : Prop where
  k : ExcK K C
  h1 : kitOne K (.ref C) (.ref C1) = some b1
  h2 : kitOne K (.ref C) (.ref C2) = some b2
  h3 : kitOne K (.ref C) (.ref C3) = some b3
  h4 : kitOne K (.ref C) (.ref C4) = some b4
  h5 : kitOne K (.ref C) (.ref C5) = some b5
  hv : kitOne K (.ref C) (.type "ValueError") = some true
/-- the error classes by their names -/
structure Errs (mg : Str → Option Value) (C1 C2 C3 C4 C5 : Addr) : Prop where
  g1 : mg "BadContext" = some (.ref C1)
  g2 : mg "BadNumber" = some (.ref C2)
  g3 : mg "NoText" = some (.ref C3)
  g4 : mg "BadCount" = some (.ref C4)
  g5 : mg "Trapped" = some (.ref C5)
def wordsS (b1 b2 b3 b4 b5 : Bool) : List Str := ((rep1 "context" b1 ++ rep1 "number" b2) ++ (rep1 "text" b3 ++ rep1 "count" b4)) ++ (rep1 "trapped" b5 ++ rep1 "bare" false)
def wordT (b1 b2 b3 b4 b5 : Bool) : Str := Txt.join "/" (wordsS b1 b2 b3 b4 b5)
theorem word_ok (b1 b2 b3 b4 b5 : Bool) : JoinOk ("/" : Str) (wordsS b1 b2 b3 b4 b5) = true := by cases b1 <;> cases b2 <;> cases b3 <;> cases b4 <;> cases b5 <;> decide +kernel
theorem word_ctx : wordT true false false false false = "context" := by decide +kernel
/-- an exception that was taken, of the class C: its dict none, or one -/
def ExcAt (H : Hp) (a C : Addr) (d : Option Addr) : Prop := ∃ t T u, H a = some (.frz (ExcO (.ref C) t d T) u) ∧ ∀ x, d = some x → ∃ fs, H x = some (.xd fs)
theorem ExcAt.same {H H' : Hp} {a C : Addr} {d : Option Addr} (h : ExcAt H a C d) (s : Same H H') : ExcAt H' a C d := by
  obtain ⟨t, T, u, e, k⟩ := h
  exact ⟨t, T, u, s _ _ e, fun x z => let ⟨fs, q⟩ := k x z; ⟨fs, s _ _ q⟩⟩
theorem ExcAt.ty {K : Frag} {H : Hp} {a C : Addr} {d : Option Addr} (h : ExcAt H a C d) (k : ExcK K C) : TyE K H (.ref a) (.ref C) := by
  obtain ⟨t, T, u, e, q⟩ := h
  cases d with
  | none => exact .exc e k
  | some x =>
    obtain ⟨fs, z⟩ := q x rfl
    exact .excD e z k
/-- isinstance of an exception -/
theorem isi_exc {K : Frag} {σ : L2.St} {H0 H' : Hp} {Q' : VK} {a C R : Addr} {d : Option Addr} {b : Bool} (hσ : σ[0]? = some (some (.ref a))) (ha : ExcAt H0 a C d) (k : ExcK K C) (h : kitOne K (.ref C) (.ref R) = some b) (s : Same H0 H') (q : Q' (.bl b) H') :
    tCB (fun xs H Q => ∃ x c cv t b, xs = [x, c] ∧ clsV c = some cv ∧ TyE K H x t ∧ kitOne K t cv = some b ∧ Q (.bl b) H) (tCons (tVar 0) (tCons (tC (.ref R)) tNil)) σ H' Q' :=
  ⟨_, hσ, _, _, _, _, b, rfl, rfl, (ha.same s).ty k, h, q⟩
theorem len1 : ∀ {us : List Value}, us.length = 1 → ∃ a, us = [a]
  | [a], _ => ⟨a, rfl⟩
theorem lenD {us ds : List Value} {n : Nat} (h : (us ++ ds).length = n) : us.length = n - ds.length := by rw [List.length_append] at h; omega
end TR
set_option Elab.async false
set_option linter.all false
set_option maxRecDepth 100000
set_option maxHeartbeats 4000000
namespace L2
open PySem PySem.Spec PyProof.Rows
section
variable {κ : Type} [DecidableEq κ]
def valV (kvs : List (κ × V)) (k : κ) : Option V := (kvs.find? fun kv => decide (kv.1 = k)).map (·.2)
/-- in its place, or at the end -/
def putK (kvs : List (κ × V)) (k : κ) (v : V) : List (κ × V) :=
  if (kvs.any fun kv => decide (kv.1 = k)) = true then kvs.map (fun kv => if kv.1 = k then (kv.1, v) else kv) else kvs ++ [(k, v)]
def dropK (kvs : List (κ × V)) (k : κ) : List (κ × V) := kvs.filter fun kv => decide (kv.1 ≠ k)

theorem valV_pos {p : κ × V} {r : List (κ × V)} {k : κ} (e : p.1 = k) : valV (p :: r) k = some p.2 := by simp [valV, List.find?_cons, e]
theorem valV_neg {p : κ × V} {r : List (κ × V)} {k : κ} (e : ¬ p.1 = k) : valV (p :: r) k = valV r k := by simp [valV, List.find?_cons, e]
theorem valV_any (k : κ) : ∀ kvs : List (κ × V), (kvs.any fun kv => decide (kv.1 = k)) = (valV kvs k).isSome
  | [] => rfl
  | p :: r => by
    rw [List.any_cons]
    by_cases e : p.1 = k
    · simp only [valV_pos e, decide_eq_true e, Bool.true_or, Option.isSome_some]
    · rw [valV_neg e, decide_eq_false e, Bool.false_or]; exact valV_any k r
theorem length_putK (kvs : List (κ × V)) (k : κ) (v : V) : (putK kvs k v).length ≤ kvs.length + 1 := by
  unfold putK
  split
  · rw [List.length_map]; omega
  · rw [List.length_append, List.length_cons, List.length_nil]; omega
theorem RelO.isSome_eq {o : Option V} {u : Option Value} (r : RelO o u) : o.isSome = u.isSome := by
  cases o with
  | none => cases u with
    | none => rfl
    | some _ => exact (show False from r).elim
  | some _ => cases u with
    | none => exact (show False from r).elim
    | some _ => rfl
theorem RelO.getD {o : Option V} {u : Option Value} {d : V} {d' : Value} (r : RelO o u) (rd : RelV d d') : RelV (o.getD d) (u.getD d') := by
  cases o with
  | none => cases u with
    | none => exact rd
    | some _ => exact (show False from r).elim
  | some _ => cases u with
    | none => exact (show False from r).elim
    | some _ => exact r

/-- raw tables of the same keys -/
theorem KV.val {kvs : List (κ × V)} {vs : List (κ × Value)} (r : KV kvs vs) (k : κ) : RelO (valV kvs k) (valueAt vs k) := by
  unfold KV at r
  induction r with
  | nil => exact True.intro
  | @cons p q ps qs h t ih =>
    obtain ⟨h1, h2⟩ := h
    by_cases e : p.1 = k
    · have e' : q.1 = k := h1.symm.trans e
      have b : valueAt (q :: qs) k = some q.2 := by simp [valueAt, List.find?_cons, e']
      rw [valV_pos e, b]; exact h2
    · have e' : ¬ q.1 = k := fun z => e (h1.trans z)
      have b : valueAt (q :: qs) k = valueAt qs k := by simp [valueAt, List.find?_cons, e']
      rw [valV_neg e, b]; exact ih
theorem KV.any {kvs : List (κ × V)} {vs : List (κ × Value)} (r : KV kvs vs) (k : κ) : (kvs.any fun kv => decide (kv.1 = k)) = vs.any fun kv => decide (kv.1 = k) := by
  unfold KV at r
  induction r with
  | nil => rfl
  | cons h t ih => rw [List.any_cons, List.any_cons, ih, h.1]
theorem KV.repl {kvs : List (κ × V)} {vs : List (κ × Value)} (r : KV kvs vs) (k : κ) {y : V} {u : Value} (ry : RelV y u) :
    KV (kvs.map fun kv => if kv.1 = k then (kv.1, y) else kv) (vs.map fun kv => if kv.1 = k then (kv.1, u) else kv) := by
  unfold KV at r ⊢
  induction r with
  | nil => exact .nil
  | @cons p q ps qs h t ih =>
    rw [List.map_cons, List.map_cons]
    refine .cons ?_ ih
    obtain ⟨h1, h2⟩ := h
    by_cases e : p.1 = k
    · rw [if_pos e, if_pos (h1.symm.trans e)]; exact ⟨h1, ry⟩
    · rw [if_neg e, if_neg (fun z => e (h1.trans z))]; exact ⟨h1, h2⟩
theorem KV.put {kvs : List (κ × V)} {vs : List (κ × Value)} (r : KV kvs vs) (k : κ) {y : V} {u : Value} (ry : RelV y u) : KV (putK kvs k y) (stored vs k u) := by
  unfold putK stored
  rw [r.any k]
  by_cases e : (vs.any fun kv => decide (kv.1 = k)) = true
  · rw [if_pos e, if_pos e]; exact r.repl k ry
  · rw [if_neg e, if_neg e]; exact Paired.snoc r ⟨rfl, ry⟩
theorem KV.drop {kvs : List (κ × V)} {vs : List (κ × Value)} (r : KV kvs vs) (k : κ) : KV (dropK kvs k) (without vs k) := by
  unfold KV at r ⊢
  unfold dropK without
  induction r with
  | nil => exact .nil
  | @cons p q ps qs h t ih =>
    obtain ⟨h1, h2⟩ := h
    rw [List.filter_cons, List.filter_cons]
    by_cases e : p.1 = k
    · have a : ¬ decide (p.1 ≠ k) = true := by simp [e]
      have b : ¬ decide (q.1 ≠ k) = true := by simp [h1.symm.trans e]
      rw [if_neg a, if_neg b]; exact ih
    · have e' : ¬ q.1 = k := fun z => e (h1.trans z)
      have a : decide (p.1 ≠ k) = true := by simp [e]
      have b : decide (q.1 ≠ k) = true := by simp [e']
      rw [if_pos a, if_pos b]; exact .cons ⟨h1, h2⟩ ih
theorem KV.keys {kvs : List (κ × V)} {vs : List (κ × Value)} (r : KV kvs vs) : kvs.map (·.1) = vs.map (·.1) := by
  unfold KV at r
  induction r with
  | nil => rfl
  | cons h t ih => rw [List.map_cons, List.map_cons, ih, h.1]
theorem KV.length {kvs : List (κ × V)} {vs : List (κ × Value)} (r : KV kvs vs) : kvs.length = vs.length := Paired.length r
end


/-! ### a tracked dict, its keys ints and texts or tuples of these -/
theorem kV_is {P : Program} {w : World} {k : Key} {u : Value} (r : RelV (kV k) u) : (mixKind P w).is k u = true := by
  cases k with
  | inl i => obtain ⟨t, e⟩ := (show ∃ t, u = Value.int i t from r); subst e; exact mixKind_int P w i t
  | inr x => obtain ⟨t, e⟩ := (show ∃ t, u = Value.str x t from r); subst e; exact mixKind_str P w x t
/-- raw entries of a dict with tuple keys -/
abbrev KT (H : Hp) : List (List Key × V) → List (List Key × Addr × Value) → Prop := Paired fun p q => p.1 = q.1 ∧ H q.2.1 = some (.tup (p.1.map kV)) ∧ RelV p.2 q.2.2
theorem KT.val {H : Hp} {kvs : List (List Key × V)} {xs : List (List Key × Addr × Value)} (r : KT H kvs xs) (k : List Key) : RelO (valV kvs k) ((atKey xs k).map (·.2)) := by
  induction r with
  | nil => exact True.intro
  | @cons p q ps qs h t ih =>
    obtain ⟨h1, _, h2⟩ := h
    by_cases e : p.1 = k
    · have e' : q.1 = k := h1.symm.trans e
      have b : atKey (q :: qs) k = some q.2 := by simp [atKey, List.find?_cons, e']
      rw [valV_pos e, b]; exact h2
    · have e' : ¬ q.1 = k := fun z => e (h1.trans z)
      have b : atKey (q :: qs) k = atKey qs k := by simp [atKey, List.find?_cons, e']
      rw [valV_neg e, b]; exact ih
theorem KT.repl {H : Hp} {kvs : List (List Key × V)} {xs : List (List Key × Addr × Value)} (r : KT H kvs xs) (k : List Key) {y : V} {u : Value} (ry : RelV y u) :
    KT H (kvs.map fun kv => if kv.1 = k then (kv.1, y) else kv) (xs.map (putAt k u)) := by
  induction r with
  | nil => exact .nil
  | @cons p q ps qs h t ih =>
    rw [List.map_cons, List.map_cons]
    refine .cons ?_ ih
    obtain ⟨h1, h2, h3⟩ := h
    unfold putAt
    by_cases e : p.1 = k
    · rw [if_pos e, if_pos (h1.symm.trans e)]; exact ⟨h1, h2, ry⟩
    · rw [if_neg e, if_neg (fun z => e (h1.trans z))]; exact ⟨h1, h2, h3⟩
theorem KT.put {H : Hp} {kvs : List (List Key × V)} {xs : List (List Key × Addr × Value)} (r : KT H kvs xs) (k : List Key) {b : Addr} {y : V} {u : Value} (hb : H b = some (.tup (k.map kV))) (ry : RelV y u) :
    KT H (putK kvs k y) (storedH xs k b u) := by
  have e : (kvs.any fun kv => decide (kv.1 = k)) = (atKey xs k).isSome := by
    rw [valV_any, (r.val k).isSome_eq, Option.isSome_map]
  unfold putK storedH
  rw [e]
  by_cases q : (atKey xs k).isSome = true
  · rw [if_pos q, if_pos q]; exact r.repl k ry
  · rw [if_neg q, if_neg q]; exact Paired.snoc r ⟨rfl, hb, ry⟩
theorem KT.keeps {H H' : Hp} {kvs : List (List Key × V)} {xs : List (List Key × Addr × Value)} (r : KT H kvs xs) (ht : ∀ b ys, H b = some (.tup ys) → H' b = some (.tup ys)) : KT H' kvs xs :=
  Paired.mapP r fun _ _ z => ⟨z.1, ht _ _ z.2.1, z.2.2⟩

section
variable {P : Program} {w : World} {H : Hp} {h : Heap} {a : Addr}
theorem rd_of {u : HO} (ok : HOk P w H h) (e : Rd H a u) : ObjOk P w H h a u := e.ok ok
theorem dk_rd {kvs : List (Key × V)} (ok : HOk P w H h) (e : Rd H a (.dK kvs)) : kvs.length ≤ sizeLine ∧ (a == sysModules) = false ∧ ∃ vs, KV kvs vs ∧ h.DictOf (mixKind P w) a vs :=
  show ObjOk P w H h a (.dK kvs) from rd_of ok e
theorem dk_of {kvs : List (Key × V)} (ok : HOk P w H h) (e : H a = some (.dK kvs)) : kvs.length ≤ sizeLine ∧ (a == sysModules) = false ∧ ∃ vs, KV kvs vs ∧ h.DictOf (mixKind P w) a vs := dk_rd ok (.inl e)
end

/-- what the dict at a holds at the key y -/
def DGet (H : Hp) (a : Addr) (y : V) (r : Option V) : Prop :=
  (∃ kvs k, Rd H a (.dK kvs) ∧ y = kV k ∧ r = valV kvs k) ∨ ∃ kvs k b, Rd H a (.dT kvs) ∧ y = .ref b ∧ H b = some (.tup (k.map kV)) ∧ r = valV kvs k
/-- the heap behind a[y] = v -/
def DPut (H : Hp) (a : Addr) (y v : V) (H' : Hp) : Prop :=
  (∃ kvs k, H a = some (.dK kvs) ∧ y = kV k ∧ kvs.length < sizeLine ∧ H' = upd H a (.dK (putK kvs k v))) ∨
  ∃ kvs k b, H a = some (.dT kvs) ∧ y = .ref b ∧ H b = some (.tup (k.map kV)) ∧ kvs.length < sizeLine ∧ H' = upd H a (.dT (putK kvs k v))
theorem DGet.k {H : Hp} {a : Addr} {kvs : List (Key × V)} {k : Key} (e : H a = some (.dK kvs)) : DGet H a (kV k) (valV kvs k) := .inl ⟨kvs, k, .inl e, rfl, rfl⟩
theorem DGet.t {H : Hp} {a b : Addr} {kvs : List (List Key × V)} {k : List Key} (e : H a = some (.dT kvs)) (eb : H b = some (.tup (k.map kV))) : DGet H a (.ref b) (valV kvs k) := .inr ⟨kvs, k, b, .inl e, rfl, eb, rfl⟩
theorem DPut.k {H : Hp} {a : Addr} {kvs : List (Key × V)} {k : Key} {v : V} (e : H a = some (.dK kvs)) (hl : kvs.length < sizeLine) : DPut H a (kV k) v (upd H a (.dK (putK kvs k v))) := .inl ⟨kvs, k, e, rfl, hl, rfl⟩
theorem DPut.t {H : Hp} {a b : Addr} {kvs : List (List Key × V)} {k : List Key} {v : V} (e : H a = some (.dT kvs)) (eb : H b = some (.tup (k.map kV))) (hl : kvs.length < sizeLine) :
    DPut H a (.ref b) v (upd H a (.dT (putK kvs k v))) := .inr ⟨kvs, k, b, e, rfl, eb, hl, rfl⟩


section
variable {X : Cx} {pins : List (Addr × Obj)} {σ : St} {H : Hp} {s : Shared} {a : Addr} {y v : V} {u r : Value} {o : Option V} {A : Around} {E : Value → Shared → Prop}

/-- a dict's object is replaced -/
theorem d_write {h' : Heap} {t' : Nat} {ob : HO} (I : Inv X pins σ H s) (mu : Mut (H a)) (hs : Heap.SameBut a s.heap h') (he : ∃ q, h'.get? a = some q) (new : ObjOk X.prog X.w (upd H a ob) h' a ob) :
    Inv X pins σ (upd H a ob) { s with heap := h', toks := t' } :=
  I.write (x := a) (e := a) mu (.inl rfl) (fun b q hb z => (hs.2 b hb).trans z) he new
theorem dk_new {P : Program} {w : World} {H' : Hp} {h' : Heap} {kvs : List (Key × V)} {vs : List (Key × Value)} (z : kvs.length ≤ sizeLine) (hd : (a == sysModules) = false) (rel : KV kvs vs) (dd : h'.DictOf (mixKind P w) a vs) :
    ObjOk P w H' h' a (.dK kvs) := ⟨z, hd, vs, rel, dd⟩
end

section
variable {X : Cx} {pins : List (Addr × Obj)} {σ : St} {H : Hp} {s : Shared} {a : Addr} {kvs : List (Key × V)} {k : Key} {u : Value} {A : Around} {E : Value → Shared → Prop}
end


section
variable {X : Cx} {o i e value : Expr} {pos pos' tpos : Pos} {td ty tv : TE}
end


section
variable {X : Cx} {pos : Pos}
end

/-- the pairs of a display, from the left -/
def tPairs : List (TE × TE) → St → Hp → (List (V × V) → Hp → Prop) → Prop
  | [], _, H, Q => Q [] H
  | (tk, tv) :: r, σ, H, Q => tk σ H fun x H1 => tv σ H1 fun y H2 => tPairs r σ H2 fun ps H3 => Q ((x, y) :: ps) H3
abbrev VV : List (V × V) → List (Value × Value) → Prop := Paired fun p q => RelV p.1 q.1 ∧ RelV p.2 q.2
def PPs (X : Cx) (pos : Pos) (keys : List (Option Expr)) (values : List Expr) (trs : List (TE × TE)) : Prop :=
  ∀ (pins : List (Addr × Obj)) (s : Shared) (σ : St) (H : Hp) (Q : List (V × V) → Hp → Prop), Inv X pins σ H s → tPairs trs σ H Q →
    wpAny (model X.prog X.w) X.A (evalPairs (pairTrees keys values X.env pos)) (fun vs s' => ∃ ps H', Inv X pins σ H' s' ∧ VV ps vs ∧ Q ps H') X.xe s
theorem pps_nil {X : Cx} {pos : Pos} : PPs X pos [] [] [] := fun pins s σ H Q I h => pairTrees_nil_walk ⟨[], H, I, .nil, h⟩
theorem pps_cons {X : Cx} {pos : Pos} {k v : Expr} {ks : List (Option Expr)} {vs : List Expr} {tk tv : TE} {trs : List (TE × TE)} (hk : PE X k tk) (hv : PE X v tv) (hr : PPs X pos ks vs trs) :
    PPs X pos (some k :: ks) (v :: vs) ((tk, tv) :: trs) := fun pins s σ H Q I h =>
  pairTrees_cons_walk (thn (hk pins s σ H _ I h) fun u s1 ⟨x, H1, I1, rx, q1⟩ => thn (hv pins s1 σ H1 _ I1 q1) fun w2 s2 ⟨y, H2, I2, ry, q2⟩ =>
    thn (hr pins s2 σ H2 _ I2 q2) fun ws s3 ⟨ps, H3, I3, rel, q3⟩ => ⟨(x, y) :: ps, H3, I3, .cons ⟨rx, ry⟩ rel, q3⟩)

def mergeK (kvs more : List (Key × V)) : List (Key × V) := more.foldl (fun acc kv => putK acc kv.1 kv.2) kvs
theorem KV.merge : ∀ {more : List (Key × V)} {rs : List (Key × Value)} {kvs : List (Key × V)} {vs : List (Key × Value)}, KV more rs → KV kvs vs → KV (mergeK kvs more) (merged vs rs) := by
  intro more rs kvs vs r
  unfold KV at r
  induction r generalizing kvs vs with
  | nil => intro q; exact q
  | @cons p q ps qs h t ih =>
    intro r0
    have e : KV (putK kvs p.1 p.2) (stored vs q.1 q.2) := by
      have := r0.put p.1 h.2
      rw [← h.1]; exact this
    exact ih e
theorem length_mergeK : ∀ (more kvs : List (Key × V)), (mergeK kvs more).length ≤ kvs.length + more.length
  | [], kvs => by show kvs.length ≤ kvs.length + 0; omega
  | p :: r, kvs => by
    have h1 := length_mergeK r (putK kvs p.1 p.2)
    have h2 := length_putK kvs p.1 p.2
    show (mergeK (putK kvs p.1 p.2) r).length ≤ _
    rw [List.length_cons]; omega
theorem carries_of {P : Program} {w : World} : ∀ {kvs : List (Key × V)} {ws : List (Value × Value)}, VV (kvs.map fun kv => (kV kv.1, kv.2)) ws → ∃ rs, Carries (mixKind P w) ws rs ∧ KV kvs rs
  | [], _, r => by rw [List.map_nil] at r; cases r; exact ⟨[], True.intro, .nil⟩
  | p :: kvs, _, r => by
    rw [List.map_cons] at r
    cases r with
    | @cons a b as bs h t =>
      obtain ⟨rs, c, q⟩ := carries_of (P := P) (w := w) t
      obtain ⟨b1, b2⟩ := b
      exact ⟨(p.1, b2) :: rs, ⟨kV_is h.1, rfl, c⟩, .cons ⟨rfl, h.2⟩ q⟩
/-- {k: v, ..} with keys ints and texts; the new dict stands empty while the pairs are made -/
def tDisp (trs : List (TE × TE)) : TE := fun σ H Q => ∀ p, H p = none → tPairs trs σ (upd H p (.dK [])) fun ps H2 => H2 p = some (.dK []) ∧ ∃ kvs : List (Key × V), ps = kvs.map (fun kv => (kV kv.1, kv.2)) ∧ kvs.length ≤ 15 ∧ Q (.ref p) (upd H2 p (.dK (mergeK [] kvs)))
theorem pe_disp {X : Cx} {pos : Pos} {keys : List (Option Expr)} {values : List Expr} {trs : List (TE × TE)} (h : PPs X pos keys values trs) (hall : keys.all (·.isSome) = true) (hl : keys.length = values.length) (h0 : keys ≠ [])
    (h15 : keys.length ≤ 15) : PE X (.Dict keys values pos) (tDisp trs) := by
  intro pins s σ H Q I q
  have hn := I.hok.fresh (Nat.le_refl s.heap.objs.size)
  have I1 := I.laid (a := s.heap.objs.size) (o := .dK []) (h' := s.heap.push { cls := .type "dict", data := .dict #[] }) (t' := s.toks) (fun _ _ q => Heap.get?_push_of_some _ q) (Nat.le_refl _) (dk_empty s.heap I.big)
  refine wpAny_Dict_walk (knd := mixKind X.prog X.w) hall hl h0 h15 (thn (h pins _ σ _ _ I1 (q _ hn)) fun ws s2 ⟨ps, H2, I2, rel, e, kvs, ep, lk, q2⟩ => ?_)
  subst ep
  obtain ⟨rs, c, rk⟩ := carries_of (P := X.prog) (w := X.w) rel
  obtain ⟨z, hd, vs0, r0, dd⟩ := dk_of I2.hok e
  cases r0
  refine ⟨rs, c, dd, fun h' dd' hs => ⟨.ref s.heap.objs.size, _, ?_, rfl, q2⟩⟩
  have hz : (mergeK [] kvs).length ≤ sizeLine := by
    have h1 := length_mergeK kvs []
    rw [List.length_nil] at h1
    rw [sizeLine_eq]; omega
  have he : ∃ q, h'.get? s.heap.objs.size = some q := let ⟨q, _, _, hq, _⟩ := dd'; ⟨q, hq⟩
  exact d_write I2 (by rw [e]; exact True.intro) hs he (dk_new hz hd (rk.merge .nil) dd')
end L2
set_option Elab.async false
set_option linter.all false
set_option maxRecDepth 100000
set_option maxHeartbeats 4000000
namespace L2
open PySem PySem.Spec PyProof.Rows PySem.W
/-! ### [elt for target in iter if c] that reads names of its def -/
/-- the cells that it takes along -/
def clOf (F : List Str) (env : Env) : List (Str × Addr) := F.map fun x => (x, (env.cells.lookup x).getD 0)
/-- their values -/
def fvOf (js : List Nat) (σ : St) : St := js.map fun j => (σ[j]?).getD none
abbrev Cx.compF (X : Cx) (scope : Scope) (N F : List Str) (C : Addr) (s₀ : Shared) (H₀ : Hp) (ex : List Addr) (pins : List (Addr × Obj)) : Cx :=
  { X with N := N ++ F, s₀ := s₀, H₀ := H₀, env := compEnvC scope (clOf F X.env) C X.env, outer := X.stack, ex := ex, fn := fun _ => false, pn := pins, xe := fun _ _ => False }
structure CompScopeF (N F : List Str) (js : List Nat) (sc : Scope) (XN : List Str) (env : Env) : Prop where
  kind : sc.kind = .function
  cell : ∀ y ∈ sc.names, y.2 ≠ .cell
  loc : ∀ y ∈ sc.names, y.2 = .local → sc.names.lookup y.1 = some .local
  nd : (N ++ F).Nodup
  clos : closureFor sc env = pure (clOf F env)
  fr : ∀ y ∈ (relabel sc env).names, y.2 = .cell ∨ y.2 = .free → y.1 ∈ F
  at_ : ∀ (k : Nat) (x : Str), F[k]? = some x → (∃ j : Nat, js[k]? = some j ∧ XN[j]? = some x) ∧ (∃ c, env.cells.lookup x = some c) ∧ env.kindOf x = some .cell ∧ (relabel sc env).names.lookup x = some .cell
  jl : js.length = F.length
def tCompF (n : Nat) (js : List Nat) (wi : TI) (g : TG) (tc : TT) (te : TE) : TE := fun σ H Q => wi σ H fun J H1 => ∀ D, H1 D = none →
  ∃ (m : Nat) (W : Nat → List V → Hp → Prop), W 0 [] (upd H1 D (.lst [])) ∧ ∀ i ys H2, W i ys H2 → i ≤ m ∧ H2 D = some (.lst ys) ∧ ((J.stop i H2 ∧ Q (.ref D) H2) ∨ (i < m ∧ J.go i H2 ∧ ∀ x H3, J.yld i H2 x H3 →
    g x (List.replicate n none ++ fvOf js σ) H3 fun σ4 H4 => tc σ4 H4 fun b H5 => if b = true then te σ4 H5 fun y H6 => H6 D = some (.lst ys) ∧ ys.length < sizeLine ∧ W (i + 1) (ys ++ [y]) (upd H6 D (.lst (ys ++ [y]))) else W (i + 1) ys H5))
theorem cl_mem {F : List Str} {env : Env} {x : Str} {c : Addr} (h : (clOf F env).lookup x = some c) : x ∈ F ∧ c = (env.cells.lookup x).getD 0 := by
  have := PySem.mem_of_lookup h
  obtain ⟨y, hy, e⟩ := List.mem_map.mp this
  cases e
  exact ⟨hy, rfl⟩
theorem cl_of {env : Env} {x : Str} : ∀ {F : List Str}, x ∈ F → (clOf F env).lookup x = some ((env.cells.lookup x).getD 0)
  | y :: F, h => by
    show List.lookup x ((y, (env.cells.lookup y).getD 0) :: clOf F env) = _
    by_cases e : x = y
    · subst e; simp [List.lookup]
    · have hb : (x == y) = false := beq_eq_false_iff_ne.mpr e
      rw [List.lookup_cons, hb]
      exact cl_of (by rcases List.mem_cons.mp h with z | z; exact absurd z e; exact z)
section
variable {X : Cx} {N F : List Str} {js : List Nat} {scope : Scope}
theorem CompScopeF.sub (S : CompScopeF N F js scope X.N X.env) : ∀ x c, (clOf F X.env).lookup x = some c → X.env.cells.lookup x = some c := fun x c z => by
  obtain ⟨hx, rfl⟩ := cl_mem z
  obtain ⟨k, hk⟩ := List.mem_iff_getElem?.mp hx
  obtain ⟨_, ⟨c, hc⟩, _⟩ := S.at_ k x hk
  rw [hc]; rfl
theorem CompScopeF.has (S : CompScopeF N F js scope X.N X.env) {x : Str} (hx : x ∈ F) : ∃ c, (clOf F X.env).lookup x = some c ∧ X.env.cells.lookup x = some c :=
  ⟨_, cl_of hx, S.sub _ _ (cl_of hx)⟩
/-- what it takes along is there: the cells' contents at its entry -/
theorem comp_look {pins : List (Addr × Obj)} {σ : St} {H : Hp} {s : Shared} (S : CompScopeF N F js scope X.N X.env) (I : Inv X pins σ H s) {h' : Heap} {m : Str → Option Value} {C : Addr} (hc : ∀ x c v, X.env.cells.lookup x = some c → s.heap.IsCell c v → h'.IsCell c v) :
    ∀ (i : Nat) (x : Str) (v : V), (N ++ F)[i]? = some x → (List.replicate N.length none ++ fvOf js σ)[i]? = some (some v) → ∃ u, RelV v u ∧ Look (compEnvC scope (clOf F X.env) C X.env) h' m x u := by
  intro i x v e1 e2
  by_cases hi : i < N.length
  · rw [List.getElem?_append_left (by simpa using hi), List.getElem?_replicate] at e2
    split at e2 <;> cases e2
  · rw [List.getElem?_append_right (by omega)] at e1
    rw [List.getElem?_append_right (by simp; omega)] at e2
    rw [List.length_replicate] at e2
    obtain ⟨⟨j, hj, hx⟩, ⟨c, hcc⟩, kx, kr⟩ := S.at_ _ x e1
    unfold fvOf at e2
    rw [List.getElem?_map, hj] at e2
    have e2 : (σ[j]?).getD none = some v := Option.some.inj e2
    have e3 : σ[j]? = some (some v) := by
      cases q : σ[j]? with
      | none => rw [q] at e2; cases e2
      | some o => rw [q] at e2; exact congrArg some e2
    obtain ⟨m0, _, hl⟩ := I.loc
    obtain ⟨u, r, l⟩ := hl j x v hx e3 (.inr (.inl kx))
    refine ⟨u, r, .inr ⟨.inl kr, c, ?_, ?_⟩⟩
    · obtain ⟨c', h1, h2⟩ := S.has (List.mem_of_getElem? e1)
      rw [hcc] at h2
      cases h2
      exact h1
    · rcases l with ⟨k, _⟩ | ⟨_, c', h1, h2⟩
      · rw [kx] at k; cases k
      · rw [hcc] at h1
        cases h1
        exact hc x c _ hcc h2
theorem fv_len (S : CompScopeF N F js scope X.N X.env) (σ : St) : (List.replicate N.length none ++ fvOf js σ : St).length = (N ++ F).length := by
  unfold fvOf
  rw [List.length_append, List.length_replicate, List.length_map, S.jl, List.length_append]
theorem inv_compF {pins : List (Addr × Obj)} {σ : St} {H : Hp} {s : Shared} {it : Addr} {h' : Heap} (S : CompScopeF N F js scope X.N X.env) (I : Inv X pins σ H s) (hf : FpOk X pins H it) (hit : ∃ o, s.heap.get? it = some o) (hnb : X.base.get? it = none)
    (hns : h'.Ns s.heap.objs.size (fun _ => none)) (hsb : ∀ b o, s.heap.get? b = some o → h'.get? b = some o) {tk : Nat} :
    Inv (X.compF scope N F s.heap.objs.size s H [it] (X.pn ++ pins)) [] (List.replicate N.length none ++ fvOf js σ) H { s with heap := h', toks := tk } := by
  obtain ⟨f0, f1, f2, f3, f4, f5⟩ := hf
  obtain ⟨oi, ei⟩ := hit
  have lt : it < s.heap.objs.size := Heap.lt_size ei
  have ck : ∀ c v, s.heap.IsCell c v → h'.IsCell c v := fun c v ⟨o, e, d⟩ => ⟨o, hsb _ _ e, d⟩
  have inF : ∀ x, ((compEnvC scope (clOf F X.env) s.heap.objs.size X.env).kindOf x = some .cell ∨ (compEnvC scope (clOf F X.env) s.heap.objs.size X.env).kindOf x = some .free) → x ∈ F := by
    intro x z
    have z : (relabel scope X.env).names.lookup x = some .cell ∨ (relabel scope X.env).names.lookup x = some .free := z
    rcases z with z | z
    · exact S.fr _ (PySem.mem_of_lookup z) (.inl rfl)
    · exact S.fr _ (PySem.mem_of_lookup z) (.inr rfl)
  refine ⟨⟨I.ok.mod, S.kind, I.ok.glob, I.ok.blt, Nat.le_refl _, fun x y c z z' => I.ok.inj x y c (S.sub x c z) (S.sub y c z'), fun x z => ?_, fun x c z _ => (nomatch z), I.ok.hd, I.ok.frames, .inl rfl, fun b hb => ?_, I.bs, Nat.le_trans I.ok.bsz I.sz, fun b o e hb => ?_, fun b hb hfs => ?_, I.stack, I.stkFree⟩,
    rfl, I.bare, Un.kept hsb, ⟨_, hns, fun i x v e1 e2 e3 => comp_look S I (fun x c v _ z => ck c v z) i x v e1 e2⟩, fun x c z => ?_, I.hok.fresh (Nat.le_refl _), fun x c z => I.freeC x c (S.sub x c z), fun p hp => ?_, I.hok.kept hsb, fv_len S σ⟩
  · obtain ⟨c, h1, _⟩ := S.has (inF x z)
    exact ⟨c, h1⟩
  · have e : b = it := by simpa using hb
    subst e
    exact ⟨Nat.ne_of_lt lt, fun x c z => f4 x c (S.sub x c z)⟩
  · have e' : b = it := by simpa using hb
    subst e'
    rw [hnb] at e
    cases e
  · have e' : b = it := by simpa using hb
    subst e'
    rcases List.mem_cons.mp (I.stkSub b hfs) with z | z
    · exact f1 z
    · exact f2 z
  · obtain ⟨v, z'⟩ := I.cell x c (S.sub x c z)
    exact ⟨v, ck c v z'⟩
  · have hp' : p ∈ X.pn ++ pins := by simpa using hp
    obtain ⟨q1, q2, q3, q4, q5⟩ := I.pin p hp'
    refine ⟨hsb _ _ q1, q2, Nat.ne_of_lt (Heap.lt_size q1), fun z => ?_, q5⟩
    rcases List.mem_cons.mp (I.stkSub p.1 z) with z | z
    · exact q3 z
    · exact q4 z
/-- ahead of the next turn: the own names are none again, the others as they were -/
theorem inv_fresh {pins pl : List (Addr × Obj)} {σ σ' : St} {H H' : Hp} {s s' : Shared} {it : Addr} (S : CompScopeF N F js scope X.N X.env) (I : Inv X pins σ H s) (hf : FpOk X pins H it) (J : Inv (X.compF scope N F s.heap.objs.size s H [it] (X.pn ++ pins)) pl σ' H' s') :
    Inv (X.compF scope N F s.heap.objs.size s H [it] (X.pn ++ pins)) [] (List.replicate N.length none ++ fvOf js σ) H' s' := by
  obtain ⟨m, hn, _⟩ := J.loc
  refine ⟨J.ok, J.os, J.bare, J.base, ⟨m, hn, fun i x v e1 e2 e3 => comp_look S I (fun x c v z q => ?_) i x v e1 e2⟩, J.cell, J.free, J.freeC, fun p hp => J.pin p (by
    have hp : p ∈ (X.pn ++ pins) ++ [] := hp
    rw [List.append_nil] at hp
    exact List.mem_append_left _ hp), J.hok, fv_len S σ⟩
  obtain ⟨o, e, d⟩ := q
  have ne : c ∉ [it] := fun w => hf.2.2.2.2.1 x c z (by simpa using w)
  obtain ⟨sl, q⟩ := J.base.any e (I.freeC x c z) ne
  exact ⟨_, q, d⟩
theorem comp_walkF {elt target iter c : Expr} {scope : Scope} {pos : Pos} {N F : List Str} {js : List Nat} {wi : TI} {g : TG} {tc : TT} {te : TE} (S : CompScopeF N F js scope X.N X.env) (hd : HdOk X) (hi : PIH X target iter wi) (hex : X.ex = [])
    (hg : ∀ C s₀ H₀ ex pn, HdOk (X.compF scope N F C s₀ H₀ ex pn) → PG (X.compF scope N F C s₀ H₀ ex pn) target g)
    (hc : ∀ C s₀ H₀ ex pn, HdOk (X.compF scope N F C s₀ H₀ ex pn) → PT (X.compF scope N F C s₀ H₀ ex pn) c tc)
    (he : ∀ C s₀ H₀ ex pn, HdOk (X.compF scope N F C s₀ H₀ ex pn) → PE (X.compF scope N F C s₀ H₀ ex pn) elt te)
    {pins : List (Addr × Obj)} {s : Shared} {σ : St} {H : Hp} {Q : VK} {RR : Value → Env → Result → Shared → Prop} (I : Inv X pins σ H s) (h : (tCompF N.length js wi g tc te) σ H Q)
    (hRR : ∀ (D C : Addr) (s6 : Shared) (H5 : Hp) (mm : Str → Option Value), Inv X pins σ H5 s6 → s6.heap.Ns C mm → FpOk X pins H5 C → Q (.ref D) H5 → RR (.ref D) (compEnvC scope (clOf F X.env) C X.env) (.ok .next) s6) :
    wpAny (model X.prog X.w) X.A (eval iter X.env) (fun v s1 => wpAny (model X.prog X.w) X.A (pyIter v) (fun itv s2 => wpAny (model X.prog X.w) X.A (newList []) (fun acc s3 => wpAny (model X.prog X.w) X.A (newFunctionEnv scope X.env.globals (clOf F X.env) [] X.env.qual none .none (some X.env)) (fun cenv s4 =>
      codeAny (model X.prog X.w) X.A (.compStart (.ListComp elt [⟨target, iter, [c], 0⟩] scope pos) 0 itv acc { cenv with scope := relabel scope X.env }) (RR acc { cenv with scope := relabel scope X.env }) s4) X.xe s3) X.xe s2) X.xe s1) X.xe s := by
  refine thn (hi pins s σ H _ I h) fun v s1 h1 => thn h1 fun itv s2 h2 => ?_
  obtain ⟨it, tn, J, H2, rfl, I2, T, st2, f2, R⟩ := h2
  obtain ⟨oi, ei, di⟩ := T.obj _ _ st2
  have hf2 := I2.hok.fresh (Nat.le_refl _)
  refine wpAny_newObj_type ?_
  have I3 : Inv X pins σ (upd H2 s2.heap.objs.size (.lst [])) { s2 with heap := s2.heap.push { cls := .type "list", dict := none, data := .seq ([] : List Value).toArray } } := Inv.lnew (t' := s2.toks) I2 .nil (Nat.zero_le _)
  refine wpAny_newFunctionEnv S.cell (by intro y hy; simp at hy) (fun h4 hns hsb => ?_) S.kind
  dsimp only at hns hsb ⊢
  generalize hG : s2.heap.push { cls := .type "list", dict := none, data := .seq ([] : List Value).toArray } = G at I3 hns hsb ⊢
  generalize hD : s2.heap.objs.size = D at I3 hf2
  have nD : it ≠ D := by rw [← hD]; exact Nat.ne_of_lt (Heap.lt_size ei)
  have eiG : G.get? it = some oi := by rw [← hG]; exact Heap.get?_push_of_some _ ei
  have kp : ∀ b o, G.get? b = some o → h4.get? b = some o := fun b o e => hsb.extBut b o (Nat.ne_of_lt (Heap.lt_size e)) (Heap.get?_push_of_some _ e)
  have f3 : FpOk X pins (upd H2 D (.lst [])) it := ⟨by rw [upd_ne nD]; exact f2.1, f2.2⟩
  have nb : X.base.get? it = none := by
    cases q : X.base.get? it with
    | none => rfl
    | some o =>
      have := (I.ok.bs it o q).1
      rcases f2.2.2.2.1 with z | z
      · rw [hex] at z; simp at z
      · exact absurd (Nat.lt_of_lt_of_le (Heap.lt_size this) z) (Nat.lt_irrefl _)
  have hns' : h4.Ns G.objs.size (fun _ => none) := by
    obtain ⟨o, es, ep, q1, q2, q3, q4⟩ := hns
    exact ⟨o, es, ep, q1, q2, q3, fun x => by rw [q4]; rfl⟩
  have I4 := inv_compF (tk := s2.toks + ([] : List (Str × Value)).length) S I3 f3 ⟨oi, eiG⟩ nb hns' kp
  have hdc : HdOk (X.compF scope N F G.objs.size { s2 with heap := G } (upd H2 D (.lst [])) [it] (X.pn ++ pins)) := by
    rcases hd with z | ⟨x, o, u, vs, z, e, d, n⟩
    · exact .inl z
    · refine .inr ⟨x, o, u, vs, z, ?_, d, n⟩
      have q := I2.base.frzs x o u e
      show upd H2 D (.lst []) x = _
      rw [upd_ne fun w => by rw [w, hf2] at q; cases q]
      exact q
  obtain ⟨m, W, w0, turn⟩ := R D hf2
  have gg := hg _ _ _ _ _ hdc
  have cc := hc _ _ _ _ _ hdc
  have ee := he _ _ _ _ _ hdc
  have fpc : ∀ {H' : Hp} {σ' : St} {s' : Shared} {pl : List (Addr × Obj)}, Inv (X.compF scope N F G.objs.size { s2 with heap := G } (upd H2 D (.lst [])) [it] (X.pn ++ pins)) pl σ' H' s' → H' it = none → (∀ p ∈ pl, p.1 ≠ it) → FpOk (X.compF scope N F G.objs.size { s2 with heap := G } (upd H2 D (.lst [])) [it] (X.pn ++ pins)) pl H' it := by
    intro H' σ' s' pl J' hn hp
    refine ⟨hn, Nat.ne_of_lt (Heap.lt_size eiG), ?_, .inl (List.mem_singleton.mpr rfl), (fun x c z => f2.2.2.2.2.1 x c (S.sub x c z)), fun p hpp => ?_⟩
    · intro z
      rcases List.mem_cons.mp (I.stkSub it z) with z | z
      · exact f2.2.1 z
      · exact f2.2.2.1 z
    · rcases List.mem_append.mp hpp with z | z
      · exact f2.2.2.2.2.2 p z
      · exact hp p z
  -- the turns
  have loop : codeAny (model X.prog X.w) X.A (.compLoop (.ListComp elt [⟨target, iter, [c], 0⟩] scope pos) 0 (.ref it) (.ref D) (compEnvC scope (clOf F X.env) G.objs.size X.env))
      (RR (.ref D) (compEnvC scope (clOf F X.env) G.objs.size X.env))
      { s2 with heap := h4, toks := s2.toks + ([] : List (Str × Value)).length } := by
    refine kct_loop (fun k s' => ∃ i ys H', k = m + 1 - i ∧ Inv (X.compF scope N F G.objs.size { s2 with heap := G } (upd H2 D (.lst [])) [it] (X.pn ++ pins)) [] (List.replicate N.length none ++ fvOf js σ) H' s' ∧ tn i s'.heap ∧ H' it = none ∧ W i ys H') ?_ (m + 1)
      ⟨0, [], _, rfl, I4, T.keep _ _ _ st2 fun o e => kp it o (by rw [← hG]; exact Heap.get?_push_of_some _ e), f3.1, w0⟩
    rintro k s5 ⟨i, ys, H5, rfl, I5, st5, n5, w5⟩
    obtain ⟨hi5, hD5, w5⟩ := turn i ys H5 w5
    rcases w5 with ⟨stop, q⟩ | ⟨lt5, go, step⟩
    · refine wpAny_mono (T.done (X.compF scope N F G.objs.size { s2 with heap := G } (upd H2 D (.lst [])) [it] (X.pn ++ pins)) rfl rfl rfl hdc i [] s5 _ H5 (fun _ _ => False) I5 (fpc I5 n5 (by simp)) st5 stop) (fun r s6 z => ?_) (fun _ _ z => z.elim)
      obtain ⟨rfl, I6⟩ := z
      obtain ⟨mm, hn6, _⟩ := I6.loc
      have B6 := I6.base
      have J6 : Inv X pins σ H5 s6 := by
        refine I3.call' (ch := [it]) I6.os ⟨B6.keep, B6.slot, B6.free, B6.there, B6.tups, B6.frzs, B6.tbls⟩ I6.hok I6.bare (fun b hb => ?_)
        have e : b = it := by simpa using hb
        subst e
        exact ⟨f2.2.2.2.1, f2.2.1, f2.2.2.2.2.1, f2.2.2.2.2.2⟩
      have szG : X.s₀.heap.objs.size ≤ G.objs.size := I3.sz
      refine hRR D G.objs.size s6 H5 mm J6 hn6 ⟨I6.free, ?_, ?_, .inr szG, ?_, ?_⟩ q
      · exact Nat.ne_of_gt I3.lt
      · intro z
        obtain ⟨_, o, ho, _⟩ := I3.funs.mem z
        exact Nat.lt_irrefl _ (Heap.lt_size ho)
      · rintro x c z rfl
        obtain ⟨v', o, ho, _⟩ := I3.cell x _ z
        exact Nat.lt_irrefl _ (Heap.lt_size ho)
      · rintro p hp z
        have zz := (I3.pin p hp).1
        rw [z] at zz
        exact Nat.lt_irrefl _ (Heap.lt_size zz)
    · refine wpAny_mono (T.item (X.compF scope N F G.objs.size { s2 with heap := G } (upd H2 D (.lst [])) [it] (X.pn ++ pins)) rfl rfl rfl hdc i [] s5 _ H5 (fun _ _ => False) I5 (fpc I5 n5 (by simp)) st5 go) (fun r s6 z => ?_) (fun _ _ z => z.elim)
      obtain ⟨u, rfl, z⟩ := z
      refine wpAny_mono z (fun _ s7 z => ?_) (fun _ _ z => z.elim)
      obtain ⟨x, I7, rx, yl, st7⟩ := z
      obtain ⟨o7, e7, d7⟩ := T.obj _ _ st7
      obtain ⟨p0, p1, p2, _⟩ := fpc I7 n5 (by simp)
      have I7' : Inv (X.compF scope N F G.objs.size { s2 with heap := G } (upd H2 D (.lst [])) [it] (X.pn ++ pins)) [(it, o7)] (List.replicate N.length none ++ fvOf js σ) H5 s7 := I7.pins_of fun p hp => by
        have e : p = (it, o7) := by simpa using hp
        subst e
        exact ⟨e7, p0, p1, p2, d7⟩
      have back : ∀ {i' : Nat} {ys' : List V} {H' : Hp} {σ' : St} {s' : Shared}, i' = i + 1 → Inv (X.compF scope N F G.objs.size { s2 with heap := G } (upd H2 D (.lst [])) [it] (X.pn ++ pins)) [(it, o7)] σ' H' s' → W i' ys' H' →
          ∃ k', k' < m + 1 - i ∧ ∃ i ys H', k' = m + 1 - i ∧ Inv (X.compF scope N F G.objs.size { s2 with heap := G } (upd H2 D (.lst [])) [it] (X.pn ++ pins)) [] (List.replicate N.length none ++ fvOf js σ) H' s' ∧ tn i s'.heap ∧ H' it = none ∧ W i ys H' := by
        rintro i' ys' H' σ' s' rfl J' w'
        obtain ⟨q1, q2, _⟩ := J'.pin (it, o7) (List.mem_append_right _ (List.mem_singleton.mpr rfl))
        refine ⟨m + 1 - (i + 1), by omega, i + 1, ys', H', rfl, inv_fresh S I3 f3 J', T.keep _ _ _ st7 fun o z => ?_, q2, w'⟩
        rw [e7] at z
        cases z
        exact q1
      refine wpAny_mono (gg [(it, o7)] s7 _ H5 x u _ I7' rx (step x H5 yl)) (fun _ s8 z => ?_) (fun _ _ z => z.elim)
      obtain ⟨σ8, H8, I8, q8⟩ := z
      refine wpAny_mono (cc [(it, o7)] s8 σ8 H8 _ I8 q8) (fun b s9 z => ?_) (fun _ _ z => z.elim)
      obtain ⟨H9, I9, q9⟩ := z
      cases b with
      | false =>
        simp only [Bool.false_eq_true, if_false] at q9 ⊢
        exact back rfl I9 q9
      | true =>
        simp only [if_true] at q9 ⊢
        refine wpAny_mono (ee [(it, o7)] s9 σ8 H9 _ I9 q9) (fun y s10 z => ?_) (fun _ _ z => z.elim)
        obtain ⟨yv, H10, I10, ry, hD10, hz10, w10⟩ := z
        refine wpAny_mono (mt_append (X := X.compF scope N F G.objs.size { s2 with heap := G } (upd H2 D (.lst [])) [it] (X.pn ++ pins)) [(it, o7)] s10 σ8 H10 (.ref D) [yv] (.ref D) [y] (fun _ H11 => W (i + 1) (ys ++ [yv]) H11) I10 rfl (.cons ry .nil) ⟨D, ys, yv, rfl, rfl, hD10, hz10, w10⟩) (fun _ s11 z => ?_) (fun _ _ z => z.elim)
        obtain ⟨_, H11, I11, _, w11⟩ := z
        exact back rfl I11 w11
  exact codeAny_compStart_list loop (T.self _ 0 _ _ _ (T.keep _ _ _ st2 fun o e => kp it o (by rw [← hG]; exact Heap.get?_push_of_some _ e)) loop)
/-- the comprehension as a value -/

theorem pe_compF {elt target iter : Expr} {c : Expr} {tc : TT} {pos : Pos} {wi : TI} {g : TG} {te : TE} (S : CompScopeF N F js scope X.N X.env) (hd : HdOk X) (hi : PIH X target iter wi) (hex : X.ex = [])
    (hg : ∀ C s₀ H₀ ex pn, HdOk (X.compF scope N F C s₀ H₀ ex pn) → PG (X.compF scope N F C s₀ H₀ ex pn) target g)
    (hc : ∀ C s₀ H₀ ex pn, HdOk (X.compF scope N F C s₀ H₀ ex pn) → PT (X.compF scope N F C s₀ H₀ ex pn) c tc)
    (he : ∀ C s₀ H₀ ex pn, HdOk (X.compF scope N F C s₀ H₀ ex pn) → PE (X.compF scope N F C s₀ H₀ ex pn) elt te)
    (hs : ∀ x, foldedSetIterable iter X.env x = pure x := by intro _; rfl) : PE X (.ListComp elt [⟨target, iter, [c], 0⟩] scope pos) (tCompF N.length js wi g tc te) := by
  intro pins s σ H Q I h
  rw [eval_ListComp]
  refine wpAny_comprehension_free (use := none) rfl hs S.clos S.kind S.loc (comp_walkF S hd hi hex hg hc he I h (RR := fun acc ce r s' => compPost (model X.prog X.w) X.A X.xe none (EP X pins σ Q) acc ce.locals r s') ?_)
  intro D C s6 H5 mm I6 n6 f6 q
  exact ⟨mm, n6, fun h' sb => ⟨.ref D, H5, letgo I6 f6 sb, rfl, q⟩⟩
/-- name = the comprehension, on one row -/
theorem ps_compF {i : Nat} {y : Str} {py spos : Pos} {elt target iter : Expr} {c : Expr} {tc : TT} {pos : Pos} {wi : TI} {g : TG} {te : TE} (S : CompScopeF N F js scope X.N X.env) (hd : HdOk X) (hi : PIH X target iter wi) (hex : X.ex = [])
    (hg : ∀ C s₀ H₀ ex pn, HdOk (X.compF scope N F C s₀ H₀ ex pn) → PG (X.compF scope N F C s₀ H₀ ex pn) target g)
    (hc : ∀ C s₀ H₀ ex pn, HdOk (X.compF scope N F C s₀ H₀ ex pn) → PT (X.compF scope N F C s₀ H₀ ex pn) c tc)
    (he : ∀ C s₀ H₀ ex pn, HdOk (X.compF scope N F C s₀ H₀ ex pn) → PE (X.compF scope N F C s₀ H₀ ex pn) elt te) (hN : X.N.Nodup) (hi' : X.N[i]? = some y) (hy : Loc X.env.scope y)
    (hf : X.fn y = true ∨ X.env.scope.names.lookup y = some .local := by first | exact .inl rfl | exact .inr rfl | assumption)
    (hsw : swapsWith (.ListComp elt [⟨target, iter, [c], 0⟩] scope pos) (some (.Name y py)) spos.line X.env = pure true := by rfl)
    (hs : ∀ x, foldedSetIterable iter X.env x = pure x := by intro _; rfl) : PS X (.Assign [.Name y py] (.ListComp elt [⟨target, iter, [c], 0⟩] scope pos) spos) (tAsg (tCompF N.length js wi g tc te) (gName i)) := by
  intro pins s σ H D I h
  rw [exec_Assign_Name_used _ _ _ _ hsw]
  refine wpAny_bind (wpAny_standAt (wpAny_bind ?_))
  show wpAny _ X.A (do let _ ← comprehension (.ListComp elt [⟨target, iter, [c], 0⟩] scope pos) scope X.env _ (newList []) false (eval iter X.env) (some (assign (.Name y py) X.env))) _ _ s
  refine wpAny_bind (wpAny_mono (wpAny_comprehension_free (Q := fun _ s' => SP X pins D .next s') rfl hs S.clos S.kind S.loc (comp_walkF S hd hi hex hg hc he I h (RR := fun acc ce r s' => compPost (model X.prog X.w) X.A X.xe (some (assign (.Name y py) X.env)) (fun _ s' => SP X pins D .next s') acc ce.locals r s') ?_))
    (fun _ s' hq => wpAny_pure (wpAny_pure hq)) fun _ _ e => e)
  intro D' C s6 H5 mm I6 n6 f6 q
  refine wpAny_assign_Name (store_ok2 (v := .ref D') I6 hN hi' hy rfl (fun s7 I7 st => ?_) hf)
  obtain ⟨a, sb, ha⟩ := st
  have na : C ≠ a := by
    rcases ha with rfl | ha
    · exact f6.2.1
    · exact (f6.2.2.2.2.1 y a ha).symm
  exact ⟨mm, n6.sameBut sb na, fun h' sb' => ⟨_, _, letgo I7 f6 sb', q⟩⟩
end
end L2

set_option Elab.async false
set_option linter.all false
set_option maxRecDepth 100000
set_option maxHeartbeats 4000000
namespace L2
open PySem PySem.Spec PyProof.Rows PySem.W
/-- what of a comprehension's scope is seen in the text alone -/
structure CompS (N F : List Str) (sc : Scope) : Prop where
  kind : sc.kind = .function
  cell : ∀ y ∈ sc.names, y.2 ≠ .cell
  loc : ∀ y ∈ sc.names, y.2 = .local → sc.names.lookup y.1 = some .local
  fr : ∀ y ∈ sc.names, y.2 = .free → y.1 ∈ F
  nd : (N ++ F).Nodup
theorem fr_relabel {sc : Scope} {env : Env} {F : List Str} (cell : ∀ y ∈ sc.names, y.2 ≠ .cell) (fr : ∀ y ∈ sc.names, y.2 = .free → y.1 ∈ F) : ∀ y ∈ (relabel sc env).names, y.2 = .cell ∨ y.2 = .free → y.1 ∈ F := by
  intro y hy h
  obtain ⟨⟨n, k⟩, hm, e⟩ := List.mem_map.mp hy
  dsimp only at e
  split at e
  · rename_i hc
    subst e
    simp only [Bool.and_eq_true] at hc
    exact fr (n, k) hm (by simpa using hc.1.1)
  · subst e
    rcases h with h | h
    · exact absurd h (cell (n, k) hm)
    · exact fr (n, k) hm h
theorem CompScopeF.of1 {N : List Str} {x : Str} {j : Nat} {sc : Scope} {XN : List Str} {env : Env} (S : CompS N [x] sc) (clos : closureFor sc env = pure (clOf [x] env)) (hj : XN[j]? = some x) (hc : ∃ c, env.cells.lookup x = some c) (hk : env.kindOf x = some .cell)
    (hr : (relabel sc env).names.lookup x = some .cell) : CompScopeF N [x] [j] sc XN env :=
  ⟨S.kind, S.cell, S.loc, S.nd, clos, fr_relabel S.cell S.fr, fun k y h => match k, h with
    | 0, h => by cases h; exact ⟨⟨j, rfl, hj⟩, hc, hk, hr⟩
    | k + 1, h => by simp at h, rfl⟩
/-! ### in, of texts -/
theorem inV_str (z : Str) : ∀ zs : List Str, inV (.str z) (zs.map V.str) = zs.contains z
  | [] => rfl
  | y :: zs => by
    show (eqV (.str y) (.str z) || inV (.str z) (zs.map V.str)) = _
    rw [inV_str z zs, List.contains_cons]
    show ((y == z) || _) = _
    rw [BEq.comm]
theorem flat_strs : ∀ zs : List Str, (zs.map V.str).all flatV = true
  | [] => rfl
  | _ :: zs => flat_strs zs
/-! ### a walk over a tuple of the text -/
/-- [x for x in t if test], t a tuple of texts, the test told by f -/
theorem comp_tup {K : Frag} {H : Hp} {σ σf : L2.St} {a : Addr} {zs : List Str} {f : Str → Bool} {tc : TT} {te : TE} {Q : VK} (hl : ∀ H, SqT K H a (zs.map V.str)) (hz : zs.length ≤ 100)
    (ht : ∀ (z : Str) (H' : Hp) (Qb : Bool → Hp → Prop), Same H H' → Qb (f z) H' → tc (some (.str z) :: σf) H' Qb) (he : ∀ (z : Str) (H' : Hp) (Qv : VK), Qv (.str z) H' → te (some (.str z) :: σf) H' Qv)
    (k : ∀ D H', Same H H' → H D = none → H' D = some (.lst ((zs.filter f).map V.str)) → Q (.ref D) H') {js : List Nat} (hj : fvOf js σ = σf) : tCompF 1 js (iTup K (tC (.ref a))) (gName 0) tc te σ H Q := by
  refine ⟨a, rfl, ⟨_, hl H⟩, fun D hD => ⟨zs.length, fun i ys H2 => i ≤ zs.length ∧ ys = ((zs.take i).filter f).map V.str ∧ H2 = upd H D (.lst ys), ⟨Nat.zero_le _, rfl, rfl⟩, ?_⟩⟩
  rintro i ys H2 ⟨hi, rfl, rfl⟩
  refine ⟨hi, upd_same, ?_⟩
  have sm : Same H (upd H D (.lst (((zs.take i).filter f).map V.str))) := Same.upd hD
  have lz : (((zs.take i).filter f).map V.str).length ≤ 100 := by
    rw [List.length_map]
    exact Nat.le_trans (List.length_filter_le _ _) (by rw [List.length_take]; omega)
  by_cases hlt : i < zs.length
  · refine .inr ⟨hlt, ⟨_, V.str zs[i], hl _, by simp [hlt]⟩, fun x H3 y => ?_⟩
    obtain ⟨rfl, y⟩ := y
    have ex : x = V.str zs[i] := by
      have := y _ (hl _)
      simp [hlt] at this
      exact this.symm
    subst ex
    rw [hj]
    show tc (some (.str zs[i]) :: σf) _ _
    refine ht _ _ _ sm ?_
    have et : (zs.take (i + 1)).filter f = (zs.take i).filter f ++ (if f zs[i] then [zs[i]] else []) := by
      rw [List.take_succ_eq_append_getElem hlt, List.filter_append]
      congr 1
      cases hb : f zs[i] <;> simp [hb]
    cases hb : f zs[i] with
    | false =>
      refine iteF ⟨hlt, ?_, rfl⟩
      rw [et, hb]; simp
    | true =>
      refine iteT (he _ _ _ ⟨upd_same, Nat.lt_of_le_of_lt lz (small1000 (by decide)), hlt, ?_, ?_⟩)
      · rw [et, hb]; simp
      · rw [upd_upd]
  · have e : i = zs.length := by omega
    subst e
    refine .inl ⟨⟨_, hl _, by simp⟩, k D _ sm hD ?_⟩
    rw [List.take_length]
    exact upd_same
end L2
set_option Elab.async false
set_option linter.all false
set_option maxRecDepth 100000
set_option maxHeartbeats 4000000
/-! an exception class of one's own with an __init__ of its own, under another class of one's own -/
namespace L2
open PySem
section
variable {prog : Program} {w : World} {A : Around} {E : Value → Shared → Prop} {h : Heap} {g : Array GenState} {d : Drawn} {t : Nat} {os : OsState}
variable {nm q : Str} {C N : Addr} {bs bm bmB : List Value} {hdct : Bool} {sn : List Str} {sub : List Value} {ab : Bool} {col : Option Bool} {dd : Option Addr} {k0 k1 k2 k3 k5 : Option Value} {B newId initId : String}
theorem type_call_exc_initT (F : ExcBaseFacts B newId initId bmB) (T : OwnTail h bmB bm) {mN : Str → Option Value} {rest : List Value} {fI : Addr} {oI : Obj} {Q : Fin → Shared → Prop}
    (hC : h.get? C = some (excClassObj nm q C N bs bm hdct sn sub ab col dd k0 k1 k2 k3 k5 newId)) (hn : h.Ns N mN) (hi : mN "__init__" = some (.ref fI))
    (hfI : h.get? fI = some oI) (hfc : oI.cls = .type "function")
    (hq : ∀ h' e, Heap.MadeExcOf h h' e (.ref C) rest →
      wpAny (model prog w) A (call (.ref fI) (.ref e :: rest)) (fun r s' => r = .none ∧ Q (.done (.ret (.ref e))) s') E ⟨h', g, d, t, os⟩) (hrest : rest.length ≤ sizeLine) :
    wpAny (model prog w) A (Builtin.«type.__call__» ⟨.ref C :: rest, []⟩) Q E ⟨h, g, d, t, os⟩ := by
  repeat (first | with_reducible refine wpAny_loadPart_at hC ?_ | with_reducible refine wpAny_madeBy_exc hC ?_ | wp_step)
  refine codeAny_call_builtin_code (Code.quiet_builtin _ F.quiet) (wpAny_check_new_subT F T hC ?_)
  refine codeAny_exc_new_subT F T hC ?_ hrest
  show wpAny _ _ _ _ _ _
  have hC₁ := Heap.get?_push_of_some { cls := .ref C, data := .fields #[.ref h.objs.size, .none, .none, .none, .bool false, .none] }
    (Heap.get?_push_of_some { cls := .type "tuple", data := .seq rest.toArray } hC)
  have hfI₁ := Heap.get?_push_of_some { cls := .ref C, data := .fields #[.ref h.objs.size, .none, .none, .none, .bool false, .none] }
    (Heap.get?_push_of_some { cls := .type "tuple", data := .seq rest.toArray } hfI)
  have hn₁ : ((h.push { cls := .type "tuple", data := .seq rest.toArray }).push { cls := .ref C, data := .fields #[.ref h.objs.size, .none, .none, .none, .bool false, .none] }).Ns N mN :=
    let ⟨o, es, ep, e, r⟩ := hn; ⟨o, es, ep, Heap.get?_push_of_some _ (Heap.get?_push_of_some _ e), r⟩
  have hget : ((h.push { cls := .type "tuple", data := .seq rest.toArray }).push
      { cls := .ref C, data := .fields #[.ref h.objs.size, .none, .none, .none, .bool false, .none] }).get? (h.objs.size + 1) = some
      { cls := .ref C, data := .fields #[.ref h.objs.size, .none, .none, .none, .bool false, .none] } := by heap_get
  have hcC : (Value.ref C :: bm).contains (.ref C) = true := by simp
  have T₁ := T.keeps (h' := (h.push { cls := .type "tuple", data := .seq rest.toArray }).push { cls := .ref C, data := .fields #[.ref h.objs.size, .none, .none, .none, .bool false, .none] })
    fun b o e => Heap.get?_push_of_some _ (Heap.get?_push_of_some _ e)
  unfold isInstance
  repeat (first | with_reducible refine wpAny_loadPart_at hget ?_ | (with_reducible refine wpAny_isSubtype_exc hC₁ ?_; rw [hcC]) | wp_step)
  show wpAny _ _ (typeLookup (.ref C) _) _ _ _
  refine wpAny_typeLookup_tail hC₁ hn₁ T₁ F.mroIs F.init.lookup ?_
  rw [hi]
  refine wpAny_holding (wpAny_bind ?_)
  unfold bindSpecial
  refine wpAny_bind (wpAny_typeOf (T := "function") ⟨_, hfI₁, hfc⟩ ?_)
  rw [if_pos (by decide)]
  refine wpAny_pure (wpAny_bind (wpAny_mono (hq _ (h.objs.size + 1) ⟨fun b o hb => Heap.get?_push_of_some _ (Heap.get?_push_of_some _ hb), Heap.get?_none_of_le (Nat.le_succ _), h.objs.size, hget, Heap.get?_none_of_le (Nat.le_refl _), ?_⟩) (fun r s' hr => ?_) fun _ _ x => x))
  · exact Heap.get?_push_of_some _ (Heap.get?_push_at rfl rfl)
  · obtain ⟨rfl, hQ⟩ := hr
    wp_walk
    exact hQ
theorem call_exc_initT (F : ExcBaseFacts B newId initId bmB) (T : OwnTail h bmB bm) {mN : Str → Option Value} {rest : List Value} {fI : Addr} {oI : Obj} {Q : Value → Shared → Prop}
    (hC : h.get? C = some (excClassObj nm q C N bs bm hdct sn sub ab col dd k0 k1 k2 k3 k5 newId)) (hn : h.Ns N mN) (hi : mN "__init__" = some (.ref fI))
    (hfI : h.get? fI = some oI) (hfc : oI.cls = .type "function")
    (hq : ∀ h' e, Heap.MadeExcOf h h' e (.ref C) rest →
      wpAny (model prog w) (A.under (.builtin "type.__call__" ⟨.ref C :: rest, []⟩)) (call (.ref fI) (.ref e :: rest)) (fun r s' => r = .none ∧ Q (.ref e) s') E ⟨h', g, d, t, os⟩) (hrest : rest.length ≤ sizeLine) :
    wpAny (model prog w) A (call (.ref C) rest) Q E ⟨h, g, d, t, os⟩ := by
  have f1 := tc_lookup
  have f2 := tc_bind (.ref C)
  have hT : (⟨h, g, d, t, os⟩ : Shared).TypeIs (.ref C) "type" := ⟨_, hC, rfl⟩
  refine wpAny_call (codeAny_of_tree ?_)
  show wpAny _ _ (callAny (.ref C) _) _ _ _
  repeat (any_goals (first | assumption | with_reducible refine wpAny_loadPart_at hC ?_ | wp_step))
  refine ⟨rfl, ?_⟩
  refine codeAny_call_builtin_at (Code.quiet_builtin _ (by decide +kernel)) entry_typeCall (wpAny_check_type_call_sub hC (type_call_exc_initT (hrest := hrest) F T hC hn hi hfI hfc fun h' e hm => ?_))
  exact hq h' e hm
end
section
variable {M : Model} {prog : Program} {w : World} {A : Around} {E : Value → Shared → Prop} {s : Shared} {env : Env}
variable {nm q : Str} {C N : Addr} {bs bm bmB : List Value} {hdct : Bool} {sn : List Str} {sub : List Value} {ab : Bool} {col : Option Bool} {dd : Option Addr} {k0 k1 k2 k3 k5 : Option Value} {B newId initId : String}
theorem raiseStmt_dict {x : Sem Value} {Q : Flow → Shared → Prop} (hbase : bm.contains (.type "BaseException") = true) (hh : A.handled = none)
    (h : wpAny M A x (fun v s₁ => ∃ e t de, v = .ref e ∧ s₁.heap.get? C = some (excClassObj nm q C N bs bm hdct sn sub ab col dd k0 k1 k2 k3 k5 newId) ∧
      s₁.heap.get? e = some { cls := .ref C, dict := de, data := .fields #[.ref t, .none, .none, .none, .bool false, .none] } ∧ E (.ref e) s₁) E s) :
    wpAny M A (raiseStmt env (some x) none) Q E s := by
  have hcB : (Value.ref C :: bm).contains (.type "BaseException") = true := by rw [List.contains_cons, hbase, Bool.or_true]
  unfold raiseStmt
  refine wpAny_bind (wpAny_mono h (fun v s₁ h₁ => ?_) fun _ _ x => x)
  obtain ⟨e, t, de, rfl, hC, he, hE⟩ := h₁
  obtain ⟨hp, g, d, tk, os⟩ := s₁
  repeat (first | with_reducible refine wpAny_loadPart_at he ?_ | with_reducible refine wpAny_loadPart_at hC ?_ | (with_reducible refine wpAny_isSubtype_exc hC ?_; rw [hcB]) | wp_step)
  exact wpAny_raiseNew_none hh hE
/-- raise C(..) -/
theorem Raise_call_initT (F : ExcBaseFacts B newId initId bmB) {mN : Str → Option Value} {x : Str} {np cpos pos : Pos} {args : List Expr} {Q : Flow → Shared → Prop} {fI : Addr} {oI : Obj}
    (hbase : bm.contains (.type "BaseException") = true) (hh : A.handled = none) (hplain : (backTo cpos (starEach args env)).any (·.1) = false) (hi : mN "__init__" = some (.ref fI)) (hfc : oI.cls = .type "function")
    (h : wpAny (model prog w) A (eval (.Name x np) env) (fun f s₁ => f = .ref C ∧ wpAny (model prog w) A (evalArgs (.ref C) true (backTo cpos (starEach args env)) [])
      (fun a s₂ => a.kw = [] ∧ a.pos.length ≤ sizeLine ∧ s₂.heap.get? C = some (excClassObj nm q C N bs bm hdct sn sub ab col dd k0 k1 k2 k3 k5 newId) ∧ s₂.heap.Ns N mN ∧ OwnTail s₂.heap bmB bm ∧ s₂.heap.get? fI = some oI ∧
        ∀ h' e, Heap.MadeExcOf s₂.heap h' e (.ref C) a.pos → wpAny (model prog w) (A.under (.builtin "type.__call__" ⟨.ref C :: a.pos, []⟩)) (call (.ref fI) (.ref e :: a.pos))
          (fun r s₃ => r = .none ∧ s₃.heap.get? C = some (excClassObj nm q C N bs bm hdct sn sub ab col dd k0 k1 k2 k3 k5 newId) ∧ (∃ t de, s₃.heap.get? e = some { cls := .ref C, dict := de, data := .fields #[.ref t, .none, .none, .none, .bool false, .none] }) ∧ E (.ref e) s₃) E { s₂ with heap := h' }) E s₁) E s) :
    wpAny (model prog w) A (exec (.Raise (some (.Call (.Name x np) args [] cpos)) none pos) env) Q E s := by
  rw [arm_exec_Raise]
  first
    | refine wpAny_bind (wpAny_standAt (raiseStmt_dict (C := C) (nm := nm) (q := q) (N := N) (bs := bs) (bm := bm) (hdct := hdct) (sn := sn) (sub := sub) (ab := ab) (col := col) (dd := dd) (k0 := k0) (k1 := k1) (k2 := k2) (k3 := k3) (k5 := k5) (newId := newId) hbase hh (wpAny_bind (wpAny_mono (wpAny_Call_ofName (wpAny_mono h (fun f s₁ h₁ => ?_) fun _ _ x => x)) (fun v s₃ h₃ => wpAny_bind (wpAny_standAt (wpAny_pure h₃))) fun _ _ x => x))))
    | (simp only [evalOpt, Option.map]; refine wpAny_bind (wpAny_standAt (raiseStmt_dict (C := C) (nm := nm) (q := q) (N := N) (bs := bs) (bm := bm) (hdct := hdct) (sn := sn) (sub := sub) (ab := ab) (col := col) (dd := dd) (k0 := k0) (k1 := k1) (k2 := k2) (k3 := k3) (k5 := k5) (newId := newId) hbase hh (wpAny_bind (wpAny_mono (wpAny_Call_ofName (wpAny_mono h (fun f s₁ h₁ => ?_) fun _ _ x => x)) (fun v s₃ h₃ => wpAny_bind (wpAny_standAt (wpAny_pure h₃))) fun _ _ x => x)))))
  obtain ⟨rfl, h₁⟩ := h₁
  unfold callWith
  refine wpAny_bind (wpAny_holding (wpAny_mono h₁ (fun a s₂ h₂ => wpAny_bind (wpAny_standAt ?_)) fun _ _ x => x))
  obtain ⟨apos, akw⟩ := a
  obtain ⟨hkw, hlen, hC, hn, T, hf, h₂⟩ := h₂
  obtain rfl : akw = [] := hkw
  obtain ⟨hp, g, d, tk, os⟩ := s₂
  simp only [hplain]
  refine wpAny_bind (wpAny_keeperOf_exc hC ?_)
  refine wpAny_bind (call_exc_initT F T hC hn hi hf hfc (fun h' e hm => wpAny_mono (h₂ h' e hm) (fun r s₃ z => ⟨z.1, wpAny_bind (wpAny_holding (wpAny_point (wpAny_pure ?_)))⟩) fun _ _ x => x) hlen)
  obtain ⟨_, hC3, ⟨t, de, he⟩, hE⟩ := z
  exact ⟨e, t, de, rfl, hC3, he, hE⟩
end
end L2
set_option Elab.async false
set_option linter.all false
set_option maxRecDepth 100000
set_option maxHeartbeats 4000000
namespace L2
open PySem PySem.Spec PyProof.Rows PySem.W
/-! ### an own exception class with an __init__ of its own -/
abbrev veMro : List Value := [.type "ValueError", .type "Exception", .type "BaseException", .type "object"]
structure ExcI (K : Frag) (C fI : Addr) : Prop where
  cls : ∃ nm q N bs bm sn sub ab col dd k0 k1 k2 k3 k5, K.lookup C = some (excClassObj nm q C N bs bm true sn sub ab col dd k0 k1 k2 k3 k5 "ValueError.__new__") ∧ nsOkIn K N = true ∧ nsIn K N "__init__" = some (some (.ref fI)) ∧ tailIn K veMro bm = true
  fn : ∃ o, K.lookup fI = some o ∧ o.cls = .type "function"
  sa : findIn K (.ref C) "__setattr__" = some (some (.builtin "object.__setattr__"))
  ob : mroIn K C (.type "object") = some true
theorem ns_some_of {K : Frag} {h : Heap} {N : Addr} {mg : Str → Option Value} {n : Str} {v : Value} (X : K.In h) (G : h.Ns N mg) (e : nsIn K N n = some (some v)) : mg n = some v := by
  obtain ⟨o, es, ep, ho, hd, _, hf⟩ := G
  unfold nsIn at e
  split at e
  · rename_i c d es' n' sl q
    have := X _ _ q
    rw [ho] at this
    cases this
    cases hd
    split at e
    · rename_i en he
      cases e
      rw [← hf]
      unfold nsFind findBy
      rw [← Array.find?_toList, he]
      rfl
    · split at e <;> cases e
  · cases e
theorem refuse_tail {h : Heap} (self : Value) : ∀ {l : List Value}, OwnTail h veMro l → refuseLoop self "__setattr__" l = pure ()
  | _, .base => PySem.F.store_ValueError.passes self
  | _, .own _ _ _ t => by rw [refuseLoop_ref]; exact refuse_tail self t
section
variable {prog : Program} {w : World} {A : Around} {s : Shared} {K : Frag} {C e fI : Addr} {t : Addr} {R : Result → Shared → Prop} {name : Str} {tk : Tok} {v : Value}
theorem osa_exc (X : K.In s.heap) (F : ExcI K C fI) (he : s.heap.get? e = some (ExcO (.ref C) t none .none)) (ht : findIn K (.ref C) name = some none)
    (h : ∀ h' tk' d, (∀ b ob, b ≠ e → s.heap.get? b = some ob → h'.get? b = some ob) → h'.get? e = some (ExcO (.ref C) t (some d) .none) → h'.Ns1 d (fun y => if y = name then some v else none) → s.heap.get? d = none → d ≠ e →
      R (.ok (.ret .none)) { s with heap := h', toks := tk' }) :
    codeAny (model prog w) A (.call (.builtin "object.__setattr__") ⟨[.ref e, .str name tk, v], []⟩) R s := by
  have SF := PySem.F.store_object
  obtain ⟨nm, q, N, bs, bm, sn, sub, ab, col, dd, k0, k1, k2, k3, k5, lC, nO, nI, tl⟩ := F.cls
  have hC := X _ _ lC
  have I : PySem.W.InstAt s.heap e (ExcO (.ref C) t none .none) C none := ⟨he, rfl, rfl, trivial⟩
  have hc : clsIn K C = some { name := nm, bases := bs, mro := .ref C :: bm, ns := N, qualname := q, hasDict := true, slotNames := sn, subclasses := sub, abstract := ab, collection := col, hasDel := false } := by
    unfold clsIn
    rw [lC]
  have sub' : Looks (model prog w) s.heap (isInstance (.ref e) (.type "object")) true := I.type.andThen (looks_mroIn X F.ob)
  refine codeAny_call_builtin SF.slot.plain SF.entry (@check_slot (model prog w) _ _ s "object.__setattr__" "object" "__setattr__" (.ref e) [.str name tk, v] [] _ SF.kind SF.split sub' (SF.args (.ref e) (.str name tk) v) ?_)
  have hm : Looks (model prog w) s.heap (mroOf (.ref C)) (.ref C :: bm) := (looks_clsIn X hc).andThen .now
  have L3 : Looks (model prog w) s.heap (Builtin.ObjectAttr.storeTaker? none) none := .now
  rw [osa_eq, refuse_eq]
  refine wpAny_bind (wpAny_bind (I.type.here (wpAny_bind (hm.here ?_))))
  rw [refuseLoop_ref, refuse_tail _ (tail_of_in X tl)]
  refine wpAny_pure (wpAny_bind (I.type.here (wpAny_bind ((looks_findIn X ht).here (wpAny_bind (L3.here ?_))))))
  dsimp only
  refine wpAny_bind (wpAny_pure (wpAny_bind (wpAny_bind (wpAny_loadPart he (wpAny_bind (PySem.W.Looks.here (PySem.W.looks_clsIn X hc) ?_))))))
  have hx₁ : (s.heap.push { cls := .type "dict", data := .dict #[] }).get? e = some (ExcO (.ref C) t none .none) := Heap.get?_push_of_some _ he
  have hxs : e ≠ s.heap.objs.size := Nat.ne_of_lt (Heap.lt_size he)
  show wpAny (model prog w) A.in1 (do
      let d ← alloc { cls := Value.type "dict", data := Data.dict #[] }
      update e fun o => { cls := o.cls, dict := some d, data := o.data, slots := o.slots }
      pure (some d)) _ _ _
  refine wpAny_bind (wpAny_alloc' ?_)
  refine wpAny_bind (wpAny_update' hx₁ ?_)
  refine wpAny_pure ?_
  have hgd : ((s.heap.push { cls := .type "dict", data := .dict #[] }).update e fun o => { cls := o.cls, dict := some s.heap.objs.size, data := o.data, slots := o.slots }).get? s.heap.objs.size
      = some { cls := .type "dict", data := .dict #[] } :=
    (Heap.get?_update_ne _ _ _ _ hxs.symm).trans (Heap.get?_push_at rfl rfl)
  have hnd : ((s.heap.push { cls := .type "dict", data := .dict #[] }).update e fun o => { cls := o.cls, dict := some s.heap.objs.size, data := o.data, slots := o.slots }).Ns s.heap.objs.size (fun _ => none) :=
    ⟨_, #[], _, hgd, rfl, fun e he => absurd he (by simp), fun _ => rfl⟩
  show wpAny _ _ (Builtin.ObjectAttr.storeInDict s.heap.objs.size (.str name tk) name v) _ _ _
  unfold Builtin.ObjectAttr.storeInDict Builtin.ObjectAttr.newKeyGuard
  refine wpAny_bind (wpAny_pure (wpAny_bind (wpAny_nsSet1 (Heap.Ns1.of_empty hnd) fun h' hn' hs => ?_)))
  obtain ⟨oD, esD, epD, hoD, hdD, hcD⟩ := hn'.count (Within.cons name v Within.nil)
  refine wpAny_bind (wpAny_lookBehind hoD (by rw [hdD]; exact pastItsLine_dict (Nat.le_trans hcD (by rw [List.length_cons, List.length_nil, sizeLine_eq]; omega))) ?_)
  have hx' : h'.get? e = some (ExcO (.ref C) t (some s.heap.objs.size) .none) := (hs.2 e hxs).trans (Heap.get?_update_self _ hx₁ rfl)
  refine wpAny_pure (h h' _ s.heap.objs.size (fun b ob hbx hb => ?_) hx' hn' (Heap.get?_none_of_le (Nat.le_refl _)) hxs.symm)
  exact (hs.2 b (Nat.ne_of_lt (Heap.lt_size hb))).trans ((Heap.get?_update_ne _ _ _ _ hbx).trans (Heap.get?_push_of_some _ hb))
end
/-- the exception at e, of the class C, on its way to be made -/
def excIs (e C t : Addr) (d : Option Addr) : Heap → Prop := fun h => h.get? e = some (ExcO (.ref C) t d .none)
theorem ext_ok {P : Program} {w : World} {H : Hp} {h : Heap} {e C t : Addr} {d : Option Addr} (q : h.get? e = some (ExcO (.ref C) t d .none)) : ObjOk P w H h e (.ext (excIs e C t d)) :=
  ⟨q, ⟨_, q⟩, fun _ _ z k => k _ z⟩
section
variable {X : Cx} {pins : List (Addr × Obj)} {σ : St} {H : Hp} {s : Shared}
/-- a new thing is tracked from now on -/
theorem Inv.trackO {a : Addr} {ho : HO} (I : Inv X pins σ H s) (n : Nw X pins H a) (ok : ObjOk X.prog X.w (upd H a ho) s.heap a ho) : Inv X pins σ (upd H a ho) s := by
  have ne : ∀ b u, H b = some u → b ≠ a := fun b u z q => by rw [q, n.un] at z; cases z
  have up : ∀ b, b ≠ a → upd H a ho b = H b := fun b hb => upd_ne hb
  refine ⟨I.ok, I.os, I.bare, ⟨I.base.keep, I.base.slot, fun b u z m hx => ?_, I.base.there, fun b xs z => ?_, fun b u v z => ?_, fun b ps z => ?_⟩, I.loc, I.cell, ?_, fun x c z => ?_, fun p hp => ?_, fun b u z => ?_, I.len⟩
  · rw [up b fun q => by rw [q, n.old] at z; cases z]
    exact I.base.free b u z m hx
  · have := I.base.tups b xs z
    rw [up b (ne b _ this)]; exact this
  · have := I.base.frzs b u v z
    rw [up b (ne b _ this)]; exact this
  · obtain ⟨more, this⟩ := I.base.tbls b ps z
    exact ⟨more, by rw [up b (ne b _ this)]; exact this⟩
  · rw [up _ (Ne.symm n.loc)]; exact I.free
  · rw [up _ (n.cell x c z)]; exact I.freeC x c z
  · obtain ⟨q1, q2, q3⟩ := I.pin p hp
    exact ⟨q1, by rw [up _ (n.pin p hp)]; exact q2, q3⟩
  · by_cases hb : b = a
    · subst hb
      rw [upd_same] at z
      cases z
      exact ok
    · rw [up b hb] at z
      exact (I.hok b u z).stay (fun _ _ _ q => q) (fun c q => by rw [up c (ne c _ q)]; exact q) (fun c xs q => by rw [up c (ne c _ q)]; exact q)
/-- nobody's again -/
def rem (H : Hp) (a : Addr) : Hp := fun b => if b = a then none else H b
theorem rem_same {a : Addr} : rem H a a = none := by unfold rem; rw [if_pos rfl]
theorem rem_ne {a b : Addr} (h : b ≠ a) : rem H a b = H b := by unfold rem; rw [if_neg h]
theorem Inv.forget {a : Addr} {φ : Heap → Prop} (I : Inv X pins σ H s) (e : H a = some (.ext φ)) : Inv X pins σ (rem H a) s := by
  have ne : ∀ b u, H b = some u → (∀ φ, u ≠ .ext φ) → b ≠ a := fun b u z q w => by rw [w, e] at z; cases z; exact q _ rfl
  have non : ∀ b, H b = none → rem H a b = none := fun b z => by
    by_cases q : b = a
    · rw [q]; exact rem_same
    · rw [rem_ne q]; exact z
  refine ⟨I.ok, I.os, I.bare, ⟨I.base.keep, I.base.slot, fun b u z m hx => non b (I.base.free b u z m hx), I.base.there, fun b xs z => ?_, fun b u v z => ?_, fun b ps z => ?_⟩, I.loc, I.cell, non _ I.free, fun x c z => non _ (I.freeC x c z), fun p hp => ?_, fun b u z => ?_, I.len⟩
  · have := I.base.tups b xs z
    rw [rem_ne (ne b _ this (fun _ q => nomatch q))]; exact this
  · have := I.base.frzs b u v z
    rw [rem_ne (ne b _ this (fun _ q => nomatch q))]; exact this
  · obtain ⟨more, this⟩ := I.base.tbls b ps z
    exact ⟨more, by rw [rem_ne (ne b _ this (fun _ q => nomatch q))]; exact this⟩
  · obtain ⟨q1, q2, q3⟩ := I.pin p hp
    exact ⟨q1, non _ q2, q3⟩
  · have hb : b ≠ a := fun q => by rw [q, rem_same] at z; cases z
    rw [rem_ne hb] at z
    exact (I.hok b u z).stay (fun _ _ _ q => q) (fun c q => by rw [rem_ne (ne c _ q (fun _ w => nomatch w))]; exact q) (fun c xs q => by rw [rem_ne (ne c _ q (fun _ w => nomatch w))]; exact q)
end
/-- self.f = value, self an exception -/
def sFldX (C : Addr) (ta tv : TE) (f : Str) : TS := fun D σ H => tv σ H fun y H1 => ta σ H1 fun x H2 => ∃ e t, x = .ref e ∧ H2 e = some (.ext (excIs e C t none)) ∧
  ∀ d, H2 d = none → d ≠ e → D.nx σ (upd (upd H2 e (.ext (excIs e C t (some d)))) d (.xd [(f, y)]))
section
variable {X : Cx} {o value : Expr} {f : Str} {pos pos' : Pos} {ta tv : TE} {C fI : Addr}
theorem psx_fld (F : ExcI X.K C fI) (hf : findIn X.K (.ref C) f = some none) (ha : PE X o ta) (hv : PE X value tv) (hs : swapsWith value (some (.Attribute o f pos')) pos.line X.env = pure false) (hex : X.ex = [] := by rfl) :
    PS X (.Assign [.Attribute o f pos'] value pos) (sFldX C ta tv f) := by
  intro pins s σ H D I h
  refine plainObj_wpAny_Assign_Attribute (thn (hv pins s σ H _ I h) fun u s1 ⟨y, H1, I1, ry, q⟩ => thn (ha pins s1 σ H1 _ I1 q) fun ov s2 ⟨x, H2, I2, rx, e, t, ex, ea, q2⟩ => ?_) hs
  subst ex
  obtain rfl : ov = Value.ref e := rx
  have he : s2.heap.get? e = some (ExcO (.ref C) t none .none) := (I2.hok e _ ea).1
  refine set_plain I2.kIn (⟨he, rfl, rfl, trivial⟩ : PySem.W.InstAt s2.heap e (ExcO (.ref C) t none .none) C none) F.sa (osa_exc (s := { s2 with toks := s2.toks + 1 }) I2.kIn F he hf fun h' tk' d k1 k2 k3 k4 k5 => ?_)
  have nd : H2 d = none := I2.hok.new k4
  have I3 : Inv X pins σ (upd H2 e (.ext (excIs e C t (some d)))) { s2 with heap := h', toks := tk' } :=
    I2.write (x := e) (e := e) (by rw [ea]; exact trivial) (.inl rfl) (fun b u hb z => k1 b u hb z) ⟨_, k2⟩ (ext_ok k2)
  have nw : Nw X pins (upd H2 e (.ext (excIs e C t (some d)))) d := I2.nw hex k4 (by rw [upd_ne k5]; exact nd)
  refine ⟨σ, _, I3.trackO (ho := .xd [(f, y)]) nw ⟨_, k3, fun g => ?_⟩, q2 d nd k5⟩
  show RelO (List.lookup g [(f, y)]) (if g = f then some u else none)
  by_cases z : g = f
  · rw [if_pos z, z]
    have : List.lookup f [(f, y)] = some y := by simp [List.lookup]
    rw [this]; exact ry
  · rw [if_neg z]
    have : List.lookup g [(f, y)] = none := by
      have hb : (g == f) = false := beq_eq_false_iff_ne.mpr z
      simp [List.lookup, hb]
    rw [this]; exact trivial
end
/-- what the __init__ of such a class does: self.f = its argument -/
def spExcI (C : Addr) (f : Str) : Sp := fun vs H Q _ => ∃ e t v, vs = [.ref e, v] ∧ H e = some (.ext (excIs e C t none)) ∧ ∀ d, H d = none → d ≠ e → Q .non (upd (upd H e (.ext (excIs e C t (some d)))) d (.xd [(f, v)]))
/-- raise C(e) -/
def tRaiseI (C : Addr) (f : Str) (EH : EK) (t : TA) : TS := fun _ σ H => t σ H fun vs H1 => ∃ v, vs = [v] ∧ ∀ d H2, Same H1 H2 → H1 d = none → H2 d = some (.xd [(f, v)]) → EH (.ref C) (some d) σ H2
section
variable {X : Cx} {x f : Str} {p cpos pos : Pos} {e : Expr} {t : TA} {C fI : Addr} {fdI : FuncData} {ps : List Str} {EH : EK} {j k : Nat}
theorem ps_raiseI (hm : X.mg x = some (.ref C)) (F : ExcI X.K C fI) (G : FnOk X.prog X.w X.K X.mg X.base CX0 j fI fdI ps (spExcI C f)) (bI : Binds X.K fdI ps []) (hr : Room k X.A) (hx : Catches X EH) (ha : PA X [e] t) (hj : j + 1 ≤ k := by decide) (hg : Gl X x := by rfl) (hex : X.ex = [] := by rfl)
    (hdb : (x == ("__debug__" : Str)) = false := by decide) (he : starEach [e] X.env = (false, eval e X.env) :: starEach [] X.env := by rfl) (hpl : (backTo cpos (starEach [] X.env)).any (·.1) = false := by rfl) :
    PS X (.Raise (some (.Call (.Name x p) [e] [] cpos)) none pos) (tRaiseI C f EH t) := by
  intro pins s σ H D I h
  obtain ⟨nm, q, N, bs, bm, sn, sub, ab, col, dd, k0, k1, k2, k3, k5, lC, nO, nI, tl⟩ := F.cls
  obtain ⟨oI, lI, cI⟩ := F.fn
  have T0 : OwnTail X.base veMro bm := tail_of_in I.ok.mod.kin tl
  have hN0 : X.base.Ns N (X.base.nsMap N) := .of_isNs (isNs_of_in I.ok.mod.kin nO)
  have hi0 : X.base.nsMap N "__init__" = some (.ref fI) := ns_some_of I.ok.mod.kin hN0 nI
  refine Raise_call_initT (C := C) (nm := nm) (q := q) (N := N) (bs := bs) (bm := bm) (hdct := true) (sn := sn) (sub := sub) (ab := ab) (col := col) (dd := dd) (k0 := k0) (k1 := k1) (k2 := k2) (k3 := k3) (k5 := k5) (oI := oI) PySem.F.excBase_ValueError (mN := X.base.nsMap N) (T0.hasType PySem.F.excBase_ValueError.hasBase) hr.hd
    (by rw [he]; show (false || (backTo cpos (starEach [] X.env)).any (·.1)) = false; rw [hpl]; rfl) hi0 cI (ld_glob I hg hm ⟨rfl, ?_⟩ hdb)
  have ha' := ha cpos pins s σ H _ I h
  rw [he] at ha' ⊢
  refine Calls.evalArgs_plain (wpAny_mono ha' (fun us s2 ⟨vs, H1, I1, r, v, ev, z⟩ => ?_) fun _ _ y => y)
  subst ev
  obtain ⟨u, rfl, ru⟩ := r.one
  refine ⟨rfl, line1000 (by show 1 ≤ 1000; decide), I1.kIn _ _ lC, hN0.keeps I1.bk, T0.keeps I1.bk, I1.kIn _ _ lI, fun h' a m => ?_⟩
  obtain ⟨t', e1, tn, e2⟩ := m.there
  have I2 : Inv X pins σ H1 { s2 with heap := h' } := I1.kept (t' := s2.toks) m.keeps
  have na : H1 a = none := I1.hok.new m.new
  have I3 := I2.trackO (ho := .ext (excIs a C t' none)) (I1.nw hex m.new na) (ext_ok e1)
  have sp0 : spExcI C f [.ref a, v] (upd H1 a (.ext (excIs a C t' none))) (fun v0 H' => v0 = .non ∧ ∃ d, H1 d = none ∧ d ≠ a ∧ H' = upd (upd (upd H1 a (.ext (excIs a C t' none))) a (.ext (excIs a C t' (some d)))) d (.xd [(f, v)])) E0 :=
    ⟨a, t', v, rfl, upd_same, fun d nd nda => ⟨rfl, d, by rw [upd_ne nda] at nd; exact nd, nda, rfl⟩⟩
  have rr : Vals [.ref a, v] [.ref a, u] := .cons rfl (.cons ru .nil)
  have hl : ([Value.ref a, u] ++ []).length = ps.length := by
    have := G.len _ _ _ _ sp0
    rw [← this]; rfl
  refine wpAny_call (codeAny_mono (G.run _ X.stack _ _ ⟨[.ref a, u], []⟩ ([.ref a, u] ++ []) [.ref a, v] _ E0 ((hr.mono hj).make C [u] []) (I3.env0.make C [u] []) (bI _ [.ref a, u] I3.kIn hl) rr sp0) fun r s' hq => ?_)
  cases r with
  | error e => exact hq.elim
  | ok fl =>
    cases fl with
    | ret u0 =>
      obtain ⟨v0, H', I4, rv, ev, d, nd, nda, eH⟩ := I3.after hq
      subst ev eH
      have ea : (upd (upd (upd H1 a (.ext (excIs a C t' none))) a (.ext (excIs a C t' (some d)))) d (.xd [(f, v)])) a = some (.ext (excIs a C t' (some d))) := by
        rw [upd_ne (Ne.symm nda), upd_same]
      have g1 : s'.heap.get? a = some (ExcO (.ref C) t' (some d) .none) := (I4.hok a _ ea).1
      refine ⟨rv, I4.kIn _ _ lC, ⟨t', some d, g1⟩, ?_⟩
      refine hx pins σ _ s' a t' (.ref C) (some d) (I4.forget ea) ⟨I1.nw hex m.new rem_same, .none, g1, .inl rfl, fun T z => nomatch z⟩ (z d _ (fun b ob q => ?_) nd ?_)
      · have nb : b ≠ a := ne_of_none q na
        have nbd : b ≠ d := ne_of_none q nd
        rw [rem_ne nb, upd_ne nbd, upd_ne nb, upd_ne nb]
        exact q
      · rw [rem_ne nda, upd_same]
    | next => exact hq.elim
    | brk => exact hq.elim
    | cont => exact hq.elim
end
end L2
set_option Elab.async false
set_option linter.all false
set_option maxRecDepth 100000
set_option maxHeartbeats 4000000
namespace L2
open PySem PySem.Spec PyProof.Rows PySem.W
section
variable {X : Cx} {e : Expr} {f : Str} {pos : Pos} {ta : TE}
end
end L2
set_option Elab.async false
set_option linter.all false
set_option maxRecDepth 100000
set_option maxHeartbeats 4000000
namespace L2
open PySem PySem.Spec PyProof.Rows PySem.W
section
variable {X : Cx}
end
end L2
set_option Elab.async false
set_option linter.all false
set_option maxRecDepth 100000
set_option maxHeartbeats 4000000
namespace L2
open PySem PySem.Spec PyProof.Rows PySem.W
section
variable {X : Cx}
end
end L2
namespace L2
open PySem PySem.Spec PyProof.Rows PySem.W
section
variable {X : Cx} {a b : Expr} {rest : List Expr} {pos : Pos} {ta tb : TE}
end
end L2
set_option Elab.async false
set_option linter.all false
set_option maxRecDepth 100000
set_option maxHeartbeats 4000000
namespace L2
open PySem PySem.Spec PyProof.Rows PySem.W
end L2
namespace L2
open PySem PySem.Spec PyProof.Rows PySem.W
end L2
set_option Elab.async false
set_option linter.all false
set_option maxRecDepth 100000
set_option maxHeartbeats 4000000
namespace L2
open PySem PySem.Spec PyProof.Rows PySem.W
/-! ### calls that never raise, wherever they stand -/
section
variable {X : Cx} {j k : Nat} {f C : Addr} {fd : FuncData} {ps : List Str} {sp : Sp} {dvs : List V} {ds : List Value} {x m : Str} {p pos apos : Pos} {e o : Expr} {es : List Expr} {ta : TE} {t : TA} {st : Stmt}
end
end L2
set_option Elab.async false
set_option linter.all false
set_option maxRecDepth 100000
set_option maxHeartbeats 4000000
namespace L2
open PySem PySem.Spec PyProof.Rows PySem.W
/-! ### comprehensions over what a for walks -/
section
variable {X : Cx} {N F : List Str} {js : List Nat} {scope : Scope}
theorem inv_compG {pins : List (Addr × Obj)} {σ : St} {H : Hp} {s : Shared} {fp : List Addr} {h' : Heap} (S : CompScopeF N F js scope X.N X.env) (I : Inv X pins σ H s) (hf : ∀ b ∈ fp, FpOk X pins H b) (hit : ∀ b ∈ fp, ∃ o, s.heap.get? b = some o) (hnb : ∀ b ∈ fp, X.base.get? b = none)
    (hns : h'.Ns s.heap.objs.size (fun _ => none)) (hsb : ∀ b o, s.heap.get? b = some o → h'.get? b = some o) {tk : Nat} :
    Inv (X.compF scope N F s.heap.objs.size s H fp (X.pn ++ pins)) [] (List.replicate N.length none ++ fvOf js σ) H { s with heap := h', toks := tk } := by
  have ck : ∀ c v, s.heap.IsCell c v → h'.IsCell c v := fun c v ⟨o, e, d⟩ => ⟨o, hsb _ _ e, d⟩
  have inF : ∀ x, ((compEnvC scope (clOf F X.env) s.heap.objs.size X.env).kindOf x = some .cell ∨ (compEnvC scope (clOf F X.env) s.heap.objs.size X.env).kindOf x = some .free) → x ∈ F := by
    intro x z
    have z : (relabel scope X.env).names.lookup x = some .cell ∨ (relabel scope X.env).names.lookup x = some .free := z
    rcases z with z | z
    · exact S.fr _ (PySem.mem_of_lookup z) (.inl rfl)
    · exact S.fr _ (PySem.mem_of_lookup z) (.inr rfl)
  refine ⟨⟨I.ok.mod, S.kind, I.ok.glob, I.ok.blt, Nat.le_refl _, fun x y c z z' => I.ok.inj x y c (S.sub x c z) (S.sub y c z'), fun x z => ?_, fun x c z _ => (nomatch z), I.ok.hd, I.ok.frames, .inl rfl, fun b hb => ?_, I.bs, Nat.le_trans I.ok.bsz I.sz, fun b o e hb => ?_, fun b hb hfs => ?_, I.stack, I.stkFree⟩,
    rfl, I.bare, Un.kept hsb, ⟨_, hns, fun i x v e1 e2 e3 => comp_look S I (fun x c v _ z => ck c v z) i x v e1 e2⟩, fun x c z => ?_, I.hok.fresh (Nat.le_refl _), fun x c z => I.freeC x c (S.sub x c z), fun p hp => ?_, I.hok.kept hsb, fv_len S σ⟩
  · obtain ⟨c, h1, _⟩ := S.has (inF x z)
    exact ⟨c, h1⟩
  · obtain ⟨oi, ei⟩ := hit b hb
    exact ⟨Nat.ne_of_lt (Heap.lt_size ei), fun x c z => (hf b hb).2.2.2.2.1 x c (S.sub x c z)⟩
  · rw [hnb b hb] at e
    cases e
  · rcases List.mem_cons.mp (I.stkSub b hfs) with z | z
    · exact (hf b hb).2.1 z
    · exact (hf b hb).2.2.1 z
  · obtain ⟨v, z'⟩ := I.cell x c (S.sub x c z)
    exact ⟨v, ck c v z'⟩
  · have hp' : p ∈ X.pn ++ pins := by simpa using hp
    obtain ⟨q1, q2, q3, q4, q5⟩ := I.pin p hp'
    refine ⟨hsb _ _ q1, q2, Nat.ne_of_lt (Heap.lt_size q1), fun z => ?_, q5⟩
    rcases List.mem_cons.mp (I.stkSub p.1 z) with z | z
    · exact q3 z
    · exact q4 z
/-- ahead of the next turn: the own names are none again, the others as they were -/
theorem inv_freshG {pins pl : List (Addr × Obj)} {σ σ' : St} {H H' : Hp} {s s' : Shared} {fp : List Addr} (S : CompScopeF N F js scope X.N X.env) (I : Inv X pins σ H s) (hf : ∀ b ∈ fp, FpOk X pins H b) (J : Inv (X.compF scope N F s.heap.objs.size s H fp (X.pn ++ pins)) pl σ' H' s') :
    Inv (X.compF scope N F s.heap.objs.size s H fp (X.pn ++ pins)) [] (List.replicate N.length none ++ fvOf js σ) H' s' := by
  obtain ⟨m, hn, _⟩ := J.loc
  refine ⟨J.ok, J.os, J.bare, J.base, ⟨m, hn, fun i x v e1 e2 e3 => comp_look S I (fun x c v z q => ?_) i x v e1 e2⟩, J.cell, J.free, J.freeC, fun p hp => J.pin p (by
    have hp : p ∈ (X.pn ++ pins) ++ [] := hp
    rw [List.append_nil] at hp
    exact List.mem_append_left _ hp), J.hok, fv_len S σ⟩
  obtain ⟨o, e, d⟩ := q
  have ne : c ∉ fp := fun w => (hf c w).2.2.2.2.1 x c z rfl
  obtain ⟨sl, q⟩ := J.base.any e (I.freeC x c z) ne
  exact ⟨_, q, d⟩
theorem comp_walkG {elt target iter c : Expr} {scope : Scope} {pos : Pos} {N F : List Str} {js : List Nat} {wi : TI} {g : TG} {tc : TT} {te : TE} (S : CompScopeF N F js scope X.N X.env) (hd : HdOk X) (hc0 : X.calm = true) (hi : PI X target iter wi) (hex : X.ex = [])
    (hg : ∀ C s₀ H₀ ex pn, HdOk (X.compF scope N F C s₀ H₀ ex pn) → PG (X.compF scope N F C s₀ H₀ ex pn) target g)
    (hc : ∀ C s₀ H₀ ex pn, HdOk (X.compF scope N F C s₀ H₀ ex pn) → PT (X.compF scope N F C s₀ H₀ ex pn) c tc)
    (he : ∀ C s₀ H₀ ex pn, HdOk (X.compF scope N F C s₀ H₀ ex pn) → PE (X.compF scope N F C s₀ H₀ ex pn) elt te)
    {pins : List (Addr × Obj)} {s : Shared} {σ : St} {H : Hp} {Q : VK} {RR : Value → Env → Result → Shared → Prop} (I : Inv X pins σ H s) (h : (tCompF N.length js wi g tc te) σ H Q)
    (hRR : ∀ (D C : Addr) (s6 : Shared) (H5 : Hp) (mm : Str → Option Value), Inv X pins σ H5 s6 → s6.heap.Ns C mm → FpOk X pins H5 C → Q (.ref D) H5 → RR (.ref D) (compEnvC scope (clOf F X.env) C X.env) (.ok .next) s6) :
    wpAny (model X.prog X.w) X.A (eval iter X.env) (fun v s1 => wpAny (model X.prog X.w) X.A (pyIter v) (fun itv s2 => wpAny (model X.prog X.w) X.A (newList []) (fun acc s3 => wpAny (model X.prog X.w) X.A (newFunctionEnv scope X.env.globals (clOf F X.env) [] X.env.qual none .none (some X.env)) (fun cenv s4 =>
      codeAny (model X.prog X.w) X.A (.compStart (.ListComp elt [⟨target, iter, [c], 0⟩] scope pos) 0 itv acc { cenv with scope := relabel scope X.env }) (RR acc { cenv with scope := relabel scope X.env }) s4) X.xe s3) X.xe s2) X.xe s1) X.xe s := by
  refine thn (hi pins s σ H _ I h) fun v s1 h1 => thn h1 fun itv s2 h2 => ?_
  obtain ⟨it, fp, tn, J, H2, rfl, I2, T, st2, f2, R⟩ := h2
  have ob2 := T.obj _ _ st2
  have hf2 := I2.hok.fresh (Nat.le_refl _)
  refine wpAny_newObj_type ?_
  have I3 : Inv X pins σ (upd H2 s2.heap.objs.size (.lst [])) { s2 with heap := s2.heap.push { cls := .type "list", dict := none, data := .seq ([] : List Value).toArray } } := Inv.lnew (t' := s2.toks) I2 .nil (Nat.zero_le _)
  refine wpAny_newFunctionEnv S.cell (by intro y hy; simp at hy) (fun h4 hns hsb => ?_) S.kind
  dsimp only at hns hsb ⊢
  generalize hG : s2.heap.push { cls := .type "list", dict := none, data := .seq ([] : List Value).toArray } = G at I3 hns hsb ⊢
  generalize hD : s2.heap.objs.size = D at I3 hf2
  have nD : ∀ b ∈ fp, b ≠ D := fun b hb => by
    obtain ⟨o, eo, _⟩ := ob2 b hb
    rw [← hD]; exact Nat.ne_of_lt (Heap.lt_size eo)
  have eiG : ∀ b ∈ fp, ∃ o, G.get? b = some o := fun b hb => by
    obtain ⟨o, eo, _⟩ := ob2 b hb
    exact ⟨o, by rw [← hG]; exact Heap.get?_push_of_some _ eo⟩
  have kp : ∀ b o, G.get? b = some o → h4.get? b = some o := fun b o e => hsb.extBut b o (Nat.ne_of_lt (Heap.lt_size e)) (Heap.get?_push_of_some _ e)
  have f3 : ∀ b ∈ fp, FpOk X pins (upd H2 D (.lst [])) b := fun b hb => ⟨by rw [upd_ne (nD b hb)]; exact (f2 b hb).1, (f2 b hb).2⟩
  have nb : ∀ b ∈ fp, X.base.get? b = none := fun b hb => by
    cases q : X.base.get? b with
    | none => rfl
    | some o =>
      have := (I.ok.bs b o q).1
      rcases (f2 b hb).2.2.2.1 with z | z
      · rw [hex] at z; simp at z
      · exact absurd (Nat.lt_of_lt_of_le (Heap.lt_size this) z) (Nat.lt_irrefl _)
  have hns' : h4.Ns G.objs.size (fun _ => none) := by
    obtain ⟨o, es, ep, q1, q2, q3, q4⟩ := hns
    exact ⟨o, es, ep, q1, q2, q3, fun x => by rw [q4]; rfl⟩
  have I4 := inv_compG (tk := s2.toks + ([] : List (Str × Value)).length) S I3 f3 eiG nb hns' kp
  have hdc : HdOk (X.compF scope N F G.objs.size { s2 with heap := G } (upd H2 D (.lst [])) fp (X.pn ++ pins)) := by
    rcases hd with z | ⟨x, o, u, vs, z, e, d, n⟩
    · exact .inl z
    · refine .inr ⟨x, o, u, vs, z, ?_, d, n⟩
      have q := I2.base.frzs x o u e
      show upd H2 D (.lst []) x = _
      rw [upd_ne fun w => by rw [w, hf2] at q; cases q]
      exact q
  obtain ⟨m, W, w0, turn⟩ := R D hf2
  have gg := hg _ _ _ _ _ hdc
  have cc := hc _ _ _ _ _ hdc
  have ee := he _ _ _ _ _ hdc
  have fpc : ∀ {H' : Hp} {σ' : St} {s' : Shared} {pl : List (Addr × Obj)}, Inv (X.compF scope N F G.objs.size { s2 with heap := G } (upd H2 D (.lst [])) fp (X.pn ++ pins)) pl σ' H' s' → (∀ b ∈ fp, H' b = none) → (∀ b ∈ fp, ∀ p ∈ pl, p.1 ≠ b) → ∀ b ∈ fp, FpOk (X.compF scope N F G.objs.size { s2 with heap := G } (upd H2 D (.lst [])) fp (X.pn ++ pins)) pl H' b := by
    intro H' σ' s' pl J' hn hp b hb
    obtain ⟨oi, ei⟩ := eiG b hb
    refine ⟨hn b hb, Nat.ne_of_lt (Heap.lt_size ei), ?_, .inl hb, (fun x c z => (f2 b hb).2.2.2.2.1 x c (S.sub x c z)), fun p hpp => ?_⟩
    · intro z
      rcases List.mem_cons.mp (I.stkSub b z) with z | z
      · exact (f2 b hb).2.1 z
      · exact (f2 b hb).2.2.1 z
    · rcases List.mem_append.mp hpp with z | z
      · exact (f2 b hb).2.2.2.2.2 p z
      · exact hp b hb p z
  -- the turns
  have loop : codeAny (model X.prog X.w) X.A (.compLoop (.ListComp elt [⟨target, iter, [c], 0⟩] scope pos) 0 (.ref it) (.ref D) (compEnvC scope (clOf F X.env) G.objs.size X.env))
      (RR (.ref D) (compEnvC scope (clOf F X.env) G.objs.size X.env))
      { s2 with heap := h4, toks := s2.toks + ([] : List (Str × Value)).length } := by
    refine kct_loop (fun k s' => ∃ i ys H', k = m + 1 - i ∧ Inv (X.compF scope N F G.objs.size { s2 with heap := G } (upd H2 D (.lst [])) fp (X.pn ++ pins)) [] (List.replicate N.length none ++ fvOf js σ) H' s' ∧ tn i s'.heap ∧ (∀ b ∈ fp, H' b = none) ∧ W i ys H') ?_ (m + 1)
      ⟨0, [], _, rfl, I4, T.keep _ _ _ st2 fun b hb o e => kp b o (by rw [← hG]; exact Heap.get?_push_of_some _ e), fun b hb => (f3 b hb).1, w0⟩
    rintro k s5 ⟨i, ys, H5, rfl, I5, st5, n5, w5⟩
    obtain ⟨hi5, hD5, w5⟩ := turn i ys H5 w5
    rcases w5 with ⟨stop, q⟩ | ⟨lt5, go, step⟩
    · refine wpAny_mono (T.done (X.compF scope N F G.objs.size { s2 with heap := G } (upd H2 D (.lst [])) fp (X.pn ++ pins)) rfl rfl rfl hc0 i [] s5 _ H5 (fun _ _ => False) I5 (fpc I5 n5 (by simp)) st5 stop) (fun r s6 z => ?_) (fun _ _ z => z.elim)
      obtain ⟨rfl, I6⟩ := z
      obtain ⟨mm, hn6, _⟩ := I6.loc
      have B6 := I6.base
      have J6 : Inv X pins σ H5 s6 := by
        refine I3.call' (ch := fp) I6.os ⟨B6.keep, B6.slot, B6.free, B6.there, B6.tups, B6.frzs, B6.tbls⟩ I6.hok I6.bare (fun b hb => ⟨(f2 b hb).2.2.2.1, (f2 b hb).2.1, (f2 b hb).2.2.2.2.1, (f2 b hb).2.2.2.2.2⟩)
      have szG : X.s₀.heap.objs.size ≤ G.objs.size := I3.sz
      refine hRR D G.objs.size s6 H5 mm J6 hn6 ⟨I6.free, ?_, ?_, .inr szG, ?_, ?_⟩ q
      · exact Nat.ne_of_gt I3.lt
      · intro z
        obtain ⟨_, o, ho, _⟩ := I3.funs.mem z
        exact Nat.lt_irrefl _ (Heap.lt_size ho)
      · rintro x c z rfl
        obtain ⟨v', o, ho, _⟩ := I3.cell x _ z
        exact Nat.lt_irrefl _ (Heap.lt_size ho)
      · rintro p hp z
        have zz := (I3.pin p hp).1
        rw [z] at zz
        exact Nat.lt_irrefl _ (Heap.lt_size zz)
    · refine wpAny_mono (T.item (X.compF scope N F G.objs.size { s2 with heap := G } (upd H2 D (.lst [])) fp (X.pn ++ pins)) rfl rfl rfl hc0 i [] s5 _ H5 (fun _ _ => False) I5 (fpc I5 n5 (by simp)) st5 go) (fun r s6 z => ?_) (fun _ _ z => z.elim)
      obtain ⟨u, rfl, z⟩ := z
      refine wpAny_mono z (fun _ s7 z => ?_) (fun _ _ z => z.elim)
      obtain ⟨x, H7, I7, rx, yl, st7, fr7⟩ := z
      have ob7 := T.obj _ _ st7
      have I7' : Inv (X.compF scope N F G.objs.size { s2 with heap := G } (upd H2 D (.lst [])) fp (X.pn ++ pins)) (pinsAt fp s7.heap) (List.replicate N.length none ++ fvOf js σ) H7 s7 := I7.pinned (fpc I7 fr7 (by simp)) ob7
      have back : ∀ {i' : Nat} {ys' : List V} {H' : Hp} {σ' : St} {s' : Shared}, i' = i + 1 → Inv (X.compF scope N F G.objs.size { s2 with heap := G } (upd H2 D (.lst [])) fp (X.pn ++ pins)) (pinsAt fp s7.heap) σ' H' s' → W i' ys' H' →
          ∃ k', k' < m + 1 - i ∧ ∃ i ys H', k' = m + 1 - i ∧ Inv (X.compF scope N F G.objs.size { s2 with heap := G } (upd H2 D (.lst [])) fp (X.pn ++ pins)) [] (List.replicate N.length none ++ fvOf js σ) H' s' ∧ tn i s'.heap ∧ (∀ b ∈ fp, H' b = none) ∧ W i ys H' := by
        rintro i' ys' H' σ' s' rfl J' w'
        refine ⟨m + 1 - (i + 1), by omega, i + 1, ys', H', rfl, inv_freshG S I3 f3 J', T.keep _ _ _ st7 fun b hb o z => (J'.pin (b, o) (List.mem_append_right _ (mem_pinsAt hb z))).1, fun b hb => ?_, w'⟩
        obtain ⟨o, eo, _⟩ := ob7 b hb
        exact (J'.pin (b, o) (List.mem_append_right _ (mem_pinsAt hb eo))).2.1
      refine wpAny_mono (gg (pinsAt fp s7.heap) s7 _ H7 x u _ I7' rx (step x H7 yl)) (fun _ s8 z => ?_) (fun _ _ z => z.elim)
      obtain ⟨σ8, H8, I8, q8⟩ := z
      refine wpAny_mono (cc (pinsAt fp s7.heap) s8 σ8 H8 _ I8 q8) (fun b s9 z => ?_) (fun _ _ z => z.elim)
      obtain ⟨H9, I9, q9⟩ := z
      cases b with
      | false =>
        simp only [Bool.false_eq_true, if_false] at q9 ⊢
        exact back rfl I9 q9
      | true =>
        simp only [if_true] at q9 ⊢
        refine wpAny_mono (ee (pinsAt fp s7.heap) s9 σ8 H9 _ I9 q9) (fun y s10 z => ?_) (fun _ _ z => z.elim)
        obtain ⟨yv, H10, I10, ry, hD10, hz10, w10⟩ := z
        refine wpAny_mono (mt_append (X := X.compF scope N F G.objs.size { s2 with heap := G } (upd H2 D (.lst [])) fp (X.pn ++ pins)) (pinsAt fp s7.heap) s10 σ8 H10 (.ref D) [yv] (.ref D) [y] (fun _ H11 => W (i + 1) (ys ++ [yv]) H11) I10 rfl (.cons ry .nil) ⟨D, ys, yv, rfl, rfl, hD10, hz10, w10⟩) (fun _ s11 z => ?_) (fun _ _ z => z.elim)
        obtain ⟨_, H11, I11, _, w11⟩ := z
        exact back rfl I11 w11
  exact codeAny_compStart_list loop (T.self _ 0 _ _ _ (T.keep _ _ _ st2 fun b hb o e => kp b o (by rw [← hG]; exact Heap.get?_push_of_some _ e)) loop)
/-- name = the comprehension, on one row -/
theorem ps_compG {i : Nat} {y : Str} {py spos : Pos} {elt target iter : Expr} {c : Expr} {tc : TT} {pos : Pos} {wi : TI} {g : TG} {te : TE} (S : CompScopeF N F js scope X.N X.env) (hd : HdOk X) (hc0 : X.calm = true) (hi : PI X target iter wi) (hex : X.ex = [])
    (hg : ∀ C s₀ H₀ ex pn, HdOk (X.compF scope N F C s₀ H₀ ex pn) → PG (X.compF scope N F C s₀ H₀ ex pn) target g)
    (hc : ∀ C s₀ H₀ ex pn, HdOk (X.compF scope N F C s₀ H₀ ex pn) → PT (X.compF scope N F C s₀ H₀ ex pn) c tc)
    (he : ∀ C s₀ H₀ ex pn, HdOk (X.compF scope N F C s₀ H₀ ex pn) → PE (X.compF scope N F C s₀ H₀ ex pn) elt te) (hN : X.N.Nodup) (hi' : X.N[i]? = some y) (hy : Loc X.env.scope y)
    (hf : X.fn y = true ∨ X.env.scope.names.lookup y = some .local := by first | exact .inl rfl | exact .inr rfl | assumption)
    (hsw : swapsWith (.ListComp elt [⟨target, iter, [c], 0⟩] scope pos) (some (.Name y py)) spos.line X.env = pure true := by rfl)
    (hs : ∀ x, foldedSetIterable iter X.env x = pure x := by intro _; rfl) : PS X (.Assign [.Name y py] (.ListComp elt [⟨target, iter, [c], 0⟩] scope pos) spos) (tAsg (tCompF N.length js wi g tc te) (gName i)) := by
  intro pins s σ H D I h
  rw [exec_Assign_Name_used _ _ _ _ hsw]
  refine wpAny_bind (wpAny_standAt (wpAny_bind ?_))
  show wpAny _ X.A (do let _ ← comprehension (.ListComp elt [⟨target, iter, [c], 0⟩] scope pos) scope X.env _ (newList []) false (eval iter X.env) (some (assign (.Name y py) X.env))) _ _ s
  refine wpAny_bind (wpAny_mono (wpAny_comprehension_free (Q := fun _ s' => SP X pins D .next s') rfl hs S.clos S.kind S.loc (comp_walkG S hd hc0 hi hex hg hc he I h (RR := fun acc ce r s' => compPost (model X.prog X.w) X.A X.xe (some (assign (.Name y py) X.env)) (fun _ s' => SP X pins D .next s') acc ce.locals r s') ?_))
    (fun _ s' hq => wpAny_pure (wpAny_pure hq)) fun _ _ e => e)
  intro D' C s6 H5 mm I6 n6 f6 q
  refine wpAny_assign_Name (store_ok2 (v := .ref D') I6 hN hi' hy rfl (fun s7 I7 st => ?_) hf)
  obtain ⟨a, sb, ha⟩ := st
  have na : C ≠ a := by
    rcases ha with rfl | ha
    · exact f6.2.1
    · exact (f6.2.2.2.2.1 y a ha).symm
  exact ⟨mm, n6.sameBut sb na, fun h' sb' => ⟨_, _, letgo I7 f6 sb', q⟩⟩
end
end L2
set_option Elab.async false
set_option linter.all false
set_option maxRecDepth 100000
set_option maxHeartbeats 4000000
namespace L2
open PySem PySem.Spec PyProof.Rows PySem.W
theorem boot_enumerate : bootBuiltins "enumerate" = some (.type "enumerate") := by decide +kernel
section
variable {X : Cx} {pins : List (Addr × Obj)} {σ : St} {H : Hp} {s : Shared} {h' : Heap}
/-- several objects that are nobody's have turned -/
theorem Inv.turnedL {t' : Nat} {fp : List Addr} (I : Inv X pins σ H s) (k : ∀ b o, b ∉ fp → s.heap.get? b = some o → h'.get? b = some o) (hf : ∀ b ∈ fp, FpOk X pins H b) : Inv X pins σ H { s with heap := h', toks := t' } := by
  have nit : ∀ b u, H b = some u → b ∉ fp := fun b u e z => by rw [(hf b z).1] at e; cases e
  refine I.step (g' := s.gens) (d' := s.drawn) (ch := fp) (fun b hb => ?_) (fun b o _ _ hc e _ => k b o hc e) (fun b o _ _ hc e _ => ⟨o.slots, k b o hc e⟩) (fun _ _ _ _ n => n)
    (fun b o hc e => ⟨o, k b o hc e⟩) (fun _ _ e => e) (fun _ _ _ e => e) (fun b ps e => ⟨#[], by rw [e]; simp⟩) (fun m hm => ?_) (fun b u e => ?_) I.bare
  · obtain ⟨_, f1, _, f3, f4, f5⟩ := hf b hb
    exact ⟨f3, f1, f4, f5⟩
  · obtain ⟨o, es, ep, ho, r⟩ := hm
    exact ⟨o, es, ep, k _ o (fun z => (hf _ z).2.1 rfl) ho, r⟩
  · refine (I.hok b u e).stay (fun c v hc q => k c v ?_ q) (fun _ q => q) fun _ _ q => q
    rcases hc with z | z
    · rw [z]; exact nit b u e
    · exact nit c _ z
/-- a new pair, and objects that are nobody's have turned -/
theorem Inv.paired {t' : Nat} {fp : List Addr} {x y : V} {u v : Value} (I : Inv X pins σ H s) (rx : RelV x u) (ry : RelV y v) (hf : ∀ b ∈ fp, FpOk X pins H b) (hl : ∀ b ∈ fp, b < s.heap.objs.size)
    (k : ∀ b o, b ∉ fp → s.heap.get? b = some o → h'.get? b = some o) (hT : h'.get? s.heap.objs.size = some { cls := .type "tuple", data := .seq #[u, v] }) :
    Inv X pins σ (upd H s.heap.objs.size (.tup [x, y])) { s with heap := h', toks := t' } ∧ ∀ b ∈ fp, upd H s.heap.objs.size (.tup [x, y]) b = none := by
  have hn : ∀ b ∈ fp, upd H s.heap.objs.size (.tup [x, y]) b = none := fun b hb => by rw [upd_ne (Nat.ne_of_lt (hl b hb))]; exact (hf b hb).1
  have I1 : Inv X pins σ (upd H s.heap.objs.size (.tup [x, y])) { s with heap := s.heap.push { cls := .type "tuple", data := .seq #[u, v] }, toks := t' } :=
    I.laid (fun b o z => Heap.get?_push_of_some _ z) (Nat.le_refl _) ⟨line1000 (by show 2 ≤ 1000; decide), [u, v], .cons rx (.cons ry .nil), ⟨_, Heap.get?_push_size _ rfl, rfl, _, rfl⟩⟩
  have I2 : Inv X pins σ (upd H s.heap.objs.size (.tup [x, y])) { heap := h', gens := s.gens, drawn := s.drawn, toks := t', os := s.os } := Inv.turnedL (s := { heap := s.heap.push { cls := .type "tuple", data := .seq #[u, v] }, gens := s.gens, drawn := s.drawn, toks := t', os := s.os }) (h' := h') (t' := t') (fp := fp) I1 (fun b o hb z => ?_) (fun b hb => ⟨hn b hb, (hf b hb).2⟩)
  · exact ⟨I2, hn⟩
  rcases Heap.get?_push_cases z with ⟨rfl, rfl⟩ | z
  · exact hT
  · exact k b o hb z
end
/-- (i, the list's item): each turn a new pair -/
def Ite (K : Frag) (a : Addr) : It :=
  ⟨fun i H => ∃ xs x, SqL K H a xs ∧ xs[i]? = some x, fun i H x H' => ∃ t y, x = .ref t ∧ H t = none ∧ H' = upd H t (.tup [.int i, y]) ∧ ∀ xs, SqL K H a xs → xs[i]? = some y, fun i H => ∃ xs, SqL K H a xs ∧ xs.length ≤ i⟩
theorem turn_enum {P : Program} {w : World} {K : Frag} {es : List Expr} {k : Nat} {pos : Pos} (a e it : Addr) (hei : e ≠ it) : Turn P w K (.Tuple es k pos) (Ite K a) [e, it] e (fun i h => (∃ old, IsEnum h e it i old) ∧ h.IsListIter it a i) where
  mem := by simp
  obj := fun i h st b hb => by
    obtain ⟨⟨old, he⟩, o, eo, c, d⟩ := st
    rcases (by simpa using hb : b = e ∨ b = it) with rfl | rfl
    · exact ⟨_, he, fun v z => by
        have z' : Data.fields _ = Data.cell v := z
        cases z'⟩
    · exact ⟨o, eo, fun v z => by rw [d] at z; cases z⟩
  keep := fun i h h' st k => by
    obtain ⟨⟨old, he⟩, hit⟩ := st
    exact ⟨⟨old, k e (by simp) _ he⟩, hit.at fun o x => k it (by simp) o x⟩
  item := by
    intro X hP hw hK hc i pins s σ H E I hf st hg
    subst hP hw hK
    obtain ⟨xs, x, hq, hx⟩ := hg
    obtain ⟨its, rv, p, hz⟩ := I.list hq
    obtain ⟨u, hu, ru⟩ := rv.get hx
    obtain ⟨⟨old, he⟩, hit⟩ := st
    have elt : e < s.heap.objs.size := Heap.lt_size he
    have ilt : it < s.heap.objs.size := by obtain ⟨o, z, _⟩ := hit; exact Heap.lt_size z
    refine wpAny_pyNext_enum_item he hit p.isList (x := u) (by simpa using hu) hei fun h1 ho hit1 hT hsz hk => ?_
    refine ⟨_, rfl, wpAny_letOwnedTupleGo_enum ho fun h2 he2 hs2 => ?_⟩
    have hs2 : Heap.SameBut e h1 h2 := hs2
    obtain ⟨I2, hn⟩ := I.paired (h' := h2) (t' := s.toks + 1) (fp := [e, it]) (x := .int i) (y := x) (u := .int i s.toks) (v := u) ⟨_, rfl⟩ ru hf
      (fun b hb => by rcases (by simpa using hb : b = e ∨ b = it) with rfl | rfl <;> assumption)
      (fun b o hb z => (hs2.2 b (fun q => hb (by simp [q]))).trans (hk b o (fun q => hb (by simp [q])) (fun q => hb (by simp [q])) z)) ((hs2.2 _ (Nat.ne_of_gt elt)).trans hT)
    refine ⟨.ref s.heap.objs.size, _, I2, rfl, ⟨_, x, rfl, I.hok.fresh (Nat.le_refl _), rfl, fun ys hy => by rw [I.list_inj hy hq]; exact hx⟩, ⟨⟨u, ?_⟩, hit1.at fun o y => (hs2.2 it hei.symm).trans y⟩, hn⟩
    have : ((i + 1 : Nat) : Int) = (i : Int) + 1 := by push_cast; rfl
    rw [this]
    exact he2
  done := by
    intro X hP hw hK hc i pins s σ H E I hf st hg
    subst hP hw hK
    obtain ⟨xs, hq, hx⟩ := hg
    obtain ⟨its, rv, p, hz⟩ := I.list hq
    obtain ⟨⟨old, he⟩, hit⟩ := st
    have hl := rv.length
    exact wpAny_pyNext_enum_end (I.ok.hd hc) he hit p.isList (by simp; omega) fun h' eb => ⟨rfl, I.turnedL (t' := s.toks) (fp := [e, it]) (fun b o hb z => eb b o (fun q => hb (by simp [q])) z) hf⟩
  self := fun _ _ _ _ _ st h => by
    obtain ⟨⟨old, he⟩, hit⟩ := st
    exact wpAny_pyIter_enum he h
section
variable {X : Cx} {es : List Expr} {k : Nat} {tp : Pos}
def iEnum (K : Frag) (ta : TA) : TI := fun σ H R => ta σ H fun vs H1 => ∃ a, vs = [.ref a] ∧ (∃ xs, SqL K H1 a xs) ∧ R (Ite K a) H1
theorem pi_enum {a : Expr} {ta : TA} {p pos : Pos} (hg : Gl X "enumerate") (hm : X.mg "enumerate" = none) (ha : PA X [a] ta) (hs : starEach [a] X.env = [(false, eval a X.env)] := by rfl) : PI X (.Tuple es k tp) (.Call (.Name "enumerate" p) [a] [] pos) (iEnum X.K ta) := by
  intro pins s σ H R I h
  refine Call_ (ld_blt I hg hm boot_enumerate (PyProof.Rows.callWith_type1 (thn (ha pos pins s σ H _ I h) fun us s1 ⟨vs, H1, I1, r1, q1⟩ => ?_) hs rfl))
  obtain ⟨l, e, ⟨xs, hq⟩, q⟩ := q1
  subst e
  cases r1 with
  | cons r rr =>
    cases rr
    cases r
    obtain ⟨its, rv, pl, hz⟩ := I1.list hq
    refine call_enumerate_list pl.isList fun h' he hit hsz hk => wpAny_pyIter_enum he ?_
    have I2 : Inv X pins σ H1 { s1 with heap := h' } := I1.kept (t' := s1.toks) hk
    refine ⟨s1.heap.objs.size + 1, [s1.heap.objs.size + 1, s1.heap.objs.size], _, _, H1, rfl, I2, turn_enum l _ _ (Nat.succ_ne_self _), ⟨⟨.none, he⟩, hit⟩, fun b hb => ?_, q⟩
    rcases (by simpa using hb : b = s1.heap.objs.size + 1 ∨ b = s1.heap.objs.size) with rfl | rfl
    · exact I1.fpOk (Nat.le_add_right _ _) (I1.hok.fresh (Nat.le_add_right _ _))
    · exact I1.fpOk (Nat.le_refl _) (I1.hok.fresh (Nat.le_refl _))
end
/-! ### a comprehension, turn by turn -/
/-- all objects but the one at D stay -/
def Exc1 (D : Addr) (H H' : Hp) : Prop := ∀ b o, H b = some o → b ≠ D → H' b = some o
/-- .. with a test, told by f -/
theorem comp_gen {J : It} {g : TG} {tc : TT} {te : TE} {σ0 : St} {H1 : Hp} {QD : Addr → Hp → Prop} {n : Nat} (f : Nat → Bool) (R : Nat → V → Hp → Prop) (hn : n ≤ 1000)
    (mono : ∀ i y H' H'' D l, R i y H' → H' D = some (.lst l) → Exc1 D H' H'' → R i y H'')
    (step : ∀ (i : Nat) (H2 : Hp) (Qy : VK) (Qn : Hp → Prop), i < n → Same H1 H2 → (f i = true → ∀ y H6, Same H2 H6 → R i y H6 → Qy y H6) → (f i = false → ∀ H6, Same H2 H6 → Qn H6) → J.go i H2 ∧ ∀ x H3, J.yld i H2 x H3 → g x σ0 H3 fun σ4 H4 => tc σ4 H4 fun b H5 => if b = true then te σ4 H5 Qy else Qn H5)
    (stop : ∀ H2, Same H1 H2 → J.stop n H2)
    (k : ∀ D H' ys, Same H1 H' → H1 D = none → H' D = some (.lst ys) → ys.length = ((List.range n).filter f).length → (∀ (j i : Nat) (y : V), ((List.range n).filter f)[j]? = some i → ys[j]? = some y → R i y H') → QD D H') : ∀ D, H1 D = none →
    ∃ (m : Nat) (W : Nat → List V → Hp → Prop), W 0 [] (upd H1 D (.lst [])) ∧ ∀ i ys H2, W i ys H2 → i ≤ m ∧ H2 D = some (.lst ys) ∧ ((J.stop i H2 ∧ QD D H2) ∨ (i < m ∧ J.go i H2 ∧ ∀ x H3, J.yld i H2 x H3 →
      g x σ0 H3 fun σ4 H4 => tc σ4 H4 fun b H5 => if b = true then te σ4 H5 fun y H6 => H6 D = some (.lst ys) ∧ ys.length < sizeLine ∧ W (i + 1) (ys ++ [y]) (upd H6 D (.lst (ys ++ [y]))) else W (i + 1) ys H5)) := by
  intro D hD
  refine ⟨n, fun i ys H2 => i ≤ n ∧ ys.length = ((List.range i).filter f).length ∧ H2 D = some (.lst ys) ∧ Same H1 H2 ∧ ∀ (j i' : Nat) (y : V), ((List.range i).filter f)[j]? = some i' → ys[j]? = some y → R i' y H2, ⟨Nat.zero_le _, rfl, upd_same, Same.upd hD, fun j i' y h => by simp at h⟩, ?_⟩
  rintro i ys H2 ⟨hi, hl, hd, sm, hR⟩
  refine ⟨hi, hd, ?_⟩
  by_cases hlt : i < n
  · have fl : ((List.range i).filter f).length ≤ i := Nat.le_trans (List.length_filter_le _ _) (by simp)
    refine .inr ⟨hlt, step i H2 _ _ hlt sm (fun hf y H6 s6 r6 => ?_) (fun hf H6 s6 => ?_)⟩
    · have d6 : H6 D = some (.lst ys) := s6 _ _ hd
      have ex : Exc1 D H6 (upd H6 D (.lst (ys ++ [y]))) := fun b o e hb => by rw [upd_ne hb]; exact e
      have ef : (List.range (i + 1)).filter f = (List.range i).filter f ++ [i] := by rw [List.range_succ, List.filter_append, List.filter_cons, hf]; rfl
      refine ⟨d6, Nat.lt_of_le_of_lt (by omega : ys.length ≤ 1000) (small1000 (Nat.le_refl _)), hlt, by rw [ef, List.length_append, List.length_append, hl]; rfl, upd_same, fun b o e => ?_, fun j i' z hi' hj => ?_⟩
      · rw [upd_ne (ne_of_none e hD)]
        exact s6 _ _ (sm _ _ e)
      · rw [ef] at hi'
        by_cases hj' : j < ys.length
        · rw [List.getElem?_append_left hj'] at hj
          rw [List.getElem?_append_left (by omega)] at hi'
          exact mono i' z H6 _ D ys (mono i' z H2 H6 D ys (hR j i' z hi' hj) hd fun b o e _ => s6 _ _ e) d6 ex
        · rw [List.getElem?_append_right (by omega)] at hj
          rw [List.getElem?_append_right (by omega)] at hi'
          have e0 : j - ys.length = 0 := by
            apply Classical.byContradiction
            intro q
            rw [List.getElem?_eq_none (by simp; omega)] at hj
            cases hj
          rw [e0] at hj
          rw [← hl, e0] at hi'
          cases hj
          cases hi'
          exact mono _ _ H6 _ D ys r6 d6 ex
    · have ef : (List.range (i + 1)).filter f = (List.range i).filter f := by rw [List.range_succ, List.filter_append, List.filter_cons, hf]; simp
      refine ⟨hlt, by rw [ef]; exact hl, s6 _ _ hd, sm.trans s6, fun j i' z hi' hj => ?_⟩
      rw [ef] at hi'
      exact mono i' z H2 H6 D ys (hR j i' z hi' hj) hd fun b o e _ => s6 _ _ e
  · have e : i = n := by omega
    subst e
    exact .inl ⟨stop H2 sm, k D H2 ys sm hD hd hl hR⟩
end L2
set_option Elab.async false
set_option linter.all false
set_option maxRecDepth 100000
set_option maxHeartbeats 4000000
namespace L2
open PySem PySem.Spec PyProof.Rows PySem.W
open AutoSeq1 (wpAny_loadPart')
/-! ### enumerate of a tuple -/
section
variable {prog : Program} {w : World} {A : Around} {E : Value → Shared → Prop} {s : Shared}
end
section
variable {X : Cx} {es : List Expr} {k : Nat} {tp : Pos}
end
end L2
set_option Elab.async false
set_option linter.all false
set_option maxRecDepth 100000
set_option maxHeartbeats 4000000
namespace L2
open PySem PySem.Spec PyProof.Rows PySem.W
section
variable {X : Cx}
end
end L2
set_option Elab.async false
set_option linter.all false
set_option maxRecDepth 100000
set_option maxHeartbeats 4000000
namespace L2
open PySem PySem.W PyProof.Rows
/-! ### o.m() where o is of one class of some -/
section
variable {X : Cx} {o e : Expr} {ta : TE} {m : Str} {apos pos : Pos} {j k : Nat} {ps : List Str} {ι : Type} {cw f : ι → Addr} {fd : ι → FuncData} {sp : ι → Sp} {EH : EK}
end
section
variable {X : Cx} {a b e o : Expr} {es : List Expr} {ta tb te to : TE} {t : TA} {pos : Pos} {st : Stmt} {rest : List Stmt} {ts u : TS}
end
end L2
set_option Elab.async false
set_option linter.all false
set_option maxRecDepth 100000
set_option maxHeartbeats 4000000
namespace L2
open PySem PySem.Spec PyProof.Rows PySem.W
section
variable {X : Cx} {x f : Str} {p cpos pos : Pos} {e : Expr} {t : TA} {C fI : Addr} {fdI : FuncData} {ps : List Str} {j k : Nat}
end
theorem comp_lst {K : Frag} {H : Hp} {σ σf : L2.St} {a : Addr} {zs : List Str} {f : Str → Bool} {tc : TT} {te : TE} {Q : VK} (hl : SqL K H a (zs.map V.str)) (hz : zs.length ≤ 100)
    (ht : ∀ (z : Str) (H' : Hp) (Qb : Bool → Hp → Prop), Same H H' → Qb (f z) H' → tc (some (.str z) :: σf) H' Qb) (he : ∀ (z : Str) (H' : Hp) (Qv : VK), Qv (.str z) H' → te (some (.str z) :: σf) H' Qv)
    (k : ∀ D H', Same H H' → H D = none → H' D = some (.lst ((zs.filter f).map V.str)) → Q (.ref D) H') {js : List Nat} (hj : fvOf js σ = σf) : tCompF 1 js (iList K (tC (.ref a))) (gName 0) tc te σ H Q := by
  refine ⟨a, rfl, ⟨_, hl⟩, fun D hD => ⟨zs.length, fun i ys H2 => i ≤ zs.length ∧ ys = ((zs.take i).filter f).map V.str ∧ H2 = upd H D (.lst ys), ⟨Nat.zero_le _, rfl, rfl⟩, ?_⟩⟩
  rintro i ys H2 ⟨hi, rfl, rfl⟩
  refine ⟨hi, upd_same, ?_⟩
  have sm : Same H (upd H D (.lst (((zs.take i).filter f).map V.str))) := Same.upd hD
  have lz : (((zs.take i).filter f).map V.str).length ≤ 100 := by
    rw [List.length_map]
    exact Nat.le_trans (List.length_filter_le _ _) (by rw [List.length_take]; omega)
  by_cases hlt : i < zs.length
  · refine .inr ⟨hlt, ⟨_, V.str zs[i], sm.seq hl, by simp [hlt]⟩, fun x H3 y => ?_⟩
    obtain ⟨rfl, y⟩ := y
    have ex : x = V.str zs[i] := by
      have := y _ (sm.seq hl)
      simp [hlt] at this
      exact this.symm
    subst ex
    rw [hj]
    show tc (some (.str zs[i]) :: σf) _ _
    refine ht _ _ _ sm ?_
    have et : (zs.take (i + 1)).filter f = (zs.take i).filter f ++ (if f zs[i] then [zs[i]] else []) := by
      rw [List.take_succ_eq_append_getElem hlt, List.filter_append]
      congr 1
      cases hb : f zs[i] <;> simp [hb]
    cases hb : f zs[i] with
    | false =>
      refine iteF ⟨hlt, ?_, rfl⟩
      rw [et, hb]; simp
    | true =>
      refine iteT (he _ _ _ ⟨upd_same, Nat.lt_of_le_of_lt lz (small1000 (by decide)), hlt, ?_, ?_⟩)
      · rw [et, hb]; simp
      · rw [upd_upd]
  · have e : i = zs.length := by omega
    subst e
    refine .inl ⟨⟨_, sm.seq hl, by simp⟩, k D _ sm hD ?_⟩
    rw [List.take_length]
    exact upd_same
end L2
set_option Elab.async false
set_option linter.all false
set_option maxRecDepth 100000
set_option maxHeartbeats 4000000
namespace L2
open PySem PySem.Spec PyProof.Rows PySem.W
/-! ### list(reversed(a list)) -/
theorem rev_no_len : typeLookup (Value.type "list_reverseiterator") (Str.ofString "__len__") = pure none := by rfl
theorem rev_hint : typeLookup (Value.type "list_reverseiterator") (Str.ofString "__length_hint__") = pure (some (.builtin "list_reverseiterator.__length_hint__")) := by rfl
theorem rev_sub : isSubtype (Value.type "list_reverseiterator") (Value.type "list_reverseiterator") = pure true := by rfl
theorem rev_split : splitId "list_reverseiterator.__length_hint__" = some ("list_reverseiterator", "__length_hint__") := by rfl
theorem extend_rev {prog : Program} {w : World} {A : Around} {s : Shared} {R : Result → Shared → Prop} {I l S : Addr} {items : Array Value} {res : Value} {c₀ : Nat} (hh : A.handled = none) (hli : l ≠ I) (hSI : S ≠ I) (hSl : S ≠ l)
    (hI : s.heap.IsRevIter I l ((items.size : Int) - 1)) (hl : s.heap.IsList l items) (hz : items.size ≤ sizeLine)
    (hS : s.heap.get? S = some { cls := .type "list", data := .seq #[] c₀ })
    (hR : ∀ (s' : Shared) (acc : Array Value) (c : Nat), Moved [S, I] (fun a b => b = a) s s' → s'.heap.get? S = some { cls := .type "list", data := .seq acc c } → ItemsOf (fun i v => items[items.size - 1 - i]? = some v) acc items.size → R (.ok (.ret res)) s') :
    wpAny (model prog w) A.in1 (Builtin.List.listExtendWith (.ref S) (.ref I) res) (fun fin s' => match fin with | Fin.done f => R (.ok f) s' | Fin.again c' => c'.quiet = true ∧ codeAny (model prog w) A c' R s') (fun e s' => R (.error e) s') s := by
  have hT : s.TypeIs (.ref I) "list_reverseiterator" := hI.typeIs
  have W := Walks.listRev (prog := prog) (w := w) (A := A.in1) hh I l hli items
  have st0 : (0 : Nat) ≤ items.size ∧ s.heap.IsRevIter I l ((items.size : Int) - 1 - (0 : Nat)) ∧ s.heap.IsList l items := ⟨Nat.zero_le _, by simpa using hI, hl⟩
  unfold Builtin.List.listExtendWith
  refine wpAny_bind (wpAny_typeOf hT ?_)
  have h1 : Builtin.List.listSameRef (.ref S) (.ref I) = false := by simp [Builtin.List.listSameRef, hSI]
  rw [if_neg (by rw [h1]; decide)]
  refine wpAny_bind (W.self 0 s _ _ st0 ?_)
  refine wpAny_bind (wpAny_holding ?_)
  unfold Builtin.List.listLengthHint
  refine wpAny_bind (wpAny_specialOf hT rev_no_len ?_)
  dsimp only
  rw [if_neg (by decide)]
  dsimp only [Option.isSome]
  rw [if_neg (by decide)]
  refine wpAny_bind (wpAny_specialOf hT rev_hint ?_)
  dsimp only
  rw [rev_split]
  dsimp only
  refine wpAny_bind (wpAny_isInstance hT rev_sub ?_)
  rw [if_neg (by decide), if_pos (by decide), if_neg (by decide)]
  refine wpAny_pure ?_
  rw [if_neg (by decide)]
  refine wpAny_pure ⟨plainId_quiet F.plain_extend_loop _, ?_⟩
  exact codeAny_extend_loopS W.toS hz S (by simp [hSI, hSl]) res items.size 0 s #[] c₀ (by omega) (Nat.zero_le _) st0 hS ⟨rfl, fun j v h => by simp at h⟩ hR
theorem list_init_rev {prog : Program} {w : World} {A : Around} {s : Shared} {R : Result → Shared → Prop} {I l S : Addr} {items : Array Value} (hh : A.handled = none) (hli : l ≠ I) (hSI : S ≠ I) (hSl : S ≠ l)
    (hI : s.heap.IsRevIter I l ((items.size : Int) - 1)) (hl : s.heap.IsList l items) (hz : items.size ≤ sizeLine)
    (hS : s.heap.get? S = some { cls := .type "list", data := .seq #[] })
    (hR : ∀ (s' : Shared) (acc : Array Value) (c : Nat), Moved [S, I] (fun a b => b = a) s s' → s'.heap.get? S = some { cls := .type "list", data := .seq acc c } → ItemsOf (fun i v => items[items.size - 1 - i]? = some v) acc items.size → R (.ok (.ret .none)) s') :
    wpAny (model prog w) A.in1 (Builtin.«list.__init__» { pos := [.ref S, .ref I] }) (fun fin s' => match fin with | Fin.done f => R (.ok f) s' | Fin.again c' => c'.quiet = true ∧ codeAny (model prog w) A c' R s') (fun e s' => R (.error e) s') s := by
  have hs : (#[] : Array Value).size ≤ sizeLine := Nat.zero_le _
  have hS₂ := Heap.get?_update_self (Obj.mapSeq fun x => #[]) hS rfl
  have oth : ∀ (b : Addr) (o : Obj), b ≠ S → s.heap.get? b = some o → (s.heap.update S (Obj.mapSeq fun x => #[])).get? b = some o := fun b o hb e => (Heap.get?_update_other s.heap _ (Ne.symm hb)).trans e
  unfold Builtin.«list.__init__»
  refine wpAny_bind ?_
  refine wpAny_bind (wpAny_seqItems hS rfl (wpAny_pure ?_))
  refine wpAny_bind (wpAny_updateSeq hS rfl ?_ hs (Nat.zero_le _))
  refine wpAny_bind (wpAny_letGo ?_)
  obtain ⟨oI, e1, e2, e3⟩ := hI
  obtain ⟨ol, f1, f2, f3⟩ := hl
  refine extend_rev hh hli hSI hSl ⟨oI, oth _ _ (Ne.symm hSI) e1, e2, e3⟩ ⟨ol, oth _ _ (Ne.symm hSl) f1, f2, f3⟩ hz hS₂ fun s' acc c m e it => hR s' acc c ?_ e it
  exact ⟨fun b o hb e => m.heap b o hb (oth b o (fun h => hb (h ▸ List.mem_cons_self)) e), m.gens, m.drawn, m.os, m.toks⟩
theorem call_list_rev {prog : Program} {w : World} {A : Around} {E : Value → Shared → Prop} {s : Shared} {I l : Addr} {items : Array Value} {Q : Value → Shared → Prop} (hh : A.handled = none) (hli : l ≠ I)
    (hI : s.heap.IsRevIter I l ((items.size : Int) - 1)) (hl : s.heap.IsList l items) (hz : items.size ≤ sizeLine)
    (hQ : ∀ (s' : Shared) (acc : Array Value) (c : Nat), Moved [s.heap.objs.size, I] (fun a b => b = a) { s with heap := s.heap.push { cls := .type "list", data := .seq #[] } } s' → s'.heap.get? s.heap.objs.size = some { cls := .type "list", data := .seq acc c } → ItemsOf (fun i v => items[items.size - 1 - i]? = some v) acc items.size → Q (.ref s.heap.objs.size) s') :
    wpAny (model prog w) A (call (.type "list") [.ref I]) Q E s := by
  refine callType_codes F.called_list (F.typeCall_list_1 (.ref I)) F.entry_list_init (code_list_new (Q₁ := fun obj s₁ => obj = .ref s.heap.objs.size ∧ s₁ = { s with heap := s.heap.push { cls := .type "list", data := .seq #[] } }) (.ref I) ⟨rfl, rfl⟩) fun obj s₁ h₁ => ?_
  obtain ⟨rfl, rfl⟩ := h₁
  have hS := Heap.get?_push_size (o := { cls := .type "list", data := .seq #[] }) s.heap rfl
  obtain ⟨oI, e1, e2, e3⟩ := hI
  obtain ⟨ol, f1, f2, f3⟩ := hl
  refine ⟨⟨_, hS, rfl⟩, F.args_list_init_2 _ _, list_init_rev hh hli (fun h => ?_) (fun h => ?_) ⟨oI, Heap.get?_push_of_some _ e1, e2, e3⟩ ⟨ol, Heap.get?_push_of_some _ f1, f2, f3⟩ hz hS fun s' acc c m e it => ⟨rfl, hQ s' acc c m e it⟩⟩
  · rw [← h] at e1; exact Nat.lt_irrefl _ (Heap.lt_size e1)
  · rw [← h] at f1; exact Nat.lt_irrefl _ (Heap.lt_size f1)
theorem items_rev {items acc : Array Value} (h : ItemsOf (fun i v => items[items.size - 1 - i]? = some v) acc items.size) : acc = items.reverse := by
  obtain ⟨h1, h2⟩ := h
  apply Array.ext
  · simp [h1]
  · intro i hi hj
    have z : items[items.size - 1 - i]? = some acc[i] := h2 i acc[i] (by simp)
    rw [Array.getElem?_eq_getElem (by omega)] at z
    rw [Array.getElem_reverse]
    exact (Option.some.inj z).symm
theorem vals_rev {ys : List V} {its : List Value} (h : Vals ys its) : Vals ys.reverse its.reverse := by
  induction h with
  | nil => exact .nil
  | cons r t ih =>
    rw [List.reverse_cons, List.reverse_cons]
    exact ih.append (.cons r .nil)
section
variable {X : Cx} {x y : Str} {e : Expr} {t : TE} {p q : Pos} {pos pos2 : Pos}
/-- list(reversed(e)) -/
def tListRev (K : Frag) (t : TE) : TE := fun σ H Q => t σ H fun v H1 => ∃ a ys, v = .ref a ∧ SqL K H1 a ys ∧ ∀ l, H1 l = none → Q (.ref l) (upd H1 l (.lst ys.reverse))
theorem pe_listrev (hh : X.A.handled = none) (hg : Gl X "list") (hg2 : Gl X "reversed") (hm : X.mg "list" = none) (hm2 : X.mg "reversed" = none) (ha : PE X e t) (hs : starEach [e] X.env = [(false, eval e X.env)] := by rfl)
    (hs2 : starEach [.Call (.Name "reversed" q) [e] [] pos2] X.env = [(false, eval (.Call (.Name "reversed" q) [e] [] pos2) X.env)] := by rfl) : PE X (.Call (.Name "list" p) [.Call (.Name "reversed" q) [e] [] pos2] [] pos) (tListRev X.K t) := by
  intro pins s σ H Q I h
  refine wpAny_Call_Name_kw (ld_blt I hg hm boot_list ?_)
  refine PyProof.Rows.callWith_type1 ?_ hs2 rfl
  rw [hs2]
  show wpAny _ _ (spliced ((false, eval (.Call (.Name "reversed" q) [e] [] pos2) X.env) :: backTo pos [])) _ _ s
  refine Calls.spliced_cons ?_
  refine wpAny_Call_Name_kw (ld_blt I hg2 hm2 boot_reversed ?_)
  refine PyProof.Rows.callWith_type1 ?_ hs rfl
  rw [hs]
  show wpAny _ _ (spliced ((false, eval e X.env) :: backTo pos2 [])) _ _ s
  refine Calls.spliced_cons (thn (ha pins s σ H _ I h) fun u s1 ⟨v, H1, I1, r1, q1⟩ => ?_)
  obtain ⟨a, ys, rfl, sq, k⟩ := q1
  cases r1
  refine Calls.spliced_nil ?_
  obtain ⟨its, rv, pl, hz⟩ := I1.list sq
  refine call_reversed_list pl.isList ?_
  refine Calls.spliced_nil ?_
  obtain ⟨o, ho, hc, n, hd⟩ := id pl.isList
  have hlt : a < s1.heap.objs.size := Heap.lt_size ho
  refine call_list_rev (l := a) (items := its.toArray) hh (Nat.ne_of_lt hlt) ⟨_, Heap.get?_push_size _ rfl, rfl, rfl⟩ (pl.isList.push _) (by rw [List.size_toArray, ← rv.length]; exact hz) fun s' acc c m es it => ?_
  have ea := items_rev it
  subst ea
  obtain ⟨h', g', d', tk, os'⟩ := s'
  obtain ⟨m1, m2, m3, m4, m5⟩ := m
  dsimp only at m1 m2 m3 m4 m5 es
  subst m2 m3 m4
  refine ⟨.ref _, _, I1.laid (a := (s1.heap.push (revObj a (its.toArray.size - 1))).objs.size) (o := .lst ys.reverse) (fun b u e => ?_) ?_ ?_, rfl, k _ ?_⟩
  · have hb := Heap.lt_size e
    refine m1 b u ?_ (Heap.get?_push_of_some _ (Heap.get?_push_of_some _ e))
    have sz : (s1.heap.push (revObj a (its.toArray.size - 1))).objs.size = s1.heap.objs.size + 1 := by simp [Heap.push]
    intro hm
    rcases (by simpa using hm : b = (s1.heap.push (revObj a (its.toArray.size - 1))).objs.size ∨ b = s1.heap.objs.size) with z | z
    · rw [sz] at z; rw [z] at hb; exact Nat.lt_irrefl _ (Nat.lt_of_succ_lt hb)
    · rw [z] at hb; exact Nat.lt_irrefl _ hb
  · simp [Heap.push]
  · exact ⟨by rw [List.length_reverse]; exact hz, its.reverse, c, vals_rev rv, by simpa using es⟩
  · exact I1.hok.fresh (by simp [Heap.push])
end
end L2
set_option Elab.async false
set_option linter.all false
set_option maxRecDepth 100000
set_option maxHeartbeats 4000000
namespace L2
open PySem PySem.Spec PyProof.Rows
structure FnOkG (P : Program) (w : World) (K : PySem.W.Frag) (mg : Str → Option Value) (base : Heap) (CX : CXT) (k : Nat) (f : Addr) (fd : FuncData) (ps : List Str) (sp : Sp) : Prop where
  len : ∀ vs H Q E, sp vs H Q E → vs.length = ps.length
  run : ∀ (A : Around) (outer : List Env) (s : Shared) (H : Hp) (args : Args) (us : List Value) (vs : List V) (Q : VK) (E : XK), A.guards = some [] → Room k A → Env0 P w K mg base A outer s H → BindsTo s fd args (ps.zip us) → Vals vs us → sp vs H Q E → codeAny (model P w) A (Code.call (Value.ref f) args) (CR CX outer P w H s Q E) s
/-- a list that is not the table of modules -/
def tLstS (t : TA) : TE := fun σ H Q => t σ H fun xs H1 => xs.length ≤ sizeLine ∧ ∀ p, H1 p = none → p ≠ sysModules → Q (.ref p) (upd H1 p (.lst xs))
theorem pe_lstS {X : Cx} {es : List Expr} {t : TA} {pos : Pos} (h : PA X es t) : PE X (.List es pos) (tLstS t) := by
  intro pins s σ H Q I hq
  refine wpAny_List_spliced (thn (h pos pins s σ H _ I hq) fun us s1 ⟨xs, H1, I1, r, z, q⟩ => ⟨by rw [← r.length]; exact z, ?_⟩)
  have hf : H1 s1.heap.objs.size = none := I1.hok.fresh (Nat.le_refl _)
  refine ⟨.ref s1.heap.objs.size, upd H1 s1.heap.objs.size (.lst xs), I1.laid (t' := s1.toks) (fun b u e => Heap.get?_push_of_some _ e) (Nat.le_refl _) ?_, rfl, q _ hf (Ne.symm (Nat.ne_of_lt I1.big))⟩
  exact ⟨z, us, 0, r, Heap.get?_push_size _ rfl⟩
def rCatS : R2 := fun x y H Q => ∃ l b xs zs, x = .ref l ∧ y = .ref b ∧ H l = some (.lst xs) ∧ H b = some (.lst zs) ∧ xs.length + zs.length ≤ sizeLine ∧ ∀ p, H p = none → p ≠ sysModules → Q (.ref p) (upd H p (.lst (xs ++ zs)))
theorem op_catS {X : Cx} : OpR X (binaryOp .Add) rCatS := by
  intro pins s σ H x y v u Q I rx ry h
  obtain ⟨l, b, xs, zs, rfl, rfl, hH, hB, hz, q⟩ := h
  cases rx
  cases ry
  obtain ⟨z, its, n, r, hl, e⟩ := I.lstM hH
  obtain ⟨z2, its2, n2, r2, hl2, e2⟩ := I.lstM hB
  refine PySem.P.add_list e e2 ?_ (by rw [List.size_toArray, List.size_toArray]; omega)
  have ea : its.toArray ++ its2.toArray = (its ++ its2).toArray := by simp
  rw [ea]
  exact ⟨.ref _, _, I.lnew (t' := s.toks) (r.append r2) (by rw [List.length_append]; omega), rfl, q _ I.fresh (Ne.symm (Nat.ne_of_lt I.big))⟩
theorem fn_ofG {CX : CXT} {P : Program} {w : World} {K : PySem.W.Frag} {mg : Str → Option Value} {base : Heap} {k : Nat} {f : Addr} {name qual : Str} {params : Arguments} {body : List Stmt} {scope : Scope} {dV kV doc pm cdv ct oc : Value} {an od : Option Addr}
    {osl : Array (Option Value)} {N ps : List Str} {sp : Sp} (lk : K.lookup f = some ⟨oc, od, .func (PySem.W.fnOf name qual params body scope dV kV doc pm an cdv ct), osl⟩) (hcd : PySem.W.codeIn K cdv qual = true) (S : FnScope N ps scope)
    (len : ∀ vs H Q E, sp vs H Q E → vs.length = ps.length)
    (hbody : ∀ (A : Around) (outer : List Env) (s : Shared) (H : Hp) (vs : List V) (Q : VK) (E : XK), A.guards = some [] → Room k (A.deeper (envOfC qual scope s.heap.objs.size f cdv)) → sp vs H Q E →
      ∃ t, PSs (cxOf CX P w K mg base N qual scope f cdv A outer s H E) body t ∧ t { nx := fun _ H' => Q .non H', rt := Q } (start N vs) H) :
    FnOkG P w K mg base CX (k + 1) f (PySem.W.fnOf name qual params body scope dV kV doc pm an cdv ct) ps sp := by
  refine ⟨len, fun A outer s H args us vs Q E hgd hr e0 hb r hsp => ?_⟩
  have hl := len _ _ _ _ hsp
  have KX : K.In s.heap := e0.mod.kin.keeps fun b o e => (e0.bs b o e).1
  have lim : s.heap.NoLimit := e0.mod.nolimit.keeps fun b o e => (e0.bs b o e).1
  have hkind : ∀ y ∈ ps.zip us, scope.names.lookup y.1 = some .local ∨ (scope.names.lookup y.1 = some .cell ∧ ((cellsFrom (s.heap.objs.size + 1) scope.names []).lookup y.1).isSome = true) := fun ⟨n, v⟩ hy => by
    rcases S.par n (List.of_mem_zip hy).1 with q | q
    · exact .inl q
    · exact .inr ⟨q, PySem.W.cellsFrom_some _ _ _ (.inl q)⟩
  refine codeAny_call_function hr.depth (KX _ _ lk) rfl S.co S.gen rfl (PySem.W.codeRec_of KX hcd) (hb _ _ _ _ ?_)
  refine wpAny_newFunctionEnv_cells S.kind hkind fun env he s1 x => ?_
  subst he
  refine ⟨lim.keeps x.toInCall.keep, codeAny_func ?_⟩
  obtain ⟨t, ht, hq⟩ := hbody A outer s H vs Q E hgd (hr.deeper _) hsp
  have I : Inv (cxOf CX P w K mg base N qual scope f cdv A outer s H E) [] (start N vs) H s1 := inv_start S hr.hd e0 hl r x
  refine wpAny_mono (ht [] s1 (start N vs) H _ I hq) (fun fl s' hs => ?_) fun e s' hs => hs
  have fin : ∀ {σ' : St} {H' : Hp} {v : V} {u : Value}, Inv (cxOf CX P w K mg base N qual scope f cdv A outer s H E) [] σ' H' s' → RelV v u → Q v H' → CE outer P w H s Q u s' :=
    fun {σ' H' v u} J rv q => ⟨v, H', J.os, J.bare, J.base, J.hok, rv, q⟩
  cases fl with
  | ret u =>
    obtain ⟨v, σ', H', J, rv, q⟩ := hs
    exact fin J rv q
  | next =>
    obtain ⟨σ', H', J, q⟩ := hs
    exact fin (v := V.non) (u := Value.none) J rfl q
  | brk =>
    obtain ⟨_, _, _, q⟩ := hs
    exact False.elim q
  | cont =>
    obtain ⟨_, _, _, q⟩ := hs
    exact False.elim q
theorem law_callG {P : Program} {w : World} {K : PySem.W.Frag} {mg mb : Str → Option Value} {CX : CXT} {k : Nat} {fa a : Addr} {fd : FuncData} {x : Str} {sp : Sp} {s₁ : Shared} {vs : List Value} {ns : List Int}
    (KX : K.In s₁.heap) (hns : s₁.heap.Ns mainGlobals mg) (hb : s₁.heap.Ns builtinsNs mb) (hbb : ∀ x : Str, x ≠ "__name__" → mb x = bootBuiltins x) (hlim : s₁.heap.NoLimit) (hg : s₁.gens = #[])
    (ha : s₁.heap.get? a = some { cls := .type "list", data := .seq vs.toArray }) (hi : IntsAre vs ns) (hl : ns.length ≤ sizeLine) (hr : Room k callerA)
    (F : ∀ base : Heap, K.In base → base.Ns mainGlobals mg → FnOkG P w K mg base CX k fa fd [x] sp) (hbind : ∀ (s : Shared) (u : Value), BindsTo s fd ⟨[u], []⟩ [(x, u)])
    (hsp : ∀ H : Hp, Only H → SqL K H a (ns.map V.int) → sp [.ref a] H (fun v _ => v = .bl true) fun _ _ _ => False)
    (hCX : ∀ H e s', CX [] H s₁ (fun _ _ _ => False) e s' → False) :
    codeAny (model P w) callerA (.call (.ref fa) ⟨[.ref a], []⟩) (fun r s' => r = .ok (.ret (.bool true)) ∧ OldK s₁.heap s'.heap ∧ s'.os = s₁.os ∧ AllBare s'.gens) s₁ := by
  have rv := vals_ints hi
  have lenV := hi.length
  -- from an abstract heap in which nothing but the script may be tracked
  have core : ∀ H : Hp, Only H → SqL K H a (ns.map V.int) → HOk P w H s₁.heap → (∀ b, H b ≠ none → b = a) → (H a ≠ none → K.lookup a = none) →
      codeAny (model P w) callerA (.call (.ref fa) ⟨[.ref a], []⟩) (fun r s' => r = .ok (.ret (.bool true)) ∧ OldK s₁.heap s'.heap ∧ s'.os = s₁.os ∧ AllBare s'.gens) s₁ := by
    intro H hO hS hok hA hK
    have base_of : ∀ {b : Addr} {o : Obj}, s₁.heap.get? b = some o → H b = none → (hidT s₁.heap H).get? b = some o := fun e n => hidT_get e n
    have noA : ∀ {b : Addr} {o : Obj} {es : Array DictEntry} {ep : Nat}, s₁.heap.get? b = some o → o.data = .dict es ep → H b = none := fun {b o es ep} e d => by
      cases q : H b with
      | none => rfl
      | some u =>
        have e' : b = a := hA b (by rw [q]; simp)
        subst e'
        rw [ha] at e; cases e
        have d' : Data.seq vs.toArray _ = Data.dict es ep := d
        cases d'
    have nsK : ∀ {b : Addr} {m : Str → Option Value}, s₁.heap.Ns b m → (hidT s₁.heap H).Ns b m := fun {b m} ⟨o, es, ep, e, d, r⟩ => ⟨o, es, ep, base_of e (noA e d), d, r⟩
    have hKb : K.In (hidT s₁.heap H) := fun b o e => base_of (KX b o e) (by
      cases q : H b with
      | none => rfl
      | some u =>
        have e' : b = a := hA b (by rw [q]; simp)
        subst e'
        rw [hK (by rw [q]; simp)] at e; cases e)
    have hM : Mod K mg (hidT s₁.heap H) := ⟨hKb, nsK hns, ⟨mb, nsK hb, hbb⟩, let ⟨mc, h1, h2⟩ := hlim; ⟨mc, nsK h1, h2⟩⟩
    have e0 : Env0 P w K mg (hidT s₁.heap H) callerA [] s₁ H := ⟨rfl, hM, fun b o e => of_hidT e, Nat.le_of_eq (hidT_size _ _), trivial, fun b hb => absurd (show b ∈ ([] : List Addr) from hb) (by simp), hok, .of_eq hg⟩
    refine codeAny_mono ((F _ hKb (nsK hns)).run callerA [] s₁ H ⟨[.ref a], []⟩ [.ref a] [.ref a] _ _ rfl hr e0 (hbind s₁ (.ref a)) (.cons rfl .nil) (hsp H hO hS)) fun r s' h => ?_
    cases r with
    | error e => exact (hCX H e s' h).elim
    | ok fl =>
      cases fl with
      | next => exact False.elim h
      | brk => exact False.elim h
      | cont => exact False.elim h
      | ret u =>
        obtain ⟨v, H', os, bare, un, hok', r', q⟩ := h
        have q' : v = .bl true := q
        subst q'
        obtain rfl : u = Value.bool true := r'
        refine ⟨rfl, OldK.of_keep fun b o e => ?_, os, bare⟩
        cases q : H b with
        | none => exact un.keep b o e q (by intro z; exact absurd (show b ∈ ([] : List Addr) from z) (by simp)) (by simp)
        | some u =>
          rcases hO b with z | ⟨ob, xs, z⟩
          · rw [q] at z; cases z
          · have z2 := un.frzs b ob _ z
            obtain ⟨e1, _⟩ := hok b _ z
            obtain ⟨e2, _⟩ := hok' b _ z2
            rw [e] at e1; cases e1
            exact e2
  cases hk : K.lookup a with
  | some o =>
    -- the script is one of the module's own objects
    have e := KX a o hk
    rw [ha] at e
    cases e
    refine core (fun _ => none) (fun _ => .inl rfl) (.inr ⟨_, vs.toArray, _, hk, rfl, rfl, rfl, by rw [List.size_toArray, lenV]; exact hl, by simpa using rv⟩) (fun b u z => by have z' : (none : Option HO) = some u := z; cases z') (fun b z => absurd rfl z) fun z => absurd rfl z
  | none =>
    refine core (fun b => if b = a then some (.frz { cls := .type "list", data := .seq vs.toArray } (.lst (ns.map V.int))) else none) (fun b => ?_) (.inl (.inr ⟨{ cls := .type "list", data := .seq vs.toArray }, if_pos rfl⟩)) (fun b u z => ?_) (fun b z => ?_) fun _ => hk
    · by_cases hb : b = a
      · exact .inr ⟨_, _, if_pos hb⟩
      · exact .inl (if_neg hb)
    · by_cases hb : b = a
      · have z' := (if_pos hb).symm.trans z
        cases z'
        subst hb
        exact ⟨ha, by rw [List.length_map]; exact hl, vs, _, rv, ha⟩
      · have z' := (if_neg hb).symm.trans z
        cases z'
    · by_cases hb : b = a
      · exact hb
      · exact absurd (if_neg hb) z
theorem walk_ofG {l : PySem.W.OpenLaw} {n k : Nat} {q : Program} {loose : List Str} {XP : (Str → Option Value) → Heap → Prop} {YP : World → Heap → Prop} {d : DefRec} {K : Params → PySem.W.Frag} {CX : World → CXT} {sp : World → Sp} {x : Str}
    (hn : l.most = some n) (hn2 : n ≤ sizeLine) (hdf : d.params.defaults = []) (hr : Room k callerA)
    (hY : ∀ (w : World) (h : Heap), YP w h → (K w.params).In h)
    (F : ∀ (w : World) (mg : Str → Option Value) (fa : Addr) (h : Heap), (K w.params).In h → h.Ns mainGlobals mg → mg d.name = some (.ref fa) →
      ∃ fd : FuncData, (∀ (s : Shared) (u : Value), BindsTo s fd ⟨[u], []⟩ [(x, u)]) ∧
        ∀ base : Heap, (K w.params).In base → base.Ns mainGlobals mg → FnOkG l.prog w (K w.params) mg base (CX w) k fa fd [x] (sp w))
    (hsp : ∀ (w : World) (H : Hp) (a : Addr) (ns : List Int), ns.length ≤ n → Only H → SqL (K w.params) H a (ns.map V.int) → sp w [.ref a] H (fun v _ => v = .bl true) fun _ _ _ => False)
    (hCX : ∀ (w : World) (H : Hp) (s : Shared) (e : Value) (s' : Shared), CX w [] H s (fun _ _ _ => False) e s' → False) :
    PySem.W.WalkO q loose XP YP l.row.toRowW d [] (fun f vs => PySem.call f vs) := by
  refine Att.attach_call hn hdf fun w s₀ s₁ mg mb fa o pm cd doc a vs ns G Y ho hd hcd hmg hobj hints hlen hg => ?_
  have KX := hY w _ Y
  obtain ⟨fd, hb, hF⟩ := F w mg fa _ KX G.T.g hmg
  exact law_callG KX G.T.g G.T.b G.T.builtins G.T.nolimit hg hobj hints (Nat.le_trans hlen hn2) hr hF hb (fun H hO hS => hsp w H a ns hlen hO hS) fun H e s' => hCX w H s₁ e s'

open PySem.W in
theorem Fun.okEG {P : Program} {w : World} {K : Frag} {mg : Str → Option Value} {base : Heap} {x qual : Str} {st : Stmt} {f : Addr} {fd : FuncData} {N ps : List Str} {k : Nat} {sp : Sp} (F : Fun K x qual st f fd) (S : FnScope N ps (defScope st)) (len : ∀ vs H Q E, sp vs H Q E → vs.length = ps.length)
    (hbody : ∀ (X : Cx) (cdv : Value) (A : Around) (outer : List Env) (s : Shared) (H : Hp) (vs : List V) (Q : VK) (E : XK), X = cxOf (CX1 P w) P w K mg base N qual (defScope st) f cdv A outer s H E → X.A.guards = some [] → Room k X.A → Catches X (fun C dd _ H' => E C dd H') → sp vs H Q E →
      ∃ t, PSs (cxOf (CX1 P w) P w K mg base N qual (defScope st) f cdv A outer s H E) (defBody st) t ∧ t { nx := fun _ H' => Q .non H', rt := Q } (start N vs) H) : FnOkG P w K mg base (CX1 P w) (k + 1) f fd ps sp := by
  obtain ⟨oc, od, kV, doc, pm, an, cdv, ct, osl, rfl, lk, hc⟩ := F.ex
  exact fn_ofG lk hc S len fun A outer s H vs Q E hg hr h => hbody _ cdv A outer s H vs Q E rfl hg hr catches_fn h
end L2
set_option Elab.async false
set_option linter.all false
set_option maxRecDepth 100000
set_option maxHeartbeats 4000000
namespace L2
open PySem PySem.Spec PyProof.Rows PySem.W
/-! ### repr(data) -/
mutual
/-- a value as data that nobody but the heap's names holds: flat ones, tuples, lists, small dicts -/
inductive RdR (H : Hp) : V → PyData → Prop where
  | non : RdR H .non .none
  | bl (b : Bool) : RdR H (.bl b) (.bool b)
  | int (i : Int) : RdR H (.int i) (.int i)
  | str (x : Str) : RdR H (.str x) (.str x)
  | tup {a : Addr} {xs : List V} {ds : List PyData} (h : H a = some (.tup xs)) (r : RdRs H xs ds) : RdR H (.ref a) (.tuple ds)
  | lst {a : Addr} {xs : List V} {ds : List PyData} (h : H a = some (.lst xs)) (n : a ≠ sysModules) (r : RdRs H xs ds) : RdR H (.ref a) (.list ds)
  | dct0 {a : Addr} (h : H a = some (.dK [])) : RdR H (.ref a) (.dict [])
  | dct1 {a : Addr} {z : Str} {b : Bool} (h : H a = some (.dK [(.inr z, .bl b)])) : RdR H (.ref a) (.dict [(.str z, .bool b)])
inductive RdRs (H : Hp) : List V → List PyData → Prop where
  | nil : RdRs H [] []
  | cons {x : V} {xs : List V} {d : PyData} {ds : List PyData} (h : RdR H x d) (r : RdRs H xs ds) : RdRs H (x :: xs) (d :: ds)
end
mutual
theorem RdR.same {H H' : Hp} (s : ∀ b o, H b = some o → H' b = some o) : ∀ {x : V} {d : PyData}, RdR H x d → RdR H' x d
  | _, _, .non => .non
  | _, _, .bl b => .bl b
  | _, _, .int i => .int i
  | _, _, .str x => .str x
  | _, _, .tup h r => .tup (s _ _ h) (RdRs.same s r)
  | _, _, .lst h n r => .lst (s _ _ h) n (RdRs.same s r)
  | _, _, .dct0 h => .dct0 (s _ _ h)
  | _, _, .dct1 h => .dct1 (s _ _ h)
theorem RdRs.same {H H' : Hp} (s : ∀ b o, H b = some o → H' b = some o) : ∀ {x : List V} {d : List PyData}, RdRs H x d → RdRs H' x d
  | _, _, .nil => .nil
  | _, _, .cons h r => .cons (RdR.same s h) (RdRs.same s r)
end
section
variable {X : Cx}
mutual
theorem RdR.reads {pins : List (Addr × Obj)} {σ : St} {H : Hp} {s : Shared} (I : Inv X pins σ H s) : ∀ {x : V} {d : PyData} {u : Value}, RdR H x d → RelV x u → ∃ as, Reads s.heap u d as ∧ sysModules ∉ as
  | _, _, _, .non, r => by cases r; exact ⟨_, .none, by simp⟩
  | _, _, _, .bl b, r => by cases r; exact ⟨_, .bool b, by simp⟩
  | _, _, _, .int i, r => by obtain ⟨t, rfl⟩ := r; exact ⟨_, .int i t, by simp⟩
  | _, _, _, .str x, r => by obtain ⟨t, rfl⟩ := r; exact ⟨_, .str x t, by simp⟩
  | _, _, _, .tup h q, r => by
    cases r
    obtain ⟨_, its, rv, o, e, c, n, d⟩ := I.hok _ _ h
    obtain ⟨as, z, y⟩ := RdRs.reads I q rv
    exact ⟨_, .tuple e c d (by simpa using z), y⟩
  | _, _, _, .lst (a := a) h nn q, r => by
    cases r
    obtain ⟨_, its, n, rv, e⟩ := I.hok _ _ h
    obtain ⟨as, z, y⟩ := RdRs.reads I q rv
    refine ⟨_, .list e rfl rfl (by simpa using z), fun hm => ?_⟩
    rcases List.mem_cons.mp hm with hm | hm
    · exact nn hm.symm
    · exact y hm
  | _, _, _, .dct0 (a := a) h, r => by
    cases r
    obtain ⟨_, nS, vs, kv, o, es, ep, e, c, d, _, ps, _⟩ := I.hok _ _ h
    cases kv
    cases hp : es.toList with
    | cons _ _ => rw [hp] at ps; cases ps
    | nil =>
      refine ⟨_, .dict (kvs := []) e c.1 d (by rw [hp]; exact .nil) (by rw [hp]; exact .nil), fun hm => ?_⟩
      exact beq_eq_false_iff_ne.mp nS (by simpa using hm : sysModules = a).symm
  | _, _, _, .dct1 (a := a) (z := z) (b := b) h, r => by
    cases r
    obtain ⟨_, nS, vs, kv, o, es, ep, e, c, d, _, ps, _⟩ := I.hok _ _ h
    cases kv with
    | cons k1 k2 =>
      cases k2
      obtain ⟨k1a, k1b⟩ := k1
      cases ps' : es.toList with
      | nil => rw [ps'] at ps; cases ps
      | cons en rest =>
        rw [ps'] at ps
        cases ps with
        | cons p1 p2 p3 =>
          cases p3
          have hk : ∃ t, en.key = .str z t := by
            rw [← k1a] at p1
            have p1 : Value.isStrOf z en.key = true := p1
            cases hk : en.key <;> rw [hk] at p1 <;> simp [Value.isStrOf] at p1
            subst p1
            exact ⟨_, rfl⟩
          obtain ⟨t, hk⟩ := hk
          have hv : en.val = .bool b := p2.trans k1b
          refine ⟨_, .dict (kvs := [(.str z, .bool b)]) e c.1 d (by rw [ps']; show ReadsAll s.heap [en.key] [.str z] _; rw [hk]; exact .cons (.str z t) .nil) (by rw [ps']; show ReadsAll s.heap [en.val] [.bool b] _; rw [hv]; exact .cons (.bool b) .nil), fun hm => ?_⟩
          exact beq_eq_false_iff_ne.mp nS (by simpa using hm : sysModules = a).symm
theorem RdRs.reads {pins : List (Addr × Obj)} {σ : St} {H : Hp} {s : Shared} (I : Inv X pins σ H s) : ∀ {xs : List V} {ds : List PyData} {us : List Value}, RdRs H xs ds → Vals xs us → ∃ as, ReadsAll s.heap us ds as ∧ sysModules ∉ as
  | _, _, _, .nil, r => by cases r; exact ⟨_, .nil, by simp⟩
  | _, _, _, .cons h q, r => by
    cases r with
    | cons r1 r2 =>
      obtain ⟨as, z, n1⟩ := RdR.reads I h r1
      obtain ⟨bs, y, n2⟩ := RdRs.reads I q r2
      exact ⟨_, .cons z y, by simp [n1, n2]⟩
end
def ShowOk (d : PyData) : Prop := d.showable = true ∧ d.depth ≤ 10 ∧ d.shown.length ≤ sizeLine
theorem call_repr (hg : X.A.guards = some []) (hu : X.A.units + 64 < cLine) : CallR X (.builtin "repr") (fun xs H Q => ∃ v d, xs = [v] ∧ RdR H v d ∧ ShowOk d ∧ Q (.str d.shown) H) := by
  intro pins s σ H xs us Q I r h
  obtain ⟨v, d, rfl, hv, ⟨sh, dp, ln⟩, q⟩ := h
  obtain ⟨u, rfl, ru⟩ := Vals.one r
  have big : ∀ a, v = .ref a → wpAny (model X.prog X.w) X.A (call (.builtin "repr") [u]) (EP X pins σ Q) X.xe s := fun a e => by
    subst e
    obtain ⟨as, z, ny⟩ := hv.reads I ru
    cases ru
    exact repr_of_reads' z sh (fun _ => ny) hg (by omega) (fun b o e => e) (fun h' u tk k => ⟨.str d.shown, H, I.kept k, ⟨u, rfl⟩, q⟩) ln
  cases hv with
  | non =>
    cases ru
    exact P.repr_of_none ⟨.str (PyData.shown .none), H, I.tok _, ⟨s.toks, by simp [PyData.shown]⟩, q⟩
  | bl b =>
    cases ru
    exact P.repr_of_bool ⟨.str (PyData.shown (.bool b)), H, I.tok _, ⟨s.toks, by simp [PyData.shown]⟩, q⟩
  | int i =>
    obtain ⟨t, rfl⟩ := ru
    exact P.repr_of_int (by simpa [PyData.showable] using sh) ⟨.str (PyData.shown (.int i)), H, I.tok _, ⟨s.toks, by simp [PyData.shown]⟩, q⟩
  | str x =>
    obtain ⟨t, rfl⟩ := ru
    exact P.repr_of_str ⟨.str (PyData.shown (.str x)), H, I.tok _, ⟨s.toks, by simp [PyData.shown]⟩, q⟩ (by simpa [PyData.shown] using ln)
  | tup _ _ => exact big _ rfl
  | lst _ _ _ => exact big _ rfl
  | dct0 _ => exact big _ rfl
  | dct1 _ => exact big _ rfl
theorem boot_repr' : bootBuiltins "repr" = some (.builtin "repr") := by decide +kernel
end
end L2
set_option Elab.async false
set_option linter.all false
set_option maxRecDepth 100000
set_option maxHeartbeats 4000000
namespace TR
open PySem L2 PySem.W PyProof.Rows
seal PE PS PSs PA PT PW PG PGs PI PO
def top (i : Nat) : Stmt := PySem.Challenge.pw_tenreckon_k08_traps_refused.main.body.getD i (.Pass ⟨0, 0, 0, 0⟩)
abbrev sIsB : Stmt := (top 9)
section
variable {P : Program} {w : World} {K : Frag} {mg : Str → Option Value} {base : Heap}
def spIsB (K : Frag) : Sp := fun vs H Q _ => ∃ v lo hi, vs = [v, .int lo, .int hi] ∧ ((GoodV lo hi v ∧ Q (.bl true) H) ∨ (BadV K H lo hi v ∧ Q (.bl false) H))
theorem scIsB : FnScope ["thing", "least", "most"] ["thing", "least", "most"] (defScope sIsB) := ⟨rfl, rfl, rfl, by decide +kernel, rfl, by decide +kernel, by decide +kernel⟩
theorem ok_isB {f : Addr} {fd : FuncData} (D : Def K mg "is_between" ["thing", "least", "most"] sIsB f fd) (O : Own mg) (T : Kit K) : FnOk P w K mg base (CX1 P w) 1 f fd ["thing", "least", "most"] (spIsB K) := by
  refine FnOk.up (D.F.ok scIsB (fun vs H Q E h => ?_) (fun cdv A outer s H vs Q E hr h => ?_))
  · obtain ⟨v, lo, hi, rfl, _⟩ := h
    rfl
  · obtain ⟨v, lo, hi, rfl, h⟩ := h
    refine ⟨_, (pss_cons (ps_if (PW.pt (pw_or (pt_not (pt_val (pisi O.isi (pv 0) (pty O.int_ boot_int)))) (pw_or1 (pt_val (pisi O.isi (pv 0) (pty O.bool_ boot_bool)))))) (pss_one (ps_ret pe_bl)) pss_nil)
      (pss_one (ps_ret (pe_and (pe_cmpR op_ge (pv 0) (pv 1) (nomark _)) (pe_one (pe_cmpR op_le (pv 0) (pv 2) (nomark _))))))), ?_⟩
    rcases h with ⟨⟨i, rfl, h1, h2⟩, k⟩ | ⟨⟨t, b1, b2, ty, k1, k2, bad⟩, k⟩
    · refine ⟨_, rfl, _, _, _, _, true, rfl, rfl, tyInt i, T.int_int, _, rfl, iteF ?_⟩
      refine ⟨_, rfl, _, _, _, _, false, rfl, rfl, tyInt i, T.int_bool, _, rfl, iteF ?_⟩
      refine ⟨_, rfl, _, rfl, _, _, rfl, rfl, _, rfl, iteDT h1 ?_⟩
      refine ⟨_, rfl, _, rfl, _, _, rfl, rfl, ?_⟩
      show Q (.bl (decide (i ≤ hi))) H
      rw [decide_eq_true h2]
      exact k
    · refine ⟨_, rfl, _, _, _, _, b1, rfl, rfl, ty, k1, _, rfl, ?_⟩
      cases b1 with
      | false => exact iteT (iteT k)
      | true =>
        refine iteF ⟨_, rfl, _, _, _, _, b2, rfl, rfl, ty, k2, _, rfl, ?_⟩
        cases b2 with
        | true => exact iteT k
        | false =>
          obtain ⟨i, rfl, out⟩ := bad.resolve_left (by decide)
          refine iteF ⟨_, rfl, _, rfl, _, _, rfl, rfl, _, rfl, iteD (fun h1 => ?_) (fun h1 => ?_)⟩
          · refine ⟨_, rfl, _, rfl, _, _, rfl, rfl, ?_⟩
            show Q (.bl (decide (i ≤ hi))) H
            rw [decide_eq_false (by omega : ¬ i ≤ hi)]
            exact k
          · exact k
end
end TR
set_option Elab.async false
set_option linter.all false
set_option maxRecDepth 100000
set_option maxHeartbeats 4000000
namespace TR
open PySem L2 PySem.W PyProof.Rows
seal PE PS PSs PA PT PW PG PGs PI PO
/-- the error class BadContext -/
structure Err (K : Frag) (mg : Str → Option Value) (x : Str) (CB : Addr) : Prop where
  g : mg x = some (.ref CB)
  q : excIn K CB [.type "ValueError", .type "Exception", .type "BaseException", .type "object"] "ValueError.__new__" = true
end TR
set_option Elab.async false
set_option linter.all false
set_option maxRecDepth 100000
set_option maxHeartbeats 4000000
namespace TR
open PySem L2 PySem.W PyProof.Rows
seal PE PS PSs PA PT PW PG PGs PI PO
def Lits (lo hi : Int) : Prop := lo.natAbs.log2 < 1920 ∧ hi.natAbs.log2 < 1920 ∧ (Str.ofString (toString lo)).length ≤ 100 ∧ (Str.ofString (toString hi)).length ≤ 100
end TR
set_option Elab.async false
set_option linter.all false
set_option maxRecDepth 100000
set_option maxHeartbeats 4000000
namespace TR
open PySem L2 PySem.W PyProof.Rows
seal PE PS PSs PA PT PW PG PGs PI PO
abbrev sBounded : Stmt := (top 24)
section
variable {P : Program} {w : World} {K : Frag} {mg : Str → Option Value} {base : Heap}

def spBounded (K : Frag) (CB : Addr) : Sp := fun vs H Q E => ∃ v lo hi, vs = [v, .int lo, .int hi] ∧ Lits lo hi ∧ ((GoodV lo hi v ∧ Q v H) ∨ (BadV K H lo hi v ∧ E (.ref CB) none H))
theorem scBounded : FnScope ["thing", "least", "most"] ["thing", "least", "most"] (defScope sBounded) := ⟨rfl, rfl, rfl, by decide +kernel, rfl, by decide +kernel, by decide +kernel⟩
theorem ok_bounded {f f1 CB : Addr} {fd fd1 : FuncData} (D : Def K mg "bounded" ["thing", "least", "most"] sBounded f fd) (D1 : Def K mg "is_between" ["thing", "least", "most"] sIsB f1 fd1) (O : Own mg) (T : Kit K) (B : Err K mg "BadContext" CB) :
    FnOk P w K mg base (CX1 P w) 2 f fd ["thing", "least", "most"] (spBounded K CB) := by
  have G1 := ok_isB (P := P) (w := w) (base := base) D1 O T
  refine D.F.okE scBounded (fun vs H Q E h => ?_) (fun X cdv A outer s H vs Q E hX hr hx h => ?_)
  · obtain ⟨v, lo, hi, rfl, _⟩ := h
    rfl
  · subst hX
    obtain ⟨v, lo, hi, rfl, ⟨l1, l2, l3, l4⟩, h⟩ := h
    refine ⟨_, (pss_cons (ps_if (pt_not (pt_val (pcall D1 G1 hr hx (pa_cons (pv 0) (pa_cons (pv 1) (pa_cons (pv 2) pa_nil))))))
      (pss_one (ps_raise (by rfl) B.g B.q PySem.F.excBase_ValueError hr.hd hx (pa_cons (pe_fstr (.cons .lit (.cons (.int (pv 1)) (.cons .lit (.cons (.int (pv 2)) .nil))))) pa_nil))) pss_nil)
      (pss_one (ps_ret (pv 0)))), ?_⟩
    rcases h with ⟨g, k⟩ | ⟨bad, k⟩
    · exact ⟨_, rfl, _, rfl, _, rfl, _, _, _, rfl, .inl ⟨g, _, rfl, iteF ⟨_, rfl, k⟩⟩⟩
    · have a0 : Str.empty.length = 0 := rfl
      have a1 : (Str.ofString "not a whole number from ").length = 24 := by decide +kernel
      have a2 : (Str.ofString " to ").length = 4 := by decide +kernel
      have sz : ∀ {n : Nat}, n ≤ 1000 → n ≤ sizeLine := fun h => Nat.le_of_lt (small1000 h)
      refine ⟨_, rfl, _, rfl, _, rfl, _, _, _, rfl, .inr ⟨bad, _, rfl, iteT ?_⟩⟩
      exact ⟨_, rfl, sz (by rw [strLen_append]; omega), _, rfl, _, rfl, l1, _, rfl, sz (by rw [strLen_append, strLen_append]; omega), _, rfl, sz (by rw [strLen_append, strLen_append, strLen_append]; omega), _, rfl, _, rfl, l2, _, rfl, sz (by rw [strLen_append, strLen_append, strLen_append, strLen_append]; omega), sz (by rw [strLen_append, strLen_append, strLen_append, strLen_append]; omega), sz (by show 1 ≤ 1000; decide), k⟩
end
end TR
set_option Elab.async false
set_option linter.all false
set_option maxRecDepth 100000
set_option maxHeartbeats 4000000
namespace TR
open PySem L2 PySem.W PyProof.Rows
seal PE PS PSs PA PT PW PG PGs PI PO
/-- the eight ways -/
inductive Wy where
  | down
  | up
  | floor
  | ceiling
  | halfUp
  | halfDown
  | halfEven
  | fiveUp
def Wy.name : Wy → Str
  | .down => "down"
  | .up => "up"
  | .floor => "floor"
  | .ceiling => "ceiling"
  | .halfUp => "half up"
  | .halfDown => "half down"
  | .halfEven => "half even"
  | .fiveUp => "five up"
def Wy.cls : Wy → Str
  | .down => "Down"
  | .up => "Up"
  | .floor => "Floor"
  | .ceiling => "Ceiling"
  | .halfUp => "HalfUp"
  | .halfDown => "HalfDown"
  | .halfEven => "HalfEven"
  | .fiveUp => "FiveUp"
theorem Wy.inj {a b : Wy} (h : a.name = b.name) : a = b := by
  cases a <;> cases b <;> first | rfl | exact absurd h (by decide +kernel)
/-- a class of a way -/
structure WayC (K : Frag) (mg : Str → Option Value) (x : Str) (C CW : Addr) : Prop where
  g : mg x = some (.ref C)
  cl : Cls K C
  mk0 : Mk0 K C
  ca : findIn K (.ref C) "__class__" = some (some (.builtin "object.__class__"))
  sn : specialIn K (.builtin "object.__class__") "__get__" = some (some (.builtin "getset_descriptor.__get__"))
  tk : takesIn K (.builtin "object.__class__") = some true
  ob : mroIn K C (.type "object") = some true
  up : kitOne K (.ref C) (.ref CW) = some true
theorem WayC.ty {K : Frag} {mg : Str → Option Value} {x : Str} {C CW : Addr} (W : WayC K mg x C CW) {H : Hp} {n dx : Addr} {fs : List (Str × V)} (h : H n = some (.ins C dx fs)) : TyE K H (.ref n) (.ref C) := .of (.ins h W.cl W.ca W.sn W.tk W.ob)
section
variable {P : Program} {w : World} {K : Frag} {mg : Str → Option Value} {base : Heap}
def spName (s : Str) : Sp := fun vs H Q _ => ∃ p, vs = [.ref p] ∧ Q (.str s) H
/-- its method name -/
def WayN (P : Program) (w : World) (K : Frag) (mg : Str → Option Value) (base : Heap) (C : Addr) (s : Str) : Prop := Has P w K mg base C "name" 1 ["self"] (spName s)
abbrev sN0 : Stmt := (inClass (top 12) 0)
theorem scN0 : FnScope ["self"] ["self"] (defScope sN0) := ⟨rfl, rfl, rfl, by decide +kernel, rfl, by decide +kernel, by decide +kernel⟩
theorem ok_n0 {f : Addr} {fd : FuncData} (F : Fun K "name" "Down.name" sN0 f fd) : FnOk P w K mg base (CX1 P w) 1 f fd ["self"] (spName "down") := by
  refine FnOk.up (F.ok scN0 (fun vs H Q E h => ?_) (fun cdv A outer s H vs Q E hr h => ?_))
  · obtain ⟨p, rfl, _⟩ := h
    rfl
  · obtain ⟨p, rfl, k⟩ := h
    exact ⟨_, pss_one (ps_ret pe_str), k⟩
abbrev sN1 : Stmt := (inClass (top 13) 0)
theorem scN1 : FnScope ["self"] ["self"] (defScope sN1) := ⟨rfl, rfl, rfl, by decide +kernel, rfl, by decide +kernel, by decide +kernel⟩
theorem ok_n1 {f : Addr} {fd : FuncData} (F : Fun K "name" "Up.name" sN1 f fd) : FnOk P w K mg base (CX1 P w) 1 f fd ["self"] (spName "up") := by
  refine FnOk.up (F.ok scN1 (fun vs H Q E h => ?_) (fun cdv A outer s H vs Q E hr h => ?_))
  · obtain ⟨p, rfl, _⟩ := h
    rfl
  · obtain ⟨p, rfl, k⟩ := h
    exact ⟨_, pss_one (ps_ret pe_str), k⟩
abbrev sN2 : Stmt := (inClass (top 14) 0)
theorem scN2 : FnScope ["self"] ["self"] (defScope sN2) := ⟨rfl, rfl, rfl, by decide +kernel, rfl, by decide +kernel, by decide +kernel⟩
theorem ok_n2 {f : Addr} {fd : FuncData} (F : Fun K "name" "Floor.name" sN2 f fd) : FnOk P w K mg base (CX1 P w) 1 f fd ["self"] (spName "floor") := by
  refine FnOk.up (F.ok scN2 (fun vs H Q E h => ?_) (fun cdv A outer s H vs Q E hr h => ?_))
  · obtain ⟨p, rfl, _⟩ := h
    rfl
  · obtain ⟨p, rfl, k⟩ := h
    exact ⟨_, pss_one (ps_ret pe_str), k⟩
abbrev sN3 : Stmt := (inClass (top 15) 0)
theorem scN3 : FnScope ["self"] ["self"] (defScope sN3) := ⟨rfl, rfl, rfl, by decide +kernel, rfl, by decide +kernel, by decide +kernel⟩
theorem ok_n3 {f : Addr} {fd : FuncData} (F : Fun K "name" "Ceiling.name" sN3 f fd) : FnOk P w K mg base (CX1 P w) 1 f fd ["self"] (spName "ceiling") := by
  refine FnOk.up (F.ok scN3 (fun vs H Q E h => ?_) (fun cdv A outer s H vs Q E hr h => ?_))
  · obtain ⟨p, rfl, _⟩ := h
    rfl
  · obtain ⟨p, rfl, k⟩ := h
    exact ⟨_, pss_one (ps_ret pe_str), k⟩
abbrev sN4 : Stmt := (inClass (top 16) 0)
theorem scN4 : FnScope ["self"] ["self"] (defScope sN4) := ⟨rfl, rfl, rfl, by decide +kernel, rfl, by decide +kernel, by decide +kernel⟩
theorem ok_n4 {f : Addr} {fd : FuncData} (F : Fun K "name" "HalfUp.name" sN4 f fd) : FnOk P w K mg base (CX1 P w) 1 f fd ["self"] (spName "half up") := by
  refine FnOk.up (F.ok scN4 (fun vs H Q E h => ?_) (fun cdv A outer s H vs Q E hr h => ?_))
  · obtain ⟨p, rfl, _⟩ := h
    rfl
  · obtain ⟨p, rfl, k⟩ := h
    exact ⟨_, pss_one (ps_ret pe_str), k⟩
abbrev sN5 : Stmt := (inClass (top 17) 0)
theorem scN5 : FnScope ["self"] ["self"] (defScope sN5) := ⟨rfl, rfl, rfl, by decide +kernel, rfl, by decide +kernel, by decide +kernel⟩
theorem ok_n5 {f : Addr} {fd : FuncData} (F : Fun K "name" "HalfDown.name" sN5 f fd) : FnOk P w K mg base (CX1 P w) 1 f fd ["self"] (spName "half down") := by
  refine FnOk.up (F.ok scN5 (fun vs H Q E h => ?_) (fun cdv A outer s H vs Q E hr h => ?_))
  · obtain ⟨p, rfl, _⟩ := h
    rfl
  · obtain ⟨p, rfl, k⟩ := h
    exact ⟨_, pss_one (ps_ret pe_str), k⟩
abbrev sN6 : Stmt := (inClass (top 18) 0)
theorem scN6 : FnScope ["self"] ["self"] (defScope sN6) := ⟨rfl, rfl, rfl, by decide +kernel, rfl, by decide +kernel, by decide +kernel⟩
theorem ok_n6 {f : Addr} {fd : FuncData} (F : Fun K "name" "HalfEven.name" sN6 f fd) : FnOk P w K mg base (CX1 P w) 1 f fd ["self"] (spName "half even") := by
  refine FnOk.up (F.ok scN6 (fun vs H Q E h => ?_) (fun cdv A outer s H vs Q E hr h => ?_))
  · obtain ⟨p, rfl, _⟩ := h
    rfl
  · obtain ⟨p, rfl, k⟩ := h
    exact ⟨_, pss_one (ps_ret pe_str), k⟩
abbrev sN7 : Stmt := (inClass (top 19) 0)
theorem scN7 : FnScope ["self"] ["self"] (defScope sN7) := ⟨rfl, rfl, rfl, by decide +kernel, rfl, by decide +kernel, by decide +kernel⟩
theorem ok_n7 {f : Addr} {fd : FuncData} (F : Fun K "name" "FiveUp.name" sN7 f fd) : FnOk P w K mg base (CX1 P w) 1 f fd ["self"] (spName "five up") := by
  refine FnOk.up (F.ok scN7 (fun vs H Q E h => ?_) (fun cdv A outer s H vs Q E hr h => ?_))
  · obtain ⟨p, rfl, _⟩ := h
    rfl
  · obtain ⟨p, rfl, k⟩ := h
    exact ⟨_, pss_one (ps_ret pe_str), k⟩
/-- no name of a way -/
def NoWay (K : Frag) (H : Hp) (v : V) : Prop := ∃ t b, TyE K H v t ∧ kitOne K t (.type "str") = some b ∧ (b = false ∨ ∃ z, v = .str z ∧ ∀ y : Wy, z ≠ y.name)
theorem NoWay.same {H H' : Hp} {v : V} (h : NoWay K H v) (e : Same H H') : NoWay K H' v := by
  obtain ⟨t, b, ty, r⟩ := h
  exact ⟨t, b, TyE.same ty e, r⟩
theorem newIns {C : Addr} {σ : L2.St} {H : Hp} {Q : VK} (k : ∀ p dx H', H p = none → Same H H' → H' p = some (.ins C dx []) → Q (.ref p) H') : tNew C σ H Q := fun x dx n1 n2 ne =>
  k x dx _ n1 ((Same.upd n2).trans (Same.upd (by rw [upd_ne (Ne.symm ne)]; exact n1))) upd_same
abbrev sWayOf : Stmt := (top 20)
def spWayOf (K : Frag) (CB : Addr) (cw : Wy → Addr) : Sp := fun vs H Q E => ∃ v, vs = [v] ∧ ((∃ y : Wy, v = .str y.name ∧ ∀ p dx H', H p = none → Same H H' → H' p = some (.ins (cw y) dx []) → Q (.ref p) H') ∨ (NoWay K H v ∧ E (.ref CB) none H))
theorem scWayOf : FnScope ["name"] ["name"] (defScope sWayOf) := ⟨rfl, rfl, rfl, by decide +kernel, rfl, by decide +kernel, by decide +kernel⟩
theorem ok_wayOf {f CB CW : Addr} {cw : Wy → Addr} {fd : FuncData} (D : Def K mg "way_of" ["name"] sWayOf f fd) (O : Own mg) (T : Kit K) (B : Err K mg "BadContext" CB) (W : ∀ y : Wy, WayC K mg y.cls (cw y) CW) :
    FnOk P w K mg base (CX1 P w) 1 f fd ["name"] (spWayOf K CB cw) := by
  refine D.F.okE scWayOf (fun vs H Q E h => ?_) (fun X cdv A outer s H vs Q E hX hr hx h => ?_)
  · obtain ⟨v, rfl, _⟩ := h
    rfl
  · subst hX
    obtain ⟨v, rfl, h⟩ := h
    refine ⟨_, (pss_cons (ps_if (pt_not (pt_val (pisi O.isi (pv 0) (pty O.str_ boot_str)))) (pss_one (ps_raise (by rfl) B.g B.q PySem.F.excBase_ValueError hr.hd hx (pa_cons pe_str pa_nil))) pss_nil)
      (pss_cons (ps_if (pt_cmpR op_eq (pv 0) pe_str (nomark _)) (pss_one (ps_ret (pe_new (W .down).mk0 rfl (W .down).g))) pss_nil)
      (pss_cons (ps_if (pt_cmpR op_eq (pv 0) pe_str (nomark _)) (pss_one (ps_ret (pe_new (W .up).mk0 rfl (W .up).g))) pss_nil)
      (pss_cons (ps_if (pt_cmpR op_eq (pv 0) pe_str (nomark _)) (pss_one (ps_ret (pe_new (W .floor).mk0 rfl (W .floor).g))) pss_nil)
      (pss_cons (ps_if (pt_cmpR op_eq (pv 0) pe_str (nomark _)) (pss_one (ps_ret (pe_new (W .ceiling).mk0 rfl (W .ceiling).g))) pss_nil)
      (pss_cons (ps_if (pt_cmpR op_eq (pv 0) pe_str (nomark _)) (pss_one (ps_ret (pe_new (W .halfUp).mk0 rfl (W .halfUp).g))) pss_nil)
      (pss_cons (ps_if (pt_cmpR op_eq (pv 0) pe_str (nomark _)) (pss_one (ps_ret (pe_new (W .halfDown).mk0 rfl (W .halfDown).g))) pss_nil)
      (pss_cons (ps_if (pt_cmpR op_eq (pv 0) pe_str (nomark _)) (pss_one (ps_ret (pe_new (W .halfEven).mk0 rfl (W .halfEven).g))) pss_nil)
      (pss_cons (ps_if (pt_cmpR op_eq (pv 0) pe_str (nomark _)) (pss_one (ps_ret (pe_new (W .fiveUp).mk0 rfl (W .fiveUp).g))) pss_nil)
      (pss_one (ps_raise (by rfl) B.g B.q PySem.F.excBase_ValueError hr.hd hx (pa_cons pe_str pa_nil)))))))))))), ?_⟩
    have z1 : 1 ≤ sizeLine := line1000 (by decide)
    rcases h with ⟨y, rfl, k⟩ | ⟨⟨t, b, ty, kk, bad⟩, k⟩
    · refine ⟨_, rfl, _, _, _, _, true, rfl, rfl, tyStr _, T.str_str, _, rfl, iteF ?_⟩
      refine ⟨_, rfl, rfl, _, rfl, iteD (fun e => ?_) (fun n0 => ?_)⟩
      · have q : y = .down := Wy.inj (V.str.inj (e : V.str y.name = V.str (Wy.name .down)))
        subst q
        exact newIns k
      refine ⟨_, rfl, rfl, _, rfl, iteD (fun e => ?_) (fun n1 => ?_)⟩
      · have q : y = .up := Wy.inj (V.str.inj (e : V.str y.name = V.str (Wy.name .up)))
        subst q
        exact newIns k
      refine ⟨_, rfl, rfl, _, rfl, iteD (fun e => ?_) (fun n2 => ?_)⟩
      · have q : y = .floor := Wy.inj (V.str.inj (e : V.str y.name = V.str (Wy.name .floor)))
        subst q
        exact newIns k
      refine ⟨_, rfl, rfl, _, rfl, iteD (fun e => ?_) (fun n3 => ?_)⟩
      · have q : y = .ceiling := Wy.inj (V.str.inj (e : V.str y.name = V.str (Wy.name .ceiling)))
        subst q
        exact newIns k
      refine ⟨_, rfl, rfl, _, rfl, iteD (fun e => ?_) (fun n4 => ?_)⟩
      · have q : y = .halfUp := Wy.inj (V.str.inj (e : V.str y.name = V.str (Wy.name .halfUp)))
        subst q
        exact newIns k
      refine ⟨_, rfl, rfl, _, rfl, iteD (fun e => ?_) (fun n5 => ?_)⟩
      · have q : y = .halfDown := Wy.inj (V.str.inj (e : V.str y.name = V.str (Wy.name .halfDown)))
        subst q
        exact newIns k
      refine ⟨_, rfl, rfl, _, rfl, iteD (fun e => ?_) (fun n6 => ?_)⟩
      · have q : y = .halfEven := Wy.inj (V.str.inj (e : V.str y.name = V.str (Wy.name .halfEven)))
        subst q
        exact newIns k
      refine ⟨_, rfl, rfl, _, rfl, iteD (fun e => ?_) (fun n7 => ?_)⟩
      · have q : y = .fiveUp := Wy.inj (V.str.inj (e : V.str y.name = V.str (Wy.name .fiveUp)))
        subst q
        exact newIns k
      cases y with
      | down => exact absurd rfl n0
      | up => exact absurd rfl n1
      | floor => exact absurd rfl n2
      | ceiling => exact absurd rfl n3
      | halfUp => exact absurd rfl n4
      | halfDown => exact absurd rfl n5
      | halfEven => exact absurd rfl n6
      | fiveUp => exact absurd rfl n7
    · refine ⟨_, rfl, _, _, _, _, b, rfl, rfl, ty, kk, _, rfl, ?_⟩
      cases b with
      | false => exact iteT ⟨z1, k⟩
      | true =>
        obtain ⟨z, rfl, nz⟩ := bad.resolve_left (by decide)
        refine iteF ?_
        refine ⟨_, rfl, rfl, _, rfl, iteD (fun e => absurd (V.str.inj e) (nz .down)) (fun n0 => ?_)⟩
        refine ⟨_, rfl, rfl, _, rfl, iteD (fun e => absurd (V.str.inj e) (nz .up)) (fun n1 => ?_)⟩
        refine ⟨_, rfl, rfl, _, rfl, iteD (fun e => absurd (V.str.inj e) (nz .floor)) (fun n2 => ?_)⟩
        refine ⟨_, rfl, rfl, _, rfl, iteD (fun e => absurd (V.str.inj e) (nz .ceiling)) (fun n3 => ?_)⟩
        refine ⟨_, rfl, rfl, _, rfl, iteD (fun e => absurd (V.str.inj e) (nz .halfUp)) (fun n4 => ?_)⟩
        refine ⟨_, rfl, rfl, _, rfl, iteD (fun e => absurd (V.str.inj e) (nz .halfDown)) (fun n5 => ?_)⟩
        refine ⟨_, rfl, rfl, _, rfl, iteD (fun e => absurd (V.str.inj e) (nz .halfEven)) (fun n6 => ?_)⟩
        refine ⟨_, rfl, rfl, _, rfl, iteD (fun e => absurd (V.str.inj e) (nz .fiveUp)) (fun n7 => ?_)⟩
        exact ⟨z1, k⟩
end
end TR
set_option Elab.async false
set_option linter.all false
set_option maxRecDepth 100000
set_option maxHeartbeats 4000000
namespace TR
open PySem L2 PySem.W PyProof.Rows
seal PE PS PSs PA PT PW PG PGs PI PO
/-! ### the class Context -/
structure CtxC (K : Frag) (mg : Str → Option Value) (CC : Addr) : Prop where
  g : mg "Context" = some (.ref CC)
  cl : Cls K CC
  n_room : NoAttr K CC "room"
  n_rule : NoAttr K CC "rule"
  n_least : NoAttr K CC "least"
  n_most : NoAttr K CC "most"
  n_risen : NoAttr K CC "risen"
  n_trapped : NoAttr K CC "trapped"
def ctxF (r s l m a b : V) : List (Str × V) := putF "trapped" b (putF "risen" a (putF "most" m (putF "least" l (putF "rule" s (putF "room" r [])))))
theorem ctx_lk (r s l m a b : V) (n : Str) : (ctxF r s l m a b).lookup n = if n = "trapped" then some b else if n = "risen" then some a else if n = "most" then some m else if n = "least" then some l else if n = "rule" then some s else if n = "room" then some r else none := by
  unfold ctxF
  rw [lookup_putF, lookup_putF, lookup_putF, lookup_putF, lookup_putF, lookup_putF]
  rfl
theorem ctx_risen (r s l m a b : V) : (ctxF r s l m a b).lookup ("risen" : Str) = some a := by rw [ctx_lk, if_neg (by decide +kernel), if_pos rfl]
theorem ctx_trapped (r s l m a b : V) : (ctxF r s l m a b).lookup ("trapped" : Str) = some b := by rw [ctx_lk, if_pos rfl]
theorem ctx_no_flags (r s l m a b : V) : (ctxF r s l m a b).lookup ("flags" : Str) = none := by rw [ctx_lk, if_neg (by decide +kernel), if_neg (by decide +kernel), if_neg (by decide +kernel), if_neg (by decide +kernel), if_neg (by decide +kernel), if_neg (by decide +kernel)]
theorem ctx_no_trap (r s l m a b : V) : (ctxF r s l m a b).lookup ("trap" : Str) = none := by rw [ctx_lk, if_neg (by decide +kernel), if_neg (by decide +kernel), if_neg (by decide +kernel), if_neg (by decide +kernel), if_neg (by decide +kernel), if_neg (by decide +kernel)]
theorem ctx_no_traps (r s l m a b : V) : (ctxF r s l m a b).lookup ("traps" : Str) = none := by rw [ctx_lk, if_neg (by decide +kernel), if_neg (by decide +kernel), if_neg (by decide +kernel), if_neg (by decide +kernel), if_neg (by decide +kernel), if_neg (by decide +kernel)]
theorem ctx_no_raised (r s l m a b : V) : (ctxF r s l m a b).lookup ("raised" : Str) = none := by rw [ctx_lk, if_neg (by decide +kernel), if_neg (by decide +kernel), if_neg (by decide +kernel), if_neg (by decide +kernel), if_neg (by decide +kernel), if_neg (by decide +kernel)]
/-- a context stands at c: its room, way, bounds, the lists of its flags and its traps -/
structure CtxAt (CC : Addr) (H : Hp) (c : Addr) (r : Int) (y : Wy) (l m : Int) (a b : Addr) (xs ys : List V) : Prop where
  ins : ∃ dx, H c = some (.ins CC dx (ctxF (.int r) (.str y.name) (.int l) (.int m) (.ref a) (.ref b)))
  ha : H a = some (.lst xs)
  hb : H b = some (.lst ys)
theorem CtxAt.same {CC : Addr} {H H' : Hp} {c : Addr} {r : Int} {y : Wy} {l m : Int} {a b : Addr} {xs ys : List V} (h : CtxAt CC H c r y l m a b xs ys) (e : Same H H') : CtxAt CC H' c r y l m a b xs ys := by
  obtain ⟨⟨dx, z⟩, z1, z2⟩ := h
  exact ⟨⟨dx, e _ _ z⟩, e _ _ z1, e _ _ z2⟩
section
variable {P : Program} {w : World} {K : Frag} {mg : Str → Option Value} {base : Heap}
abbrev sCtxInit : Stmt := (inClass (top 23) 0)
abbrev sCtxFlags : Stmt := (inClass (top 23) 3)
abbrev sCtxTraps : Stmt := (inClass (top 23) 6)
/-- what makes a context: the least bound may be None -/
def LeastV (l : Int) (v : V) : Prop := (v = .non ∧ l = -60) ∨ (v = .int l ∧ -60 ≤ l ∧ l ≤ 0)
/-- what makes none, in the order in which it is looked at, in all heaps of S -/
def BadCtx (K : Frag) (S : Hp → Prop) (v1 v2 v3 v4 : V) : Prop := (∀ H', S H' → BadV K H' 1 24 v1) ∨ (GoodV 1 24 v1 ∧ ((∀ H', S H' → NoWay K H' v2) ∨ ((∃ y : Wy, v2 = .str y.name) ∧ ((v3 ≠ .non ∧ ∀ H', S H' → BadV K H' (-60) 0 v3) ∨ ((∃ l, LeastV l v3) ∧ ∀ H', S H' → BadV K H' 0 60 v4)))))
theorem BadCtx.mono {S S' : Hp → Prop} {v1 v2 v3 v4 : V} (e : ∀ H', S' H' → S H') (h : BadCtx K S v1 v2 v3 v4) : BadCtx K S' v1 v2 v3 v4 := by
  rcases h with h | ⟨g, h | ⟨y, ⟨n, h⟩ | ⟨l, h⟩⟩⟩
  · exact .inl fun H' z => h H' (e H' z)
  · exact .inr ⟨g, .inl fun H' z => h H' (e H' z)⟩
  · exact .inr ⟨g, .inr ⟨y, .inl ⟨n, fun H' z => h H' (e H' z)⟩⟩⟩
  · exact .inr ⟨g, .inr ⟨y, .inr ⟨l, fun H' z => h H' (e H' z)⟩⟩⟩
theorem Exc.none {p a : Addr} {H H' : Hp} {o : HO} (x : Exc p H H') (hp : H' p = some o) (n : H' a = none) : H a = none := by
  cases q : H a with
  | none => rfl
  | some u =>
    have := x a u q (fun e => by rw [e, hp] at n; cases n)
    rw [n] at this
    cases this
def spCtxInit (K : Frag) (CC CB : Addr) : Sp := fun vs H Q E => ∃ p dx v1 v2 v3 v4, vs = [.ref p, v1, v2, v3, v4] ∧ H p = some (.ins CC dx []) ∧
  ((∃ r y l m, v1 = .int r ∧ 1 ≤ r ∧ r ≤ 24 ∧ v2 = .str (Wy.name y) ∧ LeastV l v3 ∧ v4 = .int m ∧ 0 ≤ m ∧ m ≤ 60 ∧ ∀ a b H', Exc p H H' → H a = none → H b = none → CtxAt CC H' p r y l m a b [] [] → Q .non H') ∨
   (BadCtx K (Exc p H) v1 v2 v3 v4 ∧ ∀ H', Exc p H H' → E (.ref CB) none H'))
theorem scCtxInit : FnScope ["self", "room", "way", "least", "most"] ["self", "room", "way", "least", "most"] (defScope sCtxInit) := ⟨rfl, rfl, rfl, by decide +kernel, rfl, by decide +kernel, by decide +kernel⟩
theorem lit24 : Lits 1 24 := by unfold Lits; decide +kernel
theorem lit60a : Lits (-60) 0 := by unfold Lits; decide +kernel
theorem lit60b : Lits 0 60 := by unfold Lits; decide +kernel
theorem ok_ctxInit {f fB fW CC CB CW : Addr} {dV : Value} {cw : Wy → Addr} {fd fdB fdW : FuncData} (F : FunD K "__init__" "Context.__init__" sCtxInit dV f fd) (D_bounded : Def K mg "bounded" ["thing", "least", "most"] sBounded fB fdB) (D_way_of : Def K mg "way_of" ["name"] sWayOf fW fdW)
    (G_bounded : FnOk P w K mg base (CX1 P w) 2 fB fdB ["thing", "least", "most"] (spBounded K CB)) (G_way_of : FnOk P w K mg base (CX1 P w) 1 fW fdW ["name"] (spWayOf K CB cw)) (C : CtxC K mg CC)
    (W : ∀ y : Wy, WayC K mg y.cls (cw y) CW) (N : ∀ y : Wy, WayN P w K mg base (cw y) y.name) : FnOk P w K mg base (CX1 P w) 3 f fd ["self", "room", "way", "least", "most"] (spCtxInit K CC CB) := by
  refine F.okE scCtxInit (fun vs H Q E h => ?_) (fun X cdv A outer s H vs Q E hX hr hx h => ?_)
  · obtain ⟨p, dx, v1, v2, v3, v4, rfl, _⟩ := h
    rfl
  · subst hX
    obtain ⟨p, dx, v1, v2, v3, v4, rfl, hp, h⟩ := h
    obtain ⟨y, hy⟩ : ∃ y : Wy, ∀ z : Wy, v2 = .str z.name → z = y := by
      by_cases q : ∃ z : Wy, v2 = .str z.name
      · obtain ⟨z, rfl⟩ := q
        exact ⟨z, fun u e => Wy.inj (V.str.inj e.symm)⟩
      · exact ⟨.down, fun z e => absurd ⟨z, e⟩ q⟩
    obtain ⟨fN, fdN, mN, gN, bN⟩ := N y
    refine ⟨_, (pss_cons (ps_fld (pv 0) (pcall D_bounded G_bounded hr hx (pa_cons (pv 1) (pa_cons pe_int (pa_cons pe_int pa_nil)))) rfl)
      (pss_cons (ps_fld (pv 0) (pmeth0 (pcall D_way_of G_way_of hr hx (pa_cons (pv 2) pa_nil)) (W y).cl mN gN hr bN .nil hx) rfl)
      (pss_cons (ps_join (ps_fld (pv 0) (pe_ifExp (pt_cmpR op_isN (pv 3) pe_non (nomark _)) (pe_un un_neg pe_int) (pcall D_bounded G_bounded hr hx (pa_cons (pv 3) (pa_cons (pe_un un_neg pe_int) (pa_cons pe_int pa_nil))))) rfl))
      (pss_cons (ps_fld (pv 0) (pcall D_bounded G_bounded hr hx (pa_cons (pv 4) (pa_cons pe_int (pa_cons pe_int pa_nil)))) rfl)
      (pss_cons (ps_fld (pv 0) (pe_lst pa_nil) rfl)
      (pss_one (ps_fld (pv 0) (pe_lst pa_nil) rfl))))))), ?_⟩
    have lz : ∀ (fs : List (Str × V)) (f : Str) (v : V) (n : Nat), fs.length ≤ n → (putF f v fs).length ≤ n + 1 := fun fs f v n h => Nat.le_trans (length_putF f v fs) (Nat.succ_le_succ h)
    have q0 : (([] : List (Str × V))).length ≤ 0 := Nat.le_refl _
    have z0 : 0 ≤ sizeLine := Nat.zero_le _
    rcases h with ⟨r, y', l, m, rfl, r1, r2, rfl, hl, rfl, m1, m2, k⟩ | ⟨bad, k⟩
    · obtain rfl := hy _ rfl
      refine ⟨_, rfl, _, _, _, rfl, lit24, .inl ⟨⟨r, rfl, r1, r2⟩, ?_⟩⟩
      refine ⟨_, rfl, p, CC, dx, [], rfl, hp, C.cl, C.n_room, by show 0 < 1000; decide, ?_⟩
      refine ⟨_, rfl, _, rfl, .inl ⟨_, rfl, fun q dq H2 nq s2 eq => ⟨q, dq, [], rfl, eq, rfl, _, rfl, ?_⟩⟩⟩
      have hp2 := s2 _ _ (upd_same (H := H) (a := p) (o := .ins CC dx (putF "room" (.int r) [])))
      have x2 : Exc p H H2 := (Exc.upd (H := H) (o := .ins CC dx (putF "room" (.int r) []))).trans (.of s2)
      refine ⟨_, rfl, p, CC, dx, _, rfl, hp2, C.cl, C.n_rule, Nat.lt_of_le_of_lt (lz _ _ _ 0 q0) (by decide), ?_⟩
      refine ⟨fun σ' H' => σ' = [some (.ref p), some (.int r), some (.str y'.name), some v3, some (.int m)] ∧ Exc p H H' ∧ H' p = some (.ins CC dx (putF "least" (.int l) (putF "rule" (.str y'.name) (putF "room" (.int r) [])))), ?_, ?_⟩
      · refine ⟨_, rfl, rfl, _, rfl, ?_⟩
        rcases hl with ⟨rfl, rfl⟩ | ⟨rfl, l1, l2⟩
        · refine iteDT rfl ⟨_, rfl, ?_⟩
          exact ⟨_, rfl, p, CC, dx, _, rfl, upd_same, C.cl, C.n_least, Nat.lt_of_le_of_lt (lz _ _ _ 1 (lz _ _ _ 0 q0)) (by decide), rfl, (x2.trans Exc.upd).trans Exc.upd, upd_same⟩
        · refine iteDF (by intro z; cases z) ⟨_, rfl, _, rfl, _, _, _, rfl, lit60a, .inl ⟨⟨l, rfl, l1, l2⟩, ?_⟩⟩
          exact ⟨_, rfl, p, CC, dx, _, rfl, upd_same, C.cl, C.n_least, Nat.lt_of_le_of_lt (lz _ _ _ 1 (lz _ _ _ 0 q0)) (by decide), rfl, (x2.trans Exc.upd).trans Exc.upd, upd_same⟩
      rintro σ' H4 ⟨rfl, x4, hp4⟩
      refine ⟨_, rfl, _, _, _, rfl, lit60b, .inl ⟨⟨m, rfl, m1, m2⟩, ?_⟩⟩
      refine ⟨_, rfl, p, CC, dx, _, rfl, hp4, C.cl, C.n_most, Nat.lt_of_le_of_lt (lz _ _ _ 2 (lz _ _ _ 1 (lz _ _ _ 0 q0))) (by decide), ?_⟩
      refine ⟨z0, fun a na => ?_⟩
      refine ⟨_, rfl, p, CC, dx, _, rfl, Same.upd na _ _ upd_same, C.cl, C.n_risen, Nat.lt_of_le_of_lt (lz _ _ _ 3 (lz _ _ _ 2 (lz _ _ _ 1 (lz _ _ _ 0 q0)))) (by decide), ?_⟩
      refine ⟨z0, fun b nb => ?_⟩
      refine ⟨_, rfl, p, CC, dx, _, rfl, Same.upd nb _ _ upd_same, C.cl, C.n_trapped, Nat.lt_of_le_of_lt (lz _ _ _ 4 (lz _ _ _ 3 (lz _ _ _ 2 (lz _ _ _ 1 (lz _ _ _ 0 q0))))) (by decide), ?_⟩
      have x5 := x4.trans (Exc.upd (H := H4) (o := .ins CC dx (putF "most" (.int m) (putF "least" (.int l) (putF "rule" (.str y'.name) (putF "room" (.int r) []))))))
      have nap : a ≠ p := fun e => by rw [e, upd_same] at na; cases na
      have nbp : b ≠ p := fun e => by rw [e, upd_same] at nb; cases nb
      have x6 := (x5.trans (.of (Same.upd (o := .lst []) na))).trans (Exc.upd (o := .ins CC dx (putF "risen" (.ref a) (putF "most" (.int m) (putF "least" (.int l) (putF "rule" (.str y'.name) (putF "room" (.int r) [])))))))
      have x7 := (x6.trans (.of (Same.upd (o := .lst []) nb))).trans (Exc.upd (o := .ins CC dx (ctxF (.int r) (.str y'.name) (.int l) (.int m) (.ref a) (.ref b))))
      refine k a b _ x7 (x5.none upd_same na) (x6.none upd_same nb) ⟨⟨dx, upd_same⟩, ?_, ?_⟩
      · rw [upd_ne nap]
        refine Same.upd nb _ _ ?_
        rw [upd_ne nap]
        exact upd_same
      · rw [upd_ne nbp]
        exact upd_same
    · rcases bad with b1 | ⟨⟨r, rfl, r1, r2⟩, bad⟩
      · exact ⟨_, rfl, _, _, _, rfl, lit24, .inr ⟨b1 _ (Exc.refl p H), k _ (Exc.refl p H)⟩⟩
      refine ⟨_, rfl, _, _, _, rfl, lit24, .inl ⟨⟨r, rfl, r1, r2⟩, ?_⟩⟩
      refine ⟨_, rfl, p, CC, dx, [], rfl, hp, C.cl, C.n_room, by show 0 < 1000; decide, ?_⟩
      have x1 : Exc p H (upd H p (.ins CC dx (putF "room" (.int r) []))) := Exc.upd
      rcases bad with b2 | ⟨⟨y', rfl⟩, bad⟩
      · exact ⟨_, rfl, _, rfl, .inr ⟨b2 _ x1, k _ x1⟩⟩
      obtain rfl := hy _ rfl
      refine ⟨_, rfl, _, rfl, .inl ⟨_, rfl, fun q dq H2 nq s2 eq => ⟨q, dq, [], rfl, eq, rfl, _, rfl, ?_⟩⟩⟩
      have hp2 := s2 _ _ (upd_same (H := H) (a := p) (o := .ins CC dx (putF "room" (.int r) [])))
      have x2 : Exc p H H2 := x1.trans (.of s2)
      refine ⟨_, rfl, p, CC, dx, _, rfl, hp2, C.cl, C.n_rule, Nat.lt_of_le_of_lt (lz _ _ _ 0 q0) (by decide), ?_⟩
      rcases bad with ⟨n3, b3⟩ | ⟨⟨l, hl⟩, b4⟩
      · refine ⟨fun _ _ => False, ?_, fun _ _ z => z.elim⟩
        refine ⟨_, rfl, rfl, _, rfl, iteDF n3 ?_⟩
        exact ⟨_, rfl, _, rfl, _, _, _, rfl, lit60a, .inr ⟨b3 _ (x2.trans Exc.upd), k _ (x2.trans Exc.upd)⟩⟩
      refine ⟨fun σ' H' => σ' = [some (.ref p), some (.int r), some (.str y'.name), some v3, some v4] ∧ Exc p H H', ?_, ?_⟩
      · refine ⟨_, rfl, rfl, _, rfl, ?_⟩
        rcases hl with ⟨rfl, rfl⟩ | ⟨rfl, l1, l2⟩
        · refine iteDT rfl ⟨_, rfl, ?_⟩
          exact ⟨_, rfl, p, CC, dx, _, rfl, upd_same, C.cl, C.n_least, Nat.lt_of_le_of_lt (lz _ _ _ 1 (lz _ _ _ 0 q0)) (by decide), rfl, (x2.trans Exc.upd).trans Exc.upd⟩
        · refine iteDF (by intro z; cases z) ⟨_, rfl, _, rfl, _, _, _, rfl, lit60a, .inl ⟨⟨l, rfl, l1, l2⟩, ?_⟩⟩
          exact ⟨_, rfl, p, CC, dx, _, rfl, upd_same, C.cl, C.n_least, Nat.lt_of_le_of_lt (lz _ _ _ 1 (lz _ _ _ 0 q0)) (by decide), rfl, (x2.trans Exc.upd).trans Exc.upd⟩
      rintro σ' H4 ⟨rfl, x4⟩
      exact ⟨_, rfl, _, _, _, rfl, lit60b, .inr ⟨b4 _ x4, k _ x4⟩⟩
end
end TR
set_option Elab.async false
set_option linter.all false
set_option maxRecDepth 100000
set_option maxHeartbeats 4000000
namespace TR
open PySem L2 PySem.W PyProof.Rows
seal PE PS PSs PA PT PW PG PGs PI PO
def sigS : List Str := ["void", "split", "burst", "sunk", "faint", "off", "cut"]
def sigV : List V := sigS.map V.str
end TR
set_option Elab.async false
set_option linter.all false
set_option maxRecDepth 100000
set_option maxHeartbeats 4000000
namespace TR
open PySem L2 PySem.W PyProof.Rows
seal PE PS PSs PA PT PW PG PGs PI PO
/-- the tuple SIGNALS -/
structure SigK (K : Frag) (mg : Str → Option Value) (aS : Addr) : Prop where
  g : mg "SIGNALS" = some (.ref aS)
  ty : ∃ o, K.lookup aS = some o ∧ o.cls = .type "tuple"
  sq : ∀ H, SqT K H aS sigV
end TR
set_option Elab.async false
set_option linter.all false
set_option maxRecDepth 100000
set_option maxHeartbeats 4000000
namespace TR
open PySem L2 PySem.W PyProof.Rows
seal PE PS PSs PA PT PW PG PGs PI PO
abbrev sNeedS : Stmt := (top 25)
section
variable {P : Program} {w : World} {K : Frag} {mg : Str → Option Value} {base : Heap}
/-- no signal's name -/
def BadS (K : Frag) (H : Hp) (x : V) : Prop := ∃ t b, TyE K H x t ∧ kitOne K t (.type "str") = some b ∧ (b = false ∨ ∃ z, x = .str z ∧ z ∉ sigS)
theorem BadS.same {H H' : Hp} {x : V} (h : BadS K H x) (e : Same H H') : BadS K H' x := by
  obtain ⟨t, b, ty, r⟩ := h
  exact ⟨t, b, TyE.same ty e, r⟩
/-- no list of signals' names -/
def NoSigs (K : Frag) (H : Hp) (v : V) : Prop := (∃ t, TyE K H v t ∧ kitOne K t (.type "list") = some false) ∨ (∃ (p : Addr) (zs : List Str) (x : V) (r : List V), v = .ref p ∧ H p = some (.lst (zs.map V.str ++ x :: r)) ∧ (∀ z ∈ zs, z ∈ sigS) ∧ BadS K H x)
theorem NoSigs.same {H H' : Hp} {x : V} (h : NoSigs K H x) (e : Same H H') : NoSigs K H' x := by
  rcases h with ⟨t, ty, r⟩ | ⟨p, zs, x, r, h1, h2, h3, h4⟩
  · exact .inl ⟨t, TyE.same ty e, r⟩
  · exact .inr ⟨p, zs, x, r, h1, e _ _ h2, h3, h4.same e⟩
def spNeedS (K : Frag) (CB : Addr) : Sp := fun vs H Q E => ∃ v, vs = [v] ∧ ((∃ (p : Addr) (zs : List Str), v = .ref p ∧ H p = some (.lst (zs.map V.str)) ∧ (∀ z ∈ zs, z ∈ sigS) ∧ Q .non H) ∨ (NoSigs K H v ∧ E (.ref CB) none H))
theorem scNeedS : FnScope ["names", "name"] ["names"] (defScope sNeedS) := ⟨rfl, rfl, rfl, by decide +kernel, rfl, by decide +kernel, by decide +kernel⟩
theorem ok_needS {f CB aS : Addr} {fd : FuncData} (D : Def K mg "need_signals" ["names"] sNeedS f fd) (O : Own mg) (T : Kit K) (B : Err K mg "BadContext" CB) (SG : SigK K mg aS) : FnOk P w K mg base (CX1 P w) 1 f fd ["names"] (spNeedS K CB) := by
  refine D.F.okE scNeedS (fun vs H Q E h => ?_) (fun X cdv A outer s H vs Q E hX hr hx h => ?_)
  · obtain ⟨v, rfl, _⟩ := h
    rfl
  · subst hX
    obtain ⟨v, rfl, h⟩ := h
    refine ⟨_, (pss_cons (ps_if (pt_not (pt_val (pisi O.isi (pv 0) (pty O.list_ boot_list)))) (pss_one (ps_raise (by rfl) B.g B.q PySem.F.excBase_ValueError hr.hd hx (pa_cons pe_str pa_nil))) pss_nil)
      (pss_one (ps_for PassesOwn.leaving rfl (pi_list (pv 0)) (pg_name (i := 1) scNeedS.nd rfl (Or.inl rfl)) (pss_one (ps_if (PW.pt (pw_or (pt_not (pt_val (pisi O.isi (pv 1) (pty O.str_ boot_str)))) (pw_or1 (pt_cmpR op_notIn_seq (pv 1) (pcls SG.g) (by rfl))))) (pss_one (ps_raise (by rfl) B.g B.q PySem.F.excBase_ValueError hr.hd hx (pa_cons pe_str pa_nil))) pss_nil))))), ?_⟩
    have z1 : 1 ≤ sizeLine := line1000 (by decide)
    rcases h with ⟨p, zs, rfl, hp, hz, k⟩ | ⟨(⟨t, ty, kk⟩ | ⟨p, zs, x, r, rfl, hp, hz, t, b, ty, kk, bad⟩), k⟩
    · refine ⟨_, rfl, _, _, _, _, true, rfl, rfl, tyLst hp, T.list_list, _, rfl, iteF ?_⟩
      refine ⟨_, rfl, p, rfl, ⟨_, SqL.of hp⟩, for_list (xs := zs.map V.str) (fun i σ H' => H' = H ∧ ∃ v, σ = [some (.ref p), v]) ⟨rfl, none, rfl⟩ ?_ ?_ ?_⟩
      · rintro i σ H' _ ⟨rfl, _⟩
        exact SqL.of hp
      · rintro i x σ H' hi ⟨rfl, v, rfl⟩
        obtain ⟨z, hzm, rfl⟩ := List.mem_map.mp (List.mem_of_getElem? hi)
        refine ⟨_, rfl, _, _, _, _, true, rfl, rfl, tyStr _, T.str_str, _, rfl, iteF ?_⟩
        refine ⟨_, rfl, aS, sigV, rfl, .inr (SG.sq _), rfl, flat_strs _, _, rfl, ?_⟩
        have e : inV (.str z) sigV = true := by
          show inV (.str z) (sigS.map V.str) = true
          rw [inV_str]
          simpa using hz z hzm
        rw [e]
        exact iteF ⟨rfl, _, rfl⟩
      · rintro σ H' ⟨rfl, v, rfl⟩
        exact k
    · exact ⟨_, rfl, _, _, _, _, false, rfl, rfl, ty, kk, _, rfl, iteT ⟨z1, k⟩⟩
    · refine ⟨_, rfl, _, _, _, _, true, rfl, rfl, tyLst hp, T.list_list, _, rfl, iteF ?_⟩
      refine ⟨_, rfl, p, rfl, ⟨_, SqL.of hp⟩, for_list (xs := zs.map V.str ++ x :: r) (fun i σ H' => H' = H ∧ i ≤ zs.length ∧ ∃ v, σ = [some (.ref p), v]) ⟨rfl, Nat.zero_le _, none, rfl⟩ ?_ ?_ ?_⟩
      · rintro i σ H' _ ⟨rfl, _⟩
        exact SqL.of hp
      · rintro i y σ H' hi ⟨rfl, hl, v, rfl⟩
        by_cases hlt : i < zs.length
        · rw [List.getElem?_append_left (by simpa using hlt)] at hi
          obtain ⟨z, hzm, rfl⟩ := List.mem_map.mp (List.mem_of_getElem? hi)
          refine ⟨_, rfl, _, _, _, _, true, rfl, rfl, tyStr _, T.str_str, _, rfl, iteF ?_⟩
          refine ⟨_, rfl, aS, sigV, rfl, .inr (SG.sq _), rfl, flat_strs _, _, rfl, ?_⟩
          have e : inV (.str z) sigV = true := by
            show inV (.str z) (sigS.map V.str) = true
            rw [inV_str]
            simpa using hz z hzm
          rw [e]
          exact iteF ⟨rfl, by omega, _, rfl⟩
        · have e : i = zs.length := by omega
          subst e
          rw [List.getElem?_append_right (by simp)] at hi
          simp at hi
          subst hi
          refine ⟨_, rfl, _, _, _, _, b, rfl, rfl, ty, kk, _, rfl, ?_⟩
          cases b with
          | false => exact iteT (iteT ⟨z1, k⟩)
          | true =>
            obtain ⟨z, rfl, nz⟩ := bad.resolve_left (by decide)
            refine iteF ⟨_, rfl, aS, sigV, rfl, .inr (SG.sq _), rfl, flat_strs _, _, rfl, ?_⟩
            have e : inV (.str z) sigV = false := by
              show inV (.str z) (sigS.map V.str) = false
              rw [inV_str]
              simpa using nz
            rw [e]
            exact iteT ⟨z1, k⟩
      · rintro σ H' ⟨rfl, hl, _⟩
        exfalso
        rw [List.length_append, List.length_map, List.length_cons] at hl
        omega
end
end TR
set_option Elab.async false
set_option linter.all false
set_option maxRecDepth 100000
set_option maxHeartbeats 4000000
namespace TR
open PySem L2 PySem.W PyProof.Rows
seal PE PS PSs PA PT PW PG PGs PI PO
abbrev sInOrd : Stmt := (top 26)
section
variable {P : Program} {w : World} {K : Frag} {mg : Str → Option Value} {base : Heap}
/-- the signals among these, in order -/
def ordS (zs : List Str) : List Str := sigS.filter fun z => zs.contains z
def spInOrd (K : Frag) : Sp := fun vs H Q _ => ∃ (p : Addr) (zs : List Str), vs = [.ref p] ∧ SqL K H p (zs.map V.str) ∧ ∀ l H', Same H H' → H l = none → H' l = some (.lst ((ordS zs).map V.str)) → Q (.ref l) H'
theorem scInOrd : FnScope ["names"] ["names"] (defScope sInOrd) := ⟨rfl, rfl, rfl, by decide +kernel, rfl, by decide +kernel, by decide +kernel⟩
theorem ok_inOrd {f aS : Addr} {fd : FuncData} (D : Def K mg "in_order" ["names"] sInOrd f fd) (SG : SigK K mg aS) : FnOk P w K mg base (CX1 P w) 1 f fd ["names"] (spInOrd K) := by
  refine FnOk.up (D.F.ok scInOrd (fun vs H Q E h => ?_) (fun cdv A outer s H vs Q E hr h => ?_))
  · obtain ⟨p, zs, rfl, _⟩ := h
    rfl
  · obtain ⟨p, zs, rfl, hp, k⟩ := h
    refine ⟨_, (pss_one (ps_ret (pe_compF (N := ["name"]) (F := ["names"]) (js := [0]) (CompScopeF.of1 ⟨rfl, by decide +kernel, by decide +kernel, by decide +kernel, by decide +kernel⟩ (by rfl) (by rfl) ⟨_, by rfl⟩ (by rfl) (by rfl)) (.inl hr.hd) (pih_tup (pcls SG.g)) rfl (fun C s₀ H₀ ex pn h => pg_name (i := 0) (by decide +kernel : (["name", "names"] : List Str).Nodup) rfl (Or.inl rfl)) (fun C s₀ H₀ ex pn h => (pt_cmpR (op_in_seqK (K := K) rfl) (pv 0) (pv 1) (by rfl))) (fun C s₀ H₀ ex pn h => (pv 0))))), ?_⟩
    refine comp_tup (zs := sigS) (f := fun z => zs.contains z) (σf := [some (.ref p)]) SG.sq (by decide) (fun z H' Qb sm q => ?_) (fun z H' Qv q => ⟨_, rfl, q⟩) (fun D H' sm nd e => k D H' sm nd e) rfl
    refine ⟨_, rfl, _, rfl, p, _, rfl, .inl (sm.seq hp), rfl, flat_strs _, _, rfl, ?_⟩
    show Qb (inV (.str z) (zs.map V.str)) H'
    rw [inV_str]
    exact q
end
end TR
set_option Elab.async false
set_option linter.all false
set_option maxRecDepth 100000
set_option maxHeartbeats 4000000
namespace TR
open PySem L2 PySem.W PyProof.Rows
seal PE PS PSs PA PT PW PG PGs PI PO
abbrev sCtxTrap : Stmt := (inClass (top 23) 5)
abbrev sCtxRaised : Stmt := (inClass (top 23) 7)
theorem ctxF_len (r s l m a b : V) : (ctxF r s l m a b).length = 6 := rfl
theorem ctxF_trapped (r s l m a b v : V) : putF "trapped" v (ctxF r s l m a b) = ctxF r s l m a v := rfl
theorem ctxF_risen (r s l m a b v : V) : putF "risen" v (ctxF r s l m a b) = ctxF r s l m v b := rfl
section
variable {P : Program} {w : World} {K : Frag} {mg : Str → Option Value} {base : Heap}
def spTrap (K : Frag) (CC CB : Addr) : Sp := fun vs H Q E => ∃ c r y l m a b xs ys v, vs = [.ref c, v] ∧ CtxAt CC H c r y l m a b xs ys ∧
  ((∃ (p : Addr) (zs : List Str), v = .ref p ∧ H p = some (.lst (zs.map V.str)) ∧ (∀ z ∈ zs, z ∈ sigS) ∧ ∀ b' H', Exc c H H' → H b' = none → CtxAt CC H' c r y l m a b' xs ((ordS zs).map V.str) → Q .non H') ∨ (NoSigs K H v ∧ E (.ref CB) none H))
theorem scTrap : FnScope ["self", "names"] ["self", "names"] (defScope sCtxTrap) := ⟨rfl, rfl, rfl, by decide +kernel, rfl, by decide +kernel, by decide +kernel⟩
theorem ok_trap {f f1 f2 CC CB : Addr} {fd fd1 fd2 : FuncData} (F : Fun K "trap" "Context.trap" sCtxTrap f fd) (D_need_signals : Def K mg "need_signals" ["names"] sNeedS f1 fd1) (G_need_signals : FnOk P w K mg base (CX1 P w) 1 f1 fd1 ["names"] (spNeedS K CB))
    (D_in_order : Def K mg "in_order" ["names"] sInOrd f2 fd2) (G_in_order : FnOk P w K mg base (CX1 P w) 1 f2 fd2 ["names"] (spInOrd K)) (C : CtxC K mg CC) : FnOk P w K mg base (CX1 P w) 2 f fd ["self", "names"] (spTrap K CC CB) := by
  refine F.okE scTrap (fun vs H Q E h => ?_) (fun X cdv A outer s H vs Q E hX hr hx h => ?_)
  · obtain ⟨c, r, y, l, m, a, b, xs, ys, v, rfl, _⟩ := h
    rfl
  · subst hX
    obtain ⟨c, r, y, l, m, a, b, xs, ys, v, rfl, ⟨⟨dx, e⟩, ha, hb⟩, h⟩ := h
    refine ⟨_, (pss_cons (ps_expr (pcall D_need_signals G_need_signals hr hx (pa_cons (pv 1) pa_nil)))
      (pss_one (ps_fld (pv 0) (pcall D_in_order G_in_order hr hx (pa_cons (pv 1) pa_nil)) rfl))), ?_⟩
    rcases h with ⟨p, zs, rfl, hp, hz, k⟩ | ⟨bad, k⟩
    · refine ⟨_, rfl, _, rfl, .inl ⟨p, zs, rfl, hp, hz, ?_⟩⟩
      refine ⟨_, rfl, p, zs, rfl, SqL.of hp, fun b' H1 s1 n1 e1 => ?_⟩
      refine ⟨_, rfl, c, CC, dx, _, rfl, s1 _ _ e, C.cl, C.n_trapped, by rw [ctxF_len]; decide, ?_⟩
      rw [ctxF_trapped]
      have nac : a ≠ c := ne_of ha e (by intro z; cases z)
      have nbc : b' ≠ c := ne_of e1 (s1 _ _ e) (by intro z; cases z)
      exact k b' _ ((Exc.of s1).trans Exc.upd) n1 ⟨⟨dx, upd_same⟩, by rw [upd_ne nac]; exact s1 _ _ ha, by rw [upd_ne nbc]; exact e1⟩
    · exact ⟨_, rfl, _, rfl, .inr ⟨bad, k⟩⟩
/-- the first trapped one of those raised -/
def hit (ys zs : List Str) : Option Str := ys.find? fun t => zs.contains t
def spRaised (K : Frag) (CC CB CT : Addr) : Sp := fun vs H Q E => ∃ c r y l m a b, ∃ (xs ys : List Str) (v : V), vs = [.ref c, v] ∧ CtxAt CC H c r y l m a b (xs.map V.str) (ys.map V.str) ∧ xs.length + 100 ≤ 1000 ∧
  ((∃ (p : Addr) (zs : List Str), v = .ref p ∧ H p = some (.lst (zs.map V.str)) ∧ zs.length ≤ 100 ∧ (∀ z ∈ zs, z ∈ sigS) ∧
      (hit ys zs = none → ∀ a' H', Exc c H H' → H a' = none → CtxAt CC H' c r y l m a' b ((ordS (xs ++ zs)).map V.str) (ys.map V.str) → Q .non H') ∧
      (∀ t, hit ys zs = some t → ∀ a' d H', Exc c H H' → H a' = none → CtxAt CC H' c r y l m a' b ((ordS (xs ++ zs)).map V.str) (ys.map V.str) → H d = none → H' d = some (.xd [("signal", .str t)]) → E (.ref CT) (some d) H')) ∨
   (NoSigs K H v ∧ E (.ref CB) none H))
theorem scRaised : FnScope ["self", "names", "name"] ["self", "names"] (defScope sCtxRaised) := ⟨rfl, rfl, rfl, by decide +kernel, rfl, by decide +kernel, by decide +kernel⟩
theorem ok_raised {f f1 f2 fX CC CB CT : Addr} {fd fd1 fd2 fdX : FuncData} (F : Fun K "raised" "Context.raised" sCtxRaised f fd) (D_need_signals : Def K mg "need_signals" ["names"] sNeedS f1 fd1) (G_need_signals : FnOk P w K mg base (CX1 P w) 1 f1 fd1 ["names"] (spNeedS K CB))
    (D_in_order : Def K mg "in_order" ["names"] sInOrd f2 fd2) (G_in_order : FnOk P w K mg base (CX1 P w) 1 f2 fd2 ["names"] (spInOrd K)) (C : CtxC K mg CC)
    (gT : mg "Trapped" = some (.ref CT)) (XI : ExcI K CT fX) (GX : FnOk P w K mg base CX0 1 fX fdX ["self", "signal"] (spExcI CT "signal")) (BX : Binds K fdX ["self", "signal"] []) : FnOk P w K mg base (CX1 P w) 3 f fd ["self", "names"] (spRaised K CC CB CT) := by
  refine F.okE scRaised (fun vs H Q E h => ?_) (fun X cdv A outer s H vs Q E hX hr hx h => ?_)
  · obtain ⟨c, r, y, l, m, a, b, xs, ys, v, rfl, _⟩ := h
    rfl
  · subst hX
    obtain ⟨c, r, y, l, m, a, b, xs, ys, v, rfl, ⟨⟨dx, e⟩, ha, hb⟩, lx, h⟩ := h
    refine ⟨_, (pss_cons (ps_expr (pcall D_need_signals G_need_signals hr hx (pa_cons (pv 1) pa_nil)))
      (pss_cons (ps_fld (pv 0) (pcall D_in_order G_in_order hr hx (pa_cons (pe_op op_cat (pe_fld (pv 0) rfl) (pv 1)) pa_nil)) rfl)
      (pss_one (ps_for PassesOwn.leaving rfl (pi_list (pe_fld (pv 0) rfl)) (pg_name (i := 2) scRaised.nd rfl (Or.inl rfl)) (pss_one (ps_if (pt_cmpR op_in_seq (pv 2) (pv 1) (by rfl)) (pss_one (ps_raiseI gT XI GX BX hr hx (pa_cons (pv 2) pa_nil))) pss_nil)))))), ?_⟩
    rcases h with ⟨p, zs, rfl, hp, lz, hz, k1, k2⟩ | ⟨bad, k⟩
    · refine ⟨_, rfl, _, rfl, .inl ⟨p, zs, rfl, hp, hz, ?_⟩⟩
      refine ⟨_, rfl, c, CC, dx, _, _, rfl, e, C.cl, C.n_risen, ctx_risen _ _ _ _ _ _, _, rfl, a, p, _, _, rfl, rfl, ha, hp, line1000 (by rw [List.length_map, List.length_map]; omega), fun q nq => ?_⟩
      have u1 := Same.upd (o := .lst (xs.map V.str ++ zs.map V.str)) nq
      refine ⟨q, xs ++ zs, rfl, SqL.of (by rw [upd_same, List.map_append]), fun a' H1 s1 n1 e1 => ?_⟩
      have s2 := u1.trans s1
      refine ⟨_, rfl, c, CC, dx, _, rfl, s2 _ _ e, C.cl, C.n_risen, by rw [ctxF_len]; decide, ?_⟩
      rw [ctxF_risen]
      have nbc : b ≠ c := ne_of hb e (by intro z; cases z)
      have npc : p ≠ c := ne_of hp e (by intro z; cases z)
      have nac : a' ≠ c := ne_of e1 (s2 _ _ e) (by intro z; cases z)
      have x2 : Exc c H (upd H1 c (.ins CC dx (ctxF (.int r) (.str y.name) (.int l) (.int m) (.ref a') (.ref b)))) := (Exc.of s2).trans Exc.upd
      have hb2 : (upd H1 c (.ins CC dx (ctxF (.int r) (.str y.name) (.int l) (.int m) (.ref a') (.ref b)))) b = some (.lst (ys.map V.str)) := by rw [upd_ne nbc]; exact s2 _ _ hb
      have hp2 : (upd H1 c (.ins CC dx (ctxF (.int r) (.str y.name) (.int l) (.int m) (.ref a') (.ref b)))) p = some (.lst (zs.map V.str)) := by rw [upd_ne npc]; exact s2 _ _ hp
      have ct : CtxAt CC (upd H1 c (.ins CC dx (ctxF (.int r) (.str y.name) (.int l) (.int m) (.ref a') (.ref b)))) c r y l m a' b ((ordS (xs ++ zs)).map V.str) (ys.map V.str) := ⟨⟨dx, upd_same⟩, by rw [upd_ne nac]; exact e1, hb2⟩
      refine ⟨_, rfl, c, CC, dx, _, _, rfl, upd_same, C.cl, C.n_trapped, ctx_trapped _ _ _ _ _ _, b, rfl, ⟨_, SqL.of hb2⟩, ?_⟩
      generalize upd H1 c (.ins CC dx (ctxF (.int r) (.str y.name) (.int l) (.int m) (.ref a') (.ref b))) = H3 at x2 hb2 hp2 ct ⊢
      refine for_list (xs := ys.map V.str) (fun i σ H' => H' = H3 ∧ (∀ t ∈ ys.take i, zs.contains t = false) ∧ ∃ v, σ = [some (.ref c), some (.ref p), v]) ⟨rfl, by simp, none, rfl⟩ ?_ ?_ ?_
      · rintro i σ H' _ ⟨rfl, _⟩
        exact SqL.of hb2
      · rintro i x σ H' hi ⟨rfl, ht, v, rfl⟩
        rw [List.getElem?_map] at hi
        obtain ⟨t, hti, rfl⟩ := Option.map_eq_some_iff.mp hi
        refine ⟨_, rfl, _, rfl, p, _, rfl, .inl (SqL.of hp2), rfl, flat_strs _, _, rfl, ?_⟩
        have hlt : i < ys.length := (List.getElem?_eq_some_iff.mp hti).1
        have et : ys.take (i + 1) = ys.take i ++ [t] := by
          rw [List.take_succ_eq_append_getElem hlt, (List.getElem?_eq_some_iff.mp hti).2]
        cases hc : zs.contains t with
        | false =>
          rw [show (if false = true then !inV (V.str t) (zs.map V.str) else inV (V.str t) (zs.map V.str)) = false by rw [if_neg Bool.false_ne_true, inV_str, hc]]
          refine iteF ⟨rfl, fun t' h' => ?_, _, rfl⟩
          rw [et] at h'
          rcases List.mem_append.mp h' with h' | h'
          · exact ht t' h'
          · rw [List.mem_singleton.mp h']; exact hc
        | true =>
          rw [show (if false = true then !inV (V.str t) (zs.map V.str) else inV (V.str t) (zs.map V.str)) = true by rw [if_neg Bool.false_ne_true, inV_str, hc]]
          obtain ⟨dx', hc3⟩ := ct.ins
          refine iteT ⟨_, rfl, _, rfl, fun d H4 s4 nd e4 => ?_⟩
          refine k2 t ?_ a' d H4 (x2.trans (.of s4)) ((u1.free n1)) (ct.same s4) (x2.none hc3 nd) e4
          unfold hit
          rw [List.find?_eq_some_iff_append]
          refine ⟨hc, ys.take i, ys.drop (i + 1), ?_, fun t' h' => by rw [ht t' h']; rfl⟩
          have := List.take_append_drop (i + 1) ys
          rw [et] at this
          rw [List.append_assoc] at this
          exact this.symm
      · rintro σ H' ⟨rfl, ht, v, rfl⟩
        refine k1 ?_ a' _ x2 (u1.free n1) ct
        unfold hit
        rw [List.find?_eq_none]
        rw [List.length_map, List.take_length] at ht
        intro t hm
        rw [ht t hm]
        exact Bool.false_ne_true
    · exact ⟨_, rfl, _, rfl, .inr ⟨bad, k⟩⟩
end
end TR
set_option Elab.async false
set_option linter.all false
set_option maxRecDepth 100000
set_option maxHeartbeats 4000000
namespace TR
open PySem L2 PySem.W PyProof.Rows
seal PE PS PSs PA PT PW PG PGs PI PO
section
variable {P : Program} {w : World} {K : Frag} {mg : Str → Option Value} {base : Heap}
def spCtxFlags (CC : Addr) : Sp := fun vs H Q _ => ∃ c r y l m a b xs ys, vs = [.ref c] ∧ CtxAt CC H c r y l m a b xs ys ∧ ∀ p, H p = none → Q (.ref p) (upd H p (.lst xs))
theorem scCtxFlags : FnScope ["self"] ["self"] (defScope sCtxFlags) := ⟨rfl, rfl, rfl, by decide +kernel, rfl, by decide +kernel, by decide +kernel⟩
theorem ok_ctxFlags {f CC : Addr} {fd : FuncData} (F : Fun K "flags" "Context.flags" sCtxFlags f fd) (C : CtxC K mg CC) (O : Own mg) : FnOk P w K mg base (CX1 P w) 1 f fd ["self"] (spCtxFlags CC) := by
  refine FnOk.up (F.ok scCtxFlags (fun vs H Q E h => ?_) (fun cdv A outer s H vs Q E hr h => ?_))
  · obtain ⟨c, r, y, l, m, a, b, xs, ys, rfl, _⟩ := h
    rfl
  · obtain ⟨c, r, y, l, m, a, b, xs, ys, rfl, ⟨⟨dx, e⟩, ha, _⟩, k⟩ := h
    refine ⟨_, (pss_one (ps_ret (pe_callTy call_list_of (by rfl) O.list_ boot_list (pa_cons (pe_fld (pv 0) rfl) pa_nil)))), ?_⟩
    exact ⟨_, rfl, c, CC, dx, _, _, rfl, e, C.cl, C.n_risen, ctx_risen _ _ _ _ _ _, a, xs, rfl, .inl (SqL.of ha), k⟩
abbrev sCtxClear : Stmt := (inClass (top 23) 4)
/-- how a context is made: by all four, or by fewer -/
structure MakeC (P : Program) (w : World) (K : Frag) (mg : Str → Option Value) (base : Heap) (CC CB fI : Addr) (fdI : FuncData) : Prop where
  m : Mk K CC fI
  g : FnOk P w K mg base (CX1 P w) 3 fI fdI ["self", "room", "way", "least", "most"] (spCtxInit K CC CB)
theorem exc_new {C x dx : Addr} {H H' : Hp} (n1 : H x = none) (n2 : H dx = none) (ne : dx ≠ x) (e : Exc x (upd (upd H dx (.own x)) x (.ins C dx [])) H') : Same H H' := fun b o h =>
  e b o (by rw [upd_ne (ne_of_none h n1), upd_ne (ne_of_none h n2)]; exact h) (ne_of_none h n1)
/-- behind Context(..) -/
theorem madeC {CC CB x dx : Addr} {H : Hp} {Q : VK} {E : XK} {v1 v2 v3 v4 : V} {r : Int} {y : Wy} {l m : Int} (n1 : H x = none) (n2 : H dx = none) (ne : dx ≠ x) (h1 : v1 = .int r) (r1 : 1 ≤ r) (r2 : r ≤ 24) (h2 : v2 = .str y.name) (h3 : LeastV l v3) (h4 : v4 = .int m) (m1 : 0 ≤ m) (m2 : m ≤ 60)
    (k : ∀ a b H', Same H H' → CtxAt CC H' x r y l m a b [] [] → Q .non H') : spCtxInit K CC CB [.ref x, v1, v2, v3, v4] (upd (upd H dx (.own x)) x (.ins CC dx [])) Q E :=
  ⟨x, dx, v1, v2, v3, v4, rfl, upd_same, .inl ⟨r, y, l, m, h1, r1, r2, h2, h3, h4, m1, m2, fun a b H' e _ _ c => k a b H' (exc_new n1 n2 ne e) c⟩⟩
end
end TR
set_option Elab.async false
set_option linter.all false
set_option maxRecDepth 100000
set_option maxHeartbeats 4000000
namespace TR
open PySem L2 PySem.W PyProof.Rows
seal PE PS PSs PA PT PW PG PGs PI PO
section
variable {P : Program} {w : World} {K : Frag} {mg : Str → Option Value} {base : Heap}
def spCtxTraps (CC : Addr) : Sp := fun vs H Q _ => ∃ c r y l m a b xs ys, vs = [.ref c] ∧ CtxAt CC H c r y l m a b xs ys ∧ ∀ p, H p = none → Q (.ref p) (upd H p (.lst ys))
theorem scCtxTraps : FnScope ["self"] ["self"] (defScope sCtxTraps) := ⟨rfl, rfl, rfl, by decide +kernel, rfl, by decide +kernel, by decide +kernel⟩
theorem ok_ctxTraps {f CC : Addr} {fd : FuncData} (F : Fun K "traps" "Context.traps" sCtxTraps f fd) (C : CtxC K mg CC) (O : Own mg) : FnOk P w K mg base (CX1 P w) 1 f fd ["self"] (spCtxTraps CC) := by
  refine FnOk.up (F.ok scCtxTraps (fun vs H Q E h => ?_) (fun cdv A outer s H vs Q E hr h => ?_))
  · obtain ⟨c, r, y, l, m, a, b, xs, ys, rfl, _⟩ := h
    rfl
  · obtain ⟨c, r, y, l, m, a, b, xs, ys, rfl, ⟨⟨dx, e⟩, _, hb⟩, k⟩ := h
    refine ⟨_, (pss_one (ps_ret (pe_callTy call_list_of (by rfl) O.list_ boot_list (pa_cons (pe_fld (pv 0) rfl) pa_nil)))), ?_⟩
    exact ⟨_, rfl, c, CC, dx, _, _, rfl, e, C.cl, C.n_trapped, ctx_trapped _ _ _ _ _ _, b, ys, rfl, .inl (SqL.of hb), k⟩
end
end TR
set_option Elab.async false
set_option linter.all false
set_option maxRecDepth 100000
set_option maxHeartbeats 4000000
namespace TR
open PySem L2 PySem.W PyProof.Rows
seal PE PS PSs PA PT PW PG PGs PI PO
abbrev sTrInit : Stmt := (inClass (top 7) 0)
section
variable {P : Program} {w : World} {K : Frag} {mg : Str → Option Value} {base : Heap}
theorem scTrInit : FnScope ["self", "signal"] ["self", "signal"] (defScope sTrInit) := ⟨rfl, rfl, rfl, by decide +kernel, rfl, by decide +kernel, by decide +kernel⟩
theorem ok_trInit {f CT fI : Addr} {fd : FuncData} (F : Fun K "__init__" "Trapped.__init__" sTrInit f fd) (XI : ExcI K CT fI) (hn : findIn K (.ref CT) "signal" = some none) : FnOk P w K mg base CX0 1 f fd ["self", "signal"] (spExcI CT "signal") := by
  refine F.ok scTrInit (fun vs H Q E h => ?_) (fun cdv A outer s H vs Q E hr h => ?_)
  · obtain ⟨e, t, v, rfl, _⟩ := h
    rfl
  · obtain ⟨e, t, v, rfl, he, k⟩ := h
    refine ⟨_, (pss_one (psx_fld XI hn (pv 0) (pv 1) rfl)), ?_⟩
    exact ⟨_, rfl, _, rfl, e, t, rfl, he, fun d nd ne => k d nd ne⟩
end
end TR
set_option Elab.async false
set_option linter.all false
set_option maxRecDepth 100000
set_option maxHeartbeats 4000000
namespace TR
open PySem L2 PySem.W PyProof.Rows
seal PE PS PSs PA PT PW PG PGs PI PO
abbrev sCell : Stmt := (top 28)
section
variable {P : Program} {w : World} {K : Frag} {mg : Str → Option Value} {base : Heap}
def spCell (K : Frag) : Sp := fun vs H Q _ => ∃ a ns k, vs = [.ref a, .int k] ∧ SqL K H a ((ns : List Int).map V.int) ∧ 0 ≤ k ∧ ∀ i, Q (.int i) H
theorem scCell : FnScope ["_law_script", "_law_k"] ["_law_script", "_law_k"] (defScope sCell) := ⟨rfl, rfl, rfl, by decide +kernel, rfl, by decide +kernel, by decide +kernel⟩
theorem ok_cell {f : Addr} {fd : FuncData} (D : Def K mg "_law_cell_at" ["_law_script", "_law_k"] sCell f fd) (O : Own mg) : FnOk P w K mg base (CX1 P w) 1 f fd ["_law_script", "_law_k"] (spCell K) := by
  refine FnOk.up (D.F.ok scCell (fun vs H Q E h => ?_) (fun cdv A outer s H vs Q E hr h => ?_))
  · obtain ⟨a, ns, k, rfl, _⟩ := h
    rfl
  · obtain ⟨a, ns, i, rfl, hs, h0, k⟩ := h
    refine ⟨_, (pss_cons (ps_if (pt_cmpR op_lt (pv 1) (pe_callB call_len_seq (by rfl) O.len_ PySem.boot_len (pa_cons (pv 0) pa_nil)) (nomark _)) (pss_one (ps_ret (pe_ix ix_list (pv 0) (pv 1) (fun _ _ => rfl)))) pss_nil)
      (pss_one (ps_ret pe_int))), ?_⟩
    refine ⟨_, rfl, _, rfl, a, _, rfl, .inl hs, _, _, rfl, rfl, _, rfl, ?_⟩
    refine iteD (fun hlt => ?_) (fun _ => k 0)
    rw [List.length_map] at hlt
    obtain ⟨j, rfl⟩ := Int.eq_ofNat_of_zero_le h0
    have hj : j < ns.length := by omega
    exact ⟨_, rfl, _, rfl, a, _, _, _, rfl, rfl, hs, atI_nat (v := V.int ns[j]) (by simp [hj]), k _⟩
end
end TR
set_option Elab.async false
set_option linter.all false
set_option maxRecDepth 100000
set_option maxHeartbeats 4000000
namespace TR
open PySem L2 PySem.W PyProof.Rows
seal PE PS PSs PA PT PW PG PGs PI PO
abbrev sMixed : Stmt := (top 29)
section
variable {P : Program} {w : World} {K : Frag} {mg : Str → Option Value} {base : Heap}
def spMixed : Sp := fun vs H Q _ => ∃ c k, vs = [.int c, .int k] ∧ 0 ≤ k ∧ k ≤ 100 ∧ ∀ m, 0 ≤ m → m < 2147483629 → Q (.int m) H
theorem scMixed : FnScope ["_law_cell", "_law_k"] ["_law_cell", "_law_k"] (defScope sMixed) := ⟨rfl, rfl, rfl, by decide +kernel, rfl, by decide +kernel, by decide +kernel⟩
theorem ok_mixed {f : Addr} {fd : FuncData} (D : Def K mg "_law_mixed" ["_law_cell", "_law_k"] sMixed f fd) : FnOk P w K mg base (CX1 P w) 1 f fd ["_law_cell", "_law_k"] spMixed := by
  refine FnOk.up (D.F.ok scMixed (fun vs H Q E h => ?_) (fun cdv A outer s H vs Q E hr h => ?_))
  · obtain ⟨c, k, rfl, _⟩ := h
    rfl
  · obtain ⟨c, i, rfl, h0, h1, k⟩ := h
    refine ⟨_, (pss_one (ps_ret (pe_op op_mod (pe_op op_mulK (pe_op op_mod (pe_op op_add (pe_op op_add (pe_op op_mulK (pv 0) (pe_op op_add pe_int (pe_op op_mulK (pe_op op_mulK pe_int (pv 1)) (pv 1)))) (pe_op op_mulK pe_int (pv 1))) pe_int) pe_int) pe_int) pe_int))), ?_⟩
    have q0 : (0 : Int) ≤ 2 * i * i := Int.mul_nonneg (by omega) h0
    have q1 : 2 * i * i ≤ 200 * 100 := Int.mul_le_mul (by omega) h1 h0 (by decide)
    have m1 : IntMulOk 2 i := CMul.ok (.inl ⟨by decide, by decide⟩)
    have m2 : IntMulOk (2 * i) i := CMul.ok (.inr ⟨by omega, by omega⟩)
    have m3 : IntMulOk c (48271 + 2 * i * i) := CMul.ok (.inr ⟨by omega, by omega⟩)
    have m4 : IntMulOk 69621 i := CMul.ok (.inl ⟨by decide, by decide⟩)
    have m5 : ∀ z : Int, IntMulOk z 69621 := fun z => CMul.ok (.inr ⟨by decide, by decide⟩)
    refine ⟨_, rfl, _, rfl, _, _, rfl, rfl, m1, _, rfl, _, _, rfl, rfl, m2, _, _, rfl, rfl, _, _, rfl, rfl, m3, _, rfl, _, _, rfl, rfl, m4, _, _, rfl, rfl, _, _, rfl, rfl, _, _, rfl, rfl, (by show (0 : Int) < 2147483647; decide), _, _, rfl, rfl, m5 _, _, _, rfl, rfl, (by show (0 : Int) < 2147483629; decide), ?_⟩
    exact k _ (Int.emod_nonneg _ (by decide)) (Int.emod_lt_of_pos _ (by decide))
end
end TR
set_option Elab.async false
set_option linter.all false
set_option maxRecDepth 100000
set_option maxHeartbeats 4000000
namespace TR
open PySem L2 PySem.W PyProof.Rows
seal PE PS PSs PA PT PW PG PGs PI PO
abbrev sSignals : Stmt := (top 30)
section
variable {P : Program} {w : World} {K : Frag} {mg : Str → Option Value} {base : Heap}
def spSignals : Sp := fun vs H Q _ => vs = [] ∧ ∀ l, H l = none → Q (.ref l) (upd H l (.lst sigV))
theorem scSignals : FnScope [] [] (defScope sSignals) := ⟨rfl, rfl, rfl, by decide +kernel, rfl, by decide +kernel, by decide +kernel⟩
theorem ok_signals {f : Addr} {fd : FuncData} (D : Def K mg "_law_signals" [] sSignals f fd) : FnOk P w K mg base (CX1 P w) 1 f fd [] spSignals := by
  refine FnOk.up (D.F.ok scSignals (fun vs H Q E h => ?_) (fun cdv A outer s H vs Q E hr h => ?_))
  · obtain ⟨rfl, _⟩ := h
    rfl
  · obtain ⟨rfl, k⟩ := h
    refine ⟨_, (pss_one (ps_ret (pe_lst (pa_cons pe_str (pa_cons pe_str (pa_cons pe_str (pa_cons pe_str (pa_cons pe_str (pa_cons pe_str (pa_cons pe_str pa_nil)))))))))), ?_⟩
    exact ⟨line1000 (by decide), k⟩
end
end TR
set_option Elab.async false
set_option linter.all false
set_option maxRecDepth 100000
set_option maxHeartbeats 4000000
namespace TR
open PySem L2 PySem.W PyProof.Rows
seal PE PS PSs PA PT PW PG PGs PI PO
abbrev sWord : Stmt := (top 31)
section
variable {P : Program} {w : World} {K : Frag} {mg : Str → Option Value} {base : Heap}
def spWord (K : Frag) (C1 C2 C3 C4 C5 : Addr) : Sp := fun vs H Q _ => ∃ a C d b1 b2 b3 b4 b5, vs = [.ref a] ∧ ExcAt H a C d ∧ Fits K C C1 C2 C3 C4 C5 b1 b2 b3 b4 b5 ∧
  ∀ H', Same H H' → Q (.str (wordT b1 b2 b3 b4 b5)) H'
theorem scWord : FnScope ["_law_e", "_law_found"] ["_law_e"] (defScope sWord) := ⟨rfl, rfl, rfl, by decide +kernel, rfl, by decide +kernel, by decide +kernel⟩
theorem ok_word {f C1 C2 C3 C4 C5 : Addr} {fd : FuncData} (D : Def K mg "_law_word" ["_law_e"] sWord f fd) (O : Own mg) (E : Errs mg C1 C2 C3 C4 C5) : FnOkH P w K mg base 1 f fd ["_law_e"] (spWord K C1 C2 C3 C4 C5) := by
  refine D.F.okH scWord (fun vs H Q E h => ?_) (fun cdv A outer s H vs Q hr hd h => ?_)
  · obtain ⟨a, C, d, b1, b2, b3, b4, b5, rfl, _⟩ := h
    rfl
  · obtain ⟨a, C, d, b1, b2, b3, b4, b5, rfl, ha, F, k⟩ := h
    refine ⟨_, (pss_cons (ps_set (i := 1) scWord.nd rfl (Or.inl rfl) (pe_op op_cat (pe_op op_rep (pe_lst (pa_cons pe_str pa_nil)) (pe_callTy call_int1 (by rfl) O.int_ boot_int (pa_cons (pisi O.isi (pv 0) (pcls E.g1)) pa_nil))) (pe_op op_rep (pe_lst (pa_cons pe_str pa_nil)) (pe_callTy call_int1 (by rfl) O.int_ boot_int (pa_cons (pisi O.isi (pv 0) (pcls E.g2)) pa_nil)))))
      (pss_cons (ps_aug (i := 1) scWord.nd rfl (Or.inl rfl) (pe_op op_cat (pe_op op_rep (pe_lst (pa_cons pe_str pa_nil)) (pe_callTy call_int1 (by rfl) O.int_ boot_int (pa_cons (pisi O.isi (pv 0) (pcls E.g3)) pa_nil))) (pe_op op_rep (pe_lst (pa_cons pe_str pa_nil)) (pe_callTy call_int1 (by rfl) O.int_ boot_int (pa_cons (pisi O.isi (pv 0) (pcls E.g4)) pa_nil)))) ip_cat)
      (pss_cons (ps_aug (i := 1) scWord.nd rfl (Or.inl rfl) (pe_op op_cat (pe_op op_rep (pe_lst (pa_cons pe_str pa_nil)) (pe_callTy call_int1 (by rfl) O.int_ boot_int (pa_cons (pisi O.isi (pv 0) (pcls E.g5)) pa_nil))) (pe_op op_rep (pe_lst (pa_cons pe_str pa_nil)) (pe_callTy call_int1 (by rfl) O.int_ boot_int (pa_cons (pe_not (pisi O.isi (pv 0) (pty O.ValueError_ (show bootBuiltins "ValueError" = some (.type "ValueError") by decide +kernel)))) pa_nil)))) ip_cat)
      (pss_one (ps_ret (pe_bm PySem.F.plainAttrs_str PySem.F.slot_str_join PySem.F.type_str_join mt_join pe_str (pa_cons (pv 1) pa_nil))))))), ?_⟩
    refine rep_two (fun H' Q' z q => isi_exc rfl ha F.k F.h1 z q) (fun H' Q' z q => isi_exc rfl ha F.k F.h2 z q) fun l H1 s1 n1 e1 => ?_
    refine ⟨_, rfl, rep_two (fun H' Q' z q => isi_exc rfl (ha.same s1) F.k F.h3 z q) (fun H' Q' z q => isi_exc rfl (ha.same s1) F.k F.h4 z q) fun l2 H2 s2 n2 e2 => ?_⟩
    have zz : ∀ (x y : Str) (b c : Bool), ((rep1 x b ++ rep1 y c).map V.str).length ≤ 2 := fun x y b c => by cases b <;> cases c <;> simp [rep1]
    refine ⟨l, l2, _, _, rfl, rfl, s2 _ _ e1, e2, line1000 (by have := zz "context" "number" b1 b2; have := zz "text" "count" b3 b4; omega), ?_⟩
    have s3 : Same H (upd H2 l (.lst ((rep1 "context" b1 ++ rep1 "number" b2).map V.str ++ (rep1 "text" b3 ++ rep1 "count" b4).map V.str))) := fun b o z => by
      rw [upd_ne (ne_of_none z n1)]
      exact (s1.trans s2) _ _ z
    refine ⟨_, rfl, rep_two (c := false) (fun H' Q' z q => isi_exc rfl (ha.same s3) F.k F.h5 z q) (fun H' Q' z q => ⟨_, rfl, _, _, _, _, true, rfl, rfl, (ha.same (s3.trans z)).ty F.k, F.hv, _, rfl, q⟩) fun l3 H3 s4 n3 e3 => ?_⟩
    refine ⟨l, l3, _, _, rfl, rfl, s4 _ _ upd_same, e3, line1000 (by have := zz "context" "number" b1 b2; have := zz "text" "count" b3 b4; have := zz "trapped" "bare" b5 false; rw [List.length_append]; omega), ?_⟩
    have s5 : Same H (upd H3 l (.lst (((rep1 "context" b1 ++ rep1 "number" b2).map V.str ++ (rep1 "text" b3 ++ rep1 "count" b4).map V.str) ++ (rep1 "trapped" b5 ++ rep1 "bare" false).map V.str))) := fun b o z => by
      rw [upd_ne (ne_of_none z n1)]
      exact (s3.trans s4) _ _ z
    refine ⟨rfl, _, rfl, _, l, wordsS b1 b2 b3 b4 b5, rfl, rfl, SqL.of ?_, word_ok _ _ _ _ _, k _ s5⟩
    rw [upd_same]
    simp only [wordsS, List.map_append]
end
end TR
set_option Elab.async false
set_option linter.all false
set_option maxRecDepth 100000
set_option maxHeartbeats 4000000
namespace TR
open PySem L2 PySem.W PyProof.Rows
seal PE PS PSs PA PT PW PG PGs PI PO
/-! ### lists of signals as data -/
def rdS (zs : List Str) : PyData := .list (zs.map PyData.str)
def OkL (zs : List Str) : Prop := zs.length ≤ 100 ∧ ∀ z ∈ zs, PyData.strOk z = true
theorem layS : ∀ {zs : List Str}, (∀ z ∈ zs, PyData.strOk z = true) → PyData.canLayAll0 (zs.map PyData.str) = true ∧ PyData.depthAll (zs.map PyData.str) ≤ 1
  | [], _ => by simp [PyData.canLayAll0, PyData.depthAll]
  | z :: zs, h => by
    obtain ⟨a, b⟩ := layS (zs := zs) fun z' h' => h z' (List.mem_cons_of_mem _ h')
    have c := h z List.mem_cons_self
    constructor
    · simp [PyData.canLayAll0, PyData.canLay0, c, a]
    · simp only [List.map_cons, PyData.depthAll, PyData.depth]
      omega
theorem shS {zs : List Str} (h : OkL zs) : SeqAt.shaped (rdS zs) = true := by
  obtain ⟨a, b⟩ := layS h.2
  unfold SeqAt.shaped rdS
  simp only [PyData.canLay0, PyData.depth, a, Bool.and_true, Bool.and_eq_true, decide_eq_true_eq, List.length_map]
  exact ⟨trivial, decide_eq_true (by omega)⟩
theorem eqS : ∀ zs : List Str, PyData.eqv (rdS zs) (rdS zs) = true := by
  have h : ∀ zs : List Str, PyData.eqvAll (zs.map PyData.str) (zs.map PyData.str) = true := fun zs => by
    induction zs with
    | nil => simp [PyData.eqvAll]
    | cons z zs ih => simp [PyData.eqvAll, PyData.eqv, ih]
  intro zs
  simp [rdS, PyData.eqv, h]
theorem rdsS {K : Frag} {H : Hp} : ∀ zs : List Str, RdDs K H (zs.map V.str) (zs.map PyData.str)
  | [] => .nil
  | z :: zs => .cons (.str z) (rdsS zs)
theorem rdS_at {K : Frag} {H : Hp} {p : Addr} {zs : List Str} (h : H p = some (.lst (zs.map V.str))) : RdD K H (.ref p) (rdS zs) := .lst (SqL.of h) (rdsS zs)
theorem okSig : ∀ z ∈ sigS, PyData.strOk z = true := by decide +kernel
end TR
set_option Elab.async false
set_option linter.all false
set_option maxRecDepth 100000
set_option maxHeartbeats 4000000
namespace TR
open PySem L2 PySem.W PyProof.Rows
seal PE PS PSs PA PT PW PG PGs PI PO
/-- the clause «except ReckonError», and an exception of BadContext -/
structure CaughtC (K : Frag) (mg : Str → Option Value) (CR CB C2 C3 C4 C5 : Addr) : Prop where
  g : mg "ReckonError" = some (.ref CR)
  c : Clause K CR
  sub : subIn K (.ref CB) (.ref CR) = some true
  fits : Fits K CB CB C2 C3 C4 C5 true false false false false
abbrev sLTrap : Stmt := (top 32)
section
variable {P : Program} {w : World} {K : Frag} {mg : Str → Option Value} {base : Heap}
def spLTrap (K : Frag) (CC : Addr) : Sp := fun vs H Q _ => ∃ c r y l m a b xs ys v, vs = [.ref c, v] ∧ CtxAt CC H c r y l m a b xs ys ∧
  ((∃ (p : Addr) (zs : List Str), v = .ref p ∧ H p = some (.lst (zs.map V.str)) ∧ (∀ z ∈ zs, z ∈ sigS) ∧ ∀ b' H', Exc c H H' → H b' = none → CtxAt CC H' c r y l m a b' xs ((ordS zs).map V.str) → Q .non H') ∨ (NoSigs K H v ∧ ∀ H', Same H H' → Q (.str "context") H'))
theorem scLTrap : FnScope ["_law_context", "_law_names", "_law_e"] ["_law_context", "_law_names"] (defScope sLTrap) := ⟨rfl, rfl, rfl, by decide +kernel, rfl, by decide +kernel, by decide +kernel⟩
theorem ok_ltrap {f f2 CC CR CB C2 C3 C4 C5 : Addr} {fd fd2 : FuncData} (D : Def K mg "_law_trap" ["_law_context", "_law_names"] sLTrap f fd) (D_word : Def K mg "_law_word" ["_law_e"] sWord f2 fd2) (G_word : FnOkH P w K mg base 1 f2 fd2 ["_law_e"] (spWord K CB C2 C3 C4 C5))
    (C : CtxC K mg CC) (M : Has P w K mg base CC "trap" 2 ["self", "names"] (spTrap K CC CB)) (R : CaughtC K mg CR CB C2 C3 C4 C5) : FnOk P w K mg base (CX1 P w) 3 f fd ["_law_context", "_law_names"] (spLTrap K CC) := by
  refine D.F.okE scLTrap (fun vs H Q E h => ?_) (fun X cdv A outer s H vs Q E hX hr hx h => ?_)
  · obtain ⟨c, r, y, l, m, a, b, xs, ys, v, rfl, _⟩ := h
    rfl
  · subst hX
    obtain ⟨c, r, y, l, m, a, b, xs, ys, v, rfl, hc, h⟩ := h
    obtain ⟨fr, fdr, mr, gr, br⟩ := M
    obtain ⟨dx, e⟩ := hc.ins
    refine ⟨_, (pss_one (ps_try ⟨rfl, rfl, rfl⟩ (by rfl) R.g R.c scLTrap.nd (i := 2) rfl rfl (fun pins Ew EHb hc => (pss_one (ps_ret (pmeth (pv 0) C.cl mr gr hr br .nil hc (pa_cons (pv 1) pa_nil)))))
      (fun pins a => (pss_one (ps_ret (pcallHA (a := a) rfl D_word G_word (hr.hm _) (pa_cons (pv 2) pa_nil))))))), ?_⟩
    refine ⟨_, rfl, c, dx, _, rfl, e, ctx_no_trap _ _ _ _ _ _, _, rfl, c, r, y, l, m, a, b, xs, ys, _, rfl, hc, ?_⟩
    rcases h with ⟨p, zs, rfl, hp, hz, k⟩ | ⟨bad, k⟩
    · exact .inl ⟨p, zs, rfl, hp, hz, fun b' H' x nb hc' => k b' H' x nb hc'⟩
    · refine .inr ⟨bad, R.sub, fun a t T na => ?_⟩
      have u := Same.upd (o := .frz (ExcO (.ref CB) t none (.ref T)) (.own a)) na
      refine ⟨_, rfl, ⟨_, _, _, upd_same, rfl, rfl⟩, a, CB, _, true, false, false, false, false, rfl, ⟨_, _, _, upd_same, fun _ e => by cases e⟩, R.fits, fun H' sm => ?_⟩
      rw [word_ctx]
      exact k H' (u.trans sm)
end
end TR
set_option Elab.async false
set_option linter.all false
set_option maxRecDepth 100000
set_option maxHeartbeats 4000000
namespace TR
open PySem L2 PySem.W PyProof.Rows
seal PE PS PSs PA PT PW PG PGs PI PO
/-! ### what is no list of signals -/
theorem dv {n : Int} (h : 0 < n) (h2 : n.natAbs.log2 < 9000) : (0 : Int) < n ∧ n.natAbs.log2 < 9000 := ⟨h, h2⟩
theorem sigAt {n : Int} : ∃ z, z ∈ sigS ∧ atI sigV (n % 7) = some (.str z) := by
  obtain ⟨v, hv, ix⟩ := ixv (xs := sigV) (i := n % 7) (Int.emod_nonneg _ (by decide)) (by show n % 7 < 7; exact Int.emod_lt_of_pos _ (by decide))
  obtain ⟨z, hz, rfl⟩ := List.mem_map.mp hv
  exact ⟨z, hz, ix⟩
def chkD (d : PyData) : Bool := d.showable && decide (d.depth ≤ 2) && decide (d.shown.length ≤ 100)
def ItemOk (d : PyData) : Prop := d.showable = true ∧ d.depth ≤ 2 ∧ d.shown.length ≤ 100
theorem itemOk {d : PyData} (h : chkD d = true) : ItemOk d := by
  unfold chkD at h
  simp only [Bool.and_eq_true, decide_eq_true_eq] at h
  exact ⟨h.1.1, h.1.2, h.2⟩
def noSig (z : Str) : Bool := (!sigS.contains z) && decide (z.length ≤ 50) && chkD (.str z)
def oddZ (z : Str) : Bool := noSig (z ++ (" " : Str)) && noSig (cutS z (some 1) none) && noSig (Txt.upper z) && noSig (z ++ z) && chkD (.str z) && chkD (.list [.str z]) && chkD (.tuple [.str z]) && chkD (.dict [(.str z, .bool true)])
theorem odd_all : sigS.all oddZ = true := by decide +kernel
theorem odd_rest : (noSig "Void" && noSig "" && chkD .none && chkD (.int 5) && chkD (.int 0) && chkD (.int 7) && chkD (.bool true) && chkD (.dict []) && chkD (.list [])) = true := by decide +kernel
theorem noSig_mem {z : Str} (h : noSig z = true) : z ∉ sigS ∧ z.length ≤ 50 ∧ ItemOk (.str z) := by
  unfold noSig at h
  simp only [Bool.and_eq_true, Bool.not_eq_true', decide_eq_true_eq] at h
  refine ⟨fun hm => ?_, h.1.2, itemOk h.2⟩
  rw [List.contains_iff_mem.mpr hm] at h
  exact absurd h.1.1 (by decide)
theorem shown_map : ∀ ds : List PyData, PyData.shownAll ds = ds.map PyData.shown
  | [] => by simp [PyData.shownAll]
  | d :: ds => by simp [PyData.shownAll, shown_map ds]
theorem showableAll_of : ∀ {ds : List PyData}, (∀ d ∈ ds, ItemOk d) → PyData.showableAll ds = true ∧ PyData.depthAll ds ≤ 3
  | [], _ => by simp [PyData.showableAll, PyData.depthAll]
  | d :: ds, h => by
    obtain ⟨a, b⟩ := showableAll_of (ds := ds) fun d' h' => h d' (List.mem_cons_of_mem _ h')
    obtain ⟨c, e, _⟩ := h d List.mem_cons_self
    constructor
    · simp [PyData.showableAll, a, c]
    · simp only [PyData.depthAll]
      omega
theorem sumLen {ds : List PyData} (h : ∀ d ∈ ds, ItemOk d) : ((ds.map PyData.shown).map (fun x => x.length)).sum ≤ 100 * ds.length := by
  induction ds with
  | nil => simp
  | cons d ds ih =>
    have := ih fun d' h' => h d' (List.mem_cons_of_mem _ h')
    have := (h d List.mem_cons_self).2.2
    simp only [List.map_cons, List.sum_cons, List.length_cons]
    omega
theorem showL {ds : List PyData} (h : ∀ d ∈ ds, ItemOk d) (hl : ds.length ≤ 5) : ShowOk (.list ds) := by
  obtain ⟨a, b⟩ := showableAll_of h
  refine ⟨by simpa [PyData.showable] using a, by simp only [PyData.depth]; omega, ?_⟩
  have h1 := listText_len_le (ds.map PyData.shown)
  have h2 := sumLen h
  rw [PyData.shown, shown_map]
  refine line1000 ?_
  rw [List.length_map] at h1
  omega
theorem showT {ds : List PyData} (h : ∀ d ∈ ds, ItemOk d) (hl : ds.length ≤ 5) : ShowOk (.tuple ds) := by
  obtain ⟨a, b⟩ := showableAll_of h
  refine ⟨by simpa [PyData.showable] using a, by simp only [PyData.depth]; omega, ?_⟩
  have h1 := tupleText_len_le (ds.map PyData.shown)
  have h2 := sumLen h
  rw [PyData.shown, shown_map]
  refine line1000 ?_
  rw [List.length_map] at h1
  omega
theorem ItemOk.show {d : PyData} (h : ItemOk d) : ShowOk d := ⟨h.1, Nat.le_trans h.2.1 (by decide), line1000 (Nat.le_trans h.2.2 (by decide))⟩
section
variable {K : Frag} {H H' : Hp}
/-- no signal's name, and what repr gives of it -/
def BadItem (K : Frag) (H : Hp) (x : V) : Prop := BadS K H x ∧ ∃ d, RdR H x d ∧ ItemOk d
theorem BadItem.same {x : V} (h : BadItem K H x) (s : Same H H') : BadItem K H' x := by
  obtain ⟨a, d, r, o⟩ := h
  exact ⟨a.same s, d, r.same s, o⟩
/-- no list -/
def NoList (K : Frag) (H : Hp) (x : V) : Prop := (∃ t, TyE K H x t ∧ kitOne K t (.type "list") = some false) ∧ ∃ d, RdR H x d ∧ ShowOk d
theorem NoList.same {x : V} (h : NoList K H x) (s : Same H H') : NoList K H' x := by
  obtain ⟨⟨t, a, b⟩, d, r, o⟩ := h
  exact ⟨⟨t, TyE.same a s, b⟩, d, r.same s, o⟩
theorem badI_str (T : Kit K) {z : Str} (h : noSig z = true) : BadItem K H (.str z) := by
  obtain ⟨a, _, b⟩ := noSig_mem h
  exact ⟨⟨_, _, tyStr z, T.str_str, .inr ⟨z, rfl, a⟩⟩, _, .str z, b⟩
theorem rdr_strs : ∀ zs : List Str, RdRs H (zs.map V.str) (zs.map PyData.str)
  | [] => .nil
  | z :: zs => .cons (.str z) (rdr_strs zs)
theorem rdr_app {xs ys : List V} {ds es : List PyData} (h : RdRs H xs ds) (h' : RdRs H ys es) : RdRs H (xs ++ ys) (ds ++ es) := by
  induction xs generalizing ds with
  | nil => cases h; exact h'
  | cons x xs ih =>
    cases h with
    | cons a b => exact .cons a (ih b)
theorem sigItem {z : Str} (h : z ∈ sigS) : ItemOk (.str z) ∧ oddZ z = true := by
  have e := List.all_eq_true.mp odd_all z h
  refine ⟨itemOk ?_, e⟩
  unfold oddZ at e
  simp only [Bool.and_eq_true] at e
  exact e.1.1.1.2
theorem sigLen : ∀ z ∈ sigS, z.length ≤ 9 := by decide +kernel
theorem cutTo {zs : List Str} {n : Nat} (h : n ≤ zs.length) : cutV (zs.map V.str) none (some (n : Int)) = (zs.take n).map V.str := by
  have e : HT.sIx (zs.map V.str).length (zs.map V.str).length (some (n : Int)) = n := by
    simp only [HT.sIx, List.length_map]
    split <;> omega
  have e0 : HT.sIx (zs.map V.str).length 0 none = 0 := rfl
  unfold cutV
  rw [e, e0]
  simp [List.map_take]
theorem cutFrom {zs : List Str} {n : Nat} (h : n ≤ zs.length) : cutV (zs.map V.str) (some (n : Int)) none = (zs.drop n).map V.str := by
  have e : HT.sIx (zs.map V.str).length 0 (some (n : Int)) = n := by
    simp only [HT.sIx, List.length_map]
    split <;> omega
  have e0 : HT.sIx (zs.map V.str).length (zs.map V.str).length none = (zs.map V.str).length := rfl
  unfold cutV
  rw [e, e0]
  rw [List.take_of_length_le (by rw [List.length_drop]; omega)]
  simp [List.map_drop]
end
end TR
set_option Elab.async false
set_option linter.all false
set_option maxRecDepth 100000
set_option maxHeartbeats 4000000
namespace TR
open PySem L2 PySem.W PyProof.Rows
seal PE PS PSs PA PT PW PG PGs PI PO
abbrev sOdd : Stmt := (top 33)
section
variable {P : Program} {w : World} {K : Frag} {mg : Str → Option Value} {base : Heap}
def spOdd (K : Frag) : Sp := fun vs H Q _ => ∃ (n : Int) (q : Addr) (zs : List Str), vs = [.int n, .ref q] ∧ H q = some (.lst (zs.map V.str)) ∧ (∀ z ∈ zs, z ∈ sigS) ∧ zs.length ≤ 2 ∧
  ∀ v d H', Same H H' → RdR H' v d → ShowOk d → NoSigs K H' v → ((∃ p xs, v = .ref p ∧ H p = none ∧ H' p = some (.lst xs)) ∨ ∃ t, TyE K H' v t ∧ kitOne K t (.type "list") = some false) → Q v H'
theorem scOdd : FnScope ["_law_number", "_law_names", "_law_name", "_law_at", "_law_wrong", "_law_some"] ["_law_number", "_law_names"] (defScope sOdd) := ⟨rfl, rfl, rfl, by decide +kernel, rfl, by decide +kernel, by decide +kernel⟩
theorem ok_odd {f f1 : Addr} {fd fd1 : FuncData} (D : Def K mg "_law_odd" ["_law_number", "_law_names"] sOdd f fd) (D_l_signals : Def K mg "_law_signals" [] sSignals f1 fd1) (G_l_signals : FnOk P w K mg base (CX1 P w) 1 f1 fd1 [] spSignals) (O : Own mg) (T : Kit K) :
    FnOk P w K mg base (CX1 P w) 2 f fd ["_law_number", "_law_names"] (spOdd K) := by
  refine D.F.okE scOdd (fun vs H Q E h => ?_) (fun X cdv A outer s H vs Q E hX hr hx h => ?_)
  · obtain ⟨n, q, zs, rfl, _⟩ := h
    rfl
  · subst hX
    obtain ⟨n, q, zs, rfl, hq, hz, lz, k⟩ := h
    refine ⟨_, (pss_cons (ps_join (ps_set (i := 2) scOdd.nd rfl (Or.inl rfl) (pe_ix ix_list (pcall0 D_l_signals G_l_signals hr hx) (pe_op op_mod (pe_op op_fdivK (pv 0) pe_int) pe_int) (fun _ _ => rfl))))
      (pss_cons (ps_join (ps_set (i := 3) scOdd.nd rfl (Or.inl rfl) (pe_op op_mod (pe_op op_fdivK (pv 0) pe_int) (pe_op op_add (pe_callB call_len_seq (by rfl) O.len_ PySem.boot_len (pa_cons (pv 1) pa_nil)) pe_int))))
      (pss_cons (ps_join (ps_set (i := 4) scOdd.nd rfl (Or.inl rfl) (pe_lstS (pa_cons pe_str (pa_cons pe_str (pa_cons (pe_op op_add_str (pv 2) pe_str) (pa_cons (pe_slice sl_str (pv 2) (po_some pe_int) po_none) (pa_cons pe_non (pa_cons pe_int (pa_cons pe_bl (pa_cons (pe_lstS (pa_cons (pv 2) pa_nil)) (pa_cons (pe_tup (pa_cons (pv 2) pa_nil)) (pa_cons pe_dnewK (pa_cons (pe_lstS pa_nil) pa_nil))))))))))))))
      (pss_cons (ps_join (ps_aug (i := 4) scOdd.nd rfl (Or.inl rfl) (pe_lstS (pa_cons pe_int (pa_cons (pe_bm0 PySem.F.plainAttrs_str PySem.F.slot_str_upper PySem.F.type_str_upper mt_upper (pv 2)) (pa_cons (pe_op op_add_str (pv 2) (pv 2)) pa_nil)))) ip_cat))
      (pss_cons (ps_join (ps_set (i := 5) scOdd.nd rfl (Or.inl rfl) (pe_lstS (pa_cons pe_non (pa_cons (pe_callTy call_tuple_of (by rfl) O.tuple_ boot_tuple (pa_cons (pv 1) pa_nil)) (pa_cons (pv 2) (pa_cons pe_dnewK (pa_cons (pe_disp (pps_cons (pv 2) pe_bl pps_nil) rfl rfl (by simp) (by decide)) (pa_cons pe_int (pa_cons pe_bl (pa_cons pe_str pa_nil)))))))))))
      (pss_cons (ps_join (ps_if (pt_cmpR op_eq (pe_op op_mod (pv 0) pe_int) pe_int (nomark _)) (pss_one (ps_ret (pe_ix ix_list (pv 5) (pe_op op_mod (pe_op op_fdivK (pv 0) pe_int) pe_int) (fun _ _ => rfl)))) pss_nil))
      (pss_one (ps_ret (pe_op op_catS (pe_op op_catS (pe_slice sl_list (pv 1) po_none (po_some (pv 3))) (pe_lstS (pa_cons (pe_ix ix_list (pv 4) (pe_op op_mod (pe_op op_fdivK (pv 0) pe_int) pe_int) (fun _ _ => rfl)) pa_nil))) (pe_slice sl_list (pv 1) (po_some (pv 3)) po_none)))))))))), ?_⟩
    have z14 : ∀ {n : Nat}, n ≤ 100 → n ≤ sizeLine := fun h => line1000 (Nat.le_trans h (by decide))
    -- the name
    refine ⟨fun σ' H' => ∃ z, z ∈ sigS ∧ Same H H' ∧ σ' = [some (.int n), some (.ref q), some (.str z), none, none, none], ?_, ?_⟩
    · refine ⟨rfl, fun l nl => ?_⟩
      obtain ⟨z, hzs, ix⟩ := sigAt (n := n / 64)
      exact ⟨_, rfl, _, _, rfl, rfl, dv (n := 64) (by decide) (by decide +kernel), _, _, rfl, rfl, (by decide : (0 : Int) < 7), l, _, _, _, rfl, rfl, SqL.of upd_same, ix, z, hzs, Same.upd nl, rfl⟩
    rintro σ' H1 ⟨z, hzs, s1, rfl⟩
    obtain ⟨iz, oz⟩ := sigItem hzs
    unfold oddZ at oz
    simp only [Bool.and_eq_true] at oz
    obtain ⟨⟨⟨⟨⟨⟨⟨o1, o2⟩, o3⟩, o4⟩, _⟩, o5⟩, o6⟩, o7⟩ := oz
    obtain ⟨⟨⟨⟨⟨⟨⟨⟨r1, r2⟩, r3⟩, r4⟩, r5⟩, r6⟩, r7⟩, r8⟩, r9⟩ := (by simpa only [Bool.and_eq_true] using odd_rest : (((((((noSig "Void" = true ∧ noSig "" = true) ∧ chkD .none = true) ∧ chkD (.int 5) = true) ∧ chkD (.int 0) = true) ∧ chkD (.int 7) = true) ∧ chkD (.bool true) = true) ∧ chkD (.dict []) = true) ∧ chkD (.list []) = true)
    have hq1 := s1 _ _ hq
    -- the place
    refine ⟨fun σ' H' => ∃ at_ : Nat, at_ ≤ zs.length ∧ H' = H1 ∧ σ' = [some (.int n), some (.ref q), some (.str z), some (.int at_), none, none], ?_, ?_⟩
    · refine ⟨_, rfl, _, _, rfl, rfl, dv (n := 448) (by decide) (by decide +kernel), _, rfl, q, _, rfl, .inl (SqL.of hq1), _, _, rfl, rfl, _, _, rfl, rfl, (by rw [List.length_map]; omega : (0 : Int) < ((zs.map V.str).length : Int) + 1), ?_⟩
      have h0 := Int.emod_nonneg (n / 448) (by rw [List.length_map]; omega : (((zs.map V.str).length : Int) + 1) ≠ 0)
      have h1 := Int.emod_lt_of_pos (n / 448) (by rw [List.length_map]; omega : (0 : Int) < ((zs.map V.str).length : Int) + 1)
      refine ⟨(n / 448 % (((zs.map V.str).length : Int) + 1)).toNat, ?_, rfl, ?_⟩
      · rw [List.length_map] at h1 ⊢
        rw [List.length_map] at h0
        omega
      · rw [Int.toNat_of_nonneg h0]
        rfl
    rintro σ' H1' ⟨at_, hat, rfl, rfl⟩
    have z9 := sigLen z hzs
    -- what is wrong
    refine ⟨fun σ' H' => ∃ (wl : Addr) (ws : List V) (G : Hp), Same H1' G ∧ G wl = none ∧ H' = upd G wl (.lst ws) ∧ ws.length = 11 ∧ (∀ x ∈ ws, BadItem K G x) ∧ σ' = [some (.int n), some (.ref q), some (.str z), some (.int at_), some (.ref wl), none], ?_, ?_⟩
    · refine ⟨_, rfl, _, _, rfl, rfl, z14 (by show z.length + 1 ≤ 100; omega), _, rfl, _, rfl, z, rfl, z14 (Nat.le_trans (noSig_mem o2).2.1 (by decide)), ?_⟩
      refine ⟨_, rfl, z14 (by simp), fun l1 n1 m1 => ?_⟩
      have u1 := Same.upd (o := .lst [.str z]) n1
      have e1 : upd H1' l1 (.lst [.str z]) l1 = some (.lst [.str z]) := upd_same
      generalize upd H1' l1 (.lst [.str z]) = G1 at u1 e1
      refine ⟨_, rfl, z14 (by simp), fun t1 n2 => ?_⟩
      have u2 := Same.upd (o := .tup [.str z]) n2
      have e2 : upd G1 t1 (.tup [.str z]) t1 = some (.tup [.str z]) := upd_same
      generalize upd G1 t1 (.tup [.str z]) = G2 at u2 e2
      intro d1 n3
      have u3 := Same.upd (o := .dK []) n3
      have e3 : upd G2 d1 (.dK []) d1 = some (.dK []) := upd_same
      generalize upd G2 d1 (.dK []) = G3 at u3 e3
      refine ⟨Nat.zero_le _, fun l2 n4 m4 => ?_⟩
      have u4 := Same.upd (o := .lst []) n4
      have e4 : upd G3 l2 (.lst []) l2 = some (.lst []) := upd_same
      generalize upd G3 l2 (.lst []) = G4 at u4 e4
      refine ⟨z14 (by simp), fun wl nw mw => ⟨wl, _, G4, u1.trans (u2.trans (u3.trans u4)), nw, rfl, by simp, ?_, rfl⟩⟩
      have s14 := u2.trans (u3.trans u4)
      have s24 := u3.trans u4
      refine List.forall_mem_cons.2 ⟨badI_str T r1, List.forall_mem_cons.2 ⟨badI_str T r2, List.forall_mem_cons.2 ⟨badI_str T o1, List.forall_mem_cons.2 ⟨badI_str T o2, List.forall_mem_cons.2 ⟨?_, List.forall_mem_cons.2 ⟨?_, List.forall_mem_cons.2 ⟨?_, List.forall_mem_cons.2 ⟨?_, List.forall_mem_cons.2 ⟨?_, List.forall_mem_cons.2 ⟨?_, List.forall_mem_cons.2 ⟨?_, by simp⟩⟩⟩⟩⟩⟩⟩⟩⟩⟩⟩
      · exact ⟨⟨_, _, tyNon, T.NoneType_str, .inl rfl⟩, _, .non, itemOk r3⟩
      · exact ⟨⟨_, _, tyInt 5, T.int_str, .inl rfl⟩, _, .int 5, itemOk r4⟩
      · exact ⟨⟨_, _, tyBl true, T.bool_str, .inl rfl⟩, _, .bl true, itemOk r7⟩
      · exact ⟨⟨_, _, tyLst (s14 _ _ e1), T.list_str, .inl rfl⟩, _, .lst (s14 _ _ e1) m1 (.cons (.str z) .nil), itemOk o5⟩
      · exact ⟨⟨_, _, tyTup (s24 _ _ e2), T.tuple_str, .inl rfl⟩, _, .tup (s24 _ _ e2) (.cons (.str z) .nil), itemOk o6⟩
      · exact ⟨⟨_, _, tyDic (u4 _ _ e3), T.dict_str, .inl rfl⟩, _, .dct0 (u4 _ _ e3), itemOk r8⟩
      · exact ⟨⟨_, _, tyLst e4, T.list_str, .inl rfl⟩, _, .lst e4 m4 .nil, itemOk r9⟩
    rintro σ' H2 ⟨wl, ws, G, s2, nw, rfl, lw, bw, rfl⟩
    refine ⟨fun σ' H' => ∃ (ws : List V), Same H1' H' ∧ H' wl = some (.lst ws) ∧ ws.length = 14 ∧ (∀ x ∈ ws, BadItem K H' x) ∧ σ' = [some (.int n), some (.ref q), some (.str z), some (.int at_), some (.ref wl), none], ?_, ?_⟩
    · refine ⟨_, rfl, _, rfl, rfl, z, rfl, rfl, z14 (Nat.le_trans (noSig_mem o3).2.1 (by decide)), _, rfl, _, rfl, _, _, rfl, rfl, z14 (by omega), z14 (by simp), fun l3 n3 m3 => ?_⟩
      have ew : upd G wl (.lst ws) wl = some (.lst ws) := upd_same
      have u3 := Same.upd (o := .lst [.int 0, .str (Txt.upper z), .str (z ++ z)]) n3
      have e3 : upd (upd G wl (.lst ws)) l3 (.lst [.int 0, .str (Txt.upper z), .str (z ++ z)]) l3 = _ := upd_same
      refine ⟨wl, l3, ws, _, rfl, rfl, u3 _ _ ew, e3, z14 (by rw [lw]; simp), ?_⟩
      have sG : Same G (upd (upd (upd G wl (.lst ws)) l3 (.lst [.int 0, .str (Txt.upper z), .str (z ++ z)])) wl (.lst (ws ++ [.int 0, .str (Txt.upper z), .str (z ++ z)]))) := fun b o hb => by
        rw [upd_ne (ne_of_none hb nw)]
        exact u3 _ _ (by rw [upd_ne (ne_of_none hb nw)]; exact hb)
      refine ⟨_, s2.trans sG, upd_same, by rw [List.length_append, lw]; rfl, fun x hx => ?_, rfl⟩
      rcases List.mem_append.mp hx with hx | hx
      · exact (bw x hx).same sG
      · exact (show ∀ x ∈ [V.int 0, V.str (Txt.upper z), V.str (z ++ z)], BadItem K _ x from List.forall_mem_cons.2 ⟨⟨⟨_, _, tyInt 0, T.int_str, .inl rfl⟩, _, .int 0, itemOk r5⟩, List.forall_mem_cons.2 ⟨badI_str T o3, List.forall_mem_cons.2 ⟨badI_str T o4, fun _ h => nomatch h⟩⟩⟩) x hx
    rintro σ' H3 ⟨ws, s3, ew, lw, bw, rfl⟩
    have hq3 := s3 _ _ hq1
    have iz2 : ∀ d ∈ zs.map PyData.str, ItemOk d := fun d hd => by
      obtain ⟨z', h', rfl⟩ := List.mem_map.mp hd
      exact (sigItem (hz z' h')).1
    refine ⟨fun σ' H' => ∃ (sl : Addr) (ss : List V), Same H3 H' ∧ H' sl = some (.lst ss) ∧ ss.length = 8 ∧ (∀ x ∈ ss, NoList K H' x) ∧ σ' = [some (.int n), some (.ref q), some (.str z), some (.int at_), some (.ref wl), some (.ref sl)], ?_, ?_⟩
    · refine ⟨_, rfl, q, _, rfl, .inl ⟨SqL.of hq3, fun tp n1 => ?_⟩⟩
      have u1 := Same.upd (o := .tup (zs.map V.str)) n1
      have e1 : upd H3 tp (.tup (zs.map V.str)) tp = some (.tup (zs.map V.str)) := upd_same
      generalize upd H3 tp (.tup (zs.map V.str)) = G1 at u1 e1
      refine ⟨_, rfl, fun d1 n2 => ?_⟩
      have u2 := Same.upd (o := .dK []) n2
      have e2 : upd G1 d1 (.dK []) d1 = some (.dK []) := upd_same
      generalize upd G1 d1 (.dK []) = G2 at u2 e2
      intro d2 n3
      refine ⟨_, rfl, upd_same, [(.inr z, .bl true)], rfl, by simp, ?_⟩
      rw [upd_upd]
      have u3 := Same.upd (o := .dK (mergeK [] [(.inr z, .bl true)])) n3
      have e3 : upd G2 d2 (.dK (mergeK [] [(.inr z, .bl true)])) d2 = some (.dK [(.inr z, .bl true)]) := upd_same
      generalize upd G2 d2 (.dK (mergeK [] [(.inr z, .bl true)])) = G3 at u3 e3
      refine ⟨z14 (by simp), fun sl n4 m4 => ⟨sl, _, u1.trans (u2.trans (u3.trans (Same.upd n4))), upd_same, by simp, ?_, rfl⟩⟩
      have u4 := Same.upd (o := .lst [.non, .ref tp, .str z, .ref d1, .ref d2, .int 7, .bl true, .str ""]) n4
      have s14 := u2.trans (u3.trans u4)
      have s24 := u3.trans u4
      refine List.forall_mem_cons.2 ⟨?_, List.forall_mem_cons.2 ⟨?_, List.forall_mem_cons.2 ⟨?_, List.forall_mem_cons.2 ⟨?_, List.forall_mem_cons.2 ⟨?_, List.forall_mem_cons.2 ⟨?_, List.forall_mem_cons.2 ⟨?_, List.forall_mem_cons.2 ⟨?_, by simp⟩⟩⟩⟩⟩⟩⟩⟩
      · exact ⟨⟨_, tyNon, T.NoneType_list⟩, _, .non, (itemOk r3).show⟩
      · exact ⟨⟨_, tyTup (s14 _ _ e1), T.tuple_list⟩, _, .tup (s14 _ _ e1) (rdr_strs zs), showT iz2 (by rw [List.length_map]; omega)⟩
      · exact ⟨⟨_, tyStr z, T.str_list⟩, _, .str z, iz.show⟩
      · exact ⟨⟨_, tyDic (s24 _ _ e2), T.dict_list⟩, _, .dct0 (s24 _ _ e2), (itemOk r8).show⟩
      · exact ⟨⟨_, tyDic (u4 _ _ e3), T.dict_list⟩, _, .dct1 (u4 _ _ e3), (itemOk o7).show⟩
      · exact ⟨⟨_, tyInt 7, T.int_list⟩, _, .int 7, (itemOk r6).show⟩
      · exact ⟨⟨_, tyBl true, T.bool_list⟩, _, .bl true, (itemOk r7).show⟩
      · exact ⟨⟨_, tyStr "", T.str_list⟩, _, .str "", (noSig_mem r2).2.2.show⟩
    rintro σ' H4 ⟨sl, ss, s4, es, ls, bs, rfl⟩
    have s04 := s1.trans (s3.trans s4)
    refine ⟨fun σ' H' => H' = H4 ∧ σ' = [some (.int n), some (.ref q), some (.str z), some (.int at_), some (.ref wl), some (.ref sl)], ?_, ?_⟩
    · refine ⟨_, rfl, _, _, rfl, rfl, (by decide : (0 : Int) < 3), rfl, _, rfl, iteD (fun _ => ?_) (fun _ => ⟨rfl, rfl⟩)⟩
      obtain ⟨v, hv, ix⟩ := ixv (xs := ss) (i := n / 3 % 8) (Int.emod_nonneg _ (by decide)) (by rw [ls]; exact Int.emod_lt_of_pos _ (by decide))
      refine ⟨_, rfl, _, rfl, _, _, rfl, rfl, dv (n := 3) (by decide) (by decide +kernel), _, _, rfl, rfl, (by decide : (0 : Int) < 8), sl, _, _, _, rfl, rfl, SqL.of es, ix, ?_⟩
      obtain ⟨⟨t, ty, kk⟩, d, rd, sh⟩ := bs v hv
      exact k v d H4 s04 rd sh (.inl ⟨t, ty, kk⟩) (.inr ⟨t, ty, kk⟩)
    rintro σ' H5 ⟨rfl, rfl⟩
    have hq5 := s04 _ _ hq
    obtain ⟨v, hv, ix⟩ := ixv (xs := ws) (i := n / 3 % 14) (Int.emod_nonneg _ (by decide)) (by rw [lw]; exact Int.emod_lt_of_pos _ (by decide))
    refine ⟨_, rfl, _, rfl, _, rfl, q, _, rfl, SqL.of hq5, fun p1 n1 => ?_⟩
    rw [cutTo hat]
    have u1 := Same.upd (o := .lst ((zs.take at_).map V.str)) n1
    have e1 : upd H5 p1 (.lst ((zs.take at_).map V.str)) p1 = some (.lst ((zs.take at_).map V.str)) := upd_same
    generalize upd H5 p1 (.lst ((zs.take at_).map V.str)) = G1 at u1 e1
    refine ⟨_, rfl, _, rfl, _, _, rfl, rfl, dv (n := 3) (by decide) (by decide +kernel), _, _, rfl, rfl, (by decide : (0 : Int) < 14), wl, _, _, _, rfl, rfl, SqL.of (u1 _ _ (s4 _ _ ew)), ix, z14 (by simp), fun p2 n2 m2 => ?_⟩
    have u2 := Same.upd (o := .lst [v]) n2
    have e2 : upd G1 p2 (.lst [v]) p2 = some (.lst [v]) := upd_same
    generalize upd G1 p2 (.lst [v]) = G2 at u2 e2
    have l1 : (zs.take at_).length ≤ 2 := Nat.le_trans (List.length_take_le' _ _) lz
    have l2 : (zs.drop at_).length ≤ 2 := by rw [List.length_drop]; omega
    refine ⟨p1, p2, _, _, rfl, rfl, u2 _ _ e1, e2, z14 (by rw [List.length_map]; show (zs.take at_).length + 1 ≤ 100; omega), fun p3 n3 m3 => ?_⟩
    have u3 := Same.upd (o := .lst ((zs.take at_).map V.str ++ [v])) n3
    have e3 : upd G2 p3 (.lst ((zs.take at_).map V.str ++ [v])) p3 = some (.lst ((zs.take at_).map V.str ++ [v])) := upd_same
    generalize upd G2 p3 (.lst ((zs.take at_).map V.str ++ [v])) = G3 at u3 e3
    refine ⟨_, rfl, _, rfl, _, rfl, q, _, rfl, SqL.of ((u1.trans (u2.trans u3)) _ _ hq5), fun p4 n4 => ?_⟩
    rw [cutFrom hat]
    have u4 := Same.upd (o := .lst ((zs.drop at_).map V.str)) n4
    have e4 : upd G3 p4 (.lst ((zs.drop at_).map V.str)) p4 = some (.lst ((zs.drop at_).map V.str)) := upd_same
    generalize upd G3 p4 (.lst ((zs.drop at_).map V.str)) = G4 at u4 e4
    refine ⟨p3, p4, _, _, rfl, rfl, u4 _ _ e3, e4, z14 (by rw [List.length_append, List.length_map, List.length_map]; show (zs.take at_).length + 1 + (zs.drop at_).length ≤ 100; omega), fun p5 n5 m5 => ?_⟩
    have u5 := Same.upd (o := .lst ((zs.take at_).map V.str ++ [v] ++ (zs.drop at_).map V.str)) n5
    have e5 : upd G4 p5 (.lst ((zs.take at_).map V.str ++ [v] ++ (zs.drop at_).map V.str)) p5 = some (.lst ((zs.take at_).map V.str ++ [v] ++ (zs.drop at_).map V.str)) := upd_same
    generalize upd G4 p5 (.lst ((zs.take at_).map V.str ++ [v] ++ (zs.drop at_).map V.str)) = G5 at u5 e5
    have s45 := s4.trans (u1.trans (u2.trans (u3.trans (u4.trans u5))))
    have s05 := s04.trans (u1.trans (u2.trans (u3.trans (u4.trans u5))))
    have n05 : H p5 = none := s04.free (u1.free (u2.free (u3.free (u4.free n5))))
    obtain ⟨bS, d, rd, od⟩ := (bw v hv).same s45
    have sub1 : ∀ d ∈ (zs.take at_).map PyData.str, ItemOk d := fun d hd => by
      obtain ⟨z', h', rfl⟩ := List.mem_map.mp hd
      exact (sigItem (hz z' (List.mem_of_mem_take h'))).1
    have sub2 : ∀ d ∈ (zs.drop at_).map PyData.str, ItemOk d := fun d hd => by
      obtain ⟨z', h', rfl⟩ := List.mem_map.mp hd
      exact (sigItem (hz z' (List.mem_of_mem_drop h'))).1
    refine k (.ref p5) (.list ((zs.take at_).map PyData.str ++ [d] ++ (zs.drop at_).map PyData.str)) G5 s05 (.lst e5 m5 (rdr_app (rdr_app (rdr_strs _) (.cons rd .nil)) (rdr_strs _))) (showL ?_ ?_) (.inr ⟨p5, zs.take at_, v, (zs.drop at_).map V.str, rfl, by rw [e5]; simp, fun z' h' => hz z' (List.mem_of_mem_take h'), bS⟩) (.inl ⟨p5, _, rfl, n05, e5⟩)
    · intro d' hd
      rcases List.mem_append.mp hd with hd | hd
      · rcases List.mem_append.mp hd with hd | hd
        · exact sub1 d' hd
        · rw [List.mem_singleton.mp hd]; exact od
      · exact sub2 d' hd
    · rw [List.length_append, List.length_append, List.length_map, List.length_map]
      show (zs.take at_).length + 1 + (zs.drop at_).length ≤ 5
      omega
end
end TR
set_option Elab.async false
set_option linter.all false
set_option maxRecDepth 100000
set_option maxHeartbeats 4000000
namespace TR
open PySem L2 PySem.W PyProof.Rows
seal PE PS PSs PA PT PW PG PGs PI PO
abbrev sLaw : Stmt := (top 34)
/-- some of the signals, in their order -/
def SubS (zs : List Str) : Prop := ∃ p : Str → Bool, zs = sigS.filter p
theorem SubS.ok {zs : List Str} (h : SubS zs) : OkL zs := by
  obtain ⟨p, rfl⟩ := h
  exact ⟨Nat.le_trans (List.length_filter_le _ _) (by decide), fun z hz => okSig z (List.mem_filter.mp hz).1⟩
theorem SubS.len {zs : List Str} (h : SubS zs) : zs.length ≤ 7 := by
  obtain ⟨p, rfl⟩ := h
  exact List.length_filter_le _ _
theorem SubS.mem {zs : List Str} (h : SubS zs) : ∀ z ∈ zs, z ∈ sigS := by
  obtain ⟨p, rfl⟩ := h
  exact fun z hz => (List.mem_filter.mp hz).1
theorem ordS_sub {zs ws : List Str} (h : SubS zs) (e : ∀ z, z ∈ ws ↔ z ∈ zs) : ordS ws = zs := by
  obtain ⟨p, rfl⟩ := h
  unfold ordS
  refine List.filter_congr fun z hz => ?_
  rw [Bool.eq_iff_iff, List.contains_iff_mem, e, List.mem_filter]
  simp [hz]
theorem subS_ord (zs : List Str) : SubS (ordS zs) := ⟨_, rfl⟩
theorem ordS_nil : ordS [] = [] := ordS_sub ⟨fun _ => false, by simp⟩ (by simp)
theorem sub_all : SubS sigS := ⟨fun _ => true, by decide +kernel⟩
def pw7 (i : Nat) : Int := ([1, 2, 4, 8, 16, 32, 64] : List Int).getD i 1
theorem pw7_at : ∀ i < 7, ([.int 1, .int 2, .int 4, .int 8, .int 16, .int 32, .int 64] : List V)[i]? = some (.int (pw7 i)) ∧ 0 < pw7 i ∧ (pw7 i).natAbs.log2 < 9000 := by decide +kernel
theorem sig_at : ∀ i < 7, sigV[i]? = some (.str (sigS.getD i "")) := by decide +kernel
theorem sig_map : sigS = (List.range 7).map (fun i => sigS.getD i "") := by decide +kernel
theorem pick_sub (f : Nat → Bool) : SubS (((List.range 7).filter f).map fun i => sigS.getD i "") := by
  refine ⟨fun z => f (sigS.idxOf z), ?_⟩
  conv => rhs; rw [sig_map]
  rw [List.filter_map]
  congr 1
theorem pick_eq {f : Nat → Bool} {ys : List V} (hl : ys.length = ((List.range 7).filter f).length) (h : ∀ (j i : Nat) (y : V), ((List.range 7).filter f)[j]? = some i → ys[j]? = some y → sigV[i]? = some y) :
    ys = ((((List.range 7).filter f).map fun i => sigS.getD i "")).map V.str := by
  apply List.ext_getElem
  · simp [hl]
  · intro j h1 h2
    have hj : j < ((List.range 7).filter f).length := by rw [← hl]; exact h1
    have z := h j _ ys[j] (List.getElem?_eq_getElem hj) (List.getElem?_eq_getElem h1)
    have hm : ((List.range 7).filter f)[j] < 7 := by
      have := (List.mem_filter.mp (List.getElem_mem hj)).1
      simpa using this
    rw [sig_at _ hm] at z
    simp only [List.getElem_map]
    exact (Option.some.inj z).symm
section
variable {P : Program} {w : World} {K : Frag} {mg : Str → Option Value} {base : Heap}
theorem seqExc {H H' : Hp} {c a C dx : Addr} {fs : List (Str × V)} {xs : List V} (h : SqL K H a xs) (x : Exc c H H') (ec : H c = some (.ins C dx fs)) : SqL K H' a xs := by
  rcases h with (h | ⟨o, h⟩) | h
  · exact .inl (.inl (x _ _ h (ne_of h ec (by intro z; cases z))))
  · exact .inl (.inr ⟨o, x _ _ h (ne_of h ec (by intro z; cases z))⟩)
  · exact .inr h
/-- the law's frame -/
structure St8 (K : Frag) (CC sc c kp ua : Addr) (ns : List Int) (ks us : List Str) (H : Hp) : Prop where
  s : SqL K H sc (ns.map V.int)
  x : ∃ a b, CtxAt CC H c 9 .halfEven (-60) 60 a b (us.map V.str) (ks.map V.str)
  k : H kp = some (.lst (ks.map V.str))
  u : H ua = some (.lst (us.map V.str))
theorem St8.same {CC sc c kp ua : Addr} {ns : List Int} {ks us : List Str} {H H' : Hp} (h : St8 K CC sc c kp ua ns ks us H) (e : Same H H') : St8 K CC sc c kp ua ns ks us H' := by
  obtain ⟨a, b, q⟩ := h.x
  exact ⟨e.seq h.s, ⟨a, b, q.same e⟩, e _ _ h.k, e _ _ h.u⟩
/-- how a context is made by none -/
structure Made08 (P : Program) (w : World) (K : Frag) (mg : Str → Option Value) (base : Heap) (CC CB fI : Addr) (fdI : FuncData) (d9 dh d60 : Value) : Prop where
  mc : MakeC P w K mg base CC CB fI fdI
  b0 : Binds K fdI ["self", "room", "way", "least", "most"] [d9, dh, .none, d60]
  v0 : Vals [.int 9, .str "half even", .non, .int 60] [d9, dh, .none, d60]
def spLaw (K : Frag) : Sp := fun vs H Q _ => ∃ a ns, vs = [.ref a] ∧ (ns : List Int).length ≤ 63 ∧ SqL K H a (ns.map V.int) ∧ ∀ H', Q (.bl true) H'
theorem scLaw : FnScope ["_law_script", "_law_context", "_law_number", "_law_kept", "_law_more", "_law_up", "_law_k", "_law_names", "_law_odd_here", "_law_shape"] ["_law_script"] (defScope sLaw) := ⟨rfl, rfl, rfl, by decide +kernel, rfl, by decide +kernel, by decide +kernel⟩
theorem ok_law {f f1 f3 f4 f5 f6 fI CC CB CT : Addr} {fd fd1 fd3 fd4 fd5 fd6 fdI : FuncData} {d9 dh d60 : Value} (D : Def K mg "law" ["_law_script"] sLaw f fd)
    (D_l_signals : Def K mg "_law_signals" [] sSignals f1 fd1) (G_l_signals : FnOk P w K mg base (CX1 P w) 1 f1 fd1 [] spSignals)
    (D_l_mixed : Def K mg "_law_mixed" ["_law_cell", "_law_k"] sMixed f3 fd3) (G_l_mixed : FnOk P w K mg base (CX1 P w) 1 f3 fd3 ["_law_cell", "_law_k"] spMixed) (D_l_cell_at : Def K mg "_law_cell_at" ["_law_script", "_law_k"] sCell f4 fd4) (G_l_cell_at : FnOk P w K mg base (CX1 P w) 1 f4 fd4 ["_law_script", "_law_k"] (spCell K))
    (D_l_trap : Def K mg "_law_trap" ["_law_context", "_law_names"] sLTrap f5 fd5) (G_l_trap : FnOk P w K mg base (CX1 P w) 3 f5 fd5 ["_law_context", "_law_names"] (spLTrap K CC)) (D_l_odd : Def K mg "_law_odd" ["_law_number", "_law_names"] sOdd f6 fd6) (G_l_odd : FnOk P w K mg base (CX1 P w) 2 f6 fd6 ["_law_number", "_law_names"] (spOdd K))
    (M : Made08 P w K mg base CC CB fI fdI d9 dh d60) (C : CtxC K mg CC) (MF : Has P w K mg base CC "flags" 1 ["self"] (spCtxFlags CC)) (MT : Has P w K mg base CC "traps" 1 ["self"] (spCtxTraps CC)) (MP : Has P w K mg base CC "trap" 2 ["self", "names"] (spTrap K CC CB)) (MR : Has P w K mg base CC "raised" 3 ["self", "names"] (spRaised K CC CB CT))
    (O : Own mg) (T : Kit K) : FnOkG P w K mg base (CX1 P w) 6 f fd ["_law_script"] (spLaw K) := by
  refine D.F.okEG scLaw (fun vs H Q E h => ?_) (fun X cdv A outer s H vs Q E hX HG hr hx h => ?_)
  · obtain ⟨a, ns, rfl, _⟩ := h
    rfl
  · subst hX
    obtain ⟨sc, ns, rfl, n63, hS, kk⟩ := h
    obtain ⟨ff, fdf, mf, gf, bf⟩ := MF
    obtain ⟨ft, fdt, mt, gt, bt⟩ := MT
    obtain ⟨fp, fdp, mp, gp, bp⟩ := MP
    obtain ⟨fr, fdr, mr, gr, br⟩ := MR
    refine ⟨_, (pss_cons (ps_join (ps_set (i := 1) scLaw.nd rfl (Or.inl rfl) (pmake0 M.mc.m M.mc.g hr C.g M.b0 M.v0 hx)))
      (pss_cons (ps_join (ps_set (i := 2) scLaw.nd rfl (Or.inr rfl) (pcall D_l_mixed G_l_mixed hr hx (pa_cons (pcall D_l_cell_at G_l_cell_at hr hx (pa_cons (pv 0) (pa_cons pe_int pa_nil))) (pa_cons pe_int pa_nil)))))
      (pss_cons (ps_join (ps_compG (i := 3) (N := ["_law_k", "_law_name"]) (F := ["_law_number"]) (js := [2]) (CompScopeF.of1 ⟨rfl, by decide +kernel, by decide +kernel, by decide +kernel, by decide +kernel⟩ (by rfl) (by rfl) ⟨_, by rfl⟩ (by rfl) (by rfl)) (.inl hr.hd) rfl (pi_enum rfl O.enumerate_ (pa_cons (pcall0 D_l_signals G_l_signals hr hx) pa_nil)) rfl (fun C s₀ H₀ ex pn h => pg_tupK (K := K) (n := 2) rfl h (pgs_cons (pg_name (i := 0) (by decide +kernel : (["_law_k", "_law_name", "_law_number"] : List Str).Nodup) rfl (Or.inl rfl)) (pgs_cons (pg_name (i := 1) (by decide +kernel : (["_law_k", "_law_name", "_law_number"] : List Str).Nodup) rfl (Or.inl rfl)) pgs_nil))) (fun C s₀ H₀ ex pn h => (pt_cmpR op_eq (pe_op op_mod (pe_op op_fdivK (pv 2) (pe_ix (ix_listK (K := K) rfl) (pe_lst (pa_cons pe_int (pa_cons pe_int (pa_cons pe_int (pa_cons pe_int (pa_cons pe_int (pa_cons pe_int (pa_cons pe_int pa_nil)))))))) (pv 0) (fun _ _ => rfl))) pe_int) pe_int (nomark _))) (fun C s₀ H₀ ex pn h => (pv 1)) scLaw.nd rfl (Or.inl rfl)))
      (pss_cons (ps_join (ps_set (i := 4) scLaw.nd rfl (Or.inr rfl) (pe_op op_fdivK (pv 2) pe_int)))
      (pss_cons (ps_join (ps_compG (i := 5) (N := ["_law_k", "_law_name"]) (F := ["_law_more"]) (js := [4]) (CompScopeF.of1 ⟨rfl, by decide +kernel, by decide +kernel, by decide +kernel, by decide +kernel⟩ (by rfl) (by rfl) ⟨_, by rfl⟩ (by rfl) (by rfl)) (.inl hr.hd) rfl (pi_enum rfl O.enumerate_ (pa_cons (pcall0 D_l_signals G_l_signals hr hx) pa_nil)) rfl (fun C s₀ H₀ ex pn h => pg_tupK (K := K) (n := 2) rfl h (pgs_cons (pg_name (i := 0) (by decide +kernel : (["_law_k", "_law_name", "_law_more"] : List Str).Nodup) rfl (Or.inl rfl)) (pgs_cons (pg_name (i := 1) (by decide +kernel : (["_law_k", "_law_name", "_law_more"] : List Str).Nodup) rfl (Or.inl rfl)) pgs_nil))) (fun C s₀ H₀ ex pn h => (pt_cmpR op_eq (pe_op op_mod (pe_op op_fdivK (pv 2) (pe_ix (ix_listK (K := K) rfl) (pe_lst (pa_cons pe_int (pa_cons pe_int (pa_cons pe_int (pa_cons pe_int (pa_cons pe_int (pa_cons pe_int (pa_cons pe_int pa_nil)))))))) (pv 0) (fun _ _ => rfl))) pe_int) pe_int (nomark _))) (fun C s₀ H₀ ex pn h => (pv 1)) scLaw.nd rfl (Or.inl rfl)))
      (pss_cons (ps_join (ps_expr (pmeth (pv 1) C.cl mr gr hr br .nil hx (pa_cons (pe_callTy call_list_of (by rfl) O.list_ boot_list (pa_cons (pv 5) pa_nil)) pa_nil))))
      (pss_cons (ps_join (ps_if (pt_cmpR op_notN (pmeth (pv 1) C.cl mp gp hr bp .nil hx (pa_cons (pe_op op_cat (pe_listrev hr.hd (by rfl) (by rfl) O.list_ O.reversed_ (pv 3)) (pv 3)) pa_nil)) pe_non (nomark _)) (pss_one (ps_ret pe_bl)) pss_nil))
      (pss_cons (ps_join (ps_for PassesOwn.leaving rfl (pi_range1 rfl O.range_ (pa_cons pe_int pa_nil)) (pg_name (i := 6) scLaw.nd rfl (Or.inl rfl)) (pss_cons (ps_join (ps_set (i := 4) scLaw.nd rfl (Or.inr rfl) (pcall D_l_mixed G_l_mixed hr hx (pa_cons (pcall D_l_cell_at G_l_cell_at hr hx (pa_cons (pv 0) (pa_cons (pe_op op_add pe_int (pv 6)) pa_nil))) (pa_cons (pe_op op_add pe_int (pv 6)) pa_nil)))))
      (pss_cons (ps_join (ps_set (i := 7) scLaw.nd rfl (Or.inr rfl) (pe_slice sl_list (pe_lst (pa_cons (pe_ix ix_list (pcall0 D_l_signals G_l_signals hr hx) (pe_op op_mod (pe_op op_fdivK (pv 4) pe_int) pe_int) (fun _ _ => rfl)) (pa_cons (pe_ix ix_list (pcall0 D_l_signals G_l_signals hr hx) (pe_op op_mod (pe_op op_fdivK (pv 4) pe_int) pe_int) (fun _ _ => rfl)) pa_nil))) po_none (po_some (pe_op op_mod (pv 4) pe_int)))))
      (pss_cons (ps_join (ps_set (i := 8) scLaw.nd rfl (Or.inl rfl) (pcall D_l_odd G_l_odd hr hx (pa_cons (pe_op op_fdivK (pv 4) pe_int) (pa_cons (pv 7) pa_nil)))))
      (pss_cons (ps_join (ps_set (i := 9) scLaw.nd rfl (Or.inl rfl) (pe_callB (call_repr HG hr.units) (by rfl) O.repr_ boot_repr' (pa_cons (pv 8) pa_nil))))
      (pss_cons (ps_join (ps_if (PW.pt (pw_or (pt_cmpR op_ne (pcall D_l_trap G_l_trap hr hx (pa_cons (pv 1) (pa_cons (pv 8) pa_nil))) pe_str (nomark _)) (pw_or1 (pt_cmpR op_ne (pe_callB (call_repr HG hr.units) (by rfl) O.repr_ boot_repr' (pa_cons (pv 8) pa_nil)) (pv 9) (nomark _))))) (pss_one (ps_ret pe_bl)) pss_nil))
      (pss_cons (ps_join (ps_if (PW.pt (pw_or (pt_cmpR (op_neD hr.units) (pmeth0 (pv 1) C.cl mt gt hr bt .nil hx) (pv 3) (nomark _)) (pw_or1 (pt_cmpR (op_neD hr.units) (pmeth0 (pv 1) C.cl mf gf hr bf .nil hx) (pv 5) (nomark _))))) (pss_one (ps_ret pe_bl)) pss_nil))
      (pss_one (ps_join (ps_if (pt_val (pisi O.isi (pv 8) (pty O.list_ boot_list))) (pss_cons (ps_join (ps_expr (pe_bm0 PySem.F.plainAttrs_list PySem.F.slot_list_clear PySem.F.type_list_clear mt_clear (pv 8))))
      (pss_cons (ps_join (ps_expr (pe_bm PySem.F.plainAttrs_list PySem.F.slot_list_extend PySem.F.type_list_extend mt_extend (pv 8) (pa_cons (pv 7) pa_nil))))
      (pss_cons (ps_join (ps_compF (i := 3) (N := ["_law_name"]) (F := ["_law_names"]) (js := [7]) (CompScopeF.of1 ⟨rfl, by decide +kernel, by decide +kernel, by decide +kernel, by decide +kernel⟩ (by rfl) (by rfl) ⟨_, by rfl⟩ (by rfl) (by rfl)) (.inl hr.hd) (pih_list (pcall0 D_l_signals G_l_signals hr hx)) rfl (fun C s₀ H₀ ex pn h => pg_name (i := 0) (by decide +kernel : (["_law_name", "_law_names"] : List Str).Nodup) rfl (Or.inl rfl)) (fun C s₀ H₀ ex pn h => (pt_cmpR (op_in_seqK (K := K) rfl) (pv 0) (pv 1) (by rfl))) (fun C s₀ H₀ ex pn h => (pv 0)) scLaw.nd rfl (Or.inl rfl)))
      (pss_one (ps_join (ps_if (PW.pt (pw_or (pt_cmpR op_notN (pcall D_l_trap G_l_trap hr hx (pa_cons (pv 1) (pa_cons (pv 8) pa_nil))) pe_non (nomark _)) (pw_or (pt_cmpR (op_neD hr.units) (pmeth0 (pv 1) C.cl mt gt hr bt .nil hx) (pv 3) (nomark _)) (pw_or1 (pt_cmpR (op_neD hr.units) (pmeth0 (pv 1) C.cl mf gf hr bf .nil hx) (pv 5) (nomark _)))))) (pss_one (ps_ret pe_bl)) pss_nil)))))) pss_nil)))))))))))
      (pss_cons (ps_join (ps_if (PW.pt (pw_or (pt_cmpR op_notN (pcall D_l_trap G_l_trap hr hx (pa_cons (pv 1) (pa_cons (pe_lst pa_nil) pa_nil))) pe_non (nomark _)) (pw_or1 (pt_cmpR (op_neD hr.units) (pmeth0 (pv 1) C.cl mt gt hr bt .nil hx) (pe_lst pa_nil) (nomark _))))) (pss_one (ps_ret pe_bl)) pss_nil))
      (pss_one (ps_ret (pe_and (pe_cmpR op_isN (pmeth (pv 1) C.cl mr gr hr br .nil hx (pa_cons (pcall0 D_l_signals G_l_signals hr hx) pa_nil)) pe_non (nomark _)) (pe_one (pe_cmpR (op_eqD hr.units) (pmeth0 (pv 1) C.cl mf gf hr bf .nil hx) (pcall0 D_l_signals G_l_signals hr hx) (nomark _))))))))))))))), ?_⟩
    have z14 : ∀ {n : Nat}, n ≤ 100 → n ≤ sizeLine := fun h => line1000 (Nat.le_trans h (by decide))
    -- the context
    refine ⟨fun σ' H' => ∃ c a b, Same H H' ∧ CtxAt CC H' c 9 .halfEven (-60) 60 a b [] [] ∧ σ' = [some (.ref sc), some (.ref c), none, none, none, none, none, none, none, none], ?_, ?_⟩
    · intro x dx n1 n2 ne
      exact madeC n1 n2 ne rfl (by decide) (by decide) (y := .halfEven) rfl (.inl ⟨rfl, rfl⟩) rfl (by decide) (by decide) fun a b H1 s1 hc => ⟨rfl, x, a, b, s1, hc, rfl⟩
    rintro σ' H1 ⟨c, a, b, s1, hc, rfl⟩
    have hS1 := s1.seq hS
    -- the number
    refine ⟨fun σ' H' => ∃ m : Int, H' = H1 ∧ 0 ≤ m ∧ σ' = [some (.ref sc), some (.ref c), some (.int m), none, none, none, none, none, none, none], ?_, ?_⟩
    · exact ⟨_, rfl, sc, ns, 0, rfl, hS1, by decide, fun i0 => ⟨i0, 1, rfl, by decide, by decide, fun m m0 _ => ⟨m, rfl, m0, rfl⟩⟩⟩
    rintro σ' H1' ⟨m, rfl, m0, rfl⟩
    -- what is kept
    refine ⟨fun σ' H' => ∃ (kp : Addr) (ks : List Str), Same H1' H' ∧ SubS ks ∧ H' kp = some (.lst (ks.map V.str)) ∧ σ' = [some (.ref sc), some (.ref c), some (.int m), some (.ref kp), none, none, none, none, none, none], ?_, ?_⟩
    · refine ⟨rfl, fun l nl => ?_⟩
      have ul := Same.upd (o := .lst sigV) nl
      have el : upd H1' l (.lst sigV) l = some (.lst sigV) := upd_same
      generalize upd H1' l (.lst sigV) = G at ul el
      refine ⟨l, rfl, ⟨_, SqL.of el⟩, comp_gen (J := Ite K l) (n := 7) (fun i => decide (m / pw7 i % 2 = 1)) (fun i y _ => sigV[i]? = some y) (by decide) (fun _ _ _ _ _ _ h _ _ => h) (fun i H2 Qy Qn hi sm hy hn => ⟨⟨sigV, _, SqL.of (sm _ _ el), sig_at i hi⟩, fun x H3 yl => ?_⟩) (fun H2 sm => ⟨sigV, SqL.of (sm _ _ el), by decide⟩) (fun D' H' ys sm nD eD hlen hR => ?_)⟩
      · obtain ⟨t, y, rfl, nt, rfl, hy'⟩ := yl
        have ey := hy' _ (SqL.of (sm _ _ el))
        obtain ⟨ix, p1, p2⟩ := pw7_at i hi
        refine ⟨t, _, rfl, SqT.of upd_same, rfl, _, _, rfl, _, _, rfl, rfl, ?_⟩
        refine ⟨_, rfl, z14 (by simp), fun p np => ⟨_, rfl, p, _, _, _, rfl, rfl, SqL.of upd_same, atI_nat (j := i) ix, _, _, rfl, rfl, dv p1 p2, ?_⟩⟩
        refine ⟨_, _, rfl, rfl, (by decide : (0 : Int) < 2), rfl, _, rfl, iteD (fun h => ?_) (fun h => ?_)⟩
        · have h : m / pw7 i % 2 = 1 := V.int.inj h
          exact ⟨_, rfl, hy (decide_eq_true h) y _ ((Same.upd nt).trans (Same.upd np)) ey⟩
        · have h : ¬ m / pw7 i % 2 = 1 := fun e => h (congrArg V.int e)
          exact hn (decide_eq_false h) _ ((Same.upd nt).trans (Same.upd np))
      · exact ⟨D', _, ul.trans sm, pick_sub _, by rw [eD, pick_eq hlen hR], rfl⟩
    rintro σ' H2 ⟨kp, ks, s2, hk, ek, rfl⟩
    refine ⟨fun σ' H' => ∃ m2 : Int, H' = H2 ∧ σ' = [some (.ref sc), some (.ref c), some (.int m), some (.ref kp), some (.int m2), none, none, none, none, none], ?_, ?_⟩
    · exact ⟨_, rfl, _, _, rfl, rfl, dv (n := 128) (by decide) (by decide +kernel), _, rfl, rfl⟩
    rintro σ' H2' ⟨m2, rfl, rfl⟩
    refine ⟨fun σ' H' => ∃ (ua : Addr) (us : List Str), Same H2' H' ∧ SubS us ∧ H' ua = some (.lst (us.map V.str)) ∧ σ' = [some (.ref sc), some (.ref c), some (.int m), some (.ref kp), some (.int m2), some (.ref ua), none, none, none, none], ?_, ?_⟩
    · refine ⟨rfl, fun l nl => ?_⟩
      have ul := Same.upd (o := .lst sigV) nl
      have el : upd H2' l (.lst sigV) l = some (.lst sigV) := upd_same
      generalize upd H2' l (.lst sigV) = G at ul el
      refine ⟨l, rfl, ⟨_, SqL.of el⟩, comp_gen (J := Ite K l) (n := 7) (fun i => decide (m2 / pw7 i % 2 = 1)) (fun i y _ => sigV[i]? = some y) (by decide) (fun _ _ _ _ _ _ h _ _ => h) (fun i H2 Qy Qn hi sm hy hn => ⟨⟨sigV, _, SqL.of (sm _ _ el), sig_at i hi⟩, fun x H3 yl => ?_⟩) (fun H2 sm => ⟨sigV, SqL.of (sm _ _ el), by decide⟩) (fun D' H' ys sm nD eD hlen hR => ?_)⟩
      · obtain ⟨t, y, rfl, nt, rfl, hy'⟩ := yl
        have ey := hy' _ (SqL.of (sm _ _ el))
        obtain ⟨ix, p1, p2⟩ := pw7_at i hi
        refine ⟨t, _, rfl, SqT.of upd_same, rfl, _, _, rfl, _, _, rfl, rfl, ?_⟩
        refine ⟨_, rfl, z14 (by simp), fun p np => ⟨_, rfl, p, _, _, _, rfl, rfl, SqL.of upd_same, atI_nat (j := i) ix, _, _, rfl, rfl, dv p1 p2, ?_⟩⟩
        refine ⟨_, _, rfl, rfl, (by decide : (0 : Int) < 2), rfl, _, rfl, iteD (fun h => ?_) (fun h => ?_)⟩
        · have h : m2 / pw7 i % 2 = 1 := V.int.inj h
          exact ⟨_, rfl, hy (decide_eq_true h) y _ ((Same.upd nt).trans (Same.upd np)) ey⟩
        · have h : ¬ m2 / pw7 i % 2 = 1 := fun e => h (congrArg V.int e)
          exact hn (decide_eq_false h) _ ((Same.upd nt).trans (Same.upd np))
      · exact ⟨D', _, ul.trans sm, pick_sub _, by rw [eD, pick_eq hlen hR], rfl⟩
    rintro σ' H3 ⟨ua, us, s3, hu, eu, rfl⟩
    have s13 := s2.trans s3
    have c3 := hc.same s13
    have ek3 := s3 _ _ ek
    have hS3 := s13.seq hS1
    -- raised
    refine ⟨fun σ' H' => (∃ a' b', CtxAt CC H' c 9 .halfEven (-60) 60 a' b' (us.map V.str) []) ∧ SqL K H' sc (ns.map V.int) ∧ H' kp = some (.lst (ks.map V.str)) ∧ H' ua = some (.lst (us.map V.str)) ∧ σ' = [some (.ref sc), some (.ref c), some (.int m), some (.ref kp), some (.int m2), some (.ref ua), none, none, none, none], ?_, ?_⟩
    · obtain ⟨dx, ec⟩ := c3.ins
      refine ⟨_, rfl, c, dx, _, rfl, ec, ctx_no_raised _ _ _ _ _ _, _, rfl, ua, _, rfl, .inl (SqL.of eu), fun lp nlp => ?_⟩
      have ulp := Same.upd (o := .lst (us.map V.str)) nlp
      refine ⟨c, 9, .halfEven, -60, 60, a, b, [], [], _, rfl, c3.same ulp, by simp, .inl ⟨lp, us, rfl, upd_same, Nat.le_trans hu.len (by decide), hu.mem, fun hn a' H' x na hc' => ?_, fun t ht => by simp [hit] at ht⟩⟩
      have ec' := ulp _ _ ec
      have e0 : ordS ([] ++ us) = us := ordS_sub hu (by simp)
      rw [e0] at hc'
      exact ⟨⟨a', b, hc'⟩, seqExc (ulp.seq hS3) x ec', x _ _ (ulp _ _ ek3) (ne_of (ulp _ _ ek3) ec' (by intro z; cases z)), x _ _ (ulp _ _ eu) (ne_of (ulp _ _ eu) ec' (by intro z; cases z)), rfl⟩
    rintro σ' H4 ⟨⟨a4, b4, c4⟩, hS4, ek4, eu4, rfl⟩
    -- the first traps
    refine ⟨fun σ' H' => St8 K CC sc c kp ua ns ks us H' ∧ σ' = [some (.ref sc), some (.ref c), some (.int m), some (.ref kp), some (.int m2), some (.ref ua), none, none, none, none], ?_, ?_⟩
    · obtain ⟨dx, ec⟩ := c4.ins
      refine ⟨_, rfl, c, dx, _, rfl, ec, ctx_no_trap _ _ _ _ _ _, _, rfl, kp, _, rfl, SqL.of ek4, fun l1 n1 => ?_⟩
      have u1 := Same.upd (o := .lst (ks.map V.str).reverse) n1
      refine ⟨_, rfl, l1, kp, _, _, rfl, rfl, upd_same, u1 _ _ ek4, z14 (by have := hk.len; simp only [List.length_reverse, List.length_map]; omega), fun l2 n2 => ?_⟩
      have u2 := Same.upd (o := .lst ((ks.map V.str).reverse ++ ks.map V.str)) n2
      have e2 : upd (upd H4 l1 (.lst (ks.map V.str).reverse)) l2 (.lst ((ks.map V.str).reverse ++ ks.map V.str)) l2 = some (.lst ((ks.reverse ++ ks).map V.str)) := by rw [upd_same, List.map_append, List.map_reverse]
      have s12 := u1.trans u2
      refine ⟨c, 9, .halfEven, -60, 60, a4, b4, _, _, _, rfl, c4.same s12, .inl ⟨l2, ks.reverse ++ ks, rfl, e2, fun z hz => hk.mem z (by simpa using hz), fun b' H' x nb hc' => ?_⟩⟩
      have ec' := s12 _ _ ec
      have e0 : ordS (ks.reverse ++ ks) = ks := ordS_sub hk (by simp)
      rw [e0] at hc'
      refine ⟨rfl, _, rfl, ?_⟩
      have fin : St8 K CC sc c kp ua ns ks us H' := ⟨seqExc (s12.seq hS4) x ec', ⟨_, _, hc'⟩, x _ _ (s12 _ _ ek4) (ne_of (s12 _ _ ek4) ec' (by intro z; cases z)), x _ _ (s12 _ _ eu4) (ne_of (s12 _ _ eu4) ec' (by intro z; cases z))⟩
      exact iteF ⟨fin, rfl⟩
    rintro σ' H5 ⟨st5, rfl⟩
    clear hc c3 c4 ek ek3 ek4 eu eu4 hS3 hS4 s13 s2 s3 s1 hS1
    -- the turns
    refine ⟨fun σ' H' => ∃ kp ks, SubS ks ∧ St8 K CC sc c kp ua ns ks us H' ∧ ∃ v4 v6 v7 v8 v9, σ' = [some (.ref sc), some (.ref c), some (.int m), some (.ref kp), v4, some (.ref ua), v6, v7, v8, v9], ?_, ?_⟩
    · refine ⟨5, rfl, by decide, by decide, for_range (n := 5) (fun i σ' H' => ∃ kp ks, SubS ks ∧ St8 K CC sc c kp ua ns ks us H' ∧ ∃ v4 v6 v7 v8 v9, σ' = [some (.ref sc), some (.ref c), some (.int m), some (.ref kp), v4, some (.ref ua), v6, v7, v8, v9]) ⟨kp, ks, hk, st5, _, _, _, _, _, rfl⟩ ?_ ?_⟩
      · rintro i σ' H6 hi ⟨kp, ks, hk, st6, v4, v6, v7, v8, v9, rfl⟩
        refine ⟨fun σ' H' => ∃ m3 : Int, H' = H6 ∧ 0 ≤ m3 ∧ σ' = [some (.ref sc), some (.ref c), some (.int m), some (.ref kp), some (.int m3), some (.ref ua), some (.int (0 + (i : Int))), v7, v8, v9], ?_, ?_⟩
        · exact ⟨_, rfl, _, rfl, _, _, rfl, rfl, sc, ns, _, rfl, st6.s, (by show (0 : Int) ≤ 1 + (0 + (i : Int)); omega), fun i0 => ⟨_, rfl, _, _, rfl, rfl, i0, _, rfl, (by show (0 : Int) ≤ 2 + (0 + (i : Int)); omega), (by show 2 + (0 + (i : Int)) ≤ 100; omega), fun m3 m30 _ => ⟨m3, rfl, m30, rfl⟩⟩⟩
        rintro σ' H6' ⟨m3, rfl, m30, rfl⟩
        -- the names
        refine ⟨fun σ' H' => ∃ (na : Addr) (zs : List Str), Same H6' H' ∧ H' na = some (.lst (zs.map V.str)) ∧ (∀ z ∈ zs, z ∈ sigS) ∧ zs.length ≤ 2 ∧ σ' = [some (.ref sc), some (.ref c), some (.int m), some (.ref kp), some (.int m3), some (.ref ua), some (.int (0 + (i : Int))), some (.ref na), v8, v9], ?_, ?_⟩
        · refine ⟨rfl, fun l1 n1 => ?_⟩
          obtain ⟨z1, hz1, ix1⟩ := sigAt (n := m3 / 7)
          obtain ⟨z2, hz2, ix2⟩ := sigAt (n := m3 / 49)
          refine ⟨_, rfl, _, _, rfl, rfl, dv (n := 7) (by decide) (by decide +kernel), _, _, rfl, rfl, (by decide : (0 : Int) < 7), l1, _, _, _, rfl, rfl, SqL.of upd_same, ix1, rfl, fun l2 n2 => ?_⟩
          refine ⟨_, rfl, _, _, rfl, rfl, dv (n := 49) (by decide) (by decide +kernel), _, _, rfl, rfl, (by decide : (0 : Int) < 7), l2, _, _, _, rfl, rfl, SqL.of upd_same, ix2, z14 (by simp), fun l3 n3 => ?_⟩
          refine ⟨_, rfl, _, _, rfl, rfl, (by decide : (0 : Int) < 3), _, rfl, l3, _, rfl, SqL.of upd_same, fun na nn => ?_⟩
          have e3 := Int.emod_nonneg m3 (by decide : (3 : Int) ≠ 0)
          have e4 := Int.emod_lt_of_pos m3 (by decide : (0 : Int) < 3)
          have ec : cutV [.str z1, .str z2] none (some (m3 % 3)) = (([z1, z2] : List Str).take (m3 % 3).toNat).map V.str := by
            have := cutTo (zs := [z1, z2]) (n := (m3 % 3).toNat) (by show (m3 % 3).toNat ≤ 2; omega)
            rw [Int.toNat_of_nonneg e3] at this
            exact this
          refine ⟨na, ([z1, z2] : List Str).take (m3 % 3).toNat, ((Same.upd n1).trans (Same.upd n2)).trans ((Same.upd n3).trans (Same.upd nn)), ?_, fun z hz => ?_, List.length_take_le' _ _, rfl⟩
          · rw [upd_same]
            exact congrArg (fun x => some (HO.lst x)) ec
          · have hz := List.mem_of_mem_take hz
            rcases (by simpa using hz : z = z1 ∨ z = z2) with rfl | rfl
            · exact hz1
            · exact hz2
        rintro σ' H7 ⟨na, zs, s7, en, hz, lz, rfl⟩
        have st7 := st6.same s7
        -- what is odd
        refine ⟨fun σ' H' => ∃ (v : V) (d : PyData), Same H7 H' ∧ RdR H' v d ∧ ShowOk d ∧ NoSigs K H' v ∧ ((∃ p xs, v = .ref p ∧ H7 p = none ∧ H' p = some (.lst xs)) ∨ ∃ t, TyE K H' v t ∧ kitOne K t (.type "list") = some false) ∧ σ' = [some (.ref sc), some (.ref c), some (.int m), some (.ref kp), some (.int m3), some (.ref ua), some (.int (0 + (i : Int))), some (.ref na), some v, v9], ?_, ?_⟩
        · exact ⟨_, rfl, _, _, rfl, rfl, dv (n := 11) (by decide) (by decide +kernel), _, rfl, _, na, zs, rfl, en, hz, lz, fun v d H' s8 rd sh ns ky => ⟨v, d, s8, rd, sh, ns, ky, rfl⟩⟩
        rintro σ' H8 ⟨v, d, s8, rd, sh, nsg, ky, rfl⟩
        have st8 := st7.same s8
        have en8 := s8 _ _ en
        -- its shape
        refine ⟨fun σ' H' => H' = H8 ∧ σ' = [some (.ref sc), some (.ref c), some (.int m), some (.ref kp), some (.int m3), some (.ref ua), some (.int (0 + (i : Int))), some (.ref na), some v, some (.str d.shown)], ?_, ?_⟩
        · exact ⟨_, rfl, v, d, rfl, rd, sh, rfl, rfl⟩
        rintro σ' H8' ⟨rfl, rfl⟩
        -- it is refused, and stays
        refine ⟨fun σ' H' => Same H8' H' ∧ σ' = [some (.ref sc), some (.ref c), some (.int m), some (.ref kp), some (.int m3), some (.ref ua), some (.int (0 + (i : Int))), some (.ref na), some v, some (.str d.shown)], ?_, ?_⟩
        · obtain ⟨a8, b8, c8⟩ := st8.x
          refine ⟨_, rfl, _, rfl, c, 9, .halfEven, -60, 60, a8, b8, _, _, v, rfl, c8, .inr ⟨nsg, fun H9 s9 => ?_⟩⟩
          exact ⟨rfl, _, rfl, iteNS rfl ⟨_, rfl, v, d, rfl, rd.same s9, sh, _, rfl, rfl, _, rfl, iteNS rfl ⟨s9, rfl⟩⟩⟩
        rintro σ' H9 ⟨s9, rfl⟩
        have st9 := st8.same s9
        -- nothing has changed
        refine ⟨fun σ' H' => Same H9 H' ∧ σ' = [some (.ref sc), some (.ref c), some (.int m), some (.ref kp), some (.int m3), some (.ref ua), some (.int (0 + (i : Int))), some (.ref na), some v, some (.str d.shown)], ?_, ?_⟩
        · obtain ⟨a9, b9, c9⟩ := st9.x
          obtain ⟨dx, ec⟩ := c9.ins
          refine ⟨_, rfl, c, dx, _, rfl, ec, ctx_no_traps _ _ _ _ _ _, c, 9, .halfEven, -60, 60, a9, b9, _, _, rfl, c9, fun l1 n1 => ?_⟩
          have u1 := Same.upd (o := .lst (ks.map V.str)) n1
          refine ⟨_, rfl, rdS ks, rdS ks, rdS_at upd_same, rdS_at (u1 _ _ st9.k), shS hk.ok, shS hk.ok, _, rfl, ?_⟩
          rw [if_pos rfl, eqS]
          refine iteF ⟨_, rfl, c, dx, _, rfl, u1 _ _ ec, ctx_no_flags _ _ _ _ _ _, c, 9, .halfEven, -60, 60, a9, b9, _, _, rfl, c9.same u1, fun l2 n2 => ?_⟩
          have u2 := Same.upd (o := .lst (us.map V.str)) n2
          refine ⟨_, rfl, rdS us, rdS us, rdS_at upd_same, rdS_at (u2 _ _ (u1 _ _ st9.u)), shS hu.ok, shS hu.ok, _, rfl, ?_⟩
          rw [if_pos rfl, eqS]
          exact iteF ⟨u1.trans u2, rfl⟩
        rintro σ' H10 ⟨s10, rfl⟩
        have st10 := st9.same s10
        have s8t := s9.trans s10
        -- a list is mended, and taken
        refine ⟨_, ?_, fun _ _ h => h⟩
        rcases ky with ⟨p, xs, rfl, np, ep⟩ | ⟨t, ty, kt⟩
        · have ep10 := s8t _ _ ep
          refine ⟨_, rfl, _, _, _, _, true, rfl, rfl, tyLst ep10, T.list_list, _, rfl, iteT ?_⟩
          refine ⟨fun σ' H' => H' = upd H10 p (.lst []) ∧ σ' = [some (.ref sc), some (.ref c), some (.int m), some (.ref kp), some (.int m3), some (.ref ua), some (.int (0 + (i : Int))), some (.ref na), some (.ref p), some (.str d.shown)], ⟨_, rfl, .inl ⟨rfl, _, SqL.of ep10⟩, p, _, rfl, rfl, ep10, rfl, rfl⟩, ?_⟩
          rintro σ' H11 ⟨rfl, rfl⟩
          have s711 : Same H7 (upd H10 p (.lst [])) := fun b o hb => by rw [upd_ne (ne_of_none hb np)]; exact s8t _ _ (s8 _ _ hb)
          have ep11 : upd H10 p (.lst []) p = some (.lst []) := upd_same
          generalize upd H10 p (.lst []) = H11 at s711 ep11
          refine ⟨fun σ' H' => H' = upd H11 p (.lst ([] ++ zs.map V.str)) ∧ σ' = [some (.ref sc), some (.ref c), some (.int m), some (.ref kp), some (.int m3), some (.ref ua), some (.int (0 + (i : Int))), some (.ref na), some (.ref p), some (.str d.shown)], ?_, ?_⟩
          · exact ⟨_, rfl, .inl ⟨rfl, _, SqL.of ep11⟩, _, rfl, p, na, [], _, rfl, rfl, ep11, s711 _ _ en, z14 (by rw [List.length_map]; show 0 + zs.length ≤ 100; omega), rfl, rfl⟩
          rintro σ' H12 ⟨rfl, rfl⟩
          have s712 : Same H7 (upd H11 p (.lst ([] ++ zs.map V.str))) := fun b o hb => by rw [upd_ne (ne_of_none hb np)]; exact s711 _ _ hb
          have ep12 : upd H11 p (.lst ([] ++ zs.map V.str)) p = some (.lst (zs.map V.str)) := upd_same
          generalize upd H11 p (.lst ([] ++ zs.map V.str)) = H12 at s712 ep12
          have en12 := s712 _ _ en
          refine ⟨fun σ' H' => ∃ kp', Same H12 H' ∧ H' kp' = some (.lst ((ordS zs).map V.str)) ∧ σ' = [some (.ref sc), some (.ref c), some (.int m), some (.ref kp'), some (.int m3), some (.ref ua), some (.int (0 + (i : Int))), some (.ref na), some (.ref p), some (.str d.shown)], ?_, ?_⟩
          · refine ⟨rfl, fun l nl => ?_⟩
            have ul := Same.upd (o := .lst sigV) nl
            refine comp_lst (js := [7]) (σ := [some (.ref sc), some (.ref c), some (.int m), some (.ref kp), some (.int m3), some (.ref ua), some (.int (0 + (i : Int))), some (.ref na), some (.ref p), some (.str d.shown)]) (Q := fun v H' => ∃ kp', Same H12 H' ∧ H' kp' = some (.lst ((ordS zs).map V.str)) ∧ [some (.ref sc), some (.ref c), some (.int m), some v, some (.int m3), some (.ref ua), some (.int (0 + (i : Int))), some (.ref na), some (.ref p), some (.str d.shown)] = [some (.ref sc), some (.ref c), some (.int m), some (.ref kp'), some (.int m3), some (.ref ua), some (.int (0 + (i : Int))), some (.ref na), some (.ref p), some (.str d.shown)]) (zs := sigS) (f := fun z => zs.contains z) (σf := [some (.ref na)]) (SqL.of upd_same) (by decide) (fun z H' Qb sm q' => ?_) (fun z H' Qv q' => ⟨_, rfl, q'⟩) (fun D H' sm nd e => ⟨D, ul.trans sm, e, rfl⟩) rfl
            refine ⟨_, rfl, _, rfl, na, _, rfl, .inl ((ul.trans sm).seq (SqL.of en12)), rfl, flat_strs _, _, rfl, ?_⟩
            show Qb (inV (.str z) (zs.map V.str)) H'
            rw [inV_str]
            exact q'
          rintro σ' H13 ⟨kp', s13, ek13, rfl⟩
          have st13 := (st7.same s712).same s13
          have ep13 := s13 _ _ ep12
          refine ⟨_, ?_, fun _ _ h => h⟩
          obtain ⟨a13, b13, c13⟩ := st13.x
          obtain ⟨dx, ec⟩ := c13.ins
          refine ⟨_, rfl, _, rfl, c, 9, .halfEven, -60, 60, a13, b13, _, _, _, rfl, c13, .inl ⟨p, zs, rfl, ep13, hz, fun b' H14 x14 nb c14 => ?_⟩⟩
          have kp14 : ∀ {x : Addr} {l : List V}, H13 x = some (.lst l) → H14 x = some (.lst l) := fun {x l} ex => x14 _ _ ex (ne_of ex ec (by intro z; cases z))
          have st14 : St8 K CC sc c kp' ua ns (ordS zs) us H14 := ⟨seqExc st13.s x14 ec, ⟨_, _, c14⟩, kp14 ek13, kp14 st13.u⟩
          refine ⟨rfl, _, rfl, iteF ?_⟩
          obtain ⟨dx4, ec4⟩ := c14.ins
          refine ⟨_, rfl, c, dx4, _, rfl, ec4, ctx_no_traps _ _ _ _ _ _, c, 9, .halfEven, -60, 60, a13, b', _, _, rfl, c14, fun l1 n1 => ?_⟩
          have hk' := subS_ord zs
          have u1 := Same.upd (o := .lst ((ordS zs).map V.str)) n1
          refine ⟨_, rfl, rdS (ordS zs), rdS (ordS zs), rdS_at upd_same, rdS_at (u1 _ _ st14.k), shS hk'.ok, shS hk'.ok, _, rfl, ?_⟩
          rw [if_pos rfl, eqS]
          refine iteF ⟨_, rfl, c, dx4, _, rfl, u1 _ _ ec4, ctx_no_flags _ _ _ _ _ _, c, 9, .halfEven, -60, 60, a13, b', _, _, rfl, c14.same u1, fun l2 n2 => ?_⟩
          have u2 := Same.upd (o := .lst (us.map V.str)) n2
          refine ⟨_, rfl, rdS us, rdS us, rdS_at upd_same, rdS_at (u2 _ _ (u1 _ _ st14.u)), shS hu.ok, shS hu.ok, _, rfl, ?_⟩
          rw [if_pos rfl, eqS]
          exact iteF ⟨kp', ordS zs, hk', st14.same (u1.trans u2), _, _, _, _, _, rfl⟩
        · exact ⟨_, rfl, _, _, _, _, false, rfl, rfl, TyE.same ty s8t, kt, _, rfl, iteF ⟨kp, ks, hk, st10, _, _, _, _, _, rfl⟩⟩
      · rintro σ' H6 ⟨kp, ks, hk, st6, v4, v6, v7, v8, v9, rfl⟩
        exact ⟨kp, ks, hk, st6, _, _, _, _, _, rfl⟩
    rintro σ' H6 ⟨kp, ks, hk, st6, v4, v6, v7, v8, v9, rfl⟩
    obtain ⟨a6, b6, c6⟩ := st6.x
    obtain ⟨dx6, ec6⟩ := c6.ins
    refine ⟨fun σ' H' => (∃ a' b', CtxAt CC H' c 9 .halfEven (-60) 60 a' b' (us.map V.str) []) ∧ σ' = [some (.ref sc), some (.ref c), some (.int m), some (.ref kp), v4, some (.ref ua), v6, v7, v8, v9], ?_, ?_⟩
    · refine ⟨_, rfl, Nat.zero_le _, fun l1 n1 => ?_⟩
      have u1 := Same.upd (o := .lst []) n1
      refine ⟨c, 9, .halfEven, -60, 60, a6, b6, _, _, _, rfl, c6.same u1, .inl ⟨l1, [], rfl, upd_same, by simp, fun b' H7 x7 nb c7 => ⟨rfl, _, rfl, iteF ?_⟩⟩⟩
      rw [ordS_nil] at c7
      obtain ⟨dx7, ec7⟩ := c7.ins
      refine ⟨_, rfl, c, dx7, _, rfl, ec7, ctx_no_traps _ _ _ _ _ _, c, 9, .halfEven, -60, 60, a6, b', _, _, rfl, c7, fun l2 n2 => ⟨Nat.zero_le _, fun l3 n3 => ?_⟩⟩
      have u2 := Same.upd (o := .lst (([] : List Str).map V.str)) n2
      have u3 := Same.upd (o := .lst []) n3
      refine ⟨rdS [], rdS [], rdS_at (u3 _ _ upd_same), rdS_at upd_same, shS ⟨by simp, by simp⟩, shS ⟨by simp, by simp⟩, _, rfl, ?_⟩
      rw [if_pos rfl, eqS]
      exact iteF ⟨⟨a6, b', c7.same (u2.trans u3)⟩, rfl⟩
    rintro σ' H7 ⟨⟨a7, b7, c7⟩, rfl⟩
    obtain ⟨dx7, ec7⟩ := c7.ins
    refine ⟨_, rfl, c, dx7, _, rfl, ec7, ctx_no_raised _ _ _ _ _ _, rfl, fun l1 n1 => ?_⟩
    have u1 := Same.upd (o := .lst sigV) n1
    refine ⟨c, 9, .halfEven, -60, 60, a7, b7, us, [], _, rfl, c7.same u1, by have := hu.len; omega, .inl ⟨l1, sigS, rfl, upd_same, by decide, fun _ h => h, fun hn a' H8 x8 na c8 => ?_, fun t ht => by simp [hit] at ht⟩⟩
    have e0 : ordS (us ++ sigS) = sigS := ordS_sub sub_all fun z => ⟨fun h => (List.mem_append.mp h).elim (hu.mem z) id, fun h => List.mem_append.mpr (.inr h)⟩
    rw [e0] at c8
    obtain ⟨dx8, ec8⟩ := c8.ins
    refine ⟨rfl, _, rfl, iteDT rfl ⟨_, rfl, c, dx8, _, rfl, ec8, ctx_no_flags _ _ _ _ _ _, c, 9, .halfEven, -60, 60, a', b7, _, _, rfl, c8, fun l2 n2 => ⟨rfl, fun l3 n3 => ?_⟩⟩⟩
    have u3 := Same.upd (o := .lst sigV) n3
    refine ⟨rdS sigS, rdS sigS, rdS_at (u3 _ _ upd_same), rdS_at upd_same, shS sub_all.ok, shS sub_all.ok, ?_⟩
    rw [if_neg Bool.false_ne_true, eqS]
    exact kk _
end
end TR
set_option Elab.async false
set_option linter.all false
set_option maxRecDepth 100000
set_option maxHeartbeats 4000000
namespace TR
open PySem L2 PySem.W PyProof.Rows
theorem all_mk {l : OpenLaw} {w : World} {K : Frag} {h : Heap} {mg : Str → Option Value} {fa CW W0 f_name_W0 W1 f_name_W1 W2 f_name_W2 W3 f_name_W3 W4 f_name_W4 W5 f_name_W5 W6 f_name_W6 W7 f_name_W7 CC fI_CC aD_CC f_flags_CC f_traps_CC f_clear_CC f_trap_CC f_raised_CC C1 C2 C3 C4 C5 CR fX aS f_isb f_bounded f_wayof f_needs f_inord f_cell f_mixed f_signals f_word f_ltrap f_odd f_law : Addr} (X : K.In h) (G : h.Ns mainGlobals mg) (hfa : mg "law" = some (.ref fa))
    {od_isb an_isb : Option Addr} {sl_isb : Array (Option Value)} {oc_isb kV_isb dc_isb pm_isb cd_isb ct_isb : Value}
    (a_isb : nsIn K mainGlobals "is_between" = some (some (.ref f_isb))) (l_isb : K.lookup f_isb = some ⟨oc_isb, od_isb, .func (fnOf "is_between" "is_between" (defArgs sIsB) (defBody sIsB) (defScope sIsB) .none kV_isb dc_isb pm_isb an_isb cd_isb ct_isb), sl_isb⟩) (c_isb : codeIn K cd_isb "is_between" = true) (k_isb : keepIn K (.ref f_isb) = true)
    {od_bounded an_bounded : Option Addr} {sl_bounded : Array (Option Value)} {oc_bounded kV_bounded dc_bounded pm_bounded cd_bounded ct_bounded : Value}
    (a_bounded : nsIn K mainGlobals "bounded" = some (some (.ref f_bounded))) (l_bounded : K.lookup f_bounded = some ⟨oc_bounded, od_bounded, .func (fnOf "bounded" "bounded" (defArgs sBounded) (defBody sBounded) (defScope sBounded) .none kV_bounded dc_bounded pm_bounded an_bounded cd_bounded ct_bounded), sl_bounded⟩) (c_bounded : codeIn K cd_bounded "bounded" = true) (k_bounded : keepIn K (.ref f_bounded) = true)
    {od_wayof an_wayof : Option Addr} {sl_wayof : Array (Option Value)} {oc_wayof kV_wayof dc_wayof pm_wayof cd_wayof ct_wayof : Value}
    (a_wayof : nsIn K mainGlobals "way_of" = some (some (.ref f_wayof))) (l_wayof : K.lookup f_wayof = some ⟨oc_wayof, od_wayof, .func (fnOf "way_of" "way_of" (defArgs sWayOf) (defBody sWayOf) (defScope sWayOf) .none kV_wayof dc_wayof pm_wayof an_wayof cd_wayof ct_wayof), sl_wayof⟩) (c_wayof : codeIn K cd_wayof "way_of" = true) (k_wayof : keepIn K (.ref f_wayof) = true)
    {od_needs an_needs : Option Addr} {sl_needs : Array (Option Value)} {oc_needs kV_needs dc_needs pm_needs cd_needs ct_needs : Value}
    (a_needs : nsIn K mainGlobals "need_signals" = some (some (.ref f_needs))) (l_needs : K.lookup f_needs = some ⟨oc_needs, od_needs, .func (fnOf "need_signals" "need_signals" (defArgs sNeedS) (defBody sNeedS) (defScope sNeedS) .none kV_needs dc_needs pm_needs an_needs cd_needs ct_needs), sl_needs⟩) (c_needs : codeIn K cd_needs "need_signals" = true) (k_needs : keepIn K (.ref f_needs) = true)
    {od_inord an_inord : Option Addr} {sl_inord : Array (Option Value)} {oc_inord kV_inord dc_inord pm_inord cd_inord ct_inord : Value}
    (a_inord : nsIn K mainGlobals "in_order" = some (some (.ref f_inord))) (l_inord : K.lookup f_inord = some ⟨oc_inord, od_inord, .func (fnOf "in_order" "in_order" (defArgs sInOrd) (defBody sInOrd) (defScope sInOrd) .none kV_inord dc_inord pm_inord an_inord cd_inord ct_inord), sl_inord⟩) (c_inord : codeIn K cd_inord "in_order" = true) (k_inord : keepIn K (.ref f_inord) = true)
    {od_cell an_cell : Option Addr} {sl_cell : Array (Option Value)} {oc_cell kV_cell dc_cell pm_cell cd_cell ct_cell : Value}
    (a_cell : nsIn K mainGlobals "_law_cell_at" = some (some (.ref f_cell))) (l_cell : K.lookup f_cell = some ⟨oc_cell, od_cell, .func (fnOf "_law_cell_at" "_law_cell_at" (defArgs sCell) (defBody sCell) (defScope sCell) .none kV_cell dc_cell pm_cell an_cell cd_cell ct_cell), sl_cell⟩) (c_cell : codeIn K cd_cell "_law_cell_at" = true) (k_cell : keepIn K (.ref f_cell) = true)
    {od_mixed an_mixed : Option Addr} {sl_mixed : Array (Option Value)} {oc_mixed kV_mixed dc_mixed pm_mixed cd_mixed ct_mixed : Value}
    (a_mixed : nsIn K mainGlobals "_law_mixed" = some (some (.ref f_mixed))) (l_mixed : K.lookup f_mixed = some ⟨oc_mixed, od_mixed, .func (fnOf "_law_mixed" "_law_mixed" (defArgs sMixed) (defBody sMixed) (defScope sMixed) .none kV_mixed dc_mixed pm_mixed an_mixed cd_mixed ct_mixed), sl_mixed⟩) (c_mixed : codeIn K cd_mixed "_law_mixed" = true) (k_mixed : keepIn K (.ref f_mixed) = true)
    {od_signals an_signals : Option Addr} {sl_signals : Array (Option Value)} {oc_signals kV_signals dc_signals pm_signals cd_signals ct_signals : Value}
    (a_signals : nsIn K mainGlobals "_law_signals" = some (some (.ref f_signals))) (l_signals : K.lookup f_signals = some ⟨oc_signals, od_signals, .func (fnOf "_law_signals" "_law_signals" (defArgs sSignals) (defBody sSignals) (defScope sSignals) .none kV_signals dc_signals pm_signals an_signals cd_signals ct_signals), sl_signals⟩) (c_signals : codeIn K cd_signals "_law_signals" = true) (k_signals : keepIn K (.ref f_signals) = true)
    {od_word an_word : Option Addr} {sl_word : Array (Option Value)} {oc_word kV_word dc_word pm_word cd_word ct_word : Value}
    (a_word : nsIn K mainGlobals "_law_word" = some (some (.ref f_word))) (l_word : K.lookup f_word = some ⟨oc_word, od_word, .func (fnOf "_law_word" "_law_word" (defArgs sWord) (defBody sWord) (defScope sWord) .none kV_word dc_word pm_word an_word cd_word ct_word), sl_word⟩) (c_word : codeIn K cd_word "_law_word" = true) (k_word : keepIn K (.ref f_word) = true)
    {od_ltrap an_ltrap : Option Addr} {sl_ltrap : Array (Option Value)} {oc_ltrap kV_ltrap dc_ltrap pm_ltrap cd_ltrap ct_ltrap : Value}
    (a_ltrap : nsIn K mainGlobals "_law_trap" = some (some (.ref f_ltrap))) (l_ltrap : K.lookup f_ltrap = some ⟨oc_ltrap, od_ltrap, .func (fnOf "_law_trap" "_law_trap" (defArgs sLTrap) (defBody sLTrap) (defScope sLTrap) .none kV_ltrap dc_ltrap pm_ltrap an_ltrap cd_ltrap ct_ltrap), sl_ltrap⟩) (c_ltrap : codeIn K cd_ltrap "_law_trap" = true) (k_ltrap : keepIn K (.ref f_ltrap) = true)
    {od_odd an_odd : Option Addr} {sl_odd : Array (Option Value)} {oc_odd kV_odd dc_odd pm_odd cd_odd ct_odd : Value}
    (a_odd : nsIn K mainGlobals "_law_odd" = some (some (.ref f_odd))) (l_odd : K.lookup f_odd = some ⟨oc_odd, od_odd, .func (fnOf "_law_odd" "_law_odd" (defArgs sOdd) (defBody sOdd) (defScope sOdd) .none kV_odd dc_odd pm_odd an_odd cd_odd ct_odd), sl_odd⟩) (c_odd : codeIn K cd_odd "_law_odd" = true) (k_odd : keepIn K (.ref f_odd) = true)
    {od_law an_law : Option Addr} {sl_law : Array (Option Value)} {oc_law kV_law dc_law pm_law cd_law ct_law : Value}
    (a_law : nsIn K mainGlobals "law" = some (some (.ref f_law))) (l_law : K.lookup f_law = some ⟨oc_law, od_law, .func (fnOf "law" "law" (defArgs sLaw) (defBody sLaw) (defScope sLaw) .none kV_law dc_law pm_law an_law cd_law ct_law), sl_law⟩) (c_law : codeIn K cd_law "law" = true) (k_law : keepIn K (.ref f_law) = true)
    (z_isinstance : nsIn K mainGlobals "isinstance" = some none)
    (z_int : nsIn K mainGlobals "int" = some none)
    (z_bool : nsIn K mainGlobals "bool" = some none)
    (z_str : nsIn K mainGlobals "str" = some none)
    (z_list : nsIn K mainGlobals "list" = some none)
    (z_tuple : nsIn K mainGlobals "tuple" = some none)
    (z_dict : nsIn K mainGlobals "dict" = some none)
    (z_len : nsIn K mainGlobals "len" = some none)
    (z_range : nsIn K mainGlobals "range" = some none)
    (z_min : nsIn K mainGlobals "min" = some none)
    (z_max : nsIn K mainGlobals "max" = some none)
    (z_abs : nsIn K mainGlobals "abs" = some none)
    (z_any : nsIn K mainGlobals "any" = some none)
    (z_all : nsIn K mainGlobals "all" = some none)
    (z_sum : nsIn K mainGlobals "sum" = some none)
    (z_repr : nsIn K mainGlobals "repr" = some none)
    (z_enumerate : nsIn K mainGlobals "enumerate" = some none)
    (z_reversed : nsIn K mainGlobals "reversed" = some none)
    (z_zip : nsIn K mainGlobals "zip" = some none)
    (z_sorted : nsIn K mainGlobals "sorted" = some none)
    (z_divmod : nsIn K mainGlobals "divmod" = some none)
    (z_set : nsIn K mainGlobals "set" = some none)
    (z_ValueError : nsIn K mainGlobals "ValueError" = some none)
    (kt_int_int : kitOne K (.type "int") (.type "int") = some true)
    (kt_int_bool : kitOne K (.type "int") (.type "bool") = some false)
    (kt_int_str : kitOne K (.type "int") (.type "str") = some false)
    (kt_int_list : kitOne K (.type "int") (.type "list") = some false)
    (kt_int_tuple : kitOne K (.type "int") (.type "tuple") = some false)
    (kt_int_dict : kitOne K (.type "int") (.type "dict") = some false)
    (kt_bool_int : kitOne K (.type "bool") (.type "int") = some true)
    (kt_bool_bool : kitOne K (.type "bool") (.type "bool") = some true)
    (kt_bool_str : kitOne K (.type "bool") (.type "str") = some false)
    (kt_bool_list : kitOne K (.type "bool") (.type "list") = some false)
    (kt_bool_tuple : kitOne K (.type "bool") (.type "tuple") = some false)
    (kt_bool_dict : kitOne K (.type "bool") (.type "dict") = some false)
    (kt_str_int : kitOne K (.type "str") (.type "int") = some false)
    (kt_str_bool : kitOne K (.type "str") (.type "bool") = some false)
    (kt_str_str : kitOne K (.type "str") (.type "str") = some true)
    (kt_str_list : kitOne K (.type "str") (.type "list") = some false)
    (kt_str_tuple : kitOne K (.type "str") (.type "tuple") = some false)
    (kt_str_dict : kitOne K (.type "str") (.type "dict") = some false)
    (kt_list_int : kitOne K (.type "list") (.type "int") = some false)
    (kt_list_bool : kitOne K (.type "list") (.type "bool") = some false)
    (kt_list_str : kitOne K (.type "list") (.type "str") = some false)
    (kt_list_list : kitOne K (.type "list") (.type "list") = some true)
    (kt_list_tuple : kitOne K (.type "list") (.type "tuple") = some false)
    (kt_list_dict : kitOne K (.type "list") (.type "dict") = some false)
    (kt_tuple_int : kitOne K (.type "tuple") (.type "int") = some false)
    (kt_tuple_bool : kitOne K (.type "tuple") (.type "bool") = some false)
    (kt_tuple_str : kitOne K (.type "tuple") (.type "str") = some false)
    (kt_tuple_list : kitOne K (.type "tuple") (.type "list") = some false)
    (kt_tuple_tuple : kitOne K (.type "tuple") (.type "tuple") = some true)
    (kt_tuple_dict : kitOne K (.type "tuple") (.type "dict") = some false)
    (kt_dict_int : kitOne K (.type "dict") (.type "int") = some false)
    (kt_dict_bool : kitOne K (.type "dict") (.type "bool") = some false)
    (kt_dict_str : kitOne K (.type "dict") (.type "str") = some false)
    (kt_dict_list : kitOne K (.type "dict") (.type "list") = some false)
    (kt_dict_tuple : kitOne K (.type "dict") (.type "tuple") = some false)
    (kt_dict_dict : kitOne K (.type "dict") (.type "dict") = some true)
    (kt_NoneType_int : kitOne K (.type "NoneType") (.type "int") = some false)
    (kt_NoneType_bool : kitOne K (.type "NoneType") (.type "bool") = some false)
    (kt_NoneType_str : kitOne K (.type "NoneType") (.type "str") = some false)
    (kt_NoneType_list : kitOne K (.type "NoneType") (.type "list") = some false)
    (kt_NoneType_tuple : kitOne K (.type "NoneType") (.type "tuple") = some false)
    (kt_NoneType_dict : kitOne K (.type "NoneType") (.type "dict") = some false)
    (sn : specialIn K (.builtin "object.__class__") "__get__" = some (some (.builtin "getset_descriptor.__get__")))
    (tk : takesIn K (.builtin "object.__class__") = some true)
    (a_CW : nsIn K mainGlobals "Way" = some (some (.ref CW)))
    (a_W0 : nsIn K mainGlobals "Down" = some (some (.ref W0)))
    (pg_W0 : plainGet K W0 Str.empty = true)
    (hd_W0 : hasDictIn K W0 = true)
    (po_W0 : plainOver K W0 = true)
    (sa_W0 : findIn K (.ref W0) "__setattr__" = some (some (.builtin "object.__setattr__")))
    (mk_W0 : makesIn K W0 = true)
    (kc_W0 : keepIn K (.ref W0) = true)
    (ca_W0 : findIn K (.ref W0) "__class__" = some (some (.builtin "object.__class__")))
    (ob_W0 : mroIn K W0 (.type "object") = some true)
    (aI_W0 : findIn K (.ref W0) "__init__" = some (some (.builtin "object.__init__")))
    (up_W0 : kitOne K (.ref W0) (.ref CW) = some true)
    (m_name_W0 : findIn K (.ref W0) "name" = some (some (.ref f_name_W0)))
    (i_name_W0 : isFn K (.ref f_name_W0) = true)
    {od_name_W0 an_name_W0 : Option Addr} {sl_name_W0 : Array (Option Value)} {oc_name_W0 kV_name_W0 dc_name_W0 pm_name_W0 cd_name_W0 ct_name_W0 : Value} (l_name_W0 : K.lookup f_name_W0 = some ⟨oc_name_W0, od_name_W0, .func (fnOf "name" "Down.name" (defArgs sN0) (defBody sN0) (defScope sN0) .none kV_name_W0 dc_name_W0 pm_name_W0 an_name_W0 cd_name_W0 ct_name_W0), sl_name_W0⟩)
    (c_name_W0 : codeIn K cd_name_W0 "Down.name" = true)
    (k_name_W0 : keepIn K (.ref f_name_W0) = true)
    (a_W1 : nsIn K mainGlobals "Up" = some (some (.ref W1)))
    (pg_W1 : plainGet K W1 Str.empty = true)
    (hd_W1 : hasDictIn K W1 = true)
    (po_W1 : plainOver K W1 = true)
    (sa_W1 : findIn K (.ref W1) "__setattr__" = some (some (.builtin "object.__setattr__")))
    (mk_W1 : makesIn K W1 = true)
    (kc_W1 : keepIn K (.ref W1) = true)
    (ca_W1 : findIn K (.ref W1) "__class__" = some (some (.builtin "object.__class__")))
    (ob_W1 : mroIn K W1 (.type "object") = some true)
    (aI_W1 : findIn K (.ref W1) "__init__" = some (some (.builtin "object.__init__")))
    (up_W1 : kitOne K (.ref W1) (.ref CW) = some true)
    (m_name_W1 : findIn K (.ref W1) "name" = some (some (.ref f_name_W1)))
    (i_name_W1 : isFn K (.ref f_name_W1) = true)
    {od_name_W1 an_name_W1 : Option Addr} {sl_name_W1 : Array (Option Value)} {oc_name_W1 kV_name_W1 dc_name_W1 pm_name_W1 cd_name_W1 ct_name_W1 : Value} (l_name_W1 : K.lookup f_name_W1 = some ⟨oc_name_W1, od_name_W1, .func (fnOf "name" "Up.name" (defArgs sN1) (defBody sN1) (defScope sN1) .none kV_name_W1 dc_name_W1 pm_name_W1 an_name_W1 cd_name_W1 ct_name_W1), sl_name_W1⟩)
    (c_name_W1 : codeIn K cd_name_W1 "Up.name" = true)
    (k_name_W1 : keepIn K (.ref f_name_W1) = true)
    (a_W2 : nsIn K mainGlobals "Floor" = some (some (.ref W2)))
    (pg_W2 : plainGet K W2 Str.empty = true)
    (hd_W2 : hasDictIn K W2 = true)
    (po_W2 : plainOver K W2 = true)
    (sa_W2 : findIn K (.ref W2) "__setattr__" = some (some (.builtin "object.__setattr__")))
    (mk_W2 : makesIn K W2 = true)
    (kc_W2 : keepIn K (.ref W2) = true)
    (ca_W2 : findIn K (.ref W2) "__class__" = some (some (.builtin "object.__class__")))
    (ob_W2 : mroIn K W2 (.type "object") = some true)
    (aI_W2 : findIn K (.ref W2) "__init__" = some (some (.builtin "object.__init__")))
    (up_W2 : kitOne K (.ref W2) (.ref CW) = some true)
    (m_name_W2 : findIn K (.ref W2) "name" = some (some (.ref f_name_W2)))
    (i_name_W2 : isFn K (.ref f_name_W2) = true)
    {od_name_W2 an_name_W2 : Option Addr} {sl_name_W2 : Array (Option Value)} {oc_name_W2 kV_name_W2 dc_name_W2 pm_name_W2 cd_name_W2 ct_name_W2 : Value} (l_name_W2 : K.lookup f_name_W2 = some ⟨oc_name_W2, od_name_W2, .func (fnOf "name" "Floor.name" (defArgs sN2) (defBody sN2) (defScope sN2) .none kV_name_W2 dc_name_W2 pm_name_W2 an_name_W2 cd_name_W2 ct_name_W2), sl_name_W2⟩)
    (c_name_W2 : codeIn K cd_name_W2 "Floor.name" = true)
    (k_name_W2 : keepIn K (.ref f_name_W2) = true)
    (a_W3 : nsIn K mainGlobals "Ceiling" = some (some (.ref W3)))
    (pg_W3 : plainGet K W3 Str.empty = true)
    (hd_W3 : hasDictIn K W3 = true)
    (po_W3 : plainOver K W3 = true)
    (sa_W3 : findIn K (.ref W3) "__setattr__" = some (some (.builtin "object.__setattr__")))
    (mk_W3 : makesIn K W3 = true)
    (kc_W3 : keepIn K (.ref W3) = true)
    (ca_W3 : findIn K (.ref W3) "__class__" = some (some (.builtin "object.__class__")))
    (ob_W3 : mroIn K W3 (.type "object") = some true)
    (aI_W3 : findIn K (.ref W3) "__init__" = some (some (.builtin "object.__init__")))
    (up_W3 : kitOne K (.ref W3) (.ref CW) = some true)
    (m_name_W3 : findIn K (.ref W3) "name" = some (some (.ref f_name_W3)))
    (i_name_W3 : isFn K (.ref f_name_W3) = true)
    {od_name_W3 an_name_W3 : Option Addr} {sl_name_W3 : Array (Option Value)} {oc_name_W3 kV_name_W3 dc_name_W3 pm_name_W3 cd_name_W3 ct_name_W3 : Value} (l_name_W3 : K.lookup f_name_W3 = some ⟨oc_name_W3, od_name_W3, .func (fnOf "name" "Ceiling.name" (defArgs sN3) (defBody sN3) (defScope sN3) .none kV_name_W3 dc_name_W3 pm_name_W3 an_name_W3 cd_name_W3 ct_name_W3), sl_name_W3⟩)
    (c_name_W3 : codeIn K cd_name_W3 "Ceiling.name" = true)
    (k_name_W3 : keepIn K (.ref f_name_W3) = true)
    (a_W4 : nsIn K mainGlobals "HalfUp" = some (some (.ref W4)))
    (pg_W4 : plainGet K W4 Str.empty = true)
    (hd_W4 : hasDictIn K W4 = true)
    (po_W4 : plainOver K W4 = true)
    (sa_W4 : findIn K (.ref W4) "__setattr__" = some (some (.builtin "object.__setattr__")))
    (mk_W4 : makesIn K W4 = true)
    (kc_W4 : keepIn K (.ref W4) = true)
    (ca_W4 : findIn K (.ref W4) "__class__" = some (some (.builtin "object.__class__")))
    (ob_W4 : mroIn K W4 (.type "object") = some true)
    (aI_W4 : findIn K (.ref W4) "__init__" = some (some (.builtin "object.__init__")))
    (up_W4 : kitOne K (.ref W4) (.ref CW) = some true)
    (m_name_W4 : findIn K (.ref W4) "name" = some (some (.ref f_name_W4)))
    (i_name_W4 : isFn K (.ref f_name_W4) = true)
    {od_name_W4 an_name_W4 : Option Addr} {sl_name_W4 : Array (Option Value)} {oc_name_W4 kV_name_W4 dc_name_W4 pm_name_W4 cd_name_W4 ct_name_W4 : Value} (l_name_W4 : K.lookup f_name_W4 = some ⟨oc_name_W4, od_name_W4, .func (fnOf "name" "HalfUp.name" (defArgs sN4) (defBody sN4) (defScope sN4) .none kV_name_W4 dc_name_W4 pm_name_W4 an_name_W4 cd_name_W4 ct_name_W4), sl_name_W4⟩)
    (c_name_W4 : codeIn K cd_name_W4 "HalfUp.name" = true)
    (k_name_W4 : keepIn K (.ref f_name_W4) = true)
    (a_W5 : nsIn K mainGlobals "HalfDown" = some (some (.ref W5)))
    (pg_W5 : plainGet K W5 Str.empty = true)
    (hd_W5 : hasDictIn K W5 = true)
    (po_W5 : plainOver K W5 = true)
    (sa_W5 : findIn K (.ref W5) "__setattr__" = some (some (.builtin "object.__setattr__")))
    (mk_W5 : makesIn K W5 = true)
    (kc_W5 : keepIn K (.ref W5) = true)
    (ca_W5 : findIn K (.ref W5) "__class__" = some (some (.builtin "object.__class__")))
    (ob_W5 : mroIn K W5 (.type "object") = some true)
    (aI_W5 : findIn K (.ref W5) "__init__" = some (some (.builtin "object.__init__")))
    (up_W5 : kitOne K (.ref W5) (.ref CW) = some true)
    (m_name_W5 : findIn K (.ref W5) "name" = some (some (.ref f_name_W5)))
    (i_name_W5 : isFn K (.ref f_name_W5) = true)
    {od_name_W5 an_name_W5 : Option Addr} {sl_name_W5 : Array (Option Value)} {oc_name_W5 kV_name_W5 dc_name_W5 pm_name_W5 cd_name_W5 ct_name_W5 : Value} (l_name_W5 : K.lookup f_name_W5 = some ⟨oc_name_W5, od_name_W5, .func (fnOf "name" "HalfDown.name" (defArgs sN5) (defBody sN5) (defScope sN5) .none kV_name_W5 dc_name_W5 pm_name_W5 an_name_W5 cd_name_W5 ct_name_W5), sl_name_W5⟩)
    (c_name_W5 : codeIn K cd_name_W5 "HalfDown.name" = true)
    (k_name_W5 : keepIn K (.ref f_name_W5) = true)
    (a_W6 : nsIn K mainGlobals "HalfEven" = some (some (.ref W6)))
    (pg_W6 : plainGet K W6 Str.empty = true)
    (hd_W6 : hasDictIn K W6 = true)
    (po_W6 : plainOver K W6 = true)
    (sa_W6 : findIn K (.ref W6) "__setattr__" = some (some (.builtin "object.__setattr__")))
    (mk_W6 : makesIn K W6 = true)
    (kc_W6 : keepIn K (.ref W6) = true)
    (ca_W6 : findIn K (.ref W6) "__class__" = some (some (.builtin "object.__class__")))
    (ob_W6 : mroIn K W6 (.type "object") = some true)
    (aI_W6 : findIn K (.ref W6) "__init__" = some (some (.builtin "object.__init__")))
    (up_W6 : kitOne K (.ref W6) (.ref CW) = some true)
    (m_name_W6 : findIn K (.ref W6) "name" = some (some (.ref f_name_W6)))
    (i_name_W6 : isFn K (.ref f_name_W6) = true)
    {od_name_W6 an_name_W6 : Option Addr} {sl_name_W6 : Array (Option Value)} {oc_name_W6 kV_name_W6 dc_name_W6 pm_name_W6 cd_name_W6 ct_name_W6 : Value} (l_name_W6 : K.lookup f_name_W6 = some ⟨oc_name_W6, od_name_W6, .func (fnOf "name" "HalfEven.name" (defArgs sN6) (defBody sN6) (defScope sN6) .none kV_name_W6 dc_name_W6 pm_name_W6 an_name_W6 cd_name_W6 ct_name_W6), sl_name_W6⟩)
    (c_name_W6 : codeIn K cd_name_W6 "HalfEven.name" = true)
    (k_name_W6 : keepIn K (.ref f_name_W6) = true)
    (a_W7 : nsIn K mainGlobals "FiveUp" = some (some (.ref W7)))
    (pg_W7 : plainGet K W7 Str.empty = true)
    (hd_W7 : hasDictIn K W7 = true)
    (po_W7 : plainOver K W7 = true)
    (sa_W7 : findIn K (.ref W7) "__setattr__" = some (some (.builtin "object.__setattr__")))
    (mk_W7 : makesIn K W7 = true)
    (kc_W7 : keepIn K (.ref W7) = true)
    (ca_W7 : findIn K (.ref W7) "__class__" = some (some (.builtin "object.__class__")))
    (ob_W7 : mroIn K W7 (.type "object") = some true)
    (aI_W7 : findIn K (.ref W7) "__init__" = some (some (.builtin "object.__init__")))
    (up_W7 : kitOne K (.ref W7) (.ref CW) = some true)
    (m_name_W7 : findIn K (.ref W7) "name" = some (some (.ref f_name_W7)))
    (i_name_W7 : isFn K (.ref f_name_W7) = true)
    {od_name_W7 an_name_W7 : Option Addr} {sl_name_W7 : Array (Option Value)} {oc_name_W7 kV_name_W7 dc_name_W7 pm_name_W7 cd_name_W7 ct_name_W7 : Value} (l_name_W7 : K.lookup f_name_W7 = some ⟨oc_name_W7, od_name_W7, .func (fnOf "name" "FiveUp.name" (defArgs sN7) (defBody sN7) (defScope sN7) .none kV_name_W7 dc_name_W7 pm_name_W7 an_name_W7 cd_name_W7 ct_name_W7), sl_name_W7⟩)
    (c_name_W7 : codeIn K cd_name_W7 "FiveUp.name" = true)
    (k_name_W7 : keepIn K (.ref f_name_W7) = true)
    (a_CC : nsIn K mainGlobals "Context" = some (some (.ref CC)))
    (pg_CC : plainGet K CC Str.empty = true)
    (hd_CC : hasDictIn K CC = true)
    (po_CC : plainOver K CC = true)
    (sa_CC : findIn K (.ref CC) "__setattr__" = some (some (.builtin "object.__setattr__")))
    (mk_CC : makesIn K CC = true)
    (kc_CC : keepIn K (.ref CC) = true)
    (n_CC_room : findIn K (.ref CC) "room" = some none)
    (n_CC_rule : findIn K (.ref CC) "rule" = some none)
    (n_CC_least : findIn K (.ref CC) "least" = some none)
    (n_CC_most : findIn K (.ref CC) "most" = some none)
    (n_CC_risen : findIn K (.ref CC) "risen" = some none)
    (n_CC_trapped : findIn K (.ref CC) "trapped" = some none)
    (aI_CC : findIn K (.ref CC) "__init__" = some (some (.ref fI_CC)))
    (iI_CC : isFn K (.ref fI_CC) = true)
    {od_iCC an_iCC : Option Addr} {sl_iCC : Array (Option Value)} {oc_iCC kV_iCC dc_iCC pm_iCC cd_iCC ct_iCC : Value} (l_iCC : K.lookup fI_CC = some ⟨oc_iCC, od_iCC, .func (fnOf "__init__" "Context.__init__" (defArgs sCtxInit) (defBody sCtxInit) (defScope sCtxInit) (.ref aD_CC) kV_iCC dc_iCC pm_iCC an_iCC cd_iCC ct_iCC), sl_iCC⟩)
    (c_iCC : codeIn K cd_iCC "Context.__init__" = true)
    (k_iCC : keepIn K (.ref fI_CC) = true)
    {t0_CC t1_CC t3_CC : Tok} {nD_CC : Nat} {odD_CC : Option Addr} {ocD_CC : Value} {slD_CC : Array (Option Value)} (lD_CC : K.lookup aD_CC = some ⟨ocD_CC, odD_CC, .seq #[.int 9 t0_CC, .str "half even" t1_CC, .none, .int 60 t3_CC] nD_CC, slD_CC⟩)
    (m_flags_CC : findIn K (.ref CC) "flags" = some (some (.ref f_flags_CC)))
    (i_flags_CC : isFn K (.ref f_flags_CC) = true)
    {od_flags_CC an_flags_CC : Option Addr} {sl_flags_CC : Array (Option Value)} {oc_flags_CC kV_flags_CC dc_flags_CC pm_flags_CC cd_flags_CC ct_flags_CC : Value} (l_flags_CC : K.lookup f_flags_CC = some ⟨oc_flags_CC, od_flags_CC, .func (fnOf "flags" "Context.flags" (defArgs sCtxFlags) (defBody sCtxFlags) (defScope sCtxFlags) .none kV_flags_CC dc_flags_CC pm_flags_CC an_flags_CC cd_flags_CC ct_flags_CC), sl_flags_CC⟩)
    (c_flags_CC : codeIn K cd_flags_CC "Context.flags" = true)
    (k_flags_CC : keepIn K (.ref f_flags_CC) = true)
    (m_traps_CC : findIn K (.ref CC) "traps" = some (some (.ref f_traps_CC)))
    (i_traps_CC : isFn K (.ref f_traps_CC) = true)
    {od_traps_CC an_traps_CC : Option Addr} {sl_traps_CC : Array (Option Value)} {oc_traps_CC kV_traps_CC dc_traps_CC pm_traps_CC cd_traps_CC ct_traps_CC : Value} (l_traps_CC : K.lookup f_traps_CC = some ⟨oc_traps_CC, od_traps_CC, .func (fnOf "traps" "Context.traps" (defArgs sCtxTraps) (defBody sCtxTraps) (defScope sCtxTraps) .none kV_traps_CC dc_traps_CC pm_traps_CC an_traps_CC cd_traps_CC ct_traps_CC), sl_traps_CC⟩)
    (c_traps_CC : codeIn K cd_traps_CC "Context.traps" = true)
    (k_traps_CC : keepIn K (.ref f_traps_CC) = true)
    (m_clear_CC : findIn K (.ref CC) "clear" = some (some (.ref f_clear_CC)))
    (i_clear_CC : isFn K (.ref f_clear_CC) = true)
    {od_clear_CC an_clear_CC : Option Addr} {sl_clear_CC : Array (Option Value)} {oc_clear_CC kV_clear_CC dc_clear_CC pm_clear_CC cd_clear_CC ct_clear_CC : Value} (l_clear_CC : K.lookup f_clear_CC = some ⟨oc_clear_CC, od_clear_CC, .func (fnOf "clear" "Context.clear" (defArgs sCtxClear) (defBody sCtxClear) (defScope sCtxClear) .none kV_clear_CC dc_clear_CC pm_clear_CC an_clear_CC cd_clear_CC ct_clear_CC), sl_clear_CC⟩)
    (c_clear_CC : codeIn K cd_clear_CC "Context.clear" = true)
    (k_clear_CC : keepIn K (.ref f_clear_CC) = true)
    (m_trap_CC : findIn K (.ref CC) "trap" = some (some (.ref f_trap_CC)))
    (i_trap_CC : isFn K (.ref f_trap_CC) = true)
    {od_trap_CC an_trap_CC : Option Addr} {sl_trap_CC : Array (Option Value)} {oc_trap_CC kV_trap_CC dc_trap_CC pm_trap_CC cd_trap_CC ct_trap_CC : Value} (l_trap_CC : K.lookup f_trap_CC = some ⟨oc_trap_CC, od_trap_CC, .func (fnOf "trap" "Context.trap" (defArgs sCtxTrap) (defBody sCtxTrap) (defScope sCtxTrap) .none kV_trap_CC dc_trap_CC pm_trap_CC an_trap_CC cd_trap_CC ct_trap_CC), sl_trap_CC⟩)
    (c_trap_CC : codeIn K cd_trap_CC "Context.trap" = true)
    (k_trap_CC : keepIn K (.ref f_trap_CC) = true)
    (m_raised_CC : findIn K (.ref CC) "raised" = some (some (.ref f_raised_CC)))
    (i_raised_CC : isFn K (.ref f_raised_CC) = true)
    {od_raised_CC an_raised_CC : Option Addr} {sl_raised_CC : Array (Option Value)} {oc_raised_CC kV_raised_CC dc_raised_CC pm_raised_CC cd_raised_CC ct_raised_CC : Value} (l_raised_CC : K.lookup f_raised_CC = some ⟨oc_raised_CC, od_raised_CC, .func (fnOf "raised" "Context.raised" (defArgs sCtxRaised) (defBody sCtxRaised) (defScope sCtxRaised) .none kV_raised_CC dc_raised_CC pm_raised_CC an_raised_CC cd_raised_CC ct_raised_CC), sl_raised_CC⟩)
    (c_raised_CC : codeIn K cd_raised_CC "Context.raised" = true)
    (k_raised_CC : keepIn K (.ref f_raised_CC) = true)
    (a_C1 : nsIn K mainGlobals "BadContext" = some (some (.ref C1)))
    (a_C2 : nsIn K mainGlobals "BadNumber" = some (some (.ref C2)))
    (a_C3 : nsIn K mainGlobals "NoText" = some (some (.ref C3)))
    (a_C4 : nsIn K mainGlobals "BadCount" = some (some (.ref C4)))
    (a_C5 : nsIn K mainGlobals "Trapped" = some (some (.ref C5)))
    (a_CR : nsIn K mainGlobals "ReckonError" = some (some (.ref CR)))
    (cty : typeIn K (.ref CR) = some (.type "type"))
    {dR : ClassData} (ccl : clsIn K CR = some dR)
    (cex : subIn K (.ref CR) (.type "BaseException") = some true)
    (q1 : excIn K C1 [.type "ValueError", .type "Exception", .type "BaseException", .type "object"] "ValueError.__new__" = true)
    (sub1 : subIn K (.ref C1) (.ref CR) = some true)
    (xga1 : findIn K (.ref C1) "__getattribute__" = some (some (.builtin "BaseException.__getattribute__")))
    (xgh1 : findIn K (.ref C1) "__getattr__" = some none)
    (xca1 : findIn K (.ref C1) "__class__" = some (some (.builtin "object.__class__")))
    (xob1 : mroIn K C1 (.type "object") = some true)
    (xbe1 : subIn K (.ref C1) (.type "BaseException") = some true)
    {d1 : ClassData} (xcl1 : clsIn K C1 = some d1)
    (h1_1 : kitOne K (.ref C1) (.ref C1) = some true)
    (h1_2 : kitOne K (.ref C1) (.ref C2) = some false)
    (h1_3 : kitOne K (.ref C1) (.ref C3) = some false)
    (h1_4 : kitOne K (.ref C1) (.ref C4) = some false)
    (h1_5 : kitOne K (.ref C1) (.ref C5) = some false)
    (hv1 : kitOne K (.ref C1) (.type "ValueError") = some true)
    (sub5 : subIn K (.ref C5) (.ref CR) = some true)
    (xga5 : findIn K (.ref C5) "__getattribute__" = some (some (.builtin "BaseException.__getattribute__")))
    (xgh5 : findIn K (.ref C5) "__getattr__" = some none)
    (xca5 : findIn K (.ref C5) "__class__" = some (some (.builtin "object.__class__")))
    (xob5 : mroIn K C5 (.type "object") = some true)
    (xbe5 : subIn K (.ref C5) (.type "BaseException") = some true)
    {d5 : ClassData} (xcl5 : clsIn K C5 = some d5)
    (h5_1 : kitOne K (.ref C5) (.ref C1) = some false)
    (h5_2 : kitOne K (.ref C5) (.ref C2) = some false)
    (h5_3 : kitOne K (.ref C5) (.ref C3) = some false)
    (h5_4 : kitOne K (.ref C5) (.ref C4) = some false)
    (h5_5 : kitOne K (.ref C5) (.ref C5) = some true)
    (hv5 : kitOne K (.ref C5) (.type "ValueError") = some true)
    {nmT qT : Str} {NT : Addr} {bsT bmT : List Value} {snT : List Str} {suT : List Value} {abT : Bool} {coT : Option Bool} {ddT : Option Addr} {kT0 kT1 kT2 kT3 kT5 : Option Value} (lT : K.lookup C5 = some (excClassObj nmT qT C5 NT bsT bmT true snT suT abT coT ddT kT0 kT1 kT2 kT3 kT5 "ValueError.__new__"))
    {ocN : Value} {odN : Option Addr} {esN : Array DictEntry} {epN : Nat} {slN : Array (Option Value)} (lN : K.lookup NT = some ⟨ocN, odN, .dict esN epN, slN⟩)
    (alN : (esN.all fun e => match e.key with | .str _ _ => true | _ => false) = true)
    (niT : nsIn K NT "__init__" = some (some (.ref fX)))
    {nmU qU : Str} {NU : Addr} {bsU : List Value} {snU : List Str} {suU : List Value} {abU : Bool} {coU : Option Bool} {ddU : Option Addr} {kU0 kU1 kU2 kU3 kU5 : Option Value} (lT1 : K.lookup C1 = some (excClassObj nmU qU C1 NU bsU bmT true snU suU abU coU ddU kU0 kU1 kU2 kU3 kU5 "ValueError.__new__"))
    (saT : findIn K (.ref C5) "__setattr__" = some (some (.builtin "object.__setattr__")))
    (nsg5 : findIn K (.ref C5) "signal" = some none)
    {od_iT an_iT : Option Addr} {sl_iT : Array (Option Value)} {oc_iT kV_iT dc_iT pm_iT cd_iT ct_iT : Value} (l_iT : K.lookup fX = some ⟨oc_iT, od_iT, .func (fnOf "__init__" "Trapped.__init__" (defArgs sTrInit) (defBody sTrInit) (defScope sTrInit) .none kV_iT dc_iT pm_iT an_iT cd_iT ct_iT), sl_iT⟩)
    (c_iT : codeIn K cd_iT "Trapped.__init__" = true)
    (k_iT : keepIn K (.ref fX) = true)
    (fcT : oc_iT = .type "function")
    (kTR : kitOne K (.ref C5) (.ref CR) = some true)
    (a_S : nsIn K mainGlobals "SIGNALS" = some (some (.ref aS)))
    {u0 u1 u2 u3 u4 u5 u6 : Tok} {nS : Nat} {odS : Option Addr} {slS : Array (Option Value)} (lS : K.lookup aS = some ⟨.type "tuple", odS, .seq #[.str "void" u0, .str "split" u1, .str "burst" u2, .str "sunk" u3, .str "faint" u4, .str "off" u5, .str "cut" u6] nS, slS⟩) :
    ∃ fd : FuncData, (∀ (s : Shared) (v : Value), BindsTo s fd ⟨[v], []⟩ [("_law_script", v)]) ∧ ∀ base : Heap, K.In base → base.Ns mainGlobals mg → FnOkG l.prog w K mg base (CX1 l.prog w) 6 fa fd ["_law_script"] (spLaw K) := by
  have e := hfa.symm.trans (mg_of X G a_law)
  cases e
  have D_isb := def_mk (ps := ["thing", "least", "most"]) (st := sIsB) X G a_isb l_isb c_isb k_isb fun _ _ _ _ _ _ us hl => match us, hl with | [_, _, _], _ => rfl
  have D_bounded := def_mk (ps := ["thing", "least", "most"]) (st := sBounded) X G a_bounded l_bounded c_bounded k_bounded fun _ _ _ _ _ _ us hl => match us, hl with | [_, _, _], _ => rfl
  have D_wayof := def_mk (ps := ["name"]) (st := sWayOf) X G a_wayof l_wayof c_wayof k_wayof fun _ _ _ _ _ _ us hl => match us, hl with | [_], _ => rfl
  have D_needs := def_mk (ps := ["names"]) (st := sNeedS) X G a_needs l_needs c_needs k_needs fun _ _ _ _ _ _ us hl => match us, hl with | [_], _ => rfl
  have D_inord := def_mk (ps := ["names"]) (st := sInOrd) X G a_inord l_inord c_inord k_inord fun _ _ _ _ _ _ us hl => match us, hl with | [_], _ => rfl
  have D_cell := def_mk (ps := ["_law_script", "_law_k"]) (st := sCell) X G a_cell l_cell c_cell k_cell fun _ _ _ _ _ _ us hl => match us, hl with | [_, _], _ => rfl
  have D_mixed := def_mk (ps := ["_law_cell", "_law_k"]) (st := sMixed) X G a_mixed l_mixed c_mixed k_mixed fun _ _ _ _ _ _ us hl => match us, hl with | [_, _], _ => rfl
  have D_signals := def_mk (ps := []) (st := sSignals) X G a_signals l_signals c_signals k_signals fun _ _ _ _ _ _ us hl => match us, hl with | [], _ => rfl
  have D_word := def_mk (ps := ["_law_e"]) (st := sWord) X G a_word l_word c_word k_word fun _ _ _ _ _ _ us hl => match us, hl with | [_], _ => rfl
  have D_ltrap := def_mk (ps := ["_law_context", "_law_names"]) (st := sLTrap) X G a_ltrap l_ltrap c_ltrap k_ltrap fun _ _ _ _ _ _ us hl => match us, hl with | [_, _], _ => rfl
  have D_odd := def_mk (ps := ["_law_number", "_law_names"]) (st := sOdd) X G a_odd l_odd c_odd k_odd fun _ _ _ _ _ _ us hl => match us, hl with | [_, _], _ => rfl
  have D_law := def_mk (ps := ["_law_script"]) (st := sLaw) X G a_law l_law c_law k_law fun _ _ _ _ _ _ us hl => match us, hl with | [_], _ => rfl
  have O : Own mg := ⟨mg_none_of X G z_isinstance, mg_none_of X G z_int, mg_none_of X G z_bool, mg_none_of X G z_str, mg_none_of X G z_list, mg_none_of X G z_tuple, mg_none_of X G z_dict, mg_none_of X G z_len, mg_none_of X G z_range, mg_none_of X G z_min, mg_none_of X G z_max, mg_none_of X G z_abs, mg_none_of X G z_any, mg_none_of X G z_all, mg_none_of X G z_sum, mg_none_of X G z_repr, mg_none_of X G z_enumerate, mg_none_of X G z_reversed, mg_none_of X G z_zip, mg_none_of X G z_sorted, mg_none_of X G z_divmod, mg_none_of X G z_set, mg_none_of X G z_ValueError⟩
  have T : Kit K := ⟨kt_int_int, kt_int_bool, kt_int_str, kt_int_list, kt_int_tuple, kt_int_dict, kt_bool_int, kt_bool_bool, kt_bool_str, kt_bool_list, kt_bool_tuple, kt_bool_dict, kt_str_int, kt_str_bool, kt_str_str, kt_str_list, kt_str_tuple, kt_str_dict, kt_list_int, kt_list_bool, kt_list_str, kt_list_list, kt_list_tuple, kt_list_dict, kt_tuple_int, kt_tuple_bool, kt_tuple_str, kt_tuple_list, kt_tuple_tuple, kt_tuple_dict, kt_dict_int, kt_dict_bool, kt_dict_str, kt_dict_list, kt_dict_tuple, kt_dict_dict, kt_NoneType_int, kt_NoneType_bool, kt_NoneType_str, kt_NoneType_list, kt_NoneType_tuple, kt_NoneType_dict⟩
  have cl_W0 : Cls K W0 := ⟨pg_W0, hd_W0, po_W0, sa_W0⟩
  have M0_W0 : Mk0 K W0 := ⟨mk_W0, aI_W0, kc_W0⟩
  have F_name_W0 := fun_mk (st := sN0) l_name_W0 c_name_W0 k_name_W0
  have b_name_W0 := F_name_W0.binds (ps := ["self"]) fun _ _ _ _ _ _ us hl => match us, hl with | [_], _ => rfl
  have me_name_W0 : Meth K W0 "name" f_name_W0 := ⟨m_name_W0, i_name_W0, k_name_W0⟩
  have WC0 : WayC K mg "Down" W0 CW := ⟨mg_of X G a_W0, cl_W0, M0_W0, ca_W0, sn, tk, ob_W0, up_W0⟩
  have cl_W1 : Cls K W1 := ⟨pg_W1, hd_W1, po_W1, sa_W1⟩
  have M0_W1 : Mk0 K W1 := ⟨mk_W1, aI_W1, kc_W1⟩
  have F_name_W1 := fun_mk (st := sN1) l_name_W1 c_name_W1 k_name_W1
  have b_name_W1 := F_name_W1.binds (ps := ["self"]) fun _ _ _ _ _ _ us hl => match us, hl with | [_], _ => rfl
  have me_name_W1 : Meth K W1 "name" f_name_W1 := ⟨m_name_W1, i_name_W1, k_name_W1⟩
  have WC1 : WayC K mg "Up" W1 CW := ⟨mg_of X G a_W1, cl_W1, M0_W1, ca_W1, sn, tk, ob_W1, up_W1⟩
  have cl_W2 : Cls K W2 := ⟨pg_W2, hd_W2, po_W2, sa_W2⟩
  have M0_W2 : Mk0 K W2 := ⟨mk_W2, aI_W2, kc_W2⟩
  have F_name_W2 := fun_mk (st := sN2) l_name_W2 c_name_W2 k_name_W2
  have b_name_W2 := F_name_W2.binds (ps := ["self"]) fun _ _ _ _ _ _ us hl => match us, hl with | [_], _ => rfl
  have me_name_W2 : Meth K W2 "name" f_name_W2 := ⟨m_name_W2, i_name_W2, k_name_W2⟩
  have WC2 : WayC K mg "Floor" W2 CW := ⟨mg_of X G a_W2, cl_W2, M0_W2, ca_W2, sn, tk, ob_W2, up_W2⟩
  have cl_W3 : Cls K W3 := ⟨pg_W3, hd_W3, po_W3, sa_W3⟩
  have M0_W3 : Mk0 K W3 := ⟨mk_W3, aI_W3, kc_W3⟩
  have F_name_W3 := fun_mk (st := sN3) l_name_W3 c_name_W3 k_name_W3
  have b_name_W3 := F_name_W3.binds (ps := ["self"]) fun _ _ _ _ _ _ us hl => match us, hl with | [_], _ => rfl
  have me_name_W3 : Meth K W3 "name" f_name_W3 := ⟨m_name_W3, i_name_W3, k_name_W3⟩
  have WC3 : WayC K mg "Ceiling" W3 CW := ⟨mg_of X G a_W3, cl_W3, M0_W3, ca_W3, sn, tk, ob_W3, up_W3⟩
  have cl_W4 : Cls K W4 := ⟨pg_W4, hd_W4, po_W4, sa_W4⟩
  have M0_W4 : Mk0 K W4 := ⟨mk_W4, aI_W4, kc_W4⟩
  have F_name_W4 := fun_mk (st := sN4) l_name_W4 c_name_W4 k_name_W4
  have b_name_W4 := F_name_W4.binds (ps := ["self"]) fun _ _ _ _ _ _ us hl => match us, hl with | [_], _ => rfl
  have me_name_W4 : Meth K W4 "name" f_name_W4 := ⟨m_name_W4, i_name_W4, k_name_W4⟩
  have WC4 : WayC K mg "HalfUp" W4 CW := ⟨mg_of X G a_W4, cl_W4, M0_W4, ca_W4, sn, tk, ob_W4, up_W4⟩
  have cl_W5 : Cls K W5 := ⟨pg_W5, hd_W5, po_W5, sa_W5⟩
  have M0_W5 : Mk0 K W5 := ⟨mk_W5, aI_W5, kc_W5⟩
  have F_name_W5 := fun_mk (st := sN5) l_name_W5 c_name_W5 k_name_W5
  have b_name_W5 := F_name_W5.binds (ps := ["self"]) fun _ _ _ _ _ _ us hl => match us, hl with | [_], _ => rfl
  have me_name_W5 : Meth K W5 "name" f_name_W5 := ⟨m_name_W5, i_name_W5, k_name_W5⟩
  have WC5 : WayC K mg "HalfDown" W5 CW := ⟨mg_of X G a_W5, cl_W5, M0_W5, ca_W5, sn, tk, ob_W5, up_W5⟩
  have cl_W6 : Cls K W6 := ⟨pg_W6, hd_W6, po_W6, sa_W6⟩
  have M0_W6 : Mk0 K W6 := ⟨mk_W6, aI_W6, kc_W6⟩
  have F_name_W6 := fun_mk (st := sN6) l_name_W6 c_name_W6 k_name_W6
  have b_name_W6 := F_name_W6.binds (ps := ["self"]) fun _ _ _ _ _ _ us hl => match us, hl with | [_], _ => rfl
  have me_name_W6 : Meth K W6 "name" f_name_W6 := ⟨m_name_W6, i_name_W6, k_name_W6⟩
  have WC6 : WayC K mg "HalfEven" W6 CW := ⟨mg_of X G a_W6, cl_W6, M0_W6, ca_W6, sn, tk, ob_W6, up_W6⟩
  have cl_W7 : Cls K W7 := ⟨pg_W7, hd_W7, po_W7, sa_W7⟩
  have M0_W7 : Mk0 K W7 := ⟨mk_W7, aI_W7, kc_W7⟩
  have F_name_W7 := fun_mk (st := sN7) l_name_W7 c_name_W7 k_name_W7
  have b_name_W7 := F_name_W7.binds (ps := ["self"]) fun _ _ _ _ _ _ us hl => match us, hl with | [_], _ => rfl
  have me_name_W7 : Meth K W7 "name" f_name_W7 := ⟨m_name_W7, i_name_W7, k_name_W7⟩
  have WC7 : WayC K mg "FiveUp" W7 CW := ⟨mg_of X G a_W7, cl_W7, M0_W7, ca_W7, sn, tk, ob_W7, up_W7⟩
  let cw : Wy → Addr := fun y => match y with | .down => W0 | .up => W1 | .floor => W2 | .ceiling => W3 | .halfUp => W4 | .halfDown => W5 | .halfEven => W6 | .fiveUp => W7
  have W : ∀ y : Wy, WayC K mg y.cls (cw y) CW := fun y => match y with | .down => WC0 | .up => WC1 | .floor => WC2 | .ceiling => WC3 | .halfUp => WC4 | .halfDown => WC5 | .halfEven => WC6 | .fiveUp => WC7
  have cl_CC : Cls K CC := ⟨pg_CC, hd_CC, po_CC, sa_CC⟩
  have FI_CC := funD_mk (st := sCtxInit) l_iCC c_iCC k_iCC
  have M_CC : Mk K CC fI_CC := ⟨mk_CC, aI_CC, iI_CC, kc_CC⟩
  have F_flags_CC := fun_mk (st := sCtxFlags) l_flags_CC c_flags_CC k_flags_CC
  have b_flags_CC := F_flags_CC.binds (ps := ["self"]) fun _ _ _ _ _ _ us hl => match us, hl with | [_], _ => rfl
  have me_flags_CC : Meth K CC "flags" f_flags_CC := ⟨m_flags_CC, i_flags_CC, k_flags_CC⟩
  have F_traps_CC := fun_mk (st := sCtxTraps) l_traps_CC c_traps_CC k_traps_CC
  have b_traps_CC := F_traps_CC.binds (ps := ["self"]) fun _ _ _ _ _ _ us hl => match us, hl with | [_], _ => rfl
  have me_traps_CC : Meth K CC "traps" f_traps_CC := ⟨m_traps_CC, i_traps_CC, k_traps_CC⟩
  have F_clear_CC := fun_mk (st := sCtxClear) l_clear_CC c_clear_CC k_clear_CC
  have b_clear_CC := F_clear_CC.binds (ps := ["self"]) fun _ _ _ _ _ _ us hl => match us, hl with | [_], _ => rfl
  have me_clear_CC : Meth K CC "clear" f_clear_CC := ⟨m_clear_CC, i_clear_CC, k_clear_CC⟩
  have F_trap_CC := fun_mk (st := sCtxTrap) l_trap_CC c_trap_CC k_trap_CC
  have b_trap_CC := F_trap_CC.binds (ps := ["self", "names"]) fun _ _ _ _ _ _ us hl => match us, hl with | [_, _], _ => rfl
  have me_trap_CC : Meth K CC "trap" f_trap_CC := ⟨m_trap_CC, i_trap_CC, k_trap_CC⟩
  have F_raised_CC := fun_mk (st := sCtxRaised) l_raised_CC c_raised_CC k_raised_CC
  have b_raised_CC := F_raised_CC.binds (ps := ["self", "names"]) fun _ _ _ _ _ _ us hl => match us, hl with | [_, _], _ => rfl
  have me_raised_CC : Meth K CC "raised" f_raised_CC := ⟨m_raised_CC, i_raised_CC, k_raised_CC⟩
  have xk1 : ExcK K C1 := ⟨xga1, xgh1, xca1, sn, tk, xob1, xbe1, by rw [xcl1]; rfl⟩
  have xk5 : ExcK K C5 := ⟨xga5, xgh5, xca5, sn, tk, xob5, xbe5, by rw [xcl5]; rfl⟩
  have nkT : nsOkIn K NT = true := by unfold nsOkIn; rw [lN]; exact alN
  have tlT : tailIn K veMro bmT = true := by
    have z := q1
    unfold excIn at z
    rw [lT1] at z
    simp only [excClassObj, Bool.and_eq_true] at z
    exact z.1.1.2
  have F_iT := fun_mk (st := sTrInit) l_iT c_iT k_iT
  have b_iT := F_iT.binds (ps := ["self", "signal"]) fun _ _ _ _ _ _ us hl => match us, hl with | [_, _], _ => rfl
  have XI5 : ExcI K C5 fX := ⟨⟨_, _, _, _, _, _, _, _, _, _, _, _, _, _, _, lT, nkT, niT, tlT⟩, ⟨_, l_iT, fcT⟩, saT, xob5⟩
  have SG : SigK K mg aS := ⟨mg_of X G a_S, ⟨_, lS, rfl⟩, fun H => .inr ⟨_, _, _, lS, rfl, rfl, line1000 (by show 7 ≤ 1000; decide), .cons ⟨_, rfl⟩ (.cons ⟨_, rfl⟩ (.cons ⟨_, rfl⟩ (.cons ⟨_, rfl⟩ (.cons ⟨_, rfl⟩ (.cons ⟨_, rfl⟩ (.cons ⟨_, rfl⟩ (.nil)))))))⟩⟩
  have C : CtxC K mg CC := ⟨mg_of X G a_CC, cl_CC, n_CC_room, n_CC_rule, n_CC_least, n_CC_most, n_CC_risen, n_CC_trapped⟩
  have B1 : Err K mg "BadContext" C1 := ⟨mg_of X G a_C1, q1⟩
  have ES : Errs mg C1 C2 C3 C4 C5 := ⟨mg_of X G a_C1, mg_of X G a_C2, mg_of X G a_C3, mg_of X G a_C4, mg_of X G a_C5⟩
  have FT1 : Fits K C1 C1 C2 C3 C4 C5 true false false false false := ⟨xk1, h1_1, h1_2, h1_3, h1_4, h1_5, hv1⟩
  have R : CaughtC K mg CR C1 C2 C3 C4 C5 := ⟨mg_of X G a_CR, ⟨cty, by rw [ccl]; rfl, cex⟩, sub1, FT1⟩
  have b0 := bindsD (fd := fnOf "__init__" "Context.__init__" (defArgs sCtxInit) (defBody sCtxInit) (defScope sCtxInit) (.ref aD_CC) kV_iCC dc_iCC pm_iCC an_iCC cd_iCC ct_iCC) (ps := ["self", "room", "way", "least", "most"]) (ds := [.int 9 t0_CC, .str "half even" t1_CC, .none, .int 60 t3_CC]) rfl lD_CC rfl fun us hl => by obtain ⟨a, rfl⟩ := len1 (lenD hl); exact ⟨_, rfl, rfl⟩
  refine ⟨fnOf "law" "law" (defArgs sLaw) (defBody sLaw) (defScope sLaw) .none kV_law dc_law pm_law an_law cd_law ct_law, fun s v => .of_eq rfl, fun base _ _ => ?_⟩
  have N : ∀ y : Wy, WayN l.prog w K mg base (cw y) y.name := fun y => match y with | .down => ⟨_, _, me_name_W0, ok_n0 F_name_W0, b_name_W0⟩ | .up => ⟨_, _, me_name_W1, ok_n1 F_name_W1, b_name_W1⟩ | .floor => ⟨_, _, me_name_W2, ok_n2 F_name_W2, b_name_W2⟩ | .ceiling => ⟨_, _, me_name_W3, ok_n3 F_name_W3, b_name_W3⟩ | .halfUp => ⟨_, _, me_name_W4, ok_n4 F_name_W4, b_name_W4⟩ | .halfDown => ⟨_, _, me_name_W5, ok_n5 F_name_W5, b_name_W5⟩ | .halfEven => ⟨_, _, me_name_W6, ok_n6 F_name_W6, b_name_W6⟩ | .fiveUp => ⟨_, _, me_name_W7, ok_n7 F_name_W7, b_name_W7⟩
  have Gb := ok_bounded (P := l.prog) (w := w) (base := base) D_bounded D_isb O T B1
  have Gw := ok_wayOf (P := l.prog) (w := w) (base := base) D_wayof O T B1 W
  have M : Made08 l.prog w K mg base CC C1 fI_CC _ (.int 9 t0_CC) (.str "half even" t1_CC) (.int 60 t3_CC) := ⟨⟨M_CC, ok_ctxInit FI_CC D_bounded D_wayof Gb Gw C W N⟩, b0, .cons ⟨_, rfl⟩ (.cons ⟨_, rfl⟩ (.cons rfl (.cons ⟨_, rfl⟩ .nil)))⟩
  have Gn := ok_needS (P := l.prog) (w := w) (base := base) D_needs O T B1 SG
  have Go := ok_inOrd (P := l.prog) (w := w) (base := base) D_inord SG
  have GX := ok_trInit (P := l.prog) (w := w) (mg := mg) (base := base) F_iT XI5 nsg5
  have MF : Has l.prog w K mg base CC "flags" 1 ["self"] (spCtxFlags CC) := ⟨_, _, me_flags_CC, ok_ctxFlags F_flags_CC C O, b_flags_CC⟩
  have MT : Has l.prog w K mg base CC "traps" 1 ["self"] (spCtxTraps CC) := ⟨_, _, me_traps_CC, ok_ctxTraps F_traps_CC C O, b_traps_CC⟩
  have MP : Has l.prog w K mg base CC "trap" 2 ["self", "names"] (spTrap K CC C1) := ⟨_, _, me_trap_CC, ok_trap F_trap_CC D_needs Gn D_inord Go C, b_trap_CC⟩
  have MR : Has l.prog w K mg base CC "raised" 3 ["self", "names"] (spRaised K CC C1 C5) := ⟨_, _, me_raised_CC, ok_raised F_raised_CC D_needs Gn D_inord Go C (mg_of X G a_C5) XI5 GX b_iT, b_raised_CC⟩
  have Gword := ok_word (P := l.prog) (w := w) (base := base) D_word O ES
  exact ok_law D_law D_signals (ok_signals D_signals) D_mixed (ok_mixed D_mixed) D_cell (ok_cell D_cell O) D_ltrap (ok_ltrap D_ltrap D_word Gword C MP R) D_odd (ok_odd D_odd D_signals (ok_signals D_signals) O T) M C MF MT MP MR O T
theorem walk {l : OpenLaw} {q : Program} {loose : List Str} {XP : (Str → Option Value) → Heap → Prop} {YP : World → Heap → Prop} {d : DefRec} {K : Params → Frag} (hn : l.most = some 63) (hdf : d.params.defaults = [])
    (hY : ∀ (w : World) (h : Heap), YP w h → (K w.params).In h)
    (F : ∀ (w : World) (mg : Str → Option Value) (fa : Addr) (h : Heap), (K w.params).In h → h.Ns mainGlobals mg → mg d.name = some (.ref fa) →
      ∃ fd : FuncData, (∀ (s : Shared) (u : Value), BindsTo s fd ⟨[u], []⟩ [("_law_script", u)]) ∧ ∀ base : Heap, (K w.params).In base → base.Ns mainGlobals mg → FnOkG l.prog w (K w.params) mg base (CX1 l.prog w) 6 fa fd ["_law_script"] ((spLaw (K w.params)))) :
    WalkO q loose XP YP l.row.toRowW d [] (fun f vs => PySem.call f vs) :=
  L2.walk_ofG (n := 63) (k := 6) (x := "_law_script") (CX := fun w => CX1 l.prog w) (sp := fun w => (spLaw (K w.params))) hn (by decide) hdf ⟨rfl, by decide, by decide⟩ hY F (fun _ _ a ns hl _ hS => ⟨a, ns, rfl, hl, hS, fun _ => rfl⟩) fun _ _ _ _ _ z => by
    obtain ⟨_, _, _, _, _, _, _, _, _, _, z, _⟩ := z
    exact z
end TR
set_option Elab.async false
set_option linter.all false
def PySem.W.Fast.tw13129638434368796328 : Unit := ()
def PySem.W.Fast.tw13881671666309826345 : Unit := ()
def PySem.W.Fast.tw7354441599224594341 : Unit := ()
def PySem.W.Fast.tw15918374021018676690 : Unit := ()
def PySem.W.Fast.tw14342579774516606965 : Unit := ()
def PySem.W.Fast.tw17365294186017474125 : Unit := ()
def PySem.W.Fast.tw7130086381485369849 : Unit := ()
def PySem.W.Fast.tw10314281297165999774 : Unit := ()
def PySem.W.Fast.tw9363303643416957391 : Unit := ()
def PySem.W.Fast.tw1515555282741721278 : Unit := ()
def PySem.W.Fast.tw4633170702369782156 : Unit := ()
def PySem.W.Fast.tw689652554755264653 : Unit := ()
def PySem.W.Fast.tw8283972311711861897 : Unit := ()
def PySem.W.Fast.tw3598894561192544466 : Unit := ()
def PySem.W.Fast.tw3049456375536443837 : Unit := ()
def PySem.W.Fast.tw17395720360416966165 : Unit := ()
def PySem.W.Fast.tw5311820120229215085 : Unit := ()
def PySem.W.Fast.tw16745379033392872800 : Unit := ()
def PySem.W.Fast.tw8331818396303193359 : Unit := ()
def PySem.W.Fast.tw11142201023084787608 : Unit := ()
def PySem.W.Fast.tw16503668955085961072 : Unit := ()
def PySem.W.Fast.tw17669121075341464352 : Unit := ()
def PySem.W.Fast.tw12754835678654418037 : Unit := ()
def PySem.W.Fast.tw16878404780926867691 : Unit := ()
def PySem.W.Fast.tw1053328765033636327 : Unit := ()
def PySem.W.Fast.tw11795706740055541989 : Unit := ()
def PySem.W.Fast.tw8691208011229898695 : Unit := ()
def PySem.W.Fast.tw6626182758246551768 : Unit := ()
def PySem.W.Fast.tw18021499354803340926 : Unit := ()
def PySem.W.Fast.tw9234844860697478691 : Unit := ()
def PySem.W.Fast.tw8686079594020450306 : Unit := ()
def PySem.W.Fast.tw8876527319013831681 : Unit := ()
def PySem.W.Fast.tw2831106824676852177 : Unit := ()
def PySem.W.Fast.tw17258423508920848547 : Unit := ()
def PySem.W.Fast.tw5230042211633033701 : Unit := ()
def PySem.W.Fast.tw15999298280353553820 : Unit := ()
def PySem.W.Fast.tw9139972021122462398 : Unit := ()
open PySem PySem.W PyProof.Rows
set_option maxRecDepth 100000 in
set_option maxHeartbeats 0 in
theorem PySem.Challenge.cw_tenreckon_k08_traps_refused_holds : PySem.Challenge.rw_tenreckon_k08_traps_refused.Holds := by
  w_on; o_law; k_head; (case hw => w_witness2)
  k_fill
  refine TR.walk (l := PySem.Challenge.rw_tenreckon_k08_traps_refused) rfl rfl (fun w h Y => PySem.W.kIn_of Y) ?F
  case F =>
    intro w mg fa h KX G hmg
    refine' TR.all_mk KX G hmg ?a_isb ?l_isb ?c_isb ?k_isb ?a_bounded ?l_bounded ?c_bounded ?k_bounded ?a_wayof ?l_wayof ?c_wayof ?k_wayof ?a_needs ?l_needs ?c_needs ?k_needs ?a_inord ?l_inord ?c_inord ?k_inord ?a_cell ?l_cell ?c_cell ?k_cell ?a_mixed ?l_mixed ?c_mixed ?k_mixed ?a_signals ?l_signals ?c_signals ?k_signals ?a_word ?l_word ?c_word ?k_word ?a_ltrap ?l_ltrap ?c_ltrap ?k_ltrap ?a_odd ?l_odd ?c_odd ?k_odd ?a_law ?l_law ?c_law ?k_law ?z_isinstance ?z_int ?z_bool ?z_str ?z_list ?z_tuple ?z_dict ?z_len ?z_range ?z_min ?z_max ?z_abs ?z_any ?z_all ?z_sum ?z_repr ?z_enumerate ?z_reversed ?z_zip ?z_sorted ?z_divmod ?z_set ?z_ValueError ?kt_int_int ?kt_int_bool ?kt_int_str ?kt_int_list ?kt_int_tuple ?kt_int_dict ?kt_bool_int ?kt_bool_bool ?kt_bool_str ?kt_bool_list ?kt_bool_tuple ?kt_bool_dict ?kt_str_int ?kt_str_bool ?kt_str_str ?kt_str_list ?kt_str_tuple ?kt_str_dict ?kt_list_int ?kt_list_bool ?kt_list_str ?kt_list_list ?kt_list_tuple ?kt_list_dict ?kt_tuple_int ?kt_tuple_bool ?kt_tuple_str ?kt_tuple_list ?kt_tuple_tuple ?kt_tuple_dict ?kt_dict_int ?kt_dict_bool ?kt_dict_str ?kt_dict_list ?kt_dict_tuple ?kt_dict_dict ?kt_NoneType_int ?kt_NoneType_bool ?kt_NoneType_str ?kt_NoneType_list ?kt_NoneType_tuple ?kt_NoneType_dict ?sn ?tk ?a_CW ?a_W0 ?pg_W0 ?hd_W0 ?po_W0 ?sa_W0 ?mk_W0 ?kc_W0 ?ca_W0 ?ob_W0 ?aI_W0 ?up_W0 ?m_name_W0 ?i_name_W0 ?l_name_W0 ?c_name_W0 ?k_name_W0 ?a_W1 ?pg_W1 ?hd_W1 ?po_W1 ?sa_W1 ?mk_W1 ?kc_W1 ?ca_W1 ?ob_W1 ?aI_W1 ?up_W1 ?m_name_W1 ?i_name_W1 ?l_name_W1 ?c_name_W1 ?k_name_W1 ?a_W2 ?pg_W2 ?hd_W2 ?po_W2 ?sa_W2 ?mk_W2 ?kc_W2 ?ca_W2 ?ob_W2 ?aI_W2 ?up_W2 ?m_name_W2 ?i_name_W2 ?l_name_W2 ?c_name_W2 ?k_name_W2 ?a_W3 ?pg_W3 ?hd_W3 ?po_W3 ?sa_W3 ?mk_W3 ?kc_W3 ?ca_W3 ?ob_W3 ?aI_W3 ?up_W3 ?m_name_W3 ?i_name_W3 ?l_name_W3 ?c_name_W3 ?k_name_W3 ?a_W4 ?pg_W4 ?hd_W4 ?po_W4 ?sa_W4 ?mk_W4 ?kc_W4 ?ca_W4 ?ob_W4 ?aI_W4 ?up_W4 ?m_name_W4 ?i_name_W4 ?l_name_W4 ?c_name_W4 ?k_name_W4 ?a_W5 ?pg_W5 ?hd_W5 ?po_W5 ?sa_W5 ?mk_W5 ?kc_W5 ?ca_W5 ?ob_W5 ?aI_W5 ?up_W5 ?m_name_W5 ?i_name_W5 ?l_name_W5 ?c_name_W5 ?k_name_W5 ?a_W6 ?pg_W6 ?hd_W6 ?po_W6 ?sa_W6 ?mk_W6 ?kc_W6 ?ca_W6 ?ob_W6 ?aI_W6 ?up_W6 ?m_name_W6 ?i_name_W6 ?l_name_W6 ?c_name_W6 ?k_name_W6 ?a_W7 ?pg_W7 ?hd_W7 ?po_W7 ?sa_W7 ?mk_W7 ?kc_W7 ?ca_W7 ?ob_W7 ?aI_W7 ?up_W7 ?m_name_W7 ?i_name_W7 ?l_name_W7 ?c_name_W7 ?k_name_W7 ?a_CC ?pg_CC ?hd_CC ?po_CC ?sa_CC ?mk_CC ?kc_CC ?n_CC_room ?n_CC_rule ?n_CC_least ?n_CC_most ?n_CC_risen ?n_CC_trapped ?aI_CC ?iI_CC ?l_iCC ?c_iCC ?k_iCC ?lD_CC ?m_flags_CC ?i_flags_CC ?l_flags_CC ?c_flags_CC ?k_flags_CC ?m_traps_CC ?i_traps_CC ?l_traps_CC ?c_traps_CC ?k_traps_CC ?m_clear_CC ?i_clear_CC ?l_clear_CC ?c_clear_CC ?k_clear_CC ?m_trap_CC ?i_trap_CC ?l_trap_CC ?c_trap_CC ?k_trap_CC ?m_raised_CC ?i_raised_CC ?l_raised_CC ?c_raised_CC ?k_raised_CC ?a_C1 ?a_C2 ?a_C3 ?a_C4 ?a_C5 ?a_CR ?cty ?ccl ?cex ?q1 ?sub1 ?xga1 ?xgh1 ?xca1 ?xob1 ?xbe1 ?xcl1 ?h1_1 ?h1_2 ?h1_3 ?h1_4 ?h1_5 ?hv1 ?sub5 ?xga5 ?xgh5 ?xca5 ?xob5 ?xbe5 ?xcl5 ?h5_1 ?h5_2 ?h5_3 ?h5_4 ?h5_5 ?hv5 ?lT ?lN ?alN ?niT ?lT1 ?saT ?nsg5 ?l_iT ?c_iT ?k_iT ?fcT ?kTR ?a_S ?lS
    (case a_isb => k_is); (case l_isb => k_is); (case c_isb => k_is); (case k_isb => k_is); (case a_bounded => k_is); (case l_bounded => k_is); (case c_bounded => k_is); (case k_bounded => k_is)
    (case a_wayof => k_is); (case l_wayof => k_is); (case c_wayof => k_is); (case k_wayof => k_is); (case a_needs => k_is); (case l_needs => k_is); (case c_needs => k_is); (case k_needs => k_is)
    (case a_inord => k_is); (case l_inord => k_is); (case c_inord => k_is); (case k_inord => k_is); (case a_cell => k_is); (case l_cell => k_is); (case c_cell => k_is); (case k_cell => k_is)
    (case a_mixed => k_is); (case l_mixed => k_is); (case c_mixed => k_is); (case k_mixed => k_is); (case a_signals => k_is); (case l_signals => k_is); (case c_signals => k_is); (case k_signals => k_is)
    (case a_word => k_is); (case l_word => k_is); (case c_word => k_is); (case k_word => k_is); (case a_ltrap => k_is); (case l_ltrap => k_is); (case c_ltrap => k_is); (case k_ltrap => k_is)
    (case a_odd => k_is); (case l_odd => k_is); (case c_odd => k_is); (case k_odd => k_is); (case a_law => k_is); (case l_law => k_is); (case c_law => k_is); (case k_law => k_is)
    (case z_isinstance => k_is); (case z_int => k_is); (case z_bool => k_is); (case z_str => k_is); (case z_list => k_is); (case z_tuple => k_is); (case z_dict => k_is); (case z_len => k_is)
    (case z_range => k_is); (case z_min => k_is); (case z_max => k_is); (case z_abs => k_is); (case z_any => k_is); (case z_all => k_is); (case z_sum => k_is); (case z_repr => k_is)
    (case z_enumerate => k_is); (case z_reversed => k_is); (case z_zip => k_is); (case z_sorted => k_is); (case z_divmod => k_is); (case z_set => k_is); (case z_ValueError => k_is); (case kt_int_int => kit_is)
    (case kt_int_bool => kit_is); (case kt_int_str => kit_is); (case kt_int_list => kit_is); (case kt_int_tuple => kit_is); (case kt_int_dict => kit_is); (case kt_bool_int => kit_is); (case kt_bool_bool => kit_is); (case kt_bool_str => kit_is)
    (case kt_bool_list => kit_is); (case kt_bool_tuple => kit_is); (case kt_bool_dict => kit_is); (case kt_str_int => kit_is); (case kt_str_bool => kit_is); (case kt_str_str => kit_is); (case kt_str_list => kit_is); (case kt_str_tuple => kit_is)
    (case kt_str_dict => kit_is); (case kt_list_int => kit_is); (case kt_list_bool => kit_is); (case kt_list_str => kit_is); (case kt_list_list => kit_is); (case kt_list_tuple => kit_is); (case kt_list_dict => kit_is); (case kt_tuple_int => kit_is)
    (case kt_tuple_bool => kit_is); (case kt_tuple_str => kit_is); (case kt_tuple_list => kit_is); (case kt_tuple_tuple => kit_is); (case kt_tuple_dict => kit_is); (case kt_dict_int => kit_is); (case kt_dict_bool => kit_is); (case kt_dict_str => kit_is)
    (case kt_dict_list => kit_is); (case kt_dict_tuple => kit_is); (case kt_dict_dict => kit_is); (case kt_NoneType_int => kit_is); (case kt_NoneType_bool => kit_is); (case kt_NoneType_str => kit_is); (case kt_NoneType_list => kit_is); (case kt_NoneType_tuple => kit_is)
    (case kt_NoneType_dict => kit_is); (case sn => k_is); (case tk => k_is); (case a_CW => k_is); (case a_W0 => k_is); (case pg_W0 => k_is); (case hd_W0 => k_is); (case po_W0 => k_is)
    (case sa_W0 => k_is); (case mk_W0 => k_is); (case kc_W0 => k_is); (case ca_W0 => k_is); (case ob_W0 => k_is); (case aI_W0 => k_is); (case up_W0 => kit_is); (case m_name_W0 => k_is)
    (case i_name_W0 => k_is); (case l_name_W0 => k_is); (case c_name_W0 => k_is); (case k_name_W0 => k_is); (case a_W1 => k_is); (case pg_W1 => k_is); (case hd_W1 => k_is); (case po_W1 => k_is)
    (case sa_W1 => k_is); (case mk_W1 => k_is); (case kc_W1 => k_is); (case ca_W1 => k_is); (case ob_W1 => k_is); (case aI_W1 => k_is); (case up_W1 => kit_is); (case m_name_W1 => k_is)
    (case i_name_W1 => k_is); (case l_name_W1 => k_is); (case c_name_W1 => k_is); (case k_name_W1 => k_is); (case a_W2 => k_is); (case pg_W2 => k_is); (case hd_W2 => k_is); (case po_W2 => k_is)
    (case sa_W2 => k_is); (case mk_W2 => k_is); (case kc_W2 => k_is); (case ca_W2 => k_is); (case ob_W2 => k_is); (case aI_W2 => k_is); (case up_W2 => kit_is); (case m_name_W2 => k_is)
    (case i_name_W2 => k_is); (case l_name_W2 => k_is); (case c_name_W2 => k_is); (case k_name_W2 => k_is); (case a_W3 => k_is); (case pg_W3 => k_is); (case hd_W3 => k_is); (case po_W3 => k_is)
    (case sa_W3 => k_is); (case mk_W3 => k_is); (case kc_W3 => k_is); (case ca_W3 => k_is); (case ob_W3 => k_is); (case aI_W3 => k_is); (case up_W3 => kit_is); (case m_name_W3 => k_is)
    (case i_name_W3 => k_is); (case l_name_W3 => k_is); (case c_name_W3 => k_is); (case k_name_W3 => k_is); (case a_W4 => k_is); (case pg_W4 => k_is); (case hd_W4 => k_is); (case po_W4 => k_is)
    (case sa_W4 => k_is); (case mk_W4 => k_is); (case kc_W4 => k_is); (case ca_W4 => k_is); (case ob_W4 => k_is); (case aI_W4 => k_is); (case up_W4 => kit_is); (case m_name_W4 => k_is)
    (case i_name_W4 => k_is); (case l_name_W4 => k_is); (case c_name_W4 => k_is); (case k_name_W4 => k_is); (case a_W5 => k_is); (case pg_W5 => k_is); (case hd_W5 => k_is); (case po_W5 => k_is)
    (case sa_W5 => k_is); (case mk_W5 => k_is); (case kc_W5 => k_is); (case ca_W5 => k_is); (case ob_W5 => k_is); (case aI_W5 => k_is); (case up_W5 => kit_is); (case m_name_W5 => k_is)
    (case i_name_W5 => k_is); (case l_name_W5 => k_is); (case c_name_W5 => k_is); (case k_name_W5 => k_is); (case a_W6 => k_is); (case pg_W6 => k_is); (case hd_W6 => k_is); (case po_W6 => k_is)
    (case sa_W6 => k_is); (case mk_W6 => k_is); (case kc_W6 => k_is); (case ca_W6 => k_is); (case ob_W6 => k_is); (case aI_W6 => k_is); (case up_W6 => kit_is); (case m_name_W6 => k_is)
    (case i_name_W6 => k_is); (case l_name_W6 => k_is); (case c_name_W6 => k_is); (case k_name_W6 => k_is); (case a_W7 => k_is); (case pg_W7 => k_is); (case hd_W7 => k_is); (case po_W7 => k_is)
    (case sa_W7 => k_is); (case mk_W7 => k_is); (case kc_W7 => k_is); (case ca_W7 => k_is); (case ob_W7 => k_is); (case aI_W7 => k_is); (case up_W7 => kit_is); (case m_name_W7 => k_is)
    (case i_name_W7 => k_is); (case l_name_W7 => k_is); (case c_name_W7 => k_is); (case k_name_W7 => k_is); (case a_CC => k_is); (case pg_CC => k_is); (case hd_CC => k_is); (case po_CC => k_is)
    (case sa_CC => k_is); (case mk_CC => k_is); (case kc_CC => k_is); (case n_CC_room => k_is); (case n_CC_rule => k_is); (case n_CC_least => k_is); (case n_CC_most => k_is); (case n_CC_risen => k_is)
    (case n_CC_trapped => k_is); (case aI_CC => k_is); (case iI_CC => k_is); (case l_iCC => k_is); (case c_iCC => k_is); (case k_iCC => k_is); (case lD_CC => k_is); (case m_flags_CC => k_is)
    (case i_flags_CC => k_is); (case l_flags_CC => k_is); (case c_flags_CC => k_is); (case k_flags_CC => k_is); (case m_traps_CC => k_is); (case i_traps_CC => k_is); (case l_traps_CC => k_is); (case c_traps_CC => k_is)
    (case k_traps_CC => k_is); (case m_clear_CC => k_is); (case i_clear_CC => k_is); (case l_clear_CC => k_is); (case c_clear_CC => k_is); (case k_clear_CC => k_is); (case m_trap_CC => k_is); (case i_trap_CC => k_is)
    (case l_trap_CC => k_is); (case c_trap_CC => k_is); (case k_trap_CC => k_is); (case m_raised_CC => k_is); (case i_raised_CC => k_is); (case l_raised_CC => k_is); (case c_raised_CC => k_is); (case k_raised_CC => k_is)
    (case a_C1 => k_is); (case a_C2 => k_is); (case a_C3 => k_is); (case a_C4 => k_is); (case a_C5 => k_is); (case a_CR => k_is); (case cty => k_is); (case ccl => k_is)
    (case cex => k_is); (case q1 => k_exc); (case sub1 => k_is); (case xga1 => k_is); (case xgh1 => k_is); (case xca1 => k_is); (case xob1 => k_is); (case xbe1 => k_is)
    (case xcl1 => k_is); (case h1_1 => kit_is); (case h1_2 => kit_is); (case h1_3 => kit_is); (case h1_4 => kit_is); (case h1_5 => kit_is); (case hv1 => kit_is); (case sub5 => k_is)
    (case xga5 => k_is); (case xgh5 => k_is); (case xca5 => k_is); (case xob5 => k_is); (case xbe5 => k_is); (case xcl5 => k_is); (case h5_1 => kit_is); (case h5_2 => kit_is)
    (case h5_3 => kit_is); (case h5_4 => kit_is); (case h5_5 => kit_is); (case hv5 => kit_is); (case lT => k_is); (case lN => k_is); (case alN => simp); (case niT => k_is)
    (case lT1 => k_is); (case saT => k_is); (case nsg5 => k_is); (case l_iT => k_is); (case c_iT => k_is); (case k_iT => k_is); (case fcT => rfl); (case kTR => kit_is)
    (case a_S => k_is); (case lS => k_is)

