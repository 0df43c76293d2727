import PyProof.Rows.All
import Wide.All
import OpenK.AllK
import Wide.FinOn
import Lean
import PyProof.EqAt
import PyProof.EqKinds
import PyProof.TupleCall
import PyProof.TupleKey
import PyProof.Draws
import PyProof.EnumMake
import PySem.Challenge.RW_floorfits_k03_clashes
set_option Elab.async false
set_option linter.all false
set_option maxRecDepth 100000
/-! THE HAND LAYER, for ints, bools, texts, own classes, LISTS and tuples (index, slices, in, append, pop ..), calls, loops. Paste it whole ahead of your own text; what your proof does not reach may be deleted. -/
namespace L2
open PySem PySem.Spec PyProof.Rows

/-- a key: an int or a str -/
abbrev Key := Sum Int Str
def keyIs : Key → Value → Bool
  | .inl k, v => Value.isInt k v
  | .inr x, v => Value.isStrOf x v
def keyH (w : World) : Key → Int
  | .inl k => hashInt k
  | .inr x => hashStr w x
theorem keyIs_shape : ∀ {k : Key} {v : Value}, keyIs k v = true → (∃ i t, k = Sum.inl i ∧ v = Value.int i t) ∨ (∃ x t, k = Sum.inr x ∧ v = Value.str x t)
  | .inl i, v, h => by
    obtain ⟨t, e⟩ := Value.isInt_shape (k := i) (v := v) h
    exact .inl ⟨i, t, rfl, e⟩
  | .inr x, v, h => by
    obtain ⟨t, e⟩ := Value.isStrOf_shape (x := x) (v := v) h
    exact .inr ⟨x, t, rfl, e⟩
theorem keyIs_int (i : Int) (t : Tok) : keyIs (.inl i) (.int i t) = true := by simp [keyIs, Value.isInt]
theorem keyIs_str (x : Str) (t : Tok) : keyIs (.inr x) (.str x t) = true := by simp [keyIs, Value.isStrOf]
theorem key_ll (a b : Int) : decide ((Sum.inl a : Key) = Sum.inl b) = (a == b) := by
  by_cases e : a = b
  · subst e; simp
  · have h : ¬ (Sum.inl a : Key) = Sum.inl b := fun q => e (Sum.inl.inj q)
    rw [decide_eq_false h]
    exact (beq_eq_false_iff_ne.mpr e).symm
theorem key_rr (a b : Str) : decide ((Sum.inr a : Key) = Sum.inr b) = decide (a = b) := by
  by_cases e : a = b
  · subst e; simp
  · have h : ¬ (Sum.inr a : Key) = Sum.inr b := fun q => e (Sum.inr.inj q)
    rw [decide_eq_false h, decide_eq_false e]
theorem key_lr (a : Int) (b : Str) : decide ((Sum.inl a : Key) = Sum.inr b) = false := decide_eq_false (fun q => nomatch q)
theorem key_rl (a : Str) (b : Int) : decide ((Sum.inr a : Key) = Sum.inl b) = false := decide_eq_false (fun q => nomatch q)

def mixKind (prog : Program) (w : World) : PySem.KeyKind prog w Key where
  is := keyIs
  hash := keyH w
  inj := fun v a b ha hb => by
    rcases keyIs_shape ha with ⟨i, t, rfl, rfl⟩ | ⟨x, t, rfl, rfl⟩
    · rcases keyIs_shape hb with ⟨j, u, rfl, e⟩ | ⟨y, u, rfl, e⟩
      · injection e with e1 _; rw [e1]
      · exact nomatch e
    · rcases keyIs_shape hb with ⟨j, u, rfl, e⟩ | ⟨y, u, rfl, e⟩
      · exact nomatch e
      · injection e with e1 _; rw [e1]
  byValue := fun k v h => by
    rcases keyIs_shape h with ⟨i, t, rfl, rfl⟩ | ⟨x, t, rfl, rfl⟩ <;> rfl
  pyHash := fun hv h => by
    rcases keyIs_shape hv with ⟨i, t, rfl, rfl⟩ | ⟨x, t, rfl, rfl⟩
    · exact wpAny_pyHash_int h
    · exact wpAny_pyHash_str h
  eqBool := fun hu hv h => by
    rcases keyIs_shape hu with ⟨i, t, rfl, rfl⟩ | ⟨x, t, rfl, rfl⟩
    · rcases keyIs_shape hv with ⟨j, u, rfl, rfl⟩ | ⟨y, u, rfl, rfl⟩
      · rw [key_ll] at h; exact wpAny_eqBool_int h
      · rw [key_lr] at h; exact SeqAt.EqAt.int_str i t y u _ _ _ _ h
    · rcases keyIs_shape hv with ⟨j, u, rfl, rfl⟩ | ⟨y, u, rfl, rfl⟩
      · rw [key_rl] at h; exact SeqAt.EqAt.str_int x t j u _ _ _ _ h
      · rw [key_rr] at h; exact wpAny_eqBool_str h
  «strs» := fun k x t v h => by
    rcases keyIs_shape h with ⟨i, u, rfl, e⟩ | ⟨y, u, rfl, e⟩
    · exact nomatch e
    · injection e with e1 _
      subst e1
      cases v <;> rfl

theorem mixKind_is (prog : Program) (w : World) (k : Key) (v : Value) : (mixKind prog w).is k v = keyIs k v := rfl
theorem mixKind_int (prog : Program) (w : World) (i : Int) (t : Tok) : (mixKind prog w).is (.inl i) (.int i t) = true := keyIs_int i t
theorem mixKind_str (prog : Program) (w : World) (x : Str) (t : Tok) : (mixKind prog w).is (.inr x) (.str x t) = true := keyIs_str x t
end L2

namespace L2
open PySem PySem.Spec PyProof.Rows

/-- a value, without the heap -/
inductive V where
  | non | bl (b : Bool) | int (i : Int) | str (x : Str) | byt (b : Array UInt8) | flt (b : UInt64) | ref (a : Addr) | ty (n : String)
  deriving DecidableEq

def RelV : V → Value → Prop
  | .non, u => u = Value.none
  | .bl b, u => u = Value.bool b
  | .int i, u => ∃ t, u = Value.int i t
  | .str x, u => ∃ t, u = Value.str x t
  | .byt b, u => ∃ t, u = Value.bytes b t
  | .flt b, u => ∃ t, u = Value.float b t
  | .ref a, u => u = Value.ref a
  | .ty n, u => u = Value.type n

abbrev Vals : List V → List Value → Prop := Paired RelV
theorem Vals.length {xs : List V} {us : List Value} (r : Vals xs us) : xs.length = us.length := Paired.length r
theorem Vals.get : ∀ {xs : List V} {us : List Value} {i : Nat} {x : V}, Vals xs us → xs[i]? = some x → ∃ u, us[i]? = some u ∧ RelV x u
  | _, _, _, _, .nil, e => by simp at e
  | _, _, 0, _, .cons r _, e => by simp at e; subst e; exact ⟨_, rfl, r⟩
  | _, _, i + 1, x, .cons _ t, e => by
    obtain ⟨u, h1, h2⟩ := Vals.get (i := i) (x := x) t (by simpa using e)
    exact ⟨u, by simpa using h1, h2⟩
theorem Vals.set {x : V} {u : Value} (r : RelV x u) : ∀ {xs : List V} {us : List Value} (i : Nat), Vals xs us → Vals (xs.set i x) (us.set i u)
  | _, _, _, .nil => .nil
  | _, _, 0, .cons _ t => .cons r t
  | _, _, i + 1, .cons q t => .cons q (Vals.set r i t)
theorem Vals.append : ∀ {xs ys : List V} {us ws : List Value}, Vals xs us → Vals ys ws → Vals (xs ++ ys) (us ++ ws)
  | _, _, _, _, .nil, s => s
  | _, _, _, _, .cons r t, s => .cons r (Vals.append t s)
theorem Vals.take : ∀ {xs : List V} {us : List Value} (n : Nat), Vals xs us → Vals (xs.take n) (us.take n)
  | _, _, 0, _ => .nil
  | _, _, _ + 1, .nil => .nil
  | _, _, n + 1, .cons r t => .cons r (Vals.take n t)
theorem Vals.drop : ∀ {xs : List V} {us : List Value} (n : Nat), Vals xs us → Vals (xs.drop n) (us.drop n)
  | _, _, 0, r => r
  | _, _, _ + 1, .nil => .nil
  | _, _, n + 1, .cons _ t => Vals.drop n t
theorem Vals.none_of : ∀ {xs : List V} {us : List Value} {i : Nat}, Vals xs us → xs[i]? = none → us[i]? = none := fun {xs us i} r e => by
  have h1 := r.length
  have h2 : xs.length ≤ i := List.getElem?_eq_none_iff.mp e
  exact List.getElem?_eq_none_iff.mpr (by omega)

def RelO : Option V → Option Value → Prop
  | some v, some u => RelV v u
  | none, none => True
  | _, _ => False
def KV {κ : Type} : List (κ × V) → List (κ × Value) → Prop := Paired fun (p : κ × V) (q : κ × Value) => p.1 = q.1 ∧ RelV p.2 q.2

/-- a key of a dict (00_mix): an int or a text -/
def kV : Key → V
  | .inl i => .int i
  | .inr x => .str x

/-- what stands at a tracked address -/
inductive HO where
  /-- a list -/
  | lst (xs : List V)
  /-- a tuple (never changes) -/
  | tup (xs : List V)
  /-- a dict whose keys are ints and texts; one whose keys are tuples of ints and texts (the empty one is both) -/
  | dK (kvs : List (Key × V)) | dT (kvs : List (List Key × V))
  /-- a set of ints: its members, its size -/
  | set (S : Int → Bool) (n : Nat)
  /-- an instance of the class at C, its dict at dx, its attributes -/
  | ins (C dx : Addr) (fs : List (Str × V))
  /-- the dict of the instance at x -/
  | own (x : Addr)
  /-- the dict of an exception -/
  | xd (fs : List (Str × V))
  /-- a bound method, f of x -/
  | met (f x : Addr)
  /-- a range object lo, lo + 1, .. below hi -/
  | rng (lo hi : Int)
  /-- a thing that is known to the object (the script; a dict while a loop walks it): read, never written while it is so -/
  | frz (o : Obj) (u : HO)
  /-- a code object's table -/
  | tbl (ps : Array Value)
  /-- any other thing, by what is true of its one object (a def of one's own: SetO a S n := HO.ext fun h => ..) -/
  | ext (φ : Heap → Prop)

abbrev Hp := Addr → Option HO
def upd (H : Hp) (a : Addr) (o : HO) : Hp := fun b => if b = a then some o else H b
theorem upd_same {H : Hp} {a : Addr} {o : HO} : upd H a o a = some o := by unfold upd; rw [if_pos rfl]
theorem upd_ne {H : Hp} {a b : Addr} {o : HO} (h : b ≠ a) : upd H a o b = H b := by unfold upd; rw [if_neg h]
theorem upd_upd {H : Hp} {a : Addr} {o u : HO} : upd (upd H a o) a u = upd H a u := by
  funext b; unfold upd; split <;> rfl
/-- two objects of different content stand apart -/
theorem ne_of {H : Hp} {a b : Addr} {o u : HO} (h : H a = some o) (h' : H b = some u) (d : o ≠ u) : a ≠ b := by
  intro e; subst e; rw [h] at h'; exact d (Option.some.inj h')
theorem ne_of_none {H : Hp} {a b : Addr} {o : HO} (h : H a = some o) (h' : H b = none) : a ≠ b := by
  intro e; subst e; rw [h] at h'; cases h'

section
variable (P : Program) (w : World)
def ObjOk (H : Hp) (h : Heap) (a : Addr) : HO → Prop
  | .lst xs => xs.length ≤ sizeLine ∧ ∃ (its : List Value) (n : Nat), Vals xs its ∧ h.get? a = some { cls := .type "list", data := .seq its.toArray n }
  | .tup xs => xs.length ≤ sizeLine ∧ ∃ its : List Value, Vals xs its ∧ IsTup h a its.toArray
  | .dK kvs => kvs.length ≤ sizeLine ∧ (a == sysModules) = false ∧ ∃ vs, KV kvs vs ∧ h.DictOf (mixKind P w) a vs
  | .dT kvs => kvs.length ≤ sizeLine ∧ (a == sysModules) = false ∧ ∃ xs : List (List Key × Addr × Value),
      Paired (fun (p : List Key × V) (q : List Key × Addr × Value) => p.1 = q.1 ∧ H q.2.1 = some (.tup (p.1.map kV)) ∧ RelV p.2 q.2.2) kvs xs ∧
      ∃ o es ep, h.get? a = some o ∧ o.ExactDict ∧ o.data = .dict es ep ∧ es.toList = xs.map (entryOfKey (tupleKind (mixKind P w))) ∧ (xs.map (·.1)).Nodup
  | .set S n => h.SetOf (intKind P w) a S n
  | .ins C dx fs => H dx = some (.own a) ∧ fs.length ≤ 1000 ∧ dx ≠ a ∧ h.get? a = some (PySem.W.instObj C dx) ∧
      ∃ mA, h.Ns1 dx mA ∧ (∀ f, RelO (fs.lookup f) (mA f)) ∧ PySem.Within mA (fs.map (·.1))
  | .own _ => ∃ o, h.get? a = some o
  | .xd fs => ∃ mA, h.Ns1 a mA ∧ ∀ f, RelO (fs.lookup f) (mA f)
  | .rng lo hi => ∃ t u v, h.get? a = some { cls := .type "range", data := .fields #[.int lo t, .int hi u, .int 1 v] }
  | .frz o u => h.get? a = some o ∧ ObjOk H h a u
  | .tbl ps => h.get? a = some { cls := .none, data := .fields ps }
  | .met f x => h.get? a = some (PySem.W.methodObj (.ref f) (.ref x))
  | .ext φ => φ h ∧ (∃ o, h.get? a = some o) ∧ ∀ h1 h2 : Heap, φ h1 → (∀ o, h1.get? a = some o → h2.get? a = some o) → φ h2
/-- the abstract heap is held -/
def HOk (H : Hp) (h : Heap) : Prop := ∀ a o, H a = some o → ObjOk P w H h a o
end

section
variable {P : Program} {w : World} {H H' : Hp} {h h' : Heap} {a : Addr} {o : HO}
theorem ObjOk.lt (x : ObjOk P w H h a o) : a < h.objs.size := by
  cases o with
  | lst xs => obtain ⟨_, _, _, _, e⟩ := x; exact Heap.lt_size e
  | tup xs => obtain ⟨_, _, _, p⟩ := x; exact p.lt
  | dK kvs => obtain ⟨_, _, _, _, o, _, _, e, _⟩ := x; exact Heap.lt_size e
  | dT kvs => obtain ⟨_, _, _, _, o, _, _, e, _⟩ := x; exact Heap.lt_size e
  | set S n => obtain ⟨o, _, _, _, e, _⟩ := x; exact Heap.lt_size e
  | ins C dx fs => obtain ⟨_, _, _, e, _⟩ := x; exact Heap.lt_size e
  | own y => obtain ⟨_, e⟩ := x; exact Heap.lt_size e
  | xd fs => obtain ⟨_, ⟨_, _, _, e, _⟩, _⟩ := x; exact Heap.lt_size e
  | rng lo hi => obtain ⟨_, _, _, e⟩ := x; exact Heap.lt_size e
  | frz ob u => obtain ⟨e, _⟩ := x; exact Heap.lt_size e
  | tbl ps => exact Heap.lt_size (show h.get? a = some _ from x)
  | met f y => exact Heap.lt_size (show h.get? a = some _ from x)
  | ext φ => obtain ⟨_, ⟨_, e⟩, _⟩ := x; exact Heap.lt_size e
theorem Paired.mapP {α β : Type} {F G : α → β → Prop} : ∀ {l₁ : List α} {l₂ : List β}, Paired F l₁ l₂ → (∀ a b, F a b → G a b) → Paired G l₁ l₂
  | _, _, .nil, _ => .nil
  | _, _, .cons r t, f => .cons (f _ _ r) (Paired.mapP t f)
theorem Paired.imp' {α β : Type} {F G : α → β → Prop} (f : ∀ a b, F a b → G a b) {l₁ : List α} {l₂ : List β} (r : Paired F l₁ l₂) : Paired G l₁ l₂ := Paired.mapP r f
/-- what an object's description leans on: its own object, its own dict, the tuples -/
theorem ObjOk.stay (x : ObjOk P w H h a o) (k : ∀ b u, (b = a ∨ H b = some (.own a)) → h.get? b = some u → h'.get? b = some u)
    (ho : ∀ b, H b = some (.own a) → H' b = some (.own a)) (ht : ∀ b xs, H b = some (.tup xs) → H' b = some (.tup xs)) : ObjOk P w H' h' a o := by
  induction o with
  | lst xs => obtain ⟨z, its, n, r, e⟩ := x; exact ⟨z, its, n, r, k _ _ (.inl rfl) e⟩
  | tup xs => obtain ⟨z, its, r, ob, e, c⟩ := x; exact ⟨z, its, r, ob, k _ _ (.inl rfl) e, c⟩
  | dK kvs => obtain ⟨z, y, vs, r, ob, es, ep, e, c⟩ := x; exact ⟨z, y, vs, r, ob, es, ep, k _ _ (.inl rfl) e, c⟩
  | dT kvs =>
    obtain ⟨z, y, xs, r, ob, es, ep, e, c⟩ := x
    exact ⟨z, y, xs, Paired.mapP r fun p q z => ⟨z.1, ht _ _ z.2.1, z.2.2⟩, ob, es, ep, k _ _ (.inl rfl) e, c⟩
  | set S n => obtain ⟨ob, es, ep, t, e, c⟩ := x; exact ⟨ob, es, ep, t, k _ _ (.inl rfl) e, c⟩
  | ins C dx fs =>
    obtain ⟨d, z, ne, e, mA, ⟨od, es, ep, e2, c⟩, r⟩ := x
    exact ⟨ho _ d, z, ne, k _ _ (.inl rfl) e, mA, ⟨od, es, ep, k _ _ (.inr d) e2, c⟩, r⟩
  | own y => obtain ⟨ob, e⟩ := x; exact ⟨ob, k _ _ (.inl rfl) e⟩
  | xd fs => obtain ⟨mA, ⟨od, es, ep, e, c⟩, r⟩ := x; exact ⟨mA, ⟨od, es, ep, k _ _ (.inl rfl) e, c⟩, r⟩
  | rng lo hi => obtain ⟨t, u, v, e⟩ := x; exact ⟨t, u, v, k _ _ (.inl rfl) e⟩
  | frz ob u ih => obtain ⟨e, q⟩ := x; exact ⟨k _ _ (.inl rfl) e, ih q⟩
  | tbl ps =>
    have e : h.get? a = some { cls := .none, data := .fields ps } := x
    show h'.get? a = some { cls := .none, data := .fields ps }
    exact k a _ (.inl rfl) e
  | met f y =>
    have e : h.get? a = some (PySem.W.methodObj (.ref f) (.ref y)) := x
    show h'.get? a = some (PySem.W.methodObj (.ref f) (.ref y))
    exact k a _ (.inl rfl) e
  | ext φ => obtain ⟨p, ⟨o, e⟩, st⟩ := x; exact ⟨st _ _ p fun o q => k _ _ (.inl rfl) q, ⟨o, k _ _ (.inl rfl) e⟩, st⟩
theorem HOk.lt (x : HOk P w H h) (e : H a = some o) : a < h.objs.size := (x a o e).lt
theorem HOk.fresh (x : HOk P w H h) (e : h.objs.size ≤ a) : H a = none := by
  cases q : H a with
  | none => rfl
  | some u => exact absurd (Nat.lt_of_lt_of_le (x.lt q) e) (Nat.lt_irrefl _)
/-- every object of the heap is kept -/
theorem HOk.kept (x : HOk P w H h) (k : ∀ b u, h.get? b = some u → h'.get? b = some u) : HOk P w H h' := fun a o e =>
  (x a o e).stay (fun b u _ q => k b u q) (fun _ q => q) fun _ _ q => q
/-- a new object is laid and tracked -/
theorem HOk.laid (x : HOk P w H h) (k : ∀ b u, h.get? b = some u → h'.get? b = some u) (hp : h.objs.size ≤ a) (new : ObjOk P w (upd H a o) h' a o) : HOk P w (upd H a o) h' := fun b u e => by
  have hn := x.fresh hp
  by_cases hb : b = a
  · subst hb; rw [upd_same] at e; cases e; exact new
  · rw [upd_ne hb] at e
    exact (x b u e).stay (fun c v _ q => k c v q) (fun c q => by rw [upd_ne (ne_of_none q hn)]; exact q) fun c xs q => by rw [upd_ne (ne_of_none q hn)]; exact q
end

/-- what may be read as u: it is u, or a known u -/
def Rd (H : Hp) (a : Addr) (u : HO) : Prop := H a = some u ∨ ∃ o, H a = some (.frz o u)
theorem Rd.of {H : Hp} {a : Addr} {u : HO} (h : H a = some u) : Rd H a u := .inl h
theorem Rd.ok {P : Program} {w : World} {H : Hp} {h : Heap} {a : Addr} {u : HO} (r : Rd H a u) (x : HOk P w H h) : ObjOk P w H h a u := by
  rcases r with r | ⟨o, r⟩
  · exact x a u r
  · obtain ⟨_, q⟩ := x a _ r
    exact q
/-- what may be written -/
def Mut : Option HO → Prop
  | some (.lst _) => True
  | some (.dK _) => True
  | some (.dT _) => True
  | some (.set _ _) => True
  | some (.ins _ _ _) => True
  | some (.ext _) => True
  | _ => False
section
variable {P : Program} {w : World} {H : Hp} {h h' : Heap} {x e : Addr} {o' : HO}
/-- the object at e is changed: x itself, or the dict of the instance x -/
theorem HOk.write (ok : HOk P w H h) (mu : Mut (H x)) (he : e = x ∨ H e = some (.own x)) (k : ∀ b u, b ≠ e → h.get? b = some u → h'.get? b = some u) (heo : ∃ u, h'.get? e = some u)
    (new : ObjOk P w (upd H x o') h' x o') : HOk P w (upd H x o') h' := fun b u q => by
  have nown : ∀ c y, H c = some (.own y) → c ≠ x := fun c y r z => by subst z; rw [r] at mu; exact mu
  have ntup : ∀ c xs, H c = some (.tup xs) → c ≠ x := fun c xs r z => by subst z; rw [r] at mu; exact mu
  by_cases hb : b = x
  · subst hb; rw [upd_same] at q; cases q; exact new
  · rw [upd_ne hb] at q
    by_cases hbe : b = e
    · have q' : H b = some (.own x) := by
        rcases he with z | z
        · exact absurd (hbe.trans z) hb
        · rw [hbe]; exact z
      rw [q] at q'; cases q'
      obtain ⟨v, hv⟩ := heo
      exact ⟨v, by rw [hbe]; exact hv⟩
    · refine (ok b u q).stay (fun c v hc r => k c v ?_ r) (fun c r => by rw [upd_ne (nown c b r)]; exact r) fun c xs r => by rw [upd_ne (ntup c xs r)]; exact r
      rcases hc with rfl | hc
      · exact hbe
      · rintro rfl
        rcases he with z | z
        · exact nown c b hc z
        · rw [hc] at z; cases z; exact hb rfl
end

/-! ### kept unless tracked; of the frames at fs (the callers') the slots may change (an exception that passes writes there); of the records at ex (iterators) nothing is said -/
structure Un (fs ex : List Addr) (H H' : Hp) (h h' : Heap) : Prop where
  keep : ∀ b o, h.get? b = some o → H b = none → b ∉ fs → b ∉ ex → h'.get? b = some o
  slot : ∀ b o, h.get? b = some o → H b = none → b ∈ fs → b ∉ ex → ∃ sl, h'.get? b = some { o with slots := sl }
  free : ∀ b o, h.get? b = some o → H b = none → b ∉ ex → H' b = none
  there : ∀ b o, h.get? b = some o → b ∉ ex → ∃ o', h'.get? b = some o'
  tups : ∀ b xs, H b = some (.tup xs) → H' b = some (.tup xs)
  frzs : ∀ b o u, H b = some (.frz o u) → H' b = some (.frz o u)
  tbls : ∀ b ps, H b = some (.tbl ps) → ∃ more, H' b = some (.tbl (ps ++ more))
section
variable {fs fs' ex ex' : List Addr} {H H1 H2 : Hp} {h h1 h2 h' : Heap} {a x e : Addr} {o : HO}
theorem Un.any (u : Un fs ex H H1 h h1) {b : Addr} {ob : Obj} (q : h.get? b = some ob) (n : H b = none) (hx : b ∉ ex) : ∃ sl, h1.get? b = some { ob with slots := sl } := by
  by_cases hb : b ∈ fs
  · exact u.slot b ob q n hb hx
  · exact ⟨ob.slots, u.keep b ob q n hb hx⟩
theorem Un.trans (a : Un fs ex H H1 h h1) (b : Un fs ex H1 H2 h1 h2) : Un fs ex H H2 h h2 where
  keep := fun c ob q n hc hx => b.keep c ob (a.keep c ob q n hc hx) (a.free c ob q n hx) hc hx
  slot := fun c ob q n hc hx => by
    obtain ⟨sl, e1⟩ := a.slot c ob q n hc hx
    obtain ⟨sl', e2⟩ := b.slot c _ e1 (a.free c ob q n hx) hc hx
    exact ⟨sl', e2⟩
  free := fun c ob q n hx => by
    obtain ⟨o', e1⟩ := a.there c ob q hx
    exact b.free c o' e1 (a.free c ob q n hx) hx
  there := fun c ob q hx => by
    obtain ⟨o', e1⟩ := a.there c ob q hx
    exact b.there c o' e1 hx
  tups := fun c xs q => b.tups c xs (a.tups c xs q)
  frzs := fun c ob xs q => b.frzs c ob xs (a.frzs c ob xs q)
  tbls := fun c ps q => by
    obtain ⟨m1, e1⟩ := a.tbls c ps q
    obtain ⟨m2, e2⟩ := b.tbls c _ e1
    exact ⟨m1 ++ m2, by rw [e2, Array.append_assoc]⟩
theorem Un.kept (k : ∀ b u, h.get? b = some u → h'.get? b = some u) : Un fs ex H H h h' :=
  ⟨fun b ob q _ _ _ => k b ob q, fun b ob q _ _ _ => ⟨ob.slots, k b ob q⟩, fun _ _ _ n _ => n, fun b ob q _ => ⟨ob, k b ob q⟩, fun _ _ q => q, fun _ _ _ q => q, fun _ ps q => ⟨#[], by rw [q]; simp⟩⟩
theorem Un.refl : Un fs ex H H h h := Un.kept fun _ _ q => q
theorem Un.laid (k : ∀ b u, h.get? b = some u → h'.get? b = some u) (hp : h.objs.size ≤ a) (hn : H a = none) : Un fs ex H (upd H a o) h h' where
  keep := fun b u q _ _ _ => k b u q
  slot := fun b u q _ _ _ => ⟨u.slots, k b u q⟩
  free := fun b u q n _ => by rw [upd_ne (Nat.ne_of_lt (Nat.lt_of_lt_of_le (Heap.lt_size q) hp))]; exact n
  there := fun b u q _ => ⟨u, k b u q⟩
  tups := fun b xs q => by rw [upd_ne (ne_of_none q hn)]; exact q
  frzs := fun b u xs q => by rw [upd_ne (ne_of_none q hn)]; exact q
  tbls := fun b ps q => ⟨#[], by rw [upd_ne (ne_of_none q hn), q]; simp⟩
theorem Un.write (mu : Mut (H x)) (he : e = x ∨ H e = some (.own x)) (k : ∀ b u, b ≠ e → h.get? b = some u → h'.get? b = some u) (heo : ∃ u, h'.get? e = some u) : Un fs ex H (upd H x o) h h' := by
  have hx : ∀ b, H b = none → b ≠ x := fun b n z => by subst z; rw [n] at mu; exact mu
  have hb : ∀ b, H b = none → b ≠ e := fun b n z => by
    subst z
    rcases he with r | r
    · exact hx b n r
    · rw [n] at r; cases r
  have hm : ∀ b u, H b = some u → ¬ Mut (some u) → b ≠ x := fun b u q nm z => by subst z; rw [q] at mu; exact nm mu
  refine ⟨fun b u q n _ _ => k b u (hb b n) q, fun b u q n _ _ => ⟨u.slots, k b u (hb b n) q⟩, fun b u q n _ => by rw [upd_ne (hx b n)]; exact n, fun b u q _ => ?_,
    fun b xs q => by rw [upd_ne (hm b _ q fun z => z)]; exact q, fun b u xs q => by rw [upd_ne (hm b _ q fun z => z)]; exact q, fun b ps q => ⟨#[], by rw [upd_ne (hm b _ q fun z => z), q]; simp⟩⟩
  by_cases hbe : b = e
  · subst hbe; exact heo
  · exact ⟨u, k b u hbe q⟩
theorem Un.mono (u : Un fs ex H H1 h h1) (hs : ∀ b ∈ fs, b ∈ fs') (hx : ∀ b ∈ ex, b ∈ ex') : Un fs' ex' H H1 h h1 :=
  ⟨fun b ob q n hb he => u.keep b ob q n (fun z => hb (hs b z)) fun z => he (hx b z), fun _ _ q n _ he => u.any q n fun z => he (hx _ z), fun b ob q n he => u.free b ob q n fun z => he (hx b z), fun b ob q he => u.there b ob q fun z => he (hx b z), u.tups, u.frzs, u.tbls⟩
end

/-! ### the heap without what is tracked -/
def trk (h : Heap) (H : Hp) : List Addr := (List.range h.objs.size).filter fun a => (H a).isSome
def hidT (h : Heap) (H : Hp) : Heap := PySem.W.hideAll h (trk h H)
theorem hidT_size (h : Heap) (H : Hp) : (hidT h H).objs.size = h.objs.size := PySem.W.hideAll_size _ _
theorem hidT_get {h : Heap} {H : Hp} {b : Addr} {o : Obj} (e : h.get? b = some o) (n : H b = none) : (hidT h H).get? b = some o :=
  PySem.W.hideAll_get _ e fun hm => by
    have q : (H b).isSome = true := (List.mem_filter.mp hm).2
    rw [n] at q; simp at q
theorem of_hidT {h : Heap} {H : Hp} {b : Addr} {o : Obj} (e : (hidT h H).get? b = some o) : h.get? b = some o ∧ H b = none := by
  have e' : h.get? b = some o := PySem.W.of_hideAll (trk h H) e
  refine ⟨e', ?_⟩
  cases q : H b with
  | none => rfl
  | some x =>
    have hm : b ∈ trk h H := List.mem_filter.mpr ⟨List.mem_range.mpr (Heap.lt_size e'), by simp [q]⟩
    have z : (hidT h H).get? b = none := PySem.W.hideAll_none (trk h H) hm
    rw [z] at e; cases e

/-! ### OpenK's ledger, filled with every new object but one -/
def allNews (g h : Heap) (L : Addr) : List (Addr × Obj) := (List.range h.objs.size).filterMap fun a => if a = L ∨ (g.get? a).isSome = true then none else (h.get? a).map fun o => (a, o)
theorem mem_allNews {g h : Heap} {L a : Addr} {o : Obj} (h1 : a ≠ L) (h2 : g.get? a = none) (h3 : h.get? a = some o) : (a, o) ∈ allNews g h L :=
  List.mem_filterMap.mpr ⟨a, List.mem_range.mpr (Heap.lt_size h3), by simp [h1, h2, h3]⟩
theorem of_mem_allNews {g h : Heap} {L : Addr} {p : Addr × Obj} (hp : p ∈ allNews g h L) : p.1 ≠ L ∧ g.get? p.1 = none ∧ h.get? p.1 = some p.2 := by
  obtain ⟨b, _, e⟩ := List.mem_filterMap.mp hp
  split at e
  · cases e
  · rename_i hn
    cases q : h.get? b with
    | none => rw [q] at e; simp at e
    | some u =>
      rw [q] at e
      simp only [Option.map_some, Option.some.injEq] at e
      subst e
      refine ⟨fun z => hn (.inl z), ?_, q⟩
      show g.get? b = none
      cases r : g.get? b with
      | none => rfl
      | some v => exact (hn (.inr (by simp [r]))).elim
def rest (g h : Heap) (L d : Addr) : List (Addr × Obj) := (allNews g h L).filter fun p => decide (p.1 ≠ d)
theorem rest_ne {g h : Heap} {L d : Addr} : ∀ p ∈ rest g h L d, p.1 ≠ d := fun p hp => of_decide_eq_true (List.mem_filter.mp hp).2
theorem mem_rest {g h : Heap} {L d a : Addr} {o : Obj} (h1 : a ≠ L) (h2 : g.get? a = none) (h3 : h.get? a = some o) (h4 : a ≠ d) : (a, o) ∈ rest g h L d :=
  List.mem_filter.mpr ⟨mem_allNews h1 h2 h3, decide_eq_true h4⟩
theorem news_all {g h : Heap} {L : Addr} : News g L h (allNews g h L) := fun p hp => let ⟨a, b, c⟩ := of_mem_allNews hp; ⟨c, a, b⟩
theorem news_at {g h : Heap} {L d : Addr} {o : Obj} (h1 : d ≠ L) (h2 : g.get? d = none) (h3 : h.get? d = some o) : News g L h ((d, o) :: rest g h L d) := fun p hp => by
  rcases List.mem_cons.mp hp with rfl | hp
  · exact ⟨h3, h1, h2⟩
  · exact news_all p (List.mem_filter.mp hp).1
/-- behind a rule that changed d alone: all else but the frame is kept -/
theorem kept_of_news {g h h' : Heap} {L d : Addr} {m : Str → Option Value} (k : ∀ b o, g.get? b = some o → h.get? b = some o) (F : Fr g L h' m) (N : News g L h' (rest g h L d)) :
    ∀ b o, b ≠ L → b ≠ d → h.get? b = some o → h'.get? b = some o := fun b o h1 h2 e => by
  cases q : g.get? b with
  | some u =>
    have := k b u q
    rw [e] at this; cases this
    exact F.keep b _ q
  | none => exact (N (b, o) (mem_rest h1 q e h2)).1
end L2

namespace L2
open PySem PySem.Spec PyProof.Rows

/-- the module's facts, over the base: the heap at the law's entry without what is tracked there -/
structure Mod (K : PySem.W.Frag) (mg : Str → Option Value) (base : Heap) : Prop where
  kin : K.In base
  glob : base.Ns mainGlobals mg
  blt : ∃ mb, base.Ns builtinsNs mb ∧ ∀ x : Str, x ≠ "__name__" → mb x = bootBuiltins x
  nolimit : base.NoLimit

/-- the context: a def's body (or a comprehension's block) running. base: fixed through the whole law; s₀, H₀: the entry; outer: the frames whose slots others may change (a def's callers); stack: all frames that run;
   ex: iterators that were made ahead of the entry and are walked here (a comprehension's); fn: the names whose cells were made at the entry (a def: all; a comprehension's block: its own); calm: not within an except suite; pn: pins that every state bears; xe: what is wanted of an exception that leaves the code -/
structure Cx where
  prog : Program
  w : World
  K : PySem.W.Frag
  mg : Str → Option Value
  base : Heap
  A : Around
  N : List Str
  s₀ : Shared
  H₀ : Hp
  env : Env
  outer : List Env
  stack : List Env
  ex : List Addr
  fn : Str → Bool
  calm : Bool
  pn : List (Addr × Obj)
  xe : Value → Shared → Prop
/-- the callers' frames -/
def frs (l : List Env) : List Addr := l.filterMap (·.frame)
abbrev Cx.fs (X : Cx) : List Addr := frs X.outer

def Vis (sc : Scope) (x : Str) : Prop := sc.names.lookup x = some .local ∨ sc.names.lookup x = some .cell ∨ sc.names.lookup x = some .free
def Loc (sc : Scope) (x : Str) : Prop := sc.names.lookup x = some .local ∨ sc.names.lookup x = some .cell
def Look (env : Env) (h : Heap) (m : Str → Option Value) (x : Str) (u : Value) : Prop :=
  (env.kindOf x = some .local ∧ m x = some u) ∨ ((env.kindOf x = some .cell ∨ env.kindOf x = some .free) ∧ ∃ c, env.cells.lookup x = some c ∧ h.IsCell c (some u))

structure Cx.Ok (X : Cx) : Prop where
  mod : Mod X.K X.mg X.base
  kind : X.env.scope.kind = .function
  glob : X.env.globals = mainGlobals
  blt : X.env.builtins = builtinsNs
  above : X.s₀.heap.objs.size ≤ X.env.locals
  inj : ∀ x y c, X.env.cells.lookup x = some c → X.env.cells.lookup y = some c → x = y
  has : ∀ x, (X.env.kindOf x = some .cell ∨ X.env.kindOf x = some .free) → ∃ c, X.env.cells.lookup x = some c
  cab : ∀ x c, X.fn x = true → X.env.cells.lookup x = some c → X.s₀.heap.objs.size ≤ c
  hd : X.calm = true → X.A.handled = none
  frames : X.A.frames = some X.stack
  stk : X.stack = X.outer ∨ (X.stack = X.env :: X.outer ∧ X.env.frame = some X.env.locals)
  exf : ∀ b ∈ X.ex, b ≠ X.env.locals ∧ ∀ x c, X.env.cells.lookup x = some c → c ≠ b
  bs : ∀ b o, X.base.get? b = some o → X.s₀.heap.get? b = some o ∧ X.H₀ b = none
  bsz : X.base.objs.size ≤ X.s₀.heap.objs.size
  noex : ∀ b o, X.base.get? b = some o → b ∉ X.ex
  exfs : ∀ b ∈ X.ex, b ∉ X.fs
  funs : X.s₀.heap.FunFrames X.base X.outer
  frf : ∀ b ∈ X.fs, X.H₀ b = none

structure Inv (X : Cx) (pins : List (Addr × Obj)) (σ : List (Option V)) (H : Hp) (s : Shared) : Prop where
  ok : X.Ok
  os : s.os = X.s₀.os
  bare : AllBare s.gens
  base : Un X.fs X.ex X.H₀ H X.s₀.heap s.heap
  loc : ∃ m, s.heap.Ns X.env.locals m ∧ ∀ (i : Nat) (x : Str) (v : V), X.N[i]? = some x → σ[i]? = some (some v) → Vis X.env.scope x → ∃ u, RelV v u ∧ Look X.env s.heap m x u
  cell : ∀ x c, X.env.cells.lookup x = some c → ∃ v, s.heap.IsCell c v
  free : H X.env.locals = none
  freeC : ∀ x c, X.env.cells.lookup x = some c → H c = none
  pin : ∀ p ∈ X.pn ++ pins, s.heap.get? p.1 = some p.2 ∧ H p.1 = none ∧ p.1 ≠ X.env.locals ∧ p.1 ∉ X.fs ∧ ∀ v, p.2.data ≠ .cell v
  hok : HOk X.prog X.w H s.heap
  len : σ.length = X.N.length

section
variable {X : Cx} {pins : List (Addr × Obj)} {σ : List (Option V)} {H H' : Hp} {s : Shared} {h' : Heap}

theorem Cx.Ok.nofr (ok : X.Ok) {b : Addr} {o : Obj} (e : X.base.get? b = some o) : b ∉ X.fs := fun hb => by
  have := (ok.funs.mem hb).1
  rw [e] at this; cases this
theorem Inv.bs (I : Inv X pins σ H s) : ∀ b o, X.base.get? b = some o → s.heap.get? b = some o ∧ H b = none := fun b o e =>
  ⟨I.base.keep b o (I.ok.bs b o e).1 (I.ok.bs b o e).2 (I.ok.nofr e) (I.ok.noex b o e), I.base.free b o (I.ok.bs b o e).1 (I.ok.bs b o e).2 (I.ok.noex b o e)⟩
theorem Inv.bk (I : Inv X pins σ H s) : ∀ b o, X.base.get? b = some o → s.heap.get? b = some o := fun b o e => (I.bs b o e).1
theorem Inv.mod (I : Inv X pins σ H s) : Mod X.K X.mg X.base := I.ok.mod
theorem Inv.kIn (I : Inv X pins σ H s) : X.K.In s.heap := I.ok.mod.kin.keeps I.bk
theorem Inv.nolimit (I : Inv X pins σ H s) : s.heap.NoLimit := I.ok.mod.nolimit.keeps I.bk
/-- the frame over the base: for OpenK's rules (K.In X.base is I.mod.kin) -/
theorem Inv.fr (I : Inv X pins σ H s) : ∃ m, Fr X.base X.env.locals s.heap m :=
  let ⟨m, hn, _⟩ := I.loc
  ⟨m, hn, I.bk, Nat.le_trans I.ok.bsz I.ok.above⟩
theorem Inv.lt (I : Inv X pins σ H s) : X.env.locals < s.heap.objs.size := let ⟨_, hn, _⟩ := I.loc; hn.lt
theorem Inv.sz (I : Inv X pins σ H s) : X.s₀.heap.objs.size ≤ s.heap.objs.size := Nat.le_trans I.ok.above (Nat.le_of_lt I.lt)
theorem Inv.nofs (I : Inv X pins σ H s) {a : Addr} (h : s.heap.objs.size ≤ a) : a ∉ X.fs := fun hb => by
  obtain ⟨_, o, ho, _⟩ := I.ok.funs.mem hb
  exact absurd (Nat.lt_of_lt_of_le (Heap.lt_size ho) (Nat.le_trans I.sz h)) (Nat.lt_irrefl _)
theorem Inv.cne (I : Inv X pins σ H s) : ∀ x c, X.env.cells.lookup x = some c → c ≠ X.env.locals := fun x c e z => by
  obtain ⟨v, o, ho, hd⟩ := I.cell x c e
  obtain ⟨m, ⟨o', es, ep, ho', hd', _⟩, _⟩ := I.loc
  rw [z, ho'] at ho; cases ho; rw [hd'] at hd; cases hd
theorem Inv.funs (I : Inv X pins σ H s) : s.heap.FunFrames X.base X.outer := by
  have all : ∀ (l : List Env), (∀ b ∈ frs l, b ∈ X.fs) → X.s₀.heap.FunFrames X.base l → s.heap.FunFrames X.base l := by
    intro l
    induction l with
    | nil => intro _ _; trivial
    | cons env r ih =>
      intro hs hl
      obtain ⟨hk, ⟨L, o, hf, hn, ho, hd⟩, hr⟩ := hl
      have hL : L ∈ X.fs := hs L (by unfold frs; rw [List.filterMap_cons, hf]; exact List.mem_cons_self)
      obtain ⟨sl, e⟩ := I.base.slot L o ho (I.ok.frf L hL) hL fun z => I.ok.exfs L z hL
      exact ⟨hk, ⟨L, _, hf, hn, e, hd⟩, ih (fun b hb => hs b (by unfold frs; rw [List.filterMap_cons, hf]; exact List.mem_cons_of_mem _ hb)) hr⟩
  exact all X.outer (fun _ hb => hb) I.ok.funs

/-- the frames that run, for a call -/
theorem Inv.stack (I : Inv X pins σ H s) : s.heap.FunFrames X.base X.stack := by
  rcases I.ok.stk with e | ⟨e, hf⟩
  · rw [e]; exact I.funs
  · rw [e]
    obtain ⟨m, hn, _⟩ := I.loc
    refine .cons (by rw [I.ok.kind]; decide) hf hn ?_ I.funs
    exact Heap.get?_none_of_le (Nat.le_trans I.ok.bsz I.ok.above)
theorem Inv.stkSub (I : Inv X pins σ H s) : ∀ b ∈ frs X.stack, b ∈ X.env.locals :: X.fs := fun b hb => by
  rcases I.ok.stk with e | ⟨e, hf⟩
  · rw [e] at hb; exact List.mem_cons_of_mem _ hb
  · rw [e] at hb
    unfold frs at hb
    rw [List.filterMap_cons, hf] at hb
    exact hb
theorem Inv.stkFree (I : Inv X pins σ H s) : ∀ b ∈ frs X.stack, H b = none := fun b hb => by
  rcases List.mem_cons.mp (I.stkSub b hb) with e | hb
  · rw [e]; exact I.free
  · obtain ⟨_, o, ho, _⟩ := I.ok.funs.mem hb
    exact I.base.free b o ho (I.ok.frf b hb) fun z => I.ok.exfs b z hb

/-- THE STEP: the untracked objects but the frame and the records at ch are kept (the callers' frames up to slots), the frame's map is kept, the new abstract heap is held -/
theorem Inv.step {g' : Array GenState} {t' : Nat} {d' : Drawn} {ch : List Addr} (I : Inv X pins σ H s)
    (hch : ∀ b ∈ ch, (b ∈ X.ex ∨ X.s₀.heap.objs.size ≤ b) ∧ b ≠ X.env.locals ∧ (∀ x c, X.env.cells.lookup x = some c → c ≠ b) ∧ ∀ p ∈ X.pn ++ pins, p.1 ≠ b)
    (keep : ∀ b o, b ≠ X.env.locals → b ∉ X.fs → b ∉ ch → s.heap.get? b = some o → H b = none → h'.get? b = some o)
    (slot : ∀ b o, b ≠ X.env.locals → b ∈ X.fs → b ∉ ch → s.heap.get? b = some o → H b = none → ∃ sl, h'.get? b = some { o with slots := sl }) (free : ∀ b o, b ∉ ch → s.heap.get? b = some o → H b = none → H' b = none)
    (there : ∀ b o, b ∉ ch → s.heap.get? b = some o → ∃ o', h'.get? b = some o')
    (tups : ∀ b xs, H b = some (.tup xs) → H' b = some (.tup xs)) (frzs : ∀ b o u, H b = some (.frz o u) → H' b = some (.frz o u)) (tbls : ∀ b ps, H b = some (.tbl ps) → ∃ more, H' b = some (.tbl (ps ++ more)))
    (ns : ∀ m, s.heap.Ns X.env.locals m → h'.Ns X.env.locals m) (hok : HOk X.prog X.w H' h') (hg : AllBare g') :
    Inv X pins σ H' { s with heap := h', gens := g', drawn := d', toks := t' } := by
  have neL : ∀ b o, X.s₀.heap.get? b = some o → b ≠ X.env.locals := fun b o e => Nat.ne_of_lt (Nat.lt_of_lt_of_le (Heap.lt_size e) I.ok.above)
  have neC : ∀ b o, X.s₀.heap.get? b = some o → b ∉ X.ex → b ∉ ch := fun b o e hx hb => by
    rcases (hch b hb).1 with z | z
    · exact hx z
    · exact absurd (Nat.lt_of_lt_of_le (Heap.lt_size e) z) (Nat.lt_irrefl _)
  have cellK : ∀ x c, X.env.cells.lookup x = some c → ∀ v, s.heap.IsCell c v → h'.IsCell c v := fun x c e v ⟨o, ho, hd⟩ => by
    have nch : c ∉ ch := fun z => (hch c z).2.2.1 x c e rfl
    by_cases hc : c ∈ X.fs
    · obtain ⟨sl, q⟩ := slot c o (I.cne x c e) hc nch ho (I.freeC x c e)
      exact ⟨_, q, hd⟩
    · exact ⟨o, keep c o (I.cne x c e) hc nch ho (I.freeC x c e), hd⟩
  refine ⟨I.ok, I.os, hg, ⟨fun b o e n hb hx => ?_, fun b o e n hb hx => ?_, fun b o e n hx => ?_, fun b o e hx => ?_, fun b xs e => tups b xs (I.base.tups b xs e), fun b o xs e => frzs b o xs (I.base.frzs b o xs e), fun b ps e => ?_⟩, ?_, fun x c e => ?_, ?_, fun x c e => ?_, fun p hp => ?_, hok, I.len⟩
  · exact keep b o (neL b o e) hb (neC b o e hx) (I.base.keep b o e n hb hx) (I.base.free b o e n hx)
  · obtain ⟨sl, e1⟩ := I.base.slot b o e n hb hx
    obtain ⟨sl', e2⟩ := slot b _ (neL b o e) hb (neC b o e hx) e1 (I.base.free b o e n hx)
    exact ⟨sl', e2⟩
  · obtain ⟨o', e1⟩ := I.base.there b o e hx
    exact free b o' (neC b o e hx) e1 (I.base.free b o e n hx)
  · obtain ⟨o', e1⟩ := I.base.there b o e hx
    exact there b o' (neC b o e hx) e1
  · obtain ⟨m1, e1⟩ := I.base.tbls b ps e
    obtain ⟨m2, e2⟩ := tbls b _ e1
    exact ⟨m1 ++ m2, by rw [e2, Array.append_assoc]⟩
  · obtain ⟨m, hn, hl⟩ := I.loc
    refine ⟨m, ns m hn, fun i x v e1 e2 e3 => ?_⟩
    obtain ⟨u, r, l⟩ := hl i x v e1 e2 e3
    refine ⟨u, r, ?_⟩
    rcases l with l | ⟨k, c, e, z⟩
    · exact .inl l
    · exact .inr ⟨k, c, e, cellK x c e _ z⟩
  · obtain ⟨v, z⟩ := I.cell x c e
    exact ⟨v, cellK x c e v z⟩
  · obtain ⟨m, ⟨o, _, _, ho, _⟩, _⟩ := I.loc
    exact free _ o (fun z => (hch _ z).2.1 rfl) ho I.free
  · obtain ⟨v, o, ho, hd⟩ := I.cell x c e
    exact free c o (fun z => (hch c z).2.2.1 x c e rfl) ho (I.freeC x c e)
  · obtain ⟨e, n, ne, nf, d⟩ := I.pin p hp
    have nch : p.1 ∉ ch := fun z => (hch p.1 z).2.2.2 p hp rfl
    exact ⟨keep p.1 p.2 ne nf nch e n, free p.1 p.2 nch e n, ne, nf, d⟩
/-- .. where the frame's own object is kept too -/
theorem Inv.un {t' : Nat} (I : Inv X pins σ H s) (u : Un X.fs [] H H' s.heap h') (hok : HOk X.prog X.w H' h') : Inv X pins σ H' { s with heap := h', toks := t' } := by
  obtain ⟨m, ⟨o, es, ep, ho, r⟩, _⟩ := id I.loc
  obtain ⟨sl, hL⟩ := u.any ho I.free (by simp)
  exact I.step (g' := s.gens) (d' := s.drawn) (ch := []) (fun _ z => nomatch z) (fun b o _ hb _ e n => u.keep b o e n hb (by simp)) (fun b o _ hb _ e n => u.slot b o e n hb (by simp)) (fun b o _ e n => u.free b o e n (by simp)) (fun b o _ e => u.there b o e (by simp)) u.tups u.frzs u.tbls (fun m' hm => by
    obtain ⟨o', es', ep', ho', r'⟩ := hm
    rw [ho] at ho'; cases ho'
    exact ⟨_, es', ep', hL, r'⟩) hok I.bare
/-- behind a call (or a comprehension's block): the slots of this frame may have changed too, the records at ch may have turned -/
theorem Inv.call {g' : Array GenState} {t' : Nat} {d' : Drawn} {ch : List Addr} (I : Inv X pins σ H s) (u : Un (frs X.stack) ch H H' s.heap h') (hok : HOk X.prog X.w H' h') (hg : AllBare g')
    (hch : ∀ b ∈ ch, (b ∈ X.ex ∨ X.s₀.heap.objs.size ≤ b) ∧ b ≠ X.env.locals ∧ (∀ x c, X.env.cells.lookup x = some c → c ≠ b) ∧ ∀ p ∈ X.pn ++ pins, p.1 ≠ b) :
    Inv X pins σ H' { s with heap := h', gens := g', drawn := d', toks := t' } := by
  obtain ⟨m, ⟨o, es, ep, ho, r⟩, _⟩ := id I.loc
  obtain ⟨sl, hL⟩ := u.any ho I.free fun z => (hch _ z).2.1 rfl
  exact I.step (ch := ch) hch (fun b o hL hb hc e n => u.keep b o e n (fun z => (List.mem_cons.mp (I.stkSub b z)).elim hL hb) hc) (fun b o _ _ hc e n => u.any e n hc) (fun b o hc e n => u.free b o e n hc) (fun b o hc e => u.there b o e hc) u.tups u.frzs u.tbls (fun m' hm => by
    obtain ⟨o', es', ep', ho', r'⟩ := hm
    rw [ho] at ho'; cases ho'
    exact ⟨_, es', ep', hL, r'⟩) hok hg
/-- an untracked record of ours (an iterator) has turned -/
theorem Inv.turned {t' : Nat} {it : Addr} (I : Inv X pins σ H s) (k : ∀ b o, b ≠ it → s.heap.get? b = some o → h'.get? b = some o) (hn : H it = none) (hL : it ≠ X.env.locals)
    (h1 : it ∈ X.ex ∨ X.s₀.heap.objs.size ≤ it) (h2 : ∀ x c, X.env.cells.lookup x = some c → c ≠ it) (h3 : ∀ p ∈ X.pn ++ pins, p.1 ≠ it) : Inv X pins σ H { s with heap := h', toks := t' } := by
  have nit : ∀ b u, H b = some u → b ≠ it := fun b u e z => by rw [z, hn] at e; cases e
  refine I.step (g' := s.gens) (d' := s.drawn) (ch := [it]) (fun b hb => ?_) (fun b o _ _ hc e _ => k b o (fun z => hc (by simp [z])) e) (fun b o _ _ hc e _ => ⟨o.slots, k b o (fun z => hc (by simp [z])) e⟩) (fun _ _ _ _ n => n)
    (fun b o hc e => ⟨o, k b o (fun z => hc (by simp [z])) e⟩) (fun _ _ e => e) (fun _ _ _ e => e) (fun b ps e => ⟨#[], by rw [e]; simp⟩) (fun m hm => ?_) (fun b u e => ?_) I.bare
  · have e : b = it := by simpa using hb
    subst e
    exact ⟨h1, hL, h2, h3⟩
  · obtain ⟨o, es, ep, ho, r⟩ := hm
    exact ⟨o, es, ep, k _ o (Ne.symm hL) ho, r⟩
  · refine (I.hok b u e).stay (fun c v hc q => k c v ?_ q) (fun _ q => q) fun _ _ q => q
    rcases hc with z | z
    · rw [z]; exact nit b u e
    · exact nit c _ z
theorem Inv.tok (I : Inv X pins σ H s) (t : Nat) : Inv X pins σ H { s with toks := t } := I.un (h' := s.heap) (t' := t) Un.refl I.hok
/-- all objects kept -/
theorem Inv.kept {t' : Nat} (I : Inv X pins σ H s) (k : ∀ b u, s.heap.get? b = some u → h'.get? b = some u) : Inv X pins σ H { s with heap := h', toks := t' } := I.un (Un.kept k) (I.hok.kept k)
/-- a new object laid and tracked -/
theorem Inv.laid {a : Addr} {o : HO} {t' : Nat} (I : Inv X pins σ H s) (k : ∀ b u, s.heap.get? b = some u → h'.get? b = some u) (hp : s.heap.objs.size ≤ a) (new : ObjOk X.prog X.w (upd H a o) h' a o) :
    Inv X pins σ (upd H a o) { s with heap := h', toks := t' } := I.un (Un.laid k hp (I.hok.fresh hp)) (I.hok.laid k hp new)
/-- an object written -/
theorem Inv.write {x e : Addr} {o : HO} {t' : Nat} (I : Inv X pins σ H s) (mu : Mut (H x)) (he : e = x ∨ H e = some (.own x)) (k : ∀ b u, b ≠ e → s.heap.get? b = some u → h'.get? b = some u) (heo : ∃ u, h'.get? e = some u)
    (new : ObjOk X.prog X.w (upd H x o) h' x o) : Inv X pins σ (upd H x o) { s with heap := h', toks := t' } := I.un (Un.write mu he k heo) (I.hok.write mu he k heo new)
/-- forgetting slots, pins -/
theorem Inv.weak {σ' : List (Option V)} (I : Inv X pins σ H s) (hl : σ'.length = σ.length) (w : ∀ (i : Nat) v, σ'[i]? = some (some v) → σ[i]? = some (some v)) : Inv X pins σ' H s :=
  ⟨I.ok, I.os, I.bare, I.base, let ⟨m, hn, hl'⟩ := I.loc; ⟨m, hn, fun i x v e1 e2 e3 => hl' i x v e1 (w i v e2) e3⟩, I.cell, I.free, I.freeC, I.pin, I.hok, hl.trans I.len⟩
theorem Inv.pins_of {pins' : List (Addr × Obj)} (I : Inv X pins σ H s) (h : ∀ p ∈ pins', s.heap.get? p.1 = some p.2 ∧ H p.1 = none ∧ p.1 ≠ X.env.locals ∧ p.1 ∉ X.fs ∧ ∀ v, p.2.data ≠ .cell v) : Inv X pins' σ H s :=
  ⟨I.ok, I.os, I.bare, I.base, I.loc, I.cell, I.free, I.freeC, fun p hp => (List.mem_append.mp hp).elim (fun z => I.pin p (List.mem_append_left _ z)) (h p), I.hok, I.len⟩

theorem nodup_ix {N : List Str} (hN : N.Nodup) {i j : Nat} {x : Str} (a : N[i]? = some x) (b : N[j]? = some x) : i = j := by
  obtain ⟨h1, e1⟩ := List.getElem?_eq_some_iff.mp a
  obtain ⟨h2, e2⟩ := List.getElem?_eq_some_iff.mp b
  exact (List.getElem_inj hN).mp (e1.trans e2.symm)

/-- a name is stored; what changed -/
theorem store_ok2 {M : Model} {A : Around} {E : Value → Shared → Prop} {i : Nat} {x : Str} {v : V} {u : Value} {Q : Unit → Shared → Prop} (I : Inv X pins σ H s) (hN : X.N.Nodup) (hi : X.N[i]? = some x) (hx : Loc X.env.scope x) (r : RelV v u)
    (h : ∀ s', Inv X pins (σ.set i (some v)) H s' → (∃ a, Heap.SameBut a s.heap s'.heap ∧ (a = X.env.locals ∨ X.env.cells.lookup x = some a)) → Q () s') (hf : X.fn x = true ∨ X.env.scope.names.lookup x = some .local := by first | exact .inl rfl | exact .inr rfl | assumption) : wpAny M A (storeName X.env x u) Q E s := by
  obtain ⟨m, hn, hl⟩ := id I.loc
  have hcls : (X.env.scope.kind == .class || (X.env.scope.kind == .module && X.env.locals != X.env.globals)) = false := by rw [I.ok.kind]; rfl
  have hiσ : i < σ.length := by rw [I.len]; exact (List.getElem?_eq_some_iff.mp hi).1
  have cne := I.cne
  have tracked : ∀ {a : Addr} {h' : Heap}, (∃ o, s.heap.get? a = some o ∧ H a = none) → Heap.SameBut a s.heap h' → HOk X.prog X.w H h' := fun {a h'} ha hs b ob e => by
    obtain ⟨_, _, hfree⟩ := ha
    refine (I.hok b ob e).stay (fun c w' hc q => (hs.2 c ?_).trans q) (fun _ q => q) fun _ _ q => q
    rintro rfl
    rcases hc with rfl | hc
    · rw [hfree] at e; cases e
    · rw [hfree] at hc; cases hc
  rcases hx with hk | hk
  · refine wpAny_storeName_local hk hn (fun h' hn' hs => ?_) hcls
    obtain ⟨oL, _, _, hoL, _⟩ := id hn
    refine h _ ⟨I.ok, I.os, I.bare, ⟨fun b o e n hb hx => ?_, fun b o e n hb hx => ?_, I.base.free, fun b o e hx => ?_, I.base.tups, I.base.frzs, I.base.tbls⟩, ⟨_, hn', fun j y v' e1 e2 e3 => ?_⟩, fun y c e => ?_, I.free, I.freeC, fun p hp => ?_, tracked ⟨oL, hoL, I.free⟩ hs, by simpa using I.len⟩ ⟨_, hs, .inl rfl⟩
    · exact (hs.2 b (Nat.ne_of_lt (Nat.lt_of_lt_of_le (Heap.lt_size e) I.ok.above))).trans (I.base.keep b o e n hb hx)
    · obtain ⟨sl, e1⟩ := I.base.slot b o e n hb hx
      exact ⟨sl, (hs.2 b (Nat.ne_of_lt (Nat.lt_of_lt_of_le (Heap.lt_size e) I.ok.above))).trans e1⟩
    · obtain ⟨o', e1⟩ := I.base.there b o e hx
      exact ⟨o', (hs.2 b (Nat.ne_of_lt (Nat.lt_of_lt_of_le (Heap.lt_size e) I.ok.above))).trans e1⟩
    · by_cases hj : j = i
      · subst hj
        rw [hi] at e1; cases e1
        rw [List.getElem?_set_self hiσ] at e2
        cases e2
        exact ⟨u, r, .inl ⟨hk, by simp⟩⟩
      · rw [List.getElem?_set_ne (Ne.symm hj)] at e2
        obtain ⟨u', r', q⟩ := hl j y v' e1 e2 e3
        refine ⟨u', r', ?_⟩
        rcases q with ⟨k, e⟩ | ⟨k, c, e, z⟩
        · refine .inl ⟨k, ?_⟩
          have : y ≠ x := fun e => hj (nodup_ix hN e1 (e ▸ hi))
          simp [this, e]
        · exact .inr ⟨k, c, e, z.sameBut hs (cne y c e)⟩
    · obtain ⟨w', z⟩ := I.cell y c e
      exact ⟨w', z.sameBut hs (cne y c e)⟩
    · obtain ⟨e, n, ne, nf, d⟩ := I.pin p hp
      exact ⟨(hs.2 p.1 ne).trans e, n, ne, nf, d⟩
  · have hfn : X.fn x = true := by
      rcases hf with z | z
      · exact z
      · rw [z] at hk; cases hk
    obtain ⟨c, hc⟩ := I.ok.has x (.inl hk)
    obtain ⟨w', z⟩ := I.cell x c hc
    refine wpAny_storeName_cell I.ok.kind hk hc z (fun h' hc' hs => ?_)
    obtain ⟨oc, hoc, hocd⟩ := id z
    refine h { s with heap := h' } ⟨I.ok, I.os, I.bare, ⟨fun b o e n hb hx => ?_, fun b o e n hb hx => ?_, I.base.free, fun b o e hx => ?_, I.base.tups, I.base.frzs, I.base.tbls⟩, ⟨m, hn.sameBut hs (Ne.symm (cne x c hc)), fun j y v' e1 e2 e3 => ?_⟩, fun y c' e => ?_, I.free, I.freeC, fun p hp => ?_, tracked ⟨oc, hoc, I.freeC x c hc⟩ hs, by simpa using I.len⟩ ⟨c, hs, .inr hc⟩
    · exact (hs.2 b (Nat.ne_of_lt (Nat.lt_of_lt_of_le (Heap.lt_size e) (I.ok.cab x c hfn hc)))).trans (I.base.keep b o e n hb hx)
    · obtain ⟨sl, e1⟩ := I.base.slot b o e n hb hx
      exact ⟨sl, (hs.2 b (Nat.ne_of_lt (Nat.lt_of_lt_of_le (Heap.lt_size e) (I.ok.cab x c hfn hc)))).trans e1⟩
    · obtain ⟨o', e1⟩ := I.base.there b o e hx
      exact ⟨o', (hs.2 b (Nat.ne_of_lt (Nat.lt_of_lt_of_le (Heap.lt_size e) (I.ok.cab x c hfn hc)))).trans e1⟩
    · by_cases hj : j = i
      · subst hj
        rw [hi] at e1; cases e1
        rw [List.getElem?_set_self hiσ] at e2
        cases e2
        exact ⟨u, r, .inr ⟨.inl hk, c, hc, hc'⟩⟩
      · rw [List.getElem?_set_ne (Ne.symm hj)] at e2
        obtain ⟨u', r', q⟩ := hl j y v' e1 e2 e3
        refine ⟨u', r', ?_⟩
        rcases q with q | ⟨k, c', e, z'⟩
        · exact .inl q
        · refine .inr ⟨k, c', e, z'.sameBut hs ?_⟩
          rintro rfl
          exact hj (nodup_ix hN e1 (I.ok.inj _ _ _ e hc ▸ hi))
    · by_cases hcc : c' = c
      · subst hcc; exact ⟨_, hc'⟩
      · obtain ⟨w2, z2⟩ := I.cell y c' e
        exact ⟨w2, z2.sameBut hs hcc⟩
    · obtain ⟨e, n, ne, nf, d⟩ := I.pin p hp
      refine ⟨(hs.2 p.1 ?_).trans e, n, ne, nf, d⟩
      intro q
      rw [q, hoc] at e
      have q' : oc = p.2 := Option.some.inj e
      exact d w' (by rw [← q']; exact hocd)
theorem store_ok {M : Model} {A : Around} {E : Value → Shared → Prop} {i : Nat} {x : Str} {v : V} {u : Value} {Q : Unit → Shared → Prop} (I : Inv X pins σ H s) (hN : X.N.Nodup) (hi : X.N[i]? = some x) (hx : Loc X.env.scope x) (r : RelV v u)
    (h : ∀ s', Inv X pins (σ.set i (some v)) H s' → Q () s') (hf : X.fn x = true ∨ X.env.scope.names.lookup x = some .local := by first | exact .inl rfl | exact .inr rfl | assumption) : wpAny M A (storeName X.env x u) Q E s :=
  store_ok2 I hN hi hx r (fun s' I' _ => h s' I') hf
/-- behind a call or a block, the state as it is -/
theorem Inv.call' {s' : Shared} {ch : List Addr} (I : Inv X pins σ H s) (ho : s'.os = s.os) (u : Un (frs X.stack) ch H H' s.heap s'.heap) (hok : HOk X.prog X.w H' s'.heap) (hg : AllBare s'.gens)
    (hch : ∀ b ∈ ch, (b ∈ X.ex ∨ X.s₀.heap.objs.size ≤ b) ∧ b ≠ X.env.locals ∧ (∀ x c, X.env.cells.lookup x = some c → c ≠ b) ∧ ∀ p ∈ X.pn ++ pins, p.1 ≠ b) : Inv X pins σ H' s' := by
  obtain ⟨h', g', d', t', o'⟩ := s'
  have e : o' = s.os := ho
  subst e
  exact I.call (g' := g') (t' := t') (d' := d') u hok hg hch
end

/-! ### the judgements -/
/-- an exception: its class, its own dict's address (where it has one), the abstract heap behind it -/
abbrev XK := Value → Option Addr → Hp → Prop
abbrev St := List (Option V)
abbrev VK := V → Hp → Prop
/-- an expression's reading; a test's; an argument list's -/
abbrev TE := St → Hp → VK → Prop
abbrev TT := St → Hp → (Bool → Hp → Prop) → Prop
abbrev TA := St → Hp → (List V → Hp → Prop) → Prop
/-- what is wanted behind a statement -/
structure Ends where
  nx : St → Hp → Prop
  rt : VK
  bk : St → Hp → Prop := fun _ _ => False
  ct : St → Hp → Prop := fun _ _ => False
abbrev TS := Ends → St → Hp → Prop

def EP (X : Cx) (pins : List (Addr × Obj)) (σ : St) (Q : VK) (u : Value) (s' : Shared) : Prop := ∃ v H', Inv X pins σ H' s' ∧ RelV v u ∧ Q v H'
def TP (X : Cx) (pins : List (Addr × Obj)) (σ : St) (Q : Bool → Hp → Prop) (b : Bool) (s' : Shared) : Prop := ∃ H', Inv X pins σ H' s' ∧ Q b H'
def AP (X : Cx) (pins : List (Addr × Obj)) (σ : St) (Q : List V → Hp → Prop) (us : List Value) (s' : Shared) : Prop := ∃ vs H', Inv X pins σ H' s' ∧ Vals vs us ∧ Q vs H'
def SP (X : Cx) (pins : List (Addr × Obj)) (D : Ends) (f : Flow) (s' : Shared) : Prop :=
  match f with
  | .next => ∃ σ' H', Inv X pins σ' H' s' ∧ D.nx σ' H'
  | .brk => ∃ σ' H', Inv X pins σ' H' s' ∧ D.bk σ' H'
  | .cont => ∃ σ' H', Inv X pins σ' H' s' ∧ D.ct σ' H'
  | .ret u => ∃ v σ' H', Inv X pins σ' H' s' ∧ RelV v u ∧ D.rt v H'

def PE (X : Cx) (e : Expr) (t : TE) : Prop :=
  ∀ (pins : List (Addr × Obj)) (s : Shared) (σ : St) (H : Hp) (Q : VK), Inv X pins σ H s → t σ H Q → wpAny (model X.prog X.w) X.A (eval e X.env) (EP X pins σ Q) X.xe s
def PT (X : Cx) (e : Expr) (t : TT) : Prop :=
  ∀ (pins : List (Addr × Obj)) (s : Shared) (σ : St) (H : Hp) (Q : Bool → Hp → Prop), Inv X pins σ H s → t σ H Q → wpAny (model X.prog X.w) X.A (isTrue e X.env (eval e X.env)) (TP X pins σ Q) X.xe s
/-- a test whatever its 'whole' is (and, or) -/
def PW (X : Cx) (e : Expr) (t : TT) : Prop :=
  ∀ (whole : Sem Value) (pins : List (Addr × Obj)) (s : Shared) (σ : St) (H : Hp) (Q : Bool → Hp → Prop), Inv X pins σ H s → t σ H Q → wpAny (model X.prog X.w) X.A (isTrue e X.env whole) (TP X pins σ Q) X.xe s
theorem PW.pt {X : Cx} {e : Expr} {t : TT} (h : PW X e t) : PT X e t := h _
/-- an argument list (no star), from the left -/
def PA (X : Cx) (es : List Expr) (t : TA) : Prop :=
  ∀ (pos : Pos) (pins : List (Addr × Obj)) (s : Shared) (σ : St) (H : Hp) (Q : List V → Hp → Prop), Inv X pins σ H s → t σ H Q → wpAny (model X.prog X.w) X.A (spliced (backTo pos (starEach es X.env))) (AP X pins σ Q) X.xe s
def PS (X : Cx) (st : Stmt) (t : TS) : Prop :=
  ∀ (pins : List (Addr × Obj)) (s : Shared) (σ : St) (H : Hp) (D : Ends), Inv X pins σ H s → t D σ H → wpAny (model X.prog X.w) X.A (exec st X.env) (SP X pins D) X.xe s
def PSs (X : Cx) (st : List Stmt) (t : TS) : Prop :=
  ∀ (pins : List (Addr × Obj)) (s : Shared) (σ : St) (H : Hp) (D : Ends), Inv X pins σ H s → t D σ H → wpAny (model X.prog X.w) X.A (execs st X.env) (SP X pins D) X.xe s
/-- weaken the end -/
theorem thn {α : Type} {t : Sem α} {Q Q' : α → Shared → Prop} {M : Model} {A : Around} {E : Value → Shared → Prop} {s : Shared} (h : wpAny M A t Q E s) (hQ : ∀ a s, Q a s → Q' a s) : wpAny M A t Q' E s := wpAny_mono h hQ fun _ _ x => x
end L2

namespace L2
open PySem PySem.Spec PyProof.Rows
section
variable {X : Cx}

/-- two expressions in a row -/
theorem bin {a b : Expr} {ta tb : TE} (ha : PE X a ta) (hb : PE X b tb) {pins : List (Addr × Obj)} {s : Shared} {σ : St} {H : Hp} {R : V → V → Hp → Prop} (I : Inv X pins σ H s) (h : ta σ H fun x H1 => tb σ H1 fun y H2 => R x y H2)
    {α : Type} {Q : α → Shared → Prop} {f : Value → Value → Sem α}
    (hf : ∀ v u s2 x y H2, Inv X pins σ H2 s2 → RelV x v → RelV y u → R x y H2 → wpAny (model X.prog X.w) X.A (f v u) Q X.xe s2) :
    wpAny (model X.prog X.w) X.A (eval a X.env) (fun v s₁ => wpAny (model X.prog X.w) X.A (eval b X.env) (fun u s₂ => wpAny (model X.prog X.w) X.A (f v u) Q X.xe s₂) X.xe s₁) X.xe s := by
  refine thn (ha pins s σ H _ I h) fun v s1 ⟨x, H1, I1, r1, q1⟩ => ?_
  refine thn (hb pins s1 σ H1 _ I1 q1) fun u s2 ⟨y, H2, I2, r2, q2⟩ => ?_
  exact hf v u s2 x y H2 I2 r1 r2 q2

/-! ### names and constants -/
def tVar (i : Nat) : TE := fun σ H Q => ∃ v, σ[i]? = some (some v) ∧ Q v H
def tC (v : V) : TE := fun _ H Q => Q v H
theorem pe_var {i : Nat} {x : Str} {pos : Pos} (hN : X.N[i]? = some x) (hv : Vis X.env.scope x) (hd : (x == ("__debug__" : Str)) = false := by decide) (hcd : (x == ("__classdict__" : Str)) = false := by decide) : PE X (.Name x pos) (tVar i) := by
  intro pins s σ H Q I h
  obtain ⟨v, e, h⟩ := h
  obtain ⟨m, hn, hl⟩ := I.loc
  obtain ⟨u, r, l⟩ := hl i x v hN e hv
  have fin : EP X pins σ Q u s := ⟨v, H, I, r, h⟩
  rcases l with ⟨hk, hm⟩ | ⟨hk, c, hc, hcell⟩
  · exact wpAny_Name (wpAny_loadName_local I.ok.kind hk hn hm fin) hd
  · rcases hk with hk | hk
    · exact wpAny_Name (wpAny_loadName_cell I.ok.kind hk hc hcell fin) hd
    · exact wpAny_Name (wpAny_loadName_free I.ok.kind hk hc hcell fin hcd) hd
theorem pe_int {i j pos} : PE X (.Constant (.int i) j pos) (tC (.int i)) := fun _ _ _ H _ I h => wpAny_Constant_int ⟨.int i, H, I.tok _, ⟨_, rfl⟩, h⟩
theorem pe_bl {b j pos} : PE X (.Constant (.bool b) j pos) (tC (.bl b)) := fun _ _ _ H _ I h => Constant_bool ⟨.bl b, H, I, rfl, h⟩
theorem pe_non {j pos} : PE X (.Constant .none j pos) (tC .non) := fun _ _ _ H _ I h => Constant_none ⟨.non, H, I, rfl, h⟩
theorem pe_str {x j pos} : PE X (.Constant (.str x) j pos) (tC (.str x)) := fun _ _ _ H _ I h => Calls.Constant_str ⟨.str x, H, I.tok _, ⟨_, rfl⟩, h⟩

/-- a global name of the def -/
def Gl (X : Cx) (x : Str) : Prop := X.env.kindOf x = some .globalImplicit
theorem ld_glob {E : Value → Shared → Prop} {pins : List (Addr × Obj)} {s : Shared} {σ : St} {H : Hp} {x : Str} {u : Value} {pos : Pos} {Q : Value → Shared → Prop} (I : Inv X pins σ H s) (hg : Gl X x) (hm : X.mg x = some u) (h : Q u s)
    (hd : (x == ("__debug__" : Str)) = false := by decide) : wpAny (model X.prog X.w) X.A (eval (.Name x pos) X.env) Q E s :=
  Calls.Name_function_global I.ok.kind hg (Calls.loadGlobal_global (by rw [I.ok.glob]; exact I.mod.glob.keeps I.bk) hm h) hd
theorem ld_blt {E : Value → Shared → Prop} {pins : List (Addr × Obj)} {s : Shared} {σ : St} {H : Hp} {x : Str} {u : Value} {pos : Pos} {Q : Value → Shared → Prop} (I : Inv X pins σ H s) (hg : Gl X x) (hm : X.mg x = none) (hv : bootBuiltins x = some u) (h : Q u s)
    (hn : x ≠ "__name__" := by decide) (hd : (x == ("__debug__" : Str)) = false := by decide) : wpAny (model X.prog X.w) X.A (eval (.Name x pos) X.env) Q E s := by
  obtain ⟨mb, h1, h2⟩ := I.mod.blt
  exact Calls.Name_function_global I.ok.kind hg (Calls.loadGlobal_builtin (by rw [I.ok.glob]; exact I.mod.glob.keeps I.bk) hm (by rw [I.ok.blt]; exact h1.keeps I.bk) ((h2 x hn).trans hv) h) hd
/-- a module's constant, a class, a function, as a value -/
theorem pe_glob {x : Str} {v : V} {u : Value} {pos : Pos} (hg : Gl X x) (hm : X.mg x = some u) (r : RelV v u) (hd : (x == ("__debug__" : Str)) = false := by decide) : PE X (.Name x pos) (tC v) :=
  fun _ _ _ H _ I h => ld_glob I hg hm ⟨v, H, I, r, h⟩ hd
theorem pe_bltn {x : Str} {v : V} {u : Value} {pos : Pos} (hg : Gl X x) (hm : X.mg x = none) (hv : bootBuiltins x = some u) (r : RelV v u) (hn : x ≠ "__name__" := by decide) (hd : (x == ("__debug__" : Str)) = false := by decide) : PE X (.Name x pos) (tC v) :=
  fun _ _ _ H _ I h => ld_blt I hg hm hv ⟨v, H, I, r, h⟩ hn hd

/-! ### arithmetic -/
/-- two ints -/
def t2I (ta tb : TE) (k : Int → Int → Hp → Prop) : St → Hp → Prop := fun σ H => ta σ H fun x H1 => tb σ H1 fun y H2 => ∃ i j, x = .int i ∧ y = .int j ∧ k i j H2
def tAdd (ta tb : TE) : TE := fun σ H Q => t2I ta tb (fun i j H2 => Q (.int (i + j)) H2) σ H
def tSub (ta tb : TE) : TE := fun σ H Q => t2I ta tb (fun i j H2 => Q (.int (i - j)) H2) σ H
/-- the left factor below 2^64 -/
def tMul (ta tb : TE) : TE := fun σ H Q => t2I ta tb (fun i j H2 => (-(2 ^ 64) < i ∧ i < 2 ^ 64) ∧ Q (.int (i * j)) H2) σ H
variable {a b : Expr} {ta tb : TE} {pos : Pos}
theorem pe_add (ha : PE X a ta) (hb : PE X b tb) : PE X (.BinOp a .Add b pos) (tAdd ta tb) := by
  intro pins s σ H Q I h
  refine wpAny_BinOp (bin ha hb I h fun v u s2 x y H2 I2 rx ry q => ?_)
  obtain ⟨i, j, rfl, rfl, q⟩ := q
  obtain ⟨t, rfl⟩ := rx
  obtain ⟨t', rfl⟩ := ry
  exact add_int ⟨.int _, H2, I2.tok _, ⟨_, rfl⟩, q⟩
theorem pe_sub (ha : PE X a ta) (hb : PE X b tb) : PE X (.BinOp a .Sub b pos) (tSub ta tb) := by
  intro pins s σ H Q I h
  refine wpAny_BinOp (bin ha hb I h fun v u s2 x y H2 I2 rx ry q => ?_)
  obtain ⟨i, j, rfl, rfl, q⟩ := q
  obtain ⟨t, rfl⟩ := rx
  obtain ⟨t', rfl⟩ := ry
  exact sub_int ⟨.int _, H2, I2.tok _, ⟨_, rfl⟩, q⟩
theorem pe_mul (ha : PE X a ta) (hb : PE X b tb) : PE X (.BinOp a .Mult b pos) (tMul ta tb) := by
  intro pins s σ H Q I h
  refine wpAny_BinOp (bin ha hb I h fun v u s2 x y H2 I2 rx ry q => ?_)
  obtain ⟨i, j, rfl, rfl, ⟨q1, q2⟩, q⟩ := q
  obtain ⟨t, rfl⟩ := rx
  obtain ⟨t', rfl⟩ := ry
  exact mul_int ⟨.int _, H2, I2.tok _, ⟨_, rfl⟩, q⟩ (.of_left (intBits_le_64 q1 q2))

/-! ### comparisons -/
def PC (X : Cx) (op : CmpOp) (a b : Expr) (t : TE) : Prop :=
  ∀ (pins : List (Addr × Obj)) (s : Shared) (σ : St) (H : Hp) (Q : VK), Inv X pins σ H s → t σ H Q →
    wpAny (model X.prog X.w) X.A (eval a X.env) (fun v s₁ => wpAny (model X.prog X.w) X.A (eval b X.env) (fun u s₂ => wpAny (model X.prog X.w) X.A (compareOp op v u) (EP X pins σ Q) X.xe s₂) X.xe s₁) X.xe s
theorem nobehind (b : Expr) {op : CmpOp} (h : op ≠ .In) (h2 : op ≠ .NotIn) : behindInMarks op b = false := by
  have e1 : (op == CmpOp.In) = false := by cases op <;> first | rfl | exact absurd rfl h
  have e2 : (op == CmpOp.NotIn) = false := by cases op <;> first | rfl | exact absurd rfl h2
  cases b <;> simp [behindInMarks, e1, e2]
def tCmp (p : Int → Int → Bool) (ta tb : TE) : TE := fun σ H Q => t2I ta tb (fun i j H2 => Q (.bl (p i j)) H2) σ H
abbrev tLt : TE → TE → TE := tCmp fun i j => decide (i < j)
abbrev tLe : TE → TE → TE := tCmp fun i j => decide (i ≤ j)
abbrev tGt : TE → TE → TE := tCmp fun i j => decide (j < i)
abbrev tGe : TE → TE → TE := tCmp fun i j => decide (j ≤ i)
abbrev tEqI : TE → TE → TE := tCmp fun i j => decide (i = j)
abbrev tNeI : TE → TE → TE := tCmp fun i j => !decide (i = j)
/-- a comparison of two ints, by its rule -/
theorem pc_int {op : CmpOp} {p : Int → Int → Bool} (ha : PE X a ta) (hb : PE X b tb)
    (rule : ∀ (i j : Int) (t u : Tok) (Q : Value → Shared → Prop) (s : Shared), Q (.bool (p i j)) s → wpAny (model X.prog X.w) X.A (compareOp op (.int i t) (.int j u)) Q X.xe s) : PC X op a b (tCmp p ta tb) := by
  intro pins s σ H Q I h
  refine bin ha hb I h fun v u s2 x y H2 I2 rx ry q => ?_
  obtain ⟨i, j, rfl, rfl, q⟩ := q
  obtain ⟨t, rfl⟩ := rx
  obtain ⟨t', rfl⟩ := ry
  exact rule i j t t' _ s2 ⟨.bl _, H2, I2, rfl, q⟩
theorem pc_lt (ha : PE X a ta) (hb : PE X b tb) : PC X .Lt a b (tLt ta tb) := pc_int ha hb fun _ _ _ _ _ _ h => lt_int h
theorem pc_le (ha : PE X a ta) (hb : PE X b tb) : PC X .LtE a b (tLe ta tb) := pc_int ha hb fun _ _ _ _ _ _ h => le_int h
theorem pc_gt (ha : PE X a ta) (hb : PE X b tb) : PC X .Gt a b (tGt ta tb) := pc_int ha hb fun _ _ _ _ _ _ h => gt_int h
theorem pc_ge (ha : PE X a ta) (hb : PE X b tb) : PC X .GtE a b (tGe ta tb) := pc_int ha hb fun _ _ _ _ _ _ h => ge_int h
theorem pc_eqI (ha : PE X a ta) (hb : PE X b tb) : PC X .Eq a b (tEqI ta tb) := pc_int ha hb fun _ _ _ _ _ _ h => eq_int (by rw [Bool.beq_eq_decide_eq]; exact h)
theorem pc_neI (ha : PE X a ta) (hb : PE X b tb) : PC X .NotEq a b (tNeI ta tb) := pc_int ha hb fun _ _ _ _ _ _ h => ne_int (by rw [bne, Bool.beq_eq_decide_eq]; exact h)
/-- is None -/
def tIsN (ta : TE) : TE := fun σ H Q => ta σ H fun x H1 => Q (.bl (decide (x = .non))) H1
def tNotN (ta : TE) : TE := fun σ H Q => ta σ H fun x H1 => Q (.bl (!decide (x = .non))) H1
theorem RelV.none_iff {x : V} {v : Value} (r : RelV x v) : (v == Value.none) = decide (x = .non) := by
  cases x with
  | non => cases r; rfl
  | bl _ => cases r; rfl
  | int _ => obtain ⟨t, rfl⟩ := r; rfl
  | str _ => obtain ⟨t, rfl⟩ := r; rfl
  | byt _ => obtain ⟨t, rfl⟩ := r; rfl
  | flt _ => obtain ⟨t, rfl⟩ := r; rfl
  | ref _ => cases r; rfl
  | ty _ => cases r; rfl
theorem pc_isN {j pos'} (ha : PE X a ta) : PC X .Is a (.Constant .none j pos') (tIsN ta) := by
  intro pins s σ H Q I h
  refine thn (ha pins s σ H _ I h) fun v s1 ⟨x, H1, I1, r1, q1⟩ => ?_
  exact Constant_none (is_none_gen ⟨.bl _, H1, I1, by rw [r1.none_iff]; rfl, q1⟩)
theorem pc_notN {j pos'} (ha : PE X a ta) : PC X .IsNot a (.Constant .none j pos') (tNotN ta) := by
  intro pins s σ H Q I h
  refine thn (ha pins s σ H _ I h) fun v s1 ⟨x, H1, I1, r1, q1⟩ => ?_
  exact Constant_none (isnot_none_gen ⟨.bl _, H1, I1, by rw [r1.none_iff]; rfl, q1⟩)
/-- a comparison as a value, as a test -/
def tB (t : TE) : TT := fun σ H Q => t σ H fun x H1 => ∃ c, x = .bl c ∧ Q c H1
theorem pe_cmp {op : CmpOp} {t : TE} (h : PC X op a b t) (h1 : behindInMarks op b = false := by first | exact nobehind _ (by decide) (by decide) | rfl) : PE X (.Compare a [op] [b] pos) t := fun pins s σ H Q I hw => wpAny_Compare1 (h pins s σ H Q I hw) h1
theorem pt_cmp {op : CmpOp} {t : TE} (h : PC X op a b t) (h1 : behindInMarks op b = false := by first | exact nobehind _ (by decide) (by decide) | rfl) : PT X (.Compare a [op] [b] pos) (tB t) := by
  intro pins s σ H Q I hw
  refine wpAny_isTrue_Compare1 (thn (h pins s σ H _ I hw) fun v s1 h1 => thn h1 fun u s2 h2 => thn h2 fun c s3 ⟨x, H1, I1, r1, q1⟩ => ?_) h1
  obtain ⟨d, rfl, q⟩ := q1
  cases r1
  exact wpAny_truthy_bool ⟨H1, I1, q⟩
/-- an expression whose value is a bool, as a test -/
theorem pt_val {e : Expr} {t : TE} (h : PE X e t) (he : ∀ whole, isTrue e X.env whole = (do let v ← whole; standAt e.pos; holding [v] (truthy v)) := by intro _; rfl) : PT X e (tB t) := by
  intro pins s σ H Q I hw
  refine isTrue_plain (thn (h pins s σ H _ I hw) fun v s1 ⟨x, H1, I1, r1, q1⟩ => ?_) (he _)
  obtain ⟨d, rfl, q⟩ := q1
  cases r1
  exact wpAny_truthy_bool ⟨H1, I1, q⟩

/-! ### and, or, not -/
variable {tA tB' : TT} {rest : List Expr}
def tAnd (t u : TT) : TT := fun σ H Q => t σ H fun c H1 => if c = true then u σ H1 Q else Q false H1
def tOr (t u : TT) : TT := fun σ H Q => t σ H fun c H1 => if c = true then Q true H1 else u σ H1 Q
def tNot (t : TT) : TT := fun σ H Q => t σ H fun c H1 => Q (!c) H1
theorem pw_and1 (ha : PT X a tA) : PW X (.BoolOp .And [a] pos) tA := by
  intro wh pins s σ H Q I h
  refine isTrue_and (thn (ha pins s σ H Q I h) fun c s1 e => ?_)
  cases c with
  | true => exact isTrue_and_nil e
  | false => exact e
theorem pw_or1 (ha : PT X a tA) : PW X (.BoolOp .Or [a] pos) tA := by
  intro wh pins s σ H Q I h
  refine isTrue_or (thn (ha pins s σ H Q I h) fun c s1 e => ?_)
  cases c with
  | false => exact isTrue_or_nil e
  | true => exact e
theorem pw_and (ha : PT X a tA) (hb : PW X (.BoolOp .And (b :: rest) pos) tB') : PW X (.BoolOp .And (a :: b :: rest) pos) (tAnd tA tB') := by
  intro wh pins s σ H Q I h
  refine isTrue_and (thn (ha pins s σ H _ I h) fun c s1 ⟨H1, I1, q1⟩ => ?_)
  cases c with
  | true => exact hb wh pins s1 σ H1 Q I1 q1
  | false => exact ⟨H1, I1, q1⟩
theorem pw_or (ha : PT X a tA) (hb : PW X (.BoolOp .Or (b :: rest) pos) tB') : PW X (.BoolOp .Or (a :: b :: rest) pos) (tOr tA tB') := by
  intro wh pins s σ H Q I h
  refine isTrue_or (thn (ha pins s σ H _ I h) fun c s1 ⟨H1, I1, q1⟩ => ?_)
  cases c with
  | true => exact ⟨H1, I1, q1⟩
  | false => exact hb wh pins s1 σ H1 Q I1 q1
theorem pt_not (ha : PT X a tA) : PT X (.UnaryOp .Not a pos) (tNot tA) := by
  intro pins s σ H Q I h
  exact isTrue_not (ha pins s σ H (fun c H1 => Q (!c) H1) I h)
/-- .. as values (bools) -/
def tAndV (ta tb : TE) : TE := fun σ H Q => ta σ H fun x H1 => ∃ c, x = .bl c ∧ if c = true then tb σ H1 Q else Q (.bl false) H1
def tOrV (ta tb : TE) : TE := fun σ H Q => ta σ H fun x H1 => ∃ c, x = .bl c ∧ if c = true then Q (.bl true) H1 else tb σ H1 Q
def tNotV (ta : TE) : TE := fun σ H Q => ta σ H fun x H1 => ∃ c, x = .bl c ∧ Q (.bl (!c)) H1
theorem pe_one {op} {t : TE} (h : PE X a t) : PE X (.BoolOp op [a] pos) t := fun pins s σ H Q I hw => BoolOp_one (h pins s σ H Q I hw)
theorem pe_and (ha : PE X a ta) (hb : PE X (.BoolOp .And (b :: rest) pos) tb) : PE X (.BoolOp .And (a :: b :: rest) pos) (tAndV ta tb) := by
  intro pins s σ H Q I h
  refine BoolOp_and (thn (ha pins s σ H _ I h) fun v s1 ⟨x, H1, I1, r1, q1⟩ => ?_)
  obtain ⟨c, rfl, q1⟩ := q1
  cases r1
  refine wpAny_truthy_bool ?_
  cases c with
  | true => exact hb pins s1 σ H1 Q I1 q1
  | false => exact ⟨.bl false, H1, I1, rfl, q1⟩
theorem pe_or (ha : PE X a ta) (hb : PE X (.BoolOp .Or (b :: rest) pos) tb) : PE X (.BoolOp .Or (a :: b :: rest) pos) (tOrV ta tb) := by
  intro pins s σ H Q I h
  refine BoolOp_or (thn (ha pins s σ H _ I h) fun v s1 ⟨x, H1, I1, r1, q1⟩ => ?_)
  obtain ⟨c, rfl, q1⟩ := q1
  cases r1
  refine wpAny_truthy_bool ?_
  cases c with
  | false => exact hb pins s1 σ H1 Q I1 q1
  | true => exact ⟨.bl true, H1, I1, rfl, q1⟩
theorem pe_not (ha : PE X a ta) : PE X (.UnaryOp .Not a pos) (tNotV ta) := by
  intro pins s σ H Q I h
  refine UnaryOp_ (thn (ha pins s σ H _ I h) fun v s1 ⟨x, H1, I1, r1, q1⟩ => ?_)
  obtain ⟨c, rfl, q1⟩ := q1
  cases r1
  exact not_of (wpAny_truthy_bool ⟨.bl (!c), H1, I1, rfl, q1⟩)
/-- a if t else b -/
def tIf (t : TT) (ta tb : TE) : TE := fun σ H Q => t σ H fun c H1 => if c = true then ta σ H1 Q else tb σ H1 Q
theorem pe_ifExp {c : Expr} (hc : PT X c tA) (ha : PE X a ta) (hb : PE X b tb) : PE X (.IfExp c a b pos) (tIf tA ta tb) := by
  intro pins s σ H Q I h
  refine wpAny_IfExp (thn (hc pins s σ H _ I h) fun d s1 ⟨H1, I1, q1⟩ => ?_)
  cases d with
  | true => exact ha pins s1 σ H1 Q I1 q1
  | false => exact hb pins s1 σ H1 Q I1 q1
end
end L2

namespace L2
open PySem PySem.Spec PyProof.Rows

/-! ### a list, a tuple that is read: tracked, frozen, or an object of the module -/
def SqL (K : PySem.W.Frag) (H : Hp) (a : Addr) (xs : List V) : Prop :=
  Rd H a (.lst xs) ∨
    ∃ (o : Obj) (its : Array Value) (n : Nat), K.lookup a = some o ∧ o.cls = .type "list" ∧ o.dict = none ∧ o.data = .seq its n ∧ its.size ≤ sizeLine ∧ Vals xs its.toList
def SqT (K : PySem.W.Frag) (H : Hp) (a : Addr) (xs : List V) : Prop :=
  Rd H a (.tup xs) ∨
    ∃ (o : Obj) (its : Array Value) (n : Nat), K.lookup a = some o ∧ o.cls = .type "tuple" ∧ o.data = .seq its n ∧ its.size ≤ sizeLine ∧ Vals xs its.toList
def absV : Value → Option V
  | .none => some .non
  | .bool b => some (.bl b)
  | .int i _ => some (.int i)
  | .str x _ => some (.str x)
  | .bytes b _ => some (.byt b)
  | .float b _ => some (.flt b)
  | .ref a => some (.ref a)
  | .type n => some (.ty n)
  | _ => none
theorem RelV.abs {x : V} {u : Value} (r : RelV x u) : absV u = some x := by
  cases x with
  | non => cases r; rfl
  | bl _ => cases r; rfl
  | int _ => obtain ⟨t, rfl⟩ := r; rfl
  | str _ => obtain ⟨t, rfl⟩ := r; rfl
  | byt _ => obtain ⟨t, rfl⟩ := r; rfl
  | flt _ => obtain ⟨t, rfl⟩ := r; rfl
  | ref _ => cases r; rfl
  | ty _ => cases r; rfl
theorem RelV.inj {x y : V} {u : Value} (r : RelV x u) (q : RelV y u) : x = y := Option.some.inj (r.abs.symm.trans q.abs)
theorem Vals.inj : ∀ {xs ys : List V} {us : List Value}, Vals xs us → Vals ys us → xs = ys
  | _, _, _, .nil, .nil => rfl
  | _, _, _, .cons r t, .cons r' t' => by rw [r.inj r', Vals.inj t t']
section
variable {X : Cx} {pins : List (Addr × Obj)} {σ : St} {H : Hp} {s : Shared} {a : Addr} {xs ys : List V}
theorem SqL.of {K : PySem.W.Frag} (h : H a = some (.lst xs)) : SqL K H a xs := .inl (.inl h)
theorem SqT.of {K : PySem.W.Frag} (h : H a = some (.tup xs)) : SqT K H a xs := .inl (.inl h)
theorem Inv.list (I : Inv X pins σ H s) (h : SqL X.K H a xs) : ∃ its : List Value, Vals xs its ∧ PlainL s.heap a its.toArray ∧ xs.length ≤ sizeLine := by
  rcases h with h | ⟨o, its, n, hk, hc, hd, hs, hz, r⟩
  · obtain ⟨z, its, n, r, e⟩ := h.ok I.hok
    exact ⟨its, r, ⟨_, n, e, rfl, rfl, rfl⟩, z⟩
  · refine ⟨its.toList, r, ⟨o, n, I.kIn a o hk, hc, hd, by simpa using hs⟩, ?_⟩
    have e := r.length
    simp only [Array.length_toList] at e
    omega
theorem Inv.tuple (I : Inv X pins σ H s) (h : SqT X.K H a xs) : ∃ its : List Value, Vals xs its ∧ IsTup s.heap a its.toArray ∧ xs.length ≤ sizeLine := by
  rcases h with h | ⟨o, its, n, hk, hc, hs, hz, r⟩
  · obtain ⟨z, its, r, p⟩ := h.ok I.hok
    exact ⟨its, r, p, z⟩
  · refine ⟨its.toList, r, ⟨o, I.kIn a o hk, hc, n, by simpa using hs⟩, ?_⟩
    have e := r.length
    simp only [Array.length_toList] at e
    omega
theorem Inv.list_inj (I : Inv X pins σ H s) (h : SqL X.K H a xs) (h' : SqL X.K H a ys) : xs = ys := by
  obtain ⟨its, r, ⟨o, n, e, _, _, d⟩, _⟩ := I.list h
  obtain ⟨its', r', ⟨o', n', e', _, _, d'⟩, _⟩ := I.list h'
  rw [e] at e'; cases e'
  rw [d] at d'
  injection d' with d1 _
  have : its = its' := by simpa using congrArg Array.toList d1
  subst this
  exact r.inj r'
theorem Inv.tuple_inj (I : Inv X pins σ H s) (h : SqT X.K H a xs) (h' : SqT X.K H a ys) : xs = ys := by
  obtain ⟨its, r, ⟨o, e, _, n, d⟩, _⟩ := I.tuple h
  obtain ⟨its', r', ⟨o', e', _, n', d'⟩, _⟩ := I.tuple h'
  rw [e] at e'; cases e'
  rw [d] at d'
  injection d' with d1 _
  have : its = its' := by simpa using congrArg Array.toList d1
  subst this
  exact r.inj r'
end

/-! ### another wish about exceptions -/
abbrev Cx.wish (X : Cx) (E : Value → Shared → Prop) : Cx := { X with xe := E }
/-- no exception leaves -/
abbrev Cx.nox (X : Cx) : Cx := X.wish fun _ _ => False
theorem Cx.Ok.wish {X : Cx} (ok : X.Ok) (E : Value → Shared → Prop) : (X.wish E).Ok :=
  ⟨ok.mod, ok.kind, ok.glob, ok.blt, ok.above, ok.inj, ok.has, ok.cab, ok.hd, ok.frames, ok.stk, ok.exf, ok.bs, ok.bsz, ok.noex, ok.exfs, ok.funs, ok.frf⟩
theorem Cx.Ok.unwish {X : Cx} {E : Value → Shared → Prop} (ok : (X.wish E).Ok) : X.Ok :=
  ⟨ok.mod, ok.kind, ok.glob, ok.blt, ok.above, ok.inj, ok.has, ok.cab, ok.hd, ok.frames, ok.stk, ok.exf, ok.bs, ok.bsz, ok.noex, ok.exfs, ok.funs, ok.frf⟩
section
variable {X : Cx} {pins : List (Addr × Obj)} {σ : St} {H : Hp} {s : Shared} {E : Value → Shared → Prop}
theorem Inv.wish (I : Inv X pins σ H s) (E : Value → Shared → Prop) : Inv (X.wish E) pins σ H s := ⟨I.ok.wish E, I.os, I.bare, I.base, I.loc, I.cell, I.free, I.freeC, I.pin, I.hok, I.len⟩
theorem Inv.unwish (I : Inv (X.wish E) pins σ H s) : Inv X pins σ H s := ⟨I.ok.unwish, I.os, I.bare, I.base, I.loc, I.cell, I.free, I.freeC, I.pin, I.hok, I.len⟩
theorem SP.unwish {D : Ends} {f : Flow} {s' : Shared} (h : SP (X.wish E) pins D f s') : SP X pins D f s' := by
  cases f with
  | next => obtain ⟨σ', H', I, q⟩ := h; exact ⟨σ', H', I.unwish, q⟩
  | brk => obtain ⟨σ', H', I, q⟩ := h; exact ⟨σ', H', I.unwish, q⟩
  | cont => obtain ⟨σ', H', I, q⟩ := h; exact ⟨σ', H', I.unwish, q⟩
  | ret u => obtain ⟨v, σ', H', I, r, q⟩ := h; exact ⟨v, σ', H', I.unwish, r, q⟩
theorem PE.nox {e : Expr} {t : TE} (h : PE X.nox e t) : PE X e t := fun pins s σ H Q I hw =>
  wpAny_mono (h pins s σ H Q (I.wish _) hw) (fun _ _ ⟨v, H', I', r, q⟩ => ⟨v, H', I'.unwish, r, q⟩) fun _ _ z => False.elim z
theorem PT.nox {e : Expr} {t : TT} (h : PT X.nox e t) : PT X e t := fun pins s σ H Q I hw =>
  wpAny_mono (h pins s σ H Q (I.wish _) hw) (fun _ _ ⟨H', I', q⟩ => ⟨H', I'.unwish, q⟩) fun _ _ z => False.elim z
theorem PSs.nox {st : List Stmt} {t : TS} (h : PSs X.nox st t) : PSs X st t := fun pins s σ H D I hw =>
  wpAny_mono (h pins s σ H D (I.wish _) hw) (fun _ _ q => q.unwish) fun _ _ z => False.elim z
end

/-! ### blocks and small statements -/
section
variable {X : Cx} {st : Stmt} {rest : List Stmt} {t u : TS} {e : Expr} {te : TE} {pos : Pos}
def tNext : TS := fun D σ H => D.nx σ H
def tSeq (t u : TS) : TS := fun D σ H => t { D with nx := u D } σ H
theorem pss_nil : PSs X [] tNext := fun _ _ σ H _ I h => wpAny_execs_nil ⟨σ, H, I, h⟩
theorem pss_cons (h1 : PS X st t) (h2 : PSs X rest u) : PSs X (st :: rest) (tSeq t u) := by
  intro pins s σ H D I h
  refine wpAny_execs_cons (thn (h1 pins s σ H { D with nx := u D } I h) fun f s1 q => ?_)
  cases f with
  | next =>
    obtain ⟨σ', H', I', q⟩ := q
    exact h2 pins s1 σ' H' D I' q
  | ret v => exact q
  | brk => exact q
  | cont => exact q
theorem pss_one (h1 : PS X st t) : PSs X [st] t := by
  intro pins s σ H D I h
  refine wpAny_execs_cons (thn (h1 pins s σ H D I h) fun f s1 q => ?_)
  cases f with
  | next => exact wpAny_execs_nil q
  | ret v => exact q
  | brk => exact q
  | cont => exact q
def tBreak : TS := fun D σ H => D.bk σ H
def tCont : TS := fun D σ H => D.ct σ H
theorem ps_pass : PS X (.Pass pos) tNext := fun _ _ σ H _ I h => wpAny_Pass ⟨σ, H, I, h⟩
theorem ps_break : PS X (.Break pos) tBreak := fun _ _ σ H _ I h => wpAny_Break ⟨σ, H, I, h⟩
theorem ps_continue : PS X (.Continue pos) tCont := fun _ _ σ H _ I h => wpAny_Continue ⟨σ, H, I, h⟩
/-- in a def's body nothing is shown -/
theorem Inv.quiet {pins : List (Addr × Obj)} {σ : St} {H : Hp} {s : Shared} (I : Inv X pins σ H s) : interactive X.env = false := by simp [interactive, I.ok.kind]
/-- a docstring -/
theorem ps_doc {x j pos pos'} : PS X (.Expr (.Constant (.str x) j pos) pos') tNext := fun _ s σ H _ I h => wpAny_Expr (Calls.Constant_str (show SP X _ _ .next { s with toks := s.toks + 1 } from ⟨σ, H, I.tok _, h⟩)) I.quiet
/-- an expression whose value is dropped -/
def tDrop (te : TE) : TS := fun D σ H => te σ H fun _ H1 => D.nx σ H1
theorem ps_expr (he : PE X e te) (hs : swapsWith e none pos.line X.env = pure false := by rfl) : PS X (.Expr e pos) (tDrop te) := by
  intro pins s σ H D I h
  exact wpAny_Expr_any (thn (he pins s σ H _ I h) fun v s1 ⟨x, H1, I1, r1, q1⟩ => ⟨σ, H1, I1, q1⟩) I.quiet hs
def tRet (te : TE) : TS := fun D σ H => te σ H D.rt
theorem ps_ret (he : PE X e te) : PS X (.Return (some e) pos) (tRet te) := by
  intro pins s σ H D I h
  exact wpAny_Return_some (thn (he pins s σ H _ I h) fun v s1 ⟨x, H1, I1, r1, q1⟩ => ⟨x, σ, H1, I1, r1, q1⟩)
def tRetN : TS := fun D _ H => D.rt .non H
theorem ps_retN : PS X (.Return none pos) tRetN := fun _ _ σ H _ I h => wpAny_Return_none ⟨.non, σ, H, I, rfl, h⟩
def tIfS (c : TT) (t u : TS) : TS := fun D σ H => c σ H fun b H1 => if b = true then t D σ H1 else u D σ H1
theorem ps_if {c : Expr} {a b : List Stmt} {tc : TT} (hc : PT X c tc) (ha : PSs X a t) (hb : PSs X b u) : PS X (.If c a b pos) (tIfS tc t u) := by
  intro pins s σ H D I h
  refine wpAny_If (thn (hc pins s σ H _ I h) fun d s1 ⟨H1, I1, q1⟩ => ?_)
  cases d with
  | true => exact ha pins s1 σ H1 D I1 q1
  | false => exact hb pins s1 σ H1 D I1 q1
/-- code that the proof never comes to -/
def tNever : TS := fun _ _ _ => False
theorem ps_never : PS X st tNever := fun _ _ _ _ _ _ h => h.elim
theorem pss_never {sts : List Stmt} : PSs X sts tNever := fun _ _ _ _ _ _ h => h.elim
end

/-! ### targets -/
abbrev TG := V → St → Hp → (St → Hp → Prop) → Prop
abbrev TGs := List V → St → Hp → (St → Hp → Prop) → Prop
def PG (X : Cx) (target : Expr) (t : TG) : Prop :=
  ∀ (pins : List (Addr × Obj)) (s : Shared) (σ : St) (H : Hp) (v : V) (u : Value) (Q : St → Hp → Prop), Inv X pins σ H s → RelV v u → t v σ H Q →
    wpAny (model X.prog X.w) X.A (assign target X.env u) (fun _ s' => ∃ σ' H', Inv X pins σ' H' s' ∧ Q σ' H') X.xe s
/-- several targets, one after another -/
def PGs (X : Cx) (ts : List Expr) (t : TGs) : Prop :=
  ∀ (pins : List (Addr × Obj)) (s : Shared) (σ : St) (H : Hp) (vs : List V) (us : List Value) (Q : St → Hp → Prop), Inv X pins σ H s → Vals vs us → t vs σ H Q →
    wpAny (model X.prog X.w) X.A (assignInOrder ((assignEach ts X.env).map (·.2)) us) (fun _ s' => ∃ σ' H', Inv X pins σ' H' s' ∧ Q σ' H') X.xe s
/-- o[i] = v, by values -/
abbrev TSet := V → V → V → Hp → (Hp → Prop) → Prop
def PSet (X : Cx) (t : TSet) : Prop :=
  ∀ (pins : List (Addr × Obj)) (s : Shared) (σ : St) (H : Hp) (o i v : V) (ov iv u : Value) (Q : Hp → Prop), Inv X pins σ H s → RelV o ov → RelV i iv → RelV v u → t o i v H Q →
    wpAny (model X.prog X.w) X.A (setItem ov iv u) (fun _ s' => ∃ H', Inv X pins σ H' s' ∧ Q H') X.xe s
/-- a op= b, by values -/
abbrev TIp := V → V → Hp → VK → Prop
def PIp (X : Cx) (op : Operator) (t : TIp) : Prop :=
  ∀ (pins : List (Addr × Obj)) (s : Shared) (σ : St) (H : Hp) (x y : V) (v u : Value) (Q : VK), Inv X pins σ H s → RelV x v → RelV y u → t x y H Q →
    wpAny (model X.prog X.w) X.A (inplaceOp op v u) (EP X pins σ Q) X.xe s
section
variable {X : Cx} {pos : Pos}
def gName (i : Nat) : TG := fun v σ H Q => Q (σ.set i (some v)) H
theorem pg_name {i : Nat} {x : Str} (hN : X.N.Nodup) (hi : X.N[i]? = some x) (hx : Loc X.env.scope x) (hf : X.fn x = true ∨ X.env.scope.names.lookup x = some .local := by first | exact .inl rfl | exact .inr rfl | assumption) : PG X (.Name x pos) (gName i) := by
  intro pins s σ H v u Q I r h
  exact wpAny_assign_Name (store_ok I hN hi hx r (fun s' I' => ⟨_, H, I', h⟩) hf)
def gNil : TGs := fun vs σ H Q => vs = [] ∧ Q σ H
def gCons (t : TG) (u : TGs) : TGs := fun vs σ H Q => ∃ v r, vs = v :: r ∧ t v σ H fun σ' H' => u r σ' H' Q
theorem pgs_nil : PGs X [] gNil := by
  intro pins s σ H vs us Q I r h
  obtain ⟨e, h⟩ := h
  subst e
  cases r
  exact assignInOrder_nil ⟨σ, H, I, h⟩
theorem pgs_cons {e : Expr} {es : List Expr} {t : TG} {u : TGs} (h1 : PG X e t) (h2 : PGs X es u)
    (hs : (assignEach (e :: es) X.env).map (·.2) = assign e X.env :: (assignEach es X.env).map (·.2) := by rfl) : PGs X (e :: es) (gCons t u) := by
  intro pins s σ H vs us Q I r h
  obtain ⟨v, vr, e1, h⟩ := h
  subst e1
  cases r with
  | cons r rr =>
    rw [hs]
    refine assignInOrder_cons (thn (h1 pins s σ H _ _ _ I r h) fun _ s1 ⟨σ1, H1, I1, q1⟩ => ?_)
    exact h2 pins s1 σ1 H1 _ _ Q I1 rr q1
/-- (a, b, ..) = a tuple of that length -/
def gTup (K : PySem.W.Frag) (n : Nat) (t : TGs) : TG := fun v σ H Q => ∃ a xs, v = .ref a ∧ SqT K H a xs ∧ xs.length = n ∧ t xs σ H Q
theorem pg_tup {es : List Expr} {k : Nat} {t : TGs} {n : Nat} (hc : X.calm = true) (h : PGs X es t)
    (hn : (assignEach es X.env).length = n := by rfl) (hst : (assignEach es X.env).findIdx? (·.1) = none := by rfl) : PG X (.Tuple es k pos) (gTup X.K n t) := by
  intro pins s σ H v u Q I r hw
  obtain ⟨a, xs, e1, hq, hl, hw⟩ := hw
  subst e1
  cases r
  obtain ⟨its, rv, ht, hz⟩ := I.tuple hq
  refine assign_Tuple_tuple (I.ok.hd hc) ht (by simp [hn, ← hl, rv.length]) hst fun h' hx => ?_
  have I1 : Inv X pins σ H { s with heap := h' } := I.kept (t' := s.toks) fun b o e => hx b o (Nat.ne_of_lt (Heap.lt_size e)) e
  exact h pins _ σ H xs _ Q I1 (by simpa using rv) hw
/-- o[i] = .. -/
def gSub (to ti : TE) (t : TSet) : TG := fun v σ H Q => to σ H fun o H1 => ti σ H1 fun i H2 => t o i v H2 fun H3 => Q σ H3
theorem pg_sub {o i : Expr} {to ti : TE} {t : TSet} (ho : PE X o to) (hi : PE X i ti) (hs : PSet X t)
    (ha : ∀ v, assign (.Subscript o i pos) X.env v = (do
      let ov ← holding [v] (eval o X.env)
      let iv ← holding [v, ov] (eval i X.env)
      standAt pos
      holding [v, ov, iv] (setItem ov iv v)
      release [v, ov, iv] []) := by intro _; rfl) : PG X (.Subscript o i pos) (gSub to ti t) := by
  intro pins s σ H v u Q I r h
  rw [ha]
  refine wpAny_bind (wpAny_holding (thn (ho pins s σ H _ I h) fun ov s1 ⟨x, H1, I1, r1, q1⟩ => ?_))
  refine wpAny_bind (wpAny_holding (thn (hi pins s1 σ H1 _ I1 q1) fun iv s2 ⟨y, H2, I2, r2, q2⟩ => ?_))
  refine wpAny_bind (wpAny_standAt (wpAny_bind (wpAny_holding (thn (hs pins s2 σ H2 x y v ov iv u _ I2 r1 r2 r q2) fun _ s3 ⟨H3, I3, q3⟩ => ?_))))
  exact wpAny_release ⟨σ, H3, I3, q3⟩
/-- target = value -/
def tAsg (te : TE) (g : TG) : TS := fun D σ H => te σ H fun x H1 => g x σ H1 D.nx
theorem ps_asg {tg e : Expr} {te : TE} {g : TG} (he : PE X e te) (hg : PG X tg g) (hs : swapsWithSole [tg] e pos.line X.env = pure false := by rfl) (hw : swappedStores [tg] e X.env = pure none := by rfl)
    (h1 : (assignEach [tg] X.env).map (·.2) = [assign tg X.env] := by rfl) : PS X (.Assign [tg] e pos) (tAsg te g) := by
  intro pins s σ H D I h
  refine wpAny_Assign_stores (thn (he pins s σ H _ I h) fun v s1 ⟨x, H1, I1, r1, q1⟩ => ?_) hs hw
  rw [h1]
  exact thn (hg pins s1 σ H1 x v _ I1 r1 q1) fun _ s2 q => q
/-- name = value -/
theorem ps_set {i : Nat} {x : Str} {e : Expr} {te : TE} {pos' : Pos} (hN : X.N.Nodup) (hi : X.N[i]? = some x) (hx : Loc X.env.scope x) (he : PE X e te) (hs : swapsWith e (some (.Name x pos')) pos.line X.env = pure false := by rfl) (hf : X.fn x = true ∨ X.env.scope.names.lookup x = some .local := by first | exact .inl rfl | exact .inr rfl | assumption) :
    PS X (.Assign [.Name x pos'] e pos) (tAsg te (gName i)) := by
  intro pins s σ H D I h
  refine wpAny_Assign_Name (thn (he pins s σ H _ I h) fun v s1 ⟨y, H1, I1, r1, q1⟩ => ?_) hs
  exact store_ok I1 hN hi hx r1 (fun s2 I2 => ⟨_, H1, I2, q1⟩) hf
/-- a, b = x, y with plain local names: stored from the right; the pair itself is not tracked (the opening rows as in PyProof/Rows/TupAssign.lean:23) -/
def tPar (i j : Nat) (ta : TA) : TS := fun D σ H => ta σ H fun vs H1 => ∃ v w, vs = [v, w] ∧ D.nx ((σ.set i (some v)).set j (some w)) H1
theorem ps_par {i j : Nat} {x y : Str} {a b : Expr} {ta : TA} {px py pt : Pos} {kt k2 pt2} (hc : X.calm = true) (hN : X.N.Nodup) (hi : X.N[i]? = some x) (hj : X.N[j]? = some y) (hij : i ≠ j)
    (hx : X.env.scope.names.lookup x = some .local) (hy : X.env.scope.names.lookup y = some .local) (ha : PA X [a, b] ta)
    (hw : swappedStores [.Tuple [.Name x px, .Name y py] kt pt] (.Tuple [a, b] k2 pt2) X.env = pure (some [x, y]))
    (hs : swapsWithSole [.Tuple [.Name x px, .Name y py] kt pt] (.Tuple [a, b] k2 pt2) pos.line X.env = pure false := by rfl) :
    PS X (.Assign [.Tuple [.Name x px, .Name y py] kt pt] (.Tuple [a, b] k2 pt2) pos) (tPar i j ta) := by
  intro pins s σ H D I h
  rw [exec_Assign_arm]
  refine wpAny_bind (wpAny_standAt ?_)
  rw [hs]
  refine wpAny_bind (wpAny_pure ?_)
  rw [if_neg (by decide)]
  refine wpAny_bind (Tuple_ (thn (ha _ pins s σ H _ I h) fun us s1 ⟨vs, H1, I1, r1, q1⟩ => ?_))
  obtain ⟨v, w, e1, q1⟩ := q1
  subst e1
  obtain ⟨u1, u2, rfl, rv, rw'⟩ : ∃ u1 u2, us = [u1, u2] ∧ RelV v u1 ∧ RelV w u2 := by
    cases r1 with
    | cons p q =>
      cases q with
      | cons p' q' =>
        cases q'
        exact ⟨_, _, rfl, p, p'⟩
  refine wpAny_newObj_type ?_ (by show 2 ≤ sizeLine; decide)
  have I2 : Inv X pins σ H1 { s1 with heap := s1.heap.push { cls := .type "tuple", data := .seq [u1, u2].toArray } } := I1.kept (t' := s1.toks) fun b o e => Heap.get?_push_of_some _ e
  rw [hw]
  refine wpAny_bind (wpAny_pure ?_)
  show wpAny (model X.prog X.w) X.A (do rule "assign.swapped-stores"; let items ← unpackItems (.ref s1.heap.objs.size) 2 none; assignInOrder [fun v => bindName X.env y v, fun v => bindName X.env x v] items.reverse; pure Flow.next) _ _ _
  refine wpAny_bind (wpAny_rule (wpAny_bind (unpackItems_tuple (items := #[u1, u2]) (I.ok.hd hc) (IsTup.new s1.heap _) fun h' hx' => ?_)))
  have I3 := I2.kept (h' := h') (t' := s1.toks) fun b o e => hx' b o (Nat.ne_of_lt (Heap.lt_size e)) e
  show wpAny _ _ (assignInOrder [fun v => bindName X.env y v, fun v => bindName X.env x v] [u2, u1] >>= fun _ => pure Flow.next) _ _ _
  refine wpAny_bind (assignInOrder_cons (wpAny_bindName (store_ok I3 hN hj (.inl hy) rw' (fun s2 I4 => ?_) (.inr hy))))
  refine assignInOrder_cons (wpAny_bindName (store_ok I4 hN hi (.inl hx) rv (fun s3 I5 => assignInOrder_nil (wpAny_pure ?_)) (.inr hx)))
  rw [List.set_comm _ _ (Ne.symm hij)] at I5
  exact ⟨_, H1, I5, q1⟩
/-- name op= e -/
def tAug (i : Nat) (te : TE) (ti : TIp) : TS := fun D σ H => ∃ x, σ[i]? = some (some x) ∧ te σ H fun y H1 => ti x y H1 fun z H2 => D.nx (σ.set i (some z)) H2
theorem ps_aug {i : Nat} {x : Str} {e : Expr} {te : TE} {op : Operator} {ti : TIp} {pos' : Pos} (hN : X.N.Nodup) (hi : X.N[i]? = some x) (hx : Loc X.env.scope x) (he : PE X e te) (ho : PIp X op ti) (hf : X.fn x = true ∨ X.env.scope.names.lookup x = some .local := by first | exact .inl rfl | exact .inr rfl | assumption) :
    PS X (.AugAssign (.Name x pos') op e pos) (tAug i te ti) := by
  intro pins s σ H D I h
  obtain ⟨v, e1, h⟩ := h
  obtain ⟨m, hn, hl⟩ := I.loc
  have vis : Vis X.env.scope x := by rcases hx with k | k; exact .inl k; exact .inr (.inl k)
  obtain ⟨u, r, l⟩ := hl i x v hi e1 vis
  refine wpAny_AugAssign_Name ?_
  have go : wpAny (model X.prog X.w) X.A (eval e X.env) (fun w s₂ => wpAny (model X.prog X.w) X.A (inplaceOp op u w) (fun r s₃ => wpAny (model X.prog X.w) X.A (storeName X.env x r) (fun _ => SP X pins D .next) X.xe s₃) X.xe s₂) X.xe s := by
    refine thn (he pins s σ H _ I h) fun w s1 ⟨y, H1, I1, r1, q1⟩ => ?_
    refine thn (ho pins s1 σ H1 v y u w _ I1 r r1 q1) fun z s2 ⟨zv, H2, I2, r2, q2⟩ => ?_
    exact store_ok I2 hN hi hx r2 (fun s3 I3 => ⟨_, H2, I3, q2⟩) hf
  rcases l with ⟨hk, hm⟩ | ⟨hk, c, hc, hcell⟩
  · exact wpAny_loadName_local I.ok.kind hk hn hm go
  · rcases hk with hk | hk
    · exact wpAny_loadName_cell I.ok.kind hk hc hcell go
    · rcases hx with k | k
      · have : X.env.scope.names.lookup x = some .free := hk
        rw [k] at this; cases this
      · have : X.env.scope.names.lookup x = some .free := hk
        rw [k] at this; cases this
/-- o[i] op= e -/
def tAugS (to ti te : TE) (tget : V → V → Hp → VK → Prop) (tip : TIp) (tset : TSet) : TS := fun D σ H => to σ H fun o H1 => ti σ H1 fun i H2 => tget o i H2 fun x H3 => te σ H3 fun y H4 => tip x y H4 fun z H5 => tset o i z H5 fun H6 => D.nx σ H6
/-- o[i], by values -/
def PGet (X : Cx) (t : V → V → Hp → VK → Prop) : Prop :=
  ∀ (pins : List (Addr × Obj)) (s : Shared) (σ : St) (H : Hp) (o i : V) (ov iv : Value) (Q : VK), Inv X pins σ H s → RelV o ov → RelV i iv → t o i H Q →
    wpAny (model X.prog X.w) X.A (getItem ov iv) (EP X pins σ Q) X.xe s
theorem ps_augS {o i e : Expr} {to ti te : TE} {tget : V → V → Hp → VK → Prop} {tip : TIp} {tset : TSet} {op : Operator} {tpos : Pos} (ho : PE X o to) (hi : PE X i ti) (hg : PGet X tget) (he : PE X e te) (hp : PIp X op tip) (hs : PSet X tset)
    (ha : ∀ ov iv new, augStore i ov iv new = (do holding [new, ov, iv] (setItem ov iv new); release [new, ov, iv] []; pure .next) := by intros; rfl) : PS X (.AugAssign (.Subscript o i tpos) op e pos) (tAugS to ti te tget tip tset) := by
  intro pins s σ H D I h
  refine wpAny_AugAssign_SubscriptAny (thn (ho pins s σ H _ I h) fun ov s1 ⟨x1, H1, I1, r1, q1⟩ => ?_) ha
  refine thn (hi pins s1 σ H1 _ I1 q1) fun iv s2 ⟨x2, H2, I2, r2, q2⟩ => ?_
  refine thn (hg pins s2 σ H2 x1 x2 ov iv _ I2 r1 r2 q2) fun old s3 ⟨x3, H3, I3, r3, q3⟩ => ?_
  refine thn (he pins s3 σ H3 _ I3 q3) fun v s4 ⟨x4, H4, I4, r4, q4⟩ => ?_
  refine thn (hp pins s4 σ H4 x3 x4 old v _ I4 r3 r4 q4) fun new s5 ⟨x5, H5, I5, r5, q5⟩ => ?_
  exact thn (hs pins s5 σ H5 x1 x2 x5 ov iv new _ I5 r1 r2 r5 q5) fun _ s6 ⟨H6, I6, q6⟩ => ⟨σ, H6, I6, q6⟩
/-- ints -/
def ipI (f : Int → Int → Int) : TIp := fun x y H Q => ∃ i j, x = .int i ∧ y = .int j ∧ Q (.int (f i j)) H
theorem ip_add : PIp X .Add (ipI fun i j => i + j) := by
  intro pins s σ H x y v u Q I r1 r2 h
  obtain ⟨i, j, e1, e2, q⟩ := h
  subst e1; subst e2
  obtain ⟨t, rfl⟩ := r1
  obtain ⟨t', rfl⟩ := r2
  exact iadd_int ⟨.int _, H, I.tok _, ⟨_, rfl⟩, q⟩
theorem ip_sub : PIp X .Sub (ipI fun i j => i - j) := by
  intro pins s σ H x y v u Q I r1 r2 h
  obtain ⟨i, j, e1, e2, q⟩ := h
  subst e1; subst e2
  obtain ⟨t, rfl⟩ := r1
  obtain ⟨t', rfl⟩ := r2
  exact isub_int ⟨.int _, H, I.tok _, ⟨_, rfl⟩, q⟩
end

/-! ### while -/
section
variable {X : Cx} {pos : Pos}
/-- the invariant W with its measure -/
def tWhile (c : TT) (tb : TS) : TS := fun D σ H => ∃ W : Nat → St → Hp → Prop, (∃ m, W m σ H) ∧ ∀ m σ H, W m σ H →
  c σ H fun b H1 => if b = true then ∃ N : St → Hp → Prop, (∀ σ' H', N σ' H' → ∃ m', m' < m ∧ W m' σ' H') ∧ tb { D with nx := N, ct := N, bk := D.nx } σ H1 else D.nx σ H1
theorem ps_while {c : Expr} {body : List Stmt} {tc : TT} {tb : TS} (hp : PassesOwn (model X.prog X.w) X.A X.env X.xe) (hc : PT X c tc) (hb : PSs X body tb) : PS X (.While c body [] pos) (tWhile tc tb) := by
  intro pins s σ H D I h
  obtain ⟨W, ⟨m0, w0⟩, turn⟩ := h
  refine wpAny_While (codeAny_whileLoop (fun n s' => ∃ σ' H', Inv X pins σ' H' s' ∧ W n σ' H') ?_ m0 ⟨σ, H, I, w0⟩)
  rintro n s1 ⟨σ1, H1, I1, w1⟩
  refine wpAny_passesOwn hp (thn (hc pins s1 σ1 H1 _ I1 (turn n σ1 H1 w1)) fun b s2 ⟨H2, I2, q2⟩ => ?_)
  cases b with
  | true =>
    obtain ⟨N, hN, q2⟩ := q2
    rw [if_pos rfl]
    refine wpAny_passesOwn hp (thn (hb pins s2 σ1 H2 _ I2 q2) fun f s3 q3 => ?_)
    cases f with
    | next =>
      obtain ⟨σ3, H3, I3, n3⟩ := q3
      obtain ⟨m', hm, w3⟩ := hN σ3 H3 n3
      exact ⟨m', hm, σ3, H3, I3, w3⟩
    | cont =>
      obtain ⟨σ3, H3, I3, n3⟩ := q3
      obtain ⟨m', hm, w3⟩ := hN σ3 H3 n3
      exact ⟨m', hm, σ3, H3, I3, w3⟩
    | brk => exact q3
    | ret v => exact q3
  | false =>
    rw [if_neg Bool.false_ne_true]
    exact wpAny_execs_nil ⟨σ1, H2, I2, q2⟩
end

/-! ### what a loop or a comprehension walks -/
/-- at turn i: it yields x (the heap may grow), or it stops -/
structure It where
  go : Nat → Hp → Prop
  yld : Nat → Hp → V → Hp → Prop
  stop : Nat → Hp → Prop
/-- the iterator's own objects may turn: they are not the frame's, not pinned, younger than the entry (or a comprehension's own) -/
def FpOk (X : Cx) (pins : List (Addr × Obj)) (H : Hp) (b : Addr) : Prop :=
  H b = none ∧ b ≠ X.env.locals ∧ b ∉ X.fs ∧ (b ∈ X.ex ∨ X.s₀.heap.objs.size ≤ b) ∧ (∀ x c, X.env.cells.lookup x = some c → c ≠ b) ∧ ∀ p ∈ X.pn ++ pins, p.1 ≠ b
theorem Inv.fpOk {X : Cx} {pins : List (Addr × Obj)} {σ : St} {H H' : Hp} {s : Shared} {b : Addr} (I : Inv X pins σ H s) (hb : s.heap.objs.size ≤ b) (hn : H' b = none) : FpOk X pins H' b := by
  refine ⟨hn, Nat.ne_of_gt (Nat.lt_of_lt_of_le I.lt hb), I.nofs hb, .inr (Nat.le_trans I.sz hb), fun x c e z => ?_, fun p hp z => ?_⟩
  · obtain ⟨v, q⟩ := I.cell x c e
    exact absurd (Nat.lt_of_lt_of_le q.lt (by rw [z]; exact hb)) (Nat.lt_irrefl _)
  · exact absurd (Nat.lt_of_lt_of_le (Heap.lt_size (I.pin p hp).1) (by rw [z]; exact hb)) (Nat.lt_irrefl _)
structure Turn (P : Program) (w : World) (K : PySem.W.Frag) (tg : Expr) (J : It) (fp : List Addr) (it : Addr) (tn : Nat → Heap → Prop) : Prop where
  mem : it ∈ fp
  obj : ∀ i h, tn i h → ∀ b ∈ fp, ∃ o, h.get? b = some o ∧ ∀ v, o.data ≠ .cell v
  keep : ∀ i h h', tn i h → (∀ b ∈ fp, ∀ o, h.get? b = some o → h'.get? b = some o) → tn i h'
  item : ∀ (X : Cx), X.prog = P → X.w = w → X.K = K → X.calm = true → ∀ (i : Nat) (pins : List (Addr × Obj)) (s : Shared) (σ : St) (H : Hp) (E : Value → Shared → Prop), Inv X pins σ H s → (∀ b ∈ fp, FpOk X pins H b) → tn i s.heap → J.go i H →
    wpAny (model P w) X.A (pyNext (.ref it)) (fun r s1 => ∃ u, r = some u ∧
      wpAny (model P w) X.A (letOwnedTupleGo tg (.ref it) u) (fun _ s2 => ∃ x H', Inv X pins σ H' s2 ∧ RelV x u ∧ J.yld i H x H' ∧ tn (i + 1) s2.heap ∧ ∀ b ∈ fp, H' b = none) E s1) E s
  done : ∀ (X : Cx), X.prog = P → X.w = w → X.K = K → X.calm = true → ∀ (i : Nat) (pins : List (Addr × Obj)) (s : Shared) (σ : St) (H : Hp) (E : Value → Shared → Prop), Inv X pins σ H s → (∀ b ∈ fp, FpOk X pins H b) → tn i s.heap → J.stop i H →
    wpAny (model P w) X.A (pyNext (.ref it)) (fun r s1 => r = none ∧ Inv X pins σ H s1) E s
  self : ∀ (A : Around) (i : Nat) (s : Shared) (Q : Value → Shared → Prop) (E : Value → Shared → Prop), tn i s.heap → Q (.ref it) s → wpAny (model P w) A (pyIter (.ref it)) Q E s
abbrev TI := St → Hp → (It → Hp → Prop) → Prop
/-- an iterator has come -/
def PIE (X : Cx) (pins : List (Addr × Obj)) (σ : St) (tg : Expr) (R : It → Hp → Prop) (itv : Value) (s2 : Shared) : Prop :=
  ∃ (it : Addr) (fp : List Addr) (tn : Nat → Heap → Prop) (J : It) (H' : Hp), itv = .ref it ∧ Inv X pins σ H' s2 ∧ Turn X.prog X.w X.K tg J fp it tn ∧ tn 0 s2.heap ∧ (∀ b ∈ fp, FpOk X pins H' b) ∧ R J H'
def PI (X : Cx) (tg iter : Expr) (wi : TI) : Prop :=
  ∀ (pins : List (Addr × Obj)) (s : Shared) (σ : St) (H : Hp) (R : It → Hp → Prop), Inv X pins σ H s → wi σ H R →
    wpAny (model X.prog X.w) X.A (eval iter X.env) (fun v s1 => wpAny (model X.prog X.w) X.A (pyIter v) (PIE X pins σ tg R) X.xe s1) X.xe s

/-- the step ahead of the store is nothing for an iterator that keeps no tuple -/
theorem go_of {M : Model} {A : Around} {E : Value → Shared → Prop} {s : Shared} {tg : Expr} {it : Addr} {u : Value} {o : Obj} {n : String} {vs : Array Value} {Q : Unit → Shared → Prop} (ho : s.heap.get? it = some o) (hc : o.cls = .type n) (hd : o.data = .fields vs)
    (hn : ["enumerate", "zip", "dict_itemiterator", "dict_reverseitemiterator", "odict_iterator", "itertools.zip_longest", "itertools.pairwise"].contains n = false) (hQ : Q () s) : wpAny M A (letOwnedTupleGo tg (.ref it) u) Q E s := by
  unfold letOwnedTupleGo
  cases tg <;> first
    | exact wpAny_pure hQ
    | (cases u <;> first
        | exact wpAny_pure hQ
        | (refine wpAny_bind (wpAny_load ho ?_)
           rw [hc, hd]
           show wpAny M A (if (["enumerate", "zip", "dict_itemiterator", "dict_reverseitemiterator", "odict_iterator", "itertools.zip_longest", "itertools.pairwise"].contains n && vs[0]? == some (rawInt _)) = true then _ else _) Q E s
           rw [if_neg (by intro h; rw [hn, Bool.false_and] at h; cases h)]
           exact wpAny_pure hQ))

/-- the list at a, as it stands at each turn (a loop may append to it) -/
def Itl (K : PySem.W.Frag) (a : Addr) : It :=
  ⟨fun i H => ∃ xs x, SqL K H a xs ∧ xs[i]? = some x, fun i H x H' => H' = H ∧ ∀ xs, SqL K H a xs → xs[i]? = some x, fun i H => ∃ xs, SqL K H a xs ∧ xs.length ≤ i⟩
def Itt (K : PySem.W.Frag) (a : Addr) : It :=
  ⟨fun i H => ∃ xs x, SqT K H a xs ∧ xs[i]? = some x, fun i H x H' => H' = H ∧ ∀ xs, SqT K H a xs → xs[i]? = some x, fun i H => ∃ xs, SqT K H a xs ∧ xs.length ≤ i⟩
/-- lo, lo + 1, .. (n of them) -/
def Itr (lo : Int) (n : Nat) : It := ⟨fun i _ => i < n, fun i H x H' => H' = H ∧ x = .int (lo + i), fun i _ => n ≤ i⟩
theorem turn_list {P : Program} {w : World} {K : PySem.W.Frag} {tg : Expr} (a it : Addr) : Turn P w K tg (Itl K a) [it] it (fun i h => h.IsListIter it a i) where
  mem := by simp
  obj := fun i h st b hb => by
    have e : b = it := by simpa using hb
    subst e
    obtain ⟨o, e, c, d⟩ := st
    exact ⟨o, e, fun v z => by rw [d] at z; cases z⟩
  keep := fun i h h' st k => st.at fun o e => k it (by simp) o e
  item := by
    intro X hP hw hK hc i pins s σ H E I hf st hg
    subst hP hw hK
    obtain ⟨xs, x, hq, hx⟩ := hg
    obtain ⟨its, rv, p, hz⟩ := I.list hq
    obtain ⟨u, hu, ru⟩ := rv.get hx
    obtain ⟨f0, f1, f2, f3, f4, f5⟩ := hf it (by simp)
    refine wpAny_pyNext_list_item st p.isList (x := u) (by simpa using hu) fun h' st' sb => ?_
    have I1 : Inv X pins σ H { s with heap := h' } := I.turned (t' := s.toks) (fun b o hb e => (sb.2 b hb).trans e) f0 f1 f3 f4 f5
    obtain ⟨o, e, c, d⟩ := id st'
    exact ⟨u, rfl, go_of (s := { s with heap := h' }) e c d (by decide) ⟨x, H, I1, ru, ⟨rfl, fun ys hy => by rw [I.list_inj hy hq]; exact hx⟩, st', fun b hb => (hf b hb).1⟩⟩
  done := by
    intro X hP hw hK hc i pins s σ H E I hf st hg
    subst hP hw hK
    obtain ⟨xs, hq, hx⟩ := hg
    obtain ⟨its, rv, p, hz⟩ := I.list hq
    obtain ⟨f0, f1, f2, f3, f4, f5⟩ := hf it (by simp)
    have hl := rv.length
    exact wpAny_pyNext_list_end (I.ok.hd hc) st p.isList (by simp; omega) fun h' eb => ⟨rfl, I.turned (t' := s.toks) (fun b o hb e => eb b o hb e) f0 f1 f3 f4 f5⟩
  self := fun _ _ _ _ _ st h => wpAny_pyIter_listiter st h
theorem turn_tuple {P : Program} {w : World} {K : PySem.W.Frag} {tg : Expr} (a it : Addr) : Turn P w K tg (Itt K a) [it] it (fun i h => h.IsTupleIter it a i) where
  mem := by simp
  obj := fun i h st b hb => by
    have e : b = it := by simpa using hb
    subst e
    obtain ⟨o, e, c, d⟩ := st
    exact ⟨o, e, fun v z => by rw [d] at z; cases z⟩
  keep := fun i h h' st k => st.at fun o e => k it (by simp) o e
  item := by
    intro X hP hw hK hc i pins s σ H E I hf st hg
    subst hP hw hK
    obtain ⟨xs, x, hq, hx⟩ := hg
    obtain ⟨its, rv, p, hz⟩ := I.tuple hq
    obtain ⟨u, hu, ru⟩ := rv.get hx
    obtain ⟨f0, f1, f2, f3, f4, f5⟩ := hf it (by simp)
    refine wpAny_pyNext_tuple_item st (show s.heap.IsTuple a its.toArray from p) (x := u) (by simpa using hu) fun h' st' sb => ?_
    have I1 : Inv X pins σ H { s with heap := h' } := I.turned (t' := s.toks) (fun b o hb e => (sb.2 b hb).trans e) f0 f1 f3 f4 f5
    obtain ⟨o, e, c, d⟩ := id st'
    exact ⟨u, rfl, go_of (s := { s with heap := h' }) e c d (by decide) ⟨x, H, I1, ru, ⟨rfl, fun ys hy => by rw [I.tuple_inj hy hq]; exact hx⟩, st', fun b hb => (hf b hb).1⟩⟩
  done := by
    intro X hP hw hK hc i pins s σ H E I hf st hg
    subst hP hw hK
    obtain ⟨xs, hq, hx⟩ := hg
    obtain ⟨its, rv, p, hz⟩ := I.tuple hq
    obtain ⟨f0, f1, f2, f3, f4, f5⟩ := hf it (by simp)
    have hl := rv.length
    exact wpAny_pyNext_tuple_end (I.ok.hd hc) st (show s.heap.IsTuple a its.toArray from p) (by simp; omega) fun h' eb => ⟨rfl, I.turned (t' := s.toks) (fun b o hb e => eb b o hb e) f0 f1 f3 f4 f5⟩
  self := fun _ _ _ _ _ st h => wpAny_pyIter_tupleiter st h
theorem turn_range {P : Program} {w : World} {K : PySem.W.Frag} {tg : Expr} (it : Addr) (lo : Int) (n : Nat) : Turn P w K tg (Itr lo n) [it] it (fun i h => IsRangeIter h it (lo + (i : Nat) * 1) ((n : Int) - (i : Nat)) 1) where
  mem := by simp
  obj := fun i h st b hb => by
    have e : b = it := by simpa using hb
    subst e
    exact ⟨_, st, fun v z => by
      have z' : Data.fields _ = Data.cell v := z
      cases z'⟩
  keep := fun i h h' st k => k it (by simp) _ st
  item := by
    intro X hP hw hK hc i pins s σ H E I hf st hg
    subst hP hw hK
    obtain ⟨f0, f1, f2, f3, f4, f5⟩ := hf it (by simp)
    have W := Walks.range (prog := X.prog) (w := X.w) (I.ok.hd hc) it lo 1 n
    refine W.item i s _ _ hg st fun v h' tk hv st' kk => ?_
    obtain ⟨t, rfl⟩ := hv
    have I1 : Inv X pins σ H { s with heap := h', toks := tk } := I.turned (fun b o hb e => kk b o (by simpa using hb) e) f0 f1 f3 f4 f5
    refine ⟨_, rfl, go_of (s := { s with heap := h', toks := tk }) (n := "range_iterator") st' rfl rfl (by decide) ⟨.int (lo + i), H, I1, ⟨t, ?_⟩, ⟨rfl, rfl⟩, st', fun b hb => (hf b hb).1⟩⟩
    rw [Int.mul_one]
  done := by
    intro X hP hw hK hc i pins s σ H E I hf st hg
    subst hP hw hK
    obtain ⟨f0, f1, f2, f3, f4, f5⟩ := hf it (by simp)
    exact wpAny_pyNext_range_end (I.ok.hd hc) st (by have : n ≤ i := hg; omega) fun h' eb => ⟨rfl, I.turned (t' := s.toks) (fun b o hb e => eb b o hb e) f0 f1 f3 f4 f5⟩
  self := fun _ _ _ _ _ st h => wpAny_pyIter_rangeiter st h
end L2

namespace L2
open PySem PySem.Spec PyProof.Rows
section
variable {X : Cx} {tg : Expr}
def iList (K : PySem.W.Frag) (tl : TE) : TI := fun σ H R => tl σ H fun x H1 => ∃ a, x = .ref a ∧ (∃ xs, SqL K H1 a xs) ∧ R (Itl K a) H1
def iTup (K : PySem.W.Frag) (tl : TE) : TI := fun σ H R => tl σ H fun x H1 => ∃ a, x = .ref a ∧ (∃ xs, SqT K H1 a xs) ∧ R (Itt K a) H1
theorem pi_list {l : Expr} {tl : TE} (hl : PE X l tl) : PI X tg l (iList X.K tl) := by
  intro pins s σ H R I h
  refine thn (hl pins s σ H _ I h) fun v s1 ⟨x, H1, I1, r1, q1⟩ => ?_
  obtain ⟨a, e, ⟨xs, hq⟩, q⟩ := q1
  subst e
  cases r1
  obtain ⟨its, rv, p, hz⟩ := I1.list hq
  refine wpAny_pyIter_list p.isList ?_
  refine ⟨s1.heap.objs.size, [s1.heap.objs.size], _, _, H1, rfl, I1.kept (t' := s1.toks) fun b o e => Heap.get?_push_of_some _ e, turn_list a _, ⟨_, Heap.get?_push_size _ rfl, rfl, rfl⟩, fun b hb => ?_, q⟩
  have e : b = s1.heap.objs.size := by simpa using hb
  subst e
  exact I1.fpOk (Nat.le_refl _) (I1.hok.fresh (Nat.le_refl _))
theorem pi_tup {l : Expr} {tl : TE} (hl : PE X l tl) : PI X tg l (iTup X.K tl) := by
  intro pins s σ H R I h
  refine thn (hl pins s σ H _ I h) fun v s1 ⟨x, H1, I1, r1, q1⟩ => ?_
  obtain ⟨a, e, ⟨xs, hq⟩, q⟩ := q1
  subst e
  cases r1
  obtain ⟨its, rv, p, hz⟩ := I1.tuple hq
  refine wpAny_pyIter_tuple (show s1.heap.IsTuple a its.toArray from p) ?_
  refine ⟨s1.heap.objs.size, [s1.heap.objs.size], _, _, H1, rfl, I1.kept (t' := s1.toks) fun b o e => Heap.get?_push_of_some _ e, turn_tuple a _, ⟨_, Heap.get?_push_size _ rfl, rfl, rfl⟩, fun b hb => ?_, q⟩
  have e : b = s1.heap.objs.size := by simpa using hb
  subst e
  exact I1.fpOk (Nat.le_refl _) (I1.hok.fresh (Nat.le_refl _))
/-- a range object just made, walked -/
theorem range_it {pins : List (Addr × Obj)} {σ : St} {H : Hp} {s : Shared} {R : It → Hp → Prop} {E : Value → Shared → Prop} {lo hi : Int} {t u v : Tok} {tk : Nat} (I : Inv X pins σ H s) (h1 : -(2 ^ 62) ≤ lo) (h2 : lo < 2 ^ 62) (h3 : -(2 ^ 62) ≤ hi) (h4 : hi < 2 ^ 62)
    (q : R (Itr lo (hi - lo).toNat) H) : wpAny (model X.prog X.w) X.A (pyIter (.ref s.heap.objs.size)) (PIE X pins σ tg R) E { s with heap := s.heap.push { cls := .type "range", data := .fields #[.int lo t, .int hi u, .int 1 v] }, toks := tk } := by
  refine wpAny_pyIter_range (IsRange.new ..) (small_one h1 h2 h3 h4) ?_
  have I1 : Inv X pins σ H { s with heap := s.heap.push { cls := .type "range", data := .fields #[.int lo t, .int hi u, .int 1 v] }, toks := tk } := I.kept fun b o e => Heap.get?_push_of_some _ e
  refine ⟨(s.heap.push { cls := .type "range", data := .fields #[.int lo t, .int hi u, .int 1 v] }).objs.size, [(s.heap.push { cls := .type "range", data := .fields #[.int lo t, .int hi u, .int 1 v] }).objs.size], _, _, H, rfl,
    I1.kept (t' := tk) fun b o e => Heap.get?_push_of_some _ e, turn_range _ lo (hi - lo).toNat, ?_, fun b hb => ?_, q⟩
  · have e1 : lo + ((0 : Nat) : Int) * 1 = lo := by simp
    have e2 : (((hi - lo).toNat : Nat) : Int) - ((0 : Nat) : Int) = Builtin.Range.rangeSize lo hi 1 := by rw [rangeSize_one]; split <;> omega
    show IsRangeIter _ _ (lo + ((0 : Nat) : Int) * 1) ((((hi - lo).toNat : Nat) : Int) - ((0 : Nat) : Int)) 1
    rw [e1, e2]
    exact Heap.get?_push_size _ rfl
  · have e : b = (s.heap.push { cls := .type "range", data := .fields #[.int lo t, .int hi u, .int 1 v] }).objs.size := by simpa using hb
    subst e
    exact I1.fpOk (Nat.le_refl _) (I1.hok.fresh (Nat.le_refl _))
def iRng1 (ta : TA) : TI := fun σ H R => ta σ H fun vs H1 => ∃ j : Int, vs = [.int j] ∧ -(2 ^ 62) ≤ j ∧ j < 2 ^ 62 ∧ R (Itr 0 j.toNat) H1
def iRng2 (ta : TA) : TI := fun σ H R => ta σ H fun vs H1 => ∃ i j : Int, vs = [.int i, .int j] ∧ (-(2 ^ 62) ≤ i ∧ i < 2 ^ 62 ∧ -(2 ^ 62) ≤ j ∧ j < 2 ^ 62) ∧ R (Itr i (j - i).toNat) H1
theorem pi_range1 {a : Expr} {ta : TA} {p pos : Pos} (hg : Gl X "range") (hm : X.mg "range" = none) (ha : PA X [a] ta) (hs : starEach [a] X.env = [(false, eval a X.env)] := by rfl) : PI X tg (.Call (.Name "range" p) [a] [] pos) (iRng1 ta) := by
  intro pins s σ H R I h
  refine Call_ (ld_blt I hg hm boot_range (PyProof.Rows.callWith_type1 (thn (ha pos pins s σ H _ I h) fun us s1 ⟨vs, H1, I1, r1, q1⟩ => ?_) hs rfl))
  obtain ⟨j, e, q1, q2, q⟩ := q1
  subst e
  cases r1 with
  | cons r rr =>
    cases rr
    obtain ⟨t, rfl⟩ := r
    exact call_range_1 (range_it I1 (by omega) (by omega) q1 q2 (by simpa using q))
theorem pi_range2 {a b : Expr} {ta : TA} {p pos : Pos} (hg : Gl X "range") (hm : X.mg "range" = none) (ha : PA X [a, b] ta) (hs : starEach [a, b] X.env = [(false, eval a X.env), (false, eval b X.env)] := by rfl) (hs2 : starEach [b] X.env = [(false, eval b X.env)] := by rfl) :
    PI X tg (.Call (.Name "range" p) [a, b] [] pos) (iRng2 ta) := by
  intro pins s σ H R I h
  refine Call_ (ld_blt I hg hm boot_range (PyProof.Rows.callWith_type1 (thn (ha pos pins s σ H _ I h) fun us s1 ⟨vs, H1, I1, r1, q1⟩ => ?_) (by rw [hs, hs2]) (by rw [hs2]; rfl)))
  obtain ⟨i, j, e, ⟨q1, q2, q3, q4⟩, q⟩ := q1
  subst e
  cases r1 with
  | cons r rr =>
    cases rr with
    | cons r' rr =>
      cases rr
      obtain ⟨t, rfl⟩ := r
      obtain ⟨t', rfl⟩ := r'
      exact call_range_2 (range_it I1 q1 q2 q3 q4 q)

/-! ### for -/
/-- W: the invariant by the turn and a measure; N: what the body is to reach -/
def tFor (wi : TI) (g : TG) (tb : TS) : TS := fun D σ H => wi σ H fun J H1 => ∃ W : Nat → Nat → St → Hp → Prop, (∃ m, W 0 m σ H1) ∧ ∀ i m σ H, W i m σ H →
  (J.stop i H ∧ D.nx σ H) ∨ (J.go i H ∧ ∃ N : St → Hp → Prop, (∀ σ' H', N σ' H' → ∃ m', m' < m ∧ W (i + 1) m' σ' H') ∧ ∀ x H', J.yld i H x H' → g x σ H' fun σ2 H2 => tb { D with nx := N, ct := N, bk := D.nx } σ2 H2)
/-- the records at fp as they stand -/
def pinsAt (fp : List Addr) (h : Heap) : List (Addr × Obj) := fp.filterMap fun b => (h.get? b).map fun o => (b, o)
theorem mem_pinsAt {fp : List Addr} {h : Heap} {b : Addr} {o : Obj} (hb : b ∈ fp) (e : h.get? b = some o) : (b, o) ∈ pinsAt fp h := List.mem_filterMap.mpr ⟨b, hb, by rw [e]; rfl⟩
theorem of_pinsAt {fp : List Addr} {h : Heap} {p : Addr × Obj} (hp : p ∈ pinsAt fp h) : p.1 ∈ fp ∧ h.get? p.1 = some p.2 := by
  obtain ⟨b, hb, e⟩ := List.mem_filterMap.mp hp
  cases q : h.get? b with
  | none => rw [q] at e; cases e
  | some o =>
    rw [q] at e
    have e' : (b, o) = p := Option.some.inj e
    subst e'
    exact ⟨hb, q⟩
theorem Inv.pinned {pins : List (Addr × Obj)} {σ : St} {H : Hp} {s : Shared} {fp : List Addr} (I : Inv X pins σ H s) (hf : ∀ b ∈ fp, FpOk X pins H b) (ho : ∀ b ∈ fp, ∃ o, s.heap.get? b = some o ∧ ∀ v, o.data ≠ .cell v) : Inv X (pins ++ pinsAt fp s.heap) σ H s :=
  I.pins_of fun p hp => (List.mem_append.mp hp).elim (fun z => I.pin p (List.mem_append_right _ z)) fun z => by
    obtain ⟨hb, e⟩ := of_pinsAt z
    obtain ⟨f0, f1, f2, _⟩ := hf p.1 hb
    obtain ⟨o, e', d⟩ := ho p.1 hb
    rw [e] at e'; cases e'
    exact ⟨e, f0, f1, f2, d⟩
theorem Inv.unpinned {pins pl : List (Addr × Obj)} {σ : St} {H : Hp} {s : Shared} (I : Inv X (pins ++ pl) σ H s) : Inv X pins σ H s := I.pins_of fun p hp => I.pin p (List.mem_append_right _ (List.mem_append_left _ hp))
theorem ps_for {iter : Expr} {body : List Stmt} {wi : TI} {g : TG} {tb : TS} {pos : Pos} (hp : PassesOwn (model X.prog X.w) X.A X.env X.xe) (hc : X.calm = true) (hi : PI X tg iter wi) (hg : PG X tg g) (hb : PSs X body tb)
    (hs : ∀ x, foldedSetIterable iter X.env x = pure x := by intro _; rfl) : PS X (.For tg iter body [] pos) (tFor wi g tb) := by
  intro pins s σ H D I h
  refine wpAny_For (thn (hi pins s σ H _ I h) fun v s1 h1 => thn h1 fun itv s2 h2 => ?_) hs
  obtain ⟨it, fp, tn, J, H2, e, I2, T, st2, f2, W, ⟨m0, w0⟩, turn⟩ := h2
  subst e
  -- what stays true of the iterator's objects through the loop
  have stat : ∀ {H' : Hp}, (∀ b ∈ fp, H' b = none) → ∀ b ∈ fp, FpOk X pins H' b := fun hn b hb => ⟨hn b hb, (f2 b hb).2⟩
  refine codeAny_forLoop_any (fun n s' => ∃ i σ' H', Inv X pins σ' H' s' ∧ tn i s'.heap ∧ (∀ b ∈ fp, H' b = none) ∧ W i n σ' H') ?_ m0 ⟨0, σ, H2, I2, st2, fun b hb => (f2 b hb).1, w0⟩
  rintro n s3 ⟨i, σ3, H3, I3, st3, fr3, w3⟩
  rcases turn i n σ3 H3 w3 with ⟨stop, qn⟩ | ⟨go, N, hN, step⟩
  · refine wpAny_passesOwn hp (thn (T.done X rfl rfl rfl hc i pins s3 σ3 H3 X.xe I3 (stat fr3) st3 stop) fun r s4 ⟨hr, I4⟩ => ?_)
    subst hr
    exact wpAny_execs_nil ⟨σ3, H3, I4, qn⟩
  · refine wpAny_passesOwn hp (thn (T.item X rfl rfl rfl hc i pins s3 σ3 H3 X.xe I3 (stat fr3) st3 go) fun r s4 ⟨u, hr, h4⟩ => ?_)
    subst hr
    refine wpAny_passesOwn hp (thn h4 fun _ s5 ⟨x, H5, I5, r5, y5, st5, fr5⟩ => ?_)
    have I5' := I5.pinned (stat fr5) (T.obj _ _ st5)
    refine wpAny_passesOwn hp (thn (hg _ s5 σ3 H5 x u _ I5' r5 (step x H5 y5)) fun _ s6 ⟨σ6, H6, I6, q6⟩ => ?_)
    refine wpAny_passesOwn hp (thn (hb _ s6 σ6 H6 _ I6 q6) fun f s7 q7 => ?_)
    have again : ∀ {σ7 : St} {H7 : Hp}, Inv X (pins ++ pinsAt fp s5.heap) σ7 H7 s7 → N σ7 H7 → ∃ m, m < n ∧ ∃ i σ' H', Inv X pins σ' H' s7 ∧ tn i s7.heap ∧ (∀ b ∈ fp, H' b = none) ∧ W i m σ' H' := fun {σ7 H7} I7 n7 => by
      obtain ⟨m', hm, w7⟩ := hN σ7 H7 n7
      refine ⟨m', hm, i + 1, σ7, H7, I7.unpinned, T.keep _ _ _ st5 fun b hb o e => (I7.pin (b, o) (List.mem_append_right _ (List.mem_append_right _ (mem_pinsAt hb e)))).1, fun b hb => ?_, w7⟩
      obtain ⟨o, e, d⟩ := T.obj _ _ st5 b hb
      exact (I7.pin (b, o) (List.mem_append_right _ (List.mem_append_right _ (mem_pinsAt hb e)))).2.1
    cases f with
    | next => obtain ⟨σ7, H7, I7, n7⟩ := q7; exact again I7 n7
    | cont => obtain ⟨σ7, H7, I7, n7⟩ := q7; exact again I7 n7
    | brk => obtain ⟨σ7, H7, I7, q7⟩ := q7; exact ⟨σ7, H7, I7.unpinned, q7⟩
    | ret v => obtain ⟨x7, σ7, H7, I7, r7, q7⟩ := q7; exact ⟨x7, σ7, H7, I7.unpinned, r7, q7⟩
end

/-! ### the forms one uses -/
/-- over a list that the body leaves as it is -/
theorem for_list {K : PySem.W.Frag} {a : Addr} {xs : List V} {g : TG} {tb : TS} {D : Ends} {σ : St} {H : Hp} (Pv : Nat → St → Hp → Prop) (h0 : Pv 0 σ H) (hl : ∀ i σ H, i ≤ xs.length → Pv i σ H → SqL K H a xs)
    (hs : ∀ i x σ H, xs[i]? = some x → Pv i σ H → g x σ H fun σ2 H2 => tb { D with nx := Pv (i + 1), ct := Pv (i + 1), bk := D.nx } σ2 H2) (hd : ∀ σ H, Pv xs.length σ H → D.nx σ H) :
    ∃ W : Nat → Nat → St → Hp → Prop, (∃ m, W 0 m σ H) ∧ ∀ i m σ H, W i m σ H →
      ((Itl K a).stop i H ∧ D.nx σ H) ∨ ((Itl K a).go i H ∧ ∃ N : St → Hp → Prop, (∀ σ' H', N σ' H' → ∃ m', m' < m ∧ W (i + 1) m' σ' H') ∧ ∀ x H', (Itl K a).yld i H x H' → g x σ H' fun σ2 H2 => tb { D with nx := N, ct := N, bk := D.nx } σ2 H2) := by
  refine ⟨fun i m σ H => m = xs.length - i ∧ i ≤ xs.length ∧ Pv i σ H, ⟨xs.length, by simp, Nat.zero_le _, h0⟩, ?_⟩
  rintro i m σ H ⟨rfl, hi, p⟩
  have q := hl i σ H hi p
  by_cases hlt : i < xs.length
  · refine .inr ⟨⟨xs, xs[i], q, by simp [hlt]⟩, Pv (i + 1), fun σ' H' p' => ⟨xs.length - (i + 1), by omega, rfl, hlt, p'⟩, fun x H' y => ?_⟩
    obtain ⟨e, y⟩ := y
    subst e
    exact hs i x σ _ (y xs q) p
  · have e : i = xs.length := by omega
    subst e
    exact .inl ⟨⟨xs, q, Nat.le_refl _⟩, hd σ H p⟩
theorem for_tup {K : PySem.W.Frag} {a : Addr} {xs : List V} {g : TG} {tb : TS} {D : Ends} {σ : St} {H : Hp} (Pv : Nat → St → Hp → Prop) (h0 : Pv 0 σ H) (hl : ∀ i σ H, i ≤ xs.length → Pv i σ H → SqT K H a xs)
    (hs : ∀ i x σ H, xs[i]? = some x → Pv i σ H → g x σ H fun σ2 H2 => tb { D with nx := Pv (i + 1), ct := Pv (i + 1), bk := D.nx } σ2 H2) (hd : ∀ σ H, Pv xs.length σ H → D.nx σ H) :
    ∃ W : Nat → Nat → St → Hp → Prop, (∃ m, W 0 m σ H) ∧ ∀ i m σ H, W i m σ H →
      ((Itt K a).stop i H ∧ D.nx σ H) ∨ ((Itt K a).go i H ∧ ∃ N : St → Hp → Prop, (∀ σ' H', N σ' H' → ∃ m', m' < m ∧ W (i + 1) m' σ' H') ∧ ∀ x H', (Itt K a).yld i H x H' → g x σ H' fun σ2 H2 => tb { D with nx := N, ct := N, bk := D.nx } σ2 H2) := by
  refine ⟨fun i m σ H => m = xs.length - i ∧ i ≤ xs.length ∧ Pv i σ H, ⟨xs.length, by simp, Nat.zero_le _, h0⟩, ?_⟩
  rintro i m σ H ⟨rfl, hi, p⟩
  have q := hl i σ H hi p
  by_cases hlt : i < xs.length
  · refine .inr ⟨⟨xs, xs[i], q, by simp [hlt]⟩, Pv (i + 1), fun σ' H' p' => ⟨xs.length - (i + 1), by omega, rfl, hlt, p'⟩, fun x H' y => ?_⟩
    obtain ⟨e, y⟩ := y
    subst e
    exact hs i x σ _ (y xs q) p
  · have e : i = xs.length := by omega
    subst e
    exact .inl ⟨⟨xs, q, Nat.le_refl _⟩, hd σ H p⟩
theorem for_range {lo : Int} {n : Nat} {g : TG} {tb : TS} {D : Ends} {σ : St} {H : Hp} (Pv : Nat → St → Hp → Prop) (h0 : Pv 0 σ H)
    (hs : ∀ i σ H, i < n → Pv i σ H → g (.int (lo + i)) σ H fun σ2 H2 => tb { D with nx := Pv (i + 1), ct := Pv (i + 1), bk := D.nx } σ2 H2) (hd : ∀ σ H, Pv n σ H → D.nx σ H) :
    ∃ W : Nat → Nat → St → Hp → Prop, (∃ m, W 0 m σ H) ∧ ∀ i m σ H, W i m σ H →
      ((Itr lo n).stop i H ∧ D.nx σ H) ∨ ((Itr lo n).go i H ∧ ∃ N : St → Hp → Prop, (∀ σ' H', N σ' H' → ∃ m', m' < m ∧ W (i + 1) m' σ' H') ∧ ∀ x H', (Itr lo n).yld i H x H' → g x σ H' fun σ2 H2 => tb { D with nx := N, ct := N, bk := D.nx } σ2 H2) := by
  refine ⟨fun i m σ H => m = n - i ∧ i ≤ n ∧ Pv i σ H, ⟨n, by simp, Nat.zero_le _, h0⟩, ?_⟩
  rintro i m σ H ⟨rfl, hi, p⟩
  by_cases hlt : i < n
  · refine .inr ⟨hlt, Pv (i + 1), fun σ' H' p' => ⟨n - (i + 1), by omega, rfl, hlt, p'⟩, fun x H' y => ?_⟩
    obtain ⟨e, y⟩ := y
    subst e y
    exact hs i σ _ hlt p
  · have e : i = n := by omega
    subst e
    exact .inl ⟨Nat.le_refl _, hd σ H p⟩
/-- while, by a word and a measure of the state -/
theorem while_by {c : TT} {tb : TS} {D : Ends} {σ : St} {H : Hp} (Pv : St → Hp → Prop) (μ : St → Hp → Nat) (h0 : Pv σ H)
    (hs : ∀ σ H, Pv σ H → c σ H fun b H1 => if b = true then tb { D with nx := fun σ' H' => Pv σ' H' ∧ μ σ' H' < μ σ H, ct := fun σ' H' => Pv σ' H' ∧ μ σ' H' < μ σ H, bk := D.nx } σ H1 else D.nx σ H1)
    (mono : ∀ σ H Q Q', (∀ b H1, Q b H1 → Q' b H1) → c σ H Q → c σ H Q') : tWhile c tb D σ H := by
  refine ⟨fun m σ H => m = μ σ H ∧ Pv σ H, ⟨_, rfl, h0⟩, ?_⟩
  rintro m σ H ⟨rfl, p⟩
  refine mono σ H _ _ (fun b H1 q => ?_) (hs σ H p)
  cases b with
  | true => exact ⟨_, fun σ' H' ⟨p', l⟩ => ⟨_, l, rfl, p'⟩, q⟩
  | false => exact q
end L2

namespace L2
open PySem PySem.Spec PyProof.Rows

abbrev R2 := V → V → Hp → VK → Prop
/-- a two-place operation on values: f is binaryOp op, inplaceOp op or compareOp op -/
def OpR (X : Cx) (f : Value → Value → Sem Value) (r : R2) : Prop :=
  ∀ (pins : List (Addr × Obj)) (s : Shared) (σ : St) (H : Hp) (x y : V) (v u : Value) (Q : VK), Inv X pins σ H s → RelV x v → RelV y u → r x y H Q →
    wpAny (model X.prog X.w) X.A (f v u) (EP X pins σ Q) X.xe s
/-- a one-place operation -/
def UnR (X : Cx) (f : Value → Sem Value) (r : V → Hp → VK → Prop) : Prop :=
  ∀ (pins : List (Addr × Obj)) (s : Shared) (σ : St) (H : Hp) (x : V) (v : Value) (Q : VK), Inv X pins σ H s → RelV x v → r x H Q →
    wpAny (model X.prog X.w) X.A (f v) (EP X pins σ Q) X.xe s
/-- a call of a value that is known (a builtin, a type) with values -/
def CallR (X : Cx) (f : Value) (r : List V → Hp → VK → Prop) : Prop :=
  ∀ (pins : List (Addr × Obj)) (s : Shared) (σ : St) (H : Hp) (xs : List V) (us : List Value) (Q : VK), Inv X pins σ H s → Vals xs us → r xs H Q →
    wpAny (model X.prog X.w) X.A (call f us) (EP X pins σ Q) X.xe s
/-- a value's truth -/
def TruR (X : Cx) (r : V → Hp → (Bool → Hp → Prop) → Prop) : Prop :=
  ∀ (pins : List (Addr × Obj)) (s : Shared) (σ : St) (H : Hp) (x : V) (v : Value) (Q : Bool → Hp → Prop), Inv X pins σ H s → RelV x v → r x H Q →
    wpAny (model X.prog X.w) X.A (truthy v) (TP X pins σ Q) X.xe s

def tOp (r : R2) (ta tb : TE) : TE := fun σ H Q => ta σ H fun x H1 => tb σ H1 fun y H2 => r x y H2 Q
def tUn (r : V → Hp → VK → Prop) (ta : TE) : TE := fun σ H Q => ta σ H fun x H1 => r x H1 Q
/-- ints in, under C, and a value out -/
def rI (C : Int → Int → Prop) (g : Int → Int → V) : R2 := fun x y H Q => ∃ i j, x = .int i ∧ y = .int j ∧ C i j ∧ Q (g i j) H
def rI0 (g : Int → Int → V) : R2 := fun x y H Q => ∃ i j, x = .int i ∧ y = .int j ∧ Q (g i j) H
def rU (g : Int → V) : V → Hp → VK → Prop := fun x H Q => ∃ i, x = .int i ∧ Q (g i) H

section
variable {X : Cx} {a b c : Expr} {ta tb tc : TE} {pos : Pos}

theorem binT (ha : PE X a ta) (hb : PE X b tb) {pins : List (Addr × Obj)} {s : Shared} {σ : St} {H : Hp} {R : V → V → Hp → Prop} (I : Inv X pins σ H s)
    (h : ta σ H fun x H1 => tb σ H1 fun y H2 => R x y H2) {Q : Value → Shared → Prop} {f : Value → Value → Sem Value}
    (hf : ∀ v u s2 x y H2, Inv X pins σ H2 s2 → RelV x v → RelV y u → R x y H2 → wpAny (model X.prog X.w) X.A (f v u) Q X.xe s2) :
    wpAny (model X.prog X.w) X.A (eval a X.env) (fun v s₁ => wpAny (model X.prog X.w) X.A (eval b X.env) (fun u s₂ => wpAny (model X.prog X.w) X.A (f v u) Q X.xe s₂) X.xe s₁) X.xe s := by
  refine thn (ha pins s σ H _ I h) fun v s1 ⟨x, H1, I1, r1, q1⟩ => ?_
  refine thn (hb pins s1 σ H1 _ I1 q1) fun u s2 ⟨y, H2, I2, r2, q2⟩ => ?_
  exact hf v u s2 x y H2 I2 r1 r2 q2

theorem pe_op {op : Operator} {r : R2} (ho : OpR X (binaryOp op) r) (ha : PE X a ta) (hb : PE X b tb) : PE X (.BinOp a op b pos) (tOp r ta tb) := by
  intro pins s σ H Q I h
  exact wpAny_BinOp (binT ha hb I h fun v u s2 x y H2 I2 rx ry q => ho pins s2 σ H2 x y v u Q I2 rx ry q)
theorem pe_un {op : UnaryOp} {r : V → Hp → VK → Prop} (ho : UnR X (unaryOp op) r) (ha : PE X a ta) : PE X (.UnaryOp op a pos) (tUn r ta) := by
  intro pins s σ H Q I h
  exact UnaryOp_ (thn (ha pins s σ H _ I h) fun v s1 ⟨x, H1, I1, r1, q1⟩ => ho pins s1 σ H1 x v Q I1 r1 q1)
/-- a op= e at a name: the name's slot i -/
theorem augR {op : Operator} {r : R2} (ho : OpR X (inplaceOp op) r) {pins : List (Addr × Obj)} {s : Shared} {σ : St} {H : Hp} {x y : V} {v u : Value} {Q : VK} (I : Inv X pins σ H s)
    (rx : RelV x v) (ry : RelV y u) (q : r x y H Q) : wpAny (model X.prog X.w) X.A (inplaceOp op v u) (EP X pins σ Q) X.xe s := ho pins s σ H x y v u Q I rx ry q

/-! ### ints -/
theorem opI {f : Value → Value → Sem Value} {C : Int → Int → Prop} {g : Int → Int → Int}
    (rule : ∀ (i j : Int) (t u : Tok) (s : Shared) (Q : Value → Shared → Prop) (E : Value → Shared → Prop), C i j → Q (.int (g i j) s.toks) { s with toks := s.toks + 1 } → wpAny (model X.prog X.w) X.A (f (.int i t) (.int j u)) Q E s) :
    OpR X f (rI C fun i j => .int (g i j)) := by
  intro pins s σ H x y v u Q I rx ry h
  obtain ⟨i, j, rfl, rfl, hc, q⟩ := h
  obtain ⟨t, rfl⟩ := rx
  obtain ⟨t', rfl⟩ := ry
  exact rule i j t t' s _ _ hc ⟨.int (g i j), H, I.tok _, ⟨_, rfl⟩, q⟩
theorem opI0 {f : Value → Value → Sem Value} {g : Int → Int → Int}
    (rule : ∀ (i j : Int) (t u : Tok) (s : Shared) (Q : Value → Shared → Prop) (E : Value → Shared → Prop), Q (.int (g i j) s.toks) { s with toks := s.toks + 1 } → wpAny (model X.prog X.w) X.A (f (.int i t) (.int j u)) Q E s) :
    OpR X f (rI0 fun i j => .int (g i j)) := by
  intro pins s σ H x y v u Q I rx ry h
  obtain ⟨i, j, rfl, rfl, q⟩ := h
  obtain ⟨t, rfl⟩ := rx
  obtain ⟨t', rfl⟩ := ry
  exact rule i j t t' s _ _ ⟨.int (g i j), H, I.tok _, ⟨_, rfl⟩, q⟩
theorem opB0 {f : Value → Value → Sem Value} {g : Int → Int → Bool}
    (rule : ∀ (i j : Int) (t u : Tok) (s : Shared) (Q : Value → Shared → Prop) (E : Value → Shared → Prop), Q (.bool (g i j)) s → wpAny (model X.prog X.w) X.A (f (.int i t) (.int j u)) Q E s) :
    OpR X f (rI0 fun i j => .bl (g i j)) := by
  intro pins s σ H x y v u Q I rx ry h
  obtain ⟨i, j, rfl, rfl, q⟩ := h
  obtain ⟨t, rfl⟩ := rx
  obtain ⟨t', rfl⟩ := ry
  exact rule i j t t' s _ _ ⟨.bl (g i j), H, I, rfl, q⟩

def CDiv (i j : Int) : Prop := 0 < j ∧ j < 1073741824
def CDivN (i j : Int) : Prop := j ≠ 0 ∧ j.natAbs < 1073741824
def CPow (i j : Int) : Prop := 0 ≤ j ∧ j ≤ 1000000 ∧ i.natAbs < 2 ^ 64
def CMul (i j : Int) : Prop := (-(2 ^ 64) < i ∧ i < 2 ^ 64) ∨ (-(2 ^ 64) < j ∧ j < 2 ^ 64)
theorem CMul.ok {i j : Int} (h : CMul i j) : IntMulOk i j := by
  rcases h with ⟨h1, h2⟩ | ⟨h1, h2⟩
  · exact .of_left (intBits_le_64 h1 h2)
  · exact .of_right (intBits_le_64 h1 h2)
theorem two_pow_nn (k : Nat) : (0 : Int) ≤ 2 ^ k := by
  rw [two_pow_cast]
  exact Int.natCast_nonneg _

theorem op_add : OpR X (binaryOp .Add) (rI0 fun i j => .int (i + j)) := opI0 fun _ _ _ _ _ _ _ q => add_int q
theorem op_sub : OpR X (binaryOp .Sub) (rI0 fun i j => .int (i - j)) := opI0 fun _ _ _ _ _ _ _ q => sub_int q
theorem op_mul : OpR X (binaryOp .Mult) (rI CMul fun i j => .int (i * j)) := opI fun _ _ _ _ _ _ _ hc q => mul_int q hc.ok
/-- // by a positive divisor -/
theorem op_fdiv : OpR X (binaryOp .FloorDiv) (rI CDiv fun i j => .int (i / j)) := opI fun i j _ _ _ _ _ hc q => by
  have h1 : (0 : Int) < j := hc.1
  have h2 : j < 1073741824 := hc.2
  exact floordiv_int (by omega) (by rw [Int.fdiv_eq_ediv_of_nonneg i (by omega)]; exact q) (.inl (PyProof.noPylong_small (by omega)))
theorem op_fdivN : OpR X (binaryOp .FloorDiv) (rI CDivN fun i j => .int (i.fdiv j)) := opI fun _ _ _ _ _ _ _ hc q => floordiv_int hc.1 q (.inl (PyProof.noPylong_small hc.2))
/-- % by a positive divisor of any size -/
theorem op_mod : OpR X (binaryOp .Mod) (rI (fun _ j => 0 < j) fun i j => .int (i % j)) := opI fun i j _ _ _ _ _ hc q => by
  have h1 : (0 : Int) < j := hc
  exact mod_int' (by omega) (by rw [Int.fmod_eq_emod_of_nonneg i (by omega)]; exact q)
theorem op_modN : OpR X (binaryOp .Mod) (rI (fun _ j => j ≠ 0) fun i j => .int (i.fmod j)) := opI fun _ _ _ _ _ _ _ hc q => mod_int' hc q
theorem op_pow : OpR X (binaryOp .Pow) (rI CPow fun i j => .int (i ^ j.toNat)) := opI fun _ _ _ _ _ _ _ hc q => pow_int_small hc.1 hc.2.1 hc.2.2 q
theorem op_shl : OpR X (binaryOp .LShift) (rI CPow fun i j => .int (i * 2 ^ j.toNat)) := opI fun _ _ _ _ _ _ _ hc q => lshift_int_small hc.1 hc.2.1 hc.2.2 q
theorem op_shr : OpR X (binaryOp .RShift) (rI (fun _ j => 0 ≤ j) fun i j => .int (i / 2 ^ j.toNat)) := opI fun i j _ _ _ _ _ hc q =>
  rshift_int hc (by rw [Int.fdiv_eq_ediv_of_nonneg i (two_pow_nn _)]; exact q)
theorem op_and : OpR X (binaryOp .BitAnd) (rI0 fun i j => .int (Builtin.bitAnd i j)) := opI0 fun _ _ _ _ _ _ _ q => and_int q
theorem op_or : OpR X (binaryOp .BitOr) (rI0 fun i j => .int (Builtin.bitOr i j)) := opI0 fun _ _ _ _ _ _ _ q => or_int q
theorem op_xor : OpR X (binaryOp .BitXor) (rI0 fun i j => .int (Builtin.bitXor i j)) := opI0 fun _ _ _ _ _ _ _ q => xor_int q

theorem iop_add : OpR X (inplaceOp .Add) (rI0 fun i j => .int (i + j)) := opI0 fun _ _ _ _ _ _ _ q => iadd_int q
theorem iop_sub : OpR X (inplaceOp .Sub) (rI0 fun i j => .int (i - j)) := opI0 fun _ _ _ _ _ _ _ q => isub_int q
theorem iop_mul : OpR X (inplaceOp .Mult) (rI CMul fun i j => .int (i * j)) := opI fun _ _ _ _ _ _ _ hc q => imul_int q hc.ok
theorem iop_fdiv : OpR X (inplaceOp .FloorDiv) (rI CDiv fun i j => .int (i / j)) := opI fun i j _ _ _ _ _ hc q => by
  have h1 : (0 : Int) < j := hc.1
  have h2 : j < 1073741824 := hc.2
  exact ifloordiv_int (by omega) (by rw [Int.fdiv_eq_ediv_of_nonneg i (by omega)]; exact q) (.inl (PyProof.noPylong_small (by omega)))
theorem iop_mod : OpR X (inplaceOp .Mod) (rI (fun _ j => 0 < j) fun i j => .int (i % j)) := opI fun i j _ _ _ _ _ hc q => by
  have h1 : (0 : Int) < j := hc
  exact imod_int (by omega) (by rw [Int.fmod_eq_emod_of_nonneg i (by omega)]; exact q)
theorem iop_shl : OpR X (inplaceOp .LShift) (rI CPow fun i j => .int (i * 2 ^ j.toNat)) := opI fun _ _ _ _ _ _ _ hc q => ilshift_int_small hc.1 hc.2.1 hc.2.2 q
theorem iop_shr : OpR X (inplaceOp .RShift) (rI (fun _ j => 0 ≤ j) fun i j => .int (i / 2 ^ j.toNat)) := opI fun i j _ _ _ _ _ hc q =>
  irshift_int hc (by rw [Int.fdiv_eq_ediv_of_nonneg i (two_pow_nn _)]; exact q)
theorem iop_and : OpR X (inplaceOp .BitAnd) (rI0 fun i j => .int (Builtin.bitAnd i j)) := opI0 fun _ _ _ _ _ _ _ q => iand_int q
theorem iop_or : OpR X (inplaceOp .BitOr) (rI0 fun i j => .int (Builtin.bitOr i j)) := opI0 fun _ _ _ _ _ _ _ q => ior_int q
theorem iop_xor : OpR X (inplaceOp .BitXor) (rI0 fun i j => .int (Builtin.bitXor i j)) := opI0 fun _ _ _ _ _ _ _ q => ixor_int q

theorem unI {f : Value → Sem Value} {g : Int → Int}
    (rule : ∀ (i : Int) (t : Tok) (s : Shared) (Q : Value → Shared → Prop) (E : Value → Shared → Prop), Q (.int (g i) s.toks) { s with toks := s.toks + 1 } → wpAny (model X.prog X.w) X.A (f (.int i t)) Q E s) :
    UnR X f (rU fun i => .int (g i)) := by
  intro pins s σ H x v Q I rx h
  obtain ⟨i, rfl, q⟩ := h
  obtain ⟨t, rfl⟩ := rx
  exact rule i t s _ _ ⟨.int (g i), H, I.tok _, ⟨_, rfl⟩, q⟩
theorem un_neg : UnR X (unaryOp .USub) (rU fun i => .int (-i)) := unI fun _ _ _ _ _ q => neg_int q
theorem un_inv : UnR X (unaryOp .Invert) (rU fun i => .int (Builtin.bitNot i)) := unI fun _ _ _ _ _ q => invert_int q

/-! ### bools among ints: n += (a < b) -/
theorem op_add_ib : OpR X (binaryOp .Add) (fun x y H Q => ∃ i k, x = .int i ∧ y = .bl k ∧ Q (.int (i + b2i k)) H) := by
  intro pins s σ H x y v u Q I rx ry h
  obtain ⟨i, k, rfl, rfl, q⟩ := h
  obtain ⟨t, rfl⟩ := rx
  cases ry
  exact add_int_bool ⟨.int (i + b2i k), H, I.tok _, ⟨_, rfl⟩, q⟩
end

/-! ### comparisons -/
/-- the scalars that == tells apart as data does -/
def scal : V → V → Bool
  | .non, .non => true | .non, .int _ => true | .int _, .non => true | .non, .bl _ => true | .bl _, .non => true | .non, .str _ => true | .str _, .non => true
  | .int _, .int _ => true | .bl _, .bl _ => true | .str _, .str _ => true | .byt _, .byt _ => true
  | .int _, .str _ => true | .str _, .int _ => true | .bl _, .str _ => true | .str _, .bl _ => true
  | _, _ => false
def rEq : R2 := fun x y H Q => scal x y = true ∧ Q (.bl (decide (x = y))) H
def rNe : R2 := fun x y H Q => scal x y = true ∧ Q (.bl (!decide (x = y))) H

theorem dec_int {i j : Int} : decide (V.int i = V.int j) = (i == j) := by
  rw [Bool.eq_iff_iff]
  simp
theorem dec_bl {i j : Bool} : decide (V.bl i = V.bl j) = (i == j) := by
  rw [Bool.eq_iff_iff]
  simp
theorem dec_str {i j : Str} : decide (V.str i = V.str j) = (i == j) := by
  rw [Bool.eq_iff_iff]
  simp
theorem dec_byt {i j : Array UInt8} : decide (V.byt i = V.byt j) = (i.toList == j.toList) := by
  rw [Bool.eq_iff_iff]
  cases i
  cases j
  simp

section
variable {X : Cx} {a b c : Expr} {ta tb tc : TE} {pos : Pos}
theorem fin_bl {pins : List (Addr × Obj)} {σ : St} {H : Hp} {s : Shared} {Q : VK} {k k' : Bool} (I : Inv X pins σ H s) (q : Q (.bl k) H) (e : k = k') : EP X pins σ Q (.bool k') s := by
  subst e
  exact ⟨.bl k, H, I, rfl, q⟩
theorem op_eq : OpR X (compareOp .Eq) rEq := by
  intro pins s σ H x y v u Q I rx ry h
  obtain ⟨hs, q⟩ := h
  cases x with
  | non =>
    cases rx
    cases y with
    | non => cases ry; exact PySem.EqNone.eq_none_none (fin_bl I q (by simp))
    | bl j => cases ry; exact PySem.EqNone.eq_none_bool (fin_bl I q (by simp))
    | int j => obtain ⟨t', rfl⟩ := ry; exact PySem.EqNone.eq_none_int (fin_bl I q (by simp))
    | str j => obtain ⟨t', rfl⟩ := ry; exact PySem.EqNone.eq_none_str (fin_bl I q (by simp))
    | _ => exact absurd (show false = true from hs) Bool.false_ne_true
  | bl i =>
    cases rx
    cases y with
    | non => cases ry; exact PySem.EqNone.eq_bool_none (fin_bl I q (by simp))
    | bl j => cases ry; exact eq_bool (fin_bl I q dec_bl)
    | str j => obtain ⟨t', rfl⟩ := ry; exact PySem.EqMixed.eq_bool_str (fin_bl I q (by simp))
    | _ => exact absurd (show false = true from hs) Bool.false_ne_true
  | int i =>
    obtain ⟨t, rfl⟩ := rx
    cases y with
    | non => cases ry; exact PySem.EqNone.eq_int_none (fin_bl I q (by simp))
    | int j => obtain ⟨t', rfl⟩ := ry; exact eq_int (fin_bl I q dec_int)
    | str j => obtain ⟨t', rfl⟩ := ry; exact PySem.EqMixed.eq_int_str (fin_bl I q (by simp))
    | _ => exact absurd (show false = true from hs) Bool.false_ne_true
  | str i =>
    obtain ⟨t, rfl⟩ := rx
    cases y with
    | non => cases ry; exact PySem.EqNone.eq_str_none (fin_bl I q (by simp))
    | bl j => cases ry; exact PySem.EqMixed.eq_str_bool (fin_bl I q (by simp))
    | int j => obtain ⟨t', rfl⟩ := ry; exact PySem.EqMixed.eq_str_int (fin_bl I q (by simp))
    | str j => obtain ⟨t', rfl⟩ := ry; exact eq_str (fin_bl I q dec_str)
    | _ => exact absurd (show false = true from hs) Bool.false_ne_true
  | byt i =>
    obtain ⟨t, rfl⟩ := rx
    cases y with
    | byt j => obtain ⟨t', rfl⟩ := ry; exact PySem.W.eq_bytes (fin_bl I q dec_byt)
    | _ => exact absurd (show false = true from hs) Bool.false_ne_true
  | _ => cases y <;> exact absurd (show false = true from hs) Bool.false_ne_true
theorem op_ne : OpR X (compareOp .NotEq) rNe := by
  intro pins s σ H x y v u Q I rx ry h
  obtain ⟨hs, q⟩ := h
  cases x with
  | non =>
    cases rx
    cases y with
    | non => cases ry; exact PySem.EqNone.ne_none_none (fin_bl I q (by simp))
    | bl j => cases ry; exact PySem.EqNone.ne_none_bool (fin_bl I q (by simp))
    | int j => obtain ⟨t', rfl⟩ := ry; exact PySem.EqNone.ne_none_int (fin_bl I q (by simp))
    | str j => obtain ⟨t', rfl⟩ := ry; exact PySem.EqNone.ne_none_str (fin_bl I q (by simp))
    | _ => exact absurd (show false = true from hs) Bool.false_ne_true
  | bl i =>
    cases rx
    cases y with
    | non => cases ry; exact PySem.EqNone.ne_bool_none (fin_bl I q (by simp))
    | bl j => cases ry; exact ne_bool (fin_bl I q (congrArg not dec_bl))
    | str j => obtain ⟨t', rfl⟩ := ry; exact PySem.EqMixed.ne_bool_str (fin_bl I q (by simp))
    | _ => exact absurd (show false = true from hs) Bool.false_ne_true
  | int i =>
    obtain ⟨t, rfl⟩ := rx
    cases y with
    | non => cases ry; exact PySem.EqNone.ne_int_none (fin_bl I q (by simp))
    | int j => obtain ⟨t', rfl⟩ := ry; exact ne_int (fin_bl I q (congrArg not dec_int))
    | str j => obtain ⟨t', rfl⟩ := ry; exact PySem.EqMixed.ne_int_str (fin_bl I q (by simp))
    | _ => exact absurd (show false = true from hs) Bool.false_ne_true
  | str i =>
    obtain ⟨t, rfl⟩ := rx
    cases y with
    | non => cases ry; exact PySem.EqNone.ne_str_none (fin_bl I q (by simp))
    | bl j => cases ry; exact PySem.EqMixed.ne_str_bool (fin_bl I q (by simp))
    | int j => obtain ⟨t', rfl⟩ := ry; exact PySem.EqMixed.ne_str_int (fin_bl I q (by simp))
    | str j => obtain ⟨t', rfl⟩ := ry; exact ne_str (fin_bl I q (congrArg not dec_str))
    | _ => exact absurd (show false = true from hs) Bool.false_ne_true
  | byt i =>
    obtain ⟨t, rfl⟩ := rx
    cases y with
    | byt j => obtain ⟨t', rfl⟩ := ry; exact PySem.W.ne_bytes (fin_bl I q (congrArg not dec_byt))
    | _ => exact absurd (show false = true from hs) Bool.false_ne_true
  | _ => cases y <;> exact absurd (show false = true from hs) Bool.false_ne_true

theorem op_lt : OpR X (compareOp .Lt) (rI0 fun i j => .bl (decide (i < j))) := opB0 fun _ _ _ _ _ _ _ q => lt_int q
theorem op_le : OpR X (compareOp .LtE) (rI0 fun i j => .bl (decide (i ≤ j))) := opB0 fun _ _ _ _ _ _ _ q => le_int q
theorem op_gt : OpR X (compareOp .Gt) (rI0 fun i j => .bl (decide (j < i))) := opB0 fun _ _ _ _ _ _ _ q => gt_int q
theorem op_ge : OpR X (compareOp .GtE) (rI0 fun i j => .bl (decide (j ≤ i))) := opB0 fun _ _ _ _ _ _ _ q => ge_int q
theorem op_lt_str : OpR X (compareOp .Lt) (fun x y H Q => ∃ i j, x = .str i ∧ y = .str j ∧ Q (.bl (decide (i.cps.toList < j.cps.toList))) H) := by
  intro pins s σ H x y v u Q I rx ry h
  obtain ⟨i, j, rfl, rfl, q⟩ := h
  obtain ⟨t, rfl⟩ := rx
  obtain ⟨t', rfl⟩ := ry
  exact lt_str (fin_bl I q rfl)
/-- the one string within the other -/
theorem op_in_str : OpR X (compareOp .In) (fun x y H Q => ∃ i j, x = .str i ∧ y = .str j ∧ Q (.bl (!(Builtin.Str.occurrences j i 0 j.length 1).isEmpty)) H) := by
  intro pins s σ H x y v u Q I rx ry h
  obtain ⟨i, j, rfl, rfl, q⟩ := h
  obtain ⟨t, rfl⟩ := rx
  obtain ⟨t', rfl⟩ := ry
  exact in_str (fin_bl I q rfl)

/-- is None, is not None: the right side a value none -/
theorem op_isN : OpR X (compareOp .Is) (fun x y H Q => y = .non ∧ Q (.bl (decide (x = .non))) H) := by
  intro pins s σ H x y v u Q I rx ry h
  obtain ⟨rfl, q⟩ := h
  cases ry
  refine is_none_gen (fin_bl I q ?_)
  cases x <;> first
    | (cases rx; rfl)
    | (obtain ⟨t, rfl⟩ := rx; rfl)
theorem op_notN : OpR X (compareOp .IsNot) (fun x y H Q => y = .non ∧ Q (.bl (!decide (x = .non))) H) := by
  intro pins s σ H x y v u Q I rx ry h
  obtain ⟨rfl, q⟩ := h
  cases ry
  refine isnot_none_gen (fin_bl I q ?_)
  cases x <;> first
    | (cases rx; rfl)
    | (obtain ⟨t, rfl⟩ := rx; rfl)

theorem op_notin_str : OpR X (compareOp .NotIn) (fun x y H Q => ∃ i j, x = .str i ∧ y = .str j ∧ Q (.bl (!(!(Builtin.Str.occurrences j i 0 j.length 1).isEmpty))) H) := by
  intro pins s σ H x y v u Q I rx ry h
  obtain ⟨i, j, rfl, rfl, q⟩ := h
  obtain ⟨t, rfl⟩ := rx
  obtain ⟨t', rfl⟩ := ry
  exact notIn_str (fin_bl I q rfl)
/-- is, is not of two objects that are tracked lists or instances -/
def isObj : HO → Bool
  | .lst _ => true
  | .ins _ _ _ => true
  | _ => false
theorem obj_there {pins : List (Addr × Obj)} {s : Shared} {σ : St} {H : Hp} {a : Addr} {o : HO} (I : Inv X pins σ H s) (h : H a = some o) (p : isObj o = true) : ∃ ob, s.heap.get? a = some ob ∧ ob.cls ≠ .type "tuple" := by
  cases o with
  | lst xs =>
    obtain ⟨_, its, n, _, e⟩ : xs.length ≤ sizeLine ∧ ∃ (its : List Value) (n : Nat), Vals xs its ∧ s.heap.get? a = some { cls := .type "list", data := .seq its.toArray n } := I.hok a _ h
    exact ⟨_, e, (by show Value.type "list" ≠ .type "tuple"; decide +kernel)⟩
  | ins C dx fs =>
    have x := I.hok a _ h
    obtain ⟨_, _, _, e, _⟩ := x
    exact ⟨_, e, (by show Value.ref C ≠ .type "tuple"; exact fun z => by cases z)⟩
  | _ => exact absurd (show false = true from p) Bool.false_ne_true
theorem op_is_ref : OpR X (compareOp .Is) (fun x y H Q => ∃ a b oa ob, x = .ref a ∧ y = .ref b ∧ H a = some oa ∧ isObj oa = true ∧ H b = some ob ∧ isObj ob = true ∧ Q (.bl (decide (a = b))) H) := by
  intro pins s σ H x y v u Q I rx ry h
  obtain ⟨a, b, oa, ob, rfl, rfl, ha, pa, hb, pb, q⟩ := h
  cases rx
  cases ry
  obtain ⟨o1, e1, n1⟩ := obj_there I ha pa
  obtain ⟨o2, e2, _⟩ := obj_there I hb pb
  by_cases z : a = b
  · subst z
    exact wpAny_is_ref_self (fin_bl I q (by simp))
  · exact wpAny_is_ref_other z e1 e2 n1 (fin_bl I q (by simp [z]))
theorem op_isnot_ref : OpR X (compareOp .IsNot) (fun x y H Q => ∃ a b oa ob, x = .ref a ∧ y = .ref b ∧ H a = some oa ∧ isObj oa = true ∧ H b = some ob ∧ isObj ob = true ∧ Q (.bl (!decide (a = b))) H) := by
  intro pins s σ H x y v u Q I rx ry h
  obtain ⟨a, b, oa, ob, rfl, rfl, ha, pa, hb, pb, q⟩ := h
  cases rx
  cases ry
  obtain ⟨o1, e1, n1⟩ := obj_there I ha pa
  obtain ⟨o2, e2, _⟩ := obj_there I hb pb
  by_cases z : a = b
  · subst z
    exact wpAny_isNot_ref_self (fin_bl I q (by simp))
  · exact wpAny_isNot_ref_other z e1 e2 n1 (fin_bl I q (by simp [z]))

/-- two rules for one operation: by cases -/
theorem OpR.or {f : Value → Value → Sem Value} {r r' : R2} (h : OpR X f r) (h' : OpR X f r') : OpR X f (fun x y H Q => r x y H Q ∨ r' x y H Q) := by
  intro pins s σ H x y v u Q I rx ry q
  rcases q with q | q
  · exact h pins s σ H x y v u Q I rx ry q
  · exact h' pins s σ H x y v u Q I rx ry q

theorem nomark (b : Expr) {op : CmpOp} (h : op ≠ .In := by decide) (h2 : op ≠ .NotIn := by decide) : behindInMarks op b = false := by
  have e1 : (op == CmpOp.In) = false := by cases op <;> first | rfl | exact absurd rfl h
  have e2 : (op == CmpOp.NotIn) = false := by cases op <;> first | rfl | exact absurd rfl h2
  cases b <;> simp [behindInMarks, e1, e2]
/-- a comparison as a value; hm: nomark b, or (for in, not in) by with_unfolding_all rfl -/
theorem pe_cmpR {op : CmpOp} {r : R2} (ho : OpR X (compareOp op) r) (ha : PE X a ta) (hb : PE X b tb) (hm : behindInMarks op b = false) : PE X (.Compare a [op] [b] pos) (tOp r ta tb) := by
  intro pins s σ H Q I h
  exact wpAny_Compare1 (binT ha hb I h fun v u s2 x y H2 I2 rx ry q => ho pins s2 σ H2 x y v u Q I2 rx ry q) hm
/-- a reading of a value as a test -/
def tTest (t : TE) : TT := fun σ H Q => t σ H fun x H' => ∃ k, x = .bl k ∧ Q k H'
theorem pt_cmpR {op : CmpOp} {r : R2} (ho : OpR X (compareOp op) r) (ha : PE X a ta) (hb : PE X b tb) (hm : behindInMarks op b = false) : PT X (.Compare a [op] [b] pos) (tTest (tOp r ta tb)) := by
  intro pins s σ H Q I h
  refine wpAny_isTrue_Compare1 (thn (ha pins s σ H _ I h) fun v s1 ⟨x, H1, I1, r1, q1⟩ => thn (hb pins s1 σ H1 _ I1 q1) fun u s2 ⟨y, H2, I2, r2, q2⟩ =>
    thn (ho pins s2 σ H2 x y v u _ I2 r1 r2 q2) fun c s3 ⟨z, H3, I3, r3, k, e, q3⟩ => ?_) hm
  subst e
  cases r3
  exact wpAny_truthy_bool ⟨H3, I3, q3⟩
/-- a op1 b op2 c -/
def tChain (r r' : R2) (ta tb tc : TE) : TE := fun σ H Q => ta σ H fun x H1 => tb σ H1 fun y H2 => r x y H2 fun z H3 => ∃ k, z = .bl k ∧
  (if k = true then tc σ H3 fun w' H4 => r' y w' H4 Q else Q (.bl false) H3)
theorem pe_chain {op op' : CmpOp} {r r' : R2} (ho : OpR X (compareOp op) r) (ho' : OpR X (compareOp op') r') (ha : PE X a ta) (hb : PE X b tb) (hc : PE X c tc)
    (hm : lastMarks [op, op'] [b, c] = false := by with_unfolding_all rfl) : PE X (.Compare a [op, op'] [b, c] pos) (tChain r r' ta tb tc) := by
  intro pins s σ H Q I h
  refine Compare_chain (thn (ha pins s σ H _ I h) fun v s1 ⟨x, H1, I1, r1, q1⟩ => chain_link (thn (hb pins s1 σ H1 _ I1 q1) fun u s2 ⟨y, H2, I2, r2, q2⟩ =>
    thn (ho pins s2 σ H2 x y v u _ I2 r1 r2 q2) fun d s3 ⟨z, H3, I3, r3, k, e, q3⟩ => ?_)) hm
  subst e
  cases r3
  refine wpAny_truthy_bool ?_
  cases k with
  | false => exact ite_ff ⟨.bl false, H3, I3, rfl, q3⟩
  | true => exact ite_tt (chain_last (thn (hc pins s3 σ H3 _ I3 q3) fun w' s4 ⟨z', H4, I4, r4, q4⟩ => ho' pins s4 σ H4 y z' u w' Q I4 r2 r4 q4))
theorem pt_chain {op op' : CmpOp} {r r' : R2} (ho : OpR X (compareOp op) r) (ho' : OpR X (compareOp op') r') (ha : PE X a ta) (hb : PE X b tb) (hc : PE X c tc)
    (hm : lastMarks [op, op'] [b, c] = false := by with_unfolding_all rfl) : PT X (.Compare a [op, op'] [b, c] pos) (tTest (tChain r r' ta tb tc)) := by
  intro pins s σ H Q I h
  refine isTrue_chain (thn (ha pins s σ H _ I h) fun v s1 ⟨x, H1, I1, r1, q1⟩ => test_link (thn (hb pins s1 σ H1 _ I1 q1) fun u s2 ⟨y, H2, I2, r2, q2⟩ =>
    thn (ho pins s2 σ H2 x y v u _ I2 r1 r2 q2) fun d s3 ⟨z, H3, I3, r3, k, e, q3⟩ => ?_)) hm
  subst e
  cases r3
  refine wpAny_truthy_bool ?_
  cases k with
  | false =>
    obtain ⟨k', e', q'⟩ := q3
    cases e'
    exact ite_ff ⟨H3, I3, q'⟩
  | true =>
    refine ite_tt (test_last (thn (hc pins s3 σ H3 _ I3 q3) fun w' s4 ⟨z', H4, I4, r4, q4⟩ => thn (ho' pins s4 σ H4 y z' u w' _ I4 r2 r4 q4) fun d' s5 ⟨z2, H5, I5, r5, k2, e2, q5⟩ => ?_))
    subst e2
    cases r5
    exact wpAny_truthy_bool ⟨H5, I5, q5⟩

/-! ### truth -/
/-- a value's truth by the abstract heap -/
def TruV (K : PySem.W.Frag) (x : V) (H : Hp) (k : Bool) : Prop :=
  match x with
  | .non => k = false
  | .bl b => k = b
  | .int i => k = (i != 0)
  | .str y => y.length ≤ sizeLine ∧ k = ((y.length : Int) != 0)
  | .byt y => y.size ≤ sizeLine ∧ k = ((y.size : Int) != 0)
  | .ref p => (∃ xs, SqL K H p xs ∧ k = !xs.isEmpty) ∨ (∃ xs, SqT K H p xs ∧ k = !xs.isEmpty) ∨ ∃ kvs, H p = some (.dK kvs) ∧ k = !kvs.isEmpty
  | _ => False
theorem isEmpty_kv {κ : Type} {kvs : List (κ × V)} {vs : List (κ × Value)} (r : KV kvs vs) : (!vs.isEmpty) = !kvs.isEmpty := by
  cases r <;> rfl
theorem isEmpty_of {xs : List V} {its : List Value} (r : Vals xs its) : (!its.toArray.isEmpty) = !xs.isEmpty := by
  cases r <;> simp
theorem line63 : (sizeLine : Nat) < 2 ^ 63 := by rw [sizeLine_eq]; decide
theorem tru_ok : TruR X (fun x H Q => ∃ k, TruV X.K x H k ∧ Q k H) := by
  intro pins s σ H x v Q I rx h
  obtain ⟨k, e, q⟩ := h
  have hl := line63
  have hs : sizeLine = 16777216 := sizeLine_eq
  cases x with
  | non =>
    cases rx
    have e' : k = false := e
    subst e'
    exact truthy_none ⟨H, I, q⟩
  | bl b =>
    cases rx
    have e' : k = b := e
    subst e'
    exact wpAny_truthy_bool ⟨H, I, q⟩
  | int i =>
    obtain ⟨t, rfl⟩ := rx
    have e' : k = (i != 0) := e
    subst e'
    exact PySem.P.truthy_int ⟨H, I, q⟩
  | str y =>
    obtain ⟨t, rfl⟩ := rx
    obtain ⟨hy, e'⟩ : y.length ≤ sizeLine ∧ k = ((y.length : Int) != 0) := e
    subst e'
    exact PySem.P.truthy_str (by omega) ⟨H, I.tok _, q⟩
  | byt y =>
    obtain ⟨t, rfl⟩ := rx
    obtain ⟨hy, e'⟩ : y.size ≤ sizeLine ∧ k = ((y.size : Int) != 0) := e
    subst e'
    exact PySem.W.truthy_bytes (by omega) ⟨H, I.tok _, q⟩
  | ref p =>
    cases rx
    have e' : (∃ xs, SqL X.K H p xs ∧ k = !xs.isEmpty) ∨ (∃ xs, SqT X.K H p xs ∧ k = !xs.isEmpty) ∨ ∃ kvs, H p = some (.dK kvs) ∧ k = !kvs.isEmpty := e
    rcases e' with ⟨xs, hx, e'⟩ | ⟨xs, hx, e'⟩ | ⟨kvs, hx, e'⟩
    · subst e'
      obtain ⟨its, r, pl, hz⟩ := I.list hx
      have hlen := r.length
      exact wpAny_truthy_list pl.isList (by simp only [List.size_toArray]; omega) ⟨H, I.tok _, by rw [isEmpty_of r]; exact q⟩
    · subst e'
      obtain ⟨its, r, pl, hz⟩ := I.tuple hx
      have hlen := r.length
      exact truthy_tuple pl (by simp only [List.size_toArray]; omega) ⟨H, I.tok _, by rw [isEmpty_of r]; exact q⟩
    · subst e'
      obtain ⟨hz, hS, vs, r, m⟩ : kvs.length ≤ sizeLine ∧ (p == sysModules) = false ∧ ∃ vs, KV kvs vs ∧ s.heap.DictOf (mixKind X.prog X.w) p vs := I.hok p _ hx
      have hlen : kvs.length = vs.length := Paired.length r
      exact wpAny_truthy_dict hS m (by omega) ⟨H, I.tok _, by rw [isEmpty_kv r]; exact q⟩
  | _ => exact (show False from e).elim
/-- any expression whose test is its value's truth (a name, a call, a subscript, a field ..: he by fun _ => rfl) -/
theorem pt_truth (ha : PE X a ta) (he : ∀ whole, isTrue a X.env whole = (do let v ← whole; standAt a.pos; holding [v] (truthy v))) :
    PT X a (fun σ H Q => ta σ H fun x H' => ∃ k, TruV X.K x H' k ∧ Q k H') := by
  intro pins s σ H Q I h
  exact isTrue_plain (thn (ha pins s σ H _ I h) fun v s1 ⟨x, H1, I1, r1, q1⟩ => tru_ok pins s1 σ H1 x v Q I1 r1 q1) (he _)

/-! ### strs and bytes -/
theorem pe_byt {x : List UInt8} {k : Nat} : PE X (.Constant (.bytes x) k pos) (fun _ H Q => Q (.byt x.toArray) H) := fun _ _ _ H _ I h => PySem.W.Constant_bytes ⟨.byt x.toArray, H, I.tok _, ⟨_, rfl⟩, h⟩
theorem op_add_str : OpR X (binaryOp .Add) (fun x y H Q => ∃ i j, x = .str i ∧ y = .str j ∧ i.length + j.length ≤ sizeLine ∧ Q (.str (i ++ j)) H) := by
  intro pins s σ H x y v u Q I rx ry h
  obtain ⟨i, j, rfl, rfl, hz, q⟩ := h
  obtain ⟨t, rfl⟩ := rx
  obtain ⟨t', rfl⟩ := ry
  exact add_str (fun t' tk => ⟨.str (i ++ j), H, I.tok _, ⟨_, rfl⟩, q⟩) hz
theorem iop_add_str : OpR X (inplaceOp .Add) (fun x y H Q => ∃ i j, x = .str i ∧ y = .str j ∧ i.length + j.length ≤ sizeLine ∧ Q (.str (i ++ j)) H) := by
  intro pins s σ H x y v u Q I rx ry h
  obtain ⟨i, j, rfl, rfl, hz, q⟩ := h
  obtain ⟨t, rfl⟩ := rx
  obtain ⟨t', rfl⟩ := ry
  exact iadd_str (fun t' tk => ⟨.str (i ++ j), H, I.tok _, ⟨_, rfl⟩, q⟩) hz
theorem op_add_byt : OpR X (binaryOp .Add) (fun x y H Q => ∃ i j, x = .byt i ∧ y = .byt j ∧ i.size + j.size ≤ 16777216 ∧ Q (.byt (i ++ j)) H) := by
  intro pins s σ H x y v u Q I rx ry h
  obtain ⟨i, j, rfl, rfl, hz, q⟩ := h
  obtain ⟨t, rfl⟩ := rx
  obtain ⟨t', rfl⟩ := ry
  exact PySem.W.KBy.add_bytes hz (fun t' tk => ⟨.byt (i ++ j), H, I.tok _, ⟨_, rfl⟩, q⟩)

def PlainIxT (b : Expr) : Prop := ∀ o i, subscripted b false o i = operate [o, i] (getItem o i)
/-- s[i], 0 ≤ i < len -/
theorem pe_item_str (ha : PE X a ta) (hb : PE X b tb) (hs : PlainIxT b) :
    PE X (.Subscript a b pos) (tOp (fun x y H Q => ∃ z i c, x = .str z ∧ y = .int i ∧ 0 ≤ i ∧ i < 2 ^ 63 ∧ i < z.length ∧ z.cps[i.toNat]? = some c ∧ Q (.str ⟨#[c]⟩) H) ta tb) := by
  intro pins s σ H Q I h
  refine Subscript_ (binT ha hb I h fun v u s2 x y H2 I2 rx ry q => ?_)
  obtain ⟨z, i, c, rfl, rfl, h0, h63, h1, hc, q⟩ := q
  obtain ⟨t, rfl⟩ := rx
  obtain ⟨t', rfl⟩ := ry
  have e : seqIndex? i z.length = some i.toNat := PySem.StrLaws.seqIndex_nonneg h0 h1
  exact tail_any (typeIs_str s2 z t) slot_str_getitem.lookup (getItem_str (c := c) (by
    have e1 : decide (i < -(2 ^ 63 : Int)) = false := decide_eq_false (by omega)
    have e2 : decide (i ≥ 2 ^ 63) = false := decide_eq_false (by omega)
    rw [e1, e2] <;> rfl) (by rw [e]; exact hc) ⟨.str ⟨#[c]⟩, H2, I2.tok _, ⟨_, rfl⟩, q⟩) (hs _ _)
/-- b[i], 0 ≤ i < len -/
theorem pe_item_byt (ha : PE X a ta) (hb : PE X b tb) (hs : PlainIxT b) :
    PE X (.Subscript a b pos) (tOp (fun x y H Q => ∃ (z : List UInt8) (i : Int), x = .byt z.toArray ∧ y = .int i ∧ z.length ≤ sizeLine ∧ 0 ≤ i ∧ i < z.length ∧ Q (.int ((z.getD i.toNat 0).toNat : Nat)) H) ta tb) := by
  intro pins s σ H Q I h
  refine Subscript_ (binT ha hb I h fun v u s2 x y H2 I2 rx ry q => ?_)
  obtain ⟨z, i, rfl, rfl, hz, h0, h1, q⟩ := q
  obtain ⟨t, rfl⟩ := rx
  obtain ⟨t', rfl⟩ := ry
  have hl : sizeLine = 16777216 := sizeLine_eq
  exact tail_any (PySem.W.typeIs_bytes s2 z.toArray t) PySem.W.FB.slot_bytes_getitem.lookup (PySem.W.getItem_bytes (by omega) h0 h1 ⟨.int ((z.getD i.toNat 0).toNat : Nat), H2, I2.tok _, ⟨_, rfl⟩, q⟩) (hs _ _)

/-! ### scalar builtins, by CallR -/
theorem vals1 {x : V} {us : List Value} (r : Vals [x] us) : ∃ u, us = [u] ∧ RelV x u := by
  cases r with
  | cons r1 r2 => cases r2; exact ⟨_, rfl, r1⟩
theorem vals2 {x y : V} {us : List Value} (r : Vals [x, y] us) : ∃ u w', us = [u, w'] ∧ RelV x u ∧ RelV y w' := by
  cases r with
  | cons r1 r2 =>
    cases r2 with
    | cons r3 r4 => cases r4; exact ⟨_, _, rfl, r1, r3⟩
theorem call_abs : CallR X (.builtin "abs") (fun xs H Q => ∃ i, xs = [.int i] ∧ Q (.int (if i < 0 then -i else i)) H) := by
  intro pins s σ H xs us Q I r h
  obtain ⟨i, rfl, q⟩ := h
  obtain ⟨u, rfl, t, rfl⟩ := vals1 r
  exact call_abs_int fun u tk => ⟨.int (if i < 0 then -i else i), H, I.tok _, ⟨_, rfl⟩, q⟩
theorem call_max2 (hc : X.calm = true) : CallR X (.builtin "max") (fun xs H Q => ∃ i j, xs = [.int i, .int j] ∧ Q (.int (if j > i then j else i)) H) := by
  intro pins s σ H xs us Q I r h
  obtain ⟨i, j, rfl, q⟩ := h
  obtain ⟨u, w', rfl, ⟨t, rfl⟩, ⟨t', rfl⟩⟩ := vals2 r
  refine max_two_ints (I.ok.hd hc) fun h' tk k => ⟨_, H, I.kept k, ?_, q⟩
  by_cases hj : j > i
  · rw [if_pos hj, if_pos hj]; exact ⟨_, rfl⟩
  · rw [if_neg hj, if_neg hj]; exact ⟨_, rfl⟩
theorem call_min2 (hc : X.calm = true) : CallR X (.builtin "min") (fun xs H Q => ∃ i j, xs = [.int i, .int j] ∧ Q (.int (if j < i then j else i)) H) := by
  intro pins s σ H xs us Q I r h
  obtain ⟨i, j, rfl, q⟩ := h
  obtain ⟨u, w', rfl, ⟨t, rfl⟩, ⟨t', rfl⟩⟩ := vals2 r
  refine min_two_ints (I.ok.hd hc) fun h' tk k => ⟨_, H, I.kept k, ?_, q⟩
  by_cases hj : j < i
  · rw [if_pos hj, if_pos hj]; exact ⟨_, rfl⟩
  · rw [if_neg hj, if_neg hj]; exact ⟨_, rfl⟩
theorem call_int1 : CallR X (.type "int") (fun xs H Q => (∃ i, xs = [.int i] ∧ Q (.int i) H) ∨ ∃ k, xs = [.bl k] ∧ Q (.int (if k then 1 else 0)) H) := by
  intro pins s σ H xs us Q I r h
  rcases h with ⟨i, rfl, q⟩ | ⟨k, rfl, q⟩
  · obtain ⟨u, rfl, t, rfl⟩ := vals1 r
    exact call_int_int ⟨.int i, H, I, ⟨_, rfl⟩, q⟩
  · obtain ⟨u, rfl, r1⟩ := vals1 r
    cases r1
    exact call_int_bool ⟨.int (if k then 1 else 0), H, I.tok _, ⟨_, rfl⟩, q⟩
theorem call_bool1 : CallR X (.type "bool") (fun xs H Q => (∃ i, xs = [.int i] ∧ Q (.bl (i != 0)) H) ∨ ∃ k, xs = [.bl k] ∧ Q (.bl k) H) := by
  intro pins s σ H xs us Q I r h
  rcases h with ⟨i, rfl, q⟩ | ⟨k, rfl, q⟩
  · obtain ⟨u, rfl, t, rfl⟩ := vals1 r
    exact call_bool_int ⟨.bl (i != 0), H, I, rfl, q⟩
  · obtain ⟨u, rfl, r1⟩ := vals1 r
    cases r1
    exact call_bool_bool ⟨.bl k, H, I, rfl, q⟩
theorem call_str_int : CallR X (.type "str") (fun xs H Q => ∃ i, xs = [.int i] ∧ i.natAbs.log2 < 1920 ∧ Q (.str (toString i)) H) := by
  intro pins s σ H xs us Q I r h
  obtain ⟨i, rfl, hz, q⟩ := h
  obtain ⟨u, rfl, t, rfl⟩ := vals1 r
  exact PySem.P.str_of_int hz ⟨.str _, H, I.tok _, ⟨_, rfl⟩, q⟩
theorem call_ord : CallR X (.builtin "ord") (fun xs H Q => ∃ x, xs = [.str x] ∧ x.length = 1 ∧ Q (.int (x.cps.getD 0 0 : Nat)) H) := by
  intro pins s σ H xs us Q I r h
  obtain ⟨x, rfl, hz, q⟩ := h
  obtain ⟨u, rfl, t, rfl⟩ := vals1 r
  exact ord_of_one hz ⟨.int _, H, I.tok _, ⟨_, rfl⟩, q⟩
theorem call_chr : CallR X (.builtin "chr") (fun xs H Q => ∃ i, xs = [.int i] ∧ 0 ≤ i ∧ i ≤ 1114111 ∧ Q (.str ⟨#[i.toNat]⟩) H) := by
  intro pins s σ H xs us Q I r h
  obtain ⟨i, rfl, h0, h1, q⟩ := h
  obtain ⟨u, rfl, t, rfl⟩ := vals1 r
  exact chr_of_range h0 h1 ⟨.str _, H, I.tok _, ⟨_, rfl⟩, q⟩
/-- len of a str, a bytes, a list, a tuple -/
def LenV (K : PySem.W.Frag) (x : V) (H : Hp) (n : Nat) : Prop :=
  match x with
  | .str y => y.length ≤ sizeLine ∧ n = y.length
  | .byt y => y.size ≤ sizeLine ∧ n = y.size
  | .ref p => (∃ xs, SqL K H p xs ∧ n = xs.length) ∨ ∃ xs, SqT K H p xs ∧ n = xs.length
  | _ => False
theorem call_len : CallR X (.builtin "len") (fun xs H Q => ∃ x n, xs = [x] ∧ LenV X.K x H n ∧ Q (.int n) H) := by
  intro pins s σ H xs us Q I r h
  obtain ⟨x, n, rfl, e, q⟩ := h
  obtain ⟨u, rfl, rx⟩ := vals1 r
  have hl := line63
  have hs : sizeLine = 16777216 := sizeLine_eq
  cases x with
  | str y =>
    obtain ⟨t, rfl⟩ := rx
    obtain ⟨hy, e'⟩ : y.length ≤ sizeLine ∧ n = y.length := e
    subst e'
    exact len_str (by omega) ⟨.int _, H, I.tok _, ⟨_, rfl⟩, q⟩
  | byt y =>
    obtain ⟨t, rfl⟩ := rx
    obtain ⟨hy, e'⟩ : y.size ≤ sizeLine ∧ n = y.size := e
    subst e'
    exact PySem.W.len_bytes (by omega) ⟨.int _, H, I.tok _, ⟨_, rfl⟩, q⟩
  | ref p =>
    cases rx
    have e' : (∃ xs, SqL X.K H p xs ∧ n = xs.length) ∨ ∃ xs, SqT X.K H p xs ∧ n = xs.length := e
    rcases e' with ⟨xs, hx, e'⟩ | ⟨xs, hx, e'⟩
    · subst e'
      obtain ⟨its, r', pl, hz⟩ := I.list hx
      have hlen := r'.length
      exact Calls.call_len_list pl.isList (by simp only [List.size_toArray]; omega) ⟨.int xs.length, H, I.tok _, ⟨_, by simp only [List.size_toArray]; rw [hlen]⟩, q⟩
    · subst e'
      obtain ⟨its, r', pl, hz⟩ := I.tuple hx
      have hlen := r'.length
      exact len_tuple pl (by simp only [List.size_toArray]; omega) ⟨.int xs.length, H, I.tok _, ⟨_, by simp only [List.size_toArray]; rw [hlen]⟩, q⟩
  | _ => exact (show False from e).elim
/-- divmod: a new tuple -/
theorem call_divmod : CallR X (.builtin "divmod") (fun xs H Q => ∃ i j, xs = [.int i, .int j] ∧ CDiv i j ∧ ∀ p, H p = none → Q (.ref p) (upd H p (.tup [.int (i / j), .int (i % j)]))) := by
  intro pins s σ H xs us Q I r h
  obtain ⟨i, j, rfl, ⟨h1, h2⟩, q⟩ := h
  obtain ⟨u, w', rfl, ⟨t, rfl⟩, ⟨t', rfl⟩⟩ := vals2 r
  refine divmod_int (by omega) ?_ (.inl (PyProof.noPylong_small (by omega)))
  rw [Int.fdiv_eq_ediv_of_nonneg i (by omega), Int.fmod_eq_emod_of_nonneg i (by omega)]
  have hn : H s.heap.objs.size = none := I.hok.fresh (Nat.le_refl _)
  refine ⟨.ref s.heap.objs.size, _, ?_, rfl, q _ hn⟩
  refine I.laid (fun b o e => Heap.get?_push_of_some _ e) (Nat.le_refl _) ⟨by simp only [List.length_cons, List.length_nil]; rw [sizeLine_eq]; decide, [.int (i / j) s.toks, .int (i % j) (s.toks + 1)], .cons ⟨_, rfl⟩ (.cons ⟨_, rfl⟩ .nil), ?_⟩
  exact ⟨_, Heap.get?_push_size s.heap rfl, rfl, 0, rfl⟩
end
end L2

namespace L2
open PySem PySem.Spec PyProof.Rows

/-! ### an instance, its attributes a map -/
structure ObjM (h : Heap) (x dx C : Addr) (mA : Str → Option Value) : Prop where
  obj : h.get? x = some (PySem.W.instObj C dx)
  ns : h.Ns1 dx mA
  ne : dx ≠ x

theorem lookIn_ns {h : Heap} {dx : Addr} {mA : Str → Option Value} (n : h.Ns1 dx mA) : ∃ od, h.get? dx = some od ∧ ∀ name, PySem.W.lookIn name od = some (mA name) := by
  obtain ⟨o, es, ep, ho, hd, hk, _, hm⟩ := n
  refine ⟨o, ho, fun name => ?_⟩
  have e := hm name
  unfold nsFind findBy at e
  rw [← Array.find?_toList] at e
  unfold PySem.W.lookIn
  rw [hd]
  dsimp only
  split
  · rename_i y q
    rw [q] at e
    exact congrArg some e
  · rename_i q
    rw [q] at e
    have a : es.toList.any (·.refKey) = false := by
      rw [List.any_eq_false]
      intro y hy
      obtain ⟨z, t, hkey⟩ := hk y (Array.mem_toList_iff.mp hy)
      simp [DictEntry.refKey, hkey]
    have a' : ¬ es.toList.any (·.refKey) = true := by rw [a]; exact Bool.false_ne_true
    rw [if_neg a']
    exact congrArg some e

theorem ObjM.look {h : Heap} {x dx C : Addr} {mA : Str → Option Value} (I : ObjM h x dx C mA) : ∃ od, PySem.W.InstAt h x (PySem.W.instObj C dx) C (some od) ∧ ∀ name, PySem.W.lookIn name od = some (mA name) :=
  let ⟨od, ho, hl⟩ := lookIn_ns I.ns
  ⟨od, ⟨I.obj, rfl, rfl, ho⟩, hl⟩

section
variable {prog : Program} {w : World} {A : Around} {E : Value → Shared → Prop} {s : Shared} {K : PySem.W.Frag} {x dx C f : Addr} {mA : Str → Option Value} {name : Str} {v : Value}

theorem get_map {expr : Bool} {Q : Value → Shared → Prop} (X : K.In s.heap) (I : ObjM s.heap x dx C mA) (hg : PySem.W.plainGet K C name = true) (hh : PySem.W.hasDictIn K C = true)
    (ha : PySem.W.findIn K (.ref C) name = some none) (hv : mA name = some v) (hv' : PySem.W.handedIn v = true) (h : Q v { s with toks := s.toks + 1 }) :
    wpAny (model prog w) A (getAttr (.ref x) name expr) Q E s := by
  obtain ⟨od, J, hl⟩ := I.look
  exact PySem.W.get_value X J (PySem.W.plainGet_of hg).1 (PySem.W.findObj_own hh ha rfl (by rw [hl, hv])) hv' h

theorem get_const {expr : Bool} {a : Value} {Q : Value → Shared → Prop} (X : K.In s.heap) (I : ObjM s.heap x dx C mA) (hg : PySem.W.plainGet K C name = true) (hh : PySem.W.hasDictIn K C = true)
    (ha : PySem.W.findIn K (.ref C) name = some (some a)) (hn : PySem.W.specialIn K a "__get__" = some none) (hc : PySem.W.copiedNames.contains name = false) (hv : mA name = none) (hv' : PySem.W.handedIn a = true)
    (h : Q a { s with toks := s.toks + 1 }) : wpAny (model prog w) A (getAttr (.ref x) name expr) Q E s := by
  obtain ⟨od, J, hl⟩ := I.look
  exact PySem.W.get_value X J (PySem.W.plainGet_of hg).1 (PySem.W.findObj_cls hh ha hn hv' hc (by rw [hl, hv])) hv' h

theorem get_meth {pl : Sem Bool} {Q : Value × List Value → Shared → Prop} (X : K.In s.heap) (I : ObjM s.heap x dx C mA) (hg : PySem.W.plainGet K C name = true)
    (hf : PySem.W.findIn K (.ref C) name = some (some (.ref f))) (ht : PySem.W.isFn K (.ref f) = true) (hv : mA name = none) (h : Q (.ref f, [.ref x]) s) :
    wpAny (model prog w) A (getMethod (.ref x) name pl) Q E s := by
  obtain ⟨od, J, hl⟩ := I.look
  exact PySem.W.method_fn X J (PySem.W.plainGet_of hg).1 (PySem.W.plainGet_of hg).2 hf (beq_iff_eq.mp ht) (by show (PySem.W.lookIn name od).map (·.isSome) = some false; rw [hl, hv]; rfl) h

theorem set_map {ns : List Str} {Q : Unit → Shared → Prop} (X : K.In s.heap) (I : ObjM s.heap x dx C mA)
    (hs : PySem.W.findIn K (.ref C) "__setattr__" = some (some (.builtin "object.__setattr__"))) (hp : PySem.W.plainOver K C = true) (ht : PySem.W.takerIn K C name = some none) (hh : PySem.W.hasDictIn K C = true)
    (hw : PySem.Within mA ns) (hsz : ns.length ≤ sizeLine)
    (h : ∀ h', ObjM h' x dx C (fun y => if y = name then some v else mA y) → Heap.SameBut dx s.heap h' → Q () { s with heap := h', toks := s.toks + 2 }) :
    wpAny (model prog w) A (setAttr (.ref x) name v) Q E s := by
  obtain ⟨od, J, hl⟩ := I.look
  refine PySem.W.set_plain X J hs (PySem.W.osa_open (s := { s with toks := s.toks + 1 }) (r := none) X J hp ht fun b => ?_)
  obtain ⟨cd, hc, hd'⟩ := PySem.W.any_some hh
  have hx : s.heap.get? x = some ⟨.ref C, some dx, .plain, #[]⟩ := I.obj
  refine wpAny_bind (wpAny_pure (wpAny_bind (wpAny_bind (wpAny_loadPart hx (wpAny_bind (PySem.W.Looks.here (s := { s with toks := s.toks + 1 }) (PySem.W.looks_clsIn X hc) ?_))))))
  rw [hd']
  refine wpAny_pure (a := some dx) (wpAny_bind (wpAny_pure (wpAny_bind ?_)))
  refine wpAny_nsSet1 (s := { s with toks := s.toks + 1 }) I.ns fun h' hn2 hs2 => ?_
  obtain ⟨oD, esD, epD, hoD, hdD, hcD⟩ := hn2.count (PySem.Within.cons name v hw)
  refine wpAny_bind (wpAny_lookBehind hoD (by rw [hdD]; exact pastItsLine_dict (Nat.le_trans hcD (by rw [List.length_cons]; omega))) ?_)
  exact wpAny_pure (h _ ⟨(hs2.2 _ (Ne.symm I.ne)).trans I.obj, hn2, I.ne⟩ hs2)

/-- C(..): the dict at the heap's end, the instance behind it; then its __init__ -/
theorem make_map {R : Result → Shared → Prop} {vs : List Value} {kw : List (Str × Value)} (X : K.In s.heap) (hm : PySem.W.makesIn K C = true)
    (hi : PySem.W.findIn K (.ref C) "__init__" = some (some (.ref f))) (hf : PySem.W.typeIn K (.ref f) = some (.type "function"))
    (h : codeAny (model prog w) (A.under (.builtin "type.__call__" ⟨.ref C :: vs, kw⟩)) (.call (.ref f) ⟨.ref (s.heap.objs.size + 1) :: vs, kw⟩) (PySem.W.InitBack (s.heap.objs.size + 1) R)
      { s with heap := (s.heap.push PySem.W.emptyDict).push (PySem.W.instObj C s.heap.objs.size) }) :
    codeAny (model prog w) A (.call (.ref C) ⟨vs, kw⟩) R s := by
  obtain ⟨hh, g, d, t, os⟩ := s
  exact PySem.W.make_core (PySem.W.makes_of X hm) (PySem.W.looks_findIn X hi) (fun self => PySem.W.bind_fn X self hf) (.inl rfl) h
/-- C() where there is no __init__ but object's -/
theorem make_map0 {R : Result → Shared → Prop} (X : K.In s.heap) (hm : PySem.W.makesIn K C = true)
    (hi : PySem.W.findIn K (.ref C) "__init__" = some (some (.builtin "object.__init__")))
    (hb : ∀ self, PySem.W.Looks (model prog w) s.heap (bindSpecial (.builtin "object.__init__") self) (.builtin "object.__init__", [self]))
    (h : codeAny (model prog w) (A.under (.builtin "type.__call__" ⟨[.ref C], []⟩)) (.call (.builtin "object.__init__") ⟨[.ref (s.heap.objs.size + 1)], []⟩) (PySem.W.InitBack (s.heap.objs.size + 1) R)
      { s with heap := (s.heap.push PySem.W.emptyDict).push (PySem.W.instObj C s.heap.objs.size) }) :
    codeAny (model prog w) A (.call (.ref C) ⟨[], []⟩) R s := by
  obtain ⟨hh, g, d, t, os⟩ := s
  exact PySem.W.make_core (PySem.W.makes_of X hm) (PySem.W.looks_findIn X hi) hb (.inr ⟨rfl, rfl⟩) h
end

/-! ### the attributes as a list of pairs -/
def putF (f : Str) (v : V) : List (Str × V) → List (Str × V)
  | [] => [(f, v)]
  | (g, x) :: r => if g = f then (g, v) :: r else (g, x) :: putF f v r
theorem lookup_putF (f g : Str) (v : V) : ∀ fs : List (Str × V), (putF f v fs).lookup g = if g = f then some v else fs.lookup g
  | [] => by
    show List.lookup g [(f, v)] = _
    by_cases h : g = f
    · have hb : (g == f) = true := beq_iff_eq.mpr h
      simp only [List.lookup, hb, if_pos h]
    · have hb : (g == f) = false := beq_eq_false_iff_ne.mpr h
      simp only [List.lookup, hb, if_neg h]
  | (k, x) :: r => by
    have ih := lookup_putF f g v r
    rw [show putF f v ((k, x) :: r) = (if k = f then (k, v) :: r else (k, x) :: putF f v r) from rfl]
    by_cases hk : k = f
    · rw [if_pos hk]
      by_cases h : g = k
      · have hb : (g == k) = true := beq_iff_eq.mpr h
        simp only [List.lookup, hb, if_pos (h.trans hk)]
      · have hb : (g == k) = false := beq_eq_false_iff_ne.mpr h
        simp only [List.lookup, hb, if_neg (fun e : g = f => h (e.trans hk.symm))]
    · rw [if_neg hk]
      by_cases h : g = k
      · have hb : (g == k) = true := beq_iff_eq.mpr h
        simp only [List.lookup, hb, if_neg (fun e : g = f => hk (h.symm.trans e))]
      · have hb : (g == k) = false := beq_eq_false_iff_ne.mpr h
        simp only [List.lookup, hb]
        exact ih
theorem keys_putF (f : Str) (v : V) : ∀ fs : List (Str × V), f ∈ (putF f v fs).map (·.1) ∧ ∀ g, g ∈ fs.map (·.1) → g ∈ (putF f v fs).map (·.1)
  | [] => ⟨by simp [putF], fun g h => by simp at h⟩
  | (k, x) :: r => by
    obtain ⟨i1, i2⟩ := keys_putF f v r
    rw [show putF f v ((k, x) :: r) = (if k = f then (k, v) :: r else (k, x) :: putF f v r) from rfl]
    by_cases hk : k = f
    · rw [if_pos hk]
      subst hk
      exact ⟨by simp, fun g h => by simpa using h⟩
    · rw [if_neg hk]
      refine ⟨?_, fun g h => ?_⟩
      · rw [List.map_cons]
        exact List.mem_cons_of_mem _ i1
      · rw [List.map_cons] at h ⊢
        rcases List.mem_cons.mp h with e | e
        · exact List.mem_cons.mpr (.inl e)
        · exact List.mem_cons_of_mem _ (i2 g e)
theorem length_putF (f : Str) (v : V) : ∀ fs : List (Str × V), (putF f v fs).length ≤ fs.length + 1
  | [] => by simp [putF]
  | (k, x) :: r => by
    have ih := length_putF f v r
    rw [show putF f v ((k, x) :: r) = (if k = f then (k, v) :: r else (k, x) :: putF f v r) from rfl]
    by_cases hk : k = f
    · rw [if_pos hk, List.length_cons, List.length_cons]; omega
    · rw [if_neg hk, List.length_cons, List.length_cons]; omega

theorem RelO.some_of {v : V} {o : Option Value} (r : RelO (some v) o) : ∃ u, o = some u ∧ RelV v u := by
  cases o with
  | none => exact (show False from r).elim
  | some u => exact ⟨u, rfl, r⟩
theorem RelO.none_of {o : Option Value} (r : RelO none o) : o = none := by
  cases o with
  | none => rfl
  | some u => exact (show False from r).elim
theorem handed_of {v : V} {u : Value} (r : RelV v u) : PySem.W.handedIn u = true := by
  cases v with
  | non => cases (show u = Value.none from r); rfl
  | bl b => cases (show u = Value.bool b from r); rfl
  | int i => obtain ⟨t, e⟩ := (show ∃ t, u = Value.int i t from r); cases e; rfl
  | str x => obtain ⟨t, e⟩ := (show ∃ t, u = Value.str x t from r); cases e; rfl
  | byt b => obtain ⟨t, e⟩ := (show ∃ t, u = Value.bytes b t from r); cases e; rfl
  | flt b => obtain ⟨t, e⟩ := (show ∃ t, u = Value.float b t from r); cases e; rfl
  | ref a => cases (show u = Value.ref a from r); rfl
  | ty n => cases (show u = Value.type n from r); rfl

section
variable {P : Program} {w : World} {H H' : Hp} {h h' : Heap} {a C dx : Addr} {fs fs' : List (Str × V)}
theorem ins_get (hok : HOk P w H h) (e : H a = some (.ins C dx fs)) : ∃ mA, ObjM h a dx C mA ∧ (∀ f, RelO (fs.lookup f) (mA f)) ∧ PySem.Within mA (fs.map (·.1)) ∧ fs.length ≤ 1000 ∧ H dx = some (.own a) := by
  obtain ⟨d, z, ne, ob, mA, n, r, q⟩ := (show ObjOk P w H h a (.ins C dx fs) from hok a _ e)
  exact ⟨mA, ⟨ob, n, ne⟩, r, q, z, d⟩
end

/-! ### what of the text a class must have -/
structure Cls (K : PySem.W.Frag) (C : Addr) : Prop where
  pg : PySem.W.plainGet K C Str.empty = true
  hd : PySem.W.hasDictIn K C = true
  po : PySem.W.plainOver K C = true
  sa : PySem.W.findIn K (.ref C) "__setattr__" = some (some (.builtin "object.__setattr__"))
theorem Cls.get {K : PySem.W.Frag} {C : Addr} (c : Cls K C) (f : Str) : PySem.W.plainGet K C f = true := c.pg
/-- no class of it has the name -/
def NoAttr (K : PySem.W.Frag) (C : Addr) (f : Str) : Prop := PySem.W.findIn K (.ref C) f = some none
theorem NoAttr.taker {K : PySem.W.Frag} {C : Addr} {f : Str} (n : NoAttr K C f) : PySem.W.takerIn K C f = some none := by
  unfold PySem.W.takerIn
  rw [show PySem.W.findIn K (.ref C) f = some none from n]
  rfl
/-- a constant of the class -/
structure Con (K : PySem.W.Frag) (C : Addr) (f : Str) (v : V) (u : Value) : Prop where
  at_ : PySem.W.findIn K (.ref C) f = some (some u)
  rel : RelV v u
  get : PySem.W.specialIn K u "__get__" = some none
  cp : PySem.W.copiedNames.contains f = false
/-- a method: a plain def of the class or of one above it -/
structure Meth (K : PySem.W.Frag) (C : Addr) (m : Str) (f : Addr) : Prop where
  at_ : PySem.W.findIn K (.ref C) m = some (some (.ref f))
  fn : PySem.W.isFn K (.ref f) = true
  kp : PySem.W.keepIn K (.ref f) = true

section
variable {X : Cx} {pins : List (Addr × Obj)} {σ : St} {H : Hp} {s : Shared} {a C dx : Addr} {fs : List (Str × V)} {f : Str} {v : V} {A : Around} {E : Value → Shared → Prop}

theorem getattr_ok {b : Bool} {Q : Value → Shared → Prop} (I : Inv X pins σ H s) (e : H a = some (.ins C dx fs)) (c : Cls X.K C) (n : NoAttr X.K C f) (l : fs.lookup f = some v)
    (h : ∀ u s', Inv X pins σ H s' → RelV v u → Q u s') : wpAny (model X.prog X.w) A (getAttr (.ref a) f b) Q E s := by
  obtain ⟨mA, O, r, _, _, _⟩ := ins_get I.hok e
  obtain ⟨u, hu, ru⟩ := RelO.some_of (v := v) (o := mA f) (by rw [← l]; exact r f)
  exact get_map I.kIn O (c.get f) c.hd n hu (handed_of ru) (h u _ (I.tok _) ru)

theorem getcon_ok {b : Bool} {u : Value} {Q : Value → Shared → Prop} (I : Inv X pins σ H s) (e : H a = some (.ins C dx fs)) (c : Cls X.K C) (k : Con X.K C f v u) (l : fs.lookup f = none)
    (h : ∀ s', Inv X pins σ H s' → Q u s') : wpAny (model X.prog X.w) A (getAttr (.ref a) f b) Q E s := by
  obtain ⟨mA, O, r, _, _, _⟩ := ins_get I.hok e
  have hn : mA f = none := RelO.none_of (by rw [← l]; exact r f)
  exact get_const I.kIn O (c.get f) c.hd k.at_ k.get k.cp hn (handed_of k.rel) (h _ (I.tok _))

theorem getmeth_ok {m : Str} {g : Addr} {pl : Sem Bool} {Q : Value × List Value → Shared → Prop} (I : Inv X pins σ H s) (e : H a = some (.ins C dx fs)) (c : Cls X.K C) (k : Meth X.K C m g) (l : fs.lookup m = none)
    (h : Q (.ref g, [.ref a]) s) : wpAny (model X.prog X.w) A (getMethod (.ref a) m pl) Q E s := by
  obtain ⟨mA, O, r, _, _, _⟩ := ins_get I.hok e
  have hn : mA m = none := RelO.none_of (by rw [← l]; exact r m)
  exact get_meth I.kIn O (c.get m) k.at_ k.fn hn h

theorem setattr_ok {y : V} {u : Value} {Q : Unit → Shared → Prop} (I : Inv X pins σ H s) (e : H a = some (.ins C dx fs)) (c : Cls X.K C) (n : NoAttr X.K C f) (hl : fs.length < 1000) (ry : RelV y u)
    (h : ∀ s', Inv X pins σ (upd H a (.ins C dx (putF f y fs))) s' → Q () s') : wpAny (model X.prog X.w) A (setAttr (.ref a) f u) Q E s := by
  obtain ⟨mA, O, r, wi, _, ho⟩ := ins_get I.hok e
  have hz : (fs.map (·.1)).length ≤ sizeLine := by rw [List.length_map, sizeLine_eq]; omega
  refine set_map I.kIn O c.sa c.po n.taker c.hd wi hz fun h' O' sb => h _ ?_
  have hd : ∃ o, h'.get? dx = some o := let ⟨o, _, _, e', _⟩ := O'.ns; ⟨o, e'⟩
  refine I.write (x := a) (e := dx) (by rw [e]; exact True.intro) (.inr ho) (fun b q hb z => (sb.2 b hb).trans z) hd ?_
  refine ⟨by rw [upd_ne O.ne]; exact ho, ?_, O.ne, O'.obj, _, O'.ns, fun g => ?_, fun g hg => ?_⟩
  · have := length_putF f y fs; omega
  · show RelO ((putF f y fs).lookup g) (if g = f then some u else mA g)
    rw [lookup_putF]
    by_cases q : g = f
    · rw [if_pos q, if_pos q]; exact ry
    · rw [if_neg q, if_neg q]; exact r g
  · by_cases q : g = f
    · rw [q]; exact (keys_putF f y fs).1
    · refine (keys_putF f y fs).2 g (wi g fun z => hg ?_)
      show (if g = f then some u else mA g) = none
      rw [if_neg q]; exact z

/-- a new instance, tracked, without attributes -/
theorem Inv.made (I : Inv X pins σ H s) : Inv X pins σ (upd (upd H s.heap.objs.size (.own (s.heap.objs.size + 1))) (s.heap.objs.size + 1) (.ins C s.heap.objs.size []))
    { s with heap := (s.heap.push PySem.W.emptyDict).push (PySem.W.instObj C s.heap.objs.size) } := by
  have e1 : (s.heap.push PySem.W.emptyDict).get? s.heap.objs.size = some PySem.W.emptyDict := Heap.get?_push_size s.heap rfl
  have e2 : ((s.heap.push PySem.W.emptyDict).push (PySem.W.instObj C s.heap.objs.size)).get? (s.heap.objs.size + 1) = some (PySem.W.instObj C s.heap.objs.size) := by
    have := Heap.get?_push_size (s.heap.push PySem.W.emptyDict) (o := PySem.W.instObj C s.heap.objs.size) rfl
    rwa [Heap.size_push] at this
  have e3 : (s.heap.push PySem.W.emptyDict).Ns s.heap.objs.size (fun _ => none) := ⟨PySem.W.emptyDict, #[], _, e1, rfl, (fun e he => absurd he (by simp)), fun _ => rfl⟩
  have I1 := I.laid (a := s.heap.objs.size) (o := .own (s.heap.objs.size + 1)) (h' := s.heap.push PySem.W.emptyDict) (t' := s.toks) (fun b u q => Heap.get?_push_of_some _ q) (Nat.le_refl _) ⟨_, e1⟩
  refine I1.laid (a := s.heap.objs.size + 1) (o := .ins C s.heap.objs.size []) (t' := s.toks) (fun b u q => Heap.get?_push_of_some _ q) (Nat.le_of_eq (Heap.size_push _ _)) ?_
  have ne : s.heap.objs.size ≠ s.heap.objs.size + 1 := Nat.ne_of_lt (Nat.lt_succ_self _)
  refine ⟨by rw [upd_ne ne, upd_same], Nat.zero_le _, ne, e2, fun _ => none, (Heap.Ns1.of_empty e3).at fun o q => Heap.get?_push_of_some _ q, fun _ => True.intro, fun y hy => absurd rfl hy⟩

/-- e.f where nothing but the object is asked: through attributeBase (super) and the last hold -/
theorem attr_of {prog : Program} {w : World} {env : Env} {e : Expr} {f : Str} {pos : Pos} {s : Shared} {Q : Value → Shared → Prop} (hb : attributeBase e f env (eval e env) = eval e env)
    (h : wpAny (model prog w) A (eval e env) (fun o s₁ => wpAny (model prog w) A (getAttr o f true) Q E s₁) E s) : wpAny (model prog w) A (eval (.Attribute e f pos) env) Q E s :=
  Attribute_any_ h (by rw [arm_eval_Attribute, hb])
end

/-! ### readings and rules -/
/-- e.f, an attribute of the instance -/
def tFld (K : PySem.W.Frag) (ta : TE) (f : Str) : TE := fun σ H Q => ta σ H fun x H1 => ∃ a C dx fs v, x = .ref a ∧ H1 a = some (.ins C dx fs) ∧ Cls K C ∧ NoAttr K C f ∧ fs.lookup f = some v ∧ Q v H1
/-- e.f, a constant of the class -/
def tCon (K : PySem.W.Frag) (ta : TE) (f : Str) : TE := fun σ H Q => ta σ H fun x H1 => ∃ a C dx fs v u, x = .ref a ∧ H1 a = some (.ins C dx fs) ∧ Cls K C ∧ Con K C f v u ∧ fs.lookup f = none ∧ Q v H1
/-- e.f = value -/
def sFld (K : PySem.W.Frag) (ta tv : TE) (f : Str) : TS := fun D σ H => tv σ H fun y H1 => ta σ H1 fun x H2 => ∃ a C dx fs, x = .ref a ∧ H2 a = some (.ins C dx fs) ∧ Cls K C ∧ NoAttr K C f ∧ fs.length < 1000 ∧
  D.nx σ (upd H2 a (.ins C dx (putF f y fs)))
/-- an augmented operator on two values -/
def InOp (X : Cx) (op : Operator) (rd : V → V → Hp → VK → Prop) : Prop :=
  ∀ (pins : List (Addr × Obj)) (s : Shared) (σ : St) (H : Hp) (x y : V) (u v : Value) (Q : VK), Inv X pins σ H s → RelV x u → RelV y v → rd x y H Q → wpAny (model X.prog X.w) X.A (inplaceOp op u v) (EP X pins σ Q) X.xe s
/-- e.f op= value -/
def sFldAug (K : PySem.W.Frag) (ta tv : TE) (rd : V → V → Hp → VK → Prop) (f : Str) : TS := fun D σ H => ta σ H fun x H1 => ∃ a C dx fs v, x = .ref a ∧ H1 a = some (.ins C dx fs) ∧ Cls K C ∧ NoAttr K C f ∧ fs.lookup f = some v ∧
  tv σ H1 fun y H2 => rd v y H2 fun z H3 => ∃ dx' fs', H3 a = some (.ins C dx' fs') ∧ fs'.length < 1000 ∧ D.nx σ (upd H3 a (.ins C dx' (putF f z fs')))

section
variable {X : Cx} {o e value : Expr} {f : Str} {pos pos' tpos : Pos} {ta tv : TE}
theorem pe_fld (he : PE X e ta) (hb : attributeBase e f X.env (eval e X.env) = eval e X.env) : PE X (.Attribute e f pos) (tFld X.K ta f) := by
  intro pins s σ H Q I h
  refine attr_of hb (thn (he pins s σ H _ I h) fun u s1 ⟨x, H1, I1, rx, a, C, dx, fs, v, ex, ea, c, n, l, q⟩ => ?_)
  subst ex
  obtain rfl : u = Value.ref a := rx
  exact getattr_ok I1 ea c n l fun u' s2 I2 ru => ⟨v, H1, I2, ru, q⟩
theorem pe_con (he : PE X e ta) (hb : attributeBase e f X.env (eval e X.env) = eval e X.env) : PE X (.Attribute e f pos) (tCon X.K ta f) := by
  intro pins s σ H Q I h
  refine attr_of hb (thn (he pins s σ H _ I h) fun u s1 ⟨x, H1, I1, rx, a, C, dx, fs, v, u0, ex, ea, c, k, l, q⟩ => ?_)
  subst ex
  obtain rfl : u = Value.ref a := rx
  exact getcon_ok I1 ea c k l fun s2 I2 => ⟨v, H1, I2, k.rel, q⟩
theorem ps_fld (ha : PE X o ta) (hv : PE X value tv) (hs : swapsWith value (some (.Attribute o f pos')) pos.line X.env = pure false) : PS X (.Assign [.Attribute o f pos'] value pos) (sFld X.K ta tv f) := by
  intro pins s σ H D I h
  refine plainObj_wpAny_Assign_Attribute (thn (hv pins s σ H _ I h) fun u s1 ⟨y, H1, I1, ry, q⟩ => thn (ha pins s1 σ H1 _ I1 q) fun ov s2 ⟨x, H2, I2, rx, a, C, dx, fs, ex, ea, c, n, l, q2⟩ => ?_) hs
  subst ex
  obtain rfl : ov = Value.ref a := rx
  exact setattr_ok I2 ea c n l ry fun s3 I3 => ⟨σ, _, I3, q2⟩
theorem ps_fldaug {op : Operator} {rd : V → V → Hp → VK → Prop} (ha : PE X o ta) (hv : PE X value tv) (hop : InOp X op rd) : PS X (.AugAssign (.Attribute o f tpos) op value pos) (sFldAug X.K ta tv rd f) := by
  intro pins s σ H D I h
  refine wpAny_AugAssign_AttributeAny (thn (ha pins s σ H _ I h) fun ov s1 ⟨x, H1, I1, rx, a, C, dx, fs, v, ex, ea, c, n, l, q⟩ => ?_)
  subst ex
  obtain rfl : ov = Value.ref a := rx
  refine getattr_ok I1 ea c n l fun u s2 I2 ru => thn (hv pins s2 σ H1 _ I2 q) fun w3 s3 ⟨y, H2, I3, ry, q3⟩ => thn (hop pins s3 σ H2 v y u w3 _ I3 ru ry q3) fun w4 s4 ⟨z, H3, I4, rz, dx', fs', ea', l', q4⟩ => ?_
  exact setattr_ok I4 ea' c n l' rz fun s5 I5 => ⟨σ, _, I5, q4⟩
def rAdd : V → V → Hp → VK → Prop := fun x y H Q => ∃ i j, x = .int i ∧ y = .int j ∧ Q (.int (i + j)) H
def rSub : V → V → Hp → VK → Prop := fun x y H Q => ∃ i j, x = .int i ∧ y = .int j ∧ Q (.int (i - j)) H
theorem in_add : InOp X .Add rAdd := by
  rintro pins s σ H x y u v Q I rx ry ⟨i, j, rfl, rfl, q⟩
  obtain ⟨t, rfl⟩ := (show ∃ t, u = Value.int i t from rx)
  obtain ⟨t', rfl⟩ := (show ∃ t', v = Value.int j t' from ry)
  exact PyProof.Rows.iadd_int ⟨.int (i + j), H, I.tok _, ⟨_, rfl⟩, q⟩
theorem in_sub : InOp X .Sub rSub := by
  rintro pins s σ H x y u v Q I rx ry ⟨i, j, rfl, rfl, q⟩
  obtain ⟨t, rfl⟩ := (show ∃ t, u = Value.int i t from rx)
  obtain ⟨t', rfl⟩ := (show ∃ t', v = Value.int j t' from ry)
  exact PyProof.Rows.isub_int ⟨.int (i - j), H, I.tok _, ⟨_, rfl⟩, q⟩

/-- what is between an instance and its method: the tree of a method call -/
theorem methcall_of {pl : Sem Bool} {m : Str} {apos : Pos} {args : List Expr} {pins : List (Addr × Obj)} {s : Shared} {σ : St} {H : Hp} {Q : Value → Shared → Prop} {te : TE} (he : PE X e te) (I : Inv X pins σ H s)
    (h : te σ H fun x H1 => ∃ a C dx fs g, x = .ref a ∧ H1 a = some (.ins C dx fs) ∧ Cls X.K C ∧ Meth X.K C m g ∧ fs.lookup m = none ∧
      ∀ s1, Inv X pins σ H1 s1 → wpAny (model X.prog X.w) X.A (callWith pos (.ref g) [.ref a] (backTo pos (starEach args X.env)) (backToKw pos (keywordEach [] X.env))) Q X.xe s1)
    (ht : eval (.Call (.Attribute e m apos) args [] pos) X.env = (do
      let ov ← eval e X.env
      standAt apos.atName
      let (f, first) ← holding [ov] (getMethod ov m pl)
      callWith pos f first (backTo pos (starEach args X.env)) (backToKw pos (keywordEach [] X.env)))) :
    wpAny (model X.prog X.w) X.A (eval (.Call (.Attribute e m apos) args [] pos) X.env) Q X.xe s := by
  refine PySem.W.methodCall_KW (pl := pl) (thn (he pins s σ H _ I h) fun u s1 ⟨x, H1, I1, rx, a, C, dx, fs, g, ex, ea, c, k, l, q⟩ => ?_) ht
  subst ex
  obtain rfl : u = Value.ref a := rx
  exact getmeth_ok I1 ea c k l (q s1 I1)
end

/-! ### isinstance -/
section
variable {X : Cx} {pins : List (Addr × Obj)} {σ : St} {H : Hp} {s : Shared} {A : Around} {E : Value → Shared → Prop} {Q : Value → Shared → Prop} {c : Value} {b : Bool}
/-- the type of a value, as the fragment's deciders take it; for an instance its class -/
inductive TyOf (K : PySem.W.Frag) (H : Hp) : V → Value → Prop where
  | non : TyOf K H .non (.type "NoneType")
  | bl (x : Bool) : TyOf K H (.bl x) (.type "bool")
  | int (i : Int) : TyOf K H (.int i) (.type "int")
  | str (x : Str) : TyOf K H (.str x) (.type "str")
  | flt (x : UInt64) : TyOf K H (.flt x) (.type "float")
  | lst {a : Addr} {xs : List V} (e : H a = some (.lst xs)) : TyOf K H (.ref a) (.type "list")
  | frz {a : Addr} {o : Obj} {xs : List V} (e : H a = some (.frz o (.lst xs))) : TyOf K H (.ref a) (.type "list")
  | tup {a : Addr} {xs : List V} (e : H a = some (.tup xs)) : TyOf K H (.ref a) (.type "tuple")
  | dK {a : Addr} {kvs : List (Key × V)} (e : H a = some (.dK kvs)) : TyOf K H (.ref a) (.type "dict")
  | dT {a : Addr} {kvs : List (List Key × V)} (e : H a = some (.dT kvs)) : TyOf K H (.ref a) (.type "dict")
  | ins {a C dx : Addr} {fs : List (Str × V)} (e : H a = some (.ins C dx fs)) (cl : Cls K C) (ha : PySem.W.findIn K (.ref C) "__class__" = some (some (.builtin "object.__class__")))
      (hn : PySem.W.specialIn K (.builtin "object.__class__") "__get__" = some (some (.builtin "getset_descriptor.__get__"))) (htk : PySem.W.takesIn K (.builtin "object.__class__") = some true)
      (hm : PySem.W.mroIn K C (.type "object") = some true) : TyOf K H (.ref a) (.ref C)
/-- isinstance(x, c) for one class c, a built-in or an own one: kitOne's answer -/
theorem isinst_ok {x : V} {u t : Value} (I : Inv X pins σ H s) (rx : RelV x u) (ty : TyOf X.K H x t) (e : PySem.W.kitOne X.K t c = some b) (h : ∀ tk, Q (.bool b) { s with toks := tk }) :
    wpAny (model X.prog X.w) A (call (.builtin "isinstance") [u, c]) Q E s := by
  cases ty with
  | non => cases (show u = Value.none from rx); exact PySem.W.kia_one PySem.W.kitx_none I.kIn True.intro e (fun z => nomatch z) h
  | bl y => cases (show u = Value.bool y from rx); exact PySem.W.kia_one PySem.W.kitx_bool I.kIn True.intro e (fun z => nomatch z) h
  | int i => obtain ⟨t, q⟩ := (show ∃ t, u = Value.int i t from rx); cases q; exact PySem.W.kia_one PySem.W.kitx_int I.kIn True.intro e (fun z => nomatch z) h
  | str y => obtain ⟨t, q⟩ := (show ∃ t, u = Value.str y t from rx); cases q; exact PySem.W.kia_one PySem.W.kitx_str I.kIn True.intro e (fun z => nomatch z) h
  | flt y => obtain ⟨t, q⟩ := (show ∃ t, u = Value.float y t from rx); cases q; exact PySem.W.kia_one PySem.W.kitx_float I.kIn True.intro e (fun z => nomatch z) h
  | @lst a xs ea =>
    cases (show u = Value.ref a from rx)
    obtain ⟨_, _, n, _, h1⟩ := (show ObjOk X.prog X.w H s.heap a (.lst xs) from I.hok a _ ea)
    exact PySem.W.kia_one PySem.W.kitx_list I.kIn ⟨_, h1, rfl⟩ e (fun z => nomatch z) h
  | @frz a ob xs ea =>
    cases (show u = Value.ref a from rx)
    obtain ⟨_, _, _, n, _, h1⟩ := (show ObjOk X.prog X.w H s.heap a (.frz ob (.lst xs)) from I.hok a _ ea)
    exact PySem.W.kia_one PySem.W.kitx_list I.kIn ⟨_, h1, rfl⟩ e (fun z => nomatch z) h
  | @tup a xs ea =>
    cases (show u = Value.ref a from rx)
    obtain ⟨_, _, _, p⟩ := (show ObjOk X.prog X.w H s.heap a (.tup xs) from I.hok a _ ea)
    obtain ⟨o, h1, h2, _⟩ := p
    exact PySem.W.kia_one PySem.W.kitx_tuple I.kIn ⟨o, h1, h2⟩ e (fun z => nomatch z) h
  | @dK a kvs ea =>
    cases (show u = Value.ref a from rx)
    obtain ⟨_, _, vs, _, p⟩ := (show ObjOk X.prog X.w H s.heap a (.dK kvs) from I.hok a _ ea)
    obtain ⟨o, es, ep, h1, h2, _⟩ := p
    exact PySem.W.kia_one PySem.W.kitx_dict I.kIn ⟨o, h1, h2.1⟩ e (fun z => nomatch z) h
  | @dT a kvs ea =>
    cases (show u = Value.ref a from rx)
    obtain ⟨_, _, xs, _, o, es, ep, h1, h2, _⟩ := (show ObjOk X.prog X.w H s.heap a (.dT kvs) from I.hok a _ ea)
    exact PySem.W.kia_one PySem.W.kitx_dict I.kIn ⟨o, h1, h2.1⟩ e (fun z => nomatch z) h
  | @ins a C dx fs ea cl ha hn htk hm =>
    cases (show u = Value.ref a from rx)
    obtain ⟨mA, O, _⟩ := ins_get I.hok ea
    obtain ⟨od, J, _⟩ := O.look
    exact PySem.W.kia_one (PySem.W.kitx_own (cl.get _) cl.hd ha hn htk hm) I.kIn J e (fun z => nomatch z) h
end
end L2

namespace L2
open PySem PySem.Spec PyProof.Rows

/-! ### room -/
structure Room (k : Nat) (A : Around) : Prop where
  hd : A.handled = none
  dp : A.depth + 3 * k + 5 < recursionLimit
  un : A.units + 16 * k + 200 < cLine
theorem Room.mono {j k : Nat} {A : Around} (r : Room k A) (h : j ≤ k) : Room j A := ⟨r.hd, by have := r.dp; omega, by have := r.un; omega⟩
theorem Room.deeper {k : Nat} {A : Around} (r : Room (k + 1) A) (env : Env) : Room k (A.deeper env) :=
  ⟨r.hd, by have := r.dp; show A.depth + 1 + 3 * k + 5 < _; omega, by have := r.un; show A.units + 3 + 16 * k + 200 < _; omega⟩
theorem Room.in1 {k : Nat} {A : Around} (r : Room (k + 1) A) : Room k A.in1 :=
  ⟨r.hd, by have := r.dp; show A.depth + 3 * k + 5 < _; omega, by have := r.un; show A.units + 1 + 16 * k + 200 < _; omega⟩
theorem make_depth {A : Around} {C : Addr} {us : List Value} {kw : List (Str × Value)} : (A.under (.builtin "type.__call__" ⟨.ref C :: us, kw⟩)).depth = A.depth + 1 := by
  first | rfl | simp [Around.under, Code.weight, Code.isCreation, Code.isGuard, Code.isCaller, Code.frames, Code.isFrame, guardIds]
theorem make_units {A : Around} {C : Addr} {us : List Value} {kw : List (Str × Value)} : (A.under (.builtin "type.__call__" ⟨.ref C :: us, kw⟩)).units = A.units + 1 := by
  first | rfl | simp [Around.under, Code.cUnits, Code.frames, Code.isFrame]
theorem Room.make {k : Nat} {A : Around} (r : Room (k + 1) A) (C : Addr) (us : List Value) (kw : List (Str × Value)) : Room k (A.under (.builtin "type.__call__" ⟨.ref C :: us, kw⟩)) :=
  ⟨r.hd, by have := r.dp; rw [make_depth]; omega, by have := r.un; rw [make_units]; omega⟩
theorem Room.depth {k : Nat} {A : Around} (r : Room k A) : A.depth < recursionLimit := by have := r.dp; omega
theorem Room.units {k : Nat} {A : Around} (r : Room k A) : A.units + 64 < cLine := by have := r.un; omega
theorem Room.units0 {k : Nat} {A : Around} (r : Room k A) : A.units < cLine := by have := r.un; omega

/-! ### argument lists and displays -/
def tNil : TA := fun _ H Q => Q [] H
def tCons (ta : TE) (tr : TA) : TA := fun σ H Q => ta σ H fun x H1 => tr σ H1 fun xs H2 => Q (x :: xs) H2
section
variable {X : Cx} {e : Expr} {es : List Expr} {te : TE} {t : TA} {pos : Pos}
theorem pa_nil : PA X [] tNil := fun _ _ _ _ H Q I h => Calls.spliced_nil ⟨[], H, I, .nil, h⟩
theorem pa_cons (ha : PE X e te) (hr : PA X es t) (hs : starEach (e :: es) X.env = (false, eval e X.env) :: starEach es X.env := by rfl) : PA X (e :: es) (tCons te t) := by
  intro pos pins s σ H Q I h
  rw [hs]
  show wpAny _ _ (spliced ((false, eval e X.env) :: backTo pos (starEach es X.env))) _ _ s
  refine Calls.spliced_cons (thn (ha pins s σ H _ I h) fun u s1 ⟨x, H1, I1, r1, q1⟩ => ?_)
  exact thn (hr pos pins s1 σ H1 _ I1 q1) fun us s2 ⟨xs, H2, I2, r2, q2⟩ => ⟨x :: xs, H2, I2, .cons r1 r2, q2⟩

/-- a tuple, a list of written items -/
def tTup (t : TA) : TE := fun σ H Q => t σ H fun xs H1 => xs.length ≤ sizeLine ∧ ∀ p, H1 p = none → Q (.ref p) (upd H1 p (.tup xs))
def tLst (t : TA) : TE := fun σ H Q => t σ H fun xs H1 => xs.length ≤ sizeLine ∧ ∀ p, H1 p = none → Q (.ref p) (upd H1 p (.lst xs))
theorem pe_tup {x1} (h : PA X es t) : PE X (.Tuple es x1 pos) (tTup t) := by
  intro pins s σ H Q I hq
  refine wpAny_Tuple_spliced (thn (h pos pins s σ H _ I hq) fun us s1 ⟨xs, H1, I1, r, z, q⟩ => ⟨by rw [← r.length]; exact z, ?_⟩)
  have hf : H1 s1.heap.objs.size = none := I1.hok.fresh (Nat.le_refl _)
  refine ⟨.ref s1.heap.objs.size, upd H1 s1.heap.objs.size (.tup xs), I1.laid (t' := s1.toks) (fun b u e => Heap.get?_push_of_some _ e) (Nat.le_refl _) ?_, rfl, q _ hf⟩
  exact ⟨z, us, r, ⟨_, Heap.get?_push_size _ rfl, rfl, _, rfl⟩⟩
theorem pe_lst (h : PA X es t) : PE X (.List es pos) (tLst t) := by
  intro pins s σ H Q I hq
  refine wpAny_List_spliced (thn (h pos pins s σ H _ I hq) fun us s1 ⟨xs, H1, I1, r, z, q⟩ => ⟨by rw [← r.length]; exact z, ?_⟩)
  have hf : H1 s1.heap.objs.size = none := I1.hok.fresh (Nat.le_refl _)
  refine ⟨.ref s1.heap.objs.size, upd H1 s1.heap.objs.size (.lst xs), I1.laid (t' := s1.toks) (fun b u e => Heap.get?_push_of_some _ e) (Nat.le_refl _) ?_, rfl, q _ hf⟩
  exact ⟨z, us, 0, r, Heap.get?_push_size _ rfl⟩
end

/-! ### what a def promises -/
/-- a def's promise: the bound arguments in the parameters' order, the heap, the wanted end, the wanted exception -/
abbrev Sp := List V → Hp → VK → XK → Prop
/-- how an exception lies behind a call (file 08 gives it): the callers' frames, abstract heap and state ahead of the call, the wish, the exception, the state -/
abbrev CXT := List Env → Hp → Shared → XK → Value → Shared → Prop

/-- the state at a call -/
structure Env0 (P : Program) (w : World) (K : PySem.W.Frag) (mg : Str → Option Value) (base : Heap) (A : Around) (outer : List Env) (s : Shared) (H : Hp) : Prop where
  frames : A.frames = some outer
  mod : Mod K mg base
  bs : ∀ b o, base.get? b = some o → s.heap.get? b = some o ∧ H b = none
  bsz : base.objs.size ≤ s.heap.objs.size
  funs : s.heap.FunFrames base outer
  frf : ∀ b ∈ frs outer, H b = none
  hok : HOk P w H s.heap
  bare : AllBare s.gens
/-- a call's end -/
def CE (outer : List Env) (P : Program) (w : World) (H : Hp) (s : Shared) (Q : VK) (u : Value) (s' : Shared) : Prop :=
  ∃ v H', s'.os = s.os ∧ AllBare s'.gens ∧ Un (frs outer) [] H H' s.heap s'.heap ∧ HOk P w H' s'.heap ∧ RelV v u ∧ Q v H'
def CR (CX : CXT) (outer : List Env) (P : Program) (w : World) (H : Hp) (s : Shared) (Q : VK) (E : XK) (r : Result) (s' : Shared) : Prop :=
  match r with
  | .ok (.ret u) => CE outer P w H s Q u s'
  | .ok _ => False
  | .error e => CX outer H s E e s'
structure FnOk (P : Program) (w : World) (K : PySem.W.Frag) (mg : Str → Option Value) (base : Heap) (CX : CXT) (k : Nat) (f : Addr) (fd : FuncData) (ps : List Str) (sp : Sp) : Prop where
  len : ∀ vs H Q E, sp vs H Q E → vs.length = ps.length
  run : ∀ (A : Around) (outer : List Env) (s : Shared) (H : Hp) (args : Args) (us : List Value) (vs : List V) (Q : VK) (E : XK), Room k A → Env0 P w K mg base A outer s H → BindsTo s fd args (ps.zip us) → Vals vs us → sp vs H Q E →
    codeAny (model P w) A (.call (.ref f) args) (CR CX outer P w H s Q E) s
theorem FnOk.mono {P : Program} {w : World} {K : PySem.W.Frag} {mg : Str → Option Value} {base : Heap} {CX : CXT} {j k : Nat} {f : Addr} {fd : FuncData} {ps : List Str} {sp : Sp} (F : FnOk P w K mg base CX j f fd ps sp) (h : j ≤ k) :
    FnOk P w K mg base CX k f fd ps sp := ⟨F.len, fun A outer s H args us vs Q E hr => F.run A outer s H args us vs Q E (hr.mono h)⟩
/-- a weaker promise -/
theorem FnOk.imp {P : Program} {w : World} {K : PySem.W.Frag} {mg : Str → Option Value} {base : Heap} {CX : CXT} {k : Nat} {f : Addr} {fd : FuncData} {ps : List Str} {sp sp' : Sp} (F : FnOk P w K mg base CX k f fd ps sp)
    (h : ∀ vs H Q E, sp' vs H Q E → sp vs H Q E) : FnOk P w K mg base CX k f fd ps sp' :=
  ⟨fun vs H Q E q => F.len vs H Q E (h _ _ _ _ q), fun A outer s H args us vs Q E hr he hb hv hs => F.run A outer s H args us vs Q E hr he hb hv (h _ _ _ _ hs)⟩

theorem Env0.make {P : Program} {w : World} {K : PySem.W.Frag} {mg : Str → Option Value} {base : Heap} {A : Around} {outer : List Env} {s : Shared} {H : Hp} (e : Env0 P w K mg base A outer s H) (C : Addr) (us : List Value) (kw : List (Str × Value)) :
    Env0 P w K mg base (A.under (.builtin "type.__call__" ⟨.ref C :: us, kw⟩)) outer s H := ⟨by first | exact e.frames | (simpa [Around.under, Code.envs, Code.isFrame, pushEnvs] using e.frames), e.mod, e.bs, e.bsz, e.funs, e.frf, e.hok, e.bare⟩
theorem Env0.in1 {P : Program} {w : World} {K : PySem.W.Frag} {mg : Str → Option Value} {base : Heap} {A : Around} {outer : List Env} {s : Shared} {H : Hp} (e : Env0 P w K mg base A outer s H) :
    Env0 P w K mg base A.in1 outer s H := ⟨e.frames, e.mod, e.bs, e.bsz, e.funs, e.frf, e.hok, e.bare⟩

section
variable {X : Cx} {pins : List (Addr × Obj)} {σ : St} {H : Hp} {s s' : Shared}
/-- from a body: what a callee wants -/
theorem Inv.env0 (I : Inv X pins σ H s) : Env0 X.prog X.w X.K X.mg X.base X.A X.stack s H :=
  ⟨I.ok.frames, I.ok.mod, I.bs, Nat.le_trans I.ok.bsz I.sz, I.stack, I.stkFree, I.hok, I.bare⟩
/-- behind a call -/
theorem Inv.after {Q : VK} {u : Value} (I : Inv X pins σ H s) (h : CE X.stack X.prog X.w H s Q u s') : EP X pins σ Q u s' := by
  obtain ⟨v, H', os, bare, un, hok, r, q⟩ := h
  obtain ⟨hh, g, d, t, os'⟩ := s'
  obtain rfl : os' = s.os := os
  exact ⟨v, H', I.call (h' := hh) (g' := g) (d' := d) (t' := t) (ch := []) un hok bare (fun b z => absurd z (by simp)), r, q⟩
end

/-! ### calls -/
/-- f(..): the written arguments, then the defaults dvs; E: what is wanted of an exception -/
def tCall (sp : Sp) (dvs : List V) (E : XK) (t : TA) : TE := fun σ H Q => t σ H fun vs H1 => sp (vs ++ dvs) H1 Q E
/-- o.m(..) of an instance of the class at C -/
def tMeth (C : Addr) (m : Str) (sp : Sp) (dvs : List V) (E : XK) (ta : TE) (t : TA) : TE := fun σ H Q => ta σ H fun x H1 => ∃ a dx fs, x = .ref a ∧ H1 a = some (.ins C dx fs) ∧ fs.lookup m = none ∧
  t σ H1 fun vs H2 => sp (x :: (vs ++ dvs)) H2 Q E
/-- C(..): a new instance and its dict, then __init__ -/
def tMake (C : Addr) (sp : Sp) (dvs : List V) (E : XK) (t : TA) : TE := fun σ H Q => t σ H fun vs H1 => ∀ x dx, H1 x = none → H1 dx = none → dx ≠ x →
  sp (.ref x :: (vs ++ dvs)) (upd (upd H1 dx (.own x)) x (.ins C dx [])) (fun v H2 => v = .non ∧ Q (.ref x) H2) E

/-- how the parameters are bound: us the positional arguments, kw the keywords' values by name, ds the defaults that fill up -/
def Binds (K : PySem.W.Frag) (fd : FuncData) (ps : List Str) (ds : List Value) : Prop :=
  ∀ (s : Shared) (us : List Value), K.In s.heap → (us ++ ds).length = ps.length → BindsTo s fd ⟨us, []⟩ (ps.zip (us ++ ds))
/-- every parameter is given -/
theorem Binds.all {K : PySem.W.Frag} {fd : FuncData} {ps : List Str} (h : ∀ us : List Value, us.length = ps.length → bindArgs fd ⟨us, []⟩ = pure (ps.zip us)) : Binds K fd ps [] := fun s us _ hl => by
  rw [List.append_nil] at hl ⊢
  exact .of_eq (h us hl)

/-- an exception of a callee reaches what this body wants of exceptions -/
def Passes (CX : CXT) (X : Cx) (E : XK) : Prop := ∀ (pins : List (Addr × Obj)) (σ : St) (H : Hp) (s : Shared) (e : Value) (s' : Shared), Inv X pins σ H s → CX X.stack H s E e s' → X.xe e s'

section
variable {X : Cx} {CX : CXT} {k : Nat} {f C : Addr} {fd : FuncData} {ps : List Str} {sp : Sp} {dvs : List V} {ds : List Value} {E : XK} {x m : Str} {p pos apos : Pos} {e o : Expr} {es : List Expr} {ta : TE} {t : TA}

/-- the callee runs -/
theorem run_fn {pins : List (Addr × Obj)} {σ : St} {H : Hp} {s : Shared} {Q : VK} {us : List Value} {vs : List V} (F : FnOk X.prog X.w X.K X.mg X.base CX k f fd ps sp) (hr : Room k X.A) (hb : Binds X.K fd ps ds) (hd : Vals dvs ds) (hx : Passes CX X E)
    (I : Inv X pins σ H s) (r : Vals vs us) (h : sp (vs ++ dvs) H Q E) : wpAny (model X.prog X.w) X.A (call (.ref f) us) (EP X pins σ Q) X.xe s := by
  have r2 : Vals (vs ++ dvs) (us ++ ds) := r.append hd
  have hl : (us ++ ds).length = ps.length := by rw [← r2.length]; exact F.len _ _ _ _ h
  refine wpAny_call (codeAny_mono (F.run X.A X.stack s H ⟨us, []⟩ (us ++ ds) (vs ++ dvs) Q E hr I.env0 (hb s us I.kIn hl) r2 h) fun r s' hq => ?_)
  cases r with
  | error e => exact hx pins σ H s e s' I hq
  | ok fl =>
    cases fl with
    | ret u => exact I.after hq
    | next => exact False.elim hq
    | brk => exact False.elim hq
    | cont => exact False.elim hq

theorem pe_call (F : FnOk X.prog X.w X.K X.mg X.base CX k f fd ps sp) (hr : Room k X.A) (hg : Gl X x) (hm : X.mg x = some (.ref f)) (hk : PySem.W.keepIn X.K (.ref f) = true) (hb : Binds X.K fd ps ds) (hd : Vals dvs ds) (hx : Passes CX X E)
    (ha : PA X (e :: es) t) (hdb : (x == ("__debug__" : Str)) = false := by decide) (he : starEach (e :: es) X.env = (false, eval e X.env) :: starEach es X.env := by rfl) (hpl : (backTo pos (starEach es X.env)).any (·.1) = false := by rfl) :
    PE X (.Call (.Name x p) (e :: es) [] pos) (tCall sp dvs E t) := by
  intro pins s σ H Q I h
  refine wpAny_Call_Name_kw (ld_glob I hg hm ?_ hdb)
  refine PySem.W.callWith_K (h₀ := X.base) I.ok.mod.kin hk (thn (ha pos pins s σ H _ I h) fun us s1 ⟨vs, H1, I1, r, q⟩ => ⟨I1.kIn, ?_⟩) he hpl
  exact run_fn F hr hb hd hx I1 r q
theorem pe_call0 (F : FnOk X.prog X.w X.K X.mg X.base CX k f fd ps sp) (hr : Room k X.A) (hg : Gl X x) (hm : X.mg x = some (.ref f)) (hk : PySem.W.keepIn X.K (.ref f) = true) (hb : Binds X.K fd ps ds) (hd : Vals dvs ds) (hx : Passes CX X E)
    (hdb : (x == ("__debug__" : Str)) = false := by decide) : PE X (.Call (.Name x p) [] [] pos) (tCall sp dvs E tNil) := by
  intro pins s σ H Q I h
  refine wpAny_Call_Name_kw (ld_glob I hg hm ?_ hdb)
  exact PySem.W.callWith_K0 I.kIn hk (run_fn (us := []) F hr hb hd hx I .nil h)

/-- o.m(e, ..) -/
theorem pe_meth {pl : Sem Bool} (he : PE X o ta) (c : Cls X.K C) (hm : Meth X.K C m f) (F : FnOk X.prog X.w X.K X.mg X.base CX k f fd ps sp) (hr : Room k X.A) (hb : Binds X.K fd ps ds) (hd : Vals dvs ds) (hx : Passes CX X E) (ha : PA X (e :: es) t)
    (hst : starEach (e :: es) X.env = (false, eval e X.env) :: starEach es X.env := by rfl) (hpl : (backTo pos (starEach es X.env)).any (·.1) = false := by rfl)
    (ht : eval (.Call (.Attribute o m apos) (e :: es) [] pos) X.env = (do
      let ov ← eval o X.env
      standAt apos.atName
      let (f, first) ← holding [ov] (getMethod ov m pl)
      callWith pos f first (backTo pos (starEach (e :: es) X.env)) (backToKw pos (keywordEach [] X.env))) := by rfl) :
    PE X (.Call (.Attribute o m apos) (e :: es) [] pos) (tMeth C m sp dvs E ta t) := by
  intro pins s σ H Q I h
  refine PySem.W.methodCall_KW (pl := pl) (thn (he pins s σ H _ I h) fun u s1 ⟨x, H1, I1, rx, a, dx, fs, ex, ea, l, q⟩ => ?_) ht
  subst ex
  obtain rfl : u = Value.ref a := rx
  refine getmeth_ok I1 ea c hm l ?_
  refine PySem.W.callWith_K (first := [.ref a]) (h₀ := X.base) I.ok.mod.kin hm.kp (thn (ha pos pins s1 σ H1 _ I1 q) fun us s2 ⟨vs, H2, I2, r, q2⟩ => ⟨I2.kIn, ?_⟩) hst hpl
  exact run_fn (us := .ref a :: us) (vs := .ref a :: vs) F hr hb hd hx I2 (.cons rfl r) q2
/-- o.m() -/
theorem pe_meth0 {pl : Sem Bool} (he : PE X o ta) (c : Cls X.K C) (hm : Meth X.K C m f) (F : FnOk X.prog X.w X.K X.mg X.base CX k f fd ps sp) (hr : Room k X.A) (hb : Binds X.K fd ps ds) (hd : Vals dvs ds) (hx : Passes CX X E)
    (ht : eval (.Call (.Attribute o m apos) [] [] pos) X.env = (do
      let ov ← eval o X.env
      standAt apos.atName
      let (f, first) ← holding [ov] (getMethod ov m pl)
      callWith pos f first (backTo pos (starEach [] X.env)) (backToKw pos (keywordEach [] X.env))) := by rfl) :
    PE X (.Call (.Attribute o m apos) [] [] pos) (tMeth C m sp dvs E ta tNil) := by
  intro pins s σ H Q I h
  refine PySem.W.methodCall_KW (pl := pl) (thn (he pins s σ H _ I h) fun u s1 ⟨x, H1, I1, rx, a, dx, fs, ex, ea, l, q⟩ => ?_) ht
  subst ex
  obtain rfl : u = Value.ref a := rx
  refine getmeth_ok I1 ea c hm l ?_
  exact PySem.W.callWith_K0 (first := [.ref a]) I1.kIn hm.kp (run_fn (us := [.ref a]) (vs := [.ref a]) F hr hb hd hx I1 (.cons rfl .nil) q)

/-- what a class must have to be made -/
structure Mk (K : PySem.W.Frag) (C f : Addr) : Prop where
  makes : PySem.W.makesIn K C = true
  init : PySem.W.findIn K (.ref C) "__init__" = some (some (.ref f))
  fn : PySem.W.isFn K (.ref f) = true
  kp : PySem.W.keepIn K (.ref C) = true

theorem run_make {pins : List (Addr × Obj)} {σ : St} {H : Hp} {s : Shared} {Q : VK} {us : List Value} {vs : List V} (M : Mk X.K C f) (F : FnOk X.prog X.w X.K X.mg X.base CX k f fd ps sp) (hr : Room (k + 1) X.A) (hb : Binds X.K fd ps ds) (hd : Vals dvs ds)
    (hx : Passes CX X E) (I : Inv X pins σ H s) (r : Vals vs us)
    (h : ∀ x dx, H x = none → H dx = none → dx ≠ x → sp (.ref x :: (vs ++ dvs)) (upd (upd H dx (.own x)) x (.ins C dx [])) (fun v H2 => v = .non ∧ Q (.ref x) H2) E) :
    wpAny (model X.prog X.w) X.A (call (.ref C) us) (EP X pins σ Q) X.xe s := by
  have hq := h (s.heap.objs.size + 1) s.heap.objs.size (I.hok.fresh (Nat.le_succ _)) (I.hok.fresh (Nat.le_refl _)) (Nat.ne_of_lt (Nat.lt_succ_self _))
  have I2 := Inv.made (C := C) I
  have r2 : Vals (V.ref (s.heap.objs.size + 1) :: (vs ++ dvs)) (Value.ref (s.heap.objs.size + 1) :: (us ++ ds)) := .cons rfl (r.append hd)
  have hl : (Value.ref (s.heap.objs.size + 1) :: us ++ ds).length = ps.length := by
    have e := r2.length
    rw [F.len _ _ _ _ hq] at e
    exact e.symm
  refine wpAny_call (make_map (f := f) I.kIn M.makes M.init (beq_iff_eq.mp M.fn) (codeAny_mono (F.run _ X.stack _ _ ⟨Value.ref (s.heap.objs.size + 1) :: us, []⟩ (Value.ref (s.heap.objs.size + 1) :: (us ++ ds)) _ _ E (hr.make C us [])
    (I2.env0.make C us []) (hb _ (Value.ref (s.heap.objs.size + 1) :: us) I2.kIn hl) r2 hq) fun r s' hq' => ?_))
  cases r with
  | error e => exact hx pins σ _ _ e s' I2 hq'
  | ok fl =>
    cases fl with
    | ret u =>
      obtain ⟨v, H', I3, rv, ev, q3⟩ := I2.after hq'
      subst ev
      exact ⟨rv, ⟨V.ref (s.heap.objs.size + 1), H', I3, rfl, q3⟩⟩
    | next => exact False.elim hq'
    | brk => exact False.elim hq'
    | cont => exact False.elim hq'
theorem pe_make (M : Mk X.K C f) (F : FnOk X.prog X.w X.K X.mg X.base CX k f fd ps sp) (hr : Room (k + 1) X.A) (hg : Gl X x) (hm : X.mg x = some (.ref C)) (hb : Binds X.K fd ps ds) (hd : Vals dvs ds) (hx : Passes CX X E)
    (ha : PA X (e :: es) t) (hdb : (x == ("__debug__" : Str)) = false := by decide) (he : starEach (e :: es) X.env = (false, eval e X.env) :: starEach es X.env := by rfl) (hpl : (backTo pos (starEach es X.env)).any (·.1) = false := by rfl) :
    PE X (.Call (.Name x p) (e :: es) [] pos) (tMake C sp dvs E t) := by
  intro pins s σ H Q I h
  refine wpAny_Call_Name_kw (ld_glob I hg hm ?_ hdb)
  refine PySem.W.callWith_K (h₀ := X.base) I.ok.mod.kin M.kp (thn (ha pos pins s σ H _ I h) fun us s1 ⟨vs, H1, I1, r, q⟩ => ⟨I1.kIn, ?_⟩) he hpl
  exact run_make M F hr hb hd hx I1 r q
theorem pe_make0 (M : Mk X.K C f) (F : FnOk X.prog X.w X.K X.mg X.base CX k f fd ps sp) (hr : Room (k + 1) X.A) (hg : Gl X x) (hm : X.mg x = some (.ref C)) (hb : Binds X.K fd ps ds) (hd : Vals dvs ds) (hx : Passes CX X E)
    (hdb : (x == ("__debug__" : Str)) = false := by decide) : PE X (.Call (.Name x p) [] [] pos) (tMake C sp dvs E tNil) := by
  intro pins s σ H Q I h
  refine wpAny_Call_Name_kw (ld_glob I hg hm ?_ hdb)
  exact PySem.W.callWith_K0 I.kIn M.kp (run_make (us := []) M F hr hb hd hx I .nil h)
end

/-! ### keywords -/
/-- the values of the keywords, from the left -/
def PK (X : Cx) (kws : List Keyword) (t : TA) : Prop :=
  ∀ (pos : Pos) (pins : List (Addr × Obj)) (s : Shared) (σ : St) (H : Hp) (Q : List V → Hp → Prop), Inv X pins σ H s → t σ H Q → wpAny (model X.prog X.w) X.A (evalAll ((backToKw pos (keywordEach kws X.env)).map (·.2))) (AP X pins σ Q) X.xe s
section
variable {X : Cx} {CX : CXT} {k : Nat} {f C : Addr} {fd : FuncData} {ps ks : List Str} {sp : Sp} {E : XK} {x m : Str} {p pos apos kpos : Pos} {e o : Expr} {es : List Expr} {kws : List Keyword} {te ta : TE} {t tk : TA} {nm : Option Str}
theorem pk_nil : PK X [] tNil := fun _ _ _ _ H Q I h => wpAny_evalAll_nil ⟨[], H, I, .nil, h⟩
theorem pk_cons (ha : PE X e te) (hr : PK X kws t) : PK X (⟨nm, e, kpos⟩ :: kws) (tCons te t) := by
  intro pos pins s σ H Q I h
  show wpAny _ _ (evalAll ((do let v ← eval e X.env; standAt pos; pure v) :: (backToKw pos (keywordEach kws X.env)).map (·.2))) _ _ s
  refine wpAny_evalAll_cons (wpAny_bind (thn (ha pins s σ H _ I h) fun u s1 ⟨x, H1, I1, r1, q1⟩ => wpAny_bind (wpAny_standAt (wpAny_pure ?_))))
  exact thn (hr pos pins s1 σ H1 _ I1 q1) fun us s2 ⟨xs, H2, I2, r2, q2⟩ => ⟨x :: xs, H2, I2, .cons r1 r2, q2⟩

/-- how a call with keywords binds: g puts the positional values us and the keywords' values ws (names ks) in the parameters' order, defaults among them -/
structure KBinds (K : PySem.W.Frag) (fd : FuncData) (ps ks : List Str) (g : List Value → List Value → List Value) (gV : List V → List V → List V) : Prop where
  to : ∀ (s : Shared) (us ws : List Value), K.In s.heap → (g us ws).length = ps.length → BindsTo s fd ⟨us, ks.zip ws⟩ (ps.zip (g us ws))
  rel : ∀ {vs : List V} {us : List Value} {zs : List V} {ws : List Value}, Vals vs us → Vals zs ws → Vals (gV vs zs) (g us ws)
def tCallK (sp : Sp) (gV : List V → List V → List V) (E : XK) (t tk : TA) : TE := fun σ H Q => t σ H fun vs H1 => tk σ H1 fun zs H2 => sp (gV vs zs) H2 Q E
variable {g : List Value → List Value → List Value} {gV : List V → List V → List V}
theorem run_fnk {pins : List (Addr × Obj)} {σ : St} {H : Hp} {s : Shared} {Q : VK} {us ws : List Value} {vs zs : List V} (F : FnOk X.prog X.w X.K X.mg X.base CX k f fd ps sp) (hr : Room k X.A) (hb : KBinds X.K fd ps ks g gV) (hx : Passes CX X E)
    (I : Inv X pins σ H s) (r : Vals vs us) (rz : Vals zs ws) (h : sp (gV vs zs) H Q E) : wpAny (model X.prog X.w) X.A (call (.ref f) us (ks.zip ws)) (EP X pins σ Q) X.xe s := by
  have r2 := hb.rel r rz
  have hl : (g us ws).length = ps.length := by rw [← r2.length]; exact F.len _ _ _ _ h
  refine wpAny_call (codeAny_mono (F.run X.A X.stack s H ⟨us, ks.zip ws⟩ (g us ws) (gV vs zs) Q E hr I.env0 (hb.to s us ws I.kIn hl) r2 h) fun r s' hq => ?_)
  cases r with
  | error e => exact hx pins σ H s e s' I hq
  | ok fl =>
    cases fl with
    | ret u => exact I.after hq
    | next => exact False.elim hq
    | brk => exact False.elim hq
    | cont => exact False.elim hq
/-- f(e, .., k = v, ..) -/
theorem pe_callK (F : FnOk X.prog X.w X.K X.mg X.base CX k f fd ps sp) (hr : Room k X.A) (hg : Gl X x) (hm : X.mg x = some (.ref f)) (hk : PySem.W.keepIn X.K (.ref f) = true) (hb : KBinds X.K fd ps ks g gV) (hx : Passes CX X E)
    (ha : PA X (e :: es) t) (hkw : PK X kws tk) (hall : (backToKw pos (keywordEach kws X.env)).all (·.1.isSome) = true := by rfl) (hks : (backToKw pos (keywordEach kws X.env)).filterMap (·.1) = ks := by rfl)
    (hdb : (x == ("__debug__" : Str)) = false := by decide) (he : starEach (e :: es) X.env = (false, eval e X.env) :: starEach es X.env := by rfl)
    (hpl : ((backTo pos (starEach (e :: es) X.env)).any (·.1) || (backToKw pos (keywordEach kws X.env)).any (·.1.isNone)) = false := by rfl) :
    PE X (.Call (.Name x p) (e :: es) kws pos) (tCallK sp gV E t tk) := by
  intro pins s σ H Q I h
  refine wpAny_Call_Name_kw (ld_glob I hg hm ?_ hdb)
  refine PySem.W.callWith_KW (h₀ := X.base) I.ok.mod.kin hk hall (thn (ha pos pins s σ H _ I h) fun us s1 ⟨vs, H1, I1, r, q⟩ => ?_) hpl he
  refine thn (hkw pos pins s1 σ H1 _ I1 q) fun ws s2 ⟨zs, H2, I2, rz, q2⟩ => ⟨I2.kIn, ?_⟩
  rw [hks]
  exact run_fnk F hr hb hx I2 r rz q2
end

/-! ### a def's body keeps its promise -/
/-- names: the parameters first -/
structure FnScope (N P : List Str) (sc : Scope) : Prop where
  kind : sc.kind = .function
  co : sc.isCoroutine = false
  gen : sc.isGenerator = false
  nd : N.Nodup
  pre : N.take P.length = P
  par : ∀ x ∈ P, sc.names.lookup x = some .local ∨ sc.names.lookup x = some .cell
  nofree : ∀ y ∈ sc.names, y.2 ≠ .free

theorem bindL_out {kindOf : Str → Option NameKind} {x : Str} : ∀ {binds : List (Str × Value)} {m : Str → Option Value}, (∀ v, (x, v) ∉ binds) → bindL kindOf binds m x = m x
  | [], _, _ => rfl
  | (n, v) :: r, m, h => by
    unfold bindL
    rw [bindL_out fun w hw => h w (List.mem_cons_of_mem _ hw)]
    split
    · have : x ≠ n := by rintro rfl; exact h v List.mem_cons_self
      simp [this]
    · rfl
theorem bindC_out {kindOf : Str → Option NameKind} {x : Str} : ∀ {binds : List (Str × Value)} {m : Str → Option Value}, (∀ v, (x, v) ∉ binds) → bindC kindOf binds m x = m x
  | [], _, _ => rfl
  | (n, v) :: r, m, h => by
    unfold bindC
    rw [bindC_out fun w hw => h w (List.mem_cons_of_mem _ hw)]
    split
    · rfl
    · have : x ≠ n := by rintro rfl; exact h v List.mem_cons_self
      simp [this]
theorem bindL_get {kindOf : Str → Option NameKind} {x : Str} {v : Value} : ∀ {P : List Str} {vs : List Value} {i : Nat} {m : Str → Option Value}, P.Nodup → P[i]? = some x → vs[i]? = some v → kindOf x = some .local →
    bindL kindOf (P.zip vs) m x = some v
  | [], _, _, _, _, h, _, _ => by simp at h
  | _ :: _, [], _, _, _, _, h, _ => by simp at h
  | p :: P, w :: vs, 0, m, nd, h1, h2, hk => by
    simp at h1 h2; subst h1; subst h2
    show bindL kindOf ((p, w) :: P.zip vs) m p = _
    unfold bindL
    rw [bindL_out fun v hv => (List.nodup_cons.mp nd).1 (List.of_mem_zip hv).1, if_pos hk]
    simp
  | p :: P, w :: vs, i + 1, m, nd, h1, h2, hk => by
    show bindL kindOf ((p, w) :: P.zip vs) m x = _
    unfold bindL
    exact bindL_get (i := i) (List.nodup_cons.mp nd).2 (by simpa using h1) (by simpa using h2) hk
theorem bindC_get {kindOf : Str → Option NameKind} {x : Str} {v : Value} : ∀ {P : List Str} {vs : List Value} {i : Nat} {m : Str → Option Value}, P.Nodup → P[i]? = some x → vs[i]? = some v → kindOf x ≠ some .local →
    bindC kindOf (P.zip vs) m x = some v
  | [], _, _, _, _, h, _, _ => by simp at h
  | _ :: _, [], _, _, _, _, h, _ => by simp at h
  | p :: P, w :: vs, 0, m, nd, h1, h2, hk => by
    simp at h1 h2; subst h1; subst h2
    show bindC kindOf ((p, w) :: P.zip vs) m p = _
    unfold bindC
    rw [bindC_out fun v hv => (List.nodup_cons.mp nd).1 (List.of_mem_zip hv).1, if_neg hk]
    simp
  | p :: P, w :: vs, i + 1, m, nd, h1, h2, hk => by
    show bindC kindOf ((p, w) :: P.zip vs) m x = _
    unfold bindC
    exact bindC_get (i := i) (List.nodup_cons.mp nd).2 (by simpa using h1) (by simpa using h2) hk

/-- the names' values at the entry -/
def start (N : List Str) (vs : List V) : St := vs.map some ++ List.replicate (N.length - vs.length) none

/-- the context of a def's body, at its entry; an exception leaves the frame, then lies as CX says -/
def cxOf (CX : CXT) (P : Program) (w : World) (K : PySem.W.Frag) (mg : Str → Option Value) (base : Heap) (N : List Str) (qual : Str) (scope : Scope) (f : Addr) (cd : Value) (A : Around) (outer : List Env) (s : Shared) (H : Hp) (E : XK) : Cx where
  prog := P
  w := w
  K := K
  mg := mg
  base := base
  A := A.deeper (envOfC qual scope s.heap.objs.size f cd)
  N := N
  s₀ := s
  H₀ := H
  env := envOfC qual scope s.heap.objs.size f cd
  outer := outer
  stack := envOfC qual scope s.heap.objs.size f cd :: outer
  ex := []
  calm := true
  fn := fun _ => true
  pn := []
  xe := fun e s' => wpAny (model P w) (A.deeper (envOfC qual scope s.heap.objs.size f cd)) (leaving (envOfC qual scope s.heap.objs.size f cd) e) (fun _ s'' => CX outer H s E e s'') (fun e' s'' => CX outer H s E e' s'') s'

theorem cell_has {sc : Scope} {n : Nat} {x : Str} (h : sc.names.lookup x = some .cell) : ∃ c, (cellsFrom n sc.names []).lookup x = some c := by
  have q := PySem.W.cellsFrom_some sc.names n [] (.inl h)
  exact Option.isSome_iff_exists.mp q

theorem inv_start {CX : CXT} {P : Program} {w : World} {K : PySem.W.Frag} {mg : Str → Option Value} {base : Heap} {N ps : List Str} {qual : Str} {scope : Scope} {f : Addr} {cd : Value} {A : Around} {outer : List Env} {s s1 : Shared} {H : Hp} {E : XK} {us : List Value} {vs : List V}
    (S : FnScope N ps scope) (hd : A.handled = none) (e0 : Env0 P w K mg base A outer s H) (hl : vs.length = ps.length) (r : Vals vs us)
    (x : InCallC s s.heap.objs.size (bindL (envOfC qual scope s.heap.objs.size f cd).kindOf (ps.zip us) fun _ => none) (cellsFrom (s.heap.objs.size + 1) scope.names []) (bindC (envOfC qual scope s.heap.objs.size f cd).kindOf (ps.zip us) fun _ => none) s1) :
    Inv (cxOf CX P w K mg base N qual scope f cd A outer s H E) [] (start N vs) H s1 := by
  have hpl : ps.length ≤ N.length := by have := congrArg List.length S.pre; rw [List.length_take] at this; omega
  obtain ⟨h1, tk, rfl, hk⟩ := x.done
  have noA : ∀ b : Addr, b ∉ (cxOf CX P w K mg base N qual scope f cd A outer s H E).ex := fun b z => absurd (show b ∈ ([] : List Addr) from z) (by simp)
  refine ⟨⟨e0.mod, S.kind, rfl, rfl, Nat.le_refl _, fun y z c h1 h2 => ?_, fun y hy => ?_, fun y c _ h => ?_, fun _ => hd, Around.frames_deeper e0.frames, .inr ⟨rfl, rfl⟩, fun b z => absurd z (noA b), e0.bs, e0.bsz, fun b _ _ => noA b, fun b z => absurd z (noA b), e0.funs, e0.frf⟩,
    rfl, e0.bare, Un.kept hk, ⟨_, x.toInCall.ns, fun i y v h1 h2 h3 => ?_⟩, fun y c h => ⟨_, x.cell y c h⟩, e0.hok.fresh (Nat.le_refl _), fun y c h => ?_, fun p hp => absurd (show p ∈ ([] : List (Addr × Obj)) from hp) (by simp), e0.hok.kept hk, ?_⟩
  · exact name_of_addr x.apart (PySem.mem_of_lookup h1) (PySem.mem_of_lookup h2)
  · have hy : scope.names.lookup y = some .cell ∨ scope.names.lookup y = some .free := hy
    rcases hy with hy | hy
    · exact cell_has hy
    · exact absurd rfl (S.nofree _ (PySem.mem_of_lookup hy))
  · exact Nat.le_of_lt (x.above y c (PySem.mem_of_lookup h))
  · have hi : i < vs.length := by
      unfold start at h2
      by_cases hi : i < vs.length
      · exact hi
      · rw [List.getElem?_append_right (by simpa using hi)] at h2
        rw [List.getElem?_replicate] at h2
        split at h2 <;> cases h2
    have ha : vs[i]? = some v := by
      unfold start at h2
      rw [List.getElem?_append_left (by simpa using hi), List.getElem?_map] at h2
      cases e : vs[i]? with
      | none => rw [e] at h2; cases h2
      | some a => rw [e] at h2; cases h2; rfl
    obtain ⟨u, hu, rv⟩ := r.get ha
    have hp : ps[i]? = some y := by
      rw [← S.pre, List.getElem?_take_of_lt (by omega)]; exact h1
    have ndP : ps.Nodup := by rw [← S.pre]; exact S.nd.sublist (List.take_sublist _ _)
    refine ⟨u, rv, ?_⟩
    rcases S.par y (List.mem_of_getElem? hp) with k | k
    · exact .inl ⟨k, bindL_get ndP hp hu k⟩
    · obtain ⟨c, e⟩ := cell_has (n := s.heap.objs.size + 1) k
      refine .inr ⟨.inl k, c, e, ?_⟩
      have q := x.cell y c e
      rw [bindC_get ndP hp hu (by show scope.names.lookup y ≠ _; rw [k]; decide)] at q
      exact q
  · exact e0.hok.fresh (Nat.le_of_lt (x.above y c (PySem.mem_of_lookup h)))
  · unfold start
    show _ = N.length
    rw [List.length_append, List.length_map, List.length_replicate]
    omega

/-- THE RULE: a def (or a method) of the text, by its body. The body's reading t is chosen for each entry; it is run at the parameters' values -/
theorem fn_of {CX : CXT} {P : Program} {w : World} {K : PySem.W.Frag} {mg : Str → Option Value} {base : Heap} {k : Nat} {f : Addr} {name qual : Str} {params : Arguments} {body : List Stmt} {scope : Scope} {dV kV doc pm cdv ct oc : Value} {an od : Option Addr}
    {osl : Array (Option Value)} {N ps : List Str} {sp : Sp} (lk : K.lookup f = some ⟨oc, od, .func (PySem.W.fnOf name qual params body scope dV kV doc pm an cdv ct), osl⟩) (hcd : PySem.W.codeIn K cdv qual = true) (S : FnScope N ps scope)
    (len : ∀ vs H Q E, sp vs H Q E → vs.length = ps.length)
    (hbody : ∀ (A : Around) (outer : List Env) (s : Shared) (H : Hp) (vs : List V) (Q : VK) (E : XK), Room k (A.deeper (envOfC qual scope s.heap.objs.size f cdv)) → sp vs H Q E →
      ∃ t, PSs (cxOf CX P w K mg base N qual scope f cdv A outer s H E) body t ∧ t { nx := fun _ H' => Q .non H', rt := Q } (start N vs) H) :
    FnOk P w K mg base CX (k + 1) f (PySem.W.fnOf name qual params body scope dV kV doc pm an cdv ct) ps sp := by
  refine ⟨len, fun A outer s H args us vs Q E hr e0 hb r hsp => ?_⟩
  have hl := len _ _ _ _ hsp
  have KX : K.In s.heap := e0.mod.kin.keeps fun b o e => (e0.bs b o e).1
  have lim : s.heap.NoLimit := e0.mod.nolimit.keeps fun b o e => (e0.bs b o e).1
  have hkind : ∀ y ∈ ps.zip us, scope.names.lookup y.1 = some .local ∨ (scope.names.lookup y.1 = some .cell ∧ ((cellsFrom (s.heap.objs.size + 1) scope.names []).lookup y.1).isSome = true) := fun ⟨n, v⟩ hy => by
    rcases S.par n (List.of_mem_zip hy).1 with q | q
    · exact .inl q
    · exact .inr ⟨q, PySem.W.cellsFrom_some _ _ _ (.inl q)⟩
  refine codeAny_call_function hr.depth (KX _ _ lk) rfl S.co S.gen rfl (PySem.W.codeRec_of KX hcd) (hb _ _ _ _ ?_)
  refine wpAny_newFunctionEnv_cells S.kind hkind fun env he s1 x => ?_
  subst he
  refine ⟨lim.keeps x.toInCall.keep, codeAny_func ?_⟩
  obtain ⟨t, ht, hq⟩ := hbody A outer s H vs Q E (hr.deeper _) hsp
  have I : Inv (cxOf CX P w K mg base N qual scope f cdv A outer s H E) [] (start N vs) H s1 := inv_start S hr.hd e0 hl r x
  refine wpAny_mono (ht [] s1 (start N vs) H _ I hq) (fun fl s' hs => ?_) fun e s' hs => hs
  have fin : ∀ {σ' : St} {H' : Hp} {v : V} {u : Value}, Inv (cxOf CX P w K mg base N qual scope f cdv A outer s H E) [] σ' H' s' → RelV v u → Q v H' → CE outer P w H s Q u s' :=
    fun {σ' H' v u} J rv q => ⟨v, H', J.os, J.bare, J.base, J.hok, rv, q⟩
  cases fl with
  | ret u =>
    obtain ⟨v, σ', H', J, rv, q⟩ := hs
    exact fin J rv q
  | next =>
    obtain ⟨σ', H', J, q⟩ := hs
    exact fin (v := V.non) (u := Value.none) J rfl q
  | brk =>
    obtain ⟨_, _, _, q⟩ := hs
    exact False.elim q
  | cont =>
    obtain ⟨_, _, _, q⟩ := hs
    exact False.elim q
end L2

namespace L2
open PySem PySem.Spec PyProof.Rows
section
variable {X : Cx} {x : Str} {p pos : Pos} {e : Expr} {es : List Expr} {t : TA} {id T : String} {r : List V → Hp → VK → Prop}

def tCB (r : List V → Hp → VK → Prop) (t : TA) : TE := fun σ H Q => t σ H fun vs H1 => r vs H1 Q
/-- f(e, ..), f a built-in function -/
theorem pe_callB (hc : CallR X (.builtin id) r) (hg : Gl X x) (hm : X.mg x = none) (hv : bootBuiltins x = some (.builtin id)) (ha : PA X (e :: es) t) (hn : x ≠ "__name__" := by decide) (hdb : (x == ("__debug__" : Str)) = false := by decide)
    (he : starEach (e :: es) X.env = (false, eval e X.env) :: starEach es X.env := by rfl) (hpl : (backTo pos (starEach es X.env)).any (·.1) = false := by rfl) : PE X (.Call (.Name x p) (e :: es) [] pos) (tCB r t) := by
  intro pins s σ H Q I h
  refine wpAny_Call_Name_kw (ld_blt I hg hm hv ?_ hn hdb)
  exact PyProof.Rows.callWith_builtin1 (thn (ha pos pins s σ H _ I h) fun us s1 ⟨vs, H1, I1, r1, q1⟩ => hc pins s1 σ H1 vs us Q I1 r1 q1) he hpl
/-- T(e, ..), T a built-in type -/
theorem pe_callTy (hc : CallR X (.type T) r) (hg : Gl X x) (hm : X.mg x = none) (hv : bootBuiltins x = some (.type T)) (ha : PA X (e :: es) t) (hn : x ≠ "__name__" := by decide) (hdb : (x == ("__debug__" : Str)) = false := by decide)
    (he : starEach (e :: es) X.env = (false, eval e X.env) :: starEach es X.env := by rfl) (hpl : (backTo pos (starEach es X.env)).any (·.1) = false := by rfl) : PE X (.Call (.Name x p) (e :: es) [] pos) (tCB r t) := by
  intro pins s σ H Q I h
  refine wpAny_Call_Name_kw (ld_blt I hg hm hv ?_ hn hdb)
  exact PyProof.Rows.callWith_type1 (thn (ha pos pins s σ H _ I h) fun us s1 ⟨vs, H1, I1, r1, q1⟩ => hc pins s1 σ H1 vs us Q I1 r1 q1) he hpl
/-- T() -/
theorem pe_callTy0 (hc : CallR X (.type T) r) (hg : Gl X x) (hm : X.mg x = none) (hv : bootBuiltins x = some (.type T)) (hn : x ≠ "__name__" := by decide) (hdb : (x == ("__debug__" : Str)) = false := by decide) :
    PE X (.Call (.Name x p) [] [] pos) (tCB r tNil) := by
  intro pins s σ H Q I h
  refine wpAny_Call_Name_kw (ld_blt I hg hm hv ?_ hn hdb)
  exact PyProof.Rows.callWith_type0 (hc pins s σ H [] [] Q I .nil h)
end
end L2

namespace HT
open PySem PyProof.Rows

/-- t < u of tuples of ints -/
def lexLt : List Int → List Int → Bool
  | [], [] => false
  | [], _ :: _ => true
  | _ :: _, [] => false
  | x :: xs, y :: ys => if x = y then lexLt xs ys else decide (x < y)
theorem lexLt_cons (x y : Int) (xs ys : List Int) : lexLt (x :: xs) (y :: ys) = if x = y then lexLt xs ys else decide (x < y) := rfl
theorem lexLt_nil_nil : lexLt [] [] = false := rfl
theorem lexLt_nil_cons (y : Int) (ys : List Int) : lexLt [] (y :: ys) = true := rfl
theorem lexLt_cons_nil (x : Int) (xs : List Int) : lexLt (x :: xs) [] = false := rfl

theorem eqAt_int (A : Around) (s : Shared) (a : Int) (t : Tok) (c : Int) (u : Tok) : ∃ e, SeqAt.EqAt A s (.int a t) (.int c u) e ∧ (e = true ↔ a = c) :=
  ⟨(a == c), SeqAt.EqAt.int_int a t c u, by simp⟩
theorem rcLt_int (A : Around) (s : Shared) (a : Int) (t : Tok) (c : Int) (u : Tok) (prog : Program) (w : World) (E : Value → Shared → Prop) (Q : Value → Shared → Prop) (h : Q (.bool (decide (a < c))) s) :
    wpAny (model prog w) A (richCompare .Lt (.int a t) (.int c u)) Q E s :=
  (PyProof.Rows.lt_int h : wpAny (model prog w) A (compareOp .Lt (.int a t) (.int c u)) Q E s)

section
open PySem.SeqAt
open PySem.AutoSeq1 (wpAny_loadPart')
open PySem.MeetsSeq PySem.MeetsSeq2 PySem.MeetsSeq3

theorem tuple_lt_ints (l b : Addr) (items items2 : Array Value) (n n2 : Nat) (dd dd2 : Option Addr) (sl sl2 : Array (Option Value)) (ns ms : List Int) (hi : IntsAre items.toList ns) (hj : IntsAre items2.toList ms) :
    Meets (Builtin.«tuple.__lt__» ⟨[.ref l, .ref b], []⟩)
      (fun _ R s => s.heap.get? l = some { cls := .type "tuple", dict := dd, data := .seq items n, slots := sl } ∧ s.heap.get? b = some { cls := .type "tuple", dict := dd2, data := .seq items2 n2, slots := sl2 } ∧
        R (.ok (.ret (.bool (lexLt ns ms)))) s) :=
  .of_wp fun prog w A R s h => by
    obtain ⟨hp, g, d, tk, os⟩ := s; obtain ⟨hl, hb, h⟩ := h
    have f2 := AutoSeq1.sub_tuple_tuple
    have z1 : items.size = ns.length := by rw [← hi.length]; simp
    have z2 : items2.size = ms.length := by rw [← hj.length]; simp
    wp_walk using wpAny_loadPart' hl, wpAny_loadPart' hb, wpAny_forIn_list _ (fun rest b s' => b.1 = none ∧ s' = ⟨hp, g, d, tk, os⟩ ∧ ∃ (vs ws : List Value) (ns' ms' : List Int), rest = vs.zip ws ∧
      IntsAre vs ns' ∧ IntsAre ws ms' ∧ ns'.length + items2.size = ms'.length + items.size ∧ R (.ok (.ret (.bool (lexLt ns' ms')))) ⟨hp, g, d, tk, os⟩) _
    case turn =>
      rintro ⟨y, x⟩ rest b s' ⟨hb', rfl, vs, ws, ns', ms', hz, hvi, hwi, hlen, hR⟩
      cases hvi with
      | nil => rw [List.zip_nil_left] at hz; cases hz
      | cons a t hvi' =>
        cases hwi with
        | nil => rw [List.zip_nil_right] at hz; cases hz
        | cons c u hwi' =>
          rw [List.zip_cons_cons] at hz
          injection hz with hyx hrest
          injection hyx with hy hx
          subst hy hx
          rw [lexLt_cons] at hR
          simp only [List.length_cons] at hlen
          obtain ⟨e, he, hiff⟩ := eqAt_int A.in1 ⟨hp, g, d, tk, os⟩ a t c u
          refine wpAny_bind (he prog w _ _ ?_)
          cases e with
          | true =>
            rw [if_pos (hiff.mp rfl)] at hR
            wp_walk
            exact ⟨rfl, rfl, _, _, _, _, hrest, hvi', hwi', by omega, hR⟩
          | false =>
            rw [if_neg (fun q => absurd (hiff.mpr q) Bool.false_ne_true)] at hR
            have hri := rcLt_int A.in1 ⟨hp, g, d, tk, os⟩ a t c u prog w
            wp_walk using hri
            exact ⟨_, rfl, by simpa using hR⟩
    case fin =>
      rintro ⟨b1, b2⟩ s' ⟨hb', rfl, vs, ws, ns', ms', hz, hvi, hwi, hlen, hR⟩
      simp only at hb'
      subst hb'
      have hv : lexLt ns' ms' = decide (items.size < items2.size) := by
        cases hvi with
        | nil =>
          cases hwi with
          | nil =>
            simp only [List.length_nil] at hlen
            rw [lexLt_nil_nil]
            exact (decide_eq_false (by omega)).symm
          | cons c u hw =>
            simp only [List.length_nil, List.length_cons] at hlen
            rw [lexLt_nil_cons]
            exact (decide_eq_true (by omega)).symm
        | cons a t hv =>
          cases hwi with
          | nil =>
            simp only [List.length_nil, List.length_cons] at hlen
            rw [lexLt_cons_nil]
            exact (decide_eq_false (by omega)).symm
          | cons c u hw =>
            rw [List.zip_cons_cons] at hz
            cases hz
      rw [hv] at hR
      wp_walk
      exact ⟨_, rfl, by simpa [Builtin.Tuple.tupleCompareSizes] using hR⟩
    case h =>
      exact ⟨rfl, rfl, items.toList, items2.toList, ns, ms, rfl, hi, hj, by omega, h⟩
end

section
variable {prog : Program} {w : World} {A : Around} {E : Value → Shared → Prop} {s : Shared}

theorem lt_tupInts {l b : Addr} {items items2 : Array Value} {ns ms : List Int} {Q : Value → Shared → Prop} (hl : IsTup s.heap l items) (hb : IsTup s.heap b items2) (hi : IntsAre items.toList ns) (hj : IntsAre items2.toList ms)
    (hu : A.units < cLine) (h : Q (.bool (lexLt ns ms)) s) : wpAny (model prog w) A (compareOp .Lt (.ref l) (.ref b)) Q E s := by
  obtain ⟨⟨cls, dd, data, sl⟩, ho, hc, n, hd⟩ := id hl
  obtain ⟨⟨cls2, dd2, data2, sl2⟩, ho2, hc2, n2, hd2⟩ := id hb
  simp only at hc hd hc2 hd2
  subst hc hd hc2 hd2
  exact richCompare_meets_room (op := .Lt) ⟨_, ho, rfl⟩ ⟨_, ho2, rfl⟩ PySem.F.slot_tuple_lt PySem.F.entry_tuple_lt (PySem.F.args_tuple_lt_2 _ _) (tuple_lt_ints l b items items2 n n2 dd dd2 sl sl2 ns ms hi hj)
    ⟨ho, ho2, show Value.bool (lexLt ns ms) ≠ Value.notImplemented ∧ Q (.bool (lexLt ns ms)) s from ⟨(fun x => nomatch x), h⟩⟩ hu

/-- t + u, t not empty -/
theorem cat_tup {t b : Addr} {vs ws : List Value} {Q : Value → Shared → Prop} (ht : IsTup s.heap t vs.toArray) (hb : IsTup s.heap b ws.toArray) (hv : vs ≠ [])
    (h1 : ws = [] → Q (.ref t) s) (h2 : ws ≠ [] → Q (.ref s.heap.objs.size) { s with heap := s.heap.push { cls := .type "tuple", data := .seq (vs ++ ws).toArray } })
    (hsz : vs.length + ws.length ≤ sizeLine) : wpAny (model prog w) A (binaryOp .Add (.ref t) (.ref b)) Q E s := by
  obtain ⟨⟨cls, dd, data, sl⟩, ho, hc, n, hd⟩ := id ht
  obtain ⟨⟨cls2, dd2, data2, sl2⟩, ho2, hc2, n2, hd2⟩ := id hb
  simp only at hc hd hc2 hd2
  subst hc hd hc2 hd2
  have e : vs.toArray ++ ws.toArray = (vs ++ ws).toArray := by simp
  by_cases hw : ws = []
  · exact concat_meets ⟨_, ho, rfl⟩ ⟨_, ho2, rfl⟩ noFill_tuple_add seq_tuple_add PySem.F.slot_tuple_add PySem.F.entry_tuple_add (PySem.F.args_tuple_add_2 _ _)
      (tuple_addW1 t b vs.toArray ws.toArray n n2 dd dd2 sl sl2 (by simpa using hv) (by simp [hw])) ⟨ho, ho2, h1 hw⟩
  · refine concat_meets ⟨_, ho, rfl⟩ ⟨_, ho2, rfl⟩ noFill_tuple_add seq_tuple_add PySem.F.slot_tuple_add PySem.F.entry_tuple_add (PySem.F.args_tuple_add_2 _ _)
      (tuple_addW2 t b vs.toArray ws.toArray n n2 dd dd2 sl sl2 (by simpa using hv) (by simpa using hw) (by rw [List.size_toArray, List.size_toArray]; exact hsz)) ⟨ho, ho2, ?_⟩
    rw [e]
    exact h2 hw

/-! ### t[a:b], not the whole -/
/-- a slice's bound as a place among n (d where it is left out) -/
def sIx (n d : Nat) : Option Int → Nat
  | none => d
  | some v => if v < 0 then (v + (n : Int)).toNat else min v.toNat n
theorem sIx_none (n d : Nat) : sIx n d none = d := rfl
theorem sIx_nat (n d k : Nat) : sIx n d (some (k : Int)) = min k n := by
  show (if (k : Int) < 0 then ((k : Int) + (n : Int)).toNat else min (k : Int).toNat n) = min k n
  rw [if_neg (by omega), Int.toNat_natCast]
theorem sIx_le (n d : Nat) (hd : d ≤ n) (o : Option Int) : sIx n d o ≤ n := by
  cases o with
  | none => exact hd
  | some v =>
    show (if v < 0 then (v + (n : Int)).toNat else min v.toNat n) ≤ n
    by_cases hv : v < 0
    · rw [if_pos hv]; omega
    · rw [if_neg hv]; exact Nat.min_le_right _ _
theorem clip_eq (v : Int) (n d : Nat) : (if v < 0 then max (v + (n : Int)) 0 else min v (n : Int)) = ((sIx n d (some v) : Nat) : Int) := by
  show (if v < 0 then max (v + (n : Int)) 0 else min v (n : Int)) = (((if v < 0 then (v + (n : Int)).toNat else min v.toNat n) : Nat) : Int)
  by_cases hv : v < 0
  · simp only [if_pos hv]; omega
  · simp only [if_neg hv]; omega
theorem adjust_gen (lo hi : Option Int) (n : Nat) : Builtin.Slice.sliceAdjust lo hi 1 (n : Int) = (((sIx n 0 lo : Nat) : Int), ((sIx n n hi : Nat) : Int)) := by
  have h1 : ¬ ((1 : Int) < 0) := by omega
  unfold Builtin.Slice.sliceAdjust
  simp only [h1, if_false]
  refine Prod.ext ?_ ?_
  · cases lo with
    | none => rfl
    | some v => exact clip_eq v n 0
  · cases hi with
    | none => rfl
    | some v => exact clip_eq v n n
theorem places_gen (i j : Nat) : Builtin.Slice.slicePlaces (i : Int) (j : Int) 1 = j - i := by
  unfold Builtin.Slice.slicePlaces
  have h1 : (1 : Int) > 0 := by omega
  simp only [h1, if_true, Int.ediv_one]
  split <;> omega
theorem slicePart_ {v : Value} {o : Option Int} {Q : Option Int → Shared → Prop} (p : IsPart v o) (h : Q o s) : wpAny (model prog w) A (Builtin.Slice.slicePartIndex v) Q E s := by
  cases p with
  | none => exact slicePart_none h
  | int i t => exact slicePart_int h
theorem sliceApplied_gen {sl : Addr} {vl vu : Value} {lo hi : Option Int} {n : Nat} {Q : Int × Int × Nat → Shared → Prop} (hs : s.heap.IsSliceOf sl vl vu .none) (pl : IsPart vl lo) (pu : IsPart vu hi)
    (h : Q (((sIx n 0 lo : Nat) : Int), 1, sIx n n hi - sIx n 0 lo) s) : wpAny (model prog w) A (Builtin.Slice.sliceApplied (.ref sl) (pure (n : Int))) Q E s := by
  obtain ⟨os, hos, hcs, hds⟩ := id hs
  unfold Builtin.Slice.sliceApplied Builtin.Slice.sliceFields
  refine wpAny_bind (wpAny_bind (wpAny_field hos hds (x := vl) rfl (wpAny_bind (wpAny_field hos hds (x := vu) rfl (wpAny_bind (wpAny_field hos hds (x := .none) rfl (wpAny_pure ?_)))))))
  refine wpAny_bind (slicePart_none ?_)
  show wpAny _ _ (if ((1 : Int) == 0) = true then _ else _) _ _ s
  rw [if_neg (by decide)]
  refine wpAny_bind (slicePart_ pl (wpAny_bind (slicePart_ pu (wpAny_bind (wpAny_pure ?_)))))
  show wpAny _ _ (match Builtin.Slice.sliceAdjust lo hi 1 (n : Int) with | (lo, hi) => pure (lo, (1 : Int), Builtin.Slice.slicePlaces lo hi 1)) _ _ s
  rw [adjust_gen lo hi n]
  show wpAny _ _ (pure (((sIx n 0 lo : Nat) : Int), (1 : Int), Builtin.Slice.slicePlaces ((sIx n 0 lo : Nat) : Int) ((sIx n n hi : Nat) : Int) 1)) _ _ s
  rw [places_gen]
  exact wpAny_pure h
theorem pick_gen (xs : Array Value) (i k : Nat) : ((List.range k).filterMap fun (m : Nat) => xs[((i : Int) + (m : Int) * 1).toNat]?).toArray = ((xs.toList.drop i).take k).toArray := by
  have e : (fun (m : Nat) => xs[((i : Int) + (m : Int) * 1).toNat]?) = fun m => xs[i + m]? := by
    funext m
    have : ((i : Int) + (m : Int) * 1).toNat = i + m := by omega
    rw [this]
  rw [e]
  have := pick_run xs i k
  rw [List.filterMap_map] at this
  have e2 : ((fun x => xs[x]?) ∘ fun x => i + x) = fun m => xs[i + m]? := rfl
  rw [e2] at this
  rw [this]

theorem getItem_tuple_cut {t sl : Addr} {items : Array Value} {vl vu : Value} {lo hi : Option Int} {Q : Value → Shared → Prop} (ht : IsTup s.heap t items) (hs : s.heap.IsSliceOf sl vl vu .none) (pl : IsPart vl lo) (pu : IsPart vu hi)
    (hw : ¬ (sIx items.size 0 lo = 0 ∧ sIx items.size items.size hi = items.size))
    (h : Q (.ref s.heap.objs.size) { s with heap := s.heap.push { cls := .type "tuple", data := .seq ((items.toList.drop (sIx items.size 0 lo)).take (sIx items.size items.size hi - sIx items.size 0 lo)).toArray } })
    (hsz : items.size ≤ sizeLine) : wpAny (model prog w) A (getItem (.ref t) (.ref sl)) Q E s := by
  have htake : sizeOk (.seq ((items.toList.drop (sIx items.size 0 lo)).take (sIx items.size items.size hi - sIx items.size 0 lo)).toArray) := by
    show ((items.toList.drop (sIx items.size 0 lo)).take (sIx items.size items.size hi - sIx items.size 0 lo)).toArray.size ≤ sizeLine
    rw [List.size_toArray, List.length_take, List.length_drop, Array.length_toList]
    omega
  have hj : sIx items.size items.size hi ≤ items.size := sIx_le _ _ (Nat.le_refl _) hi
  obtain ⟨os, hos, hcs, hds⟩ := id hs
  have hTs : s.TypeIs (.ref sl) "slice" := ⟨os, hos, hcs⟩
  unfold getItem
  try with_reducible refine wpAny_holding ?_
  first | refine wpAny_bind (wpAny_pure ?_) | skip
  refine wpAny_bind (wpAny_sequenceKey ht.typeIs (by decide) ?_)
  refine wpAny_bind (wpAny_callSpecial?_slot (name := Str.ofString "__getitem__") ht.typeIs PyProof.Rows.slot_tuple_getitem
    (wpAny_call_entry PyProof.Rows.slot_tuple_getitem ht.typeIs entry_tuple_getitem ?_ (args_tuple_getitem _ _)))
  show wpAny _ _ (Builtin.Tuple.tupleItemsOf (.ref t) >>= _) _ _ s
  refine wpAny_bind (tupleItemsOf_ ht ?_)
  refine wpAny_bind (wpAny_typeOf hTs ?_)
  rw [if_pos (by decide)]
  refine wpAny_bind (sliceApplied_gen hs pl pu ?_)
  have hno : ¬ ((((sIx items.size 0 lo : Nat) : Int) == 0 && (1 : Int) == 1 && (sIx items.size items.size hi - sIx items.size 0 lo) == items.size) = true) := by
    intro q
    rw [Bool.and_eq_true, Bool.and_eq_true] at q
    have q1 : ((sIx items.size 0 lo : Nat) : Int) = 0 := eq_of_beq q.1.1
    have q2 : sIx items.size items.size hi - sIx items.size 0 lo = items.size := eq_of_beq q.2
    exact hw ⟨by omega, by omega⟩
  show wpAny _ _ (if (((sIx items.size 0 lo : Nat) : Int) == 0 && (1 : Int) == 1 && (sIx items.size items.size hi - sIx items.size 0 lo) == items.size) = true then _ else _) _ _ s
  rw [if_neg hno, pick_gen]
  first
    | exact wpAny_bind (m := Builtin.Tuple.tupleExact _) (wpAny_newObj_type (wpAny_pure ⟨_, rfl, wpAny_pure h⟩) htake)
    | exact wpAny_bind (m := Builtin.Tuple.tupleExact _) (wpAny_newObj_type (wpAny_bind (wpAny_pure (wpAny_pure ⟨_, rfl, wpAny_pure h⟩))) htake)
    | exact wpAny_bind (wpAny_bind (m := Builtin.Tuple.tupleExact _) (wpAny_newObj_type (wpAny_pure (wpAny_pure ⟨_, rfl, wpAny_pure h⟩)) htake))
    | exact wpAny_bind (wpAny_bind (m := Builtin.Tuple.tupleExact _) (wpAny_newObj_type (wpAny_pure ⟨_, rfl, wpAny_pure h⟩) htake))
end
end HT

namespace L2
open PySem PySem.Spec PyProof.Rows

/-! ### the parts of a slice -/
abbrev TO := St → Hp → (Option Int → Hp → Prop) → Prop
/-- a slice's part (left out, or an int) -/
def PO (X : Cx) (e : Option Expr) (t : TO) : Prop :=
  ∀ (pins : List (Addr × Obj)) (s : Shared) (σ : St) (H : Hp) (Q : Option Int → Hp → Prop), Inv X pins σ H s → t σ H Q →
    wpAny (model X.prog X.w) X.A (evalPart e X.env) (fun u s' => ∃ o H', Inv X pins σ H' s' ∧ IsPart u o ∧ Q o H') X.xe s
def tNoPart : TO := fun _ H Q => Q none H
def tPart (t : TE) : TO := fun σ H Q => t σ H fun x H1 => ∃ i, x = .int i ∧ Q (some i) H1

theorem intsAre_of {ns : List Int} : ∀ {us : List Value}, Vals (ns.map V.int) us → IntsAre us ns := by
  induction ns with
  | nil => intro us r; rw [List.map_nil] at r; cases r; exact .nil
  | cons n ns ih =>
    intro us r
    rw [List.map_cons] at r
    cases r with
    | cons r1 r2 =>
      obtain ⟨t, e⟩ := r1
      subst e
      exact .cons n t (ih r2)

section
variable {X : Cx} {e : Expr} {te : TE} {lo hi : Option Expr} {tl th : TO} {pos p2 : Pos}

theorem po_none : PO X none tNoPart := by
  intro pins s σ H Q I h
  rw [evalPart_none]
  exact wpAny_pure ⟨none, H, I, .none, h⟩
theorem po_some (h : PE X e te) : PO X (some e) (tPart te) := by
  intro pins s σ H Q I hw
  rw [evalPart_some]
  refine thn (h pins s σ H _ I hw) fun u s1 ⟨x, H1, I1, r1, q1⟩ => ?_
  obtain ⟨i, rfl, q⟩ := q1
  obtain ⟨t, rfl⟩ := r1
  exact ⟨some i, H1, I1, .int i t, q⟩

/-- what a slice of a value is, by values: the slice object stands at sl -/
def SlR (X : Cx) (r : V → Option Int → Option Int → Hp → VK → Prop) : Prop :=
  ∀ (pins : List (Addr × Obj)) (s : Shared) (σ : St) (H : Hp) (x : V) (v vl vu : Value) (lo hi : Option Int) (sl : Addr) (Q : VK), Inv X pins σ H s → RelV x v → s.heap.IsSliceOf sl vl vu .none → IsPart vl lo → IsPart vu hi → r x lo hi H Q →
    ∃ T id, typeLookup (.type T) "__getitem__" = pure (some (.builtin id)) ∧ s.TypeIs v T ∧ wpAny (model X.prog X.w) X.A (getItem v (.ref sl)) (EP X pins σ Q) X.xe s
theorem SlR.or {r r' : V → Option Int → Option Int → Hp → VK → Prop} (h : SlR X r) (h' : SlR X r') : SlR X (fun x lo hi H Q => r x lo hi H Q ∨ r' x lo hi H Q) := by
  intro pins s σ H x v vl vu lo hi sl Q I rx hs pl pu q
  rcases q with q | q
  · exact h pins s σ H x v vl vu lo hi sl Q I rx hs pl pu q
  · exact h' pins s σ H x v vl vu lo hi sl Q I rx hs pl pu q
def tSl (r : V → Option Int → Option Int → Hp → VK → Prop) (te : TE) (tl th : TO) : TE := fun σ H Q => te σ H fun x H1 => tl σ H1 fun l H2 => th σ H2 fun u H3 => r x l u H3 Q
/-- a[lo:hi], any a -/
theorem pe_slice {r : V → Option Int → Option Int → Hp → VK → Prop} (hr : SlR X r) (he : PE X e te) (hl : PO X lo tl) (hu : PO X hi th) : PE X (.Subscript e (.Slice lo hi none p2) pos) (tSl r te tl th) := by
  intro pins s σ H Q I h
  refine Subscript_ (thn (he pins s σ H _ I h) fun v s1 ⟨x, H1, I1, r1, q1⟩ => ?_)
  refine wpAny_Slice (thn (hl pins s1 σ H1 _ I1 q1) fun vl s2 ⟨l, H2, I2, pl, q2⟩ => thn (hu pins s2 σ H2 _ I2 q2) fun vu s3 ⟨u, H3, I3, pu, q3⟩ => ?_)
  rw [evalPart_none]
  refine wpAny_pure ?_
  have I4 : Inv X pins σ H3 { s3 with heap := s3.heap.push { cls := .type "slice", data := .fields #[vl, vu, .none] } } := I3.kept (t' := s3.toks) fun b ob q => Heap.get?_push_of_some _ q
  obtain ⟨T, id, hT, ht, hg⟩ := hr pins { s3 with heap := s3.heap.push { cls := .type "slice", data := .fields #[vl, vu, .none] } } σ H3 x v vl vu l u s3.heap.objs.size Q I4 r1 (Heap.IsSliceOf.new ..) pl pu q3
  show wpAny (model X.prog X.w) X.A (subscriptTail e (.Slice lo hi none p2) v (.ref s3.heap.objs.size)) (EP X pins σ Q) X.xe { s3 with heap := s3.heap.push { cls := .type "slice", data := .fields #[vl, vu, .none] } }
  exact tail_any (ops := [.ref s3.heap.objs.size, v]) ht hT hg (by with_unfolding_all rfl)

/-- the items of xs[lo:hi] -/
def cutV (xs : List V) (lo hi : Option Int) : List V := (xs.drop (HT.sIx xs.length 0 lo)).take (HT.sIx xs.length xs.length hi - HT.sIx xs.length 0 lo)
theorem cutV_length (xs : List V) (lo hi : Option Int) : (cutV xs lo hi).length ≤ xs.length := by
  unfold cutV
  rw [List.length_take, List.length_drop]
  omega
/-- t[lo:hi], not the whole of it (the whole would be t itself) -/
def rSlT (K : PySem.W.Frag) : V → Option Int → Option Int → Hp → VK → Prop := fun x lo hi H Q => ∃ a xs, x = .ref a ∧ SqT K H a xs ∧
  ¬ (HT.sIx xs.length 0 lo = 0 ∧ HT.sIx xs.length xs.length hi = xs.length) ∧ ∀ p, H p = none → Q (.ref p) (upd H p (.tup (cutV xs lo hi)))
theorem sl_tup : SlR X (rSlT X.K) := by
  intro pins s σ H x v vl vu lo hi sl Q I rx hs pl pu h
  obtain ⟨a, xs, rfl, hx, hw, q⟩ := h
  cases rx
  obtain ⟨its, r, ht, hz⟩ := I.tuple hx
  have hlen : its.toArray.size = xs.length := by rw [List.size_toArray]; exact r.length.symm
  refine ⟨"tuple", _, PyProof.Rows.slot_tuple_getitem.lookup, ht.typeIs, ?_⟩
  refine HT.getItem_tuple_cut ht hs pl pu (by rw [hlen]; exact hw) ?_ (by rw [hlen]; exact hz)
  rw [hlen]
  refine ⟨.ref s.heap.objs.size, _, I.laid (t' := s.toks) (o := .tup (cutV xs lo hi)) (fun b ob q => Heap.get?_push_of_some _ q) (Nat.le_refl _) ?_, rfl, q _ (I.hok.fresh (Nat.le_refl _))⟩
  exact ⟨Nat.le_trans (cutV_length xs lo hi) hz, _, (r.drop (HT.sIx xs.length 0 lo)).take (HT.sIx xs.length xs.length hi - HT.sIx xs.length 0 lo), IsTup.new _ _⟩

/-! ### t < u, t + u -/
def rLtT (K : PySem.W.Frag) : R2 := fun x y H Q => ∃ a b ns ms, x = .ref a ∧ y = .ref b ∧ SqT K H a (ns.map V.int) ∧ SqT K H b (ms.map V.int) ∧ Q (.bl (HT.lexLt ns ms)) H
theorem op_ltT (hu : X.A.units < cLine) : OpR X (compareOp .Lt) (rLtT X.K) := by
  intro pins s σ H x y v u Q I rx ry h
  obtain ⟨a, b, ns, ms, rfl, rfl, ha, hb, q⟩ := h
  cases rx
  cases ry
  obtain ⟨its, r1, p1, _⟩ := I.tuple ha
  obtain ⟨its2, r2, p2, _⟩ := I.tuple hb
  have i1 : IntsAre its.toArray.toList ns := intsAre_of r1
  have i2 : IntsAre its2.toArray.toList ms := intsAre_of r2
  exact HT.lt_tupInts p1 p2 i1 i2 hu ⟨.bl (HT.lexLt ns ms), H, I, rfl, q⟩
/-- t + u, t not empty: u empty gives t itself -/
def rCatT (K : PySem.W.Frag) : R2 := fun x y H Q => ∃ a b xs ys, x = .ref a ∧ y = .ref b ∧ SqT K H a xs ∧ SqT K H b ys ∧ xs ≠ [] ∧ xs.length + ys.length ≤ sizeLine ∧
  (ys = [] → Q (.ref a) H) ∧ (ys ≠ [] → ∀ p, H p = none → Q (.ref p) (upd H p (.tup (xs ++ ys))))
theorem Vals.nil_iff {xs : List V} {us : List Value} (r : Vals xs us) : us = [] ↔ xs = [] := by
  cases r with
  | nil => simp
  | cons _ _ => simp
theorem op_catT : OpR X (binaryOp .Add) (rCatT X.K) := by
  intro pins s σ H x y v u Q I rx ry h
  obtain ⟨a, b, xs, ys, rfl, rfl, ha, hb, hx, hz, q1, q2⟩ := h
  cases rx
  cases ry
  obtain ⟨its, r1, p1, _⟩ := I.tuple ha
  obtain ⟨its2, r2, p2, _⟩ := I.tuple hb
  refine HT.cat_tup p1 p2 (fun z => hx (r1.nil_iff.mp z)) (fun z => ⟨.ref a, H, I, rfl, q1 (r2.nil_iff.mp z)⟩) (fun z => ?_) (by rw [← r1.length, ← r2.length]; exact hz)
  refine ⟨.ref s.heap.objs.size, _, I.laid (t' := s.toks) (o := .tup (xs ++ ys)) (fun b ob q => Heap.get?_push_of_some _ q) (Nat.le_refl _) ?_, rfl, q2 (fun w => z (r2.nil_iff.mpr w)) _ (I.hok.fresh (Nat.le_refl _))⟩
  exact ⟨by rw [List.length_append]; exact hz, _, r1.append r2, IsTup.new _ _⟩
/-- tuple(t) -/
theorem call_tupleT : CallR X (.type "tuple") (fun xs H Q => ∃ a ys, xs = [.ref a] ∧ SqT X.K H a ys ∧ Q (.ref a) H) := by
  intro pins s σ H xs us Q I r h
  obtain ⟨a, ys, rfl, ha, q⟩ := h
  obtain ⟨u, rfl, ru⟩ := vals1 r
  cases ru
  obtain ⟨its, _, p1, _⟩ := I.tuple ha
  exact call_tuple_same (items := its.toArray) p1 ⟨.ref a, H, I, rfl, q⟩
end
end L2

namespace L2
open PySem PySem.Spec PyProof.Rows

/-! ### places -/
/-- the place that an index of any sign means -/
def ixN (n : Nat) (i : Int) : Option Nat := if 0 ≤ i then (if i < n then some i.toNat else none) else if -(n : Int) ≤ i then some (i + n).toNat else none
def atI {α : Type} (xs : List α) (i : Int) : Option α := (ixN xs.length i).bind fun j => xs[j]?
theorem ixN_seq {n : Nat} {i : Int} {j : Nat} (h : ixN n i = some j) : seqIndex? i n = some j ∧ j < n ∧ -(n : Int) ≤ i ∧ i < n := by
  unfold ixN at h
  by_cases h0 : 0 ≤ i
  · rw [if_pos h0] at h
    by_cases h1 : i < n
    · rw [if_pos h1] at h
      have e : i.toNat = j := Option.some.inj h
      exact ⟨by rw [seqIndex_of h0 h1, e], by omega, by omega, h1⟩
    · rw [if_neg h1] at h; cases h
  · rw [if_neg h0] at h
    by_cases h1 : -(n : Int) ≤ i
    · rw [if_pos h1] at h
      have e : (i + n).toNat = j := Option.some.inj h
      exact ⟨by rw [seqIndex_neg (by omega) h1, e], by omega, h1, by omega⟩
    · rw [if_neg h1] at h; cases h
theorem atI_get {α : Type} {xs : List α} {i : Int} {v : α} (h : atI xs i = some v) : ∃ j, seqIndex? i xs.length = some j ∧ xs[j]? = some v ∧ j < xs.length ∧ -(xs.length : Int) ≤ i ∧ i < xs.length := by
  unfold atI at h
  cases e : ixN xs.length i with
  | none => rw [e] at h; cases h
  | some j =>
    rw [e] at h
    obtain ⟨h1, h2, h3, h4⟩ := ixN_seq e
    exact ⟨j, h1, h, h2, h3, h4⟩
theorem atI_nat {α : Type} {xs : List α} {j : Nat} {v : α} (h : xs[j]? = some v) : atI xs (j : Int) = some v := by
  have hj : j < xs.length := (List.getElem?_eq_some_iff.mp h).1
  have e : ixN xs.length (j : Int) = some j := by
    unfold ixN
    rw [if_pos (by omega), if_pos (by omega)]; simp
  unfold atI; rw [e]; exact h
theorem atI_last {α : Type} (xs : List α) (v : α) : atI (xs ++ [v]) (-1) = some v := by
  have hl : (xs ++ [v]).length = xs.length + 1 := by simp
  have e : ixN (xs ++ [v]).length (-1) = some xs.length := by
    unfold ixN
    rw [hl, if_neg (by decide), if_pos (by omega)]
    congr 1
    omega
  unfold atI
  rw [e]
  show (xs ++ [v])[xs.length]? = some v
  simp

/-! ### what may be subscripted -/
/-- what stands as an index of a plain subscript -/
def PlainIx (b : Expr) : Prop := ∀ o i, subscripted b false o i = operate [o, i] (getItem o i)
/-- a subscript by values -/
def IxR (X : Cx) (r : R2) : Prop :=
  ∀ (value slice : Expr) (pins : List (Addr × Obj)) (s : Shared) (σ : St) (H : Hp) (x y : V) (v u : Value) (Q : VK), Inv X pins σ H s → RelV x v → RelV y u → r x y H Q →
    subscripted slice false v u = operate [v, u] (getItem v u) → wpAny (model X.prog X.w) X.A (subscriptTail value slice v u) (EP X pins σ Q) X.xe s
/-- a call of a builtin's method by values: the receiver, the arguments -/
def MtR (X : Cx) (id : String) (r : V → List V → Hp → VK → Prop) : Prop :=
  ∀ (pins : List (Addr × Obj)) (s : Shared) (σ : St) (H : Hp) (x : V) (xs : List V) (v : Value) (us : List Value) (Q : VK), Inv X pins σ H s → RelV x v → Vals xs us → r x xs H Q →
    wpAny (model X.prog X.w) X.A (call (.builtin id) (v :: us)) (EP X pins σ Q) X.xe s
section
variable {X : Cx} {a b : Expr} {ta tb : TE} {pos : Pos}
theorem IxR.or {r r' : R2} (h : IxR X r) (h' : IxR X r') : IxR X (fun x y H Q => r x y H Q ∨ r' x y H Q) := by
  intro value slice pins s σ H x y v u Q I rx ry q hs
  rcases q with q | q
  · exact h value slice pins s σ H x y v u Q I rx ry q hs
  · exact h' value slice pins s σ H x y v u Q I rx ry q hs
theorem MtR.or {id : String} {r r' : V → List V → Hp → VK → Prop} (h : MtR X id r) (h' : MtR X id r') : MtR X id (fun x xs H Q => r x xs H Q ∨ r' x xs H Q) := by
  intro pins s σ H x xs v us Q I rx rs q
  rcases q with q | q
  · exact h pins s σ H x xs v us Q I rx rs q
  · exact h' pins s σ H x xs v us Q I rx rs q
/-- a[b] -/
theorem pe_ix {r : R2} (hr : IxR X r) (ha : PE X a ta) (hb : PE X b tb) (hs : PlainIx b) : PE X (.Subscript a b pos) (tOp r ta tb) := by
  intro pins s σ H Q I h
  exact Subscript_ (binT ha hb I h fun v u s2 x y H2 I2 rx ry q => hr a b pins s2 σ H2 x y v u Q I2 rx ry q (hs _ _))

def rIxL (K : PySem.W.Frag) : R2 := fun x y H Q => ∃ p xs i v, x = .ref p ∧ y = .int i ∧ SqL K H p xs ∧ atI xs i = some v ∧ Q v H
def rIxT (K : PySem.W.Frag) : R2 := fun x y H Q => ∃ p xs i v, x = .ref p ∧ y = .int i ∧ SqT K H p xs ∧ atI xs i = some v ∧ Q v H
def rIxS : R2 := fun x y H Q => ∃ z i c, x = .str z ∧ y = .int i ∧ z.length ≤ sizeLine ∧ atI z.cps.toList i = some c ∧ Q (.str ⟨#[c]⟩) H
theorem ix_list : IxR X (rIxL X.K) := by
  intro value slice pins s σ H x y v u Q I rx ry h hs
  obtain ⟨p, xs, i, z, rfl, rfl, hq, he, q⟩ := h
  cases rx
  obtain ⟨t, rfl⟩ := ry
  obtain ⟨its, r, pl, hz⟩ := I.list hq
  obtain ⟨j, h1, h2, h3, h4, h5⟩ := atI_get he
  obtain ⟨w, ew, rw'⟩ := r.get h2
  have hl := r.length
  have hn := line63
  have fin : EP X pins σ Q w s := ⟨z, H, I, rw', q⟩
  by_cases h0 : 0 ≤ i
  · have hj : i.toNat = j := by
      rw [seqIndex_of h0 h5] at h1
      exact Option.some.inj h1
    exact item_listR pl.isList h0 (by omega) (by rw [hj]; simpa using ew) fin hs
  · have hj : (i + (its.toArray.size : Int)).toNat = j := by
      rw [seqIndex_neg (by omega) h4] at h1
      rw [List.size_toArray, ← hl]
      exact Option.some.inj h1
    exact subscriptTail_builtinR (x := w) pl.isList.typeIs slot_list_getitem.lookup
      (wpAny_getItem_list_neg (Q := fun r s' => r = w ∧ EP X pins σ Q r s') pl.isList (by omega) (by rw [List.size_toArray] <;> omega) (by omega) (by rw [hj]; simpa using ew) ⟨rfl, fin⟩) hs
theorem ix_tup : IxR X (rIxT X.K) := by
  intro value slice pins s σ H x y v u Q I rx ry h hs
  obtain ⟨p, xs, i, z, rfl, rfl, hq, he, q⟩ := h
  cases rx
  obtain ⟨t, rfl⟩ := ry
  obtain ⟨its, r, pl, hz⟩ := I.tuple hq
  obtain ⟨j, h1, h2, h3, h4, h5⟩ := atI_get he
  obtain ⟨w, ew, rw'⟩ := r.get h2
  have hl := r.length
  have hn := line63
  have fin : EP X pins σ Q w s := ⟨z, H, I, rw', q⟩
  exact subscriptTail_builtinR (x := w) pl.typeIs slot_tuple_getitem.lookup
    (getItem_tuple (j := j) (Q := fun r s' => r = w ∧ EP X pins σ Q r s') pl (by omega) (by omega) (by rw [List.size_toArray, ← hl]; exact h1) (by simpa using ew) ⟨rfl, fin⟩) hs
theorem ix_str : IxR X rIxS := by
  intro value slice pins s σ H x y v u Q I rx ry h hs
  obtain ⟨z, i, c, rfl, rfl, hz, he, q⟩ := h
  obtain ⟨t, rfl⟩ := rx
  obtain ⟨t', rfl⟩ := ry
  obtain ⟨j, h1, h2, h3, h4, h5⟩ := atI_get he
  have hl : z.cps.toList.length = z.length := by simp [Str.length]
  rw [hl] at h1 h4 h5
  have hn := line63
  exact tail_any (typeIs_str s z t) slot_str_getitem.lookup (getItem_str (c := c) (by
    have e1 : decide (i < -(2 ^ 63 : Int)) = false := decide_eq_false (by omega)
    have e2 : decide (i ≥ 2 ^ 63) = false := decide_eq_false (by omega)
    rw [e1, e2, Bool.or_false]) (by rw [h1]; simpa using h2) ⟨.str ⟨#[c]⟩, H, I.tok _, ⟨_, rfl⟩, q⟩) hs
/-- list, tuple or str -/
def rIx (K : PySem.W.Frag) : R2 := fun x y H Q => rIxL K x y H Q ∨ rIxT K x y H Q ∨ rIxS x y H Q
theorem ix_seq : IxR X (rIx X.K) := ix_list.or (ix_tup.or ix_str)

/-! ### xs[i] = v, any sign -/
/-- the list's object behind a store -/
theorem mapSeq_set (its : List Value) (n j : Nat) (u : Value) : Obj.mapSeq (·.setIfInBounds j u) { cls := .type "list", data := .seq its.toArray n } = { cls := .type "list", data := .seq (its.set j u).toArray n } := by
  simp [Obj.mapSeq]
theorem Inv.lst {pins : List (Addr × Obj)} {σ : St} {H : Hp} {s : Shared} {p : Addr} {xs : List V} (I : Inv X pins σ H s) (h : H p = some (.lst xs)) :
    ∃ (its : List Value) (n : Nat), Vals xs its ∧ s.heap.get? p = some { cls := .type "list", data := .seq its.toArray n } ∧ xs.length ≤ sizeLine := by
  obtain ⟨z, its, n, r, e⟩ := I.hok p _ h
  exact ⟨its, n, r, e, z⟩
/-- the list at p is written by an update of its object -/
theorem Inv.lstUpd {pins : List (Addr × Obj)} {σ : St} {H : Hp} {s : Shared} {p : Addr} {xs ys : List V} {its its' : List Value} {n n' : Nat} {f : Obj → Obj} (I : Inv X pins σ H s) (h : H p = some (.lst xs))
    (ho : s.heap.get? p = some { cls := .type "list", data := .seq its.toArray n }) (hf : f { cls := .type "list", data := .seq its.toArray n } = { cls := .type "list", data := .seq its'.toArray n' }) (r : Vals ys its') (hz : ys.length ≤ sizeLine) (t : Nat) :
    Inv X pins σ (upd H p (.lst ys)) { s with heap := s.heap.update p f, toks := t } := by
  have e : (s.heap.update p f).get? p = some { cls := .type "list", data := .seq its'.toArray n' } := by
    rw [Heap.get?_update_self f ho (by rw [hf] <;> rfl), hf]
  refine I.write (x := p) (e := p) (by rw [h]; trivial) (.inl rfl) (fun b u hb q => (Heap.get?_update_other _ _ (Ne.symm hb)).trans q) ⟨_, e⟩ ?_
  exact ⟨hz, its', n', r, e⟩
def rSetL : V → V → V → Hp → (Hp → Prop) → Prop := fun o i v H Q => ∃ p xs k j, o = .ref p ∧ i = .int k ∧ H p = some (.lst xs) ∧ ixN xs.length k = some j ∧ Q (upd H p (.lst (xs.set j v)))
theorem set_list : PSet X rSetL := by
  intro pins s σ H o i v ov iv u Q I ro ri rv h
  obtain ⟨p, xs, k, j, rfl, rfl, hp, hj, q⟩ := h
  cases ro
  obtain ⟨t, rfl⟩ := ri
  obtain ⟨its, n, r, ho, hz⟩ := I.lst hp
  obtain ⟨h1, h2, h3, h4⟩ := ixN_seq hj
  have hl := r.length
  have hn := line63
  have I' : Inv X pins σ (upd H p (.lst (xs.set j v))) { s with heap := s.heap.update p (Obj.mapSeq (·.setIfInBounds j u)) } :=
    I.lstUpd hp ho (mapSeq_set its n j u) (r.set rv j) (by rw [List.length_set]; exact hz) s.toks
  by_cases h0 : 0 ≤ k
  · have hk : k.toNat = j := by
      rw [seqIndex_of h0 h4] at h1
      exact Option.some.inj h1
    exact PySem.W.ki_setAt ho h0 (by omega) (by rw [List.size_toArray, ← hl]; exact h4) (by rw [hk]; exact ⟨_, I', q⟩)
  · have hk : (k + (its.toArray.size : Int)).toNat = j := by
      rw [seqIndex_neg (by omega) h3] at h1
      rw [List.size_toArray, ← hl]
      exact Option.some.inj h1
    exact PySem.W.ki_setBack ho (by omega) (by rw [List.size_toArray, ← hl]; exact h3) (by omega) (by rw [hk]; exact ⟨_, I', q⟩)

/-! ### slices -/
theorem slice_bounds (lo hi : Option Int) (n : Nat) : (sliceBounds lo hi none n).1 = ((HT.sIx n 0 lo : Nat) : Int) ∧ (sliceBounds lo hi none n).2.1 = ((HT.sIx n n hi : Nat) : Int) ∧ (sliceBounds lo hi none n).2.2 = 1 := by
  refine ⟨?_, ?_, rfl⟩
  · cases lo with
    | none => simp [sliceBounds, HT.sIx]
    | some i =>
      simp only [sliceBounds, HT.sIx, Option.getD_none, show (1 : Int) > 0 by decide, if_true]
      by_cases h : i < 0
      · simp only [h, if_true] <;> omega
      · simp only [h, if_false] <;> omega
  · cases hi with
    | none => simp [sliceBounds, HT.sIx]
    | some i =>
      simp only [sliceBounds, HT.sIx, Option.getD_none, show (1 : Int) > 0 by decide, if_true]
      by_cases h : i < 0
      · simp only [h, if_true] <;> omega
      · simp only [h, if_false] <;> omega
theorem slicePick_cut (its : List Value) (lo hi : Option Int) : slicePick its.toArray lo hi none = ((its.drop (HT.sIx its.length 0 lo)).take (HT.sIx its.length its.length hi - HT.sIx its.length 0 lo)).toArray := by
  obtain ⟨h1, h2, h3⟩ := slice_bounds lo hi its.toArray.size
  unfold slicePick
  rw [h1, h2, h3]
  simp only [sliceRange_one, pick_run, List.size_toArray] <;> rfl
/-- xs[lo:hi] of a list: a new list -/
def rSlL (K : PySem.W.Frag) : V → Option Int → Option Int → Hp → VK → Prop := fun x lo hi H Q => ∃ a xs, x = .ref a ∧ SqL K H a xs ∧ ∀ p, H p = none → Q (.ref p) (upd H p (.lst (cutV xs lo hi)))
theorem sl_list : SlR X (rSlL X.K) := by
  intro pins s σ H x v vl vu lo hi sl Q I rx hs pl pu h
  obtain ⟨a, xs, rfl, hx, q⟩ := h
  cases rx
  obtain ⟨its, r, ht, hz⟩ := I.list hx
  have hlen := r.length
  refine ⟨"list", _, slot_list_getitem.lookup, ht.isList.typeIs, ?_⟩
  refine wpAny_getItem_list_slice ht.isList hs pl pu .none (by simp) ?_ (by rw [List.size_toArray] <;> omega)
  rw [slicePick_cut, ← hlen]
  refine ⟨.ref s.heap.objs.size, _, I.laid (t' := s.toks) (o := .lst (cutV xs lo hi)) (fun b ob q => Heap.get?_push_of_some _ q) (Nat.le_refl _) ?_, rfl, q _ (I.hok.fresh (Nat.le_refl _))⟩
  exact ⟨Nat.le_trans (cutV_length xs lo hi) hz, _, 0, (r.drop (HT.sIx xs.length 0 lo)).take (HT.sIx xs.length xs.length hi - HT.sIx xs.length 0 lo), Heap.get?_push_size _ rfl⟩

/-! ### in, not in: flat items -/
def flatV : V → Bool
  | .non => true
  | .bl _ => true
  | .int _ => true
  | .str _ => true
  | _ => false
/-- == of flat values -/
def eqV : V → V → Bool
  | .non, .non => true
  | .bl a, .bl b => a == b
  | .bl a, .int b => (if a then 1 else 0) == b
  | .int a, .bl b => a == (if b then 1 else 0)
  | .int a, .int b => a == b
  | .str a, .str b => a == b
  | _, _ => false
theorem eqAt_V {A : Around} {s : Shared} {y x : V} {u v : Value} (ry : RelV y u) (rx : RelV x v) (fy : flatV y = true) (fx : flatV x = true) : SeqAt.EqAt A s u v (eqV y x) := by
  cases y with
  | non =>
    cases ry
    cases x with
    | non => cases rx; exact SeqAt.EqAt.same _
    | bl b => cases rx; exact SeqAt.EqAt.none_bool b
    | int b => obtain ⟨t, rfl⟩ := rx; exact SeqAt.EqAt.none_int b t
    | str b => obtain ⟨t, rfl⟩ := rx; exact SeqAt.EqAt.none_str b t
    | _ => exact absurd (show false = true from fx) Bool.false_ne_true
  | bl a =>
    cases ry
    cases x with
    | non => cases rx; exact SeqAt.EqAt.bool_none a
    | bl b => cases rx; exact SeqAt.EqAt.bool_bool a b
    | int b => obtain ⟨t, rfl⟩ := rx; exact SeqAt.EqAt.bool_int a b t
    | str b => obtain ⟨t, rfl⟩ := rx; exact SeqAt.EqAt.bool_str a b t
    | _ => exact absurd (show false = true from fx) Bool.false_ne_true
  | int a =>
    obtain ⟨t', rfl⟩ := ry
    cases x with
    | non => cases rx; exact SeqAt.EqAt.int_none a t'
    | bl b => cases rx; exact SeqAt.EqAt.int_bool a t' b
    | int b => obtain ⟨t, rfl⟩ := rx; exact SeqAt.EqAt.int_int a t' b t
    | str b => obtain ⟨t, rfl⟩ := rx; exact SeqAt.EqAt.int_str a t' b t
    | _ => exact absurd (show false = true from fx) Bool.false_ne_true
  | str a =>
    obtain ⟨t', rfl⟩ := ry
    cases x with
    | non => cases rx; exact SeqAt.EqAt.str_none a t'
    | bl b => cases rx; exact SeqAt.EqAt.str_bool a t' b
    | int b => obtain ⟨t, rfl⟩ := rx; exact SeqAt.EqAt.str_int a t' b t
    | str b => obtain ⟨t, rfl⟩ := rx; exact SeqAt.EqAt.str_str a t' b t
    | _ => exact absurd (show false = true from fx) Bool.false_ne_true
  | _ => exact absurd (show false = true from fy) Bool.false_ne_true
/-- the items' answers, read off the values (a value's own answer does not lean on its token) -/
def eqU (x : V) (u : Value) : Bool := match u with
  | .none => eqV .non x
  | .bool b => eqV (.bl b) x
  | .int i _ => eqV (.int i) x
  | .str z _ => eqV (.str z) x
  | _ => false
theorem eqU_of {x y : V} {u : Value} (r : RelV y u) (f : flatV y = true) : eqU x u = eqV y x := by
  cases y with
  | non => cases r; rfl
  | bl b => cases r; rfl
  | int i => obtain ⟨t, rfl⟩ := r; rfl
  | str z => obtain ⟨t, rfl⟩ := r; rfl
  | _ => exact absurd (show false = true from f) Bool.false_ne_true
theorem any_eqU {x : V} : ∀ {xs : List V} {us : List Value}, Vals xs us → xs.all flatV = true → us.any (eqU x) = xs.any fun y => eqV y x
  | _, _, .nil, _ => rfl
  | y :: xs, u :: us, .cons r t, f => by
    rw [List.all_cons, Bool.and_eq_true] at f
    rw [List.any_cons, List.any_cons, eqU_of r f.1, any_eqU t f.2]
theorem mem_eqAt {A : Around} {s : Shared} {x : V} {v : Value} (rx : RelV x v) (fx : flatV x = true) : ∀ {xs : List V} {us : List Value}, Vals xs us → xs.all flatV = true → ∀ u ∈ us, SeqAt.EqAt A s u v (eqU x u)
  | _, _, .nil, _ => fun u hu => by cases hu
  | y :: xs, u :: us, .cons r t, f => fun u' hu => by
    rw [List.all_cons, Bool.and_eq_true] at f
    rcases List.mem_cons.mp hu with rfl | hu
    · rw [eqU_of r f.1]; exact eqAt_V r rx f.1 fx
    · exact mem_eqAt rx fx t f.2 u' hu
def inV (x : V) (xs : List V) : Bool := xs.any fun y => eqV y x
/-- x in a list or tuple of flat items -/
def rIn (K : PySem.W.Frag) (neg : Bool) : R2 := fun x y H Q => ∃ p xs, y = .ref p ∧ (SqL K H p xs ∨ SqT K H p xs) ∧ flatV x = true ∧ xs.all flatV = true ∧ Q (.bl (if neg then !inV x xs else inV x xs)) H
theorem op_in_seq : OpR X (compareOp .In) (rIn X.K false) := by
  intro pins s σ H x y v u Q I rx ry h
  obtain ⟨p, xs, rfl, hq, fx, fs, q⟩ := h
  cases ry
  rcases hq with hq | hq
  · obtain ⟨its, r, pl, hz⟩ := I.list hq
    refine SeqAt.in_listAt (eqU x) pl.isList (fun w hw => mem_eqAt rx fx r fs w (by simpa using hw)) ⟨.bl _, H, I, rfl, ?_⟩
    rw [show its.toArray.any (eqU x) = its.any (eqU x) by simp, any_eqU r fs]
    exact q
  · obtain ⟨its, r, pl, hz⟩ := I.tuple hq
    refine SeqAt.in_tupleAt (eqU x) pl (fun w hw => mem_eqAt rx fx r fs w (by simpa using hw)) ⟨.bl _, H, I, rfl, ?_⟩
    rw [show its.toArray.any (eqU x) = its.any (eqU x) by simp, any_eqU r fs]
    exact q
theorem op_notIn_seq : OpR X (compareOp .NotIn) (rIn X.K true) := by
  intro pins s σ H x y v u Q I rx ry h
  obtain ⟨p, xs, rfl, hq, fx, fs, q⟩ := h
  cases ry
  rcases hq with hq | hq
  · obtain ⟨its, r, pl, hz⟩ := I.list hq
    refine SeqAt.notIn_listAt (eqU x) pl.isList (fun w hw => mem_eqAt rx fx r fs w (by simpa using hw)) ⟨.bl _, H, I, rfl, ?_⟩
    rw [show its.toArray.any (eqU x) = its.any (eqU x) by simp, any_eqU r fs]
    exact q
  · obtain ⟨its, r, pl, hz⟩ := I.tuple hq
    refine SeqAt.notIn_tupleAt (eqU x) pl (fun w hw => mem_eqAt rx fx r fs w (by simpa using hw)) ⟨.bl _, H, I, rfl, ?_⟩
    rw [show its.toArray.any (eqU x) = its.any (eqU x) by simp, any_eqU r fs]
    exact q
theorem op_notIn_str : OpR X (compareOp .NotIn) (fun x y H Q => ∃ i j, x = .str i ∧ y = .str j ∧ Q (.bl (!(!(Builtin.Str.occurrences j i 0 j.length 1).isEmpty))) H) := by
  intro pins s σ H x y v u Q I rx ry h
  obtain ⟨i, j, rfl, rfl, q⟩ := h
  obtain ⟨t, rfl⟩ := rx
  obtain ⟨t', rfl⟩ := ry
  exact notIn_str ⟨.bl _, H, I, rfl, q⟩

/-! ### len, list(x), tuple(x) of any list or tuple that is read -/
theorem call_len_seq : CallR X (.builtin "len") (fun xs H Q => ∃ p ys, xs = [.ref p] ∧ (SqL X.K H p ys ∨ SqT X.K H p ys) ∧ Q (.int ys.length) H) := by
  intro pins s σ H xs us Q I r h
  obtain ⟨p, ys, rfl, hq, q⟩ := h
  obtain ⟨u, rfl, rx⟩ := vals1 r
  cases rx
  have hn := line63
  rcases hq with hq | hq
  · obtain ⟨its, r', pl, hz⟩ := I.list hq
    have hlen := r'.length
    exact Calls.call_len_list pl.isList (by simp only [List.size_toArray] <;> omega) ⟨.int ys.length, H, I.tok _, ⟨s.toks + 1, by rw [List.size_toArray, hlen]⟩, q⟩
  · obtain ⟨its, r', pl, hz⟩ := I.tuple hq
    have hlen := r'.length
    exact len_tuple pl (by simp only [List.size_toArray] <;> omega) ⟨.int ys.length, H, I.tok _, ⟨s.toks + 1, by rw [List.size_toArray, hlen]⟩, q⟩
theorem call_len_str : CallR X (.builtin "len") (fun xs H Q => ∃ z, xs = [.str z] ∧ z.length ≤ sizeLine ∧ Q (.int z.length) H) := by
  intro pins s σ H xs us Q I r h
  obtain ⟨z, rfl, hz, q⟩ := h
  obtain ⟨u, rfl, t, rfl⟩ := vals1 r
  have hn := line63
  exact len_str (by omega) ⟨.int z.length, H, I.tok _, ⟨_, rfl⟩, q⟩
theorem CallR.or {f : Value} {r r' : List V → Hp → VK → Prop} (h : CallR X f r) (h' : CallR X f r') : CallR X f (fun xs H Q => r xs H Q ∨ r' xs H Q) := by
  intro pins s σ H xs us Q I rs q
  rcases q with q | q
  · exact h pins s σ H xs us Q I rs q
  · exact h' pins s σ H xs us Q I rs q
theorem call_list_of : CallR X (.type "list") (fun xs H Q => ∃ p ys, xs = [.ref p] ∧ (SqL X.K H p ys ∨ SqT X.K H p ys) ∧ ∀ l, H l = none → Q (.ref l) (upd H l (.lst ys))) := by
  intro pins s σ H xs us Q I r h
  obtain ⟨p, ys, rfl, hq, q⟩ := h
  obtain ⟨u, rfl, rx⟩ := vals1 r
  cases rx
  have fin : ∀ (its : List Value), Vals ys its → ys.length ≤ sizeLine → ∀ (h' : Heap) (c' : Nat), (∀ b o', s.heap.get? b = some o' → h'.get? b = some o') →
      h'.get? s.heap.objs.size = some { cls := .type "list", dict := none, data := .seq its.toArray c', slots := #[] } → EP X pins σ Q (.ref s.heap.objs.size) { s with heap := h' } := fun its r' hz h' c' kp e =>
    ⟨.ref s.heap.objs.size, _, I.laid (t' := s.toks) kp (Nat.le_refl _) (show ObjOk X.prog X.w _ h' _ (.lst ys) from ⟨hz, its, c', r', e⟩), rfl, q _ (I.hok.fresh (Nat.le_refl _))⟩
  rcases hq with hq | hq
  · obtain ⟨its, r', pl, hz⟩ := I.list hq
    have hlen := r'.length
    obtain ⟨o, ho, hc, n, hd⟩ := pl.isList
    exact call_list_seq p (.inl rfl) ho hc hd (fun h' c' kp e => fin its r' hz h' c' kp e) (by simp only [List.size_toArray] <;> omega)
  · obtain ⟨its, r', pl, hz⟩ := I.tuple hq
    have hlen := r'.length
    obtain ⟨o, ho, hc, n, hd⟩ := pl
    exact call_list_seq p (.inr rfl) ho hc hd (fun h' c' kp e => fin its r' hz h' c' kp e) (by simp only [List.size_toArray] <;> omega)
theorem call_tuple_of : CallR X (.type "tuple") (fun xs H Q => ∃ p ys, xs = [.ref p] ∧ ((SqL X.K H p ys ∧ ∀ l, H l = none → Q (.ref l) (upd H l (.tup ys))) ∨ (SqT X.K H p ys ∧ Q (.ref p) H))) := by
  intro pins s σ H xs us Q I r h
  obtain ⟨p, ys, rfl, h⟩ := h
  obtain ⟨u, rfl, rx⟩ := vals1 r
  cases rx
  rcases h with ⟨hq, q⟩ | ⟨hq, q⟩
  · obtain ⟨its, r', pl, hz⟩ := I.list hq
    have hlen := r'.length
    refine call_tuple_list pl.isList (fun h' kp => ?_) (by simp only [List.size_toArray] <;> omega)
    have I1 : Inv X pins σ H { s with heap := h' } := I.kept (t' := s.toks) kp
    have I2 : Inv X pins σ (upd H h'.objs.size (.tup ys)) { s with heap := h'.push { cls := .type "tuple", data := .seq its.toArray } } :=
      I1.laid (t' := s.toks) (fun b o e => Heap.get?_push_of_some _ e) (Nat.le_refl _) (show ObjOk X.prog X.w _ _ _ (.tup ys) from ⟨hz, its, r', IsTup.new _ _⟩)
    exact ⟨.ref h'.objs.size, _, I2, rfl, q _ (I1.hok.fresh (Nat.le_refl _))⟩
  · obtain ⟨its, r', pl, hz⟩ := I.tuple hq
    exact call_tuple_same pl ⟨.ref p, H, I, rfl, q⟩

/-! ### the call of a builtin's method: o.m(..) -/
/-- the value is of that builtin type -/
def tyV (K : PySem.W.Frag) (T : String) (x : V) (H : Hp) : Prop := match x with
  | .str _ => T = "str"
  | .int _ => T = "int"
  | .ref p => (T = "list" ∧ ∃ xs, SqL K H p xs) ∨ (T = "tuple" ∧ ∃ o, K.lookup p = some o ∧ o.cls = .type "tuple" ∧ o.dict = none) ∨
      (T = "dict" ∧ ((∃ kvs, H p = some (.dK kvs)) ∨ ∃ kvs, H p = some (.dT kvs))) ∨ (T = "set" ∧ ∃ S n, H p = some (.set S n))
  | _ => False
theorem tyV_is {pins : List (Addr × Obj)} {σ : St} {H : Hp} {s : Shared} {T : String} {x : V} {v : Value} (I : Inv X pins σ H s) (r : RelV x v) (ty : tyV X.K T x H) :
    s.TypeIs v T ∧ ∀ a, v = .ref a → ∃ ob, s.heap.get? a = some ob ∧ ob.dict = none := by
  cases x with
  | str z =>
    obtain ⟨t, rfl⟩ := r
    cases (show T = "str" from ty)
    exact ⟨typeIs_str s z t, fun _ e => nomatch e⟩
  | int i =>
    obtain ⟨t, rfl⟩ := r
    cases (show T = "int" from ty)
    exact ⟨typeIs_int s i t, fun _ e => nomatch e⟩
  | ref p =>
    cases r
    rcases ty with ⟨rfl, xs, hq⟩ | ⟨rfl, o, hk, hc, hd⟩ | ⟨rfl, hk⟩ | ⟨rfl, S, n, hk⟩
    · obtain ⟨its, _, pl, _⟩ := I.list hq
      refine ⟨pl.isList.typeIs, fun a e => ?_⟩
      cases e
      obtain ⟨o, n, e, c, hd, _⟩ := pl
      exact ⟨o, e, hd⟩
    · refine ⟨⟨o, I.kIn p o hk, hc⟩, fun a e => ?_⟩
      cases e
      exact ⟨o, I.kIn _ o hk, hd⟩
    · have z : ∃ o, s.heap.get? p = some o ∧ o.ExactDict := by
        rcases hk with ⟨kvs, hk⟩ | ⟨kvs, hk⟩
        · obtain ⟨_, _, _, _, o, _, _, e, ex, _⟩ := I.hok p _ hk
          exact ⟨o, e, ex⟩
        · obtain ⟨_, _, _, _, o, _, _, e, ex, _⟩ := I.hok p _ hk
          exact ⟨o, e, ex⟩
      obtain ⟨o, e, ex⟩ := z
      refine ⟨⟨o, e, ex.1⟩, fun a e2 => ?_⟩
      cases e2
      exact ⟨o, e, ex.2.1⟩
    · obtain ⟨o, _, _, _, e, ex, _⟩ := I.hok p _ hk
      refine ⟨⟨o, e, ex.1⟩, fun a e2 => ?_⟩
      cases e2
      exact ⟨o, e, ex.2.1⟩
  | _ => exact False.elim ty
def tBM0 (K : PySem.W.Frag) (T : String) (r : V → List V → Hp → VK → Prop) (to : TE) : TE := fun σ H Q => to σ H fun x H1 => tyV K T x H1 ∧ r x [] H1 Q
def tBM (K : PySem.W.Frag) (T : String) (r : V → List V → Hp → VK → Prop) (to : TE) (t : TA) : TE := fun σ H Q => to σ H fun x H1 => tyV K T x H1 ∧ t σ H1 fun xs H2 => r x xs H2 Q
variable {o e : Expr} {es : List Expr} {to : TE} {t : TA} {name : Str} {apos cpos : Pos} {T id : String} {r : V → List V → Hp → VK → Prop}
theorem pe_bm0 (pa : PlainAttrs T) (slot : Slot T name id) (hty : typeOf (.builtin id) = pure (.type "method_descriptor")) (hm : MtR X id r) (ho : PE X o to)
    (hbase : attributeBase o name X.env (eval o X.env) = eval o X.env := by rfl) (hline : (apos.endLine == cpos.line) = true := by rfl) : PE X (.Call (.Attribute o name apos) [] [] cpos) (tBM0 X.K T r to) := by
  intro pins s σ H Q I h
  refine wpAny_Call_method0_late hbase hline (thn (ho pins s σ H _ I h) fun v s1 ⟨x, H1, I1, r1, ty, q1⟩ => ?_)
  obtain ⟨h1, h2⟩ := tyV_is I1 r1 ty
  exact ⟨T, id, pa, slot, hty, h1, h2, Calls.callWith_builtin rfl (PySem.evalArgs_none (hm pins s1 σ H1 x [] v [] Q I1 r1 .nil q1))⟩
theorem pe_bm (pa : PlainAttrs T) (slot : Slot T name id) (hty : typeOf (.builtin id) = pure (.type "method_descriptor")) (hm : MtR X id r) (ho : PE X o to) (ha : PA X (e :: es) t)
    (hbase : attributeBase o name X.env (eval o X.env) = eval o X.env := by rfl)
    (hfew : ((backTo cpos (starEach (e :: es) X.env)).all (fun x => !x.1) && (backToKw cpos (keywordEach [] X.env)).all (fun x => x.1.isSome)
      && decide ((e :: es).length + ([] : List Keyword).length + (if ([] : List Keyword).isEmpty then 0 else 1) < 30)) = true := by rfl)
    (hline : (apos.endLine == cpos.line) = true := by rfl) (hs : starEach (e :: es) X.env = (false, eval e X.env) :: starEach es X.env := by rfl) (hplain : (backTo cpos (starEach es X.env)).any (·.1) = false := by rfl) :
    PE X (.Call (.Attribute o name apos) (e :: es) [] cpos) (tBM X.K T r to t) := by
  intro pins s σ H Q I h
  refine wpAny_Call_method_late hbase hfew hline rfl (thn (ho pins s σ H _ I h) fun v s1 ⟨x, H1, I1, r1, ty, q1⟩ => ?_)
  obtain ⟨h1, h2⟩ := tyV_is I1 r1 ty
  refine ⟨T, id, pa, slot, hty, h1, h2, ?_⟩
  have hA := ha cpos pins s1 σ H1 _ I1 q1
  rw [hs] at hA ⊢
  refine Calls.callWith_builtin (by show (false || (backTo cpos (starEach es X.env)).any (·.1)) = false; rw [hplain] <;> rfl) (Calls.evalArgs_plain ?_)
  exact thn hA fun us s2 ⟨vs, H2, I2, r2, q2⟩ => hm pins s2 σ H2 x vs v us Q I2 r1 r2 q2
/- xs.append(e), list.index on a module's tuple .. are MtR facts of 06m -/
end
end L2

namespace L2
open PySem PySem.Spec PyProof.Rows

def MtM (X : Cx) (id : String) (r : V → List V → Hp → VK → Prop) : Prop :=
  ∀ (pins : List (Addr × Obj)) (s : Shared) (σ : St) (H : Hp) (x : V) (xs : List V) (v : Value) (us : List Value) (Q : VK), Inv X pins σ H s → RelV x v → Vals xs us → r x xs H Q →
    wpAny (model X.prog X.w) X.A (call (.builtin id) (v :: us)) (EP X pins σ Q) X.xe s

/-! ### lists of values -/
theorem Vals.one : ∀ {x : V} {us : List Value}, Vals [x] us → ∃ u, us = [u] ∧ RelV x u
  | _, _, .cons r .nil => ⟨_, rfl, r⟩
theorem Vals.two : ∀ {x y : V} {us : List Value}, Vals [x, y] us → ∃ u v, us = [u, v] ∧ RelV x u ∧ RelV y v
  | _, _, _, .cons r (.cons q .nil) => ⟨_, _, rfl, r, q⟩
theorem Vals.zero : ∀ {us : List Value}, Vals [] us → us = []
  | _, .nil => rfl
theorem Vals.dropLast {xs : List V} {us : List Value} (h : Vals xs us) : Vals xs.dropLast us.dropLast := by
  induction h with
  | nil => exact .nil
  | cons r t ih =>
    cases t with
    | nil => exact .nil
    | cons q t' => exact .cons r ih
theorem Vals.eraseIdx : ∀ {xs : List V} {us : List Value} (i : Nat), Vals xs us → Vals (xs.eraseIdx i) (us.eraseIdx i)
  | _, _, _, .nil => .nil
  | _, _, 0, .cons _ t => t
  | _, _, i + 1, .cons r t => .cons r (Vals.eraseIdx i t)
theorem Vals.reverse {xs : List V} {us : List Value} (h : Vals xs us) : Vals xs.reverse us.reverse := by
  induction h with
  | nil => exact .nil
  | cons r t ih => rw [List.reverse_cons, List.reverse_cons]; exact Vals.append ih (.cons r .nil)
theorem Vals.rep {xs : List V} {us : List Value} (h : Vals xs us) : ∀ k : Nat, Vals (List.replicate k xs).flatten (List.replicate k us).flatten
  | 0 => .nil
  | k + 1 => by
    rw [List.replicate_succ, List.replicate_succ, List.flatten_cons, List.flatten_cons]
    exact Vals.append h (Vals.rep h k)
theorem erase_last {α : Type} (l : List α) : l.eraseIdx (l.length - 1) = l.dropLast := by
  induction l with
  | nil => rfl
  | cons a r ih =>
    cases r with
    | nil => rfl
    | cons b r =>
      have e : (a :: b :: r).length - 1 = ((b :: r).length - 1) + 1 := by
        have h1 : (a :: b :: r).length = r.length + 2 := rfl
        have h2 : (b :: r).length = r.length + 1 := rfl
        omega
      rw [e, List.eraseIdx_cons_succ, ih]
      all_goals rfl
theorem len_erase {α : Type} : ∀ (l : List α) (i : Nat), (l.eraseIdx i).length ≤ l.length
  | [], _ => Nat.le_refl _
  | _ :: _, 0 => Nat.le_succ _
  | _ :: r, i + 1 => Nat.succ_le_succ (len_erase r i)
theorem foldl_rep (its : List Value) : ∀ (k : Nat) (acc : List Value),
    List.foldl (fun x1 x2 => x1 ++ x2) acc.toArray (List.replicate k its.toArray) = (acc ++ (List.replicate k its).flatten).toArray
  | 0, acc => by simp
  | k + 1, acc => by
    have e : acc.toArray ++ its.toArray = (acc ++ its).toArray := by simp
    have e2 : (acc ++ its) ++ (List.replicate k its).flatten = acc ++ (List.replicate (k + 1) its).flatten := by
      rw [List.replicate_succ, List.flatten_cons, List.append_assoc]
    rw [← e2, ← foldl_rep its k (acc ++ its), ← e, List.replicate_succ, List.foldl_cons]

section
variable {X : Cx} {pins : List (Addr × Obj)} {σ : St} {H : Hp} {s : Shared} {l b : Addr} {xs ys zs : List V}

/-! ### the two steps: a tracked list is rewritten, a new list is laid -/
theorem Inv.lset {its its' : List Value} {n : Nat} {f : Array Value → Array Value} {t' : Nat} (I : Inv X pins σ H s) (hH : H l = some (.lst xs))
    (e : s.heap.get? l = some { cls := .type "list", data := .seq its.toArray n }) (hf : f its.toArray = its'.toArray) (hv : Vals ys its') (hz : ys.length ≤ sizeLine) :
    Inv X pins σ (upd H l (.lst ys)) { s with heap := s.heap.update l (Obj.mapSeq f), toks := t' } := by
  have q := PySem.IsL.update e f
  rw [hf] at q
  refine I.write (x := l) (e := l) (by rw [hH]; exact trivial) (.inl rfl) (fun b' u hb hu => (Heap.get?_update_other s.heap (Obj.mapSeq f) (Ne.symm hb)).trans hu) ⟨_, q⟩ ?_
  exact ⟨hz, its', _, hv, q⟩
theorem Inv.lnew {its : List Value} {t' : Nat} (I : Inv X pins σ H s) (hv : Vals ys its) (hz : ys.length ≤ sizeLine) :
    Inv X pins σ (upd H s.heap.objs.size (.lst ys)) { s with heap := s.heap.push { cls := .type "list", data := .seq its.toArray }, toks := t' } :=
  I.laid (fun _ _ q => Heap.get?_push_of_some _ q) (Nat.le_refl _) ⟨hz, its, 0, hv, Heap.get?_push_size _ rfl⟩
theorem Inv.fresh (I : Inv X pins σ H s) : H s.heap.objs.size = none := I.hok.fresh (Nat.le_refl _)
theorem Inv.lstM (I : Inv X pins σ H s) (hH : H l = some (.lst xs)) : xs.length ≤ sizeLine ∧ ∃ (its : List Value) (n : Nat), Vals xs its ∧ xs.length = its.length ∧ s.heap.get? l = some { cls := .type "list", data := .seq its.toArray n } := by
  obtain ⟨z, its, n, r, e⟩ := I.hok l _ hH
  exact ⟨z, its, n, r, r.length, e⟩

theorem notLongL {n : Nat} (h : n ≤ sizeLine) : Builtin.List.listTooLong n = false := by
  unfold Builtin.List.listTooLong
  exact decide_eq_false (by omega)
end

section
variable {X : Cx}

/-! ### methods -/
def rAppend : V → List V → Hp → VK → Prop := fun x vs H Q => ∃ l xs y, x = .ref l ∧ vs = [y] ∧ H l = some (.lst xs) ∧ xs.length < sizeLine ∧ Q .non (upd H l (.lst (xs ++ [y])))
theorem mt_append : MtM X "list.append" rAppend := by
  intro pins s σ H x vs v us Q I rx rv h
  obtain ⟨l, xs, y, rfl, rfl, hH, hz, q⟩ := h
  cases rx
  obtain ⟨u, rfl, ru⟩ := rv.one
  obtain ⟨z, its, n, r, hl, e⟩ := I.lstM hH
  refine call_meets F.slot_list_append ⟨_, e, rfl⟩ F.entry_list_append (F.args_list_append_2 _ _) (PySem.list_append l its.toArray n u (by rw [List.size_toArray]; omega)) ⟨e, ?_⟩
  refine ⟨.non, _, I.lset (its' := its ++ [u]) hH e (by simp) (r.append (.cons ru .nil)) ?_, rfl, q⟩
  rw [List.length_append, List.length_singleton]
  omega

def rExtend : V → List V → Hp → VK → Prop := fun x vs H Q => ∃ l b xs zs, x = .ref l ∧ vs = [.ref b] ∧ H l = some (.lst xs) ∧ H b = some (.lst zs) ∧ xs.length + zs.length ≤ sizeLine ∧ Q .non (upd H l (.lst (xs ++ zs)))
theorem mt_extend : MtM X "list.extend" rExtend := by
  intro pins s σ H x vs v us Q I rx rv h
  obtain ⟨l, b, xs, zs, rfl, rfl, hH, hB, hz, q⟩ := h
  cases rx
  obtain ⟨u, rfl, ru⟩ := rv.one
  cases ru
  obtain ⟨z, its, n, r, hl, e⟩ := I.lstM hH
  obtain ⟨z2, its2, n2, r2, hl2, e2⟩ := I.lstM hB
  have hsz : its.toArray.size + its2.toArray.size ≤ sizeLine := by rw [List.size_toArray, List.size_toArray]; omega
  have hlong : ¬ (!its.toArray.isEmpty && Builtin.List.listTooLong (its.toArray.size + its2.toArray.size)) = true := by
    rw [notLongL hsz, Bool.and_false]
    exact Bool.false_ne_true
  refine call_meets F.slot_list_extend ⟨_, e, rfl⟩ F.entry_list_extend (F.args_list_extend_2 _ _)
    (AutoSeq1.list_extend_list_list_0 l its.toArray n b its2.toArray n2 hlong (by rw [List.size_toArray]; omega) (by omega)) ⟨e, e2, ?_⟩
  refine ⟨.non, _, I.lset (its' := its ++ its2) hH e (by simp) (r.append r2) ?_, rfl, q⟩
  rw [List.length_append]
  omega

def rPop : V → List V → Hp → VK → Prop := fun x vs H Q => ∃ l xs y, x = .ref l ∧ vs = [] ∧ H l = some (.lst xs) ∧ xs[xs.length - 1]? = some y ∧ Q y (upd H l (.lst xs.dropLast))
theorem mt_pop : MtM X "list.pop" rPop := by
  intro pins s σ H x vs v us Q I rx rv h
  obtain ⟨l, xs, y, rfl, rfl, hH, hy, q⟩ := h
  cases rx
  have hus := rv.zero
  subst hus
  obtain ⟨z, its, n, r, hl, e⟩ := I.lstM hH
  obtain ⟨u, hu, ru⟩ := r.get hy
  have hy' : its.toArray[its.toArray.size - 1]? = some u := by
    show its.toArray[its.length - 1]? = some u
    rw [← Array.getElem?_toList, ← hl]
    exact hu
  refine call_meets F.slot_list_pop ⟨_, e, rfl⟩ F.entry_list_pop (F.args_list_pop_1 _) (MeetsSeq.list_pop_last l its.toArray n u hy' (by rw [List.size_toArray]; omega)) ⟨e, ?_⟩
  refine ⟨y, _, I.lset (its' := its.dropLast) hH e ?_ r.dropLast ?_, ru, q⟩
  · show its.toArray.eraseIdxIfInBounds (its.toArray.size - 1) = its.dropLast.toArray
    rw [List.size_toArray, List.eraseIdxIfInBounds_toArray, erase_last]
  · rw [List.length_dropLast]
    omega

def rPopAt : V → List V → Hp → VK → Prop := fun x vs H Q => ∃ l xs i k y, x = .ref l ∧ vs = [.int i] ∧ H l = some (.lst xs) ∧ -(2 ^ 63) ≤ i ∧ i < 2 ^ 63 ∧ seqIndex? i xs.length = some k ∧ xs[k]? = some y ∧ Q y (upd H l (.lst (xs.eraseIdx k)))
theorem mt_popAt : MtM X "list.pop" rPopAt := by
  intro pins s σ H x vs v us Q I rx rv h
  obtain ⟨l, xs, i, k, y, rfl, rfl, hH, h1, h2, hk, hy, q⟩ := h
  cases rx
  obtain ⟨u, rfl, ru⟩ := rv.one
  obtain ⟨t, rfl⟩ := ru
  obtain ⟨z, its, n, r, hl, e⟩ := I.lstM hH
  obtain ⟨w, hw, rw'⟩ := r.get hy
  refine call_meets F.slot_list_pop ⟨_, e, rfl⟩ F.entry_list_pop (F.args_list_pop_2 _ _)
    (MeetsSeq.list_pop_at l its.toArray n i t k w (fitsIndex_both h1 h2) (by rw [List.size_toArray, ← hl]; exact hk) (by rw [← Array.getElem?_toList]; exact hw) (by rw [List.size_toArray]; omega)) ⟨e, ?_⟩
  refine ⟨y, _, I.lset (its' := its.eraseIdx k) hH e ?_ (r.eraseIdx k) ?_, rw', q⟩
  · show its.toArray.eraseIdxIfInBounds k = (its.eraseIdx k).toArray
    rw [List.eraseIdxIfInBounds_toArray]
  · have := len_erase xs k
    omega

def rReverse : V → List V → Hp → VK → Prop := fun x vs H Q => ∃ l xs, x = .ref l ∧ vs = [] ∧ H l = some (.lst xs) ∧ Q .non (upd H l (.lst xs.reverse))
theorem mt_reverse : MtM X "list.reverse" rReverse := by
  intro pins s σ H x vs v us Q I rx rv h
  obtain ⟨l, xs, rfl, rfl, hH, q⟩ := h
  cases rx
  have hus := rv.zero
  subst hus
  obtain ⟨z, its, n, r, hl, e⟩ := I.lstM hH
  refine call_meets F.slot_list_reverse ⟨_, e, rfl⟩ F.entry_list_reverse (F.args_list_reverse_1 _) (AutoSeq1.list_reverse_list_0 l its.toArray n (by rw [List.size_toArray]; omega)) ⟨e, ?_⟩
  refine ⟨.non, _, I.lset (its' := its.reverse) hH e (by simp) r.reverse ?_, rfl, q⟩
  rw [List.length_reverse]
  omega

def rClear : V → List V → Hp → VK → Prop := fun x vs H Q => ∃ l xs, x = .ref l ∧ vs = [] ∧ H l = some (.lst xs) ∧ Q .non (upd H l (.lst []))
theorem mt_clear : MtM X "list.clear" rClear := by
  intro pins s σ H x vs v us Q I rx rv h
  obtain ⟨l, xs, rfl, rfl, hH, q⟩ := h
  cases rx
  have hus := rv.zero
  subst hus
  obtain ⟨z, its, n, r, hl, e⟩ := I.lstM hH
  refine call_meets F.slot_list_clear ⟨_, e, rfl⟩ F.entry_list_clear (F.args_list_clear_1 _) (AutoSeq1.list_clear_list_0 l its.toArray n (by rw [List.size_toArray]; omega)) ⟨e, ?_⟩
  exact ⟨.non, _, I.lset (its' := []) (ys := []) hH e rfl .nil (Nat.zero_le _), rfl, q⟩

/-! ### list + list, list += list, list * int -/
def rCat : R2 := fun x y H Q => ∃ l b xs zs, x = .ref l ∧ y = .ref b ∧ H l = some (.lst xs) ∧ H b = some (.lst zs) ∧ xs.length + zs.length ≤ sizeLine ∧ ∀ p, H p = none → Q (.ref p) (upd H p (.lst (xs ++ zs)))
theorem op_cat : OpR X (binaryOp .Add) rCat := by
  intro pins s σ H x y v u Q I rx ry h
  obtain ⟨l, b, xs, zs, rfl, rfl, hH, hB, hz, q⟩ := h
  cases rx
  cases ry
  obtain ⟨z, its, n, r, hl, e⟩ := I.lstM hH
  obtain ⟨z2, its2, n2, r2, hl2, e2⟩ := I.lstM hB
  refine PySem.P.add_list e e2 ?_ (by rw [List.size_toArray, List.size_toArray]; omega)
  have ea : its.toArray ++ its2.toArray = (its ++ its2).toArray := by simp
  rw [ea]
  exact ⟨.ref _, _, I.lnew (t' := s.toks) (r.append r2) (by rw [List.length_append]; omega), rfl, q _ I.fresh⟩
/-- a list times an int (a negative one is nothing) -/
def rRep : R2 := fun x y H Q => ∃ l k xs, x = .ref l ∧ y = .int k ∧ H l = some (.lst xs) ∧ -(2 ^ 63) ≤ k ∧ k < 2 ^ 63 ∧ xs.length * k.toNat ≤ sizeLine ∧
  ∀ p, H p = none → Q (.ref p) (upd H p (.lst (List.replicate k.toNat xs).flatten))
theorem len_rep {α : Type} (xs : List α) (k : Nat) : (List.replicate k xs).flatten.length = k * xs.length := by
  induction k with
  | zero => simp
  | succ k ih => rw [List.replicate_succ, List.flatten_cons, List.length_append, ih, Nat.succ_mul, Nat.add_comm]
theorem op_rep : OpR X (binaryOp .Mult) rRep := by
  intro pins s σ H x y v u Q I rx ry h
  obtain ⟨l, k, xs, rfl, rfl, hH, h1, h2, hz, q⟩ := h
  cases rx
  obtain ⟨t, rfl⟩ := ry
  obtain ⟨z, its, n, r, hl, e⟩ := I.lstM hH
  have hlen : its.toArray.size * k.toNat ≤ sizeLine := by rw [List.size_toArray, ← hl]; exact hz
  have hcap : ¬ its.toArray.size * k.toNat > (2 ^ 63 - 1) / 8 := by
    have : (sizeLine : Nat) ≤ (2 ^ 63 - 1) / 8 := by decide
    omega
  have hfit : ¬ (!Builtin.List.listFitsIndex k) = true := by
    rw [fitsIndex_both h1 h2]
    exact Bool.false_ne_true
  have hlong : ¬ Builtin.List.listTooLong (its.toArray.size * k.toNat) = true := by
    rw [notLongL hlen]
    exact Bool.false_ne_true
  have hnew : List.foldl (fun x1 x2 => x1 ++ x2) #[] (List.replicate (if its.toArray.isEmpty = true then 0 else k.toNat) its.toArray) = (List.replicate k.toNat its).flatten.toArray := by
    have f0 : ∀ m : Nat, List.foldl (fun x1 x2 => x1 ++ x2) #[] (List.replicate m its.toArray) = (List.replicate m its).flatten.toArray := fun m => by
      have := foldl_rep its m []
      rw [List.nil_append] at this
      exact this
    rw [f0]
    cases its with
    | nil => simp
    | cons a r' => rw [if_neg (by simp)]
  refine wpAny_binaryOp_repeat_ref (T := "list") (U := "int") (by decide) ⟨_, e, rfl⟩ (fun s' => typeIs_int s' k t) noFill_list_mul F.fills_int_mul F.slot_int_rmul repeat_list F.slot_int_index.lookup
    (call_meets F.slot_int_rmul (typeIs_int s k t) F.entry_int_rmul (F.args_int_rmul_2 _ _) (int___rmul___int_list k t l its.toArray n)
      ⟨e, rfl, ⟨_, e, rfl⟩, call_meets F.slot_list_mul ⟨_, e, rfl⟩ F.entry_list_mul (F.args_list_mul_2 _ _) (AutoListH.list___mul___list_int_3 l its.toArray n k t hfit hcap hlong) ⟨e, ?_⟩⟩)
  rw [hnew]
  exact ⟨.ref _, _, I.lnew (t' := s.toks) (r.rep k.toNat) (by rw [len_rep, Nat.mul_comm]; exact hz), rfl, q _ I.fresh⟩

/-! ### del xs[i] -/
theorem del_list {pins : List (Addr × Obj)} {s : Shared} {σ : St} {H : Hp} {l : Addr} {xs : List V} {i : Int} {t : Tok} {k : Nat} {Q : Unit → Shared → Prop} (I : Inv X pins σ H s) (hH : H l = some (.lst xs))
    (h1 : -(2 ^ 63) ≤ i) (h2 : i < 2 ^ 63) (hk : seqIndex? i xs.length = some k) (h : ∀ s', Inv X pins σ (upd H l (.lst (xs.eraseIdx k))) s' → Q () s') :
    wpAny (model X.prog X.w) X.A (delItem (.ref l) (.int i t)) Q X.xe s := by
  obtain ⟨z, its, n, r, hl, e⟩ := I.lstM hH
  refine PySem.P.delItem_list (k := k) e (fitsIndex_both h1 h2) (by rw [List.size_toArray, ← hl]; exact hk) (h _ ?_) (by rw [List.size_toArray]; omega)
  refine I.lset (its' := its.eraseIdx k) (t' := s.toks) hH e ?_ (r.eraseIdx k) ?_
  · show its.toArray.eraseIdxIfInBounds k = (its.eraseIdx k).toArray
    rw [List.eraseIdxIfInBounds_toArray]
  · have := len_erase xs k
    omega
end

/-! ### xs[a:b] = ys -/
section
variable {prog : Program} {w : World} {A : Around} {E : Value → Shared → Prop} {s : Shared}
theorem splice_eq (its its2 : List Value) (a c : Nat) : its.toArray.extract 0 a ++ its2.toArray ++ its.toArray.extract c its.toArray.size = (its.take a ++ its2 ++ its.drop c).toArray := by
  apply Array.toList_inj.mp
  first
    | (simp
       exact List.take_of_length_le (by simp))
    | simp [List.take_of_length_le]
    | simp
theorem bounds_run {a c n : Nat} (hac : a ≤ c) (hc : c ≤ n) : sliceBounds (some (a : Int)) (some (c : Int)) none n = ((a : Int), (c : Int), 1) := by
  simp only [sliceBounds, Option.getD_none]
  have h1 : ¬ ((a : Int) < 0) := by omega
  have h2 : ¬ ((c : Int) < 0) := by omega
  simp only [h1, h2, if_false, show (1 : Int) > 0 by decide, if_true]
  congr 1
  · omega
  · congr 1; omega
set_option maxRecDepth 100000 in
/-- list.__setitem__ with a slice of step one and another list -/
theorem setItem_slice {l b sl : Addr} {items new : Array Value} {n n2 : Nat} {vl vu : Value} {a c : Nat} {Q : Unit → Shared → Prop}
    (e : s.heap.get? l = some { cls := .type "list", data := .seq items n }) (e2 : s.heap.get? b = some { cls := .type "list", data := .seq new n2 }) (hne : l ≠ b)
    (hs : s.heap.IsSliceOf sl vl vu .none) (pl : IsPart vl (some (a : Int))) (pu : IsPart vu (some (c : Int))) (hac : a ≤ c) (hc : c ≤ items.size)
    (hsz : items.size + new.size ≤ sizeLine) (h : Q () { s with heap := s.heap.update l (Obj.mapSeq fun xs => xs.extract 0 a ++ new ++ xs.extract c xs.size) }) :
    wpAny (model prog w) A (setItem (.ref l) (.ref sl) (.ref b)) Q E s := by
  have hl : s.heap.IsList l items := PySem.IsL.isList e
  have hb : s.heap.IsList b new := PySem.IsL.isList e2
  obtain ⟨os, hos, hcs, hds⟩ := id hs
  have hTs : s.TypeIs (.ref sl) "slice" := ⟨os, hos, hcs⟩
  have hstep : ¬ ((rawPart none == rawInt 0) = true) := Bool.false_ne_true
  have hsame : Builtin.List.listSameRef (.ref l) (.ref b) = false := by
    unfold Builtin.List.listSameRef
    exact beq_eq_false_iff_ne.mpr hne
  have hmax : (max (a : Int) (c : Int)).toNat = c := by omega
  have hz' : ((fun xs : Array Value => xs.extract 0 a ++ new ++ xs.extract c xs.size) items).size ≤ sizeLine + 1 := by
    simp only [Array.size_append, Array.size_extract]
    omega
  unfold setItem
  try with_reducible refine wpAny_holding ?_
  first | refine wpAny_bind (wpAny_pure ?_) | skip
  refine wpAny_bind (wpAny_sequenceKey hl.typeIs (by decide) ?_)
  refine wpAny_bind (wpAny_callSpecial?_slot (name := Str.ofString "__setitem__") hl.typeIs slot_list_setitem
    (wpAny_call_entry slot_list_setitem hl.typeIs entry_list_setitem ?_ (args_list_setitem _ _ _)))
  show wpAny _ _ (Builtin.List.listSubscript? (.ref sl) >>= _) _ _ s
  refine wpAny_bind ?_
  unfold Builtin.List.listSubscript?
  refine wpAny_bind (wpAny_specialOf hTs slice_no_index ?_)
  simp only [Option.isNone_none, if_true]
  refine wpAny_pure ?_
  show wpAny _ _ (typeOf (.ref sl) >>= _) _ _ s
  refine wpAny_bind (wpAny_typeOf hTs ?_)
  first
    | rw [if_neg (by decide)]
    | refine PySem.W.KFB.if_not (by decide) ?_
  rw [listSliceParts_eq]
  refine wpAny_bind (wpAny_bind (wpAny_field hos hds (x := .none) rfl (wpAny_bind (wpAny_listPart .none ?_))))
  rw [if_neg hstep]
  refine wpAny_bind (wpAny_field hos hds (x := vl) rfl (wpAny_bind (wpAny_listPart pl ?_)))
  refine wpAny_bind (wpAny_field hos hds (x := vu) rfl (wpAny_bind (wpAny_listPart pu (wpAny_pure ?_))))
  first
    | simp only [hsame, Bool.false_eq_true, if_false]
    | refine PySem.W.KFB.if_not hsame ?_
    | (dsimp only
       rw [if_neg (by rw [hsame]; exact Bool.false_ne_true)])
  refine wpAny_bind (m := Builtin.List.listAllItems (.ref b) "must assign iterable to extended slice") ?_
  unfold Builtin.List.listAllItems
  refine wpAny_bind (wpAny_typeOf hb.typeIs ?_)
  first
    | refine PySem.W.KFB.if_so (by decide) ?_
    | rw [if_pos (by decide)]
    | simp only [beq_self_eq_true, Bool.true_or, if_true]
  unfold Builtin.List.listItems
  refine wpAny_bind (wpAny_seqItems e2 rfl (wpAny_pure ?_))
  refine wpAny_bind (wpAny_bind (wpAny_seqItems e rfl (wpAny_pure ?_)))
  refine wpAny_bind (wpAny_of_eq ((sliceIndices_raw (some (a : Int)) (some (c : Int)) none items.size (by simp)).trans (congrArg (pure : Int × Int × Int → Sem (Int × Int × Int)) (bounds_run hac hc))) ?_)
  show wpAny _ _ (if ((1 : Int) == 1) = true then _ else _) _ _ s
  rw [if_pos (by decide)]
  refine wpAny_bind (wpAny_rule ?_)
  first
    | simp only [notLongL hsz, Bool.false_eq_true, if_false]
    | refine PySem.W.KFB.if_not (notLongL hsz) ?_
  first | refine wpAny_bind (wpAny_pure ?_) | skip
  show wpAny _ _ (updateSeq l (fun xs => xs.extract 0 ((a : Int)).toNat ++ new ++ xs.extract (max (a : Int) (c : Int)).toNat xs.size) >>= _) _ _ s
  rw [hmax, Int.toNat_natCast]
  refine wpAny_bind (wpAny_updateSeq (hz := Nat.le_trans (Nat.le_add_right _ _) hsz) (_hz' := hz') e rfl ?_)
  refine wpAny_bind (wpAny_letGo ?_)
  first
    | exact wpAny_bind (wpAny_pure (wpAny_pure ⟨.none, rfl, wpAny_pure h⟩))
    | exact wpAny_pure ⟨.none, rfl, wpAny_pure h⟩
end

section
variable {X : Cx}
/-- xs[a:c] = ys of another list, at the value level: sl is the slice object that was just made -/
theorem set_slice {pins : List (Addr × Obj)} {s : Shared} {σ : St} {H : Hp} {l b sl : Addr} {xs ys : List V} {a c : Int} {vl vu : Value} {Q : Unit → Shared → Prop} (I : Inv X pins σ H s)
    (hH : H l = some (.lst xs)) (hB : H b = some (.lst ys)) (hne : l ≠ b) (hs : s.heap.IsSliceOf sl vl vu .none) (ra : RelV (.int a) vl) (rc : RelV (.int c) vu) (h0 : 0 ≤ a) (hac : a ≤ c) (hc : c ≤ xs.length)
    (hz : xs.length + ys.length ≤ sizeLine) (h : ∀ s', Inv X pins σ (upd H l (.lst (xs.take a.toNat ++ ys ++ xs.drop c.toNat))) s' → Q () s') :
    wpAny (model X.prog X.w) X.A (setItem (.ref l) (.ref sl) (.ref b)) Q X.xe s := by
  obtain ⟨ta, rfl⟩ := ra
  obtain ⟨tc, rfl⟩ := rc
  obtain ⟨z, its, n, r, hl, e⟩ := I.lstM hH
  obtain ⟨z2, its2, n2, r2, hl2, e2⟩ := I.lstM hB
  obtain ⟨a', rfl⟩ := Int.eq_ofNat_of_zero_le h0
  obtain ⟨c', rfl⟩ := Int.eq_ofNat_of_zero_le (Int.le_trans h0 hac)
  simp only [Int.toNat_natCast] at h
  refine setItem_slice (a := a') (c := c') e e2 hne hs (.int _ _) (.int _ _) (by omega) (by rw [List.size_toArray]; omega) (by rw [List.size_toArray, List.size_toArray]; omega) (h _ ?_)
  refine I.lset (its' := its.take a' ++ its2 ++ its.drop c') (t' := s.toks) hH e ?_ (Vals.append (Vals.append (r.take _) r2) (r.drop _)) ?_
  · exact splice_eq its its2 a' c'
  · rw [List.length_append, List.length_append, List.length_take, List.length_drop]
    omega
end
end L2

namespace Att
open PySem PySem.W PySem.Calls PyProof.Rows

/-! ### the script -/
theorem ints_of_wellAll {P : Params} {h : Heap} : ∀ (ns : List Int) (vs : List Value), WellAll P h vs (ns.map WData.int) → IntsAre vs ns := by
  intro ns
  induction ns with
  | nil =>
    intro vs w
    rw [List.map_nil] at w
    cases w
    exact .nil
  | cons n ns ih =>
    intro vs w
    rw [List.map_cons] at w
    cases w with
    | cons a b =>
      cases a
      exact .cons _ _ (ih _ b)

theorem script_of {l : OpenLaw} {n : Nat} (hn : l.most = some n) {P : Params} {h : Heap} {args : List WData} {vals : List Value}
    (hpre : l.row.toRowW.claim.pre args = true) (hwl : WellAll P h vals args) :
    ∃ a vs ns, vals = [Value.ref a] ∧ args = [WData.list (ns.map WData.int)] ∧ h.get? a = some { cls := .type "list", data := .seq vs.toArray } ∧ IntsAre vs ns ∧ ns.length ≤ n := by
  have hsh : WShape.hasAll [] args [.list .int] = true := (pre_splitW hpre).1
  have hc : l.pre.holds [] { args := args } = true := (pre_splitW hpre).2
  obtain ⟨d, r, rfl, h1, h2⟩ := hasAllW_cons hsh
  obtain rfl := hasAllW_nil h2
  obtain ⟨xs, rfl, h3⟩ := hasW_list h1
  obtain ⟨ns, rfl⟩ := items_int h3
  have hlen : ns.length ≤ n := by
    unfold OpenLaw.pre at hc
    have h4 : (WTm.not (.lt (.lit (.int (n : Int))) (.len (.arg 0)))).holds [] { args := [.list (ns.map .int)] } = true := by
      have h4 := (holds_andW hc).1
      rw [hn] at h4
      exact h4
    have h5 := condW_of h4 (w_not (w_lt w_lit (w_len_list (w_arg rfl))))
    rw [List.length_map] at h5
    refine Nat.le_of_not_lt fun q => ?_
    have q' : (n : Int) < ((ns.length : Nat) : Int) := by omega
    first
      | (rw [decide_eq_true q'] at h5; exact absurd h5 (by decide))
      | (simp at h5; omega)
  cases hwl with
  | cons w1 w2 =>
    cases w2
    cases w1 with
    | list ho hall => exact ⟨_, _, ns, rfl, rfl, ho, ints_of_wellAll ns _ hall, hlen⟩

theorem post_true (l : OpenLaw) (args : List WData) : l.row.toRowW.claim.post args (.bool true) args = true :=
  postW_of (r := l.row.toRowW) (X := (true == true))
    (show WShape.has [] (.bool true) .bool = true by first | rfl | decide | simp [WShape.has, WShape.arms, WShape.armsAll])
    (show (WTm.eq .res (.lit (.bool true))).value [] { args := args, res := some (.bool true), after := args } = some (.bool (true == true)) from w_eq_bool (w_res rfl) w_lit) rfl

/-! ### the attachment: holds_open's last premise (the goal 'hc' behind k_head) from a wpAny of the law's body -/
theorem attach {l : OpenLaw} {n : Nat} {q : Program} {loose : List Str} {XP : (Str → Option Value) → Heap → Prop} {YP : World → Heap → Prop} {d : DefRec} {x : Str}
    (hn : l.most = some n) (hdf : d.params.defaults = [])
    (hbind : ∀ pm cd doc v : Value, bindArgs (docDef d.name d.params d.body d.scope pm cd doc) ⟨[v], []⟩ = pure [(x, v)])
    (hx : d.scope.names.lookup x = some .local ∨ d.scope.names.lookup x = some .cell)
    (hk : d.scope.kind = .function) (hco : d.scope.isCoroutine = false) (hgen : d.scope.isGenerator = false)
    (body : ∀ (w : World) (s₀ s₁ s : Shared) (mg mb : Str → Option Value) (fa : Addr) (o : Obj) (pm cd doc : Value) (a : Addr) (vs : List Value) (ns : List Int),
      Ground q loose [] XP w s₀ mg mb s₁.heap → YP w s₁.heap →
      s₁.heap.get? fa = some o → o.data = .func (docDef d.name d.params d.body d.scope pm cd doc) → s₁.heap.CodeRec cd d.name → mg d.name = some (.ref fa) →
      s₁.heap.get? a = some { cls := .type "list", data := .seq vs.toArray } → IntsAre vs ns → ns.length ≤ n →
      s.gens = #[] → s.os = s₁.os →
      Fr s₁.heap s₁.heap.objs.size s.heap (bindL (envOfC d.name d.scope s₁.heap.objs.size fa cd).kindOf [(x, .ref a)] fun _ => none) →
      Cl s₁.heap.objs.size (cellsFrom (s₁.heap.objs.size + 1) d.scope.names []) s.heap (bindC (envOfC d.name d.scope s₁.heap.objs.size fa cd).kindOf [(x, .ref a)] fun _ => none) →
      wpAny (model l.prog w) (callerA.deeper (envOfC d.name d.scope s₁.heap.objs.size fa cd)) (execs d.body (envOfC d.name d.scope s₁.heap.objs.size fa cd))
        (fun f s' => f = .ret (.bool true) ∧ OldK s₁.heap s'.heap ∧ s'.os = s₁.os ∧ AllBare s'.gens) (fun _ _ => False) s) :
    WalkO q loose XP YP l.row.toRowW d [] (fun f vs => PySem.call f vs) := by
  intro w s₀ s₁ mg mb G Y fa o pm cd doc dV kV ho hd hcd hD hmg hg args vals as hpre hlay hrd hwl hlo
  obtain rfl : dV = .none := Dflts.none hD hdf
  obtain rfl : kV = .none := Dflts.noKw hD
  obtain ⟨a, vs, ns, rfl, rfl, hobj, hints, hlen⟩ := script_of hn hpre hwl
  refine enter_call ?_
  refine call_cells_ret (o := o) (by rw [depth_caller]; decide) ho (fd_plain hd) G.T.nolimit hcd (hbind pm cd doc (.ref a)) (fun y hy => ?_) (fun h₁ tk F X => ?_) hco hgen hk
  · obtain rfl : y = (x, Value.ref a) := List.mem_singleton.mp hy
    rcases hx with e | e
    · exact .inl e
    · exact .inr ⟨e, cellsFrom_some _ _ _ (.inl e)⟩
  · refine wpAny_mono (body w s₀ s₁ { s₁ with heap := h₁, toks := tk } mg mb fa o pm cd doc a vs ns G Y ho (fd_plain hd) hcd hmg hobj hints hlen hg rfl F X) (fun f s' hq => ?_) (fun _ _ hq => hq)
    obtain ⟨rfl, h2, h3, h4⟩ := hq
    exact ⟨.inl ⟨.bool true, .bool true, [], rfl, fun _ => rfl, .bool true, post_true l _, fun _ => ⟨List.Pairwise.nil, fun _ hm => (nomatch hm)⟩⟩, h2, h3, h4⟩

/-- the same from a codeAny of the CALL (for a layer whose function contracts speak of calls) -/
theorem attach_call {l : OpenLaw} {n : Nat} {q : Program} {loose : List Str} {XP : (Str → Option Value) → Heap → Prop} {YP : World → Heap → Prop} {d : DefRec}
    (hn : l.most = some n) (hdf : d.params.defaults = [])
    (call : ∀ (w : World) (s₀ s₁ : Shared) (mg mb : Str → Option Value) (fa : Addr) (o : Obj) (pm cd doc : Value) (a : Addr) (vs : List Value) (ns : List Int),
      Ground q loose [] XP w s₀ mg mb s₁.heap → YP w s₁.heap →
      s₁.heap.get? fa = some o → o.data = .func (docDef d.name d.params d.body d.scope pm cd doc) → s₁.heap.CodeRec cd d.name → mg d.name = some (.ref fa) →
      s₁.heap.get? a = some { cls := .type "list", data := .seq vs.toArray } → IntsAre vs ns → ns.length ≤ n → s₁.gens = #[] →
      codeAny (model l.prog w) callerA (.call (.ref fa) ⟨[.ref a], []⟩) (fun r s' => r = .ok (.ret (.bool true)) ∧ OldK s₁.heap s'.heap ∧ s'.os = s₁.os ∧ AllBare s'.gens) s₁) :
    WalkO q loose XP YP l.row.toRowW d [] (fun f vs => PySem.call f vs) := by
  intro w s₀ s₁ mg mb G Y fa o pm cd doc dV kV ho hd hcd hD hmg hg args vals as hpre hlay hrd hwl hlo
  obtain rfl : dV = .none := Dflts.none hD hdf
  obtain rfl : kV = .none := Dflts.noKw hD
  obtain ⟨a, vs, ns, rfl, rfl, hobj, hints, hlen⟩ := script_of hn hpre hwl
  refine enter_call (codeAny_mono (call w s₀ s₁ mg mb fa o pm cd doc a vs ns G Y ho (fd_plain hd) hcd hmg hobj hints hlen hg) fun r s' hq => ?_)
  obtain ⟨rfl, h2, h3, h4⟩ := hq
  exact ⟨.inl ⟨.bool true, .bool true, [], rfl, fun _ => rfl, .bool true, post_true l _, fun _ => ⟨List.Pairwise.nil, fun _ hm => (nomatch hm)⟩⟩, h2, h3, h4⟩

/-- the same where the top left finished generators (o_head chose holds_openN): nothing may have changed at all and no generator may be left -/
theorem attachN {l : OpenLaw} {n : Nat} {q : Program} {loose : List Str} {XP : (Str → Option Value) → Heap → Prop} {YP : World → Heap → Prop} {d : DefRec} {x : Str}
    (hn : l.most = some n) (hdf : d.params.defaults = [])
    (hbind : ∀ pm cd doc v : Value, bindArgs (docDef d.name d.params d.body d.scope pm cd doc) ⟨[v], []⟩ = pure [(x, v)])
    (hx : d.scope.names.lookup x = some .local ∨ d.scope.names.lookup x = some .cell)
    (hk : d.scope.kind = .function) (hco : d.scope.isCoroutine = false) (hgen : d.scope.isGenerator = false)
    (body : ∀ (w : World) (s₀ s₁ s : Shared) (mg mb : Str → Option Value) (fa : Addr) (o : Obj) (pm cd doc : Value) (a : Addr) (vs : List Value) (ns : List Int),
      Ground q loose [] XP w s₀ mg mb s₁.heap → YP w s₁.heap →
      s₁.heap.get? fa = some o → o.data = .func (docDef d.name d.params d.body d.scope pm cd doc) → s₁.heap.CodeRec cd d.name → mg d.name = some (.ref fa) →
      s₁.heap.get? a = some { cls := .type "list", data := .seq vs.toArray } → IntsAre vs ns → ns.length ≤ n →
      s.gens = #[] → s.os = s₁.os →
      Fr s₁.heap s₁.heap.objs.size s.heap (bindL (envOfC d.name d.scope s₁.heap.objs.size fa cd).kindOf [(x, .ref a)] fun _ => none) →
      Cl s₁.heap.objs.size (cellsFrom (s₁.heap.objs.size + 1) d.scope.names []) s.heap (bindC (envOfC d.name d.scope s₁.heap.objs.size fa cd).kindOf [(x, .ref a)] fun _ => none) →
      wpAny (model l.prog w) (callerA.deeper (envOfC d.name d.scope s₁.heap.objs.size fa cd)) (execs d.body (envOfC d.name d.scope s₁.heap.objs.size fa cd))
        (fun f s' => f = .ret (.bool true) ∧ (∀ b o, s₁.heap.get? b = some o → s'.heap.get? b = some o) ∧ s'.os = s₁.os ∧ s'.gens = #[]) (fun _ _ => False) s) :
    WalkN q loose XP YP l.row.toRowW d [] (fun f vs => PySem.call f vs) := by
  intro w s₀ s₁ mg mb G Y fa o pm cd doc dV kV ho hd hcd hD hmg hg args vals as hpre hlay hrd hwl hlo
  obtain rfl : dV = .none := Dflts.none hD hdf
  obtain rfl : kV = .none := Dflts.noKw hD
  obtain ⟨a, vs, ns, rfl, rfl, hobj, hints, hlen⟩ := script_of hn hpre hwl
  refine enter_callW ?_
  refine call_cells_ret (o := o) (by rw [depth_caller]; decide) ho (fd_plain hd) G.T.nolimit hcd (hbind pm cd doc (.ref a)) (fun y hy => ?_) (fun h₁ tk F X => ?_) hco hgen hk
  · obtain rfl : y = (x, Value.ref a) := List.mem_singleton.mp hy
    rcases hx with e | e
    · exact .inl e
    · exact .inr ⟨e, cellsFrom_some _ _ _ (.inl e)⟩
  · refine wpAny_mono (body w s₀ s₁ { s₁ with heap := h₁, toks := tk } mg mb fa o pm cd doc a vs ns G Y ho (fd_plain hd) hcd hmg hobj hints hlen hg rfl F X) (fun f s' hq => ?_) (fun _ _ hq => hq)
    obtain ⟨rfl, h2, h3, h4⟩ := hq
    exact ⟨.inl ⟨.bool true, .bool true, [], rfl, fun _ => rfl, .bool true, post_true l _, fun _ => ⟨List.Pairwise.nil, fun _ hm => (nomatch hm)⟩⟩, h2, h3, h4⟩

/-! ### rules over ANY heap (no ledger) from facts about the written part K: the library's own take a ledger (News) for what they write -/
section
variable {prog : Program} {w : World} {A : Around} {E : Value → Shared → Prop} {s : Shared} {K : Frag}

/-- a def of the module, or a method (qual 'C.m'), entered: the frame is the next address; cells behind it -/
theorem call_fn {R : Result → Shared → Prop} {name qual : Str} {params : Arguments} {body : List Stmt} {scope : Scope} {dV kV doc pm cdv ct oc : Value} {an od : Option Addr} {osl : Array (Option Value)} {f : Addr} {args : Args} {binds : List (Str × Value)}
    (X : K.In s.heap) (hlim : s.heap.NoLimit) (ho : K.lookup f = some ⟨oc, od, .func (fnOf name qual params body scope dV kV doc pm an cdv ct), osl⟩) (hcd : codeIn K cdv qual = true) (hroom : A.depth < recursionLimit)
    (hbind : BindsTo s (fnOf name qual params body scope dV kV doc pm an cdv ct) args binds)
    (hkind : (binds.all fun y => scope.names.lookup y.1 == some .local || scope.names.lookup y.1 == some .cell) = true)
    (h : ∀ s₁, InCallC s s.heap.objs.size (bindL (envOfC qual scope s.heap.objs.size f cdv).kindOf binds fun _ => none) (cellsFrom (s.heap.objs.size + 1) scope.names [])
        (bindC (envOfC qual scope s.heap.objs.size f cdv).kindOf binds fun _ => none) s₁ →
      wpAny (model prog w) (A.deeper (envOfC qual scope s.heap.objs.size f cdv)) (execs body (envOfC qual scope s.heap.objs.size f cdv))
        (fun fl s' => R (.ok (.ret (match fl with | .ret v => v | _ => .none))) s')
        (fun e s' => wpAny (model prog w) (A.deeper (envOfC qual scope s.heap.objs.size f cdv)) (leaving (envOfC qual scope s.heap.objs.size f cdv) e) (fun _ s'' => R (.error e) s'') (fun e' s'' => R (.error e') s'') s') s₁)
    (hco : scope.isCoroutine = false) (hgen : scope.isGenerator = false) (hk : scope.kind = .function) : codeAny (model prog w) A (.call (.ref f) args) R s := by
  refine codeAny_call_function hroom (X _ _ ho) rfl hco hgen rfl (codeRec_of X hcd) (hbind _ _ _ _ ?_)
  refine wpAny_newFunctionEnv_cells hk (kindsX hkind _) fun env he s₁ x => ?_
  subst he
  exact ⟨hlim.keeps x.toInCall.keep, codeAny_func (h s₁ x)⟩

/-- C(..): dict at size, instance at size + 1, then __init__ -/
theorem make_obj {R : Result → Shared → Prop} {C fI : Addr} {rest : List Value} {kw : List (Str × Value)}
    (X : K.In s.heap) (hm : makesIn K C = true) (hi : findIn K (.ref C) "__init__" = some (some (.ref fI))) (hf : isFn K (.ref fI) = true)
    (h : codeAny (model prog w) (A.under (.builtin "type.__call__" ⟨.ref C :: rest, kw⟩)) (.call (.ref fI) ⟨.ref (s.heap.objs.size + 1) :: rest, kw⟩) (InitBack (s.heap.objs.size + 1) R)
      { s with heap := (s.heap.push emptyDict).push (instObj C s.heap.objs.size) }) : codeAny (model prog w) A (.call (.ref C) ⟨rest, kw⟩) R s := by
  obtain ⟨hh, g, d, t, os⟩ := s
  exact make_core (makes_of X hm) (looks_findIn X hi) (fun self => bind_fn X self (beq_iff_eq.mp hf)) (.inl rfl) h

/-- x.name where the instance's dict holds the name and the class does not -/
theorem get_field {x C : Addr} {ox : Obj} {es : List DictEntry} {n : Nat} {name : Str} {expr : Bool} {v : Value} {Q : Value → Shared → Prop}
    (X : K.In s.heap) (I : PySem.W.InstAt s.heap x ox C (some (dictOf es n))) (hg : plainGet K C name = true) (hh : hasDictIn K C = true) (ha : findIn K (.ref C) name = some none)
    (hl : getL name es = some (some v)) (hv : handedIn v = true) (h : Q v { s with toks := s.toks + 1 }) : wpAny (model prog w) A (getAttr (.ref x) name expr) Q E s :=
  get_value X I (plainGet_of hg).1 (findObj_own hh ha rfl hl) hv h

/-- x.m(..): the method found in the class -/
theorem get_method {x C f : Addr} {ox : Obj} {es : List DictEntry} {n : Nat} {name : Str} {pl : Sem Bool} {Q : Value × List Value → Shared → Prop}
    (X : K.In s.heap) (I : PySem.W.InstAt s.heap x ox C (some (dictOf es n))) (hg : plainGet K C name = true) (hf : findIn K (.ref C) name = some (some (.ref f))) (ht : isFn K (.ref f) = true)
    (hl : getL name es = some none) (h : Q (.ref f, [.ref x]) s) : wpAny (model prog w) A (getMethod (.ref x) name pl) Q E s :=
  method_fn X I (plainGet_of hg).1 (plainGet_of hg).2 hf (beq_iff_eq.mp ht) (by show (lookIn name (dictOf es n)).map _ = _; rw [lookIn_dict, hl]; rfl) h

/-! the whole heap as the ledger: makes every rule that writes through a ledger a rule over any heap -/
def noObjs (h : Heap) : Heap := { h with objs := #[] }
theorem noObjs_get (h : Heap) (b : Addr) : (noObjs h).get? b = none := by
  cases e : (noObjs h).get? b with
  | none => rfl
  | some o => exact absurd (Heap.lt_size e) (Nat.not_lt_zero _)
def ledger (h : Heap) (L d : Addr) : List (Addr × Obj) := (List.range h.objs.size).filterMap fun a => if a = L ∨ a = d then none else (h.get? a).map fun o => (a, o)
theorem mem_ledger {h : Heap} {L d a : Addr} {o : Obj} : (a, o) ∈ ledger h L d ↔ a ≠ L ∧ a ≠ d ∧ h.get? a = some o := by
  unfold ledger
  rw [List.mem_filterMap]
  constructor
  · rintro ⟨b, _, e⟩
    split at e
    · cases e
    · rename_i hb
      obtain ⟨o', ho, e'⟩ := Option.map_eq_some_iff.mp e
      cases e'
      exact ⟨fun q => hb (.inl q), fun q => hb (.inr q), ho⟩
  · rintro ⟨n1, n2, ho⟩
    refine ⟨a, List.mem_range.mpr (Heap.lt_size ho), ?_⟩
    rw [if_neg (show ¬ (a = L ∨ a = d) from fun q => q.elim n1 n2), ho] <;> rfl
theorem news_ledger {h : Heap} {L d : Addr} {od : Obj} (hne : d ≠ L) (ho : h.get? d = some od) : News (noObjs h) L h ([] ++ (d, od) :: ledger h L d) := by
  rintro ⟨a, o⟩ hp
  rcases List.mem_cons.mp hp with e | hp
  · cases e
    exact ⟨ho, hne, noObjs_get _ _⟩
  · obtain ⟨n1, n2, e⟩ := mem_ledger.mp hp
    exact ⟨e, n1, noObjs_get _ _⟩
theorem fr_all {h : Heap} {L : Addr} {m : Str → Option Value} (n : h.Ns L m) : Fr (noObjs h) L h m :=
  ⟨n, fun b o e => (by rw [noObjs_get] at e; cases e), Nat.zero_le _⟩
/-- Upd of the head entry (for append_K, setItem_K ..) -/
theorem upd_ledger {h : Heap} {L d : Addr} {o o' : Obj} : Upd d o o' ((d, o) :: ledger h L d) ((d, o') :: ledger h L d) :=
  .head fun ⟨_, _⟩ hp => (mem_ledger.mp hp).2.1

/-- x.name = v over any heap: L is any namespace of the heap (the frame's, say): its map stays, its object is not told; all else but the dict stays -/
theorem set_field {x C dx L : Addr} {ox : Obj} {m : Str → Option Value} {es es' : List DictEntry} {n n' : Nat} {name : Str} {v : Value} {Q : Unit → Shared → Prop}
    (X : K.In s.heap) (I : PySem.W.InstAt s.heap x ox C (some (dictOf es n))) (hd : ox.dict = some dx) (hL : s.heap.Ns L m) (hne : dx ≠ L)
    (hs : findIn K (.ref C) "__setattr__" = some (some (.builtin "object.__setattr__"))) (hp : plainOver K C = true) (ht : takerIn K C name = some none) (hh : hasDictIn K C = true) (hl : (getL name es).isSome = true)
    (e : (putL name (PyData.keyHash w.params name) (.str name (s.toks + 1)) v es, putN name es n) = (es', n')) (hz : es'.length ≤ 1000)
    (h : ∀ h' : Heap, h'.Ns L m → h'.get? dx = some (dictOf es' n') → (∀ b o, b ≠ dx → b ≠ L → s.heap.get? b = some o → h'.get? b = some o) → Q () { s with heap := h', toks := s.toks + 2 }) :
    wpAny (model prog w) A (setAttr (.ref x) name v) Q E s := by
  obtain ⟨e1, e2⟩ := Prod.mk.inj e
  have hdx : s.heap.get? dx = some (dictOf es n) := by
    have := I.dict
    rw [hd] at this
    exact this
  refine set_plain X I hs (osa_dict (s := { s with toks := s.toks + 1 }) (h₀ := noObjs s.heap) (L := L) (m := m) (od := dictOf es n) (od' := dictOf es' n') (es := es') (n := n') (pre := []) (post := ledger s.heap L dx)
    (fr_all hL) (news_ledger hne hdx) X I hd hp ht hh hl (fun _ q => nomatch q) (fun ⟨_, _⟩ q => (mem_ledger.mp q).2.1) (by rw [putName_dict, e1, e2]) rfl hz fun h' F' N' => ?_)
  exact h h' F'.ns (N'.get (List.Mem.head _)) fun b o n1 n2 ho => N'.get (List.Mem.tail _ (mem_ledger.mpr ⟨n2, n1, ho⟩))
end
end Att

namespace L2
open PySem PySem.Spec PyProof.Rows

theorem vals_ints : ∀ {vs : List Value} {ns : List Int}, IntsAre vs ns → Vals (ns.map V.int) vs
  | _, _, .nil => .nil
  | _, _, .cons n t h => .cons ⟨t, rfl⟩ (vals_ints h)

/-- nothing is tracked but the script, known to the object (or it is an object of the module) -/
def Only (H : Hp) : Prop := ∀ b, H b = none ∨ ∃ o xs, H b = some (.frz o (.lst xs))

/-- THE HEAD: the law's promise, at the heap behind the top. F, the promise of the law's def, may use that base is part of the heap (so K.In base, base.Ns mainGlobals mg stand in Mod) -/
theorem law_call {P : Program} {w : World} {K : PySem.W.Frag} {mg mb : Str → Option Value} {CX : CXT} {k : Nat} {fa a : Addr} {fd : FuncData} {x : Str} {sp : Sp} {s₁ : Shared} {vs : List Value} {ns : List Int}
    (KX : K.In s₁.heap) (hns : s₁.heap.Ns mainGlobals mg) (hb : s₁.heap.Ns builtinsNs mb) (hbb : ∀ x : Str, x ≠ "__name__" → mb x = bootBuiltins x) (hlim : s₁.heap.NoLimit) (hg : s₁.gens = #[])
    (ha : s₁.heap.get? a = some { cls := .type "list", data := .seq vs.toArray }) (hi : IntsAre vs ns) (hl : ns.length ≤ sizeLine) (hr : Room k callerA)
    (F : ∀ base : Heap, K.In base → base.Ns mainGlobals mg → FnOk P w K mg base CX k fa fd [x] sp) (hbind : ∀ (s : Shared) (u : Value), BindsTo s fd ⟨[u], []⟩ [(x, u)])
    (hsp : ∀ H : Hp, Only H → SqL K H a (ns.map V.int) → sp [.ref a] H (fun v _ => v = .bl true) fun _ _ _ => False)
    (hCX : ∀ H e s', CX [] H s₁ (fun _ _ _ => False) e s' → False) :
    codeAny (model P w) callerA (.call (.ref fa) ⟨[.ref a], []⟩) (fun r s' => r = .ok (.ret (.bool true)) ∧ OldK s₁.heap s'.heap ∧ s'.os = s₁.os ∧ AllBare s'.gens) s₁ := by
  have rv := vals_ints hi
  have lenV := hi.length
  -- from an abstract heap in which nothing but the script may be tracked
  have core : ∀ H : Hp, Only H → SqL K H a (ns.map V.int) → HOk P w H s₁.heap → (∀ b, H b ≠ none → b = a) → (H a ≠ none → K.lookup a = none) →
      codeAny (model P w) callerA (.call (.ref fa) ⟨[.ref a], []⟩) (fun r s' => r = .ok (.ret (.bool true)) ∧ OldK s₁.heap s'.heap ∧ s'.os = s₁.os ∧ AllBare s'.gens) s₁ := by
    intro H hO hS hok hA hK
    have base_of : ∀ {b : Addr} {o : Obj}, s₁.heap.get? b = some o → H b = none → (hidT s₁.heap H).get? b = some o := fun e n => hidT_get e n
    have noA : ∀ {b : Addr} {o : Obj} {es : Array DictEntry} {ep : Nat}, s₁.heap.get? b = some o → o.data = .dict es ep → H b = none := fun {b o es ep} e d => by
      cases q : H b with
      | none => rfl
      | some u =>
        have e' : b = a := hA b (by rw [q]; simp)
        subst e'
        rw [ha] at e; cases e
        have d' : Data.seq vs.toArray _ = Data.dict es ep := d
        cases d'
    have nsK : ∀ {b : Addr} {m : Str → Option Value}, s₁.heap.Ns b m → (hidT s₁.heap H).Ns b m := fun {b m} ⟨o, es, ep, e, d, r⟩ => ⟨o, es, ep, base_of e (noA e d), d, r⟩
    have hKb : K.In (hidT s₁.heap H) := fun b o e => base_of (KX b o e) (by
      cases q : H b with
      | none => rfl
      | some u =>
        have e' : b = a := hA b (by rw [q]; simp)
        subst e'
        rw [hK (by rw [q]; simp)] at e; cases e)
    have hM : Mod K mg (hidT s₁.heap H) := ⟨hKb, nsK hns, ⟨mb, nsK hb, hbb⟩, let ⟨mc, h1, h2⟩ := hlim; ⟨mc, nsK h1, h2⟩⟩
    have e0 : Env0 P w K mg (hidT s₁.heap H) callerA [] s₁ H := ⟨rfl, hM, fun b o e => of_hidT e, Nat.le_of_eq (hidT_size _ _), trivial, fun b hb => absurd (show b ∈ ([] : List Addr) from hb) (by simp), hok, .of_eq hg⟩
    refine codeAny_mono ((F _ hKb (nsK hns)).run callerA [] s₁ H ⟨[.ref a], []⟩ [.ref a] [.ref a] _ _ hr e0 (hbind s₁ (.ref a)) (.cons rfl .nil) (hsp H hO hS)) fun r s' h => ?_
    cases r with
    | error e => exact (hCX H e s' h).elim
    | ok fl =>
      cases fl with
      | next => exact False.elim h
      | brk => exact False.elim h
      | cont => exact False.elim h
      | ret u =>
        obtain ⟨v, H', os, bare, un, hok', r', q⟩ := h
        have q' : v = .bl true := q
        subst q'
        obtain rfl : u = Value.bool true := r'
        refine ⟨rfl, OldK.of_keep fun b o e => ?_, os, bare⟩
        cases q : H b with
        | none => exact un.keep b o e q (by intro z; exact absurd (show b ∈ ([] : List Addr) from z) (by simp)) (by simp)
        | some u =>
          rcases hO b with z | ⟨ob, xs, z⟩
          · rw [q] at z; cases z
          · have z2 := un.frzs b ob _ z
            obtain ⟨e1, _⟩ := hok b _ z
            obtain ⟨e2, _⟩ := hok' b _ z2
            rw [e] at e1; cases e1
            exact e2
  cases hk : K.lookup a with
  | some o =>
    -- the script is one of the module's own objects
    have e := KX a o hk
    rw [ha] at e
    cases e
    refine core (fun _ => none) (fun _ => .inl rfl) (.inr ⟨_, vs.toArray, _, hk, rfl, rfl, rfl, by rw [List.size_toArray, lenV]; exact hl, by simpa using rv⟩) (fun b u z => by have z' : (none : Option HO) = some u := z; cases z') (fun b z => absurd rfl z) fun z => absurd rfl z
  | none =>
    refine core (fun b => if b = a then some (.frz { cls := .type "list", data := .seq vs.toArray } (.lst (ns.map V.int))) else none) (fun b => ?_) (.inl (.inr ⟨{ cls := .type "list", data := .seq vs.toArray }, if_pos rfl⟩)) (fun b u z => ?_) (fun b z => ?_) fun _ => hk
    · by_cases hb : b = a
      · exact .inr ⟨_, _, if_pos hb⟩
      · exact .inl (if_neg hb)
    · by_cases hb : b = a
      · have z' := (if_pos hb).symm.trans z
        cases z'
        subst hb
        exact ⟨ha, by rw [List.length_map]; exact hl, vs, _, rv, ha⟩
      · have z' := (if_neg hb).symm.trans z
        cases z'
    · by_cases hb : b = a
      · exact hb
      · exact absurd (if_neg hb) z
end L2

namespace L2
open PySem PySem.Spec PyProof.Rows

abbrev KOf {K : PySem.W.Frag} {h : Heap} (_ : K.In h) : PySem.W.Frag := K

/-- the goal that k_head leaves (case hc), from the law's promise. F gives the function object fd (K's own) once, then the promise over every base -/
theorem walk_of {l : PySem.W.OpenLaw} {n k : Nat} {q : Program} {loose : List Str} {XP : (Str → Option Value) → Heap → Prop} {YP : World → Heap → Prop} {d : DefRec} {K : Params → PySem.W.Frag} {CX : World → CXT} {sp : World → Sp} {x : Str}
    (hn : l.most = some n) (hn2 : n ≤ sizeLine) (hdf : d.params.defaults = []) (hr : Room k callerA)
    (hY : ∀ (w : World) (h : Heap), YP w h → (K w.params).In h)
    (F : ∀ (w : World) (mg : Str → Option Value) (fa : Addr) (h : Heap), (K w.params).In h → h.Ns mainGlobals mg → mg d.name = some (.ref fa) →
      ∃ fd : FuncData, (∀ (s : Shared) (u : Value), BindsTo s fd ⟨[u], []⟩ [(x, u)]) ∧
        ∀ base : Heap, (K w.params).In base → base.Ns mainGlobals mg → FnOk l.prog w (K w.params) mg base (CX w) k fa fd [x] (sp w))
    (hsp : ∀ (w : World) (H : Hp) (a : Addr) (ns : List Int), ns.length ≤ n → Only H → SqL (K w.params) H a (ns.map V.int) → sp w [.ref a] H (fun v _ => v = .bl true) fun _ _ _ => False)
    (hCX : ∀ (w : World) (H : Hp) (s : Shared) (e : Value) (s' : Shared), CX w [] H s (fun _ _ _ => False) e s' → False) :
    PySem.W.WalkO q loose XP YP l.row.toRowW d [] (fun f vs => PySem.call f vs) := by
  refine Att.attach_call hn hdf fun w s₀ s₁ mg mb fa o pm cd doc a vs ns G Y ho hd hcd hmg hobj hints hlen hg => ?_
  have KX := hY w _ Y
  obtain ⟨fd, hb, hF⟩ := F w mg fa _ KX G.T.g hmg
  exact law_call KX G.T.g G.T.b G.T.builtins G.T.nolimit hg hobj hints (Nat.le_trans hlen hn2) hr hF hb (fun H hO hS => hsp w H a ns hlen hO hS) fun H e s' => hCX w H s₁ e s'
/-- the same where the promise hangs on the written part alone: (sp := My.sp_law), no hole under a binder -/
theorem walk_ofK {l : PySem.W.OpenLaw} {n k : Nat} {q : Program} {loose : List Str} {XP : (Str → Option Value) → Heap → Prop} {YP : World → Heap → Prop} {d : DefRec} {K : Params → PySem.W.Frag} {CX : CXT} {sp : PySem.W.Frag → Sp} {x : Str}
    (hn : l.most = some n) (hn2 : n ≤ sizeLine) (hdf : d.params.defaults = []) (hr : Room k callerA)
    (hY : ∀ (w : World) (h : Heap), YP w h → (K w.params).In h)
    (F : ∀ (w : World) (mg : Str → Option Value) (fa : Addr) (h : Heap), (K w.params).In h → h.Ns mainGlobals mg → mg d.name = some (.ref fa) →
      ∃ fd : FuncData, (∀ (s : Shared) (u : Value), BindsTo s fd ⟨[u], []⟩ [(x, u)]) ∧
        ∀ base : Heap, (K w.params).In base → base.Ns mainGlobals mg → FnOk l.prog w (K w.params) mg base CX k fa fd [x] (sp (K w.params)))
    (hsp : ∀ (K : PySem.W.Frag) (H : Hp) (a : Addr) (ns : List Int), ns.length ≤ n → Only H → SqL K H a (ns.map V.int) → sp K [.ref a] H (fun v _ => v = .bl true) fun _ _ _ => False)
    (hCX : ∀ (H : Hp) (s : Shared) (e : Value) (s' : Shared), CX [] H s (fun _ _ _ => False) e s' → False) :
    PySem.W.WalkO q loose XP YP l.row.toRowW d [] (fun f vs => PySem.call f vs) :=
  walk_of (K := K) (CX := fun _ => CX) (sp := fun w => sp (K w.params)) hn hn2 hdf hr hY F (fun w H a ns h1 h2 h3 => hsp (K w.params) H a ns h1 h2 h3) fun _ H s e s' => hCX H s e s'
end L2

/- THE LAST THEOREM (shape; LID, My.* are yours):
   My.Adr: a structure of the addresses that your layer names (classes, functions); My.Txt K t: a structure (Prop) of the equations over K;
   My.txt_mk : {K} {implicit addresses ..} (e1 : nsIn K mainGlobals "law" = some (some (.ref f))) (e2 : K.lookup f = some ⟨oc, od, .func (fnOf "law" "law" params body scope dV kV doc pm an cdv ct), sl⟩) (e3 : codeIn K cdv "law" = true) .. : ∃ t, My.Txt K t

set_option maxRecDepth 100000 in
set_option maxHeartbeats 0 in
theorem PySem.Challenge.cw_LID_holds : PySem.Challenge.rw_LID.Holds := by
  w_on; o_law; k_head; (case hw => w_witness2)
  k_fill
  refine L2.walk_of (l := PySem.Challenge.rw_LID) (n := 63) (k := 40) (x := "script") (CX := fun w => ..) (sp := fun _ => My.sp_law) rfl (by decide) rfl ⟨rfl, by decide, by decide⟩ (fun w h Y => PySem.W.kIn_of Y) ?F ?S ?C
  case F =>
    intro w mg fa h KX G hmg
    have T : ∃ t, My.Txt (L2.KOf KX) t := by
      dsimp only [L2.KOf]                          -- K must stand as «<heap const> w.params» for k_is
      refine' My.txt_mk ?e1 ?e2 ?e3 ..
      (case e1 => PySem.W.k_is)                    -- in the order: a name -> its address -> its object -> its parts
      (case e2 => PySem.W.k_is)
      ..
    obtain ⟨t, T⟩ := T
    have e0 := hmg.symm.trans (PySem.W.mg_of KX G T.law)
    cases e0                                       -- fa is the law's own address
    exact ⟨_, fun s u => .of_eq rfl, fun base kb nb => My.law_fn T kb nb⟩     -- if «.of_eq rfl» comes too early: refine' ⟨_, ?b, fun base kb nb => My.law_fn T kb nb⟩; exact fun s u => .of_eq rfl
  case S => exact fun w H a ns hl hO hS => ..
  case C => exact ..
(the tactic k_is has no namespace: write k_is) -/

/-! SHORT WORDS over the layer: a def of the text, its body, what a loop and a test want. -/
namespace L2
open PySem PySem.Spec PyProof.Rows

/-! ### the text by places -/
/-- the j-th statement of a class's body -/
def inClass (s : Stmt) (j : Nat) : Stmt := match s with
  | .ClassDef _ _ _ body _ _ _ _ _ _ _ => body.getD j (.Pass ⟨0, 0, 0, 0⟩)
  | _ => .Pass ⟨0, 0, 0, 0⟩
def defArgs (s : Stmt) : Arguments := match s with
  | .FunctionDef _ a _ _ _ _ _ _ _ _ => a
  | _ => { posonlyargs := [], args := [], vararg := none, kwonlyargs := [], kw_defaults := [], kwarg := none, defaults := [] }
def defBody (s : Stmt) : List Stmt := match s with
  | .FunctionDef _ _ b _ _ _ _ _ _ _ => b
  | _ => []
def defScope (s : Stmt) : Scope := match s with
  | .FunctionDef _ _ _ _ _ _ sc _ _ _ => sc
  | _ => { kind := .function, names := [], isGenerator := false, isCoroutine := false }

/-! ### no exception leaves a def -/
abbrev CX0 : CXT := fun _ _ _ _ _ _ => False
abbrev E0 : XK := fun _ _ _ => False
theorem pass0 {X : Cx} : Passes CX0 X E0 := fun _ _ _ _ _ _ _ h => h.elim

/-! ### a def (or method) of the text as it stands behind the top -/
structure Fun (K : PySem.W.Frag) (x qual : Str) (st : Stmt) (f : Addr) (fd : FuncData) : Prop where
  ex : ∃ (oc : Value) (od : Option Addr) (kV doc pm : Value) (an : Option Addr) (cdv ct : Value) (osl : Array (Option Value)),
    fd = PySem.W.fnOf x qual (defArgs st) (defBody st) (defScope st) .none kV doc pm an cdv ct ∧ K.lookup f = some ⟨oc, od, .func fd, osl⟩ ∧ PySem.W.codeIn K cdv qual = true
  kp : PySem.W.keepIn K (.ref f) = true
section
variable {P : Program} {w : World} {K : PySem.W.Frag} {mg : Str → Option Value} {base : Heap}
/-- THE RULE for a def: its body as a term of rules, and the reading of that term -/
theorem Fun.ok {x qual : Str} {st : Stmt} {f : Addr} {fd : FuncData} {N ps : List Str} {k : Nat} {sp : Sp} (F : Fun K x qual st f fd) (S : FnScope N ps (defScope st)) (len : ∀ vs H Q E, sp vs H Q E → vs.length = ps.length)
    (hbody : ∀ (cdv : Value) (A : Around) (outer : List Env) (s : Shared) (H : Hp) (vs : List V) (Q : VK) (E : XK), Room k (A.deeper (envOfC qual (defScope st) s.heap.objs.size f cdv)) → sp vs H Q E →
      ∃ t, PSs (cxOf CX0 P w K mg base N qual (defScope st) f cdv A outer s H E).nox (defBody st) t ∧ t { nx := fun _ H' => Q .non H', rt := Q } (start N vs) H) : FnOk P w K mg base CX0 (k + 1) f fd ps sp := by
  obtain ⟨oc, od, kV, doc, pm, an, cdv, ct, osl, rfl, lk, hcd⟩ := F.ex
  refine fn_of lk hcd S len fun A outer s H vs Q E hr hsp => ?_
  obtain ⟨t, h, q⟩ := hbody cdv A outer s H vs Q E hr hsp
  exact ⟨t, h.nox, q⟩
/-- how its arguments bind (no defaults): h is «fun _ _ _ _ _ _ us hl => match us, hl with | [_, _], _ => rfl», one _ a parameter -/
theorem Fun.binds {x qual : Str} {st : Stmt} {f : Addr} {fd : FuncData} {ps : List Str} (F : Fun K x qual st f fd)
    (h : ∀ (kV doc pm : Value) (an : Option Addr) (cdv ct : Value) (us : List Value), us.length = ps.length → bindArgs (PySem.W.fnOf x qual (defArgs st) (defBody st) (defScope st) .none kV doc pm an cdv ct) ⟨us, []⟩ = pure (ps.zip us)) : Binds K fd ps [] := by
  obtain ⟨oc, od, kV, doc, pm, an, cdv, ct, osl, rfl, lk, hcd⟩ := F.ex
  exact .all (h kV doc pm an cdv ct)
theorem fun_mk {x qual : Str} {st : Stmt} {f : Addr} {oc : Value} {od an : Option Addr} {osl : Array (Option Value)} {kV doc pm cdv ct : Value} (l : K.lookup f = some ⟨oc, od, .func (PySem.W.fnOf x qual (defArgs st) (defBody st) (defScope st) .none kV doc pm an cdv ct), osl⟩)
    (c : PySem.W.codeIn K cdv qual = true) (k : PySem.W.keepIn K (.ref f) = true) : Fun K x qual st f (PySem.W.fnOf x qual (defArgs st) (defBody st) (defScope st) .none kV doc pm an cdv ct) := ⟨⟨oc, od, kV, doc, pm, an, cdv, ct, osl, rfl, l, c⟩, k⟩
end
theorem hu_of {A : Around} {k : Nat} (hr : Room k A) : A.units + 1 < cLine := Nat.lt_of_le_of_lt (Nat.add_le_add_left (by decide : 1 ≤ 64) _) hr.units
theorem small1000 {n : Nat} (h : n ≤ 1000) : n < sizeLine := Nat.lt_of_le_of_lt h (by decide)

/-! ### expressions in short: the name that stands in the i-th slot -/
section
variable {X : Cx}
theorem pv (i : Nat) {x : Str} {pos : Pos} (hN : X.N[i]? = some x := by rfl) (hv : Vis X.env.scope x := by first | exact Or.inl rfl | exact Or.inr (Or.inl rfl) | exact Or.inr (Or.inr rfl)) (hd : (x == ("__debug__" : Str)) = false := by decide)
    (hcd : (x == ("__classdict__" : Str)) = false := by decide) : PE X (.Name x pos) (tVar i) := pe_var hN hv hd hcd
end

/-! ### tests -/
theorem iteF {A B : Prop} (h : B) : if false = true then A else B := by
  rw [if_neg Bool.false_ne_true]
  exact h
theorem iteT {A B : Prop} (h : A) : if true = true then A else B := by
  rw [if_pos rfl]
  exact h
theorem ite2 {c A B : Prop} [Decidable c] (h1 : c → A) (h2 : ¬ c → B) : if c then A else B := by
  by_cases h : c
  · rw [if_pos h]
    exact h1 h
  · rw [if_neg h]
    exact h2 h
theorem iteNS {c A B : Prop} [Decidable c] (hc : c) (h : B) : if (!decide c) = true then A else B := by
  rw [decide_eq_true hc]
  exact iteF h

/-! ### heaps -/
/-- all that was tracked is as it was -/
def Same (H H' : Hp) : Prop := ∀ b o, H b = some o → H' b = some o
theorem Same.refl (H : Hp) : Same H H := fun _ _ h => h
theorem Same.trans {H H1 H2 : Hp} (a : Same H H1) (b : Same H1 H2) : Same H H2 := fun c o h => b c o (a c o h)
theorem Same.free {H H' : Hp} (e : Same H H') {l : Addr} (h : H' l = Option.none) : H l = Option.none := by
  cases q : H l with
  | none => rfl
  | some o =>
    rw [e l o q] at h
    cases h
theorem Same.seq {K : PySem.W.Frag} {H H' : Hp} {a : Addr} {xs : List V} (e : Same H H') (h : SqL K H a xs) : SqL K H' a xs := by
  rcases h with (h | ⟨o, h⟩) | h
  · exact .inl (.inl (e _ _ h))
  · exact .inl (.inr ⟨o, e _ _ h⟩)
  · exact .inr h

end L2

set_option Elab.async false
set_option linter.all false
set_option maxRecDepth 100000
set_option maxHeartbeats 4000000
namespace ST
open PySem PySem.Spec PyProof.Rows
abbrev TK (prog : Program) (w : World) (h : Heap) (k : List Int) (a : Addr) : Prop := IsTupleKey (intKind prog w) h k a
end ST

set_option Elab.async false
set_option linter.all false
set_option maxRecDepth 100000
set_option maxHeartbeats 4000000
namespace PySem
open PySem.Spec PyProof.Rows
theorem noFill_tup_mul : fillsNumberSlot (.type "tuple") "mul" = pure false :=
  fillsNumberSlot_seq (id := "tuple.__mul__") (r := some (.builtin "tuple.__rmul__")) F.slot_tuple_mul.lookup (by decide +kernel) F.slot_tuple_rmul.lookup (by decide +kernel)
theorem repeat_tup : seqRepeat? (.type "tuple") = pure (some (.builtin "tuple.__mul__")) := by
  have e1 := seqSlot_of (T := "tuple") (name := "__mul__") (id := "tuple.__mul__") F.slot_tuple_mul.lookup (by decide +kernel)
  have e2 := seqSlot_of (T := "tuple") (name := "__rmul__") (id := "tuple.__rmul__") F.slot_tuple_rmul.lookup (by decide +kernel)
  unfold seqRepeat?
  rw [e1, e2]
  rfl
theorem int_rmul_tup (a : Int) (t : Tok) (l : Addr) (o : Obj) {its : Array Value} {n : Nat} (hc : o.cls = .type "tuple") (hdd : o.data = .seq its n) :
    Meets (Builtin.«int.__rmul__» ⟨[.int a t, .ref l], []⟩) (fun _ R s => s.heap.get? l = some o ∧ R (.ok (.ret Value.notImplemented)) s) :=
  .of_wp fun prog w A R s h => by
    obtain ⟨c, d, dt, sl⟩ := o
    simp only at hc hdd
    subst hc hdd
    obtain ⟨hp, g, dr, tk, os⟩ := s
    obtain ⟨hl, h⟩ := h
    wp_walk
    exact ⟨_, rfl, h⟩
section
variable {prog : Program} {w : World} {A : Around} {E : Value → Shared → Prop} {s : Shared}
theorem tup_mul_body {a : Addr} {o : Obj} {its : Array Value} {n : Nat} {k : Int} {t : Tok} {P : Fin → Shared → Prop} (ho : s.heap.get? a = some o) (hc : o.cls = .type "tuple") (hd : o.data = .seq its n) (hne : its.isEmpty = false) (h2 : 2 ≤ k) (hz : (its.size : Int) * k ≤ 1000000) (hk : k ≤ 1000)
    (h : P (.done (.ret (.ref s.heap.objs.size))) { s with heap := s.heap.push { cls := .type "tuple", data := .seq ((List.replicate k.toNat its).foldl (· ++ ·) #[]) } }) (hsz : ((List.replicate k.toNat its).foldl (· ++ ·) #[]).size ≤ sizeLine) :
    wpAny (model prog w) A (Builtin.«tuple.__mul__» ⟨[.ref a, .int k t], []⟩) P E s := by
  show wpAny _ _ (asIndex (.int k t) >>= _) _ _ s
  refine wpAny_bind ?_
  unfold asIndex
  refine wpAny_bind (wpAny_pure ?_)
  dsimp only
  refine wpAny_pure ?_
  have e0 : (decide (k < -(2 ^ 63)) || decide (k ≥ 2 ^ 63)) = false := by
    rw [Bool.or_eq_false_iff]
    refine ⟨decide_eq_false ?_, decide_eq_false ?_⟩
    · omega
    · omega
  rw [e0]
  simp only [Bool.false_eq_true, if_false]
  refine wpAny_bind (wpAny_tupleItemsOf ho hd ?_)
  have e1 : (its.isEmpty || k == 1) = false := by rw [hne, Bool.false_or]; simp; omega
  rw [e1]
  simp only [Bool.false_eq_true, if_false]
  have e2 : (decide (k ≤ 0) || its.isEmpty) = false := by rw [hne, Bool.or_false]; exact decide_eq_false (by omega)
  rw [e2]
  simp only [Bool.false_eq_true, if_false]
  rw [if_neg (by omega)]
  have e3 : Builtin.Tuple.tupleTooMany (its.size * k) = false := by
    unfold Builtin.Tuple.tupleTooMany
    refine decide_eq_false ?_
    have : (1000000 : Int) ≤ (sizeLine : Int) := by decide
    omega
  rw [e3]
  simp only [Bool.false_eq_true, if_false]
  unfold Builtin.Tuple.tupleExact
  exact wpAny_bind (wpAny_newObj_type (wpAny_pure h) hsz)
theorem tup_mul_same {a : Addr} {o : Obj} {its : Array Value} {n : Nat} {t : Tok} {P : Fin → Shared → Prop} (ho : s.heap.get? a = some o) (hc : o.cls = .type "tuple") (hd : o.data = .seq its n) (h : P (.done (.ret (.ref a))) s) :
    wpAny (model prog w) A (Builtin.«tuple.__mul__» ⟨[.ref a, .int 1 t], []⟩) P E s := by
  show wpAny _ _ (asIndex (.int 1 t) >>= _) _ _ s
  refine wpAny_bind ?_
  unfold asIndex
  refine wpAny_bind (wpAny_pure ?_)
  dsimp only
  refine wpAny_pure ?_
  have e0 : (decide ((1 : Int) < -(2 ^ 63)) || decide ((1 : Int) ≥ 2 ^ 63)) = false := by decide
  rw [e0]
  simp only [Bool.false_eq_true, if_false]
  refine wpAny_bind (wpAny_tupleItemsOf ho hd ?_)
  have e1 : (its.isEmpty || (1 : Int) == 1) = true := by simp
  rw [e1]
  simp only [if_true]
  unfold Builtin.Tuple.tupleIsExact
  refine wpAny_bind (wpAny_bind (wpAny_typeOf (T := "tuple") ⟨o, ho, hc⟩ (wpAny_pure ?_)))
  simp only [beq_self_eq_true, if_true]
  exact wpAny_bind (wpAny_rule (wpAny_pure h))
theorem mul_tup {a : Addr} {o : Obj} {its : Array Value} {n : Nat} {k : Int} {t : Tok} {Q : Value → Shared → Prop} (ho : s.heap.get? a = some o) (hc : o.cls = .type "tuple") (hd : o.data = .seq its n) (hne : its.isEmpty = false) (h2 : 2 ≤ k) (hz : (its.size : Int) * k ≤ 1000000) (hk : k ≤ 1000)
    (h : Q (.ref s.heap.objs.size) { s with heap := s.heap.push { cls := .type "tuple", data := .seq ((List.replicate k.toNat its).foldl (· ++ ·) #[]) } }) (hsz : ((List.replicate k.toNat its).foldl (· ++ ·) #[]).size ≤ sizeLine) :
    wpAny (model prog w) A (binaryOp .Mult (.ref a) (.int k t)) Q E s := by
  have hT : s.TypeIs (.ref a) "tuple" := ⟨o, ho, hc⟩
  refine wpAny_binaryOp_repeat_ref (T := "tuple") (U := "int") (by decide) hT (fun s' => typeIs_int s' k t) noFill_tup_mul F.fills_int_mul F.slot_int_rmul repeat_tup F.slot_int_index.lookup
    (call_meets F.slot_int_rmul (typeIs_int s k t) F.entry_int_rmul (F.args_int_rmul_2 _ _) (int_rmul_tup k t a o hc hd) ⟨ho, rfl, hT, ?_⟩)
  exact wpAny_call_entry F.slot_tuple_mul hT F.entry_tuple_mul (tup_mul_body ho hc hd hne h2 hz hk ⟨_, rfl, h⟩ hsz) (F.args_tuple_mul_2 _ _)
theorem mul_tup1 {a : Addr} {o : Obj} {its : Array Value} {n : Nat} {t : Tok} {Q : Value → Shared → Prop} (ho : s.heap.get? a = some o) (hc : o.cls = .type "tuple") (hd : o.data = .seq its n) (h : Q (.ref a) s) : wpAny (model prog w) A (binaryOp .Mult (.ref a) (.int 1 t)) Q E s := by
  have hT : s.TypeIs (.ref a) "tuple" := ⟨o, ho, hc⟩
  refine wpAny_binaryOp_repeat_ref (T := "tuple") (U := "int") (by decide) hT (fun s' => typeIs_int s' 1 t) noFill_tup_mul F.fills_int_mul F.slot_int_rmul repeat_tup F.slot_int_index.lookup
    (call_meets F.slot_int_rmul (typeIs_int s 1 t) F.entry_int_rmul (F.args_int_rmul_2 _ _) (int_rmul_tup 1 t a o hc hd) ⟨ho, rfl, hT, ?_⟩)
  exact wpAny_call_entry F.slot_tuple_mul hT F.entry_tuple_mul (tup_mul_same ho hc hd ⟨_, rfl, h⟩) (F.args_tuple_mul_2 _ _)
end
end PySem

set_option Elab.async false
set_option linter.all false
set_option maxRecDepth 100000
set_option maxHeartbeats 4000000
namespace L2
open PySem PySem.Spec PyProof.Rows

/-! ### a list comprehension of one clause over a name -/
/-- the names a block takes from around it have their cells -/
theorem closure_ok {scope : Scope} {env : Env} (h : ∀ y ∈ scope.names, y.2 = .free → ∃ c, env.cells.lookup y.1 = some c) :
    ∃ cl, closureFor scope env = pure cl ∧ (∀ y c, cl.lookup y = some c → env.cells.lookup y = some c) ∧ ∀ y, (y, NameKind.free) ∈ scope.names → ∃ c, cl.lookup y = some c := by
  unfold closureFor
  have key : ∀ (l : List (Str × NameKind)) (cs : List (Str × Addr)), (∀ y ∈ l, y.2 = .free → ∃ c, env.cells.lookup y.1 = some c) → (∀ y c, cs.lookup y = some c → env.cells.lookup y = some c) →
      ∃ cl, (forIn l cs fun (x : Str × NameKind) (r : List (Str × Addr)) => (if (x.2 == NameKind.free) = true then (do let c ← cellOf env x.1; pure (ForInStep.yield ((x.1, c) :: r))) else pure (ForInStep.yield r) : Sem (ForInStep (List (Str × Addr))))) = pure cl ∧
        (∀ y c, cl.lookup y = some c → env.cells.lookup y = some c) ∧ (∀ y, (y, NameKind.free) ∈ l → ∃ c, cl.lookup y = some c) ∧ (∀ y c, cs.lookup y = some c → ∃ c', cl.lookup y = some c') := by
    intro l
    induction l with
    | nil => intro cs _ hc; exact ⟨cs, rfl, hc, fun y hy => by simp at hy, fun y c e => ⟨c, e⟩⟩
    | cons p l ih =>
      intro cs hl hc
      obtain ⟨n, k⟩ := p
      by_cases hk : (k == NameKind.free) = true
      · have ek : k = .free := eq_of_beq hk
        obtain ⟨c, ec⟩ := hl (n, k) List.mem_cons_self ek
        obtain ⟨cl, e1, e2, e3, e4⟩ := ih ((n, c) :: cs) (fun y hy => hl y (List.mem_cons_of_mem _ hy)) (fun y c' e => by
          rw [List.lookup_cons] at e
          cases hq : y == n with
          | true => rw [hq] at e; cases e; rw [eq_of_beq hq]; exact ec
          | false => rw [hq] at e; exact hc y c' e)
        refine ⟨cl, ?_, e2, fun y hy => ?_, fun y c' e => ?_⟩
        · rw [List.forIn_cons]
          show ((if (k == NameKind.free) = true then _ else _) >>= _) = _
          rw [if_pos hk]
          have ecell : cellOf env n = pure c := by unfold cellOf; rw [ec]
          show (cellOf env n >>= _) >>= _ = _
          rw [ecell]
          simpa using e1
        · rcases List.mem_cons.mp hy with z | hy
          · cases z
            exact e4 n c (by rw [List.lookup_cons]; simp)
          · exact e3 y hy
        · cases hq : y == n with
          | true => exact e4 y c (by rw [List.lookup_cons, hq])
          | false => exact e4 y c' (by rw [List.lookup_cons, hq]; exact e)
      · obtain ⟨cl, e1, e2, e3, e4⟩ := ih cs (fun y hy => hl y (List.mem_cons_of_mem _ hy)) hc
        refine ⟨cl, ?_, e2, fun y hy => ?_, e4⟩
        · rw [List.forIn_cons]
          show ((if (k == NameKind.free) = true then _ else _) >>= _) = _
          rw [if_neg hk]
          simpa using e1
        · rcases List.mem_cons.mp hy with z | hy
          · cases z; exact absurd rfl hk
          · exact e3 y hy
  obtain ⟨cl, e1, e2, e3, _⟩ := key scope.names [] h (fun y c e => by simp at e)
  refine ⟨cl, ?_, e2, e3⟩
  show ((forIn scope.names [] _ : Sem (List (Str × Addr))) >>= _) = _
  have e1' := congrArg (fun m => m >>= (pure : List (Str × Addr) → Sem (List (Str × Addr)))) e1
  simpa using e1

/-- scopes: of the def, of the block; the block's names: its own, then those from around by their slots there -/
structure CompScope (sc scope : Scope) (N : List Str) (x : Str) (caps : List (Str × Nat)) : Prop where
  cell : ∀ y ∈ scope.names, y.2 ≠ .cell
  kind : scope.kind = .function
  names : ∀ y ∈ scope.names, y.2 = .local → scope.names.lookup y.1 = some .local
  hx : scope.names.lookup x = some .local
  free : ∀ y ∈ scope.names, y.2 = .free → sc.names.lookup y.1 = some .cell ∨ sc.names.lookup y.1 = some .free
  cap : ∀ p ∈ caps, N[p.2]? = some p.1 ∧ (p.1, NameKind.free) ∈ scope.names ∧ sc.names.lookup p.1 ≠ some .local
  nd : (x :: caps.map (·.1)).Nodup
  uniq : ∀ p ∈ caps, ∀ z ∈ scope.names, z.1 = p.1 → z.2 = .free

/-- the block's context -/
def compCx (X : Cx) (x : Str) (caps : List (Str × Nat)) (scope : Scope) (cl : List (Str × Addr)) (C : Addr) (s : Shared) (H : Hp) (ex : List Addr) : Cx :=
  { X with N := x :: caps.map (·.1), s₀ := s, H₀ := H, env := compEnvC scope cl C X.env, outer := X.stack, ex := ex, fn := fun _ => false, pn := [], xe := fun _ _ => False }

/-- the tests of a clause -/
def PIf (X : Cx) (ifs : List Expr) (t : TT) : Prop :=
  ∀ (pins : List (Addr × Obj)) (s : Shared) (σ : St) (H : Hp) (Q : Bool → Hp → Prop), Inv X pins σ H s → t σ H Q →
    wpAny (model X.prog X.w) X.A (forIn ifs true fun c r => if r = true then do let ok ← isTrue c X.env (eval c X.env); pure (ForInStep.yield ok) else pure (ForInStep.yield r)) (TP X pins σ Q) X.xe s
def tYes : TT := fun _ H Q => Q true H
theorem pif_nil {X : Cx} : PIf X [] tYes := fun _ _ _ H _ I h => wpAny_tests_nil ⟨H, I, h⟩
theorem pif_one {X : Cx} {c : Expr} {t : TT} (h : PT X c t) : PIf X [c] t := fun pins s σ H Q I hw => wpAny_tests_one (h pins s σ H Q I hw)

/-- the reading: W, the invariant by the turn, a measure, the items so far -/
def tComp (wi : TI) (tt : TT) (te : TE) (caps : List (Str × Nat)) : TE := fun σ H Q => wi σ H fun J H1 => ∃ W : Nat → Nat → List V → Hp → Prop, (∃ m, W 0 m [] H1) ∧ ∀ i m ys H, W i m ys H →
  ys.length ≤ sizeLine ∧ ((J.stop i H ∧ ∀ p, H p = none → Q (.ref p) (upd H p (.lst ys))) ∨
  (J.go i H ∧ ∀ x H', J.yld i H x H' → tt (some x :: caps.map fun p => (σ[p.2]?).join) H' fun ok H2 => if ok = true then te (some x :: caps.map fun p => (σ[p.2]?).join) H2 fun y H3 => ∃ m', m' < m ∧ W (i + 1) m' (ys ++ [y]) H3 else ∃ m', m' < m ∧ W (i + 1) m' ys H2))

theorem relabel_mem {scope : Scope} {env : Env} (hc : ∀ y ∈ scope.names, y.2 ≠ .cell) {y : Str} (h : (relabel scope env).names.lookup y = some .cell ∨ (relabel scope env).names.lookup y = some .free) : (y, NameKind.free) ∈ scope.names := by
  have go : ∀ k, (relabel scope env).names.lookup y = some k → (k = .cell ∨ k = .free) → (y, NameKind.free) ∈ scope.names := fun k e hk => by
    have hm := PySem.mem_of_lookup e
    obtain ⟨⟨n, k0⟩, hp, e2⟩ := List.mem_map.mp hm
    by_cases hq : (k0 == .free && env.scope.kind == .function && env.kindOf n == some .cell) = true
    · have e3 : (n, NameKind.cell) = (y, k) := by rw [← e2]; show _ = if _ then _ else _; rw [if_pos hq]
      cases e3
      have : k0 = .free := by simp only [Bool.and_eq_true] at hq; exact eq_of_beq hq.1.1
      subst this; exact hp
    · have e3 : (n, k0) = (y, k) := by rw [← e2]; show _ = if _ then _ else _; rw [if_neg hq]
      cases e3
      rcases hk with rfl | rfl
      · exact absurd rfl (hc _ hp)
      · exact hp
  rcases h with h | h
  · exact go _ h (.inl rfl)
  · exact go _ h (.inr rfl)
theorem relabel_kind {scope : Scope} {env : Env} : ∀ {names : List (Str × NameKind)} {y : Str}, (y, NameKind.free) ∈ names → (∀ z ∈ names, z.1 = y → z.2 = .free) →
    (names.map fun (n, k) => if (k == NameKind.free && env.scope.kind == .function && env.kindOf n == some .cell) then (n, NameKind.cell) else (n, k)).lookup y = some .cell ∨
    (names.map fun (n, k) => if (k == NameKind.free && env.scope.kind == .function && env.kindOf n == some .cell) then (n, NameKind.cell) else (n, k)).lookup y = some .free
  | [], _, h, _ => by simp at h
  | (n, k) :: r, y, h, u => by
    rw [List.map_cons]
    show List.lookup y ((if (k == NameKind.free && env.scope.kind == .function && env.kindOf n == some .cell) = true then (n, NameKind.cell) else (n, k)) :: _) = _ ∨ List.lookup y ((if (k == NameKind.free && env.scope.kind == .function && env.kindOf n == some .cell) = true then (n, NameKind.cell) else (n, k)) :: _) = _
    cases hq : y == n with
    | true =>
      have e : n = y := (eq_of_beq hq).symm
      have ek : k = .free := u (n, k) List.mem_cons_self e
      by_cases hc : (k == NameKind.free && env.scope.kind == .function && env.kindOf n == some .cell) = true
      · rw [if_pos hc]; left; simp [List.lookup_cons, hq]
      · rw [if_neg hc]; right; simp [List.lookup_cons, hq, ek]
    | false =>
      have hy : (y, NameKind.free) ∈ r := by
        rcases List.mem_cons.mp h with z | z
        · cases z; simp at hq
        · exact z
      have ih := relabel_kind (scope := scope) (env := env) hy fun z hz => u z (List.mem_cons_of_mem _ hz)
      by_cases hc : (k == NameKind.free && env.scope.kind == .function && env.kindOf n == some .cell) = true
      · rw [if_pos hc]; simpa [List.lookup_cons, hq] using ih
      · rw [if_neg hc]; simpa [List.lookup_cons, hq] using ih
/-- a new record of ours is tracked from now on -/
theorem Inv.track {X : Cx} {pins : List (Addr × Obj)} {σ : St} {H : Hp} {s : Shared} {D : Addr} {o : HO} (I : Inv X pins σ H s) (hn : H D = none) (h1 : X.s₀.heap.objs.size ≤ D) (h2 : D ≠ X.env.locals) (h3 : ∀ x c, X.env.cells.lookup x = some c → c ≠ D) (h4 : ∀ p ∈ X.pn ++ pins, p.1 ≠ D)
    (new : ObjOk X.prog X.w (upd H D o) s.heap D o) : Inv X pins σ (upd H D o) s := by
  have nD : ∀ b u, H b = some u → b ≠ D := fun b u e => ne_of_none e hn
  obtain ⟨h', g', d', t', o'⟩ := s
  refine I.step (h' := h') (g' := g') (d' := d') (t' := t') (ch := [D]) (fun b hb => ?_) (fun b o _ _ _ e _ => e) (fun b o _ _ _ e _ => ⟨o.slots, e⟩) (fun b o hc e n => ?_) (fun b o _ e => ⟨o, e⟩) (fun b xs e => ?_) (fun b o u e => ?_) (fun b ps e => ?_) (fun m hm => hm) (fun b u e => ?_) I.bare
  · have e : b = D := by simpa using hb
    subst e
    exact ⟨.inr h1, h2, h3, h4⟩
  · rw [upd_ne (fun z => hc (by simp [z]))]; exact n
  · rw [upd_ne (nD _ _ e)]; exact e
  · rw [upd_ne (nD _ _ e)]; exact e
  · exact ⟨#[], by rw [upd_ne (nD _ _ e), e]; simp⟩
  · by_cases hb : b = D
    · subst hb; rw [upd_same] at e; cases e; exact new
    · rw [upd_ne hb] at e
      exact (I.hok b u e).stay (fun _ _ _ q => q) (fun c q => by rw [upd_ne (nD _ _ q)]; exact q) fun c xs q => by rw [upd_ne (nD _ _ q)]; exact q

section
variable {X : Cx} {elt iter : Expr} {x : Str} {px pos : Pos} {ifs : List Expr} {scope : Scope} {caps : List (Str × Nat)} {wi : TI} {tt : TT} {te : TE}

/-- the block begins -/
theorem comp_inv {pins : List (Addr × Obj)} {σ : St} {H : Hp} {s s' : Shared} {cl : List (Str × Addr)} {C : Addr} {fp : List Addr} (S : CompScope X.env.scope scope X.N x caps) (hu : ∀ p ∈ caps, ∀ z ∈ scope.names, z.1 = p.1 → z.2 = .free)
    (I : Inv X pins σ H s) (hcl : ∀ y c, cl.lookup y = some c → X.env.cells.lookup y = some c) (hhas : ∀ y, (y, NameKind.free) ∈ scope.names → ∃ c, cl.lookup y = some c)
    (hf : ∀ b ∈ fp, FpOk X pins H b) (hlt : ∀ b ∈ fp, b < s.heap.objs.size) (hC : s.heap.objs.size ≤ C) (ho : s'.os = s.os) (hg : s'.gens = s.gens) (hk : ∀ b o, s.heap.get? b = some o → s'.heap.get? b = some o) (hn : s'.heap.Ns C (fun _ => none)) :
    Inv (compCx X x caps scope cl C s H fp) [] (none :: caps.map fun p => (σ[p.2]?).join) H s' := by
  have cellK : ∀ y c, cl.lookup y = some c → ∃ v, s'.heap.IsCell c v := fun y c e => by
    obtain ⟨v, o, q, d⟩ := I.cell y c (hcl y c e)
    exact ⟨v, o, hk _ _ q, d⟩
  refine ⟨⟨I.ok.mod, S.kind, I.ok.glob, I.ok.blt, hC, fun y z c h1 h2 => I.ok.inj y z c (hcl y c h1) (hcl z c h2), fun y hy => hhas y (relabel_mem S.cell hy), fun y c z _ => absurd z Bool.false_ne_true, I.ok.hd, I.ok.frames, .inl rfl, fun b hb => ⟨Nat.ne_of_lt (Nat.lt_of_lt_of_le (hlt b hb) hC), fun y c e => (hf b hb).2.2.2.2.1 y c (hcl y c e)⟩,
    I.bs, Nat.le_trans I.ok.bsz I.sz, fun b o e hb => ?_, fun b hb hm => ?_, I.stack, I.stkFree⟩, ho, by rw [hg]; exact I.bare, Un.kept hk, ⟨_, hn, fun i y v h1 h2 h3 => ?_⟩, fun y c e => cellK y c e, I.hok.fresh hC, fun y c e => I.freeC y c (hcl y c e), fun p hp => absurd (show p ∈ ([] : List (Addr × Obj)) from hp) (by simp), I.hok.kept hk, ?_⟩
  · rcases (hf b hb).2.2.2.1 with z | z
    · exact I.ok.noex b o e z
    · exact absurd (Nat.lt_of_lt_of_le (Heap.lt_size e) (Nat.le_trans I.ok.bsz z)) (Nat.lt_irrefl _)
  · rcases List.mem_cons.mp (I.stkSub b hm) with z | z
    · exact (hf b hb).2.1 z
    · exact (hf b hb).2.2.1 z
  · cases i with
    | zero => simp at h2
    | succ i =>
      have h1' : (caps.map (·.1))[i]? = some y := by simpa [compCx] using h1
      rw [List.getElem?_map] at h1'
      have h2' : (caps.map fun p => (σ[p.2]?).join)[i]? = some (some v) := by simpa using h2
      rw [List.getElem?_map] at h2'
      cases hp : caps[i]? with
      | none => rw [hp] at h1'; cases h1'
      | some p =>
        rw [hp] at h1' h2'
        have ey : p.1 = y := Option.some.inj h1'
        have ev : (σ[p.2]?).join = some v := Option.some.inj h2'
        subst ey
        have hmem : p ∈ caps := List.mem_of_getElem? hp
        obtain ⟨c1, c2, c3⟩ := S.cap p hmem
        have eσ : σ[p.2]? = some (some v) := by
          cases q : σ[p.2]? with
          | none => rw [q] at ev; cases ev
          | some w => rw [q] at ev; have : w = some v := ev; rw [this]
        have hfr := S.free _ c2 rfl
        have hv : Vis X.env.scope p.1 := hfr.elim (fun z => .inr (.inl z)) (fun z => .inr (.inr z))
        obtain ⟨m, _, hl⟩ := I.loc
        obtain ⟨u, r, l⟩ := hl p.2 p.1 v c1 eσ hv
        refine ⟨u, r, .inr ⟨relabel_kind (scope := scope) (env := X.env) c2 (hu p hmem), ?_⟩⟩
        obtain ⟨c, ec⟩ := hhas p.1 c2
        refine ⟨c, ec, ?_⟩
        rcases l with ⟨z, _⟩ | ⟨_, c', ec', hcell⟩
        · exact absurd z c3
        · have : c' = c := by rw [hcl _ _ ec] at ec'; exact (Option.some.inj ec').symm
          subst this
          obtain ⟨o, q, d⟩ := hcell
          exact ⟨o, hk _ _ q, d⟩
  · simp [compCx]

/-- a step that is nothing for a name -/
theorem strip_go {M : Model} {A : Around} {E : Value → Shared → Prop} {s : Shared} {it : Value} {t : Sem (Option Value)} {R : Value → Shared → Prop} (h : wpAny M A t (fun r s1 => ∃ u, r = some u ∧ wpAny M A (letOwnedTupleGo (.Name x px) it u) (fun _ s2 => R u s2) E s1) E s) :
    wpAny M A t (fun r s1 => ∃ u, r = some u ∧ R u s1) E s :=
  fun Γ p hΓ => Sem.wp_mono M Γ t (fun r p' s' ⟨u, e, q⟩ => ⟨u, e, q Γ p' hΓ⟩) (fun _ _ _ z => z) p s (h Γ p hΓ)
abbrev lob (its : List Value) (k : Nat) : Obj := { cls := .type "list", data := .seq its.toArray k }
theorem Un.but {fs ex : List Addr} {H H1 : Hp} {h h1 h2 : Heap} {C : Addr} (u : Un fs ex H H1 h h1) (hC : h.objs.size ≤ C) (sb : Heap.SameBut C h1 h2) : Un fs ex H H1 h h2 where
  keep := fun b o e n hb hx => (sb.2 b (Nat.ne_of_lt (Nat.lt_of_lt_of_le (Heap.lt_size e) hC))).trans (u.keep b o e n hb hx)
  slot := fun b o e n hb hx => by
    obtain ⟨sl, q⟩ := u.slot b o e n hb hx
    exact ⟨sl, (sb.2 b (Nat.ne_of_lt (Nat.lt_of_lt_of_le (Heap.lt_size e) hC))).trans q⟩
  free := u.free
  there := fun b o e hx => by
    obtain ⟨o', q⟩ := u.there b o e hx
    exact ⟨o', (sb.2 b (Nat.ne_of_lt (Nat.lt_of_lt_of_le (Heap.lt_size e) hC))).trans q⟩
  tups := u.tups
  frzs := u.frzs
  tbls := u.tbls
theorem HOk.but {P : Program} {w : World} {H : Hp} {h h' : Heap} {C : Addr} (k : HOk P w H h) (hn : H C = none) (sb : Heap.SameBut C h h') : HOk P w H h' := fun a o e =>
  (k a o e).stay (fun b u hb q => (sb.2 b (by
    rcases hb with z | z
    · rw [z]; exact ne_of_none e hn
    · exact ne_of_none z hn)).trans q) (fun _ q => q) fun _ _ q => q

theorem pe_comp0 (hc : X.calm = true) (S : CompScope X.env.scope scope X.N x caps) (hi : PI X (.Name x px) iter wi)
    (ht : ∀ cl C s H fp, PIf (compCx X x caps scope cl C s H fp) ifs tt) (he : ∀ cl C s H fp, PE (compCx X x caps scope cl C s H fp) elt te)
    (hs : ∀ v, foldedSetIterable iter X.env v = pure v := by intro _; rfl) : PE X (.ListComp elt [⟨.Name x px, iter, ifs, 0⟩] scope pos) (tComp wi tt te caps) := by
  intro pins s σ H Q I h
  obtain ⟨cl, hclos, hcl, hhas⟩ := closure_ok (scope := scope) (env := X.env) fun y hy hf => I.ok.has y.1 (S.free y hy hf)
  rw [eval_ListComp]
  refine wpAny_comprehension_free (use := none) rfl hs hclos S.kind S.names (thn (hi pins s σ H _ I h) fun v s1 h1 => thn h1 fun itv s2 h2 => ?_)
  obtain ⟨it, fp, tn, J, H2, rfl, I2, T, st2, f2, W, ⟨m0, w0⟩, turn⟩ := h2
  refine wpAny_newObj_type (wpAny_newFunctionEnv S.cell (by intro y hy; simp at hy) (fun h₁ hns₁ hsb₁ => ?_) S.kind)
  dsimp only at hns₁ hsb₁ ⊢
  generalize hHp : s2.heap.push { cls := .type "list", dict := none, data := .seq ([] : List Value).toArray } = Hq at hns₁ hsb₁ ⊢
  have hCe : Hq.objs.size = s2.heap.objs.size + 1 := by rw [← hHp, Heap.size_push]
  have hDC : s2.heap.objs.size ≠ Hq.objs.size := by rw [hCe]; exact Nat.ne_of_lt (Nat.lt_succ_self _)
  have hC : s2.heap.objs.size ≤ Hq.objs.size := by rw [hCe]; exact Nat.le_succ _
  have old : ∀ b o, s2.heap.get? b = some o → h₁.get? b = some o := fun b o e =>
    hsb₁.extBut b o (Nat.ne_of_lt (Nat.lt_of_lt_of_le (Heap.lt_size e) hC)) (Heap.get?_push_of_some _ (hHp ▸ Heap.get?_push_of_some _ e))
  have hacc : h₁.get? s2.heap.objs.size = some (lob [] 0) := hsb₁.extBut _ _ hDC (Heap.get?_push_of_some _ (hHp ▸ Heap.get?_push_size _ rfl))
  have hlt : ∀ b ∈ fp, b < s2.heap.objs.size := fun b hb => by obtain ⟨o, e, _⟩ := T.obj 0 _ st2 b hb; exact Heap.lt_size e
  generalize hY : compCx X x caps scope cl Hq.objs.size s2 H2 fp = Y
  have PEY : PE Y elt te := hY ▸ he cl _ s2 H2 fp
  have PIY : PIf Y ifs tt := hY ▸ ht cl _ s2 H2 fp
  have I3 : Inv Y [] (none :: caps.map fun p => (σ[p.2]?).join) H2 { s2 with heap := h₁, toks := s2.toks + ([] : List (Str × Value)).length } := by
    rw [← hY]
    exact comp_inv S S.uniq I2 hcl hhas f2 hlt hC rfl rfl old (by simpa using hns₁)
  have eYenv : Y.env = compEnvC scope cl Hq.objs.size X.env := by rw [← hY]; rfl
  have eYloc : Y.env.locals = Hq.objs.size := by rw [eYenv]; rfl
  have eYfs : Y.fs = frs X.stack := by rw [← hY]; rfl
  have eYprog : Y.prog = X.prog := by rw [← hY]; rfl
  have eYw : Y.w = X.w := by rw [← hY]; rfl
  have eYK : Y.K = X.K := by rw [← hY]; rfl
  have eYA : Y.A = X.A := by rw [← hY]; rfl
  have eYc : Y.calm = true := by rw [← hY]; exact hc
  have eYex : Y.ex = fp := by rw [← hY]; rfl
  have eYs : Y.s₀ = s2 := by rw [← hY]; rfl
  have eYH : Y.H₀ = H2 := by rw [← hY]; rfl
  have eYpn : Y.pn = [] := by rw [← hY]; rfl
  have eYcell : ∀ y c, Y.env.cells.lookup y = some c → X.env.cells.lookup y = some c := fun y c e => hcl y c (by rw [eYenv] at e; exact e)
  have eYN : Y.N = x :: caps.map (·.1) := by rw [← hY]; rfl
  have eYxe : ∀ e s', ¬ Y.xe e s' := fun e s' z => by rw [← hY] at z; exact z
  have stkX : ∀ b ∈ frs X.stack, b < s2.heap.objs.size := fun b hb => by
    rcases List.mem_cons.mp (I2.stkSub b hb) with z | z
    · rw [z]; exact I2.lt
    · refine Nat.not_le.mp fun hle => I2.nofs hle z
  have cellX : ∀ y c, X.env.cells.lookup y = some c → c < s2.heap.objs.size := fun y c e => by obtain ⟨v, q⟩ := I2.cell y c e; exact q.lt
  have pinX : ∀ p ∈ X.pn ++ pins, p.1 < s2.heap.objs.size := fun p hp => Heap.lt_size (I2.pin p hp).1
  have fpY : ∀ {H' : Hp} {its : List Value} {k : Nat}, (∀ b ∈ fp, H' b = none) → ∀ b ∈ fp, FpOk Y [(s2.heap.objs.size, lob its k)] H' b := fun {H' its k} hn b hb => by
    refine ⟨hn b hb, by rw [eYloc]; exact Nat.ne_of_lt (Nat.lt_of_lt_of_le (hlt b hb) hC), ?_, .inl (by rw [eYex]; exact hb), fun y c e => (f2 b hb).2.2.2.2.1 y c (eYcell y c e), fun p hp => ?_⟩
    · rw [eYfs]
      intro hm
      rcases List.mem_cons.mp (I2.stkSub b hm) with z | z
      · exact (f2 b hb).2.1 z
      · exact (f2 b hb).2.2.1 z
    · rw [eYpn] at hp
      have e : p = (s2.heap.objs.size, lob its k) := by simpa using hp
      rw [e]
      exact Nat.ne_of_gt (hlt b hb)
  have pinD : ∀ {H' : Hp} {σ' : St} {s' : Shared} {its : List Value} {k : Nat}, Inv Y [] σ' H' s' → s'.heap.get? s2.heap.objs.size = some (lob its k) → H' s2.heap.objs.size = none → Inv Y [(s2.heap.objs.size, lob its k)] σ' H' s' := fun {H' σ' s' its k} I' e n =>
    I'.pins_of fun p hp => by
      have ep : p = (s2.heap.objs.size, lob its k) := by simpa using hp
      subst ep
      refine ⟨e, n, by rw [eYloc]; exact hDC, ?_, fun v z => ?_⟩
      · rw [eYfs]; exact fun hm => Nat.lt_irrefl _ (stkX _ hm)
      · have z' : Data.seq its.toArray k = Data.cell v := z
        cases z'
  have loop : codeAny (model X.prog X.w) X.A (.compLoop (.ListComp elt [⟨.Name x px, iter, ifs, 0⟩] scope pos) 0 (.ref it) (.ref s2.heap.objs.size) (compEnvC scope cl Hq.objs.size X.env))
      (compPost (model X.prog X.w) X.A X.xe none (EP X pins σ Q) (.ref s2.heap.objs.size) Hq.objs.size) { s2 with heap := h₁, toks := s2.toks + ([] : List (Str × Value)).length } := by
    refine codeAny_compLoop_tests (fun n s' => ∃ i σx H' ys its k, Inv Y [(s2.heap.objs.size, lob its k)] (σx :: caps.map fun p => (σ[p.2]?).join) H' s' ∧ tn i s'.heap ∧ (∀ b ∈ fp, H' b = none) ∧ Vals ys its ∧ W i n ys H') ?_ m0
      ⟨0, none, H2, [], [], 0, pinD I3 hacc (I2.hok.fresh (Nat.le_refl _)), T.keep _ _ _ st2 fun b hb o e => old b o e, fun b hb => (f2 b hb).1, .nil, w0⟩
    rintro n s3 ⟨i, σx, H3, ys, its, k, J3, st3, fr3, rv, w3⟩
    obtain ⟨hz, hcase⟩ := turn i n ys H3 w3
    rcases hcase with ⟨stop, q⟩ | ⟨go, step⟩
    · have hd := T.done Y eYprog eYw eYK eYc i _ s3 _ H3 (notedBy (model X.prog X.w) X.A (compEnvC scope cl Hq.objs.size X.env) fun e s' => compPost (model X.prog X.w) X.A X.xe none (EP X pins σ Q) (.ref s2.heap.objs.size) Hq.objs.size (.error e) s') J3 (fpY fr3) st3 stop
      rw [eYA] at hd
      refine thn hd fun r s4 ⟨hr, J4⟩ => ?_
      subst hr
      obtain ⟨m4, hn4, _⟩ := J4.loc
      refine ⟨m4, by rw [← eYloc]; exact hn4, fun h5 sb => ?_⟩
      have hnC : H3 Hq.objs.size = none := by rw [← eYloc]; exact J4.free
      have hk5 : HOk X.prog X.w H3 h5 := HOk.but (by rw [← eYprog, ← eYw]; exact J4.hok) hnC sb
      have u5 : Un (frs X.stack) fp H2 H3 s2.heap h5 := by
        have ub := J4.base
        rw [eYfs, eYex, eYH, eYs] at ub
        exact ub.but hC sb
      have J5 : Inv X pins σ H3 { s4 with heap := h5 } := I2.call' (s' := { s4 with heap := h5 }) (ch := fp) (by have := J4.os; rw [eYs] at this; exact this) u5 hk5 J4.bare fun b hb => ⟨(f2 b hb).2.2.2.1, (f2 b hb).2.1, (f2 b hb).2.2.2.2.1, (f2 b hb).2.2.2.2.2⟩
      have hp4 := J4.pin (s2.heap.objs.size, lob its k) (List.mem_append_right _ List.mem_cons_self)
      have hD5 : h5.get? s2.heap.objs.size = some (lob its k) := (sb.2 _ hDC).trans hp4.1
      refine ⟨.ref s2.heap.objs.size, upd H3 s2.heap.objs.size (.lst ys), ?_, rfl, q _ hp4.2.1⟩
      exact J5.track hp4.2.1 I2.sz (Nat.ne_of_gt I2.lt) (fun y c e => Nat.ne_of_lt (cellX y c e)) (fun p hp => Nat.ne_of_lt (pinX p hp)) (show ObjOk X.prog X.w _ h5 _ (.lst ys) from ⟨hz, its, k, rv, hD5⟩)
    · have hd := T.item Y eYprog eYw eYK eYc i _ s3 _ H3 (notedBy (model X.prog X.w) X.A (compEnvC scope cl Hq.objs.size X.env) fun e s' => compPost (model X.prog X.w) X.A X.xe none (EP X pins σ Q) (.ref s2.heap.objs.size) Hq.objs.size (.error e) s') J3 (fpY fr3) st3 go
      rw [eYA] at hd
      refine thn (strip_go hd) fun r s4 ⟨u, hr, v4, H4, J4, r4, y4, st4, fr4⟩ => ?_
      subst hr
      have hNd : Y.N.Nodup := by rw [eYN]; exact S.nd
      have hsub : wpAny (model X.prog X.w) X.A (storeName (compEnvC scope cl Hq.objs.size X.env) x u) (fun _ s5 => Inv Y [(s2.heap.objs.size, lob its k)] (some v4 :: caps.map fun p => (σ[p.2]?).join) H4 s5 ∧ tn (i + 1) s5.heap) (notedBy (model X.prog X.w) X.A (compEnvC scope cl Hq.objs.size X.env) fun e s' => compPost (model X.prog X.w) X.A X.xe none (EP X pins σ Q) (.ref s2.heap.objs.size) Hq.objs.size (.error e) s') s4 := by
        rw [← eYenv]
        have hloc : Y.env.scope.names.lookup x = some .local := by rw [eYenv]; exact lookup_relabel_local S.hx
        refine store_ok2 (i := 0) J4 hNd (by rw [eYN]; rfl) (.inl hloc) r4 (fun s5 J5 ⟨a, sb, ha⟩ => ⟨J5, T.keep _ _ _ st4 fun b hb o e => ?_⟩) (.inr hloc)
        refine (sb.2 b ?_).trans e
        rcases ha with z | z
        · rw [z, eYloc]; exact Nat.ne_of_lt (Nat.lt_of_lt_of_le (hlt b hb) hC)
        · exact fun w => (f2 b hb).2.2.2.2.1 x a (eYcell x a z) w.symm
      refine wpAny_assign_Name (thn hsub fun _ s5 ⟨J5, st5⟩ => ?_)
      have J5' := J5.pinned (fp := fp) (fpY fr4) (T.obj _ _ st5)
      have hstep := step v4 H4 y4
      have ht5 := PIY _ s5 _ H4 _ J5' hstep
      rw [eYprog, eYw, eYA, eYenv] at ht5
      refine wpAny_mono ht5 (fun ok s6 ⟨H6, J6, q6⟩ => ?_) fun e s' z => (eYxe _ _ z).elim
      have back : ∀ {H7 : Hp} {s7 : Shared}, Inv Y ([(s2.heap.objs.size, lob its k)] ++ pinsAt fp s5.heap) (some v4 :: caps.map fun p => (σ[p.2]?).join) H7 s7 → tn (i + 1) s7.heap ∧ ∀ b ∈ fp, H7 b = none := fun {H7 s7} J7 =>
        ⟨T.keep _ _ _ st5 fun b hb o e => (J7.pin (b, o) (List.mem_append_right _ (List.mem_append_right _ (mem_pinsAt hb e)))).1, fun b hb => by
          obtain ⟨o, e, d⟩ := T.obj _ _ st5 b hb
          exact (J7.pin (b, o) (List.mem_append_right _ (List.mem_append_right _ (mem_pinsAt hb e)))).2.1⟩
      cases ok with
      | false =>
        rw [if_neg Bool.false_ne_true] at q6
        rw [if_neg Bool.false_ne_true]
        obtain ⟨m', hm', w6⟩ := q6
        exact ⟨m', hm', i + 1, some v4, H6, ys, its, k, J6.unpinned, (back J6).1, (back J6).2, rv, w6⟩
      | true =>
        rw [if_pos rfl] at q6
        rw [if_pos rfl]
        have he6 := PEY _ s6 _ H6 _ J6 q6
        rw [eYprog, eYw, eYA, eYenv] at he6
        refine wpAny_mono he6 (fun u7 s7 ⟨v7, H7, J7, r7, m', hm', w7⟩ => ?_) fun e s' z => (eYxe _ _ z).elim
        obtain ⟨st7, fr7⟩ := back J7
        have hp7 := (J7.unpinned).pin (s2.heap.objs.size, lob its k) (List.mem_append_right _ List.mem_cons_self)
        have hl := rv.length
        refine append_at (hsz := by show its.toArray.size ≤ sizeLine; rw [List.size_toArray]; omega) hp7.1 fun h8 sb8 hD8 => ?_
        have J7' : Inv Y [] (some v4 :: caps.map fun p => (σ[p.2]?).join) H7 s7 := J7.unpinned.pins_of fun p hp => absurd hp (by simp)
        have J8 : Inv Y [] (some v4 :: caps.map fun p => (σ[p.2]?).join) H7 { s7 with heap := h8 } := J7'.turned (t' := s7.toks) (it := s2.heap.objs.size) (fun b o hb e => (sb8.2 b hb).trans e) hp7.2.1 (by rw [eYloc]; exact hDC) (.inr (by rw [eYs]; exact Nat.le_refl _)) (fun y c e => Nat.ne_of_lt (cellX y c (eYcell y c e))) (fun p hp => by rw [eYpn] at hp; simp at hp)
        have hD8' : h8.get? s2.heap.objs.size = some (lob (its ++ [u7]) (k + 1)) := by rw [hD8]; simp [lob]
        exact ⟨m', hm', i + 1, some v4, H7, ys ++ [v7], its ++ [u7], k + 1, pinD J8 hD8' hp7.2.1, T.keep _ _ _ st7 fun b hb o e => (sb8.2 b (Nat.ne_of_lt (hlt b hb))).trans e, fr7, rv.append (.cons r7 .nil), w7⟩
  exact codeAny_compStart_list loop (T.self X.A 0 _ _ _ (T.keep _ _ _ st2 fun b hb o e => old b o e) loop)
/-- [elt for x in iter if ..]; sc, N: the def's scope and names, written out -/
theorem pe_comp {sc : Scope} {N : List Str} (S : CompScope sc scope N x caps) (hi : PI X (.Name x px) iter wi) (ht : ∀ cl C s H fp, PIf (compCx X x caps scope cl C s H fp) ifs tt) (he : ∀ cl C s H fp, PE (compCx X x caps scope cl C s H fp) elt te)
    (hc : X.calm = true := by rfl) (hsc : X.env.scope = sc := by rfl) (hN : X.N = N := by rfl) (hs : ∀ v, foldedSetIterable iter X.env v = pure v := by intro _; rfl) : PE X (.ListComp elt [⟨.Name x px, iter, ifs, 0⟩] scope pos) (tComp wi tt te caps) :=
  pe_comp0 hc (by rw [hsc, hN]; exact S) hi ht he hs
end
end L2

set_option Elab.async false
set_option linter.all false
set_option maxRecDepth 100000
set_option maxHeartbeats 4000000
namespace L2
open PySem PySem.Spec PyProof.Rows
section
variable {X : Cx} {elt iter : Expr} {x : Str} {px pos : Pos} {ifs : List Expr} {scope : Scope} {caps : List (Str × Nat)} {wi : TI} {tt : TT} {te : TE}
/-- y = [elt for x in iter if ..], where the store comes ahead of the block's end -/
theorem ps_comp0 {k0 : Nat} {y0 : Str} {py spos : Pos} (hc : X.calm = true) (S : CompScope X.env.scope scope X.N x caps) (hN0 : X.N.Nodup) (hi0 : X.N[k0]? = some y0) (hx0 : Loc X.env.scope y0) (hi : PI X (.Name x px) iter wi)
    (ht : ∀ cl C s H fp, PIf (compCx X x caps scope cl C s H fp) ifs tt) (he : ∀ cl C s H fp, PE (compCx X x caps scope cl C s H fp) elt te)
    (hsw : swapsWith (.ListComp elt [⟨.Name x px, iter, ifs, 0⟩] scope pos) (some (.Name y0 py)) spos.line X.env = pure true)
    (hf0 : X.fn y0 = true ∨ X.env.scope.names.lookup y0 = some .local)
    (hs : ∀ v, foldedSetIterable iter X.env v = pure v) : PS X (.Assign [.Name y0 py] (.ListComp elt [⟨.Name x px, iter, ifs, 0⟩] scope pos) spos) (tAsg (tComp wi tt te caps) (gName k0)) := by
  intro pins s σ H DD I h
  obtain ⟨cl, hclos, hcl, hhas⟩ := closure_ok (scope := scope) (env := X.env) fun y hy hf => I.ok.has y.1 (S.free y hy hf)
  rw [exec_Assign_Name_used _ _ _ _ hsw]
  refine wpAny_bind (wpAny_standAt (wpAny_bind ?_))
  show wpAny _ X.A (do let _ ← comprehension (.ListComp elt [⟨.Name x px, iter, ifs, 0⟩] scope pos) scope X.env _ (newList []) false (eval iter X.env) (some (assign (.Name y0 py) X.env))) _ _ s
  refine wpAny_bind (wpAny_mono (wpAny_comprehension_free (use := some (assign (.Name y0 py) X.env)) (Q := fun _ s' => SP X pins DD .next s') rfl hs hclos S.kind S.names (thn (hi pins s σ H _ I h) fun v s1 h1 => thn h1 fun itv s2 h2 => ?_)) (fun _ s' hq => wpAny_pure (wpAny_pure hq)) fun _ _ e => e)
  obtain ⟨it, fp, tn, J, H2, rfl, I2, T, st2, f2, W, ⟨m0, w0⟩, turn⟩ := h2
  refine wpAny_newObj_type (wpAny_newFunctionEnv S.cell (by intro y hy; simp at hy) (fun h₁ hns₁ hsb₁ => ?_) S.kind)
  dsimp only at hns₁ hsb₁ ⊢
  generalize hHp : s2.heap.push { cls := .type "list", dict := none, data := .seq ([] : List Value).toArray } = Hq at hns₁ hsb₁ ⊢
  have hCe : Hq.objs.size = s2.heap.objs.size + 1 := by rw [← hHp, Heap.size_push]
  have hDC : s2.heap.objs.size ≠ Hq.objs.size := by rw [hCe]; exact Nat.ne_of_lt (Nat.lt_succ_self _)
  have hC : s2.heap.objs.size ≤ Hq.objs.size := by rw [hCe]; exact Nat.le_succ _
  have old : ∀ b o, s2.heap.get? b = some o → h₁.get? b = some o := fun b o e =>
    hsb₁.extBut b o (Nat.ne_of_lt (Nat.lt_of_lt_of_le (Heap.lt_size e) hC)) (Heap.get?_push_of_some _ (hHp ▸ Heap.get?_push_of_some _ e))
  have hacc : h₁.get? s2.heap.objs.size = some (lob [] 0) := hsb₁.extBut _ _ hDC (Heap.get?_push_of_some _ (hHp ▸ Heap.get?_push_size _ rfl))
  have hlt : ∀ b ∈ fp, b < s2.heap.objs.size := fun b hb => by obtain ⟨o, e, _⟩ := T.obj 0 _ st2 b hb; exact Heap.lt_size e
  generalize hY : compCx X x caps scope cl Hq.objs.size s2 H2 fp = Y
  have PEY : PE Y elt te := hY ▸ he cl _ s2 H2 fp
  have PIY : PIf Y ifs tt := hY ▸ ht cl _ s2 H2 fp
  have I3 : Inv Y [] (none :: caps.map fun p => (σ[p.2]?).join) H2 { s2 with heap := h₁, toks := s2.toks + ([] : List (Str × Value)).length } := by
    rw [← hY]
    exact comp_inv S S.uniq I2 hcl hhas f2 hlt hC rfl rfl old (by simpa using hns₁)
  have eYenv : Y.env = compEnvC scope cl Hq.objs.size X.env := by rw [← hY]; rfl
  have eYloc : Y.env.locals = Hq.objs.size := by rw [eYenv]; rfl
  have eYfs : Y.fs = frs X.stack := by rw [← hY]; rfl
  have eYprog : Y.prog = X.prog := by rw [← hY]; rfl
  have eYw : Y.w = X.w := by rw [← hY]; rfl
  have eYK : Y.K = X.K := by rw [← hY]; rfl
  have eYA : Y.A = X.A := by rw [← hY]; rfl
  have eYc : Y.calm = true := by rw [← hY]; exact hc
  have eYex : Y.ex = fp := by rw [← hY]; rfl
  have eYs : Y.s₀ = s2 := by rw [← hY]; rfl
  have eYH : Y.H₀ = H2 := by rw [← hY]; rfl
  have eYpn : Y.pn = [] := by rw [← hY]; rfl
  have eYcell : ∀ y c, Y.env.cells.lookup y = some c → X.env.cells.lookup y = some c := fun y c e => hcl y c (by rw [eYenv] at e; exact e)
  have eYN : Y.N = x :: caps.map (·.1) := by rw [← hY]; rfl
  have eYxe : ∀ e s', ¬ Y.xe e s' := fun e s' z => by rw [← hY] at z; exact z
  have stkX : ∀ b ∈ frs X.stack, b < s2.heap.objs.size := fun b hb => by
    rcases List.mem_cons.mp (I2.stkSub b hb) with z | z
    · rw [z]; exact I2.lt
    · refine Nat.not_le.mp fun hle => I2.nofs hle z
  have cellX : ∀ y c, X.env.cells.lookup y = some c → c < s2.heap.objs.size := fun y c e => by obtain ⟨v, q⟩ := I2.cell y c e; exact q.lt
  have pinX : ∀ p ∈ X.pn ++ pins, p.1 < s2.heap.objs.size := fun p hp => Heap.lt_size (I2.pin p hp).1
  have fpY : ∀ {H' : Hp} {its : List Value} {k : Nat}, (∀ b ∈ fp, H' b = none) → ∀ b ∈ fp, FpOk Y [(s2.heap.objs.size, lob its k)] H' b := fun {H' its k} hn b hb => by
    refine ⟨hn b hb, by rw [eYloc]; exact Nat.ne_of_lt (Nat.lt_of_lt_of_le (hlt b hb) hC), ?_, .inl (by rw [eYex]; exact hb), fun y c e => (f2 b hb).2.2.2.2.1 y c (eYcell y c e), fun p hp => ?_⟩
    · rw [eYfs]
      intro hm
      rcases List.mem_cons.mp (I2.stkSub b hm) with z | z
      · exact (f2 b hb).2.1 z
      · exact (f2 b hb).2.2.1 z
    · rw [eYpn] at hp
      have e : p = (s2.heap.objs.size, lob its k) := by simpa using hp
      rw [e]
      exact Nat.ne_of_gt (hlt b hb)
  have pinD : ∀ {H' : Hp} {σ' : St} {s' : Shared} {its : List Value} {k : Nat}, Inv Y [] σ' H' s' → s'.heap.get? s2.heap.objs.size = some (lob its k) → H' s2.heap.objs.size = none → Inv Y [(s2.heap.objs.size, lob its k)] σ' H' s' := fun {H' σ' s' its k} I' e n =>
    I'.pins_of fun p hp => by
      have ep : p = (s2.heap.objs.size, lob its k) := by simpa using hp
      subst ep
      refine ⟨e, n, by rw [eYloc]; exact hDC, ?_, fun v z => ?_⟩
      · rw [eYfs]; exact fun hm => Nat.lt_irrefl _ (stkX _ hm)
      · have z' : Data.seq its.toArray k = Data.cell v := z
        cases z'
  have loop : codeAny (model X.prog X.w) X.A (.compLoop (.ListComp elt [⟨.Name x px, iter, ifs, 0⟩] scope pos) 0 (.ref it) (.ref s2.heap.objs.size) (compEnvC scope cl Hq.objs.size X.env))
      (compPost (model X.prog X.w) X.A X.xe (some (assign (.Name y0 py) X.env)) (fun _ s' => SP X pins DD .next s') (.ref s2.heap.objs.size) Hq.objs.size) { s2 with heap := h₁, toks := s2.toks + ([] : List (Str × Value)).length } := by
    refine codeAny_compLoop_tests (fun n s' => ∃ i σx H' ys its k, Inv Y [(s2.heap.objs.size, lob its k)] (σx :: caps.map fun p => (σ[p.2]?).join) H' s' ∧ tn i s'.heap ∧ (∀ b ∈ fp, H' b = none) ∧ Vals ys its ∧ W i n ys H') ?_ m0
      ⟨0, none, H2, [], [], 0, pinD I3 hacc (I2.hok.fresh (Nat.le_refl _)), T.keep _ _ _ st2 fun b hb o e => old b o e, fun b hb => (f2 b hb).1, .nil, w0⟩
    rintro n s3 ⟨i, σx, H3, ys, its, k, J3, st3, fr3, rv, w3⟩
    obtain ⟨hz, hcase⟩ := turn i n ys H3 w3
    rcases hcase with ⟨stop, q⟩ | ⟨go, step⟩
    · have hd := T.done Y eYprog eYw eYK eYc i _ s3 _ H3 (notedBy (model X.prog X.w) X.A (compEnvC scope cl Hq.objs.size X.env) fun e s' => compPost (model X.prog X.w) X.A X.xe (some (assign (.Name y0 py) X.env)) (fun _ s' => SP X pins DD .next s') (.ref s2.heap.objs.size) Hq.objs.size (.error e) s') J3 (fpY fr3) st3 stop
      rw [eYA] at hd
      refine thn hd fun r s4 ⟨hr, J4⟩ => ?_
      subst hr
      obtain ⟨m4, hn4, _⟩ := J4.loc
      show wpAny _ X.A (assign (.Name y0 py) X.env (.ref s2.heap.objs.size)) _ X.xe s4
      have hn4' : s4.heap.Ns Hq.objs.size m4 := by rw [← eYloc]; exact hn4
      have hnC : H3 Hq.objs.size = none := by rw [← eYloc]; exact J4.free
      have hk5 : HOk X.prog X.w H3 s4.heap := by rw [← eYprog, ← eYw]; exact J4.hok
      have u5 : Un (frs X.stack) fp H2 H3 s2.heap s4.heap := by
        have ub := J4.base
        rw [eYfs, eYex, eYH, eYs] at ub
        exact ub
      have J5 : Inv X pins σ H3 s4 := I2.call' (s' := s4) (ch := fp) (by have := J4.os; rw [eYs] at this; exact this) u5 hk5 J4.bare fun b hb => ⟨(f2 b hb).2.2.2.1, (f2 b hb).2.1, (f2 b hb).2.2.2.2.1, (f2 b hb).2.2.2.2.2⟩
      have hp4 := J4.pin (s2.heap.objs.size, lob its k) (List.mem_append_right _ List.mem_cons_self)
      have hD5 : s4.heap.get? s2.heap.objs.size = some (lob its k) := hp4.1
      have J6 : Inv X pins σ (upd H3 s2.heap.objs.size (.lst ys)) s4 := J5.track hp4.2.1 I2.sz (Nat.ne_of_gt I2.lt) (fun y c e => Nat.ne_of_lt (cellX y c e)) (fun p hp => Nat.ne_of_lt (pinX p hp)) (show ObjOk X.prog X.w _ s4.heap _ (.lst ys) from ⟨hz, its, k, rv, hD5⟩)
      have hCloc : Hq.objs.size ≠ X.env.locals := Nat.ne_of_gt (Nat.lt_of_lt_of_le I2.lt hC)
      refine wpAny_assign_Name (store_ok2 (i := k0) J6 hN0 hi0 hx0 (v := .ref s2.heap.objs.size) rfl (fun s5 J7 ⟨a, sb, ha⟩ => ?_) hf0)
      have haC : Hq.objs.size ≠ a := by
        rcases ha with z | z
        · rw [z]; exact hCloc
        · exact Nat.ne_of_gt (Nat.lt_of_lt_of_le (cellX _ _ z) hC)
      refine ⟨m4, hn4'.sameBut sb haC, fun h' sb' => ⟨_, _, J7.turned (t' := s5.toks) (it := Hq.objs.size) (fun b o hb e => (sb'.2 b hb).trans e) (by rw [upd_ne (Ne.symm hDC)]; exact hnC) hCloc (.inr (Nat.le_trans I2.sz hC)) (fun y c e => Nat.ne_of_lt (Nat.lt_of_lt_of_le (cellX y c e) hC)) (fun p hp => Nat.ne_of_lt (Nat.lt_of_lt_of_le (pinX p hp) hC)), q _ hp4.2.1⟩⟩
    · have hd := T.item Y eYprog eYw eYK eYc i _ s3 _ H3 (notedBy (model X.prog X.w) X.A (compEnvC scope cl Hq.objs.size X.env) fun e s' => compPost (model X.prog X.w) X.A X.xe (some (assign (.Name y0 py) X.env)) (fun _ s' => SP X pins DD .next s') (.ref s2.heap.objs.size) Hq.objs.size (.error e) s') J3 (fpY fr3) st3 go
      rw [eYA] at hd
      refine thn (strip_go hd) fun r s4 ⟨u, hr, v4, H4, J4, r4, y4, st4, fr4⟩ => ?_
      subst hr
      have hNd : Y.N.Nodup := by rw [eYN]; exact S.nd
      have hsub : wpAny (model X.prog X.w) X.A (storeName (compEnvC scope cl Hq.objs.size X.env) x u) (fun _ s5 => Inv Y [(s2.heap.objs.size, lob its k)] (some v4 :: caps.map fun p => (σ[p.2]?).join) H4 s5 ∧ tn (i + 1) s5.heap) (notedBy (model X.prog X.w) X.A (compEnvC scope cl Hq.objs.size X.env) fun e s' => compPost (model X.prog X.w) X.A X.xe (some (assign (.Name y0 py) X.env)) (fun _ s' => SP X pins DD .next s') (.ref s2.heap.objs.size) Hq.objs.size (.error e) s') s4 := by
        rw [← eYenv]
        have hloc : Y.env.scope.names.lookup x = some .local := by rw [eYenv]; exact lookup_relabel_local S.hx
        refine store_ok2 (i := 0) J4 hNd (by rw [eYN]; rfl) (.inl hloc) r4 (fun s5 J5 ⟨a, sb, ha⟩ => ⟨J5, T.keep _ _ _ st4 fun b hb o e => ?_⟩) (.inr hloc)
        refine (sb.2 b ?_).trans e
        rcases ha with z | z
        · rw [z, eYloc]; exact Nat.ne_of_lt (Nat.lt_of_lt_of_le (hlt b hb) hC)
        · exact fun w => (f2 b hb).2.2.2.2.1 x a (eYcell x a z) w.symm
      refine wpAny_assign_Name (thn hsub fun _ s5 ⟨J5, st5⟩ => ?_)
      have J5' := J5.pinned (fp := fp) (fpY fr4) (T.obj _ _ st5)
      have hstep := step v4 H4 y4
      have ht5 := PIY _ s5 _ H4 _ J5' hstep
      rw [eYprog, eYw, eYA, eYenv] at ht5
      refine wpAny_mono ht5 (fun ok s6 ⟨H6, J6, q6⟩ => ?_) fun e s' z => (eYxe _ _ z).elim
      have back : ∀ {H7 : Hp} {s7 : Shared}, Inv Y ([(s2.heap.objs.size, lob its k)] ++ pinsAt fp s5.heap) (some v4 :: caps.map fun p => (σ[p.2]?).join) H7 s7 → tn (i + 1) s7.heap ∧ ∀ b ∈ fp, H7 b = none := fun {H7 s7} J7 =>
        ⟨T.keep _ _ _ st5 fun b hb o e => (J7.pin (b, o) (List.mem_append_right _ (List.mem_append_right _ (mem_pinsAt hb e)))).1, fun b hb => by
          obtain ⟨o, e, d⟩ := T.obj _ _ st5 b hb
          exact (J7.pin (b, o) (List.mem_append_right _ (List.mem_append_right _ (mem_pinsAt hb e)))).2.1⟩
      cases ok with
      | false =>
        rw [if_neg Bool.false_ne_true] at q6
        rw [if_neg Bool.false_ne_true]
        obtain ⟨m', hm', w6⟩ := q6
        exact ⟨m', hm', i + 1, some v4, H6, ys, its, k, J6.unpinned, (back J6).1, (back J6).2, rv, w6⟩
      | true =>
        rw [if_pos rfl] at q6
        rw [if_pos rfl]
        have he6 := PEY _ s6 _ H6 _ J6 q6
        rw [eYprog, eYw, eYA, eYenv] at he6
        refine wpAny_mono he6 (fun u7 s7 ⟨v7, H7, J7, r7, m', hm', w7⟩ => ?_) fun e s' z => (eYxe _ _ z).elim
        obtain ⟨st7, fr7⟩ := back J7
        have hp7 := (J7.unpinned).pin (s2.heap.objs.size, lob its k) (List.mem_append_right _ List.mem_cons_self)
        have hl := rv.length
        refine append_at (hsz := by show its.toArray.size ≤ sizeLine; rw [List.size_toArray]; omega) hp7.1 fun h8 sb8 hD8 => ?_
        have J7' : Inv Y [] (some v4 :: caps.map fun p => (σ[p.2]?).join) H7 s7 := J7.unpinned.pins_of fun p hp => absurd hp (by simp)
        have J8 : Inv Y [] (some v4 :: caps.map fun p => (σ[p.2]?).join) H7 { s7 with heap := h8 } := J7'.turned (t' := s7.toks) (it := s2.heap.objs.size) (fun b o hb e => (sb8.2 b hb).trans e) hp7.2.1 (by rw [eYloc]; exact hDC) (.inr (by rw [eYs]; exact Nat.le_refl _)) (fun y c e => Nat.ne_of_lt (cellX y c (eYcell y c e))) (fun p hp => by rw [eYpn] at hp; simp at hp)
        have hD8' : h8.get? s2.heap.objs.size = some (lob (its ++ [u7]) (k + 1)) := by rw [hD8]; simp [lob]
        exact ⟨m', hm', i + 1, some v4, H7, ys ++ [v7], its ++ [u7], k + 1, pinD J8 hD8' hp7.2.1, T.keep _ _ _ st7 fun b hb o e => (sb8.2 b (Nat.ne_of_lt (hlt b hb))).trans e, fr7, rv.append (.cons r7 .nil), w7⟩
  exact codeAny_compStart_list loop (T.self X.A 0 _ _ _ (T.keep _ _ _ st2 fun b hb o e => old b o e) loop)
/-- the same, sc and N written out -/
theorem ps_setC {k0 : Nat} {y0 : Str} {py spos : Pos} {sc : Scope} {N : List Str} (S : CompScope sc scope N x caps) (hN0 : X.N.Nodup) (hi0 : X.N[k0]? = some y0) (hx0 : Loc X.env.scope y0) (hi : PI X (.Name x px) iter wi)
    (ht : ∀ cl C s H fp, PIf (compCx X x caps scope cl C s H fp) ifs tt) (he : ∀ cl C s H fp, PE (compCx X x caps scope cl C s H fp) elt te)
    (hsw : swapsWith (.ListComp elt [⟨.Name x px, iter, ifs, 0⟩] scope pos) (some (.Name y0 py)) spos.line X.env = pure true := by rfl)
    (hf0 : X.fn y0 = true ∨ X.env.scope.names.lookup y0 = some .local := by first | exact .inl rfl | exact .inr rfl | assumption)
    (hc : X.calm = true := by rfl) (hsc : X.env.scope = sc := by rfl) (hN : X.N = N := by rfl) (hs : ∀ v, foldedSetIterable iter X.env v = pure v := by intro _; rfl) :
    PS X (.Assign [.Name y0 py] (.ListComp elt [⟨.Name x px, iter, ifs, 0⟩] scope pos) spos) (tAsg (tComp wi tt te caps) (gName k0)) :=
  ps_comp0 hc (by rw [hsc, hN]; exact S) hN0 hi0 hx0 hi ht he hsw hf0 hs
end
end L2

set_option Elab.async false
set_option linter.all false
set_option maxRecDepth 100000
set_option maxHeartbeats 4000000
namespace L2
open PySem PySem.Spec PyProof.Rows
section
variable {X : Cx} {a b c : Expr} {ta tb tc : TE} {pos : Pos}

/-! ### isinstance with a built-in type -/
theorem call_isinst : CallR X (.builtin "isinstance") (fun xs H Q => ∃ x t c k, xs = [x, .ty c] ∧ TyOf X.K H x t ∧ PySem.W.kitOne X.K t (.type c) = some k ∧ Q (.bl k) H) := by
  intro pins s σ H xs us Q I r h
  obtain ⟨x, t, c, k, rfl, ty, e, q⟩ := h
  cases r with
  | cons r1 rr =>
    cases rr with
    | cons r2 r3 =>
      cases r3
      cases (show _ = Value.type c from r2)
      exact isinst_ok I r1 ty e fun tk => ⟨.bl k, H, I.tok tk, rfl, q⟩

/-! ### all of a list of truths -/
theorem range_all_get (bs : List Bool) : ((List.range bs.length).all fun i => (bs[i]?).getD true) = bs.all id := by
  rw [Bool.eq_iff_iff, List.all_eq_true, List.all_eq_true]
  constructor
  · intro h b hb
    obtain ⟨i, hi, e⟩ := List.mem_iff_getElem.mp hb
    have := h i (List.mem_range.mpr hi)
    rw [List.getElem?_eq_getElem hi, e] at this
    exact this
  · intro h i hi
    have hi' := List.mem_range.mp hi
    rw [List.getElem?_eq_getElem hi']
    exact h _ (List.getElem_mem hi')
theorem call_all_bl (hc : X.calm = true) : CallR X (.builtin "all") (fun xs H Q => ∃ (p : Addr) (bs : List Bool), xs = [.ref p] ∧ SqL X.K H p (bs.map V.bl) ∧ Q (.bl (bs.all id)) H) := by
  intro pins s σ H xs us Q I r h
  obtain ⟨p, bs, rfl, hq, q⟩ := h
  obtain ⟨u, rfl, rx⟩ := vals1 r
  cases rx
  obtain ⟨its, rv, pl, hz⟩ := I.list hq
  have hl := pl.isList
  have hlt : p < s.heap.objs.size := by obtain ⟨_, e, _⟩ := hl; exact Heap.lt_size e
  have hn : its.length = bs.length := by have := rv.length; rw [List.length_map] at this; exact this.symm
  refine call_all_walk (wpAny_pyIter_list hl ?_)
  refine ⟨s.heap.objs.size, [s.heap.objs.size, p], [s.heap.objs.size], its.toArray.size, _, _, fun i => (bs[i]?).getD true, rfl, Walks.list (A := X.A.in1) (I.ok.hd hc) _ p (Nat.ne_of_lt hlt) its.toArray, ⟨⟨_, Heap.get?_push_size _ rfl, rfl, rfl⟩, hl.push _⟩, fun i v s' Q' E' hP hQ => ?_, fun h' tk hk => ?_⟩
  · have hv : its[i]? = some v := by simpa using hP
    have hi : i < bs.length := by rw [← hn]; exact (List.getElem?_eq_some_iff.mp hv).1
    obtain ⟨u, hu, ru⟩ := rv.get (i := i) (x := .bl bs[i]) (by rw [List.getElem?_map, List.getElem?_eq_getElem hi]; rfl)
    rw [hv] at hu
    cases hu
    cases (show v = Value.bool bs[i] from ru)
    refine wpAny_truthy_bool ?_
    have hQ' : Q' ((bs[i]?).getD true) s' := hQ
    rw [List.getElem?_eq_getElem hi] at hQ'
    exact hQ'
  · rw [List.size_toArray, hn, range_all_get]
    refine ⟨.bl _, H, I.kept (t' := tk) fun b o e => ?_, rfl, q⟩
    exact hk b o (fun hm => by rw [List.mem_singleton.mp hm] at e; exact Nat.lt_irrefl _ (Heap.lt_size e)) (Heap.get?_push_of_some _ e)

/-! ### is, is not: a truth -/
theorem op_isnot_bl : OpR X (compareOp .IsNot) (fun x y H Q => ∃ i j, x = .bl i ∧ y = .bl j ∧ Q (.bl (!decide (i = j))) H) := by
  intro pins s σ H x y v u Q I rx ry h
  obtain ⟨i, j, rfl, rfl, q⟩ := h
  cases rx
  cases ry
  show wpAny _ _ (isSame (Value.bool i) (Value.bool j) >>= fun r => pure (Value.bool (!r))) _ _ s
  refine wpAny_bind (wpAny_isSame_plain (by rfl) (wpAny_pure ?_))
  refine ⟨.bl (!decide (i = j)), H, I, ?_, q⟩
  show _ = Value.bool _
  congr 1
  cases i <;> cases j <;> rfl

/-! ### tuples of ints: as keys -/
def IntsV (k : List Int) : List V := k.map V.int
theorem items_ints {prog : Program} {w : World} : ∀ {k : List Int} {its : List Value}, Vals (k.map V.int) its → ItemsAre (intKind prog w) k its
  | [], _, .nil => .nil
  | i :: k, _, .cons r t => by
    obtain ⟨t', rfl⟩ := r
    exact .cons (by show Value.isInt i (.int i t') = true; simp [Value.isInt]) (items_ints t)
theorem Inv.key {pins : List (Addr × Obj)} {σ : St} {H : Hp} {s : Shared} (I : Inv X pins σ H s) {p : Addr} {k : List Int} (h : SqT X.K H p (k.map V.int)) {prog : Program} {w : World} : ST.TK prog w s.heap k p := by
  obtain ⟨its, rv, ⟨o, e, c, n, d⟩, _⟩ := I.tuple h
  exact ⟨o, _, n, e, c, d, items_ints rv⟩
/-- the items are tuples of ints -/
def KeysAt (K : PySem.W.Frag) (H : Hp) (ys : List V) (keys : List (List Int)) : Prop := Paired (fun (v : V) (k : List Int) => ∃ b, v = .ref b ∧ SqT K H b (k.map V.int)) ys keys
theorem KeysAt.get {K : PySem.W.Frag} {H : Hp} : ∀ {ys : List V} {keys : List (List Int)} {its : List Value}, KeysAt K H ys keys → Vals ys its → ∀ (j : Nat) (v : Value), its[j]? = some v → ∃ b, v = .ref b ∧ SqT K H b ((keys.getD j []).map V.int)
  | _, _, _, .nil, .nil, j, v, e => by simp at e
  | _, _, _, .cons ⟨b, eb, hb⟩ t, .cons r tr, 0, v, e => by
    subst eb
    cases r
    simp at e
    subst e
    exact ⟨b, rfl, by simpa using hb⟩
  | _, _, _, .cons _ t, .cons _ tr, j + 1, v, e => by
    obtain ⟨b, h1, h2⟩ := KeysAt.get t tr j v (by simpa using e)
    exact ⟨b, h1, by simpa using h2⟩

/-! ### x not in a list of tuples of ints -/
noncomputable def hitB (its : List Value) (keys : List (List Int)) (k : List Int) (v : Value) : Bool := @decide (∃ (j : Nat), its[j]? = some v ∧ keys[j]? = some k) (Classical.propDecidable _)
theorem hitB_iff {its : List Value} {keys : List (List Int)} {k : List Int} {v : Value} : hitB its keys k v = true ↔ ∃ (j : Nat), its[j]? = some v ∧ keys[j]? = some k := by
  unfold hitB
  exact @decide_eq_true_iff _ (Classical.propDecidable _)
theorem op_notin_keys (hu : X.A.units + 8 < cLine) : OpR X (compareOp .NotIn) (fun x y H Q => ∃ (p : Addr) (k : List Int) (l : Addr) (ys : List V) (keys : List (List Int)), x = .ref p ∧ SqT X.K H p (k.map V.int) ∧ y = .ref l ∧ SqL X.K H l ys ∧ KeysAt X.K H ys keys ∧ Q (.bl (!decide (k ∈ keys))) H) := by
  intro pins s σ H x y v u Q I rx ry h
  obtain ⟨p, k, l, ys, keys, rfl, hp, rfl, hl, hk, q⟩ := h
  cases rx
  cases ry
  obtain ⟨its, rv, pl, hz⟩ := I.list hl
  -- the answer at each item, by its place
  have hn : its.length = keys.length := by rw [← rv.length]; exact hk.length
  have hat : ∀ v, v ∈ its.toArray → SeqAt.EqAt X.A.in1 s v (.ref p) (hitB its keys k v) := by
    intro v hv prog w E Q' hq
    have hv' : v ∈ its := by simpa using hv
    obtain ⟨j, hj, ej⟩ := List.mem_iff_getElem.mp hv'
    have ej' : its[j]? = some v := by rw [List.getElem?_eq_getElem hj, ej]
    obtain ⟨b, eb, hb⟩ := hk.get rv j v ej'
    subst eb
    have kb : ST.TK prog w s.heap (keys.getD j []) b := I.key hb
    have kp : ST.TK prog w s.heap k p := I.key hp
    refine wpAny_eqBool_tuple (by show X.A.units + 1 < cLine; omega) kb kp ?_
    have hjk : j < keys.length := by omega
    have ek : keys.getD j [] = keys[j] := by simp [List.getD, hjk]
    have e : decide (keys.getD j [] = k) = hitB its keys k (.ref b) := by
      rw [Bool.eq_iff_iff, decide_eq_true_iff, hitB_iff]
      constructor
      · intro z
        exact ⟨j, ej', by rw [List.getElem?_eq_getElem hjk, ← ek, z]⟩
      · rintro ⟨i, hi, hki⟩
        obtain ⟨b', eb', hb'⟩ := hk.get rv i _ hi
        cases eb'
        have kb' : ST.TK prog w s.heap (keys.getD i []) b := I.key hb'
        have := kb.inj kb'
        rw [this]
        have hik := (List.getElem?_eq_some_iff.mp hki)
        simp [List.getD, hki]
    rw [e]; exact hq
  refine SeqAt.notIn_listAt _ pl.isList hat ⟨.bl (!decide (k ∈ keys)), H, I, ?_, q⟩
  show Value.bool _ = Value.bool _
  congr 2
  rw [Bool.eq_iff_iff, Array.any_eq_true', decide_eq_true_iff]
  constructor
  · rintro ⟨v, hv, e⟩
    obtain ⟨j, _, hj⟩ := hitB_iff.mp e
    exact List.mem_of_getElem? hj
  · intro hm
    obtain ⟨j, hj, ej⟩ := List.mem_iff_getElem.mp hm
    have hji : j < its.length := by omega
    refine ⟨its[j], by simpa using List.getElem_mem hji, ?_⟩
    exact hitB_iff.mpr ⟨j, List.getElem?_eq_getElem hji, by rw [List.getElem?_eq_getElem hj, ej]⟩

/-! ### () + t -/
theorem op_catT0 : OpR X (binaryOp .Add) (fun x y H Q => ∃ (a b : Addr) (ys : List V), x = .ref a ∧ y = .ref b ∧ SqT X.K H a [] ∧ SqT X.K H b ys ∧ Q (.ref b) H) := by
  intro pins s σ H x y v u Q I rx ry h
  obtain ⟨a, b, ys, rfl, rfl, ha, hb, q⟩ := h
  cases rx
  cases ry
  obtain ⟨its, r1, p1, _⟩ := I.tuple ha
  obtain ⟨its2, r2, p2, _⟩ := I.tuple hb
  cases r1
  obtain ⟨⟨cls, dd, data, sl⟩, ho, hc, n, hd⟩ := id p1
  obtain ⟨⟨cls2, dd2, data2, sl2⟩, ho2, hc2, n2, hd2⟩ := id p2
  simp only at hc hd hc2 hd2
  subst hc hd hc2 hd2
  exact concat_meets ⟨_, ho, rfl⟩ ⟨_, ho2, rfl⟩ noFill_tuple_add seq_tuple_add PySem.F.slot_tuple_add PySem.F.entry_tuple_add (PySem.F.args_tuple_add_2 _ _)
    (tuple_addW0 a b ([] : List Value).toArray its2.toArray n n2 dd dd2 sl sl2 (by rfl)) ⟨ho, ho2, ⟨.ref b, H, I, rfl, q⟩⟩
/-! ### a list of ints == a list of ints -/
theorem ints_are : ∀ {k : List Int} {its : List Value}, Vals (k.map V.int) its → IntsAre its k
  | [], _, .nil => .nil
  | i :: k, _, .cons r t => by
    obtain ⟨t', rfl⟩ := r
    exact .cons i t' (ints_are t)
theorem op_eq_ints (hu : X.A.units + 64 < cLine) : OpR X (compareOp .Eq) (fun x y H Q => ∃ (a b : Addr) (ns ms : List Int), x = .ref a ∧ y = .ref b ∧ SqL X.K H a (ns.map V.int) ∧ SqL X.K H b (ms.map V.int) ∧ Q (.bl (decide (ns = ms))) H) := by
  intro pins s σ H x y v u Q I rx ry h
  obtain ⟨a, b, ns, ms, rfl, rfl, ha, hb, q⟩ := h
  cases rx
  cases ry
  obtain ⟨its, r1, p1, _⟩ := I.list ha
  obtain ⟨its2, r2, p2, _⟩ := I.list hb
  exact PySem.W.ke_eq_ints p1.isList p2.isList (ints_are r1) (ints_are r2) hu ⟨.bl _, H, I, rfl, q⟩
end
end L2

set_option Elab.async false
set_option linter.all false
set_option maxRecDepth 100000
set_option maxHeartbeats 4000000
namespace L2
open PySem PySem.Spec PyProof.Rows
/-! ### data, as deep as it goes -/
inductive D where
  | non | bl (b : Bool) | int (i : Int) | str (x : Str) | tup (l : List D) | lst (l : List D)
mutual
inductive Rep (H : Hp) : V → D → Prop
  | non : Rep H .non .non
  | bl (b : Bool) : Rep H (.bl b) (.bl b)
  | int (i : Int) : Rep H (.int i) (.int i)
  | str (x : Str) : Rep H (.str x) (.str x)
  | tup {a : Addr} {xs : List V} {ds : List D} : H a = some (.tup xs) → Reps H xs ds → Rep H (.ref a) (.tup ds)
  | lst {a : Addr} {xs : List V} {ds : List D} : H a = some (.lst xs) → Reps H xs ds → Rep H (.ref a) (.lst ds)
inductive Reps (H : Hp) : List V → List D → Prop
  | nil : Reps H [] []
  | cons {v : V} {d : D} {vs : List V} {ds : List D} : Rep H v d → Reps H vs ds → Reps H (v :: vs) (d :: ds)
end
mutual
theorem Rep.up {H H' : Hp} (s : Same H H') : ∀ {v : V} {d : D}, Rep H v d → Rep H' v d
  | _, _, .non => .non
  | _, _, .bl b => .bl b
  | _, _, .int i => .int i
  | _, _, .str x => .str x
  | _, _, .tup e r => .tup (s _ _ e) (Reps.up s r)
  | _, _, .lst e r => .lst (s _ _ e) (Reps.up s r)
theorem Reps.up {H H' : Hp} (s : Same H H') : ∀ {vs : List V} {ds : List D}, Reps H vs ds → Reps H' vs ds
  | _, _, .nil => .nil
  | _, _, .cons r t => .cons (Rep.up s r) (Reps.up s t)
end
theorem Reps.length {H : Hp} : ∀ {vs : List V} {ds : List D}, Reps H vs ds → vs.length = ds.length
  | _, _, .nil => rfl
  | _, _, .cons _ t => by rw [List.length_cons, List.length_cons, Reps.length t]
theorem Reps.get {H : Hp} : ∀ {vs : List V} {ds : List D}, Reps H vs ds → ∀ {i : Nat} {v : V}, vs[i]? = some v → ∃ d, ds[i]? = some d ∧ Rep H v d
  | _, _, .nil, i, v, e => by simp at e
  | _, _, .cons r _, 0, v, e => by simp at e; subst e; exact ⟨_, rfl, r⟩
  | _, _, .cons _ t, i + 1, v, e => by
    obtain ⟨d, h1, h2⟩ := Reps.get t (i := i) (v := v) (by simpa using e)
    exact ⟨d, by simpa using h1, h2⟩
theorem Reps.at {H : Hp} : ∀ {vs : List V} {ds : List D}, Reps H vs ds → ∀ {i : Nat} {d : D}, ds[i]? = some d → ∃ v, vs[i]? = some v ∧ Rep H v d
  | _, _, .nil, i, v, e => by simp at e
  | _, _, .cons r _, 0, v, e => by simp at e; subst e; exact ⟨_, rfl, r⟩
  | _, _, .cons _ t, i + 1, v, e => by
    obtain ⟨d, h1, h2⟩ := Reps.at t (i := i) (d := v) (by simpa using e)
    exact ⟨d, by simpa using h1, h2⟩
theorem Reps.append {H : Hp} : ∀ {vs ws : List V} {ds es : List D}, Reps H vs ds → Reps H ws es → Reps H (vs ++ ws) (ds ++ es)
  | _, _, _, _, .nil, s => s
  | _, _, _, _, .cons r t, s => .cons r (Reps.append t s)
theorem Reps.take {H : Hp} : ∀ {vs : List V} {ds : List D} (n : Nat), Reps H vs ds → Reps H (vs.take n) (ds.take n)
  | _, _, 0, _ => .nil
  | _, _, _ + 1, .nil => .nil
  | _, _, n + 1, .cons r t => .cons r (Reps.take n t)
theorem Reps.drop {H : Hp} : ∀ {vs : List V} {ds : List D} (n : Nat), Reps H vs ds → Reps H (vs.drop n) (ds.drop n)
  | _, _, 0, s => s
  | _, _, _ + 1, .nil => .nil
  | _, _, n + 1, .cons _ t => Reps.drop n t
theorem Reps.nil_iff {H : Hp} {vs : List V} {ds : List D} (r : Reps H vs ds) : vs = [] ↔ ds = [] := by cases r <;> simp
theorem same_new {H : Hp} {p : Addr} (h : H p = none) (o : HO) : Same H (upd H p o) := fun b u q => by rw [upd_ne (ne_of_none q h)]; exact q
theorem Same.seqT {K : PySem.W.Frag} {H H' : Hp} {a : Addr} {xs : List V} (e : Same H H') (h : SqT K H a xs) : SqT K H' a xs := by
  rcases h with (h | ⟨o, h⟩) | h
  · exact .inl (.inl (e _ _ h))
  · exact .inl (.inr ⟨o, e _ _ h⟩)
  · exact .inr h

/-! ### a comprehension, item by item -/
theorem comp_body {J : It} {n : Nat} {H1 : Hp} {Q : VK} {te : TE} {cs : List (Option V)} {g : Nat → V} {xs : Nat → V} (hz : n ≤ sizeLine) (hgo : ∀ i H, i < n → Same H1 H → J.go i H) (hstop : ∀ H, Same H1 H → J.stop n H) (hy : ∀ i H x H', i < n → Same H1 H → J.yld i H x H' → H' = H ∧ x = xs i)
    (step : ∀ i H' (R : VK), i < n → Same H1 H' → (∀ H3, Same H1 H3 → R (g i) H3) → te (some (xs i) :: cs) H' R) (fin : ∀ p H', Same H1 H' → H' p = none → Q (.ref p) (upd H' p (.lst ((List.range n).map g)))) :
    ∃ W : Nat → Nat → List V → Hp → Prop, (∃ m, W 0 m [] H1) ∧ ∀ i m ys H, W i m ys H → ys.length ≤ sizeLine ∧ ((J.stop i H ∧ ∀ p, H p = none → Q (.ref p) (upd H p (.lst ys))) ∨
      (J.go i H ∧ ∀ x H', J.yld i H x H' → tYes (some x :: cs) H' fun ok H2 => if ok = true then te (some x :: cs) H2 fun y H3 => ∃ m', m' < m ∧ W (i + 1) m' (ys ++ [y]) H3 else ∃ m', m' < m ∧ W (i + 1) m' ys H2)) := by
  refine ⟨fun i m ys H => m = n - i ∧ i ≤ n ∧ ys = (List.range i).map g ∧ Same H1 H, ⟨n, by simp, Nat.zero_le _, rfl, Same.refl _⟩, ?_⟩
  rintro i m ys H ⟨rfl, hi, rfl, hs⟩
  refine ⟨by rw [List.length_map, List.length_range]; omega, ?_⟩
  by_cases hlt : i < n
  · refine .inr ⟨hgo i H hlt hs, fun x H' y => ?_⟩
    obtain ⟨rfl, rfl⟩ := hy i H x H' hlt hs y
    unfold tYes
    refine iteT ?_
    refine step i _ _ hlt hs fun H3 hs3 => ⟨n - (i + 1), by omega, rfl, hlt, ?_, hs3⟩
    rw [List.range_succ, List.map_append]; rfl
  · have e : i = n := by omega
    subst e
    exact .inl ⟨hstop H hs, fun p hp => fin p H hs hp⟩
theorem comp_tup {K : PySem.W.Frag} {H1 : Hp} {a : Addr} {xs : List V} {Q : VK} {te : TE} {cs : List (Option V)} {g : Nat → V} (hT : SqT K H1 a xs) (hz : xs.length ≤ sizeLine)
    (step : ∀ i x H' (R : VK), xs[i]? = some x → Same H1 H' → (∀ H3, Same H1 H3 → R (g i) H3) → te (some x :: cs) H' R) (fin : ∀ p H', Same H1 H' → H' p = none → Q (.ref p) (upd H' p (.lst ((List.range xs.length).map g)))) :
    ∃ W : Nat → Nat → List V → Hp → Prop, (∃ m, W 0 m [] H1) ∧ ∀ i m ys H, W i m ys H → ys.length ≤ sizeLine ∧ (((Itt K a).stop i H ∧ ∀ p, H p = none → Q (.ref p) (upd H p (.lst ys))) ∨
      ((Itt K a).go i H ∧ ∀ x H', (Itt K a).yld i H x H' → tYes (some x :: cs) H' fun ok H2 => if ok = true then te (some x :: cs) H2 fun y H3 => ∃ m', m' < m ∧ W (i + 1) m' (ys ++ [y]) H3 else ∃ m', m' < m ∧ W (i + 1) m' ys H2)) := by
  have at' : ∀ i, i < xs.length → xs[i]? = some (xs.getD i .non) := fun i hi => by rw [List.getElem?_eq_getElem hi]; simp [List.getD, hi]
  refine comp_body (n := xs.length) (xs := fun i => xs.getD i .non) hz (fun i H hi hs => ⟨xs, _, hs.seqT hT, at' i hi⟩) (fun H hs => ⟨xs, hs.seqT hT, Nat.le_refl _⟩) (fun i H x H' hi hs y => ⟨y.1, ?_⟩) (fun i H' R hi hs hR => step i _ H' R (at' i hi) hs hR) fin
  have := y.2 xs (hs.seqT hT)
  rw [at' i hi] at this
  exact (Option.some.inj this).symm
theorem comp_rng {lo : Int} {n : Nat} {H1 : Hp} {Q : VK} {te : TE} {cs : List (Option V)} {g : Nat → V} (hz : n ≤ sizeLine)
    (step : ∀ i H' (R : VK), i < n → Same H1 H' → (∀ H3, Same H1 H3 → R (g i) H3) → te (some (.int (lo + i)) :: cs) H' R) (fin : ∀ p H', Same H1 H' → H' p = none → Q (.ref p) (upd H' p (.lst ((List.range n).map g)))) :
    ∃ W : Nat → Nat → List V → Hp → Prop, (∃ m, W 0 m [] H1) ∧ ∀ i m ys H, W i m ys H → ys.length ≤ sizeLine ∧ (((Itr lo n).stop i H ∧ ∀ p, H p = none → Q (.ref p) (upd H p (.lst ys))) ∨
      ((Itr lo n).go i H ∧ ∀ x H', (Itr lo n).yld i H x H' → tYes (some x :: cs) H' fun ok H2 => if ok = true then te (some x :: cs) H2 fun y H3 => ∃ m', m' < m ∧ W (i + 1) m' (ys ++ [y]) H3 else ∃ m', m' < m ∧ W (i + 1) m' ys H2)) :=
  comp_body (n := n) (xs := fun i => .int (lo + i)) hz (fun i H hi _ => hi) (fun H _ => Nat.le_refl _) (fun i H x H' _ _ y => y) step fin

/-! ### t * n -/
section
variable {X : Cx}
theorem op_repT : OpR X (binaryOp .Mult) (fun x y H Q => ∃ (p : Addr) (k : Int) (xs : List V), x = .ref p ∧ y = .int k ∧ SqT X.K H p xs ∧ xs ≠ [] ∧ 2 ≤ k ∧ k ≤ 1000 ∧ xs.length ≤ 1000 ∧ ∀ l, H l = none → Q (.ref l) (upd H l (.tup (List.replicate k.toNat xs).flatten))) := by
  intro pins s σ H x y v u Q I rx ry h
  obtain ⟨p, k, xs, rfl, rfl, hq, hne, h2, hk, hx, q⟩ := h
  cases rx
  obtain ⟨t, rfl⟩ := ry
  obtain ⟨its, rv, ⟨o, ho, hc, n, hd⟩, _⟩ := I.tuple hq
  have hl := rv.length
  have hnew : (List.replicate k.toNat its.toArray).foldl (· ++ ·) #[] = (List.replicate k.toNat its).flatten.toArray := by
    have := foldl_rep its k.toNat []
    rw [List.nil_append] at this
    exact this
  have hsz : (List.replicate k.toNat its).flatten.length ≤ 1000000 := by
    rw [len_rep]
    exact Nat.le_trans (Nat.mul_le_mul (show k.toNat ≤ 1000 by omega) (show its.length ≤ 1000 by omega)) (by decide)
  have hline : (1000000 : Nat) ≤ sizeLine := by decide
  refine mul_tup ho hc hd ?_ h2 ?_ hk ?_ ?_
  · have : its ≠ [] := fun z => hne (by cases xs with | nil => rfl | cons a r => rw [z] at hl; cases hl)
    simpa using this
  · rw [List.size_toArray]
    have := Int.mul_le_mul (show (its.length : Int) ≤ 1000 by omega) hk (by omega) (by omega)
    omega
  · rw [hnew]
    refine ⟨.ref s.heap.objs.size, _, I.laid (t' := s.toks) (o := .tup (List.replicate k.toNat xs).flatten) (fun b ob q => Heap.get?_push_of_some _ q) (Nat.le_refl _) ?_, rfl, q _ (I.hok.fresh (Nat.le_refl _))⟩
    refine ⟨?_, _, rv.rep k.toNat, IsTup.new _ _⟩
    rw [len_rep] at hsz ⊢
    rw [← hl] at hsz
    omega
  · rw [hnew, List.size_toArray]; omega
end
end L2

set_option Elab.async false
set_option linter.all false
set_option maxRecDepth 100000
set_option maxHeartbeats 1000000
namespace HT
open PySem PySem.Spec PyProof.Rows L2
section
variable {prog : Program} {w : World} {A : Around} {E : Value → Shared → Prop} {s : Shared}
/-- the whole of a tuple is the tuple -/
theorem getItem_tuple_all {t sl : Addr} {items : Array Value} {vl vu : Value} {lo hi : Option Int} {Q : Value → Shared → Prop} (ht : IsTup s.heap t items) (hs : s.heap.IsSliceOf sl vl vu .none) (pl : IsPart vl lo) (pu : IsPart vu hi)
    (h1 : sIx items.size 0 lo = 0) (h2 : sIx items.size items.size hi = items.size) (h : Q (.ref t) s) : wpAny (model prog w) A (getItem (.ref t) (.ref sl)) Q E s := by
  obtain ⟨os, hos, hcs, hds⟩ := id hs
  have hTs : s.TypeIs (.ref sl) "slice" := ⟨os, hos, hcs⟩
  unfold getItem
  try with_reducible refine wpAny_holding ?_
  first | refine wpAny_bind (wpAny_pure ?_) | skip
  refine wpAny_bind (wpAny_sequenceKey ht.typeIs (by decide) ?_)
  refine wpAny_bind (wpAny_callSpecial?_slot (name := Str.ofString "__getitem__") ht.typeIs PyProof.Rows.slot_tuple_getitem
    (wpAny_call_entry PyProof.Rows.slot_tuple_getitem ht.typeIs entry_tuple_getitem ?_ (args_tuple_getitem _ _)))
  show wpAny _ _ (Builtin.Tuple.tupleItemsOf (.ref t) >>= _) _ _ s
  refine wpAny_bind (tupleItemsOf_ ht ?_)
  refine wpAny_bind (wpAny_typeOf hTs ?_)
  rw [if_pos (by decide)]
  refine wpAny_bind (sliceApplied_gen hs pl pu ?_)
  rw [h1, h2]
  show wpAny _ _ (if ((((0 : Nat) : Int) == 0 && (1 : Int) == 1 && (items.size - 0) == items.size) = true) then _ else _) _ _ s
  rw [if_pos (by simp)]
  unfold Builtin.Tuple.tupleIsExact
  refine wpAny_bind (wpAny_bind (wpAny_typeOf ht.typeIs (wpAny_pure ?_)))
  simp only [beq_self_eq_true, if_true]
  refine wpAny_bind (wpAny_rule ?_)
  first
    | exact wpAny_pure ⟨_, rfl, wpAny_pure h⟩
    | exact wpAny_bind (wpAny_pure (wpAny_pure ⟨_, rfl, wpAny_pure h⟩))
end
end HT
namespace L2
open PySem PySem.Spec PyProof.Rows
theorem sl_tup_all {X : Cx} : SlR X (fun x lo hi H Q => ∃ (a : Addr) (xs : List V), x = .ref a ∧ SqT X.K H a xs ∧ HT.sIx xs.length 0 lo = 0 ∧ HT.sIx xs.length xs.length hi = xs.length ∧ Q (.ref a) H) := by
  intro pins s σ H x v vl vu lo hi sl Q I rx hs pl pu h
  obtain ⟨a, xs, rfl, hx, h1, h2, q⟩ := h
  cases rx
  obtain ⟨its, r, ht, hz⟩ := I.tuple hx
  have hlen : its.toArray.size = xs.length := by rw [List.size_toArray]; exact r.length.symm
  refine ⟨"tuple", _, PyProof.Rows.slot_tuple_getitem.lookup, ht.typeIs, ?_⟩
  exact HT.getItem_tuple_all ht hs pl pu (by rw [hlen]; exact h1) (by rw [hlen]; exact h2) ⟨.ref a, H, I, rfl, q⟩
end L2

set_option Elab.async false
set_option linter.all false
set_option maxRecDepth 100000
set_option maxHeartbeats 600000
namespace L2
open PySem PySem.Spec PyProof.Rows
/-! ### deep data == deep data, in -/
mutual
def D.py : D → PyData
  | .non => .none
  | .bl b => .bool b
  | .int i => .int i
  | .str x => .str x
  | .tup l => .tuple (D.pys l)
  | .lst l => .list (D.pys l)
def D.pys : List D → List PyData
  | [] => []
  | d :: l => d.py :: D.pys l
end
mutual
/-- no truths in it, texts that can be laid, so deep at most -/
def D.fit : Nat → D → Bool
  | _, .non => true
  | _, .bl _ => false
  | _, .int _ => true
  | _, .str x => PyData.strOk x
  | 0, .tup _ => false
  | n + 1, .tup l => D.fits n l
  | 0, .lst _ => false
  | n + 1, .lst l => D.fits n l
def D.fits : Nat → List D → Bool
  | _, [] => true
  | n, d :: l => d.fit n && D.fits n l
end
theorem D.fits_iff {n : Nat} : ∀ {l : List D}, D.fits n l = true ↔ ∀ d ∈ l, d.fit n = true
  | [] => by simp [D.fits]
  | d :: l => by simp [D.fits, D.fits_iff (l := l)]
mutual
theorem D.lay : ∀ {n : Nat} {d : D}, d.fit n = true → d.py.canLay0 = true ∧ d.py.depth ≤ n
  | _, .non, _ => ⟨rfl, Nat.zero_le _⟩
  | _, .bl _, h => by simp [D.fit] at h
  | _, .int _, _ => ⟨rfl, Nat.zero_le _⟩
  | _, .str x, h => ⟨by simpa [D.fit, D.py, PyData.canLay0] using h, Nat.zero_le _⟩
  | 0, .tup _, h => by simp [D.fit] at h
  | 0, .lst _, h => by simp [D.fit] at h
  | n + 1, .tup l, h => by
    have h' : D.fits n l = true := by simpa [D.fit] using h
    obtain ⟨a, b⟩ := D.lays h'
    exact ⟨by simpa [D.py, PyData.canLay0] using a, by simp only [D.py, PyData.depth]; omega⟩
  | n + 1, .lst l, h => by
    have h' : D.fits n l = true := by simpa [D.fit] using h
    obtain ⟨a, b⟩ := D.lays h'
    exact ⟨by simpa [D.py, PyData.canLay0] using a, by simp only [D.py, PyData.depth]; omega⟩
theorem D.lays : ∀ {n : Nat} {l : List D}, D.fits n l = true → PyData.canLayAll0 (D.pys l) = true ∧ PyData.depthAll (D.pys l) ≤ n
  | _, [], _ => ⟨rfl, Nat.zero_le _⟩
  | n, d :: l, h => by
    simp only [D.fits, Bool.and_eq_true] at h
    obtain ⟨a, b⟩ := D.lay h.1
    obtain ⟨c, e⟩ := D.lays h.2
    exact ⟨by simp [D.pys, PyData.canLayAll0, a, c], by simp only [D.pys, PyData.depthAll]; omega⟩
end
mutual
theorem D.eqv_iff : ∀ {n m : Nat} {d e : D}, d.fit n = true → e.fit m = true → (d.py.eqv e.py = true ↔ d = e)
  | _, _, .bl _, _, h, _ => by simp [D.fit] at h
  | _, _, _, .bl _, _, h => by simp [D.fit] at h
  | _, _, .non, .non, _, _ => by simp [D.py, PyData.eqv]
  | _, _, .non, .int _, _, _ => by simp [D.py, PyData.eqv]
  | _, _, .non, .str _, _, _ => by simp [D.py, PyData.eqv]
  | _, _, .non, .tup _, _, _ => by simp [D.py, PyData.eqv]
  | _, _, .non, .lst _, _, _ => by simp [D.py, PyData.eqv]
  | _, _, .int _, .non, _, _ => by simp [D.py, PyData.eqv]
  | _, _, .int _, .int _, _, _ => by simp [D.py, PyData.eqv]
  | _, _, .int _, .str _, _, _ => by simp [D.py, PyData.eqv]
  | _, _, .int _, .tup _, _, _ => by simp [D.py, PyData.eqv]
  | _, _, .int _, .lst _, _, _ => by simp [D.py, PyData.eqv]
  | _, _, .str _, .non, _, _ => by simp [D.py, PyData.eqv]
  | _, _, .str _, .int _, _, _ => by simp [D.py, PyData.eqv]
  | _, _, .str _, .str _, _, _ => by simp [D.py, PyData.eqv]
  | _, _, .str _, .tup _, _, _ => by simp [D.py, PyData.eqv]
  | _, _, .str _, .lst _, _, _ => by simp [D.py, PyData.eqv]
  | _, _, .tup _, .non, _, _ => by simp [D.py, PyData.eqv]
  | _, _, .tup _, .int _, _, _ => by simp [D.py, PyData.eqv]
  | _, _, .tup _, .str _, _, _ => by simp [D.py, PyData.eqv]
  | _, _, .tup _, .lst _, _, _ => by simp [D.py, PyData.eqv]
  | _, _, .lst _, .non, _, _ => by simp [D.py, PyData.eqv]
  | _, _, .lst _, .int _, _, _ => by simp [D.py, PyData.eqv]
  | _, _, .lst _, .str _, _, _ => by simp [D.py, PyData.eqv]
  | _, _, .lst _, .tup _, _, _ => by simp [D.py, PyData.eqv]
  | 0, _, .tup _, .tup _, h, _ => by simp [D.fit] at h
  | _ + 1, 0, .tup _, .tup _, _, h => by simp [D.fit] at h
  | n + 1, m + 1, .tup l, .tup k, h, h' => by
    have a : D.fits n l = true := by simpa [D.fit] using h
    have b : D.fits m k = true := by simpa [D.fit] using h'
    simp only [D.py, PyData.eqv, D.tup.injEq]
    exact D.eqvs_iff a b
  | 0, _, .lst _, .lst _, h, _ => by simp [D.fit] at h
  | _ + 1, 0, .lst _, .lst _, _, h => by simp [D.fit] at h
  | n + 1, m + 1, .lst l, .lst k, h, h' => by
    have a : D.fits n l = true := by simpa [D.fit] using h
    have b : D.fits m k = true := by simpa [D.fit] using h'
    simp only [D.py, PyData.eqv, D.lst.injEq]
    exact D.eqvs_iff a b
theorem D.eqvs_iff : ∀ {n m : Nat} {l k : List D}, D.fits n l = true → D.fits m k = true → (PyData.eqvAll (D.pys l) (D.pys k) = true ↔ l = k)
  | _, _, [], [], _, _ => by simp [D.pys, PyData.eqvAll]
  | _, _, [], _ :: _, _, _ => by simp [D.pys, PyData.eqvAll]
  | _, _, _ :: _, [], _, _ => by simp [D.pys, PyData.eqvAll]
  | n, m, d :: l, e :: k, h, h' => by
    simp only [D.fits, Bool.and_eq_true] at h h'
    simp only [D.pys, PyData.eqvAll, Bool.and_eq_true, List.cons.injEq]
    rw [D.eqv_iff h.1 h'.1, D.eqvs_iff h.2 h'.2]
end
section
variable {X : Cx}
mutual
theorem Inv.reads {pins : List (Addr × Obj)} {σ : St} {H : Hp} {s : Shared} (I : Inv X pins σ H s) : ∀ {v : V} {d : D}, Rep H v d → ∀ {u : Value}, RelV v u → ∃ as, Reads s.heap u d.py as
  | _, _, .non, _, r => by cases r; exact ⟨_, .none⟩
  | _, _, .bl b, _, r => by cases r; exact ⟨_, .bool b⟩
  | _, _, .int i, _, r => by obtain ⟨t, rfl⟩ := r; exact ⟨_, .int i t⟩
  | _, _, .str x, _, r => by obtain ⟨t, rfl⟩ := r; exact ⟨_, .str x t⟩
  | _, _, .tup (a := a) e rs, _, r => by
    cases r
    obtain ⟨its, rv, p, _⟩ := I.tuple (SqT.of (K := X.K) e)
    obtain ⟨o, ho, hc, n, hd⟩ := id p
    obtain ⟨as, ra⟩ := Inv.readss I rs rv
    exact ⟨_, .tuple ho hc hd (by simpa using ra)⟩
  | _, _, .lst (a := a) e rs, _, r => by
    cases r
    obtain ⟨its, rv, p, _⟩ := I.list (SqL.of (K := X.K) e)
    obtain ⟨o, ho, hc, n, hd⟩ := id p.isList
    obtain ⟨as, ra⟩ := Inv.readss I rs rv
    exact ⟨_, .list ho hc hd (by simpa using ra)⟩
theorem Inv.readss {pins : List (Addr × Obj)} {σ : St} {H : Hp} {s : Shared} (I : Inv X pins σ H s) : ∀ {vs : List V} {ds : List D}, Reps H vs ds → ∀ {us : List Value}, Vals vs us → ∃ as, ReadsAll s.heap us (D.pys ds) as
  | _, _, .nil, _, r => by cases r; exact ⟨_, .nil⟩
  | _, _, .cons h t, _, r => by
    cases r with
    | cons r1 r2 =>
      obtain ⟨as, a⟩ := Inv.reads I h r1
      obtain ⟨bs, b⟩ := Inv.readss I t r2
      exact ⟨_, .cons a b⟩
end
def rDeq : R2 := fun x y H Q => ∃ (d e : D), Rep H x d ∧ Rep H y e ∧ d.fit 9 = true ∧ e.fit 9 = true ∧ ∀ b : Bool, (b = true ↔ d = e) → Q (.bl b) H
def rDne : R2 := fun x y H Q => ∃ (d e : D), Rep H x d ∧ Rep H y e ∧ d.fit 9 = true ∧ e.fit 9 = true ∧ ∀ b : Bool, (b = true ↔ d ≠ e) → Q (.bl b) H
theorem op_deq (hu : X.A.units + 64 < cLine) : OpR X (compareOp .Eq) rDeq := by
  intro pins s σ H x y v u Q I rx ry h
  obtain ⟨d, e, hd, he, fd, fe, q⟩ := h
  obtain ⟨as, ra⟩ := I.reads hd rx
  obtain ⟨bs, rb⟩ := I.reads he ry
  obtain ⟨l1, d1⟩ := D.lay fd
  obtain ⟨l2, d2⟩ := D.lay fe
  exact SeqAt.compareEq_reads ra rb l1 l2 (by omega) ⟨.bl _, H, I, rfl, q _ (D.eqv_iff fd fe)⟩
theorem op_dne (hu : X.A.units + 64 < cLine) : OpR X (compareOp .NotEq) rDne := by
  intro pins s σ H x y v u Q I rx ry h
  obtain ⟨d, e, hd, he, fd, fe, q⟩ := h
  obtain ⟨as, ra⟩ := I.reads hd rx
  obtain ⟨bs, rb⟩ := I.reads he ry
  obtain ⟨l1, d1⟩ := D.lay fd
  obtain ⟨l2, d2⟩ := D.lay fe
  refine SeqAt.compareNe_reads ra rb l1 l2 (by omega) ⟨.bl _, H, I, rfl, q _ ?_⟩
  have := D.eqv_iff fd fe
  cases h : d.py.eqv e.py <;> simp [h] at this ⊢ <;> exact this
/-- x in a list or a tuple -/
def rDin (neg : Bool) : R2 := fun x y H Q => ∃ (d : D) (ds : List D), Rep H x d ∧ (Rep H y (.lst ds) ∨ Rep H y (.tup ds)) ∧ d.fit 8 = true ∧ D.fits 8 ds = true ∧ ∀ b : Bool, (b = true ↔ (if neg then d ∉ ds else d ∈ ds)) → Q (.bl b) H
theorem any_items {h : Heap} {s : Shared} (hs : s.heap = h) {its : List Value} {ds : List D} {as : List Addr} {d : D} (ra : ReadsAll h its (D.pys ds) as) (f : D.fits 8 ds = true) (fd : d.fit 8 = true) : (its.toArray.any fun y => (SeqAt.readOf s.heap y).eqv d.py) = true ↔ d ∈ ds := by
  subst hs
  rw [SeqAt.any_by_data (vs := its.toArray) (xs := D.pys ds) (as := as) (by simpa using ra) (D.lays f).1]
  have : ∀ {l : List D}, D.fits 8 l = true → (((D.pys l).any fun y => y.eqv d.py) = true ↔ d ∈ l) := by
    intro l
    induction l with
    | nil => intro _; simp [D.pys]
    | cons e l ih =>
      intro hf
      simp only [D.fits, Bool.and_eq_true] at hf
      simp only [D.pys, List.any_cons, Bool.or_eq_true, List.mem_cons]
      rw [D.eqv_iff hf.1 fd, ih hf.2]
      constructor
      · rintro (rfl | h)
        · exact .inl rfl
        · exact .inr h
      · rintro (rfl | h)
        · exact .inl rfl
        · exact .inr h
  exact this f
theorem read_eq {h : Heap} {v : Value} {d : PyData} {as : List Addr} (hl : d.canLay0 = true) (r : Reads h v d as) : SeqAt.readOf h v = d := by
  have hx : ∃ d as, Reads h v d as := ⟨d, as, r⟩
  unfold SeqAt.readOf
  rw [dif_pos hx]
  obtain ⟨bs, rb⟩ := hx.choose_spec
  exact (SeqAt.Reads.unique _ _ _ _ _ hl r rb).symm
theorem items_eq {A : Around} {s : Shared} {x : Value} {d : D} {bs : List Addr} (hu : A.units + 64 < cLine) (rx : Reads s.heap x d.py bs) (fd : d.fit 8 = true) : ∀ {its : List Value} {ds : List D} {as : List Addr}, ReadsAll s.heap its (D.pys ds) as → D.fits 8 ds = true → ∀ y, y ∈ its.toArray → SeqAt.EqAt A.in1 s y x ((SeqAt.readOf s.heap y).eqv d.py)
  | [], [], _, _, _, y, hy => by simp at hy
  | [], _ :: _, _, h, _, _, _ => by cases h
  | _ :: _, [], _, h, _, _, _ => by cases h
  | v :: its, e :: ds, _, h, f, y, hy => by
    simp only [D.fits, Bool.and_eq_true] at f
    cases h with
    | cons h1 h2 =>
      simp at hy
      rcases hy with rfl | hy
      · rw [read_eq (D.lay f.1).1 h1]
        refine SeqAt.eqAt_reads _ _ _ _ _ _ _ _ h1 rx (D.lay f.1).1 (D.lay fd).1 ?_
        have := (D.lay f.1).2
        show A.units + 1 + _ < cLine
        omega
      · exact items_eq hu rx fd h2 f.2 y (by simpa using hy)
theorem op_din (hu : X.A.units + 64 < cLine) : OpR X (compareOp .In) (rDin false) := by
  intro pins s σ H x y v u Q I rx ry h
  obtain ⟨d, ds, hd, hy, fd, fs, q⟩ := h
  obtain ⟨bs, rb⟩ := I.reads hd rx
  rcases hy with hy | hy
  · cases hy with
    | @lst a xs _ e rs =>
      cases ry
      obtain ⟨its, rv, p, _⟩ := I.list (SqL.of (K := X.K) e)
      obtain ⟨as, ra⟩ := I.readss rs rv
      exact SeqAt.in_listAt _ p.isList (items_eq hu rb fd ra fs) ⟨.bl _, H, I, rfl, q _ (any_items rfl ra fs fd)⟩
  · cases hy with
    | @tup a xs _ e rs =>
      cases ry
      obtain ⟨its, rv, p, _⟩ := I.tuple (SqT.of (K := X.K) e)
      obtain ⟨as, ra⟩ := I.readss rs rv
      exact SeqAt.in_tupleAt _ p (items_eq hu rb fd ra fs) ⟨.bl _, H, I, rfl, q _ (any_items rfl ra fs fd)⟩
theorem op_dnotin (hu : X.A.units + 64 < cLine) : OpR X (compareOp .NotIn) (rDin true) := by
  intro pins s σ H x y v u Q I rx ry h
  obtain ⟨d, ds, hd, hy, fd, fs, q⟩ := h
  obtain ⟨bs, rb⟩ := I.reads hd rx
  have nn : ∀ {c : Bool} {p : Prop}, (c = true ↔ p) → ((!c) = true ↔ ¬ p) := by intro c p h; cases c <;> simp at h ⊢ <;> exact h
  rcases hy with hy | hy
  · cases hy with
    | @lst a xs _ e rs =>
      cases ry
      obtain ⟨its, rv, p, _⟩ := I.list (SqL.of (K := X.K) e)
      obtain ⟨as, ra⟩ := I.readss rs rv
      exact SeqAt.notIn_listAt _ p.isList (items_eq hu rb fd ra fs) ⟨.bl _, H, I, rfl, q _ (nn (any_items rfl ra fs fd))⟩
  · cases hy with
    | @tup a xs _ e rs =>
      cases ry
      obtain ⟨its, rv, p, _⟩ := I.tuple (SqT.of (K := X.K) e)
      obtain ⟨as, ra⟩ := I.readss rs rv
      exact SeqAt.notIn_tupleAt _ p (items_eq hu rb fd ra fs) ⟨.bl _, H, I, rfl, q _ (nn (any_items rfl ra fs fd))⟩
end
end L2

set_option Elab.async false
set_option linter.all false
set_option maxRecDepth 100000
set_option maxHeartbeats 600000
namespace L2
open PySem PySem.Spec PyProof.Rows
abbrev CompW (J : It) (tt : TT) (te : TE) (cs : List (Option V)) (H1 : Hp) (Q : VK) : Prop :=
    ∃ W : Nat → Nat → List V → Hp → Prop, (∃ m, W 0 m [] H1) ∧ ∀ i m ys H, W i m ys H → ys.length ≤ sizeLine ∧ ((J.stop i H ∧ ∀ p, H p = none → Q (.ref p) (upd H p (.lst ys))) ∨
      (J.go i H ∧ ∀ x H', J.yld i H x H' → tt (some x :: cs) H' fun ok H2 => if ok = true then te (some x :: cs) H2 fun y H3 => ∃ m', m' < m ∧ W (i + 1) m' (ys ++ [y]) H3 else ∃ m', m' < m ∧ W (i + 1) m' ys H2))
/-- a comprehension by an invariant of its turns -/
theorem comp_gen {J : It} {n : Nat} {H1 : Hp} {Q : VK} {te : TE} {cs : List (Option V)} (Jv : Nat → List V → Hp → Prop) (h0 : Jv 0 [] H1) (hz : ∀ i ys H, Jv i ys H → ys.length ≤ sizeLine) (hgo : ∀ i ys H, i < n → Jv i ys H → J.go i H) (hstop : ∀ ys H, Jv n ys H → J.stop n H)
    (step : ∀ i ys H x H' (R : VK), i < n → Jv i ys H → J.yld i H x H' → (∀ y H3, Jv (i + 1) (ys ++ [y]) H3 → R y H3) → te (some x :: cs) H' R) (fin : ∀ ys H p, Jv n ys H → H p = none → Q (.ref p) (upd H p (.lst ys))) :
    CompW J tYes te cs H1 Q := by
  refine ⟨fun i m ys H => i ≤ n ∧ m = n - i ∧ Jv i ys H, ⟨n, Nat.zero_le _, rfl, h0⟩, ?_⟩
  rintro i m ys H ⟨hi, rfl, hj⟩
  refine ⟨hz i ys H hj, ?_⟩
  by_cases hlt : i < n
  · refine .inr ⟨hgo i ys H hlt hj, fun x H' y => ?_⟩
    unfold tYes
    refine iteT ?_
    exact step i ys H x H' _ hlt hj y fun y H3 j3 => ⟨n - (i + 1), by omega, hlt, rfl, j3⟩
  · have e : i = n := by omega
    subst e
    exact .inl ⟨hstop ys H hj, fun p hp => fin ys H p hj hp⟩
theorem comp_genT {K : PySem.W.Frag} {a : Addr} {xs : List V} {H1 : Hp} {Q : VK} {te : TE} {cs : List (Option V)} (e : H1 a = some (.tup xs)) (Jv : Nat → List V → Hp → Prop) (h0 : Jv 0 [] H1) (hz : ∀ i ys H, Jv i ys H → ys.length ≤ sizeLine) (hs : ∀ i ys H, Jv i ys H → Same H1 H)
    (step : ∀ i ys x H' (R : VK), xs[i]? = some x → Jv i ys H' → (∀ y H3, Jv (i + 1) (ys ++ [y]) H3 → R y H3) → te (some x :: cs) H' R) (fin : ∀ ys H p, Jv xs.length ys H → H p = none → Q (.ref p) (upd H p (.lst ys))) :
    CompW (Itt K a) tYes te cs H1 Q :=
  comp_gen (n := xs.length) Jv h0 hz (fun i ys H hi j => ⟨xs, xs[i], SqT.of (hs _ _ _ j _ _ e), List.getElem?_eq_getElem hi⟩) (fun ys H j => ⟨xs, SqT.of (hs _ _ _ j _ _ e), Nat.le_refl _⟩)
    (fun i ys H x H' R hi j y hR => by
      obtain ⟨rfl, hy⟩ := y
      exact step i ys x _ R (hy xs (SqT.of (hs _ _ _ j _ _ e))) j hR) fin
theorem comp_genL {K : PySem.W.Frag} {a : Addr} {xs : List V} {H1 : Hp} {Q : VK} {te : TE} {cs : List (Option V)} (e : SqL K H1 a xs) (Jv : Nat → List V → Hp → Prop) (h0 : Jv 0 [] H1) (hz : ∀ i ys H, Jv i ys H → ys.length ≤ sizeLine) (hs : ∀ i ys H, Jv i ys H → Same H1 H)
    (step : ∀ i ys x H' (R : VK), xs[i]? = some x → Jv i ys H' → (∀ y H3, Jv (i + 1) (ys ++ [y]) H3 → R y H3) → te (some x :: cs) H' R) (fin : ∀ ys H p, Jv xs.length ys H → H p = none → Q (.ref p) (upd H p (.lst ys))) :
    CompW (Itl K a) tYes te cs H1 Q :=
  comp_gen (n := xs.length) Jv h0 hz (fun i ys H hi j => ⟨xs, xs[i], (hs _ _ _ j).seq e, List.getElem?_eq_getElem hi⟩) (fun ys H j => ⟨xs, (hs _ _ _ j).seq e, Nat.le_refl _⟩)
    (fun i ys H x H' R hi j y hR => by
      obtain ⟨rfl, hy⟩ := y
      exact step i ys x _ R (hy xs ((hs _ _ _ j).seq e)) j hR) fin
theorem comp_genR {lo : Int} {n : Nat} {H1 : Hp} {Q : VK} {te : TE} {cs : List (Option V)} (Jv : Nat → List V → Hp → Prop) (h0 : Jv 0 [] H1) (hz : ∀ i ys H, Jv i ys H → ys.length ≤ sizeLine)
    (step : ∀ i ys H' (R : VK), i < n → Jv i ys H' → (∀ y H3, Jv (i + 1) (ys ++ [y]) H3 → R y H3) → te (some (.int (lo + i)) :: cs) H' R) (fin : ∀ ys H p, Jv n ys H → H p = none → Q (.ref p) (upd H p (.lst ys))) :
    CompW (Itr lo n) tYes te cs H1 Q :=
  comp_gen (n := n) Jv h0 hz (fun i ys H hi j => hi) (fun ys H j => Nat.le_refl _)
    (fun i ys H x H' R hi j y hR => by
      obtain ⟨rfl, rfl⟩ := y
      exact step i ys _ R hi j hR) fin
section
variable {σ : St} {H : Hp} {K : PySem.W.Frag} {te : TE} {tt : TT} {caps : List (Str × Nat)} {Q : VK}
theorem tcons_i {ta : TE} {tr : TA} {R : List V → Hp → Prop} (h : ta σ H fun x H1 => tr σ H1 fun xs H2 => R (x :: xs) H2) : tCons ta tr σ H R := h
theorem tseq_i {t u : TS} {D : Ends} (h : t { D with nx := u D } σ H) : tSeq t u D σ H := h
theorem tasg_i {g : TG} {D : Ends} (h : te σ H fun x H1 => g x σ H1 D.nx) : tAsg te g D σ H := h
theorem tcb_i {r : List V → Hp → VK → Prop} {t : TA} (h : t σ H fun vs H1 => r vs H1 Q) : tCB r t σ H Q := h
theorem comp_teR {i : Nat} {n : Int} (hσ : σ[i]? = some (some (.int n))) (h0 : 0 ≤ n) (h1 : n ≤ 1000) (h : CompW (Itr 0 n.toNat) tt te (caps.map fun p => (σ[p.2]?).join) H Q) : tComp (iRng1 (tCons (tVar i) tNil)) tt te caps σ H Q :=
  ⟨_, hσ, n, rfl, by omega, by omega, h⟩
theorem comp_teT {i : Nat} {a : Addr} {xs : List V} (hσ : σ[i]? = some (some (.ref a))) (e : H a = some (.tup xs)) (h : CompW (Itt K a) tt te (caps.map fun p => (σ[p.2]?).join) H Q) : tComp (iTup K (tVar i)) tt te caps σ H Q :=
  ⟨_, hσ, a, rfl, ⟨_, SqT.of e⟩, h⟩
theorem comp_teL {i : Nat} {a : Addr} {xs : List V} (hσ : σ[i]? = some (some (.ref a))) (e : H a = some (.lst xs)) (h : CompW (Itl K a) tt te (caps.map fun p => (σ[p.2]?).join) H Q) : tComp (iList K (tVar i)) tt te caps σ H Q :=
  ⟨_, hσ, a, rfl, ⟨_, SqL.of e⟩, h⟩
end
/-- numbers, None, texts -/
def flatD' : V → D | .int i => .int i | .str x => .str x | _ => .non
def Num (x : V) : Prop := x = .non ∨ ∃ i : Int, x = .int i
theorem num_rep {H : Hp} {x : V} (h : Num x) : Rep H x (flatD' x) ∧ (flatD' x).fit 0 = true := by
  rcases h with rfl | ⟨i, rfl⟩
  · exact ⟨.non, rfl⟩
  · exact ⟨.int i, rfl⟩
def rowDn (r : List V) : D := .tup (r.map flatD')
theorem nums_reps {H : Hp} : ∀ {r : List V}, (∀ x ∈ r, Num x) → Reps H r (r.map flatD') ∧ D.fits 0 (r.map flatD') = true
  | [], _ => ⟨.nil, rfl⟩
  | x :: r, h => by
    obtain ⟨a, b⟩ := nums_reps (H := H) (r := r) fun y hy => h y (List.mem_cons_of_mem _ hy)
    obtain ⟨c, d⟩ := num_rep (H := H) (h x List.mem_cons_self)
    exact ⟨.cons c a, by simp [D.fits, b, d]⟩
mutual
theorem D.fit_mono : ∀ {n m : Nat} {d : D}, n ≤ m → d.fit n = true → d.fit m = true
  | _, _, .non, _, _ => rfl
  | _, _, .bl _, _, h => by simp [D.fit] at h
  | _, _, .int _, _, _ => rfl
  | _, _, .str _, _, h => by simpa [D.fit] using h
  | 0, _, .tup _, _, h => by simp [D.fit] at h
  | 0, _, .lst _, _, h => by simp [D.fit] at h
  | n + 1, 0, .tup _, k, _ => absurd k (by omega)
  | n + 1, 0, .lst _, k, _ => absurd k (by omega)
  | n + 1, m + 1, .tup l, k, h => by simp only [D.fit] at h ⊢; exact D.fits_mono (by omega) h
  | n + 1, m + 1, .lst l, k, h => by simp only [D.fit] at h ⊢; exact D.fits_mono (by omega) h
theorem D.fits_mono : ∀ {n m : Nat} {l : List D}, n ≤ m → D.fits n l = true → D.fits m l = true
  | _, _, [], _, _ => rfl
  | n, m, d :: l, k, h => by
    simp only [D.fits, Bool.and_eq_true] at h ⊢
    exact ⟨D.fit_mono k h.1, D.fits_mono k h.2⟩
end
theorem rows_fit : ∀ {rs : List (List V)}, (∀ r ∈ rs, ∀ x ∈ r, Num x) → D.fits 1 (rs.map rowDn) = true
  | [], _ => rfl
  | r :: rs, h => by
    have a := rows_fit (rs := rs) fun y hy => h y (List.mem_cons_of_mem _ hy)
    have b := (nums_reps (H := fun _ => none) (h r List.mem_cons_self)).2
    simp [D.fits, a, rowDn, D.fit, b]
end L2

set_option Elab.async false
set_option linter.all false
set_option maxRecDepth 100000
set_option maxHeartbeats 1000000
namespace L2
open PySem PySem.Spec PyProof.Rows
/-! ### enumerate of a tuple, of a list -/
section
variable {prog : Program} {w : World} {A : Around} {E : Value → Shared → Prop} {s : Shared}
theorem tup_next {it t : Addr} {j : Nat} {vs : Array Value} {v : Value} {Q : Value → Shared → Prop} (st : s.heap.IsTupleIter it t j) (tp : s.heap.IsTuple t vs) (e : vs[j]? = some v)
    (q : ∀ h', h'.IsTupleIter it t (j + 1) → Heap.SameBut it s.heap h' → Q v { s with heap := h' }) : wpAny (model prog w) A (Builtin.SmallTypes.nextOf (.ref it)) Q E s := by
  obtain ⟨o1, g1, c1, d1⟩ := id st
  obtain ⟨o2, g2, _, n2, d2⟩ := tp
  unfold Builtin.SmallTypes.nextOf
  refine wpAny_bind (wpAny_callSpecial?_slot (name := Str.ofString "__next__") st.typeIs F.slot_tuple_iterator_next (wpAny_call_entry F.slot_tuple_iterator_next st.typeIs F.entry_tuple_iterator_next ?_ (F.args_tuple_iterator_next_1 _)))
  show wpAny _ _ (field (.ref it) 0 >>= _) _ _ s; refine wpAny_bind (wpAny_field g1 d1 (x := .ref t) rfl ?_)
  show wpAny _ _ (if (Value.ref t == Value.none) = true then _ else _) _ _ s; rw [if_neg (show ¬ ((Value.ref t == Value.none) = true) from fun z => Bool.false_ne_true z)]
  show wpAny _ _ (field (.ref it) 1 >>= _) _ _ s; refine wpAny_bind (wpAny_field g1 d1 (x := .int j 0) rfl ?_)
  show wpAny _ _ (seqItems? (.ref t) >>= _) _ _ s; refine wpAny_bind (wpAny_seqItems g2 d2 ?_)
  simp only [Int.toNat_natCast, e]; refine wpAny_bind (wpAny_setField g1 d1 (by simp) (wpAny_pure ⟨v, rfl, wpAny_pure (q _ ?_ (Heap.SameBut.update ..))⟩))
  refine ⟨_, Heap.get?_update_self _ g1 (Obj.isFreed_of_fields (Obj.data_mapFields d1 _)), (Obj.cls_mapFields ..).trans c1, ?_⟩
  rw [Obj.data_mapFields d1]; simp [rawInt]
theorem tup_end {it t : Addr} {j : Nat} {vs : Array Value} {Q : Value → Shared → Prop} (hh : A.handled = none) (st : s.heap.IsTupleIter it t j) (tp : s.heap.IsTuple t vs) (e : vs[j]? = none)
    (q : ∀ h' x, Heap.ExtBut it s.heap h' → (∃ o, h'.get? x = some o ∧ o.cls = .type "StopIteration") → E (.ref x) { s with heap := h' }) : wpAny (model prog w) A (Builtin.SmallTypes.nextOf (.ref it)) Q E s := by
  obtain ⟨o1, g1, c1, d1⟩ := id st
  obtain ⟨o2, g2, _, n2, d2⟩ := tp
  unfold Builtin.SmallTypes.nextOf
  refine wpAny_bind (wpAny_callSpecial?_slot (name := Str.ofString "__next__") st.typeIs F.slot_tuple_iterator_next (wpAny_call_entry F.slot_tuple_iterator_next st.typeIs F.entry_tuple_iterator_next ?_ (F.args_tuple_iterator_next_1 _)))
  show wpAny _ _ (field (.ref it) 0 >>= _) _ _ s; refine wpAny_bind (wpAny_field g1 d1 (x := .ref t) rfl ?_)
  show wpAny _ _ (if (Value.ref t == Value.none) = true then _ else _) _ _ s; rw [if_neg (show ¬ ((Value.ref t == Value.none) = true) from fun z => Bool.false_ne_true z)]
  show wpAny _ _ (field (.ref it) 1 >>= _) _ _ s; refine wpAny_bind (wpAny_field g1 d1 (x := .int j 0) rfl ?_)
  show wpAny _ _ (seqItems? (.ref t) >>= _) _ _ s; refine wpAny_bind (wpAny_seqItems g2 d2 ?_)
  simp only [Int.toNat_natCast, e]; refine wpAny_bind (wpAny_rule (wpAny_bind (wpAny_setField g1 d1 (by simp) ?_)))
  show wpAny _ _ (newExc (.type "StopIteration") [] >>= _) _ _ _; refine wpAny_bind ?_
  simp only [newExc, newTuple]; refine wpAny_bind (wpAny_newObj_type ?_ (by size_fits))
  refine wpAny_bind (m := firstArgMember _ _) (wpAny_of_eq (a := Value.none) ?_ ?_)
  · first | rfl | (simp only [firstArgMember]; rfl)
  refine wpAny_newObj_type ?_ (by size_fits); simp only [raiseNew]; refine wpAny_bind (wpAny_handled ?_)
  first | rw [show A.in1.handled = none from hh] | rw [hh]
  refine wpAny_bind (wpAny_pure (wpAny_throw (q _ _ (((Heap.SameBut.update ..).extBut.push _).push _) ⟨_, Heap.get?_push_size _ rfl, rfl⟩)))
theorem draws_tup (hh : A.handled = none) (it t : Addr) (ne : t ≠ it) (vs : Array Value) : Draws prog w A it [it, t] vs.size (fun j v => vs[j]? = some v) (fun j h => h.IsTupleIter it t j ∧ h.IsTuple t vs) where
  live := fun _ _ st => by obtain ⟨⟨o, ho, _⟩, _⟩ := st; exact ⟨o, ho⟩
  frame := fun _ _ _ st hk => ⟨st.1.at fun o e => hk it (by simp) o e, by obtain ⟨o, ho, r⟩ := st.2; exact ⟨o, hk t (by simp) o ho, r⟩⟩
  item := fun j s Q E hj st hQ => tup_next st.1 st.2 (v := vs[j]) (by simp [hj]) fun h' st' sb => hQ _ h' s.toks (by simp [hj]) ⟨st', by obtain ⟨o, ho, r⟩ := st.2; exact ⟨o, (sb.2 t ne).trans ho, r⟩⟩ sb
  done := fun s Q E st hE => tup_end hh st.1 st.2 (by simp) hE
theorem enum_new_tup (l : Addr) (items : Array Value) (n : Nat) (dct : Option Addr) (sl : Array (Option Value)) :
    Meets (Builtin.«enumerate.__new__» ⟨[.type "enumerate", .ref l], []⟩) (fun _ R s => s.heap.get? l = some { cls := .type "tuple", dict := dct, data := .seq items n, slots := sl } ∧
      R (.ok (.ret (.ref (s.heap.push { cls := .type "tuple_iterator", data := .fields #[.ref l, .int 0 0] }).objs.size)))
        { s with heap := (s.heap.push { cls := .type "tuple_iterator", data := .fields #[.ref l, .int 0 0] }).push { cls := .type "enumerate", data := .fields #[.none, .bool false, .ref s.heap.objs.size, rawInt 0, .none, .none] } }) :=
  .of_wp fun prog w A R s h => by
    obtain ⟨hp, g, d, tk, os⟩ := s
    obtain ⟨hl, h⟩ := h
    have hsub := sub_enumerate
    have hT : Heap.IsTuple (Shared.heap ⟨hp, g, d, tk, os⟩) l items := ⟨_, hl, rfl, n, rfl⟩
    wp_walk using AutoSeq1.wpAny_loadPart' hl
    refine wpAny_stack_any fun st => wpAny_pure ?_
    split
    · rename_i c _ _ _ _ _
      cases (c == Value.type "enumerate") <;> (wp_walk using AutoSeq1.wpAny_loadPart' hl, wpAny_pyIter_tuple hT; exact ⟨_, rfl, h⟩)
    · wp_walk using AutoSeq1.wpAny_loadPart' hl, wpAny_pyIter_tuple hT; exact ⟨_, rfl, h⟩
theorem call_enum_tup {l : Addr} {items : Array Value} {Q : Value → Shared → Prop} (hL : s.heap.IsTuple l items)
    (h : ∀ h', IsEnum h' (s.heap.objs.size + 1) s.heap.objs.size 0 .none → h'.IsTupleIter s.heap.objs.size l 0 → h'.objs.size = s.heap.objs.size + 2 → (∀ b o, s.heap.get? b = some o → h'.get? b = some o) → Q (.ref (s.heap.objs.size + 1)) { s with heap := h' }) :
    wpAny (model prog w) A (call (.type "enumerate") [.ref l]) Q E s := by
  obtain ⟨⟨c, dct, dt, sl⟩, hl, hc, n, hd⟩ := hL
  simp only at hc hd
  subst hc hd
  refine callType_new F.called_enumerate (by decide) (F.typeCall_enumerate_1 _) (F.newCall_enumerate_1 _) (fun obj => F.args_object_init_2 obj _) F.entry_enumerate_new (enum_new_tup l items n dct sl) ⟨hl, ?_⟩
  generalize hp1 : s.heap.push { cls := .type "tuple_iterator", data := .fields #[.ref l, .int 0 0] } = h1
  have hz : h1.objs.size = s.heap.objs.size + 1 := by rw [← hp1]; exact Heap.size_push ..
  have k1 : ∀ b o, s.heap.get? b = some o → h1.get? b = some o := fun b o x => by rw [← hp1]; exact Heap.get?_push_of_some _ x
  have i1 : h1.get? s.heap.objs.size = some { cls := .type "tuple_iterator", data := .fields #[.ref l, .int 0 0] } := by rw [← hp1]; exact Heap.get?_push_size _ rfl
  show _ ∧ _
  rw [hz]
  have he : IsEnum (h1.push { cls := .type "enumerate", data := .fields #[.none, .bool false, .ref s.heap.objs.size, rawInt 0, .none, .none] }) (s.heap.objs.size + 1) s.heap.objs.size 0 .none := by
    rw [← hz]; exact Heap.get?_push_size _ rfl
  exact ⟨⟨_, he, rfl⟩, h _ he ⟨_, Heap.get?_push_of_some _ i1, rfl, rfl⟩ (by rw [Heap.size_push, hz]) fun b o x => Heap.get?_push_of_some _ (k1 b o x)⟩
end
section
variable {X : Cx} {pins : List (Addr × Obj)} {σ : St} {H : Hp} {s : Shared}
/-- several of the iterator's own objects turned -/
theorem Inv.turnedL {t' : Nat} {h' : Heap} {ch : List Addr} (I : Inv X pins σ H s) (k : ∀ b o, b ∉ ch → s.heap.get? b = some o → h'.get? b = some o) (hf : ∀ b ∈ ch, FpOk X pins H b) : Inv X pins σ H { s with heap := h', toks := t' } := by
  have nit : ∀ b u, H b = some u → b ∉ ch := fun b u e z => by rw [(hf b z).1] at e; cases e
  refine I.step (g' := s.gens) (d' := s.drawn) (ch := ch) (fun b hb => ?_) (fun b o _ _ hc e _ => k b o hc e) (fun b o _ _ hc e _ => ⟨o.slots, k b o hc e⟩) (fun _ _ _ _ n => n) (fun b o hc e => ⟨o, k b o hc e⟩) (fun _ _ e => e) (fun _ _ _ e => e) (fun b ps e => ⟨#[], by rw [e]; simp⟩) (fun m hm => ?_) (fun b u e => ?_) I.bare
  · obtain ⟨f0, f1, f2, f3, f4, f5⟩ := hf b hb
    exact ⟨f3, f1, f4, f5⟩
  · obtain ⟨o, es, ep, ho, r⟩ := hm
    exact ⟨o, es, ep, k _ o (fun z => (hf _ z).2.1 rfl) ho, r⟩
  · refine (I.hok b u e).stay (fun c v hc q => k c v ?_ q) (fun _ q => q) fun _ _ q => q
    rcases hc with z | z
    · rw [z]; exact nit b u e
    · exact nit c _ z
/-- (i, the item at i), each a new tuple -/
def ItE (S : Hp → Addr → List V → Prop) (a : Addr) : It :=
  ⟨fun i H => ∃ xs x, S H a xs ∧ xs[i]? = some x, fun i H x H' => ∃ t y, x = .ref t ∧ H t = none ∧ H' = upd H t (.tup [.int (i : Int), y]) ∧ ∀ xs, S H a xs → xs[i]? = some y, fun i H => ∃ xs, S H a xs ∧ xs.length ≤ i⟩
theorem enum_out {i : Nat} {e it T : Addr} {h1 h2 : Heap} {tk : Nat} {x : Value} {y : V} (I : Inv X pins σ H s) (hf : ∀ b ∈ [e, it], FpOk X pins H b) (hT : T = s.heap.objs.size) (te : h1.get? T = some { cls := .type "tuple", data := .seq #[.int i tk, x] })
    (k : ∀ b o, b ≠ e → b ≠ it → s.heap.get? b = some o → h1.get? b = some o) (sb : Heap.SameBut e h1 h2) (ne : T ≠ e) (ry : RelV y x) : Inv X pins σ (upd H T (.tup [.int (i : Int), y])) { s with heap := h2, toks := tk + 1 } ∧ H T = none := by
  have fr : H T = none := by rw [hT]; exact I.hok.fresh (Nat.le_refl _)
  refine ⟨?_, fr⟩
  have I1 : Inv X pins σ H { s with heap := h2, toks := tk + 1 } := I.turnedL (ch := [e, it]) (fun b o hb q => by
    simp only [List.mem_cons, List.not_mem_nil, or_false, not_or] at hb
    exact (sb.2 b hb.1).trans (k b o hb.1 hb.2 q)) hf
  refine I1.track fr (by rw [hT]; exact I.sz) (by rw [hT]; exact Nat.ne_of_gt I.lt) (fun z c q => ?_) (fun p hp => ?_) ?_
  · obtain ⟨v, cq⟩ := I.cell z c q
    rw [hT]; exact Nat.ne_of_lt cq.lt
  · rw [hT]; exact Nat.ne_of_lt (Heap.lt_size (I.pin p hp).1)
  · refine ⟨by show 2 ≤ sizeLine; decide, [.int i tk, x], .cons ⟨tk, rfl⟩ (.cons ry .nil), ?_⟩
    exact ⟨_, (sb.2 T ne).trans te, rfl, _, rfl⟩
theorem turn_enumL {P : Program} {w : World} {K : PySem.W.Frag} {elts : List Expr} {x1 : Nat} {pos : Pos} (a it e : Addr) (hei : e ≠ it) : Turn P w K (.Tuple elts x1 pos) (ItE (SqL K) a) [e, it] e (fun i h => (∃ old, IsEnum h e it (i : Int) old) ∧ h.IsListIter it a i) where
  mem := by simp
  obj := fun i h st b hb => by
    obtain ⟨⟨old, he⟩, o, ho, c, d⟩ := st
    simp only [List.mem_cons, List.not_mem_nil, or_false] at hb
    rcases hb with rfl | rfl
    · exact ⟨_, he, fun v z => by cases z⟩
    · exact ⟨o, ho, fun v z => by rw [d] at z; cases z⟩
  keep := fun i h h' st k => by
    obtain ⟨⟨old, he⟩, hi⟩ := st
    exact ⟨⟨old, k e (by simp) _ he⟩, hi.at fun o q => k it (by simp) o q⟩
  item := by
    intro X hP hw hK hc i pins s σ H E I hf st hg
    subst hP hw hK
    obtain ⟨xs, x, hq, hx⟩ := hg
    obtain ⟨⟨old, he⟩, hi⟩ := st
    obtain ⟨its, rv, p, hz⟩ := I.list hq
    obtain ⟨u, hu, ru⟩ := rv.get hx
    refine wpAny_pyNext_enum_item he hi p.isList (x := u) (by simpa using hu) hei fun h1 ho hi1 ht1 hz1 k1 => ?_
    have neT : s.heap.objs.size ≠ e := Nat.ne_of_gt (Heap.lt_size he)
    refine ⟨_, rfl, wpAny_letOwnedTupleGo_enum ho fun h2 he2 sb => ?_⟩
    obtain ⟨I2, fr⟩ := enum_out (h2 := h2) (y := x) I hf rfl ht1 k1 sb neT ru
    refine ⟨.ref s.heap.objs.size, _, I2, rfl, ⟨_, x, rfl, fr, rfl, fun ys hy => by rw [I.list_inj hy hq]; exact hx⟩, ⟨⟨u, by simpa using he2⟩, hi1.at fun o q => (sb.2 it (Ne.symm hei)).trans q⟩, fun b hb => ?_⟩
    rw [upd_ne]
    · exact (hf b hb).1
    · rintro rfl
      simp only [List.mem_cons, List.not_mem_nil, or_false] at hb
      rcases hb with z | z
      · exact neT z
      · obtain ⟨o, q, _⟩ := hi
        exact absurd (Heap.lt_size q) (by rw [← z]; exact Nat.lt_irrefl _)
  done := by
    intro X hP hw hK hc i pins s σ H E I hf st hg
    subst hP hw hK
    obtain ⟨xs, hq, hx⟩ := hg
    obtain ⟨⟨old, he⟩, hi⟩ := st
    obtain ⟨its, rv, p, hz⟩ := I.list hq
    have hl := rv.length
    obtain ⟨f0, f1, f2, f3, f4, f5⟩ := hf it (by simp)
    exact wpAny_pyNext_enum_end (I.ok.hd hc) he hi p.isList (by simp; omega) fun h' eb => ⟨rfl, I.turned (t' := s.toks) (fun b o hb q => eb b o hb q) f0 f1 f3 f4 f5⟩
  self := fun _ _ _ _ _ st h => by
    obtain ⟨⟨old, he⟩, _⟩ := st
    exact wpAny_pyIter_enum he h
theorem turn_enumT {P : Program} {w : World} {K : PySem.W.Frag} {elts : List Expr} {x1 : Nat} {pos : Pos} (a it e : Addr) (hei : e ≠ it) : Turn P w K (.Tuple elts x1 pos) (ItE (SqT K) a) [e, it] e (fun i h => (∃ old, IsEnum h e it (i : Int) old) ∧ h.IsTupleIter it a i) where
  mem := by simp
  obj := fun i h st b hb => by
    obtain ⟨⟨old, he⟩, o, ho, c, d⟩ := st
    simp only [List.mem_cons, List.not_mem_nil, or_false] at hb
    rcases hb with rfl | rfl
    · exact ⟨_, he, fun v z => by cases z⟩
    · exact ⟨o, ho, fun v z => by rw [d] at z; cases z⟩
  keep := fun i h h' st k => by
    obtain ⟨⟨old, he⟩, hi⟩ := st
    exact ⟨⟨old, k e (by simp) _ he⟩, hi.at fun o q => k it (by simp) o q⟩
  item := by
    intro X hP hw hK hc i pins s σ H E I hf st hg
    subst hP hw hK
    obtain ⟨xs, x, hq, hx⟩ := hg
    obtain ⟨⟨old, he⟩, hi⟩ := st
    obtain ⟨its, rv, p, hz⟩ := I.tuple hq
    obtain ⟨u, hu, ru⟩ := rv.get hx
    have hlt : i < its.toArray.size := by
      have := (List.getElem?_eq_some_iff.mp hu).1
      simpa using this
    have nat' : a ≠ it := by
      rintro rfl
      obtain ⟨o, q, c, _⟩ := hi
      obtain ⟨o2, q2, c2, _⟩ := id p
      rw [q] at q2; cases q2
      rw [c] at c2
      simp at c2
    have nae : e ∉ [it, a] := by
      simp only [List.mem_cons, List.not_mem_nil, or_false, not_or]
      refine ⟨hei, ?_⟩
      rintro rfl
      obtain ⟨o2, q2, c2, _⟩ := id p
      rw [he] at q2; cases q2
      simp at c2
    refine wpAny_pyNext_enum_itemD (D := draws_tup (A := X.A.in1) (I.ok.hd hc) it a nat' its.toArray) he ⟨hi, show s.heap.IsTuple a its.toArray from p⟩ hlt hei nae fun u' h1 tk hu' ho hi1 ht1 hz1 k1 => ?_
    have eu : u' = u := by
      have : its[i]? = some u' := by simpa using hu'
      rw [hu] at this; exact (Option.some.inj this).symm
    subst eu
    have neT : s.heap.objs.size ≠ e := Nat.ne_of_gt (Heap.lt_size he)
    refine ⟨_, rfl, wpAny_letOwnedTupleGo_enum ho fun h2 he2 sb => ?_⟩
    obtain ⟨I2, fr⟩ := enum_out (h2 := h2) (y := x) I hf rfl ht1 k1 sb neT ru
    refine ⟨.ref s.heap.objs.size, _, I2, rfl, ⟨_, x, rfl, fr, rfl, fun ys hy => by rw [I.tuple_inj hy hq]; exact hx⟩, ⟨⟨u', by simpa using he2⟩, hi1.1.at fun o q => (sb.2 it (Ne.symm hei)).trans q⟩, fun b hb => ?_⟩
    rw [upd_ne]
    · exact (hf b hb).1
    · rintro rfl
      simp only [List.mem_cons, List.not_mem_nil, or_false] at hb
      rcases hb with z | z
      · exact neT z
      · obtain ⟨o, q, _⟩ := hi
        exact absurd (Heap.lt_size q) (by rw [← z]; exact Nat.lt_irrefl _)
  done := by
    intro X hP hw hK hc i pins s σ H E I hf st hg
    subst hP hw hK
    obtain ⟨xs, hq, hx⟩ := hg
    obtain ⟨⟨old, he⟩, hi⟩ := st
    obtain ⟨its, rv, p, hz⟩ := I.tuple hq
    have hl := rv.length
    obtain ⟨f0, f1, f2, f3, f4, f5⟩ := hf it (by simp)
    have ty : s.TypeIs (.ref e) "enumerate" := ⟨_, he, rfl⟩
    unfold pyNext
    refine wpAny_bind (wpAny_attempt (wpAny_callSpecial?_slot (name := Str.ofString "__next__") ty F.slot_enumerate_next (wpAny_call_entry F.slot_enumerate_next ty F.entry_enumerate_next ?_ (F.args_enumerate_next_1 _))))
    show wpAny _ _ (field (.ref e) 2 >>= _) _ _ _; refine wpAny_bind (wpAny_field he rfl (x := .ref it) rfl ?_)
    refine wpAny_bind (tup_end (I.ok.hd hc) hi (show s.heap.IsTuple a its.toArray from p) (by simp; omega) fun h' x eb hx' => ?_)
    obtain ⟨o, ho, hcl⟩ := hx'
    refine wpAny_bind (wpAny_isInstance (T := "StopIteration") (b := true) ⟨o, ho, hcl⟩ isSubtype_stop ?_)
    exact wpAny_pure ⟨rfl, I.turned (t' := s.toks) (fun b o hb q => eb b o hb q) f0 f1 f3 f4 f5⟩
  self := fun _ _ _ _ _ st h => by
    obtain ⟨⟨old, he⟩, _⟩ := st
    exact wpAny_pyIter_enum he h
theorem boot_enum : bootBuiltins "enumerate" = some (.type "enumerate") := by decide +kernel
def iEnu (S : Hp → Addr → List V → Prop) (ta : TA) : TI := fun σ H R => ta σ H fun vs H1 => ∃ a, vs = [.ref a] ∧ (∃ xs, S H1 a xs) ∧ R (ItE S a) H1
theorem pi_enumL {K : PySem.W.Frag} {elts : List Expr} {x1 : Nat} {tp : Pos} {a : Expr} {ta : TA} {p pos : Pos} (hg : Gl X "enumerate") (hm : X.mg "enumerate" = none) (ha : PA X [a] ta) (hK : X.K = K := by rfl) (hs : starEach [a] X.env = [(false, eval a X.env)] := by rfl) :
    PI X (.Tuple elts x1 tp) (.Call (.Name "enumerate" p) [a] [] pos) (iEnu (SqL K) ta) := by
  subst hK
  intro pins s σ H R I h
  refine Call_ (ld_blt I hg hm boot_enum (PyProof.Rows.callWith_type1 (thn (ha pos pins s σ H _ I h) fun us s1 ⟨vs, H1, I1, r1, q1⟩ => ?_) hs rfl))
  obtain ⟨b, e, ⟨xs, hq⟩, q⟩ := q1
  subst e
  cases r1 with
  | cons r rr =>
    cases rr
    cases r
    obtain ⟨its, rv, pl, hz⟩ := I1.list hq
    refine call_enumerate_list pl.isList fun h' he hi hz' k => wpAny_pyIter_enum he ?_
    refine ⟨s1.heap.objs.size + 1, [s1.heap.objs.size + 1, s1.heap.objs.size], _, _, H1, rfl, I1.kept (t' := s1.toks) k, turn_enumL b _ _ (Nat.succ_ne_self _), ⟨⟨_, he⟩, hi⟩, fun c hb => ?_, q⟩
    simp only [List.mem_cons, List.not_mem_nil, or_false] at hb
    have hc : s1.heap.objs.size ≤ c := by rcases hb with rfl | rfl <;> omega
    exact I1.fpOk hc (I1.hok.fresh hc)
theorem pi_enumT {K : PySem.W.Frag} {elts : List Expr} {x1 : Nat} {tp : Pos} {a : Expr} {ta : TA} {p pos : Pos} (hg : Gl X "enumerate") (hm : X.mg "enumerate" = none) (ha : PA X [a] ta) (hK : X.K = K := by rfl) (hs : starEach [a] X.env = [(false, eval a X.env)] := by rfl) :
    PI X (.Tuple elts x1 tp) (.Call (.Name "enumerate" p) [a] [] pos) (iEnu (SqT K) ta) := by
  subst hK
  intro pins s σ H R I h
  refine Call_ (ld_blt I hg hm boot_enum (PyProof.Rows.callWith_type1 (thn (ha pos pins s σ H _ I h) fun us s1 ⟨vs, H1, I1, r1, q1⟩ => ?_) hs rfl))
  obtain ⟨b, e, ⟨xs, hq⟩, q⟩ := q1
  subst e
  cases r1 with
  | cons r rr =>
    cases rr
    cases r
    obtain ⟨its, rv, pl, hz⟩ := I1.tuple hq
    refine call_enum_tup (show s1.heap.IsTuple b its.toArray from pl) fun h' he hi hz' k => wpAny_pyIter_enum he ?_
    refine ⟨s1.heap.objs.size + 1, [s1.heap.objs.size + 1, s1.heap.objs.size], _, _, H1, rfl, I1.kept (t' := s1.toks) k, turn_enumT b _ _ (Nat.succ_ne_self _), ⟨⟨_, he⟩, hi⟩, fun c hb => ?_, q⟩
    simp only [List.mem_cons, List.not_mem_nil, or_false] at hb
    have hc : s1.heap.objs.size ≤ c := by rcases hb with rfl | rfl <;> omega
    exact I1.fpOk hc (I1.hok.fresh hc)
/-- for i, x in enumerate(xs), xs left as it is -/
theorem for_enum {S : Hp → Addr → List V → Prop} {a : Addr} {xs : List V} {g : TG} {tb : TS} {D : Ends} {σ : St} {H : Hp} (Pv : Nat → St → Hp → Prop) (h0 : Pv 0 σ H) (hl : ∀ i σ H, i ≤ xs.length → Pv i σ H → S H a xs)
    (hs : ∀ i y t σ H, xs[i]? = some y → Pv i σ H → H t = none → g (.ref t) σ (upd H t (.tup [.int (i : Int), y])) fun σ2 H2 => tb { D with nx := Pv (i + 1), ct := Pv (i + 1), bk := D.nx } σ2 H2) (hd : ∀ σ H, Pv xs.length σ H → D.nx σ H) :
    ∃ W : Nat → Nat → St → Hp → Prop, (∃ m, W 0 m σ H) ∧ ∀ i m σ H, W i m σ H →
      ((ItE S a).stop i H ∧ D.nx σ H) ∨ ((ItE S a).go i H ∧ ∃ N : St → Hp → Prop, (∀ σ' H', N σ' H' → ∃ m', m' < m ∧ W (i + 1) m' σ' H') ∧ ∀ x H', (ItE S a).yld i H x H' → g x σ H' fun σ2 H2 => tb { D with nx := N, ct := N, bk := D.nx } σ2 H2) := by
  refine ⟨fun i m σ H => m = xs.length - i ∧ i ≤ xs.length ∧ Pv i σ H, ⟨xs.length, by simp, Nat.zero_le _, h0⟩, ?_⟩
  rintro i m σ H ⟨rfl, hi, p⟩
  have q := hl i σ H hi p
  by_cases hlt : i < xs.length
  · refine .inr ⟨⟨xs, xs[i], q, by simp [hlt]⟩, Pv (i + 1), fun σ' H' p' => ⟨xs.length - (i + 1), by omega, rfl, hlt, p'⟩, fun x H' y => ?_⟩
    obtain ⟨t, v, rfl, ht, rfl, hy⟩ := y
    exact hs i v t σ H (hy xs q) p ht
  · have e : i = xs.length := by omega
    subst e
    exact .inl ⟨⟨xs, q, Nat.le_refl _⟩, hd σ H p⟩
/-- lo, lo + c, .. (n of them) -/
def Itq (lo c : Int) (n : Nat) : It := ⟨fun i _ => i < n, fun i H x H' => H' = H ∧ x = .int (lo + i * c), fun i _ => n ≤ i⟩
theorem turn_rangeq {P : Program} {w : World} {K : PySem.W.Frag} {tg : Expr} (it : Addr) (lo c : Int) (n : Nat) : Turn P w K tg (Itq lo c n) [it] it (fun i h => IsRangeIter h it (lo + (i : Nat) * c) ((n : Int) - (i : Nat)) c) where
  mem := by simp
  obj := fun i h st b hb => by
    have e : b = it := by simpa using hb
    subst e
    exact ⟨_, st, fun v z => by cases z⟩
  keep := fun i h h' st k => k it (by simp) _ st
  item := by
    intro X hP hw hK hc i pins s σ H E I hf st hg
    subst hP hw hK
    obtain ⟨f0, f1, f2, f3, f4, f5⟩ := hf it (by simp)
    have W := Walks.range (prog := X.prog) (w := X.w) (I.ok.hd hc) it lo c n
    refine W.item i s _ _ hg st fun v h' tk hv st' kk => ?_
    obtain ⟨t, rfl⟩ := hv
    have I1 : Inv X pins σ H { s with heap := h', toks := tk } := I.turned (fun b o hb e => kk b o (by simpa using hb) e) f0 f1 f3 f4 f5
    exact ⟨_, rfl, go_of (s := { s with heap := h', toks := tk }) (n := "range_iterator") st' rfl rfl (by decide) ⟨.int (lo + i * c), H, I1, ⟨t, rfl⟩, ⟨rfl, rfl⟩, st', fun b hb => (hf b hb).1⟩⟩
  done := by
    intro X hP hw hK hc i pins s σ H E I hf st hg
    subst hP hw hK
    obtain ⟨f0, f1, f2, f3, f4, f5⟩ := hf it (by simp)
    exact wpAny_pyNext_range_end (I.ok.hd hc) st (by have : n ≤ i := hg; omega) fun h' eb => ⟨rfl, I.turned (t' := s.toks) (fun b o hb e => eb b o hb e) f0 f1 f3 f4 f5⟩
  self := fun _ _ _ _ _ st h => wpAny_pyIter_rangeiter st h
def iRng3 (ta : TA) : TI := fun σ H R => ta σ H fun vs H1 => ∃ j c : Int, vs = [.int 0, .int j, .int c] ∧ 0 ≤ j ∧ j ≤ 1000 ∧ 1 ≤ c ∧ c ≤ 1000 ∧ R (Itq 0 c ((j + c - 1) / c).toNat) H1
theorem pi_range3 {tg a b c : Expr} {ta : TA} {p pos : Pos} (hg : Gl X "range") (hm : X.mg "range" = none) (ha : PA X [a, b, c] ta) (hs : starEach [a, b, c] X.env = (false, eval a X.env) :: starEach [b, c] X.env := by rfl) (hs2 : (backTo pos (starEach [b, c] X.env)).any (·.1) = false := by rfl) :
    PI X tg (.Call (.Name "range" p) [a, b, c] [] pos) (iRng3 ta) := by
  intro pins s σ H R I h
  refine Call_ (ld_blt I hg hm boot_range (PyProof.Rows.callWith_type1 (thn (ha pos pins s σ H _ I h) fun us s1 ⟨vs, H1, I1, r1, q1⟩ => ?_) hs hs2))
  obtain ⟨j, k, e, j0, j1, k0, k1, q⟩ := q1
  subst e
  cases r1 with
  | cons r rr =>
    cases rr with
    | cons r' rr =>
      cases rr with
      | cons r'' rr =>
        cases rr
        obtain ⟨t, rfl⟩ := r
        obtain ⟨t', rfl⟩ := r'
        obtain ⟨t'', rfl⟩ := r''
        have hsz := rangeSize_pos (len := j) k0 j0
        have hsm : Builtin.Range.small 0 j k = true := by
          have h1 : (j + k - 1) / k ≤ j + k - 1 := Int.ediv_le_self _ (by omega)
          have h2 : 0 ≤ (j + k - 1) / k := Int.ediv_nonneg (by omega) (by omega)
          unfold Builtin.Range.small
          rw [hsz]
          simp only [Builtin.Range.rangeFitsLong, Bool.and_eq_true, Bool.or_eq_true, decide_eq_true_eq, beq_iff_eq]
          refine ⟨by omega, .inr ?_⟩
          rw [if_pos (by omega)]
          simp only [Bool.and_eq_true, decide_eq_true_eq]
          omega
        refine call_range_3 (by omega) ?_ (Or.inl (PyProof.noPylong_small (by omega)))
        generalize hp1 : s1.heap.push { cls := .type "range", data := .fields #[.int 0 t, .int j t', .int k t''] } = h1
        have hr : IsRange h1 s1.heap.objs.size 0 j k t t' t'' := by rw [← hp1]; exact IsRange.new ..
        have k1' : ∀ b o, s1.heap.get? b = some o → h1.get? b = some o := fun b o x => by rw [← hp1]; exact Heap.get?_push_of_some _ x
        have I2 : Inv X pins σ H1 { s1 with heap := h1, toks := s1.toks } := I1.kept k1'
        refine wpAny_pyIter_range hr hsm ?_
        refine ⟨h1.objs.size, [h1.objs.size], _, _, H1, rfl, I2.kept (t' := s1.toks) fun b o e => Heap.get?_push_of_some _ e, turn_rangeq _ 0 k ((j + k - 1) / k).toNat, ?_, fun b hb => ?_, q⟩
        · rw [hsz]
          have h2 : 0 ≤ (j + k - 1) / k := Int.ediv_nonneg (by omega) (by omega)
          have e2 : ((((j + k - 1) / k).toNat : Nat) : Int) - ((0 : Nat) : Int) = (j + k - 1) / k := by omega
          have e1 : (0 : Int) + ((0 : Nat) : Int) * k = 0 := by simp
          show IsRangeIter _ _ (0 + ((0 : Nat) : Int) * k) ((((j + k - 1) / k).toNat : Int) - ((0 : Nat) : Int)) k
          rw [e1, e2]
          exact Heap.get?_push_size _ rfl
        · have e : b = h1.objs.size := by simpa using hb
          subst e
          exact I2.fpOk (Nat.le_refl _) (I2.hok.fresh (Nat.le_refl _))
end
end L2

set_option Elab.async false
set_option linter.all false
set_option maxRecDepth 100000
set_option maxHeartbeats 1000000
namespace L2
open PySem PySem.Spec PyProof.Rows
section
variable {X : Cx}
/-- t * n, n at least one -/
theorem op_repA : OpR X (binaryOp .Mult) (fun x y H Q => ∃ (p : Addr) (k : Nat) (xs : List V), x = .ref p ∧ y = .int (k : Int) ∧ H p = some (.tup xs) ∧ xs ≠ [] ∧ 1 ≤ k ∧ k ≤ 1000 ∧ xs.length ≤ 1000 ∧ ∀ l H', Same H H' → H' l = some (.tup (List.replicate k xs).flatten) → Q (.ref l) H') := by
  intro pins s σ H x y v u Q I rx ry h
  obtain ⟨p, k, xs, e1, e2, hp, hn, h1, h2, h3, q⟩ := h
  by_cases hk : k = 1
  · subst hk
    subst e1 e2
    cases rx
    obtain ⟨t, rfl⟩ := ry
    obtain ⟨its, rv, ⟨o, ho, hc, n, hd⟩, _⟩ := I.tuple (SqT.of (K := X.K) hp)
    refine PySem.mul_tup1 ho hc hd ⟨.ref p, H, I, rfl, q p H (Same.refl _) ?_⟩
    rw [hp]
    simp
  · refine op_repT pins s σ H x y v u Q I rx ry ⟨p, k, xs, e1, e2, SqT.of hp, hn, by omega, by omega, h3, fun l hl => q l _ (same_new hl _) ?_⟩
    rw [upd_same, Int.toNat_natCast]
end
end L2

set_option Elab.async false
set_option linter.all false
set_option maxRecDepth 100000
set_option maxHeartbeats 4000000
namespace K3
open PySem L2
def top (i : Nat) : Stmt := PySem.Challenge.pw_floorfits_k03_clashes.main.body.getD i (.Pass ⟨0, 0, 0, 0⟩)
abbrev sWhole : Stmt := top 5
abbrev sTupOf : Stmt := top 6
abbrev sHas : Stmt := top 7
abbrev sSize : Stmt := top 8
abbrev sPlaces : Stmt := top 9
abbrev sNumber : Stmt := top 10
abbrev sHasP : Stmt := top 11
abbrev sEdge : Stmt := top 12
abbrev sClash : Stmt := top 13
abbrev sCE : Stmt := top 14
abbrev sCS : Stmt := top 15
abbrev sClashes : Stmt := top 16
abbrev sRight : Stmt := top 17
abbrev sAlong : Stmt := top 18
abbrev sEdges : Stmt := top 19
abbrev sStretch : Stmt := top 21
abbrev sPart : Stmt := top 22
abbrev sCell : Stmt := top 24
abbrev sPick : Stmt := top 25
abbrev sTiles : Stmt := top 26
abbrev sFloorL : Stmt := top 27
abbrev sSides : Stmt := top 28
abbrev sFills : Stmt := top 29
abbrev sAsFloor : Stmt := top 30
abbrev sLClashes : Stmt := top 31
abbrev sLaw : Stmt := top 32
theorem boot_isin : bootBuiltins "isinstance" = some (.builtin "isinstance") := by decide +kernel
theorem boot_int : bootBuiltins "int" = some (.type "int") := by decide +kernel
theorem boot_bool : bootBuiltins "bool" = some (.type "bool") := by decide +kernel
theorem boot_tuple : bootBuiltins "tuple" = some (.type "tuple") := by decide +kernel
theorem boot_list : bootBuiltins "list" = some (.type "list") := by decide +kernel
theorem boot_set : bootBuiltins "set" = some (.type "set") := by decide +kernel
theorem boot_all : bootBuiltins "all" = some (.builtin "all") := by decide +kernel
/-! ### what is told, over data -/
def isWhole : D → Bool | .int _ => true | _ => false
def isIntD : D → Bool | .int _ => true | .bl _ => true | _ => false
def isBlD : D → Bool | .bl _ => true | _ => false
def isTupD : D → Bool | .tup _ => true | _ => false
def isTupOf (lo hi : Int) : D → Bool | .tup l => decide (lo ≤ (l.length : Int)) && decide ((l.length : Int) ≤ hi) | _ => false
def isColour : D → Bool | .int i => decide (0 ≤ i) && decide (i ≤ 8) | _ => false
def isTile : D → Bool | .tup l => isTupOf 4 4 (.tup l) && l.all isColour | _ => false
def intOf : D → Int | .int i => i | _ => 0
def keyOf : D → List Int | .tup l => l.map intOf | _ => []
def isSetD : D → Bool | .tup l => isTupOf 1 16 (.tup l) && (l.all isTile && decide ((l.map keyOf).Nodup)) | _ => false
def hasNum (n : Nat) : D → Bool | .int i => decide (0 ≤ i) && decide (i < (n : Int)) | _ => false
def mayLie (n : Nat) : D → Bool | .non => true | d => hasNum n d
def isRow (n : Nat) : D → Bool | .tup l => isTupOf 1 6 (.tup l) && l.all (mayLie n) | _ => false
def lenD : D → Nat | .tup l => l.length | _ => 0
def isFloorD (n : Nat) : D → Bool | .tup l => isTupOf 1 6 (.tup l) && (l.all (isRow n) && l.all fun r => decide (lenD r = lenD (l.headD .non))) | _ => false
/-! ### the promises -/
def sp1 (f : D → Bool) : Sp := fun vs H Q _ => ∃ v d, vs = [v] ∧ Rep H v d ∧ ∀ H', Same H H' → Q (.bl (f d)) H'
def spTup : Sp := fun vs H Q _ => ∃ v d lo hi, vs = [v, .int lo, .int hi] ∧ Rep H v d ∧ ∀ H', Same H H' → Q (.bl (isTupOf lo hi d)) H'
def sp2 (f : Nat → D → Bool) : Sp := fun vs H Q _ => ∃ t v d ts, vs = [t, v] ∧ Rep H t (.tup ts) ∧ Rep H v d ∧ ∀ H', Same H H' → Q (.bl (f ts.length d)) H'
structure Txt (mg : Str → Option Value) : Prop where
  isin : mg "isinstance" = none
  int : mg "int" = none
  bool : mg "bool" = none
  tuple : mg "tuple" = none
  list : mg "list" = none
  len : mg "len" = none
  range : mg "range" = none
theorem ty_of {K : PySem.W.Frag} {H : Hp} {v : V} {d : D} (r : Rep H v d) : ∃ t, TyOf K H v t ∧ PySem.W.kitOne K t (.type "int") = some (isIntD d) ∧ PySem.W.kitOne K t (.type "bool") = some (isBlD d) ∧ PySem.W.kitOne K t (.type "tuple") = some (isTupD d) := by
  cases r with
  | non => exact ⟨_, .non, by with_unfolding_all rfl, by with_unfolding_all rfl, by with_unfolding_all rfl⟩
  | bl b => exact ⟨_, .bl b, by with_unfolding_all rfl, by with_unfolding_all rfl, by with_unfolding_all rfl⟩
  | int i => exact ⟨_, .int i, by with_unfolding_all rfl, by with_unfolding_all rfl, by with_unfolding_all rfl⟩
  | str x => exact ⟨_, .str x, by with_unfolding_all rfl, by with_unfolding_all rfl, by with_unfolding_all rfl⟩
  | tup e _ => exact ⟨_, .tup e, by with_unfolding_all rfl, by with_unfolding_all rfl, by with_unfolding_all rfl⟩
  | lst e _ => exact ⟨_, .lst e, by with_unfolding_all rfl, by with_unfolding_all rfl, by with_unfolding_all rfl⟩
end K3

set_option Elab.async false
set_option linter.all false
set_option maxRecDepth 100000
set_option maxHeartbeats 4000000
namespace K3
open PySem L2
theorem small {n : Nat} (h : n ≤ 1000) : n ≤ sizeLine := Nat.le_of_lt (small1000 h)
/-- all([f(part) for part in thing]) -/
theorem all_read {K : PySem.W.Frag} {H1 : Hp} {a : Addr} {xs : List V} {l : List D} {te : TE} {f : D → Bool} {cs : List (Option V)} {Q : VK} (e : H1 a = some (.tup xs)) (r : Reps H1 xs l) (hz : l.length ≤ 1000)
    (step : ∀ x d H' (R : VK), d ∈ l → Rep H' x d → Same H1 H' → (∀ H3, Same H' H3 → R (.bl (f d)) H3) → te (some x :: cs) H' R) (fin : ∀ H', Same H1 H' → Q (.bl (l.all f)) H') :
    ∃ W : Nat → Nat → List V → Hp → Prop, (∃ m, W 0 m [] H1) ∧ ∀ i m ys H, W i m ys H → ys.length ≤ sizeLine ∧ (((Itt K a).stop i H ∧ ∀ p, H p = none → (fun (v : V) (H2 : Hp) => ∃ (p : Addr) (bs : List Bool), [v] = [.ref p] ∧ SqL K H2 p (bs.map V.bl) ∧ Q (.bl (bs.all id)) H2) (.ref p) (upd H p (.lst ys))) ∨
      ((Itt K a).go i H ∧ ∀ x H', (Itt K a).yld i H x H' → tYes (some x :: cs) H' fun ok H2 => if ok = true then te (some x :: cs) H2 fun y H3 => ∃ m', m' < m ∧ W (i + 1) m' (ys ++ [y]) H3 else ∃ m', m' < m ∧ W (i + 1) m' ys H2)) := by
  have hlen := r.length
  refine comp_tup (K := K) (te := te) (cs := cs) (Q := fun (v : V) (H2 : Hp) => ∃ (p : Addr) (bs : List Bool), [v] = [.ref p] ∧ SqL K H2 p (bs.map V.bl) ∧ Q (.bl (bs.all id)) H2) (g := fun i => .bl (f (l.getD i .non))) (SqT.of e) (by rw [hlen]; exact small hz) (fun i x H' R hx hs hR => ?_) fun p H' hs hn => ?_
  · obtain ⟨d, hd, rd⟩ := r.get hx
    have ed : l.getD i .non = d := by simp [List.getD, hd]
    refine step x d H' R (List.mem_of_getElem? hd) (rd.up hs) hs fun H3 s3 => ?_
    have := hR H3 (hs.trans s3)
    rw [ed] at this; exact this
  · refine ⟨p, (List.range xs.length).map fun i => f (l.getD i .non), rfl, ?_, ?_⟩
    · refine SqL.of ?_
      rw [upd_same, List.map_map]; rfl
    · have ea : ((List.range xs.length).map fun i => f (l.getD i .non)).all id = l.all f := by
        rw [hlen, Bool.eq_iff_iff, List.all_eq_true, List.all_eq_true]
        constructor
        · intro h d hd
          obtain ⟨i, hi, ei⟩ := List.mem_iff_getElem.mp hd
          have := h (f (l.getD i .non)) (List.mem_map.mpr ⟨i, List.mem_range.mpr hi, rfl⟩)
          have e2 : l.getD i .non = d := by simp [List.getD, hi, ei]
          rw [e2] at this; exact this
        · intro h b hb
          obtain ⟨i, hi, rfl⟩ := List.mem_map.mp hb
          have hi' := List.mem_range.mp hi
          have e2 : l.getD i .non = l[i] := by simp [List.getD, hi']
          show f (l.getD i .non) = true
          rw [e2]; exact h _ (List.getElem_mem hi')
      rw [ea]
      exact fin _ (hs.trans (same_new hn _))
/-- the same, where thing stands in slot i -/
theorem all_te {K : PySem.W.Frag} {i : Nat} {te : TE} {caps : List (Str × Nat)} {σ : St} {H : Hp} {Q : VK} {a : Addr} {xs : List V} {l : List D} (f : D → Bool) (hσ : σ[i]? = some (some (.ref a))) (e : H a = some (.tup xs)) (r : Reps H xs l) (hz : l.length ≤ 1000)
    (step : ∀ x d H' (R : VK), d ∈ l → Rep H' x d → Same H H' → (∀ H3, Same H' H3 → R (.bl (f d)) H3) → te (some x :: caps.map fun p => (σ[p.2]?).join) H' R) (fin : ∀ H', Same H H' → Q (.bl (l.all f)) H') :
    tCB (fun xs H Q => ∃ (p : Addr) (bs : List Bool), xs = [.ref p] ∧ SqL K H p (bs.map V.bl) ∧ Q (.bl (bs.all id)) H) (tCons (tComp (iTup K (tVar i)) tYes te caps) tNil) σ H Q :=
  ⟨_, hσ, a, rfl, ⟨_, SqT.of e⟩, all_read (f := f) e r hz step fin⟩
def rLen (K : PySem.W.Frag) : List V → Hp → VK → Prop := fun xs H Q => ∃ p ys, xs = [.ref p] ∧ (SqL K H p ys ∨ SqT K H p ys) ∧ Q (.int ys.length) H
theorem call_lenK {X : Cx} {K : PySem.W.Frag} (hK : X.K = K := by rfl) : CallR X (.builtin "len") (rLen K) := by subst hK; exact call_len_seq
theorem ix_tupK {X : Cx} {K : PySem.W.Frag} (hK : X.K = K := by rfl) : IxR X (rIxT K) := by subst hK; exact ix_tup
section
variable {P : Program} {w : World} {K : PySem.W.Frag} {mg : Str → Option Value} {base : Heap} {f : Addr} {fd : FuncData}
theorem scWhole : FnScope ["thing"] ["thing"] (defScope sWhole) := ⟨rfl, rfl, rfl, by decide +kernel, rfl, by decide +kernel, by decide +kernel⟩
theorem ok_whole (F : Fun K "is_whole" "is_whole" sWhole f fd) (T : Txt mg) : FnOk P w K mg base CX0 1 f fd ["thing"] (sp1 isWhole) := by
  refine F.ok scWhole (fun vs H Q E h => ?_) (fun cdv A outer s H vs Q E hr h => ?_)
  · obtain ⟨v, d, rfl, _⟩ := h; rfl
  obtain ⟨v, d, rfl, hv, q⟩ := h
  refine ⟨_, pss_one (ps_ret (pe_and (pe_callB call_isinst rfl T.isin boot_isin (pa_cons (pv 0) (pa_cons (pe_bltn (v := .ty "int") rfl T.int boot_int rfl) pa_nil))) (pe_one (pe_not (pe_callB call_isinst rfl T.isin boot_isin (pa_cons (pv 0) (pa_cons (pe_bltn (v := .ty "bool") rfl T.bool boot_bool rfl) pa_nil))))))), ?_⟩
  obtain ⟨t, ty, k1, k2, k3⟩ := ty_of (K := K) hv
  have q0 := q H (Same.refl H)
  refine ⟨v, rfl, v, t, "int", _, rfl, ty, k1, _, rfl, ite2 (fun c => ?_) (fun c => ?_)⟩
  · refine ⟨v, rfl, v, t, "bool", _, rfl, ty, k2, _, rfl, ?_⟩
    have e : isWhole d = !isBlD d := by cases d <;> first | rfl | (cases c)
    rw [e] at q0; exact q0
  · have e : isWhole d = false := by cases d <;> first | rfl | exact absurd rfl c
    rw [e] at q0; exact q0
theorem scTupOf : FnScope ["thing", "least", "most"] ["thing", "least", "most"] (defScope sTupOf) := ⟨rfl, rfl, rfl, by decide +kernel, rfl, by decide +kernel, by decide +kernel⟩
theorem ok_tupOf (F : Fun K "is_tuple_of" "is_tuple_of" sTupOf f fd) (T : Txt mg) : FnOk P w K mg base CX0 1 f fd ["thing", "least", "most"] spTup := by
  refine F.ok scTupOf (fun vs H Q E h => ?_) (fun cdv A outer s H vs Q E hr h => ?_)
  · obtain ⟨v, d, lo, hi, rfl, _⟩ := h; rfl
  obtain ⟨v, d, lo, hi, rfl, hv, q⟩ := h
  refine ⟨_, pss_one (ps_ret (pe_and (pe_callB call_isinst rfl T.isin boot_isin (pa_cons (pv 0) (pa_cons (pe_bltn (v := .ty "tuple") rfl T.tuple boot_tuple rfl) pa_nil))) (pe_one (pe_chain op_le op_le (pv 1) (pe_callB call_len_seq rfl T.len PySem.boot_len (pa_cons (pv 0) pa_nil)) (pv 2))))), ?_⟩
  obtain ⟨t, ty, k1, k2, k3⟩ := ty_of (K := K) hv
  have q0 := q H (Same.refl H)
  refine ⟨v, rfl, v, t, "tuple", _, rfl, ty, k3, _, rfl, ite2 (fun c => ?_) (fun c => ?_)⟩
  · cases hv with
    | @tup a xs ds e r =>
      have hl := r.length
      refine ⟨_, rfl, _, rfl, a, xs, rfl, .inr (SqT.of e), _, _, rfl, rfl, _, rfl, ite2 (fun c1 => ?_) (fun c1 => ?_)⟩
      · refine ⟨_, rfl, _, _, rfl, rfl, ?_⟩
        have e1 : isTupOf lo hi (.tup ds) = decide ((xs.length : Int) ≤ hi) := by
          show (decide (lo ≤ (ds.length : Int)) && decide ((ds.length : Int) ≤ hi)) = _
          rw [← hl, c1, Bool.true_and]
        rw [e1] at q0; exact q0
      · have e1 : isTupOf lo hi (.tup ds) = false := by
          show (decide (lo ≤ (ds.length : Int)) && decide ((ds.length : Int) ≤ hi)) = _
          rw [← hl, Bool.eq_false_iff.mpr c1, Bool.false_and]
        rw [e1] at q0; exact q0
    | _ => cases c
  · have e : isTupOf lo hi d = false := by cases d <;> first | rfl | exact absurd rfl c
    rw [e] at q0; exact q0
end
end K3

set_option Elab.async false
set_option linter.all false
set_option maxRecDepth 100000
set_option maxHeartbeats 4000000
namespace K3
open PySem L2
theorem mem_room {k : Nat} {A : Around} (hr : Room k A) : A.units + 8 < cLine := by have := hr.un; omega
section
variable {P : Program} {w : World} {K : PySem.W.Frag} {mg : Str → Option Value} {base : Heap} {f : Addr} {fd : FuncData}
theorem scHas : FnScope ["tiles", "thing"] ["tiles", "thing"] (defScope sHas) := ⟨rfl, rfl, rfl, by decide +kernel, rfl, by decide +kernel, by decide +kernel⟩
theorem ok_has {g : Addr} {gd : FuncData} (F : Fun K "has_number" "has_number" sHas f fd) (T : Txt mg) (G : FnOk P w K mg base CX0 1 g gd ["thing"] (sp1 isWhole)) (bG : Binds K gd ["thing"] []) (kG : PySem.W.keepIn K (.ref g) = true) (mG : mg "is_whole" = some (.ref g)) :
    FnOk P w K mg base CX0 2 f fd ["tiles", "thing"] (sp2 hasNum) := by
  refine F.ok scHas (fun vs H Q E h => ?_) (fun cdv A outer s H vs Q E hr h => ?_)
  · obtain ⟨t, v, d, ts, rfl, _⟩ := h; rfl
  obtain ⟨t, v, d, ts, rfl, ht, hv, q⟩ := h
  refine ⟨_, pss_one (ps_ret (pe_and (pe_call G hr rfl mG kG bG .nil pass0 (pa_cons (pv 1) pa_nil)) (pe_one (pe_chain op_le op_lt pe_int (pv 1) (pe_callB call_len_seq rfl T.len PySem.boot_len (pa_cons (pv 0) pa_nil)))))), ?_⟩
  refine ⟨v, rfl, v, d, rfl, hv, fun H1 s1 => ⟨_, rfl, ite2 (fun c => ?_) (fun c => ?_)⟩⟩
  · have q0 := q H1 s1
    cases hv with
    | int i =>
      refine ⟨_, rfl, _, _, rfl, rfl, _, rfl, ite2 (fun c1 => ?_) (fun c1 => ?_)⟩
      · cases ht.up s1 with
        | @tup a xs ds e r =>
          refine ⟨_, rfl, a, xs, rfl, .inr (SqT.of e), _, _, rfl, rfl, ?_⟩
          have e1 : hasNum ts.length (.int i) = decide (i < (xs.length : Int)) := by show (decide (0 ≤ i) && decide (i < (ts.length : Int))) = _; rw [c1, Bool.true_and, r.length]
          rw [e1] at q0; exact q0
      · have e1 : hasNum ts.length (.int i) = false := by show (decide (0 ≤ i) && decide (i < (ts.length : Int))) = _; rw [Bool.eq_false_iff.mpr c1, Bool.false_and]
        rw [e1] at q0; exact q0
    | _ => cases c
  · have q0 := q H1 s1
    have e : hasNum ts.length d = false := by cases d <;> first | rfl | exact absurd rfl c
    rw [e] at q0; exact q0
end
end K3

set_option Elab.async false
set_option linter.all false
set_option maxRecDepth 100000
set_option maxHeartbeats 4000000
namespace K3
open PySem L2
/-- a comprehension over a range whose items are only known to be such -/
theorem comp_rngP {lo : Int} {n : Nat} {H1 : Hp} {Q : VK} {te : TE} {cs : List (Option V)} (G : Nat → V → Prop) (hz : n ≤ sizeLine)
    (step : ∀ i H' (R : VK), i < n → Same H1 H' → (∀ y H3, Same H1 H3 → G i y → R y H3) → te (some (.int (lo + i)) :: cs) H' R)
    (fin : ∀ p H' ys, Same H1 H' → H' p = none → ys.length = n → (∀ (i : Nat) y, ys[i]? = some y → G i y) → Q (.ref p) (upd H' p (.lst ys))) :
    ∃ W : Nat → Nat → List V → Hp → Prop, (∃ m, W 0 m [] H1) ∧ ∀ i m ys H, W i m ys H → ys.length ≤ sizeLine ∧ (((Itr lo n).stop i H ∧ ∀ p, H p = none → Q (.ref p) (upd H p (.lst ys))) ∨
      ((Itr lo n).go i H ∧ ∀ x H', (Itr lo n).yld i H x H' → tYes (some x :: cs) H' fun ok H2 => if ok = true then te (some x :: cs) H2 fun y H3 => ∃ m', m' < m ∧ W (i + 1) m' (ys ++ [y]) H3 else ∃ m', m' < m ∧ W (i + 1) m' ys H2)) := by
  refine ⟨fun i m ys H => m = n - i ∧ i ≤ n ∧ ys.length = i ∧ (∀ (j : Nat) y, ys[j]? = some y → G j y) ∧ Same H1 H, ⟨n, by simp, Nat.zero_le _, rfl, fun j y e => by simp at e, Same.refl _⟩, ?_⟩
  rintro i m ys H ⟨rfl, hi, hl, hg, hs⟩
  refine ⟨by omega, ?_⟩
  by_cases hlt : i < n
  · refine .inr ⟨hlt, fun x H' y => ?_⟩
    obtain ⟨rfl, rfl⟩ := y
    unfold tYes
    refine iteT ?_
    refine step i _ _ hlt hs fun y H3 hs3 gy => ⟨n - (i + 1), by omega, rfl, hlt, by rw [List.length_append, hl]; rfl, fun j z e => ?_, hs3⟩
    by_cases hj : j < ys.length
    · rw [List.getElem?_append_left hj] at e; exact hg j z e
    · have : j = i := by
        have := (List.getElem?_eq_some_iff.mp e).1
        rw [List.length_append, List.length_singleton] at this
        omega
      subst this
      rw [List.getElem?_append_right (by omega), hl, Nat.sub_self] at e
      have : y = z := by simpa using e
      subst this; exact gy
  · have e : i = n := by omega
    subst e
    exact .inl ⟨Nat.le_refl _, fun p hp => fin p H ys hs hp hl hg⟩
theorem comp_rng_te {n : Int} {te : TE} {caps : List (Str × Nat)} {σ : St} {H : Hp} {Q : VK} (G : Nat → V → Prop) (h0 : 0 ≤ n) (hn : n ≤ 1000)
    (step : ∀ i H' (R : VK), i < n.toNat → Same H H' → (∀ y H3, Same H H3 → G i y → R y H3) → te (some (.int (0 + (i : Int))) :: caps.map fun p => (σ[p.2]?).join) H' R)
    (fin : ∀ p H' ys, Same H H' → H' p = none → ys.length = n.toNat → (∀ (i : Nat) y, ys[i]? = some y → G i y) → Q (.ref p) (upd H' p (.lst ys))) :
    tComp (iRng1 (tCons (tC (.int n)) tNil)) tYes te caps σ H Q :=
  ⟨n, rfl, by omega, by omega, comp_rngP G (small (by omega)) step fin⟩
theorem at_int {ns : List Int} {k : Int} (h0 : 0 ≤ k) (h : k < (ns.length : Int)) : ∃ v : Int, atI (ns.map V.int) k = some (.int v) := by
  have hk : k.toNat < ns.length := by omega
  have q : atI (ns.map V.int) ((k.toNat : Nat) : Int) = some (.int ns[k.toNat]) := atI_nat (by rw [List.getElem?_map, List.getElem?_eq_getElem hk] <;> rfl)
  have ek : ((k.toNat : Nat) : Int) = k := by omega
  rw [ek] at q
  exact ⟨_, q⟩
theorem room64 {k : Nat} {A : Around} (hr : Room k A) : A.units + 64 < cLine := hr.units
def spCell (K : PySem.W.Frag) : Sp := fun vs H Q _ => ∃ (a : Addr) (ns : List Int) (k : Int), vs = [.ref a, .int k] ∧ SqL K H a (ns.map V.int) ∧ 0 ≤ k ∧ ∀ i H', Same H H' → Q (.int i) H'
def spPick (K : PySem.W.Frag) : Sp := fun vs H Q _ => ∃ (a : Addr) (ns : List Int) (k m : Int), vs = [.ref a, .int k, .int m] ∧ SqL K H a (ns.map V.int) ∧ 0 ≤ k ∧ 0 < m ∧ ∀ i H', 0 ≤ i → i < m → Same H H' → Q (.int i) H'
section
variable {P : Program} {w : World} {K : PySem.W.Frag} {mg : Str → Option Value} {base : Heap} {f : Addr} {fd : FuncData}
theorem scCell : FnScope ["_law_script", "_law_k"] ["_law_script", "_law_k"] (defScope sCell) := ⟨rfl, rfl, rfl, by decide +kernel, rfl, by decide +kernel, by decide +kernel⟩
theorem ok_cell (F : Fun K "_law_cell" "_law_cell" sCell f fd) (T : Txt mg) : FnOk P w K mg base CX0 1 f fd ["_law_script", "_law_k"] (spCell K) := by
  refine F.ok scCell (fun vs H Q E h => ?_) (fun cdv A outer s H vs Q E hr h => ?_)
  · obtain ⟨a, ns, k, rfl, _⟩ := h; rfl
  obtain ⟨a, ns, k, rfl, hS, h0, q⟩ := h
  refine ⟨_, pss_cons (ps_if (pt_cmpR op_lt (pv 1) (pe_callB call_len_seq rfl T.len PySem.boot_len (pa_cons (pv 0) pa_nil)) (nomark _)) (pss_one (ps_ret (pe_ix ix_list (pv 0) (pv 1) (fun _ _ => rfl)))) pss_nil)
    (pss_cons (ps_if (pt_cmpR (op_eq_ints (room64 hr)) (pv 0) (pe_lst pa_nil) (nomark _)) (pss_one (ps_ret pe_int)) pss_nil)
    (pss_one (ps_ret (pe_op op_add (pe_op op_mul (pe_ix ix_list (pv 0) (pe_op op_mod (pv 1) (pe_callB call_len_seq rfl T.len PySem.boot_len (pa_cons (pv 0) pa_nil))) (fun _ _ => rfl)) pe_int) (pv 1))))), ?_⟩
  have hl : (ns.map V.int).length = ns.length := List.length_map _
  refine ⟨_, rfl, _, rfl, a, _, rfl, .inl hS, _, _, rfl, rfl, _, rfl, ite2 (fun c => ?_) (fun c => ?_)⟩
  · have c' : k < (((ns.map V.int).length : Nat) : Int) := of_decide_eq_true c
    rw [hl] at c'
    obtain ⟨v, hv⟩ := at_int h0 c'
    exact ⟨_, rfl, _, rfl, a, _, _, _, rfl, rfl, hS, hv, q _ H (Same.refl _)⟩
  · refine ⟨_, rfl, (by show 0 ≤ sizeLine; decide), fun p hp => ?_⟩
    have sm := same_new hp (.lst [])
    refine ⟨a, p, ns, [], rfl, rfl, sm.seq hS, SqL.of upd_same, _, rfl, ite2 (fun c1 => ?_) (fun c1 => ?_)⟩
    · exact q _ _ sm
    · have hne : ns ≠ [] := fun z => c1 (decide_eq_true z)
      have hpos : (0 : Int) < (((ns.map V.int).length : Nat) : Int) := by
        rw [hl]
        have := List.length_pos_iff.mpr hne
        omega
      obtain ⟨v, hv⟩ := at_int (ns := ns) (k := k % (((ns.map V.int).length : Nat) : Int)) (Int.emod_nonneg _ (by omega)) (by have := Int.emod_lt_of_pos k hpos; rw [hl] at this ⊢; exact this)
      exact ⟨_, rfl, _, rfl, _, rfl, a, _, rfl, .inl (sm.seq hS), _, _, rfl, rfl, hpos, a, _, _, _, rfl, rfl, sm.seq hS, hv, _, _, rfl, rfl, .inr ⟨by decide, by decide⟩, _, rfl, _, _, rfl, rfl, q _ _ sm⟩
theorem scPick : FnScope ["_law_script", "_law_k", "_law_many", "_law_drawn"] ["_law_script", "_law_k", "_law_many"] (defScope sPick) := ⟨rfl, rfl, rfl, by decide +kernel, rfl, by decide +kernel, by decide +kernel⟩
theorem ok_pick {g : Addr} {gd : FuncData} (F : Fun K "_law_pick" "_law_pick" sPick f fd) (G : FnOk P w K mg base CX0 1 g gd ["_law_script", "_law_k"] (spCell K)) (bG : Binds K gd ["_law_script", "_law_k"] []) (kG : PySem.W.keepIn K (.ref g) = true) (mG : mg "_law_cell" = some (.ref g)) :
    FnOk P w K mg base CX0 2 f fd ["_law_script", "_law_k", "_law_many"] (spPick K) := by
  refine F.ok scPick (fun vs H Q E h => ?_) (fun cdv A outer s H vs Q E hr h => ?_)
  · obtain ⟨a, ns, k, m, rfl, _⟩ := h; rfl
  obtain ⟨a, ns, k, m, rfl, hS, h0, hm, q⟩ := h
  refine ⟨_, pss_cons (ps_set (i := 3) scPick.nd rfl (Or.inl rfl) (pe_op op_mod (pe_op op_mul (pe_op op_add (pe_call G hr rfl mG kG bG .nil pass0 (pa_cons (pv 0) (pa_cons (pv 1) pa_nil))) (pe_op op_mul pe_int (pe_op op_add (pv 1) pe_int))) pe_int) pe_int))
    (pss_one (ps_ret (pe_op op_mod (pe_op op_mod (pe_op op_add (pe_op op_mul (pv 3) (pv 3)) (pe_op op_fdiv (pv 3) pe_int)) pe_int) (pv 2)))), ?_⟩
  refine ⟨_, rfl, _, rfl, a, ns, k, rfl, hS, h0, fun i H1 s1 => ?_⟩
  refine ⟨_, rfl, _, _, rfl, rfl, _, _, rfl, rfl, .inl ⟨by decide, by decide⟩, _, _, rfl, rfl, _, _, rfl, rfl, .inr ⟨by decide, by decide⟩, _, _, rfl, rfl, (by decide : (0 : Int) < 2147483399), ?_⟩
  have d0 : 0 ≤ (i + 6151 * (k + 1)) * 40692 % 2147483399 := Int.emod_nonneg _ (by decide)
  have d1 : (i + 6151 * (k + 1)) * 40692 % 2147483399 < 2147483399 := Int.emod_lt_of_pos _ (by decide)
  refine ⟨_, rfl, _, rfl, _, _, rfl, rfl, .inl ⟨?_, ?_⟩, _, rfl, _, _, rfl, rfl, ⟨by decide, by decide⟩, _, _, rfl, rfl, _, _, rfl, rfl, (by decide : (0 : Int) < 2147483629), _, rfl, _, _, rfl, rfl, hm, q _ _ (Int.emod_nonneg _ (by omega)) (Int.emod_lt_of_pos _ hm) s1⟩
  · exact Int.lt_of_lt_of_le (by decide) d0
  · exact Int.lt_trans d1 (by decide)
end
end K3

set_option Elab.async false
set_option linter.all false
set_option maxRecDepth 100000
set_option maxHeartbeats 4000000
namespace K3
open PySem L2
/-! ### the tiles that are drawn -/
def TileK (k : List Int) : Prop := k.length = 4 ∧ ∀ i ∈ k, 0 ≤ i ∧ i ≤ 2
def tileD (k : List Int) : D := .tup (k.map D.int)
/-- items that are tuples of these values -/
def TupsAt (H : Hp) (ys : List V) (rs : List (List V)) : Prop := Paired (fun (v : V) (r : List V) => ∃ b, v = .ref b ∧ H b = some (.tup r)) ys rs
theorem TupsAt.up {H H' : Hp} (h : ∀ b xs, H b = some (.tup xs) → H' b = some (.tup xs)) : ∀ {ys : List V} {rs : List (List V)}, TupsAt H ys rs → TupsAt H' ys rs
  | _, _, .nil => .nil
  | _, _, .cons ⟨b, e, hb⟩ t => .cons ⟨b, e, h _ _ hb⟩ (TupsAt.up h t)
theorem TupsAt.snoc {H : Hp} {v : V} {r : List V} (h : ∃ b, v = .ref b ∧ H b = some (.tup r)) : ∀ {ys : List V} {rs : List (List V)}, TupsAt H ys rs → TupsAt H (ys ++ [v]) (rs ++ [r])
  | _, _, .nil => .cons h .nil
  | _, _, .cons x t => .cons x (TupsAt.snoc h t)
theorem TupsAt.length {H : Hp} {ys : List V} {rs : List (List V)} (h : TupsAt H ys rs) : ys.length = rs.length := Paired.length h
theorem TupsAt.keys {K : PySem.W.Frag} {H : Hp} : ∀ {ys : List V} {keys : List (List Int)}, TupsAt H ys (keys.map fun k => k.map V.int) → KeysAt K H ys keys
  | ys, [], h => by cases h; exact .nil
  | ys, k :: ks, h => by
    cases h with
    | cons x t =>
      obtain ⟨b, e, hb⟩ := x
      exact .cons ⟨b, e, SqT.of hb⟩ (TupsAt.keys t)
theorem ints_reps {H : Hp} : ∀ (k : List Int), Reps H (k.map V.int) (k.map D.int)
  | [] => .nil
  | i :: k => .cons (.int i) (ints_reps k)
theorem TupsAt.reps {H : Hp} : ∀ {ys : List V} {rs : List (List V)} {ds : List (List D)}, TupsAt H ys rs → Paired (fun r d => Reps H r d) rs ds → Reps H ys (ds.map D.tup)
  | _, _, _, .nil, .nil => .nil
  | _, _, _, .cons ⟨b, e, hb⟩ t, .cons r rt => by
    subst e
    exact .cons (.tup hb r) (TupsAt.reps t rt)
theorem keys_reps {H : Hp} : ∀ {ys : List V} {keys : List (List Int)}, TupsAt H ys (keys.map fun k => k.map V.int) → Reps H ys (keys.map tileD)
  | ys, [], h => by cases h; exact .nil
  | ys, k :: ks, h => by
    cases h with
    | cons x t =>
      obtain ⟨b, e, hb⟩ := x
      subst e
      exact .cons (.tup hb (ints_reps k)) (keys_reps t)
def spTiles (K : PySem.W.Frag) : Sp := fun vs H Q _ => ∃ (a : Addr) (ns : List Int) (k m : Int), vs = [.ref a, .int k, .int m] ∧ SqL K H a (ns.map V.int) ∧ 0 ≤ k ∧ 0 < m ∧ m ≤ 6 ∧
  ∀ v H' (keys : List (List Int)), Same H H' → 1 ≤ keys.length → (keys.length : Int) ≤ m → keys.Nodup → (∀ k ∈ keys, TileK k) → Rep H' v (.tup (keys.map tileD)) → Q v H'
theorem not_lst_tup {H : Hp} {m : Addr} {ys : List V} (h : H m = some (.lst ys)) {o : HO} : ∀ b xs, H b = some (.tup xs) → upd H m o b = some (.tup xs) := fun b xs e => by
  rw [upd_ne]; exact e
  rintro rfl
  rw [h] at e; cases e
theorem same_upd {H0 H : Hp} {m : Addr} (h0 : H0 m = none) (s : Same H0 H) (o : HO) : Same H0 (upd H m o) := fun b u e => by rw [upd_ne (ne_of_none e h0)]; exact s b u e
section
variable {P : Program} {w : World} {K : PySem.W.Frag} {mg : Str → Option Value} {base : Heap} {f : Addr} {fd : FuncData}
theorem scTiles : FnScope ["_law_script", "_law_at", "_law_most", "_law_colours", "_law_made", "_law_k", "_law_tile"] ["_law_script", "_law_at", "_law_most"] (defScope sTiles) := ⟨rfl, rfl, rfl, by decide +kernel, rfl, by decide +kernel, by decide +kernel⟩
theorem ok_tiles {g : Addr} {gd : FuncData} (F : Fun K "_law_tiles" "_law_tiles" sTiles f fd) (T : Txt mg) (G : FnOk P w K mg base CX0 2 g gd ["_law_script", "_law_k", "_law_many"] (spPick K)) (bG : Binds K gd ["_law_script", "_law_k", "_law_many"] []) (kG : PySem.W.keepIn K (.ref g) = true) (mG : mg "_law_pick" = some (.ref g)) :
    FnOk P w K mg base CX0 3 f fd ["_law_script", "_law_at", "_law_most"] (spTiles K) := by
  refine F.ok scTiles (fun vs H Q E h => ?_) (fun cdv A outer s H vs Q E hr h => ?_)
  · obtain ⟨a, ns, k, m, rfl, _⟩ := h; rfl
  obtain ⟨a, ns, k, m, rfl, hS, h0, hm, hm6, q⟩ := h
  refine ⟨_, pss_cons (ps_set (i := 3) scTiles.nd rfl (Or.inr rfl) (pe_op op_add pe_int (pe_call G hr rfl mG kG bG .nil pass0 (pa_cons (pv 0) (pa_cons (pv 1) (pa_cons pe_int pa_nil))))))
    (pss_cons (ps_set (i := 4) scTiles.nd rfl (Or.inl rfl) (pe_lst pa_nil))
    (pss_cons (ps_for PassesOwn.never rfl (pi_range1 rfl T.range (pa_cons (pe_op op_add pe_int (pe_call G hr rfl mG kG bG .nil pass0 (pa_cons (pv 0) (pa_cons (pe_op op_add (pv 1) pe_int) (pa_cons (pv 2) pa_nil))))) pa_nil)) (pg_name (i := 5) scTiles.nd rfl (Or.inr rfl))
      (pss_cons (ps_set (i := 6) scTiles.nd rfl (Or.inl rfl) (pe_callTy call_tuple_of rfl T.tuple boot_tuple (pa_cons (pe_comp (sc := defScope sTiles) (N := ["_law_script", "_law_at", "_law_most", "_law_colours", "_law_made", "_law_k", "_law_tile"]) (caps := [("_law_script", 0), ("_law_at", 1), ("_law_k", 5), ("_law_colours", 3)]) ?S (pi_range1 rfl T.range (pa_cons pe_int pa_nil)) (fun _ _ _ _ _ => pif_nil)
          (fun _ _ _ _ _ => pe_call G hr rfl mG kG bG .nil pass0 (pa_cons (pv 1) (pa_cons (pe_op op_add (pe_op op_add (pe_op op_add (pv 2) (pe_op op_mul pe_int (pv 3))) pe_int) (pv 0)) (pa_cons (pv 4) pa_nil))))) pa_nil)))
      (pss_cons (ps_if (pt_cmpR op_eq (pe_call G hr rfl mG kG bG .nil pass0 (pa_cons (pv 0) (pa_cons (pe_op op_add (pe_op op_add (pv 1) pe_int) (pv 5)) (pa_cons pe_int pa_nil)))) pe_int (nomark _))
        (pss_one (ps_set (i := 6) scTiles.nd rfl (Or.inl rfl) (pe_tup (pa_cons (pe_ix ix_tup (pv 6) pe_int (fun _ _ => rfl)) (pa_cons (pe_ix ix_tup (pv 6) pe_int (fun _ _ => rfl)) (pa_cons (pe_ix ix_tup (pv 6) pe_int (fun _ _ => rfl)) (pa_cons (pe_ix ix_tup (pv 6) pe_int (fun _ _ => rfl)) pa_nil))))))) pss_nil)
      (pss_one (ps_if (pt_cmpR (op_notin_keys (mem_room hr)) (pv 6) (pv 4) (by with_unfolding_all rfl)) (pss_one (ps_expr (pe_bm PySem.F.plainAttrs_list PySem.F.slot_list_append PySem.F.type_list_append mt_append (pv 4) (pa_cons (pv 6) pa_nil)))) pss_nil)))))
    (pss_one (ps_ret (pe_callTy call_tuple_of rfl T.tuple boot_tuple (pa_cons (pv 4) pa_nil)))))), ?_⟩
  case S => exact ⟨by decide +kernel, rfl, by decide +kernel, rfl, by decide +kernel, by decide +kernel, by decide +kernel, by decide +kernel⟩
  refine ⟨_, rfl, _, rfl, a, ns, k, 2, rfl, hS, h0, by decide, fun co H1 c0 c2 s1 => ?_⟩
  refine ⟨_, _, rfl, rfl, (by show 0 ≤ sizeLine; decide), fun mm hmm => ?_⟩
  have hmm0 : H mm = none := s1.free hmm
  have s2 : Same H (upd H1 mm (.lst [])) := s1.trans (same_new hmm _)
  refine ⟨_, rfl, _, rfl, _, _, rfl, rfl, _, rfl, a, ns, k + 1, m, rfl, s2.seq hS, by omega, hm, fun cnt H3 n0 n1 s3 => ?_⟩
  have e3 : H3 mm = some (.lst []) := s3 _ _ upd_same
  refine ⟨_, _, rfl, rfl, _, rfl, by omega, by omega, for_range (lo := 0) (n := (1 + cnt).toNat)
    (fun i σ H4 => ∃ (ys : List V) (keys : List (List Int)) (vk vt : Option V), σ = [some (.ref a), some (.int k), some (.int m), some (.int (2 + co)), some (.ref mm), vk, vt] ∧ Same H H4 ∧ H4 mm = some (.lst ys) ∧ TupsAt H4 ys (keys.map fun k => k.map V.int) ∧ keys.Nodup ∧ (∀ k ∈ keys, TileK k) ∧ keys.length ≤ i ∧ (1 ≤ i → 1 ≤ keys.length))
    ⟨[], [], none, none, rfl, s2.trans s3, e3, .nil, List.nodup_nil, (fun _ z => nomatch z), Nat.le_refl _, (fun z => absurd z (by decide))⟩ ?_ ?_⟩
  · rintro i σ H4 hi ⟨ys, keys, vk, vt, rfl, s4, e4, ta, nd, tk, hk, _⟩
    -- tile = tuple([..])
    have hi0 : (0 : Int) ≤ 0 + (i : Int) := by omega
    dsimp only [gName, tSeq, tAsg, tCB]
    refine comp_rng_te (fun _ y => ∃ z : Int, y = .int z ∧ 0 ≤ z ∧ z ≤ 2) ?_ ?_ ?_ ?_
    · decide
    · decide
    · intro j H5 R hj s5 hR
      refine ⟨_, rfl, _, rfl, _, rfl, _, _, rfl, rfl, .inl ⟨by decide, by decide⟩, _, _, rfl, rfl, _, _, rfl, rfl, _, rfl, _, _, rfl, rfl, _, rfl, a, ns, _, 2 + co, rfl, (s4.trans s5).seq hS, ?_, by omega, fun z H6 z0 z1 s6 => hR _ _ (s5.trans s6) ⟨z, rfl, z0, by omega⟩⟩
      show 0 ≤ k + 4 * (0 + (i : Int)) + 2 + (0 + (j : Int))
      omega
    · intro p H5 zs s5 hp hz hg
      refine ⟨p, zs, rfl, .inl ⟨SqL.of upd_same, fun t ht => ?_⟩⟩
      -- the items are four ints
      obtain ⟨ks, ek, hks⟩ : ∃ ks : List Int, zs = ks.map V.int ∧ TileK ks := by
        have key : ∀ (zs : List V), (∀ y ∈ zs, ∃ z : Int, y = .int z ∧ 0 ≤ z ∧ z ≤ 2) → ∃ ks : List Int, zs = ks.map V.int ∧ ∀ i ∈ ks, 0 ≤ i ∧ i ≤ 2 := by
          intro zs
          induction zs with
          | nil => intro _; exact ⟨[], rfl, (fun _ z => nomatch z)⟩
          | cons y zs ih =>
            intro h
            obtain ⟨z, rfl, z0, z1⟩ := h y List.mem_cons_self
            obtain ⟨ks, rfl, hk⟩ := ih fun y hy => h y (List.mem_cons_of_mem _ hy)
            exact ⟨z :: ks, rfl, fun i hi => by
              rcases List.mem_cons.mp hi with rfl | hi
              · exact ⟨z0, z1⟩
              · exact hk i hi⟩
        obtain ⟨ks, ek, hk⟩ := key zs fun y hy => by
          obtain ⟨j, hj⟩ := List.getElem?_of_mem hy
          exact hg j y hj
        refine ⟨ks, ek, ?_, hk⟩
        rw [ek, List.length_map] at hz; exact hz
      subst ek
      have s6 : Same H4 (upd (upd H5 p (.lst (ks.map V.int))) t (.tup (ks.map V.int))) := (s5.trans (same_new hp _)).trans (same_new ht _)
      generalize hH6 : upd (upd H5 p (.lst (ks.map V.int))) t (.tup (ks.map V.int)) = H6 at s6
      have et : H6 t = some (.tup (ks.map V.int)) := by rw [← hH6]; exact upd_same
      -- if pick == 0
      refine ⟨_, rfl, _, rfl, _, _, rfl, rfl, _, rfl, _, _, rfl, rfl, a, ns, _, 3, rfl, (s4.trans s6).seq hS, ?_, by decide, fun z H7 z0 z1 s7 => ?_⟩
      · show 0 ≤ k + 60 + (0 + (i : Int)); omega
      -- what follows, for any tile
      have next : ∀ (t' : Addr) (ks' : List Int) (H8 : Hp), Same H4 H8 → H8 t' = some (.tup (ks'.map V.int)) → TileK ks' →
          tIfS (tTest (tOp (fun x y H Q => ∃ (p : Addr) (k : List Int) (l : Addr) (ys : List V) (keys : List (List Int)), x = .ref p ∧ SqT K H p (k.map V.int) ∧ y = .ref l ∧ SqL K H l ys ∧ KeysAt K H ys keys ∧ Q (.bl (!decide (k ∈ keys))) H) (tVar 6) (tVar 4)))
            (tDrop (tBM K "list" rAppend (tVar 4) (tCons (tVar 6) tNil))) tNext
            { nx := fun σ H4 => ∃ (ys : List V) (keys : List (List Int)) (vk vt : Option V), σ = [some (.ref a), some (.int k), some (.int m), some (.int (2 + co)), some (.ref mm), vk, vt] ∧ Same H H4 ∧ H4 mm = some (.lst ys) ∧ TupsAt H4 ys (keys.map fun k => k.map V.int) ∧ keys.Nodup ∧ (∀ k ∈ keys, TileK k) ∧ keys.length ≤ i + 1 ∧ (1 ≤ i + 1 → 1 ≤ keys.length), rt := Q }
            [some (.ref a), some (.int k), some (.int m), some (.int (2 + co)), some (.ref mm), some (.int (0 + (i : Int))), some (.ref t')] H8 := by
        intro t' ks' H8 s8 et' hk'
        have e8 := s8 _ _ e4
        have ta8 : TupsAt H8 ys (keys.map fun k => k.map V.int) := ta.up fun b xs z => s8 _ _ z
        have hn8 : ys.length = keys.length := by have := ta8.length; rw [List.length_map] at this; exact this
        refine ⟨_, rfl, _, rfl, t', ks', mm, ys, keys, rfl, SqT.of et', rfl, SqL.of e8, ta8.keys, _, rfl, ite2 (fun c => ?_) (fun c => ?_)⟩
        · have hnot : ¬ ks' ∈ keys := fun z => by rw [decide_eq_true z] at c; cases c
          refine ⟨_, rfl, .inl ⟨rfl, _, SqL.of e8⟩, _, rfl, mm, ys, _, rfl, rfl, e8, small1000 (by omega), ?_⟩
          refine ⟨ys ++ [.ref t'], keys ++ [ks'], _, _, rfl, same_upd hmm0 (s4.trans s8) _, upd_same, ?_, ?_, ?_, ?_, ?_⟩
          · rw [List.map_append]
            exact TupsAt.snoc ⟨t', rfl, not_lst_tup e8 _ _ et'⟩ (ta8.up (not_lst_tup e8))
          · rw [List.nodup_append]
            exact ⟨nd, by simp, fun x hx y hy e => by
              have : y = ks' := by simpa using hy
              subst this; subst e; exact hnot hx⟩
          · intro x hx
            rcases List.mem_append.mp hx with hx | hx
            · exact tk x hx
            · have : x = ks' := by simpa using hx
              subst this; exact hk'
          · rw [List.length_append, List.length_singleton]; omega
          · intro _; rw [List.length_append, List.length_singleton]; omega
        · have hin : ks' ∈ keys := by
            refine Classical.byContradiction fun z => c ?_
            rw [decide_eq_false z]; rfl
          refine ⟨ys, keys, _, _, rfl, s4.trans s8, e8, ta8, nd, tk, by omega, fun _ => ?_⟩
          cases keys with
          | nil => cases hin
          | cons x l => exact Nat.succ_le_succ (Nat.zero_le _)
      refine ⟨rfl, _, rfl, ite2 (fun c => ?_) (fun c => ?_)⟩
      · obtain ⟨l4, hb⟩ := hks
        match ks, l4 with
        | [i0, i1, i2, i3], _ =>
          have et7 : H7 t = some (.tup ([i0, i1, i2, i3].map V.int)) := s7 _ _ et
          refine ⟨_, rfl, t, _, 0, .int i0, rfl, rfl, SqT.of et7, rfl, _, rfl, t, _, 1, .int i1, rfl, rfl, SqT.of et7, rfl, _, rfl, t, _, 0, .int i0, rfl, rfl, SqT.of et7, rfl, _, rfl, t, _, 1, .int i1, rfl, rfl, SqT.of et7, rfl, (small (show 4 ≤ 1000 by decide)), fun t2 ht2 => ?_⟩
          refine next t2 [i0, i1, i0, i1] _ ((s6.trans s7).trans (same_new ht2 _)) upd_same ⟨rfl, fun x hx => ?_⟩
          have h0 := hb i0 (by simp)
          have h1 := hb i1 (by simp)
          simp only [List.mem_cons, List.not_mem_nil, or_false] at hx
          rcases hx with rfl | rfl | rfl | rfl
          · exact h0
          · exact h1
          · exact h0
          · exact h1
      · exact next t ks H7 (s6.trans s7) (s7 _ _ et) hks
  · rintro σ H4 ⟨ys, keys, vk, vt, rfl, s4, e4, ta, nd, tk, hk, h1⟩
    refine ⟨_, rfl, mm, ys, rfl, .inl ⟨SqL.of e4, fun l hl => ?_⟩⟩
    have sl := same_new hl (.tup ys)
    refine q _ _ keys (s4.trans sl) (h1 (by omega)) (by omega) nd tk (.tup upd_same ?_)
    exact keys_reps (ta.up (H' := upd H4 l (.tup ys)) fun b xs z => sl _ _ z)
end
end K3

set_option Elab.async false
set_option linter.all false
set_option maxRecDepth 100000
set_option maxHeartbeats 1000000
namespace K3
open PySem L2
/-! ### the floor that is drawn -/
/-- a number below n, or none -/
def Lies (n : Nat) (x : V) : Prop := x = .non ∨ ∃ i : Int, x = .int i ∧ 0 ≤ i ∧ i < (n : Int)
def flatD : V → D | .int i => .int i | .bl b => .bl b | .str x => .str x | _ => .non
theorem lies_rep {H : Hp} {n : Nat} {x : V} (h : Lies n x) : Rep H x (flatD x) ∧ mayLie n (flatD x) = true := by
  rcases h with rfl | ⟨i, rfl, h0, h1⟩
  · exact ⟨.non, rfl⟩
  · refine ⟨.int i, ?_⟩
    show (decide (0 ≤ i) && decide (i < (n : Int))) = true
    rw [decide_eq_true h0, decide_eq_true h1]; rfl
theorem lies_reps {H : Hp} {n : Nat} : ∀ {r : List V}, (∀ x ∈ r, Lies n x) → Reps H r (r.map flatD) ∧ (r.map flatD).all (mayLie n) = true
  | [], _ => ⟨.nil, rfl⟩
  | x :: r, h => by
    obtain ⟨h1, h2⟩ := lies_rep (H := H) (h x List.mem_cons_self)
    obtain ⟨h3, h4⟩ := lies_reps (H := H) (n := n) (r := r) fun y hy => h y (List.mem_cons_of_mem _ hy)
    exact ⟨.cons h1 h3, by rw [List.map_cons, List.all_cons, h2, h4]; rfl⟩
/-- rows of a floor: as many, as long -/
structure Rows (n r c : Nat) (rs : List (List V)) : Prop where
  len : rs.length = r
  row : ∀ x ∈ rs, x.length = c ∧ ∀ y ∈ x, Lies n y
theorem rows_reps {H : Hp} {n c : Nat} : ∀ {ys : List V} {rs : List (List V)}, TupsAt H ys rs → (∀ x ∈ rs, x.length = c ∧ ∀ y ∈ x, Lies n y) → Reps H ys (rs.map fun r => D.tup (r.map flatD))
  | _, _, .nil, _ => .nil
  | _, _, .cons ⟨b, e, hb⟩ t, h => by
    subst e
    exact .cons (.tup hb (lies_reps (h _ List.mem_cons_self).2).1) (rows_reps t fun x hx => h x (List.mem_cons_of_mem _ hx))
def spFloorL (K : PySem.W.Frag) : Sp := fun vs H Q _ => ∃ (a : Addr) (ns : List Int) (k : Int) (t : V) (ts : List D) (r c m : Int), vs = [.ref a, .int k, t, .int r, .int c, .int m] ∧ SqL K H a (ns.map V.int) ∧ 0 ≤ k ∧ 1 ≤ m ∧ m ≤ 2 ∧ Rep H t (.tup ts) ∧ 1 ≤ ts.length ∧ ts.length ≤ 6 ∧ 1 ≤ r ∧ r ≤ 3 ∧ 1 ≤ c ∧ c ≤ 4 ∧
  ∀ v H' (rs : List (List V)), Same H H' → Rows ts.length r.toNat c.toNat rs → (∃ b ys, v = .ref b ∧ H' b = some (.tup ys) ∧ TupsAt H' ys rs) → Q v H'
section
variable {P : Program} {w : World} {K : PySem.W.Frag} {mg : Str → Option Value} {base : Heap} {f : Addr} {fd : FuncData}
theorem scFloorL : FnScope ["_law_script", "_law_at", "_law_tiles_here", "_law_rows", "_law_columns", "_law_many", "_law_made", "_law_row", "_law_line", "_law_column", "_law_here"] ["_law_script", "_law_at", "_law_tiles_here", "_law_rows", "_law_columns", "_law_many"] (defScope sFloorL) :=
  ⟨rfl, rfl, rfl, by decide +kernel, rfl, by decide +kernel, by decide +kernel⟩
theorem ok_floorL {g : Addr} {gd : FuncData} (F : Fun K "_law_floor" "_law_floor" sFloorL f fd) (T : Txt mg) (G : FnOk P w K mg base CX0 2 g gd ["_law_script", "_law_k", "_law_many"] (spPick K)) (bG : Binds K gd ["_law_script", "_law_k", "_law_many"] []) (kG : PySem.W.keepIn K (.ref g) = true) (mG : mg "_law_pick" = some (.ref g)) :
    FnOk P w K mg base CX0 3 f fd ["_law_script", "_law_at", "_law_tiles_here", "_law_rows", "_law_columns", "_law_many"] (spFloorL K) := by
  refine F.ok scFloorL (fun vs H Q E h => ?_) (fun cdv A outer s H vs Q E hr h => ?_)
  · obtain ⟨a, ns, k, t, ts, r, c, m, rfl, _⟩ := h; rfl
  obtain ⟨a, ns, k, t, ts, r, c, m, rfl, hS, h0, hm1, hm2, ht, ht1, ht6, hr1, hr3, hc1, hc4, q⟩ := h
  refine ⟨_, pss_cons (ps_set (i := 6) scFloorL.nd rfl (Or.inl rfl) (pe_lst pa_nil))
    (pss_cons (ps_for PassesOwn.never rfl (pi_range1 rfl T.range (pa_cons (pv 3) pa_nil)) (pg_name (i := 7) scFloorL.nd rfl (Or.inl rfl))
      (pss_cons (ps_set (i := 8) scFloorL.nd rfl (Or.inl rfl) (pe_lst pa_nil))
      (pss_cons (ps_for PassesOwn.never rfl (pi_range1 rfl T.range (pa_cons (pv 4) pa_nil)) (pg_name (i := 9) scFloorL.nd rfl (Or.inl rfl))
        (pss_cons (ps_set (i := 10) scFloorL.nd rfl (Or.inl rfl) (pe_call G hr rfl mG kG bG .nil pass0 (pa_cons (pv 0) (pa_cons (pe_op op_add (pe_op op_add (pv 1) (pe_op op_mul pe_int (pv 7))) (pv 9)) (pa_cons (pe_op op_mul (pe_callB call_len_seq rfl T.len PySem.boot_len (pa_cons (pv 2) pa_nil)) (pv 5)) pa_nil)))))
        (pss_one (ps_expr (pe_bm PySem.F.plainAttrs_list PySem.F.slot_list_append PySem.F.type_list_append mt_append (pv 8) (pa_cons (pe_ifExp (pt_cmpR op_lt (pv 10) (pe_callB call_len_seq rfl T.len PySem.boot_len (pa_cons (pv 2) pa_nil)) (nomark _)) (pv 10) pe_non) pa_nil))))))
      (pss_one (ps_expr (pe_bm PySem.F.plainAttrs_list PySem.F.slot_list_append PySem.F.type_list_append mt_append (pv 6) (pa_cons (pe_callTy call_tuple_of rfl T.tuple boot_tuple (pa_cons (pv 8) pa_nil)) pa_nil)))))))
    (pss_one (ps_ret (pe_callTy call_tuple_of rfl T.tuple boot_tuple (pa_cons (pv 6) pa_nil))))), ?_⟩
  refine ⟨(by show 0 ≤ sizeLine; decide), fun mm hmm => ?_⟩
  have s1 : Same H (upd H mm (.lst [])) := same_new hmm _
  cases ht with
  | @tup ta txs _ te tr =>
  have hlt : txs.length = ts.length := tr.length
  refine ⟨_, rfl, r, rfl, by omega, by omega, for_range (lo := 0) (n := r.toNat)
    (fun i σ H2 => ∃ (ys : List V) (rs : List (List V)) (v7 v8 v9 v10 : Option V), σ = [some (.ref a), some (.int k), some (.ref ta), some (.int r), some (.int c), some (.int m), some (.ref mm), v7, v8, v9, v10] ∧ Same H H2 ∧ H2 mm = some (.lst ys) ∧ TupsAt H2 ys rs ∧ rs.length = i ∧ ∀ x ∈ rs, x.length = c.toNat ∧ ∀ y ∈ x, Lies ts.length y)
    ⟨[], [], none, none, none, none, rfl, s1, upd_same, .nil, rfl, (fun _ z => nomatch z)⟩ ?_ ?_⟩
  · rintro i σ H2 hi ⟨ys, rs, v7, v8, v9, v10, rfl, s2, e2, tr2, hl2, hrow⟩
    refine ⟨(by show 0 ≤ sizeLine; decide), fun ll hll => ?_⟩
    have hll0 : H ll = none := s2.free hll
    have s3 := same_new hll (.lst [])
    have nml : mm ≠ ll := ne_of_none e2 hll
    refine ⟨_, rfl, c, rfl, by omega, by omega, for_range (lo := 0) (n := c.toNat)
      (fun j σ H3 => ∃ (zs : List V) (v9 v10 : Option V), σ = [some (.ref a), some (.int k), some (.ref ta), some (.int r), some (.int c), some (.int m), some (.ref mm), some (.int (0 + (i : Int))), some (.ref ll), v9, v10] ∧ Same H2 H3 ∧ H3 ll = some (.lst zs) ∧ zs.length = j ∧ ∀ y ∈ zs, Lies ts.length y)
      ⟨[], v9, v10, rfl, s3, upd_same, rfl, (fun _ z => nomatch z)⟩ ?_ ?_⟩
    · rintro j σ H3 hj ⟨zs, v9', v10', rfl, s4, e4, hz, hly⟩
      have tsq : SqT K H3 ta txs := SqT.of (s4 _ _ (s2 _ _ te))
      refine ⟨_, rfl, _, rfl, _, rfl, _, _, rfl, rfl, .inl ⟨by decide, by decide⟩, _, _, rfl, rfl, _, rfl, _, _, rfl, rfl, _, rfl, ta, txs, rfl, .inr tsq, _, rfl, _, _, rfl, rfl, .inr ⟨by omega, by omega⟩, a, ns, _, _, rfl, (s2.trans s4).seq hS, ?_, ?_, fun z H5 z0 z1 s5 => ?_⟩
      · show 0 ≤ k + 7 * (0 + (i : Int)) + (0 + (j : Int)); omega
      · show 0 < (txs.length : Int) * m; exact Int.mul_pos (by omega) (by omega)
      · have e5 := s5 _ _ e4
        have fin : ∀ y : V, Lies ts.length y → ∃ l xs y', V.ref ll = .ref l ∧ [y] = [y'] ∧ H5 l = some (.lst xs) ∧ xs.length < sizeLine ∧ ∃ (zs : List V) (v9 v10 : Option V), [some (V.ref a), some (.int k), some (.ref ta), some (.int r), some (.int c), some (.int m), some (.ref mm), some (.int (0 + (i : Int))), some (.ref ll), some (.int (0 + (j : Int))), some (.int z)] = [some (.ref a), some (.int k), some (.ref ta), some (.int r), some (.int c), some (.int m), some (.ref mm), some (.int (0 + (i : Int))), some (.ref ll), v9, v10] ∧ Same H2 (upd H5 l (.lst (xs ++ [y']))) ∧ (upd H5 l (.lst (xs ++ [y']))) ll = some (.lst zs) ∧ zs.length = j + 1 ∧ ∀ y ∈ zs, Lies ts.length y := fun y hy => by
          refine ⟨ll, zs, y, rfl, rfl, e5, small1000 (by omega), zs ++ [y], _, _, rfl, same_upd hll (s4.trans s5) _, upd_same, by rw [List.length_append, hz]; rfl, fun x hx => ?_⟩
          rcases List.mem_append.mp hx with hx | hx
          · exact hly x hx
          · have : x = y := by simpa using hx
            subst this; exact hy
        refine ⟨_, rfl, .inl ⟨rfl, _, SqL.of e5⟩, _, rfl, _, rfl, ta, txs, rfl, .inr (SqT.of (s5 _ _ (s4 _ _ (s2 _ _ te)))), _, _, rfl, rfl, _, rfl, ite2 (fun cc => ?_) (fun cc => ?_)⟩
        · exact ⟨_, rfl, fin _ (.inr ⟨z, rfl, z0, by rw [← hlt]; exact of_decide_eq_true cc⟩)⟩
        · exact fin _ (.inl rfl)
    · rintro σ H3 ⟨zs, v9', v10', rfl, s4, e4, hz, hly⟩
      have e3 := s4 _ _ e2
      refine ⟨_, rfl, .inl ⟨rfl, _, SqL.of e3⟩, _, rfl, ll, zs, rfl, .inl ⟨SqL.of e4, fun tt htt => ?_⟩⟩
      have s5 := same_new htt (.tup zs)
      refine ⟨mm, ys, _, rfl, rfl, s5 _ _ e3, small1000 (by have := tr2.length; omega), ?_⟩
      have nl := not_lst_tup (o := .lst (ys ++ [.ref tt])) (s5 _ _ e3)
      refine ⟨ys ++ [.ref tt], rs ++ [zs], _, _, _, _, rfl, same_upd hmm ((s2.trans s4).trans s5) _, upd_same, ?_, by rw [List.length_append, hl2]; rfl, fun x hx => ?_⟩
      · exact TupsAt.snoc ⟨tt, rfl, nl _ _ upd_same⟩ (tr2.up fun b xs z => nl _ _ (s5 _ _ (s4 _ _ z)))
      · rcases List.mem_append.mp hx with hx | hx
        · exact hrow x hx
        · have : x = zs := by simpa using hx
          subst this; exact ⟨hz, hly⟩
  · rintro σ H2 ⟨ys, rs, v7, v8, v9, v10, rfl, s2, e2, tr2, hl2, hrow⟩
    refine ⟨_, rfl, mm, ys, rfl, .inl ⟨SqL.of e2, fun l hl => ?_⟩⟩
    have sl := same_new hl (.tup ys)
    exact q _ _ rs (s2.trans sl) ⟨hl2, hrow⟩ ⟨l, ys, rfl, upd_same, tr2.up fun b xs z => sl _ _ z⟩
/-! ### the sides that are drawn -/
def tPairs : List (Int × Int) → TA
  | [] => tNil
  | p :: r => tCons (tTup (tCons (tC (.int p.1)) (tCons (tC (.int p.2)) tNil))) (tPairs r)
theorem pairs_read {σ : St} : ∀ (ps : List (Int × Int)) {H : Hp} {Q : List V → Hp → Prop}, (∀ H' vs, Same H H' → TupsAt H' vs (ps.map fun p => [.int p.1, .int p.2]) → Q vs H') → tPairs ps σ H Q
  | [], H, Q, h => h H [] (Same.refl _) .nil
  | p :: r, H, Q, h => by
    refine ⟨small (show 2 ≤ 1000 by decide), fun b hb => ?_⟩
    have sb := same_new hb (.tup [.int p.1, .int p.2])
    exact pairs_read r fun H' vs s' t' => h H' _ (sb.trans s') (.cons ⟨b, rfl, s' _ _ upd_same⟩ t')
def spSides (K : PySem.W.Frag) : Sp := fun vs H Q _ => ∃ (a : Addr) (ns : List Int) (k : Int), vs = [.ref a, .int k] ∧ SqL K H a (ns.map V.int) ∧ 0 ≤ k ∧ ∀ b H' (r c : Int), 1 ≤ r → r ≤ 3 → 1 ≤ c → c ≤ 4 → r * c ≤ 6 → Same H H' → H' b = some (.tup [.int r, .int c]) → Q (.ref b) H'
theorem scSides : FnScope ["_law_script", "_law_at"] ["_law_script", "_law_at"] (defScope sSides) := ⟨rfl, rfl, rfl, by decide +kernel, rfl, by decide +kernel, by decide +kernel⟩
theorem TupsAt.at {H : Hp} : ∀ {ys : List V} {rs : List (List V)}, TupsAt H ys rs → ∀ {i : Nat} {r : List V}, rs[i]? = some r → ∃ b, ys[i]? = some (.ref b) ∧ H b = some (.tup r)
  | _, _, .nil, i, r, e => by simp at e
  | _, _, .cons ⟨b, e, hb⟩ _, 0, r, h => by simp at h; subst h; subst e; exact ⟨b, rfl, hb⟩
  | _, _, .cons _ t, i + 1, r, h => by
    obtain ⟨b, h1, h2⟩ := TupsAt.at t (i := i) (r := r) (by simpa using h)
    exact ⟨b, by simpa using h1, h2⟩
theorem pp_nil {X : Cx} : PA X [] (tPairs []) := pa_nil
theorem pp_cons {X : Cx} {i j : Int} {i1 i2 : Nat} {p1 p2 : Pos} {x1} {pos : Pos} {es : List Expr} {r : List (Int × Int)} (h : PA X es (tPairs r)) : PA X (.Tuple [.Constant (.int i) i1 p1, .Constant (.int j) i2 p2] x1 pos :: es) (tPairs ((i, j) :: r)) :=
  pa_cons (pe_tup (pa_cons pe_int (pa_cons pe_int pa_nil))) h
theorem sides_at {H : Hp} {vs : List V} (t : TupsAt H vs (([(1, 1), (1, 2), (2, 1), (2, 2), (2, 2), (1, 4), (2, 3), (3, 2), (3, 1), (2, 3)] : List (Int × Int)).map fun p => [.int p.1, .int p.2])) {i : Nat} (hi : i < 10) :
    ∃ (b : Addr) (r c : Int), vs[i]? = some (.ref b) ∧ H b = some (.tup [.int r, .int c]) ∧ 1 ≤ r ∧ r ≤ 3 ∧ 1 ≤ c ∧ c ≤ 4 ∧ r * c ≤ 6 := by
  have key : ∀ (ps : List (Int × Int)), (∀ p ∈ ps, 1 ≤ p.1 ∧ p.1 ≤ 3 ∧ 1 ≤ p.2 ∧ p.2 ≤ 4 ∧ p.1 * p.2 ≤ 6) → TupsAt H vs (ps.map fun p => [.int p.1, .int p.2]) → i < ps.length → ∃ (b : Addr) (r c : Int), vs[i]? = some (.ref b) ∧ H b = some (.tup [.int r, .int c]) ∧ 1 ≤ r ∧ r ≤ 3 ∧ 1 ≤ c ∧ c ≤ 4 ∧ r * c ≤ 6 := by
    intro ps hall t hk
    obtain ⟨b, hb1, hb2⟩ := t.at (i := i) (r := [.int ps[i].1, .int ps[i].2]) (by rw [List.getElem?_map, List.getElem?_eq_getElem hk]; rfl)
    exact ⟨b, _, _, hb1, hb2, hall _ (List.getElem_mem hk)⟩
  exact key _ (by decide) t hi
end
end K3

set_option Elab.async false
set_option linter.all false
set_option maxRecDepth 100000
set_option maxHeartbeats 400000
namespace K3
open PySem L2
section
variable {P : Program} {w : World} {K : PySem.W.Frag} {mg : Str → Option Value} {base : Heap} {f : Addr} {fd : FuncData}
theorem ok_sides {g : Addr} {gd : FuncData} (F : Fun K "_law_sides" "_law_sides" sSides f fd) (G : FnOk P w K mg base CX0 2 g gd ["_law_script", "_law_k", "_law_many"] (spPick K)) (bG : Binds K gd ["_law_script", "_law_k", "_law_many"] []) (kG : PySem.W.keepIn K (.ref g) = true) (mG : mg "_law_pick" = some (.ref g)) :
    FnOk P w K mg base CX0 3 f fd ["_law_script", "_law_at"] (spSides K) := by
  refine F.ok scSides (fun vs H Q E h => ?_) (fun cdv A outer s H vs Q E hr h => ?_)
  · obtain ⟨a, ns, k, rfl, _⟩ := h; rfl
  obtain ⟨a, ns, k, rfl, hS, h0, q⟩ := h
  refine ⟨tRet (tOp (rIxL K) (tLst (tPairs [(1, 1), (1, 2), (2, 1), (2, 2), (2, 2), (1, 4), (2, 3), (3, 2), (3, 1), (2, 3)])) (tCall (spPick K) [] E0 (tCons (tVar 0) (tCons (tVar 1) (tCons (tC (.int 10)) tNil))))), ?b, ?_⟩
  case b =>
    refine pss_one ?q
    with_reducible refine ps_ret ?_
    with_reducible refine pe_ix ?h1 ?h2 ?h3 ?h4
    case h1 => exact ix_list
    case h2 =>
      with_reducible refine pe_lst ?_
      with_reducible exact pp_cons (pp_cons (pp_cons (pp_cons (pp_cons (pp_cons (pp_cons (pp_cons (pp_cons (pp_cons pp_nil)))))))))
    case h3 => exact pe_call G hr rfl mG kG bG .nil pass0 (pa_cons (pv 0) (pa_cons (pv 1) (pa_cons pe_int pa_nil)))
    case h4 => exact fun _ _ => rfl
  dsimp only [tRet, tOp, tLst]
  refine pairs_read _ ?_
  intro H1 vs s1 t1
  have hvl : vs.length = 10 := by have := t1.length; rw [List.length_map] at this; exact this
  refine ⟨by rw [hvl]; exact small (show 10 ≤ 1000 by decide), fun l hl => ?_⟩
  have sl := same_new hl (.lst vs)
  refine ⟨_, rfl, _, rfl, a, ns, k, 10, rfl, (s1.trans sl).seq hS, h0, by decide, fun i H2 i0 i1 s2 => ?_⟩
  obtain ⟨b, r, c, hb1, hb2, g1, g2, g3, g4, g5⟩ := sides_at t1 (i := i.toNat) (by omega)
  have ei : ((i.toNat : Nat) : Int) = i := by omega
  have hat : atI vs i = some (.ref b) := by have := atI_nat hb1; rw [ei] at this; exact this
  exact ⟨l, vs, i, _, rfl, rfl, SqL.of (s2 _ _ upd_same), hat, q b H2 r c g1 g2 g3 g4 g5 ((s1.trans sl).trans s2) (s2 _ _ (sl _ _ hb2))⟩
end
end K3

set_option Elab.async false
set_option linter.all false
set_option maxRecDepth 100000
set_option maxHeartbeats 600000
namespace K3
open PySem L2
/-! ### floors: rows of values -/
structure Even (c : Nat) (rs : List (List V)) : Prop where
  one : 1 ≤ rs.length
  most : rs.length ≤ 100
  cols : c ≤ 100
  row : ∀ x ∈ rs, x.length = c
def Flr (H : Hp) (v : V) (rs : List (List V)) : Prop := ∃ b ys, v = .ref b ∧ H b = some (.tup ys) ∧ TupsAt H ys rs
theorem Flr.up {H H' : Hp} (s : Same H H') {v : V} {rs : List (List V)} (h : Flr H v rs) : Flr H' v rs := by
  obtain ⟨b, ys, e, hb, t⟩ := h
  exact ⟨b, ys, e, s _ _ hb, t.up fun b xs z => s _ _ z⟩
/-- a place -/
def Plc (H : Hp) (v : V) (i j : Int) : Prop := ∃ b, v = .ref b ∧ H b = some (.tup [.int i, .int j])
theorem Plc.up {H H' : Hp} (s : Same H H') {v : V} {i j : Int} (h : Plc H v i j) : Plc H' v i j := by
  obtain ⟨b, e, hb⟩ := h
  exact ⟨b, e, s _ _ hb⟩
def placesL (r c : Nat) : List (List V) := (List.range r).flatMap fun (i : Nat) => (List.range c).map fun (j : Nat) => [V.int (0 + (i : Int)), V.int (0 + (j : Int))]
theorem placesL_succ (r c : Nat) : placesL (r + 1) c = placesL r c ++ (List.range c).map fun (j : Nat) => [V.int (0 + (r : Int)), V.int (0 + (j : Int))] := by
  unfold placesL
  rw [List.range_succ, List.flatMap_append, List.flatMap_cons, List.flatMap_nil, List.append_nil]
theorem placesL_len (c : Nat) : ∀ r, (placesL r c).length = r * c
  | 0 => by rw [Nat.zero_mul]; rfl
  | r + 1 => by rw [placesL_succ, List.length_append, placesL_len c r, List.length_map, List.length_range, Nat.succ_mul]
def cellV (rs : List (List V)) (i j : Nat) : V := (rs.getD i []).getD j .non
def spSize : Sp := fun vs H Q _ => ∃ (v : V) (rs : List (List V)) (c : Nat), vs = [v] ∧ Flr H v rs ∧ Even c rs ∧ ∀ b H', Same H H' → H' b = some (.tup [.int (rs.length : Int), .int (c : Int)]) → Q (.ref b) H'
def spPlaces : Sp := fun vs H Q _ => ∃ (v : V) (rs : List (List V)) (c : Nat), vs = [v] ∧ Flr H v rs ∧ Even c rs ∧ ∀ l ys H', Same H H' → H l = none → H' l = some (.lst ys) → TupsAt H' ys (placesL rs.length c) → Q (.ref l) H'
def spNumber : Sp := fun vs H Q _ => ∃ (v p : V) (rs : List (List V)) (c i j : Nat), vs = [v, p] ∧ Flr H v rs ∧ Even c rs ∧ Plc H p (0 + (i : Int)) (0 + (j : Int)) ∧ i < rs.length ∧ j < c ∧ Q (cellV rs i j) H
section
variable {P : Program} {w : World} {K : PySem.W.Frag} {mg : Str → Option Value} {base : Heap} {f : Addr} {fd : FuncData}
theorem scSize : FnScope ["floor", "columns"] ["floor"] (defScope sSize) := ⟨rfl, rfl, rfl, by decide +kernel, rfl, by decide +kernel, by decide +kernel⟩
theorem first_row {H : Hp} {b : Addr} {ys : List V} {rs : List (List V)} {c : Nat} (t : TupsAt H ys rs) (ev : Even c rs) : ∃ b0 r0, atI ys 0 = some (.ref b0) ∧ H b0 = some (.tup r0) ∧ r0.length = c := by
  obtain ⟨r0, hr0⟩ : ∃ r0, rs[0]? = some r0 := ⟨rs[0]'(by have := ev.one; omega), List.getElem?_eq_getElem _⟩
  obtain ⟨b0, h1, h2⟩ := t.at hr0
  exact ⟨b0, r0, atI_nat (j := 0) h1, h2, ev.row r0 (List.mem_of_getElem? hr0)⟩
theorem ok_size (F : Fun K "size_of" "size_of" sSize f fd) (T : Txt mg) : FnOk P w K mg base CX0 1 f fd ["floor"] spSize := by
  refine F.ok scSize (fun vs H Q E h => ?_) (fun cdv A outer s H vs Q E hr h => ?_)
  · obtain ⟨v, rs, c, rfl, _⟩ := h; rfl
  obtain ⟨v, rs, c, rfl, ⟨fb, ys, rfl, ef, t⟩, ev, q⟩ := h
  refine ⟨_, pss_cons (ps_set (i := 1) scSize.nd rfl (Or.inl rfl) (pe_ifExp (pt_cmpR op_gt (pe_callB call_len_seq rfl T.len PySem.boot_len (pa_cons (pv 0) pa_nil)) pe_int (nomark _)) (pe_callB call_len_seq rfl T.len PySem.boot_len (pa_cons (pe_ix ix_tup (pv 0) pe_int (fun _ _ => rfl)) pa_nil)) pe_int))
    (pss_one (ps_ret (pe_tup (pa_cons (pe_callB call_len_seq rfl T.len PySem.boot_len (pa_cons (pv 0) pa_nil)) (pa_cons (pv 1) pa_nil))))), ?_⟩
  have hl : ys.length = rs.length := t.length
  obtain ⟨b0, r0, hat, e0, l0⟩ := first_row (b := fb) t ev
  refine ⟨_, rfl, fb, ys, rfl, .inr (SqT.of ef), _, _, rfl, rfl, _, rfl, ite2 (fun cc => ?_) (fun cc => ?_)⟩
  · refine ⟨_, rfl, fb, ys, 0, .ref b0, rfl, rfl, SqT.of ef, hat, b0, r0, rfl, .inr (SqT.of e0), ?_⟩
    refine ⟨_, rfl, fb, ys, rfl, .inr (SqT.of ef), _, rfl, small (show 2 ≤ 1000 by decide), fun p hp => ?_⟩
    refine q p _ (same_new hp _) ?_
    rw [upd_same, hl, l0]
  · refine absurd ?_ cc
    refine decide_eq_true ?_
    have := ev.one
    omega
theorem scPlaces : FnScope ["floor", "size", "places", "row", "column"] ["floor"] (defScope sPlaces) := ⟨rfl, rfl, rfl, by decide +kernel, rfl, by decide +kernel, by decide +kernel⟩
theorem ok_places {g : Addr} {gd : FuncData} (F : Fun K "places_of" "places_of" sPlaces f fd) (T : Txt mg) (G : FnOk P w K mg base CX0 1 g gd ["floor"] spSize) (bG : Binds K gd ["floor"] []) (kG : PySem.W.keepIn K (.ref g) = true) (mG : mg "size_of" = some (.ref g)) :
    FnOk P w K mg base CX0 2 f fd ["floor"] spPlaces := by
  refine F.ok scPlaces (fun vs H Q E h => ?_) (fun cdv A outer s H vs Q E hr h => ?_)
  · obtain ⟨v, rs, c, rfl, _⟩ := h; rfl
  obtain ⟨v, rs, c, rfl, hF, ev, q⟩ := h
  refine ⟨_, pss_cons (ps_set (i := 1) scPlaces.nd rfl (Or.inl rfl) (pe_call G hr rfl mG kG bG .nil pass0 (pa_cons (pv 0) pa_nil)))
    (pss_cons (ps_set (i := 2) scPlaces.nd rfl (Or.inl rfl) (pe_lst pa_nil))
    (pss_cons (ps_for PassesOwn.never rfl (pi_range1 rfl T.range (pa_cons (pe_ix ix_tup (pv 1) pe_int (fun _ _ => rfl)) pa_nil)) (pg_name (i := 3) scPlaces.nd rfl (Or.inl rfl))
      (pss_one (ps_for PassesOwn.never rfl (pi_range1 rfl T.range (pa_cons (pe_ix ix_tup (pv 1) pe_int (fun _ _ => rfl)) pa_nil)) (pg_name (i := 4) scPlaces.nd rfl (Or.inl rfl))
        (pss_one (ps_expr (pe_bm PySem.F.plainAttrs_list PySem.F.slot_list_append PySem.F.type_list_append mt_append (pv 2) (pa_cons (pe_tup (pa_cons (pv 3) (pa_cons (pv 4) pa_nil))) pa_nil)))))))
    (pss_one (ps_ret (pv 2))))), ?_⟩
  have hr1 := ev.one
  have hr100 := ev.most
  have hc100 := ev.cols
  refine ⟨_, rfl, v, rs, c, rfl, hF, ev, fun sb H1 s1 es => ⟨(by show 0 ≤ sizeLine; decide), fun mm hmm => ?_⟩⟩
  have hmm0 : H mm = none := s1.free hmm
  have s2 := s1.trans (same_new hmm (.lst []))
  have es2 : (upd H1 mm (.lst [])) sb = some (.tup [.int (rs.length : Int), .int (c : Int)]) := (same_new hmm _) _ _ es
  refine ⟨_, rfl, sb, _, 0, _, rfl, rfl, SqT.of es2, rfl, (rs.length : Int), rfl, by omega, by omega, for_range (lo := 0) (n := ((rs.length : Int)).toNat)
    (fun i σ H2 => ∃ (ys : List V) (v3 v4 : Option V), σ = [some v, some (.ref sb), some (.ref mm), v3, v4] ∧ Same H H2 ∧ H2 sb = some (.tup [.int (rs.length : Int), .int (c : Int)]) ∧ H2 mm = some (.lst ys) ∧ TupsAt H2 ys (placesL i c))
    ⟨[], none, none, rfl, s2, es2, upd_same, .nil⟩ ?_ ?_⟩
  · rintro i σ H2 hi ⟨ys, v3, v4, rfl, s3, e3, em, tp⟩
    have hin : i < rs.length := by omega
    refine ⟨_, rfl, sb, _, 1, _, rfl, rfl, SqT.of e3, rfl, (c : Int), rfl, by omega, by omega, for_range (lo := 0) (n := ((c : Int)).toNat)
      (fun j σ H3 => ∃ (ys : List V) (v4 : Option V), σ = [some v, some (.ref sb), some (.ref mm), some (.int (0 + (i : Int))), v4] ∧ Same H H3 ∧ H3 sb = some (.tup [.int (rs.length : Int), .int (c : Int)]) ∧ H3 mm = some (.lst ys) ∧ TupsAt H3 ys (placesL i c ++ (List.range j).map fun (j : Nat) => [V.int (0 + (i : Int)), V.int (0 + (j : Int))]))
      ⟨ys, v4, rfl, s3, e3, em, by rw [List.range_zero, List.map_nil, List.append_nil]; exact tp⟩ ?_ ?_⟩
    · rintro j σ H3 hj ⟨zs, v4', rfl, s4, e4, em4, tp4⟩
      have hzl : zs.length ≤ 20000 := by
        have h1 := tp4.length
        have h2 : (placesL i c).length = i * c := placesL_len c i
        rw [List.length_append, h2, List.length_map, List.length_range] at h1
        have h3 : i * c ≤ 100 * 100 := Nat.mul_le_mul (by omega) hc100
        omega
      refine ⟨_, rfl, .inl ⟨rfl, _, SqL.of em4⟩, _, rfl, _, rfl, small (show 2 ≤ 1000 by decide), fun tp htp => ?_⟩
      have a1 := same_new htp (.tup [.int (0 + (i : Int)), .int (0 + (j : Int))])
      have hline : (20000 : Nat) < sizeLine := by decide
      refine ⟨mm, zs, _, rfl, rfl, a1 _ _ em4, by omega, ?_⟩
      have nl := not_lst_tup (o := .lst (zs ++ [.ref tp])) (a1 _ _ em4)
      refine ⟨zs ++ [.ref tp], _, rfl, same_upd hmm0 (s4.trans a1) _, nl _ _ (a1 _ _ e4), upd_same, ?_⟩
      rw [List.range_succ, List.map_append, ← List.append_assoc]
      exact TupsAt.snoc ⟨tp, rfl, nl _ _ upd_same⟩ (tp4.up fun b xs z => nl _ _ (a1 _ _ z))
    · rintro σ H3 ⟨zs, v4', rfl, s4, e4, em4, tp4⟩
      refine ⟨zs, _, _, rfl, s4, e4, em4, ?_⟩
      rw [placesL_succ]
      rw [Int.toNat_natCast] at tp4
      exact tp4
  · rintro σ H2 ⟨ys, v3, v4, rfl, s3, e3, em, tp⟩
    rw [Int.toNat_natCast] at tp
    exact ⟨_, rfl, q mm ys H2 s3 hmm0 em tp⟩
theorem scNumber : FnScope ["floor", "place"] ["floor", "place"] (defScope sNumber) := ⟨rfl, rfl, rfl, by decide +kernel, rfl, by decide +kernel, by decide +kernel⟩
theorem ok_number (F : Fun K "number_at" "number_at" sNumber f fd) : FnOk P w K mg base CX0 1 f fd ["floor", "place"] spNumber := by
  refine F.ok scNumber (fun vs H Q E h => ?_) (fun cdv A outer s H vs Q E hr h => ?_)
  · obtain ⟨v, p, rs, c, i, j, rfl, _⟩ := h; rfl
  obtain ⟨v, p, rs, c, i, j, rfl, ⟨fb, ys, rfl, ef, t⟩, ev, ⟨pb, rfl, ep⟩, hi, hj, q⟩ := h
  refine ⟨_, pss_one (ps_ret (pe_ix ix_tup (pe_ix ix_tup (pv 0) (pe_ix ix_tup (pv 1) pe_int (fun _ _ => rfl)) (fun _ _ => rfl)) (pe_ix ix_tup (pv 1) pe_int (fun _ _ => rfl)) (fun _ _ => rfl))), ?_⟩
  obtain ⟨rb, h1, h2⟩ := t.at (i := i) (r := rs[i]) (List.getElem?_eq_getElem hi)
  have hlr : j < rs[i].length := by rw [ev.row _ (List.getElem_mem hi)]; exact hj
  have a1 : atI ys (0 + (i : Int)) = some (.ref rb) := by rw [Int.zero_add]; exact atI_nat h1
  have a2 : atI rs[i] (0 + (j : Int)) = some rs[i][j] := by rw [Int.zero_add]; exact atI_nat (List.getElem?_eq_getElem hlr)
  have ec : cellV rs i j = rs[i][j] := by
    unfold cellV
    simp [List.getD, hi, hlr]
  rw [ec] at q
  exact ⟨_, rfl, _, rfl, pb, _, 0, _, rfl, rfl, SqT.of ep, rfl, fb, ys, _, .ref rb, rfl, rfl, SqT.of ef, a1, _, rfl, pb, _, 1, _, rfl, rfl, SqT.of ep, rfl, rb, rs[i], _, _, rfl, rfl, SqT.of h2, a2, q⟩
end
end K3

set_option Elab.async false
set_option linter.all false
set_option maxRecDepth 100000
set_option maxHeartbeats 600000
namespace K3
open PySem L2
/-- [g(x) for x in xs if p(x)], xs a list that stays -/
theorem comp_flt {K : PySem.W.Frag} {H1 : Hp} {a : Addr} {xs : List V} {Q : VK} {tt : TT} {te : TE} {cs : List (Option V)} (p : Nat → Bool) (g : Nat → V) (hT : SqL K H1 a xs) (hz : xs.length ≤ sizeLine)
    (test : ∀ i x H' (R : Bool → Hp → Prop), xs[i]? = some x → Same H1 H' → (∀ H3, Same H1 H3 → R (p i) H3) → tt (some x :: cs) H' R)
    (step : ∀ i x H' (R : VK), xs[i]? = some x → Same H1 H' → (∀ H3, Same H1 H3 → R (g i) H3) → te (some x :: cs) H' R) (fin : ∀ q H', Same H1 H' → H' q = none → Q (.ref q) (upd H' q (.lst (((List.range xs.length).filter p).map g)))) :
    ∃ W : Nat → Nat → List V → Hp → Prop, (∃ m, W 0 m [] H1) ∧ ∀ i m ys H, W i m ys H → ys.length ≤ sizeLine ∧ (((Itl K a).stop i H ∧ ∀ p, H p = none → Q (.ref p) (upd H p (.lst ys))) ∨
      ((Itl K a).go i H ∧ ∀ x H', (Itl K a).yld i H x H' → tt (some x :: cs) H' fun ok H2 => if ok = true then te (some x :: cs) H2 fun y H3 => ∃ m', m' < m ∧ W (i + 1) m' (ys ++ [y]) H3 else ∃ m', m' < m ∧ W (i + 1) m' ys H2)) := by
  refine ⟨fun i m ys H => m = xs.length - i ∧ i ≤ xs.length ∧ ys = ((List.range i).filter p).map g ∧ Same H1 H, ⟨xs.length, by simp, Nat.zero_le _, rfl, Same.refl _⟩, ?_⟩
  rintro i m ys H ⟨rfl, hi, rfl, hs⟩
  have hl : (((List.range i).filter p).map g).length ≤ i := by
    rw [List.length_map]
    have := List.length_filter_le p (List.range i)
    rw [List.length_range] at this
    exact this
  refine ⟨by omega, ?_⟩
  by_cases hlt : i < xs.length
  · refine .inr ⟨⟨xs, xs[i], hs.seq hT, List.getElem?_eq_getElem hlt⟩, fun x H' y => ?_⟩
    obtain ⟨rfl, hy⟩ := y
    have hx := hy xs (hs.seq hT)
    refine test i x _ _ hx hs fun H3 s3 => ?_
    cases hp : p i with
    | true =>
      refine iteT (step i x H3 _ hx s3 fun H4 s4 => ⟨xs.length - (i + 1), by omega, rfl, hlt, ?_, s4⟩)
      rw [List.range_succ, List.filter_append, List.map_append, List.filter_cons, hp]; rfl
    | false =>
      refine iteF ⟨xs.length - (i + 1), by omega, rfl, hlt, ?_, s3⟩
      rw [List.range_succ, List.filter_append, List.filter_cons, hp]
      simp
  · have e : i = xs.length := by omega
    subst e
    exact .inl ⟨⟨xs, hs.seq hT, Nat.le_refl _⟩, fun q hq => fin q H hs hq⟩
def spHasP : Sp := fun vs H Q _ => ∃ (v p : V) (rs : List (List V)) (c : Nat) (i j : Int), vs = [v, p] ∧ Flr H v rs ∧ Even c rs ∧ Plc H p i j ∧ ∀ H', Same H H' → Q (.bl (decide (0 ≤ i ∧ i < (rs.length : Int) ∧ 0 ≤ j ∧ j < (c : Int)))) H'
section
variable {P : Program} {w : World} {K : PySem.W.Frag} {mg : Str → Option Value} {base : Heap} {f : Addr} {fd : FuncData}
theorem scHasP : FnScope ["floor", "place", "size"] ["floor", "place"] (defScope sHasP) := ⟨rfl, rfl, rfl, by decide +kernel, rfl, by decide +kernel, by decide +kernel⟩
theorem ok_hasP {g h z : Addr} {gd hd zd : FuncData} (F : Fun K "has_place" "has_place" sHasP f fd) (GT : FnOk P w K mg base CX0 1 g gd ["thing", "least", "most"] spTup) (bT : Binds K gd ["thing", "least", "most"] []) (kT : PySem.W.keepIn K (.ref g) = true) (mT : mg "is_tuple_of" = some (.ref g))
    (GW : FnOk P w K mg base CX0 1 h hd ["thing"] (sp1 isWhole)) (bW : Binds K hd ["thing"] []) (kW : PySem.W.keepIn K (.ref h) = true) (mW : mg "is_whole" = some (.ref h))
    (GZ : FnOk P w K mg base CX0 1 z zd ["floor"] spSize) (bZ : Binds K zd ["floor"] []) (kZ : PySem.W.keepIn K (.ref z) = true) (mZ : mg "size_of" = some (.ref z)) : FnOk P w K mg base CX0 2 f fd ["floor", "place"] spHasP := by
  refine F.ok scHasP (fun vs H Q E h => ?_) (fun cdv A outer s H vs Q E hr h => ?_)
  · obtain ⟨v, p, rs, c, i, j, rfl, _⟩ := h; rfl
  obtain ⟨v, p, rs, c, i, j, rfl, hF, ev, ⟨pb, rfl, ep⟩, q⟩ := h
  refine' ⟨_, ?b, ?fin⟩
  case b =>
    refine' pss_cons ?s1 ?r1
    case s1 =>
      exact ps_if (PW.pt (pw_or (pt_not (pt_val (pe_call GT hr rfl mT kT bT .nil pass0 (pa_cons (pv 1) (pa_cons pe_int (pa_cons pe_int pa_nil)))))) (pw_or (pt_not (pt_val (pe_call GW hr rfl mW kW bW .nil pass0 (pa_cons (pe_ix ix_tup (pv 1) pe_int (fun _ _ => rfl)) pa_nil)))) (pw_or1 (pt_not (pt_val (pe_call GW hr rfl mW kW bW .nil pass0 (pa_cons (pe_ix ix_tup (pv 1) pe_int (fun _ _ => rfl)) pa_nil)))))))) (pss_one (ps_ret pe_bl)) pss_nil
    case r1 =>
      refine' pss_cons ?s2 ?r2
      case s2 => exact ps_set (i := 2) scHasP.nd rfl (Or.inl rfl) (pe_call GZ hr rfl mZ kZ bZ .nil pass0 (pa_cons (pv 0) pa_nil))
      case r2 =>
        refine' pss_one ?s3
        case s3 => exact ps_ret (pe_and (pe_chain op_le op_lt pe_int (pe_ix ix_tup (pv 1) pe_int (fun _ _ => rfl)) (pe_ix ix_tup (pv 2) pe_int (fun _ _ => rfl))) (pe_one (pe_chain op_le op_lt pe_int (pe_ix ix_tup (pv 1) pe_int (fun _ _ => rfl)) (pe_ix ix_tup (pv 2) pe_int (fun _ _ => rfl)))))
  case fin =>
    have rp : Rep H (.ref pb) (.tup [.int i, .int j]) := .tup ep (.cons (.int i) (.cons (.int j) .nil))
    refine ⟨_, rfl, .ref pb, _, 2, 2, rfl, rp, fun H1 s1 => ⟨_, rfl, ?_⟩⟩
    refine iteF ?_
    refine ⟨_, rfl, pb, _, 0, _, rfl, rfl, SqT.of (s1 _ _ ep), rfl, .int i, .int i, rfl, .int i, fun H2 s2 => ⟨_, rfl, ?_⟩⟩
    refine iteF ?_
    have s12 := s1.trans s2
    refine ⟨_, rfl, pb, _, 1, _, rfl, rfl, SqT.of (s12 _ _ ep), rfl, .int j, .int j, rfl, .int j, fun H3 s3 => ⟨_, rfl, ?_⟩⟩
    refine iteF ?_
    have s13 := s12.trans s3
    refine ⟨_, rfl, v, rs, c, rfl, hF.up s13, ev, fun sb H4 s4 es => ?_⟩
    have s14 := s13.trans s4
    have sq : SqT K H4 pb [.int i, .int j] := SqT.of (s14 _ _ ep)
    have ss : SqT K H4 sb [.int (rs.length : Int), .int (c : Int)] := SqT.of es
    have q0 := q H4 s14
    have fls : ∀ {b : Prop} [Decidable b], ¬ b → decide b = false := fun h => decide_eq_false h
    refine ⟨_, rfl, pb, _, 0, _, rfl, rfl, sq, rfl, _, _, rfl, rfl, _, rfl, ite2 (fun c1 => ?_) (fun c1 => ?_)⟩
    · have d1 : 0 ≤ i := of_decide_eq_true c1
      refine ⟨_, rfl, sb, _, 0, _, rfl, rfl, ss, rfl, _, _, rfl, rfl, _, rfl, ite2 (fun c2 => ?_) (fun c2 => ?_)⟩
      · have d2 : i < (rs.length : Int) := of_decide_eq_true c2
        refine ⟨_, rfl, pb, _, 1, _, rfl, rfl, sq, rfl, _, _, rfl, rfl, _, rfl, ite2 (fun c3 => ?_) (fun c3 => ?_)⟩
        · have d3 : 0 ≤ j := of_decide_eq_true c3
          refine ⟨_, rfl, sb, _, 1, _, rfl, rfl, ss, rfl, _, _, rfl, rfl, ?_⟩
          have e : decide (0 ≤ i ∧ i < (rs.length : Int) ∧ 0 ≤ j ∧ j < (c : Int)) = decide (j < (c : Int)) := by
            rw [Bool.eq_iff_iff, decide_eq_true_iff, decide_eq_true_iff]
            exact ⟨fun z => z.2.2.2, fun z => ⟨d1, d2, d3, z⟩⟩
          rw [e] at q0; exact q0
        · rw [fls (fun z => c3 (decide_eq_true z.2.2.1))] at q0; exact q0
      · rw [fls (fun z => c2 (decide_eq_true z.2.1))] at q0
        exact q0
    · rw [fls (fun z => c1 (decide_eq_true z.1))] at q0
      exact ⟨_, rfl, iteF q0⟩
end
end K3

set_option Elab.async false
set_option linter.all false
set_option maxRecDepth 100000
set_option maxHeartbeats 600000
namespace K3
open PySem L2
theorem tups_reps {H : Hp} : ∀ {ys : List V} {rs : List (List V)}, TupsAt H ys rs → (∀ r ∈ rs, ∀ x ∈ r, Num x) → Reps H ys (rs.map rowDn)
  | _, _, .nil, _ => .nil
  | _, _, .cons ⟨b, e, hb⟩ t, h => by
    subst e
    exact .cons (.tup hb (nums_reps (h _ List.mem_cons_self)).1) (tups_reps t fun x hx => h x (List.mem_cons_of_mem _ hx))
theorem flr_rep {H : Hp} {v : V} {rs : List (List V)} (h : Flr H v rs) (n : ∀ r ∈ rs, ∀ x ∈ r, Num x) : Rep H v (.tup (rs.map rowDn)) := by
  obtain ⟨b, ys, rfl, e, t⟩ := h
  exact .tup e (tups_reps t n)
theorem rows_fit9 {rs : List (List V)} (n : ∀ r ∈ rs, ∀ x ∈ r, Num x) : (D.tup (rs.map rowDn)).fit 9 = true ∧ (D.lst (rs.map rowDn)).fit 9 = true := by
  have := D.fits_mono (m := 8) (by decide) (rows_fit n)
  exact ⟨this, this⟩
theorem places_num {r c : Nat} : ∀ x ∈ placesL r c, ∀ y ∈ x, Num y := by
  intro x hx y hy
  unfold placesL at hx
  obtain ⟨i, _, hi⟩ := List.mem_flatMap.mp hx
  obtain ⟨j, _, rfl⟩ := List.mem_map.mp hi
  simp at hy
  rcases hy with rfl | rfl
  · exact .inr ⟨_, rfl⟩
  · exact .inr ⟨_, rfl⟩
theorem TupsAt.append {H : Hp} : ∀ {ys zs : List V} {rs ts : List (List V)}, TupsAt H ys rs → TupsAt H zs ts → TupsAt H (ys ++ zs) (rs ++ ts)
  | _, _, _, _, .nil, t => t
  | _, _, _, _, .cons h l, t => .cons h (TupsAt.append l t)
theorem take_snoc {α : Type} {xs : List α} {i : Nat} {x : α} (h : xs[i]? = some x) : xs.take (i + 1) = xs.take i ++ [x] := by
  rw [List.take_add_one, h]; rfl
theorem cell_at2 {H : Hp} {v : V} {pb : Addr} {rs : List (List V)} {c i j : Nat} (hF : Flr H v rs) (ev : Even c rs) (hp : H pb = some (.tup [.int (i : Int), .int (j : Int)])) (hi : i < rs.length) (hj : j < c) :
    ∃ fb ys rb, v = .ref fb ∧ H fb = some (.tup ys) ∧ TupsAt H ys rs ∧ atI ys (i : Int) = some (.ref rb) ∧ H rb = some (.tup rs[i]) ∧ atI rs[i] (j : Int) = some (cellV rs i j) := by
  obtain ⟨fb, ys, rfl, ef, t⟩ := hF
  obtain ⟨rb, h1, h2⟩ := t.at (i := i) (r := rs[i]) (List.getElem?_eq_getElem hi)
  have hlr : j < rs[i].length := by rw [ev.row _ (List.getElem_mem hi)]; exact hj
  have ec : cellV rs i j = rs[i][j] := by
    unfold cellV
    simp [List.getD, hi, hlr]
  refine ⟨fb, ys, rb, rfl, ef, t, atI_nat h1, h2, ?_⟩
  rw [ec]; exact atI_nat (List.getElem?_eq_getElem hlr)
theorem at_mem {xs : List V} {i : Int} (h0 : 0 ≤ i) (h : i < (xs.length : Int)) : ∃ v, atI xs i = some v ∧ v ∈ xs := by
  have hk : i.toNat < xs.length := by omega
  have q : atI xs ((i.toNat : Nat) : Int) = some xs[i.toNat] := atI_nat (List.getElem?_eq_getElem hk)
  have ek : ((i.toNat : Nat) : Int) = i := by omega
  rw [ek] at q
  exact ⟨_, q, List.getElem_mem hk⟩
theorem ix_nat {n j : Nat} (h : j < n) : ixN n (j : Int) = some j := by
  unfold ixN
  rw [if_pos (by omega), if_pos (by omega), Int.toNat_natCast]
theorem cell_num {rs : List (List V)} (num : ∀ r ∈ rs, ∀ x ∈ r, Num x) {i j : Nat} : Num (cellV rs i j) := by
  unfold cellV
  rw [List.getD_eq_getElem?_getD, List.getD_eq_getElem?_getD]
  cases h : rs[i]? with
  | none => exact .inl rfl
  | some r =>
    cases h2 : r[j]? with
    | none => simp [h2]; exact .inl rfl
    | some x => simp [h2]; exact num r (List.mem_of_getElem? h) x (List.mem_of_getElem? h2)
theorem placesL_get {r c : Nat} : ∀ {r : Nat} {k : Nat}, k < r * c → (placesL r c)[k]? = some [V.int (0 + ((k / c : Nat) : Int)), V.int (0 + ((k % c : Nat) : Int))]
  | 0, k, h => by rw [Nat.zero_mul] at h; omega
  | r + 1, k, h => by
    have hc : 0 < c := by
      cases c with
      | zero => simp at h
      | succ c => exact Nat.succ_pos _
    rw [placesL_succ]
    have hl := placesL_len c r
    by_cases hk : k < r * c
    · rw [List.getElem?_append_left (by omega)]
      exact placesL_get (r := r) (c := c) hk
    · rw [List.getElem?_append_right (by omega), hl]
      have hkc : k - r * c < c := by rw [Nat.succ_mul] at h; omega
      rw [List.getElem?_map, List.getElem?_range hkc]
      have e1 : k / c = r := by
        have : k = (k - r * c) + c * r := by rw [Nat.mul_comm c r]; omega
        rw [this, Nat.add_mul_div_left _ _ hc, Nat.div_eq_of_lt hkc, Nat.zero_add]
      have e2 : k % c = k - r * c := by
        have : k = (k - r * c) + c * r := by rw [Nat.mul_comm c r]; omega
        rw [this, Nat.add_mul_mod_self_left, Nat.mod_eq_of_lt hkc]
        omega
      rw [e1, e2]; rfl
theorem placesL_eq (r c : Nat) : placesL r c = (List.range (r * c)).map fun (k : Nat) => [V.int (0 + ((k / c : Nat) : Int)), V.int (0 + ((k % c : Nat) : Int))] := by
  apply List.ext_getElem?
  intro k
  by_cases hk : k < r * c
  · rw [placesL_get (r := r) hk, List.getElem?_map, List.getElem?_range hk]; rfl
  · rw [List.getElem?_eq_none (by rw [placesL_len]; omega), List.getElem?_eq_none (by rw [List.length_map, List.length_range]; omega)]
abbrev inside (rs : List (List V)) (c : Nat) (i j : Int) : Prop := 0 ≤ i ∧ i < (rs.length : Int) ∧ 0 ≤ j ∧ j < (c : Int)
/-! ### colours -/
def colK (keys : List (List Int)) (k : Int) (s : Nat) : Int := (keys.getD k.toNat []).getD s 0
def cellO (n : Nat) (x : V) : Option Int := match x with | .int k => if 0 ≤ k ∧ k < (n : Int) then some k else none | _ => none
def edgeO (keys : List (List Int)) (rs : List (List V)) (c : Nat) (i j : Int) (s : Nat) : Option Int := if inside rs c i j then (cellO keys.length (cellV rs i.toNat j.toNat)).map fun k => colK keys k s else none
def optV : Option Int → V | none => .non | some x => .int x
def Nums (rs : List (List V)) : Prop := ∀ r ∈ rs, ∀ x ∈ r, Num x
structure Tls (H : Hp) (t : V) (keys : List (List Int)) : Prop where
  rep : Rep H t (.tup (keys.map tileD))
  four : ∀ k ∈ keys, k.length = 4
theorem Tls.up {H H' : Hp} (s : Same H H') {t : V} {keys : List (List Int)} (h : Tls H t keys) : Tls H' t keys := ⟨h.rep.up s, h.four⟩
theorem reps_int {H : Hp} : ∀ {xs : List V} {k : List Int}, Reps H xs (k.map D.int) → xs = k.map V.int
  | [], [], _ => rfl
  | [], _ :: _, h => by cases h
  | _ :: _, [], h => by cases h
  | x :: xs, i :: k, h => by
    cases h with
    | cons h1 h2 =>
      cases h1
      rw [reps_int h2]; rfl
/-- tiles[k][s] -/
theorem Tls.at {H : Hp} {t : V} {keys : List (List Int)} (h : Tls H t keys) {k : Int} (h0 : 0 ≤ k) (h1 : k < (keys.length : Int)) {s : Nat} (hs : s < 4) :
    ∃ ta txs kb xs, t = .ref ta ∧ H ta = some (.tup txs) ∧ txs.length = keys.length ∧ atI txs k = some (.ref kb) ∧ H kb = some (.tup xs) ∧ atI xs (s : Int) = some (.int (colK keys k s)) := by
  obtain ⟨r, f⟩ := h
  cases r with
  | @tup ta txs _ e rs =>
    have hk : k.toNat < keys.length := by omega
    obtain ⟨v, hv, rv⟩ := rs.at (i := k.toNat) (d := tileD keys[k.toNat]) (by rw [List.getElem?_map, List.getElem?_eq_getElem hk]; rfl)
    cases rv with
    | @tup kb xs _ e2 rs2 =>
      have ex := reps_int rs2
      have h4 := f _ (List.getElem_mem hk)
      have ek : ((k.toNat : Nat) : Int) = k := by omega
      have hat : atI txs k = some (.ref kb) := by have := atI_nat hv; rw [ek] at this; exact this
      refine ⟨ta, txs, kb, xs, rfl, e, by rw [rs.length, List.length_map], hat, e2, atI_nat ?_⟩
      rw [ex, List.getElem?_map, List.getElem?_eq_getElem (by omega)]
      unfold colK
      simp [List.getD, hk, h4, hs]
theorem has_cell {n : Nat} {x : V} (h : Num x) : hasNum n (flatD' x) = (cellO n x).isSome := by
  rcases h with rfl | ⟨i, rfl⟩
  · rfl
  · unfold cellO
    simp only [flatD', hasNum]
    by_cases hc : 0 ≤ i ∧ i < (n : Int)
    · rw [if_pos hc, decide_eq_true hc.1, decide_eq_true hc.2]; rfl
    · rw [if_neg hc]
      show (decide (0 ≤ i) && decide (i < (n : Int))) = false
      rw [Bool.eq_false_iff]
      intro z
      simp only [Bool.and_eq_true, decide_eq_true_eq] at z
      exact hc z
def spEdge : Sp := fun vs H Q _ => ∃ (t v p : V) (keys : List (List Int)) (rs : List (List V)) (c : Nat) (i j : Int) (s : Nat), vs = [t, v, p, .int (s : Int)] ∧ Tls H t keys ∧ Flr H v rs ∧ Even c rs ∧ Nums rs ∧ Plc H p i j ∧ s < 4 ∧ ∀ H', Same H H' → Q (optV (edgeO keys rs c i j s)) H'
def clashO : Option Int → Option Int → Bool | some a, some b => decide (a ≠ b) | _, _ => false
def spClash : Sp := fun vs H Q _ => ∃ a b : Option Int, vs = [optV a, optV b] ∧ Q (.bl (clashO a b)) H
section
variable {P : Program} {w : World} {K : PySem.W.Frag} {mg : Str → Option Value} {base : Heap} {f : Addr} {fd : FuncData}
structure Calls (P : Program) (w : World) (K : PySem.W.Frag) (mg : Str → Option Value) (base : Heap) (x : Str) (ps : List Str) (k : Nat) (sp : Sp) (g : Addr) (gd : FuncData) : Prop where
  ok : FnOk P w K mg base CX0 k g gd ps sp
  b : Binds K gd ps []
  kp : PySem.W.keepIn K (.ref g) = true
  m : mg x = some (.ref g)
theorem scEdge : FnScope ["tiles", "floor", "place", "side"] ["tiles", "floor", "place", "side"] (defScope sEdge) := ⟨rfl, rfl, rfl, by decide +kernel, rfl, by decide +kernel, by decide +kernel⟩
theorem ok_edge {g1 g2 g3 : Addr} {d1 d2 d3 : FuncData} (F : Fun K "edge_at" "edge_at" sEdge f fd) (CP : Calls P w K mg base "has_place" ["floor", "place"] 2 spHasP g1 d1) (CN : Calls P w K mg base "number_at" ["floor", "place"] 2 spNumber g2 d2) (CH : Calls P w K mg base "has_number" ["tiles", "thing"] 2 (sp2 hasNum) g3 d3) :
    FnOk P w K mg base CX0 3 f fd ["tiles", "floor", "place", "side"] spEdge := by
  refine F.ok scEdge (fun vs H Q E h => ?_) (fun cdv A outer s H vs Q E hr h => ?_)
  · obtain ⟨t, v, p, keys, rs, c, i, j, s, rfl, _⟩ := h; rfl
  obtain ⟨t, v, p, keys, rs, c, i, j, sd, rfl, ht, hF, ev, num, hp, hs4, q⟩ := h
  refine' ⟨_, ?b, ?fin⟩
  case b =>
    refine' pss_cons ?s1 ?r1
    case s1 => exact ps_if (PW.pt (pw_or (pt_not (pt_val (pe_call CP.ok hr rfl CP.m CP.kp CP.b .nil pass0 (pa_cons (pv 1) (pa_cons (pv 2) pa_nil))))) (pw_or1 (pt_not (pt_val (pe_call CH.ok hr rfl CH.m CH.kp CH.b .nil pass0 (pa_cons (pv 0) (pa_cons (pe_call CN.ok hr rfl CN.m CN.kp CN.b .nil pass0 (pa_cons (pv 1) (pa_cons (pv 2) pa_nil))) pa_nil)))))))) (pss_one (ps_ret pe_non)) pss_nil
    case r1 =>
      refine' pss_one ?s2
      case s2 => exact ps_ret (pe_ix ix_tup (pe_ix ix_tup (pv 0) (pe_call CN.ok hr rfl CN.m CN.kp CN.b .nil pass0 (pa_cons (pv 1) (pa_cons (pv 2) pa_nil))) (fun _ _ => rfl)) (pv 3) (fun _ _ => rfl))
  case fin =>
    refine ⟨_, rfl, _, rfl, v, p, rs, c, i, j, rfl, hF, ev, hp, fun H1 s1 => ⟨_, rfl, ?_⟩⟩
    by_cases hin : inside rs c i j
    · rw [decide_eq_true hin]
      refine iteF ?_
      obtain ⟨h1, h2, h3, h4⟩ := id hin
      have e1 : 0 + ((i.toNat : Nat) : Int) = i := by omega
      have e2 : 0 + ((j.toNat : Nat) : Int) = j := by omega
      have hp' : ∀ {G}, Same H1 G → Plc G p (0 + ((i.toNat : Nat) : Int)) (0 + ((j.toNat : Nat) : Int)) := fun {G} z => by rw [e1, e2]; exact (hp.up s1).up z
      have hi : i.toNat < rs.length := by omega
      have hj : j.toNat < c := by omega
      have cn : Num (cellV rs i.toNat j.toNat) := cell_num num
      refine ⟨_, rfl, _, rfl, _, rfl, v, p, rs, c, i.toNat, j.toNat, rfl, hF.up s1, ev, hp' (Same.refl _), hi, hj, t, _, _, _, rfl, (ht.up s1).rep, (num_rep cn).1, fun H2 s2 => ⟨_, rfl, ?_⟩⟩
      rw [List.length_map, has_cell cn]
      have q2 := q H2 (s1.trans s2)
      unfold edgeO at q2
      rw [if_pos hin] at q2
      cases hc : cellO keys.length (cellV rs i.toNat j.toNat) with
      | none =>
        rw [hc] at q2
        exact iteT q2
      | some k =>
        rw [hc] at q2
        refine iteF ?_
        have hk : cellV rs i.toNat j.toNat = .int k ∧ 0 ≤ k ∧ k < (keys.length : Int) := by
          unfold cellO at hc
          split at hc
          · rename_i k' he
            split at hc
            · rename_i hb
              cases hc
              exact ⟨he, hb⟩
            · cases hc
          · cases hc
        obtain ⟨ta, txs, kb, xs, rfl, et, _, a1, ek, a2⟩ := ((ht.up s1).up s2).at hk.2.1 hk.2.2 hs4
        refine ⟨_, rfl, _, rfl, _, rfl, v, p, rs, c, i.toNat, j.toNat, rfl, (hF.up s1).up s2, ev, hp' s2, hi, hj, ?_⟩
        exact ⟨ta, txs, k, .ref kb, rfl, hk.1, SqT.of et, a1, _, rfl, kb, xs, _, _, rfl, rfl, SqT.of ek, a2, q2⟩
    · rw [decide_eq_false hin]
      refine iteT (iteT ?_)
      have q1 := q H1 s1
      unfold edgeO at q1
      rw [if_neg hin] at q1
      exact q1
theorem scClash : FnScope ["one", "other"] ["one", "other"] (defScope sClash) := ⟨rfl, rfl, rfl, by decide +kernel, rfl, by decide +kernel, by decide +kernel⟩
theorem ok_clash (F : Fun K "do_clash" "do_clash" sClash f fd) : FnOk P w K mg base CX0 1 f fd ["one", "other"] spClash := by
  refine F.ok scClash (fun vs H Q E h => ?_) (fun cdv A outer s H vs Q E hr h => ?_)
  · obtain ⟨a, b, rfl, _⟩ := h; rfl
  obtain ⟨a, b, rfl, q⟩ := h
  refine ⟨_, pss_one (ps_ret (pe_and (pe_cmpR op_notN (pv 0) pe_non (nomark _)) (pe_and (pe_cmpR op_notN (pv 1) pe_non (nomark _)) (pe_one (pe_cmpR op_ne (pv 0) (pv 1) (nomark _)))))), ?_⟩
  cases a with
  | none => exact ⟨_, rfl, rfl, _, rfl, iteF q⟩
  | some x =>
    refine ⟨_, rfl, rfl, _, rfl, iteT ?_⟩
    cases b with
    | none => exact ⟨_, rfl, rfl, _, rfl, iteF q⟩
    | some y =>
      refine ⟨_, rfl, rfl, _, rfl, iteT ?_⟩
      refine ⟨_, rfl, _, rfl, rfl, ?_⟩
      have e : (!decide (V.int x = V.int y)) = clashO (some x) (some y) := by
        show _ = decide (x ≠ y)
        by_cases h : x = y
        · subst h; simp
        · have : V.int x ≠ V.int y := fun z => h (by injection z)
          simp [h, this]
      rw [← e] at q
      exact q
end
end K3

set_option Elab.async false
set_option linter.all false
set_option maxRecDepth 100000
set_option maxHeartbeats 600000
namespace L2
open PySem PySem.Spec PyProof.Rows
mutual
/-- no lists in it -/
def D.nl : D → Bool
  | .tup l => D.nls l
  | .lst _ => false
  | _ => true
def D.nls : List D → Bool
  | [] => true
  | d :: l => d.nl && D.nls l
end
theorem D.nls_append : ∀ {l m : List D}, D.nls (l ++ m) = (D.nls l && D.nls m)
  | [], m => by simp [D.nls]
  | d :: l, m => by simp [D.nls, D.nls_append (l := l), Bool.and_assoc]
mutual
theorem Rep.upT {H H' : Hp} (s : ∀ b xs, H b = some (.tup xs) → H' b = some (.tup xs)) : ∀ {v : V} {d : D}, d.nl = true → Rep H v d → Rep H' v d
  | _, _, _, .non => .non
  | _, _, _, .bl b => .bl b
  | _, _, _, .int i => .int i
  | _, _, _, .str x => .str x
  | _, _, n, .tup e r => .tup (s _ _ e) (Reps.upT s (by simpa [D.nl] using n) r)
  | _, _, n, .lst e r => by simp [D.nl] at n
theorem Reps.upT {H H' : Hp} (s : ∀ b xs, H b = some (.tup xs) → H' b = some (.tup xs)) : ∀ {vs : List V} {ds : List D}, D.nls ds = true → Reps H vs ds → Reps H' vs ds
  | _, _, _, .nil => .nil
  | _, _, n, .cons h t => by
    simp only [D.nls, Bool.and_eq_true] at n
    exact .cons (Rep.upT s n.1 h) (Reps.upT s n.2 t)
end
end L2
namespace K3
open PySem L2
def cls (keys : List (List Int)) (rs : List (List V)) (c : Nat) (i j di dj : Int) (s1 s2 : Nat) : Bool := clashO (edgeO keys rs c i j s1) (edgeO keys rs c (i + di) (j + dj) s2)
def entry (i j : Int) (x : Str) : D := .tup [.tup [.int i, .int j], .str x]
def clashAt (keys : List (List Int)) (rs : List (List V)) (c : Nat) (i j : Int) : List D :=
  (if cls keys rs c i j 0 1 1 3 then [entry i j "east"] else []) ++ (if cls keys rs c i j 1 0 2 0 then [entry i j "south"] else [])
def clashN (keys : List (List Int)) (rs : List (List V)) (c : Nat) (n : Nat) : List D := (List.range n).flatMap fun (k : Nat) => clashAt keys rs c ((k / c : Nat) : Int) ((k % c : Nat) : Int)
theorem clashN_succ {keys : List (List Int)} {rs : List (List V)} {c n : Nat} : clashN keys rs c (n + 1) = clashN keys rs c n ++ clashAt keys rs c ((n / c : Nat) : Int) ((n % c : Nat) : Int) := by
  unfold clashN
  rw [List.range_succ, List.flatMap_append, List.flatMap_cons, List.flatMap_nil, List.append_nil]
def spCl (di dj : Int) (s1 s2 : Nat) : Sp := fun vs H Q _ => ∃ (t v p : V) (keys : List (List Int)) (rs : List (List V)) (c : Nat) (i j : Int), vs = [t, v, p] ∧ Tls H t keys ∧ Flr H v rs ∧ Even c rs ∧ Nums rs ∧ Plc H p i j ∧ ∀ H', Same H H' → Q (.bl (cls keys rs c i j di dj s1 s2)) H'
def spClashes : Sp := fun vs H Q _ => ∃ (t v : V) (keys : List (List Int)) (rs : List (List V)) (c : Nat), vs = [t, v] ∧ Tls H t keys ∧ Flr H v rs ∧ Even c rs ∧ Nums rs ∧ ∀ l H', Same H H' → Rep H' (.ref l) (.lst (clashN keys rs c (rs.length * c))) → Q (.ref l) H'
structure Sd (mg : Str → Option Value) : Prop where
  n : ∃ t, mg "NORTH" = some (.int 0 t)
  e : ∃ t, mg "EAST" = some (.int 1 t)
  s : ∃ t, mg "SOUTH" = some (.int 2 t)
  w : ∃ t, mg "WEST" = some (.int 3 t)
/-- the list that grows -/
structure Grow (H : Hp) (mm : Addr) (ds : List D) (Hx : Hp) : Prop where
  same : Same H Hx
  at_ : ∃ zs, Hx mm = some (.lst zs) ∧ Reps Hx zs ds
  nl : D.nls ds = true
theorem Grow.up {H : Hp} {mm : Addr} {ds : List D} {Hx Hy : Hp} (g : Grow H mm ds Hx) (s : Same Hx Hy) : Grow H mm ds Hy := by
  obtain ⟨a, ⟨zs, b, c⟩, d⟩ := g
  exact ⟨a.trans s, ⟨zs, s _ _ b, c.up s⟩, d⟩
theorem Grow.app {H : Hp} {mm : Addr} {ds : List D} {Hx : Hp} (g : Grow H mm ds Hx) (hmm : H mm = none) {zs : List V} (e : Hx mm = some (.lst zs)) {v : V} {d : D} (r : Rep Hx v d) (n : d.nl = true) : Grow H mm (ds ++ [d]) (upd Hx mm (.lst (zs ++ [v]))) ∧ ∀ b xs, Hx b = some (.tup xs) → (upd Hx mm (.lst (zs ++ [v]))) b = some (.tup xs) := by
  obtain ⟨a, ⟨zs', b, c⟩, k⟩ := g
  rw [e] at b; cases b
  have nt := not_lst_tup (o := .lst (zs ++ [v])) e
  refine ⟨⟨same_upd hmm a _, ⟨zs ++ [v], upd_same, (Reps.upT nt k c).append (.cons (Rep.upT nt n r) .nil)⟩, ?_⟩, nt⟩
  rw [D.nls_append, k]; simp [D.nls, n]
section
variable {P : Program} {w : World} {K : PySem.W.Frag} {mg : Str → Option Value} {base : Heap} {f : Addr} {fd : FuncData}
theorem scCE : FnScope ["tiles", "floor", "place", "beside"] ["tiles", "floor", "place"] (defScope sCE) := ⟨rfl, rfl, rfl, by decide +kernel, rfl, by decide +kernel, by decide +kernel⟩
theorem ok_ce {g1 g2 : Addr} {d1 d2 : FuncData} (F : Fun K "clashes_east" "clashes_east" sCE f fd) (S : Sd mg) (CE : Calls P w K mg base "edge_at" ["tiles", "floor", "place", "side"] 3 spEdge g1 d1) (CC : Calls P w K mg base "do_clash" ["one", "other"] 3 spClash g2 d2) :
    FnOk P w K mg base CX0 4 f fd ["tiles", "floor", "place"] (spCl 0 1 1 3) := by
  refine F.ok scCE (fun vs H Q E h => ?_) (fun cdv A outer s H vs Q E hr h => ?_)
  · obtain ⟨t, v, p, keys, rs, c, i, j, rfl, _⟩ := h; rfl
  obtain ⟨t, v, p, keys, rs, c, i, j, rfl, ht, hF, ev, num, ⟨pb, rfl, ep⟩, q⟩ := h
  obtain ⟨te, he⟩ := S.e
  obtain ⟨tw, hw⟩ := S.w
  refine' ⟨_, ?b, ?fin⟩
  case b =>
    refine' pss_cons ?s1 ?r1
    case s1 => exact ps_set (i := 3) scCE.nd rfl (Or.inl rfl) (pe_tup (pa_cons (pe_ix ix_tup (pv 2) pe_int (fun _ _ => rfl)) (pa_cons (pe_op op_add (pe_ix ix_tup (pv 2) pe_int (fun _ _ => rfl)) pe_int) pa_nil)))
    case r1 =>
      refine' pss_one ?s2
      case s2 => exact ps_ret (pe_call CC.ok hr rfl CC.m CC.kp CC.b .nil pass0 (pa_cons (pe_call CE.ok hr rfl CE.m CE.kp CE.b .nil pass0 (pa_cons (pv 0) (pa_cons (pv 1) (pa_cons (pv 2) (pa_cons (pe_glob (v := .int 1) rfl he ⟨_, rfl⟩) pa_nil))))) (pa_cons (pe_call CE.ok hr rfl CE.m CE.kp CE.b .nil pass0 (pa_cons (pv 0) (pa_cons (pv 1) (pa_cons (pv 3) (pa_cons (pe_glob (v := .int 3) rfl hw ⟨_, rfl⟩) pa_nil))))) pa_nil)))
  case fin =>
    refine ⟨_, rfl, pb, _, 0, _, rfl, rfl, SqT.of ep, rfl, _, rfl, pb, _, 1, _, rfl, rfl, SqT.of ep, rfl, _, _, rfl, rfl, small (show 2 ≤ 1000 by decide), fun bb hb => ?_⟩
    have s1 := same_new hb (.tup [.int i, .int (j + 1)])
    refine ⟨_, rfl, _, rfl, _, rfl, t, v, .ref pb, keys, rs, c, i, j, 1, rfl, ht.up s1, hF.up s1, ev, num, ⟨pb, rfl, s1 _ _ ep⟩, by decide, fun H2 s2 => ?_⟩
    refine ⟨_, rfl, _, rfl, _, rfl, t, v, .ref bb, keys, rs, c, i + 0, j + 1, 3, rfl, (ht.up s1).up s2, (hF.up s1).up s2, ev, num, ⟨bb, rfl, s2 _ _ (by rw [Int.add_zero]; exact upd_same)⟩, by decide, fun H3 s3 => ?_⟩
    exact ⟨_, _, rfl, q H3 (s1.trans (s2.trans s3))⟩
theorem scCS : FnScope ["tiles", "floor", "place", "below"] ["tiles", "floor", "place"] (defScope sCS) := ⟨rfl, rfl, rfl, by decide +kernel, rfl, by decide +kernel, by decide +kernel⟩
theorem ok_cs {g1 g2 : Addr} {d1 d2 : FuncData} (F : Fun K "clashes_south" "clashes_south" sCS f fd) (S : Sd mg) (CE : Calls P w K mg base "edge_at" ["tiles", "floor", "place", "side"] 3 spEdge g1 d1) (CC : Calls P w K mg base "do_clash" ["one", "other"] 3 spClash g2 d2) :
    FnOk P w K mg base CX0 4 f fd ["tiles", "floor", "place"] (spCl 1 0 2 0) := by
  refine F.ok scCS (fun vs H Q E h => ?_) (fun cdv A outer s H vs Q E hr h => ?_)
  · obtain ⟨t, v, p, keys, rs, c, i, j, rfl, _⟩ := h; rfl
  obtain ⟨t, v, p, keys, rs, c, i, j, rfl, ht, hF, ev, num, ⟨pb, rfl, ep⟩, q⟩ := h
  obtain ⟨te, he⟩ := S.s
  obtain ⟨tw, hw⟩ := S.n
  refine' ⟨_, ?b, ?fin⟩
  case b =>
    refine' pss_cons ?s1 ?r1
    case s1 => exact ps_set (i := 3) scCS.nd rfl (Or.inl rfl) (pe_tup (pa_cons (pe_op op_add (pe_ix ix_tup (pv 2) pe_int (fun _ _ => rfl)) pe_int) (pa_cons (pe_ix ix_tup (pv 2) pe_int (fun _ _ => rfl)) pa_nil)))
    case r1 =>
      refine' pss_one ?s2
      case s2 => exact ps_ret (pe_call CC.ok hr rfl CC.m CC.kp CC.b .nil pass0 (pa_cons (pe_call CE.ok hr rfl CE.m CE.kp CE.b .nil pass0 (pa_cons (pv 0) (pa_cons (pv 1) (pa_cons (pv 2) (pa_cons (pe_glob (v := .int 2) rfl he ⟨_, rfl⟩) pa_nil))))) (pa_cons (pe_call CE.ok hr rfl CE.m CE.kp CE.b .nil pass0 (pa_cons (pv 0) (pa_cons (pv 1) (pa_cons (pv 3) (pa_cons (pe_glob (v := .int 0) rfl hw ⟨_, rfl⟩) pa_nil))))) pa_nil)))
  case fin =>
    refine ⟨_, rfl, pb, _, 0, _, rfl, rfl, SqT.of ep, rfl, _, _, rfl, rfl, _, rfl, pb, _, 1, _, rfl, rfl, SqT.of ep, rfl, small (show 2 ≤ 1000 by decide), fun bb hb => ?_⟩
    have s1 := same_new hb (.tup [.int (i + 1), .int j])
    refine ⟨_, rfl, _, rfl, _, rfl, t, v, .ref pb, keys, rs, c, i, j, 2, rfl, ht.up s1, hF.up s1, ev, num, ⟨pb, rfl, s1 _ _ ep⟩, by decide, fun H2 s2 => ?_⟩
    refine ⟨_, rfl, _, rfl, _, rfl, t, v, .ref bb, keys, rs, c, i + 1, j + 0, 0, rfl, (ht.up s1).up s2, (hF.up s1).up s2, ev, num, ⟨bb, rfl, s2 _ _ (by rw [Int.add_zero]; exact upd_same)⟩, by decide, fun H3 s3 => ?_⟩
    exact ⟨_, _, rfl, q H3 (s1.trans (s2.trans s3))⟩
theorem scClashes : FnScope ["tiles", "floor", "found", "place"] ["tiles", "floor"] (defScope sClashes) := ⟨rfl, rfl, rfl, by decide +kernel, rfl, by decide +kernel, by decide +kernel⟩
theorem ok_clashes {g1 g2 g3 : Addr} {d1 d2 d3 : FuncData} (F : Fun K "clashes" "clashes" sClashes f fd) (CP : Calls P w K mg base "places_of" ["floor"] 4 spPlaces g1 d1) (CE : Calls P w K mg base "clashes_east" ["tiles", "floor", "place"] 4 (spCl 0 1 1 3) g2 d2) (CS : Calls P w K mg base "clashes_south" ["tiles", "floor", "place"] 4 (spCl 1 0 2 0) g3 d3) :
    FnOk P w K mg base CX0 5 f fd ["tiles", "floor"] spClashes := by
  refine F.ok scClashes (fun vs H Q E h => ?_) (fun cdv A outer s H vs Q E hr h => ?_)
  · obtain ⟨t, v, keys, rs, c, rfl, _⟩ := h; rfl
  obtain ⟨t, v, keys, rs, c, rfl, ht, hF, ev, num, q⟩ := h
  refine' ⟨_, ?b, ?fin⟩
  case b =>
    refine' pss_cons ?s1 ?r1
    case s1 => exact ps_set (i := 2) scClashes.nd rfl (Or.inl rfl) (pe_lst pa_nil)
    case r1 =>
      refine' pss_cons ?s2 ?r2
      case s2 =>
        refine' ps_for PassesOwn.never rfl (pi_list (pe_call CP.ok hr rfl CP.m CP.kp CP.b .nil pass0 (pa_cons (pv 1) pa_nil))) (pg_name (i := 3) scClashes.nd rfl (Or.inl rfl)) ?bd
        case bd =>
          refine' pss_cons ?b1 ?c1
          case b1 => exact ps_if (pt_val (pe_call CE.ok hr rfl CE.m CE.kp CE.b .nil pass0 (pa_cons (pv 0) (pa_cons (pv 1) (pa_cons (pv 3) pa_nil))))) (pss_one (ps_expr (pe_bm PySem.F.plainAttrs_list PySem.F.slot_list_append PySem.F.type_list_append mt_append (pv 2) (pa_cons (pe_tup (pa_cons (pv 3) (pa_cons pe_str pa_nil))) pa_nil)))) pss_nil
          case c1 =>
            refine' pss_one ?b2
            case b2 => exact ps_if (pt_val (pe_call CS.ok hr rfl CS.m CS.kp CS.b .nil pass0 (pa_cons (pv 0) (pa_cons (pv 1) (pa_cons (pv 3) pa_nil))))) (pss_one (ps_expr (pe_bm PySem.F.plainAttrs_list PySem.F.slot_list_append PySem.F.type_list_append mt_append (pv 2) (pa_cons (pe_tup (pa_cons (pv 3) (pa_cons pe_str pa_nil))) pa_nil)))) pss_nil
      case r2 =>
        refine' pss_one ?s3
        case s3 => exact ps_ret (pv 2)
  case fin =>
    refine ⟨small (show 0 ≤ 1000 by decide), fun mm hmm => ?_⟩
    have s1 := same_new hmm (.lst [])
    refine ⟨_, rfl, v, rs, c, rfl, hF.up s1, ev, fun pl ys H2 s2 hpl epl tpl => ⟨pl, rfl, ⟨_, SqL.of epl⟩, ?_⟩⟩
    have hlen : ys.length = rs.length * c := by rw [tpl.length, placesL_len]
    have hz : ys.length ≤ 10000 := by rw [hlen]; exact Nat.mul_le_mul ev.most ev.cols
    have npm : mm ≠ pl := fun z => by rw [← z, upd_same] at hpl; cases hpl
    have cnt : ∀ n, (clashN keys rs c n).length ≤ 2 * n := fun n => by
      induction n with
      | zero => exact Nat.le_refl _
      | succ n ih =>
        rw [clashN_succ, List.length_append]
        have : (clashAt keys rs c ((n / c : Nat) : Int) ((n % c : Nat) : Int)).length ≤ 2 := by
          unfold clashAt
          rw [List.length_append]
          split <;> split <;> simp
        omega
    refine for_list (xs := ys) (fun k σ Hx => ∃ v3 : Option V, σ = [some t, some v, some (.ref mm), v3] ∧ Grow H mm (clashN keys rs c k) Hx ∧ Hx pl = some (.lst ys) ∧ TupsAt Hx ys (placesL rs.length c))
      ⟨none, rfl, ⟨s1.trans s2, ⟨[], s2 _ _ upd_same, .nil⟩, rfl⟩, epl, tpl⟩ ?_ ?_ ?_
    · rintro k σ Hx _ ⟨v3, rfl, g, e, tp⟩; exact SqL.of e
    · rintro k x σ Hx hx ⟨v3, rfl, g, e, tp⟩
      have hk : k < rs.length * c := by rw [← hlen]; exact (List.getElem?_eq_some_iff.mp hx).1
      obtain ⟨pb, h1, h2⟩ := tp.at (placesL_get (r := rs.length) hk)
      rw [hx] at h1
      cases h1
      rw [Int.zero_add, Int.zero_add] at h2
      generalize hi : (((k / c : Nat) : Nat) : Int) = i at h2
      generalize hj : (((k % c : Nat) : Nat) : Int) = j at h2
      have line : ∀ ds : List D, ∀ zs : List V, ∀ G, Reps G zs ds → ds.length ≤ 30000 → zs.length < sizeLine := fun ds zs G r l => by
        rw [r.length]
        exact Nat.lt_of_le_of_lt l (by decide)
      have lk := cnt k
      have put : ∀ {ds : List D} {G : Hp} (x : Str) (tb : Addr), Grow H mm ds G → G pb = some (.tup [.int i, .int j]) → G pl = some (.lst ys) → TupsAt G ys (placesL rs.length c) → ds.length ≤ 30000 → G tb = none →
          ∃ zs, (upd G tb (.tup [.ref pb, .str x])) mm = some (.lst zs) ∧ zs.length < sizeLine ∧ Grow H mm (ds ++ [entry i j x]) (upd (upd G tb (.tup [.ref pb, .str x])) mm (.lst (zs ++ [.ref tb]))) ∧ (upd (upd G tb (.tup [.ref pb, .str x])) mm (.lst (zs ++ [.ref tb]))) pb = some (.tup [.int i, .int j]) ∧
            (upd (upd G tb (.tup [.ref pb, .str x])) mm (.lst (zs ++ [.ref tb]))) pl = some (.lst ys) ∧ TupsAt (upd (upd G tb (.tup [.ref pb, .str x])) mm (.lst (zs ++ [.ref tb]))) ys (placesL rs.length c) := fun {ds G} x tb g hp e tp l ht => by
        have st := same_new ht (.tup [.ref pb, .str x])
        have g2 := g.up st
        obtain ⟨zs, ez, rz⟩ := g2.at_
        obtain ⟨g3, nt⟩ := g2.app hmm ez (v := .ref tb) (d := entry i j x) (.tup upd_same (.cons (.tup (st _ _ hp) (.cons (.int _) (.cons (.int _) .nil))) (.cons (.str _) .nil))) rfl
        refine ⟨zs, ez, line _ _ _ rz l, g3, nt _ _ (st _ _ hp), ?_, tp.up fun b xs z => nt _ _ (st _ _ z)⟩
        rw [upd_ne (Ne.symm npm)]; exact st _ _ e
      have next : clashN keys rs c (k + 1) = clashN keys rs c k ++ clashAt keys rs c i j := by rw [clashN_succ, hi, hj]
      refine ⟨_, rfl, _, rfl, _, rfl, t, v, .ref pb, keys, rs, c, i, j, rfl, ht.up g.same, hF.up g.same, ev, num, ⟨pb, rfl, h2⟩, fun H3 s3 => ⟨_, rfl, ?_⟩⟩
      have g3 := g.up s3
      have tp3 : TupsAt H3 ys (placesL rs.length c) := tp.up fun b xs z => s3 _ _ z
      cases hE : cls keys rs c i j 0 1 1 3 with
      | false =>
        refine iteF ?_
        refine ⟨_, rfl, _, rfl, _, rfl, t, v, .ref pb, keys, rs, c, i, j, rfl, ht.up g3.same, hF.up g3.same, ev, num, ⟨pb, rfl, s3 _ _ h2⟩, fun H4 s4 => ⟨_, rfl, ?_⟩⟩
        have g4 := g3.up s4
        have tp4 : TupsAt H4 ys (placesL rs.length c) := tp3.up fun b xs z => s4 _ _ z
        cases hS : cls keys rs c i j 1 0 2 0 with
        | false =>
          refine iteF ⟨_, rfl, ?_, s4 _ _ (s3 _ _ e), tp4⟩
          rw [next]
          unfold clashAt
          rw [hE, hS]
          simpa using g4
        | true =>
          refine iteT ⟨_, rfl, .inl ⟨rfl, _, SqL.of g4.at_.choose_spec.1⟩, _, rfl, small (show 2 ≤ 1000 by decide), fun tb htb => ?_⟩
          obtain ⟨zs, ez, lz, a, b, c', d⟩ := put "south" tb g4 (s4 _ _ (s3 _ _ h2)) (s4 _ _ (s3 _ _ e)) tp4 (by omega) htb
          refine ⟨mm, zs, _, rfl, rfl, ez, lz, _, rfl, ?_, c', d⟩
          rw [next]
          unfold clashAt
          rw [hE, hS]
          simpa using a
      | true =>
        refine iteT ⟨_, rfl, .inl ⟨rfl, _, SqL.of g3.at_.choose_spec.1⟩, _, rfl, small (show 2 ≤ 1000 by decide), fun tb htb => ?_⟩
        obtain ⟨zs, ez, lz, a, b, c', d⟩ := put "east" tb g3 (s3 _ _ h2) (s3 _ _ e) tp3 (by omega) htb
        refine ⟨mm, zs, _, rfl, rfl, ez, lz, _, rfl, _, rfl, _, rfl, t, v, .ref pb, keys, rs, c, i, j, rfl, ht.up a.same, hF.up a.same, ev, num, ⟨pb, rfl, b⟩, fun H4 s4 => ⟨_, rfl, ?_⟩⟩
        have g4 := a.up s4
        have tp4 : TupsAt H4 ys (placesL rs.length c) := d.up fun b xs z => s4 _ _ z
        cases hS : cls keys rs c i j 1 0 2 0 with
        | false =>
          refine iteF ⟨_, rfl, ?_, s4 _ _ c', tp4⟩
          rw [next]
          unfold clashAt
          rw [hE, hS]
          simpa using g4
        | true =>
          refine iteT ⟨_, rfl, .inl ⟨rfl, _, SqL.of g4.at_.choose_spec.1⟩, _, rfl, small (show 2 ≤ 1000 by decide), fun tb2 ht2 => ?_⟩
          obtain ⟨zs2, ez2, lz2, a, b, c', d⟩ := put "south" tb2 g4 (s4 _ _ b) (s4 _ _ c') tp4 (by rw [List.length_append]; show _ + 1 ≤ _; omega) ht2
          refine ⟨mm, zs2, _, rfl, rfl, ez2, lz2, _, rfl, ?_, c', d⟩
          rw [next]
          unfold clashAt
          rw [hE, hS]
          simpa using a
    · rintro σ Hx ⟨v3, rfl, g, e, tp⟩
      obtain ⟨zs, ez, rz⟩ := g.at_
      rw [hlen] at rz
      exact ⟨_, rfl, q mm Hx g.same (.lst ez rz)⟩
end
end K3

set_option Elab.async false
set_option linter.all false
set_option maxRecDepth 100000
set_option maxHeartbeats 600000
namespace L2
open PySem PySem.Spec PyProof.Rows
/-- t[lo:hi], whole or not -/
theorem sl_any {X : Cx} : SlR X (fun x lo hi H Q => ∃ (a : Addr) (xs : List V), x = .ref a ∧ H a = some (.tup xs) ∧ ∀ b H', Same H H' → H' b = some (.tup (cutV xs lo hi)) → Q (.ref b) H') := by
  intro pins s σ H x v vl vu lo hi sl Q I rx hs pl pu h
  obtain ⟨a, xs, e, hx, q⟩ := h
  by_cases hw : HT.sIx xs.length 0 lo = 0 ∧ HT.sIx xs.length xs.length hi = xs.length
  · refine sl_tup_all pins s σ H x v vl vu lo hi sl Q I rx hs pl pu ⟨a, xs, e, SqT.of hx, hw.1, hw.2, q a H (Same.refl _) ?_⟩
    rw [hx]
    unfold cutV
    rw [hw.1, hw.2, List.drop_zero, Nat.sub_zero, List.take_length]
  · exact sl_tup pins s σ H x v vl vu lo hi sl Q I rx hs pl pu ⟨a, xs, e, SqT.of hx, hw, fun p hp => q p _ (same_new hp _) upd_same⟩
/-- t + u -/
theorem op_catA {X : Cx} : OpR X (binaryOp .Add) (fun x y H Q => ∃ (a b : Addr) (xs ys : List V), x = .ref a ∧ y = .ref b ∧ H a = some (.tup xs) ∧ H b = some (.tup ys) ∧ xs.length + ys.length ≤ sizeLine ∧ ∀ c H', Same H H' → H' c = some (.tup (xs ++ ys)) → Q (.ref c) H') := by
  intro pins s σ H x y v u Q I rx ry h
  obtain ⟨a, b, xs, ys, e1, e2, ha, hb, hz, q⟩ := h
  cases xs with
  | nil => exact op_catT0 pins s σ H x y v u Q I rx ry ⟨a, b, ys, e1, e2, SqT.of ha, SqT.of hb, q b H (Same.refl _) (by rw [hb]; rfl)⟩
  | cons x0 xs => exact op_catT pins s σ H x y v u Q I rx ry ⟨a, b, _, ys, e1, e2, SqT.of ha, SqT.of hb, List.cons_ne_nil _ _, hz, fun z => q a H (Same.refl _) (by rw [ha, z, List.append_nil]), fun _ p hp => q p _ (same_new hp _) upd_same⟩
theorem cut_to {xs : List V} {j : Nat} (h : j ≤ xs.length) : cutV xs none (some (j : Int)) = xs.take j := by
  unfold cutV
  have e1 : HT.sIx xs.length 0 none = 0 := rfl
  have e2 : HT.sIx xs.length xs.length (some (j : Int)) = j := by
    show (if (j : Int) < 0 then ((j : Int) + (xs.length : Int)).toNat else min (j : Int).toNat xs.length) = j
    rw [if_neg (by omega), Int.toNat_natCast]
    omega
  rw [e1, e2, List.drop_zero, Nat.sub_zero]
theorem cut_from {xs : List V} {j : Nat} (h : j ≤ xs.length) : cutV xs (some (j : Int)) none = xs.drop j := by
  unfold cutV
  have e1 : HT.sIx xs.length 0 (some (j : Int)) = j := by
    show (if (j : Int) < 0 then ((j : Int) + (xs.length : Int)).toNat else min (j : Int).toNat xs.length) = j
    rw [if_neg (by omega), Int.toNat_natCast]
    omega
  have e2 : HT.sIx xs.length xs.length none = xs.length := rfl
  rw [e1, e2]
  exact List.take_of_length_le (by rw [List.length_drop]; omega)
theorem cut_mid {xs : List V} {f m : Nat} : cutV xs (some (f : Int)) (some ((f : Int) + (m : Int))) = (xs.drop f).take m := by
  unfold cutV
  have e0 : (f : Int) + (m : Int) = ((f + m : Nat) : Int) := by omega
  rw [e0, HT.sIx_nat, HT.sIx_nat]
  by_cases h : f ≤ xs.length
  · rw [Nat.min_eq_left h, List.take_eq_take_iff, List.length_drop]
    omega
  · rw [List.drop_of_length_le (by omega), List.drop_of_length_le (by omega), List.take_nil, List.take_nil]
section
variable {σ : St} {H : Hp} {K : PySem.W.Frag} {te : TE} {tt : TT} {caps : List (Str × Nat)} {Q : VK}
theorem tifs_i {c : TT} {t u : TS} {D : Ends} (h : c σ H fun b H1 => if b = true then t D σ H1 else u D σ H1) : tIfS c t u D σ H := h
theorem tnot_i {t : TT} {R : Bool → Hp → Prop} (h : t σ H fun b H1 => R (!b) H1) : tNot t σ H R := h
theorem tb_i {t : TE} {R : Bool → Hp → Prop} (h : t σ H fun x H1 => ∃ b, x = .bl b ∧ R b H1) : tB t σ H R := h
theorem tret_i {D : Ends} (h : te σ H D.rt) : tRet te D σ H := h
theorem ttest_i {t : TE} {R : Bool → Hp → Prop} (h : t σ H fun x H1 => ∃ b, x = .bl b ∧ R b H1) : tTest t σ H R := h
theorem top_i {r : R2} {ta tb : TE} (h : ta σ H fun x H1 => tb σ H1 fun y H2 => r x y H2 Q) : tOp r ta tb σ H Q := h
theorem tcomp_i {wi : TI} (h : wi σ H fun J H1 => CompW J tt te (caps.map fun p => (σ[p.2]?).join) H1 Q) : tComp wi tt te caps σ H Q := h
end
end L2

set_option Elab.async false
set_option linter.all false
set_option maxRecDepth 100000
set_option maxHeartbeats 600000
namespace K3
open PySem L2
def okAt (keys : List (List Int)) (rs : List (List V)) (c k : Nat) : Bool := (cellO keys.length (cellV rs (k / c) (k % c))).isSome
def rightB (keys : List (List Int)) (rs : List (List V)) (c : Nat) : Bool := (List.range (rs.length * c)).all (okAt keys rs c) && decide ((clashN keys rs c (rs.length * c)).length = 0)
def spRight : Sp := fun vs H Q _ => ∃ (t v : V) (keys : List (List Int)) (rs : List (List V)) (c : Nat), vs = [t, v] ∧ Tls H t keys ∧ Flr H v rs ∧ Even c rs ∧ Nums rs ∧ ∀ H', Same H H' → Q (.bl (rightB keys rs c)) H'
def prs (ps : List (Int × Int)) : List (List V) := ps.map fun p => [.int p.1, .int p.2]
def spAlong : Sp := fun vs H Q _ => ∃ (t v : V) (pl : Addr) (s : Nat) (ys : List V) (ps : List (Int × Int)) (keys : List (List Int)) (rs : List (List V)) (c : Nat), vs = [t, v, .ref pl, .int (s : Int)] ∧ Tls H t keys ∧ Flr H v rs ∧ Even c rs ∧ Nums rs ∧ s < 4 ∧ H pl = some (.lst ys) ∧ TupsAt H ys (prs ps) ∧ ps.length ≤ 1000 ∧
  ∀ b H', Same H H' → H' b = some (.tup (ps.map fun p => optV (edgeO keys rs c p.1 p.2 s))) → Q (.ref b) H'
theorem prs_get {ps : List (Int × Int)} {H : Hp} {ys : List V} (t : TupsAt H ys (prs ps)) {i : Nat} {x : V} (hx : ys[i]? = some x) : ∃ p, ps[i]? = some p ∧ Plc H x p.1 p.2 := by
  have hl : i < ps.length := by
    have h1 := (List.getElem?_eq_some_iff.mp hx).1
    have h2 := t.length
    unfold prs at h2
    rw [List.length_map] at h2
    omega
  obtain ⟨b, h1, h2⟩ := t.at (i := i) (r := [.int ps[i].1, .int ps[i].2]) (by unfold prs; rw [List.getElem?_map, List.getElem?_eq_getElem hl]; rfl)
  rw [hx] at h1
  cases h1
  exact ⟨_, List.getElem?_eq_getElem hl, b, rfl, h2⟩
section
variable {P : Program} {w : World} {K : PySem.W.Frag} {mg : Str → Option Value} {base : Heap} {f : Addr} {fd : FuncData}
theorem scRight : FnScope ["tiles", "floor"] ["tiles", "floor"] (defScope sRight) := ⟨rfl, rfl, rfl, by decide +kernel, rfl, by decide +kernel, by decide +kernel⟩
theorem ok_right {g1 g2 g3 g4 : Addr} {d1 d2 d3 d4 : FuncData} (F : Fun K "is_right" "is_right" sRight f fd) (T : Txt mg) (tAll : mg "all" = none) (CP : Calls P w K mg base "places_of" ["floor"] 5 spPlaces g1 d1) (CN : Calls P w K mg base "number_at" ["floor", "place"] 5 spNumber g2 d2) (CH : Calls P w K mg base "has_number" ["tiles", "thing"] 5 (sp2 hasNum) g3 d3) (CC : Calls P w K mg base "clashes" ["tiles", "floor"] 5 spClashes g4 d4) :
    FnOk P w K mg base CX0 6 f fd ["tiles", "floor"] spRight := by
  refine F.ok scRight (fun vs H Q E h => ?_) (fun cdv A outer s H vs Q E hr h => ?_)
  · obtain ⟨t, v, keys, rs, c, rfl, _⟩ := h; rfl
  obtain ⟨t, v, keys, rs, c, rfl, ht, hF, ev, num, q⟩ := h
  refine' ⟨_, ?b, ?fin⟩
  case b =>
    refine' pss_cons ?s1 ?r1
    case s1 =>
      refine' ps_if (pt_not (pt_val (pe_callB (call_all_bl rfl) rfl tAll boot_all (pa_cons ?cm pa_nil)))) (pss_one (ps_ret pe_bl)) pss_nil
      case cm =>
        refine' pe_comp (sc := defScope sRight) (N := ["tiles", "floor"]) (caps := [("tiles", 0), ("floor", 1)]) ?S (pi_list (pe_call CP.ok hr rfl CP.m CP.kp CP.b .nil pass0 (pa_cons (pv 1) pa_nil))) (fun _ _ _ _ _ => pif_nil) (fun _ _ _ _ _ => pe_call CH.ok hr rfl CH.m CH.kp CH.b .nil pass0 (pa_cons (pv 1) (pa_cons (pe_call CN.ok hr rfl CN.m CN.kp CN.b .nil pass0 (pa_cons (pv 2) (pa_cons (pv 0) pa_nil))) pa_nil)))
        case S => exact ⟨by decide +kernel, rfl, by decide +kernel, rfl, by decide +kernel, by decide +kernel, by decide +kernel, by decide +kernel⟩
    case r1 =>
      refine' pss_one ?s2
      case s2 => exact ps_ret (pe_cmpR op_eq (pe_callB call_len_seq rfl T.len PySem.boot_len (pa_cons (pe_call CC.ok hr rfl CC.m CC.kp CC.b .nil pass0 (pa_cons (pv 0) (pa_cons (pv 1) pa_nil))) pa_nil)) pe_int (nomark _))
  case fin =>
    refine tseq_i (tifs_i (tnot_i (tb_i (tcb_i (tcons_i (tcomp_i ?_))))))
    refine ⟨_, rfl, v, rs, c, rfl, hF, ev, fun pl ys H1 s1 hpl epl tpl => ⟨pl, rfl, ⟨_, SqL.of epl⟩, ?_⟩⟩
    have hlen : ys.length = rs.length * c := by rw [tpl.length, placesL_len]
    have hz : ys.length ≤ 10000 := by rw [hlen]; exact Nat.mul_le_mul ev.most ev.cols
    refine comp_genL (SqL.of epl) (fun k zs Hx => k ≤ ys.length ∧ Same H1 Hx ∧ zs = ((List.range k).map (okAt keys rs c)).map V.bl) ⟨Nat.zero_le _, Same.refl _, rfl⟩ (fun k zs Hx j => ?_) (fun k zs Hx j => j.2.1) (fun k zs x Hx R hx j hR => ?_) (fun zs Hx p j hp => ?_)
    · obtain ⟨hk, _, rfl⟩ := j
      rw [List.length_map, List.length_map, List.length_range]
      exact Nat.le_trans hk (Nat.le_trans hz (by decide))
    · obtain ⟨hk, sx, rfl⟩ := j
      have hk' : k < rs.length * c := by rw [← hlen]; exact (List.getElem?_eq_some_iff.mp hx).1
      have hc : 0 < c := by
        cases c with
        | zero => simp at hk'
        | succ c => exact Nat.succ_pos _
      obtain ⟨b, h1, h2⟩ := tpl.at (placesL_get (r := rs.length) hk')
      rw [hx] at h1
      cases h1
      have cn : Num (cellV rs (k / c) (k % c)) := cell_num num
      have s0 := s1.trans sx
      refine ⟨_, rfl, _, rfl, _, rfl, v, .ref b, rs, c, k / c, k % c, rfl, hF.up s0, ev, ⟨b, rfl, sx _ _ h2⟩, Nat.div_lt_of_lt_mul (by rw [Nat.mul_comm]; exact hk'), Nat.mod_lt _ hc, t, _, _, _, rfl, (ht.up s0).rep, (num_rep cn).1, fun H2 s2 => hR _ _ ⟨by rw [hlen]; exact hk', sx.trans s2, ?_⟩⟩
      rw [List.range_succ, List.map_append, List.map_append, List.length_map, has_cell cn]
      rfl
    · obtain ⟨_, sx, rfl⟩ := j
      refine ⟨p, (List.range ys.length).map (okAt keys rs c), rfl, SqL.of upd_same, _, rfl, ?_⟩
      have sp := sx.trans (same_new hp (.lst (((List.range ys.length).map (okAt keys rs c)).map V.bl)))
      have s0 := s1.trans sp
      have ea : ((List.range ys.length).map (okAt keys rs c)).all id = (List.range (rs.length * c)).all (okAt keys rs c) := by
        rw [List.all_map, hlen]; rfl
      rw [ea]
      cases hall : (List.range (rs.length * c)).all (okAt keys rs c) with
      | false =>
        refine iteT ?_
        have := q _ s0
        unfold rightB at this
        rw [hall] at this
        exact this
      | true =>
        refine iteF ?_
        refine ⟨_, rfl, _, rfl, t, v, keys, rs, c, rfl, ht.up s0, hF.up s0, ev, num, fun l H2 s2 rl => ?_⟩
        cases rl with
        | @lst _ xs _ e r =>
          refine ⟨l, xs, rfl, .inl (SqL.of e), rfl, ?_⟩
          have := q H2 (s0.trans s2)
          unfold rightB at this
          rw [hall] at this
          have e1 : decide (V.int (xs.length : Int) = V.int 0) = (true && decide ((clashN keys rs c (rs.length * c)).length = 0)) := by
            rw [r.length, Bool.true_and, Bool.eq_iff_iff, decide_eq_true_iff, decide_eq_true_iff]
            constructor
            · intro z; injection z with z; omega
            · intro z; rw [z]; rfl
          rw [← e1] at this
          exact this
theorem scAlong : FnScope ["tiles", "floor", "places", "side"] ["tiles", "floor", "places", "side"] (defScope sAlong) := ⟨rfl, rfl, rfl, by decide +kernel, rfl, by decide +kernel, by decide +kernel⟩
theorem ok_along {g1 : Addr} {d1 : FuncData} (F : Fun K "edges_along" "edges_along" sAlong f fd) (T : Txt mg) (CE : Calls P w K mg base "edge_at" ["tiles", "floor", "place", "side"] 3 spEdge g1 d1) : FnOk P w K mg base CX0 4 f fd ["tiles", "floor", "places", "side"] spAlong := by
  refine F.ok scAlong (fun vs H Q E h => ?_) (fun cdv A outer s H vs Q E hr h => ?_)
  · obtain ⟨t, v, pl, s, ys, ps, keys, rs, c, rfl, _⟩ := h; rfl
  obtain ⟨t, v, pl, sd, ys, ps, keys, rs, c, rfl, ht, hF, ev, num, hs4, epl, tpl, hps, q⟩ := h
  refine' ⟨_, ?b, ?fin⟩
  case b =>
    refine' pss_one (ps_ret (pe_callTy call_tuple_of rfl T.tuple boot_tuple (pa_cons ?cm pa_nil)))
    case cm =>
      refine' pe_comp (sc := defScope sAlong) (N := ["tiles", "floor", "places", "side"]) (caps := [("tiles", 0), ("floor", 1), ("side", 3)]) ?S (pi_list (pv 2)) (fun _ _ _ _ _ => pif_nil) (fun _ _ _ _ _ => pe_call CE.ok hr rfl CE.m CE.kp CE.b .nil pass0 (pa_cons (pv 1) (pa_cons (pv 2) (pa_cons (pv 0) (pa_cons (pv 3) pa_nil)))))
      case S => exact ⟨by decide +kernel, rfl, by decide +kernel, rfl, by decide +kernel, by decide +kernel, by decide +kernel, by decide +kernel⟩
  case fin =>
    have hlen : ys.length = ps.length := by have := tpl.length; unfold prs at this; rw [List.length_map] at this; exact this
    refine tret_i (tcb_i (tcons_i (tcomp_i ?_)))
    refine ⟨_, rfl, pl, rfl, ⟨_, SqL.of epl⟩, ?_⟩
    refine comp_genL (SqL.of epl) (fun k zs Hx => k ≤ ps.length ∧ Same H Hx ∧ zs = (ps.take k).map fun p => optV (edgeO keys rs c p.1 p.2 sd)) ⟨Nat.zero_le _, Same.refl _, by rw [List.take_zero]; rfl⟩ (fun k zs Hx j => ?_) (fun k zs Hx j => j.2.1) (fun k zs x Hx R hx j hR => ?_) (fun zs Hx p j hp => ?_)
    · obtain ⟨hk, _, rfl⟩ := j
      rw [List.length_map, List.length_take]
      exact small (by omega)
    · obtain ⟨hk, sx, rfl⟩ := j
      obtain ⟨p, hp, hpl⟩ := prs_get tpl hx
      refine ⟨_, rfl, _, rfl, _, rfl, _, rfl, t, v, x, keys, rs, c, p.1, p.2, sd, rfl, ht.up sx, hF.up sx, ev, num, hpl.up sx, hs4, fun H2 s2 => hR _ _ ⟨(List.getElem?_eq_some_iff.mp hp).1, sx.trans s2, ?_⟩⟩
      rw [take_snoc hp, List.map_append]; rfl
    · obtain ⟨_, sx, rfl⟩ := j
      rw [hlen, List.take_length] at *
      refine ⟨p, _, rfl, .inl ⟨SqL.of upd_same, fun b hb => q b _ (sx.trans ((same_new hp _).trans (same_new hb _))) upd_same⟩⟩
end
end K3

set_option Elab.async false
set_option linter.all false
set_option maxRecDepth 100000
set_option maxHeartbeats 600000
namespace K3
open PySem L2
theorem boot_max : bootBuiltins "max" = some (.builtin "max") := by decide +kernel
theorem TupsAt.take {H : Hp} : ∀ {ys : List V} {rs : List (List V)} (n : Nat), TupsAt H ys rs → TupsAt H (ys.take n) (rs.take n)
  | _, _, 0, _ => by rw [List.take_zero, List.take_zero]; exact Paired.nil
  | _, _, n + 1, .nil => by rw [List.take_nil, List.take_nil]; exact Paired.nil
  | _, _, n + 1, .cons h t => by rw [List.take_succ_cons, List.take_succ_cons]; exact Paired.cons h (TupsAt.take n t)
theorem TupsAt.drop {H : Hp} : ∀ {ys : List V} {rs : List (List V)} (n : Nat), TupsAt H ys rs → TupsAt H (ys.drop n) (rs.drop n)
  | _, _, 0, t => t
  | _, _, n + 1, .nil => by rw [List.drop_nil, List.drop_nil]; exact Paired.nil
  | _, _, n + 1, .cons h t => by rw [List.drop_succ_cons, List.drop_succ_cons]; exact TupsAt.drop n t
/-- pairs made by a range -/
theorem comp_prs {n : Nat} {H1 : Hp} {te : TE} {cs : List (Option V)} {Q : VK} (f : Nat → Int × Int) (hn : n ≤ 1000)
    (step : ∀ k Hx (R : VK), k < n → Same H1 Hx → (∀ p, Hx p = none → R (.ref p) (upd Hx p (.tup [.int (f k).1, .int (f k).2]))) → te (some (.int (0 + (k : Int))) :: cs) Hx R)
    (fin : ∀ zs Hx p, Same H1 Hx → Hx p = none → TupsAt Hx zs (prs ((List.range n).map f)) → Q (.ref p) (upd Hx p (.lst zs))) : CompW (Itr 0 n) tYes te cs H1 Q := by
  refine comp_genR (fun k zs Hx => k ≤ n ∧ Same H1 Hx ∧ TupsAt Hx zs (prs ((List.range k).map f))) ⟨Nat.zero_le _, Same.refl _, .nil⟩ (fun k zs Hx j => ?_) (fun k zs Hx R hk j hR => ?_) (fun zs Hx p j hp => fin zs Hx p j.2.1 hp j.2.2)
  · have := j.2.2.length
    unfold prs at this
    rw [List.length_map, List.length_map, List.length_range] at this
    exact small (by have := j.1; omega)
  · obtain ⟨_, sx, tx⟩ := j
    refine step k Hx R hk sx fun p hp => hR _ _ ⟨hk, sx.trans (same_new hp _), ?_⟩
    unfold prs
    rw [List.range_succ, List.map_append, List.map_append]
    exact TupsAt.snoc ⟨p, rfl, upd_same⟩ (tx.up fun b xs z => (same_new hp _) _ _ z)
def sideL (keys : List (List Int)) (rs : List (List V)) (c n : Nat) (f : Nat → Int × Int) (s : Nat) : List V := ((List.range n).map f).map fun p => optV (edgeO keys rs c p.1 p.2 s)
def spEdges : Sp := fun vs H Q _ => ∃ (t v : V) (keys : List (List Int)) (rs : List (List V)) (c : Nat), vs = [t, v] ∧ Tls H t keys ∧ Flr H v rs ∧ Even c rs ∧ Nums rs ∧ ∀ b b0 b1 b2 b3 H', Same H H' → H' b = some (.tup [.ref b0, .ref b1, .ref b2, .ref b3]) →
  H' b0 = some (.tup (sideL keys rs c c (fun j => (0, (j : Int))) 0)) → H' b1 = some (.tup (sideL keys rs c rs.length (fun i => ((i : Int), (c : Int) - 1)) 1)) → H' b2 = some (.tup (sideL keys rs c c (fun j => ((rs.length : Int) - 1, (j : Int))) 2)) → H' b3 = some (.tup (sideL keys rs c rs.length (fun i => ((i : Int), 0)) 3)) → Q (.ref b) H'
def spStretch : Sp := fun vs H Q _ => ∃ (a : Addr) (f m : Nat) (xs : List V), vs = [.ref a, .int (f : Int), .int (m : Int)] ∧ H a = some (.tup xs) ∧ ∀ b H', Same H H' → H' b = some (.tup ((xs.drop f).take m)) → Q (.ref b) H'
def partL (rs : List (List V)) (top left rows cols : Nat) : List (List V) := ((rs.drop top).take rows).map fun r => (r.drop left).take cols
def spPart : Sp := fun vs H Q _ => ∃ (v : V) (top left rows cols : Nat) (rs : List (List V)), vs = [v, .int (top : Int), .int (left : Int), .int (rows : Int), .int (cols : Int)] ∧ Flr H v rs ∧ rs.length ≤ 1000 ∧ ∀ b H', Same H H' → Flr H' (.ref b) (partL rs top left rows cols) → Q (.ref b) H'
section
variable {P : Program} {w : World} {K : PySem.W.Frag} {mg : Str → Option Value} {base : Heap} {f : Addr} {fd : FuncData}
abbrev nmE : List Str := ["tiles", "floor", "size", "top", "right", "bottom", "left"]
theorem scEdges : FnScope nmE ["tiles", "floor"] (defScope sEdges) := ⟨rfl, rfl, rfl, by decide +kernel, rfl, by decide +kernel, by decide +kernel⟩
theorem ok_edges {g1 g2 : Addr} {d1 d2 : FuncData} (F : Fun K "edges_of" "edges_of" sEdges f fd) (T : Txt mg) (S : Sd mg) (CZ : Calls P w K mg base "size_of" ["floor"] 4 spSize g1 d1) (CA : Calls P w K mg base "edges_along" ["tiles", "floor", "places", "side"] 4 spAlong g2 d2) : FnOk P w K mg base CX0 5 f fd ["tiles", "floor"] spEdges := by
  refine F.ok scEdges (fun vs H Q E h => ?_) (fun cdv A outer s H vs Q E hr h => ?_)
  · obtain ⟨t, v, keys, rs, c, rfl, _⟩ := h; rfl
  obtain ⟨t, v, keys, rs, c, rfl, ht, hF, ev, num, q⟩ := h
  obtain ⟨tn, hn⟩ := S.n
  obtain ⟨te, he⟩ := S.e
  obtain ⟨ts, hs⟩ := S.s
  obtain ⟨tw, hw⟩ := S.w
  refine' ⟨_, ?b, ?fin⟩
  case b =>
    refine' pss_cons ?s1 ?r1
    case s1 => exact ps_set (i := 2) scEdges.nd rfl (Or.inr rfl) (pe_call CZ.ok hr rfl CZ.m CZ.kp CZ.b .nil pass0 (pa_cons (pv 1) pa_nil))
    case r1 =>
      refine' pss_cons ?s2 ?r2
      case s2 =>
        refine' ps_setC (k0 := 3) (sc := defScope sEdges) (N := nmE) (caps := []) ?S1 scEdges.nd rfl (Or.inl rfl) (pi_range1 rfl T.range (pa_cons (pe_ix ix_tup (pv 2) pe_int (fun _ _ => rfl)) pa_nil)) (fun _ _ _ _ _ => pif_nil) (fun _ _ _ _ _ => pe_tup (pa_cons pe_int (pa_cons (pv 0) pa_nil)))
        case S1 => exact ⟨by decide +kernel, rfl, by decide +kernel, rfl, by decide +kernel, by decide +kernel, by decide +kernel, by decide +kernel⟩
      case r2 =>
        refine' pss_cons ?s3 ?r3
        case s3 =>
          refine' ps_setC (k0 := 4) (sc := defScope sEdges) (N := nmE) (caps := [("size", 2)]) ?S2 scEdges.nd rfl (Or.inl rfl) (pi_range1 rfl T.range (pa_cons (pe_ix ix_tup (pv 2) pe_int (fun _ _ => rfl)) pa_nil)) (fun _ _ _ _ _ => pif_nil) (fun _ _ _ _ _ => pe_tup (pa_cons (pv 0) (pa_cons (pe_op op_sub (pe_ix (ix_tupK (K := K)) (pv 1) pe_int (fun _ _ => rfl)) pe_int) pa_nil)))
          case S2 => exact ⟨by decide +kernel, rfl, by decide +kernel, rfl, by decide +kernel, by decide +kernel, by decide +kernel, by decide +kernel⟩
        case r3 =>
          refine' pss_cons ?s4 ?r4
          case s4 =>
            refine' ps_setC (k0 := 5) (sc := defScope sEdges) (N := nmE) (caps := [("size", 2)]) ?S3 scEdges.nd rfl (Or.inl rfl) (pi_range1 rfl T.range (pa_cons (pe_ix ix_tup (pv 2) pe_int (fun _ _ => rfl)) pa_nil)) (fun _ _ _ _ _ => pif_nil) (fun _ _ _ _ _ => pe_tup (pa_cons (pe_op op_sub (pe_ix (ix_tupK (K := K)) (pv 1) pe_int (fun _ _ => rfl)) pe_int) (pa_cons (pv 0) pa_nil)))
            case S3 => exact ⟨by decide +kernel, rfl, by decide +kernel, rfl, by decide +kernel, by decide +kernel, by decide +kernel, by decide +kernel⟩
          case r4 =>
            refine' pss_cons ?s5 ?r5
            case s5 =>
              refine' ps_setC (k0 := 6) (sc := defScope sEdges) (N := nmE) (caps := []) ?S4 scEdges.nd rfl (Or.inl rfl) (pi_range1 rfl T.range (pa_cons (pe_ix ix_tup (pv 2) pe_int (fun _ _ => rfl)) pa_nil)) (fun _ _ _ _ _ => pif_nil) (fun _ _ _ _ _ => pe_tup (pa_cons (pv 0) (pa_cons pe_int pa_nil)))
              case S4 => exact ⟨by decide +kernel, rfl, by decide +kernel, rfl, by decide +kernel, by decide +kernel, by decide +kernel, by decide +kernel⟩
            case r5 =>
              refine' pss_one ?s6
              case s6 =>
                exact ps_ret (pe_tup (pa_cons (pe_call CA.ok hr rfl CA.m CA.kp CA.b .nil pass0 (pa_cons (pv 0) (pa_cons (pv 1) (pa_cons (pv 3) (pa_cons (pe_glob (v := .int 0) rfl hn ⟨_, rfl⟩) pa_nil)))))
                  (pa_cons (pe_call CA.ok hr rfl CA.m CA.kp CA.b .nil pass0 (pa_cons (pv 0) (pa_cons (pv 1) (pa_cons (pv 4) (pa_cons (pe_glob (v := .int 1) rfl he ⟨_, rfl⟩) pa_nil)))))
                  (pa_cons (pe_call CA.ok hr rfl CA.m CA.kp CA.b .nil pass0 (pa_cons (pv 0) (pa_cons (pv 1) (pa_cons (pv 5) (pa_cons (pe_glob (v := .int 2) rfl hs ⟨_, rfl⟩) pa_nil)))))
                  (pa_cons (pe_call CA.ok hr rfl CA.m CA.kp CA.b .nil pass0 (pa_cons (pv 0) (pa_cons (pv 1) (pa_cons (pv 6) (pa_cons (pe_glob (v := .int 3) rfl hw ⟨_, rfl⟩) pa_nil))))) pa_nil)))))
  case fin =>
    have hr100 := ev.most
    have hc100 := ev.cols
    refine ⟨_, rfl, v, rs, c, rfl, hF, ev, fun sb H1 s1 es => ?_⟩
    dsimp only [gName]
    refine tseq_i (tasg_i (tcomp_i ?_))
    refine ⟨_, rfl, sb, _, 1, _, rfl, rfl, SqT.of es, rfl, (c : Int), rfl, by omega, by omega, ?_⟩
    refine comp_prs (fun j => (0, (j : Int))) (by omega) (fun k Hx R hk sx hR => ⟨_, rfl, small (show 2 ≤ 1000 by decide), fun p hp => by have := hR p hp; rw [Int.zero_add]; exact this⟩) (fun y1 H2 l1 s2 hl1 t1 => ?_)
    rw [Int.toNat_natCast] at t1
    have n1 := same_new hl1 (.lst y1)
    dsimp only [gName]
    refine tseq_i (tasg_i (tcomp_i ?_))
    have sA := s2.trans n1
    refine ⟨_, rfl, sb, _, 0, _, rfl, rfl, SqT.of (sA _ _ es), rfl, (rs.length : Int), rfl, by omega, by omega, ?_⟩
    refine comp_prs (fun i => ((i : Int), (c : Int) - 1)) (by omega) (fun k Hx R hk sx hR => ⟨_, rfl, _, rfl, sb, _, 1, _, rfl, rfl, SqT.of (sx _ _ (sA _ _ es)), rfl, _, _, rfl, rfl, small (show 2 ≤ 1000 by decide), fun p hp => by have := hR p hp; rw [Int.zero_add]; exact this⟩) (fun y2 H3 l2 s3 hl2 t2 => ?_)
    rw [Int.toNat_natCast] at t2
    have n2 := same_new hl2 (.lst y2)
    dsimp only [gName]
    refine tseq_i (tasg_i (tcomp_i ?_))
    have sB := s3.trans n2
    refine ⟨_, rfl, sb, _, 1, _, rfl, rfl, SqT.of (sB _ _ (sA _ _ es)), rfl, (c : Int), rfl, by omega, by omega, ?_⟩
    refine comp_prs (fun j => ((rs.length : Int) - 1, (j : Int))) (by omega) (fun k Hx R hk sx hR => ⟨_, rfl, sb, _, 0, _, rfl, rfl, SqT.of (sx _ _ (sB _ _ (sA _ _ es))), rfl, _, _, rfl, rfl, _, rfl, small (show 2 ≤ 1000 by decide), fun p hp => by have := hR p hp; rw [Int.zero_add]; exact this⟩) (fun y3 H4 l3 s4 hl3 t3 => ?_)
    rw [Int.toNat_natCast] at t3
    have n3 := same_new hl3 (.lst y3)
    dsimp only [gName]
    refine tseq_i (tasg_i (tcomp_i ?_))
    have sC := s4.trans n3
    refine ⟨_, rfl, sb, _, 0, _, rfl, rfl, SqT.of (sC _ _ (sB _ _ (sA _ _ es))), rfl, (rs.length : Int), rfl, by omega, by omega, ?_⟩
    refine comp_prs (fun i => ((i : Int), 0)) (by omega) (fun k Hx R hk sx hR => ⟨_, rfl, small (show 2 ≤ 1000 by decide), fun p hp => by have := hR p hp; rw [Int.zero_add]; exact this⟩) (fun y4 H5 l4 s5 hl4 t4 => ?_)
    rw [Int.toNat_natCast] at t4
    have n4 := same_new hl4 (.lst y4)
    have sD := s5.trans n4
    have sAll := s1.trans (sA.trans (sB.trans (sC.trans sD)))
    have le : ∀ {n : Nat} {g : Nat → Int × Int}, n ≤ 1000 → ((List.range n).map g).length ≤ 1000 := fun {n g} h => by rw [List.length_map, List.length_range]; exact h
    have u1 := (sB.trans (sC.trans sD))
    have u2 := (sC.trans sD)
    refine ⟨_, rfl, _, rfl, _, rfl, t, v, l1, 0, y1, _, keys, rs, c, rfl, ht.up sAll, hF.up sAll, ev, num, by decide, u1 _ _ upd_same, t1.up fun b xs z => u1 _ _ (n1 _ _ z), le (by omega), fun b0 H6 s6 e0 => ?_⟩
    refine ⟨_, rfl, _, rfl, _, rfl, t, v, l2, 1, y2, _, keys, rs, c, rfl, (ht.up sAll).up s6, (hF.up sAll).up s6, ev, num, by decide, s6 _ _ (u2 _ _ upd_same), t2.up fun b xs z => s6 _ _ (u2 _ _ (n2 _ _ z)), le (by omega), fun b1 H7 s7 e1 => ?_⟩
    have s67 := s6.trans s7
    refine ⟨_, rfl, _, rfl, _, rfl, t, v, l3, 2, y3, _, keys, rs, c, rfl, (ht.up sAll).up s67, (hF.up sAll).up s67, ev, num, by decide, s67 _ _ (sD _ _ upd_same), t3.up fun b xs z => s67 _ _ (sD _ _ (n3 _ _ z)), le (by omega), fun b2 H8 s8 e2 => ?_⟩
    have s68 := s67.trans s8
    refine ⟨_, rfl, _, rfl, _, rfl, t, v, l4, 3, y4, _, keys, rs, c, rfl, (ht.up sAll).up s68, (hF.up sAll).up s68, ev, num, by decide, s68 _ _ upd_same, t4.up fun b xs z => s68 _ _ (n4 _ _ z), le (by omega), fun b3 H9 s9 e3 => ?_⟩
    refine ⟨small (show 4 ≤ 1000 by decide), fun b hb => ?_⟩
    have sb' := same_new hb (.tup [.ref b0, .ref b1, .ref b2, .ref b3])
    exact q b b0 b1 b2 b3 _ (sAll.trans (s68.trans (s9.trans sb'))) upd_same (sb' _ _ (s9 _ _ (s8 _ _ (s7 _ _ e0)))) (sb' _ _ (s9 _ _ (s8 _ _ e1))) (sb' _ _ (s9 _ _ e2)) (sb' _ _ e3)
theorem scStretch : FnScope ["things", "first", "many"] ["things", "first", "many"] (defScope sStretch) := ⟨rfl, rfl, rfl, by decide +kernel, rfl, by decide +kernel, by decide +kernel⟩
theorem ok_stretch (F : Fun K "stretch" "stretch" sStretch f fd) (tMax : mg "max" = none) : FnOk P w K mg base CX0 1 f fd ["things", "first", "many"] spStretch := by
  refine F.ok scStretch (fun vs H Q E h => ?_) (fun cdv A outer s H vs Q E hr h => ?_)
  · obtain ⟨a, f, m, xs, rfl, _⟩ := h; rfl
  obtain ⟨a, f, m, xs, rfl, ha, q⟩ := h
  refine' ⟨_, ?b, ?fin⟩
  case b =>
    refine' pss_one ?s1
    case s1 => exact ps_ret (pe_slice sl_any (pv 0) (po_some (pe_callB (call_max2 rfl) rfl tMax boot_max (pa_cons (pv 1) (pa_cons pe_int pa_nil)))) (po_some (pe_callB (call_max2 rfl) rfl tMax boot_max (pa_cons (pe_op op_add (pv 1) (pv 2)) (pa_cons pe_int pa_nil)))))
  case fin =>
    refine ⟨_, rfl, _, rfl, (f : Int), 0, rfl, (f : Int), ?_, _, rfl, _, rfl, _, _, rfl, rfl, (f : Int) + (m : Int), 0, rfl, (f : Int) + (m : Int), ?_, a, xs, rfl, ha, fun b H1 s1 e1 => q b H1 s1 ?_⟩
    · rw [if_neg (by omega)]
    · rw [if_neg (by omega)]
    · rw [cut_mid] at e1; exact e1
theorem scPart : FnScope ["floor", "top", "left", "rows", "columns"] ["floor", "top", "left", "rows", "columns"] (defScope sPart) := ⟨rfl, rfl, rfl, by decide +kernel, rfl, by decide +kernel, by decide +kernel⟩
theorem ok_part {g1 : Addr} {d1 : FuncData} (F : Fun K "part" "part" sPart f fd) (T : Txt mg) (CS : Calls P w K mg base "stretch" ["things", "first", "many"] 1 spStretch g1 d1) : FnOk P w K mg base CX0 2 f fd ["floor", "top", "left", "rows", "columns"] spPart := by
  refine F.ok scPart (fun vs H Q E h => ?_) (fun cdv A outer s H vs Q E hr h => ?_)
  · obtain ⟨v, top, left, rows, cols, rs, rfl, _⟩ := h; rfl
  obtain ⟨v, top, left, rows, cols, rs, rfl, ⟨fb, ys, rfl, ef, tf⟩, hl, q⟩ := h
  refine' ⟨_, ?b, ?fin⟩
  case b =>
    refine' pss_one (ps_ret (pe_callTy call_tuple_of rfl T.tuple boot_tuple (pa_cons ?cm pa_nil)))
    case cm =>
      refine' pe_comp (sc := defScope sPart) (N := ["floor", "top", "left", "rows", "columns"]) (caps := [("left", 2), ("columns", 4)]) ?S (pi_tup (pe_call CS.ok hr rfl CS.m CS.kp CS.b .nil pass0 (pa_cons (pv 0) (pa_cons (pv 1) (pa_cons (pv 3) pa_nil))))) (fun _ _ _ _ _ => pif_nil) (fun _ _ _ _ _ => pe_call CS.ok hr rfl CS.m CS.kp CS.b .nil pass0 (pa_cons (pv 0) (pa_cons (pv 1) (pa_cons (pv 2) pa_nil))))
      case S => exact ⟨by decide +kernel, rfl, by decide +kernel, rfl, by decide +kernel, by decide +kernel, by decide +kernel, by decide +kernel⟩
  case fin =>
    refine tret_i (tcb_i (tcons_i (tcomp_i ?_)))
    refine ⟨_, rfl, _, rfl, _, rfl, fb, top, rows, ys, rfl, ef, fun b1 H1 s1 e1 => ⟨b1, rfl, ⟨_, SqT.of e1⟩, ?_⟩⟩
    have t1 : TupsAt H1 ((ys.drop top).take rows) ((rs.drop top).take rows) := ((tf.drop top).take rows).up fun b xs z => s1 _ _ z
    have hl1 := t1.length
    have hl2 : ((rs.drop top).take rows).length ≤ 1000 := by rw [List.length_take, List.length_drop]; omega
    refine comp_genT e1 (fun k zs Hx => k ≤ ((rs.drop top).take rows).length ∧ Same H1 Hx ∧ TupsAt Hx zs ((((rs.drop top).take rows).take k).map fun r => (r.drop left).take cols)) ⟨Nat.zero_le _, Same.refl _, by rw [List.take_zero]; exact Paired.nil⟩ (fun k zs Hx j => ?_) (fun k zs Hx j => j.2.1) (fun k zs x Hx R hx j hR => ?_) (fun zs Hx p j hp => ?_)
    · have := j.2.2.length
      rw [List.length_map, List.length_take] at this
      exact small (by omega)
    · obtain ⟨hk, sx, tx⟩ := j
      have hk' : k < ((rs.drop top).take rows).length := by rw [← hl1]; exact (List.getElem?_eq_some_iff.mp hx).1
      obtain ⟨b, h1, h2⟩ := t1.at (i := k) (r := ((rs.drop top).take rows)[k]) (List.getElem?_eq_getElem hk')
      rw [hx] at h1
      cases h1
      refine ⟨_, rfl, _, rfl, _, rfl, b, left, cols, _, rfl, sx _ _ h2, fun b2 H2 s2 e2 => hR _ _ ⟨hk', sx.trans s2, ?_⟩⟩
      rw [take_snoc (List.getElem?_eq_getElem hk'), List.map_append]
      exact TupsAt.snoc ⟨b2, rfl, e2⟩ (tx.up fun b xs z => s2 _ _ z)
    · obtain ⟨_, sx, tx⟩ := j
      rw [hl1, List.take_length] at tx
      refine ⟨p, zs, rfl, .inl ⟨SqL.of upd_same, fun b hb => ?_⟩⟩
      have n1 := same_new hp (.lst zs)
      have n2 := same_new hb (.tup zs)
      exact q b _ (s1.trans (sx.trans (n1.trans n2))) ⟨b, zs, rfl, upd_same, tx.up fun c xs z => n2 _ _ (n1 _ _ z)⟩
end
end K3

set_option Elab.async false
set_option linter.all false
set_option maxRecDepth 100000
set_option maxHeartbeats 600000
namespace K3
open PySem L2
/-! ### the law's own look at clashes, and its floors -/
def rowsOf (xs : List V) (c r : Nat) : List (List V) := (List.range r).map fun i => (xs.drop (i * c)).take c
def spAsFloor : Sp := fun vs H Q _ => ∃ (a : Addr) (c r : Nat) (xs : List V), vs = [.ref a, .int (c : Int)] ∧ H a = some (.tup xs) ∧ xs.length = r * c ∧ 1 ≤ c ∧ c ≤ 100 ∧ r ≤ 10 ∧ ∀ b H', Same H H' → Flr H' (.ref b) (rowsOf xs c r) → Q (.ref b) H'
theorem edge_some {keys : List (List Int)} {rs : List (List V)} {c : Nat} {i j k : Int} {s : Nat} (hin : inside rs c i j) (hc : cellV rs i.toNat j.toNat = .int k) (h0 : 0 ≤ k) (h1 : k < (keys.length : Int)) : edgeO keys rs c i j s = some (colK keys k s) := by
  unfold edgeO
  rw [if_pos hin, hc]
  unfold cellO
  simp only
  rw [if_pos ⟨h0, h1⟩]; rfl
theorem edge_non {keys : List (List Int)} {rs : List (List V)} {c : Nat} {i j : Int} {s : Nat} (hc : cellV rs i.toNat j.toNat = .non) : edgeO keys rs c i j s = none := by
  unfold edgeO
  rw [hc]
  split <;> rfl
theorem edge_out {keys : List (List Int)} {rs : List (List V)} {c : Nat} {i j : Int} {s : Nat} (hin : ¬ inside rs c i j) : edgeO keys rs c i j s = none := by
  unfold edgeO
  rw [if_neg hin]
theorem clash_none {a : Option Int} : clashO a none = false := by cases a <;> rfl
section
variable {P : Program} {w : World} {K : PySem.W.Frag} {mg : Str → Option Value} {base : Heap} {f : Addr} {fd : FuncData}
theorem call_tupleK {X : Cx} {K : PySem.W.Frag} (hK : X.K = K := by rfl) : CallR X (.type "tuple") (fun xs H Q => ∃ p ys, xs = [.ref p] ∧ ((SqL K H p ys ∧ ∀ l, H l = none → Q (.ref l) (upd H l (.tup ys))) ∨ (SqT K H p ys ∧ Q (.ref p) H))) := by subst hK; exact call_tuple_of
theorem scAsFloor : FnScope ["_law_numbers", "_law_columns"] ["_law_numbers", "_law_columns"] (defScope sAsFloor) := ⟨rfl, rfl, rfl, by decide +kernel, rfl, by decide +kernel, by decide +kernel⟩
theorem ok_asFloor (F : Fun K "_law_as_floor" "_law_as_floor" sAsFloor f fd) (T : Txt mg) : FnOk P w K mg base CX0 1 f fd ["_law_numbers", "_law_columns"] spAsFloor := by
  refine F.ok scAsFloor (fun vs H Q E h => ?_) (fun cdv A outer s H vs Q E hr h => ?_)
  · obtain ⟨a, c, r, xs, rfl, _⟩ := h; rfl
  obtain ⟨a, c, r, xs, rfl, ha, hl, hc1, hc2, hr10, q⟩ := h
  refine' ⟨_, ?b, ?fin⟩
  case b =>
    refine' pss_one (ps_ret (pe_callTy call_tuple_of rfl T.tuple boot_tuple (pa_cons ?cm pa_nil)))
    case cm =>
      refine' pe_comp (sc := defScope sAsFloor) (N := ["_law_numbers", "_law_columns"]) (caps := [("_law_numbers", 0), ("_law_columns", 1)]) ?S (pi_range3 rfl T.range (pa_cons pe_int (pa_cons (pe_callB call_len_seq rfl T.len PySem.boot_len (pa_cons (pv 0) pa_nil)) (pa_cons (pv 1) pa_nil)))) (fun _ _ _ _ _ => pif_nil)
        (fun _ _ _ _ _ => pe_callTy (call_tupleK (K := K)) rfl T.tuple boot_tuple (pa_cons (pe_slice sl_any (pv 1) (po_some (pv 0)) (po_some (pe_op op_add (pv 0) (pv 2)))) pa_nil))
      case S => exact ⟨by decide +kernel, rfl, by decide +kernel, rfl, by decide +kernel, by decide +kernel, by decide +kernel, by decide +kernel⟩
  case fin =>
    have hx : xs.length ≤ 1000 := by rw [hl]; exact Nat.mul_le_mul hr10 hc2
    refine tret_i (tcb_i (tcons_i (tcomp_i ?_)))
    refine ⟨_, rfl, a, xs, rfl, .inr (SqT.of ha), _, rfl, (xs.length : Int), (c : Int), rfl, by omega, by omega, by omega, by omega, ?_⟩
    have en : (((xs.length : Int) + (c : Int) - 1) / (c : Int)).toNat = r := by
      have e1 : ((xs.length : Int) + (c : Int) - 1) / (c : Int) = (r : Int) := by
        rw [hl]
        have e2 : ((r * c : Nat) : Int) + (c : Int) - 1 = ((c : Int) - 1) + (r : Int) * (c : Int) := by push_cast; omega
        rw [e2, Int.add_mul_ediv_right _ _ (by omega), Int.ediv_eq_zero_of_lt (by omega) (by omega), Int.zero_add]
      rw [e1]; rfl
    rw [en]
    refine comp_gen (n := r) (fun k zs Hx => k ≤ r ∧ Same H Hx ∧ TupsAt Hx zs ((List.range k).map fun i => (xs.drop (i * c)).take c)) ⟨Nat.zero_le _, Same.refl _, .nil⟩ (fun k zs Hx j => ?_) (fun k zs Hx hk j => hk) (fun zs Hx j => Nat.le_refl _) (fun k zs Hx x Hy R hk j y hR => ?_) (fun zs Hx p j hp => ?_)
    · have := j.2.2.length
      rw [List.length_map, List.length_range] at this
      exact small (by have := j.1; omega)
    · obtain ⟨_, sx, tx⟩ := j
      obtain ⟨rfl, rfl⟩ := y
      have ex : (0 : Int) + (k : Int) * (c : Int) = ((k * c : Nat) : Int) := by push_cast; omega
      refine ⟨_, rfl, _, rfl, _, rfl, _, rfl, _, rfl, _, _, rfl, rfl, _, rfl, a, xs, rfl, sx _ _ ha, fun b H2 s2 e2 => ?_⟩
      rw [ex, cut_mid] at e2
      refine ⟨b, _, rfl, .inr ⟨SqT.of e2, hR _ _ ⟨hk, sx.trans s2, ?_⟩⟩⟩
      rw [List.range_succ, List.map_append]
      exact TupsAt.snoc ⟨b, rfl, e2⟩ (tx.up fun b xs z => s2 _ _ z)
    · obtain ⟨_, sx, tx⟩ := j
      refine ⟨p, zs, rfl, .inl ⟨SqL.of upd_same, fun b hb => ?_⟩⟩
      have n1 := same_new hp (.lst zs)
      have n2 := same_new hb (.tup zs)
      exact q b _ (sx.trans (n1.trans n2)) ⟨b, zs, rfl, upd_same, tx.up fun c xs z => n2 _ _ (n1 _ _ z)⟩
end
end K3

set_option Elab.async false
set_option linter.all false
set_option maxRecDepth 100000
set_option maxHeartbeats 1000000
namespace K3
open PySem L2
def forBody : Stmt → List Stmt | .For _ _ b _ _ => b | _ => []
abbrev noS : Stmt := .Pass ⟨0, 0, 0, 0⟩
abbrev inB : List Stmt := forBody ((forBody ((defBody sLClashes).getD 1 noS)).getD 0 noS)
abbrev nmC : List Str := ["_law_tiles_here", "_law_floor_here", "_law_rows", "_law_columns", "_law_due", "_law_row", "_law_column", "_law_here"]
theorem scLC : FnScope nmC ["_law_tiles_here", "_law_floor_here", "_law_rows", "_law_columns"] (defScope sLClashes) := ⟨rfl, rfl, rfl, by decide +kernel, rfl, by decide +kernel, by decide +kernel⟩
def AllLie (n : Nat) (rs : List (List V)) (c : Nat) : Prop := ∀ i j, i < rs.length → j < c → Lies n (cellV rs i j)
def spLC : Sp := fun vs H Q _ => ∃ (t v : V) (keys : List (List Int)) (rs : List (List V)) (c : Nat), vs = [t, v, .int (rs.length : Int), .int (c : Int)] ∧ Tls H t keys ∧ Flr H v rs ∧ Even c rs ∧ rs.length ≤ 10 ∧ c ≤ 10 ∧ AllLie keys.length rs c ∧ ∀ l H', Same H H' → Rep H' (.ref l) (.lst (clashN keys rs c (rs.length * c))) → Q (.ref l) H'
theorem cell_get {H : Hp} {v : V} {rs : List (List V)} {c i j : Nat} (hF : Flr H v rs) (ev : Even c rs) (hi : i < rs.length) (hj : j < c) :
    ∃ fb ys rb, v = .ref fb ∧ H fb = some (.tup ys) ∧ atI ys (i : Int) = some (.ref rb) ∧ H rb = some (.tup rs[i]) ∧ atI rs[i] (j : Int) = some (cellV rs i j) := by
  obtain ⟨fb, ys, rfl, ef, t⟩ := hF
  obtain ⟨rb, h1, h2⟩ := t.at (i := i) (r := rs[i]) (List.getElem?_eq_getElem hi)
  have hlr : j < rs[i].length := by rw [ev.row _ (List.getElem_mem hi)]; exact hj
  have ec : cellV rs i j = rs[i][j] := by
    unfold cellV
    simp [List.getD, hi, hlr]
  refine ⟨fb, ys, rb, rfl, ef, atI_nat h1, h2, ?_⟩
  rw [ec]; exact atI_nat (List.getElem?_eq_getElem hlr)
section
variable {P : Program} {w : World} {K : PySem.W.Frag} {mg : Str → Option Value} {base : Heap} {f : Addr} {fd : FuncData}
abbrev lcX (P : Program) (w : World) (K : PySem.W.Frag) (mg : Str → Option Value) (base : Heap) (f : Addr) (cdv : Value) (A : Around) (outer : List Env) (s : Shared) (H : Hp) (E : XK) : Cx :=
  (cxOf CX0 P w K mg base nmC "_law_clashes" (defScope sLClashes) f cdv A outer s H E).nox

theorem lc_east {keys : List (List Int)} {rs : List (List V)} {c : Nat} {t v : V} {H H0 : Hp} {cdv : Value} {A : Around} {outer : List Env} {s : Shared} {E : XK} (ht : Tls H0 t keys) (hF : Flr H0 v rs) (ev : Even c rs) (al : AllLie keys.length rs c) :
    ∃ ts : TS, PS (lcX P w K mg base f cdv A outer s H E) (inB.getD 1 noS) ts ∧ ∀ (D : Ends) (mm : Addr) (i j : Nat) (ds : List L2.D) (G : Hp), H0 mm = none → i < rs.length → j < c → ds.length ≤ 1000 → Grow H0 mm ds G →
      (∀ G', Grow H0 mm (ds ++ (if cls keys rs c (i : Int) (j : Int) 0 1 1 3 then [entry (i : Int) (j : Int) "east"] else [])) G' → D.nx [some t, some v, some (.int (rs.length : Int)), some (.int (c : Int)), some (.ref mm), some (.int (i : Int)), some (.int (j : Int)), some (cellV rs i j)] G') →
      ts D [some t, some v, some (.int (rs.length : Int)), some (.int (c : Int)), some (.ref mm), some (.int (i : Int)), some (.int (j : Int)), some (cellV rs i j)] G := by
  refine' ⟨_, ?p, ?sem⟩
  case p =>
    refine' ps_if ?c ?a ?e
    case c => exact PW.pt (pw_and (pt_cmpR op_notN (pv 7) pe_non (nomark _)) (pw_and (pt_cmpR op_lt (pe_op op_add (pv 6) pe_int) (pv 3) (nomark _)) (pw_and1 (pt_cmpR op_notN (pe_ix ix_tup (pe_ix ix_tup (pv 1) (pv 5) (fun _ _ => rfl)) (pe_op op_add (pv 6) pe_int) (fun _ _ => rfl)) pe_non (nomark _)))))
    case a => exact pss_one (ps_if (pt_cmpR op_ne (pe_ix ix_tup (pe_ix ix_tup (pv 0) (pv 7) (fun _ _ => rfl)) pe_int (fun _ _ => rfl)) (pe_ix ix_tup (pe_ix ix_tup (pv 0) (pe_ix ix_tup (pe_ix ix_tup (pv 1) (pv 5) (fun _ _ => rfl)) (pe_op op_add (pv 6) pe_int) (fun _ _ => rfl)) (fun _ _ => rfl)) pe_int (fun _ _ => rfl)) (nomark _))
        (pss_one (ps_expr (pe_bm PySem.F.plainAttrs_list PySem.F.slot_list_append PySem.F.type_list_append mt_append (pv 4) (pa_cons (pe_tup (pa_cons (pe_tup (pa_cons (pv 5) (pa_cons (pv 6) pa_nil))) (pa_cons pe_str pa_nil))) pa_nil)))) pss_nil)
    case e => exact pss_nil
  case sem =>
    intro D mm i j ds G hmm hi hj hds g k
    have ht' := ht.up g.same
    have hF' := hF.up g.same
    have hin : inside rs c (i : Int) (j : Int) := ⟨by omega, by omega, by omega, by omega⟩
    have k0 : cls keys rs c (i : Int) (j : Int) 0 1 1 3 = false → D.nx [some t, some v, some (.int (rs.length : Int)), some (.int (c : Int)), some (.ref mm), some (.int (i : Int)), some (.int (j : Int)), some (cellV rs i j)] G := fun e => k G (by rw [e]; simpa using g)
    have k1 : cls keys rs c (i : Int) (j : Int) 0 1 1 3 = true → ∀ G', Grow H0 mm (ds ++ [entry (i : Int) (j : Int) "east"]) G' → D.nx [some t, some v, some (.int (rs.length : Int)), some (.int (c : Int)), some (.ref mm), some (.int (i : Int)), some (.int (j : Int)), some (cellV rs i j)] G' := fun e G' g' => k G' (by rw [e]; simpa using g')
    clear k
    rcases al i j hi hj with hn | ⟨x, hx, x0, x1⟩
    · have e : cls keys rs c (i : Int) (j : Int) 0 1 1 3 = false := by
        unfold cls
        rw [edge_non (i := (i : Int)) (j := (j : Int)) (by simpa using hn)]; rfl
      have k0' := k0 e
      rw [hn] at k0' ⊢
      exact ⟨_, rfl, rfl, _, rfl, iteF (iteF k0')⟩
    · have ee : edgeO keys rs c (i : Int) (j : Int) 1 = some (colK keys x 1) := edge_some hin (by simpa using hx) x0 x1
      rw [hx] at k0 k1 ⊢
      refine ⟨_, rfl, rfl, _, rfl, iteT ?_⟩
      refine ⟨_, rfl, _, _, rfl, rfl, _, rfl, _, _, rfl, rfl, _, rfl, ?_⟩
      by_cases hb : j + 1 < c
      · rw [decide_eq_true (show (j : Int) + 1 < (c : Int) by omega)]
        refine iteT ?_
        obtain ⟨fb, fys, rb, rfl, ef, a1, er, a2⟩ := cell_get (i := i) (j := (j + 1)) hF' ev hi hb
        refine ⟨_, rfl, _, rfl, fb, fys, _, .ref rb, rfl, rfl, SqT.of ef, a1, _, rfl, _, _, rfl, rfl, rb, _, _, _, rfl, rfl, SqT.of er, a2, rfl, _, rfl, ?_⟩
        have hin2 : inside rs c ((i : Int) + 0) ((j : Int) + 1) := ⟨by omega, by omega, by omega, by omega⟩
        have tn : cellV rs (((i : Int) + 0)).toNat (((j : Int) + 1)).toNat = cellV rs i (j + 1) := rfl
        rcases al i (j + 1) hi hb with hn2 | ⟨y, hy, y0, y1⟩
        · have e : cls keys rs c (i : Int) (j : Int) 0 1 1 3 = false := by
            unfold cls
            rw [edge_non (i := ((i : Int) + 0)) (j := ((j : Int) + 1)) (by rw [tn]; exact hn2)]; exact clash_none
          rw [hn2]
          exact iteF (k0 e)
        · have e2 : edgeO keys rs c ((i : Int) + 0) ((j : Int) + 1) 3 = some (colK keys y 3) := edge_some hin2 (by rw [tn]; exact hy) y0 y1
          have hne : (!decide (cellV rs i (j + 1) = V.non)) = true := by rw [hy]; rfl
          rw [hne]
          refine iteT ?_
          obtain ⟨ta, txs, kb, xs, rfl, et, _, t1, ek, t2⟩ := ht'.at x0 x1 (s := 1) (by decide)
          obtain ⟨ta', txs', kb2, xs2, ea, et', _, t1', ek', t2'⟩ := ht'.at y0 y1 (s := 3) (by decide)
          cases ea
          rw [et] at et'
          cases et'
          refine ⟨_, rfl, _, rfl, ta, txs, x, .ref kb, rfl, rfl, SqT.of et, t1, kb, xs, _, _, rfl, rfl, SqT.of ek, t2, _, rfl, _, rfl, _, rfl, fb, fys, _, .ref rb, rfl, rfl, SqT.of ef, a1, _, rfl, _, _, rfl, rfl, rb, _, _, _, rfl, rfl, SqT.of er, a2, ta, txs, y, .ref kb2, rfl, hy, SqT.of et, t1', kb2, xs2, _, _, rfl, rfl, SqT.of ek', t2', rfl, _, rfl, ?_⟩
          have ec : cls keys rs c (i : Int) (j : Int) 0 1 1 3 = decide (colK keys x 1 ≠ colK keys y 3) := by
            unfold cls
            rw [ee, e2]; rfl
          by_cases hq : colK keys x 1 = colK keys y 3
          · refine iteNS (by rw [hq]) (k0 ?_)
            rw [ec, hq]; simp
          · have h1 : (!decide (V.int (colK keys x 1) = V.int (colK keys y 3))) = true := by
              rw [decide_eq_false (fun z => hq (by injection z))]; rfl
            rw [h1]
            refine iteT ?_
            obtain ⟨zs0, ez0, rz0⟩ := g.at_
            refine ⟨_, rfl, .inl ⟨rfl, _, SqL.of ez0⟩, _, rfl, _, rfl, small (show 2 ≤ 1000 by decide), fun pb hpb => ⟨small (show 2 ≤ 1000 by decide), fun tb htb => ?_⟩⟩
            have n1 := same_new hpb (.tup [.int (i : Int), .int (j : Int)])
            have n2 := same_new htb (.tup [.ref pb, .str "east"])
            have g2 := (g.up n1).up n2
            obtain ⟨zs, ez, rz⟩ := g2.at_
            obtain ⟨g3, _⟩ := g2.app hmm ez (v := .ref tb) (d := entry (i : Int) (j : Int) "east") (.tup upd_same (.cons (.tup (n2 _ _ upd_same) (.cons (.int _) (.cons (.int _) .nil))) (.cons (.str _) .nil))) rfl
            refine ⟨mm, zs, _, rfl, rfl, ez, small1000 (by rw [rz.length]; omega), k1 ?_ _ g3⟩
            rw [ec]; exact decide_eq_true hq
      · rw [decide_eq_false (show ¬ ((j : Int) + 1 < (c : Int)) by omega)]
        refine iteF (iteF (k0 ?_))
        unfold cls
        rw [edge_out (i := ((i : Int) + 0)) (j := ((j : Int) + 1)) (by rintro ⟨h1, h2, h3, h4⟩; omega)]; exact clash_none

theorem lc_south {keys : List (List Int)} {rs : List (List V)} {c : Nat} {t v : V} {H H0 : Hp} {cdv : Value} {A : Around} {outer : List Env} {s : Shared} {E : XK} (ht : Tls H0 t keys) (hF : Flr H0 v rs) (ev : Even c rs) (al : AllLie keys.length rs c) :
    ∃ ts : TS, PS (lcX P w K mg base f cdv A outer s H E) (inB.getD 2 noS) ts ∧ ∀ (D : Ends) (mm : Addr) (i j : Nat) (ds : List L2.D) (G : Hp), H0 mm = none → i < rs.length → j < c → ds.length ≤ 1000 → Grow H0 mm ds G →
      (∀ G', Grow H0 mm (ds ++ (if cls keys rs c (i : Int) (j : Int) 1 0 2 0 then [entry (i : Int) (j : Int) "south"] else [])) G' → D.nx [some t, some v, some (.int (rs.length : Int)), some (.int (c : Int)), some (.ref mm), some (.int (i : Int)), some (.int (j : Int)), some (cellV rs i j)] G') →
      ts D [some t, some v, some (.int (rs.length : Int)), some (.int (c : Int)), some (.ref mm), some (.int (i : Int)), some (.int (j : Int)), some (cellV rs i j)] G := by
  refine' ⟨_, ?p, ?sem⟩
  case p =>
    refine' ps_if ?c ?a ?e
    case c => exact PW.pt (pw_and (pt_cmpR op_notN (pv 7) pe_non (nomark _)) (pw_and (pt_cmpR op_lt (pe_op op_add (pv 5) pe_int) (pv 2) (nomark _)) (pw_and1 (pt_cmpR op_notN (pe_ix ix_tup (pe_ix ix_tup (pv 1) (pe_op op_add (pv 5) pe_int) (fun _ _ => rfl)) (pv 6) (fun _ _ => rfl)) pe_non (nomark _)))))
    case a => exact pss_one (ps_if (pt_cmpR op_ne (pe_ix ix_tup (pe_ix ix_tup (pv 0) (pv 7) (fun _ _ => rfl)) pe_int (fun _ _ => rfl)) (pe_ix ix_tup (pe_ix ix_tup (pv 0) (pe_ix ix_tup (pe_ix ix_tup (pv 1) (pe_op op_add (pv 5) pe_int) (fun _ _ => rfl)) (pv 6) (fun _ _ => rfl)) (fun _ _ => rfl)) pe_int (fun _ _ => rfl)) (nomark _))
        (pss_one (ps_expr (pe_bm PySem.F.plainAttrs_list PySem.F.slot_list_append PySem.F.type_list_append mt_append (pv 4) (pa_cons (pe_tup (pa_cons (pe_tup (pa_cons (pv 5) (pa_cons (pv 6) pa_nil))) (pa_cons pe_str pa_nil))) pa_nil)))) pss_nil)
    case e => exact pss_nil
  case sem =>
    intro D mm i j ds G hmm hi hj hds g k
    have ht' := ht.up g.same
    have hF' := hF.up g.same
    have hin : inside rs c (i : Int) (j : Int) := ⟨by omega, by omega, by omega, by omega⟩
    have k0 : cls keys rs c (i : Int) (j : Int) 1 0 2 0 = false → D.nx [some t, some v, some (.int (rs.length : Int)), some (.int (c : Int)), some (.ref mm), some (.int (i : Int)), some (.int (j : Int)), some (cellV rs i j)] G := fun e => k G (by rw [e]; simpa using g)
    have k1 : cls keys rs c (i : Int) (j : Int) 1 0 2 0 = true → ∀ G', Grow H0 mm (ds ++ [entry (i : Int) (j : Int) "south"]) G' → D.nx [some t, some v, some (.int (rs.length : Int)), some (.int (c : Int)), some (.ref mm), some (.int (i : Int)), some (.int (j : Int)), some (cellV rs i j)] G' := fun e G' g' => k G' (by rw [e]; simpa using g')
    clear k
    rcases al i j hi hj with hn | ⟨x, hx, x0, x1⟩
    · have e : cls keys rs c (i : Int) (j : Int) 1 0 2 0 = false := by
        unfold cls
        rw [edge_non (i := (i : Int)) (j := (j : Int)) (by simpa using hn)]; rfl
      have k0' := k0 e
      rw [hn] at k0' ⊢
      exact ⟨_, rfl, rfl, _, rfl, iteF (iteF k0')⟩
    · have ee : edgeO keys rs c (i : Int) (j : Int) 2 = some (colK keys x 2) := edge_some hin (by simpa using hx) x0 x1
      rw [hx] at k0 k1 ⊢
      refine ⟨_, rfl, rfl, _, rfl, iteT ?_⟩
      refine ⟨_, rfl, _, _, rfl, rfl, _, rfl, _, _, rfl, rfl, _, rfl, ?_⟩
      by_cases hb : i + 1 < rs.length
      · rw [decide_eq_true (show (i : Int) + 1 < (rs.length : Int) by omega)]
        refine iteT ?_
        obtain ⟨fb, fys, rb, rfl, ef, a1, er, a2⟩ := cell_get (i := (i + 1)) (j := j) hF' ev hb hj
        refine ⟨_, rfl, _, rfl, _, _, rfl, rfl, fb, fys, _, .ref rb, rfl, rfl, SqT.of ef, a1, _, rfl, rb, _, _, _, rfl, rfl, SqT.of er, a2, rfl, _, rfl, ?_⟩
        have hin2 : inside rs c ((i : Int) + 1) ((j : Int) + 0) := ⟨by omega, by omega, by omega, by omega⟩
        have tn : cellV rs (((i : Int) + 1)).toNat (((j : Int) + 0)).toNat = cellV rs (i + 1) j := rfl
        rcases al (i + 1) j hb hj with hn2 | ⟨y, hy, y0, y1⟩
        · have e : cls keys rs c (i : Int) (j : Int) 1 0 2 0 = false := by
            unfold cls
            rw [edge_non (i := ((i : Int) + 1)) (j := ((j : Int) + 0)) (by rw [tn]; exact hn2)]; exact clash_none
          rw [hn2]
          exact iteF (k0 e)
        · have e2 : edgeO keys rs c ((i : Int) + 1) ((j : Int) + 0) 0 = some (colK keys y 0) := edge_some hin2 (by rw [tn]; exact hy) y0 y1
          have hne : (!decide (cellV rs (i + 1) j = V.non)) = true := by rw [hy]; rfl
          rw [hne]
          refine iteT ?_
          obtain ⟨ta, txs, kb, xs, rfl, et, _, t1, ek, t2⟩ := ht'.at x0 x1 (s := 2) (by decide)
          obtain ⟨ta', txs', kb2, xs2, ea, et', _, t1', ek', t2'⟩ := ht'.at y0 y1 (s := 0) (by decide)
          cases ea
          rw [et] at et'
          cases et'
          refine ⟨_, rfl, _, rfl, ta, txs, x, .ref kb, rfl, rfl, SqT.of et, t1, kb, xs, _, _, rfl, rfl, SqT.of ek, t2, _, rfl, _, rfl, _, rfl, _, _, rfl, rfl, fb, fys, _, .ref rb, rfl, rfl, SqT.of ef, a1, _, rfl, rb, _, _, _, rfl, rfl, SqT.of er, a2, ta, txs, y, .ref kb2, rfl, hy, SqT.of et, t1', kb2, xs2, _, _, rfl, rfl, SqT.of ek', t2', rfl, _, rfl, ?_⟩
          have ec : cls keys rs c (i : Int) (j : Int) 1 0 2 0 = decide (colK keys x 2 ≠ colK keys y 0) := by
            unfold cls
            rw [ee, e2]; rfl
          by_cases hq : colK keys x 2 = colK keys y 0
          · refine iteNS (by rw [hq]) (k0 ?_)
            rw [ec, hq]; simp
          · have h1 : (!decide (V.int (colK keys x 2) = V.int (colK keys y 0))) = true := by
              rw [decide_eq_false (fun z => hq (by injection z))]; rfl
            rw [h1]
            refine iteT ?_
            obtain ⟨zs0, ez0, rz0⟩ := g.at_
            refine ⟨_, rfl, .inl ⟨rfl, _, SqL.of ez0⟩, _, rfl, _, rfl, small (show 2 ≤ 1000 by decide), fun pb hpb => ⟨small (show 2 ≤ 1000 by decide), fun tb htb => ?_⟩⟩
            have n1 := same_new hpb (.tup [.int (i : Int), .int (j : Int)])
            have n2 := same_new htb (.tup [.ref pb, .str "south"])
            have g2 := (g.up n1).up n2
            obtain ⟨zs, ez, rz⟩ := g2.at_
            obtain ⟨g3, _⟩ := g2.app hmm ez (v := .ref tb) (d := entry (i : Int) (j : Int) "south") (.tup upd_same (.cons (.tup (n2 _ _ upd_same) (.cons (.int _) (.cons (.int _) .nil))) (.cons (.str _) .nil))) rfl
            refine ⟨mm, zs, _, rfl, rfl, ez, small1000 (by rw [rz.length]; omega), k1 ?_ _ g3⟩
            rw [ec]; exact decide_eq_true hq
      · rw [decide_eq_false (show ¬ ((i : Int) + 1 < (rs.length : Int)) by omega)]
        refine iteF (iteF (k0 ?_))
        unfold cls
        rw [edge_out (i := ((i : Int) + 1)) (j := ((j : Int) + 0)) (by rintro ⟨h1, h2, h3, h4⟩; omega)]; exact clash_none

theorem clashN_rc {keys : List (List Int)} {rs : List (List V)} {c i j : Nat} (hj : j < c) : clashN keys rs c (i * c + j + 1) = clashN keys rs c (i * c + j) ++ clashAt keys rs c (i : Int) (j : Int) := by
  have h1 : (i * c + j) / c = i := by
    rw [Nat.mul_comm, Nat.mul_add_div (by omega), Nat.div_eq_of_lt hj, Nat.add_zero]
  have h2 : (i * c + j) % c = j := by
    rw [Nat.mul_comm, Nat.mul_add_mod, Nat.mod_eq_of_lt hj]
  rw [clashN_succ, h1, h2]
theorem clashN_len {keys : List (List Int)} {rs : List (List V)} {c : Nat} : ∀ n, (clashN keys rs c n).length ≤ 2 * n
  | 0 => Nat.le_refl _
  | n + 1 => by
    have ih := clashN_len (keys := keys) (rs := rs) (c := c) n
    rw [clashN_succ, List.length_append]
    have : (clashAt keys rs c ((n / c : Nat) : Int) ((n % c : Nat) : Int)).length ≤ 2 := by
      unfold clashAt
      rw [List.length_append]
      split <;> split <;> simp
    omega
theorem ok_lc (F : Fun K "_law_clashes" "_law_clashes" sLClashes f fd) (T : Txt mg) : FnOk P w K mg base CX0 1 f fd ["_law_tiles_here", "_law_floor_here", "_law_rows", "_law_columns"] spLC := by
  refine F.ok scLC (fun vs H Q E h => ?_) (fun cdv A outer s H vs Q E hr h => ?_)
  · obtain ⟨t, v, keys, rs, c, rfl, _⟩ := h; rfl
  obtain ⟨t, v, keys, rs, c, rfl, ht, hF, ev, hr10, hc10, al, q⟩ := h
  obtain ⟨tsE, pE, rE⟩ := lc_east (P := P) (w := w) (K := K) (mg := mg) (base := base) (f := f) (H := H) (cdv := cdv) (A := A) (outer := outer) (s := s) (E := E) ht hF ev al
  obtain ⟨tsS, pS, rS⟩ := lc_south (P := P) (w := w) (K := K) (mg := mg) (base := base) (f := f) (H := H) (cdv := cdv) (A := A) (outer := outer) (s := s) (E := E) ht hF ev al
  refine' ⟨_, ?b, ?fin⟩
  case b =>
    refine' pss_cons ?s1 ?r1
    case s1 => exact ps_set (i := 4) scLC.nd rfl (Or.inl rfl) (pe_lst pa_nil)
    case r1 =>
      refine' pss_cons ?s2 ?r2
      case s2 =>
        refine' ps_for PassesOwn.never rfl (pi_range1 rfl T.range (pa_cons (pv 2) pa_nil)) (pg_name (i := 5) scLC.nd rfl (Or.inl rfl)) (pss_one (ps_for PassesOwn.never rfl (pi_range1 rfl T.range (pa_cons (pv 3) pa_nil)) (pg_name (i := 6) scLC.nd rfl (Or.inl rfl)) ?bd))
        case bd =>
          refine' pss_cons ?b1 (pss_cons pE (pss_one pS))
          case b1 => exact ps_set (i := 7) scLC.nd rfl (Or.inl rfl) (pe_ix ix_tup (pe_ix ix_tup (pv 1) (pv 5) (fun _ _ => rfl)) (pv 6) (fun _ _ => rfl))
      case r2 =>
        refine' pss_one ?s3
        case s3 => exact ps_ret (pv 4)
  case fin =>
    refine ⟨small (show 0 ≤ 1000 by decide), fun mm hmm => ?_⟩
    have s1 := same_new hmm (.lst [])
    refine ⟨_, rfl, (rs.length : Int), rfl, by omega, by omega, for_range (lo := 0) (n := ((rs.length : Int)).toNat)
      (fun i σ Hx => ∃ v5 v6 v7 : Option V, σ = [some t, some v, some (.int (rs.length : Int)), some (.int (c : Int)), some (.ref mm), v5, v6, v7] ∧ Grow H mm (clashN keys rs c (i * c)) Hx)
      ⟨none, none, none, rfl, ⟨s1, ⟨[], upd_same, by rw [Nat.zero_mul]; exact .nil⟩, by rw [Nat.zero_mul]; rfl⟩⟩ ?_ ?_⟩
    · rintro i σ Hx hi ⟨v5, v6, v7, rfl, g⟩
      rw [Int.toNat_natCast] at hi
      refine ⟨_, rfl, (c : Int), rfl, by omega, by omega, for_range (lo := 0) (n := ((c : Int)).toNat)
        (fun j σ Hx => ∃ v6 v7 : Option V, σ = [some t, some v, some (.int (rs.length : Int)), some (.int (c : Int)), some (.ref mm), some (.int (i : Int)), v6, v7] ∧ Grow H mm (clashN keys rs c (i * c + j)) Hx)
        ⟨v6, v7, by rw [Int.zero_add]; rfl, by rw [Nat.add_zero]; exact g⟩ ?_ ?_⟩
      · rintro j σ Hy hj ⟨v6, v7, rfl, g⟩
        rw [Int.toNat_natCast] at hj
        obtain ⟨fb, fys, rb, rfl, ef, a1, er, a2⟩ := cell_get (i := i) (j := j) (hF.up g.same) ev hi hj
        rw [Int.zero_add]
        refine ⟨_, rfl, _, rfl, fb, fys, _, .ref rb, rfl, rfl, SqT.of ef, a1, _, rfl, rb, _, _, _, rfl, rfl, SqT.of er, a2, ?_⟩
        have bnd : i * c + j ≤ 100 := by
          have : i * c ≤ 9 * 10 := Nat.mul_le_mul (by omega) hc10
          omega
        have l0 := clashN_len (keys := keys) (rs := rs) (c := c) (i * c + j)
        refine rE _ mm i j _ Hy hmm hi hj (by omega) g fun G1 g1 => ?_
        refine rS _ mm i j _ G1 hmm hi hj ?_ g1 fun G2 g2 => ?_
        · rw [List.length_append]
          have : (if cls keys rs c (i : Int) (j : Int) 0 1 1 3 then [entry (i : Int) (j : Int) "east"] else []).length ≤ 1 := by split <;> simp
          omega
        · refine ⟨_, _, rfl, ?_⟩
          rw [← Nat.add_assoc, clashN_rc hj]
          unfold clashAt
          rw [← List.append_assoc]
          exact g2
      · rintro σ Hy ⟨v6, v7, rfl, g⟩
        rw [Int.toNat_natCast] at g
        exact ⟨_, _, _, rfl, by rw [Nat.succ_mul]; exact g⟩
    · rintro σ Hx ⟨v5, v6, v7, rfl, g⟩
      rw [Int.toNat_natCast] at g
      obtain ⟨zs, ez, rz⟩ := g.at_
      exact ⟨_, rfl, q mm Hx g.same (.lst ez rz)⟩
end
end K3

set_option Elab.async false
set_option linter.all false
set_option maxRecDepth 100000
set_option maxHeartbeats 1000000
namespace K3
open PySem L2
/-! ### the fills as the law finds them -/
def intsV (s : List Int) : List V := s.map V.int
def wantB (want : V) (k : Nat) : Bool := decide (want = .non) || decide (want = .int (k : Int))
def westB (keys : List (List Int)) (c n : Nat) (s : List Int) (k : Nat) : Bool := !(decide (0 < n % c)) || decide (colK keys (s.getD (n - 1) 0) 1 = colK keys (k : Int) 3)
def northB (keys : List (List Int)) (c n : Nat) (s : List Int) (k : Nat) : Bool := !(decide (c ≤ n)) || decide (colK keys (s.getD (n - c) 0) 2 = colK keys (k : Int) 0)
def fitB (keys : List (List Int)) (c n : Nat) (want : V) (s : List Int) (k : Nat) : Bool := (wantB want k && westB keys c n s k) && northB keys c n s k
def ext (keys : List (List Int)) (c n : Nat) (want : V) (s : List Int) (m : Nat) : List (List Int) := ((List.range m).filter (fitB keys c n want s)).map fun (k : Nat) => s ++ [(k : Int)]
def stepL (keys : List (List Int)) (c n : Nat) (want : V) (made : List (List Int)) : List (List Int) := made.flatMap fun s => ext keys c n want s keys.length
def fillsN (keys : List (List Int)) (c : Nat) (wanted : List V) : Nat → List (List Int)
  | 0 => [[]]
  | n + 1 => stepL keys c n (wanted.getD n .non) (fillsN keys c wanted n)
theorem ext_len {keys : List (List Int)} {c n : Nat} {want : V} {s : List Int} {m : Nat} : (ext keys c n want s m).length ≤ m := by
  unfold ext
  rw [List.length_map]
  have := List.length_filter_le (fitB keys c n want s) (List.range m)
  rw [List.length_range] at this
  exact this
theorem ext_succ {keys : List (List Int)} {c n : Nat} {want : V} {s : List Int} {m : Nat} : ext keys c n want s (m + 1) = ext keys c n want s m ++ (if fitB keys c n want s m then [s ++ [(m : Int)]] else []) := by
  unfold ext
  rw [List.range_succ, List.filter_append, List.map_append, List.filter_cons]
  split <;> simp
theorem step_len {keys : List (List Int)} {c n : Nat} {want : V} : ∀ {made : List (List Int)}, (stepL keys c n want made).length ≤ made.length * keys.length
  | [] => by unfold stepL; simp
  | s :: made => by
    have ih := step_len (keys := keys) (c := c) (n := n) (want := want) (made := made)
    unfold stepL at ih ⊢
    rw [List.flatMap_cons, List.length_append, List.length_cons, Nat.succ_mul]
    have := ext_len (keys := keys) (c := c) (n := n) (want := want) (s := s) (m := keys.length)
    omega
theorem step_snoc {keys : List (List Int)} {c n : Nat} {want : V} {made : List (List Int)} {s : List Int} : stepL keys c n want (made ++ [s]) = stepL keys c n want made ++ ext keys c n want s keys.length := by
  unfold stepL
  rw [List.flatMap_append, List.flatMap_cons, List.flatMap_nil, List.append_nil]
theorem fills_len {keys : List (List Int)} {c : Nat} {wanted : List V} (h4 : keys.length ≤ 4) : ∀ n, (fillsN keys c wanted n).length ≤ 4 ^ n
  | 0 => Nat.le_refl _
  | n + 1 => by
    have ih := fills_len (c := c) (wanted := wanted) h4 n
    have := step_len (keys := keys) (c := c) (n := n) (want := wanted.getD n .non) (made := fillsN keys c wanted n)
    exact Nat.le_trans this (by rw [Nat.pow_succ]; exact Nat.mul_le_mul ih h4)
theorem fills_mem {keys : List (List Int)} {c : Nat} {wanted : List V} : ∀ n, ∀ s ∈ fillsN keys c wanted n, s.length = n ∧ ∀ x ∈ s, 0 ≤ x ∧ x < (keys.length : Int)
  | 0, s, h => by
    have : s = [] := by simpa [fillsN] using h
    subst this
    exact ⟨rfl, fun _ z => nomatch z⟩
  | n + 1, s, h => by
    unfold fillsN stepL at h
    obtain ⟨s0, h0, h1⟩ := List.mem_flatMap.mp h
    unfold ext at h1
    obtain ⟨k, hk, rfl⟩ := List.mem_map.mp h1
    obtain ⟨hl, hx⟩ := fills_mem n s0 h0
    have hk' := List.mem_range.mp (List.mem_filter.mp hk).1
    refine ⟨by rw [List.length_append, hl]; rfl, fun x hx' => ?_⟩
    rcases List.mem_append.mp hx' with z | z
    · exact hx x z
    · have : x = (k : Int) := by simpa using z
      subst this
      omega
structure FSt (H : Hp) (wl ml ll : Addr) (wanted zs : List V) (made out : List (List Int)) (G : Hp) : Prop where
  same : Same H G
  ew : G wl = some (.lst wanted)
  em : G ml = some (.lst zs)
  tm : TupsAt G zs (made.map intsV)
  el : ∃ ls, G ll = some (.lst ls) ∧ TupsAt G ls (out.map intsV)
theorem FSt.up {H : Hp} {wl ml ll : Addr} {wanted zs : List V} {made out : List (List Int)} {G G' : Hp} (h : FSt H wl ml ll wanted zs made out G) (s : Same G G') : FSt H wl ml ll wanted zs made out G' := by
  obtain ⟨a, b, c, d, ls, e, f⟩ := h
  exact ⟨a.trans s, s _ _ b, s _ _ c, d.up fun b xs z => s _ _ z, ls, s _ _ e, f.up fun b xs z => s _ _ z⟩
theorem FSt.app {H : Hp} {wl ml ll : Addr} {wanted zs : List V} {made out : List (List Int)} {G : Hp} (h : FSt H wl ml ll wanted zs made out G) (hn : H ll = none) (nw : wl ≠ ll) (nm : ml ≠ ll) {ls : List V} (el : G ll = some (.lst ls)) {tb : Addr} {s : List Int} (et : G tb = some (.tup (intsV s))) :
    FSt H wl ml ll wanted zs made (out ++ [s]) (upd G ll (.lst (ls ++ [.ref tb]))) ∧ ∀ b xs, G b = some (.tup xs) → (upd G ll (.lst (ls ++ [.ref tb]))) b = some (.tup xs) := by
  obtain ⟨a, b, c, d, ls', e, f⟩ := h
  rw [el] at e; cases e
  have nt := not_lst_tup (o := .lst (ls ++ [.ref tb])) el
  refine ⟨⟨same_upd hn a _, by rw [upd_ne nw]; exact b, by rw [upd_ne nm]; exact c, d.up nt, ls ++ [.ref tb], upd_same, ?_⟩, nt⟩
  rw [List.map_append]
  exact TupsAt.snoc ⟨tb, rfl, nt _ _ et⟩ (f.up nt)
theorem last_at {s : List Int} {n : Nat} (hl : s.length = n) (hn : 1 ≤ n) : atI (intsV s) (-1) = some (.int (s.getD (n - 1) 0)) := by
  unfold atI ixN intsV
  rw [List.length_map, if_neg (by omega), if_pos (by omega)]
  have e : (-1 + (s.length : Int)).toNat = n - 1 := by omega
  rw [e]
  show (s.map V.int)[n - 1]? = _
  rw [List.getElem?_map, List.getElem?_eq_getElem (by omega)]
  simp [List.getD, show n - 1 < s.length by omega]
theorem get_at {s : List Int} {j : Nat} (hj : j < s.length) : atI (intsV s) (j : Int) = some (.int (s.getD j 0)) := by
  refine atI_nat ?_
  unfold intsV
  rw [List.getElem?_map, List.getElem?_eq_getElem hj]
  simp [List.getD, hj]
theorem getD_lie {s : List Int} {n j : Nat} (h : ∀ x ∈ s, 0 ≤ x ∧ x < (n : Int)) (hj : j < s.length) : 0 ≤ s.getD j 0 ∧ s.getD j 0 < (n : Int) := by
  have : s.getD j 0 = s[j] := by simp [List.getD, hj]
  rw [this]
  exact h _ (List.getElem_mem hj)
abbrev nmF : List Str := ["_law_tiles_here", "_law_floor_here", "_law_columns", "_law_wanted", "_law_row", "_law_made", "_law_at", "_law_want", "_law_longer", "_law_some", "_law_number", "_law_tile", "_law_is_fit"]
theorem scFills : FnScope nmF ["_law_tiles_here", "_law_floor_here"] (defScope sFills) := ⟨rfl, rfl, rfl, by decide +kernel, rfl, by decide +kernel, by decide +kernel⟩
abbrev fB1 : List Stmt := forBody ((defBody sFills).getD 4 noS)
abbrev fB2 : List Stmt := forBody (fB1.getD 1 noS)
abbrev fB3 : List Stmt := forBody (fB2.getD 0 noS)
abbrev fX (P : Program) (w : World) (K : PySem.W.Frag) (mg : Str → Option Value) (base : Heap) (f : Addr) (cdv : Value) (A : Around) (outer : List Env) (s : Shared) (H : Hp) (E : XK) : Cx :=
  (cxOf CX0 P w K mg base nmF "_law_fills" (defScope sFills) f cdv A outer s H E).nox
section
variable {P : Program} {w : World} {K : PySem.W.Frag} {mg : Str → Option Value} {base : Heap} {f : Addr} {fd : FuncData} {H : Hp} {cdv : Value} {A : Around} {outer : List Env} {s : Shared} {E : XK}
theorem f_west : ∃ ts : TS, PS (fX P w K mg base f cdv A outer s H E) (fB3.getD 1 noS) ts ∧ ∀ (D : Ends) (keys : List (List Int)) (t v want : V) (wl ml ll sb kb : Addr) (xs : List V) (v4 : Option V) (c n k : Nat) (so : List Int) (b : Bool) (G : Hp), Tls G t keys → 1 ≤ c → so.length = n → (∀ x ∈ so, 0 ≤ x ∧ x < (keys.length : Int)) → G sb = some (.tup (intsV so)) → G kb = some (.tup xs) → atI xs 3 = some (.int (colK keys (k : Int) 3)) →
    D.nx [some t, some v, some (.int (c : Int)), some (.ref wl), v4, some (.ref ml), some (.int (n : Int)), some want, some (.ref ll), some (.ref sb), some (.int (k : Int)), some (.ref kb), some (.bl (b && westB keys c n so k))] G →
    ts D [some t, some v, some (.int (c : Int)), some (.ref wl), v4, some (.ref ml), some (.int (n : Int)), some want, some (.ref ll), some (.ref sb), some (.int (k : Int)), some (.ref kb), some (.bl b)] G := by
  refine' ⟨_, ?p, ?sem⟩
  case p =>
    refine' ps_if ?c ?a ?e
    case c => exact PW.pt (pw_and (pt_cmpR op_gt (pe_op op_mod (pv 6) (pv 2)) pe_int (nomark _)) (pw_and1 (pt_cmpR op_ne (pe_ix ix_tup (pe_ix ix_tup (pv 0) (pe_ix ix_tup (pv 9) (pe_un un_neg pe_int) (fun _ _ => rfl)) (fun _ _ => rfl)) pe_int (fun _ _ => rfl)) (pe_ix ix_tup (pv 11) pe_int (fun _ _ => rfl)) (nomark _))))
    case a => exact pss_one (ps_set (i := 12) scFills.nd rfl (Or.inl rfl) pe_bl)
    case e => exact pss_nil
  case sem =>
    intro D keys t v want wl ml ll sb kb xs v4 c n k so b G ht hc hl hx es ek a3 hk
    refine ⟨_, rfl, _, rfl, _, _, rfl, rfl, by omega, _, _, rfl, rfl, _, rfl, ?_⟩
    have em : (n : Int) % (c : Int) = ((n % c : Nat) : Int) := rfl
    by_cases hm : 0 < n % c
    · rw [decide_eq_true (show (0 : Int) < (n : Int) % (c : Int) by rw [em]; omega)]
      refine iteT ?_
      have hn : 1 ≤ n := by
        rcases Nat.eq_zero_or_pos n with z | z
        · rw [z, Nat.zero_mod] at hm; omega
        · exact z
      obtain ⟨l0, l1⟩ := getD_lie hx (j := n - 1) (by omega)
      obtain ⟨ta, txs, lb, ys, rfl, et, _, t1, el, t2⟩ := ht.at l0 l1 (s := 1) (by decide)
      refine ⟨_, rfl, _, rfl, _, rfl, sb, _, _, _, rfl, rfl, SqT.of es, last_at hl hn, ta, txs, _, .ref lb, rfl, rfl, SqT.of et, t1, lb, ys, _, _, rfl, rfl, SqT.of el, t2, _, rfl, kb, xs, _, _, rfl, rfl, SqT.of ek, a3, rfl, _, rfl, ?_⟩
      unfold westB at hk
      rw [decide_eq_true hm] at hk
      by_cases hq : colK keys (so.getD (n - 1) 0) 1 = colK keys (k : Int) 3
      · refine iteNS (by rw [hq]) ?_
        rw [decide_eq_true hq] at hk
        simp at hk
        exact hk
      · have h1 : (!decide (V.int (colK keys (so.getD (n - 1) 0) 1) = V.int (colK keys (k : Int) 3))) = true := by
          rw [decide_eq_false (fun z => hq (by injection z))]; rfl
        rw [h1]
        refine iteT ?_
        rw [decide_eq_false hq] at hk
        simp at hk
        exact hk
    · rw [decide_eq_false (show ¬ ((0 : Int) < (n : Int) % (c : Int)) by rw [em]; omega)]
      refine iteF (iteF ?_)
      unfold westB at hk
      rw [decide_eq_false hm] at hk
      simp at hk
      exact hk
theorem f_north : ∃ ts : TS, PS (fX P w K mg base f cdv A outer s H E) (fB3.getD 2 noS) ts ∧ ∀ (D : Ends) (keys : List (List Int)) (t v want : V) (wl ml ll sb kb : Addr) (xs : List V) (v4 : Option V) (c n k : Nat) (so : List Int) (b : Bool) (G : Hp), Tls G t keys → 1 ≤ c → so.length = n → (∀ x ∈ so, 0 ≤ x ∧ x < (keys.length : Int)) → G sb = some (.tup (intsV so)) → G kb = some (.tup xs) → atI xs 0 = some (.int (colK keys (k : Int) 0)) →
    D.nx [some t, some v, some (.int (c : Int)), some (.ref wl), v4, some (.ref ml), some (.int (n : Int)), some want, some (.ref ll), some (.ref sb), some (.int (k : Int)), some (.ref kb), some (.bl (b && northB keys c n so k))] G →
    ts D [some t, some v, some (.int (c : Int)), some (.ref wl), v4, some (.ref ml), some (.int (n : Int)), some want, some (.ref ll), some (.ref sb), some (.int (k : Int)), some (.ref kb), some (.bl b)] G := by
  refine' ⟨_, ?p, ?sem⟩
  case p =>
    refine' ps_if ?c ?a ?e
    case c => exact PW.pt (pw_and (pt_cmpR op_ge (pv 6) (pv 2) (nomark _)) (pw_and1 (pt_cmpR op_ne (pe_ix ix_tup (pe_ix ix_tup (pv 0) (pe_ix ix_tup (pv 9) (pe_op op_sub (pv 6) (pv 2)) (fun _ _ => rfl)) (fun _ _ => rfl)) pe_int (fun _ _ => rfl)) (pe_ix ix_tup (pv 11) pe_int (fun _ _ => rfl)) (nomark _))))
    case a => exact pss_one (ps_set (i := 12) scFills.nd rfl (Or.inl rfl) pe_bl)
    case e => exact pss_nil
  case sem =>
    intro D keys t v want wl ml ll sb kb xs v4 c n k so b G ht hc hl hx es ek a3 hk
    refine ⟨_, rfl, _, rfl, _, _, rfl, rfl, _, rfl, ?_⟩
    by_cases hm : c ≤ n
    · rw [decide_eq_true (show (c : Int) ≤ (n : Int) by omega)]
      refine iteT ?_
      obtain ⟨l0, l1⟩ := getD_lie hx (j := n - c) (by omega)
      obtain ⟨ta, txs, lb, ys, rfl, et, _, t1, el, t2⟩ := ht.at l0 l1 (s := 2) (by decide)
      have ei : (n : Int) - (c : Int) = ((n - c : Nat) : Int) := by omega
      refine ⟨_, rfl, _, rfl, _, rfl, _, rfl, _, _, rfl, rfl, sb, _, _, _, rfl, rfl, SqT.of es, by rw [ei]; exact get_at (by omega), ta, txs, _, .ref lb, rfl, rfl, SqT.of et, t1, lb, ys, _, _, rfl, rfl, SqT.of el, t2, _, rfl, kb, xs, _, _, rfl, rfl, SqT.of ek, a3, rfl, _, rfl, ?_⟩
      unfold northB at hk
      rw [decide_eq_true hm] at hk
      by_cases hq : colK keys (so.getD (n - c) 0) 2 = colK keys (k : Int) 0
      · refine iteNS (by rw [hq]) ?_
        rw [decide_eq_true hq] at hk
        simp at hk
        exact hk
      · have h1 : (!decide (V.int (colK keys (so.getD (n - c) 0) 2) = V.int (colK keys (k : Int) 0))) = true := by
          rw [decide_eq_false (fun z => hq (by injection z))]; rfl
        rw [h1]
        refine iteT ?_
        rw [decide_eq_false hq] at hk
        simp at hk
        exact hk
    · rw [decide_eq_false (show ¬ ((c : Int) ≤ (n : Int)) by omega)]
      refine iteF (iteF ?_)
      unfold northB at hk
      rw [decide_eq_false hm] at hk
      simp at hk
      exact hk
end
end K3

set_option Elab.async false
set_option linter.all false
set_option maxRecDepth 100000
set_option maxHeartbeats 1000000
namespace K3
open PySem L2
def spFills : Sp := fun vs H Q _ => ∃ (t v : V) (keys : List (List Int)) (rs : List (List V)) (c : Nat), vs = [t, v] ∧ Tls H t keys ∧ keys.length ≤ 4 ∧ Flr H v rs ∧ Even c rs ∧ 1 ≤ c ∧ Nums rs ∧ rs.length * c ≤ 6 ∧
  ∀ l zs H', Same H H' → H' l = some (.lst zs) → TupsAt H' zs ((fillsN keys c rs.flatten (rs.length * c)).map intsV) → Q (.ref l) H'
theorem flat_len {c : Nat} : ∀ {rs : List (List V)}, (∀ x ∈ rs, x.length = c) → rs.flatten.length = rs.length * c
  | [], _ => by simp
  | r :: rs, h => by
    rw [List.flatten_cons, List.length_append, flat_len fun x hx => h x (List.mem_cons_of_mem _ hx), h r List.mem_cons_self, List.length_cons, Nat.succ_mul, Nat.add_comm]
theorem want_iff {want : V} (hw : Num want) {k : Nat} {b : Bool} (hb : b = true ↔ (if false = true then flatD' want ∉ [D.non, D.int (k : Int)] else flatD' want ∈ [D.non, D.int (k : Int)])) : b = wantB want k := by
  rw [if_neg Bool.false_ne_true] at hb
  rw [Bool.eq_iff_iff, hb]
  unfold wantB
  simp only [List.mem_cons, List.not_mem_nil, or_false, Bool.or_eq_true, decide_eq_true_eq]
  rcases hw with rfl | ⟨i, rfl⟩
  · simp [flatD']
  · simp [flatD']
section
variable {P : Program} {w : World} {K : PySem.W.Frag} {mg : Str → Option Value} {base : Heap} {f : Addr} {fd : FuncData}
theorem ok_fills (F : Fun K "_law_fills" "_law_fills" sFills f fd) (T : Txt mg) (tEnu : mg "enumerate" = none) : FnOk P w K mg base CX0 1 f fd ["_law_tiles_here", "_law_floor_here"] spFills := by
  refine F.ok scFills (fun vs H Q E h => ?_) (fun cdv A outer s H vs Q E hr h => ?_)
  · obtain ⟨t, v, keys, rs, c, rfl, _⟩ := h; rfl
  obtain ⟨t, v, keys, rs, c, rfl, ht, hk4, ⟨fb, fys, rfl, ef, tf⟩, ev, hc1, num, h6, q⟩ := h
  have hu := room64 hr
  obtain ⟨tsW, pW, rW⟩ := f_west (P := P) (w := w) (K := K) (mg := mg) (base := base) (f := f) (H := H) (cdv := cdv) (A := A) (outer := outer) (s := s) (E := E)
  obtain ⟨tsN, pN, rN⟩ := f_north (P := P) (w := w) (K := K) (mg := mg) (base := base) (f := f) (H := H) (cdv := cdv) (A := A) (outer := outer) (s := s) (E := E)
  refine' ⟨_, ?b, ?fin⟩
  case b =>
    refine' pss_cons ?s1 ?r1
    case s1 => exact ps_set (i := 2) scFills.nd rfl (Or.inl rfl) (pe_callB call_len_seq rfl T.len PySem.boot_len (pa_cons (pe_ix ix_tup (pv 1) pe_int (fun _ _ => rfl)) pa_nil))
    case r1 =>
      refine' pss_cons ?s2 ?r2
      case s2 => exact ps_set (i := 3) scFills.nd rfl (Or.inl rfl) (pe_lst pa_nil)
      case r2 =>
        refine' pss_cons ?s3 ?r3
        case s3 => exact ps_for PassesOwn.never rfl (pi_tup (pv 1)) (pg_name (i := 4) scFills.nd rfl (Or.inl rfl)) (pss_one (ps_expr (pe_bm PySem.F.plainAttrs_list PySem.F.slot_list_extend PySem.F.type_list_extend mt_extend (pv 3) (pa_cons (pe_callTy call_list_of rfl T.list boot_list (pa_cons (pv 4) pa_nil)) pa_nil))))
        case r3 =>
          refine' pss_cons ?s4 ?r4
          case s4 => exact ps_set (i := 5) scFills.nd rfl (Or.inl rfl) (pe_lst (pa_cons (pe_tup pa_nil) pa_nil))
          case r4 =>
            refine' pss_cons ?s5 ?r5
            case s5 =>
              refine' ps_for PassesOwn.never rfl (pi_enumL (K := K) rfl tEnu (pa_cons (pv 3) pa_nil)) (pg_tup rfl (pgs_cons (pg_name (i := 6) scFills.nd rfl (Or.inl rfl)) (pgs_cons (pg_name (i := 7) scFills.nd rfl (Or.inl rfl)) pgs_nil))) ?bd
              case bd =>
                refine' pss_cons ?b1 ?c1
                case b1 => exact ps_set (i := 8) scFills.nd rfl (Or.inl rfl) (pe_lst pa_nil)
                case c1 =>
                  refine' pss_cons ?b2 ?c2
                  case b2 =>
                    refine' ps_for PassesOwn.never rfl (pi_list (pv 5)) (pg_name (i := 9) scFills.nd rfl (Or.inl rfl)) (pss_one ?lp)
                    case lp =>
                      refine' ps_for PassesOwn.never rfl (pi_enumT (K := K) rfl tEnu (pa_cons (pv 0) pa_nil)) (pg_tup rfl (pgs_cons (pg_name (i := 10) scFills.nd rfl (Or.inl rfl)) (pgs_cons (pg_name (i := 11) scFills.nd rfl (Or.inl rfl)) pgs_nil))) ?inn
                      case inn =>
                        refine' pss_cons ?i1 (pss_cons pW (pss_cons pN (pss_one ?i4)))
                        case i1 => exact ps_set (i := 12) scFills.nd rfl (Or.inl rfl) (pe_cmpR (op_din hu) (pv 7) (pe_tup (pa_cons pe_non (pa_cons (pv 10) pa_nil))) (by with_unfolding_all rfl))
                        case i4 => exact ps_if (pt_val (pv 12)) (pss_one (ps_expr (pe_bm PySem.F.plainAttrs_list PySem.F.slot_list_append PySem.F.type_list_append mt_append (pv 8) (pa_cons (pe_op op_catA (pv 9) (pe_tup (pa_cons (pv 10) pa_nil))) pa_nil)))) pss_nil
                  case c2 =>
                    refine' pss_one ?b3
                    case b3 => exact ps_set (i := 5) scFills.nd rfl (Or.inl rfl) (pv 8)
            case r5 =>
              refine' pss_one ?s6
              case s6 => exact ps_ret (pv 5)
  case fin =>
    have hF : Flr H (.ref fb) rs := ⟨fb, fys, rfl, ef, tf⟩
    have hfl : fys.length = rs.length := tf.length
    have flen : rs.flatten.length = rs.length * c := flat_len ev.row
    have hrl : rs.length ≤ 6 := Nat.le_trans (Nat.le_mul_of_pos_right _ hc1) h6
    obtain ⟨b0, r0, hat, e0, l0⟩ := first_row (b := fb) tf ev
    refine ⟨_, rfl, fb, fys, 0, .ref b0, rfl, rfl, SqT.of ef, hat, b0, r0, rfl, .inr (SqT.of e0), ?_⟩
    rw [l0]
    refine ⟨small (show 0 ≤ 1000 by decide), fun wl hwl => ?_⟩
    have s1 := same_new hwl (.lst [])
    refine ⟨_, rfl, fb, rfl, ⟨_, SqT.of (s1 _ _ ef)⟩, for_tup (xs := fys) (fun i σ G => i ≤ rs.length ∧ ∃ v4 : Option V, σ = [some t, some (.ref fb), some (.int (c : Int)), some (.ref wl), v4, none, none, none, none, none, none, none, none] ∧ Same H G ∧ G wl = some (.lst (rs.take i).flatten))
      ⟨Nat.zero_le _, none, rfl, s1, by rw [List.take_zero]; exact upd_same⟩ ?_ ?_ ?_⟩
    · rintro i σ G _ ⟨_, v4, rfl, sg, eg⟩; exact SqT.of (sg _ _ ef)
    · rintro i x σ G hx ⟨_, v4, rfl, sg, eg⟩
      have hi : i < rs.length := by rw [← hfl]; exact (List.getElem?_eq_some_iff.mp hx).1
      obtain ⟨rb, h1, h2⟩ := tf.at (i := i) (r := rs[i]) (List.getElem?_eq_getElem hi)
      rw [hx] at h1
      cases h1
      refine ⟨_, rfl, .inl ⟨rfl, _, SqL.of eg⟩, _, rfl, rb, rs[i], rfl, .inr (SqT.of (sg _ _ h2)), fun lb hlb => ?_⟩
      have n1 := same_new hlb (.lst rs[i])
      have l1 : (rs.take i).flatten.length + rs[i].length ≤ 1000 := by
        have a1 := flat_len (c := c) (rs := rs.take i) fun x hx => ev.row x (List.mem_of_mem_take hx)
        rw [a1, List.length_take, ev.row _ (List.getElem_mem hi)]
        have : min i rs.length * c ≤ rs.length * c := Nat.mul_le_mul_right _ (Nat.min_le_right _ _)
        have : c ≤ rs.length * c := Nat.le_mul_of_pos_left _ (by omega)
        omega
      refine ⟨wl, lb, _, _, rfl, rfl, n1 _ _ eg, upd_same, small l1, hi, _, rfl, same_upd hwl (sg.trans n1) _, ?_⟩
      rw [upd_same, take_snoc (List.getElem?_eq_getElem hi), List.flatten_append]
      simp
    · rintro σ G ⟨_, v4, rfl, sg, eg⟩
      rw [hfl, List.take_length] at eg
      refine ⟨small (show 0 ≤ 1000 by decide), fun eb heb => ⟨small (show 1 ≤ 1000 by decide), fun ml hml => ?_⟩⟩
      have n1 := same_new heb (.tup [])
      have n2 := same_new hml (.lst [.ref eb])
      have s2 := sg.trans (n1.trans n2)
      refine ⟨_, rfl, wl, rfl, ⟨_, SqL.of (n2 _ _ (n1 _ _ eg))⟩, for_enum (S := SqL K) (xs := rs.flatten) (fun n σ G => ∃ (ml : Addr) (zs : List V) (v6 v7 v8 v9 v10 v11 v12 : Option V), σ = [some t, some (.ref fb), some (.int (c : Int)), some (.ref wl), v4, some (.ref ml), v6, v7, v8, v9, v10, v11, v12] ∧ n ≤ rs.flatten.length ∧ Same H G ∧ G wl = some (.lst rs.flatten) ∧ G ml = some (.lst zs) ∧ TupsAt G zs ((fillsN keys c rs.flatten n).map intsV))
        ⟨ml, [.ref eb], none, none, none, none, none, none, none, rfl, Nat.zero_le _, s2, n2 _ _ (n1 _ _ eg), upd_same, .cons ⟨eb, rfl, n2 _ _ upd_same⟩ .nil⟩ ?_ ?_ ?_⟩
      · rintro n σ G _ ⟨ml, zs, v6, v7, v8, v9, v10, v11, v12, rfl, _, _, ew, _⟩; exact SqL.of ew
      · rintro n want tb σ G hw ⟨ml, zs, v6, v7, v8, v9, v10, v11, v12, rfl, hn, sg, ew, em, tm⟩ htb
        have hn' : n < rs.flatten.length := (List.getElem?_eq_some_iff.mp hw).1
        have ewant : rs.flatten.getD n .non = want := by simp [List.getD, hw]
        have nw : Num want := by
          obtain ⟨r, hr1, hr2⟩ := List.mem_flatten.mp (List.mem_of_getElem? hw)
          exact num r hr1 want hr2
        refine ⟨tb, _, rfl, SqT.of upd_same, rfl, _, _, rfl, _, _, rfl, rfl, ?_⟩
        have n3 := same_new htb (.tup [.int (n : Int), want])
        refine ⟨small (show 0 ≤ 1000 by decide), fun ll hll => ?_⟩
        have n4 := same_new hll (.lst [])
        have n34 := n3.trans n4
        have sg4 := sg.trans n34
        have hll0 : H ll = none := (sg.trans n3).free hll
        have neW : wl ≠ ll := fun z => by rw [← z, n3 _ _ ew] at hll; cases hll
        have neM : ml ≠ ll := fun z => by rw [← z, n3 _ _ em] at hll; cases hll
        have lenM := fills_len (c := c) (wanted := rs.flatten) hk4 n
        have memM := fills_mem (keys := keys) (c := c) (wanted := rs.flatten) n
        have nxt : fillsN keys c rs.flatten (n + 1) = stepL keys c n want (fillsN keys c rs.flatten n) := by
          show stepL keys c n (rs.flatten.getD n .non) _ = _
          rw [ewant]
        rw [nxt]
        generalize hM : fillsN keys c rs.flatten n = made at tm lenM memM
        have hzs : zs.length = made.length := by have := tm.length; rw [List.length_map] at this; exact this
        have h4n : 4 ^ n ≤ 4 ^ 5 := Nat.pow_le_pow_right (by decide) (by omega)
        have h45 : (4 : Nat) ^ 5 = 1024 := by decide
        have st0 : FSt H wl ml ll rs.flatten zs made (stepL keys c n want (made.take 0)) _ := ⟨sg4, n34 _ _ ew, n34 _ _ em, tm.up fun b xs z => n34 _ _ z, [], upd_same, by rw [List.take_zero]; exact .nil⟩
        refine ⟨_, rfl, ml, rfl, ⟨_, SqL.of st0.em⟩, for_list (xs := zs) (fun m σ G => m ≤ made.length ∧ ∃ v9 v10 v11 v12 : Option V, σ = [some t, some (.ref fb), some (.int (c : Int)), some (.ref wl), v4, some (.ref ml), some (.int (n : Int)), some want, some (.ref ll), v9, v10, v11, v12] ∧ FSt H wl ml ll rs.flatten zs made (stepL keys c n want (made.take m)) G)
          ⟨Nat.zero_le _, v9, v10, v11, v12, rfl, st0⟩ ?_ ?_ ?_⟩
        · rintro m σ G _ ⟨_, v9, v10, v11, v12, rfl, st⟩; exact SqL.of st.em
        · rintro m x σ G hx ⟨_, v9, v10, v11, v12, rfl, st⟩
          have hm : m < made.length := by rw [← hzs]; exact (List.getElem?_eq_some_iff.mp hx).1
          obtain ⟨sb, h1, h2⟩ := st.tm.at (i := m) (r := intsV made[m]) (by rw [List.getElem?_map, List.getElem?_eq_getElem hm]; rfl)
          rw [hx] at h1
          cases h1
          have hmem := memM made[m] (List.getElem_mem hm)
          obtain ⟨ta, txs, rfl, et, rts⟩ : ∃ ta txs, t = .ref ta ∧ H ta = some (.tup txs) ∧ Reps H txs (keys.map tileD) := by
            cases ht.rep with
            | @tup a xs ds e r => exact ⟨_, _, rfl, e, r⟩
          have htx : txs.length = keys.length := by rw [rts.length, List.length_map]
          generalize hso : made[m] = so at h2 hmem
          have lenO : (stepL keys c n want (made.take m)).length ≤ 1024 * 4 := by
            refine Nat.le_trans step_len (Nat.mul_le_mul ?_ hk4)
            rw [List.length_take]; omega
          refine ⟨_, rfl, ta, rfl, ⟨_, SqT.of (st.same _ _ et)⟩, for_enum (S := SqT K) (xs := txs) (fun k σ G => k ≤ keys.length ∧ ∃ v10 v11 v12 : Option V, σ = [some (.ref ta), some (.ref fb), some (.int (c : Int)), some (.ref wl), v4, some (.ref ml), some (.int (n : Int)), some want, some (.ref ll), some (.ref sb), v10, v11, v12] ∧ G sb = some (.tup (intsV so)) ∧ FSt H wl ml ll rs.flatten zs made (stepL keys c n want (made.take m) ++ ext keys c n want so k) G)
            ⟨Nat.zero_le _, v10, v11, v12, rfl, h2, by
              have : ext keys c n want so 0 = [] := rfl
              rw [this, List.append_nil]; exact st⟩ ?_ ?_ ?_⟩
          · rintro k σ G _ ⟨_, v10, v11, v12, rfl, _, st⟩; exact SqT.of (st.same _ _ et)
          · rintro k y ub σ G hy ⟨_, v10, v11, v12, rfl, es, st⟩ hub
            have hk : k < keys.length := by rw [← htx]; exact (List.getElem?_eq_some_iff.mp hy).1
            refine ⟨ub, _, rfl, SqT.of upd_same, rfl, _, _, rfl, _, _, rfl, rfl, ?_⟩
            have n5 := same_new hub (.tup [.int (k : Int), y])
            have st5 := st.up n5
            have tl5 : Tls _ (.ref ta) keys := ht.up st5.same
            obtain ⟨ta3, txs3, kb3, xs3, e3, et3, _, t13, ek3, t23⟩ := tl5.at (k := (k : Int)) (by omega) (by omega) (s := 3) (by decide)
            obtain ⟨ta4, txs4, kb4, xs4, e4, et4, _, t14, ek4, t24⟩ := tl5.at (k := (k : Int)) (by omega) (by omega) (s := 0) (by decide)
            cases e3
            cases e4
            rw [et3] at et4
            cases et4
            rw [st5.same _ _ et] at et3
            cases et3
            rw [t13] at t14
            cases t14
            rw [ek3] at ek4
            cases ek4
            rw [atI_nat hy] at t13
            cases t13
            refine ⟨_, rfl, _, rfl, small (show 2 ≤ 1000 by decide), fun wb hwb => ?_⟩
            have n6 := same_new hwb (.tup [.non, .int (k : Int)])
            have st6 := st5.up n6
            refine ⟨flatD' want, [.non, .int (k : Int)], (num_rep nw).1, .inr (.tup upd_same (.cons .non (.cons (.int _) .nil))), D.fit_mono (m := 8) (by decide) (num_rep (H := H) nw).2, rfl, fun b hb => ?_⟩
            cases want_iff nw hb
            have tl6 : Tls _ (.ref ta) keys := ht.up st6.same
            have es6 := n6 _ _ (n5 _ _ es)
            refine rW _ keys (.ref ta) (.ref fb) want wl ml ll sb kb3 xs3 v4 c n k so _ _ tl6 hc1 hmem.1 hmem.2 es6 (n6 _ _ ek3) t23 ?_
            refine rN _ keys (.ref ta) (.ref fb) want wl ml ll sb kb3 xs3 v4 c n k so _ _ tl6 hc1 hmem.1 hmem.2 es6 (n6 _ _ ek3) t24 ?_
            refine ⟨_, rfl, _, rfl, ?_⟩
            show if fitB keys c n want so k = true then _ else _
            have lenE := ext_len (keys := keys) (c := c) (n := n) (want := want) (s := so) (m := k)
            cases hfit : fitB keys c n want so k with
            | false =>
              refine iteF ⟨hk, _, _, _, rfl, es6, ?_⟩
              rw [ext_succ, hfit]
              simpa using st6
            | true =>
              refine iteT ?_
              obtain ⟨ls0, el0, tl0⟩ := st6.el
              refine ⟨_, rfl, .inl ⟨rfl, _, SqL.of el0⟩, _, rfl, _, rfl, small (show 1 ≤ 1000 by decide), fun qb hqb => ?_⟩
              have n7 := same_new hqb (.tup [.int (k : Int)])
              refine ⟨sb, qb, intsV so, [.int (k : Int)], rfl, rfl, n7 _ _ es6, upd_same, small (by unfold intsV; rw [List.length_map, hmem.1]; show n + 1 ≤ 1000; omega), fun cb G8 n8 e8 => ?_⟩
              have n78 := n7.trans n8
              have st8 := st6.up n78
              have e8' : G8 cb = some (.tup (intsV (so ++ [(k : Int)]))) := by
                rw [e8]; unfold intsV; rw [List.map_append]; rfl
              obtain ⟨st9, nt⟩ := st8.app hll0 neW neM (n78 _ _ el0) e8'
              have hl9 : ls0.length < sizeLine := by
                have := tl0.length
                rw [List.length_map, List.length_append] at this
                exact Nat.lt_of_le_of_lt (show ls0.length ≤ 10000 by omega) (by decide)
              refine ⟨ll, ls0, _, rfl, rfl, n78 _ _ el0, hl9, hk, _, _, _, rfl, nt _ _ (n78 _ _ es6), ?_⟩
              rw [ext_succ, hfit, if_pos rfl, ← List.append_assoc]
              exact st9
          · rintro σ G ⟨_, v10, v11, v12, rfl, es, st⟩
            refine ⟨hm, _, _, _, _, rfl, ?_⟩
            rw [htx] at st
            rw [take_snoc (List.getElem?_eq_getElem hm), step_snoc, hso]
            exact st
        · rintro σ G ⟨_, v9, v10, v11, v12, rfl, st⟩
          rw [hzs, List.take_length] at st
          obtain ⟨ls, el, tl⟩ := st.el
          exact ⟨_, rfl, ll, ls, _, _, _, _, _, _, _, rfl, hn', st.same, st.ew, el, tl⟩
      · rintro σ G ⟨ml, zs, v6, v7, v8, v9, v10, v11, v12, rfl, hn, sg, ew, em, tm⟩
        rw [flen] at tm
        exact ⟨_, rfl, q ml zs G sg em tm⟩
end
end K3

set_option Elab.async false
set_option linter.all false
set_option maxRecDepth 100000
set_option maxHeartbeats 600000
namespace K3
open PySem L2
/-! ### right floors -/
theorem div_mod_lt {r c k : Nat} (hk : k < r * c) : k / c < r ∧ k % c < c := by
  have hc : 0 < c := by
    cases c with
    | zero => simp at hk
    | succ c => exact Nat.succ_pos _
  exact ⟨Nat.div_lt_of_lt_mul (by rw [Nat.mul_comm]; exact hk), Nat.mod_lt _ hc⟩
theorem right_of {keys : List (List Int)} {rs : List (List V)} {c : Nat} (cells : ∀ i j, i < rs.length → j < c → ∃ k : Int, cellV rs i j = .int k ∧ 0 ≤ k ∧ k < (keys.length : Int))
    (east : ∀ i j (a b : Int), i < rs.length → j + 1 < c → cellV rs i j = .int a → cellV rs i (j + 1) = .int b → colK keys a 1 = colK keys b 3)
    (south : ∀ i j (a b : Int), i + 1 < rs.length → j < c → cellV rs i j = .int a → cellV rs (i + 1) j = .int b → colK keys a 2 = colK keys b 0) : rightB keys rs c = true := by
  unfold rightB
  rw [Bool.and_eq_true]
  constructor
  · rw [List.all_eq_true]
    intro k hk
    obtain ⟨h1, h2⟩ := div_mod_lt (List.mem_range.mp hk)
    obtain ⟨x, hx, x0, x1⟩ := cells _ _ h1 h2
    unfold okAt cellO
    rw [hx]
    simp only
    rw [if_pos ⟨x0, x1⟩]; rfl
  · rw [decide_eq_true_iff]
    have : ∀ n, n ≤ rs.length * c → clashN keys rs c n = [] := by
      intro n
      induction n with
      | zero => intro _; rfl
      | succ n ih =>
        intro hn
        rw [clashN_succ, ih (by omega), List.nil_append]
        obtain ⟨h1, h2⟩ := div_mod_lt (show n < rs.length * c by omega)
        generalize n / c = i at h1
        generalize n % c = j at h2
        obtain ⟨x, hx, x0, x1⟩ := cells i j h1 h2
        have ex : ∀ s, edgeO keys rs c (i : Int) (j : Int) s = some (colK keys x s) := fun s => edge_some ⟨by omega, by omega, by omega, by omega⟩ (by simpa using hx) x0 x1
        have e1 : cls keys rs c (i : Int) (j : Int) 0 1 1 3 = false := by
          unfold cls
          by_cases hb : j + 1 < c
          · obtain ⟨y, hy, y0, y1⟩ := cells i (j + 1) h1 hb
            rw [ex 1, edge_some (k := y) (i := (i : Int) + 0) (j := (j : Int) + 1) ⟨by omega, by omega, by omega, by omega⟩ hy y0 y1]
            show decide (colK keys x 1 ≠ colK keys y 3) = false
            rw [east i j x y h1 hb hx hy]; simp
          · rw [edge_out (i := (i : Int) + 0) (j := (j : Int) + 1) (by rintro ⟨a, b, c', d⟩; omega)]; exact clash_none
        have e2 : cls keys rs c (i : Int) (j : Int) 1 0 2 0 = false := by
          unfold cls
          by_cases hb : i + 1 < rs.length
          · obtain ⟨y, hy, y0, y1⟩ := cells (i + 1) j hb h2
            rw [ex 2, edge_some (k := y) (i := (i : Int) + 1) (j := (j : Int) + 0) ⟨by omega, by omega, by omega, by omega⟩ hy y0 y1]
            show decide (colK keys x 2 ≠ colK keys y 0) = false
            rw [south i j x y hb h2 hx hy]; simp
          · rw [edge_out (i := (i : Int) + 1) (j := (j : Int) + 0) (by rintro ⟨a, b, c', d⟩; omega)]; exact clash_none
        unfold clashAt
        rw [e1, e2]; rfl
    rw [this _ (Nat.le_refl _)]; rfl
/-- what a fill keeps -/
theorem fills_good {keys : List (List Int)} {c : Nat} {wanted : List V} (hc1 : 1 ≤ c) : ∀ N, ∀ s ∈ fillsN keys c wanted N, ∀ n, n < N → (0 < n % c → colK keys (s.getD (n - 1) 0) 1 = colK keys (s.getD n 0) 3) ∧ (c ≤ n → colK keys (s.getD (n - c) 0) 2 = colK keys (s.getD n 0) 0)
  | 0, s, h, n, hn => by omega
  | N + 1, s, h, n, hn => by
    unfold fillsN stepL at h
    obtain ⟨s0, h0, h1⟩ := List.mem_flatMap.mp h
    unfold ext at h1
    obtain ⟨k, hk, rfl⟩ := List.mem_map.mp h1
    have hl := (fills_mem N s0 h0).1
    have hf := (List.mem_filter.mp hk).2
    have old : ∀ j, j < N → (s0 ++ [(k : Int)]).getD j 0 = s0.getD j 0 := fun j hj => by
      simp [List.getD, List.getElem?_append_left (show j < s0.length by omega)]
    have new : (s0 ++ [(k : Int)]).getD N 0 = (k : Int) := by
      rw [← hl]; simp [List.getD]
    by_cases hnN : n < N
    · obtain ⟨a, b⟩ := fills_good hc1 N s0 h0 n hnN
      rw [old n hnN]
      refine ⟨fun z => ?_, fun z => ?_⟩
      · rw [old (n - 1) (by omega)]; exact a z
      · rw [old (n - c) (by omega)]; exact b z
    · have en : n = N := by omega
      subst en
      rw [new]
      unfold fitB at hf
      simp only [Bool.and_eq_true] at hf
      obtain ⟨⟨_, hw⟩, hno⟩ := hf
      refine ⟨fun z => ?_, fun z => ?_⟩
      · unfold westB at hw
        rw [decide_eq_true z] at hw
        have hn1 : 1 ≤ n := by
          rcases Nat.eq_zero_or_pos n with q | q
          · rw [q, Nat.zero_mod] at z; omega
          · exact q
        rw [old (n - 1) (by omega)]
        simpa using hw
      · unfold northB at hno
        rw [decide_eq_true z] at hno
        rw [old (n - c) (by omega)]
        simpa using hno
structure RightP (keys : List (List Int)) (rs : List (List V)) (c : Nat) : Prop where
  cells : ∀ i j, i < rs.length → j < c → ∃ k : Int, cellV rs i j = .int k ∧ 0 ≤ k ∧ k < (keys.length : Int)
  east : ∀ i j (a b : Int), i < rs.length → j + 1 < c → cellV rs i j = .int a → cellV rs i (j + 1) = .int b → colK keys a 1 = colK keys b 3
  south : ∀ i j (a b : Int), i + 1 < rs.length → j < c → cellV rs i j = .int a → cellV rs (i + 1) j = .int b → colK keys a 2 = colK keys b 0
theorem RightP.b {keys : List (List Int)} {rs : List (List V)} {c : Nat} (h : RightP keys rs c) : rightB keys rs c = true := right_of h.cells h.east h.south
theorem rowsOf_len {xs : List V} {c r : Nat} : (rowsOf xs c r).length = r := by unfold rowsOf; rw [List.length_map, List.length_range]
theorem rows_cell {s : List Int} {c r i j : Nat} (hl : s.length = r * c) (hi : i < r) (hj : j < c) : cellV (rowsOf (intsV s) c r) i j = .int (s.getD (i * c + j) 0) := by
  have hb : i * c + j < s.length := by
    rw [hl]
    have : (i + 1) * c ≤ r * c := Nat.mul_le_mul_right _ hi
    rw [Nat.succ_mul] at this
    omega
  unfold cellV rowsOf intsV
  have e1 : ((List.range r).map fun i => ((s.map V.int).drop (i * c)).take c).getD i [] = ((s.map V.int).drop (i * c)).take c := by
    simp [List.getD, hi]
  rw [e1, List.getD_eq_getElem?_getD, List.getElem?_take, if_pos hj, List.getElem?_drop, List.getElem?_map, List.getElem?_eq_getElem hb, List.getD_eq_getElem?_getD, List.getElem?_eq_getElem hb]
  rfl
theorem fills_right {keys : List (List Int)} {c r : Nat} {wanted : List V} {s : List Int} (hc1 : 1 ≤ c) (h : s ∈ fillsN keys c wanted (r * c)) : RightP keys (rowsOf (intsV s) c r) c := by
  obtain ⟨hl, hx⟩ := fills_mem _ s h
  have hg := fills_good hc1 _ s h
  have bnd : ∀ i j, i < r → j < c → i * c + j < r * c := fun i j hi hj => by
    have : (i + 1) * c ≤ r * c := Nat.mul_le_mul_right _ hi
    rw [Nat.succ_mul] at this
    omega
  refine ⟨fun i j hi hj => ?_, fun i j a b hi hj ha hb => ?_, fun i j a b hi hj ha hb => ?_⟩
  · rw [rowsOf_len] at hi
    exact ⟨_, rows_cell hl hi hj, getD_lie hx (by rw [hl]; exact bnd i j hi hj)⟩
  · rw [rowsOf_len] at hi
    rw [rows_cell hl hi (by omega)] at ha
    rw [rows_cell hl hi hj] at hb
    injection ha with ha
    injection hb with hb
    subst ha hb
    have := (hg (i * c + (j + 1)) (bnd i (j + 1) hi hj)).1 (by rw [Nat.mul_comm, Nat.mul_add_mod, Nat.mod_eq_of_lt hj]; omega)
    exact this
  · rw [rowsOf_len] at hi
    rw [rows_cell hl (by omega) hj] at ha
    rw [rows_cell hl hi hj] at hb
    injection ha with ha
    injection hb with hb
    subst ha hb
    have h1 := (hg ((i + 1) * c + j) (bnd (i + 1) j hi hj)).2 (by rw [Nat.succ_mul]; omega)
    have e : (i + 1) * c + j - c = i * c + j := by rw [Nat.succ_mul]; omega
    rw [e] at h1
    exact h1
theorem part_len {rs : List (List V)} {top left R C : Nat} : (partL rs top left R C).length = min R (rs.length - top) := by
  unfold partL
  rw [List.length_map, List.length_take, List.length_drop]
theorem part_cell {rs : List (List V)} {c top left R C i j : Nat} (hi : i < (partL rs top left R C).length) (hj : j < C) : cellV (partL rs top left R C) i j = cellV rs (top + i) (left + j) := by
  rw [part_len] at hi
  unfold cellV partL
  have hk : top + i < rs.length := by omega
  have e1 : (((rs.drop top).take R).map fun r => (r.drop left).take C).getD i [] = (rs[top + i].drop left).take C := by
    have e0 : (((rs.drop top).take R).map fun r => (r.drop left).take C)[i]? = some ((rs[top + i].drop left).take C) := by
      rw [List.getElem?_map, List.getElem?_take, if_pos (by omega), List.getElem?_drop, List.getElem?_eq_getElem hk]; rfl
    simp only [List.getD, e0, Option.getD_some]
  have e2 : rs.getD (top + i) [] = rs[top + i] := by simp [List.getD, hk]
  rw [e1, e2]
  show ((rs[top + i].drop left).take C).getD j .non = rs[top + i].getD (left + j) .non
  rw [List.getD_eq_getElem?_getD, List.getElem?_take, if_pos hj, List.getElem?_drop, List.getD_eq_getElem?_getD]
theorem RightP.part {keys : List (List Int)} {rs : List (List V)} {c : Nat} (h : RightP keys rs c) {top left R C : Nat} : RightP keys (partL rs top left R C) (min C (c - left)) := by
  refine ⟨fun i j hi hj => ?_, fun i j a b hi hj ha hb => ?_, fun i j a b hi hj ha hb => ?_⟩
  · rw [part_cell (c := c) hi (by omega)]
    rw [part_len] at hi
    exact h.cells _ _ (by omega) (by omega)
  · rw [part_cell (c := c) hi (by omega)] at ha hb
    rw [part_len] at hi
    exact h.east (top + i) (left + j) a b (by omega) (by omega) ha hb
  · rw [part_cell (c := c) (by omega) (by omega)] at ha
    rw [part_cell (c := c) hi (by omega)] at hb
    rw [part_len] at hi
    exact h.south (top + i) (left + j) a b (by omega) (by omega) ha hb
theorem part_even {rs : List (List V)} {c : Nat} (ev : Even c rs) {top left R C : Nat} (ht : top < rs.length) (hR : 1 ≤ R) : Even (min C (c - left)) (partL rs top left R C) := by
  have h1 := ev.most
  have h2 := ev.cols
  refine ⟨by rw [part_len]; omega, by rw [part_len]; omega, by omega, fun x hx => ?_⟩
  unfold partL at hx
  obtain ⟨r, hr, rfl⟩ := List.mem_map.mp hx
  have := ev.row r (List.mem_of_mem_drop (List.mem_of_mem_take hr))
  rw [List.length_take, List.length_drop, this]
theorem part_nums {rs : List (List V)} (n : Nums rs) {top left R C : Nat} : Nums (partL rs top left R C) := by
  intro x hx y hy
  unfold partL at hx
  obtain ⟨r, hr, rfl⟩ := List.mem_map.mp hx
  exact n r (List.mem_of_mem_drop (List.mem_of_mem_take hr)) y (List.mem_of_mem_drop (List.mem_of_mem_take hy))
theorem rowsOf_even {s : List Int} {c r : Nat} (hl : s.length = r * c) (h1 : 1 ≤ r) (h2 : r ≤ 100) (h3 : c ≤ 100) : Even c (rowsOf (intsV s) c r) := by
  refine ⟨by rw [rowsOf_len]; exact h1, by rw [rowsOf_len]; exact h2, h3, fun x hx => ?_⟩
  unfold rowsOf at hx
  obtain ⟨i, hi, rfl⟩ := List.mem_map.mp hx
  have hi' := List.mem_range.mp hi
  unfold intsV
  rw [List.length_take, List.length_drop, List.length_map, hl]
  have : (i + 1) * c ≤ r * c := Nat.mul_le_mul_right _ hi'
  rw [Nat.succ_mul] at this
  omega
theorem rowsOf_nums {s : List Int} {c r : Nat} : Nums (rowsOf (intsV s) c r) := by
  intro x hx y hy
  unfold rowsOf at hx
  obtain ⟨i, hi, rfl⟩ := List.mem_map.mp hx
  obtain ⟨k, _, rfl⟩ := List.mem_map.mp (List.mem_of_mem_drop (List.mem_of_mem_take hy))
  exact .inr ⟨k, rfl⟩
/-! ### full, and the entries as data -/
def noneIn (r : List V) : Bool := r.any fun x => decide (x = V.non)
theorem none_mem {r : List V} (h : ∀ x ∈ r, Num x) : D.non ∈ r.map flatD' ↔ noneIn r = true := by
  unfold noneIn
  rw [List.any_eq_true, List.mem_map]
  constructor
  · rintro ⟨x, hx, e⟩
    refine ⟨x, hx, ?_⟩
    rcases h x hx with rfl | ⟨i, rfl⟩
    · simp
    · cases e
  · rintro ⟨x, hx, e⟩
    have : x = V.non := of_decide_eq_true e
    subst this
    exact ⟨_, hx, rfl⟩
theorem all_ok {n : Nat} {keys : List (List Int)} {rs : List (List V)} {c : Nat} (ev : Even c rs) (al : AllLie keys.length rs c) : (List.range (rs.length * c)).all (okAt keys rs c) = true ↔ ∀ r ∈ rs, noneIn r = false := by
  rw [List.all_eq_true]
  constructor
  · intro h r hr
    rw [Bool.eq_false_iff]
    intro z
    unfold noneIn at z
    obtain ⟨x, hx, e⟩ := List.any_eq_true.mp z
    have ex : x = V.non := of_decide_eq_true e
    subst ex
    obtain ⟨i, hi, rfl⟩ := List.mem_iff_getElem.mp hr
    obtain ⟨j, hj, ej⟩ := List.mem_iff_getElem.mp hx
    rw [ev.row _ (List.getElem_mem hi)] at hj
    have hk : i * c + j < rs.length * c := by
      have : (i + 1) * c ≤ rs.length * c := Nat.mul_le_mul_right _ hi
      rw [Nat.succ_mul] at this
      omega
    have := h _ (List.mem_range.mpr hk)
    have h1 : (i * c + j) / c = i := by rw [Nat.mul_comm, Nat.mul_add_div (by omega), Nat.div_eq_of_lt hj, Nat.add_zero]
    have h2 : (i * c + j) % c = j := by rw [Nat.mul_comm, Nat.mul_add_mod, Nat.mod_eq_of_lt hj]
    unfold okAt at this
    rw [h1, h2] at this
    have ec : cellV rs i j = V.non := by
      unfold cellV
      have e0 : rs.getD i [] = rs[i] := by simp [List.getD, hi]
      rw [e0, List.getD_eq_getElem?_getD, List.getElem?_eq_getElem (by assumption), ej]; rfl
    rw [ec] at this
    simp [cellO] at this
  · intro h k hk
    obtain ⟨h1, h2⟩ := div_mod_lt (List.mem_range.mp hk)
    unfold okAt
    rcases al _ _ h1 h2 with hn | ⟨x, hx, x0, x1⟩
    · have hr : noneIn (rs[k / c]) = true := by
        unfold noneIn
        rw [List.any_eq_true]
        have hl : k % c < rs[k / c].length := by rw [ev.row _ (List.getElem_mem h1)]; exact h2
        refine ⟨rs[k / c][k % c], List.getElem_mem hl, ?_⟩
        have : cellV rs (k / c) (k % c) = rs[k / c][k % c] := by
          unfold cellV
          simp [List.getD, h1, hl]
        rw [← this, hn]; rfl
      rw [h _ (List.getElem_mem h1)] at hr
      cases hr
    · rw [hx]
      unfold cellO
      simp only
      rw [if_pos ⟨x0, x1⟩]; rfl
theorem entries_fit {keys : List (List Int)} {rs : List (List V)} {c : Nat} : ∀ n, D.fits 8 (clashN keys rs c n) = true := by
  intro n
  rw [D.fits_iff]
  intro d hd
  unfold clashN at hd
  obtain ⟨k, _, hk⟩ := List.mem_flatMap.mp hd
  unfold clashAt at hk
  have fe : ∀ i j : Int, (entry i j "east").fit 8 = true := fun i j => by
    have : PyData.strOk ("east" : Str) = true := by decide +kernel
    simp [entry, D.fit, D.fits, this]
  have fs : ∀ i j : Int, (entry i j "south").fit 8 = true := fun i j => by
    have : PyData.strOk ("south" : Str) = true := by decide +kernel
    simp [entry, D.fit, D.fits, this]
  rcases List.mem_append.mp hk with h | h
  · split at h
    · have := List.mem_singleton.mp h
      rw [this]; exact fe _ _
    · simp at h
  · split at h
    · have := List.mem_singleton.mp h
      rw [this]; exact fs _ _
    · simp at h
end K3

set_option Elab.async false
set_option linter.all false
set_option maxRecDepth 100000
set_option maxHeartbeats 1000000
namespace K3
open PySem L2
abbrev nmL : List Str := ["_law_script", "_law_tiles_here", "_law_rows", "_law_columns", "_law_floor_here", "_law_due", "_law_is_all", "_law_some", "_law_whole", "_law_top", "_law_left", "_law_sides_here"]
theorem scL : FnScope nmL ["_law_script"] (defScope sLaw) := ⟨rfl, rfl, rfl, by decide +kernel, rfl, by decide +kernel, by decide +kernel⟩
def spLaw (K : PySem.W.Frag) : Sp := fun vs H Q _ => ∃ (a : Addr) (ns : List Int), vs = [.ref a] ∧ SqL K H a (ns.map V.int) ∧ ∀ H', Q (.bl true) H'
section
variable {X : Cx} {es : List Expr} {te : TE} {t : TA}
theorem pa_T {l : List Expr} {k : Nat} {pos : Pos} (ha : PE X (.Tuple l k pos) te) (hr : PA X es t) : PA X (.Tuple l k pos :: es) (tCons te t) := pa_cons ha hr
theorem pa_C {c : Const} {k : Nat} {pos : Pos} (ha : PE X (.Constant c k pos) te) (hr : PA X es t) : PA X (.Constant c k pos :: es) (tCons te t) := pa_cons ha hr
theorem pa_N {x : Str} {pos : Pos} (ha : PE X (.Name x pos) te) (hr : PA X es t) : PA X (.Name x pos :: es) (tCons te t) := pa_cons ha hr
theorem pa_X {g : Expr} {l : List Expr} {kw : List Keyword} {pos : Pos} (ha : PE X (.Call g l kw pos) te) (hr : PA X es t) : PA X (.Call g l kw pos :: es) (tCons te t) := pa_cons ha hr
theorem pa_B {a b : Expr} {op : Operator} {pos : Pos} (ha : PE X (.BinOp a op b pos) te) (hr : PA X es t) : PA X (.BinOp a op b pos :: es) (tCons te t) := pa_cons ha hr
end
/-- [x for x in t if p(x)], t a tuple -/
theorem comp_fltT {K : PySem.W.Frag} {H1 : Hp} {a : Addr} {xs : List V} {Q : VK} {tt : TT} {te : TE} {cs : List (Option V)} (p : Nat → Bool) (e : H1 a = some (.tup xs)) (hz : xs.length ≤ 1000)
    (test : ∀ i x H' (R : Bool → Hp → Prop), xs[i]? = some x → Same H1 H' → (∀ H3, Same H1 H3 → R (p i) H3) → tt (some x :: cs) H' R)
    (elem : ∀ x H' (R : VK), R x H' → te (some x :: cs) H' R) (fin : ∀ q H', Same H1 H' → H' q = none → Q (.ref q) (upd H' q (.lst (((List.range xs.length).filter p).map fun i => xs.getD i .non)))) : CompW (Itt K a) tt te cs H1 Q := by
  refine ⟨fun i m ys H => m = xs.length - i ∧ i ≤ xs.length ∧ ys = ((List.range i).filter p).map (fun i => xs.getD i .non) ∧ Same H1 H, ⟨xs.length, by simp, Nat.zero_le _, rfl, Same.refl _⟩, ?_⟩
  rintro i m ys H ⟨rfl, hi, rfl, hs⟩
  have hl : (((List.range i).filter p).map fun i => xs.getD i .non).length ≤ i := by
    rw [List.length_map]
    have := List.length_filter_le p (List.range i)
    rw [List.length_range] at this
    exact this
  refine ⟨small (by omega), ?_⟩
  by_cases hlt : i < xs.length
  · refine .inr ⟨⟨xs, xs[i], SqT.of (hs _ _ e), List.getElem?_eq_getElem hlt⟩, fun x H' y => ?_⟩
    obtain ⟨rfl, hy⟩ := y
    have hx := hy xs (SqT.of (hs _ _ e))
    have ex : xs.getD i .non = x := by simp [List.getD, hx]
    refine test i x _ _ hx hs fun H3 s3 => ?_
    cases hp : p i with
    | true =>
      refine iteT (elem x H3 _ ⟨xs.length - (i + 1), by omega, rfl, hlt, ?_, s3⟩)
      rw [List.range_succ, List.filter_append, List.map_append, List.filter_cons, hp]
      show _ ++ [x] = _ ++ [xs.getD i .non]
      rw [ex]
    | false =>
      refine iteF ⟨xs.length - (i + 1), by omega, rfl, hlt, ?_, s3⟩
      rw [List.range_succ, List.filter_append, List.filter_cons, hp]
      simp
  · have ei : i = xs.length := by omega
    subst ei
    exact .inl ⟨⟨xs, SqT.of (hs _ _ e), Nat.le_refl _⟩, fun q hq => fin q H hs hq⟩
theorem tups_pick {H : Hp} {ys : List V} {rs : List (List V)} (t : TupsAt H ys rs) : ∀ (ks : List Nat), (∀ k ∈ ks, k < rs.length) → TupsAt H (ks.map fun k => ys.getD k .non) (ks.map fun k => rs.getD k [])
  | [], _ => .nil
  | k :: ks, h => by
    have hk := h k List.mem_cons_self
    obtain ⟨b, h1, h2⟩ := t.at (i := k) (r := rs[k]) (List.getElem?_eq_getElem hk)
    have e1 : ys.getD k .non = .ref b := by simp [List.getD, h1]
    have e2 : rs.getD k [] = rs[k] := by simp [List.getD, hk]
    show TupsAt H (ys.getD k .non :: _) (rs.getD k [] :: _)
    rw [e1, e2]
    exact .cons ⟨b, rfl, h2⟩ (tups_pick t ks fun j hj => h j (List.mem_cons_of_mem _ hj))
theorem tups_rep {H : Hp} {b : Addr} {r : List V} (h : H b = some (.tup r)) : ∀ n, TupsAt H (List.replicate n (.ref b)) (List.replicate n r)
  | 0 => .nil
  | n + 1 => .cons ⟨b, rfl, h⟩ (tups_rep h n)
theorem flat_rep {α : Type} (x : α) : ∀ n, (List.replicate n [x]).flatten = List.replicate n x
  | 0 => rfl
  | n + 1 => by rw [List.replicate_succ, List.flatten_cons, flat_rep x n]; rfl
theorem ints_num {M : List (List Int)} : ∀ r ∈ M.map intsV, ∀ x ∈ r, Num x := by
  intro r hr x hx
  obtain ⟨s, _, rfl⟩ := List.mem_map.mp hr
  obtain ⟨k, _, rfl⟩ := List.mem_map.mp hx
  exact .inr ⟨k, rfl⟩
theorem neg_at {xs : List V} {n : Nat} (hl : xs.length = n) (hn : 1 ≤ n) {x : V} (hx : xs[n - 1]? = some x) : atI xs (-1) = some x := by
  unfold atI ixN
  rw [if_neg (by omega), if_pos (by omega)]
  have e : (-1 + (xs.length : Int)).toNat = n - 1 := by omega
  rw [e]; exact hx
theorem side_at {keys : List (List Int)} {rs : List (List V)} {c n s i : Nat} {f : Nat → Int × Int} {k : Int} (hi : i < n) (hin : inside rs c (f i).1 (f i).2) (hc : cellV rs (f i).1.toNat (f i).2.toNat = .int k) (h0 : 0 ≤ k) (h1 : k < (keys.length : Int)) : atI (sideL keys rs c n f s) (i : Int) = some (.int (colK keys k s)) := by
  refine atI_nat ?_
  unfold sideL
  rw [List.map_map, List.getElem?_map, List.getElem?_range hi]
  show some (optV (edgeO keys rs c (f i).1 (f i).2 s)) = _
  rw [edge_some hin hc h0 h1]; rfl
theorem side_len {keys : List (List Int)} {rs : List (List V)} {c n s : Nat} {f : Nat → Int × Int} : (sideL keys rs c n f s).length = n := by
  unfold sideL
  rw [List.length_map, List.length_map, List.length_range]
section
variable {P : Program} {w : World} {K : PySem.W.Frag} {mg : Str → Option Value} {base : Heap} {f : Addr} {fd : FuncData}
abbrev lawX (P : Program) (w : World) (K : PySem.W.Frag) (mg : Str → Option Value) (base : Heap) (f : Addr) (cdv : Value) (A : Around) (outer : List Env) (s : Shared) (H : Hp) (E : XK) : Cx :=
  (cxOf CX0 P w K mg base nmL "law" (defScope sLaw) f cdv A outer s H E).nox
theorem call_lenK' {X : Cx} {K : PySem.W.Frag} (hK : X.K = K := by rfl) : CallR X (.builtin "len") (rLen K) := call_lenK hK
theorem law_rest2 {H : Hp} {cdv : Value} {A : Around} {outer : List Env} {s : Shared} {E : XK} {g1 g2 g3 g4 g5 g6 g7 g8 : Addr} {d1 d2 d3 d4 d5 d6 d7 d8 : FuncData} (hr : Room 6 (lawX P w K mg base f cdv A outer s H E).A) (T : Txt mg)
    (CK : Calls P w K mg base "_law_pick" ["_law_script", "_law_k", "_law_many"] 6 (spPick K) g1 d1) (CL : Calls P w K mg base "_law_clashes" ["_law_tiles_here", "_law_floor_here", "_law_rows", "_law_columns"] 6 spLC g2 d2) (CC : Calls P w K mg base "clashes" ["tiles", "floor"] 6 spClashes g3 d3)
    (CR : Calls P w K mg base "is_right" ["tiles", "floor"] 6 spRight g4 d4) (CF : Calls P w K mg base "_law_fills" ["_law_tiles_here", "_law_floor_here"] 6 spFills g5 d5) (CA : Calls P w K mg base "_law_as_floor" ["_law_numbers", "_law_columns"] 6 spAsFloor g6 d6)
    (CP : Calls P w K mg base "part" ["floor", "top", "left", "rows", "columns"] 6 spPart g7 d7) (CE : Calls P w K mg base "edges_of" ["tiles", "floor"] 6 spEdges g8 d8) :
    ∃ ts : TS, PSs (lawX P w K mg base f cdv A outer s H E) ((defBody sLaw).drop 7) ts ∧ ∀ (DD : Ends) (a : Addr) (ns : List Int) (keys : List (List Int)) (rs : List (List V)) (c : Nat) (vt vf : V) (v5 v6 : Option V) (G : Hp), SqL K G a (ns.map V.int) → Tls G vt keys → keys.length ≤ 4 → 1 ≤ rs.length → 1 ≤ c → c ≤ 4 → rs.length ≤ 3 → rs.length * c ≤ 6 → (∀ H', DD.rt (.bl true) H') →
      ts DD [some (.ref a), some vt, some (.int (rs.length : Int)), some (.int (c : Int)), some vf, v5, v6, none, none, none, none, none] G := by
  have hu := room64 hr
  have v0 : ∀ {pos}, PE (lawX P w K mg base f cdv A outer s H E) (.Name "_law_script" pos) (tVar 0) := fun {pos} => pv 0
  have v1 : ∀ {pos}, PE (lawX P w K mg base f cdv A outer s H E) (.Name "_law_tiles_here" pos) (tVar 1) := fun {pos} => pv 1
  have v2 : ∀ {pos}, PE (lawX P w K mg base f cdv A outer s H E) (.Name "_law_rows" pos) (tVar 2) := fun {pos} => pv 2
  have v3 : ∀ {pos}, PE (lawX P w K mg base f cdv A outer s H E) (.Name "_law_columns" pos) (tVar 3) := fun {pos} => pv 3
  have v4 : ∀ {pos}, PE (lawX P w K mg base f cdv A outer s H E) (.Name "_law_floor_here" pos) (tVar 4) := fun {pos} => pv 4
  have v5 : ∀ {pos}, PE (lawX P w K mg base f cdv A outer s H E) (.Name "_law_due" pos) (tVar 5) := fun {pos} => pv 5
  have v6 : ∀ {pos}, PE (lawX P w K mg base f cdv A outer s H E) (.Name "_law_is_all" pos) (tVar 6) := fun {pos} => pv 6
  have v7 : ∀ {pos}, PE (lawX P w K mg base f cdv A outer s H E) (.Name "_law_some" pos) (tVar 7) := fun {pos} => pv 7
  have v8 : ∀ {pos}, PE (lawX P w K mg base f cdv A outer s H E) (.Name "_law_whole" pos) (tVar 8) := fun {pos} => pv 8
  have v9 : ∀ {pos}, PE (lawX P w K mg base f cdv A outer s H E) (.Name "_law_top" pos) (tVar 9) := fun {pos} => pv 9
  have v10 : ∀ {pos}, PE (lawX P w K mg base f cdv A outer s H E) (.Name "_law_left" pos) (tVar 10) := fun {pos} => pv 10
  have v11 : ∀ {pos}, PE (lawX P w K mg base f cdv A outer s H E) (.Name "_law_sides_here" pos) (tVar 11) := fun {pos} => pv 11
  refine' ⟨_, ?p, ?sem⟩
  case p =>
    refine' pss_cons ?s8 ?r8
    case s8 =>
      exact ps_set (i := 7) scL.nd rfl (Or.inl rfl) (pe_call CF.ok hr rfl CF.m CF.kp CF.b .nil pass0 (pa_N v1 (pa_B (pe_op op_repA (pe_tup (pa_B (pe_op op_repA (pe_tup (pa_C pe_non pa_nil)) v3) pa_nil)) v2) pa_nil)))
    case r8 =>
      refine' pss_cons ?s9 ?r9
      case s9 =>
        refine' ps_if (pt_cmpR (op_dne hu) v7 (pe_lst pa_nil) (nomark _)) ?blk pss_nil
        case blk =>
          refine' pss_cons ?t1 ?u1
          case t1 => exact ps_set (i := 8) scL.nd rfl (Or.inl rfl) (pe_call CA.ok hr rfl CA.m CA.kp CA.b .nil pass0 (pa_cons (pe_ix ix_list v7 (pe_call CK.ok hr rfl CK.m CK.kp CK.b .nil pass0 (pa_N v0 (pa_C pe_int (pa_X (pe_callB call_len_seq rfl T.len PySem.boot_len (pa_N v7 pa_nil)) pa_nil)))) (fun _ _ => rfl)) (pa_N v3 pa_nil)))
          case u1 =>
            refine' pss_cons ?t2 ?u2
            case t2 => exact ps_set (i := 9) scL.nd rfl (Or.inl rfl) (pe_call CK.ok hr rfl CK.m CK.kp CK.b .nil pass0 (pa_N v0 (pa_C pe_int (pa_N v2 pa_nil))))
            case u2 =>
              refine' pss_cons ?t3 ?u3
              case t3 => exact ps_set (i := 10) scL.nd rfl (Or.inl rfl) (pe_call CK.ok hr rfl CK.m CK.kp CK.b .nil pass0 (pa_N v0 (pa_C pe_int (pa_N v3 pa_nil))))
              case u3 =>
                refine' pss_cons ?t4 ?u4
                case t4 =>
                  exact ps_if (PW.pt (pw_or (pt_cmpR op_isnot_bl (pe_call CR.ok hr rfl CR.m CR.kp CR.b .nil pass0 (pa_N v1 (pa_N v8 pa_nil))) pe_bl (nomark _)) (pw_or1 (pt_cmpR op_isnot_bl (pe_call CR.ok hr rfl CR.m CR.kp CR.b .nil pass0 (pa_N v1 (pa_X (pe_call CP.ok hr rfl CP.m CP.kp CP.b .nil pass0 (pa_N v8 (pa_N v9 (pa_N v10 (pa_C pe_int (pa_C pe_int pa_nil)))))) pa_nil))) pe_bl (nomark _))))) (pss_one (ps_ret pe_bl)) pss_nil
                case u4 =>
                  refine' pss_cons ?t5 ?u5
                  case t5 => exact ps_set (i := 11) scL.nd rfl (Or.inl rfl) (pe_call CE.ok hr rfl CE.m CE.kp CE.b .nil pass0 (pa_N v1 (pa_N v8 pa_nil)))
                  case u5 =>
                    refine' pss_cons ?t6 ?u6
                    case t6 =>
                      refine' ps_if (pt_cmpR (op_dne hu) ?cm (pe_lst (pa_N v3 (pa_N v2 (pa_N v3 (pa_N v2 pa_nil))))) (nomark _)) (pss_one (ps_ret pe_bl)) pss_nil
                      case cm =>
                        refine' pe_comp (sc := defScope sLaw) (N := nmL) (caps := []) ?S2 (pi_tup v11) (fun _ _ _ _ _ => pif_nil) (fun _ _ _ _ _ => pe_callB (call_lenK (K := K)) rfl T.len PySem.boot_len (pa_cons (pv 0) pa_nil))
                        case S2 => exact ⟨by decide +kernel, rfl, by decide +kernel, rfl, by decide +kernel, by decide +kernel, by decide +kernel, by decide +kernel⟩
                    case u6 =>
                      refine' pss_cons ?t7 ?u7
                      case t7 =>
                        exact ps_if (PW.pt (pw_or (pt_cmpR op_ne (pe_ix ix_tup (pe_ix ix_tup v11 pe_int (fun _ _ => rfl)) v10 (fun _ _ => rfl)) (pe_ix ix_tup (pe_ix ix_tup v1 (pe_ix ix_tup (pe_ix ix_tup v8 pe_int (fun _ _ => rfl)) v10 (fun _ _ => rfl)) (fun _ _ => rfl)) pe_int (fun _ _ => rfl)) (nomark _)) (pw_or1 (pt_cmpR op_ne (pe_ix ix_tup (pe_ix ix_tup v11 pe_int (fun _ _ => rfl)) v10 (fun _ _ => rfl)) (pe_ix ix_tup (pe_ix ix_tup v1 (pe_ix ix_tup (pe_ix ix_tup v8 (pe_un un_neg pe_int) (fun _ _ => rfl)) v10 (fun _ _ => rfl)) (fun _ _ => rfl)) pe_int (fun _ _ => rfl)) (nomark _))))) (pss_one (ps_ret pe_bl)) pss_nil
                      case u7 =>
                        refine' pss_one ?t8
                        case t8 =>
                          exact ps_if (PW.pt (pw_or (pt_cmpR op_ne (pe_ix ix_tup (pe_ix ix_tup v11 pe_int (fun _ _ => rfl)) v9 (fun _ _ => rfl)) (pe_ix ix_tup (pe_ix ix_tup v1 (pe_ix ix_tup (pe_ix ix_tup v8 v9 (fun _ _ => rfl)) (pe_un un_neg pe_int) (fun _ _ => rfl)) (fun _ _ => rfl)) pe_int (fun _ _ => rfl)) (nomark _)) (pw_or1 (pt_cmpR op_ne (pe_ix ix_tup (pe_ix ix_tup v11 pe_int (fun _ _ => rfl)) v9 (fun _ _ => rfl)) (pe_ix ix_tup (pe_ix ix_tup v1 (pe_ix ix_tup (pe_ix ix_tup v8 v9 (fun _ _ => rfl)) pe_int (fun _ _ => rfl)) (fun _ _ => rfl)) pe_int (fun _ _ => rfl)) (nomark _))))) (pss_one (ps_ret pe_bl)) pss_nil
      case r9 =>
        refine' pss_one ?s10
        case s10 => exact ps_ret pe_bl
  case sem =>
    intro DD a ns keys rs c vt vf v5' v6' G hS ht hk4 hr1 hc1 hc4 hr3 h6 q
    have nob : ∀ {b : Bool} {p : Prop}, (b = true ↔ ¬ p) → p → b = false := fun {b p} h hp => by cases b with | false => rfl | true => exact absurd hp (h.mp rfl)
    generalize hrn : rs.length = r at hr1 hr3 h6 ⊢
    -- the empty floor
    refine ⟨_, rfl, small (show 1 ≤ 1000 by decide), fun p1 h1 => ⟨_, rfl, p1, c, [.non], rfl, rfl, upd_same, List.cons_ne_nil _ _, hc1, by omega, (show 1 ≤ 1000 by decide), fun b1 H1 s1 e1 => ?_⟩⟩
    have n1 := same_new h1 (.tup [V.non])
    rw [flat_rep] at e1
    refine ⟨small (show 1 ≤ 1000 by decide), fun p2 h2 => ⟨_, rfl, p2, r, [.ref b1], rfl, rfl, upd_same, List.cons_ne_nil _ _, hr1, by omega, (show 1 ≤ 1000 by decide), fun b2 H2 s2 e2 => ?_⟩⟩
    have n2 := same_new h2 (.tup [V.ref b1])
    rw [flat_rep] at e2
    have S2 := n1.trans (s1.trans (n2.trans s2))
    have fl2 : Flr H2 (.ref b2) (List.replicate r (List.replicate c V.non)) := ⟨b2, _, rfl, e2, tups_rep (s2 _ _ (n2 _ _ e1)) r⟩
    have lr : (List.replicate r (List.replicate c V.non)).length = r := List.length_replicate
    refine ⟨vt, .ref b2, keys, List.replicate r (List.replicate c V.non), c, rfl, ht.up S2, hk4, fl2, ⟨by rw [lr]; exact hr1, by rw [lr]; omega, by omega, fun x hx => by rw [List.eq_of_mem_replicate hx, List.length_replicate]⟩, hc1, (fun x hx y hy => by rw [List.eq_of_mem_replicate hx] at hy; exact .inl (List.eq_of_mem_replicate hy)), by rw [lr]; exact h6, fun sl zs H3 s3 e3 t3 => ?_⟩
    rw [lr] at t3
    have S3 := S2.trans s3
    generalize hM : fillsN keys c (List.replicate r (List.replicate c V.non)).flatten (r * c) = M at t3
    have hzl : zs.length = M.length := by have := t3.length; rw [List.length_map] at this; exact this
    -- some != []
    refine ⟨_, rfl, small (show 0 ≤ 1000 by decide), fun l4 hl4 => ?_⟩
    have n4 := same_new hl4 (.lst [])
    have S4 := S3.trans n4
    have t4 : TupsAt (upd H3 l4 (.lst [])) zs (M.map intsV) := t3.up fun b xs z => n4 _ _ z
    refine ⟨_, .lst [], .lst (n4 _ _ e3) (tups_reps t4 ints_num), .lst upd_same .nil, (rows_fit9 ints_num).2, rfl, fun b hb => ⟨_, rfl, ?_⟩⟩
    cases b with
    | false => exact iteF (q _)
    | true =>
    refine iteT ?_
    have hM0 : M ≠ [] := fun z => (hb.mp rfl) (by rw [z]; rfl)
    have hml : 0 < M.length := List.length_pos_iff.mpr hM0
    refine ⟨_, rfl, _, rfl, _, rfl, sl, zs, rfl, .inl (SqL.of (n4 _ _ e3)), a, ns, 92, (zs.length : Int), rfl, S4.seq hS, by decide, by omega, fun z5 H5 z50 z51 s5 => ?_⟩
    have S5 := S4.trans s5
    have hzi : z5.toNat < M.length := by omega
    obtain ⟨nb, hn1, hn2⟩ := t4.at (i := z5.toNat) (r := intsV M[z5.toNat]) (by rw [List.getElem?_map, List.getElem?_eq_getElem hzi]; rfl)
    have ez : ((z5.toNat : Nat) : Int) = z5 := by omega
    have hat : atI zs z5 = some (.ref nb) := by have := atI_nat hn1; rw [ez] at this; exact this
    have hmem : M[z5.toNat] ∈ fillsN keys c (List.replicate r (List.replicate c V.non)).flatten (r * c) := by rw [hM]; exact List.getElem_mem hzi
    generalize hso : M[z5.toNat] = so at hn2 hmem
    obtain ⟨hsl, hsx⟩ := fills_mem _ so hmem
    have RP := fills_right (r := r) hc1 hmem
    have evw := rowsOf_even (s := so) (c := c) (r := r) hsl hr1 (by omega) (by omega)
    have nuw := rowsOf_nums (s := so) (c := c) (r := r)
    have lw : (rowsOf (intsV so) c r).length = r := rowsOf_len
    refine ⟨sl, zs, z5, .ref nb, rfl, rfl, SqL.of (s5 _ _ (n4 _ _ e3)), hat, _, rfl, nb, c, r, intsV so, rfl, s5 _ _ hn2, by unfold intsV; rw [List.length_map, hsl], hc1, by omega, by omega, fun wb H6 s6 fw => ?_⟩
    have S6 := S5.trans s6
    clear hn1 hn2 hat hzi hso
    generalize rowsOf (intsV so) c r = ws at RP evw nuw lw fw
    -- top, left
    refine ⟨_, rfl, _, rfl, a, ns, 93, (r : Int), rfl, S6.seq hS, by decide, by omega, fun tp H7 tp0 tp1 s7 => ?_⟩
    have S7 := S6.trans s7
    refine ⟨_, rfl, _, rfl, a, ns, 94, (c : Int), rfl, S7.seq hS, by decide, by omega, fun lf H8 lf0 lf1 s8 => ?_⟩
    have S8 := S7.trans s8
    have fw8 := (fw.up s7).up s8
    obtain ⟨tn, rfl⟩ : ∃ n : Nat, tp = (n : Int) := ⟨tp.toNat, by omega⟩
    obtain ⟨ln, rfl⟩ : ∃ n : Nat, lf = (n : Int) := ⟨lf.toNat, by omega⟩
    have htn : tn < ws.length := by omega
    have hln : ln < c := by omega
    -- right
    refine ⟨_, rfl, _, rfl, vt, .ref wb, keys, ws, c, rfl, ht.up S8, fw8, evw, nuw, fun H9 s9 => ⟨_, _, rfl, rfl, _, rfl, ?_⟩⟩
    rw [RP.b]
    refine iteF ?_
    have S9 := S8.trans s9
    refine ⟨_, rfl, _, rfl, _, rfl, _, rfl, .ref wb, tn, ln, 2, 2, ws, rfl, fw8.up s9, by omega, fun pb H10 s10 fp => ?_⟩
    have S10 := S9.trans s10
    refine ⟨vt, .ref pb, keys, _, _, rfl, ht.up S10, fp, part_even (C := 2) (left := ln) evw htn (by decide), part_nums nuw, fun H11 s11 => ⟨_, _, rfl, rfl, _, rfl, ?_⟩⟩
    rw [(RP.part (top := tn) (left := ln) (R := 2) (C := 2)).b]
    refine iteF ?_
    have S11 := S10.trans s11
    have s811 := s9.trans (s10.trans s11)
    have fw11 := fw8.up s811
    -- edges_of
    refine ⟨_, rfl, _, rfl, vt, .ref wb, keys, ws, c, rfl, ht.up S11, fw11, evw, nuw, fun sb b0 b1 b2 b3 H12 s12 es e0 e1' e2' e3' => ?_⟩
    rw [lw] at e1' e2' e3'
    have S12 := S11.trans s12
    have fw12 := fw11.up s12
    have ht12 := ht.up S12
    dsimp only [gName]
    refine tseq_i (tifs_i (ttest_i (top_i (tcomp_i ?_))))
    refine ⟨_, rfl, sb, rfl, ⟨_, SqT.of es⟩, ?_⟩
    have lens : ∀ (i : Nat) (x : V), ([V.ref b0, .ref b1, .ref b2, .ref b3] : List V)[i]? = some x → ∃ (bb : Addr) (l : List V), x = .ref bb ∧ H12 bb = some (.tup l) ∧ ([V.int (c : Int), .int (r : Int), .int (c : Int), .int (r : Int)] : List V)[i]? = some (.int (l.length : Int)) := by
      intro i x hx
      match i, hx with
      | 0, hx => cases hx; exact ⟨_, _, rfl, e0, by rw [side_len]; rfl⟩
      | 1, hx => cases hx; exact ⟨_, _, rfl, e1', by rw [side_len]; rfl⟩
      | 2, hx => cases hx; exact ⟨_, _, rfl, e2', by rw [side_len]; rfl⟩
      | 3, hx => cases hx; exact ⟨_, _, rfl, e3', by rw [side_len]; rfl⟩
      | n + 4, hx => simp at hx
    refine comp_genT es (fun k zs Hx => k ≤ 4 ∧ Same H12 Hx ∧ zs = ([V.int (c : Int), .int (r : Int), .int (c : Int), .int (r : Int)] : List V).take k) ⟨by decide, Same.refl _, rfl⟩ (fun k zs Hx j => ?_) (fun k zs Hx j => j.2.1) (fun k zs x Hx R hx j hR => ?_) (fun zs Hx p j hp => ?_)
    · obtain ⟨hk, _, rfl⟩ := j
      rw [List.length_take]
      exact small (by omega)
    · obtain ⟨hk, sx, rfl⟩ := j
      have hk4' : k < 4 := (List.getElem?_eq_some_iff.mp hx).1
      obtain ⟨bb, l, rfl, el, hl⟩ := lens k x hx
      refine ⟨_, rfl, bb, l, rfl, .inr (SqT.of (sx _ _ el)), hR _ _ ⟨hk4', sx, ?_⟩⟩
      rw [take_snoc hl]
    obtain ⟨_, sx, rfl⟩ := j
    refine ⟨_, rfl, _, rfl, _, rfl, _, rfl, small (show 4 ≤ 1000 by decide), fun p13 hp13 => ?_⟩
    have n12 := same_new hp (.lst [V.int (c : Int), .int (r : Int), .int (c : Int), .int (r : Int)])
    have n13 := same_new hp13 (.lst [V.int (c : Int), .int (r : Int), .int (c : Int), .int (r : Int)])
    have repL : ∀ {Hh : Hp} {pp : Addr}, Hh pp = some (.lst [V.int (c : Int), .int (r : Int), .int (c : Int), .int (r : Int)]) → Rep Hh (.ref pp) (.lst [.int (c : Int), .int (r : Int), .int (c : Int), .int (r : Int)]) := fun {Hh pp} h => .lst h (.cons (.int _) (.cons (.int _) (.cons (.int _) (.cons (.int _) .nil))))
    refine ⟨_, _, repL (n13 _ _ upd_same), repL upd_same, rfl, rfl, fun b hb => ⟨_, rfl, ?_⟩⟩
    cases nob hb rfl
    refine iteF ?_
    have s13 := sx.trans (n12.trans n13)
    generalize upd (upd Hx p _) p13 _ = H13 at s13 ⊢
    clear n12 n13 hp hp13
    have es13 := s13 _ _ es
    have fw13 := fw12.up s13
    have ht13 := ht12.up s13
    -- north and south sides at left
    have lw1 : ws.length - 1 < ws.length := by omega
    obtain ⟨k0, hk0, k00, k01⟩ := RP.cells 0 ln (by omega) hln
    obtain ⟨k2, hk2, k20, k21⟩ := RP.cells (ws.length - 1) ln lw1 hln
    obtain ⟨k1, hk1, k10, k11⟩ := RP.cells tn (c - 1) htn (by omega)
    obtain ⟨k3, hk3, k30, k31⟩ := RP.cells tn 0 htn (by omega)
    obtain ⟨wb', wys, rb0, ew, ewb, a01, er0, a02⟩ := cell_get (i := 0) (j := ln) fw13 evw (by omega) hln
    cases ew
    obtain ⟨wb', wys2, rb2, ew, ewb2, a21, er2, a22⟩ := cell_get (i := ws.length - 1) (j := ln) fw13 evw lw1 hln
    cases ew
    rw [ewb] at ewb2
    cases ewb2
    obtain ⟨wb', wys3, rb1, ew, ewb2, a11, er1, a12⟩ := cell_get (i := tn) (j := c - 1) fw13 evw htn (by omega)
    cases ew
    rw [ewb] at ewb2
    cases ewb2
    obtain ⟨wb', wys4, rb3, ew, ewb2, a31, er3, a32⟩ := cell_get (i := tn) (j := 0) fw13 evw htn (by omega)
    cases ew
    rw [ewb] at ewb2
    cases ewb2
    rw [hk0] at a02
    rw [hk2] at a22
    rw [hk1] at a12
    rw [hk3] at a32
    have wlen : wys.length = ws.length := by
      obtain ⟨bq, yq, eq, hq1, tq⟩ := fw13
      cases eq
      rw [ewb] at hq1
      cases hq1
      exact tq.length
    have at2 : atI wys (-1) = some (.ref rb2) := by
      refine neg_at wlen (by omega) ?_
      have hh : atI wys ((ws.length - 1 : Nat) : Int) = some (.ref rb2) := a21
      unfold atI at hh
      rw [ix_nat (by omega)] at hh
      exact hh
    have rl1 : ws[tn].length = c := evw.row _ (List.getElem_mem htn)
    have at1 : atI ws[tn] (-1) = some (.int k1) := by
      refine neg_at rl1 hc1 ?_
      have hh : atI ws[tn] ((c - 1 : Nat) : Int) = some (.int k1) := a12
      unfold atI at hh
      rw [ix_nat (by omega)] at hh
      exact hh
    obtain ⟨ta, txs, kb0, xs0, rfl, et, _, t01, ek0, t02⟩ := ht13.at k00 k01 (s := 0) (by decide)
    obtain ⟨ta', txs', kb2, xs2, ea, et', _, t21, ek2, t22⟩ := ht13.at k20 k21 (s := 2) (by decide)
    cases ea
    rw [et] at et'
    cases et'
    obtain ⟨ta', txs', kb1, xs1, ea, et', _, t11, ek1, t12⟩ := ht13.at k10 k11 (s := 1) (by decide)
    cases ea
    rw [et] at et'
    cases et'
    obtain ⟨ta', txs', kb3, xs3, ea, et', _, t31, ek3, t32⟩ := ht13.at k30 k31 (s := 3) (by decide)
    cases ea
    rw [et] at et'
    cases et'
    have sd0 := side_at (keys := keys) (rs := ws) (c := c) (s := 0) (f := fun j => (0, (j : Int))) hln ⟨by show (0 : Int) ≤ 0; decide, by show (0 : Int) < _; omega, by show (0 : Int) ≤ (ln : Int); omega, by show (ln : Int) < _; omega⟩ hk0 k00 k01
    have sd2 := side_at (keys := keys) (rs := ws) (c := c) (s := 2) (f := fun j => ((r : Int) - 1, (j : Int))) hln ⟨by show (0 : Int) ≤ (r : Int) - 1; omega, by show (r : Int) - 1 < _; omega, by show (0 : Int) ≤ (ln : Int); omega, by show (ln : Int) < _; omega⟩ (k := k2) (by
      have : ((r : Int) - 1).toNat = ws.length - 1 := by omega
      show cellV ws ((r : Int) - 1).toNat ln = _
      rw [this]; exact hk2) k20 k21
    have sd1 := side_at (keys := keys) (rs := ws) (c := c) (n := r) (s := 1) (f := fun i => ((i : Int), (c : Int) - 1)) (i := tn) (by omega) ⟨by show (0 : Int) ≤ (tn : Int); omega, by show (tn : Int) < _; omega, by show (0 : Int) ≤ (c : Int) - 1; omega, by show (c : Int) - 1 < _; omega⟩ (k := k1) (by
      have : ((c : Int) - 1).toNat = c - 1 := by omega
      show cellV ws tn ((c : Int) - 1).toNat = _
      rw [this]; exact hk1) k10 k11
    have sd3 := side_at (keys := keys) (rs := ws) (c := c) (n := r) (s := 3) (f := fun i => ((i : Int), 0)) (i := tn) (by omega) ⟨by show (0 : Int) ≤ (tn : Int); omega, by show (tn : Int) < _; omega, by show (0 : Int) ≤ 0; decide, by show (0 : Int) < _; omega⟩ hk3 k30 k31
    refine ⟨_, rfl, sb, _, 0, .ref b0, rfl, rfl, SqT.of es13, rfl, _, rfl, b0, _, _, _, rfl, rfl, SqT.of (s13 _ _ e0), sd0, _, rfl, _, rfl, wb, wys, 0, .ref rb0, rfl, rfl, SqT.of ewb, a01, _, rfl, rb0, _, _, .int k0, rfl, rfl, SqT.of er0, a02, ta, txs, k0, .ref kb0, rfl, rfl, SqT.of et, t01, kb0, xs0, _, _, rfl, rfl, SqT.of ek0, t02, rfl, _, rfl, iteNS rfl ?_⟩
    refine ⟨_, rfl, sb, _, 2, .ref b2, rfl, rfl, SqT.of es13, rfl, _, rfl, b2, _, _, _, rfl, rfl, SqT.of (s13 _ _ e2'), sd2, _, rfl, _, rfl, _, rfl, wb, wys, -1, .ref rb2, rfl, rfl, SqT.of ewb, at2, _, rfl, rb2, _, _, .int k2, rfl, rfl, SqT.of er2, a22, ta, txs, k2, .ref kb2, rfl, rfl, SqT.of et, t21, kb2, xs2, _, _, rfl, rfl, SqT.of ek2, t22, rfl, _, rfl, iteNS rfl ?_⟩
    refine ⟨_, rfl, sb, _, 1, .ref b1, rfl, rfl, SqT.of es13, rfl, _, rfl, b1, _, _, _, rfl, rfl, SqT.of (s13 _ _ e1'), sd1, _, rfl, _, rfl, _, rfl, wb, wys, _, .ref rb1, rfl, rfl, SqT.of ewb, a11, _, rfl, rb1, _, -1, .int k1, rfl, rfl, SqT.of er1, at1, ta, txs, k1, .ref kb1, rfl, rfl, SqT.of et, t11, kb1, xs1, _, _, rfl, rfl, SqT.of ek1, t12, rfl, _, rfl, iteNS rfl ?_⟩
    refine ⟨_, rfl, sb, _, 3, .ref b3, rfl, rfl, SqT.of es13, rfl, _, rfl, b3, _, _, _, rfl, rfl, SqT.of (s13 _ _ e3'), sd3, _, rfl, _, rfl, _, rfl, wb, wys, _, .ref rb3, rfl, rfl, SqT.of ewb, a31, rb3, _, 0, .int k3, rfl, rfl, SqT.of er3, a32, ta, txs, k3, .ref kb3, rfl, rfl, SqT.of et, t31, kb3, xs3, _, _, rfl, rfl, SqT.of ek3, t32, rfl, _, rfl, iteNS rfl ?_⟩
    exact q _
theorem law_rest {H : Hp} {cdv : Value} {A : Around} {outer : List Env} {s : Shared} {E : XK} {g1 g2 g3 g4 g5 g6 g7 g8 : Addr} {d1 d2 d3 d4 d5 d6 d7 d8 : FuncData} (hr : Room 6 (lawX P w K mg base f cdv A outer s H E).A) (T : Txt mg)
    (CK : Calls P w K mg base "_law_pick" ["_law_script", "_law_k", "_law_many"] 6 (spPick K) g1 d1) (CL : Calls P w K mg base "_law_clashes" ["_law_tiles_here", "_law_floor_here", "_law_rows", "_law_columns"] 6 spLC g2 d2) (CC : Calls P w K mg base "clashes" ["tiles", "floor"] 6 spClashes g3 d3)
    (CR : Calls P w K mg base "is_right" ["tiles", "floor"] 6 spRight g4 d4) (CF : Calls P w K mg base "_law_fills" ["_law_tiles_here", "_law_floor_here"] 6 spFills g5 d5) (CA : Calls P w K mg base "_law_as_floor" ["_law_numbers", "_law_columns"] 6 spAsFloor g6 d6)
    (CP : Calls P w K mg base "part" ["floor", "top", "left", "rows", "columns"] 6 spPart g7 d7) (CE : Calls P w K mg base "edges_of" ["tiles", "floor"] 6 spEdges g8 d8) :
    ∃ ts : TS, PSs (lawX P w K mg base f cdv A outer s H E) ((defBody sLaw).drop 4) ts ∧ ∀ (DD : Ends) (a : Addr) (ns : List Int) (keys : List (List Int)) (rs : List (List V)) (c : Nat) (vt vf : V) (G : Hp), SqL K G a (ns.map V.int) → Tls G vt keys → keys.length ≤ 4 → Flr G vf rs → Even c rs → 1 ≤ c → c ≤ 4 → rs.length ≤ 3 → rs.length * c ≤ 6 → AllLie keys.length rs c → Nums rs → (∀ H', DD.rt (.bl true) H') →
      ts DD [some (.ref a), some vt, some (.int (rs.length : Int)), some (.int (c : Int)), some vf, none, none, none, none, none, none, none] G := by
  have hu := room64 hr
  have v0 : ∀ {pos}, PE (lawX P w K mg base f cdv A outer s H E) (.Name "_law_script" pos) (tVar 0) := fun {pos} => pv 0
  have v1 : ∀ {pos}, PE (lawX P w K mg base f cdv A outer s H E) (.Name "_law_tiles_here" pos) (tVar 1) := fun {pos} => pv 1
  have v2 : ∀ {pos}, PE (lawX P w K mg base f cdv A outer s H E) (.Name "_law_rows" pos) (tVar 2) := fun {pos} => pv 2
  have v3 : ∀ {pos}, PE (lawX P w K mg base f cdv A outer s H E) (.Name "_law_columns" pos) (tVar 3) := fun {pos} => pv 3
  have v4 : ∀ {pos}, PE (lawX P w K mg base f cdv A outer s H E) (.Name "_law_floor_here" pos) (tVar 4) := fun {pos} => pv 4
  have v5 : ∀ {pos}, PE (lawX P w K mg base f cdv A outer s H E) (.Name "_law_due" pos) (tVar 5) := fun {pos} => pv 5
  have v6 : ∀ {pos}, PE (lawX P w K mg base f cdv A outer s H E) (.Name "_law_is_all" pos) (tVar 6) := fun {pos} => pv 6
  have v7 : ∀ {pos}, PE (lawX P w K mg base f cdv A outer s H E) (.Name "_law_some" pos) (tVar 7) := fun {pos} => pv 7
  have v8 : ∀ {pos}, PE (lawX P w K mg base f cdv A outer s H E) (.Name "_law_whole" pos) (tVar 8) := fun {pos} => pv 8
  have v9 : ∀ {pos}, PE (lawX P w K mg base f cdv A outer s H E) (.Name "_law_top" pos) (tVar 9) := fun {pos} => pv 9
  have v10 : ∀ {pos}, PE (lawX P w K mg base f cdv A outer s H E) (.Name "_law_left" pos) (tVar 10) := fun {pos} => pv 10
  have v11 : ∀ {pos}, PE (lawX P w K mg base f cdv A outer s H E) (.Name "_law_sides_here" pos) (tVar 11) := fun {pos} => pv 11
  obtain ⟨tsR, pRest, rRest⟩ := law_rest2 (cdv := cdv) (outer := outer) (s := s) (H := H) (E := E) hr T CK CL CC CR CF CA CP CE
  refine' ⟨_, ?p, ?sem⟩
  case p =>
    refine' pss_cons ?s5 ?r5
    case s5 => exact ps_set (i := 5) scL.nd rfl (Or.inl rfl) (pe_call CL.ok hr rfl CL.m CL.kp CL.b .nil pass0 (pa_N v1 (pa_N v4 (pa_N v2 (pa_N v3 pa_nil)))))
    case r5 =>
      refine' pss_cons ?s6 ?r6
      case s6 =>
        refine' ps_set (i := 6) scL.nd rfl (Or.inl rfl) (pe_cmpR (op_deq hu) ?cm (pe_lst pa_nil) (nomark _))
        case cm =>
          refine' pe_comp (sc := defScope sLaw) (N := nmL) (caps := []) ?S1 (pi_tup v4) (fun _ _ _ _ _ => pif_one (pt_cmpR (op_din hu) pe_non (pv 0) (by with_unfolding_all rfl))) (fun _ _ _ _ _ => pv 0)
          case S1 => exact ⟨by decide +kernel, rfl, by decide +kernel, rfl, by decide +kernel, by decide +kernel, by decide +kernel, by decide +kernel⟩
      case r6 =>
        refine' pss_cons ?s7 ?r7
        case s7 =>
          exact ps_if (PW.pt (pw_or (pt_cmpR (op_dne hu) (pe_call CC.ok hr rfl CC.m CC.kp CC.b .nil pass0 (pa_N v1 (pa_N v4 pa_nil))) v5 (nomark _)) (pw_or1 (pt_cmpR op_ne (pe_call CR.ok hr rfl CR.m CR.kp CR.b .nil pass0 (pa_N v1 (pa_N v4 pa_nil))) (pe_and v6 (pe_one (pe_cmpR (op_deq hu) v5 (pe_lst pa_nil) (nomark _)))) (nomark _))))) (pss_one (ps_ret pe_bl)) pss_nil
        case r7 => exact pRest
  case sem =>
    intro DD a ns keys rs c vt vf G hS ht hk4 hF ev hc1 hc4 hr3 h6 al num q
    have nob : ∀ {b : Bool} {p : Prop}, (b = true ↔ ¬ p) → p → b = false := fun {b p} h hp => by cases b with | false => rfl | true => exact absurd hp (h.mp rfl)
    have hr1 := ev.one
    refine ⟨_, rfl, _, rfl, _, rfl, _, rfl, vt, vf, keys, rs, c, rfl, ht, hF, ev, by omega, by omega, al, fun dl H1 s1 rd => ?_⟩
    obtain ⟨fb, fys, rfl, ef, tf⟩ := hF
    have hF : Flr G (.ref fb) rs := ⟨fb, fys, rfl, ef, tf⟩
    have hfl : fys.length = rs.length := tf.length
    dsimp only [gName]
    refine tseq_i (tasg_i (top_i (tcomp_i ?_)))
    refine ⟨_, rfl, fb, rfl, ⟨_, SqT.of (s1 _ _ ef)⟩, ?_⟩
    have tf1 : TupsAt H1 fys rs := tf.up fun b xs z => s1 _ _ z
    refine comp_fltT (fun i => noneIn (rs.getD i [])) (s1 _ _ ef) (by omega) (fun i x Hx R hx sx hR => ?_) (fun x Hx R hR => ⟨x, rfl, hR⟩) (fun p1 H2 s2 hp1 => ?_)
    · have hi : i < rs.length := by rw [← hfl]; exact (List.getElem?_eq_some_iff.mp hx).1
      obtain ⟨rb, h1, h2⟩ := tf1.at (i := i) (r := rs[i]) (List.getElem?_eq_getElem hi)
      rw [hx] at h1
      cases h1
      have nr := num rs[i] (List.getElem_mem hi)
      obtain ⟨r1, r2⟩ := nums_reps (H := Hx) nr
      refine ⟨_, rfl, .non, _, .non, .inr (.tup (sx _ _ h2) r1), rfl, D.fits_mono (by decide) r2, fun b hb => ⟨_, rfl, ?_⟩⟩
      rw [if_neg Bool.false_ne_true, none_mem nr] at hb
      have e1 : rs.getD i [] = rs[i] := by simp [List.getD, hi]
      have e2 : b = noneIn (rs.getD i []) := by rw [e1, Bool.eq_iff_iff]; exact hb
      rw [e2]
      exact hR Hx sx
    refine ⟨small (show 0 ≤ 1000 by decide), fun p2 hp2 => ?_⟩
    have n1 := same_new hp1 (.lst (((List.range fys.length).filter fun i => noneIn (rs.getD i [])).map fun i => fys.getD i .non))
    have n2 := same_new hp2 (.lst [])
    have S2 := s2.trans (n1.trans n2)
    have pickd := tups_pick (tf1.up (H' := upd (upd H2 p1 (.lst (((List.range fys.length).filter fun i => noneIn (rs.getD i [])).map fun i => fys.getD i .non))) p2 (.lst [])) fun b xs z => S2 _ _ z) ((List.range fys.length).filter fun i => noneIn (rs.getD i [])) (fun k hk => by rw [← hfl]; exact List.mem_range.mp (List.mem_filter.mp hk).1)
    have numd : ∀ r ∈ (((List.range fys.length).filter fun i => noneIn (rs.getD i [])).map fun k => rs.getD k []), ∀ x ∈ r, Num x := by
      intro r hr' x hx
      obtain ⟨k, hk, rfl⟩ := List.mem_map.mp hr'
      have hk' : k < rs.length := by rw [← hfl]; exact List.mem_range.mp (List.mem_filter.mp hk).1
      have e1 : rs.getD k [] = rs[k] := by simp [List.getD, hk']
      rw [e1] at hx
      exact num _ (List.getElem_mem hk') x hx
    refine ⟨_, .lst [], .lst (n2 _ _ upd_same) (tups_reps pickd numd), .lst upd_same .nil, (rows_fit9 numd).2, rfl, fun ball hball => ?_⟩
    have hAll : ball = true ↔ ∀ r ∈ rs, noneIn r = false := by
      rw [hball]
      constructor
      · intro h r hr'
        injection h with h
        rw [List.map_eq_nil_iff, List.map_eq_nil_iff, List.filter_eq_nil_iff] at h
        obtain ⟨i, hi, rfl⟩ := List.mem_iff_getElem.mp hr'
        have := h i (List.mem_range.mpr (by omega))
        have e1 : rs.getD i [] = rs[i] := by simp [List.getD, hi]
        rw [e1] at this
        exact Bool.eq_false_iff.mpr this
      · intro h
        congr 1
        rw [List.map_eq_nil_iff, List.map_eq_nil_iff, List.filter_eq_nil_iff]
        intro i hi
        have hi' : i < rs.length := by rw [← hfl]; exact List.mem_range.mp hi
        have e1 : rs.getD i [] = rs[i] := by simp [List.getD, hi']
        rw [e1, h _ (List.getElem_mem hi')]
        exact Bool.false_ne_true
    clear hball pickd numd
    generalize hH3 : upd (upd H2 p1 (.lst (((List.range fys.length).filter fun i => noneIn (rs.getD i [])).map fun i => fys.getD i .non))) p2 (.lst []) = H3 at S2 ⊢
    clear hH3 n1 n2 hp1 hp2
    have S3 := s1.trans S2
    have rd3 := rd.up S2
    have fitC : (D.lst (clashN keys rs c (rs.length * c))).fit 9 = true := entries_fit (rs.length * c)
    -- clashes, is_right
    refine ⟨_, rfl, _, rfl, vt, .ref fb, keys, rs, c, rfl, ht.up S3, hF.up S3, ev, num, fun l4 H4 s4 rl => ⟨_, rfl, _, _, rl, rd3.up s4, fitC, fitC, fun b hb => ⟨_, rfl, ?_⟩⟩⟩
    cases nob hb rfl
    refine iteF ?_
    have S4 := S3.trans s4
    refine ⟨_, rfl, _, rfl, vt, .ref fb, keys, rs, c, rfl, ht.up S4, hF.up S4, ev, num, fun H5 s5 => ?_⟩
    have S5 := S4.trans s5
    have rd5 := (rd3.up s4).up s5
    have eqR : ∀ b : Bool, (b = true ↔ clashN keys rs c (rs.length * c) = []) → rightB keys rs c = (ball && b) := fun b hb => by
      unfold rightB
      rw [Bool.eq_iff_iff, Bool.and_eq_true, Bool.and_eq_true, hb, hAll, all_ok (n := 0) ev al, decide_eq_true_iff, List.length_eq_zero_iff]
    refine ⟨_, rfl, _, rfl, ?_⟩
    cases ball with
    | false =>
      refine iteF ⟨rfl, _, rfl, iteNS (by rw [show rightB keys rs c = false from (eqR (decide (clashN keys rs c (rs.length * c) = [])) (by simp)).trans rfl]) ?_⟩
      exact rRest DD a ns keys rs c vt (.ref fb) _ _ H5 (S5.seq hS) (ht.up S5) hk4 hr1 hc1 hc4 hr3 h6 q
    | true =>
      refine iteT ⟨_, rfl, small (show 0 ≤ 1000 by decide), fun l6 hl6 => ?_⟩
      have n6 := same_new hl6 (.lst [])
      refine ⟨.lst (clashN keys rs c (rs.length * c)), .lst [], rd5.up n6, .lst upd_same .nil, fitC, rfl, fun b hb => ⟨rfl, _, rfl, ?_⟩⟩
      have hb' : b = true ↔ clashN keys rs c (rs.length * c) = [] := by
        rw [hb]
        constructor
        · intro z; injection z
        · intro z; rw [z]
      refine iteNS (by rw [eqR b hb']; rfl) ?_
      exact rRest DD a ns keys rs c vt (.ref fb) _ _ _ ((S5.trans n6).seq hS) (ht.up (S5.trans n6)) hk4 hr1 hc1 hc4 hr3 h6 q
theorem ok_law {g1 g2 g3 g4 g5 g6 g7 g8 g9 g10 g11 : Addr} {d1 d2 d3 d4 d5 d6 d7 d8 d9 d10 d11 : FuncData} (F : Fun K "law" "law" sLaw f fd) (T : Txt mg)
    (CK : Calls P w K mg base "_law_pick" ["_law_script", "_law_k", "_law_many"] 6 (spPick K) g1 d1) (CL : Calls P w K mg base "_law_clashes" ["_law_tiles_here", "_law_floor_here", "_law_rows", "_law_columns"] 6 spLC g2 d2) (CC : Calls P w K mg base "clashes" ["tiles", "floor"] 6 spClashes g3 d3)
    (CR : Calls P w K mg base "is_right" ["tiles", "floor"] 6 spRight g4 d4) (CF : Calls P w K mg base "_law_fills" ["_law_tiles_here", "_law_floor_here"] 6 spFills g5 d5) (CA : Calls P w K mg base "_law_as_floor" ["_law_numbers", "_law_columns"] 6 spAsFloor g6 d6)
    (CP : Calls P w K mg base "part" ["floor", "top", "left", "rows", "columns"] 6 spPart g7 d7) (CE : Calls P w K mg base "edges_of" ["tiles", "floor"] 6 spEdges g8 d8)
    (CT : Calls P w K mg base "_law_tiles" ["_law_script", "_law_at", "_law_most"] 6 (spTiles K) g9 d9) (CO : Calls P w K mg base "_law_floor" ["_law_script", "_law_at", "_law_tiles_here", "_law_rows", "_law_columns", "_law_many"] 6 (spFloorL K) g10 d10) (CD : Calls P w K mg base "_law_sides" ["_law_script", "_law_at"] 6 (spSides K) g11 d11) :
    FnOk P w K mg base CX0 7 f fd ["_law_script"] (spLaw K) := by
  refine F.ok scL (fun vs H Q E h => ?_) (fun cdv A outer s H vs Q E hr h => ?_)
  · obtain ⟨a, ns, rfl, _⟩ := h; rfl
  obtain ⟨a, ns, rfl, hS, q⟩ := h
  obtain ⟨tsR, pRest, rRest⟩ := law_rest (cdv := cdv) (outer := outer) (s := s) (H := H) (E := E) hr T CK CL CC CR CF CA CP CE
  refine' ⟨_, ?b, ?fin⟩
  case b =>
    refine' pss_cons ?s1 ?r1
    case s1 => exact ps_set (i := 1) scL.nd rfl (Or.inl rfl) (pe_call CT.ok hr rfl CT.m CT.kp CT.b .nil pass0 (pa_N (pv 0) (pa_C pe_int (pa_C pe_int pa_nil))))
    case r1 =>
      refine' pss_cons ?s2 ?r2
      case s2 => exact ps_asg (pe_call CD.ok hr rfl CD.m CD.kp CD.b .nil pass0 (pa_N (pv 0) (pa_C pe_int pa_nil))) (pg_tup rfl (pgs_cons (pg_name (i := 2) scL.nd rfl (Or.inl rfl)) (pgs_cons (pg_name (i := 3) scL.nd rfl (Or.inl rfl)) pgs_nil)))
      case r2 =>
        refine' pss_cons ?s3 ?r3
        case s3 => exact ps_set (i := 4) scL.nd rfl (Or.inl rfl) (pe_call CO.ok hr rfl CO.m CO.kp CO.b .nil pass0 (pa_N (pv 0) (pa_C pe_int (pa_N (pv 1) (pa_N (pv 2) (pa_N (pv 3) (pa_C pe_int pa_nil)))))))
        case r3 =>
          refine' pss_cons ?s4 pRest
          case s4 => exact ps_if (pt_cmpR op_eq (pe_call CK.ok hr rfl CK.m CK.kp CK.b .nil pass0 (pa_N (pv 0) (pa_C pe_int (pa_C pe_int pa_nil)))) pe_int (nomark _)) (pss_one (ps_set (i := 4) scL.nd rfl (Or.inl rfl) (pe_call CO.ok hr rfl CO.m CO.kp CO.b .nil pass0 (pa_N (pv 0) (pa_C pe_int (pa_N (pv 1) (pa_N (pv 2) (pa_N (pv 3) (pa_C pe_int pa_nil))))))))) pss_nil
  case fin =>
    have hlen : (keys0 : List (List Int)) → (keys0.map tileD).length = keys0.length := fun k => List.length_map _
    refine ⟨_, rfl, a, ns, 0, 4, rfl, hS, by decide, by decide, by decide, fun vt H1 keys s1 hk1 hk4 nd tk rt => ?_⟩
    refine ⟨_, rfl, a, ns, 90, rfl, s1.seq hS, by decide, fun bs H2 r c hr1 hr3 hc1 hc4 hrc s2 eb => ?_⟩
    refine ⟨bs, _, rfl, SqT.of eb, rfl, _, _, rfl, _, _, rfl, rfl, ?_⟩
    obtain ⟨rn, rfl⟩ : ∃ n : Nat, r = (n : Int) := ⟨r.toNat, by omega⟩
    obtain ⟨cn, rfl⟩ : ∃ n : Nat, c = (n : Int) := ⟨c.toNat, by omega⟩
    have h6 : rn * cn ≤ 6 := by
      have : ((rn * cn : Nat) : Int) ≤ 6 := by push_cast; exact hrc
      omega
    have go : ∀ {vf : V} {G : Hp} {rs : List (List V)} (S : Same H2 G), Rows (keys.map tileD).length ((rn : Int)).toNat ((cn : Int)).toNat rs → Flr G vf rs → rs.length = rn ∧ Even cn rs ∧ AllLie keys.length rs cn ∧ Nums rs ∧ Tls G vt keys ∧ SqL K G a (ns.map V.int) := fun {vf G rs} S rows hf => by
      rw [Int.toNat_natCast, Int.toNat_natCast, hlen] at rows
      have hl := rows.len
      refine ⟨hl, ⟨by omega, by omega, by omega, fun x hx => (rows.row x hx).1⟩, fun i j hi hj => ?_, fun x hx y hy => ?_, ⟨(rt.up s2).up S, fun k hk => (tk k hk).1⟩, (s1.trans (s2.trans S)).seq hS⟩
      · have hrow := rows.row _ (List.getElem_mem hi)
        have hjl : j < rs[i].length := by rw [hrow.1]; exact hj
        have : cellV rs i j = rs[i][j] := by
          unfold cellV
          simp [List.getD, hi, hjl]
        rw [this]
        exact hrow.2 _ (List.getElem_mem hjl)
      · rcases (rows.row x hx).2 y hy with rfl | ⟨i, rfl, _⟩
        · exact .inl rfl
        · exact .inr ⟨i, rfl⟩
    refine ⟨_, rfl, _, rfl, _, rfl, _, rfl, a, ns, 100, vt, keys.map tileD, (rn : Int), (cn : Int), 1, rfl, (s1.trans s2).seq hS, by decide, by decide, by decide, rt.up s2, by rw [hlen]; exact hk1, by rw [hlen]; omega, hr1, hr3, hc1, hc4, fun vf H3 rs s3 rows hf => ?_⟩
    obtain ⟨q1, q2, q3, q4, q5, q6⟩ := go s3 rows hf
    refine ⟨_, rfl, a, ns, 91, 2, rfl, q6, by decide, by decide, fun z H4 _ _ s4 => ⟨rfl, _, rfl, ite2 (fun _ => ?_) (fun _ => ?_)⟩⟩
    · refine ⟨_, rfl, _, rfl, _, rfl, _, rfl, a, ns, 100, vt, keys.map tileD, (rn : Int), (cn : Int), 2, rfl, s4.seq q6, by decide, by decide, by decide, ((rt.up s2).up s3).up s4, by rw [hlen]; exact hk1, by rw [hlen]; omega, hr1, hr3, hc1, hc4, fun vf' H5 rs' s5 rows' hf' => ?_⟩
      obtain ⟨p1, p2, p3, p4, p5, p6⟩ := go (s3.trans (s4.trans s5)) rows' hf'
      have := rRest { nx := fun x H' => Q V.non H', rt := Q } a ns keys rs' cn vt vf' H5 p6 p5 (by omega) hf' p2 (by omega) (by omega) (by omega) (by rw [p1]; exact h6) p3 p4 q
      rw [p1] at this
      exact this
    · have := rRest { nx := fun x H' => Q V.non H', rt := Q } a ns keys rs cn vt vf H4 (s4.seq q6) (q5.up s4) (by omega) (Flr.up s4 hf) q2 (by omega) (by omega) (by omega) (by rw [q1]; exact h6) q3 q4 q
      rw [q1] at this
      exact this
end
end K3

set_option Elab.async false
set_option linter.all false
set_option maxRecDepth 100000
set_option maxHeartbeats 4000000
namespace K3
open PySem L2
theorem all_mk {l : PySem.W.OpenLaw} {w : World} {K : PySem.W.Frag} {h : Heap} {mg : Str → Option Value} {fa f1 f2 f3 f4 f5 f6 f7 f8 f9 f10 f11 f12 f13 f14 f15 f16 f17 f18 f19 f20 f21 f22 f23 f24 f25 f26 : Addr} (X : K.In h) (G : h.Ns mainGlobals mg) (hfa : mg "law" = some (.ref fa))
    {od1 an1 od2 an2 od3 an3 od4 an4 od5 an5 od6 an6 od7 an7 od8 an8 od9 an9 od10 an10 od11 an11 od12 an12 od13 an13 od14 an14 od15 an15 od16 an16 od17 an17 od18 an18 od19 an19 od20 an20 od21 an21 od22 an22 od23 an23 od24 an24 od25 an25 od26 an26 : Option Addr} {sl1 sl2 sl3 sl4 sl5 sl6 sl7 sl8 sl9 sl10 sl11 sl12 sl13 sl14 sl15 sl16 sl17 sl18 sl19 sl20 sl21 sl22 sl23 sl24 sl25 sl26 : Array (Option Value)} {oc1 kV1 dc1 pm1 cd1 ct1 oc2 kV2 dc2 pm2 cd2 ct2 oc3 kV3 dc3 pm3 cd3 ct3 oc4 kV4 dc4 pm4 cd4 ct4 oc5 kV5 dc5 pm5 cd5 ct5 oc6 kV6 dc6 pm6 cd6 ct6 oc7 kV7 dc7 pm7 cd7 ct7 oc8 kV8 dc8 pm8 cd8 ct8 oc9 kV9 dc9 pm9 cd9 ct9 oc10 kV10 dc10 pm10 cd10 ct10 oc11 kV11 dc11 pm11 cd11 ct11 oc12 kV12 dc12 pm12 cd12 ct12 oc13 kV13 dc13 pm13 cd13 ct13 oc14 kV14 dc14 pm14 cd14 ct14 oc15 kV15 dc15 pm15 cd15 ct15 oc16 kV16 dc16 pm16 cd16 ct16 oc17 kV17 dc17 pm17 cd17 ct17 oc18 kV18 dc18 pm18 cd18 ct18 oc19 kV19 dc19 pm19 cd19 ct19 oc20 kV20 dc20 pm20 cd20 ct20 oc21 kV21 dc21 pm21 cd21 ct21 oc22 kV22 dc22 pm22 cd22 ct22 oc23 kV23 dc23 pm23 cd23 ct23 oc24 kV24 dc24 pm24 cd24 ct24 oc25 kV25 dc25 pm25 cd25 ct25 oc26 kV26 dc26 pm26 cd26 ct26 : Value}
    (a1 : PySem.W.nsIn K mainGlobals "is_whole" = some (some (.ref f1))) (l1 : K.lookup f1 = some ⟨oc1, od1, .func (PySem.W.fnOf "is_whole" "is_whole" (defArgs sWhole) (defBody sWhole) (defScope sWhole) .none kV1 dc1 pm1 an1 cd1 ct1), sl1⟩) (c1 : PySem.W.codeIn K cd1 "is_whole" = true) (k1 : PySem.W.keepIn K (.ref f1) = true)
    (a2 : PySem.W.nsIn K mainGlobals "is_tuple_of" = some (some (.ref f2))) (l2 : K.lookup f2 = some ⟨oc2, od2, .func (PySem.W.fnOf "is_tuple_of" "is_tuple_of" (defArgs sTupOf) (defBody sTupOf) (defScope sTupOf) .none kV2 dc2 pm2 an2 cd2 ct2), sl2⟩) (c2 : PySem.W.codeIn K cd2 "is_tuple_of" = true) (k2 : PySem.W.keepIn K (.ref f2) = true)
    (a3 : PySem.W.nsIn K mainGlobals "has_number" = some (some (.ref f3))) (l3 : K.lookup f3 = some ⟨oc3, od3, .func (PySem.W.fnOf "has_number" "has_number" (defArgs sHas) (defBody sHas) (defScope sHas) .none kV3 dc3 pm3 an3 cd3 ct3), sl3⟩) (c3 : PySem.W.codeIn K cd3 "has_number" = true) (k3 : PySem.W.keepIn K (.ref f3) = true)
    (a4 : PySem.W.nsIn K mainGlobals "size_of" = some (some (.ref f4))) (l4 : K.lookup f4 = some ⟨oc4, od4, .func (PySem.W.fnOf "size_of" "size_of" (defArgs sSize) (defBody sSize) (defScope sSize) .none kV4 dc4 pm4 an4 cd4 ct4), sl4⟩) (c4 : PySem.W.codeIn K cd4 "size_of" = true) (k4 : PySem.W.keepIn K (.ref f4) = true)
    (a5 : PySem.W.nsIn K mainGlobals "places_of" = some (some (.ref f5))) (l5 : K.lookup f5 = some ⟨oc5, od5, .func (PySem.W.fnOf "places_of" "places_of" (defArgs sPlaces) (defBody sPlaces) (defScope sPlaces) .none kV5 dc5 pm5 an5 cd5 ct5), sl5⟩) (c5 : PySem.W.codeIn K cd5 "places_of" = true) (k5 : PySem.W.keepIn K (.ref f5) = true)
    (a6 : PySem.W.nsIn K mainGlobals "number_at" = some (some (.ref f6))) (l6 : K.lookup f6 = some ⟨oc6, od6, .func (PySem.W.fnOf "number_at" "number_at" (defArgs sNumber) (defBody sNumber) (defScope sNumber) .none kV6 dc6 pm6 an6 cd6 ct6), sl6⟩) (c6 : PySem.W.codeIn K cd6 "number_at" = true) (k6 : PySem.W.keepIn K (.ref f6) = true)
    (a7 : PySem.W.nsIn K mainGlobals "has_place" = some (some (.ref f7))) (l7 : K.lookup f7 = some ⟨oc7, od7, .func (PySem.W.fnOf "has_place" "has_place" (defArgs sHasP) (defBody sHasP) (defScope sHasP) .none kV7 dc7 pm7 an7 cd7 ct7), sl7⟩) (c7 : PySem.W.codeIn K cd7 "has_place" = true) (k7 : PySem.W.keepIn K (.ref f7) = true)
    (a8 : PySem.W.nsIn K mainGlobals "edge_at" = some (some (.ref f8))) (l8 : K.lookup f8 = some ⟨oc8, od8, .func (PySem.W.fnOf "edge_at" "edge_at" (defArgs sEdge) (defBody sEdge) (defScope sEdge) .none kV8 dc8 pm8 an8 cd8 ct8), sl8⟩) (c8 : PySem.W.codeIn K cd8 "edge_at" = true) (k8 : PySem.W.keepIn K (.ref f8) = true)
    (a9 : PySem.W.nsIn K mainGlobals "do_clash" = some (some (.ref f9))) (l9 : K.lookup f9 = some ⟨oc9, od9, .func (PySem.W.fnOf "do_clash" "do_clash" (defArgs sClash) (defBody sClash) (defScope sClash) .none kV9 dc9 pm9 an9 cd9 ct9), sl9⟩) (c9 : PySem.W.codeIn K cd9 "do_clash" = true) (k9 : PySem.W.keepIn K (.ref f9) = true)
    (a10 : PySem.W.nsIn K mainGlobals "clashes_east" = some (some (.ref f10))) (l10 : K.lookup f10 = some ⟨oc10, od10, .func (PySem.W.fnOf "clashes_east" "clashes_east" (defArgs sCE) (defBody sCE) (defScope sCE) .none kV10 dc10 pm10 an10 cd10 ct10), sl10⟩) (c10 : PySem.W.codeIn K cd10 "clashes_east" = true) (k10 : PySem.W.keepIn K (.ref f10) = true)
    (a11 : PySem.W.nsIn K mainGlobals "clashes_south" = some (some (.ref f11))) (l11 : K.lookup f11 = some ⟨oc11, od11, .func (PySem.W.fnOf "clashes_south" "clashes_south" (defArgs sCS) (defBody sCS) (defScope sCS) .none kV11 dc11 pm11 an11 cd11 ct11), sl11⟩) (c11 : PySem.W.codeIn K cd11 "clashes_south" = true) (k11 : PySem.W.keepIn K (.ref f11) = true)
    (a12 : PySem.W.nsIn K mainGlobals "clashes" = some (some (.ref f12))) (l12 : K.lookup f12 = some ⟨oc12, od12, .func (PySem.W.fnOf "clashes" "clashes" (defArgs sClashes) (defBody sClashes) (defScope sClashes) .none kV12 dc12 pm12 an12 cd12 ct12), sl12⟩) (c12 : PySem.W.codeIn K cd12 "clashes" = true) (k12 : PySem.W.keepIn K (.ref f12) = true)
    (a13 : PySem.W.nsIn K mainGlobals "is_right" = some (some (.ref f13))) (l13 : K.lookup f13 = some ⟨oc13, od13, .func (PySem.W.fnOf "is_right" "is_right" (defArgs sRight) (defBody sRight) (defScope sRight) .none kV13 dc13 pm13 an13 cd13 ct13), sl13⟩) (c13 : PySem.W.codeIn K cd13 "is_right" = true) (k13 : PySem.W.keepIn K (.ref f13) = true)
    (a14 : PySem.W.nsIn K mainGlobals "edges_along" = some (some (.ref f14))) (l14 : K.lookup f14 = some ⟨oc14, od14, .func (PySem.W.fnOf "edges_along" "edges_along" (defArgs sAlong) (defBody sAlong) (defScope sAlong) .none kV14 dc14 pm14 an14 cd14 ct14), sl14⟩) (c14 : PySem.W.codeIn K cd14 "edges_along" = true) (k14 : PySem.W.keepIn K (.ref f14) = true)
    (a15 : PySem.W.nsIn K mainGlobals "edges_of" = some (some (.ref f15))) (l15 : K.lookup f15 = some ⟨oc15, od15, .func (PySem.W.fnOf "edges_of" "edges_of" (defArgs sEdges) (defBody sEdges) (defScope sEdges) .none kV15 dc15 pm15 an15 cd15 ct15), sl15⟩) (c15 : PySem.W.codeIn K cd15 "edges_of" = true) (k15 : PySem.W.keepIn K (.ref f15) = true)
    (a16 : PySem.W.nsIn K mainGlobals "stretch" = some (some (.ref f16))) (l16 : K.lookup f16 = some ⟨oc16, od16, .func (PySem.W.fnOf "stretch" "stretch" (defArgs sStretch) (defBody sStretch) (defScope sStretch) .none kV16 dc16 pm16 an16 cd16 ct16), sl16⟩) (c16 : PySem.W.codeIn K cd16 "stretch" = true) (k16 : PySem.W.keepIn K (.ref f16) = true)
    (a17 : PySem.W.nsIn K mainGlobals "part" = some (some (.ref f17))) (l17 : K.lookup f17 = some ⟨oc17, od17, .func (PySem.W.fnOf "part" "part" (defArgs sPart) (defBody sPart) (defScope sPart) .none kV17 dc17 pm17 an17 cd17 ct17), sl17⟩) (c17 : PySem.W.codeIn K cd17 "part" = true) (k17 : PySem.W.keepIn K (.ref f17) = true)
    (a18 : PySem.W.nsIn K mainGlobals "_law_cell" = some (some (.ref f18))) (l18 : K.lookup f18 = some ⟨oc18, od18, .func (PySem.W.fnOf "_law_cell" "_law_cell" (defArgs sCell) (defBody sCell) (defScope sCell) .none kV18 dc18 pm18 an18 cd18 ct18), sl18⟩) (c18 : PySem.W.codeIn K cd18 "_law_cell" = true) (k18 : PySem.W.keepIn K (.ref f18) = true)
    (a19 : PySem.W.nsIn K mainGlobals "_law_pick" = some (some (.ref f19))) (l19 : K.lookup f19 = some ⟨oc19, od19, .func (PySem.W.fnOf "_law_pick" "_law_pick" (defArgs sPick) (defBody sPick) (defScope sPick) .none kV19 dc19 pm19 an19 cd19 ct19), sl19⟩) (c19 : PySem.W.codeIn K cd19 "_law_pick" = true) (k19 : PySem.W.keepIn K (.ref f19) = true)
    (a20 : PySem.W.nsIn K mainGlobals "_law_tiles" = some (some (.ref f20))) (l20 : K.lookup f20 = some ⟨oc20, od20, .func (PySem.W.fnOf "_law_tiles" "_law_tiles" (defArgs sTiles) (defBody sTiles) (defScope sTiles) .none kV20 dc20 pm20 an20 cd20 ct20), sl20⟩) (c20 : PySem.W.codeIn K cd20 "_law_tiles" = true) (k20 : PySem.W.keepIn K (.ref f20) = true)
    (a21 : PySem.W.nsIn K mainGlobals "_law_floor" = some (some (.ref f21))) (l21 : K.lookup f21 = some ⟨oc21, od21, .func (PySem.W.fnOf "_law_floor" "_law_floor" (defArgs sFloorL) (defBody sFloorL) (defScope sFloorL) .none kV21 dc21 pm21 an21 cd21 ct21), sl21⟩) (c21 : PySem.W.codeIn K cd21 "_law_floor" = true) (k21 : PySem.W.keepIn K (.ref f21) = true)
    (a22 : PySem.W.nsIn K mainGlobals "_law_sides" = some (some (.ref f22))) (l22 : K.lookup f22 = some ⟨oc22, od22, .func (PySem.W.fnOf "_law_sides" "_law_sides" (defArgs sSides) (defBody sSides) (defScope sSides) .none kV22 dc22 pm22 an22 cd22 ct22), sl22⟩) (c22 : PySem.W.codeIn K cd22 "_law_sides" = true) (k22 : PySem.W.keepIn K (.ref f22) = true)
    (a23 : PySem.W.nsIn K mainGlobals "_law_fills" = some (some (.ref f23))) (l23 : K.lookup f23 = some ⟨oc23, od23, .func (PySem.W.fnOf "_law_fills" "_law_fills" (defArgs sFills) (defBody sFills) (defScope sFills) .none kV23 dc23 pm23 an23 cd23 ct23), sl23⟩) (c23 : PySem.W.codeIn K cd23 "_law_fills" = true) (k23 : PySem.W.keepIn K (.ref f23) = true)
    (a24 : PySem.W.nsIn K mainGlobals "_law_as_floor" = some (some (.ref f24))) (l24 : K.lookup f24 = some ⟨oc24, od24, .func (PySem.W.fnOf "_law_as_floor" "_law_as_floor" (defArgs sAsFloor) (defBody sAsFloor) (defScope sAsFloor) .none kV24 dc24 pm24 an24 cd24 ct24), sl24⟩) (c24 : PySem.W.codeIn K cd24 "_law_as_floor" = true) (k24 : PySem.W.keepIn K (.ref f24) = true)
    (a25 : PySem.W.nsIn K mainGlobals "_law_clashes" = some (some (.ref f25))) (l25 : K.lookup f25 = some ⟨oc25, od25, .func (PySem.W.fnOf "_law_clashes" "_law_clashes" (defArgs sLClashes) (defBody sLClashes) (defScope sLClashes) .none kV25 dc25 pm25 an25 cd25 ct25), sl25⟩) (c25 : PySem.W.codeIn K cd25 "_law_clashes" = true) (k25 : PySem.W.keepIn K (.ref f25) = true)
    (a26 : PySem.W.nsIn K mainGlobals "law" = some (some (.ref f26))) (l26 : K.lookup f26 = some ⟨oc26, od26, .func (PySem.W.fnOf "law" "law" (defArgs sLaw) (defBody sLaw) (defScope sLaw) .none kV26 dc26 pm26 an26 cd26 ct26), sl26⟩) (c26 : PySem.W.codeIn K cd26 "law" = true) (k26 : PySem.W.keepIn K (.ref f26) = true)
    (z1 : PySem.W.nsIn K mainGlobals "isinstance" = some none)
    (z2 : PySem.W.nsIn K mainGlobals "int" = some none)
    (z3 : PySem.W.nsIn K mainGlobals "bool" = some none)
    (z4 : PySem.W.nsIn K mainGlobals "tuple" = some none)
    (z5 : PySem.W.nsIn K mainGlobals "list" = some none)
    (z6 : PySem.W.nsIn K mainGlobals "len" = some none)
    (z7 : PySem.W.nsIn K mainGlobals "range" = some none)
    (z8 : PySem.W.nsIn K mainGlobals "all" = some none)
    (z9 : PySem.W.nsIn K mainGlobals "enumerate" = some none)
    (z10 : PySem.W.nsIn K mainGlobals "max" = some none)
    {gt1 : Tok} (gl1 : PySem.W.nsIn K mainGlobals "NORTH" = some (some (.int 0 gt1)))
    {gt2 : Tok} (gl2 : PySem.W.nsIn K mainGlobals "EAST" = some (some (.int 1 gt2)))
    {gt3 : Tok} (gl3 : PySem.W.nsIn K mainGlobals "SOUTH" = some (some (.int 2 gt3)))
    {gt4 : Tok} (gl4 : PySem.W.nsIn K mainGlobals "WEST" = some (some (.int 3 gt4)))
    : ∃ fd : FuncData, (∀ (s : Shared) (v : Value), BindsTo s fd ⟨[v], []⟩ [("_law_script", v)]) ∧ ∀ base : Heap, K.In base → base.Ns mainGlobals mg → FnOk l.prog w K mg base CX0 7 fa fd ["_law_script"] (spLaw K) := by
  have e := hfa.symm.trans (PySem.W.mg_of X G a26)
  cases e
  have T : Txt mg := ⟨PySem.W.mg_none_of X G z1, PySem.W.mg_none_of X G z2, PySem.W.mg_none_of X G z3, PySem.W.mg_none_of X G z4, PySem.W.mg_none_of X G z5, PySem.W.mg_none_of X G z6, PySem.W.mg_none_of X G z7⟩
  have F1 := fun_mk (st := sWhole) l1 c1 k1
  have b1 := F1.binds (ps := ["thing"]) fun _ _ _ _ _ _ us hl => match us, hl with | [_], _ => rfl
  have m1 := PySem.W.mg_of X G a1
  have F2 := fun_mk (st := sTupOf) l2 c2 k2
  have b2 := F2.binds (ps := ["thing", "least", "most"]) fun _ _ _ _ _ _ us hl => match us, hl with | [_, _, _], _ => rfl
  have m2 := PySem.W.mg_of X G a2
  have F3 := fun_mk (st := sHas) l3 c3 k3
  have b3 := F3.binds (ps := ["tiles", "thing"]) fun _ _ _ _ _ _ us hl => match us, hl with | [_, _], _ => rfl
  have m3 := PySem.W.mg_of X G a3
  have F4 := fun_mk (st := sSize) l4 c4 k4
  have b4 := F4.binds (ps := ["floor"]) fun _ _ _ _ _ _ us hl => match us, hl with | [_], _ => rfl
  have m4 := PySem.W.mg_of X G a4
  have F5 := fun_mk (st := sPlaces) l5 c5 k5
  have b5 := F5.binds (ps := ["floor"]) fun _ _ _ _ _ _ us hl => match us, hl with | [_], _ => rfl
  have m5 := PySem.W.mg_of X G a5
  have F6 := fun_mk (st := sNumber) l6 c6 k6
  have b6 := F6.binds (ps := ["floor", "place"]) fun _ _ _ _ _ _ us hl => match us, hl with | [_, _], _ => rfl
  have m6 := PySem.W.mg_of X G a6
  have F7 := fun_mk (st := sHasP) l7 c7 k7
  have b7 := F7.binds (ps := ["floor", "place"]) fun _ _ _ _ _ _ us hl => match us, hl with | [_, _], _ => rfl
  have m7 := PySem.W.mg_of X G a7
  have F8 := fun_mk (st := sEdge) l8 c8 k8
  have b8 := F8.binds (ps := ["tiles", "floor", "place", "side"]) fun _ _ _ _ _ _ us hl => match us, hl with | [_, _, _, _], _ => rfl
  have m8 := PySem.W.mg_of X G a8
  have F9 := fun_mk (st := sClash) l9 c9 k9
  have b9 := F9.binds (ps := ["one", "other"]) fun _ _ _ _ _ _ us hl => match us, hl with | [_, _], _ => rfl
  have m9 := PySem.W.mg_of X G a9
  have F10 := fun_mk (st := sCE) l10 c10 k10
  have b10 := F10.binds (ps := ["tiles", "floor", "place"]) fun _ _ _ _ _ _ us hl => match us, hl with | [_, _, _], _ => rfl
  have m10 := PySem.W.mg_of X G a10
  have F11 := fun_mk (st := sCS) l11 c11 k11
  have b11 := F11.binds (ps := ["tiles", "floor", "place"]) fun _ _ _ _ _ _ us hl => match us, hl with | [_, _, _], _ => rfl
  have m11 := PySem.W.mg_of X G a11
  have F12 := fun_mk (st := sClashes) l12 c12 k12
  have b12 := F12.binds (ps := ["tiles", "floor"]) fun _ _ _ _ _ _ us hl => match us, hl with | [_, _], _ => rfl
  have m12 := PySem.W.mg_of X G a12
  have F13 := fun_mk (st := sRight) l13 c13 k13
  have b13 := F13.binds (ps := ["tiles", "floor"]) fun _ _ _ _ _ _ us hl => match us, hl with | [_, _], _ => rfl
  have m13 := PySem.W.mg_of X G a13
  have F14 := fun_mk (st := sAlong) l14 c14 k14
  have b14 := F14.binds (ps := ["tiles", "floor", "places", "side"]) fun _ _ _ _ _ _ us hl => match us, hl with | [_, _, _, _], _ => rfl
  have m14 := PySem.W.mg_of X G a14
  have F15 := fun_mk (st := sEdges) l15 c15 k15
  have b15 := F15.binds (ps := ["tiles", "floor"]) fun _ _ _ _ _ _ us hl => match us, hl with | [_, _], _ => rfl
  have m15 := PySem.W.mg_of X G a15
  have F16 := fun_mk (st := sStretch) l16 c16 k16
  have b16 := F16.binds (ps := ["things", "first", "many"]) fun _ _ _ _ _ _ us hl => match us, hl with | [_, _, _], _ => rfl
  have m16 := PySem.W.mg_of X G a16
  have F17 := fun_mk (st := sPart) l17 c17 k17
  have b17 := F17.binds (ps := ["floor", "top", "left", "rows", "columns"]) fun _ _ _ _ _ _ us hl => match us, hl with | [_, _, _, _, _], _ => rfl
  have m17 := PySem.W.mg_of X G a17
  have F18 := fun_mk (st := sCell) l18 c18 k18
  have b18 := F18.binds (ps := ["_law_script", "_law_k"]) fun _ _ _ _ _ _ us hl => match us, hl with | [_, _], _ => rfl
  have m18 := PySem.W.mg_of X G a18
  have F19 := fun_mk (st := sPick) l19 c19 k19
  have b19 := F19.binds (ps := ["_law_script", "_law_k", "_law_many"]) fun _ _ _ _ _ _ us hl => match us, hl with | [_, _, _], _ => rfl
  have m19 := PySem.W.mg_of X G a19
  have F20 := fun_mk (st := sTiles) l20 c20 k20
  have b20 := F20.binds (ps := ["_law_script", "_law_at", "_law_most"]) fun _ _ _ _ _ _ us hl => match us, hl with | [_, _, _], _ => rfl
  have m20 := PySem.W.mg_of X G a20
  have F21 := fun_mk (st := sFloorL) l21 c21 k21
  have b21 := F21.binds (ps := ["_law_script", "_law_at", "_law_tiles_here", "_law_rows", "_law_columns", "_law_many"]) fun _ _ _ _ _ _ us hl => match us, hl with | [_, _, _, _, _, _], _ => rfl
  have m21 := PySem.W.mg_of X G a21
  have F22 := fun_mk (st := sSides) l22 c22 k22
  have b22 := F22.binds (ps := ["_law_script", "_law_at"]) fun _ _ _ _ _ _ us hl => match us, hl with | [_, _], _ => rfl
  have m22 := PySem.W.mg_of X G a22
  have F23 := fun_mk (st := sFills) l23 c23 k23
  have b23 := F23.binds (ps := ["_law_tiles_here", "_law_floor_here"]) fun _ _ _ _ _ _ us hl => match us, hl with | [_, _], _ => rfl
  have m23 := PySem.W.mg_of X G a23
  have F24 := fun_mk (st := sAsFloor) l24 c24 k24
  have b24 := F24.binds (ps := ["_law_numbers", "_law_columns"]) fun _ _ _ _ _ _ us hl => match us, hl with | [_, _], _ => rfl
  have m24 := PySem.W.mg_of X G a24
  have F25 := fun_mk (st := sLClashes) l25 c25 k25
  have b25 := F25.binds (ps := ["_law_tiles_here", "_law_floor_here", "_law_rows", "_law_columns"]) fun _ _ _ _ _ _ us hl => match us, hl with | [_, _, _, _], _ => rfl
  have m25 := PySem.W.mg_of X G a25
  have F26 := fun_mk (st := sLaw) l26 c26 k26
  have S : Sd mg := ⟨⟨_, PySem.W.mg_of X G gl1⟩, ⟨_, PySem.W.mg_of X G gl2⟩, ⟨_, PySem.W.mg_of X G gl3⟩, ⟨_, PySem.W.mg_of X G gl4⟩⟩
  refine ⟨PySem.W.fnOf "law" "law" (defArgs sLaw) (defBody sLaw) (defScope sLaw) .none kV26 dc26 pm26 an26 cd26 ct26, fun s v => .of_eq rfl, fun base _ _ => ?_⟩
  have G1 : FnOk l.prog w K mg base CX0 1 f1 _ ["thing"] (sp1 isWhole) := ok_whole F1 T
  have G2 : FnOk l.prog w K mg base CX0 1 f2 _ ["thing", "least", "most"] spTup := ok_tupOf F2 T
  have G3 : FnOk l.prog w K mg base CX0 2 f3 _ ["tiles", "thing"] (sp2 hasNum) := ok_has F3 T G1 b1 k1 m1
  have G4 : FnOk l.prog w K mg base CX0 1 f4 _ ["floor"] spSize := ok_size F4 T
  have G5 : FnOk l.prog w K mg base CX0 2 f5 _ ["floor"] spPlaces := ok_places F5 T G4 b4 k4 m4
  have G6 : FnOk l.prog w K mg base CX0 1 f6 _ ["floor", "place"] spNumber := ok_number F6
  have G7 : FnOk l.prog w K mg base CX0 2 f7 _ ["floor", "place"] spHasP := ok_hasP F7 G2 b2 k2 m2 G1 b1 k1 m1 G4 b4 k4 m4
  have G8 : FnOk l.prog w K mg base CX0 3 f8 _ ["tiles", "floor", "place", "side"] spEdge := ok_edge F8 ⟨G7.mono (by decide), b7, k7, m7⟩ ⟨G6.mono (by decide), b6, k6, m6⟩ ⟨G3.mono (by decide), b3, k3, m3⟩
  have G9 : FnOk l.prog w K mg base CX0 1 f9 _ ["one", "other"] spClash := ok_clash F9
  have G10 : FnOk l.prog w K mg base CX0 4 f10 _ ["tiles", "floor", "place"] (spCl 0 1 1 3) := ok_ce F10 S ⟨G8.mono (by decide), b8, k8, m8⟩ ⟨G9.mono (by decide), b9, k9, m9⟩
  have G11 : FnOk l.prog w K mg base CX0 4 f11 _ ["tiles", "floor", "place"] (spCl 1 0 2 0) := ok_cs F11 S ⟨G8.mono (by decide), b8, k8, m8⟩ ⟨G9.mono (by decide), b9, k9, m9⟩
  have G12 : FnOk l.prog w K mg base CX0 5 f12 _ ["tiles", "floor"] spClashes := ok_clashes F12 ⟨G5.mono (by decide), b5, k5, m5⟩ ⟨G10.mono (by decide), b10, k10, m10⟩ ⟨G11.mono (by decide), b11, k11, m11⟩
  have G13 : FnOk l.prog w K mg base CX0 6 f13 _ ["tiles", "floor"] spRight := ok_right F13 T (PySem.W.mg_none_of X G z8) ⟨G5.mono (by decide), b5, k5, m5⟩ ⟨G6.mono (by decide), b6, k6, m6⟩ ⟨G3.mono (by decide), b3, k3, m3⟩ ⟨G12.mono (by decide), b12, k12, m12⟩
  have G14 : FnOk l.prog w K mg base CX0 4 f14 _ ["tiles", "floor", "places", "side"] spAlong := ok_along F14 T ⟨G8.mono (by decide), b8, k8, m8⟩
  have G15 : FnOk l.prog w K mg base CX0 5 f15 _ ["tiles", "floor"] spEdges := ok_edges F15 T S ⟨G4.mono (by decide), b4, k4, m4⟩ ⟨G14.mono (by decide), b14, k14, m14⟩
  have G16 : FnOk l.prog w K mg base CX0 1 f16 _ ["things", "first", "many"] spStretch := ok_stretch F16 (PySem.W.mg_none_of X G z10)
  have G17 : FnOk l.prog w K mg base CX0 2 f17 _ ["floor", "top", "left", "rows", "columns"] spPart := ok_part F17 T ⟨G16.mono (by decide), b16, k16, m16⟩
  have G18 : FnOk l.prog w K mg base CX0 1 f18 _ ["_law_script", "_law_k"] (spCell K) := ok_cell F18 T
  have G19 : FnOk l.prog w K mg base CX0 2 f19 _ ["_law_script", "_law_k", "_law_many"] (spPick K) := ok_pick F19 G18 b18 k18 m18
  have G20 : FnOk l.prog w K mg base CX0 3 f20 _ ["_law_script", "_law_at", "_law_most"] (spTiles K) := ok_tiles F20 T G19 b19 k19 m19
  have G21 : FnOk l.prog w K mg base CX0 3 f21 _ ["_law_script", "_law_at", "_law_tiles_here", "_law_rows", "_law_columns", "_law_many"] (spFloorL K) := ok_floorL F21 T G19 b19 k19 m19
  have G22 : FnOk l.prog w K mg base CX0 3 f22 _ ["_law_script", "_law_at"] (spSides K) := ok_sides F22 G19 b19 k19 m19
  have G23 : FnOk l.prog w K mg base CX0 1 f23 _ ["_law_tiles_here", "_law_floor_here"] spFills := ok_fills F23 T (PySem.W.mg_none_of X G z9)
  have G24 : FnOk l.prog w K mg base CX0 1 f24 _ ["_law_numbers", "_law_columns"] spAsFloor := ok_asFloor F24 T
  have G25 : FnOk l.prog w K mg base CX0 1 f25 _ ["_law_tiles_here", "_law_floor_here", "_law_rows", "_law_columns"] spLC := ok_lc F25 T
  exact ok_law F26 T ⟨G19.mono (by decide), b19, k19, m19⟩ ⟨G25.mono (by decide), b25, k25, m25⟩ ⟨G12.mono (by decide), b12, k12, m12⟩ ⟨G13.mono (by decide), b13, k13, m13⟩ ⟨G23.mono (by decide), b23, k23, m23⟩ ⟨G24.mono (by decide), b24, k24, m24⟩ ⟨G17.mono (by decide), b17, k17, m17⟩ ⟨G15.mono (by decide), b15, k15, m15⟩ ⟨G20.mono (by decide), b20, k20, m20⟩ ⟨G21.mono (by decide), b21, k21, m21⟩ ⟨G22.mono (by decide), b22, k22, m22⟩
theorem walk {l : PySem.W.OpenLaw} {q : Program} {loose : List Str} {XP : (Str → Option Value) → Heap → Prop} {YP : World → Heap → Prop} {d : DefRec} {K : Params → PySem.W.Frag} (hn : l.most = some 63) (hdf : d.params.defaults = [])
    (hY : ∀ (w : World) (h : Heap), YP w h → (K w.params).In h)
    (F : ∀ (w : World) (mg : Str → Option Value) (fa : Addr) (h : Heap), (K w.params).In h → h.Ns mainGlobals mg → mg d.name = some (.ref fa) →
      ∃ fd : FuncData, (∀ (s : Shared) (u : Value), BindsTo s fd ⟨[u], []⟩ [("_law_script", u)]) ∧ ∀ base : Heap, (K w.params).In base → base.Ns mainGlobals mg → FnOk l.prog w (K w.params) mg base CX0 7 fa fd ["_law_script"] (spLaw (K w.params))) :
    PySem.W.WalkO q loose XP YP l.row.toRowW d [] (fun f vs => PySem.call f vs) :=
  L2.walk_of (n := 63) (k := 7) (x := "_law_script") (CX := fun _ => CX0) (sp := fun w => spLaw (K w.params)) hn (by decide) hdf ⟨rfl, by decide, by decide⟩ hY F (fun _ _ a ns hl _ hS => ⟨a, ns, rfl, hS, fun _ => rfl⟩) fun _ _ _ _ _ z => z
end K3

open PySem PySem.W PyProof.Rows
set_option Elab.async false
set_option maxRecDepth 100000 in
set_option maxHeartbeats 0 in
theorem PySem.Challenge.cw_floorfits_k03_clashes_holds : PySem.Challenge.rw_floorfits_k03_clashes.Holds := by
  w_on; o_law; k_head; (case hw => w_witness2)
  k_fill
  refine K3.walk (l := PySem.Challenge.rw_floorfits_k03_clashes) rfl rfl (fun w h Y => PySem.W.kIn_of Y) ?F
  case F =>
    intro w mg fa h KX G hmg
    refine' K3.all_mk KX G hmg ?a1 ?l1 ?c1 ?k1 ?a2 ?l2 ?c2 ?k2 ?a3 ?l3 ?c3 ?k3 ?a4 ?l4 ?c4 ?k4 ?a5 ?l5 ?c5 ?k5 ?a6 ?l6 ?c6 ?k6 ?a7 ?l7 ?c7 ?k7 ?a8 ?l8 ?c8 ?k8 ?a9 ?l9 ?c9 ?k9 ?a10 ?l10 ?c10 ?k10 ?a11 ?l11 ?c11 ?k11 ?a12 ?l12 ?c12 ?k12 ?a13 ?l13 ?c13 ?k13 ?a14 ?l14 ?c14 ?k14 ?a15 ?l15 ?c15 ?k15 ?a16 ?l16 ?c16 ?k16 ?a17 ?l17 ?c17 ?k17 ?a18 ?l18 ?c18 ?k18 ?a19 ?l19 ?c19 ?k19 ?a20 ?l20 ?c20 ?k20 ?a21 ?l21 ?c21 ?k21 ?a22 ?l22 ?c22 ?k22 ?a23 ?l23 ?c23 ?k23 ?a24 ?l24 ?c24 ?k24 ?a25 ?l25 ?c25 ?k25 ?a26 ?l26 ?c26 ?k26 ?z1 ?z2 ?z3 ?z4 ?z5 ?z6 ?z7 ?z8 ?z9 ?z10 ?gl1 ?gl2 ?gl3 ?gl4
    (case a1 => k_is); (case l1 => k_is); (case c1 => k_is); (case k1 => k_is)
    (case a2 => k_is); (case l2 => k_is); (case c2 => k_is); (case k2 => k_is)
    (case a3 => k_is); (case l3 => k_is); (case c3 => k_is); (case k3 => k_is)
    (case a4 => k_is); (case l4 => k_is); (case c4 => k_is); (case k4 => k_is)
    (case a5 => k_is); (case l5 => k_is); (case c5 => k_is); (case k5 => k_is)
    (case a6 => k_is); (case l6 => k_is); (case c6 => k_is); (case k6 => k_is)
    (case a7 => k_is); (case l7 => k_is); (case c7 => k_is); (case k7 => k_is)
    (case a8 => k_is); (case l8 => k_is); (case c8 => k_is); (case k8 => k_is)
    (case a9 => k_is); (case l9 => k_is); (case c9 => k_is); (case k9 => k_is)
    (case a10 => k_is); (case l10 => k_is); (case c10 => k_is); (case k10 => k_is)
    (case a11 => k_is); (case l11 => k_is); (case c11 => k_is); (case k11 => k_is)
    (case a12 => k_is); (case l12 => k_is); (case c12 => k_is); (case k12 => k_is)
    (case a13 => k_is); (case l13 => k_is); (case c13 => k_is); (case k13 => k_is)
    (case a14 => k_is); (case l14 => k_is); (case c14 => k_is); (case k14 => k_is)
    (case a15 => k_is); (case l15 => k_is); (case c15 => k_is); (case k15 => k_is)
    (case a16 => k_is); (case l16 => k_is); (case c16 => k_is); (case k16 => k_is)
    (case a17 => k_is); (case l17 => k_is); (case c17 => k_is); (case k17 => k_is)
    (case a18 => k_is); (case l18 => k_is); (case c18 => k_is); (case k18 => k_is)
    (case a19 => k_is); (case l19 => k_is); (case c19 => k_is); (case k19 => k_is)
    (case a20 => k_is); (case l20 => k_is); (case c20 => k_is); (case k20 => k_is)
    (case a21 => k_is); (case l21 => k_is); (case c21 => k_is); (case k21 => k_is)
    (case a22 => k_is); (case l22 => k_is); (case c22 => k_is); (case k22 => k_is)
    (case a23 => k_is); (case l23 => k_is); (case c23 => k_is); (case k23 => k_is)
    (case a24 => k_is); (case l24 => k_is); (case c24 => k_is); (case k24 => k_is)
    (case a25 => k_is); (case l25 => k_is); (case c25 => k_is); (case k25 => k_is)
    (case a26 => k_is); (case l26 => k_is); (case c26 => k_is); (case k26 => k_is)
    (case z1 => k_is); (case z2 => k_is); (case z3 => k_is); (case z4 => k_is)
    (case z5 => k_is); (case z6 => k_is); (case z7 => k_is); (case z8 => k_is)
    (case z9 => k_is); (case z10 => k_is); (case gl1 => k_is); (case gl2 => k_is)
    (case gl3 => k_is); (case gl4 => k_is)
#print axioms PySem.Challenge.cw_floorfits_k03_clashes_holds
