import PyProof.Rows.All
import Wide.All
import OpenK.AllK
import Wide.FinOn
import Lean
import PyProof.EqAt
import PyProof.EqKinds
import PyProof.TupleCall
import PyProof.TupleKey
import OpenK.KRaise
import OpenK.KOwn
import PyProof.Rows.TopTwo
import PyProof.RulesAs
import PyProof.RulesDel
import PyProof.ExcArgsOwn
import PyProof.ExcAttrAll.ValueError
import PyProof.Rows.CountFlat
import PySem.Challenge.RW_floorfits_k02_places
set_option Elab.async false
set_option linter.all false
set_option maxRecDepth 100000
/-! THE HAND LAYER, for ints, bools, texts, own classes, LISTS and tuples (index, slices, in, append, pop ..), calls, loops. Paste it whole ahead of your own text; what your proof does not reach may be deleted. -/
namespace L2
open PySem PySem.Spec PyProof.Rows

/-- a key: an int or a str -/
abbrev Key := Sum Int Str
def keyIs : Key → Value → Bool
  | .inl k, v => Value.isInt k v
  | .inr x, v => Value.isStrOf x v
def keyH (w : World) : Key → Int
  | .inl k => hashInt k
  | .inr x => hashStr w x
theorem keyIs_shape : ∀ {k : Key} {v : Value}, keyIs k v = true → (∃ i t, k = Sum.inl i ∧ v = Value.int i t) ∨ (∃ x t, k = Sum.inr x ∧ v = Value.str x t)
  | .inl i, v, h => by
    obtain ⟨t, e⟩ := Value.isInt_shape (k := i) (v := v) h
    exact .inl ⟨i, t, rfl, e⟩
  | .inr x, v, h => by
    obtain ⟨t, e⟩ := Value.isStrOf_shape (x := x) (v := v) h
    exact .inr ⟨x, t, rfl, e⟩
theorem keyIs_int (i : Int) (t : Tok) : keyIs (.inl i) (.int i t) = true := by simp [keyIs, Value.isInt]
theorem keyIs_str (x : Str) (t : Tok) : keyIs (.inr x) (.str x t) = true := by simp [keyIs, Value.isStrOf]
theorem key_ll (a b : Int) : decide ((Sum.inl a : Key) = Sum.inl b) = (a == b) := by
  by_cases e : a = b
  · subst e; simp
  · have h : ¬ (Sum.inl a : Key) = Sum.inl b := fun q => e (Sum.inl.inj q)
    rw [decide_eq_false h]
    exact (beq_eq_false_iff_ne.mpr e).symm
theorem key_rr (a b : Str) : decide ((Sum.inr a : Key) = Sum.inr b) = decide (a = b) := by
  by_cases e : a = b
  · subst e; simp
  · have h : ¬ (Sum.inr a : Key) = Sum.inr b := fun q => e (Sum.inr.inj q)
    rw [decide_eq_false h, decide_eq_false e]
theorem key_lr (a : Int) (b : Str) : decide ((Sum.inl a : Key) = Sum.inr b) = false := decide_eq_false (fun q => nomatch q)
theorem key_rl (a : Str) (b : Int) : decide ((Sum.inr a : Key) = Sum.inl b) = false := decide_eq_false (fun q => nomatch q)

def mixKind (prog : Program) (w : World) : PySem.KeyKind prog w Key where
  is := keyIs
  hash := keyH w
  inj := fun v a b ha hb => by
    rcases keyIs_shape ha with ⟨i, t, rfl, rfl⟩ | ⟨x, t, rfl, rfl⟩
    · rcases keyIs_shape hb with ⟨j, u, rfl, e⟩ | ⟨y, u, rfl, e⟩
      · injection e with e1 _; rw [e1]
      · exact nomatch e
    · rcases keyIs_shape hb with ⟨j, u, rfl, e⟩ | ⟨y, u, rfl, e⟩
      · exact nomatch e
      · injection e with e1 _; rw [e1]
  byValue := fun k v h => by
    rcases keyIs_shape h with ⟨i, t, rfl, rfl⟩ | ⟨x, t, rfl, rfl⟩ <;> rfl
  pyHash := fun hv h => by
    rcases keyIs_shape hv with ⟨i, t, rfl, rfl⟩ | ⟨x, t, rfl, rfl⟩
    · exact wpAny_pyHash_int h
    · exact wpAny_pyHash_str h
  eqBool := fun hu hv h => by
    rcases keyIs_shape hu with ⟨i, t, rfl, rfl⟩ | ⟨x, t, rfl, rfl⟩
    · rcases keyIs_shape hv with ⟨j, u, rfl, rfl⟩ | ⟨y, u, rfl, rfl⟩
      · rw [key_ll] at h; exact wpAny_eqBool_int h
      · rw [key_lr] at h; exact SeqAt.EqAt.int_str i t y u _ _ _ _ h
    · rcases keyIs_shape hv with ⟨j, u, rfl, rfl⟩ | ⟨y, u, rfl, rfl⟩
      · rw [key_rl] at h; exact SeqAt.EqAt.str_int x t j u _ _ _ _ h
      · rw [key_rr] at h; exact wpAny_eqBool_str h
  «strs» := fun k x t v h => by
    rcases keyIs_shape h with ⟨i, u, rfl, e⟩ | ⟨y, u, rfl, e⟩
    · exact nomatch e
    · injection e with e1 _
      subst e1
      cases v <;> rfl

theorem mixKind_is (prog : Program) (w : World) (k : Key) (v : Value) : (mixKind prog w).is k v = keyIs k v := rfl
theorem mixKind_int (prog : Program) (w : World) (i : Int) (t : Tok) : (mixKind prog w).is (.inl i) (.int i t) = true := keyIs_int i t
theorem mixKind_str (prog : Program) (w : World) (x : Str) (t : Tok) : (mixKind prog w).is (.inr x) (.str x t) = true := keyIs_str x t
end L2

namespace L2
open PySem PySem.Spec PyProof.Rows

/-- a value, without the heap -/
inductive V where
  | non | bl (b : Bool) | int (i : Int) | str (x : Str) | byt (b : Array UInt8) | flt (b : UInt64) | ref (a : Addr) | ty (n : String)
  deriving DecidableEq

def RelV : V → Value → Prop
  | .non, u => u = Value.none
  | .bl b, u => u = Value.bool b
  | .int i, u => ∃ t, u = Value.int i t
  | .str x, u => ∃ t, u = Value.str x t
  | .byt b, u => ∃ t, u = Value.bytes b t
  | .flt b, u => ∃ t, u = Value.float b t
  | .ref a, u => u = Value.ref a
  | .ty n, u => u = Value.type n

abbrev Vals : List V → List Value → Prop := Paired RelV
theorem Vals.length {xs : List V} {us : List Value} (r : Vals xs us) : xs.length = us.length := Paired.length r
theorem Vals.get : ∀ {xs : List V} {us : List Value} {i : Nat} {x : V}, Vals xs us → xs[i]? = some x → ∃ u, us[i]? = some u ∧ RelV x u
  | _, _, _, _, .nil, e => by simp at e
  | _, _, 0, _, .cons r _, e => by simp at e; subst e; exact ⟨_, rfl, r⟩
  | _, _, i + 1, x, .cons _ t, e => by
    obtain ⟨u, h1, h2⟩ := Vals.get (i := i) (x := x) t (by simpa using e)
    exact ⟨u, by simpa using h1, h2⟩
theorem Vals.set {x : V} {u : Value} (r : RelV x u) : ∀ {xs : List V} {us : List Value} (i : Nat), Vals xs us → Vals (xs.set i x) (us.set i u)
  | _, _, _, .nil => .nil
  | _, _, 0, .cons _ t => .cons r t
  | _, _, i + 1, .cons q t => .cons q (Vals.set r i t)
theorem Vals.append : ∀ {xs ys : List V} {us ws : List Value}, Vals xs us → Vals ys ws → Vals (xs ++ ys) (us ++ ws)
  | _, _, _, _, .nil, s => s
  | _, _, _, _, .cons r t, s => .cons r (Vals.append t s)
theorem Vals.take : ∀ {xs : List V} {us : List Value} (n : Nat), Vals xs us → Vals (xs.take n) (us.take n)
  | _, _, 0, _ => .nil
  | _, _, _ + 1, .nil => .nil
  | _, _, n + 1, .cons r t => .cons r (Vals.take n t)
theorem Vals.drop : ∀ {xs : List V} {us : List Value} (n : Nat), Vals xs us → Vals (xs.drop n) (us.drop n)
  | _, _, 0, r => r
  | _, _, _ + 1, .nil => .nil
  | _, _, n + 1, .cons _ t => Vals.drop n t
theorem Vals.none_of : ∀ {xs : List V} {us : List Value} {i : Nat}, Vals xs us → xs[i]? = none → us[i]? = none := fun {xs us i} r e => by
  have h1 := r.length
  have h2 : xs.length ≤ i := List.getElem?_eq_none_iff.mp e
  exact List.getElem?_eq_none_iff.mpr (by omega)

def RelO : Option V → Option Value → Prop
  | some v, some u => RelV v u
  | none, none => True
  | _, _ => False
def KV {κ : Type} : List (κ × V) → List (κ × Value) → Prop := Paired fun (p : κ × V) (q : κ × Value) => p.1 = q.1 ∧ RelV p.2 q.2

/-- a key of a dict (00_mix): an int or a text -/
def kV : Key → V
  | .inl i => .int i
  | .inr x => .str x

/-- what stands at a tracked address -/
inductive HO where
  /-- a list -/
  | lst (xs : List V)
  /-- a tuple (never changes) -/
  | tup (xs : List V)
  /-- a dict whose keys are ints and texts; one whose keys are tuples of ints and texts (the empty one is both) -/
  | dK (kvs : List (Key × V)) | dT (kvs : List (List Key × V))
  /-- a set of ints: its members, its size -/
  | set (S : Int → Bool) (n : Nat)
  /-- an instance of the class at C, its dict at dx, its attributes -/
  | ins (C dx : Addr) (fs : List (Str × V))
  /-- the dict of the instance at x -/
  | own (x : Addr)
  /-- the dict of an exception -/
  | xd (fs : List (Str × V))
  /-- a bound method, f of x -/
  | met (f x : Addr)
  /-- a range object lo, lo + 1, .. below hi -/
  | rng (lo hi : Int)
  /-- a thing that is known to the object (the script; a dict while a loop walks it): read, never written while it is so -/
  | frz (o : Obj) (u : HO)
  /-- a code object's table -/
  | tbl (ps : Array Value)
  /-- any other thing, by what is true of its one object (a def of one's own: SetO a S n := HO.ext fun h => ..) -/
  | ext (φ : Heap → Prop)

abbrev Hp := Addr → Option HO
def upd (H : Hp) (a : Addr) (o : HO) : Hp := fun b => if b = a then some o else H b
theorem upd_same {H : Hp} {a : Addr} {o : HO} : upd H a o a = some o := by unfold upd; rw [if_pos rfl]
theorem upd_ne {H : Hp} {a b : Addr} {o : HO} (h : b ≠ a) : upd H a o b = H b := by unfold upd; rw [if_neg h]
theorem upd_upd {H : Hp} {a : Addr} {o u : HO} : upd (upd H a o) a u = upd H a u := by
  funext b; unfold upd; split <;> rfl
/-- two objects of different content stand apart -/
theorem ne_of {H : Hp} {a b : Addr} {o u : HO} (h : H a = some o) (h' : H b = some u) (d : o ≠ u) : a ≠ b := by
  intro e; subst e; rw [h] at h'; exact d (Option.some.inj h')
theorem ne_of_none {H : Hp} {a b : Addr} {o : HO} (h : H a = some o) (h' : H b = none) : a ≠ b := by
  intro e; subst e; rw [h] at h'; cases h'

section
variable (P : Program) (w : World)
def ObjOk (H : Hp) (h : Heap) (a : Addr) : HO → Prop
  | .lst xs => xs.length ≤ sizeLine ∧ ∃ (its : List Value) (n : Nat), Vals xs its ∧ h.get? a = some { cls := .type "list", data := .seq its.toArray n }
  | .tup xs => xs.length ≤ sizeLine ∧ ∃ its : List Value, Vals xs its ∧ IsTup h a its.toArray
  | .dK kvs => kvs.length ≤ sizeLine ∧ (a == sysModules) = false ∧ ∃ vs, KV kvs vs ∧ h.DictOf (mixKind P w) a vs
  | .dT kvs => kvs.length ≤ sizeLine ∧ (a == sysModules) = false ∧ ∃ xs : List (List Key × Addr × Value),
      Paired (fun (p : List Key × V) (q : List Key × Addr × Value) => p.1 = q.1 ∧ H q.2.1 = some (.tup (p.1.map kV)) ∧ RelV p.2 q.2.2) kvs xs ∧
      ∃ o es ep, h.get? a = some o ∧ o.ExactDict ∧ o.data = .dict es ep ∧ es.toList = xs.map (entryOfKey (tupleKind (mixKind P w))) ∧ (xs.map (·.1)).Nodup
  | .set S n => h.SetOf (intKind P w) a S n
  | .ins C dx fs => H dx = some (.own a) ∧ fs.length ≤ 1000 ∧ dx ≠ a ∧ h.get? a = some (PySem.W.instObj C dx) ∧
      ∃ mA, h.Ns1 dx mA ∧ (∀ f, RelO (fs.lookup f) (mA f)) ∧ PySem.Within mA (fs.map (·.1))
  | .own _ => ∃ o, h.get? a = some o
  | .xd fs => ∃ mA, h.Ns1 a mA ∧ ∀ f, RelO (fs.lookup f) (mA f)
  | .rng lo hi => ∃ t u v, h.get? a = some { cls := .type "range", data := .fields #[.int lo t, .int hi u, .int 1 v] }
  | .frz o u => h.get? a = some o ∧ ObjOk H h a u
  | .tbl ps => h.get? a = some { cls := .none, data := .fields ps }
  | .met f x => h.get? a = some (PySem.W.methodObj (.ref f) (.ref x))
  | .ext φ => φ h ∧ (∃ o, h.get? a = some o) ∧ ∀ h1 h2 : Heap, φ h1 → (∀ o, h1.get? a = some o → h2.get? a = some o) → φ h2
/-- the abstract heap is held -/
def HOk (H : Hp) (h : Heap) : Prop := ∀ a o, H a = some o → ObjOk P w H h a o
end

section
variable {P : Program} {w : World} {H H' : Hp} {h h' : Heap} {a : Addr} {o : HO}
theorem ObjOk.lt (x : ObjOk P w H h a o) : a < h.objs.size := by
  cases o with
  | lst xs => obtain ⟨_, _, _, _, e⟩ := x; exact Heap.lt_size e
  | tup xs => obtain ⟨_, _, _, p⟩ := x; exact p.lt
  | dK kvs => obtain ⟨_, _, _, _, o, _, _, e, _⟩ := x; exact Heap.lt_size e
  | dT kvs => obtain ⟨_, _, _, _, o, _, _, e, _⟩ := x; exact Heap.lt_size e
  | set S n => obtain ⟨o, _, _, _, e, _⟩ := x; exact Heap.lt_size e
  | ins C dx fs => obtain ⟨_, _, _, e, _⟩ := x; exact Heap.lt_size e
  | own y => obtain ⟨_, e⟩ := x; exact Heap.lt_size e
  | xd fs => obtain ⟨_, ⟨_, _, _, e, _⟩, _⟩ := x; exact Heap.lt_size e
  | rng lo hi => obtain ⟨_, _, _, e⟩ := x; exact Heap.lt_size e
  | frz ob u => obtain ⟨e, _⟩ := x; exact Heap.lt_size e
  | tbl ps => exact Heap.lt_size (show h.get? a = some _ from x)
  | met f y => exact Heap.lt_size (show h.get? a = some _ from x)
  | ext φ => obtain ⟨_, ⟨_, e⟩, _⟩ := x; exact Heap.lt_size e
theorem Paired.mapP {α β : Type} {F G : α → β → Prop} : ∀ {l₁ : List α} {l₂ : List β}, Paired F l₁ l₂ → (∀ a b, F a b → G a b) → Paired G l₁ l₂
  | _, _, .nil, _ => .nil
  | _, _, .cons r t, f => .cons (f _ _ r) (Paired.mapP t f)
theorem Paired.imp' {α β : Type} {F G : α → β → Prop} (f : ∀ a b, F a b → G a b) {l₁ : List α} {l₂ : List β} (r : Paired F l₁ l₂) : Paired G l₁ l₂ := Paired.mapP r f
/-- what an object's description leans on: its own object, its own dict, the tuples -/
theorem ObjOk.stay (x : ObjOk P w H h a o) (k : ∀ b u, (b = a ∨ H b = some (.own a)) → h.get? b = some u → h'.get? b = some u)
    (ho : ∀ b, H b = some (.own a) → H' b = some (.own a)) (ht : ∀ b xs, H b = some (.tup xs) → H' b = some (.tup xs)) : ObjOk P w H' h' a o := by
  induction o with
  | lst xs => obtain ⟨z, its, n, r, e⟩ := x; exact ⟨z, its, n, r, k _ _ (.inl rfl) e⟩
  | tup xs => obtain ⟨z, its, r, ob, e, c⟩ := x; exact ⟨z, its, r, ob, k _ _ (.inl rfl) e, c⟩
  | dK kvs => obtain ⟨z, y, vs, r, ob, es, ep, e, c⟩ := x; exact ⟨z, y, vs, r, ob, es, ep, k _ _ (.inl rfl) e, c⟩
  | dT kvs =>
    obtain ⟨z, y, xs, r, ob, es, ep, e, c⟩ := x
    exact ⟨z, y, xs, Paired.mapP r fun p q z => ⟨z.1, ht _ _ z.2.1, z.2.2⟩, ob, es, ep, k _ _ (.inl rfl) e, c⟩
  | set S n => obtain ⟨ob, es, ep, t, e, c⟩ := x; exact ⟨ob, es, ep, t, k _ _ (.inl rfl) e, c⟩
  | ins C dx fs =>
    obtain ⟨d, z, ne, e, mA, ⟨od, es, ep, e2, c⟩, r⟩ := x
    exact ⟨ho _ d, z, ne, k _ _ (.inl rfl) e, mA, ⟨od, es, ep, k _ _ (.inr d) e2, c⟩, r⟩
  | own y => obtain ⟨ob, e⟩ := x; exact ⟨ob, k _ _ (.inl rfl) e⟩
  | xd fs => obtain ⟨mA, ⟨od, es, ep, e, c⟩, r⟩ := x; exact ⟨mA, ⟨od, es, ep, k _ _ (.inl rfl) e, c⟩, r⟩
  | rng lo hi => obtain ⟨t, u, v, e⟩ := x; exact ⟨t, u, v, k _ _ (.inl rfl) e⟩
  | frz ob u ih => obtain ⟨e, q⟩ := x; exact ⟨k _ _ (.inl rfl) e, ih q⟩
  | tbl ps =>
    have e : h.get? a = some { cls := .none, data := .fields ps } := x
    show h'.get? a = some { cls := .none, data := .fields ps }
    exact k a _ (.inl rfl) e
  | met f y =>
    have e : h.get? a = some (PySem.W.methodObj (.ref f) (.ref y)) := x
    show h'.get? a = some (PySem.W.methodObj (.ref f) (.ref y))
    exact k a _ (.inl rfl) e
  | ext φ => obtain ⟨p, ⟨o, e⟩, st⟩ := x; exact ⟨st _ _ p fun o q => k _ _ (.inl rfl) q, ⟨o, k _ _ (.inl rfl) e⟩, st⟩
theorem HOk.lt (x : HOk P w H h) (e : H a = some o) : a < h.objs.size := (x a o e).lt
theorem HOk.fresh (x : HOk P w H h) (e : h.objs.size ≤ a) : H a = none := by
  cases q : H a with
  | none => rfl
  | some u => exact absurd (Nat.lt_of_lt_of_le (x.lt q) e) (Nat.lt_irrefl _)
/-- every object of the heap is kept -/
theorem HOk.kept (x : HOk P w H h) (k : ∀ b u, h.get? b = some u → h'.get? b = some u) : HOk P w H h' := fun a o e =>
  (x a o e).stay (fun b u _ q => k b u q) (fun _ q => q) fun _ _ q => q
/-- a new object is laid and tracked -/
theorem HOk.laid (x : HOk P w H h) (k : ∀ b u, h.get? b = some u → h'.get? b = some u) (hp : h.objs.size ≤ a) (new : ObjOk P w (upd H a o) h' a o) : HOk P w (upd H a o) h' := fun b u e => by
  have hn := x.fresh hp
  by_cases hb : b = a
  · subst hb; rw [upd_same] at e; cases e; exact new
  · rw [upd_ne hb] at e
    exact (x b u e).stay (fun c v _ q => k c v q) (fun c q => by rw [upd_ne (ne_of_none q hn)]; exact q) fun c xs q => by rw [upd_ne (ne_of_none q hn)]; exact q
end

/-- what may be read as u: it is u, or a known u -/
def Rd (H : Hp) (a : Addr) (u : HO) : Prop := H a = some u ∨ ∃ o, H a = some (.frz o u)
theorem Rd.of {H : Hp} {a : Addr} {u : HO} (h : H a = some u) : Rd H a u := .inl h
theorem Rd.ok {P : Program} {w : World} {H : Hp} {h : Heap} {a : Addr} {u : HO} (r : Rd H a u) (x : HOk P w H h) : ObjOk P w H h a u := by
  rcases r with r | ⟨o, r⟩
  · exact x a u r
  · obtain ⟨_, q⟩ := x a _ r
    exact q
/-- what may be written -/
def Mut : Option HO → Prop
  | some (.lst _) => True
  | some (.dK _) => True
  | some (.dT _) => True
  | some (.set _ _) => True
  | some (.ins _ _ _) => True
  | some (.ext _) => True
  | _ => False
section
variable {P : Program} {w : World} {H : Hp} {h h' : Heap} {x e : Addr} {o' : HO}
/-- the object at e is changed: x itself, or the dict of the instance x -/
theorem HOk.write (ok : HOk P w H h) (mu : Mut (H x)) (he : e = x ∨ H e = some (.own x)) (k : ∀ b u, b ≠ e → h.get? b = some u → h'.get? b = some u) (heo : ∃ u, h'.get? e = some u)
    (new : ObjOk P w (upd H x o') h' x o') : HOk P w (upd H x o') h' := fun b u q => by
  have nown : ∀ c y, H c = some (.own y) → c ≠ x := fun c y r z => by subst z; rw [r] at mu; exact mu
  have ntup : ∀ c xs, H c = some (.tup xs) → c ≠ x := fun c xs r z => by subst z; rw [r] at mu; exact mu
  by_cases hb : b = x
  · subst hb; rw [upd_same] at q; cases q; exact new
  · rw [upd_ne hb] at q
    by_cases hbe : b = e
    · have q' : H b = some (.own x) := by
        rcases he with z | z
        · exact absurd (hbe.trans z) hb
        · rw [hbe]; exact z
      rw [q] at q'; cases q'
      obtain ⟨v, hv⟩ := heo
      exact ⟨v, by rw [hbe]; exact hv⟩
    · refine (ok b u q).stay (fun c v hc r => k c v ?_ r) (fun c r => by rw [upd_ne (nown c b r)]; exact r) fun c xs r => by rw [upd_ne (ntup c xs r)]; exact r
      rcases hc with rfl | hc
      · exact hbe
      · rintro rfl
        rcases he with z | z
        · exact nown c b hc z
        · rw [hc] at z; cases z; exact hb rfl
end

/-! ### kept unless tracked; of the frames at fs (the callers') the slots may change (an exception that passes writes there); of the records at ex (iterators) nothing is said -/
structure Un (fs ex : List Addr) (H H' : Hp) (h h' : Heap) : Prop where
  keep : ∀ b o, h.get? b = some o → H b = none → b ∉ fs → b ∉ ex → h'.get? b = some o
  slot : ∀ b o, h.get? b = some o → H b = none → b ∈ fs → b ∉ ex → ∃ sl, h'.get? b = some { o with slots := sl }
  free : ∀ b o, h.get? b = some o → H b = none → b ∉ ex → H' b = none
  there : ∀ b o, h.get? b = some o → b ∉ ex → ∃ o', h'.get? b = some o'
  tups : ∀ b xs, H b = some (.tup xs) → H' b = some (.tup xs)
  frzs : ∀ b o u, H b = some (.frz o u) → H' b = some (.frz o u)
  tbls : ∀ b ps, H b = some (.tbl ps) → ∃ more, H' b = some (.tbl (ps ++ more))
section
variable {fs fs' ex ex' : List Addr} {H H1 H2 : Hp} {h h1 h2 h' : Heap} {a x e : Addr} {o : HO}
theorem Un.any (u : Un fs ex H H1 h h1) {b : Addr} {ob : Obj} (q : h.get? b = some ob) (n : H b = none) (hx : b ∉ ex) : ∃ sl, h1.get? b = some { ob with slots := sl } := by
  by_cases hb : b ∈ fs
  · exact u.slot b ob q n hb hx
  · exact ⟨ob.slots, u.keep b ob q n hb hx⟩
theorem Un.trans (a : Un fs ex H H1 h h1) (b : Un fs ex H1 H2 h1 h2) : Un fs ex H H2 h h2 where
  keep := fun c ob q n hc hx => b.keep c ob (a.keep c ob q n hc hx) (a.free c ob q n hx) hc hx
  slot := fun c ob q n hc hx => by
    obtain ⟨sl, e1⟩ := a.slot c ob q n hc hx
    obtain ⟨sl', e2⟩ := b.slot c _ e1 (a.free c ob q n hx) hc hx
    exact ⟨sl', e2⟩
  free := fun c ob q n hx => by
    obtain ⟨o', e1⟩ := a.there c ob q hx
    exact b.free c o' e1 (a.free c ob q n hx) hx
  there := fun c ob q hx => by
    obtain ⟨o', e1⟩ := a.there c ob q hx
    exact b.there c o' e1 hx
  tups := fun c xs q => b.tups c xs (a.tups c xs q)
  frzs := fun c ob xs q => b.frzs c ob xs (a.frzs c ob xs q)
  tbls := fun c ps q => by
    obtain ⟨m1, e1⟩ := a.tbls c ps q
    obtain ⟨m2, e2⟩ := b.tbls c _ e1
    exact ⟨m1 ++ m2, by rw [e2, Array.append_assoc]⟩
theorem Un.kept (k : ∀ b u, h.get? b = some u → h'.get? b = some u) : Un fs ex H H h h' :=
  ⟨fun b ob q _ _ _ => k b ob q, fun b ob q _ _ _ => ⟨ob.slots, k b ob q⟩, fun _ _ _ n _ => n, fun b ob q _ => ⟨ob, k b ob q⟩, fun _ _ q => q, fun _ _ _ q => q, fun _ ps q => ⟨#[], by rw [q]; simp⟩⟩
theorem Un.refl : Un fs ex H H h h := Un.kept fun _ _ q => q
theorem Un.laid (k : ∀ b u, h.get? b = some u → h'.get? b = some u) (hp : h.objs.size ≤ a) (hn : H a = none) : Un fs ex H (upd H a o) h h' where
  keep := fun b u q _ _ _ => k b u q
  slot := fun b u q _ _ _ => ⟨u.slots, k b u q⟩
  free := fun b u q n _ => by rw [upd_ne (Nat.ne_of_lt (Nat.lt_of_lt_of_le (Heap.lt_size q) hp))]; exact n
  there := fun b u q _ => ⟨u, k b u q⟩
  tups := fun b xs q => by rw [upd_ne (ne_of_none q hn)]; exact q
  frzs := fun b u xs q => by rw [upd_ne (ne_of_none q hn)]; exact q
  tbls := fun b ps q => ⟨#[], by rw [upd_ne (ne_of_none q hn), q]; simp⟩
theorem Un.write (mu : Mut (H x)) (he : e = x ∨ H e = some (.own x)) (k : ∀ b u, b ≠ e → h.get? b = some u → h'.get? b = some u) (heo : ∃ u, h'.get? e = some u) : Un fs ex H (upd H x o) h h' := by
  have hx : ∀ b, H b = none → b ≠ x := fun b n z => by subst z; rw [n] at mu; exact mu
  have hb : ∀ b, H b = none → b ≠ e := fun b n z => by
    subst z
    rcases he with r | r
    · exact hx b n r
    · rw [n] at r; cases r
  have hm : ∀ b u, H b = some u → ¬ Mut (some u) → b ≠ x := fun b u q nm z => by subst z; rw [q] at mu; exact nm mu
  refine ⟨fun b u q n _ _ => k b u (hb b n) q, fun b u q n _ _ => ⟨u.slots, k b u (hb b n) q⟩, fun b u q n _ => by rw [upd_ne (hx b n)]; exact n, fun b u q _ => ?_,
    fun b xs q => by rw [upd_ne (hm b _ q fun z => z)]; exact q, fun b u xs q => by rw [upd_ne (hm b _ q fun z => z)]; exact q, fun b ps q => ⟨#[], by rw [upd_ne (hm b _ q fun z => z), q]; simp⟩⟩
  by_cases hbe : b = e
  · subst hbe; exact heo
  · exact ⟨u, k b u hbe q⟩
theorem Un.mono (u : Un fs ex H H1 h h1) (hs : ∀ b ∈ fs, b ∈ fs') (hx : ∀ b ∈ ex, b ∈ ex') : Un fs' ex' H H1 h h1 :=
  ⟨fun b ob q n hb he => u.keep b ob q n (fun z => hb (hs b z)) fun z => he (hx b z), fun _ _ q n _ he => u.any q n fun z => he (hx _ z), fun b ob q n he => u.free b ob q n fun z => he (hx b z), fun b ob q he => u.there b ob q fun z => he (hx b z), u.tups, u.frzs, u.tbls⟩
end

/-! ### the heap without what is tracked -/
def trk (h : Heap) (H : Hp) : List Addr := (List.range h.objs.size).filter fun a => (H a).isSome
def hidT (h : Heap) (H : Hp) : Heap := PySem.W.hideAll h (trk h H)
theorem hidT_size (h : Heap) (H : Hp) : (hidT h H).objs.size = h.objs.size := PySem.W.hideAll_size _ _
theorem hidT_get {h : Heap} {H : Hp} {b : Addr} {o : Obj} (e : h.get? b = some o) (n : H b = none) : (hidT h H).get? b = some o :=
  PySem.W.hideAll_get _ e fun hm => by
    have q : (H b).isSome = true := (List.mem_filter.mp hm).2
    rw [n] at q; simp at q
theorem of_hidT {h : Heap} {H : Hp} {b : Addr} {o : Obj} (e : (hidT h H).get? b = some o) : h.get? b = some o ∧ H b = none := by
  have e' : h.get? b = some o := PySem.W.of_hideAll (trk h H) e
  refine ⟨e', ?_⟩
  cases q : H b with
  | none => rfl
  | some x =>
    have hm : b ∈ trk h H := List.mem_filter.mpr ⟨List.mem_range.mpr (Heap.lt_size e'), by simp [q]⟩
    have z : (hidT h H).get? b = none := PySem.W.hideAll_none (trk h H) hm
    rw [z] at e; cases e

/-! ### OpenK's ledger, filled with every new object but one -/
def allNews (g h : Heap) (L : Addr) : List (Addr × Obj) := (List.range h.objs.size).filterMap fun a => if a = L ∨ (g.get? a).isSome = true then none else (h.get? a).map fun o => (a, o)
theorem mem_allNews {g h : Heap} {L a : Addr} {o : Obj} (h1 : a ≠ L) (h2 : g.get? a = none) (h3 : h.get? a = some o) : (a, o) ∈ allNews g h L :=
  List.mem_filterMap.mpr ⟨a, List.mem_range.mpr (Heap.lt_size h3), by simp [h1, h2, h3]⟩
theorem of_mem_allNews {g h : Heap} {L : Addr} {p : Addr × Obj} (hp : p ∈ allNews g h L) : p.1 ≠ L ∧ g.get? p.1 = none ∧ h.get? p.1 = some p.2 := by
  obtain ⟨b, _, e⟩ := List.mem_filterMap.mp hp
  split at e
  · cases e
  · rename_i hn
    cases q : h.get? b with
    | none => rw [q] at e; simp at e
    | some u =>
      rw [q] at e
      simp only [Option.map_some, Option.some.injEq] at e
      subst e
      refine ⟨fun z => hn (.inl z), ?_, q⟩
      show g.get? b = none
      cases r : g.get? b with
      | none => rfl
      | some v => exact (hn (.inr (by simp [r]))).elim
def rest (g h : Heap) (L d : Addr) : List (Addr × Obj) := (allNews g h L).filter fun p => decide (p.1 ≠ d)
theorem rest_ne {g h : Heap} {L d : Addr} : ∀ p ∈ rest g h L d, p.1 ≠ d := fun p hp => of_decide_eq_true (List.mem_filter.mp hp).2
theorem mem_rest {g h : Heap} {L d a : Addr} {o : Obj} (h1 : a ≠ L) (h2 : g.get? a = none) (h3 : h.get? a = some o) (h4 : a ≠ d) : (a, o) ∈ rest g h L d :=
  List.mem_filter.mpr ⟨mem_allNews h1 h2 h3, decide_eq_true h4⟩
theorem news_all {g h : Heap} {L : Addr} : News g L h (allNews g h L) := fun p hp => let ⟨a, b, c⟩ := of_mem_allNews hp; ⟨c, a, b⟩
theorem news_at {g h : Heap} {L d : Addr} {o : Obj} (h1 : d ≠ L) (h2 : g.get? d = none) (h3 : h.get? d = some o) : News g L h ((d, o) :: rest g h L d) := fun p hp => by
  rcases List.mem_cons.mp hp with rfl | hp
  · exact ⟨h3, h1, h2⟩
  · exact news_all p (List.mem_filter.mp hp).1
/-- behind a rule that changed d alone: all else but the frame is kept -/
theorem kept_of_news {g h h' : Heap} {L d : Addr} {m : Str → Option Value} (k : ∀ b o, g.get? b = some o → h.get? b = some o) (F : Fr g L h' m) (N : News g L h' (rest g h L d)) :
    ∀ b o, b ≠ L → b ≠ d → h.get? b = some o → h'.get? b = some o := fun b o h1 h2 e => by
  cases q : g.get? b with
  | some u =>
    have := k b u q
    rw [e] at this; cases this
    exact F.keep b _ q
  | none => exact (N (b, o) (mem_rest h1 q e h2)).1
end L2

namespace L2
open PySem PySem.Spec PyProof.Rows

/-- the module's facts, over the base: the heap at the law's entry without what is tracked there -/
structure Mod (K : PySem.W.Frag) (mg : Str → Option Value) (base : Heap) : Prop where
  kin : K.In base
  glob : base.Ns mainGlobals mg
  blt : ∃ mb, base.Ns builtinsNs mb ∧ ∀ x : Str, x ≠ "__name__" → mb x = bootBuiltins x
  nolimit : base.NoLimit

/-- the context: a def's body (or a comprehension's block) running. base: fixed through the whole law; s₀, H₀: the entry; outer: the frames whose slots others may change (a def's callers); stack: all frames that run;
   ex: iterators that were made ahead of the entry and are walked here (a comprehension's); fn: the names whose cells were made at the entry (a def: all; a comprehension's block: its own); calm: not within an except suite; pn: pins that every state bears; xe: what is wanted of an exception that leaves the code -/
structure Cx where
  prog : Program
  w : World
  K : PySem.W.Frag
  mg : Str → Option Value
  base : Heap
  A : Around
  N : List Str
  s₀ : Shared
  H₀ : Hp
  env : Env
  outer : List Env
  stack : List Env
  ex : List Addr
  fn : Str → Bool
  calm : Bool
  pn : List (Addr × Obj)
  xe : Value → Shared → Prop
/-- the callers' frames -/
def frs (l : List Env) : List Addr := l.filterMap (·.frame)
abbrev Cx.fs (X : Cx) : List Addr := frs X.outer

def Vis (sc : Scope) (x : Str) : Prop := sc.names.lookup x = some .local ∨ sc.names.lookup x = some .cell ∨ sc.names.lookup x = some .free
def Loc (sc : Scope) (x : Str) : Prop := sc.names.lookup x = some .local ∨ sc.names.lookup x = some .cell
def Look (env : Env) (h : Heap) (m : Str → Option Value) (x : Str) (u : Value) : Prop :=
  (env.kindOf x = some .local ∧ m x = some u) ∨ ((env.kindOf x = some .cell ∨ env.kindOf x = some .free) ∧ ∃ c, env.cells.lookup x = some c ∧ h.IsCell c (some u))

structure Cx.Ok (X : Cx) : Prop where
  mod : Mod X.K X.mg X.base
  kind : X.env.scope.kind = .function
  glob : X.env.globals = mainGlobals
  blt : X.env.builtins = builtinsNs
  above : X.s₀.heap.objs.size ≤ X.env.locals
  inj : ∀ x y c, X.env.cells.lookup x = some c → X.env.cells.lookup y = some c → x = y
  has : ∀ x, (X.env.kindOf x = some .cell ∨ X.env.kindOf x = some .free) → ∃ c, X.env.cells.lookup x = some c
  cab : ∀ x c, X.fn x = true → X.env.cells.lookup x = some c → X.s₀.heap.objs.size ≤ c
  hd : X.calm = true → X.A.handled = none
  frames : X.A.frames = some X.stack
  stk : X.stack = X.outer ∨ (X.stack = X.env :: X.outer ∧ X.env.frame = some X.env.locals)
  exf : ∀ b ∈ X.ex, b ≠ X.env.locals ∧ ∀ x c, X.env.cells.lookup x = some c → c ≠ b
  bs : ∀ b o, X.base.get? b = some o → X.s₀.heap.get? b = some o ∧ X.H₀ b = none
  bsz : X.base.objs.size ≤ X.s₀.heap.objs.size
  noex : ∀ b o, X.base.get? b = some o → b ∉ X.ex
  exfs : ∀ b ∈ X.ex, b ∉ X.fs
  funs : X.s₀.heap.FunFrames X.base X.outer
  frf : ∀ b ∈ X.fs, X.H₀ b = none

structure Inv (X : Cx) (pins : List (Addr × Obj)) (σ : List (Option V)) (H : Hp) (s : Shared) : Prop where
  ok : X.Ok
  os : s.os = X.s₀.os
  bare : AllBare s.gens
  base : Un X.fs X.ex X.H₀ H X.s₀.heap s.heap
  loc : ∃ m, s.heap.Ns X.env.locals m ∧ ∀ (i : Nat) (x : Str) (v : V), X.N[i]? = some x → σ[i]? = some (some v) → Vis X.env.scope x → ∃ u, RelV v u ∧ Look X.env s.heap m x u
  cell : ∀ x c, X.env.cells.lookup x = some c → ∃ v, s.heap.IsCell c v
  free : H X.env.locals = none
  freeC : ∀ x c, X.env.cells.lookup x = some c → H c = none
  pin : ∀ p ∈ X.pn ++ pins, s.heap.get? p.1 = some p.2 ∧ H p.1 = none ∧ p.1 ≠ X.env.locals ∧ p.1 ∉ X.fs ∧ ∀ v, p.2.data ≠ .cell v
  hok : HOk X.prog X.w H s.heap
  len : σ.length = X.N.length

section
variable {X : Cx} {pins : List (Addr × Obj)} {σ : List (Option V)} {H H' : Hp} {s : Shared} {h' : Heap}

theorem Cx.Ok.nofr (ok : X.Ok) {b : Addr} {o : Obj} (e : X.base.get? b = some o) : b ∉ X.fs := fun hb => by
  have := (ok.funs.mem hb).1
  rw [e] at this; cases this
theorem Inv.bs (I : Inv X pins σ H s) : ∀ b o, X.base.get? b = some o → s.heap.get? b = some o ∧ H b = none := fun b o e =>
  ⟨I.base.keep b o (I.ok.bs b o e).1 (I.ok.bs b o e).2 (I.ok.nofr e) (I.ok.noex b o e), I.base.free b o (I.ok.bs b o e).1 (I.ok.bs b o e).2 (I.ok.noex b o e)⟩
theorem Inv.bk (I : Inv X pins σ H s) : ∀ b o, X.base.get? b = some o → s.heap.get? b = some o := fun b o e => (I.bs b o e).1
theorem Inv.mod (I : Inv X pins σ H s) : Mod X.K X.mg X.base := I.ok.mod
theorem Inv.kIn (I : Inv X pins σ H s) : X.K.In s.heap := I.ok.mod.kin.keeps I.bk
theorem Inv.nolimit (I : Inv X pins σ H s) : s.heap.NoLimit := I.ok.mod.nolimit.keeps I.bk
/-- the frame over the base: for OpenK's rules (K.In X.base is I.mod.kin) -/
theorem Inv.fr (I : Inv X pins σ H s) : ∃ m, Fr X.base X.env.locals s.heap m :=
  let ⟨m, hn, _⟩ := I.loc
  ⟨m, hn, I.bk, Nat.le_trans I.ok.bsz I.ok.above⟩
theorem Inv.lt (I : Inv X pins σ H s) : X.env.locals < s.heap.objs.size := let ⟨_, hn, _⟩ := I.loc; hn.lt
theorem Inv.sz (I : Inv X pins σ H s) : X.s₀.heap.objs.size ≤ s.heap.objs.size := Nat.le_trans I.ok.above (Nat.le_of_lt I.lt)
theorem Inv.nofs (I : Inv X pins σ H s) {a : Addr} (h : s.heap.objs.size ≤ a) : a ∉ X.fs := fun hb => by
  obtain ⟨_, o, ho, _⟩ := I.ok.funs.mem hb
  exact absurd (Nat.lt_of_lt_of_le (Heap.lt_size ho) (Nat.le_trans I.sz h)) (Nat.lt_irrefl _)
theorem Inv.cne (I : Inv X pins σ H s) : ∀ x c, X.env.cells.lookup x = some c → c ≠ X.env.locals := fun x c e z => by
  obtain ⟨v, o, ho, hd⟩ := I.cell x c e
  obtain ⟨m, ⟨o', es, ep, ho', hd', _⟩, _⟩ := I.loc
  rw [z, ho'] at ho; cases ho; rw [hd'] at hd; cases hd
theorem Inv.funs (I : Inv X pins σ H s) : s.heap.FunFrames X.base X.outer := by
  have all : ∀ (l : List Env), (∀ b ∈ frs l, b ∈ X.fs) → X.s₀.heap.FunFrames X.base l → s.heap.FunFrames X.base l := by
    intro l
    induction l with
    | nil => intro _ _; trivial
    | cons env r ih =>
      intro hs hl
      obtain ⟨hk, ⟨L, o, hf, hn, ho, hd⟩, hr⟩ := hl
      have hL : L ∈ X.fs := hs L (by unfold frs; rw [List.filterMap_cons, hf]; exact List.mem_cons_self)
      obtain ⟨sl, e⟩ := I.base.slot L o ho (I.ok.frf L hL) hL fun z => I.ok.exfs L z hL
      exact ⟨hk, ⟨L, _, hf, hn, e, hd⟩, ih (fun b hb => hs b (by unfold frs; rw [List.filterMap_cons, hf]; exact List.mem_cons_of_mem _ hb)) hr⟩
  exact all X.outer (fun _ hb => hb) I.ok.funs

/-- the frames that run, for a call -/
theorem Inv.stack (I : Inv X pins σ H s) : s.heap.FunFrames X.base X.stack := by
  rcases I.ok.stk with e | ⟨e, hf⟩
  · rw [e]; exact I.funs
  · rw [e]
    obtain ⟨m, hn, _⟩ := I.loc
    refine .cons (by rw [I.ok.kind]; decide) hf hn ?_ I.funs
    exact Heap.get?_none_of_le (Nat.le_trans I.ok.bsz I.ok.above)
theorem Inv.stkSub (I : Inv X pins σ H s) : ∀ b ∈ frs X.stack, b ∈ X.env.locals :: X.fs := fun b hb => by
  rcases I.ok.stk with e | ⟨e, hf⟩
  · rw [e] at hb; exact List.mem_cons_of_mem _ hb
  · rw [e] at hb
    unfold frs at hb
    rw [List.filterMap_cons, hf] at hb
    exact hb
theorem Inv.stkFree (I : Inv X pins σ H s) : ∀ b ∈ frs X.stack, H b = none := fun b hb => by
  rcases List.mem_cons.mp (I.stkSub b hb) with e | hb
  · rw [e]; exact I.free
  · obtain ⟨_, o, ho, _⟩ := I.ok.funs.mem hb
    exact I.base.free b o ho (I.ok.frf b hb) fun z => I.ok.exfs b z hb

/-- THE STEP: the untracked objects but the frame and the records at ch are kept (the callers' frames up to slots), the frame's map is kept, the new abstract heap is held -/
theorem Inv.step {g' : Array GenState} {t' : Nat} {d' : Drawn} {ch : List Addr} (I : Inv X pins σ H s)
    (hch : ∀ b ∈ ch, (b ∈ X.ex ∨ X.s₀.heap.objs.size ≤ b) ∧ b ≠ X.env.locals ∧ (∀ x c, X.env.cells.lookup x = some c → c ≠ b) ∧ ∀ p ∈ X.pn ++ pins, p.1 ≠ b)
    (keep : ∀ b o, b ≠ X.env.locals → b ∉ X.fs → b ∉ ch → s.heap.get? b = some o → H b = none → h'.get? b = some o)
    (slot : ∀ b o, b ≠ X.env.locals → b ∈ X.fs → b ∉ ch → s.heap.get? b = some o → H b = none → ∃ sl, h'.get? b = some { o with slots := sl }) (free : ∀ b o, b ∉ ch → s.heap.get? b = some o → H b = none → H' b = none)
    (there : ∀ b o, b ∉ ch → s.heap.get? b = some o → ∃ o', h'.get? b = some o')
    (tups : ∀ b xs, H b = some (.tup xs) → H' b = some (.tup xs)) (frzs : ∀ b o u, H b = some (.frz o u) → H' b = some (.frz o u)) (tbls : ∀ b ps, H b = some (.tbl ps) → ∃ more, H' b = some (.tbl (ps ++ more)))
    (ns : ∀ m, s.heap.Ns X.env.locals m → h'.Ns X.env.locals m) (hok : HOk X.prog X.w H' h') (hg : AllBare g') :
    Inv X pins σ H' { s with heap := h', gens := g', drawn := d', toks := t' } := by
  have neL : ∀ b o, X.s₀.heap.get? b = some o → b ≠ X.env.locals := fun b o e => Nat.ne_of_lt (Nat.lt_of_lt_of_le (Heap.lt_size e) I.ok.above)
  have neC : ∀ b o, X.s₀.heap.get? b = some o → b ∉ X.ex → b ∉ ch := fun b o e hx hb => by
    rcases (hch b hb).1 with z | z
    · exact hx z
    · exact absurd (Nat.lt_of_lt_of_le (Heap.lt_size e) z) (Nat.lt_irrefl _)
  have cellK : ∀ x c, X.env.cells.lookup x = some c → ∀ v, s.heap.IsCell c v → h'.IsCell c v := fun x c e v ⟨o, ho, hd⟩ => by
    have nch : c ∉ ch := fun z => (hch c z).2.2.1 x c e rfl
    by_cases hc : c ∈ X.fs
    · obtain ⟨sl, q⟩ := slot c o (I.cne x c e) hc nch ho (I.freeC x c e)
      exact ⟨_, q, hd⟩
    · exact ⟨o, keep c o (I.cne x c e) hc nch ho (I.freeC x c e), hd⟩
  refine ⟨I.ok, I.os, hg, ⟨fun b o e n hb hx => ?_, fun b o e n hb hx => ?_, fun b o e n hx => ?_, fun b o e hx => ?_, fun b xs e => tups b xs (I.base.tups b xs e), fun b o xs e => frzs b o xs (I.base.frzs b o xs e), fun b ps e => ?_⟩, ?_, fun x c e => ?_, ?_, fun x c e => ?_, fun p hp => ?_, hok, I.len⟩
  · exact keep b o (neL b o e) hb (neC b o e hx) (I.base.keep b o e n hb hx) (I.base.free b o e n hx)
  · obtain ⟨sl, e1⟩ := I.base.slot b o e n hb hx
    obtain ⟨sl', e2⟩ := slot b _ (neL b o e) hb (neC b o e hx) e1 (I.base.free b o e n hx)
    exact ⟨sl', e2⟩
  · obtain ⟨o', e1⟩ := I.base.there b o e hx
    exact free b o' (neC b o e hx) e1 (I.base.free b o e n hx)
  · obtain ⟨o', e1⟩ := I.base.there b o e hx
    exact there b o' (neC b o e hx) e1
  · obtain ⟨m1, e1⟩ := I.base.tbls b ps e
    obtain ⟨m2, e2⟩ := tbls b _ e1
    exact ⟨m1 ++ m2, by rw [e2, Array.append_assoc]⟩
  · obtain ⟨m, hn, hl⟩ := I.loc
    refine ⟨m, ns m hn, fun i x v e1 e2 e3 => ?_⟩
    obtain ⟨u, r, l⟩ := hl i x v e1 e2 e3
    refine ⟨u, r, ?_⟩
    rcases l with l | ⟨k, c, e, z⟩
    · exact .inl l
    · exact .inr ⟨k, c, e, cellK x c e _ z⟩
  · obtain ⟨v, z⟩ := I.cell x c e
    exact ⟨v, cellK x c e v z⟩
  · obtain ⟨m, ⟨o, _, _, ho, _⟩, _⟩ := I.loc
    exact free _ o (fun z => (hch _ z).2.1 rfl) ho I.free
  · obtain ⟨v, o, ho, hd⟩ := I.cell x c e
    exact free c o (fun z => (hch c z).2.2.1 x c e rfl) ho (I.freeC x c e)
  · obtain ⟨e, n, ne, nf, d⟩ := I.pin p hp
    have nch : p.1 ∉ ch := fun z => (hch p.1 z).2.2.2 p hp rfl
    exact ⟨keep p.1 p.2 ne nf nch e n, free p.1 p.2 nch e n, ne, nf, d⟩
/-- .. where the frame's own object is kept too -/
theorem Inv.un {t' : Nat} (I : Inv X pins σ H s) (u : Un X.fs [] H H' s.heap h') (hok : HOk X.prog X.w H' h') : Inv X pins σ H' { s with heap := h', toks := t' } := by
  obtain ⟨m, ⟨o, es, ep, ho, r⟩, _⟩ := id I.loc
  obtain ⟨sl, hL⟩ := u.any ho I.free (by simp)
  exact I.step (g' := s.gens) (d' := s.drawn) (ch := []) (fun _ z => nomatch z) (fun b o _ hb _ e n => u.keep b o e n hb (by simp)) (fun b o _ hb _ e n => u.slot b o e n hb (by simp)) (fun b o _ e n => u.free b o e n (by simp)) (fun b o _ e => u.there b o e (by simp)) u.tups u.frzs u.tbls (fun m' hm => by
    obtain ⟨o', es', ep', ho', r'⟩ := hm
    rw [ho] at ho'; cases ho'
    exact ⟨_, es', ep', hL, r'⟩) hok I.bare
/-- behind a call (or a comprehension's block): the slots of this frame may have changed too, the records at ch may have turned -/
theorem Inv.call {g' : Array GenState} {t' : Nat} {d' : Drawn} {ch : List Addr} (I : Inv X pins σ H s) (u : Un (frs X.stack) ch H H' s.heap h') (hok : HOk X.prog X.w H' h') (hg : AllBare g')
    (hch : ∀ b ∈ ch, (b ∈ X.ex ∨ X.s₀.heap.objs.size ≤ b) ∧ b ≠ X.env.locals ∧ (∀ x c, X.env.cells.lookup x = some c → c ≠ b) ∧ ∀ p ∈ X.pn ++ pins, p.1 ≠ b) :
    Inv X pins σ H' { s with heap := h', gens := g', drawn := d', toks := t' } := by
  obtain ⟨m, ⟨o, es, ep, ho, r⟩, _⟩ := id I.loc
  obtain ⟨sl, hL⟩ := u.any ho I.free fun z => (hch _ z).2.1 rfl
  exact I.step (ch := ch) hch (fun b o hL hb hc e n => u.keep b o e n (fun z => (List.mem_cons.mp (I.stkSub b z)).elim hL hb) hc) (fun b o _ _ hc e n => u.any e n hc) (fun b o hc e n => u.free b o e n hc) (fun b o hc e => u.there b o e hc) u.tups u.frzs u.tbls (fun m' hm => by
    obtain ⟨o', es', ep', ho', r'⟩ := hm
    rw [ho] at ho'; cases ho'
    exact ⟨_, es', ep', hL, r'⟩) hok hg
/-- an untracked record of ours (an iterator) has turned -/
theorem Inv.turned {t' : Nat} {it : Addr} (I : Inv X pins σ H s) (k : ∀ b o, b ≠ it → s.heap.get? b = some o → h'.get? b = some o) (hn : H it = none) (hL : it ≠ X.env.locals)
    (h1 : it ∈ X.ex ∨ X.s₀.heap.objs.size ≤ it) (h2 : ∀ x c, X.env.cells.lookup x = some c → c ≠ it) (h3 : ∀ p ∈ X.pn ++ pins, p.1 ≠ it) : Inv X pins σ H { s with heap := h', toks := t' } := by
  have nit : ∀ b u, H b = some u → b ≠ it := fun b u e z => by rw [z, hn] at e; cases e
  refine I.step (g' := s.gens) (d' := s.drawn) (ch := [it]) (fun b hb => ?_) (fun b o _ _ hc e _ => k b o (fun z => hc (by simp [z])) e) (fun b o _ _ hc e _ => ⟨o.slots, k b o (fun z => hc (by simp [z])) e⟩) (fun _ _ _ _ n => n)
    (fun b o hc e => ⟨o, k b o (fun z => hc (by simp [z])) e⟩) (fun _ _ e => e) (fun _ _ _ e => e) (fun b ps e => ⟨#[], by rw [e]; simp⟩) (fun m hm => ?_) (fun b u e => ?_) I.bare
  · have e : b = it := by simpa using hb
    subst e
    exact ⟨h1, hL, h2, h3⟩
  · obtain ⟨o, es, ep, ho, r⟩ := hm
    exact ⟨o, es, ep, k _ o (Ne.symm hL) ho, r⟩
  · refine (I.hok b u e).stay (fun c v hc q => k c v ?_ q) (fun _ q => q) fun _ _ q => q
    rcases hc with z | z
    · rw [z]; exact nit b u e
    · exact nit c _ z
theorem Inv.tok (I : Inv X pins σ H s) (t : Nat) : Inv X pins σ H { s with toks := t } := I.un (h' := s.heap) (t' := t) Un.refl I.hok
/-- all objects kept -/
theorem Inv.kept {t' : Nat} (I : Inv X pins σ H s) (k : ∀ b u, s.heap.get? b = some u → h'.get? b = some u) : Inv X pins σ H { s with heap := h', toks := t' } := I.un (Un.kept k) (I.hok.kept k)
/-- a new object laid and tracked -/
theorem Inv.laid {a : Addr} {o : HO} {t' : Nat} (I : Inv X pins σ H s) (k : ∀ b u, s.heap.get? b = some u → h'.get? b = some u) (hp : s.heap.objs.size ≤ a) (new : ObjOk X.prog X.w (upd H a o) h' a o) :
    Inv X pins σ (upd H a o) { s with heap := h', toks := t' } := I.un (Un.laid k hp (I.hok.fresh hp)) (I.hok.laid k hp new)
/-- an object written -/
theorem Inv.write {x e : Addr} {o : HO} {t' : Nat} (I : Inv X pins σ H s) (mu : Mut (H x)) (he : e = x ∨ H e = some (.own x)) (k : ∀ b u, b ≠ e → s.heap.get? b = some u → h'.get? b = some u) (heo : ∃ u, h'.get? e = some u)
    (new : ObjOk X.prog X.w (upd H x o) h' x o) : Inv X pins σ (upd H x o) { s with heap := h', toks := t' } := I.un (Un.write mu he k heo) (I.hok.write mu he k heo new)
/-- forgetting slots, pins -/
theorem Inv.weak {σ' : List (Option V)} (I : Inv X pins σ H s) (hl : σ'.length = σ.length) (w : ∀ (i : Nat) v, σ'[i]? = some (some v) → σ[i]? = some (some v)) : Inv X pins σ' H s :=
  ⟨I.ok, I.os, I.bare, I.base, let ⟨m, hn, hl'⟩ := I.loc; ⟨m, hn, fun i x v e1 e2 e3 => hl' i x v e1 (w i v e2) e3⟩, I.cell, I.free, I.freeC, I.pin, I.hok, hl.trans I.len⟩
theorem Inv.pins_of {pins' : List (Addr × Obj)} (I : Inv X pins σ H s) (h : ∀ p ∈ pins', s.heap.get? p.1 = some p.2 ∧ H p.1 = none ∧ p.1 ≠ X.env.locals ∧ p.1 ∉ X.fs ∧ ∀ v, p.2.data ≠ .cell v) : Inv X pins' σ H s :=
  ⟨I.ok, I.os, I.bare, I.base, I.loc, I.cell, I.free, I.freeC, fun p hp => (List.mem_append.mp hp).elim (fun z => I.pin p (List.mem_append_left _ z)) (h p), I.hok, I.len⟩

theorem nodup_ix {N : List Str} (hN : N.Nodup) {i j : Nat} {x : Str} (a : N[i]? = some x) (b : N[j]? = some x) : i = j := by
  obtain ⟨h1, e1⟩ := List.getElem?_eq_some_iff.mp a
  obtain ⟨h2, e2⟩ := List.getElem?_eq_some_iff.mp b
  exact (List.getElem_inj hN).mp (e1.trans e2.symm)

/-- a name is stored; what changed -/
theorem store_ok2 {M : Model} {A : Around} {E : Value → Shared → Prop} {i : Nat} {x : Str} {v : V} {u : Value} {Q : Unit → Shared → Prop} (I : Inv X pins σ H s) (hN : X.N.Nodup) (hi : X.N[i]? = some x) (hx : Loc X.env.scope x) (r : RelV v u)
    (h : ∀ s', Inv X pins (σ.set i (some v)) H s' → (∃ a, Heap.SameBut a s.heap s'.heap ∧ (a = X.env.locals ∨ X.env.cells.lookup x = some a)) → Q () s') (hf : X.fn x = true ∨ X.env.scope.names.lookup x = some .local := by first | exact .inl rfl | exact .inr rfl | assumption) : wpAny M A (storeName X.env x u) Q E s := by
  obtain ⟨m, hn, hl⟩ := id I.loc
  have hcls : (X.env.scope.kind == .class || (X.env.scope.kind == .module && X.env.locals != X.env.globals)) = false := by rw [I.ok.kind]; rfl
  have hiσ : i < σ.length := by rw [I.len]; exact (List.getElem?_eq_some_iff.mp hi).1
  have cne := I.cne
  have tracked : ∀ {a : Addr} {h' : Heap}, (∃ o, s.heap.get? a = some o ∧ H a = none) → Heap.SameBut a s.heap h' → HOk X.prog X.w H h' := fun {a h'} ha hs b ob e => by
    obtain ⟨_, _, hfree⟩ := ha
    refine (I.hok b ob e).stay (fun c w' hc q => (hs.2 c ?_).trans q) (fun _ q => q) fun _ _ q => q
    rintro rfl
    rcases hc with rfl | hc
    · rw [hfree] at e; cases e
    · rw [hfree] at hc; cases hc
  rcases hx with hk | hk
  · refine wpAny_storeName_local hk hn (fun h' hn' hs => ?_) hcls
    obtain ⟨oL, _, _, hoL, _⟩ := id hn
    refine h _ ⟨I.ok, I.os, I.bare, ⟨fun b o e n hb hx => ?_, fun b o e n hb hx => ?_, I.base.free, fun b o e hx => ?_, I.base.tups, I.base.frzs, I.base.tbls⟩, ⟨_, hn', fun j y v' e1 e2 e3 => ?_⟩, fun y c e => ?_, I.free, I.freeC, fun p hp => ?_, tracked ⟨oL, hoL, I.free⟩ hs, by simpa using I.len⟩ ⟨_, hs, .inl rfl⟩
    · exact (hs.2 b (Nat.ne_of_lt (Nat.lt_of_lt_of_le (Heap.lt_size e) I.ok.above))).trans (I.base.keep b o e n hb hx)
    · obtain ⟨sl, e1⟩ := I.base.slot b o e n hb hx
      exact ⟨sl, (hs.2 b (Nat.ne_of_lt (Nat.lt_of_lt_of_le (Heap.lt_size e) I.ok.above))).trans e1⟩
    · obtain ⟨o', e1⟩ := I.base.there b o e hx
      exact ⟨o', (hs.2 b (Nat.ne_of_lt (Nat.lt_of_lt_of_le (Heap.lt_size e) I.ok.above))).trans e1⟩
    · by_cases hj : j = i
      · subst hj
        rw [hi] at e1; cases e1
        rw [List.getElem?_set_self hiσ] at e2
        cases e2
        exact ⟨u, r, .inl ⟨hk, by simp⟩⟩
      · rw [List.getElem?_set_ne (Ne.symm hj)] at e2
        obtain ⟨u', r', q⟩ := hl j y v' e1 e2 e3
        refine ⟨u', r', ?_⟩
        rcases q with ⟨k, e⟩ | ⟨k, c, e, z⟩
        · refine .inl ⟨k, ?_⟩
          have : y ≠ x := fun e => hj (nodup_ix hN e1 (e ▸ hi))
          simp [this, e]
        · exact .inr ⟨k, c, e, z.sameBut hs (cne y c e)⟩
    · obtain ⟨w', z⟩ := I.cell y c e
      exact ⟨w', z.sameBut hs (cne y c e)⟩
    · obtain ⟨e, n, ne, nf, d⟩ := I.pin p hp
      exact ⟨(hs.2 p.1 ne).trans e, n, ne, nf, d⟩
  · have hfn : X.fn x = true := by
      rcases hf with z | z
      · exact z
      · rw [z] at hk; cases hk
    obtain ⟨c, hc⟩ := I.ok.has x (.inl hk)
    obtain ⟨w', z⟩ := I.cell x c hc
    refine wpAny_storeName_cell I.ok.kind hk hc z (fun h' hc' hs => ?_)
    obtain ⟨oc, hoc, hocd⟩ := id z
    refine h { s with heap := h' } ⟨I.ok, I.os, I.bare, ⟨fun b o e n hb hx => ?_, fun b o e n hb hx => ?_, I.base.free, fun b o e hx => ?_, I.base.tups, I.base.frzs, I.base.tbls⟩, ⟨m, hn.sameBut hs (Ne.symm (cne x c hc)), fun j y v' e1 e2 e3 => ?_⟩, fun y c' e => ?_, I.free, I.freeC, fun p hp => ?_, tracked ⟨oc, hoc, I.freeC x c hc⟩ hs, by simpa using I.len⟩ ⟨c, hs, .inr hc⟩
    · exact (hs.2 b (Nat.ne_of_lt (Nat.lt_of_lt_of_le (Heap.lt_size e) (I.ok.cab x c hfn hc)))).trans (I.base.keep b o e n hb hx)
    · obtain ⟨sl, e1⟩ := I.base.slot b o e n hb hx
      exact ⟨sl, (hs.2 b (Nat.ne_of_lt (Nat.lt_of_lt_of_le (Heap.lt_size e) (I.ok.cab x c hfn hc)))).trans e1⟩
    · obtain ⟨o', e1⟩ := I.base.there b o e hx
      exact ⟨o', (hs.2 b (Nat.ne_of_lt (Nat.lt_of_lt_of_le (Heap.lt_size e) (I.ok.cab x c hfn hc)))).trans e1⟩
    · by_cases hj : j = i
      · subst hj
        rw [hi] at e1; cases e1
        rw [List.getElem?_set_self hiσ] at e2
        cases e2
        exact ⟨u, r, .inr ⟨.inl hk, c, hc, hc'⟩⟩
      · rw [List.getElem?_set_ne (Ne.symm hj)] at e2
        obtain ⟨u', r', q⟩ := hl j y v' e1 e2 e3
        refine ⟨u', r', ?_⟩
        rcases q with q | ⟨k, c', e, z'⟩
        · exact .inl q
        · refine .inr ⟨k, c', e, z'.sameBut hs ?_⟩
          rintro rfl
          exact hj (nodup_ix hN e1 (I.ok.inj _ _ _ e hc ▸ hi))
    · by_cases hcc : c' = c
      · subst hcc; exact ⟨_, hc'⟩
      · obtain ⟨w2, z2⟩ := I.cell y c' e
        exact ⟨w2, z2.sameBut hs hcc⟩
    · obtain ⟨e, n, ne, nf, d⟩ := I.pin p hp
      refine ⟨(hs.2 p.1 ?_).trans e, n, ne, nf, d⟩
      intro q
      rw [q, hoc] at e
      have q' : oc = p.2 := Option.some.inj e
      exact d w' (by rw [← q']; exact hocd)
theorem store_ok {M : Model} {A : Around} {E : Value → Shared → Prop} {i : Nat} {x : Str} {v : V} {u : Value} {Q : Unit → Shared → Prop} (I : Inv X pins σ H s) (hN : X.N.Nodup) (hi : X.N[i]? = some x) (hx : Loc X.env.scope x) (r : RelV v u)
    (h : ∀ s', Inv X pins (σ.set i (some v)) H s' → Q () s') (hf : X.fn x = true ∨ X.env.scope.names.lookup x = some .local := by first | exact .inl rfl | exact .inr rfl | assumption) : wpAny M A (storeName X.env x u) Q E s :=
  store_ok2 I hN hi hx r (fun s' I' _ => h s' I') hf
/-- behind a call or a block, the state as it is -/
theorem Inv.call' {s' : Shared} {ch : List Addr} (I : Inv X pins σ H s) (ho : s'.os = s.os) (u : Un (frs X.stack) ch H H' s.heap s'.heap) (hok : HOk X.prog X.w H' s'.heap) (hg : AllBare s'.gens)
    (hch : ∀ b ∈ ch, (b ∈ X.ex ∨ X.s₀.heap.objs.size ≤ b) ∧ b ≠ X.env.locals ∧ (∀ x c, X.env.cells.lookup x = some c → c ≠ b) ∧ ∀ p ∈ X.pn ++ pins, p.1 ≠ b) : Inv X pins σ H' s' := by
  obtain ⟨h', g', d', t', o'⟩ := s'
  have e : o' = s.os := ho
  subst e
  exact I.call (g' := g') (t' := t') (d' := d') u hok hg hch
end

/-! ### the judgements -/
/-- an exception: its class, its own dict's address (where it has one), the abstract heap behind it -/
abbrev XK := Value → Option Addr → Hp → Prop
abbrev St := List (Option V)
abbrev VK := V → Hp → Prop
/-- an expression's reading; a test's; an argument list's -/
abbrev TE := St → Hp → VK → Prop
abbrev TT := St → Hp → (Bool → Hp → Prop) → Prop
abbrev TA := St → Hp → (List V → Hp → Prop) → Prop
/-- what is wanted behind a statement -/
structure Ends where
  nx : St → Hp → Prop
  rt : VK
  bk : St → Hp → Prop := fun _ _ => False
  ct : St → Hp → Prop := fun _ _ => False
abbrev TS := Ends → St → Hp → Prop

def EP (X : Cx) (pins : List (Addr × Obj)) (σ : St) (Q : VK) (u : Value) (s' : Shared) : Prop := ∃ v H', Inv X pins σ H' s' ∧ RelV v u ∧ Q v H'
def TP (X : Cx) (pins : List (Addr × Obj)) (σ : St) (Q : Bool → Hp → Prop) (b : Bool) (s' : Shared) : Prop := ∃ H', Inv X pins σ H' s' ∧ Q b H'
def AP (X : Cx) (pins : List (Addr × Obj)) (σ : St) (Q : List V → Hp → Prop) (us : List Value) (s' : Shared) : Prop := ∃ vs H', Inv X pins σ H' s' ∧ Vals vs us ∧ Q vs H'
def SP (X : Cx) (pins : List (Addr × Obj)) (D : Ends) (f : Flow) (s' : Shared) : Prop :=
  match f with
  | .next => ∃ σ' H', Inv X pins σ' H' s' ∧ D.nx σ' H'
  | .brk => ∃ σ' H', Inv X pins σ' H' s' ∧ D.bk σ' H'
  | .cont => ∃ σ' H', Inv X pins σ' H' s' ∧ D.ct σ' H'
  | .ret u => ∃ v σ' H', Inv X pins σ' H' s' ∧ RelV v u ∧ D.rt v H'

def PE (X : Cx) (e : Expr) (t : TE) : Prop :=
  ∀ (pins : List (Addr × Obj)) (s : Shared) (σ : St) (H : Hp) (Q : VK), Inv X pins σ H s → t σ H Q → wpAny (model X.prog X.w) X.A (eval e X.env) (EP X pins σ Q) X.xe s
def PT (X : Cx) (e : Expr) (t : TT) : Prop :=
  ∀ (pins : List (Addr × Obj)) (s : Shared) (σ : St) (H : Hp) (Q : Bool → Hp → Prop), Inv X pins σ H s → t σ H Q → wpAny (model X.prog X.w) X.A (isTrue e X.env (eval e X.env)) (TP X pins σ Q) X.xe s
/-- a test whatever its 'whole' is (and, or) -/
def PW (X : Cx) (e : Expr) (t : TT) : Prop :=
  ∀ (whole : Sem Value) (pins : List (Addr × Obj)) (s : Shared) (σ : St) (H : Hp) (Q : Bool → Hp → Prop), Inv X pins σ H s → t σ H Q → wpAny (model X.prog X.w) X.A (isTrue e X.env whole) (TP X pins σ Q) X.xe s
theorem PW.pt {X : Cx} {e : Expr} {t : TT} (h : PW X e t) : PT X e t := h _
/-- an argument list (no star), from the left -/
def PA (X : Cx) (es : List Expr) (t : TA) : Prop :=
  ∀ (pos : Pos) (pins : List (Addr × Obj)) (s : Shared) (σ : St) (H : Hp) (Q : List V → Hp → Prop), Inv X pins σ H s → t σ H Q → wpAny (model X.prog X.w) X.A (spliced (backTo pos (starEach es X.env))) (AP X pins σ Q) X.xe s
def PS (X : Cx) (st : Stmt) (t : TS) : Prop :=
  ∀ (pins : List (Addr × Obj)) (s : Shared) (σ : St) (H : Hp) (D : Ends), Inv X pins σ H s → t D σ H → wpAny (model X.prog X.w) X.A (exec st X.env) (SP X pins D) X.xe s
def PSs (X : Cx) (st : List Stmt) (t : TS) : Prop :=
  ∀ (pins : List (Addr × Obj)) (s : Shared) (σ : St) (H : Hp) (D : Ends), Inv X pins σ H s → t D σ H → wpAny (model X.prog X.w) X.A (execs st X.env) (SP X pins D) X.xe s
/-- weaken the end -/
theorem thn {α : Type} {t : Sem α} {Q Q' : α → Shared → Prop} {M : Model} {A : Around} {E : Value → Shared → Prop} {s : Shared} (h : wpAny M A t Q E s) (hQ : ∀ a s, Q a s → Q' a s) : wpAny M A t Q' E s := wpAny_mono h hQ fun _ _ x => x
end L2

namespace L2
open PySem PySem.Spec PyProof.Rows
section
variable {X : Cx}

/-- two expressions in a row -/
theorem bin {a b : Expr} {ta tb : TE} (ha : PE X a ta) (hb : PE X b tb) {pins : List (Addr × Obj)} {s : Shared} {σ : St} {H : Hp} {R : V → V → Hp → Prop} (I : Inv X pins σ H s) (h : ta σ H fun x H1 => tb σ H1 fun y H2 => R x y H2)
    {α : Type} {Q : α → Shared → Prop} {f : Value → Value → Sem α}
    (hf : ∀ v u s2 x y H2, Inv X pins σ H2 s2 → RelV x v → RelV y u → R x y H2 → wpAny (model X.prog X.w) X.A (f v u) Q X.xe s2) :
    wpAny (model X.prog X.w) X.A (eval a X.env) (fun v s₁ => wpAny (model X.prog X.w) X.A (eval b X.env) (fun u s₂ => wpAny (model X.prog X.w) X.A (f v u) Q X.xe s₂) X.xe s₁) X.xe s := by
  refine thn (ha pins s σ H _ I h) fun v s1 ⟨x, H1, I1, r1, q1⟩ => ?_
  refine thn (hb pins s1 σ H1 _ I1 q1) fun u s2 ⟨y, H2, I2, r2, q2⟩ => ?_
  exact hf v u s2 x y H2 I2 r1 r2 q2

/-! ### names and constants -/
def tVar (i : Nat) : TE := fun σ H Q => ∃ v, σ[i]? = some (some v) ∧ Q v H
def tC (v : V) : TE := fun _ H Q => Q v H
theorem pe_var {i : Nat} {x : Str} {pos : Pos} (hN : X.N[i]? = some x) (hv : Vis X.env.scope x) (hd : (x == ("__debug__" : Str)) = false := by decide) (hcd : (x == ("__classdict__" : Str)) = false := by decide) : PE X (.Name x pos) (tVar i) := by
  intro pins s σ H Q I h
  obtain ⟨v, e, h⟩ := h
  obtain ⟨m, hn, hl⟩ := I.loc
  obtain ⟨u, r, l⟩ := hl i x v hN e hv
  have fin : EP X pins σ Q u s := ⟨v, H, I, r, h⟩
  rcases l with ⟨hk, hm⟩ | ⟨hk, c, hc, hcell⟩
  · exact wpAny_Name (wpAny_loadName_local I.ok.kind hk hn hm fin) hd
  · rcases hk with hk | hk
    · exact wpAny_Name (wpAny_loadName_cell I.ok.kind hk hc hcell fin) hd
    · exact wpAny_Name (wpAny_loadName_free I.ok.kind hk hc hcell fin hcd) hd
theorem pe_int {i j pos} : PE X (.Constant (.int i) j pos) (tC (.int i)) := fun _ _ _ H _ I h => wpAny_Constant_int ⟨.int i, H, I.tok _, ⟨_, rfl⟩, h⟩
theorem pe_bl {b j pos} : PE X (.Constant (.bool b) j pos) (tC (.bl b)) := fun _ _ _ H _ I h => Constant_bool ⟨.bl b, H, I, rfl, h⟩
theorem pe_non {j pos} : PE X (.Constant .none j pos) (tC .non) := fun _ _ _ H _ I h => Constant_none ⟨.non, H, I, rfl, h⟩
theorem pe_str {x j pos} : PE X (.Constant (.str x) j pos) (tC (.str x)) := fun _ _ _ H _ I h => Calls.Constant_str ⟨.str x, H, I.tok _, ⟨_, rfl⟩, h⟩

/-- a global name of the def -/
def Gl (X : Cx) (x : Str) : Prop := X.env.kindOf x = some .globalImplicit
theorem ld_glob {E : Value → Shared → Prop} {pins : List (Addr × Obj)} {s : Shared} {σ : St} {H : Hp} {x : Str} {u : Value} {pos : Pos} {Q : Value → Shared → Prop} (I : Inv X pins σ H s) (hg : Gl X x) (hm : X.mg x = some u) (h : Q u s)
    (hd : (x == ("__debug__" : Str)) = false := by decide) : wpAny (model X.prog X.w) X.A (eval (.Name x pos) X.env) Q E s :=
  Calls.Name_function_global I.ok.kind hg (Calls.loadGlobal_global (by rw [I.ok.glob]; exact I.mod.glob.keeps I.bk) hm h) hd
theorem ld_blt {E : Value → Shared → Prop} {pins : List (Addr × Obj)} {s : Shared} {σ : St} {H : Hp} {x : Str} {u : Value} {pos : Pos} {Q : Value → Shared → Prop} (I : Inv X pins σ H s) (hg : Gl X x) (hm : X.mg x = none) (hv : bootBuiltins x = some u) (h : Q u s)
    (hn : x ≠ "__name__" := by decide) (hd : (x == ("__debug__" : Str)) = false := by decide) : wpAny (model X.prog X.w) X.A (eval (.Name x pos) X.env) Q E s := by
  obtain ⟨mb, h1, h2⟩ := I.mod.blt
  exact Calls.Name_function_global I.ok.kind hg (Calls.loadGlobal_builtin (by rw [I.ok.glob]; exact I.mod.glob.keeps I.bk) hm (by rw [I.ok.blt]; exact h1.keeps I.bk) ((h2 x hn).trans hv) h) hd
/-- a module's constant, a class, a function, as a value -/
theorem pe_glob {x : Str} {v : V} {u : Value} {pos : Pos} (hg : Gl X x) (hm : X.mg x = some u) (r : RelV v u) (hd : (x == ("__debug__" : Str)) = false := by decide) : PE X (.Name x pos) (tC v) :=
  fun _ _ _ H _ I h => ld_glob I hg hm ⟨v, H, I, r, h⟩ hd
theorem pe_bltn {x : Str} {v : V} {u : Value} {pos : Pos} (hg : Gl X x) (hm : X.mg x = none) (hv : bootBuiltins x = some u) (r : RelV v u) (hn : x ≠ "__name__" := by decide) (hd : (x == ("__debug__" : Str)) = false := by decide) : PE X (.Name x pos) (tC v) :=
  fun _ _ _ H _ I h => ld_blt I hg hm hv ⟨v, H, I, r, h⟩ hn hd

/-! ### arithmetic -/
/-- two ints -/
def t2I (ta tb : TE) (k : Int → Int → Hp → Prop) : St → Hp → Prop := fun σ H => ta σ H fun x H1 => tb σ H1 fun y H2 => ∃ i j, x = .int i ∧ y = .int j ∧ k i j H2
def tAdd (ta tb : TE) : TE := fun σ H Q => t2I ta tb (fun i j H2 => Q (.int (i + j)) H2) σ H
def tSub (ta tb : TE) : TE := fun σ H Q => t2I ta tb (fun i j H2 => Q (.int (i - j)) H2) σ H
/-- the left factor below 2^64 -/
def tMul (ta tb : TE) : TE := fun σ H Q => t2I ta tb (fun i j H2 => (-(2 ^ 64) < i ∧ i < 2 ^ 64) ∧ Q (.int (i * j)) H2) σ H
variable {a b : Expr} {ta tb : TE} {pos : Pos}
theorem pe_add (ha : PE X a ta) (hb : PE X b tb) : PE X (.BinOp a .Add b pos) (tAdd ta tb) := by
  intro pins s σ H Q I h
  refine wpAny_BinOp (bin ha hb I h fun v u s2 x y H2 I2 rx ry q => ?_)
  obtain ⟨i, j, rfl, rfl, q⟩ := q
  obtain ⟨t, rfl⟩ := rx
  obtain ⟨t', rfl⟩ := ry
  exact add_int ⟨.int _, H2, I2.tok _, ⟨_, rfl⟩, q⟩
theorem pe_sub (ha : PE X a ta) (hb : PE X b tb) : PE X (.BinOp a .Sub b pos) (tSub ta tb) := by
  intro pins s σ H Q I h
  refine wpAny_BinOp (bin ha hb I h fun v u s2 x y H2 I2 rx ry q => ?_)
  obtain ⟨i, j, rfl, rfl, q⟩ := q
  obtain ⟨t, rfl⟩ := rx
  obtain ⟨t', rfl⟩ := ry
  exact sub_int ⟨.int _, H2, I2.tok _, ⟨_, rfl⟩, q⟩
theorem pe_mul (ha : PE X a ta) (hb : PE X b tb) : PE X (.BinOp a .Mult b pos) (tMul ta tb) := by
  intro pins s σ H Q I h
  refine wpAny_BinOp (bin ha hb I h fun v u s2 x y H2 I2 rx ry q => ?_)
  obtain ⟨i, j, rfl, rfl, ⟨q1, q2⟩, q⟩ := q
  obtain ⟨t, rfl⟩ := rx
  obtain ⟨t', rfl⟩ := ry
  exact mul_int ⟨.int _, H2, I2.tok _, ⟨_, rfl⟩, q⟩ (.of_left (intBits_le_64 q1 q2))

/-! ### comparisons -/
def PC (X : Cx) (op : CmpOp) (a b : Expr) (t : TE) : Prop :=
  ∀ (pins : List (Addr × Obj)) (s : Shared) (σ : St) (H : Hp) (Q : VK), Inv X pins σ H s → t σ H Q →
    wpAny (model X.prog X.w) X.A (eval a X.env) (fun v s₁ => wpAny (model X.prog X.w) X.A (eval b X.env) (fun u s₂ => wpAny (model X.prog X.w) X.A (compareOp op v u) (EP X pins σ Q) X.xe s₂) X.xe s₁) X.xe s
theorem nobehind (b : Expr) {op : CmpOp} (h : op ≠ .In) (h2 : op ≠ .NotIn) : behindInMarks op b = false := by
  have e1 : (op == CmpOp.In) = false := by cases op <;> first | rfl | exact absurd rfl h
  have e2 : (op == CmpOp.NotIn) = false := by cases op <;> first | rfl | exact absurd rfl h2
  cases b <;> simp [behindInMarks, e1, e2]
def tCmp (p : Int → Int → Bool) (ta tb : TE) : TE := fun σ H Q => t2I ta tb (fun i j H2 => Q (.bl (p i j)) H2) σ H
abbrev tLt : TE → TE → TE := tCmp fun i j => decide (i < j)
abbrev tLe : TE → TE → TE := tCmp fun i j => decide (i ≤ j)
abbrev tGt : TE → TE → TE := tCmp fun i j => decide (j < i)
abbrev tGe : TE → TE → TE := tCmp fun i j => decide (j ≤ i)
abbrev tEqI : TE → TE → TE := tCmp fun i j => decide (i = j)
abbrev tNeI : TE → TE → TE := tCmp fun i j => !decide (i = j)
/-- a comparison of two ints, by its rule -/
theorem pc_int {op : CmpOp} {p : Int → Int → Bool} (ha : PE X a ta) (hb : PE X b tb)
    (rule : ∀ (i j : Int) (t u : Tok) (Q : Value → Shared → Prop) (s : Shared), Q (.bool (p i j)) s → wpAny (model X.prog X.w) X.A (compareOp op (.int i t) (.int j u)) Q X.xe s) : PC X op a b (tCmp p ta tb) := by
  intro pins s σ H Q I h
  refine bin ha hb I h fun v u s2 x y H2 I2 rx ry q => ?_
  obtain ⟨i, j, rfl, rfl, q⟩ := q
  obtain ⟨t, rfl⟩ := rx
  obtain ⟨t', rfl⟩ := ry
  exact rule i j t t' _ s2 ⟨.bl _, H2, I2, rfl, q⟩
theorem pc_lt (ha : PE X a ta) (hb : PE X b tb) : PC X .Lt a b (tLt ta tb) := pc_int ha hb fun _ _ _ _ _ _ h => lt_int h
theorem pc_le (ha : PE X a ta) (hb : PE X b tb) : PC X .LtE a b (tLe ta tb) := pc_int ha hb fun _ _ _ _ _ _ h => le_int h
theorem pc_gt (ha : PE X a ta) (hb : PE X b tb) : PC X .Gt a b (tGt ta tb) := pc_int ha hb fun _ _ _ _ _ _ h => gt_int h
theorem pc_ge (ha : PE X a ta) (hb : PE X b tb) : PC X .GtE a b (tGe ta tb) := pc_int ha hb fun _ _ _ _ _ _ h => ge_int h
theorem pc_eqI (ha : PE X a ta) (hb : PE X b tb) : PC X .Eq a b (tEqI ta tb) := pc_int ha hb fun _ _ _ _ _ _ h => eq_int (by rw [Bool.beq_eq_decide_eq]; exact h)
theorem pc_neI (ha : PE X a ta) (hb : PE X b tb) : PC X .NotEq a b (tNeI ta tb) := pc_int ha hb fun _ _ _ _ _ _ h => ne_int (by rw [bne, Bool.beq_eq_decide_eq]; exact h)
/-- is None -/
def tIsN (ta : TE) : TE := fun σ H Q => ta σ H fun x H1 => Q (.bl (decide (x = .non))) H1
def tNotN (ta : TE) : TE := fun σ H Q => ta σ H fun x H1 => Q (.bl (!decide (x = .non))) H1
theorem RelV.none_iff {x : V} {v : Value} (r : RelV x v) : (v == Value.none) = decide (x = .non) := by
  cases x with
  | non => cases r; rfl
  | bl _ => cases r; rfl
  | int _ => obtain ⟨t, rfl⟩ := r; rfl
  | str _ => obtain ⟨t, rfl⟩ := r; rfl
  | byt _ => obtain ⟨t, rfl⟩ := r; rfl
  | flt _ => obtain ⟨t, rfl⟩ := r; rfl
  | ref _ => cases r; rfl
  | ty _ => cases r; rfl
theorem pc_isN {j pos'} (ha : PE X a ta) : PC X .Is a (.Constant .none j pos') (tIsN ta) := by
  intro pins s σ H Q I h
  refine thn (ha pins s σ H _ I h) fun v s1 ⟨x, H1, I1, r1, q1⟩ => ?_
  exact Constant_none (is_none_gen ⟨.bl _, H1, I1, by rw [r1.none_iff]; rfl, q1⟩)
theorem pc_notN {j pos'} (ha : PE X a ta) : PC X .IsNot a (.Constant .none j pos') (tNotN ta) := by
  intro pins s σ H Q I h
  refine thn (ha pins s σ H _ I h) fun v s1 ⟨x, H1, I1, r1, q1⟩ => ?_
  exact Constant_none (isnot_none_gen ⟨.bl _, H1, I1, by rw [r1.none_iff]; rfl, q1⟩)
/-- a comparison as a value, as a test -/
def tB (t : TE) : TT := fun σ H Q => t σ H fun x H1 => ∃ c, x = .bl c ∧ Q c H1
theorem pe_cmp {op : CmpOp} {t : TE} (h : PC X op a b t) (h1 : behindInMarks op b = false := by first | exact nobehind _ (by decide) (by decide) | rfl) : PE X (.Compare a [op] [b] pos) t := fun pins s σ H Q I hw => wpAny_Compare1 (h pins s σ H Q I hw) h1
theorem pt_cmp {op : CmpOp} {t : TE} (h : PC X op a b t) (h1 : behindInMarks op b = false := by first | exact nobehind _ (by decide) (by decide) | rfl) : PT X (.Compare a [op] [b] pos) (tB t) := by
  intro pins s σ H Q I hw
  refine wpAny_isTrue_Compare1 (thn (h pins s σ H _ I hw) fun v s1 h1 => thn h1 fun u s2 h2 => thn h2 fun c s3 ⟨x, H1, I1, r1, q1⟩ => ?_) h1
  obtain ⟨d, rfl, q⟩ := q1
  cases r1
  exact wpAny_truthy_bool ⟨H1, I1, q⟩
/-- an expression whose value is a bool, as a test -/
theorem pt_val {e : Expr} {t : TE} (h : PE X e t) (he : ∀ whole, isTrue e X.env whole = (do let v ← whole; standAt e.pos; holding [v] (truthy v)) := by intro _; rfl) : PT X e (tB t) := by
  intro pins s σ H Q I hw
  refine isTrue_plain (thn (h pins s σ H _ I hw) fun v s1 ⟨x, H1, I1, r1, q1⟩ => ?_) (he _)
  obtain ⟨d, rfl, q⟩ := q1
  cases r1
  exact wpAny_truthy_bool ⟨H1, I1, q⟩

/-! ### and, or, not -/
variable {tA tB' : TT} {rest : List Expr}
def tAnd (t u : TT) : TT := fun σ H Q => t σ H fun c H1 => if c = true then u σ H1 Q else Q false H1
def tOr (t u : TT) : TT := fun σ H Q => t σ H fun c H1 => if c = true then Q true H1 else u σ H1 Q
def tNot (t : TT) : TT := fun σ H Q => t σ H fun c H1 => Q (!c) H1
theorem pw_and1 (ha : PT X a tA) : PW X (.BoolOp .And [a] pos) tA := by
  intro wh pins s σ H Q I h
  refine isTrue_and (thn (ha pins s σ H Q I h) fun c s1 e => ?_)
  cases c with
  | true => exact isTrue_and_nil e
  | false => exact e
theorem pw_or1 (ha : PT X a tA) : PW X (.BoolOp .Or [a] pos) tA := by
  intro wh pins s σ H Q I h
  refine isTrue_or (thn (ha pins s σ H Q I h) fun c s1 e => ?_)
  cases c with
  | false => exact isTrue_or_nil e
  | true => exact e
theorem pw_and (ha : PT X a tA) (hb : PW X (.BoolOp .And (b :: rest) pos) tB') : PW X (.BoolOp .And (a :: b :: rest) pos) (tAnd tA tB') := by
  intro wh pins s σ H Q I h
  refine isTrue_and (thn (ha pins s σ H _ I h) fun c s1 ⟨H1, I1, q1⟩ => ?_)
  cases c with
  | true => exact hb wh pins s1 σ H1 Q I1 q1
  | false => exact ⟨H1, I1, q1⟩
theorem pw_or (ha : PT X a tA) (hb : PW X (.BoolOp .Or (b :: rest) pos) tB') : PW X (.BoolOp .Or (a :: b :: rest) pos) (tOr tA tB') := by
  intro wh pins s σ H Q I h
  refine isTrue_or (thn (ha pins s σ H _ I h) fun c s1 ⟨H1, I1, q1⟩ => ?_)
  cases c with
  | true => exact ⟨H1, I1, q1⟩
  | false => exact hb wh pins s1 σ H1 Q I1 q1
theorem pt_not (ha : PT X a tA) : PT X (.UnaryOp .Not a pos) (tNot tA) := by
  intro pins s σ H Q I h
  exact isTrue_not (ha pins s σ H (fun c H1 => Q (!c) H1) I h)
/-- .. as values (bools) -/
def tAndV (ta tb : TE) : TE := fun σ H Q => ta σ H fun x H1 => ∃ c, x = .bl c ∧ if c = true then tb σ H1 Q else Q (.bl false) H1
def tOrV (ta tb : TE) : TE := fun σ H Q => ta σ H fun x H1 => ∃ c, x = .bl c ∧ if c = true then Q (.bl true) H1 else tb σ H1 Q
def tNotV (ta : TE) : TE := fun σ H Q => ta σ H fun x H1 => ∃ c, x = .bl c ∧ Q (.bl (!c)) H1
theorem pe_one {op} {t : TE} (h : PE X a t) : PE X (.BoolOp op [a] pos) t := fun pins s σ H Q I hw => BoolOp_one (h pins s σ H Q I hw)
theorem pe_and (ha : PE X a ta) (hb : PE X (.BoolOp .And (b :: rest) pos) tb) : PE X (.BoolOp .And (a :: b :: rest) pos) (tAndV ta tb) := by
  intro pins s σ H Q I h
  refine BoolOp_and (thn (ha pins s σ H _ I h) fun v s1 ⟨x, H1, I1, r1, q1⟩ => ?_)
  obtain ⟨c, rfl, q1⟩ := q1
  cases r1
  refine wpAny_truthy_bool ?_
  cases c with
  | true => exact hb pins s1 σ H1 Q I1 q1
  | false => exact ⟨.bl false, H1, I1, rfl, q1⟩
theorem pe_or (ha : PE X a ta) (hb : PE X (.BoolOp .Or (b :: rest) pos) tb) : PE X (.BoolOp .Or (a :: b :: rest) pos) (tOrV ta tb) := by
  intro pins s σ H Q I h
  refine BoolOp_or (thn (ha pins s σ H _ I h) fun v s1 ⟨x, H1, I1, r1, q1⟩ => ?_)
  obtain ⟨c, rfl, q1⟩ := q1
  cases r1
  refine wpAny_truthy_bool ?_
  cases c with
  | false => exact hb pins s1 σ H1 Q I1 q1
  | true => exact ⟨.bl true, H1, I1, rfl, q1⟩
theorem pe_not (ha : PE X a ta) : PE X (.UnaryOp .Not a pos) (tNotV ta) := by
  intro pins s σ H Q I h
  refine UnaryOp_ (thn (ha pins s σ H _ I h) fun v s1 ⟨x, H1, I1, r1, q1⟩ => ?_)
  obtain ⟨c, rfl, q1⟩ := q1
  cases r1
  exact not_of (wpAny_truthy_bool ⟨.bl (!c), H1, I1, rfl, q1⟩)
/-- a if t else b -/
def tIf (t : TT) (ta tb : TE) : TE := fun σ H Q => t σ H fun c H1 => if c = true then ta σ H1 Q else tb σ H1 Q
theorem pe_ifExp {c : Expr} (hc : PT X c tA) (ha : PE X a ta) (hb : PE X b tb) : PE X (.IfExp c a b pos) (tIf tA ta tb) := by
  intro pins s σ H Q I h
  refine wpAny_IfExp (thn (hc pins s σ H _ I h) fun d s1 ⟨H1, I1, q1⟩ => ?_)
  cases d with
  | true => exact ha pins s1 σ H1 Q I1 q1
  | false => exact hb pins s1 σ H1 Q I1 q1
end
end L2

namespace L2
open PySem PySem.Spec PyProof.Rows

/-! ### a list, a tuple that is read: tracked, frozen, or an object of the module -/
def SqL (K : PySem.W.Frag) (H : Hp) (a : Addr) (xs : List V) : Prop :=
  Rd H a (.lst xs) ∨
    ∃ (o : Obj) (its : Array Value) (n : Nat), K.lookup a = some o ∧ o.cls = .type "list" ∧ o.dict = none ∧ o.data = .seq its n ∧ its.size ≤ sizeLine ∧ Vals xs its.toList
def SqT (K : PySem.W.Frag) (H : Hp) (a : Addr) (xs : List V) : Prop :=
  Rd H a (.tup xs) ∨
    ∃ (o : Obj) (its : Array Value) (n : Nat), K.lookup a = some o ∧ o.cls = .type "tuple" ∧ o.data = .seq its n ∧ its.size ≤ sizeLine ∧ Vals xs its.toList
def absV : Value → Option V
  | .none => some .non
  | .bool b => some (.bl b)
  | .int i _ => some (.int i)
  | .str x _ => some (.str x)
  | .bytes b _ => some (.byt b)
  | .float b _ => some (.flt b)
  | .ref a => some (.ref a)
  | .type n => some (.ty n)
  | _ => none
theorem RelV.abs {x : V} {u : Value} (r : RelV x u) : absV u = some x := by
  cases x with
  | non => cases r; rfl
  | bl _ => cases r; rfl
  | int _ => obtain ⟨t, rfl⟩ := r; rfl
  | str _ => obtain ⟨t, rfl⟩ := r; rfl
  | byt _ => obtain ⟨t, rfl⟩ := r; rfl
  | flt _ => obtain ⟨t, rfl⟩ := r; rfl
  | ref _ => cases r; rfl
  | ty _ => cases r; rfl
theorem RelV.inj {x y : V} {u : Value} (r : RelV x u) (q : RelV y u) : x = y := Option.some.inj (r.abs.symm.trans q.abs)
theorem Vals.inj : ∀ {xs ys : List V} {us : List Value}, Vals xs us → Vals ys us → xs = ys
  | _, _, _, .nil, .nil => rfl
  | _, _, _, .cons r t, .cons r' t' => by rw [r.inj r', Vals.inj t t']
section
variable {X : Cx} {pins : List (Addr × Obj)} {σ : St} {H : Hp} {s : Shared} {a : Addr} {xs ys : List V}
theorem SqL.of {K : PySem.W.Frag} (h : H a = some (.lst xs)) : SqL K H a xs := .inl (.inl h)
theorem SqT.of {K : PySem.W.Frag} (h : H a = some (.tup xs)) : SqT K H a xs := .inl (.inl h)
theorem Inv.list (I : Inv X pins σ H s) (h : SqL X.K H a xs) : ∃ its : List Value, Vals xs its ∧ PlainL s.heap a its.toArray ∧ xs.length ≤ sizeLine := by
  rcases h with h | ⟨o, its, n, hk, hc, hd, hs, hz, r⟩
  · obtain ⟨z, its, n, r, e⟩ := h.ok I.hok
    exact ⟨its, r, ⟨_, n, e, rfl, rfl, rfl⟩, z⟩
  · refine ⟨its.toList, r, ⟨o, n, I.kIn a o hk, hc, hd, by simpa using hs⟩, ?_⟩
    have e := r.length
    simp only [Array.length_toList] at e
    omega
theorem Inv.tuple (I : Inv X pins σ H s) (h : SqT X.K H a xs) : ∃ its : List Value, Vals xs its ∧ IsTup s.heap a its.toArray ∧ xs.length ≤ sizeLine := by
  rcases h with h | ⟨o, its, n, hk, hc, hs, hz, r⟩
  · obtain ⟨z, its, r, p⟩ := h.ok I.hok
    exact ⟨its, r, p, z⟩
  · refine ⟨its.toList, r, ⟨o, I.kIn a o hk, hc, n, by simpa using hs⟩, ?_⟩
    have e := r.length
    simp only [Array.length_toList] at e
    omega
theorem Inv.list_inj (I : Inv X pins σ H s) (h : SqL X.K H a xs) (h' : SqL X.K H a ys) : xs = ys := by
  obtain ⟨its, r, ⟨o, n, e, _, _, d⟩, _⟩ := I.list h
  obtain ⟨its', r', ⟨o', n', e', _, _, d'⟩, _⟩ := I.list h'
  rw [e] at e'; cases e'
  rw [d] at d'
  injection d' with d1 _
  have : its = its' := by simpa using congrArg Array.toList d1
  subst this
  exact r.inj r'
theorem Inv.tuple_inj (I : Inv X pins σ H s) (h : SqT X.K H a xs) (h' : SqT X.K H a ys) : xs = ys := by
  obtain ⟨its, r, ⟨o, e, _, n, d⟩, _⟩ := I.tuple h
  obtain ⟨its', r', ⟨o', e', _, n', d'⟩, _⟩ := I.tuple h'
  rw [e] at e'; cases e'
  rw [d] at d'
  injection d' with d1 _
  have : its = its' := by simpa using congrArg Array.toList d1
  subst this
  exact r.inj r'
end

/-! ### another wish about exceptions -/
abbrev Cx.wish (X : Cx) (E : Value → Shared → Prop) : Cx := { X with xe := E }
/-- no exception leaves -/
abbrev Cx.nox (X : Cx) : Cx := X.wish fun _ _ => False
theorem Cx.Ok.wish {X : Cx} (ok : X.Ok) (E : Value → Shared → Prop) : (X.wish E).Ok :=
  ⟨ok.mod, ok.kind, ok.glob, ok.blt, ok.above, ok.inj, ok.has, ok.cab, ok.hd, ok.frames, ok.stk, ok.exf, ok.bs, ok.bsz, ok.noex, ok.exfs, ok.funs, ok.frf⟩
theorem Cx.Ok.unwish {X : Cx} {E : Value → Shared → Prop} (ok : (X.wish E).Ok) : X.Ok :=
  ⟨ok.mod, ok.kind, ok.glob, ok.blt, ok.above, ok.inj, ok.has, ok.cab, ok.hd, ok.frames, ok.stk, ok.exf, ok.bs, ok.bsz, ok.noex, ok.exfs, ok.funs, ok.frf⟩
section
variable {X : Cx} {pins : List (Addr × Obj)} {σ : St} {H : Hp} {s : Shared} {E : Value → Shared → Prop}
theorem Inv.wish (I : Inv X pins σ H s) (E : Value → Shared → Prop) : Inv (X.wish E) pins σ H s := ⟨I.ok.wish E, I.os, I.bare, I.base, I.loc, I.cell, I.free, I.freeC, I.pin, I.hok, I.len⟩
theorem Inv.unwish (I : Inv (X.wish E) pins σ H s) : Inv X pins σ H s := ⟨I.ok.unwish, I.os, I.bare, I.base, I.loc, I.cell, I.free, I.freeC, I.pin, I.hok, I.len⟩
theorem SP.unwish {D : Ends} {f : Flow} {s' : Shared} (h : SP (X.wish E) pins D f s') : SP X pins D f s' := by
  cases f with
  | next => obtain ⟨σ', H', I, q⟩ := h; exact ⟨σ', H', I.unwish, q⟩
  | brk => obtain ⟨σ', H', I, q⟩ := h; exact ⟨σ', H', I.unwish, q⟩
  | cont => obtain ⟨σ', H', I, q⟩ := h; exact ⟨σ', H', I.unwish, q⟩
  | ret u => obtain ⟨v, σ', H', I, r, q⟩ := h; exact ⟨v, σ', H', I.unwish, r, q⟩
theorem PE.nox {e : Expr} {t : TE} (h : PE X.nox e t) : PE X e t := fun pins s σ H Q I hw =>
  wpAny_mono (h pins s σ H Q (I.wish _) hw) (fun _ _ ⟨v, H', I', r, q⟩ => ⟨v, H', I'.unwish, r, q⟩) fun _ _ z => False.elim z
theorem PT.nox {e : Expr} {t : TT} (h : PT X.nox e t) : PT X e t := fun pins s σ H Q I hw =>
  wpAny_mono (h pins s σ H Q (I.wish _) hw) (fun _ _ ⟨H', I', q⟩ => ⟨H', I'.unwish, q⟩) fun _ _ z => False.elim z
theorem PSs.nox {st : List Stmt} {t : TS} (h : PSs X.nox st t) : PSs X st t := fun pins s σ H D I hw =>
  wpAny_mono (h pins s σ H D (I.wish _) hw) (fun _ _ q => q.unwish) fun _ _ z => False.elim z
end

/-! ### blocks and small statements -/
section
variable {X : Cx} {st : Stmt} {rest : List Stmt} {t u : TS} {e : Expr} {te : TE} {pos : Pos}
def tNext : TS := fun D σ H => D.nx σ H
def tSeq (t u : TS) : TS := fun D σ H => t { D with nx := u D } σ H
theorem pss_nil : PSs X [] tNext := fun _ _ σ H _ I h => wpAny_execs_nil ⟨σ, H, I, h⟩
theorem pss_cons (h1 : PS X st t) (h2 : PSs X rest u) : PSs X (st :: rest) (tSeq t u) := by
  intro pins s σ H D I h
  refine wpAny_execs_cons (thn (h1 pins s σ H { D with nx := u D } I h) fun f s1 q => ?_)
  cases f with
  | next =>
    obtain ⟨σ', H', I', q⟩ := q
    exact h2 pins s1 σ' H' D I' q
  | ret v => exact q
  | brk => exact q
  | cont => exact q
theorem pss_one (h1 : PS X st t) : PSs X [st] t := by
  intro pins s σ H D I h
  refine wpAny_execs_cons (thn (h1 pins s σ H D I h) fun f s1 q => ?_)
  cases f with
  | next => exact wpAny_execs_nil q
  | ret v => exact q
  | brk => exact q
  | cont => exact q
def tBreak : TS := fun D σ H => D.bk σ H
def tCont : TS := fun D σ H => D.ct σ H
theorem ps_pass : PS X (.Pass pos) tNext := fun _ _ σ H _ I h => wpAny_Pass ⟨σ, H, I, h⟩
theorem ps_break : PS X (.Break pos) tBreak := fun _ _ σ H _ I h => wpAny_Break ⟨σ, H, I, h⟩
theorem ps_continue : PS X (.Continue pos) tCont := fun _ _ σ H _ I h => wpAny_Continue ⟨σ, H, I, h⟩
/-- in a def's body nothing is shown -/
theorem Inv.quiet {pins : List (Addr × Obj)} {σ : St} {H : Hp} {s : Shared} (I : Inv X pins σ H s) : interactive X.env = false := by simp [interactive, I.ok.kind]
/-- a docstring -/
theorem ps_doc {x j pos pos'} : PS X (.Expr (.Constant (.str x) j pos) pos') tNext := fun _ s σ H _ I h => wpAny_Expr (Calls.Constant_str (show SP X _ _ .next { s with toks := s.toks + 1 } from ⟨σ, H, I.tok _, h⟩)) I.quiet
/-- an expression whose value is dropped -/
def tDrop (te : TE) : TS := fun D σ H => te σ H fun _ H1 => D.nx σ H1
theorem ps_expr (he : PE X e te) (hs : swapsWith e none pos.line X.env = pure false := by rfl) : PS X (.Expr e pos) (tDrop te) := by
  intro pins s σ H D I h
  exact wpAny_Expr_any (thn (he pins s σ H _ I h) fun v s1 ⟨x, H1, I1, r1, q1⟩ => ⟨σ, H1, I1, q1⟩) I.quiet hs
def tRet (te : TE) : TS := fun D σ H => te σ H D.rt
theorem ps_ret (he : PE X e te) : PS X (.Return (some e) pos) (tRet te) := by
  intro pins s σ H D I h
  exact wpAny_Return_some (thn (he pins s σ H _ I h) fun v s1 ⟨x, H1, I1, r1, q1⟩ => ⟨x, σ, H1, I1, r1, q1⟩)
def tRetN : TS := fun D _ H => D.rt .non H
theorem ps_retN : PS X (.Return none pos) tRetN := fun _ _ σ H _ I h => wpAny_Return_none ⟨.non, σ, H, I, rfl, h⟩
def tIfS (c : TT) (t u : TS) : TS := fun D σ H => c σ H fun b H1 => if b = true then t D σ H1 else u D σ H1
theorem ps_if {c : Expr} {a b : List Stmt} {tc : TT} (hc : PT X c tc) (ha : PSs X a t) (hb : PSs X b u) : PS X (.If c a b pos) (tIfS tc t u) := by
  intro pins s σ H D I h
  refine wpAny_If (thn (hc pins s σ H _ I h) fun d s1 ⟨H1, I1, q1⟩ => ?_)
  cases d with
  | true => exact ha pins s1 σ H1 D I1 q1
  | false => exact hb pins s1 σ H1 D I1 q1
/-- code that the proof never comes to -/
def tNever : TS := fun _ _ _ => False
theorem ps_never : PS X st tNever := fun _ _ _ _ _ _ h => h.elim
theorem pss_never {sts : List Stmt} : PSs X sts tNever := fun _ _ _ _ _ _ h => h.elim
end

/-! ### targets -/
abbrev TG := V → St → Hp → (St → Hp → Prop) → Prop
abbrev TGs := List V → St → Hp → (St → Hp → Prop) → Prop
def PG (X : Cx) (target : Expr) (t : TG) : Prop :=
  ∀ (pins : List (Addr × Obj)) (s : Shared) (σ : St) (H : Hp) (v : V) (u : Value) (Q : St → Hp → Prop), Inv X pins σ H s → RelV v u → t v σ H Q →
    wpAny (model X.prog X.w) X.A (assign target X.env u) (fun _ s' => ∃ σ' H', Inv X pins σ' H' s' ∧ Q σ' H') X.xe s
/-- several targets, one after another -/
def PGs (X : Cx) (ts : List Expr) (t : TGs) : Prop :=
  ∀ (pins : List (Addr × Obj)) (s : Shared) (σ : St) (H : Hp) (vs : List V) (us : List Value) (Q : St → Hp → Prop), Inv X pins σ H s → Vals vs us → t vs σ H Q →
    wpAny (model X.prog X.w) X.A (assignInOrder ((assignEach ts X.env).map (·.2)) us) (fun _ s' => ∃ σ' H', Inv X pins σ' H' s' ∧ Q σ' H') X.xe s
/-- o[i] = v, by values -/
abbrev TSet := V → V → V → Hp → (Hp → Prop) → Prop
def PSet (X : Cx) (t : TSet) : Prop :=
  ∀ (pins : List (Addr × Obj)) (s : Shared) (σ : St) (H : Hp) (o i v : V) (ov iv u : Value) (Q : Hp → Prop), Inv X pins σ H s → RelV o ov → RelV i iv → RelV v u → t o i v H Q →
    wpAny (model X.prog X.w) X.A (setItem ov iv u) (fun _ s' => ∃ H', Inv X pins σ H' s' ∧ Q H') X.xe s
/-- a op= b, by values -/
abbrev TIp := V → V → Hp → VK → Prop
def PIp (X : Cx) (op : Operator) (t : TIp) : Prop :=
  ∀ (pins : List (Addr × Obj)) (s : Shared) (σ : St) (H : Hp) (x y : V) (v u : Value) (Q : VK), Inv X pins σ H s → RelV x v → RelV y u → t x y H Q →
    wpAny (model X.prog X.w) X.A (inplaceOp op v u) (EP X pins σ Q) X.xe s
section
variable {X : Cx} {pos : Pos}
def gName (i : Nat) : TG := fun v σ H Q => Q (σ.set i (some v)) H
theorem pg_name {i : Nat} {x : Str} (hN : X.N.Nodup) (hi : X.N[i]? = some x) (hx : Loc X.env.scope x) (hf : X.fn x = true ∨ X.env.scope.names.lookup x = some .local := by first | exact .inl rfl | exact .inr rfl | assumption) : PG X (.Name x pos) (gName i) := by
  intro pins s σ H v u Q I r h
  exact wpAny_assign_Name (store_ok I hN hi hx r (fun s' I' => ⟨_, H, I', h⟩) hf)
def gNil : TGs := fun vs σ H Q => vs = [] ∧ Q σ H
def gCons (t : TG) (u : TGs) : TGs := fun vs σ H Q => ∃ v r, vs = v :: r ∧ t v σ H fun σ' H' => u r σ' H' Q
theorem pgs_nil : PGs X [] gNil := by
  intro pins s σ H vs us Q I r h
  obtain ⟨e, h⟩ := h
  subst e
  cases r
  exact assignInOrder_nil ⟨σ, H, I, h⟩
theorem pgs_cons {e : Expr} {es : List Expr} {t : TG} {u : TGs} (h1 : PG X e t) (h2 : PGs X es u)
    (hs : (assignEach (e :: es) X.env).map (·.2) = assign e X.env :: (assignEach es X.env).map (·.2) := by rfl) : PGs X (e :: es) (gCons t u) := by
  intro pins s σ H vs us Q I r h
  obtain ⟨v, vr, e1, h⟩ := h
  subst e1
  cases r with
  | cons r rr =>
    rw [hs]
    refine assignInOrder_cons (thn (h1 pins s σ H _ _ _ I r h) fun _ s1 ⟨σ1, H1, I1, q1⟩ => ?_)
    exact h2 pins s1 σ1 H1 _ _ Q I1 rr q1
/-- (a, b, ..) = a tuple of that length -/
def gTup (K : PySem.W.Frag) (n : Nat) (t : TGs) : TG := fun v σ H Q => ∃ a xs, v = .ref a ∧ SqT K H a xs ∧ xs.length = n ∧ t xs σ H Q
theorem pg_tup {es : List Expr} {k : Nat} {t : TGs} {n : Nat} (hc : X.calm = true) (h : PGs X es t)
    (hn : (assignEach es X.env).length = n := by rfl) (hst : (assignEach es X.env).findIdx? (·.1) = none := by rfl) : PG X (.Tuple es k pos) (gTup X.K n t) := by
  intro pins s σ H v u Q I r hw
  obtain ⟨a, xs, e1, hq, hl, hw⟩ := hw
  subst e1
  cases r
  obtain ⟨its, rv, ht, hz⟩ := I.tuple hq
  refine assign_Tuple_tuple (I.ok.hd hc) ht (by simp [hn, ← hl, rv.length]) hst fun h' hx => ?_
  have I1 : Inv X pins σ H { s with heap := h' } := I.kept (t' := s.toks) fun b o e => hx b o (Nat.ne_of_lt (Heap.lt_size e)) e
  exact h pins _ σ H xs _ Q I1 (by simpa using rv) hw
/-- o[i] = .. -/
def gSub (to ti : TE) (t : TSet) : TG := fun v σ H Q => to σ H fun o H1 => ti σ H1 fun i H2 => t o i v H2 fun H3 => Q σ H3
theorem pg_sub {o i : Expr} {to ti : TE} {t : TSet} (ho : PE X o to) (hi : PE X i ti) (hs : PSet X t)
    (ha : ∀ v, assign (.Subscript o i pos) X.env v = (do
      let ov ← holding [v] (eval o X.env)
      let iv ← holding [v, ov] (eval i X.env)
      standAt pos
      holding [v, ov, iv] (setItem ov iv v)
      release [v, ov, iv] []) := by intro _; rfl) : PG X (.Subscript o i pos) (gSub to ti t) := by
  intro pins s σ H v u Q I r h
  rw [ha]
  refine wpAny_bind (wpAny_holding (thn (ho pins s σ H _ I h) fun ov s1 ⟨x, H1, I1, r1, q1⟩ => ?_))
  refine wpAny_bind (wpAny_holding (thn (hi pins s1 σ H1 _ I1 q1) fun iv s2 ⟨y, H2, I2, r2, q2⟩ => ?_))
  refine wpAny_bind (wpAny_standAt (wpAny_bind (wpAny_holding (thn (hs pins s2 σ H2 x y v ov iv u _ I2 r1 r2 r q2) fun _ s3 ⟨H3, I3, q3⟩ => ?_))))
  exact wpAny_release ⟨σ, H3, I3, q3⟩
/-- target = value -/
def tAsg (te : TE) (g : TG) : TS := fun D σ H => te σ H fun x H1 => g x σ H1 D.nx
theorem ps_asg {tg e : Expr} {te : TE} {g : TG} (he : PE X e te) (hg : PG X tg g) (hs : swapsWithSole [tg] e pos.line X.env = pure false := by rfl) (hw : swappedStores [tg] e X.env = pure none := by rfl)
    (h1 : (assignEach [tg] X.env).map (·.2) = [assign tg X.env] := by rfl) : PS X (.Assign [tg] e pos) (tAsg te g) := by
  intro pins s σ H D I h
  refine wpAny_Assign_stores (thn (he pins s σ H _ I h) fun v s1 ⟨x, H1, I1, r1, q1⟩ => ?_) hs hw
  rw [h1]
  exact thn (hg pins s1 σ H1 x v _ I1 r1 q1) fun _ s2 q => q
/-- name = value -/
theorem ps_set {i : Nat} {x : Str} {e : Expr} {te : TE} {pos' : Pos} (hN : X.N.Nodup) (hi : X.N[i]? = some x) (hx : Loc X.env.scope x) (he : PE X e te) (hs : swapsWith e (some (.Name x pos')) pos.line X.env = pure false := by rfl) (hf : X.fn x = true ∨ X.env.scope.names.lookup x = some .local := by first | exact .inl rfl | exact .inr rfl | assumption) :
    PS X (.Assign [.Name x pos'] e pos) (tAsg te (gName i)) := by
  intro pins s σ H D I h
  refine wpAny_Assign_Name (thn (he pins s σ H _ I h) fun v s1 ⟨y, H1, I1, r1, q1⟩ => ?_) hs
  exact store_ok I1 hN hi hx r1 (fun s2 I2 => ⟨_, H1, I2, q1⟩) hf
/-- a, b = x, y with plain local names: stored from the right; the pair itself is not tracked (the opening rows as in PyProof/Rows/TupAssign.lean:23) -/
def tPar (i j : Nat) (ta : TA) : TS := fun D σ H => ta σ H fun vs H1 => ∃ v w, vs = [v, w] ∧ D.nx ((σ.set i (some v)).set j (some w)) H1
theorem ps_par {i j : Nat} {x y : Str} {a b : Expr} {ta : TA} {px py pt : Pos} {kt k2 pt2} (hc : X.calm = true) (hN : X.N.Nodup) (hi : X.N[i]? = some x) (hj : X.N[j]? = some y) (hij : i ≠ j)
    (hx : X.env.scope.names.lookup x = some .local) (hy : X.env.scope.names.lookup y = some .local) (ha : PA X [a, b] ta)
    (hw : swappedStores [.Tuple [.Name x px, .Name y py] kt pt] (.Tuple [a, b] k2 pt2) X.env = pure (some [x, y]))
    (hs : swapsWithSole [.Tuple [.Name x px, .Name y py] kt pt] (.Tuple [a, b] k2 pt2) pos.line X.env = pure false := by rfl) :
    PS X (.Assign [.Tuple [.Name x px, .Name y py] kt pt] (.Tuple [a, b] k2 pt2) pos) (tPar i j ta) := by
  intro pins s σ H D I h
  rw [exec_Assign_arm]
  refine wpAny_bind (wpAny_standAt ?_)
  rw [hs]
  refine wpAny_bind (wpAny_pure ?_)
  rw [if_neg (by decide)]
  refine wpAny_bind (Tuple_ (thn (ha _ pins s σ H _ I h) fun us s1 ⟨vs, H1, I1, r1, q1⟩ => ?_))
  obtain ⟨v, w, e1, q1⟩ := q1
  subst e1
  obtain ⟨u1, u2, rfl, rv, rw'⟩ : ∃ u1 u2, us = [u1, u2] ∧ RelV v u1 ∧ RelV w u2 := by
    cases r1 with
    | cons p q =>
      cases q with
      | cons p' q' =>
        cases q'
        exact ⟨_, _, rfl, p, p'⟩
  refine wpAny_newObj_type ?_ (by show 2 ≤ sizeLine; decide)
  have I2 : Inv X pins σ H1 { s1 with heap := s1.heap.push { cls := .type "tuple", data := .seq [u1, u2].toArray } } := I1.kept (t' := s1.toks) fun b o e => Heap.get?_push_of_some _ e
  rw [hw]
  refine wpAny_bind (wpAny_pure ?_)
  show wpAny (model X.prog X.w) X.A (do rule "assign.swapped-stores"; let items ← unpackItems (.ref s1.heap.objs.size) 2 none; assignInOrder [fun v => bindName X.env y v, fun v => bindName X.env x v] items.reverse; pure Flow.next) _ _ _
  refine wpAny_bind (wpAny_rule (wpAny_bind (unpackItems_tuple (items := #[u1, u2]) (I.ok.hd hc) (IsTup.new s1.heap _) fun h' hx' => ?_)))
  have I3 := I2.kept (h' := h') (t' := s1.toks) fun b o e => hx' b o (Nat.ne_of_lt (Heap.lt_size e)) e
  show wpAny _ _ (assignInOrder [fun v => bindName X.env y v, fun v => bindName X.env x v] [u2, u1] >>= fun _ => pure Flow.next) _ _ _
  refine wpAny_bind (assignInOrder_cons (wpAny_bindName (store_ok I3 hN hj (.inl hy) rw' (fun s2 I4 => ?_) (.inr hy))))
  refine assignInOrder_cons (wpAny_bindName (store_ok I4 hN hi (.inl hx) rv (fun s3 I5 => assignInOrder_nil (wpAny_pure ?_)) (.inr hx)))
  rw [List.set_comm _ _ (Ne.symm hij)] at I5
  exact ⟨_, H1, I5, q1⟩
/-- name op= e -/
def tAug (i : Nat) (te : TE) (ti : TIp) : TS := fun D σ H => ∃ x, σ[i]? = some (some x) ∧ te σ H fun y H1 => ti x y H1 fun z H2 => D.nx (σ.set i (some z)) H2
theorem ps_aug {i : Nat} {x : Str} {e : Expr} {te : TE} {op : Operator} {ti : TIp} {pos' : Pos} (hN : X.N.Nodup) (hi : X.N[i]? = some x) (hx : Loc X.env.scope x) (he : PE X e te) (ho : PIp X op ti) (hf : X.fn x = true ∨ X.env.scope.names.lookup x = some .local := by first | exact .inl rfl | exact .inr rfl | assumption) :
    PS X (.AugAssign (.Name x pos') op e pos) (tAug i te ti) := by
  intro pins s σ H D I h
  obtain ⟨v, e1, h⟩ := h
  obtain ⟨m, hn, hl⟩ := I.loc
  have vis : Vis X.env.scope x := by rcases hx with k | k; exact .inl k; exact .inr (.inl k)
  obtain ⟨u, r, l⟩ := hl i x v hi e1 vis
  refine wpAny_AugAssign_Name ?_
  have go : wpAny (model X.prog X.w) X.A (eval e X.env) (fun w s₂ => wpAny (model X.prog X.w) X.A (inplaceOp op u w) (fun r s₃ => wpAny (model X.prog X.w) X.A (storeName X.env x r) (fun _ => SP X pins D .next) X.xe s₃) X.xe s₂) X.xe s := by
    refine thn (he pins s σ H _ I h) fun w s1 ⟨y, H1, I1, r1, q1⟩ => ?_
    refine thn (ho pins s1 σ H1 v y u w _ I1 r r1 q1) fun z s2 ⟨zv, H2, I2, r2, q2⟩ => ?_
    exact store_ok I2 hN hi hx r2 (fun s3 I3 => ⟨_, H2, I3, q2⟩) hf
  rcases l with ⟨hk, hm⟩ | ⟨hk, c, hc, hcell⟩
  · exact wpAny_loadName_local I.ok.kind hk hn hm go
  · rcases hk with hk | hk
    · exact wpAny_loadName_cell I.ok.kind hk hc hcell go
    · rcases hx with k | k
      · have : X.env.scope.names.lookup x = some .free := hk
        rw [k] at this; cases this
      · have : X.env.scope.names.lookup x = some .free := hk
        rw [k] at this; cases this
/-- o[i] op= e -/
def tAugS (to ti te : TE) (tget : V → V → Hp → VK → Prop) (tip : TIp) (tset : TSet) : TS := fun D σ H => to σ H fun o H1 => ti σ H1 fun i H2 => tget o i H2 fun x H3 => te σ H3 fun y H4 => tip x y H4 fun z H5 => tset o i z H5 fun H6 => D.nx σ H6
/-- o[i], by values -/
def PGet (X : Cx) (t : V → V → Hp → VK → Prop) : Prop :=
  ∀ (pins : List (Addr × Obj)) (s : Shared) (σ : St) (H : Hp) (o i : V) (ov iv : Value) (Q : VK), Inv X pins σ H s → RelV o ov → RelV i iv → t o i H Q →
    wpAny (model X.prog X.w) X.A (getItem ov iv) (EP X pins σ Q) X.xe s
theorem ps_augS {o i e : Expr} {to ti te : TE} {tget : V → V → Hp → VK → Prop} {tip : TIp} {tset : TSet} {op : Operator} {tpos : Pos} (ho : PE X o to) (hi : PE X i ti) (hg : PGet X tget) (he : PE X e te) (hp : PIp X op tip) (hs : PSet X tset)
    (ha : ∀ ov iv new, augStore i ov iv new = (do holding [new, ov, iv] (setItem ov iv new); release [new, ov, iv] []; pure .next) := by intros; rfl) : PS X (.AugAssign (.Subscript o i tpos) op e pos) (tAugS to ti te tget tip tset) := by
  intro pins s σ H D I h
  refine wpAny_AugAssign_SubscriptAny (thn (ho pins s σ H _ I h) fun ov s1 ⟨x1, H1, I1, r1, q1⟩ => ?_) ha
  refine thn (hi pins s1 σ H1 _ I1 q1) fun iv s2 ⟨x2, H2, I2, r2, q2⟩ => ?_
  refine thn (hg pins s2 σ H2 x1 x2 ov iv _ I2 r1 r2 q2) fun old s3 ⟨x3, H3, I3, r3, q3⟩ => ?_
  refine thn (he pins s3 σ H3 _ I3 q3) fun v s4 ⟨x4, H4, I4, r4, q4⟩ => ?_
  refine thn (hp pins s4 σ H4 x3 x4 old v _ I4 r3 r4 q4) fun new s5 ⟨x5, H5, I5, r5, q5⟩ => ?_
  exact thn (hs pins s5 σ H5 x1 x2 x5 ov iv new _ I5 r1 r2 r5 q5) fun _ s6 ⟨H6, I6, q6⟩ => ⟨σ, H6, I6, q6⟩
/-- ints -/
def ipI (f : Int → Int → Int) : TIp := fun x y H Q => ∃ i j, x = .int i ∧ y = .int j ∧ Q (.int (f i j)) H
theorem ip_add : PIp X .Add (ipI fun i j => i + j) := by
  intro pins s σ H x y v u Q I r1 r2 h
  obtain ⟨i, j, e1, e2, q⟩ := h
  subst e1; subst e2
  obtain ⟨t, rfl⟩ := r1
  obtain ⟨t', rfl⟩ := r2
  exact iadd_int ⟨.int _, H, I.tok _, ⟨_, rfl⟩, q⟩
theorem ip_sub : PIp X .Sub (ipI fun i j => i - j) := by
  intro pins s σ H x y v u Q I r1 r2 h
  obtain ⟨i, j, e1, e2, q⟩ := h
  subst e1; subst e2
  obtain ⟨t, rfl⟩ := r1
  obtain ⟨t', rfl⟩ := r2
  exact isub_int ⟨.int _, H, I.tok _, ⟨_, rfl⟩, q⟩
end

/-! ### while -/
section
variable {X : Cx} {pos : Pos}
/-- the invariant W with its measure -/
def tWhile (c : TT) (tb : TS) : TS := fun D σ H => ∃ W : Nat → St → Hp → Prop, (∃ m, W m σ H) ∧ ∀ m σ H, W m σ H →
  c σ H fun b H1 => if b = true then ∃ N : St → Hp → Prop, (∀ σ' H', N σ' H' → ∃ m', m' < m ∧ W m' σ' H') ∧ tb { D with nx := N, ct := N, bk := D.nx } σ H1 else D.nx σ H1
theorem ps_while {c : Expr} {body : List Stmt} {tc : TT} {tb : TS} (hp : PassesOwn (model X.prog X.w) X.A X.env X.xe) (hc : PT X c tc) (hb : PSs X body tb) : PS X (.While c body [] pos) (tWhile tc tb) := by
  intro pins s σ H D I h
  obtain ⟨W, ⟨m0, w0⟩, turn⟩ := h
  refine wpAny_While (codeAny_whileLoop (fun n s' => ∃ σ' H', Inv X pins σ' H' s' ∧ W n σ' H') ?_ m0 ⟨σ, H, I, w0⟩)
  rintro n s1 ⟨σ1, H1, I1, w1⟩
  refine wpAny_passesOwn hp (thn (hc pins s1 σ1 H1 _ I1 (turn n σ1 H1 w1)) fun b s2 ⟨H2, I2, q2⟩ => ?_)
  cases b with
  | true =>
    obtain ⟨N, hN, q2⟩ := q2
    rw [if_pos rfl]
    refine wpAny_passesOwn hp (thn (hb pins s2 σ1 H2 _ I2 q2) fun f s3 q3 => ?_)
    cases f with
    | next =>
      obtain ⟨σ3, H3, I3, n3⟩ := q3
      obtain ⟨m', hm, w3⟩ := hN σ3 H3 n3
      exact ⟨m', hm, σ3, H3, I3, w3⟩
    | cont =>
      obtain ⟨σ3, H3, I3, n3⟩ := q3
      obtain ⟨m', hm, w3⟩ := hN σ3 H3 n3
      exact ⟨m', hm, σ3, H3, I3, w3⟩
    | brk => exact q3
    | ret v => exact q3
  | false =>
    rw [if_neg Bool.false_ne_true]
    exact wpAny_execs_nil ⟨σ1, H2, I2, q2⟩
end

/-! ### what a loop or a comprehension walks -/
/-- at turn i: it yields x (the heap may grow), or it stops -/
structure It where
  go : Nat → Hp → Prop
  yld : Nat → Hp → V → Hp → Prop
  stop : Nat → Hp → Prop
/-- the iterator's own objects may turn: they are not the frame's, not pinned, younger than the entry (or a comprehension's own) -/
def FpOk (X : Cx) (pins : List (Addr × Obj)) (H : Hp) (b : Addr) : Prop :=
  H b = none ∧ b ≠ X.env.locals ∧ b ∉ X.fs ∧ (b ∈ X.ex ∨ X.s₀.heap.objs.size ≤ b) ∧ (∀ x c, X.env.cells.lookup x = some c → c ≠ b) ∧ ∀ p ∈ X.pn ++ pins, p.1 ≠ b
theorem Inv.fpOk {X : Cx} {pins : List (Addr × Obj)} {σ : St} {H H' : Hp} {s : Shared} {b : Addr} (I : Inv X pins σ H s) (hb : s.heap.objs.size ≤ b) (hn : H' b = none) : FpOk X pins H' b := by
  refine ⟨hn, Nat.ne_of_gt (Nat.lt_of_lt_of_le I.lt hb), I.nofs hb, .inr (Nat.le_trans I.sz hb), fun x c e z => ?_, fun p hp z => ?_⟩
  · obtain ⟨v, q⟩ := I.cell x c e
    exact absurd (Nat.lt_of_lt_of_le q.lt (by rw [z]; exact hb)) (Nat.lt_irrefl _)
  · exact absurd (Nat.lt_of_lt_of_le (Heap.lt_size (I.pin p hp).1) (by rw [z]; exact hb)) (Nat.lt_irrefl _)
structure Turn (P : Program) (w : World) (K : PySem.W.Frag) (tg : Expr) (J : It) (fp : List Addr) (it : Addr) (tn : Nat → Heap → Prop) : Prop where
  mem : it ∈ fp
  obj : ∀ i h, tn i h → ∀ b ∈ fp, ∃ o, h.get? b = some o ∧ ∀ v, o.data ≠ .cell v
  keep : ∀ i h h', tn i h → (∀ b ∈ fp, ∀ o, h.get? b = some o → h'.get? b = some o) → tn i h'
  item : ∀ (X : Cx), X.prog = P → X.w = w → X.K = K → X.calm = true → ∀ (i : Nat) (pins : List (Addr × Obj)) (s : Shared) (σ : St) (H : Hp) (E : Value → Shared → Prop), Inv X pins σ H s → (∀ b ∈ fp, FpOk X pins H b) → tn i s.heap → J.go i H →
    wpAny (model P w) X.A (pyNext (.ref it)) (fun r s1 => ∃ u, r = some u ∧
      wpAny (model P w) X.A (letOwnedTupleGo tg (.ref it) u) (fun _ s2 => ∃ x H', Inv X pins σ H' s2 ∧ RelV x u ∧ J.yld i H x H' ∧ tn (i + 1) s2.heap ∧ ∀ b ∈ fp, H' b = none) E s1) E s
  done : ∀ (X : Cx), X.prog = P → X.w = w → X.K = K → X.calm = true → ∀ (i : Nat) (pins : List (Addr × Obj)) (s : Shared) (σ : St) (H : Hp) (E : Value → Shared → Prop), Inv X pins σ H s → (∀ b ∈ fp, FpOk X pins H b) → tn i s.heap → J.stop i H →
    wpAny (model P w) X.A (pyNext (.ref it)) (fun r s1 => r = none ∧ Inv X pins σ H s1) E s
  self : ∀ (A : Around) (i : Nat) (s : Shared) (Q : Value → Shared → Prop) (E : Value → Shared → Prop), tn i s.heap → Q (.ref it) s → wpAny (model P w) A (pyIter (.ref it)) Q E s
abbrev TI := St → Hp → (It → Hp → Prop) → Prop
/-- an iterator has come -/
def PIE (X : Cx) (pins : List (Addr × Obj)) (σ : St) (tg : Expr) (R : It → Hp → Prop) (itv : Value) (s2 : Shared) : Prop :=
  ∃ (it : Addr) (fp : List Addr) (tn : Nat → Heap → Prop) (J : It) (H' : Hp), itv = .ref it ∧ Inv X pins σ H' s2 ∧ Turn X.prog X.w X.K tg J fp it tn ∧ tn 0 s2.heap ∧ (∀ b ∈ fp, FpOk X pins H' b) ∧ R J H'
def PI (X : Cx) (tg iter : Expr) (wi : TI) : Prop :=
  ∀ (pins : List (Addr × Obj)) (s : Shared) (σ : St) (H : Hp) (R : It → Hp → Prop), Inv X pins σ H s → wi σ H R →
    wpAny (model X.prog X.w) X.A (eval iter X.env) (fun v s1 => wpAny (model X.prog X.w) X.A (pyIter v) (PIE X pins σ tg R) X.xe s1) X.xe s

/-- the step ahead of the store is nothing for an iterator that keeps no tuple -/
theorem go_of {M : Model} {A : Around} {E : Value → Shared → Prop} {s : Shared} {tg : Expr} {it : Addr} {u : Value} {o : Obj} {n : String} {vs : Array Value} {Q : Unit → Shared → Prop} (ho : s.heap.get? it = some o) (hc : o.cls = .type n) (hd : o.data = .fields vs)
    (hn : ["enumerate", "zip", "dict_itemiterator", "dict_reverseitemiterator", "odict_iterator", "itertools.zip_longest", "itertools.pairwise"].contains n = false) (hQ : Q () s) : wpAny M A (letOwnedTupleGo tg (.ref it) u) Q E s := by
  unfold letOwnedTupleGo
  cases tg <;> first
    | exact wpAny_pure hQ
    | (cases u <;> first
        | exact wpAny_pure hQ
        | (refine wpAny_bind (wpAny_load ho ?_)
           rw [hc, hd]
           show wpAny M A (if (["enumerate", "zip", "dict_itemiterator", "dict_reverseitemiterator", "odict_iterator", "itertools.zip_longest", "itertools.pairwise"].contains n && vs[0]? == some (rawInt _)) = true then _ else _) Q E s
           rw [if_neg (by intro h; rw [hn, Bool.false_and] at h; cases h)]
           exact wpAny_pure hQ))

/-- the list at a, as it stands at each turn (a loop may append to it) -/
def Itl (K : PySem.W.Frag) (a : Addr) : It :=
  ⟨fun i H => ∃ xs x, SqL K H a xs ∧ xs[i]? = some x, fun i H x H' => H' = H ∧ ∀ xs, SqL K H a xs → xs[i]? = some x, fun i H => ∃ xs, SqL K H a xs ∧ xs.length ≤ i⟩
def Itt (K : PySem.W.Frag) (a : Addr) : It :=
  ⟨fun i H => ∃ xs x, SqT K H a xs ∧ xs[i]? = some x, fun i H x H' => H' = H ∧ ∀ xs, SqT K H a xs → xs[i]? = some x, fun i H => ∃ xs, SqT K H a xs ∧ xs.length ≤ i⟩
/-- lo, lo + 1, .. (n of them) -/
def Itr (lo : Int) (n : Nat) : It := ⟨fun i _ => i < n, fun i H x H' => H' = H ∧ x = .int (lo + i), fun i _ => n ≤ i⟩
theorem turn_list {P : Program} {w : World} {K : PySem.W.Frag} {tg : Expr} (a it : Addr) : Turn P w K tg (Itl K a) [it] it (fun i h => h.IsListIter it a i) where
  mem := by simp
  obj := fun i h st b hb => by
    have e : b = it := by simpa using hb
    subst e
    obtain ⟨o, e, c, d⟩ := st
    exact ⟨o, e, fun v z => by rw [d] at z; cases z⟩
  keep := fun i h h' st k => st.at fun o e => k it (by simp) o e
  item := by
    intro X hP hw hK hc i pins s σ H E I hf st hg
    subst hP hw hK
    obtain ⟨xs, x, hq, hx⟩ := hg
    obtain ⟨its, rv, p, hz⟩ := I.list hq
    obtain ⟨u, hu, ru⟩ := rv.get hx
    obtain ⟨f0, f1, f2, f3, f4, f5⟩ := hf it (by simp)
    refine wpAny_pyNext_list_item st p.isList (x := u) (by simpa using hu) fun h' st' sb => ?_
    have I1 : Inv X pins σ H { s with heap := h' } := I.turned (t' := s.toks) (fun b o hb e => (sb.2 b hb).trans e) f0 f1 f3 f4 f5
    obtain ⟨o, e, c, d⟩ := id st'
    exact ⟨u, rfl, go_of (s := { s with heap := h' }) e c d (by decide) ⟨x, H, I1, ru, ⟨rfl, fun ys hy => by rw [I.list_inj hy hq]; exact hx⟩, st', fun b hb => (hf b hb).1⟩⟩
  done := by
    intro X hP hw hK hc i pins s σ H E I hf st hg
    subst hP hw hK
    obtain ⟨xs, hq, hx⟩ := hg
    obtain ⟨its, rv, p, hz⟩ := I.list hq
    obtain ⟨f0, f1, f2, f3, f4, f5⟩ := hf it (by simp)
    have hl := rv.length
    exact wpAny_pyNext_list_end (I.ok.hd hc) st p.isList (by simp; omega) fun h' eb => ⟨rfl, I.turned (t' := s.toks) (fun b o hb e => eb b o hb e) f0 f1 f3 f4 f5⟩
  self := fun _ _ _ _ _ st h => wpAny_pyIter_listiter st h
theorem turn_tuple {P : Program} {w : World} {K : PySem.W.Frag} {tg : Expr} (a it : Addr) : Turn P w K tg (Itt K a) [it] it (fun i h => h.IsTupleIter it a i) where
  mem := by simp
  obj := fun i h st b hb => by
    have e : b = it := by simpa using hb
    subst e
    obtain ⟨o, e, c, d⟩ := st
    exact ⟨o, e, fun v z => by rw [d] at z; cases z⟩
  keep := fun i h h' st k => st.at fun o e => k it (by simp) o e
  item := by
    intro X hP hw hK hc i pins s σ H E I hf st hg
    subst hP hw hK
    obtain ⟨xs, x, hq, hx⟩ := hg
    obtain ⟨its, rv, p, hz⟩ := I.tuple hq
    obtain ⟨u, hu, ru⟩ := rv.get hx
    obtain ⟨f0, f1, f2, f3, f4, f5⟩ := hf it (by simp)
    refine wpAny_pyNext_tuple_item st (show s.heap.IsTuple a its.toArray from p) (x := u) (by simpa using hu) fun h' st' sb => ?_
    have I1 : Inv X pins σ H { s with heap := h' } := I.turned (t' := s.toks) (fun b o hb e => (sb.2 b hb).trans e) f0 f1 f3 f4 f5
    obtain ⟨o, e, c, d⟩ := id st'
    exact ⟨u, rfl, go_of (s := { s with heap := h' }) e c d (by decide) ⟨x, H, I1, ru, ⟨rfl, fun ys hy => by rw [I.tuple_inj hy hq]; exact hx⟩, st', fun b hb => (hf b hb).1⟩⟩
  done := by
    intro X hP hw hK hc i pins s σ H E I hf st hg
    subst hP hw hK
    obtain ⟨xs, hq, hx⟩ := hg
    obtain ⟨its, rv, p, hz⟩ := I.tuple hq
    obtain ⟨f0, f1, f2, f3, f4, f5⟩ := hf it (by simp)
    have hl := rv.length
    exact wpAny_pyNext_tuple_end (I.ok.hd hc) st (show s.heap.IsTuple a its.toArray from p) (by simp; omega) fun h' eb => ⟨rfl, I.turned (t' := s.toks) (fun b o hb e => eb b o hb e) f0 f1 f3 f4 f5⟩
  self := fun _ _ _ _ _ st h => wpAny_pyIter_tupleiter st h
theorem turn_range {P : Program} {w : World} {K : PySem.W.Frag} {tg : Expr} (it : Addr) (lo : Int) (n : Nat) : Turn P w K tg (Itr lo n) [it] it (fun i h => IsRangeIter h it (lo + (i : Nat) * 1) ((n : Int) - (i : Nat)) 1) where
  mem := by simp
  obj := fun i h st b hb => by
    have e : b = it := by simpa using hb
    subst e
    exact ⟨_, st, fun v z => by
      have z' : Data.fields _ = Data.cell v := z
      cases z'⟩
  keep := fun i h h' st k => k it (by simp) _ st
  item := by
    intro X hP hw hK hc i pins s σ H E I hf st hg
    subst hP hw hK
    obtain ⟨f0, f1, f2, f3, f4, f5⟩ := hf it (by simp)
    have W := Walks.range (prog := X.prog) (w := X.w) (I.ok.hd hc) it lo 1 n
    refine W.item i s _ _ hg st fun v h' tk hv st' kk => ?_
    obtain ⟨t, rfl⟩ := hv
    have I1 : Inv X pins σ H { s with heap := h', toks := tk } := I.turned (fun b o hb e => kk b o (by simpa using hb) e) f0 f1 f3 f4 f5
    refine ⟨_, rfl, go_of (s := { s with heap := h', toks := tk }) (n := "range_iterator") st' rfl rfl (by decide) ⟨.int (lo + i), H, I1, ⟨t, ?_⟩, ⟨rfl, rfl⟩, st', fun b hb => (hf b hb).1⟩⟩
    rw [Int.mul_one]
  done := by
    intro X hP hw hK hc i pins s σ H E I hf st hg
    subst hP hw hK
    obtain ⟨f0, f1, f2, f3, f4, f5⟩ := hf it (by simp)
    exact wpAny_pyNext_range_end (I.ok.hd hc) st (by have : n ≤ i := hg; omega) fun h' eb => ⟨rfl, I.turned (t' := s.toks) (fun b o hb e => eb b o hb e) f0 f1 f3 f4 f5⟩
  self := fun _ _ _ _ _ st h => wpAny_pyIter_rangeiter st h
end L2

namespace L2
open PySem PySem.Spec PyProof.Rows
section
variable {X : Cx} {tg : Expr}
def iList (K : PySem.W.Frag) (tl : TE) : TI := fun σ H R => tl σ H fun x H1 => ∃ a, x = .ref a ∧ (∃ xs, SqL K H1 a xs) ∧ R (Itl K a) H1
def iTup (K : PySem.W.Frag) (tl : TE) : TI := fun σ H R => tl σ H fun x H1 => ∃ a, x = .ref a ∧ (∃ xs, SqT K H1 a xs) ∧ R (Itt K a) H1
theorem pi_list {l : Expr} {tl : TE} (hl : PE X l tl) : PI X tg l (iList X.K tl) := by
  intro pins s σ H R I h
  refine thn (hl pins s σ H _ I h) fun v s1 ⟨x, H1, I1, r1, q1⟩ => ?_
  obtain ⟨a, e, ⟨xs, hq⟩, q⟩ := q1
  subst e
  cases r1
  obtain ⟨its, rv, p, hz⟩ := I1.list hq
  refine wpAny_pyIter_list p.isList ?_
  refine ⟨s1.heap.objs.size, [s1.heap.objs.size], _, _, H1, rfl, I1.kept (t' := s1.toks) fun b o e => Heap.get?_push_of_some _ e, turn_list a _, ⟨_, Heap.get?_push_size _ rfl, rfl, rfl⟩, fun b hb => ?_, q⟩
  have e : b = s1.heap.objs.size := by simpa using hb
  subst e
  exact I1.fpOk (Nat.le_refl _) (I1.hok.fresh (Nat.le_refl _))
theorem pi_tup {l : Expr} {tl : TE} (hl : PE X l tl) : PI X tg l (iTup X.K tl) := by
  intro pins s σ H R I h
  refine thn (hl pins s σ H _ I h) fun v s1 ⟨x, H1, I1, r1, q1⟩ => ?_
  obtain ⟨a, e, ⟨xs, hq⟩, q⟩ := q1
  subst e
  cases r1
  obtain ⟨its, rv, p, hz⟩ := I1.tuple hq
  refine wpAny_pyIter_tuple (show s1.heap.IsTuple a its.toArray from p) ?_
  refine ⟨s1.heap.objs.size, [s1.heap.objs.size], _, _, H1, rfl, I1.kept (t' := s1.toks) fun b o e => Heap.get?_push_of_some _ e, turn_tuple a _, ⟨_, Heap.get?_push_size _ rfl, rfl, rfl⟩, fun b hb => ?_, q⟩
  have e : b = s1.heap.objs.size := by simpa using hb
  subst e
  exact I1.fpOk (Nat.le_refl _) (I1.hok.fresh (Nat.le_refl _))
/-- a range object just made, walked -/
theorem range_it {pins : List (Addr × Obj)} {σ : St} {H : Hp} {s : Shared} {R : It → Hp → Prop} {E : Value → Shared → Prop} {lo hi : Int} {t u v : Tok} {tk : Nat} (I : Inv X pins σ H s) (h1 : -(2 ^ 62) ≤ lo) (h2 : lo < 2 ^ 62) (h3 : -(2 ^ 62) ≤ hi) (h4 : hi < 2 ^ 62)
    (q : R (Itr lo (hi - lo).toNat) H) : wpAny (model X.prog X.w) X.A (pyIter (.ref s.heap.objs.size)) (PIE X pins σ tg R) E { s with heap := s.heap.push { cls := .type "range", data := .fields #[.int lo t, .int hi u, .int 1 v] }, toks := tk } := by
  refine wpAny_pyIter_range (IsRange.new ..) (small_one h1 h2 h3 h4) ?_
  have I1 : Inv X pins σ H { s with heap := s.heap.push { cls := .type "range", data := .fields #[.int lo t, .int hi u, .int 1 v] }, toks := tk } := I.kept fun b o e => Heap.get?_push_of_some _ e
  refine ⟨(s.heap.push { cls := .type "range", data := .fields #[.int lo t, .int hi u, .int 1 v] }).objs.size, [(s.heap.push { cls := .type "range", data := .fields #[.int lo t, .int hi u, .int 1 v] }).objs.size], _, _, H, rfl,
    I1.kept (t' := tk) fun b o e => Heap.get?_push_of_some _ e, turn_range _ lo (hi - lo).toNat, ?_, fun b hb => ?_, q⟩
  · have e1 : lo + ((0 : Nat) : Int) * 1 = lo := by simp
    have e2 : (((hi - lo).toNat : Nat) : Int) - ((0 : Nat) : Int) = Builtin.Range.rangeSize lo hi 1 := by rw [rangeSize_one]; split <;> omega
    show IsRangeIter _ _ (lo + ((0 : Nat) : Int) * 1) ((((hi - lo).toNat : Nat) : Int) - ((0 : Nat) : Int)) 1
    rw [e1, e2]
    exact Heap.get?_push_size _ rfl
  · have e : b = (s.heap.push { cls := .type "range", data := .fields #[.int lo t, .int hi u, .int 1 v] }).objs.size := by simpa using hb
    subst e
    exact I1.fpOk (Nat.le_refl _) (I1.hok.fresh (Nat.le_refl _))
def iRng1 (ta : TA) : TI := fun σ H R => ta σ H fun vs H1 => ∃ j : Int, vs = [.int j] ∧ -(2 ^ 62) ≤ j ∧ j < 2 ^ 62 ∧ R (Itr 0 j.toNat) H1
def iRng2 (ta : TA) : TI := fun σ H R => ta σ H fun vs H1 => ∃ i j : Int, vs = [.int i, .int j] ∧ (-(2 ^ 62) ≤ i ∧ i < 2 ^ 62 ∧ -(2 ^ 62) ≤ j ∧ j < 2 ^ 62) ∧ R (Itr i (j - i).toNat) H1
theorem pi_range1 {a : Expr} {ta : TA} {p pos : Pos} (hg : Gl X "range") (hm : X.mg "range" = none) (ha : PA X [a] ta) (hs : starEach [a] X.env = [(false, eval a X.env)] := by rfl) : PI X tg (.Call (.Name "range" p) [a] [] pos) (iRng1 ta) := by
  intro pins s σ H R I h
  refine Call_ (ld_blt I hg hm boot_range (PyProof.Rows.callWith_type1 (thn (ha pos pins s σ H _ I h) fun us s1 ⟨vs, H1, I1, r1, q1⟩ => ?_) hs rfl))
  obtain ⟨j, e, q1, q2, q⟩ := q1
  subst e
  cases r1 with
  | cons r rr =>
    cases rr
    obtain ⟨t, rfl⟩ := r
    exact call_range_1 (range_it I1 (by omega) (by omega) q1 q2 (by simpa using q))
theorem pi_range2 {a b : Expr} {ta : TA} {p pos : Pos} (hg : Gl X "range") (hm : X.mg "range" = none) (ha : PA X [a, b] ta) (hs : starEach [a, b] X.env = [(false, eval a X.env), (false, eval b X.env)] := by rfl) (hs2 : starEach [b] X.env = [(false, eval b X.env)] := by rfl) :
    PI X tg (.Call (.Name "range" p) [a, b] [] pos) (iRng2 ta) := by
  intro pins s σ H R I h
  refine Call_ (ld_blt I hg hm boot_range (PyProof.Rows.callWith_type1 (thn (ha pos pins s σ H _ I h) fun us s1 ⟨vs, H1, I1, r1, q1⟩ => ?_) (by rw [hs, hs2]) (by rw [hs2]; rfl)))
  obtain ⟨i, j, e, ⟨q1, q2, q3, q4⟩, q⟩ := q1
  subst e
  cases r1 with
  | cons r rr =>
    cases rr with
    | cons r' rr =>
      cases rr
      obtain ⟨t, rfl⟩ := r
      obtain ⟨t', rfl⟩ := r'
      exact call_range_2 (range_it I1 q1 q2 q3 q4 q)

/-! ### for -/
/-- W: the invariant by the turn and a measure; N: what the body is to reach -/
def tFor (wi : TI) (g : TG) (tb : TS) : TS := fun D σ H => wi σ H fun J H1 => ∃ W : Nat → Nat → St → Hp → Prop, (∃ m, W 0 m σ H1) ∧ ∀ i m σ H, W i m σ H →
  (J.stop i H ∧ D.nx σ H) ∨ (J.go i H ∧ ∃ N : St → Hp → Prop, (∀ σ' H', N σ' H' → ∃ m', m' < m ∧ W (i + 1) m' σ' H') ∧ ∀ x H', J.yld i H x H' → g x σ H' fun σ2 H2 => tb { D with nx := N, ct := N, bk := D.nx } σ2 H2)
/-- the records at fp as they stand -/
def pinsAt (fp : List Addr) (h : Heap) : List (Addr × Obj) := fp.filterMap fun b => (h.get? b).map fun o => (b, o)
theorem mem_pinsAt {fp : List Addr} {h : Heap} {b : Addr} {o : Obj} (hb : b ∈ fp) (e : h.get? b = some o) : (b, o) ∈ pinsAt fp h := List.mem_filterMap.mpr ⟨b, hb, by rw [e]; rfl⟩
theorem of_pinsAt {fp : List Addr} {h : Heap} {p : Addr × Obj} (hp : p ∈ pinsAt fp h) : p.1 ∈ fp ∧ h.get? p.1 = some p.2 := by
  obtain ⟨b, hb, e⟩ := List.mem_filterMap.mp hp
  cases q : h.get? b with
  | none => rw [q] at e; cases e
  | some o =>
    rw [q] at e
    have e' : (b, o) = p := Option.some.inj e
    subst e'
    exact ⟨hb, q⟩
theorem Inv.pinned {pins : List (Addr × Obj)} {σ : St} {H : Hp} {s : Shared} {fp : List Addr} (I : Inv X pins σ H s) (hf : ∀ b ∈ fp, FpOk X pins H b) (ho : ∀ b ∈ fp, ∃ o, s.heap.get? b = some o ∧ ∀ v, o.data ≠ .cell v) : Inv X (pins ++ pinsAt fp s.heap) σ H s :=
  I.pins_of fun p hp => (List.mem_append.mp hp).elim (fun z => I.pin p (List.mem_append_right _ z)) fun z => by
    obtain ⟨hb, e⟩ := of_pinsAt z
    obtain ⟨f0, f1, f2, _⟩ := hf p.1 hb
    obtain ⟨o, e', d⟩ := ho p.1 hb
    rw [e] at e'; cases e'
    exact ⟨e, f0, f1, f2, d⟩
theorem Inv.unpinned {pins pl : List (Addr × Obj)} {σ : St} {H : Hp} {s : Shared} (I : Inv X (pins ++ pl) σ H s) : Inv X pins σ H s := I.pins_of fun p hp => I.pin p (List.mem_append_right _ (List.mem_append_left _ hp))
theorem ps_for {iter : Expr} {body : List Stmt} {wi : TI} {g : TG} {tb : TS} {pos : Pos} (hp : PassesOwn (model X.prog X.w) X.A X.env X.xe) (hc : X.calm = true) (hi : PI X tg iter wi) (hg : PG X tg g) (hb : PSs X body tb)
    (hs : ∀ x, foldedSetIterable iter X.env x = pure x := by intro _; rfl) : PS X (.For tg iter body [] pos) (tFor wi g tb) := by
  intro pins s σ H D I h
  refine wpAny_For (thn (hi pins s σ H _ I h) fun v s1 h1 => thn h1 fun itv s2 h2 => ?_) hs
  obtain ⟨it, fp, tn, J, H2, e, I2, T, st2, f2, W, ⟨m0, w0⟩, turn⟩ := h2
  subst e
  -- what stays true of the iterator's objects through the loop
  have stat : ∀ {H' : Hp}, (∀ b ∈ fp, H' b = none) → ∀ b ∈ fp, FpOk X pins H' b := fun hn b hb => ⟨hn b hb, (f2 b hb).2⟩
  refine codeAny_forLoop_any (fun n s' => ∃ i σ' H', Inv X pins σ' H' s' ∧ tn i s'.heap ∧ (∀ b ∈ fp, H' b = none) ∧ W i n σ' H') ?_ m0 ⟨0, σ, H2, I2, st2, fun b hb => (f2 b hb).1, w0⟩
  rintro n s3 ⟨i, σ3, H3, I3, st3, fr3, w3⟩
  rcases turn i n σ3 H3 w3 with ⟨stop, qn⟩ | ⟨go, N, hN, step⟩
  · refine wpAny_passesOwn hp (thn (T.done X rfl rfl rfl hc i pins s3 σ3 H3 X.xe I3 (stat fr3) st3 stop) fun r s4 ⟨hr, I4⟩ => ?_)
    subst hr
    exact wpAny_execs_nil ⟨σ3, H3, I4, qn⟩
  · refine wpAny_passesOwn hp (thn (T.item X rfl rfl rfl hc i pins s3 σ3 H3 X.xe I3 (stat fr3) st3 go) fun r s4 ⟨u, hr, h4⟩ => ?_)
    subst hr
    refine wpAny_passesOwn hp (thn h4 fun _ s5 ⟨x, H5, I5, r5, y5, st5, fr5⟩ => ?_)
    have I5' := I5.pinned (stat fr5) (T.obj _ _ st5)
    refine wpAny_passesOwn hp (thn (hg _ s5 σ3 H5 x u _ I5' r5 (step x H5 y5)) fun _ s6 ⟨σ6, H6, I6, q6⟩ => ?_)
    refine wpAny_passesOwn hp (thn (hb _ s6 σ6 H6 _ I6 q6) fun f s7 q7 => ?_)
    have again : ∀ {σ7 : St} {H7 : Hp}, Inv X (pins ++ pinsAt fp s5.heap) σ7 H7 s7 → N σ7 H7 → ∃ m, m < n ∧ ∃ i σ' H', Inv X pins σ' H' s7 ∧ tn i s7.heap ∧ (∀ b ∈ fp, H' b = none) ∧ W i m σ' H' := fun {σ7 H7} I7 n7 => by
      obtain ⟨m', hm, w7⟩ := hN σ7 H7 n7
      refine ⟨m', hm, i + 1, σ7, H7, I7.unpinned, T.keep _ _ _ st5 fun b hb o e => (I7.pin (b, o) (List.mem_append_right _ (List.mem_append_right _ (mem_pinsAt hb e)))).1, fun b hb => ?_, w7⟩
      obtain ⟨o, e, d⟩ := T.obj _ _ st5 b hb
      exact (I7.pin (b, o) (List.mem_append_right _ (List.mem_append_right _ (mem_pinsAt hb e)))).2.1
    cases f with
    | next => obtain ⟨σ7, H7, I7, n7⟩ := q7; exact again I7 n7
    | cont => obtain ⟨σ7, H7, I7, n7⟩ := q7; exact again I7 n7
    | brk => obtain ⟨σ7, H7, I7, q7⟩ := q7; exact ⟨σ7, H7, I7.unpinned, q7⟩
    | ret v => obtain ⟨x7, σ7, H7, I7, r7, q7⟩ := q7; exact ⟨x7, σ7, H7, I7.unpinned, r7, q7⟩
end

/-! ### the forms one uses -/
/-- over a list that the body leaves as it is -/
theorem for_list {K : PySem.W.Frag} {a : Addr} {xs : List V} {g : TG} {tb : TS} {D : Ends} {σ : St} {H : Hp} (Pv : Nat → St → Hp → Prop) (h0 : Pv 0 σ H) (hl : ∀ i σ H, i ≤ xs.length → Pv i σ H → SqL K H a xs)
    (hs : ∀ i x σ H, xs[i]? = some x → Pv i σ H → g x σ H fun σ2 H2 => tb { D with nx := Pv (i + 1), ct := Pv (i + 1), bk := D.nx } σ2 H2) (hd : ∀ σ H, Pv xs.length σ H → D.nx σ H) :
    ∃ W : Nat → Nat → St → Hp → Prop, (∃ m, W 0 m σ H) ∧ ∀ i m σ H, W i m σ H →
      ((Itl K a).stop i H ∧ D.nx σ H) ∨ ((Itl K a).go i H ∧ ∃ N : St → Hp → Prop, (∀ σ' H', N σ' H' → ∃ m', m' < m ∧ W (i + 1) m' σ' H') ∧ ∀ x H', (Itl K a).yld i H x H' → g x σ H' fun σ2 H2 => tb { D with nx := N, ct := N, bk := D.nx } σ2 H2) := by
  refine ⟨fun i m σ H => m = xs.length - i ∧ i ≤ xs.length ∧ Pv i σ H, ⟨xs.length, by simp, Nat.zero_le _, h0⟩, ?_⟩
  rintro i m σ H ⟨rfl, hi, p⟩
  have q := hl i σ H hi p
  by_cases hlt : i < xs.length
  · refine .inr ⟨⟨xs, xs[i], q, by simp [hlt]⟩, Pv (i + 1), fun σ' H' p' => ⟨xs.length - (i + 1), by omega, rfl, hlt, p'⟩, fun x H' y => ?_⟩
    obtain ⟨e, y⟩ := y
    subst e
    exact hs i x σ _ (y xs q) p
  · have e : i = xs.length := by omega
    subst e
    exact .inl ⟨⟨xs, q, Nat.le_refl _⟩, hd σ H p⟩
theorem for_tup {K : PySem.W.Frag} {a : Addr} {xs : List V} {g : TG} {tb : TS} {D : Ends} {σ : St} {H : Hp} (Pv : Nat → St → Hp → Prop) (h0 : Pv 0 σ H) (hl : ∀ i σ H, i ≤ xs.length → Pv i σ H → SqT K H a xs)
    (hs : ∀ i x σ H, xs[i]? = some x → Pv i σ H → g x σ H fun σ2 H2 => tb { D with nx := Pv (i + 1), ct := Pv (i + 1), bk := D.nx } σ2 H2) (hd : ∀ σ H, Pv xs.length σ H → D.nx σ H) :
    ∃ W : Nat → Nat → St → Hp → Prop, (∃ m, W 0 m σ H) ∧ ∀ i m σ H, W i m σ H →
      ((Itt K a).stop i H ∧ D.nx σ H) ∨ ((Itt K a).go i H ∧ ∃ N : St → Hp → Prop, (∀ σ' H', N σ' H' → ∃ m', m' < m ∧ W (i + 1) m' σ' H') ∧ ∀ x H', (Itt K a).yld i H x H' → g x σ H' fun σ2 H2 => tb { D with nx := N, ct := N, bk := D.nx } σ2 H2) := by
  refine ⟨fun i m σ H => m = xs.length - i ∧ i ≤ xs.length ∧ Pv i σ H, ⟨xs.length, by simp, Nat.zero_le _, h0⟩, ?_⟩
  rintro i m σ H ⟨rfl, hi, p⟩
  have q := hl i σ H hi p
  by_cases hlt : i < xs.length
  · refine .inr ⟨⟨xs, xs[i], q, by simp [hlt]⟩, Pv (i + 1), fun σ' H' p' => ⟨xs.length - (i + 1), by omega, rfl, hlt, p'⟩, fun x H' y => ?_⟩
    obtain ⟨e, y⟩ := y
    subst e
    exact hs i x σ _ (y xs q) p
  · have e : i = xs.length := by omega
    subst e
    exact .inl ⟨⟨xs, q, Nat.le_refl _⟩, hd σ H p⟩
theorem for_range {lo : Int} {n : Nat} {g : TG} {tb : TS} {D : Ends} {σ : St} {H : Hp} (Pv : Nat → St → Hp → Prop) (h0 : Pv 0 σ H)
    (hs : ∀ i σ H, i < n → Pv i σ H → g (.int (lo + i)) σ H fun σ2 H2 => tb { D with nx := Pv (i + 1), ct := Pv (i + 1), bk := D.nx } σ2 H2) (hd : ∀ σ H, Pv n σ H → D.nx σ H) :
    ∃ W : Nat → Nat → St → Hp → Prop, (∃ m, W 0 m σ H) ∧ ∀ i m σ H, W i m σ H →
      ((Itr lo n).stop i H ∧ D.nx σ H) ∨ ((Itr lo n).go i H ∧ ∃ N : St → Hp → Prop, (∀ σ' H', N σ' H' → ∃ m', m' < m ∧ W (i + 1) m' σ' H') ∧ ∀ x H', (Itr lo n).yld i H x H' → g x σ H' fun σ2 H2 => tb { D with nx := N, ct := N, bk := D.nx } σ2 H2) := by
  refine ⟨fun i m σ H => m = n - i ∧ i ≤ n ∧ Pv i σ H, ⟨n, by simp, Nat.zero_le _, h0⟩, ?_⟩
  rintro i m σ H ⟨rfl, hi, p⟩
  by_cases hlt : i < n
  · refine .inr ⟨hlt, Pv (i + 1), fun σ' H' p' => ⟨n - (i + 1), by omega, rfl, hlt, p'⟩, fun x H' y => ?_⟩
    obtain ⟨e, y⟩ := y
    subst e y
    exact hs i σ _ hlt p
  · have e : i = n := by omega
    subst e
    exact .inl ⟨Nat.le_refl _, hd σ H p⟩
/-- while, by a word and a measure of the state -/
theorem while_by {c : TT} {tb : TS} {D : Ends} {σ : St} {H : Hp} (Pv : St → Hp → Prop) (μ : St → Hp → Nat) (h0 : Pv σ H)
    (hs : ∀ σ H, Pv σ H → c σ H fun b H1 => if b = true then tb { D with nx := fun σ' H' => Pv σ' H' ∧ μ σ' H' < μ σ H, ct := fun σ' H' => Pv σ' H' ∧ μ σ' H' < μ σ H, bk := D.nx } σ H1 else D.nx σ H1)
    (mono : ∀ σ H Q Q', (∀ b H1, Q b H1 → Q' b H1) → c σ H Q → c σ H Q') : tWhile c tb D σ H := by
  refine ⟨fun m σ H => m = μ σ H ∧ Pv σ H, ⟨_, rfl, h0⟩, ?_⟩
  rintro m σ H ⟨rfl, p⟩
  refine mono σ H _ _ (fun b H1 q => ?_) (hs σ H p)
  cases b with
  | true => exact ⟨_, fun σ' H' ⟨p', l⟩ => ⟨_, l, rfl, p'⟩, q⟩
  | false => exact q
end L2

namespace L2
open PySem PySem.Spec PyProof.Rows

abbrev R2 := V → V → Hp → VK → Prop
/-- a two-place operation on values: f is binaryOp op, inplaceOp op or compareOp op -/
def OpR (X : Cx) (f : Value → Value → Sem Value) (r : R2) : Prop :=
  ∀ (pins : List (Addr × Obj)) (s : Shared) (σ : St) (H : Hp) (x y : V) (v u : Value) (Q : VK), Inv X pins σ H s → RelV x v → RelV y u → r x y H Q →
    wpAny (model X.prog X.w) X.A (f v u) (EP X pins σ Q) X.xe s
/-- a one-place operation -/
def UnR (X : Cx) (f : Value → Sem Value) (r : V → Hp → VK → Prop) : Prop :=
  ∀ (pins : List (Addr × Obj)) (s : Shared) (σ : St) (H : Hp) (x : V) (v : Value) (Q : VK), Inv X pins σ H s → RelV x v → r x H Q →
    wpAny (model X.prog X.w) X.A (f v) (EP X pins σ Q) X.xe s
/-- a call of a value that is known (a builtin, a type) with values -/
def CallR (X : Cx) (f : Value) (r : List V → Hp → VK → Prop) : Prop :=
  ∀ (pins : List (Addr × Obj)) (s : Shared) (σ : St) (H : Hp) (xs : List V) (us : List Value) (Q : VK), Inv X pins σ H s → Vals xs us → r xs H Q →
    wpAny (model X.prog X.w) X.A (call f us) (EP X pins σ Q) X.xe s
/-- a value's truth -/
def TruR (X : Cx) (r : V → Hp → (Bool → Hp → Prop) → Prop) : Prop :=
  ∀ (pins : List (Addr × Obj)) (s : Shared) (σ : St) (H : Hp) (x : V) (v : Value) (Q : Bool → Hp → Prop), Inv X pins σ H s → RelV x v → r x H Q →
    wpAny (model X.prog X.w) X.A (truthy v) (TP X pins σ Q) X.xe s

def tOp (r : R2) (ta tb : TE) : TE := fun σ H Q => ta σ H fun x H1 => tb σ H1 fun y H2 => r x y H2 Q
def tUn (r : V → Hp → VK → Prop) (ta : TE) : TE := fun σ H Q => ta σ H fun x H1 => r x H1 Q
/-- ints in, under C, and a value out -/
def rI (C : Int → Int → Prop) (g : Int → Int → V) : R2 := fun x y H Q => ∃ i j, x = .int i ∧ y = .int j ∧ C i j ∧ Q (g i j) H
def rI0 (g : Int → Int → V) : R2 := fun x y H Q => ∃ i j, x = .int i ∧ y = .int j ∧ Q (g i j) H
def rU (g : Int → V) : V → Hp → VK → Prop := fun x H Q => ∃ i, x = .int i ∧ Q (g i) H

section
variable {X : Cx} {a b c : Expr} {ta tb tc : TE} {pos : Pos}

theorem binT (ha : PE X a ta) (hb : PE X b tb) {pins : List (Addr × Obj)} {s : Shared} {σ : St} {H : Hp} {R : V → V → Hp → Prop} (I : Inv X pins σ H s)
    (h : ta σ H fun x H1 => tb σ H1 fun y H2 => R x y H2) {Q : Value → Shared → Prop} {f : Value → Value → Sem Value}
    (hf : ∀ v u s2 x y H2, Inv X pins σ H2 s2 → RelV x v → RelV y u → R x y H2 → wpAny (model X.prog X.w) X.A (f v u) Q X.xe s2) :
    wpAny (model X.prog X.w) X.A (eval a X.env) (fun v s₁ => wpAny (model X.prog X.w) X.A (eval b X.env) (fun u s₂ => wpAny (model X.prog X.w) X.A (f v u) Q X.xe s₂) X.xe s₁) X.xe s := by
  refine thn (ha pins s σ H _ I h) fun v s1 ⟨x, H1, I1, r1, q1⟩ => ?_
  refine thn (hb pins s1 σ H1 _ I1 q1) fun u s2 ⟨y, H2, I2, r2, q2⟩ => ?_
  exact hf v u s2 x y H2 I2 r1 r2 q2

theorem pe_op {op : Operator} {r : R2} (ho : OpR X (binaryOp op) r) (ha : PE X a ta) (hb : PE X b tb) : PE X (.BinOp a op b pos) (tOp r ta tb) := by
  intro pins s σ H Q I h
  exact wpAny_BinOp (binT ha hb I h fun v u s2 x y H2 I2 rx ry q => ho pins s2 σ H2 x y v u Q I2 rx ry q)
theorem pe_un {op : UnaryOp} {r : V → Hp → VK → Prop} (ho : UnR X (unaryOp op) r) (ha : PE X a ta) : PE X (.UnaryOp op a pos) (tUn r ta) := by
  intro pins s σ H Q I h
  exact UnaryOp_ (thn (ha pins s σ H _ I h) fun v s1 ⟨x, H1, I1, r1, q1⟩ => ho pins s1 σ H1 x v Q I1 r1 q1)
/-- a op= e at a name: the name's slot i -/
theorem augR {op : Operator} {r : R2} (ho : OpR X (inplaceOp op) r) {pins : List (Addr × Obj)} {s : Shared} {σ : St} {H : Hp} {x y : V} {v u : Value} {Q : VK} (I : Inv X pins σ H s)
    (rx : RelV x v) (ry : RelV y u) (q : r x y H Q) : wpAny (model X.prog X.w) X.A (inplaceOp op v u) (EP X pins σ Q) X.xe s := ho pins s σ H x y v u Q I rx ry q

/-! ### ints -/
theorem opI {f : Value → Value → Sem Value} {C : Int → Int → Prop} {g : Int → Int → Int}
    (rule : ∀ (i j : Int) (t u : Tok) (s : Shared) (Q : Value → Shared → Prop) (E : Value → Shared → Prop), C i j → Q (.int (g i j) s.toks) { s with toks := s.toks + 1 } → wpAny (model X.prog X.w) X.A (f (.int i t) (.int j u)) Q E s) :
    OpR X f (rI C fun i j => .int (g i j)) := by
  intro pins s σ H x y v u Q I rx ry h
  obtain ⟨i, j, rfl, rfl, hc, q⟩ := h
  obtain ⟨t, rfl⟩ := rx
  obtain ⟨t', rfl⟩ := ry
  exact rule i j t t' s _ _ hc ⟨.int (g i j), H, I.tok _, ⟨_, rfl⟩, q⟩
theorem opI0 {f : Value → Value → Sem Value} {g : Int → Int → Int}
    (rule : ∀ (i j : Int) (t u : Tok) (s : Shared) (Q : Value → Shared → Prop) (E : Value → Shared → Prop), Q (.int (g i j) s.toks) { s with toks := s.toks + 1 } → wpAny (model X.prog X.w) X.A (f (.int i t) (.int j u)) Q E s) :
    OpR X f (rI0 fun i j => .int (g i j)) := by
  intro pins s σ H x y v u Q I rx ry h
  obtain ⟨i, j, rfl, rfl, q⟩ := h
  obtain ⟨t, rfl⟩ := rx
  obtain ⟨t', rfl⟩ := ry
  exact rule i j t t' s _ _ ⟨.int (g i j), H, I.tok _, ⟨_, rfl⟩, q⟩
theorem opB0 {f : Value → Value → Sem Value} {g : Int → Int → Bool}
    (rule : ∀ (i j : Int) (t u : Tok) (s : Shared) (Q : Value → Shared → Prop) (E : Value → Shared → Prop), Q (.bool (g i j)) s → wpAny (model X.prog X.w) X.A (f (.int i t) (.int j u)) Q E s) :
    OpR X f (rI0 fun i j => .bl (g i j)) := by
  intro pins s σ H x y v u Q I rx ry h
  obtain ⟨i, j, rfl, rfl, q⟩ := h
  obtain ⟨t, rfl⟩ := rx
  obtain ⟨t', rfl⟩ := ry
  exact rule i j t t' s _ _ ⟨.bl (g i j), H, I, rfl, q⟩

def CDiv (i j : Int) : Prop := 0 < j ∧ j < 1073741824
def CDivN (i j : Int) : Prop := j ≠ 0 ∧ j.natAbs < 1073741824
def CPow (i j : Int) : Prop := 0 ≤ j ∧ j ≤ 1000000 ∧ i.natAbs < 2 ^ 64
def CMul (i j : Int) : Prop := (-(2 ^ 64) < i ∧ i < 2 ^ 64) ∨ (-(2 ^ 64) < j ∧ j < 2 ^ 64)
theorem CMul.ok {i j : Int} (h : CMul i j) : IntMulOk i j := by
  rcases h with ⟨h1, h2⟩ | ⟨h1, h2⟩
  · exact .of_left (intBits_le_64 h1 h2)
  · exact .of_right (intBits_le_64 h1 h2)
theorem two_pow_nn (k : Nat) : (0 : Int) ≤ 2 ^ k := by
  rw [two_pow_cast]
  exact Int.natCast_nonneg _

theorem op_add : OpR X (binaryOp .Add) (rI0 fun i j => .int (i + j)) := opI0 fun _ _ _ _ _ _ _ q => add_int q
theorem op_sub : OpR X (binaryOp .Sub) (rI0 fun i j => .int (i - j)) := opI0 fun _ _ _ _ _ _ _ q => sub_int q
theorem op_mul : OpR X (binaryOp .Mult) (rI CMul fun i j => .int (i * j)) := opI fun _ _ _ _ _ _ _ hc q => mul_int q hc.ok
/-- // by a positive divisor -/
theorem op_fdiv : OpR X (binaryOp .FloorDiv) (rI CDiv fun i j => .int (i / j)) := opI fun i j _ _ _ _ _ hc q => by
  have h1 : (0 : Int) < j := hc.1
  have h2 : j < 1073741824 := hc.2
  exact floordiv_int (by omega) (by rw [Int.fdiv_eq_ediv_of_nonneg i (by omega)]; exact q) (.inl (PyProof.noPylong_small (by omega)))
theorem op_fdivN : OpR X (binaryOp .FloorDiv) (rI CDivN fun i j => .int (i.fdiv j)) := opI fun _ _ _ _ _ _ _ hc q => floordiv_int hc.1 q (.inl (PyProof.noPylong_small hc.2))
/-- % by a positive divisor of any size -/
theorem op_mod : OpR X (binaryOp .Mod) (rI (fun _ j => 0 < j) fun i j => .int (i % j)) := opI fun i j _ _ _ _ _ hc q => by
  have h1 : (0 : Int) < j := hc
  exact mod_int' (by omega) (by rw [Int.fmod_eq_emod_of_nonneg i (by omega)]; exact q)
theorem op_modN : OpR X (binaryOp .Mod) (rI (fun _ j => j ≠ 0) fun i j => .int (i.fmod j)) := opI fun _ _ _ _ _ _ _ hc q => mod_int' hc q
theorem op_pow : OpR X (binaryOp .Pow) (rI CPow fun i j => .int (i ^ j.toNat)) := opI fun _ _ _ _ _ _ _ hc q => pow_int_small hc.1 hc.2.1 hc.2.2 q
theorem op_shl : OpR X (binaryOp .LShift) (rI CPow fun i j => .int (i * 2 ^ j.toNat)) := opI fun _ _ _ _ _ _ _ hc q => lshift_int_small hc.1 hc.2.1 hc.2.2 q
theorem op_shr : OpR X (binaryOp .RShift) (rI (fun _ j => 0 ≤ j) fun i j => .int (i / 2 ^ j.toNat)) := opI fun i j _ _ _ _ _ hc q =>
  rshift_int hc (by rw [Int.fdiv_eq_ediv_of_nonneg i (two_pow_nn _)]; exact q)
theorem op_and : OpR X (binaryOp .BitAnd) (rI0 fun i j => .int (Builtin.bitAnd i j)) := opI0 fun _ _ _ _ _ _ _ q => and_int q
theorem op_or : OpR X (binaryOp .BitOr) (rI0 fun i j => .int (Builtin.bitOr i j)) := opI0 fun _ _ _ _ _ _ _ q => or_int q
theorem op_xor : OpR X (binaryOp .BitXor) (rI0 fun i j => .int (Builtin.bitXor i j)) := opI0 fun _ _ _ _ _ _ _ q => xor_int q

theorem iop_add : OpR X (inplaceOp .Add) (rI0 fun i j => .int (i + j)) := opI0 fun _ _ _ _ _ _ _ q => iadd_int q
theorem iop_sub : OpR X (inplaceOp .Sub) (rI0 fun i j => .int (i - j)) := opI0 fun _ _ _ _ _ _ _ q => isub_int q
theorem iop_mul : OpR X (inplaceOp .Mult) (rI CMul fun i j => .int (i * j)) := opI fun _ _ _ _ _ _ _ hc q => imul_int q hc.ok
theorem iop_fdiv : OpR X (inplaceOp .FloorDiv) (rI CDiv fun i j => .int (i / j)) := opI fun i j _ _ _ _ _ hc q => by
  have h1 : (0 : Int) < j := hc.1
  have h2 : j < 1073741824 := hc.2
  exact ifloordiv_int (by omega) (by rw [Int.fdiv_eq_ediv_of_nonneg i (by omega)]; exact q) (.inl (PyProof.noPylong_small (by omega)))
theorem iop_mod : OpR X (inplaceOp .Mod) (rI (fun _ j => 0 < j) fun i j => .int (i % j)) := opI fun i j _ _ _ _ _ hc q => by
  have h1 : (0 : Int) < j := hc
  exact imod_int (by omega) (by rw [Int.fmod_eq_emod_of_nonneg i (by omega)]; exact q)
theorem iop_shl : OpR X (inplaceOp .LShift) (rI CPow fun i j => .int (i * 2 ^ j.toNat)) := opI fun _ _ _ _ _ _ _ hc q => ilshift_int_small hc.1 hc.2.1 hc.2.2 q
theorem iop_shr : OpR X (inplaceOp .RShift) (rI (fun _ j => 0 ≤ j) fun i j => .int (i / 2 ^ j.toNat)) := opI fun i j _ _ _ _ _ hc q =>
  irshift_int hc (by rw [Int.fdiv_eq_ediv_of_nonneg i (two_pow_nn _)]; exact q)
theorem iop_and : OpR X (inplaceOp .BitAnd) (rI0 fun i j => .int (Builtin.bitAnd i j)) := opI0 fun _ _ _ _ _ _ _ q => iand_int q
theorem iop_or : OpR X (inplaceOp .BitOr) (rI0 fun i j => .int (Builtin.bitOr i j)) := opI0 fun _ _ _ _ _ _ _ q => ior_int q
theorem iop_xor : OpR X (inplaceOp .BitXor) (rI0 fun i j => .int (Builtin.bitXor i j)) := opI0 fun _ _ _ _ _ _ _ q => ixor_int q

theorem unI {f : Value → Sem Value} {g : Int → Int}
    (rule : ∀ (i : Int) (t : Tok) (s : Shared) (Q : Value → Shared → Prop) (E : Value → Shared → Prop), Q (.int (g i) s.toks) { s with toks := s.toks + 1 } → wpAny (model X.prog X.w) X.A (f (.int i t)) Q E s) :
    UnR X f (rU fun i => .int (g i)) := by
  intro pins s σ H x v Q I rx h
  obtain ⟨i, rfl, q⟩ := h
  obtain ⟨t, rfl⟩ := rx
  exact rule i t s _ _ ⟨.int (g i), H, I.tok _, ⟨_, rfl⟩, q⟩
theorem un_neg : UnR X (unaryOp .USub) (rU fun i => .int (-i)) := unI fun _ _ _ _ _ q => neg_int q
theorem un_inv : UnR X (unaryOp .Invert) (rU fun i => .int (Builtin.bitNot i)) := unI fun _ _ _ _ _ q => invert_int q

/-! ### bools among ints: n += (a < b) -/
theorem op_add_ib : OpR X (binaryOp .Add) (fun x y H Q => ∃ i k, x = .int i ∧ y = .bl k ∧ Q (.int (i + b2i k)) H) := by
  intro pins s σ H x y v u Q I rx ry h
  obtain ⟨i, k, rfl, rfl, q⟩ := h
  obtain ⟨t, rfl⟩ := rx
  cases ry
  exact add_int_bool ⟨.int (i + b2i k), H, I.tok _, ⟨_, rfl⟩, q⟩
end

/-! ### comparisons -/
/-- the scalars that == tells apart as data does -/
def scal : V → V → Bool
  | .non, .non => true | .non, .int _ => true | .int _, .non => true | .non, .bl _ => true | .bl _, .non => true | .non, .str _ => true | .str _, .non => true
  | .int _, .int _ => true | .bl _, .bl _ => true | .str _, .str _ => true | .byt _, .byt _ => true
  | .int _, .str _ => true | .str _, .int _ => true | .bl _, .str _ => true | .str _, .bl _ => true
  | _, _ => false
def rEq : R2 := fun x y H Q => scal x y = true ∧ Q (.bl (decide (x = y))) H
def rNe : R2 := fun x y H Q => scal x y = true ∧ Q (.bl (!decide (x = y))) H

theorem dec_int {i j : Int} : decide (V.int i = V.int j) = (i == j) := by
  rw [Bool.eq_iff_iff]
  simp
theorem dec_bl {i j : Bool} : decide (V.bl i = V.bl j) = (i == j) := by
  rw [Bool.eq_iff_iff]
  simp
theorem dec_str {i j : Str} : decide (V.str i = V.str j) = (i == j) := by
  rw [Bool.eq_iff_iff]
  simp
theorem dec_byt {i j : Array UInt8} : decide (V.byt i = V.byt j) = (i.toList == j.toList) := by
  rw [Bool.eq_iff_iff]
  cases i
  cases j
  simp

section
variable {X : Cx} {a b c : Expr} {ta tb tc : TE} {pos : Pos}
theorem fin_bl {pins : List (Addr × Obj)} {σ : St} {H : Hp} {s : Shared} {Q : VK} {k k' : Bool} (I : Inv X pins σ H s) (q : Q (.bl k) H) (e : k = k') : EP X pins σ Q (.bool k') s := by
  subst e
  exact ⟨.bl k, H, I, rfl, q⟩
theorem op_eq : OpR X (compareOp .Eq) rEq := by
  intro pins s σ H x y v u Q I rx ry h
  obtain ⟨hs, q⟩ := h
  cases x with
  | non =>
    cases rx
    cases y with
    | non => cases ry; exact PySem.EqNone.eq_none_none (fin_bl I q (by simp))
    | bl j => cases ry; exact PySem.EqNone.eq_none_bool (fin_bl I q (by simp))
    | int j => obtain ⟨t', rfl⟩ := ry; exact PySem.EqNone.eq_none_int (fin_bl I q (by simp))
    | str j => obtain ⟨t', rfl⟩ := ry; exact PySem.EqNone.eq_none_str (fin_bl I q (by simp))
    | _ => exact absurd (show false = true from hs) Bool.false_ne_true
  | bl i =>
    cases rx
    cases y with
    | non => cases ry; exact PySem.EqNone.eq_bool_none (fin_bl I q (by simp))
    | bl j => cases ry; exact eq_bool (fin_bl I q dec_bl)
    | str j => obtain ⟨t', rfl⟩ := ry; exact PySem.EqMixed.eq_bool_str (fin_bl I q (by simp))
    | _ => exact absurd (show false = true from hs) Bool.false_ne_true
  | int i =>
    obtain ⟨t, rfl⟩ := rx
    cases y with
    | non => cases ry; exact PySem.EqNone.eq_int_none (fin_bl I q (by simp))
    | int j => obtain ⟨t', rfl⟩ := ry; exact eq_int (fin_bl I q dec_int)
    | str j => obtain ⟨t', rfl⟩ := ry; exact PySem.EqMixed.eq_int_str (fin_bl I q (by simp))
    | _ => exact absurd (show false = true from hs) Bool.false_ne_true
  | str i =>
    obtain ⟨t, rfl⟩ := rx
    cases y with
    | non => cases ry; exact PySem.EqNone.eq_str_none (fin_bl I q (by simp))
    | bl j => cases ry; exact PySem.EqMixed.eq_str_bool (fin_bl I q (by simp))
    | int j => obtain ⟨t', rfl⟩ := ry; exact PySem.EqMixed.eq_str_int (fin_bl I q (by simp))
    | str j => obtain ⟨t', rfl⟩ := ry; exact eq_str (fin_bl I q dec_str)
    | _ => exact absurd (show false = true from hs) Bool.false_ne_true
  | byt i =>
    obtain ⟨t, rfl⟩ := rx
    cases y with
    | byt j => obtain ⟨t', rfl⟩ := ry; exact PySem.W.eq_bytes (fin_bl I q dec_byt)
    | _ => exact absurd (show false = true from hs) Bool.false_ne_true
  | _ => cases y <;> exact absurd (show false = true from hs) Bool.false_ne_true
theorem op_ne : OpR X (compareOp .NotEq) rNe := by
  intro pins s σ H x y v u Q I rx ry h
  obtain ⟨hs, q⟩ := h
  cases x with
  | non =>
    cases rx
    cases y with
    | non => cases ry; exact PySem.EqNone.ne_none_none (fin_bl I q (by simp))
    | bl j => cases ry; exact PySem.EqNone.ne_none_bool (fin_bl I q (by simp))
    | int j => obtain ⟨t', rfl⟩ := ry; exact PySem.EqNone.ne_none_int (fin_bl I q (by simp))
    | str j => obtain ⟨t', rfl⟩ := ry; exact PySem.EqNone.ne_none_str (fin_bl I q (by simp))
    | _ => exact absurd (show false = true from hs) Bool.false_ne_true
  | bl i =>
    cases rx
    cases y with
    | non => cases ry; exact PySem.EqNone.ne_bool_none (fin_bl I q (by simp))
    | bl j => cases ry; exact ne_bool (fin_bl I q (congrArg not dec_bl))
    | str j => obtain ⟨t', rfl⟩ := ry; exact PySem.EqMixed.ne_bool_str (fin_bl I q (by simp))
    | _ => exact absurd (show false = true from hs) Bool.false_ne_true
  | int i =>
    obtain ⟨t, rfl⟩ := rx
    cases y with
    | non => cases ry; exact PySem.EqNone.ne_int_none (fin_bl I q (by simp))
    | int j => obtain ⟨t', rfl⟩ := ry; exact ne_int (fin_bl I q (congrArg not dec_int))
    | str j => obtain ⟨t', rfl⟩ := ry; exact PySem.EqMixed.ne_int_str (fin_bl I q (by simp))
    | _ => exact absurd (show false = true from hs) Bool.false_ne_true
  | str i =>
    obtain ⟨t, rfl⟩ := rx
    cases y with
    | non => cases ry; exact PySem.EqNone.ne_str_none (fin_bl I q (by simp))
    | bl j => cases ry; exact PySem.EqMixed.ne_str_bool (fin_bl I q (by simp))
    | int j => obtain ⟨t', rfl⟩ := ry; exact PySem.EqMixed.ne_str_int (fin_bl I q (by simp))
    | str j => obtain ⟨t', rfl⟩ := ry; exact ne_str (fin_bl I q (congrArg not dec_str))
    | _ => exact absurd (show false = true from hs) Bool.false_ne_true
  | byt i =>
    obtain ⟨t, rfl⟩ := rx
    cases y with
    | byt j => obtain ⟨t', rfl⟩ := ry; exact PySem.W.ne_bytes (fin_bl I q (congrArg not dec_byt))
    | _ => exact absurd (show false = true from hs) Bool.false_ne_true
  | _ => cases y <;> exact absurd (show false = true from hs) Bool.false_ne_true

theorem op_lt : OpR X (compareOp .Lt) (rI0 fun i j => .bl (decide (i < j))) := opB0 fun _ _ _ _ _ _ _ q => lt_int q
theorem op_le : OpR X (compareOp .LtE) (rI0 fun i j => .bl (decide (i ≤ j))) := opB0 fun _ _ _ _ _ _ _ q => le_int q
theorem op_gt : OpR X (compareOp .Gt) (rI0 fun i j => .bl (decide (j < i))) := opB0 fun _ _ _ _ _ _ _ q => gt_int q
theorem op_ge : OpR X (compareOp .GtE) (rI0 fun i j => .bl (decide (j ≤ i))) := opB0 fun _ _ _ _ _ _ _ q => ge_int q
theorem op_lt_str : OpR X (compareOp .Lt) (fun x y H Q => ∃ i j, x = .str i ∧ y = .str j ∧ Q (.bl (decide (i.cps.toList < j.cps.toList))) H) := by
  intro pins s σ H x y v u Q I rx ry h
  obtain ⟨i, j, rfl, rfl, q⟩ := h
  obtain ⟨t, rfl⟩ := rx
  obtain ⟨t', rfl⟩ := ry
  exact lt_str (fin_bl I q rfl)
/-- the one string within the other -/
theorem op_in_str : OpR X (compareOp .In) (fun x y H Q => ∃ i j, x = .str i ∧ y = .str j ∧ Q (.bl (!(Builtin.Str.occurrences j i 0 j.length 1).isEmpty)) H) := by
  intro pins s σ H x y v u Q I rx ry h
  obtain ⟨i, j, rfl, rfl, q⟩ := h
  obtain ⟨t, rfl⟩ := rx
  obtain ⟨t', rfl⟩ := ry
  exact in_str (fin_bl I q rfl)

/-- is None, is not None: the right side a value none -/
theorem op_isN : OpR X (compareOp .Is) (fun x y H Q => y = .non ∧ Q (.bl (decide (x = .non))) H) := by
  intro pins s σ H x y v u Q I rx ry h
  obtain ⟨rfl, q⟩ := h
  cases ry
  refine is_none_gen (fin_bl I q ?_)
  cases x <;> first
    | (cases rx; rfl)
    | (obtain ⟨t, rfl⟩ := rx; rfl)
theorem op_notN : OpR X (compareOp .IsNot) (fun x y H Q => y = .non ∧ Q (.bl (!decide (x = .non))) H) := by
  intro pins s σ H x y v u Q I rx ry h
  obtain ⟨rfl, q⟩ := h
  cases ry
  refine isnot_none_gen (fin_bl I q ?_)
  cases x <;> first
    | (cases rx; rfl)
    | (obtain ⟨t, rfl⟩ := rx; rfl)

theorem op_notin_str : OpR X (compareOp .NotIn) (fun x y H Q => ∃ i j, x = .str i ∧ y = .str j ∧ Q (.bl (!(!(Builtin.Str.occurrences j i 0 j.length 1).isEmpty))) H) := by
  intro pins s σ H x y v u Q I rx ry h
  obtain ⟨i, j, rfl, rfl, q⟩ := h
  obtain ⟨t, rfl⟩ := rx
  obtain ⟨t', rfl⟩ := ry
  exact notIn_str (fin_bl I q rfl)
/-- is, is not of two objects that are tracked lists or instances -/
def isObj : HO → Bool
  | .lst _ => true
  | .ins _ _ _ => true
  | _ => false
theorem obj_there {pins : List (Addr × Obj)} {s : Shared} {σ : St} {H : Hp} {a : Addr} {o : HO} (I : Inv X pins σ H s) (h : H a = some o) (p : isObj o = true) : ∃ ob, s.heap.get? a = some ob ∧ ob.cls ≠ .type "tuple" := by
  cases o with
  | lst xs =>
    obtain ⟨_, its, n, _, e⟩ : xs.length ≤ sizeLine ∧ ∃ (its : List Value) (n : Nat), Vals xs its ∧ s.heap.get? a = some { cls := .type "list", data := .seq its.toArray n } := I.hok a _ h
    exact ⟨_, e, (by show Value.type "list" ≠ .type "tuple"; decide +kernel)⟩
  | ins C dx fs =>
    have x := I.hok a _ h
    obtain ⟨_, _, _, e, _⟩ := x
    exact ⟨_, e, (by show Value.ref C ≠ .type "tuple"; exact fun z => by cases z)⟩
  | _ => exact absurd (show false = true from p) Bool.false_ne_true
theorem op_is_ref : OpR X (compareOp .Is) (fun x y H Q => ∃ a b oa ob, x = .ref a ∧ y = .ref b ∧ H a = some oa ∧ isObj oa = true ∧ H b = some ob ∧ isObj ob = true ∧ Q (.bl (decide (a = b))) H) := by
  intro pins s σ H x y v u Q I rx ry h
  obtain ⟨a, b, oa, ob, rfl, rfl, ha, pa, hb, pb, q⟩ := h
  cases rx
  cases ry
  obtain ⟨o1, e1, n1⟩ := obj_there I ha pa
  obtain ⟨o2, e2, _⟩ := obj_there I hb pb
  by_cases z : a = b
  · subst z
    exact wpAny_is_ref_self (fin_bl I q (by simp))
  · exact wpAny_is_ref_other z e1 e2 n1 (fin_bl I q (by simp [z]))
theorem op_isnot_ref : OpR X (compareOp .IsNot) (fun x y H Q => ∃ a b oa ob, x = .ref a ∧ y = .ref b ∧ H a = some oa ∧ isObj oa = true ∧ H b = some ob ∧ isObj ob = true ∧ Q (.bl (!decide (a = b))) H) := by
  intro pins s σ H x y v u Q I rx ry h
  obtain ⟨a, b, oa, ob, rfl, rfl, ha, pa, hb, pb, q⟩ := h
  cases rx
  cases ry
  obtain ⟨o1, e1, n1⟩ := obj_there I ha pa
  obtain ⟨o2, e2, _⟩ := obj_there I hb pb
  by_cases z : a = b
  · subst z
    exact wpAny_isNot_ref_self (fin_bl I q (by simp))
  · exact wpAny_isNot_ref_other z e1 e2 n1 (fin_bl I q (by simp [z]))

/-- two rules for one operation: by cases -/
theorem OpR.or {f : Value → Value → Sem Value} {r r' : R2} (h : OpR X f r) (h' : OpR X f r') : OpR X f (fun x y H Q => r x y H Q ∨ r' x y H Q) := by
  intro pins s σ H x y v u Q I rx ry q
  rcases q with q | q
  · exact h pins s σ H x y v u Q I rx ry q
  · exact h' pins s σ H x y v u Q I rx ry q

theorem nomark (b : Expr) {op : CmpOp} (h : op ≠ .In := by decide) (h2 : op ≠ .NotIn := by decide) : behindInMarks op b = false := by
  have e1 : (op == CmpOp.In) = false := by cases op <;> first | rfl | exact absurd rfl h
  have e2 : (op == CmpOp.NotIn) = false := by cases op <;> first | rfl | exact absurd rfl h2
  cases b <;> simp [behindInMarks, e1, e2]
/-- a comparison as a value; hm: nomark b, or (for in, not in) by with_unfolding_all rfl -/
theorem pe_cmpR {op : CmpOp} {r : R2} (ho : OpR X (compareOp op) r) (ha : PE X a ta) (hb : PE X b tb) (hm : behindInMarks op b = false) : PE X (.Compare a [op] [b] pos) (tOp r ta tb) := by
  intro pins s σ H Q I h
  exact wpAny_Compare1 (binT ha hb I h fun v u s2 x y H2 I2 rx ry q => ho pins s2 σ H2 x y v u Q I2 rx ry q) hm
/-- a reading of a value as a test -/
def tTest (t : TE) : TT := fun σ H Q => t σ H fun x H' => ∃ k, x = .bl k ∧ Q k H'
theorem pt_cmpR {op : CmpOp} {r : R2} (ho : OpR X (compareOp op) r) (ha : PE X a ta) (hb : PE X b tb) (hm : behindInMarks op b = false) : PT X (.Compare a [op] [b] pos) (tTest (tOp r ta tb)) := by
  intro pins s σ H Q I h
  refine wpAny_isTrue_Compare1 (thn (ha pins s σ H _ I h) fun v s1 ⟨x, H1, I1, r1, q1⟩ => thn (hb pins s1 σ H1 _ I1 q1) fun u s2 ⟨y, H2, I2, r2, q2⟩ =>
    thn (ho pins s2 σ H2 x y v u _ I2 r1 r2 q2) fun c s3 ⟨z, H3, I3, r3, k, e, q3⟩ => ?_) hm
  subst e
  cases r3
  exact wpAny_truthy_bool ⟨H3, I3, q3⟩
/-- a op1 b op2 c -/
def tChain (r r' : R2) (ta tb tc : TE) : TE := fun σ H Q => ta σ H fun x H1 => tb σ H1 fun y H2 => r x y H2 fun z H3 => ∃ k, z = .bl k ∧
  (if k = true then tc σ H3 fun w' H4 => r' y w' H4 Q else Q (.bl false) H3)
theorem pe_chain {op op' : CmpOp} {r r' : R2} (ho : OpR X (compareOp op) r) (ho' : OpR X (compareOp op') r') (ha : PE X a ta) (hb : PE X b tb) (hc : PE X c tc)
    (hm : lastMarks [op, op'] [b, c] = false := by with_unfolding_all rfl) : PE X (.Compare a [op, op'] [b, c] pos) (tChain r r' ta tb tc) := by
  intro pins s σ H Q I h
  refine Compare_chain (thn (ha pins s σ H _ I h) fun v s1 ⟨x, H1, I1, r1, q1⟩ => chain_link (thn (hb pins s1 σ H1 _ I1 q1) fun u s2 ⟨y, H2, I2, r2, q2⟩ =>
    thn (ho pins s2 σ H2 x y v u _ I2 r1 r2 q2) fun d s3 ⟨z, H3, I3, r3, k, e, q3⟩ => ?_)) hm
  subst e
  cases r3
  refine wpAny_truthy_bool ?_
  cases k with
  | false => exact ite_ff ⟨.bl false, H3, I3, rfl, q3⟩
  | true => exact ite_tt (chain_last (thn (hc pins s3 σ H3 _ I3 q3) fun w' s4 ⟨z', H4, I4, r4, q4⟩ => ho' pins s4 σ H4 y z' u w' Q I4 r2 r4 q4))
theorem pt_chain {op op' : CmpOp} {r r' : R2} (ho : OpR X (compareOp op) r) (ho' : OpR X (compareOp op') r') (ha : PE X a ta) (hb : PE X b tb) (hc : PE X c tc)
    (hm : lastMarks [op, op'] [b, c] = false := by with_unfolding_all rfl) : PT X (.Compare a [op, op'] [b, c] pos) (tTest (tChain r r' ta tb tc)) := by
  intro pins s σ H Q I h
  refine isTrue_chain (thn (ha pins s σ H _ I h) fun v s1 ⟨x, H1, I1, r1, q1⟩ => test_link (thn (hb pins s1 σ H1 _ I1 q1) fun u s2 ⟨y, H2, I2, r2, q2⟩ =>
    thn (ho pins s2 σ H2 x y v u _ I2 r1 r2 q2) fun d s3 ⟨z, H3, I3, r3, k, e, q3⟩ => ?_)) hm
  subst e
  cases r3
  refine wpAny_truthy_bool ?_
  cases k with
  | false =>
    obtain ⟨k', e', q'⟩ := q3
    cases e'
    exact ite_ff ⟨H3, I3, q'⟩
  | true =>
    refine ite_tt (test_last (thn (hc pins s3 σ H3 _ I3 q3) fun w' s4 ⟨z', H4, I4, r4, q4⟩ => thn (ho' pins s4 σ H4 y z' u w' _ I4 r2 r4 q4) fun d' s5 ⟨z2, H5, I5, r5, k2, e2, q5⟩ => ?_))
    subst e2
    cases r5
    exact wpAny_truthy_bool ⟨H5, I5, q5⟩

/-! ### truth -/
/-- a value's truth by the abstract heap -/
def TruV (K : PySem.W.Frag) (x : V) (H : Hp) (k : Bool) : Prop :=
  match x with
  | .non => k = false
  | .bl b => k = b
  | .int i => k = (i != 0)
  | .str y => y.length ≤ sizeLine ∧ k = ((y.length : Int) != 0)
  | .byt y => y.size ≤ sizeLine ∧ k = ((y.size : Int) != 0)
  | .ref p => (∃ xs, SqL K H p xs ∧ k = !xs.isEmpty) ∨ (∃ xs, SqT K H p xs ∧ k = !xs.isEmpty) ∨ ∃ kvs, H p = some (.dK kvs) ∧ k = !kvs.isEmpty
  | _ => False
theorem isEmpty_kv {κ : Type} {kvs : List (κ × V)} {vs : List (κ × Value)} (r : KV kvs vs) : (!vs.isEmpty) = !kvs.isEmpty := by
  cases r <;> rfl
theorem isEmpty_of {xs : List V} {its : List Value} (r : Vals xs its) : (!its.toArray.isEmpty) = !xs.isEmpty := by
  cases r <;> simp
theorem line63 : (sizeLine : Nat) < 2 ^ 63 := by rw [sizeLine_eq]; decide
theorem tru_ok : TruR X (fun x H Q => ∃ k, TruV X.K x H k ∧ Q k H) := by
  intro pins s σ H x v Q I rx h
  obtain ⟨k, e, q⟩ := h
  have hl := line63
  have hs : sizeLine = 16777216 := sizeLine_eq
  cases x with
  | non =>
    cases rx
    have e' : k = false := e
    subst e'
    exact truthy_none ⟨H, I, q⟩
  | bl b =>
    cases rx
    have e' : k = b := e
    subst e'
    exact wpAny_truthy_bool ⟨H, I, q⟩
  | int i =>
    obtain ⟨t, rfl⟩ := rx
    have e' : k = (i != 0) := e
    subst e'
    exact PySem.P.truthy_int ⟨H, I, q⟩
  | str y =>
    obtain ⟨t, rfl⟩ := rx
    obtain ⟨hy, e'⟩ : y.length ≤ sizeLine ∧ k = ((y.length : Int) != 0) := e
    subst e'
    exact PySem.P.truthy_str (by omega) ⟨H, I.tok _, q⟩
  | byt y =>
    obtain ⟨t, rfl⟩ := rx
    obtain ⟨hy, e'⟩ : y.size ≤ sizeLine ∧ k = ((y.size : Int) != 0) := e
    subst e'
    exact PySem.W.truthy_bytes (by omega) ⟨H, I.tok _, q⟩
  | ref p =>
    cases rx
    have e' : (∃ xs, SqL X.K H p xs ∧ k = !xs.isEmpty) ∨ (∃ xs, SqT X.K H p xs ∧ k = !xs.isEmpty) ∨ ∃ kvs, H p = some (.dK kvs) ∧ k = !kvs.isEmpty := e
    rcases e' with ⟨xs, hx, e'⟩ | ⟨xs, hx, e'⟩ | ⟨kvs, hx, e'⟩
    · subst e'
      obtain ⟨its, r, pl, hz⟩ := I.list hx
      have hlen := r.length
      exact wpAny_truthy_list pl.isList (by simp only [List.size_toArray]; omega) ⟨H, I.tok _, by rw [isEmpty_of r]; exact q⟩
    · subst e'
      obtain ⟨its, r, pl, hz⟩ := I.tuple hx
      have hlen := r.length
      exact truthy_tuple pl (by simp only [List.size_toArray]; omega) ⟨H, I.tok _, by rw [isEmpty_of r]; exact q⟩
    · subst e'
      obtain ⟨hz, hS, vs, r, m⟩ : kvs.length ≤ sizeLine ∧ (p == sysModules) = false ∧ ∃ vs, KV kvs vs ∧ s.heap.DictOf (mixKind X.prog X.w) p vs := I.hok p _ hx
      have hlen : kvs.length = vs.length := Paired.length r
      exact wpAny_truthy_dict hS m (by omega) ⟨H, I.tok _, by rw [isEmpty_kv r]; exact q⟩
  | _ => exact (show False from e).elim
/-- any expression whose test is its value's truth (a name, a call, a subscript, a field ..: he by fun _ => rfl) -/
theorem pt_truth (ha : PE X a ta) (he : ∀ whole, isTrue a X.env whole = (do let v ← whole; standAt a.pos; holding [v] (truthy v))) :
    PT X a (fun σ H Q => ta σ H fun x H' => ∃ k, TruV X.K x H' k ∧ Q k H') := by
  intro pins s σ H Q I h
  exact isTrue_plain (thn (ha pins s σ H _ I h) fun v s1 ⟨x, H1, I1, r1, q1⟩ => tru_ok pins s1 σ H1 x v Q I1 r1 q1) (he _)

/-! ### strs and bytes -/
theorem pe_byt {x : List UInt8} {k : Nat} : PE X (.Constant (.bytes x) k pos) (fun _ H Q => Q (.byt x.toArray) H) := fun _ _ _ H _ I h => PySem.W.Constant_bytes ⟨.byt x.toArray, H, I.tok _, ⟨_, rfl⟩, h⟩
theorem op_add_str : OpR X (binaryOp .Add) (fun x y H Q => ∃ i j, x = .str i ∧ y = .str j ∧ i.length + j.length ≤ sizeLine ∧ Q (.str (i ++ j)) H) := by
  intro pins s σ H x y v u Q I rx ry h
  obtain ⟨i, j, rfl, rfl, hz, q⟩ := h
  obtain ⟨t, rfl⟩ := rx
  obtain ⟨t', rfl⟩ := ry
  exact add_str (fun t' tk => ⟨.str (i ++ j), H, I.tok _, ⟨_, rfl⟩, q⟩) hz
theorem iop_add_str : OpR X (inplaceOp .Add) (fun x y H Q => ∃ i j, x = .str i ∧ y = .str j ∧ i.length + j.length ≤ sizeLine ∧ Q (.str (i ++ j)) H) := by
  intro pins s σ H x y v u Q I rx ry h
  obtain ⟨i, j, rfl, rfl, hz, q⟩ := h
  obtain ⟨t, rfl⟩ := rx
  obtain ⟨t', rfl⟩ := ry
  exact iadd_str (fun t' tk => ⟨.str (i ++ j), H, I.tok _, ⟨_, rfl⟩, q⟩) hz
theorem op_add_byt : OpR X (binaryOp .Add) (fun x y H Q => ∃ i j, x = .byt i ∧ y = .byt j ∧ i.size + j.size ≤ 16777216 ∧ Q (.byt (i ++ j)) H) := by
  intro pins s σ H x y v u Q I rx ry h
  obtain ⟨i, j, rfl, rfl, hz, q⟩ := h
  obtain ⟨t, rfl⟩ := rx
  obtain ⟨t', rfl⟩ := ry
  exact PySem.W.KBy.add_bytes hz (fun t' tk => ⟨.byt (i ++ j), H, I.tok _, ⟨_, rfl⟩, q⟩)

def PlainIxT (b : Expr) : Prop := ∀ o i, subscripted b false o i = operate [o, i] (getItem o i)
/-- s[i], 0 ≤ i < len -/
theorem pe_item_str (ha : PE X a ta) (hb : PE X b tb) (hs : PlainIxT b) :
    PE X (.Subscript a b pos) (tOp (fun x y H Q => ∃ z i c, x = .str z ∧ y = .int i ∧ 0 ≤ i ∧ i < 2 ^ 63 ∧ i < z.length ∧ z.cps[i.toNat]? = some c ∧ Q (.str ⟨#[c]⟩) H) ta tb) := by
  intro pins s σ H Q I h
  refine Subscript_ (binT ha hb I h fun v u s2 x y H2 I2 rx ry q => ?_)
  obtain ⟨z, i, c, rfl, rfl, h0, h63, h1, hc, q⟩ := q
  obtain ⟨t, rfl⟩ := rx
  obtain ⟨t', rfl⟩ := ry
  have e : seqIndex? i z.length = some i.toNat := PySem.StrLaws.seqIndex_nonneg h0 h1
  exact tail_any (typeIs_str s2 z t) slot_str_getitem.lookup (getItem_str (c := c) (by
    have e1 : decide (i < -(2 ^ 63 : Int)) = false := decide_eq_false (by omega)
    have e2 : decide (i ≥ 2 ^ 63) = false := decide_eq_false (by omega)
    rw [e1, e2] <;> rfl) (by rw [e]; exact hc) ⟨.str ⟨#[c]⟩, H2, I2.tok _, ⟨_, rfl⟩, q⟩) (hs _ _)
/-- b[i], 0 ≤ i < len -/
theorem pe_item_byt (ha : PE X a ta) (hb : PE X b tb) (hs : PlainIxT b) :
    PE X (.Subscript a b pos) (tOp (fun x y H Q => ∃ (z : List UInt8) (i : Int), x = .byt z.toArray ∧ y = .int i ∧ z.length ≤ sizeLine ∧ 0 ≤ i ∧ i < z.length ∧ Q (.int ((z.getD i.toNat 0).toNat : Nat)) H) ta tb) := by
  intro pins s σ H Q I h
  refine Subscript_ (binT ha hb I h fun v u s2 x y H2 I2 rx ry q => ?_)
  obtain ⟨z, i, rfl, rfl, hz, h0, h1, q⟩ := q
  obtain ⟨t, rfl⟩ := rx
  obtain ⟨t', rfl⟩ := ry
  have hl : sizeLine = 16777216 := sizeLine_eq
  exact tail_any (PySem.W.typeIs_bytes s2 z.toArray t) PySem.W.FB.slot_bytes_getitem.lookup (PySem.W.getItem_bytes (by omega) h0 h1 ⟨.int ((z.getD i.toNat 0).toNat : Nat), H2, I2.tok _, ⟨_, rfl⟩, q⟩) (hs _ _)

/-! ### scalar builtins, by CallR -/
theorem vals1 {x : V} {us : List Value} (r : Vals [x] us) : ∃ u, us = [u] ∧ RelV x u := by
  cases r with
  | cons r1 r2 => cases r2; exact ⟨_, rfl, r1⟩
theorem vals2 {x y : V} {us : List Value} (r : Vals [x, y] us) : ∃ u w', us = [u, w'] ∧ RelV x u ∧ RelV y w' := by
  cases r with
  | cons r1 r2 =>
    cases r2 with
    | cons r3 r4 => cases r4; exact ⟨_, _, rfl, r1, r3⟩
theorem call_abs : CallR X (.builtin "abs") (fun xs H Q => ∃ i, xs = [.int i] ∧ Q (.int (if i < 0 then -i else i)) H) := by
  intro pins s σ H xs us Q I r h
  obtain ⟨i, rfl, q⟩ := h
  obtain ⟨u, rfl, t, rfl⟩ := vals1 r
  exact call_abs_int fun u tk => ⟨.int (if i < 0 then -i else i), H, I.tok _, ⟨_, rfl⟩, q⟩
theorem call_max2 (hc : X.calm = true) : CallR X (.builtin "max") (fun xs H Q => ∃ i j, xs = [.int i, .int j] ∧ Q (.int (if j > i then j else i)) H) := by
  intro pins s σ H xs us Q I r h
  obtain ⟨i, j, rfl, q⟩ := h
  obtain ⟨u, w', rfl, ⟨t, rfl⟩, ⟨t', rfl⟩⟩ := vals2 r
  refine max_two_ints (I.ok.hd hc) fun h' tk k => ⟨_, H, I.kept k, ?_, q⟩
  by_cases hj : j > i
  · rw [if_pos hj, if_pos hj]; exact ⟨_, rfl⟩
  · rw [if_neg hj, if_neg hj]; exact ⟨_, rfl⟩
theorem call_min2 (hc : X.calm = true) : CallR X (.builtin "min") (fun xs H Q => ∃ i j, xs = [.int i, .int j] ∧ Q (.int (if j < i then j else i)) H) := by
  intro pins s σ H xs us Q I r h
  obtain ⟨i, j, rfl, q⟩ := h
  obtain ⟨u, w', rfl, ⟨t, rfl⟩, ⟨t', rfl⟩⟩ := vals2 r
  refine min_two_ints (I.ok.hd hc) fun h' tk k => ⟨_, H, I.kept k, ?_, q⟩
  by_cases hj : j < i
  · rw [if_pos hj, if_pos hj]; exact ⟨_, rfl⟩
  · rw [if_neg hj, if_neg hj]; exact ⟨_, rfl⟩
theorem call_int1 : CallR X (.type "int") (fun xs H Q => (∃ i, xs = [.int i] ∧ Q (.int i) H) ∨ ∃ k, xs = [.bl k] ∧ Q (.int (if k then 1 else 0)) H) := by
  intro pins s σ H xs us Q I r h
  rcases h with ⟨i, rfl, q⟩ | ⟨k, rfl, q⟩
  · obtain ⟨u, rfl, t, rfl⟩ := vals1 r
    exact call_int_int ⟨.int i, H, I, ⟨_, rfl⟩, q⟩
  · obtain ⟨u, rfl, r1⟩ := vals1 r
    cases r1
    exact call_int_bool ⟨.int (if k then 1 else 0), H, I.tok _, ⟨_, rfl⟩, q⟩
theorem call_bool1 : CallR X (.type "bool") (fun xs H Q => (∃ i, xs = [.int i] ∧ Q (.bl (i != 0)) H) ∨ ∃ k, xs = [.bl k] ∧ Q (.bl k) H) := by
  intro pins s σ H xs us Q I r h
  rcases h with ⟨i, rfl, q⟩ | ⟨k, rfl, q⟩
  · obtain ⟨u, rfl, t, rfl⟩ := vals1 r
    exact call_bool_int ⟨.bl (i != 0), H, I, rfl, q⟩
  · obtain ⟨u, rfl, r1⟩ := vals1 r
    cases r1
    exact call_bool_bool ⟨.bl k, H, I, rfl, q⟩
theorem call_str_int : CallR X (.type "str") (fun xs H Q => ∃ i, xs = [.int i] ∧ i.natAbs.log2 < 1920 ∧ Q (.str (toString i)) H) := by
  intro pins s σ H xs us Q I r h
  obtain ⟨i, rfl, hz, q⟩ := h
  obtain ⟨u, rfl, t, rfl⟩ := vals1 r
  exact PySem.P.str_of_int hz ⟨.str _, H, I.tok _, ⟨_, rfl⟩, q⟩
theorem call_ord : CallR X (.builtin "ord") (fun xs H Q => ∃ x, xs = [.str x] ∧ x.length = 1 ∧ Q (.int (x.cps.getD 0 0 : Nat)) H) := by
  intro pins s σ H xs us Q I r h
  obtain ⟨x, rfl, hz, q⟩ := h
  obtain ⟨u, rfl, t, rfl⟩ := vals1 r
  exact ord_of_one hz ⟨.int _, H, I.tok _, ⟨_, rfl⟩, q⟩
theorem call_chr : CallR X (.builtin "chr") (fun xs H Q => ∃ i, xs = [.int i] ∧ 0 ≤ i ∧ i ≤ 1114111 ∧ Q (.str ⟨#[i.toNat]⟩) H) := by
  intro pins s σ H xs us Q I r h
  obtain ⟨i, rfl, h0, h1, q⟩ := h
  obtain ⟨u, rfl, t, rfl⟩ := vals1 r
  exact chr_of_range h0 h1 ⟨.str _, H, I.tok _, ⟨_, rfl⟩, q⟩
/-- len of a str, a bytes, a list, a tuple -/
def LenV (K : PySem.W.Frag) (x : V) (H : Hp) (n : Nat) : Prop :=
  match x with
  | .str y => y.length ≤ sizeLine ∧ n = y.length
  | .byt y => y.size ≤ sizeLine ∧ n = y.size
  | .ref p => (∃ xs, SqL K H p xs ∧ n = xs.length) ∨ ∃ xs, SqT K H p xs ∧ n = xs.length
  | _ => False
theorem call_len : CallR X (.builtin "len") (fun xs H Q => ∃ x n, xs = [x] ∧ LenV X.K x H n ∧ Q (.int n) H) := by
  intro pins s σ H xs us Q I r h
  obtain ⟨x, n, rfl, e, q⟩ := h
  obtain ⟨u, rfl, rx⟩ := vals1 r
  have hl := line63
  have hs : sizeLine = 16777216 := sizeLine_eq
  cases x with
  | str y =>
    obtain ⟨t, rfl⟩ := rx
    obtain ⟨hy, e'⟩ : y.length ≤ sizeLine ∧ n = y.length := e
    subst e'
    exact len_str (by omega) ⟨.int _, H, I.tok _, ⟨_, rfl⟩, q⟩
  | byt y =>
    obtain ⟨t, rfl⟩ := rx
    obtain ⟨hy, e'⟩ : y.size ≤ sizeLine ∧ n = y.size := e
    subst e'
    exact PySem.W.len_bytes (by omega) ⟨.int _, H, I.tok _, ⟨_, rfl⟩, q⟩
  | ref p =>
    cases rx
    have e' : (∃ xs, SqL X.K H p xs ∧ n = xs.length) ∨ ∃ xs, SqT X.K H p xs ∧ n = xs.length := e
    rcases e' with ⟨xs, hx, e'⟩ | ⟨xs, hx, e'⟩
    · subst e'
      obtain ⟨its, r', pl, hz⟩ := I.list hx
      have hlen := r'.length
      exact Calls.call_len_list pl.isList (by simp only [List.size_toArray]; omega) ⟨.int xs.length, H, I.tok _, ⟨_, by simp only [List.size_toArray]; rw [hlen]⟩, q⟩
    · subst e'
      obtain ⟨its, r', pl, hz⟩ := I.tuple hx
      have hlen := r'.length
      exact len_tuple pl (by simp only [List.size_toArray]; omega) ⟨.int xs.length, H, I.tok _, ⟨_, by simp only [List.size_toArray]; rw [hlen]⟩, q⟩
  | _ => exact (show False from e).elim
/-- divmod: a new tuple -/
theorem call_divmod : CallR X (.builtin "divmod") (fun xs H Q => ∃ i j, xs = [.int i, .int j] ∧ CDiv i j ∧ ∀ p, H p = none → Q (.ref p) (upd H p (.tup [.int (i / j), .int (i % j)]))) := by
  intro pins s σ H xs us Q I r h
  obtain ⟨i, j, rfl, ⟨h1, h2⟩, q⟩ := h
  obtain ⟨u, w', rfl, ⟨t, rfl⟩, ⟨t', rfl⟩⟩ := vals2 r
  refine divmod_int (by omega) ?_ (.inl (PyProof.noPylong_small (by omega)))
  rw [Int.fdiv_eq_ediv_of_nonneg i (by omega), Int.fmod_eq_emod_of_nonneg i (by omega)]
  have hn : H s.heap.objs.size = none := I.hok.fresh (Nat.le_refl _)
  refine ⟨.ref s.heap.objs.size, _, ?_, rfl, q _ hn⟩
  refine I.laid (fun b o e => Heap.get?_push_of_some _ e) (Nat.le_refl _) ⟨by simp only [List.length_cons, List.length_nil]; rw [sizeLine_eq]; decide, [.int (i / j) s.toks, .int (i % j) (s.toks + 1)], .cons ⟨_, rfl⟩ (.cons ⟨_, rfl⟩ .nil), ?_⟩
  exact ⟨_, Heap.get?_push_size s.heap rfl, rfl, 0, rfl⟩
end
end L2

namespace L2
open PySem PySem.Spec PyProof.Rows

/-! ### an instance, its attributes a map -/
structure ObjM (h : Heap) (x dx C : Addr) (mA : Str → Option Value) : Prop where
  obj : h.get? x = some (PySem.W.instObj C dx)
  ns : h.Ns1 dx mA
  ne : dx ≠ x

theorem lookIn_ns {h : Heap} {dx : Addr} {mA : Str → Option Value} (n : h.Ns1 dx mA) : ∃ od, h.get? dx = some od ∧ ∀ name, PySem.W.lookIn name od = some (mA name) := by
  obtain ⟨o, es, ep, ho, hd, hk, _, hm⟩ := n
  refine ⟨o, ho, fun name => ?_⟩
  have e := hm name
  unfold nsFind findBy at e
  rw [← Array.find?_toList] at e
  unfold PySem.W.lookIn
  rw [hd]
  dsimp only
  split
  · rename_i y q
    rw [q] at e
    exact congrArg some e
  · rename_i q
    rw [q] at e
    have a : es.toList.any (·.refKey) = false := by
      rw [List.any_eq_false]
      intro y hy
      obtain ⟨z, t, hkey⟩ := hk y (Array.mem_toList_iff.mp hy)
      simp [DictEntry.refKey, hkey]
    have a' : ¬ es.toList.any (·.refKey) = true := by rw [a]; exact Bool.false_ne_true
    rw [if_neg a']
    exact congrArg some e

theorem ObjM.look {h : Heap} {x dx C : Addr} {mA : Str → Option Value} (I : ObjM h x dx C mA) : ∃ od, PySem.W.InstAt h x (PySem.W.instObj C dx) C (some od) ∧ ∀ name, PySem.W.lookIn name od = some (mA name) :=
  let ⟨od, ho, hl⟩ := lookIn_ns I.ns
  ⟨od, ⟨I.obj, rfl, rfl, ho⟩, hl⟩

section
variable {prog : Program} {w : World} {A : Around} {E : Value → Shared → Prop} {s : Shared} {K : PySem.W.Frag} {x dx C f : Addr} {mA : Str → Option Value} {name : Str} {v : Value}

theorem get_map {expr : Bool} {Q : Value → Shared → Prop} (X : K.In s.heap) (I : ObjM s.heap x dx C mA) (hg : PySem.W.plainGet K C name = true) (hh : PySem.W.hasDictIn K C = true)
    (ha : PySem.W.findIn K (.ref C) name = some none) (hv : mA name = some v) (hv' : PySem.W.handedIn v = true) (h : Q v { s with toks := s.toks + 1 }) :
    wpAny (model prog w) A (getAttr (.ref x) name expr) Q E s := by
  obtain ⟨od, J, hl⟩ := I.look
  exact PySem.W.get_value X J (PySem.W.plainGet_of hg).1 (PySem.W.findObj_own hh ha rfl (by rw [hl, hv])) hv' h

theorem get_const {expr : Bool} {a : Value} {Q : Value → Shared → Prop} (X : K.In s.heap) (I : ObjM s.heap x dx C mA) (hg : PySem.W.plainGet K C name = true) (hh : PySem.W.hasDictIn K C = true)
    (ha : PySem.W.findIn K (.ref C) name = some (some a)) (hn : PySem.W.specialIn K a "__get__" = some none) (hc : PySem.W.copiedNames.contains name = false) (hv : mA name = none) (hv' : PySem.W.handedIn a = true)
    (h : Q a { s with toks := s.toks + 1 }) : wpAny (model prog w) A (getAttr (.ref x) name expr) Q E s := by
  obtain ⟨od, J, hl⟩ := I.look
  exact PySem.W.get_value X J (PySem.W.plainGet_of hg).1 (PySem.W.findObj_cls hh ha hn hv' hc (by rw [hl, hv])) hv' h

theorem get_meth {pl : Sem Bool} {Q : Value × List Value → Shared → Prop} (X : K.In s.heap) (I : ObjM s.heap x dx C mA) (hg : PySem.W.plainGet K C name = true)
    (hf : PySem.W.findIn K (.ref C) name = some (some (.ref f))) (ht : PySem.W.isFn K (.ref f) = true) (hv : mA name = none) (h : Q (.ref f, [.ref x]) s) :
    wpAny (model prog w) A (getMethod (.ref x) name pl) Q E s := by
  obtain ⟨od, J, hl⟩ := I.look
  exact PySem.W.method_fn X J (PySem.W.plainGet_of hg).1 (PySem.W.plainGet_of hg).2 hf (beq_iff_eq.mp ht) (by show (PySem.W.lookIn name od).map (·.isSome) = some false; rw [hl, hv]; rfl) h

theorem set_map {ns : List Str} {Q : Unit → Shared → Prop} (X : K.In s.heap) (I : ObjM s.heap x dx C mA)
    (hs : PySem.W.findIn K (.ref C) "__setattr__" = some (some (.builtin "object.__setattr__"))) (hp : PySem.W.plainOver K C = true) (ht : PySem.W.takerIn K C name = some none) (hh : PySem.W.hasDictIn K C = true)
    (hw : PySem.Within mA ns) (hsz : ns.length ≤ sizeLine)
    (h : ∀ h', ObjM h' x dx C (fun y => if y = name then some v else mA y) → Heap.SameBut dx s.heap h' → Q () { s with heap := h', toks := s.toks + 2 }) :
    wpAny (model prog w) A (setAttr (.ref x) name v) Q E s := by
  obtain ⟨od, J, hl⟩ := I.look
  refine PySem.W.set_plain X J hs (PySem.W.osa_open (s := { s with toks := s.toks + 1 }) (r := none) X J hp ht fun b => ?_)
  obtain ⟨cd, hc, hd'⟩ := PySem.W.any_some hh
  have hx : s.heap.get? x = some ⟨.ref C, some dx, .plain, #[]⟩ := I.obj
  refine wpAny_bind (wpAny_pure (wpAny_bind (wpAny_bind (wpAny_loadPart hx (wpAny_bind (PySem.W.Looks.here (s := { s with toks := s.toks + 1 }) (PySem.W.looks_clsIn X hc) ?_))))))
  rw [hd']
  refine wpAny_pure (a := some dx) (wpAny_bind (wpAny_pure (wpAny_bind ?_)))
  refine wpAny_nsSet1 (s := { s with toks := s.toks + 1 }) I.ns fun h' hn2 hs2 => ?_
  obtain ⟨oD, esD, epD, hoD, hdD, hcD⟩ := hn2.count (PySem.Within.cons name v hw)
  refine wpAny_bind (wpAny_lookBehind hoD (by rw [hdD]; exact pastItsLine_dict (Nat.le_trans hcD (by rw [List.length_cons]; omega))) ?_)
  exact wpAny_pure (h _ ⟨(hs2.2 _ (Ne.symm I.ne)).trans I.obj, hn2, I.ne⟩ hs2)

/-- C(..): the dict at the heap's end, the instance behind it; then its __init__ -/
theorem make_map {R : Result → Shared → Prop} {vs : List Value} {kw : List (Str × Value)} (X : K.In s.heap) (hm : PySem.W.makesIn K C = true)
    (hi : PySem.W.findIn K (.ref C) "__init__" = some (some (.ref f))) (hf : PySem.W.typeIn K (.ref f) = some (.type "function"))
    (h : codeAny (model prog w) (A.under (.builtin "type.__call__" ⟨.ref C :: vs, kw⟩)) (.call (.ref f) ⟨.ref (s.heap.objs.size + 1) :: vs, kw⟩) (PySem.W.InitBack (s.heap.objs.size + 1) R)
      { s with heap := (s.heap.push PySem.W.emptyDict).push (PySem.W.instObj C s.heap.objs.size) }) :
    codeAny (model prog w) A (.call (.ref C) ⟨vs, kw⟩) R s := by
  obtain ⟨hh, g, d, t, os⟩ := s
  exact PySem.W.make_core (PySem.W.makes_of X hm) (PySem.W.looks_findIn X hi) (fun self => PySem.W.bind_fn X self hf) (.inl rfl) h
/-- C() where there is no __init__ but object's -/
theorem make_map0 {R : Result → Shared → Prop} (X : K.In s.heap) (hm : PySem.W.makesIn K C = true)
    (hi : PySem.W.findIn K (.ref C) "__init__" = some (some (.builtin "object.__init__")))
    (hb : ∀ self, PySem.W.Looks (model prog w) s.heap (bindSpecial (.builtin "object.__init__") self) (.builtin "object.__init__", [self]))
    (h : codeAny (model prog w) (A.under (.builtin "type.__call__" ⟨[.ref C], []⟩)) (.call (.builtin "object.__init__") ⟨[.ref (s.heap.objs.size + 1)], []⟩) (PySem.W.InitBack (s.heap.objs.size + 1) R)
      { s with heap := (s.heap.push PySem.W.emptyDict).push (PySem.W.instObj C s.heap.objs.size) }) :
    codeAny (model prog w) A (.call (.ref C) ⟨[], []⟩) R s := by
  obtain ⟨hh, g, d, t, os⟩ := s
  exact PySem.W.make_core (PySem.W.makes_of X hm) (PySem.W.looks_findIn X hi) hb (.inr ⟨rfl, rfl⟩) h
end

/-! ### the attributes as a list of pairs -/
def putF (f : Str) (v : V) : List (Str × V) → List (Str × V)
  | [] => [(f, v)]
  | (g, x) :: r => if g = f then (g, v) :: r else (g, x) :: putF f v r
theorem lookup_putF (f g : Str) (v : V) : ∀ fs : List (Str × V), (putF f v fs).lookup g = if g = f then some v else fs.lookup g
  | [] => by
    show List.lookup g [(f, v)] = _
    by_cases h : g = f
    · have hb : (g == f) = true := beq_iff_eq.mpr h
      simp only [List.lookup, hb, if_pos h]
    · have hb : (g == f) = false := beq_eq_false_iff_ne.mpr h
      simp only [List.lookup, hb, if_neg h]
  | (k, x) :: r => by
    have ih := lookup_putF f g v r
    rw [show putF f v ((k, x) :: r) = (if k = f then (k, v) :: r else (k, x) :: putF f v r) from rfl]
    by_cases hk : k = f
    · rw [if_pos hk]
      by_cases h : g = k
      · have hb : (g == k) = true := beq_iff_eq.mpr h
        simp only [List.lookup, hb, if_pos (h.trans hk)]
      · have hb : (g == k) = false := beq_eq_false_iff_ne.mpr h
        simp only [List.lookup, hb, if_neg (fun e : g = f => h (e.trans hk.symm))]
    · rw [if_neg hk]
      by_cases h : g = k
      · have hb : (g == k) = true := beq_iff_eq.mpr h
        simp only [List.lookup, hb, if_neg (fun e : g = f => hk (h.symm.trans e))]
      · have hb : (g == k) = false := beq_eq_false_iff_ne.mpr h
        simp only [List.lookup, hb]
        exact ih
theorem keys_putF (f : Str) (v : V) : ∀ fs : List (Str × V), f ∈ (putF f v fs).map (·.1) ∧ ∀ g, g ∈ fs.map (·.1) → g ∈ (putF f v fs).map (·.1)
  | [] => ⟨by simp [putF], fun g h => by simp at h⟩
  | (k, x) :: r => by
    obtain ⟨i1, i2⟩ := keys_putF f v r
    rw [show putF f v ((k, x) :: r) = (if k = f then (k, v) :: r else (k, x) :: putF f v r) from rfl]
    by_cases hk : k = f
    · rw [if_pos hk]
      subst hk
      exact ⟨by simp, fun g h => by simpa using h⟩
    · rw [if_neg hk]
      refine ⟨?_, fun g h => ?_⟩
      · rw [List.map_cons]
        exact List.mem_cons_of_mem _ i1
      · rw [List.map_cons] at h ⊢
        rcases List.mem_cons.mp h with e | e
        · exact List.mem_cons.mpr (.inl e)
        · exact List.mem_cons_of_mem _ (i2 g e)
theorem length_putF (f : Str) (v : V) : ∀ fs : List (Str × V), (putF f v fs).length ≤ fs.length + 1
  | [] => by simp [putF]
  | (k, x) :: r => by
    have ih := length_putF f v r
    rw [show putF f v ((k, x) :: r) = (if k = f then (k, v) :: r else (k, x) :: putF f v r) from rfl]
    by_cases hk : k = f
    · rw [if_pos hk, List.length_cons, List.length_cons]; omega
    · rw [if_neg hk, List.length_cons, List.length_cons]; omega

theorem RelO.some_of {v : V} {o : Option Value} (r : RelO (some v) o) : ∃ u, o = some u ∧ RelV v u := by
  cases o with
  | none => exact (show False from r).elim
  | some u => exact ⟨u, rfl, r⟩
theorem RelO.none_of {o : Option Value} (r : RelO none o) : o = none := by
  cases o with
  | none => rfl
  | some u => exact (show False from r).elim
theorem handed_of {v : V} {u : Value} (r : RelV v u) : PySem.W.handedIn u = true := by
  cases v with
  | non => cases (show u = Value.none from r); rfl
  | bl b => cases (show u = Value.bool b from r); rfl
  | int i => obtain ⟨t, e⟩ := (show ∃ t, u = Value.int i t from r); cases e; rfl
  | str x => obtain ⟨t, e⟩ := (show ∃ t, u = Value.str x t from r); cases e; rfl
  | byt b => obtain ⟨t, e⟩ := (show ∃ t, u = Value.bytes b t from r); cases e; rfl
  | flt b => obtain ⟨t, e⟩ := (show ∃ t, u = Value.float b t from r); cases e; rfl
  | ref a => cases (show u = Value.ref a from r); rfl
  | ty n => cases (show u = Value.type n from r); rfl

section
variable {P : Program} {w : World} {H H' : Hp} {h h' : Heap} {a C dx : Addr} {fs fs' : List (Str × V)}
theorem ins_get (hok : HOk P w H h) (e : H a = some (.ins C dx fs)) : ∃ mA, ObjM h a dx C mA ∧ (∀ f, RelO (fs.lookup f) (mA f)) ∧ PySem.Within mA (fs.map (·.1)) ∧ fs.length ≤ 1000 ∧ H dx = some (.own a) := by
  obtain ⟨d, z, ne, ob, mA, n, r, q⟩ := (show ObjOk P w H h a (.ins C dx fs) from hok a _ e)
  exact ⟨mA, ⟨ob, n, ne⟩, r, q, z, d⟩
end

/-! ### what of the text a class must have -/
structure Cls (K : PySem.W.Frag) (C : Addr) : Prop where
  pg : PySem.W.plainGet K C Str.empty = true
  hd : PySem.W.hasDictIn K C = true
  po : PySem.W.plainOver K C = true
  sa : PySem.W.findIn K (.ref C) "__setattr__" = some (some (.builtin "object.__setattr__"))
theorem Cls.get {K : PySem.W.Frag} {C : Addr} (c : Cls K C) (f : Str) : PySem.W.plainGet K C f = true := c.pg
/-- no class of it has the name -/
def NoAttr (K : PySem.W.Frag) (C : Addr) (f : Str) : Prop := PySem.W.findIn K (.ref C) f = some none
theorem NoAttr.taker {K : PySem.W.Frag} {C : Addr} {f : Str} (n : NoAttr K C f) : PySem.W.takerIn K C f = some none := by
  unfold PySem.W.takerIn
  rw [show PySem.W.findIn K (.ref C) f = some none from n]
  rfl
/-- a constant of the class -/
structure Con (K : PySem.W.Frag) (C : Addr) (f : Str) (v : V) (u : Value) : Prop where
  at_ : PySem.W.findIn K (.ref C) f = some (some u)
  rel : RelV v u
  get : PySem.W.specialIn K u "__get__" = some none
  cp : PySem.W.copiedNames.contains f = false
/-- a method: a plain def of the class or of one above it -/
structure Meth (K : PySem.W.Frag) (C : Addr) (m : Str) (f : Addr) : Prop where
  at_ : PySem.W.findIn K (.ref C) m = some (some (.ref f))
  fn : PySem.W.isFn K (.ref f) = true
  kp : PySem.W.keepIn K (.ref f) = true

section
variable {X : Cx} {pins : List (Addr × Obj)} {σ : St} {H : Hp} {s : Shared} {a C dx : Addr} {fs : List (Str × V)} {f : Str} {v : V} {A : Around} {E : Value → Shared → Prop}

theorem getattr_ok {b : Bool} {Q : Value → Shared → Prop} (I : Inv X pins σ H s) (e : H a = some (.ins C dx fs)) (c : Cls X.K C) (n : NoAttr X.K C f) (l : fs.lookup f = some v)
    (h : ∀ u s', Inv X pins σ H s' → RelV v u → Q u s') : wpAny (model X.prog X.w) A (getAttr (.ref a) f b) Q E s := by
  obtain ⟨mA, O, r, _, _, _⟩ := ins_get I.hok e
  obtain ⟨u, hu, ru⟩ := RelO.some_of (v := v) (o := mA f) (by rw [← l]; exact r f)
  exact get_map I.kIn O (c.get f) c.hd n hu (handed_of ru) (h u _ (I.tok _) ru)

theorem getcon_ok {b : Bool} {u : Value} {Q : Value → Shared → Prop} (I : Inv X pins σ H s) (e : H a = some (.ins C dx fs)) (c : Cls X.K C) (k : Con X.K C f v u) (l : fs.lookup f = none)
    (h : ∀ s', Inv X pins σ H s' → Q u s') : wpAny (model X.prog X.w) A (getAttr (.ref a) f b) Q E s := by
  obtain ⟨mA, O, r, _, _, _⟩ := ins_get I.hok e
  have hn : mA f = none := RelO.none_of (by rw [← l]; exact r f)
  exact get_const I.kIn O (c.get f) c.hd k.at_ k.get k.cp hn (handed_of k.rel) (h _ (I.tok _))

theorem getmeth_ok {m : Str} {g : Addr} {pl : Sem Bool} {Q : Value × List Value → Shared → Prop} (I : Inv X pins σ H s) (e : H a = some (.ins C dx fs)) (c : Cls X.K C) (k : Meth X.K C m g) (l : fs.lookup m = none)
    (h : Q (.ref g, [.ref a]) s) : wpAny (model X.prog X.w) A (getMethod (.ref a) m pl) Q E s := by
  obtain ⟨mA, O, r, _, _, _⟩ := ins_get I.hok e
  have hn : mA m = none := RelO.none_of (by rw [← l]; exact r m)
  exact get_meth I.kIn O (c.get m) k.at_ k.fn hn h

theorem setattr_ok {y : V} {u : Value} {Q : Unit → Shared → Prop} (I : Inv X pins σ H s) (e : H a = some (.ins C dx fs)) (c : Cls X.K C) (n : NoAttr X.K C f) (hl : fs.length < 1000) (ry : RelV y u)
    (h : ∀ s', Inv X pins σ (upd H a (.ins C dx (putF f y fs))) s' → Q () s') : wpAny (model X.prog X.w) A (setAttr (.ref a) f u) Q E s := by
  obtain ⟨mA, O, r, wi, _, ho⟩ := ins_get I.hok e
  have hz : (fs.map (·.1)).length ≤ sizeLine := by rw [List.length_map, sizeLine_eq]; omega
  refine set_map I.kIn O c.sa c.po n.taker c.hd wi hz fun h' O' sb => h _ ?_
  have hd : ∃ o, h'.get? dx = some o := let ⟨o, _, _, e', _⟩ := O'.ns; ⟨o, e'⟩
  refine I.write (x := a) (e := dx) (by rw [e]; exact True.intro) (.inr ho) (fun b q hb z => (sb.2 b hb).trans z) hd ?_
  refine ⟨by rw [upd_ne O.ne]; exact ho, ?_, O.ne, O'.obj, _, O'.ns, fun g => ?_, fun g hg => ?_⟩
  · have := length_putF f y fs; omega
  · show RelO ((putF f y fs).lookup g) (if g = f then some u else mA g)
    rw [lookup_putF]
    by_cases q : g = f
    · rw [if_pos q, if_pos q]; exact ry
    · rw [if_neg q, if_neg q]; exact r g
  · by_cases q : g = f
    · rw [q]; exact (keys_putF f y fs).1
    · refine (keys_putF f y fs).2 g (wi g fun z => hg ?_)
      show (if g = f then some u else mA g) = none
      rw [if_neg q]; exact z

/-- a new instance, tracked, without attributes -/
theorem Inv.made (I : Inv X pins σ H s) : Inv X pins σ (upd (upd H s.heap.objs.size (.own (s.heap.objs.size + 1))) (s.heap.objs.size + 1) (.ins C s.heap.objs.size []))
    { s with heap := (s.heap.push PySem.W.emptyDict).push (PySem.W.instObj C s.heap.objs.size) } := by
  have e1 : (s.heap.push PySem.W.emptyDict).get? s.heap.objs.size = some PySem.W.emptyDict := Heap.get?_push_size s.heap rfl
  have e2 : ((s.heap.push PySem.W.emptyDict).push (PySem.W.instObj C s.heap.objs.size)).get? (s.heap.objs.size + 1) = some (PySem.W.instObj C s.heap.objs.size) := by
    have := Heap.get?_push_size (s.heap.push PySem.W.emptyDict) (o := PySem.W.instObj C s.heap.objs.size) rfl
    rwa [Heap.size_push] at this
  have e3 : (s.heap.push PySem.W.emptyDict).Ns s.heap.objs.size (fun _ => none) := ⟨PySem.W.emptyDict, #[], _, e1, rfl, (fun e he => absurd he (by simp)), fun _ => rfl⟩
  have I1 := I.laid (a := s.heap.objs.size) (o := .own (s.heap.objs.size + 1)) (h' := s.heap.push PySem.W.emptyDict) (t' := s.toks) (fun b u q => Heap.get?_push_of_some _ q) (Nat.le_refl _) ⟨_, e1⟩
  refine I1.laid (a := s.heap.objs.size + 1) (o := .ins C s.heap.objs.size []) (t' := s.toks) (fun b u q => Heap.get?_push_of_some _ q) (Nat.le_of_eq (Heap.size_push _ _)) ?_
  have ne : s.heap.objs.size ≠ s.heap.objs.size + 1 := Nat.ne_of_lt (Nat.lt_succ_self _)
  refine ⟨by rw [upd_ne ne, upd_same], Nat.zero_le _, ne, e2, fun _ => none, (Heap.Ns1.of_empty e3).at fun o q => Heap.get?_push_of_some _ q, fun _ => True.intro, fun y hy => absurd rfl hy⟩

/-- e.f where nothing but the object is asked: through attributeBase (super) and the last hold -/
theorem attr_of {prog : Program} {w : World} {env : Env} {e : Expr} {f : Str} {pos : Pos} {s : Shared} {Q : Value → Shared → Prop} (hb : attributeBase e f env (eval e env) = eval e env)
    (h : wpAny (model prog w) A (eval e env) (fun o s₁ => wpAny (model prog w) A (getAttr o f true) Q E s₁) E s) : wpAny (model prog w) A (eval (.Attribute e f pos) env) Q E s :=
  Attribute_any_ h (by rw [arm_eval_Attribute, hb])
end

/-! ### readings and rules -/
/-- e.f, an attribute of the instance -/
def tFld (K : PySem.W.Frag) (ta : TE) (f : Str) : TE := fun σ H Q => ta σ H fun x H1 => ∃ a C dx fs v, x = .ref a ∧ H1 a = some (.ins C dx fs) ∧ Cls K C ∧ NoAttr K C f ∧ fs.lookup f = some v ∧ Q v H1
/-- e.f, a constant of the class -/
def tCon (K : PySem.W.Frag) (ta : TE) (f : Str) : TE := fun σ H Q => ta σ H fun x H1 => ∃ a C dx fs v u, x = .ref a ∧ H1 a = some (.ins C dx fs) ∧ Cls K C ∧ Con K C f v u ∧ fs.lookup f = none ∧ Q v H1
/-- e.f = value -/
def sFld (K : PySem.W.Frag) (ta tv : TE) (f : Str) : TS := fun D σ H => tv σ H fun y H1 => ta σ H1 fun x H2 => ∃ a C dx fs, x = .ref a ∧ H2 a = some (.ins C dx fs) ∧ Cls K C ∧ NoAttr K C f ∧ fs.length < 1000 ∧
  D.nx σ (upd H2 a (.ins C dx (putF f y fs)))
/-- an augmented operator on two values -/
def InOp (X : Cx) (op : Operator) (rd : V → V → Hp → VK → Prop) : Prop :=
  ∀ (pins : List (Addr × Obj)) (s : Shared) (σ : St) (H : Hp) (x y : V) (u v : Value) (Q : VK), Inv X pins σ H s → RelV x u → RelV y v → rd x y H Q → wpAny (model X.prog X.w) X.A (inplaceOp op u v) (EP X pins σ Q) X.xe s
/-- e.f op= value -/
def sFldAug (K : PySem.W.Frag) (ta tv : TE) (rd : V → V → Hp → VK → Prop) (f : Str) : TS := fun D σ H => ta σ H fun x H1 => ∃ a C dx fs v, x = .ref a ∧ H1 a = some (.ins C dx fs) ∧ Cls K C ∧ NoAttr K C f ∧ fs.lookup f = some v ∧
  tv σ H1 fun y H2 => rd v y H2 fun z H3 => ∃ dx' fs', H3 a = some (.ins C dx' fs') ∧ fs'.length < 1000 ∧ D.nx σ (upd H3 a (.ins C dx' (putF f z fs')))

section
variable {X : Cx} {o e value : Expr} {f : Str} {pos pos' tpos : Pos} {ta tv : TE}
theorem pe_fld (he : PE X e ta) (hb : attributeBase e f X.env (eval e X.env) = eval e X.env) : PE X (.Attribute e f pos) (tFld X.K ta f) := by
  intro pins s σ H Q I h
  refine attr_of hb (thn (he pins s σ H _ I h) fun u s1 ⟨x, H1, I1, rx, a, C, dx, fs, v, ex, ea, c, n, l, q⟩ => ?_)
  subst ex
  obtain rfl : u = Value.ref a := rx
  exact getattr_ok I1 ea c n l fun u' s2 I2 ru => ⟨v, H1, I2, ru, q⟩
theorem pe_con (he : PE X e ta) (hb : attributeBase e f X.env (eval e X.env) = eval e X.env) : PE X (.Attribute e f pos) (tCon X.K ta f) := by
  intro pins s σ H Q I h
  refine attr_of hb (thn (he pins s σ H _ I h) fun u s1 ⟨x, H1, I1, rx, a, C, dx, fs, v, u0, ex, ea, c, k, l, q⟩ => ?_)
  subst ex
  obtain rfl : u = Value.ref a := rx
  exact getcon_ok I1 ea c k l fun s2 I2 => ⟨v, H1, I2, k.rel, q⟩
theorem ps_fld (ha : PE X o ta) (hv : PE X value tv) (hs : swapsWith value (some (.Attribute o f pos')) pos.line X.env = pure false) : PS X (.Assign [.Attribute o f pos'] value pos) (sFld X.K ta tv f) := by
  intro pins s σ H D I h
  refine plainObj_wpAny_Assign_Attribute (thn (hv pins s σ H _ I h) fun u s1 ⟨y, H1, I1, ry, q⟩ => thn (ha pins s1 σ H1 _ I1 q) fun ov s2 ⟨x, H2, I2, rx, a, C, dx, fs, ex, ea, c, n, l, q2⟩ => ?_) hs
  subst ex
  obtain rfl : ov = Value.ref a := rx
  exact setattr_ok I2 ea c n l ry fun s3 I3 => ⟨σ, _, I3, q2⟩
theorem ps_fldaug {op : Operator} {rd : V → V → Hp → VK → Prop} (ha : PE X o ta) (hv : PE X value tv) (hop : InOp X op rd) : PS X (.AugAssign (.Attribute o f tpos) op value pos) (sFldAug X.K ta tv rd f) := by
  intro pins s σ H D I h
  refine wpAny_AugAssign_AttributeAny (thn (ha pins s σ H _ I h) fun ov s1 ⟨x, H1, I1, rx, a, C, dx, fs, v, ex, ea, c, n, l, q⟩ => ?_)
  subst ex
  obtain rfl : ov = Value.ref a := rx
  refine getattr_ok I1 ea c n l fun u s2 I2 ru => thn (hv pins s2 σ H1 _ I2 q) fun w3 s3 ⟨y, H2, I3, ry, q3⟩ => thn (hop pins s3 σ H2 v y u w3 _ I3 ru ry q3) fun w4 s4 ⟨z, H3, I4, rz, dx', fs', ea', l', q4⟩ => ?_
  exact setattr_ok I4 ea' c n l' rz fun s5 I5 => ⟨σ, _, I5, q4⟩
def rAdd : V → V → Hp → VK → Prop := fun x y H Q => ∃ i j, x = .int i ∧ y = .int j ∧ Q (.int (i + j)) H
def rSub : V → V → Hp → VK → Prop := fun x y H Q => ∃ i j, x = .int i ∧ y = .int j ∧ Q (.int (i - j)) H
theorem in_add : InOp X .Add rAdd := by
  rintro pins s σ H x y u v Q I rx ry ⟨i, j, rfl, rfl, q⟩
  obtain ⟨t, rfl⟩ := (show ∃ t, u = Value.int i t from rx)
  obtain ⟨t', rfl⟩ := (show ∃ t', v = Value.int j t' from ry)
  exact PyProof.Rows.iadd_int ⟨.int (i + j), H, I.tok _, ⟨_, rfl⟩, q⟩
theorem in_sub : InOp X .Sub rSub := by
  rintro pins s σ H x y u v Q I rx ry ⟨i, j, rfl, rfl, q⟩
  obtain ⟨t, rfl⟩ := (show ∃ t, u = Value.int i t from rx)
  obtain ⟨t', rfl⟩ := (show ∃ t', v = Value.int j t' from ry)
  exact PyProof.Rows.isub_int ⟨.int (i - j), H, I.tok _, ⟨_, rfl⟩, q⟩

/-- what is between an instance and its method: the tree of a method call -/
theorem methcall_of {pl : Sem Bool} {m : Str} {apos : Pos} {args : List Expr} {pins : List (Addr × Obj)} {s : Shared} {σ : St} {H : Hp} {Q : Value → Shared → Prop} {te : TE} (he : PE X e te) (I : Inv X pins σ H s)
    (h : te σ H fun x H1 => ∃ a C dx fs g, x = .ref a ∧ H1 a = some (.ins C dx fs) ∧ Cls X.K C ∧ Meth X.K C m g ∧ fs.lookup m = none ∧
      ∀ s1, Inv X pins σ H1 s1 → wpAny (model X.prog X.w) X.A (callWith pos (.ref g) [.ref a] (backTo pos (starEach args X.env)) (backToKw pos (keywordEach [] X.env))) Q X.xe s1)
    (ht : eval (.Call (.Attribute e m apos) args [] pos) X.env = (do
      let ov ← eval e X.env
      standAt apos.atName
      let (f, first) ← holding [ov] (getMethod ov m pl)
      callWith pos f first (backTo pos (starEach args X.env)) (backToKw pos (keywordEach [] X.env)))) :
    wpAny (model X.prog X.w) X.A (eval (.Call (.Attribute e m apos) args [] pos) X.env) Q X.xe s := by
  refine PySem.W.methodCall_KW (pl := pl) (thn (he pins s σ H _ I h) fun u s1 ⟨x, H1, I1, rx, a, C, dx, fs, g, ex, ea, c, k, l, q⟩ => ?_) ht
  subst ex
  obtain rfl : u = Value.ref a := rx
  exact getmeth_ok I1 ea c k l (q s1 I1)
end

/-! ### isinstance -/
section
variable {X : Cx} {pins : List (Addr × Obj)} {σ : St} {H : Hp} {s : Shared} {A : Around} {E : Value → Shared → Prop} {Q : Value → Shared → Prop} {c : Value} {b : Bool}
/-- the type of a value, as the fragment's deciders take it; for an instance its class -/
inductive TyOf (K : PySem.W.Frag) (H : Hp) : V → Value → Prop where
  | non : TyOf K H .non (.type "NoneType")
  | bl (x : Bool) : TyOf K H (.bl x) (.type "bool")
  | int (i : Int) : TyOf K H (.int i) (.type "int")
  | str (x : Str) : TyOf K H (.str x) (.type "str")
  | flt (x : UInt64) : TyOf K H (.flt x) (.type "float")
  | lst {a : Addr} {xs : List V} (e : H a = some (.lst xs)) : TyOf K H (.ref a) (.type "list")
  | frz {a : Addr} {o : Obj} {xs : List V} (e : H a = some (.frz o (.lst xs))) : TyOf K H (.ref a) (.type "list")
  | tup {a : Addr} {xs : List V} (e : H a = some (.tup xs)) : TyOf K H (.ref a) (.type "tuple")
  | dK {a : Addr} {kvs : List (Key × V)} (e : H a = some (.dK kvs)) : TyOf K H (.ref a) (.type "dict")
  | dT {a : Addr} {kvs : List (List Key × V)} (e : H a = some (.dT kvs)) : TyOf K H (.ref a) (.type "dict")
  | ins {a C dx : Addr} {fs : List (Str × V)} (e : H a = some (.ins C dx fs)) (cl : Cls K C) (ha : PySem.W.findIn K (.ref C) "__class__" = some (some (.builtin "object.__class__")))
      (hn : PySem.W.specialIn K (.builtin "object.__class__") "__get__" = some (some (.builtin "getset_descriptor.__get__"))) (htk : PySem.W.takesIn K (.builtin "object.__class__") = some true)
      (hm : PySem.W.mroIn K C (.type "object") = some true) : TyOf K H (.ref a) (.ref C)
/-- isinstance(x, c) for one class c, a built-in or an own one: kitOne's answer -/
theorem isinst_ok {x : V} {u t : Value} (I : Inv X pins σ H s) (rx : RelV x u) (ty : TyOf X.K H x t) (e : PySem.W.kitOne X.K t c = some b) (h : ∀ tk, Q (.bool b) { s with toks := tk }) :
    wpAny (model X.prog X.w) A (call (.builtin "isinstance") [u, c]) Q E s := by
  cases ty with
  | non => cases (show u = Value.none from rx); exact PySem.W.kia_one PySem.W.kitx_none I.kIn True.intro e (fun z => nomatch z) h
  | bl y => cases (show u = Value.bool y from rx); exact PySem.W.kia_one PySem.W.kitx_bool I.kIn True.intro e (fun z => nomatch z) h
  | int i => obtain ⟨t, q⟩ := (show ∃ t, u = Value.int i t from rx); cases q; exact PySem.W.kia_one PySem.W.kitx_int I.kIn True.intro e (fun z => nomatch z) h
  | str y => obtain ⟨t, q⟩ := (show ∃ t, u = Value.str y t from rx); cases q; exact PySem.W.kia_one PySem.W.kitx_str I.kIn True.intro e (fun z => nomatch z) h
  | flt y => obtain ⟨t, q⟩ := (show ∃ t, u = Value.float y t from rx); cases q; exact PySem.W.kia_one PySem.W.kitx_float I.kIn True.intro e (fun z => nomatch z) h
  | @lst a xs ea =>
    cases (show u = Value.ref a from rx)
    obtain ⟨_, _, n, _, h1⟩ := (show ObjOk X.prog X.w H s.heap a (.lst xs) from I.hok a _ ea)
    exact PySem.W.kia_one PySem.W.kitx_list I.kIn ⟨_, h1, rfl⟩ e (fun z => nomatch z) h
  | @frz a ob xs ea =>
    cases (show u = Value.ref a from rx)
    obtain ⟨_, _, _, n, _, h1⟩ := (show ObjOk X.prog X.w H s.heap a (.frz ob (.lst xs)) from I.hok a _ ea)
    exact PySem.W.kia_one PySem.W.kitx_list I.kIn ⟨_, h1, rfl⟩ e (fun z => nomatch z) h
  | @tup a xs ea =>
    cases (show u = Value.ref a from rx)
    obtain ⟨_, _, _, p⟩ := (show ObjOk X.prog X.w H s.heap a (.tup xs) from I.hok a _ ea)
    obtain ⟨o, h1, h2, _⟩ := p
    exact PySem.W.kia_one PySem.W.kitx_tuple I.kIn ⟨o, h1, h2⟩ e (fun z => nomatch z) h
  | @dK a kvs ea =>
    cases (show u = Value.ref a from rx)
    obtain ⟨_, _, vs, _, p⟩ := (show ObjOk X.prog X.w H s.heap a (.dK kvs) from I.hok a _ ea)
    obtain ⟨o, es, ep, h1, h2, _⟩ := p
    exact PySem.W.kia_one PySem.W.kitx_dict I.kIn ⟨o, h1, h2.1⟩ e (fun z => nomatch z) h
  | @dT a kvs ea =>
    cases (show u = Value.ref a from rx)
    obtain ⟨_, _, xs, _, o, es, ep, h1, h2, _⟩ := (show ObjOk X.prog X.w H s.heap a (.dT kvs) from I.hok a _ ea)
    exact PySem.W.kia_one PySem.W.kitx_dict I.kIn ⟨o, h1, h2.1⟩ e (fun z => nomatch z) h
  | @ins a C dx fs ea cl ha hn htk hm =>
    cases (show u = Value.ref a from rx)
    obtain ⟨mA, O, _⟩ := ins_get I.hok ea
    obtain ⟨od, J, _⟩ := O.look
    exact PySem.W.kia_one (PySem.W.kitx_own (cl.get _) cl.hd ha hn htk hm) I.kIn J e (fun z => nomatch z) h
end
end L2

namespace L2
open PySem PySem.Spec PyProof.Rows

/-! ### room -/
structure Room (k : Nat) (A : Around) : Prop where
  hd : A.handled = none
  dp : A.depth + 3 * k + 5 < recursionLimit
  un : A.units + 16 * k + 200 < cLine
theorem Room.mono {j k : Nat} {A : Around} (r : Room k A) (h : j ≤ k) : Room j A := ⟨r.hd, by have := r.dp; omega, by have := r.un; omega⟩
theorem Room.deeper {k : Nat} {A : Around} (r : Room (k + 1) A) (env : Env) : Room k (A.deeper env) :=
  ⟨r.hd, by have := r.dp; show A.depth + 1 + 3 * k + 5 < _; omega, by have := r.un; show A.units + 3 + 16 * k + 200 < _; omega⟩
theorem Room.in1 {k : Nat} {A : Around} (r : Room (k + 1) A) : Room k A.in1 :=
  ⟨r.hd, by have := r.dp; show A.depth + 3 * k + 5 < _; omega, by have := r.un; show A.units + 1 + 16 * k + 200 < _; omega⟩
theorem make_depth {A : Around} {C : Addr} {us : List Value} {kw : List (Str × Value)} : (A.under (.builtin "type.__call__" ⟨.ref C :: us, kw⟩)).depth = A.depth + 1 := by
  first | rfl | simp [Around.under, Code.weight, Code.isCreation, Code.isGuard, Code.isCaller, Code.frames, Code.isFrame, guardIds]
theorem make_units {A : Around} {C : Addr} {us : List Value} {kw : List (Str × Value)} : (A.under (.builtin "type.__call__" ⟨.ref C :: us, kw⟩)).units = A.units + 1 := by
  first | rfl | simp [Around.under, Code.cUnits, Code.frames, Code.isFrame]
theorem Room.make {k : Nat} {A : Around} (r : Room (k + 1) A) (C : Addr) (us : List Value) (kw : List (Str × Value)) : Room k (A.under (.builtin "type.__call__" ⟨.ref C :: us, kw⟩)) :=
  ⟨r.hd, by have := r.dp; rw [make_depth]; omega, by have := r.un; rw [make_units]; omega⟩
theorem Room.depth {k : Nat} {A : Around} (r : Room k A) : A.depth < recursionLimit := by have := r.dp; omega
theorem Room.units {k : Nat} {A : Around} (r : Room k A) : A.units + 64 < cLine := by have := r.un; omega
theorem Room.units0 {k : Nat} {A : Around} (r : Room k A) : A.units < cLine := by have := r.un; omega

/-! ### argument lists and displays -/
def tNil : TA := fun _ H Q => Q [] H
def tCons (ta : TE) (tr : TA) : TA := fun σ H Q => ta σ H fun x H1 => tr σ H1 fun xs H2 => Q (x :: xs) H2
section
variable {X : Cx} {e : Expr} {es : List Expr} {te : TE} {t : TA} {pos : Pos}
theorem pa_nil : PA X [] tNil := fun _ _ _ _ H Q I h => Calls.spliced_nil ⟨[], H, I, .nil, h⟩
theorem pa_cons (ha : PE X e te) (hr : PA X es t) (hs : starEach (e :: es) X.env = (false, eval e X.env) :: starEach es X.env := by rfl) : PA X (e :: es) (tCons te t) := by
  intro pos pins s σ H Q I h
  rw [hs]
  show wpAny _ _ (spliced ((false, eval e X.env) :: backTo pos (starEach es X.env))) _ _ s
  refine Calls.spliced_cons (thn (ha pins s σ H _ I h) fun u s1 ⟨x, H1, I1, r1, q1⟩ => ?_)
  exact thn (hr pos pins s1 σ H1 _ I1 q1) fun us s2 ⟨xs, H2, I2, r2, q2⟩ => ⟨x :: xs, H2, I2, .cons r1 r2, q2⟩

/-- a tuple, a list of written items -/
def tTup (t : TA) : TE := fun σ H Q => t σ H fun xs H1 => xs.length ≤ sizeLine ∧ ∀ p, H1 p = none → Q (.ref p) (upd H1 p (.tup xs))
def tLst (t : TA) : TE := fun σ H Q => t σ H fun xs H1 => xs.length ≤ sizeLine ∧ ∀ p, H1 p = none → Q (.ref p) (upd H1 p (.lst xs))
theorem pe_tup {x1} (h : PA X es t) : PE X (.Tuple es x1 pos) (tTup t) := by
  intro pins s σ H Q I hq
  refine wpAny_Tuple_spliced (thn (h pos pins s σ H _ I hq) fun us s1 ⟨xs, H1, I1, r, z, q⟩ => ⟨by rw [← r.length]; exact z, ?_⟩)
  have hf : H1 s1.heap.objs.size = none := I1.hok.fresh (Nat.le_refl _)
  refine ⟨.ref s1.heap.objs.size, upd H1 s1.heap.objs.size (.tup xs), I1.laid (t' := s1.toks) (fun b u e => Heap.get?_push_of_some _ e) (Nat.le_refl _) ?_, rfl, q _ hf⟩
  exact ⟨z, us, r, ⟨_, Heap.get?_push_size _ rfl, rfl, _, rfl⟩⟩
theorem pe_lst (h : PA X es t) : PE X (.List es pos) (tLst t) := by
  intro pins s σ H Q I hq
  refine wpAny_List_spliced (thn (h pos pins s σ H _ I hq) fun us s1 ⟨xs, H1, I1, r, z, q⟩ => ⟨by rw [← r.length]; exact z, ?_⟩)
  have hf : H1 s1.heap.objs.size = none := I1.hok.fresh (Nat.le_refl _)
  refine ⟨.ref s1.heap.objs.size, upd H1 s1.heap.objs.size (.lst xs), I1.laid (t' := s1.toks) (fun b u e => Heap.get?_push_of_some _ e) (Nat.le_refl _) ?_, rfl, q _ hf⟩
  exact ⟨z, us, 0, r, Heap.get?_push_size _ rfl⟩
end

/-! ### what a def promises -/
/-- a def's promise: the bound arguments in the parameters' order, the heap, the wanted end, the wanted exception -/
abbrev Sp := List V → Hp → VK → XK → Prop
/-- how an exception lies behind a call (file 08 gives it): the callers' frames, abstract heap and state ahead of the call, the wish, the exception, the state -/
abbrev CXT := List Env → Hp → Shared → XK → Value → Shared → Prop

/-- the state at a call -/
structure Env0 (P : Program) (w : World) (K : PySem.W.Frag) (mg : Str → Option Value) (base : Heap) (A : Around) (outer : List Env) (s : Shared) (H : Hp) : Prop where
  frames : A.frames = some outer
  mod : Mod K mg base
  bs : ∀ b o, base.get? b = some o → s.heap.get? b = some o ∧ H b = none
  bsz : base.objs.size ≤ s.heap.objs.size
  funs : s.heap.FunFrames base outer
  frf : ∀ b ∈ frs outer, H b = none
  hok : HOk P w H s.heap
  bare : AllBare s.gens
/-- a call's end -/
def CE (outer : List Env) (P : Program) (w : World) (H : Hp) (s : Shared) (Q : VK) (u : Value) (s' : Shared) : Prop :=
  ∃ v H', s'.os = s.os ∧ AllBare s'.gens ∧ Un (frs outer) [] H H' s.heap s'.heap ∧ HOk P w H' s'.heap ∧ RelV v u ∧ Q v H'
def CR (CX : CXT) (outer : List Env) (P : Program) (w : World) (H : Hp) (s : Shared) (Q : VK) (E : XK) (r : Result) (s' : Shared) : Prop :=
  match r with
  | .ok (.ret u) => CE outer P w H s Q u s'
  | .ok _ => False
  | .error e => CX outer H s E e s'
structure FnOk (P : Program) (w : World) (K : PySem.W.Frag) (mg : Str → Option Value) (base : Heap) (CX : CXT) (k : Nat) (f : Addr) (fd : FuncData) (ps : List Str) (sp : Sp) : Prop where
  len : ∀ vs H Q E, sp vs H Q E → vs.length = ps.length
  run : ∀ (A : Around) (outer : List Env) (s : Shared) (H : Hp) (args : Args) (us : List Value) (vs : List V) (Q : VK) (E : XK), Room k A → Env0 P w K mg base A outer s H → BindsTo s fd args (ps.zip us) → Vals vs us → sp vs H Q E →
    codeAny (model P w) A (.call (.ref f) args) (CR CX outer P w H s Q E) s
theorem FnOk.mono {P : Program} {w : World} {K : PySem.W.Frag} {mg : Str → Option Value} {base : Heap} {CX : CXT} {j k : Nat} {f : Addr} {fd : FuncData} {ps : List Str} {sp : Sp} (F : FnOk P w K mg base CX j f fd ps sp) (h : j ≤ k) :
    FnOk P w K mg base CX k f fd ps sp := ⟨F.len, fun A outer s H args us vs Q E hr => F.run A outer s H args us vs Q E (hr.mono h)⟩
/-- a weaker promise -/
theorem FnOk.imp {P : Program} {w : World} {K : PySem.W.Frag} {mg : Str → Option Value} {base : Heap} {CX : CXT} {k : Nat} {f : Addr} {fd : FuncData} {ps : List Str} {sp sp' : Sp} (F : FnOk P w K mg base CX k f fd ps sp)
    (h : ∀ vs H Q E, sp' vs H Q E → sp vs H Q E) : FnOk P w K mg base CX k f fd ps sp' :=
  ⟨fun vs H Q E q => F.len vs H Q E (h _ _ _ _ q), fun A outer s H args us vs Q E hr he hb hv hs => F.run A outer s H args us vs Q E hr he hb hv (h _ _ _ _ hs)⟩

theorem Env0.make {P : Program} {w : World} {K : PySem.W.Frag} {mg : Str → Option Value} {base : Heap} {A : Around} {outer : List Env} {s : Shared} {H : Hp} (e : Env0 P w K mg base A outer s H) (C : Addr) (us : List Value) (kw : List (Str × Value)) :
    Env0 P w K mg base (A.under (.builtin "type.__call__" ⟨.ref C :: us, kw⟩)) outer s H := ⟨by first | exact e.frames | (simpa [Around.under, Code.envs, Code.isFrame, pushEnvs] using e.frames), e.mod, e.bs, e.bsz, e.funs, e.frf, e.hok, e.bare⟩
theorem Env0.in1 {P : Program} {w : World} {K : PySem.W.Frag} {mg : Str → Option Value} {base : Heap} {A : Around} {outer : List Env} {s : Shared} {H : Hp} (e : Env0 P w K mg base A outer s H) :
    Env0 P w K mg base A.in1 outer s H := ⟨e.frames, e.mod, e.bs, e.bsz, e.funs, e.frf, e.hok, e.bare⟩

section
variable {X : Cx} {pins : List (Addr × Obj)} {σ : St} {H : Hp} {s s' : Shared}
/-- from a body: what a callee wants -/
theorem Inv.env0 (I : Inv X pins σ H s) : Env0 X.prog X.w X.K X.mg X.base X.A X.stack s H :=
  ⟨I.ok.frames, I.ok.mod, I.bs, Nat.le_trans I.ok.bsz I.sz, I.stack, I.stkFree, I.hok, I.bare⟩
/-- behind a call -/
theorem Inv.after {Q : VK} {u : Value} (I : Inv X pins σ H s) (h : CE X.stack X.prog X.w H s Q u s') : EP X pins σ Q u s' := by
  obtain ⟨v, H', os, bare, un, hok, r, q⟩ := h
  obtain ⟨hh, g, d, t, os'⟩ := s'
  obtain rfl : os' = s.os := os
  exact ⟨v, H', I.call (h' := hh) (g' := g) (d' := d) (t' := t) (ch := []) un hok bare (fun b z => absurd z (by simp)), r, q⟩
end

/-! ### calls -/
/-- f(..): the written arguments, then the defaults dvs; E: what is wanted of an exception -/
def tCall (sp : Sp) (dvs : List V) (E : XK) (t : TA) : TE := fun σ H Q => t σ H fun vs H1 => sp (vs ++ dvs) H1 Q E
/-- o.m(..) of an instance of the class at C -/
def tMeth (C : Addr) (m : Str) (sp : Sp) (dvs : List V) (E : XK) (ta : TE) (t : TA) : TE := fun σ H Q => ta σ H fun x H1 => ∃ a dx fs, x = .ref a ∧ H1 a = some (.ins C dx fs) ∧ fs.lookup m = none ∧
  t σ H1 fun vs H2 => sp (x :: (vs ++ dvs)) H2 Q E
/-- C(..): a new instance and its dict, then __init__ -/
def tMake (C : Addr) (sp : Sp) (dvs : List V) (E : XK) (t : TA) : TE := fun σ H Q => t σ H fun vs H1 => ∀ x dx, H1 x = none → H1 dx = none → dx ≠ x →
  sp (.ref x :: (vs ++ dvs)) (upd (upd H1 dx (.own x)) x (.ins C dx [])) (fun v H2 => v = .non ∧ Q (.ref x) H2) E

/-- how the parameters are bound: us the positional arguments, kw the keywords' values by name, ds the defaults that fill up -/
def Binds (K : PySem.W.Frag) (fd : FuncData) (ps : List Str) (ds : List Value) : Prop :=
  ∀ (s : Shared) (us : List Value), K.In s.heap → (us ++ ds).length = ps.length → BindsTo s fd ⟨us, []⟩ (ps.zip (us ++ ds))
/-- every parameter is given -/
theorem Binds.all {K : PySem.W.Frag} {fd : FuncData} {ps : List Str} (h : ∀ us : List Value, us.length = ps.length → bindArgs fd ⟨us, []⟩ = pure (ps.zip us)) : Binds K fd ps [] := fun s us _ hl => by
  rw [List.append_nil] at hl ⊢
  exact .of_eq (h us hl)

/-- an exception of a callee reaches what this body wants of exceptions -/
def Passes (CX : CXT) (X : Cx) (E : XK) : Prop := ∀ (pins : List (Addr × Obj)) (σ : St) (H : Hp) (s : Shared) (e : Value) (s' : Shared), Inv X pins σ H s → CX X.stack H s E e s' → X.xe e s'

section
variable {X : Cx} {CX : CXT} {k : Nat} {f C : Addr} {fd : FuncData} {ps : List Str} {sp : Sp} {dvs : List V} {ds : List Value} {E : XK} {x m : Str} {p pos apos : Pos} {e o : Expr} {es : List Expr} {ta : TE} {t : TA}

/-- the callee runs -/
theorem run_fn {pins : List (Addr × Obj)} {σ : St} {H : Hp} {s : Shared} {Q : VK} {us : List Value} {vs : List V} (F : FnOk X.prog X.w X.K X.mg X.base CX k f fd ps sp) (hr : Room k X.A) (hb : Binds X.K fd ps ds) (hd : Vals dvs ds) (hx : Passes CX X E)
    (I : Inv X pins σ H s) (r : Vals vs us) (h : sp (vs ++ dvs) H Q E) : wpAny (model X.prog X.w) X.A (call (.ref f) us) (EP X pins σ Q) X.xe s := by
  have r2 : Vals (vs ++ dvs) (us ++ ds) := r.append hd
  have hl : (us ++ ds).length = ps.length := by rw [← r2.length]; exact F.len _ _ _ _ h
  refine wpAny_call (codeAny_mono (F.run X.A X.stack s H ⟨us, []⟩ (us ++ ds) (vs ++ dvs) Q E hr I.env0 (hb s us I.kIn hl) r2 h) fun r s' hq => ?_)
  cases r with
  | error e => exact hx pins σ H s e s' I hq
  | ok fl =>
    cases fl with
    | ret u => exact I.after hq
    | next => exact False.elim hq
    | brk => exact False.elim hq
    | cont => exact False.elim hq

theorem pe_call (F : FnOk X.prog X.w X.K X.mg X.base CX k f fd ps sp) (hr : Room k X.A) (hg : Gl X x) (hm : X.mg x = some (.ref f)) (hk : PySem.W.keepIn X.K (.ref f) = true) (hb : Binds X.K fd ps ds) (hd : Vals dvs ds) (hx : Passes CX X E)
    (ha : PA X (e :: es) t) (hdb : (x == ("__debug__" : Str)) = false := by decide) (he : starEach (e :: es) X.env = (false, eval e X.env) :: starEach es X.env := by rfl) (hpl : (backTo pos (starEach es X.env)).any (·.1) = false := by rfl) :
    PE X (.Call (.Name x p) (e :: es) [] pos) (tCall sp dvs E t) := by
  intro pins s σ H Q I h
  refine wpAny_Call_Name_kw (ld_glob I hg hm ?_ hdb)
  refine PySem.W.callWith_K (h₀ := X.base) I.ok.mod.kin hk (thn (ha pos pins s σ H _ I h) fun us s1 ⟨vs, H1, I1, r, q⟩ => ⟨I1.kIn, ?_⟩) he hpl
  exact run_fn F hr hb hd hx I1 r q
theorem pe_call0 (F : FnOk X.prog X.w X.K X.mg X.base CX k f fd ps sp) (hr : Room k X.A) (hg : Gl X x) (hm : X.mg x = some (.ref f)) (hk : PySem.W.keepIn X.K (.ref f) = true) (hb : Binds X.K fd ps ds) (hd : Vals dvs ds) (hx : Passes CX X E)
    (hdb : (x == ("__debug__" : Str)) = false := by decide) : PE X (.Call (.Name x p) [] [] pos) (tCall sp dvs E tNil) := by
  intro pins s σ H Q I h
  refine wpAny_Call_Name_kw (ld_glob I hg hm ?_ hdb)
  exact PySem.W.callWith_K0 I.kIn hk (run_fn (us := []) F hr hb hd hx I .nil h)

/-- o.m(e, ..) -/
theorem pe_meth {pl : Sem Bool} (he : PE X o ta) (c : Cls X.K C) (hm : Meth X.K C m f) (F : FnOk X.prog X.w X.K X.mg X.base CX k f fd ps sp) (hr : Room k X.A) (hb : Binds X.K fd ps ds) (hd : Vals dvs ds) (hx : Passes CX X E) (ha : PA X (e :: es) t)
    (hst : starEach (e :: es) X.env = (false, eval e X.env) :: starEach es X.env := by rfl) (hpl : (backTo pos (starEach es X.env)).any (·.1) = false := by rfl)
    (ht : eval (.Call (.Attribute o m apos) (e :: es) [] pos) X.env = (do
      let ov ← eval o X.env
      standAt apos.atName
      let (f, first) ← holding [ov] (getMethod ov m pl)
      callWith pos f first (backTo pos (starEach (e :: es) X.env)) (backToKw pos (keywordEach [] X.env))) := by rfl) :
    PE X (.Call (.Attribute o m apos) (e :: es) [] pos) (tMeth C m sp dvs E ta t) := by
  intro pins s σ H Q I h
  refine PySem.W.methodCall_KW (pl := pl) (thn (he pins s σ H _ I h) fun u s1 ⟨x, H1, I1, rx, a, dx, fs, ex, ea, l, q⟩ => ?_) ht
  subst ex
  obtain rfl : u = Value.ref a := rx
  refine getmeth_ok I1 ea c hm l ?_
  refine PySem.W.callWith_K (first := [.ref a]) (h₀ := X.base) I.ok.mod.kin hm.kp (thn (ha pos pins s1 σ H1 _ I1 q) fun us s2 ⟨vs, H2, I2, r, q2⟩ => ⟨I2.kIn, ?_⟩) hst hpl
  exact run_fn (us := .ref a :: us) (vs := .ref a :: vs) F hr hb hd hx I2 (.cons rfl r) q2
/-- o.m() -/
theorem pe_meth0 {pl : Sem Bool} (he : PE X o ta) (c : Cls X.K C) (hm : Meth X.K C m f) (F : FnOk X.prog X.w X.K X.mg X.base CX k f fd ps sp) (hr : Room k X.A) (hb : Binds X.K fd ps ds) (hd : Vals dvs ds) (hx : Passes CX X E)
    (ht : eval (.Call (.Attribute o m apos) [] [] pos) X.env = (do
      let ov ← eval o X.env
      standAt apos.atName
      let (f, first) ← holding [ov] (getMethod ov m pl)
      callWith pos f first (backTo pos (starEach [] X.env)) (backToKw pos (keywordEach [] X.env))) := by rfl) :
    PE X (.Call (.Attribute o m apos) [] [] pos) (tMeth C m sp dvs E ta tNil) := by
  intro pins s σ H Q I h
  refine PySem.W.methodCall_KW (pl := pl) (thn (he pins s σ H _ I h) fun u s1 ⟨x, H1, I1, rx, a, dx, fs, ex, ea, l, q⟩ => ?_) ht
  subst ex
  obtain rfl : u = Value.ref a := rx
  refine getmeth_ok I1 ea c hm l ?_
  exact PySem.W.callWith_K0 (first := [.ref a]) I1.kIn hm.kp (run_fn (us := [.ref a]) (vs := [.ref a]) F hr hb hd hx I1 (.cons rfl .nil) q)

/-- what a class must have to be made -/
structure Mk (K : PySem.W.Frag) (C f : Addr) : Prop where
  makes : PySem.W.makesIn K C = true
  init : PySem.W.findIn K (.ref C) "__init__" = some (some (.ref f))
  fn : PySem.W.isFn K (.ref f) = true
  kp : PySem.W.keepIn K (.ref C) = true

theorem run_make {pins : List (Addr × Obj)} {σ : St} {H : Hp} {s : Shared} {Q : VK} {us : List Value} {vs : List V} (M : Mk X.K C f) (F : FnOk X.prog X.w X.K X.mg X.base CX k f fd ps sp) (hr : Room (k + 1) X.A) (hb : Binds X.K fd ps ds) (hd : Vals dvs ds)
    (hx : Passes CX X E) (I : Inv X pins σ H s) (r : Vals vs us)
    (h : ∀ x dx, H x = none → H dx = none → dx ≠ x → sp (.ref x :: (vs ++ dvs)) (upd (upd H dx (.own x)) x (.ins C dx [])) (fun v H2 => v = .non ∧ Q (.ref x) H2) E) :
    wpAny (model X.prog X.w) X.A (call (.ref C) us) (EP X pins σ Q) X.xe s := by
  have hq := h (s.heap.objs.size + 1) s.heap.objs.size (I.hok.fresh (Nat.le_succ _)) (I.hok.fresh (Nat.le_refl _)) (Nat.ne_of_lt (Nat.lt_succ_self _))
  have I2 := Inv.made (C := C) I
  have r2 : Vals (V.ref (s.heap.objs.size + 1) :: (vs ++ dvs)) (Value.ref (s.heap.objs.size + 1) :: (us ++ ds)) := .cons rfl (r.append hd)
  have hl : (Value.ref (s.heap.objs.size + 1) :: us ++ ds).length = ps.length := by
    have e := r2.length
    rw [F.len _ _ _ _ hq] at e
    exact e.symm
  refine wpAny_call (make_map (f := f) I.kIn M.makes M.init (beq_iff_eq.mp M.fn) (codeAny_mono (F.run _ X.stack _ _ ⟨Value.ref (s.heap.objs.size + 1) :: us, []⟩ (Value.ref (s.heap.objs.size + 1) :: (us ++ ds)) _ _ E (hr.make C us [])
    (I2.env0.make C us []) (hb _ (Value.ref (s.heap.objs.size + 1) :: us) I2.kIn hl) r2 hq) fun r s' hq' => ?_))
  cases r with
  | error e => exact hx pins σ _ _ e s' I2 hq'
  | ok fl =>
    cases fl with
    | ret u =>
      obtain ⟨v, H', I3, rv, ev, q3⟩ := I2.after hq'
      subst ev
      exact ⟨rv, ⟨V.ref (s.heap.objs.size + 1), H', I3, rfl, q3⟩⟩
    | next => exact False.elim hq'
    | brk => exact False.elim hq'
    | cont => exact False.elim hq'
theorem pe_make (M : Mk X.K C f) (F : FnOk X.prog X.w X.K X.mg X.base CX k f fd ps sp) (hr : Room (k + 1) X.A) (hg : Gl X x) (hm : X.mg x = some (.ref C)) (hb : Binds X.K fd ps ds) (hd : Vals dvs ds) (hx : Passes CX X E)
    (ha : PA X (e :: es) t) (hdb : (x == ("__debug__" : Str)) = false := by decide) (he : starEach (e :: es) X.env = (false, eval e X.env) :: starEach es X.env := by rfl) (hpl : (backTo pos (starEach es X.env)).any (·.1) = false := by rfl) :
    PE X (.Call (.Name x p) (e :: es) [] pos) (tMake C sp dvs E t) := by
  intro pins s σ H Q I h
  refine wpAny_Call_Name_kw (ld_glob I hg hm ?_ hdb)
  refine PySem.W.callWith_K (h₀ := X.base) I.ok.mod.kin M.kp (thn (ha pos pins s σ H _ I h) fun us s1 ⟨vs, H1, I1, r, q⟩ => ⟨I1.kIn, ?_⟩) he hpl
  exact run_make M F hr hb hd hx I1 r q
theorem pe_make0 (M : Mk X.K C f) (F : FnOk X.prog X.w X.K X.mg X.base CX k f fd ps sp) (hr : Room (k + 1) X.A) (hg : Gl X x) (hm : X.mg x = some (.ref C)) (hb : Binds X.K fd ps ds) (hd : Vals dvs ds) (hx : Passes CX X E)
    (hdb : (x == ("__debug__" : Str)) = false := by decide) : PE X (.Call (.Name x p) [] [] pos) (tMake C sp dvs E tNil) := by
  intro pins s σ H Q I h
  refine wpAny_Call_Name_kw (ld_glob I hg hm ?_ hdb)
  exact PySem.W.callWith_K0 I.kIn M.kp (run_make (us := []) M F hr hb hd hx I .nil h)
end

/-! ### keywords -/
/-- the values of the keywords, from the left -/
def PK (X : Cx) (kws : List Keyword) (t : TA) : Prop :=
  ∀ (pos : Pos) (pins : List (Addr × Obj)) (s : Shared) (σ : St) (H : Hp) (Q : List V → Hp → Prop), Inv X pins σ H s → t σ H Q → wpAny (model X.prog X.w) X.A (evalAll ((backToKw pos (keywordEach kws X.env)).map (·.2))) (AP X pins σ Q) X.xe s
section
variable {X : Cx} {CX : CXT} {k : Nat} {f C : Addr} {fd : FuncData} {ps ks : List Str} {sp : Sp} {E : XK} {x m : Str} {p pos apos kpos : Pos} {e o : Expr} {es : List Expr} {kws : List Keyword} {te ta : TE} {t tk : TA} {nm : Option Str}
theorem pk_nil : PK X [] tNil := fun _ _ _ _ H Q I h => wpAny_evalAll_nil ⟨[], H, I, .nil, h⟩
theorem pk_cons (ha : PE X e te) (hr : PK X kws t) : PK X (⟨nm, e, kpos⟩ :: kws) (tCons te t) := by
  intro pos pins s σ H Q I h
  show wpAny _ _ (evalAll ((do let v ← eval e X.env; standAt pos; pure v) :: (backToKw pos (keywordEach kws X.env)).map (·.2))) _ _ s
  refine wpAny_evalAll_cons (wpAny_bind (thn (ha pins s σ H _ I h) fun u s1 ⟨x, H1, I1, r1, q1⟩ => wpAny_bind (wpAny_standAt (wpAny_pure ?_))))
  exact thn (hr pos pins s1 σ H1 _ I1 q1) fun us s2 ⟨xs, H2, I2, r2, q2⟩ => ⟨x :: xs, H2, I2, .cons r1 r2, q2⟩

/-- how a call with keywords binds: g puts the positional values us and the keywords' values ws (names ks) in the parameters' order, defaults among them -/
structure KBinds (K : PySem.W.Frag) (fd : FuncData) (ps ks : List Str) (g : List Value → List Value → List Value) (gV : List V → List V → List V) : Prop where
  to : ∀ (s : Shared) (us ws : List Value), K.In s.heap → (g us ws).length = ps.length → BindsTo s fd ⟨us, ks.zip ws⟩ (ps.zip (g us ws))
  rel : ∀ {vs : List V} {us : List Value} {zs : List V} {ws : List Value}, Vals vs us → Vals zs ws → Vals (gV vs zs) (g us ws)
def tCallK (sp : Sp) (gV : List V → List V → List V) (E : XK) (t tk : TA) : TE := fun σ H Q => t σ H fun vs H1 => tk σ H1 fun zs H2 => sp (gV vs zs) H2 Q E
variable {g : List Value → List Value → List Value} {gV : List V → List V → List V}
theorem run_fnk {pins : List (Addr × Obj)} {σ : St} {H : Hp} {s : Shared} {Q : VK} {us ws : List Value} {vs zs : List V} (F : FnOk X.prog X.w X.K X.mg X.base CX k f fd ps sp) (hr : Room k X.A) (hb : KBinds X.K fd ps ks g gV) (hx : Passes CX X E)
    (I : Inv X pins σ H s) (r : Vals vs us) (rz : Vals zs ws) (h : sp (gV vs zs) H Q E) : wpAny (model X.prog X.w) X.A (call (.ref f) us (ks.zip ws)) (EP X pins σ Q) X.xe s := by
  have r2 := hb.rel r rz
  have hl : (g us ws).length = ps.length := by rw [← r2.length]; exact F.len _ _ _ _ h
  refine wpAny_call (codeAny_mono (F.run X.A X.stack s H ⟨us, ks.zip ws⟩ (g us ws) (gV vs zs) Q E hr I.env0 (hb.to s us ws I.kIn hl) r2 h) fun r s' hq => ?_)
  cases r with
  | error e => exact hx pins σ H s e s' I hq
  | ok fl =>
    cases fl with
    | ret u => exact I.after hq
    | next => exact False.elim hq
    | brk => exact False.elim hq
    | cont => exact False.elim hq
/-- f(e, .., k = v, ..) -/
theorem pe_callK (F : FnOk X.prog X.w X.K X.mg X.base CX k f fd ps sp) (hr : Room k X.A) (hg : Gl X x) (hm : X.mg x = some (.ref f)) (hk : PySem.W.keepIn X.K (.ref f) = true) (hb : KBinds X.K fd ps ks g gV) (hx : Passes CX X E)
    (ha : PA X (e :: es) t) (hkw : PK X kws tk) (hall : (backToKw pos (keywordEach kws X.env)).all (·.1.isSome) = true := by rfl) (hks : (backToKw pos (keywordEach kws X.env)).filterMap (·.1) = ks := by rfl)
    (hdb : (x == ("__debug__" : Str)) = false := by decide) (he : starEach (e :: es) X.env = (false, eval e X.env) :: starEach es X.env := by rfl)
    (hpl : ((backTo pos (starEach (e :: es) X.env)).any (·.1) || (backToKw pos (keywordEach kws X.env)).any (·.1.isNone)) = false := by rfl) :
    PE X (.Call (.Name x p) (e :: es) kws pos) (tCallK sp gV E t tk) := by
  intro pins s σ H Q I h
  refine wpAny_Call_Name_kw (ld_glob I hg hm ?_ hdb)
  refine PySem.W.callWith_KW (h₀ := X.base) I.ok.mod.kin hk hall (thn (ha pos pins s σ H _ I h) fun us s1 ⟨vs, H1, I1, r, q⟩ => ?_) hpl he
  refine thn (hkw pos pins s1 σ H1 _ I1 q) fun ws s2 ⟨zs, H2, I2, rz, q2⟩ => ⟨I2.kIn, ?_⟩
  rw [hks]
  exact run_fnk F hr hb hx I2 r rz q2
end

/-! ### a def's body keeps its promise -/
/-- names: the parameters first -/
structure FnScope (N P : List Str) (sc : Scope) : Prop where
  kind : sc.kind = .function
  co : sc.isCoroutine = false
  gen : sc.isGenerator = false
  nd : N.Nodup
  pre : N.take P.length = P
  par : ∀ x ∈ P, sc.names.lookup x = some .local ∨ sc.names.lookup x = some .cell
  nofree : ∀ y ∈ sc.names, y.2 ≠ .free

theorem bindL_out {kindOf : Str → Option NameKind} {x : Str} : ∀ {binds : List (Str × Value)} {m : Str → Option Value}, (∀ v, (x, v) ∉ binds) → bindL kindOf binds m x = m x
  | [], _, _ => rfl
  | (n, v) :: r, m, h => by
    unfold bindL
    rw [bindL_out fun w hw => h w (List.mem_cons_of_mem _ hw)]
    split
    · have : x ≠ n := by rintro rfl; exact h v List.mem_cons_self
      simp [this]
    · rfl
theorem bindC_out {kindOf : Str → Option NameKind} {x : Str} : ∀ {binds : List (Str × Value)} {m : Str → Option Value}, (∀ v, (x, v) ∉ binds) → bindC kindOf binds m x = m x
  | [], _, _ => rfl
  | (n, v) :: r, m, h => by
    unfold bindC
    rw [bindC_out fun w hw => h w (List.mem_cons_of_mem _ hw)]
    split
    · rfl
    · have : x ≠ n := by rintro rfl; exact h v List.mem_cons_self
      simp [this]
theorem bindL_get {kindOf : Str → Option NameKind} {x : Str} {v : Value} : ∀ {P : List Str} {vs : List Value} {i : Nat} {m : Str → Option Value}, P.Nodup → P[i]? = some x → vs[i]? = some v → kindOf x = some .local →
    bindL kindOf (P.zip vs) m x = some v
  | [], _, _, _, _, h, _, _ => by simp at h
  | _ :: _, [], _, _, _, _, h, _ => by simp at h
  | p :: P, w :: vs, 0, m, nd, h1, h2, hk => by
    simp at h1 h2; subst h1; subst h2
    show bindL kindOf ((p, w) :: P.zip vs) m p = _
    unfold bindL
    rw [bindL_out fun v hv => (List.nodup_cons.mp nd).1 (List.of_mem_zip hv).1, if_pos hk]
    simp
  | p :: P, w :: vs, i + 1, m, nd, h1, h2, hk => by
    show bindL kindOf ((p, w) :: P.zip vs) m x = _
    unfold bindL
    exact bindL_get (i := i) (List.nodup_cons.mp nd).2 (by simpa using h1) (by simpa using h2) hk
theorem bindC_get {kindOf : Str → Option NameKind} {x : Str} {v : Value} : ∀ {P : List Str} {vs : List Value} {i : Nat} {m : Str → Option Value}, P.Nodup → P[i]? = some x → vs[i]? = some v → kindOf x ≠ some .local →
    bindC kindOf (P.zip vs) m x = some v
  | [], _, _, _, _, h, _, _ => by simp at h
  | _ :: _, [], _, _, _, _, h, _ => by simp at h
  | p :: P, w :: vs, 0, m, nd, h1, h2, hk => by
    simp at h1 h2; subst h1; subst h2
    show bindC kindOf ((p, w) :: P.zip vs) m p = _
    unfold bindC
    rw [bindC_out fun v hv => (List.nodup_cons.mp nd).1 (List.of_mem_zip hv).1, if_neg hk]
    simp
  | p :: P, w :: vs, i + 1, m, nd, h1, h2, hk => by
    show bindC kindOf ((p, w) :: P.zip vs) m x = _
    unfold bindC
    exact bindC_get (i := i) (List.nodup_cons.mp nd).2 (by simpa using h1) (by simpa using h2) hk

/-- the names' values at the entry -/
def start (N : List Str) (vs : List V) : St := vs.map some ++ List.replicate (N.length - vs.length) none

/-- the context of a def's body, at its entry; an exception leaves the frame, then lies as CX says -/
def cxOf (CX : CXT) (P : Program) (w : World) (K : PySem.W.Frag) (mg : Str → Option Value) (base : Heap) (N : List Str) (qual : Str) (scope : Scope) (f : Addr) (cd : Value) (A : Around) (outer : List Env) (s : Shared) (H : Hp) (E : XK) : Cx where
  prog := P
  w := w
  K := K
  mg := mg
  base := base
  A := A.deeper (envOfC qual scope s.heap.objs.size f cd)
  N := N
  s₀ := s
  H₀ := H
  env := envOfC qual scope s.heap.objs.size f cd
  outer := outer
  stack := envOfC qual scope s.heap.objs.size f cd :: outer
  ex := []
  calm := true
  fn := fun _ => true
  pn := []
  xe := fun e s' => wpAny (model P w) (A.deeper (envOfC qual scope s.heap.objs.size f cd)) (leaving (envOfC qual scope s.heap.objs.size f cd) e) (fun _ s'' => CX outer H s E e s'') (fun e' s'' => CX outer H s E e' s'') s'

theorem cell_has {sc : Scope} {n : Nat} {x : Str} (h : sc.names.lookup x = some .cell) : ∃ c, (cellsFrom n sc.names []).lookup x = some c := by
  have q := PySem.W.cellsFrom_some sc.names n [] (.inl h)
  exact Option.isSome_iff_exists.mp q

theorem inv_start {CX : CXT} {P : Program} {w : World} {K : PySem.W.Frag} {mg : Str → Option Value} {base : Heap} {N ps : List Str} {qual : Str} {scope : Scope} {f : Addr} {cd : Value} {A : Around} {outer : List Env} {s s1 : Shared} {H : Hp} {E : XK} {us : List Value} {vs : List V}
    (S : FnScope N ps scope) (hd : A.handled = none) (e0 : Env0 P w K mg base A outer s H) (hl : vs.length = ps.length) (r : Vals vs us)
    (x : InCallC s s.heap.objs.size (bindL (envOfC qual scope s.heap.objs.size f cd).kindOf (ps.zip us) fun _ => none) (cellsFrom (s.heap.objs.size + 1) scope.names []) (bindC (envOfC qual scope s.heap.objs.size f cd).kindOf (ps.zip us) fun _ => none) s1) :
    Inv (cxOf CX P w K mg base N qual scope f cd A outer s H E) [] (start N vs) H s1 := by
  have hpl : ps.length ≤ N.length := by have := congrArg List.length S.pre; rw [List.length_take] at this; omega
  obtain ⟨h1, tk, rfl, hk⟩ := x.done
  have noA : ∀ b : Addr, b ∉ (cxOf CX P w K mg base N qual scope f cd A outer s H E).ex := fun b z => absurd (show b ∈ ([] : List Addr) from z) (by simp)
  refine ⟨⟨e0.mod, S.kind, rfl, rfl, Nat.le_refl _, fun y z c h1 h2 => ?_, fun y hy => ?_, fun y c _ h => ?_, fun _ => hd, Around.frames_deeper e0.frames, .inr ⟨rfl, rfl⟩, fun b z => absurd z (noA b), e0.bs, e0.bsz, fun b _ _ => noA b, fun b z => absurd z (noA b), e0.funs, e0.frf⟩,
    rfl, e0.bare, Un.kept hk, ⟨_, x.toInCall.ns, fun i y v h1 h2 h3 => ?_⟩, fun y c h => ⟨_, x.cell y c h⟩, e0.hok.fresh (Nat.le_refl _), fun y c h => ?_, fun p hp => absurd (show p ∈ ([] : List (Addr × Obj)) from hp) (by simp), e0.hok.kept hk, ?_⟩
  · exact name_of_addr x.apart (PySem.mem_of_lookup h1) (PySem.mem_of_lookup h2)
  · have hy : scope.names.lookup y = some .cell ∨ scope.names.lookup y = some .free := hy
    rcases hy with hy | hy
    · exact cell_has hy
    · exact absurd rfl (S.nofree _ (PySem.mem_of_lookup hy))
  · exact Nat.le_of_lt (x.above y c (PySem.mem_of_lookup h))
  · have hi : i < vs.length := by
      unfold start at h2
      by_cases hi : i < vs.length
      · exact hi
      · rw [List.getElem?_append_right (by simpa using hi)] at h2
        rw [List.getElem?_replicate] at h2
        split at h2 <;> cases h2
    have ha : vs[i]? = some v := by
      unfold start at h2
      rw [List.getElem?_append_left (by simpa using hi), List.getElem?_map] at h2
      cases e : vs[i]? with
      | none => rw [e] at h2; cases h2
      | some a => rw [e] at h2; cases h2; rfl
    obtain ⟨u, hu, rv⟩ := r.get ha
    have hp : ps[i]? = some y := by
      rw [← S.pre, List.getElem?_take_of_lt (by omega)]; exact h1
    have ndP : ps.Nodup := by rw [← S.pre]; exact S.nd.sublist (List.take_sublist _ _)
    refine ⟨u, rv, ?_⟩
    rcases S.par y (List.mem_of_getElem? hp) with k | k
    · exact .inl ⟨k, bindL_get ndP hp hu k⟩
    · obtain ⟨c, e⟩ := cell_has (n := s.heap.objs.size + 1) k
      refine .inr ⟨.inl k, c, e, ?_⟩
      have q := x.cell y c e
      rw [bindC_get ndP hp hu (by show scope.names.lookup y ≠ _; rw [k]; decide)] at q
      exact q
  · exact e0.hok.fresh (Nat.le_of_lt (x.above y c (PySem.mem_of_lookup h)))
  · unfold start
    show _ = N.length
    rw [List.length_append, List.length_map, List.length_replicate]
    omega

/-- THE RULE: a def (or a method) of the text, by its body. The body's reading t is chosen for each entry; it is run at the parameters' values -/
theorem fn_of {CX : CXT} {P : Program} {w : World} {K : PySem.W.Frag} {mg : Str → Option Value} {base : Heap} {k : Nat} {f : Addr} {name qual : Str} {params : Arguments} {body : List Stmt} {scope : Scope} {dV kV doc pm cdv ct oc : Value} {an od : Option Addr}
    {osl : Array (Option Value)} {N ps : List Str} {sp : Sp} (lk : K.lookup f = some ⟨oc, od, .func (PySem.W.fnOf name qual params body scope dV kV doc pm an cdv ct), osl⟩) (hcd : PySem.W.codeIn K cdv qual = true) (S : FnScope N ps scope)
    (len : ∀ vs H Q E, sp vs H Q E → vs.length = ps.length)
    (hbody : ∀ (A : Around) (outer : List Env) (s : Shared) (H : Hp) (vs : List V) (Q : VK) (E : XK), Room k (A.deeper (envOfC qual scope s.heap.objs.size f cdv)) → sp vs H Q E →
      ∃ t, PSs (cxOf CX P w K mg base N qual scope f cdv A outer s H E) body t ∧ t { nx := fun _ H' => Q .non H', rt := Q } (start N vs) H) :
    FnOk P w K mg base CX (k + 1) f (PySem.W.fnOf name qual params body scope dV kV doc pm an cdv ct) ps sp := by
  refine ⟨len, fun A outer s H args us vs Q E hr e0 hb r hsp => ?_⟩
  have hl := len _ _ _ _ hsp
  have KX : K.In s.heap := e0.mod.kin.keeps fun b o e => (e0.bs b o e).1
  have lim : s.heap.NoLimit := e0.mod.nolimit.keeps fun b o e => (e0.bs b o e).1
  have hkind : ∀ y ∈ ps.zip us, scope.names.lookup y.1 = some .local ∨ (scope.names.lookup y.1 = some .cell ∧ ((cellsFrom (s.heap.objs.size + 1) scope.names []).lookup y.1).isSome = true) := fun ⟨n, v⟩ hy => by
    rcases S.par n (List.of_mem_zip hy).1 with q | q
    · exact .inl q
    · exact .inr ⟨q, PySem.W.cellsFrom_some _ _ _ (.inl q)⟩
  refine codeAny_call_function hr.depth (KX _ _ lk) rfl S.co S.gen rfl (PySem.W.codeRec_of KX hcd) (hb _ _ _ _ ?_)
  refine wpAny_newFunctionEnv_cells S.kind hkind fun env he s1 x => ?_
  subst he
  refine ⟨lim.keeps x.toInCall.keep, codeAny_func ?_⟩
  obtain ⟨t, ht, hq⟩ := hbody A outer s H vs Q E (hr.deeper _) hsp
  have I : Inv (cxOf CX P w K mg base N qual scope f cdv A outer s H E) [] (start N vs) H s1 := inv_start S hr.hd e0 hl r x
  refine wpAny_mono (ht [] s1 (start N vs) H _ I hq) (fun fl s' hs => ?_) fun e s' hs => hs
  have fin : ∀ {σ' : St} {H' : Hp} {v : V} {u : Value}, Inv (cxOf CX P w K mg base N qual scope f cdv A outer s H E) [] σ' H' s' → RelV v u → Q v H' → CE outer P w H s Q u s' :=
    fun {σ' H' v u} J rv q => ⟨v, H', J.os, J.bare, J.base, J.hok, rv, q⟩
  cases fl with
  | ret u =>
    obtain ⟨v, σ', H', J, rv, q⟩ := hs
    exact fin J rv q
  | next =>
    obtain ⟨σ', H', J, q⟩ := hs
    exact fin (v := V.non) (u := Value.none) J rfl q
  | brk =>
    obtain ⟨_, _, _, q⟩ := hs
    exact False.elim q
  | cont =>
    obtain ⟨_, _, _, q⟩ := hs
    exact False.elim q
end L2

namespace L2
open PySem PySem.Spec PyProof.Rows
section
variable {X : Cx} {x : Str} {p pos : Pos} {e : Expr} {es : List Expr} {t : TA} {id T : String} {r : List V → Hp → VK → Prop}

def tCB (r : List V → Hp → VK → Prop) (t : TA) : TE := fun σ H Q => t σ H fun vs H1 => r vs H1 Q
/-- f(e, ..), f a built-in function -/
theorem pe_callB (hc : CallR X (.builtin id) r) (hg : Gl X x) (hm : X.mg x = none) (hv : bootBuiltins x = some (.builtin id)) (ha : PA X (e :: es) t) (hn : x ≠ "__name__" := by decide) (hdb : (x == ("__debug__" : Str)) = false := by decide)
    (he : starEach (e :: es) X.env = (false, eval e X.env) :: starEach es X.env := by rfl) (hpl : (backTo pos (starEach es X.env)).any (·.1) = false := by rfl) : PE X (.Call (.Name x p) (e :: es) [] pos) (tCB r t) := by
  intro pins s σ H Q I h
  refine wpAny_Call_Name_kw (ld_blt I hg hm hv ?_ hn hdb)
  exact PyProof.Rows.callWith_builtin1 (thn (ha pos pins s σ H _ I h) fun us s1 ⟨vs, H1, I1, r1, q1⟩ => hc pins s1 σ H1 vs us Q I1 r1 q1) he hpl
/-- T(e, ..), T a built-in type -/
theorem pe_callTy (hc : CallR X (.type T) r) (hg : Gl X x) (hm : X.mg x = none) (hv : bootBuiltins x = some (.type T)) (ha : PA X (e :: es) t) (hn : x ≠ "__name__" := by decide) (hdb : (x == ("__debug__" : Str)) = false := by decide)
    (he : starEach (e :: es) X.env = (false, eval e X.env) :: starEach es X.env := by rfl) (hpl : (backTo pos (starEach es X.env)).any (·.1) = false := by rfl) : PE X (.Call (.Name x p) (e :: es) [] pos) (tCB r t) := by
  intro pins s σ H Q I h
  refine wpAny_Call_Name_kw (ld_blt I hg hm hv ?_ hn hdb)
  exact PyProof.Rows.callWith_type1 (thn (ha pos pins s σ H _ I h) fun us s1 ⟨vs, H1, I1, r1, q1⟩ => hc pins s1 σ H1 vs us Q I1 r1 q1) he hpl
/-- T() -/
theorem pe_callTy0 (hc : CallR X (.type T) r) (hg : Gl X x) (hm : X.mg x = none) (hv : bootBuiltins x = some (.type T)) (hn : x ≠ "__name__" := by decide) (hdb : (x == ("__debug__" : Str)) = false := by decide) :
    PE X (.Call (.Name x p) [] [] pos) (tCB r tNil) := by
  intro pins s σ H Q I h
  refine wpAny_Call_Name_kw (ld_blt I hg hm hv ?_ hn hdb)
  exact PyProof.Rows.callWith_type0 (hc pins s σ H [] [] Q I .nil h)
end
end L2

namespace HT
open PySem PyProof.Rows

/-- t < u of tuples of ints -/
def lexLt : List Int → List Int → Bool
  | [], [] => false
  | [], _ :: _ => true
  | _ :: _, [] => false
  | x :: xs, y :: ys => if x = y then lexLt xs ys else decide (x < y)
theorem lexLt_cons (x y : Int) (xs ys : List Int) : lexLt (x :: xs) (y :: ys) = if x = y then lexLt xs ys else decide (x < y) := rfl
theorem lexLt_nil_nil : lexLt [] [] = false := rfl
theorem lexLt_nil_cons (y : Int) (ys : List Int) : lexLt [] (y :: ys) = true := rfl
theorem lexLt_cons_nil (x : Int) (xs : List Int) : lexLt (x :: xs) [] = false := rfl

theorem eqAt_int (A : Around) (s : Shared) (a : Int) (t : Tok) (c : Int) (u : Tok) : ∃ e, SeqAt.EqAt A s (.int a t) (.int c u) e ∧ (e = true ↔ a = c) :=
  ⟨(a == c), SeqAt.EqAt.int_int a t c u, by simp⟩
theorem rcLt_int (A : Around) (s : Shared) (a : Int) (t : Tok) (c : Int) (u : Tok) (prog : Program) (w : World) (E : Value → Shared → Prop) (Q : Value → Shared → Prop) (h : Q (.bool (decide (a < c))) s) :
    wpAny (model prog w) A (richCompare .Lt (.int a t) (.int c u)) Q E s :=
  (PyProof.Rows.lt_int h : wpAny (model prog w) A (compareOp .Lt (.int a t) (.int c u)) Q E s)

section
open PySem.SeqAt
open PySem.AutoSeq1 (wpAny_loadPart')
open PySem.MeetsSeq PySem.MeetsSeq2 PySem.MeetsSeq3

theorem tuple_lt_ints (l b : Addr) (items items2 : Array Value) (n n2 : Nat) (dd dd2 : Option Addr) (sl sl2 : Array (Option Value)) (ns ms : List Int) (hi : IntsAre items.toList ns) (hj : IntsAre items2.toList ms) :
    Meets (Builtin.«tuple.__lt__» ⟨[.ref l, .ref b], []⟩)
      (fun _ R s => s.heap.get? l = some { cls := .type "tuple", dict := dd, data := .seq items n, slots := sl } ∧ s.heap.get? b = some { cls := .type "tuple", dict := dd2, data := .seq items2 n2, slots := sl2 } ∧
        R (.ok (.ret (.bool (lexLt ns ms)))) s) :=
  .of_wp fun prog w A R s h => by
    obtain ⟨hp, g, d, tk, os⟩ := s; obtain ⟨hl, hb, h⟩ := h
    have f2 := AutoSeq1.sub_tuple_tuple
    have z1 : items.size = ns.length := by rw [← hi.length]; simp
    have z2 : items2.size = ms.length := by rw [← hj.length]; simp
    wp_walk using wpAny_loadPart' hl, wpAny_loadPart' hb, wpAny_forIn_list _ (fun rest b s' => b.1 = none ∧ s' = ⟨hp, g, d, tk, os⟩ ∧ ∃ (vs ws : List Value) (ns' ms' : List Int), rest = vs.zip ws ∧
      IntsAre vs ns' ∧ IntsAre ws ms' ∧ ns'.length + items2.size = ms'.length + items.size ∧ R (.ok (.ret (.bool (lexLt ns' ms')))) ⟨hp, g, d, tk, os⟩) _
    case turn =>
      rintro ⟨y, x⟩ rest b s' ⟨hb', rfl, vs, ws, ns', ms', hz, hvi, hwi, hlen, hR⟩
      cases hvi with
      | nil => rw [List.zip_nil_left] at hz; cases hz
      | cons a t hvi' =>
        cases hwi with
        | nil => rw [List.zip_nil_right] at hz; cases hz
        | cons c u hwi' =>
          rw [List.zip_cons_cons] at hz
          injection hz with hyx hrest
          injection hyx with hy hx
          subst hy hx
          rw [lexLt_cons] at hR
          simp only [List.length_cons] at hlen
          obtain ⟨e, he, hiff⟩ := eqAt_int A.in1 ⟨hp, g, d, tk, os⟩ a t c u
          refine wpAny_bind (he prog w _ _ ?_)
          cases e with
          | true =>
            rw [if_pos (hiff.mp rfl)] at hR
            wp_walk
            exact ⟨rfl, rfl, _, _, _, _, hrest, hvi', hwi', by omega, hR⟩
          | false =>
            rw [if_neg (fun q => absurd (hiff.mpr q) Bool.false_ne_true)] at hR
            have hri := rcLt_int A.in1 ⟨hp, g, d, tk, os⟩ a t c u prog w
            wp_walk using hri
            exact ⟨_, rfl, by simpa using hR⟩
    case fin =>
      rintro ⟨b1, b2⟩ s' ⟨hb', rfl, vs, ws, ns', ms', hz, hvi, hwi, hlen, hR⟩
      simp only at hb'
      subst hb'
      have hv : lexLt ns' ms' = decide (items.size < items2.size) := by
        cases hvi with
        | nil =>
          cases hwi with
          | nil =>
            simp only [List.length_nil] at hlen
            rw [lexLt_nil_nil]
            exact (decide_eq_false (by omega)).symm
          | cons c u hw =>
            simp only [List.length_nil, List.length_cons] at hlen
            rw [lexLt_nil_cons]
            exact (decide_eq_true (by omega)).symm
        | cons a t hv =>
          cases hwi with
          | nil =>
            simp only [List.length_nil, List.length_cons] at hlen
            rw [lexLt_cons_nil]
            exact (decide_eq_false (by omega)).symm
          | cons c u hw =>
            rw [List.zip_cons_cons] at hz
            cases hz
      rw [hv] at hR
      wp_walk
      exact ⟨_, rfl, by simpa [Builtin.Tuple.tupleCompareSizes] using hR⟩
    case h =>
      exact ⟨rfl, rfl, items.toList, items2.toList, ns, ms, rfl, hi, hj, by omega, h⟩
end

section
variable {prog : Program} {w : World} {A : Around} {E : Value → Shared → Prop} {s : Shared}

theorem lt_tupInts {l b : Addr} {items items2 : Array Value} {ns ms : List Int} {Q : Value → Shared → Prop} (hl : IsTup s.heap l items) (hb : IsTup s.heap b items2) (hi : IntsAre items.toList ns) (hj : IntsAre items2.toList ms)
    (hu : A.units < cLine) (h : Q (.bool (lexLt ns ms)) s) : wpAny (model prog w) A (compareOp .Lt (.ref l) (.ref b)) Q E s := by
  obtain ⟨⟨cls, dd, data, sl⟩, ho, hc, n, hd⟩ := id hl
  obtain ⟨⟨cls2, dd2, data2, sl2⟩, ho2, hc2, n2, hd2⟩ := id hb
  simp only at hc hd hc2 hd2
  subst hc hd hc2 hd2
  exact richCompare_meets_room (op := .Lt) ⟨_, ho, rfl⟩ ⟨_, ho2, rfl⟩ PySem.F.slot_tuple_lt PySem.F.entry_tuple_lt (PySem.F.args_tuple_lt_2 _ _) (tuple_lt_ints l b items items2 n n2 dd dd2 sl sl2 ns ms hi hj)
    ⟨ho, ho2, show Value.bool (lexLt ns ms) ≠ Value.notImplemented ∧ Q (.bool (lexLt ns ms)) s from ⟨(fun x => nomatch x), h⟩⟩ hu

/-- t + u, t not empty -/
theorem cat_tup {t b : Addr} {vs ws : List Value} {Q : Value → Shared → Prop} (ht : IsTup s.heap t vs.toArray) (hb : IsTup s.heap b ws.toArray) (hv : vs ≠ [])
    (h1 : ws = [] → Q (.ref t) s) (h2 : ws ≠ [] → Q (.ref s.heap.objs.size) { s with heap := s.heap.push { cls := .type "tuple", data := .seq (vs ++ ws).toArray } })
    (hsz : vs.length + ws.length ≤ sizeLine) : wpAny (model prog w) A (binaryOp .Add (.ref t) (.ref b)) Q E s := by
  obtain ⟨⟨cls, dd, data, sl⟩, ho, hc, n, hd⟩ := id ht
  obtain ⟨⟨cls2, dd2, data2, sl2⟩, ho2, hc2, n2, hd2⟩ := id hb
  simp only at hc hd hc2 hd2
  subst hc hd hc2 hd2
  have e : vs.toArray ++ ws.toArray = (vs ++ ws).toArray := by simp
  by_cases hw : ws = []
  · exact concat_meets ⟨_, ho, rfl⟩ ⟨_, ho2, rfl⟩ noFill_tuple_add seq_tuple_add PySem.F.slot_tuple_add PySem.F.entry_tuple_add (PySem.F.args_tuple_add_2 _ _)
      (tuple_addW1 t b vs.toArray ws.toArray n n2 dd dd2 sl sl2 (by simpa using hv) (by simp [hw])) ⟨ho, ho2, h1 hw⟩
  · refine concat_meets ⟨_, ho, rfl⟩ ⟨_, ho2, rfl⟩ noFill_tuple_add seq_tuple_add PySem.F.slot_tuple_add PySem.F.entry_tuple_add (PySem.F.args_tuple_add_2 _ _)
      (tuple_addW2 t b vs.toArray ws.toArray n n2 dd dd2 sl sl2 (by simpa using hv) (by simpa using hw) (by rw [List.size_toArray, List.size_toArray]; exact hsz)) ⟨ho, ho2, ?_⟩
    rw [e]
    exact h2 hw

/-! ### t[a:b], not the whole -/
/-- a slice's bound as a place among n (d where it is left out) -/
def sIx (n d : Nat) : Option Int → Nat
  | none => d
  | some v => if v < 0 then (v + (n : Int)).toNat else min v.toNat n
theorem sIx_none (n d : Nat) : sIx n d none = d := rfl
theorem sIx_nat (n d k : Nat) : sIx n d (some (k : Int)) = min k n := by
  show (if (k : Int) < 0 then ((k : Int) + (n : Int)).toNat else min (k : Int).toNat n) = min k n
  rw [if_neg (by omega), Int.toNat_natCast]
theorem sIx_le (n d : Nat) (hd : d ≤ n) (o : Option Int) : sIx n d o ≤ n := by
  cases o with
  | none => exact hd
  | some v =>
    show (if v < 0 then (v + (n : Int)).toNat else min v.toNat n) ≤ n
    by_cases hv : v < 0
    · rw [if_pos hv]; omega
    · rw [if_neg hv]; exact Nat.min_le_right _ _
theorem clip_eq (v : Int) (n d : Nat) : (if v < 0 then max (v + (n : Int)) 0 else min v (n : Int)) = ((sIx n d (some v) : Nat) : Int) := by
  show (if v < 0 then max (v + (n : Int)) 0 else min v (n : Int)) = (((if v < 0 then (v + (n : Int)).toNat else min v.toNat n) : Nat) : Int)
  by_cases hv : v < 0
  · simp only [if_pos hv]; omega
  · simp only [if_neg hv]; omega
theorem adjust_gen (lo hi : Option Int) (n : Nat) : Builtin.Slice.sliceAdjust lo hi 1 (n : Int) = (((sIx n 0 lo : Nat) : Int), ((sIx n n hi : Nat) : Int)) := by
  have h1 : ¬ ((1 : Int) < 0) := by omega
  unfold Builtin.Slice.sliceAdjust
  simp only [h1, if_false]
  refine Prod.ext ?_ ?_
  · cases lo with
    | none => rfl
    | some v => exact clip_eq v n 0
  · cases hi with
    | none => rfl
    | some v => exact clip_eq v n n
theorem places_gen (i j : Nat) : Builtin.Slice.slicePlaces (i : Int) (j : Int) 1 = j - i := by
  unfold Builtin.Slice.slicePlaces
  have h1 : (1 : Int) > 0 := by omega
  simp only [h1, if_true, Int.ediv_one]
  split <;> omega
theorem slicePart_ {v : Value} {o : Option Int} {Q : Option Int → Shared → Prop} (p : IsPart v o) (h : Q o s) : wpAny (model prog w) A (Builtin.Slice.slicePartIndex v) Q E s := by
  cases p with
  | none => exact slicePart_none h
  | int i t => exact slicePart_int h
theorem sliceApplied_gen {sl : Addr} {vl vu : Value} {lo hi : Option Int} {n : Nat} {Q : Int × Int × Nat → Shared → Prop} (hs : s.heap.IsSliceOf sl vl vu .none) (pl : IsPart vl lo) (pu : IsPart vu hi)
    (h : Q (((sIx n 0 lo : Nat) : Int), 1, sIx n n hi - sIx n 0 lo) s) : wpAny (model prog w) A (Builtin.Slice.sliceApplied (.ref sl) (pure (n : Int))) Q E s := by
  obtain ⟨os, hos, hcs, hds⟩ := id hs
  unfold Builtin.Slice.sliceApplied Builtin.Slice.sliceFields
  refine wpAny_bind (wpAny_bind (wpAny_field hos hds (x := vl) rfl (wpAny_bind (wpAny_field hos hds (x := vu) rfl (wpAny_bind (wpAny_field hos hds (x := .none) rfl (wpAny_pure ?_)))))))
  refine wpAny_bind (slicePart_none ?_)
  show wpAny _ _ (if ((1 : Int) == 0) = true then _ else _) _ _ s
  rw [if_neg (by decide)]
  refine wpAny_bind (slicePart_ pl (wpAny_bind (slicePart_ pu (wpAny_bind (wpAny_pure ?_)))))
  show wpAny _ _ (match Builtin.Slice.sliceAdjust lo hi 1 (n : Int) with | (lo, hi) => pure (lo, (1 : Int), Builtin.Slice.slicePlaces lo hi 1)) _ _ s
  rw [adjust_gen lo hi n]
  show wpAny _ _ (pure (((sIx n 0 lo : Nat) : Int), (1 : Int), Builtin.Slice.slicePlaces ((sIx n 0 lo : Nat) : Int) ((sIx n n hi : Nat) : Int) 1)) _ _ s
  rw [places_gen]
  exact wpAny_pure h
theorem pick_gen (xs : Array Value) (i k : Nat) : ((List.range k).filterMap fun (m : Nat) => xs[((i : Int) + (m : Int) * 1).toNat]?).toArray = ((xs.toList.drop i).take k).toArray := by
  have e : (fun (m : Nat) => xs[((i : Int) + (m : Int) * 1).toNat]?) = fun m => xs[i + m]? := by
    funext m
    have : ((i : Int) + (m : Int) * 1).toNat = i + m := by omega
    rw [this]
  rw [e]
  have := pick_run xs i k
  rw [List.filterMap_map] at this
  have e2 : ((fun x => xs[x]?) ∘ fun x => i + x) = fun m => xs[i + m]? := rfl
  rw [e2] at this
  rw [this]

theorem getItem_tuple_cut {t sl : Addr} {items : Array Value} {vl vu : Value} {lo hi : Option Int} {Q : Value → Shared → Prop} (ht : IsTup s.heap t items) (hs : s.heap.IsSliceOf sl vl vu .none) (pl : IsPart vl lo) (pu : IsPart vu hi)
    (hw : ¬ (sIx items.size 0 lo = 0 ∧ sIx items.size items.size hi = items.size))
    (h : Q (.ref s.heap.objs.size) { s with heap := s.heap.push { cls := .type "tuple", data := .seq ((items.toList.drop (sIx items.size 0 lo)).take (sIx items.size items.size hi - sIx items.size 0 lo)).toArray } })
    (hsz : items.size ≤ sizeLine) : wpAny (model prog w) A (getItem (.ref t) (.ref sl)) Q E s := by
  have htake : sizeOk (.seq ((items.toList.drop (sIx items.size 0 lo)).take (sIx items.size items.size hi - sIx items.size 0 lo)).toArray) := by
    show ((items.toList.drop (sIx items.size 0 lo)).take (sIx items.size items.size hi - sIx items.size 0 lo)).toArray.size ≤ sizeLine
    rw [List.size_toArray, List.length_take, List.length_drop, Array.length_toList]
    omega
  have hj : sIx items.size items.size hi ≤ items.size := sIx_le _ _ (Nat.le_refl _) hi
  obtain ⟨os, hos, hcs, hds⟩ := id hs
  have hTs : s.TypeIs (.ref sl) "slice" := ⟨os, hos, hcs⟩
  unfold getItem
  try with_reducible refine wpAny_holding ?_
  first | refine wpAny_bind (wpAny_pure ?_) | skip
  refine wpAny_bind (wpAny_sequenceKey ht.typeIs (by decide) ?_)
  refine wpAny_bind (wpAny_callSpecial?_slot (name := Str.ofString "__getitem__") ht.typeIs PyProof.Rows.slot_tuple_getitem
    (wpAny_call_entry PyProof.Rows.slot_tuple_getitem ht.typeIs entry_tuple_getitem ?_ (args_tuple_getitem _ _)))
  show wpAny _ _ (Builtin.Tuple.tupleItemsOf (.ref t) >>= _) _ _ s
  refine wpAny_bind (tupleItemsOf_ ht ?_)
  refine wpAny_bind (wpAny_typeOf hTs ?_)
  rw [if_pos (by decide)]
  refine wpAny_bind (sliceApplied_gen hs pl pu ?_)
  have hno : ¬ ((((sIx items.size 0 lo : Nat) : Int) == 0 && (1 : Int) == 1 && (sIx items.size items.size hi - sIx items.size 0 lo) == items.size) = true) := by
    intro q
    rw [Bool.and_eq_true, Bool.and_eq_true] at q
    have q1 : ((sIx items.size 0 lo : Nat) : Int) = 0 := eq_of_beq q.1.1
    have q2 : sIx items.size items.size hi - sIx items.size 0 lo = items.size := eq_of_beq q.2
    exact hw ⟨by omega, by omega⟩
  show wpAny _ _ (if (((sIx items.size 0 lo : Nat) : Int) == 0 && (1 : Int) == 1 && (sIx items.size items.size hi - sIx items.size 0 lo) == items.size) = true then _ else _) _ _ s
  rw [if_neg hno, pick_gen]
  first
    | exact wpAny_bind (m := Builtin.Tuple.tupleExact _) (wpAny_newObj_type (wpAny_pure ⟨_, rfl, wpAny_pure h⟩) htake)
    | exact wpAny_bind (m := Builtin.Tuple.tupleExact _) (wpAny_newObj_type (wpAny_bind (wpAny_pure (wpAny_pure ⟨_, rfl, wpAny_pure h⟩))) htake)
    | exact wpAny_bind (wpAny_bind (m := Builtin.Tuple.tupleExact _) (wpAny_newObj_type (wpAny_pure (wpAny_pure ⟨_, rfl, wpAny_pure h⟩)) htake))
    | exact wpAny_bind (wpAny_bind (m := Builtin.Tuple.tupleExact _) (wpAny_newObj_type (wpAny_pure ⟨_, rfl, wpAny_pure h⟩) htake))
end
end HT

namespace L2
open PySem PySem.Spec PyProof.Rows

/-! ### the parts of a slice -/
abbrev TO := St → Hp → (Option Int → Hp → Prop) → Prop
/-- a slice's part (left out, or an int) -/
def PO (X : Cx) (e : Option Expr) (t : TO) : Prop :=
  ∀ (pins : List (Addr × Obj)) (s : Shared) (σ : St) (H : Hp) (Q : Option Int → Hp → Prop), Inv X pins σ H s → t σ H Q →
    wpAny (model X.prog X.w) X.A (evalPart e X.env) (fun u s' => ∃ o H', Inv X pins σ H' s' ∧ IsPart u o ∧ Q o H') X.xe s
def tNoPart : TO := fun _ H Q => Q none H
def tPart (t : TE) : TO := fun σ H Q => t σ H fun x H1 => ∃ i, x = .int i ∧ Q (some i) H1

theorem intsAre_of {ns : List Int} : ∀ {us : List Value}, Vals (ns.map V.int) us → IntsAre us ns := by
  induction ns with
  | nil => intro us r; rw [List.map_nil] at r; cases r; exact .nil
  | cons n ns ih =>
    intro us r
    rw [List.map_cons] at r
    cases r with
    | cons r1 r2 =>
      obtain ⟨t, e⟩ := r1
      subst e
      exact .cons n t (ih r2)

section
variable {X : Cx} {e : Expr} {te : TE} {lo hi : Option Expr} {tl th : TO} {pos p2 : Pos}

theorem po_none : PO X none tNoPart := by
  intro pins s σ H Q I h
  rw [evalPart_none]
  exact wpAny_pure ⟨none, H, I, .none, h⟩
theorem po_some (h : PE X e te) : PO X (some e) (tPart te) := by
  intro pins s σ H Q I hw
  rw [evalPart_some]
  refine thn (h pins s σ H _ I hw) fun u s1 ⟨x, H1, I1, r1, q1⟩ => ?_
  obtain ⟨i, rfl, q⟩ := q1
  obtain ⟨t, rfl⟩ := r1
  exact ⟨some i, H1, I1, .int i t, q⟩

/-- what a slice of a value is, by values: the slice object stands at sl -/
def SlR (X : Cx) (r : V → Option Int → Option Int → Hp → VK → Prop) : Prop :=
  ∀ (pins : List (Addr × Obj)) (s : Shared) (σ : St) (H : Hp) (x : V) (v vl vu : Value) (lo hi : Option Int) (sl : Addr) (Q : VK), Inv X pins σ H s → RelV x v → s.heap.IsSliceOf sl vl vu .none → IsPart vl lo → IsPart vu hi → r x lo hi H Q →
    ∃ T id, typeLookup (.type T) "__getitem__" = pure (some (.builtin id)) ∧ s.TypeIs v T ∧ wpAny (model X.prog X.w) X.A (getItem v (.ref sl)) (EP X pins σ Q) X.xe s
theorem SlR.or {r r' : V → Option Int → Option Int → Hp → VK → Prop} (h : SlR X r) (h' : SlR X r') : SlR X (fun x lo hi H Q => r x lo hi H Q ∨ r' x lo hi H Q) := by
  intro pins s σ H x v vl vu lo hi sl Q I rx hs pl pu q
  rcases q with q | q
  · exact h pins s σ H x v vl vu lo hi sl Q I rx hs pl pu q
  · exact h' pins s σ H x v vl vu lo hi sl Q I rx hs pl pu q
def tSl (r : V → Option Int → Option Int → Hp → VK → Prop) (te : TE) (tl th : TO) : TE := fun σ H Q => te σ H fun x H1 => tl σ H1 fun l H2 => th σ H2 fun u H3 => r x l u H3 Q
/-- a[lo:hi], any a -/
theorem pe_slice {r : V → Option Int → Option Int → Hp → VK → Prop} (hr : SlR X r) (he : PE X e te) (hl : PO X lo tl) (hu : PO X hi th) : PE X (.Subscript e (.Slice lo hi none p2) pos) (tSl r te tl th) := by
  intro pins s σ H Q I h
  refine Subscript_ (thn (he pins s σ H _ I h) fun v s1 ⟨x, H1, I1, r1, q1⟩ => ?_)
  refine wpAny_Slice (thn (hl pins s1 σ H1 _ I1 q1) fun vl s2 ⟨l, H2, I2, pl, q2⟩ => thn (hu pins s2 σ H2 _ I2 q2) fun vu s3 ⟨u, H3, I3, pu, q3⟩ => ?_)
  rw [evalPart_none]
  refine wpAny_pure ?_
  have I4 : Inv X pins σ H3 { s3 with heap := s3.heap.push { cls := .type "slice", data := .fields #[vl, vu, .none] } } := I3.kept (t' := s3.toks) fun b ob q => Heap.get?_push_of_some _ q
  obtain ⟨T, id, hT, ht, hg⟩ := hr pins { s3 with heap := s3.heap.push { cls := .type "slice", data := .fields #[vl, vu, .none] } } σ H3 x v vl vu l u s3.heap.objs.size Q I4 r1 (Heap.IsSliceOf.new ..) pl pu q3
  show wpAny (model X.prog X.w) X.A (subscriptTail e (.Slice lo hi none p2) v (.ref s3.heap.objs.size)) (EP X pins σ Q) X.xe { s3 with heap := s3.heap.push { cls := .type "slice", data := .fields #[vl, vu, .none] } }
  exact tail_any (ops := [.ref s3.heap.objs.size, v]) ht hT hg (by with_unfolding_all rfl)

/-- the items of xs[lo:hi] -/
def cutV (xs : List V) (lo hi : Option Int) : List V := (xs.drop (HT.sIx xs.length 0 lo)).take (HT.sIx xs.length xs.length hi - HT.sIx xs.length 0 lo)
theorem cutV_length (xs : List V) (lo hi : Option Int) : (cutV xs lo hi).length ≤ xs.length := by
  unfold cutV
  rw [List.length_take, List.length_drop]
  omega
/-- t[lo:hi], not the whole of it (the whole would be t itself) -/
def rSlT (K : PySem.W.Frag) : V → Option Int → Option Int → Hp → VK → Prop := fun x lo hi H Q => ∃ a xs, x = .ref a ∧ SqT K H a xs ∧
  ¬ (HT.sIx xs.length 0 lo = 0 ∧ HT.sIx xs.length xs.length hi = xs.length) ∧ ∀ p, H p = none → Q (.ref p) (upd H p (.tup (cutV xs lo hi)))
theorem sl_tup : SlR X (rSlT X.K) := by
  intro pins s σ H x v vl vu lo hi sl Q I rx hs pl pu h
  obtain ⟨a, xs, rfl, hx, hw, q⟩ := h
  cases rx
  obtain ⟨its, r, ht, hz⟩ := I.tuple hx
  have hlen : its.toArray.size = xs.length := by rw [List.size_toArray]; exact r.length.symm
  refine ⟨"tuple", _, PyProof.Rows.slot_tuple_getitem.lookup, ht.typeIs, ?_⟩
  refine HT.getItem_tuple_cut ht hs pl pu (by rw [hlen]; exact hw) ?_ (by rw [hlen]; exact hz)
  rw [hlen]
  refine ⟨.ref s.heap.objs.size, _, I.laid (t' := s.toks) (o := .tup (cutV xs lo hi)) (fun b ob q => Heap.get?_push_of_some _ q) (Nat.le_refl _) ?_, rfl, q _ (I.hok.fresh (Nat.le_refl _))⟩
  exact ⟨Nat.le_trans (cutV_length xs lo hi) hz, _, (r.drop (HT.sIx xs.length 0 lo)).take (HT.sIx xs.length xs.length hi - HT.sIx xs.length 0 lo), IsTup.new _ _⟩

/-! ### t < u, t + u -/
def rLtT (K : PySem.W.Frag) : R2 := fun x y H Q => ∃ a b ns ms, x = .ref a ∧ y = .ref b ∧ SqT K H a (ns.map V.int) ∧ SqT K H b (ms.map V.int) ∧ Q (.bl (HT.lexLt ns ms)) H
theorem op_ltT (hu : X.A.units < cLine) : OpR X (compareOp .Lt) (rLtT X.K) := by
  intro pins s σ H x y v u Q I rx ry h
  obtain ⟨a, b, ns, ms, rfl, rfl, ha, hb, q⟩ := h
  cases rx
  cases ry
  obtain ⟨its, r1, p1, _⟩ := I.tuple ha
  obtain ⟨its2, r2, p2, _⟩ := I.tuple hb
  have i1 : IntsAre its.toArray.toList ns := intsAre_of r1
  have i2 : IntsAre its2.toArray.toList ms := intsAre_of r2
  exact HT.lt_tupInts p1 p2 i1 i2 hu ⟨.bl (HT.lexLt ns ms), H, I, rfl, q⟩
/-- t + u, t not empty: u empty gives t itself -/
def rCatT (K : PySem.W.Frag) : R2 := fun x y H Q => ∃ a b xs ys, x = .ref a ∧ y = .ref b ∧ SqT K H a xs ∧ SqT K H b ys ∧ xs ≠ [] ∧ xs.length + ys.length ≤ sizeLine ∧
  (ys = [] → Q (.ref a) H) ∧ (ys ≠ [] → ∀ p, H p = none → Q (.ref p) (upd H p (.tup (xs ++ ys))))
theorem Vals.nil_iff {xs : List V} {us : List Value} (r : Vals xs us) : us = [] ↔ xs = [] := by
  cases r with
  | nil => simp
  | cons _ _ => simp
theorem op_catT : OpR X (binaryOp .Add) (rCatT X.K) := by
  intro pins s σ H x y v u Q I rx ry h
  obtain ⟨a, b, xs, ys, rfl, rfl, ha, hb, hx, hz, q1, q2⟩ := h
  cases rx
  cases ry
  obtain ⟨its, r1, p1, _⟩ := I.tuple ha
  obtain ⟨its2, r2, p2, _⟩ := I.tuple hb
  refine HT.cat_tup p1 p2 (fun z => hx (r1.nil_iff.mp z)) (fun z => ⟨.ref a, H, I, rfl, q1 (r2.nil_iff.mp z)⟩) (fun z => ?_) (by rw [← r1.length, ← r2.length]; exact hz)
  refine ⟨.ref s.heap.objs.size, _, I.laid (t' := s.toks) (o := .tup (xs ++ ys)) (fun b ob q => Heap.get?_push_of_some _ q) (Nat.le_refl _) ?_, rfl, q2 (fun w => z (r2.nil_iff.mpr w)) _ (I.hok.fresh (Nat.le_refl _))⟩
  exact ⟨by rw [List.length_append]; exact hz, _, r1.append r2, IsTup.new _ _⟩
/-- tuple(t) -/
theorem call_tupleT : CallR X (.type "tuple") (fun xs H Q => ∃ a ys, xs = [.ref a] ∧ SqT X.K H a ys ∧ Q (.ref a) H) := by
  intro pins s σ H xs us Q I r h
  obtain ⟨a, ys, rfl, ha, q⟩ := h
  obtain ⟨u, rfl, ru⟩ := vals1 r
  cases ru
  obtain ⟨its, _, p1, _⟩ := I.tuple ha
  exact call_tuple_same (items := its.toArray) p1 ⟨.ref a, H, I, rfl, q⟩
end
end L2

namespace L2
open PySem PySem.Spec PyProof.Rows

/-! ### places -/
/-- the place that an index of any sign means -/
def ixN (n : Nat) (i : Int) : Option Nat := if 0 ≤ i then (if i < n then some i.toNat else none) else if -(n : Int) ≤ i then some (i + n).toNat else none
def atI {α : Type} (xs : List α) (i : Int) : Option α := (ixN xs.length i).bind fun j => xs[j]?
theorem ixN_seq {n : Nat} {i : Int} {j : Nat} (h : ixN n i = some j) : seqIndex? i n = some j ∧ j < n ∧ -(n : Int) ≤ i ∧ i < n := by
  unfold ixN at h
  by_cases h0 : 0 ≤ i
  · rw [if_pos h0] at h
    by_cases h1 : i < n
    · rw [if_pos h1] at h
      have e : i.toNat = j := Option.some.inj h
      exact ⟨by rw [seqIndex_of h0 h1, e], by omega, by omega, h1⟩
    · rw [if_neg h1] at h; cases h
  · rw [if_neg h0] at h
    by_cases h1 : -(n : Int) ≤ i
    · rw [if_pos h1] at h
      have e : (i + n).toNat = j := Option.some.inj h
      exact ⟨by rw [seqIndex_neg (by omega) h1, e], by omega, h1, by omega⟩
    · rw [if_neg h1] at h; cases h
theorem atI_get {α : Type} {xs : List α} {i : Int} {v : α} (h : atI xs i = some v) : ∃ j, seqIndex? i xs.length = some j ∧ xs[j]? = some v ∧ j < xs.length ∧ -(xs.length : Int) ≤ i ∧ i < xs.length := by
  unfold atI at h
  cases e : ixN xs.length i with
  | none => rw [e] at h; cases h
  | some j =>
    rw [e] at h
    obtain ⟨h1, h2, h3, h4⟩ := ixN_seq e
    exact ⟨j, h1, h, h2, h3, h4⟩
theorem atI_nat {α : Type} {xs : List α} {j : Nat} {v : α} (h : xs[j]? = some v) : atI xs (j : Int) = some v := by
  have hj : j < xs.length := (List.getElem?_eq_some_iff.mp h).1
  have e : ixN xs.length (j : Int) = some j := by
    unfold ixN
    rw [if_pos (by omega), if_pos (by omega)]; simp
  unfold atI; rw [e]; exact h
theorem atI_last {α : Type} (xs : List α) (v : α) : atI (xs ++ [v]) (-1) = some v := by
  have hl : (xs ++ [v]).length = xs.length + 1 := by simp
  have e : ixN (xs ++ [v]).length (-1) = some xs.length := by
    unfold ixN
    rw [hl, if_neg (by decide), if_pos (by omega)]
    congr 1
    omega
  unfold atI
  rw [e]
  show (xs ++ [v])[xs.length]? = some v
  simp

/-! ### what may be subscripted -/
/-- what stands as an index of a plain subscript -/
def PlainIx (b : Expr) : Prop := ∀ o i, subscripted b false o i = operate [o, i] (getItem o i)
/-- a subscript by values -/
def IxR (X : Cx) (r : R2) : Prop :=
  ∀ (value slice : Expr) (pins : List (Addr × Obj)) (s : Shared) (σ : St) (H : Hp) (x y : V) (v u : Value) (Q : VK), Inv X pins σ H s → RelV x v → RelV y u → r x y H Q →
    subscripted slice false v u = operate [v, u] (getItem v u) → wpAny (model X.prog X.w) X.A (subscriptTail value slice v u) (EP X pins σ Q) X.xe s
/-- a call of a builtin's method by values: the receiver, the arguments -/
def MtR (X : Cx) (id : String) (r : V → List V → Hp → VK → Prop) : Prop :=
  ∀ (pins : List (Addr × Obj)) (s : Shared) (σ : St) (H : Hp) (x : V) (xs : List V) (v : Value) (us : List Value) (Q : VK), Inv X pins σ H s → RelV x v → Vals xs us → r x xs H Q →
    wpAny (model X.prog X.w) X.A (call (.builtin id) (v :: us)) (EP X pins σ Q) X.xe s
section
variable {X : Cx} {a b : Expr} {ta tb : TE} {pos : Pos}
theorem IxR.or {r r' : R2} (h : IxR X r) (h' : IxR X r') : IxR X (fun x y H Q => r x y H Q ∨ r' x y H Q) := by
  intro value slice pins s σ H x y v u Q I rx ry q hs
  rcases q with q | q
  · exact h value slice pins s σ H x y v u Q I rx ry q hs
  · exact h' value slice pins s σ H x y v u Q I rx ry q hs
theorem MtR.or {id : String} {r r' : V → List V → Hp → VK → Prop} (h : MtR X id r) (h' : MtR X id r') : MtR X id (fun x xs H Q => r x xs H Q ∨ r' x xs H Q) := by
  intro pins s σ H x xs v us Q I rx rs q
  rcases q with q | q
  · exact h pins s σ H x xs v us Q I rx rs q
  · exact h' pins s σ H x xs v us Q I rx rs q
/-- a[b] -/
theorem pe_ix {r : R2} (hr : IxR X r) (ha : PE X a ta) (hb : PE X b tb) (hs : PlainIx b) : PE X (.Subscript a b pos) (tOp r ta tb) := by
  intro pins s σ H Q I h
  exact Subscript_ (binT ha hb I h fun v u s2 x y H2 I2 rx ry q => hr a b pins s2 σ H2 x y v u Q I2 rx ry q (hs _ _))

def rIxL (K : PySem.W.Frag) : R2 := fun x y H Q => ∃ p xs i v, x = .ref p ∧ y = .int i ∧ SqL K H p xs ∧ atI xs i = some v ∧ Q v H
def rIxT (K : PySem.W.Frag) : R2 := fun x y H Q => ∃ p xs i v, x = .ref p ∧ y = .int i ∧ SqT K H p xs ∧ atI xs i = some v ∧ Q v H
def rIxS : R2 := fun x y H Q => ∃ z i c, x = .str z ∧ y = .int i ∧ z.length ≤ sizeLine ∧ atI z.cps.toList i = some c ∧ Q (.str ⟨#[c]⟩) H
theorem ix_list : IxR X (rIxL X.K) := by
  intro value slice pins s σ H x y v u Q I rx ry h hs
  obtain ⟨p, xs, i, z, rfl, rfl, hq, he, q⟩ := h
  cases rx
  obtain ⟨t, rfl⟩ := ry
  obtain ⟨its, r, pl, hz⟩ := I.list hq
  obtain ⟨j, h1, h2, h3, h4, h5⟩ := atI_get he
  obtain ⟨w, ew, rw'⟩ := r.get h2
  have hl := r.length
  have hn := line63
  have fin : EP X pins σ Q w s := ⟨z, H, I, rw', q⟩
  by_cases h0 : 0 ≤ i
  · have hj : i.toNat = j := by
      rw [seqIndex_of h0 h5] at h1
      exact Option.some.inj h1
    exact item_listR pl.isList h0 (by omega) (by rw [hj]; simpa using ew) fin hs
  · have hj : (i + (its.toArray.size : Int)).toNat = j := by
      rw [seqIndex_neg (by omega) h4] at h1
      rw [List.size_toArray, ← hl]
      exact Option.some.inj h1
    exact subscriptTail_builtinR (x := w) pl.isList.typeIs slot_list_getitem.lookup
      (wpAny_getItem_list_neg (Q := fun r s' => r = w ∧ EP X pins σ Q r s') pl.isList (by omega) (by rw [List.size_toArray] <;> omega) (by omega) (by rw [hj]; simpa using ew) ⟨rfl, fin⟩) hs
theorem ix_tup : IxR X (rIxT X.K) := by
  intro value slice pins s σ H x y v u Q I rx ry h hs
  obtain ⟨p, xs, i, z, rfl, rfl, hq, he, q⟩ := h
  cases rx
  obtain ⟨t, rfl⟩ := ry
  obtain ⟨its, r, pl, hz⟩ := I.tuple hq
  obtain ⟨j, h1, h2, h3, h4, h5⟩ := atI_get he
  obtain ⟨w, ew, rw'⟩ := r.get h2
  have hl := r.length
  have hn := line63
  have fin : EP X pins σ Q w s := ⟨z, H, I, rw', q⟩
  exact subscriptTail_builtinR (x := w) pl.typeIs slot_tuple_getitem.lookup
    (getItem_tuple (j := j) (Q := fun r s' => r = w ∧ EP X pins σ Q r s') pl (by omega) (by omega) (by rw [List.size_toArray, ← hl]; exact h1) (by simpa using ew) ⟨rfl, fin⟩) hs
theorem ix_str : IxR X rIxS := by
  intro value slice pins s σ H x y v u Q I rx ry h hs
  obtain ⟨z, i, c, rfl, rfl, hz, he, q⟩ := h
  obtain ⟨t, rfl⟩ := rx
  obtain ⟨t', rfl⟩ := ry
  obtain ⟨j, h1, h2, h3, h4, h5⟩ := atI_get he
  have hl : z.cps.toList.length = z.length := by simp [Str.length]
  rw [hl] at h1 h4 h5
  have hn := line63
  exact tail_any (typeIs_str s z t) slot_str_getitem.lookup (getItem_str (c := c) (by
    have e1 : decide (i < -(2 ^ 63 : Int)) = false := decide_eq_false (by omega)
    have e2 : decide (i ≥ 2 ^ 63) = false := decide_eq_false (by omega)
    rw [e1, e2, Bool.or_false]) (by rw [h1]; simpa using h2) ⟨.str ⟨#[c]⟩, H, I.tok _, ⟨_, rfl⟩, q⟩) hs
/-- list, tuple or str -/
def rIx (K : PySem.W.Frag) : R2 := fun x y H Q => rIxL K x y H Q ∨ rIxT K x y H Q ∨ rIxS x y H Q
theorem ix_seq : IxR X (rIx X.K) := ix_list.or (ix_tup.or ix_str)

/-! ### xs[i] = v, any sign -/
/-- the list's object behind a store -/
theorem mapSeq_set (its : List Value) (n j : Nat) (u : Value) : Obj.mapSeq (·.setIfInBounds j u) { cls := .type "list", data := .seq its.toArray n } = { cls := .type "list", data := .seq (its.set j u).toArray n } := by
  simp [Obj.mapSeq]
theorem Inv.lst {pins : List (Addr × Obj)} {σ : St} {H : Hp} {s : Shared} {p : Addr} {xs : List V} (I : Inv X pins σ H s) (h : H p = some (.lst xs)) :
    ∃ (its : List Value) (n : Nat), Vals xs its ∧ s.heap.get? p = some { cls := .type "list", data := .seq its.toArray n } ∧ xs.length ≤ sizeLine := by
  obtain ⟨z, its, n, r, e⟩ := I.hok p _ h
  exact ⟨its, n, r, e, z⟩
/-- the list at p is written by an update of its object -/
theorem Inv.lstUpd {pins : List (Addr × Obj)} {σ : St} {H : Hp} {s : Shared} {p : Addr} {xs ys : List V} {its its' : List Value} {n n' : Nat} {f : Obj → Obj} (I : Inv X pins σ H s) (h : H p = some (.lst xs))
    (ho : s.heap.get? p = some { cls := .type "list", data := .seq its.toArray n }) (hf : f { cls := .type "list", data := .seq its.toArray n } = { cls := .type "list", data := .seq its'.toArray n' }) (r : Vals ys its') (hz : ys.length ≤ sizeLine) (t : Nat) :
    Inv X pins σ (upd H p (.lst ys)) { s with heap := s.heap.update p f, toks := t } := by
  have e : (s.heap.update p f).get? p = some { cls := .type "list", data := .seq its'.toArray n' } := by
    rw [Heap.get?_update_self f ho (by rw [hf] <;> rfl), hf]
  refine I.write (x := p) (e := p) (by rw [h]; trivial) (.inl rfl) (fun b u hb q => (Heap.get?_update_other _ _ (Ne.symm hb)).trans q) ⟨_, e⟩ ?_
  exact ⟨hz, its', n', r, e⟩
def rSetL : V → V → V → Hp → (Hp → Prop) → Prop := fun o i v H Q => ∃ p xs k j, o = .ref p ∧ i = .int k ∧ H p = some (.lst xs) ∧ ixN xs.length k = some j ∧ Q (upd H p (.lst (xs.set j v)))
theorem set_list : PSet X rSetL := by
  intro pins s σ H o i v ov iv u Q I ro ri rv h
  obtain ⟨p, xs, k, j, rfl, rfl, hp, hj, q⟩ := h
  cases ro
  obtain ⟨t, rfl⟩ := ri
  obtain ⟨its, n, r, ho, hz⟩ := I.lst hp
  obtain ⟨h1, h2, h3, h4⟩ := ixN_seq hj
  have hl := r.length
  have hn := line63
  have I' : Inv X pins σ (upd H p (.lst (xs.set j v))) { s with heap := s.heap.update p (Obj.mapSeq (·.setIfInBounds j u)) } :=
    I.lstUpd hp ho (mapSeq_set its n j u) (r.set rv j) (by rw [List.length_set]; exact hz) s.toks
  by_cases h0 : 0 ≤ k
  · have hk : k.toNat = j := by
      rw [seqIndex_of h0 h4] at h1
      exact Option.some.inj h1
    exact PySem.W.ki_setAt ho h0 (by omega) (by rw [List.size_toArray, ← hl]; exact h4) (by rw [hk]; exact ⟨_, I', q⟩)
  · have hk : (k + (its.toArray.size : Int)).toNat = j := by
      rw [seqIndex_neg (by omega) h3] at h1
      rw [List.size_toArray, ← hl]
      exact Option.some.inj h1
    exact PySem.W.ki_setBack ho (by omega) (by rw [List.size_toArray, ← hl]; exact h3) (by omega) (by rw [hk]; exact ⟨_, I', q⟩)

/-! ### slices -/
theorem slice_bounds (lo hi : Option Int) (n : Nat) : (sliceBounds lo hi none n).1 = ((HT.sIx n 0 lo : Nat) : Int) ∧ (sliceBounds lo hi none n).2.1 = ((HT.sIx n n hi : Nat) : Int) ∧ (sliceBounds lo hi none n).2.2 = 1 := by
  refine ⟨?_, ?_, rfl⟩
  · cases lo with
    | none => simp [sliceBounds, HT.sIx]
    | some i =>
      simp only [sliceBounds, HT.sIx, Option.getD_none, show (1 : Int) > 0 by decide, if_true]
      by_cases h : i < 0
      · simp only [h, if_true] <;> omega
      · simp only [h, if_false] <;> omega
  · cases hi with
    | none => simp [sliceBounds, HT.sIx]
    | some i =>
      simp only [sliceBounds, HT.sIx, Option.getD_none, show (1 : Int) > 0 by decide, if_true]
      by_cases h : i < 0
      · simp only [h, if_true] <;> omega
      · simp only [h, if_false] <;> omega
theorem slicePick_cut (its : List Value) (lo hi : Option Int) : slicePick its.toArray lo hi none = ((its.drop (HT.sIx its.length 0 lo)).take (HT.sIx its.length its.length hi - HT.sIx its.length 0 lo)).toArray := by
  obtain ⟨h1, h2, h3⟩ := slice_bounds lo hi its.toArray.size
  unfold slicePick
  rw [h1, h2, h3]
  simp only [sliceRange_one, pick_run, List.size_toArray] <;> rfl
/-- xs[lo:hi] of a list: a new list -/
def rSlL (K : PySem.W.Frag) : V → Option Int → Option Int → Hp → VK → Prop := fun x lo hi H Q => ∃ a xs, x = .ref a ∧ SqL K H a xs ∧ ∀ p, H p = none → Q (.ref p) (upd H p (.lst (cutV xs lo hi)))
theorem sl_list : SlR X (rSlL X.K) := by
  intro pins s σ H x v vl vu lo hi sl Q I rx hs pl pu h
  obtain ⟨a, xs, rfl, hx, q⟩ := h
  cases rx
  obtain ⟨its, r, ht, hz⟩ := I.list hx
  have hlen := r.length
  refine ⟨"list", _, slot_list_getitem.lookup, ht.isList.typeIs, ?_⟩
  refine wpAny_getItem_list_slice ht.isList hs pl pu .none (by simp) ?_ (by rw [List.size_toArray] <;> omega)
  rw [slicePick_cut, ← hlen]
  refine ⟨.ref s.heap.objs.size, _, I.laid (t' := s.toks) (o := .lst (cutV xs lo hi)) (fun b ob q => Heap.get?_push_of_some _ q) (Nat.le_refl _) ?_, rfl, q _ (I.hok.fresh (Nat.le_refl _))⟩
  exact ⟨Nat.le_trans (cutV_length xs lo hi) hz, _, 0, (r.drop (HT.sIx xs.length 0 lo)).take (HT.sIx xs.length xs.length hi - HT.sIx xs.length 0 lo), Heap.get?_push_size _ rfl⟩

/-! ### in, not in: flat items -/
def flatV : V → Bool
  | .non => true
  | .bl _ => true
  | .int _ => true
  | .str _ => true
  | _ => false
/-- == of flat values -/
def eqV : V → V → Bool
  | .non, .non => true
  | .bl a, .bl b => a == b
  | .bl a, .int b => (if a then 1 else 0) == b
  | .int a, .bl b => a == (if b then 1 else 0)
  | .int a, .int b => a == b
  | .str a, .str b => a == b
  | _, _ => false
theorem eqAt_V {A : Around} {s : Shared} {y x : V} {u v : Value} (ry : RelV y u) (rx : RelV x v) (fy : flatV y = true) (fx : flatV x = true) : SeqAt.EqAt A s u v (eqV y x) := by
  cases y with
  | non =>
    cases ry
    cases x with
    | non => cases rx; exact SeqAt.EqAt.same _
    | bl b => cases rx; exact SeqAt.EqAt.none_bool b
    | int b => obtain ⟨t, rfl⟩ := rx; exact SeqAt.EqAt.none_int b t
    | str b => obtain ⟨t, rfl⟩ := rx; exact SeqAt.EqAt.none_str b t
    | _ => exact absurd (show false = true from fx) Bool.false_ne_true
  | bl a =>
    cases ry
    cases x with
    | non => cases rx; exact SeqAt.EqAt.bool_none a
    | bl b => cases rx; exact SeqAt.EqAt.bool_bool a b
    | int b => obtain ⟨t, rfl⟩ := rx; exact SeqAt.EqAt.bool_int a b t
    | str b => obtain ⟨t, rfl⟩ := rx; exact SeqAt.EqAt.bool_str a b t
    | _ => exact absurd (show false = true from fx) Bool.false_ne_true
  | int a =>
    obtain ⟨t', rfl⟩ := ry
    cases x with
    | non => cases rx; exact SeqAt.EqAt.int_none a t'
    | bl b => cases rx; exact SeqAt.EqAt.int_bool a t' b
    | int b => obtain ⟨t, rfl⟩ := rx; exact SeqAt.EqAt.int_int a t' b t
    | str b => obtain ⟨t, rfl⟩ := rx; exact SeqAt.EqAt.int_str a t' b t
    | _ => exact absurd (show false = true from fx) Bool.false_ne_true
  | str a =>
    obtain ⟨t', rfl⟩ := ry
    cases x with
    | non => cases rx; exact SeqAt.EqAt.str_none a t'
    | bl b => cases rx; exact SeqAt.EqAt.str_bool a t' b
    | int b => obtain ⟨t, rfl⟩ := rx; exact SeqAt.EqAt.str_int a t' b t
    | str b => obtain ⟨t, rfl⟩ := rx; exact SeqAt.EqAt.str_str a t' b t
    | _ => exact absurd (show false = true from fx) Bool.false_ne_true
  | _ => exact absurd (show false = true from fy) Bool.false_ne_true
/-- the items' answers, read off the values (a value's own answer does not lean on its token) -/
def eqU (x : V) (u : Value) : Bool := match u with
  | .none => eqV .non x
  | .bool b => eqV (.bl b) x
  | .int i _ => eqV (.int i) x
  | .str z _ => eqV (.str z) x
  | _ => false
theorem eqU_of {x y : V} {u : Value} (r : RelV y u) (f : flatV y = true) : eqU x u = eqV y x := by
  cases y with
  | non => cases r; rfl
  | bl b => cases r; rfl
  | int i => obtain ⟨t, rfl⟩ := r; rfl
  | str z => obtain ⟨t, rfl⟩ := r; rfl
  | _ => exact absurd (show false = true from f) Bool.false_ne_true
theorem any_eqU {x : V} : ∀ {xs : List V} {us : List Value}, Vals xs us → xs.all flatV = true → us.any (eqU x) = xs.any fun y => eqV y x
  | _, _, .nil, _ => rfl
  | y :: xs, u :: us, .cons r t, f => by
    rw [List.all_cons, Bool.and_eq_true] at f
    rw [List.any_cons, List.any_cons, eqU_of r f.1, any_eqU t f.2]
theorem mem_eqAt {A : Around} {s : Shared} {x : V} {v : Value} (rx : RelV x v) (fx : flatV x = true) : ∀ {xs : List V} {us : List Value}, Vals xs us → xs.all flatV = true → ∀ u ∈ us, SeqAt.EqAt A s u v (eqU x u)
  | _, _, .nil, _ => fun u hu => by cases hu
  | y :: xs, u :: us, .cons r t, f => fun u' hu => by
    rw [List.all_cons, Bool.and_eq_true] at f
    rcases List.mem_cons.mp hu with rfl | hu
    · rw [eqU_of r f.1]; exact eqAt_V r rx f.1 fx
    · exact mem_eqAt rx fx t f.2 u' hu
def inV (x : V) (xs : List V) : Bool := xs.any fun y => eqV y x
/-- x in a list or tuple of flat items -/
def rIn (K : PySem.W.Frag) (neg : Bool) : R2 := fun x y H Q => ∃ p xs, y = .ref p ∧ (SqL K H p xs ∨ SqT K H p xs) ∧ flatV x = true ∧ xs.all flatV = true ∧ Q (.bl (if neg then !inV x xs else inV x xs)) H
theorem op_in_seq : OpR X (compareOp .In) (rIn X.K false) := by
  intro pins s σ H x y v u Q I rx ry h
  obtain ⟨p, xs, rfl, hq, fx, fs, q⟩ := h
  cases ry
  rcases hq with hq | hq
  · obtain ⟨its, r, pl, hz⟩ := I.list hq
    refine SeqAt.in_listAt (eqU x) pl.isList (fun w hw => mem_eqAt rx fx r fs w (by simpa using hw)) ⟨.bl _, H, I, rfl, ?_⟩
    rw [show its.toArray.any (eqU x) = its.any (eqU x) by simp, any_eqU r fs]
    exact q
  · obtain ⟨its, r, pl, hz⟩ := I.tuple hq
    refine SeqAt.in_tupleAt (eqU x) pl (fun w hw => mem_eqAt rx fx r fs w (by simpa using hw)) ⟨.bl _, H, I, rfl, ?_⟩
    rw [show its.toArray.any (eqU x) = its.any (eqU x) by simp, any_eqU r fs]
    exact q
theorem op_notIn_seq : OpR X (compareOp .NotIn) (rIn X.K true) := by
  intro pins s σ H x y v u Q I rx ry h
  obtain ⟨p, xs, rfl, hq, fx, fs, q⟩ := h
  cases ry
  rcases hq with hq | hq
  · obtain ⟨its, r, pl, hz⟩ := I.list hq
    refine SeqAt.notIn_listAt (eqU x) pl.isList (fun w hw => mem_eqAt rx fx r fs w (by simpa using hw)) ⟨.bl _, H, I, rfl, ?_⟩
    rw [show its.toArray.any (eqU x) = its.any (eqU x) by simp, any_eqU r fs]
    exact q
  · obtain ⟨its, r, pl, hz⟩ := I.tuple hq
    refine SeqAt.notIn_tupleAt (eqU x) pl (fun w hw => mem_eqAt rx fx r fs w (by simpa using hw)) ⟨.bl _, H, I, rfl, ?_⟩
    rw [show its.toArray.any (eqU x) = its.any (eqU x) by simp, any_eqU r fs]
    exact q
theorem op_notIn_str : OpR X (compareOp .NotIn) (fun x y H Q => ∃ i j, x = .str i ∧ y = .str j ∧ Q (.bl (!(!(Builtin.Str.occurrences j i 0 j.length 1).isEmpty))) H) := by
  intro pins s σ H x y v u Q I rx ry h
  obtain ⟨i, j, rfl, rfl, q⟩ := h
  obtain ⟨t, rfl⟩ := rx
  obtain ⟨t', rfl⟩ := ry
  exact notIn_str ⟨.bl _, H, I, rfl, q⟩

/-! ### len, list(x), tuple(x) of any list or tuple that is read -/
theorem call_len_seq : CallR X (.builtin "len") (fun xs H Q => ∃ p ys, xs = [.ref p] ∧ (SqL X.K H p ys ∨ SqT X.K H p ys) ∧ Q (.int ys.length) H) := by
  intro pins s σ H xs us Q I r h
  obtain ⟨p, ys, rfl, hq, q⟩ := h
  obtain ⟨u, rfl, rx⟩ := vals1 r
  cases rx
  have hn := line63
  rcases hq with hq | hq
  · obtain ⟨its, r', pl, hz⟩ := I.list hq
    have hlen := r'.length
    exact Calls.call_len_list pl.isList (by simp only [List.size_toArray] <;> omega) ⟨.int ys.length, H, I.tok _, ⟨s.toks + 1, by rw [List.size_toArray, hlen]⟩, q⟩
  · obtain ⟨its, r', pl, hz⟩ := I.tuple hq
    have hlen := r'.length
    exact len_tuple pl (by simp only [List.size_toArray] <;> omega) ⟨.int ys.length, H, I.tok _, ⟨s.toks + 1, by rw [List.size_toArray, hlen]⟩, q⟩
theorem call_len_str : CallR X (.builtin "len") (fun xs H Q => ∃ z, xs = [.str z] ∧ z.length ≤ sizeLine ∧ Q (.int z.length) H) := by
  intro pins s σ H xs us Q I r h
  obtain ⟨z, rfl, hz, q⟩ := h
  obtain ⟨u, rfl, t, rfl⟩ := vals1 r
  have hn := line63
  exact len_str (by omega) ⟨.int z.length, H, I.tok _, ⟨_, rfl⟩, q⟩
theorem CallR.or {f : Value} {r r' : List V → Hp → VK → Prop} (h : CallR X f r) (h' : CallR X f r') : CallR X f (fun xs H Q => r xs H Q ∨ r' xs H Q) := by
  intro pins s σ H xs us Q I rs q
  rcases q with q | q
  · exact h pins s σ H xs us Q I rs q
  · exact h' pins s σ H xs us Q I rs q
theorem call_list_of : CallR X (.type "list") (fun xs H Q => ∃ p ys, xs = [.ref p] ∧ (SqL X.K H p ys ∨ SqT X.K H p ys) ∧ ∀ l, H l = none → Q (.ref l) (upd H l (.lst ys))) := by
  intro pins s σ H xs us Q I r h
  obtain ⟨p, ys, rfl, hq, q⟩ := h
  obtain ⟨u, rfl, rx⟩ := vals1 r
  cases rx
  have fin : ∀ (its : List Value), Vals ys its → ys.length ≤ sizeLine → ∀ (h' : Heap) (c' : Nat), (∀ b o', s.heap.get? b = some o' → h'.get? b = some o') →
      h'.get? s.heap.objs.size = some { cls := .type "list", dict := none, data := .seq its.toArray c', slots := #[] } → EP X pins σ Q (.ref s.heap.objs.size) { s with heap := h' } := fun its r' hz h' c' kp e =>
    ⟨.ref s.heap.objs.size, _, I.laid (t' := s.toks) kp (Nat.le_refl _) (show ObjOk X.prog X.w _ h' _ (.lst ys) from ⟨hz, its, c', r', e⟩), rfl, q _ (I.hok.fresh (Nat.le_refl _))⟩
  rcases hq with hq | hq
  · obtain ⟨its, r', pl, hz⟩ := I.list hq
    have hlen := r'.length
    obtain ⟨o, ho, hc, n, hd⟩ := pl.isList
    exact call_list_seq p (.inl rfl) ho hc hd (fun h' c' kp e => fin its r' hz h' c' kp e) (by simp only [List.size_toArray] <;> omega)
  · obtain ⟨its, r', pl, hz⟩ := I.tuple hq
    have hlen := r'.length
    obtain ⟨o, ho, hc, n, hd⟩ := pl
    exact call_list_seq p (.inr rfl) ho hc hd (fun h' c' kp e => fin its r' hz h' c' kp e) (by simp only [List.size_toArray] <;> omega)
theorem call_tuple_of : CallR X (.type "tuple") (fun xs H Q => ∃ p ys, xs = [.ref p] ∧ ((SqL X.K H p ys ∧ ∀ l, H l = none → Q (.ref l) (upd H l (.tup ys))) ∨ (SqT X.K H p ys ∧ Q (.ref p) H))) := by
  intro pins s σ H xs us Q I r h
  obtain ⟨p, ys, rfl, h⟩ := h
  obtain ⟨u, rfl, rx⟩ := vals1 r
  cases rx
  rcases h with ⟨hq, q⟩ | ⟨hq, q⟩
  · obtain ⟨its, r', pl, hz⟩ := I.list hq
    have hlen := r'.length
    refine call_tuple_list pl.isList (fun h' kp => ?_) (by simp only [List.size_toArray] <;> omega)
    have I1 : Inv X pins σ H { s with heap := h' } := I.kept (t' := s.toks) kp
    have I2 : Inv X pins σ (upd H h'.objs.size (.tup ys)) { s with heap := h'.push { cls := .type "tuple", data := .seq its.toArray } } :=
      I1.laid (t' := s.toks) (fun b o e => Heap.get?_push_of_some _ e) (Nat.le_refl _) (show ObjOk X.prog X.w _ _ _ (.tup ys) from ⟨hz, its, r', IsTup.new _ _⟩)
    exact ⟨.ref h'.objs.size, _, I2, rfl, q _ (I1.hok.fresh (Nat.le_refl _))⟩
  · obtain ⟨its, r', pl, hz⟩ := I.tuple hq
    exact call_tuple_same pl ⟨.ref p, H, I, rfl, q⟩

/-! ### the call of a builtin's method: o.m(..) -/
/-- the value is of that builtin type -/
def tyV (K : PySem.W.Frag) (T : String) (x : V) (H : Hp) : Prop := match x with
  | .str _ => T = "str"
  | .int _ => T = "int"
  | .ref p => (T = "list" ∧ ∃ xs, SqL K H p xs) ∨ (T = "tuple" ∧ ∃ o, K.lookup p = some o ∧ o.cls = .type "tuple" ∧ o.dict = none) ∨
      (T = "dict" ∧ ((∃ kvs, H p = some (.dK kvs)) ∨ ∃ kvs, H p = some (.dT kvs))) ∨ (T = "set" ∧ ∃ S n, H p = some (.set S n))
  | _ => False
theorem tyV_is {pins : List (Addr × Obj)} {σ : St} {H : Hp} {s : Shared} {T : String} {x : V} {v : Value} (I : Inv X pins σ H s) (r : RelV x v) (ty : tyV X.K T x H) :
    s.TypeIs v T ∧ ∀ a, v = .ref a → ∃ ob, s.heap.get? a = some ob ∧ ob.dict = none := by
  cases x with
  | str z =>
    obtain ⟨t, rfl⟩ := r
    cases (show T = "str" from ty)
    exact ⟨typeIs_str s z t, fun _ e => nomatch e⟩
  | int i =>
    obtain ⟨t, rfl⟩ := r
    cases (show T = "int" from ty)
    exact ⟨typeIs_int s i t, fun _ e => nomatch e⟩
  | ref p =>
    cases r
    rcases ty with ⟨rfl, xs, hq⟩ | ⟨rfl, o, hk, hc, hd⟩ | ⟨rfl, hk⟩ | ⟨rfl, S, n, hk⟩
    · obtain ⟨its, _, pl, _⟩ := I.list hq
      refine ⟨pl.isList.typeIs, fun a e => ?_⟩
      cases e
      obtain ⟨o, n, e, c, hd, _⟩ := pl
      exact ⟨o, e, hd⟩
    · refine ⟨⟨o, I.kIn p o hk, hc⟩, fun a e => ?_⟩
      cases e
      exact ⟨o, I.kIn _ o hk, hd⟩
    · have z : ∃ o, s.heap.get? p = some o ∧ o.ExactDict := by
        rcases hk with ⟨kvs, hk⟩ | ⟨kvs, hk⟩
        · obtain ⟨_, _, _, _, o, _, _, e, ex, _⟩ := I.hok p _ hk
          exact ⟨o, e, ex⟩
        · obtain ⟨_, _, _, _, o, _, _, e, ex, _⟩ := I.hok p _ hk
          exact ⟨o, e, ex⟩
      obtain ⟨o, e, ex⟩ := z
      refine ⟨⟨o, e, ex.1⟩, fun a e2 => ?_⟩
      cases e2
      exact ⟨o, e, ex.2.1⟩
    · obtain ⟨o, _, _, _, e, ex, _⟩ := I.hok p _ hk
      refine ⟨⟨o, e, ex.1⟩, fun a e2 => ?_⟩
      cases e2
      exact ⟨o, e, ex.2.1⟩
  | _ => exact False.elim ty
def tBM0 (K : PySem.W.Frag) (T : String) (r : V → List V → Hp → VK → Prop) (to : TE) : TE := fun σ H Q => to σ H fun x H1 => tyV K T x H1 ∧ r x [] H1 Q
def tBM (K : PySem.W.Frag) (T : String) (r : V → List V → Hp → VK → Prop) (to : TE) (t : TA) : TE := fun σ H Q => to σ H fun x H1 => tyV K T x H1 ∧ t σ H1 fun xs H2 => r x xs H2 Q
variable {o e : Expr} {es : List Expr} {to : TE} {t : TA} {name : Str} {apos cpos : Pos} {T id : String} {r : V → List V → Hp → VK → Prop}
theorem pe_bm0 (pa : PlainAttrs T) (slot : Slot T name id) (hty : typeOf (.builtin id) = pure (.type "method_descriptor")) (hm : MtR X id r) (ho : PE X o to)
    (hbase : attributeBase o name X.env (eval o X.env) = eval o X.env := by rfl) (hline : (apos.endLine == cpos.line) = true := by rfl) : PE X (.Call (.Attribute o name apos) [] [] cpos) (tBM0 X.K T r to) := by
  intro pins s σ H Q I h
  refine wpAny_Call_method0_late hbase hline (thn (ho pins s σ H _ I h) fun v s1 ⟨x, H1, I1, r1, ty, q1⟩ => ?_)
  obtain ⟨h1, h2⟩ := tyV_is I1 r1 ty
  exact ⟨T, id, pa, slot, hty, h1, h2, Calls.callWith_builtin rfl (PySem.evalArgs_none (hm pins s1 σ H1 x [] v [] Q I1 r1 .nil q1))⟩
theorem pe_bm (pa : PlainAttrs T) (slot : Slot T name id) (hty : typeOf (.builtin id) = pure (.type "method_descriptor")) (hm : MtR X id r) (ho : PE X o to) (ha : PA X (e :: es) t)
    (hbase : attributeBase o name X.env (eval o X.env) = eval o X.env := by rfl)
    (hfew : ((backTo cpos (starEach (e :: es) X.env)).all (fun x => !x.1) && (backToKw cpos (keywordEach [] X.env)).all (fun x => x.1.isSome)
      && decide ((e :: es).length + ([] : List Keyword).length + (if ([] : List Keyword).isEmpty then 0 else 1) < 30)) = true := by rfl)
    (hline : (apos.endLine == cpos.line) = true := by rfl) (hs : starEach (e :: es) X.env = (false, eval e X.env) :: starEach es X.env := by rfl) (hplain : (backTo cpos (starEach es X.env)).any (·.1) = false := by rfl) :
    PE X (.Call (.Attribute o name apos) (e :: es) [] cpos) (tBM X.K T r to t) := by
  intro pins s σ H Q I h
  refine wpAny_Call_method_late hbase hfew hline rfl (thn (ho pins s σ H _ I h) fun v s1 ⟨x, H1, I1, r1, ty, q1⟩ => ?_)
  obtain ⟨h1, h2⟩ := tyV_is I1 r1 ty
  refine ⟨T, id, pa, slot, hty, h1, h2, ?_⟩
  have hA := ha cpos pins s1 σ H1 _ I1 q1
  rw [hs] at hA ⊢
  refine Calls.callWith_builtin (by show (false || (backTo cpos (starEach es X.env)).any (·.1)) = false; rw [hplain] <;> rfl) (Calls.evalArgs_plain ?_)
  exact thn hA fun us s2 ⟨vs, H2, I2, r2, q2⟩ => hm pins s2 σ H2 x vs v us Q I2 r1 r2 q2
/- xs.append(e), list.index on a module's tuple .. are MtR facts of 06m -/
end
end L2

namespace L2
open PySem PySem.Spec PyProof.Rows

def MtM (X : Cx) (id : String) (r : V → List V → Hp → VK → Prop) : Prop :=
  ∀ (pins : List (Addr × Obj)) (s : Shared) (σ : St) (H : Hp) (x : V) (xs : List V) (v : Value) (us : List Value) (Q : VK), Inv X pins σ H s → RelV x v → Vals xs us → r x xs H Q →
    wpAny (model X.prog X.w) X.A (call (.builtin id) (v :: us)) (EP X pins σ Q) X.xe s

/-! ### lists of values -/
theorem Vals.one : ∀ {x : V} {us : List Value}, Vals [x] us → ∃ u, us = [u] ∧ RelV x u
  | _, _, .cons r .nil => ⟨_, rfl, r⟩
theorem Vals.two : ∀ {x y : V} {us : List Value}, Vals [x, y] us → ∃ u v, us = [u, v] ∧ RelV x u ∧ RelV y v
  | _, _, _, .cons r (.cons q .nil) => ⟨_, _, rfl, r, q⟩
theorem Vals.zero : ∀ {us : List Value}, Vals [] us → us = []
  | _, .nil => rfl
theorem Vals.dropLast {xs : List V} {us : List Value} (h : Vals xs us) : Vals xs.dropLast us.dropLast := by
  induction h with
  | nil => exact .nil
  | cons r t ih =>
    cases t with
    | nil => exact .nil
    | cons q t' => exact .cons r ih
theorem Vals.eraseIdx : ∀ {xs : List V} {us : List Value} (i : Nat), Vals xs us → Vals (xs.eraseIdx i) (us.eraseIdx i)
  | _, _, _, .nil => .nil
  | _, _, 0, .cons _ t => t
  | _, _, i + 1, .cons r t => .cons r (Vals.eraseIdx i t)
theorem Vals.reverse {xs : List V} {us : List Value} (h : Vals xs us) : Vals xs.reverse us.reverse := by
  induction h with
  | nil => exact .nil
  | cons r t ih => rw [List.reverse_cons, List.reverse_cons]; exact Vals.append ih (.cons r .nil)
theorem Vals.rep {xs : List V} {us : List Value} (h : Vals xs us) : ∀ k : Nat, Vals (List.replicate k xs).flatten (List.replicate k us).flatten
  | 0 => .nil
  | k + 1 => by
    rw [List.replicate_succ, List.replicate_succ, List.flatten_cons, List.flatten_cons]
    exact Vals.append h (Vals.rep h k)
theorem erase_last {α : Type} (l : List α) : l.eraseIdx (l.length - 1) = l.dropLast := by
  induction l with
  | nil => rfl
  | cons a r ih =>
    cases r with
    | nil => rfl
    | cons b r =>
      have e : (a :: b :: r).length - 1 = ((b :: r).length - 1) + 1 := by
        have h1 : (a :: b :: r).length = r.length + 2 := rfl
        have h2 : (b :: r).length = r.length + 1 := rfl
        omega
      rw [e, List.eraseIdx_cons_succ, ih]
      all_goals rfl
theorem len_erase {α : Type} : ∀ (l : List α) (i : Nat), (l.eraseIdx i).length ≤ l.length
  | [], _ => Nat.le_refl _
  | _ :: _, 0 => Nat.le_succ _
  | _ :: r, i + 1 => Nat.succ_le_succ (len_erase r i)
theorem foldl_rep (its : List Value) : ∀ (k : Nat) (acc : List Value),
    List.foldl (fun x1 x2 => x1 ++ x2) acc.toArray (List.replicate k its.toArray) = (acc ++ (List.replicate k its).flatten).toArray
  | 0, acc => by simp
  | k + 1, acc => by
    have e : acc.toArray ++ its.toArray = (acc ++ its).toArray := by simp
    have e2 : (acc ++ its) ++ (List.replicate k its).flatten = acc ++ (List.replicate (k + 1) its).flatten := by
      rw [List.replicate_succ, List.flatten_cons, List.append_assoc]
    rw [← e2, ← foldl_rep its k (acc ++ its), ← e, List.replicate_succ, List.foldl_cons]

section
variable {X : Cx} {pins : List (Addr × Obj)} {σ : St} {H : Hp} {s : Shared} {l b : Addr} {xs ys zs : List V}

/-! ### the two steps: a tracked list is rewritten, a new list is laid -/
theorem Inv.lset {its its' : List Value} {n : Nat} {f : Array Value → Array Value} {t' : Nat} (I : Inv X pins σ H s) (hH : H l = some (.lst xs))
    (e : s.heap.get? l = some { cls := .type "list", data := .seq its.toArray n }) (hf : f its.toArray = its'.toArray) (hv : Vals ys its') (hz : ys.length ≤ sizeLine) :
    Inv X pins σ (upd H l (.lst ys)) { s with heap := s.heap.update l (Obj.mapSeq f), toks := t' } := by
  have q := PySem.IsL.update e f
  rw [hf] at q
  refine I.write (x := l) (e := l) (by rw [hH]; exact trivial) (.inl rfl) (fun b' u hb hu => (Heap.get?_update_other s.heap (Obj.mapSeq f) (Ne.symm hb)).trans hu) ⟨_, q⟩ ?_
  exact ⟨hz, its', _, hv, q⟩
theorem Inv.lnew {its : List Value} {t' : Nat} (I : Inv X pins σ H s) (hv : Vals ys its) (hz : ys.length ≤ sizeLine) :
    Inv X pins σ (upd H s.heap.objs.size (.lst ys)) { s with heap := s.heap.push { cls := .type "list", data := .seq its.toArray }, toks := t' } :=
  I.laid (fun _ _ q => Heap.get?_push_of_some _ q) (Nat.le_refl _) ⟨hz, its, 0, hv, Heap.get?_push_size _ rfl⟩
theorem Inv.fresh (I : Inv X pins σ H s) : H s.heap.objs.size = none := I.hok.fresh (Nat.le_refl _)
theorem Inv.lstM (I : Inv X pins σ H s) (hH : H l = some (.lst xs)) : xs.length ≤ sizeLine ∧ ∃ (its : List Value) (n : Nat), Vals xs its ∧ xs.length = its.length ∧ s.heap.get? l = some { cls := .type "list", data := .seq its.toArray n } := by
  obtain ⟨z, its, n, r, e⟩ := I.hok l _ hH
  exact ⟨z, its, n, r, r.length, e⟩

theorem notLongL {n : Nat} (h : n ≤ sizeLine) : Builtin.List.listTooLong n = false := by
  unfold Builtin.List.listTooLong
  exact decide_eq_false (by omega)
end

section
variable {X : Cx}

/-! ### methods -/
def rAppend : V → List V → Hp → VK → Prop := fun x vs H Q => ∃ l xs y, x = .ref l ∧ vs = [y] ∧ H l = some (.lst xs) ∧ xs.length < sizeLine ∧ Q .non (upd H l (.lst (xs ++ [y])))
theorem mt_append : MtM X "list.append" rAppend := by
  intro pins s σ H x vs v us Q I rx rv h
  obtain ⟨l, xs, y, rfl, rfl, hH, hz, q⟩ := h
  cases rx
  obtain ⟨u, rfl, ru⟩ := rv.one
  obtain ⟨z, its, n, r, hl, e⟩ := I.lstM hH
  refine call_meets F.slot_list_append ⟨_, e, rfl⟩ F.entry_list_append (F.args_list_append_2 _ _) (PySem.list_append l its.toArray n u (by rw [List.size_toArray]; omega)) ⟨e, ?_⟩
  refine ⟨.non, _, I.lset (its' := its ++ [u]) hH e (by simp) (r.append (.cons ru .nil)) ?_, rfl, q⟩
  rw [List.length_append, List.length_singleton]
  omega

def rExtend : V → List V → Hp → VK → Prop := fun x vs H Q => ∃ l b xs zs, x = .ref l ∧ vs = [.ref b] ∧ H l = some (.lst xs) ∧ H b = some (.lst zs) ∧ xs.length + zs.length ≤ sizeLine ∧ Q .non (upd H l (.lst (xs ++ zs)))
theorem mt_extend : MtM X "list.extend" rExtend := by
  intro pins s σ H x vs v us Q I rx rv h
  obtain ⟨l, b, xs, zs, rfl, rfl, hH, hB, hz, q⟩ := h
  cases rx
  obtain ⟨u, rfl, ru⟩ := rv.one
  cases ru
  obtain ⟨z, its, n, r, hl, e⟩ := I.lstM hH
  obtain ⟨z2, its2, n2, r2, hl2, e2⟩ := I.lstM hB
  have hsz : its.toArray.size + its2.toArray.size ≤ sizeLine := by rw [List.size_toArray, List.size_toArray]; omega
  have hlong : ¬ (!its.toArray.isEmpty && Builtin.List.listTooLong (its.toArray.size + its2.toArray.size)) = true := by
    rw [notLongL hsz, Bool.and_false]
    exact Bool.false_ne_true
  refine call_meets F.slot_list_extend ⟨_, e, rfl⟩ F.entry_list_extend (F.args_list_extend_2 _ _)
    (AutoSeq1.list_extend_list_list_0 l its.toArray n b its2.toArray n2 hlong (by rw [List.size_toArray]; omega) (by omega)) ⟨e, e2, ?_⟩
  refine ⟨.non, _, I.lset (its' := its ++ its2) hH e (by simp) (r.append r2) ?_, rfl, q⟩
  rw [List.length_append]
  omega

def rPop : V → List V → Hp → VK → Prop := fun x vs H Q => ∃ l xs y, x = .ref l ∧ vs = [] ∧ H l = some (.lst xs) ∧ xs[xs.length - 1]? = some y ∧ Q y (upd H l (.lst xs.dropLast))
theorem mt_pop : MtM X "list.pop" rPop := by
  intro pins s σ H x vs v us Q I rx rv h
  obtain ⟨l, xs, y, rfl, rfl, hH, hy, q⟩ := h
  cases rx
  have hus := rv.zero
  subst hus
  obtain ⟨z, its, n, r, hl, e⟩ := I.lstM hH
  obtain ⟨u, hu, ru⟩ := r.get hy
  have hy' : its.toArray[its.toArray.size - 1]? = some u := by
    show its.toArray[its.length - 1]? = some u
    rw [← Array.getElem?_toList, ← hl]
    exact hu
  refine call_meets F.slot_list_pop ⟨_, e, rfl⟩ F.entry_list_pop (F.args_list_pop_1 _) (MeetsSeq.list_pop_last l its.toArray n u hy' (by rw [List.size_toArray]; omega)) ⟨e, ?_⟩
  refine ⟨y, _, I.lset (its' := its.dropLast) hH e ?_ r.dropLast ?_, ru, q⟩
  · show its.toArray.eraseIdxIfInBounds (its.toArray.size - 1) = its.dropLast.toArray
    rw [List.size_toArray, List.eraseIdxIfInBounds_toArray, erase_last]
  · rw [List.length_dropLast]
    omega

def rPopAt : V → List V → Hp → VK → Prop := fun x vs H Q => ∃ l xs i k y, x = .ref l ∧ vs = [.int i] ∧ H l = some (.lst xs) ∧ -(2 ^ 63) ≤ i ∧ i < 2 ^ 63 ∧ seqIndex? i xs.length = some k ∧ xs[k]? = some y ∧ Q y (upd H l (.lst (xs.eraseIdx k)))
theorem mt_popAt : MtM X "list.pop" rPopAt := by
  intro pins s σ H x vs v us Q I rx rv h
  obtain ⟨l, xs, i, k, y, rfl, rfl, hH, h1, h2, hk, hy, q⟩ := h
  cases rx
  obtain ⟨u, rfl, ru⟩ := rv.one
  obtain ⟨t, rfl⟩ := ru
  obtain ⟨z, its, n, r, hl, e⟩ := I.lstM hH
  obtain ⟨w, hw, rw'⟩ := r.get hy
  refine call_meets F.slot_list_pop ⟨_, e, rfl⟩ F.entry_list_pop (F.args_list_pop_2 _ _)
    (MeetsSeq.list_pop_at l its.toArray n i t k w (fitsIndex_both h1 h2) (by rw [List.size_toArray, ← hl]; exact hk) (by rw [← Array.getElem?_toList]; exact hw) (by rw [List.size_toArray]; omega)) ⟨e, ?_⟩
  refine ⟨y, _, I.lset (its' := its.eraseIdx k) hH e ?_ (r.eraseIdx k) ?_, rw', q⟩
  · show its.toArray.eraseIdxIfInBounds k = (its.eraseIdx k).toArray
    rw [List.eraseIdxIfInBounds_toArray]
  · have := len_erase xs k
    omega

def rReverse : V → List V → Hp → VK → Prop := fun x vs H Q => ∃ l xs, x = .ref l ∧ vs = [] ∧ H l = some (.lst xs) ∧ Q .non (upd H l (.lst xs.reverse))
theorem mt_reverse : MtM X "list.reverse" rReverse := by
  intro pins s σ H x vs v us Q I rx rv h
  obtain ⟨l, xs, rfl, rfl, hH, q⟩ := h
  cases rx
  have hus := rv.zero
  subst hus
  obtain ⟨z, its, n, r, hl, e⟩ := I.lstM hH
  refine call_meets F.slot_list_reverse ⟨_, e, rfl⟩ F.entry_list_reverse (F.args_list_reverse_1 _) (AutoSeq1.list_reverse_list_0 l its.toArray n (by rw [List.size_toArray]; omega)) ⟨e, ?_⟩
  refine ⟨.non, _, I.lset (its' := its.reverse) hH e (by simp) r.reverse ?_, rfl, q⟩
  rw [List.length_reverse]
  omega

def rClear : V → List V → Hp → VK → Prop := fun x vs H Q => ∃ l xs, x = .ref l ∧ vs = [] ∧ H l = some (.lst xs) ∧ Q .non (upd H l (.lst []))
theorem mt_clear : MtM X "list.clear" rClear := by
  intro pins s σ H x vs v us Q I rx rv h
  obtain ⟨l, xs, rfl, rfl, hH, q⟩ := h
  cases rx
  have hus := rv.zero
  subst hus
  obtain ⟨z, its, n, r, hl, e⟩ := I.lstM hH
  refine call_meets F.slot_list_clear ⟨_, e, rfl⟩ F.entry_list_clear (F.args_list_clear_1 _) (AutoSeq1.list_clear_list_0 l its.toArray n (by rw [List.size_toArray]; omega)) ⟨e, ?_⟩
  exact ⟨.non, _, I.lset (its' := []) (ys := []) hH e rfl .nil (Nat.zero_le _), rfl, q⟩

/-! ### list + list, list += list, list * int -/
def rCat : R2 := fun x y H Q => ∃ l b xs zs, x = .ref l ∧ y = .ref b ∧ H l = some (.lst xs) ∧ H b = some (.lst zs) ∧ xs.length + zs.length ≤ sizeLine ∧ ∀ p, H p = none → Q (.ref p) (upd H p (.lst (xs ++ zs)))
theorem op_cat : OpR X (binaryOp .Add) rCat := by
  intro pins s σ H x y v u Q I rx ry h
  obtain ⟨l, b, xs, zs, rfl, rfl, hH, hB, hz, q⟩ := h
  cases rx
  cases ry
  obtain ⟨z, its, n, r, hl, e⟩ := I.lstM hH
  obtain ⟨z2, its2, n2, r2, hl2, e2⟩ := I.lstM hB
  refine PySem.P.add_list e e2 ?_ (by rw [List.size_toArray, List.size_toArray]; omega)
  have ea : its.toArray ++ its2.toArray = (its ++ its2).toArray := by simp
  rw [ea]
  exact ⟨.ref _, _, I.lnew (t' := s.toks) (r.append r2) (by rw [List.length_append]; omega), rfl, q _ I.fresh⟩
/-- a list times an int (a negative one is nothing) -/
def rRep : R2 := fun x y H Q => ∃ l k xs, x = .ref l ∧ y = .int k ∧ H l = some (.lst xs) ∧ -(2 ^ 63) ≤ k ∧ k < 2 ^ 63 ∧ xs.length * k.toNat ≤ sizeLine ∧
  ∀ p, H p = none → Q (.ref p) (upd H p (.lst (List.replicate k.toNat xs).flatten))
theorem len_rep {α : Type} (xs : List α) (k : Nat) : (List.replicate k xs).flatten.length = k * xs.length := by
  induction k with
  | zero => simp
  | succ k ih => rw [List.replicate_succ, List.flatten_cons, List.length_append, ih, Nat.succ_mul, Nat.add_comm]
theorem op_rep : OpR X (binaryOp .Mult) rRep := by
  intro pins s σ H x y v u Q I rx ry h
  obtain ⟨l, k, xs, rfl, rfl, hH, h1, h2, hz, q⟩ := h
  cases rx
  obtain ⟨t, rfl⟩ := ry
  obtain ⟨z, its, n, r, hl, e⟩ := I.lstM hH
  have hlen : its.toArray.size * k.toNat ≤ sizeLine := by rw [List.size_toArray, ← hl]; exact hz
  have hcap : ¬ its.toArray.size * k.toNat > (2 ^ 63 - 1) / 8 := by
    have : (sizeLine : Nat) ≤ (2 ^ 63 - 1) / 8 := by decide
    omega
  have hfit : ¬ (!Builtin.List.listFitsIndex k) = true := by
    rw [fitsIndex_both h1 h2]
    exact Bool.false_ne_true
  have hlong : ¬ Builtin.List.listTooLong (its.toArray.size * k.toNat) = true := by
    rw [notLongL hlen]
    exact Bool.false_ne_true
  have hnew : List.foldl (fun x1 x2 => x1 ++ x2) #[] (List.replicate (if its.toArray.isEmpty = true then 0 else k.toNat) its.toArray) = (List.replicate k.toNat its).flatten.toArray := by
    have f0 : ∀ m : Nat, List.foldl (fun x1 x2 => x1 ++ x2) #[] (List.replicate m its.toArray) = (List.replicate m its).flatten.toArray := fun m => by
      have := foldl_rep its m []
      rw [List.nil_append] at this
      exact this
    rw [f0]
    cases its with
    | nil => simp
    | cons a r' => rw [if_neg (by simp)]
  refine wpAny_binaryOp_repeat_ref (T := "list") (U := "int") (by decide) ⟨_, e, rfl⟩ (fun s' => typeIs_int s' k t) noFill_list_mul F.fills_int_mul F.slot_int_rmul repeat_list F.slot_int_index.lookup
    (call_meets F.slot_int_rmul (typeIs_int s k t) F.entry_int_rmul (F.args_int_rmul_2 _ _) (int___rmul___int_list k t l its.toArray n)
      ⟨e, rfl, ⟨_, e, rfl⟩, call_meets F.slot_list_mul ⟨_, e, rfl⟩ F.entry_list_mul (F.args_list_mul_2 _ _) (AutoListH.list___mul___list_int_3 l its.toArray n k t hfit hcap hlong) ⟨e, ?_⟩⟩)
  rw [hnew]
  exact ⟨.ref _, _, I.lnew (t' := s.toks) (r.rep k.toNat) (by rw [len_rep, Nat.mul_comm]; exact hz), rfl, q _ I.fresh⟩

/-! ### del xs[i] -/
theorem del_list {pins : List (Addr × Obj)} {s : Shared} {σ : St} {H : Hp} {l : Addr} {xs : List V} {i : Int} {t : Tok} {k : Nat} {Q : Unit → Shared → Prop} (I : Inv X pins σ H s) (hH : H l = some (.lst xs))
    (h1 : -(2 ^ 63) ≤ i) (h2 : i < 2 ^ 63) (hk : seqIndex? i xs.length = some k) (h : ∀ s', Inv X pins σ (upd H l (.lst (xs.eraseIdx k))) s' → Q () s') :
    wpAny (model X.prog X.w) X.A (delItem (.ref l) (.int i t)) Q X.xe s := by
  obtain ⟨z, its, n, r, hl, e⟩ := I.lstM hH
  refine PySem.P.delItem_list (k := k) e (fitsIndex_both h1 h2) (by rw [List.size_toArray, ← hl]; exact hk) (h _ ?_) (by rw [List.size_toArray]; omega)
  refine I.lset (its' := its.eraseIdx k) (t' := s.toks) hH e ?_ (r.eraseIdx k) ?_
  · show its.toArray.eraseIdxIfInBounds k = (its.eraseIdx k).toArray
    rw [List.eraseIdxIfInBounds_toArray]
  · have := len_erase xs k
    omega
end

/-! ### xs[a:b] = ys -/
section
variable {prog : Program} {w : World} {A : Around} {E : Value → Shared → Prop} {s : Shared}
theorem splice_eq (its its2 : List Value) (a c : Nat) : its.toArray.extract 0 a ++ its2.toArray ++ its.toArray.extract c its.toArray.size = (its.take a ++ its2 ++ its.drop c).toArray := by
  apply Array.toList_inj.mp
  first
    | (simp
       exact List.take_of_length_le (by simp))
    | simp [List.take_of_length_le]
    | simp
theorem bounds_run {a c n : Nat} (hac : a ≤ c) (hc : c ≤ n) : sliceBounds (some (a : Int)) (some (c : Int)) none n = ((a : Int), (c : Int), 1) := by
  simp only [sliceBounds, Option.getD_none]
  have h1 : ¬ ((a : Int) < 0) := by omega
  have h2 : ¬ ((c : Int) < 0) := by omega
  simp only [h1, h2, if_false, show (1 : Int) > 0 by decide, if_true]
  congr 1
  · omega
  · congr 1; omega
set_option maxRecDepth 100000 in
/-- list.__setitem__ with a slice of step one and another list -/
theorem setItem_slice {l b sl : Addr} {items new : Array Value} {n n2 : Nat} {vl vu : Value} {a c : Nat} {Q : Unit → Shared → Prop}
    (e : s.heap.get? l = some { cls := .type "list", data := .seq items n }) (e2 : s.heap.get? b = some { cls := .type "list", data := .seq new n2 }) (hne : l ≠ b)
    (hs : s.heap.IsSliceOf sl vl vu .none) (pl : IsPart vl (some (a : Int))) (pu : IsPart vu (some (c : Int))) (hac : a ≤ c) (hc : c ≤ items.size)
    (hsz : items.size + new.size ≤ sizeLine) (h : Q () { s with heap := s.heap.update l (Obj.mapSeq fun xs => xs.extract 0 a ++ new ++ xs.extract c xs.size) }) :
    wpAny (model prog w) A (setItem (.ref l) (.ref sl) (.ref b)) Q E s := by
  have hl : s.heap.IsList l items := PySem.IsL.isList e
  have hb : s.heap.IsList b new := PySem.IsL.isList e2
  obtain ⟨os, hos, hcs, hds⟩ := id hs
  have hTs : s.TypeIs (.ref sl) "slice" := ⟨os, hos, hcs⟩
  have hstep : ¬ ((rawPart none == rawInt 0) = true) := Bool.false_ne_true
  have hsame : Builtin.List.listSameRef (.ref l) (.ref b) = false := by
    unfold Builtin.List.listSameRef
    exact beq_eq_false_iff_ne.mpr hne
  have hmax : (max (a : Int) (c : Int)).toNat = c := by omega
  have hz' : ((fun xs : Array Value => xs.extract 0 a ++ new ++ xs.extract c xs.size) items).size ≤ sizeLine + 1 := by
    simp only [Array.size_append, Array.size_extract]
    omega
  unfold setItem
  try with_reducible refine wpAny_holding ?_
  first | refine wpAny_bind (wpAny_pure ?_) | skip
  refine wpAny_bind (wpAny_sequenceKey hl.typeIs (by decide) ?_)
  refine wpAny_bind (wpAny_callSpecial?_slot (name := Str.ofString "__setitem__") hl.typeIs slot_list_setitem
    (wpAny_call_entry slot_list_setitem hl.typeIs entry_list_setitem ?_ (args_list_setitem _ _ _)))
  show wpAny _ _ (Builtin.List.listSubscript? (.ref sl) >>= _) _ _ s
  refine wpAny_bind ?_
  unfold Builtin.List.listSubscript?
  refine wpAny_bind (wpAny_specialOf hTs slice_no_index ?_)
  simp only [Option.isNone_none, if_true]
  refine wpAny_pure ?_
  show wpAny _ _ (typeOf (.ref sl) >>= _) _ _ s
  refine wpAny_bind (wpAny_typeOf hTs ?_)
  first
    | rw [if_neg (by decide)]
    | refine PySem.W.KFB.if_not (by decide) ?_
  rw [listSliceParts_eq]
  refine wpAny_bind (wpAny_bind (wpAny_field hos hds (x := .none) rfl (wpAny_bind (wpAny_listPart .none ?_))))
  rw [if_neg hstep]
  refine wpAny_bind (wpAny_field hos hds (x := vl) rfl (wpAny_bind (wpAny_listPart pl ?_)))
  refine wpAny_bind (wpAny_field hos hds (x := vu) rfl (wpAny_bind (wpAny_listPart pu (wpAny_pure ?_))))
  first
    | simp only [hsame, Bool.false_eq_true, if_false]
    | refine PySem.W.KFB.if_not hsame ?_
    | (dsimp only
       rw [if_neg (by rw [hsame]; exact Bool.false_ne_true)])
  refine wpAny_bind (m := Builtin.List.listAllItems (.ref b) "must assign iterable to extended slice") ?_
  unfold Builtin.List.listAllItems
  refine wpAny_bind (wpAny_typeOf hb.typeIs ?_)
  first
    | refine PySem.W.KFB.if_so (by decide) ?_
    | rw [if_pos (by decide)]
    | simp only [beq_self_eq_true, Bool.true_or, if_true]
  unfold Builtin.List.listItems
  refine wpAny_bind (wpAny_seqItems e2 rfl (wpAny_pure ?_))
  refine wpAny_bind (wpAny_bind (wpAny_seqItems e rfl (wpAny_pure ?_)))
  refine wpAny_bind (wpAny_of_eq ((sliceIndices_raw (some (a : Int)) (some (c : Int)) none items.size (by simp)).trans (congrArg (pure : Int × Int × Int → Sem (Int × Int × Int)) (bounds_run hac hc))) ?_)
  show wpAny _ _ (if ((1 : Int) == 1) = true then _ else _) _ _ s
  rw [if_pos (by decide)]
  refine wpAny_bind (wpAny_rule ?_)
  first
    | simp only [notLongL hsz, Bool.false_eq_true, if_false]
    | refine PySem.W.KFB.if_not (notLongL hsz) ?_
  first | refine wpAny_bind (wpAny_pure ?_) | skip
  show wpAny _ _ (updateSeq l (fun xs => xs.extract 0 ((a : Int)).toNat ++ new ++ xs.extract (max (a : Int) (c : Int)).toNat xs.size) >>= _) _ _ s
  rw [hmax, Int.toNat_natCast]
  refine wpAny_bind (wpAny_updateSeq (hz := Nat.le_trans (Nat.le_add_right _ _) hsz) (_hz' := hz') e rfl ?_)
  refine wpAny_bind (wpAny_letGo ?_)
  first
    | exact wpAny_bind (wpAny_pure (wpAny_pure ⟨.none, rfl, wpAny_pure h⟩))
    | exact wpAny_pure ⟨.none, rfl, wpAny_pure h⟩
end

section
variable {X : Cx}
/-- xs[a:c] = ys of another list, at the value level: sl is the slice object that was just made -/
theorem set_slice {pins : List (Addr × Obj)} {s : Shared} {σ : St} {H : Hp} {l b sl : Addr} {xs ys : List V} {a c : Int} {vl vu : Value} {Q : Unit → Shared → Prop} (I : Inv X pins σ H s)
    (hH : H l = some (.lst xs)) (hB : H b = some (.lst ys)) (hne : l ≠ b) (hs : s.heap.IsSliceOf sl vl vu .none) (ra : RelV (.int a) vl) (rc : RelV (.int c) vu) (h0 : 0 ≤ a) (hac : a ≤ c) (hc : c ≤ xs.length)
    (hz : xs.length + ys.length ≤ sizeLine) (h : ∀ s', Inv X pins σ (upd H l (.lst (xs.take a.toNat ++ ys ++ xs.drop c.toNat))) s' → Q () s') :
    wpAny (model X.prog X.w) X.A (setItem (.ref l) (.ref sl) (.ref b)) Q X.xe s := by
  obtain ⟨ta, rfl⟩ := ra
  obtain ⟨tc, rfl⟩ := rc
  obtain ⟨z, its, n, r, hl, e⟩ := I.lstM hH
  obtain ⟨z2, its2, n2, r2, hl2, e2⟩ := I.lstM hB
  obtain ⟨a', rfl⟩ := Int.eq_ofNat_of_zero_le h0
  obtain ⟨c', rfl⟩ := Int.eq_ofNat_of_zero_le (Int.le_trans h0 hac)
  simp only [Int.toNat_natCast] at h
  refine setItem_slice (a := a') (c := c') e e2 hne hs (.int _ _) (.int _ _) (by omega) (by rw [List.size_toArray]; omega) (by rw [List.size_toArray, List.size_toArray]; omega) (h _ ?_)
  refine I.lset (its' := its.take a' ++ its2 ++ its.drop c') (t' := s.toks) hH e ?_ (Vals.append (Vals.append (r.take _) r2) (r.drop _)) ?_
  · exact splice_eq its its2 a' c'
  · rw [List.length_append, List.length_append, List.length_take, List.length_drop]
    omega
end
end L2

namespace Att
open PySem PySem.W PySem.Calls PyProof.Rows

/-! ### the script -/
theorem ints_of_wellAll {P : Params} {h : Heap} : ∀ (ns : List Int) (vs : List Value), WellAll P h vs (ns.map WData.int) → IntsAre vs ns := by
  intro ns
  induction ns with
  | nil =>
    intro vs w
    rw [List.map_nil] at w
    cases w
    exact .nil
  | cons n ns ih =>
    intro vs w
    rw [List.map_cons] at w
    cases w with
    | cons a b =>
      cases a
      exact .cons _ _ (ih _ b)

theorem script_of {l : OpenLaw} {n : Nat} (hn : l.most = some n) {P : Params} {h : Heap} {args : List WData} {vals : List Value}
    (hpre : l.row.toRowW.claim.pre args = true) (hwl : WellAll P h vals args) :
    ∃ a vs ns, vals = [Value.ref a] ∧ args = [WData.list (ns.map WData.int)] ∧ h.get? a = some { cls := .type "list", data := .seq vs.toArray } ∧ IntsAre vs ns ∧ ns.length ≤ n := by
  have hsh : WShape.hasAll [] args [.list .int] = true := (pre_splitW hpre).1
  have hc : l.pre.holds [] { args := args } = true := (pre_splitW hpre).2
  obtain ⟨d, r, rfl, h1, h2⟩ := hasAllW_cons hsh
  obtain rfl := hasAllW_nil h2
  obtain ⟨xs, rfl, h3⟩ := hasW_list h1
  obtain ⟨ns, rfl⟩ := items_int h3
  have hlen : ns.length ≤ n := by
    unfold OpenLaw.pre at hc
    have h4 : (WTm.not (.lt (.lit (.int (n : Int))) (.len (.arg 0)))).holds [] { args := [.list (ns.map .int)] } = true := by
      have h4 := (holds_andW hc).1
      rw [hn] at h4
      exact h4
    have h5 := condW_of h4 (w_not (w_lt w_lit (w_len_list (w_arg rfl))))
    rw [List.length_map] at h5
    refine Nat.le_of_not_lt fun q => ?_
    have q' : (n : Int) < ((ns.length : Nat) : Int) := by omega
    first
      | (rw [decide_eq_true q'] at h5; exact absurd h5 (by decide))
      | (simp at h5; omega)
  cases hwl with
  | cons w1 w2 =>
    cases w2
    cases w1 with
    | list ho hall => exact ⟨_, _, ns, rfl, rfl, ho, ints_of_wellAll ns _ hall, hlen⟩

theorem post_true (l : OpenLaw) (args : List WData) : l.row.toRowW.claim.post args (.bool true) args = true :=
  postW_of (r := l.row.toRowW) (X := (true == true))
    (show WShape.has [] (.bool true) .bool = true by first | rfl | decide | simp [WShape.has, WShape.arms, WShape.armsAll])
    (show (WTm.eq .res (.lit (.bool true))).value [] { args := args, res := some (.bool true), after := args } = some (.bool (true == true)) from w_eq_bool (w_res rfl) w_lit) rfl

/-! ### the attachment: holds_open's last premise (the goal 'hc' behind k_head) from a wpAny of the law's body -/
theorem attach {l : OpenLaw} {n : Nat} {q : Program} {loose : List Str} {XP : (Str → Option Value) → Heap → Prop} {YP : World → Heap → Prop} {d : DefRec} {x : Str}
    (hn : l.most = some n) (hdf : d.params.defaults = [])
    (hbind : ∀ pm cd doc v : Value, bindArgs (docDef d.name d.params d.body d.scope pm cd doc) ⟨[v], []⟩ = pure [(x, v)])
    (hx : d.scope.names.lookup x = some .local ∨ d.scope.names.lookup x = some .cell)
    (hk : d.scope.kind = .function) (hco : d.scope.isCoroutine = false) (hgen : d.scope.isGenerator = false)
    (body : ∀ (w : World) (s₀ s₁ s : Shared) (mg mb : Str → Option Value) (fa : Addr) (o : Obj) (pm cd doc : Value) (a : Addr) (vs : List Value) (ns : List Int),
      Ground q loose [] XP w s₀ mg mb s₁.heap → YP w s₁.heap →
      s₁.heap.get? fa = some o → o.data = .func (docDef d.name d.params d.body d.scope pm cd doc) → s₁.heap.CodeRec cd d.name → mg d.name = some (.ref fa) →
      s₁.heap.get? a = some { cls := .type "list", data := .seq vs.toArray } → IntsAre vs ns → ns.length ≤ n →
      s.gens = #[] → s.os = s₁.os →
      Fr s₁.heap s₁.heap.objs.size s.heap (bindL (envOfC d.name d.scope s₁.heap.objs.size fa cd).kindOf [(x, .ref a)] fun _ => none) →
      Cl s₁.heap.objs.size (cellsFrom (s₁.heap.objs.size + 1) d.scope.names []) s.heap (bindC (envOfC d.name d.scope s₁.heap.objs.size fa cd).kindOf [(x, .ref a)] fun _ => none) →
      wpAny (model l.prog w) (callerA.deeper (envOfC d.name d.scope s₁.heap.objs.size fa cd)) (execs d.body (envOfC d.name d.scope s₁.heap.objs.size fa cd))
        (fun f s' => f = .ret (.bool true) ∧ OldK s₁.heap s'.heap ∧ s'.os = s₁.os ∧ AllBare s'.gens) (fun _ _ => False) s) :
    WalkO q loose XP YP l.row.toRowW d [] (fun f vs => PySem.call f vs) := by
  intro w s₀ s₁ mg mb G Y fa o pm cd doc dV kV ho hd hcd hD hmg hg args vals as hpre hlay hrd hwl hlo
  obtain rfl : dV = .none := Dflts.none hD hdf
  obtain rfl : kV = .none := Dflts.noKw hD
  obtain ⟨a, vs, ns, rfl, rfl, hobj, hints, hlen⟩ := script_of hn hpre hwl
  refine enter_call ?_
  refine call_cells_ret (o := o) (by rw [depth_caller]; decide) ho (fd_plain hd) G.T.nolimit hcd (hbind pm cd doc (.ref a)) (fun y hy => ?_) (fun h₁ tk F X => ?_) hco hgen hk
  · obtain rfl : y = (x, Value.ref a) := List.mem_singleton.mp hy
    rcases hx with e | e
    · exact .inl e
    · exact .inr ⟨e, cellsFrom_some _ _ _ (.inl e)⟩
  · refine wpAny_mono (body w s₀ s₁ { s₁ with heap := h₁, toks := tk } mg mb fa o pm cd doc a vs ns G Y ho (fd_plain hd) hcd hmg hobj hints hlen hg rfl F X) (fun f s' hq => ?_) (fun _ _ hq => hq)
    obtain ⟨rfl, h2, h3, h4⟩ := hq
    exact ⟨.inl ⟨.bool true, .bool true, [], rfl, fun _ => rfl, .bool true, post_true l _, fun _ => ⟨List.Pairwise.nil, fun _ hm => (nomatch hm)⟩⟩, h2, h3, h4⟩

/-- the same from a codeAny of the CALL (for a layer whose function contracts speak of calls) -/
theorem attach_call {l : OpenLaw} {n : Nat} {q : Program} {loose : List Str} {XP : (Str → Option Value) → Heap → Prop} {YP : World → Heap → Prop} {d : DefRec}
    (hn : l.most = some n) (hdf : d.params.defaults = [])
    (call : ∀ (w : World) (s₀ s₁ : Shared) (mg mb : Str → Option Value) (fa : Addr) (o : Obj) (pm cd doc : Value) (a : Addr) (vs : List Value) (ns : List Int),
      Ground q loose [] XP w s₀ mg mb s₁.heap → YP w s₁.heap →
      s₁.heap.get? fa = some o → o.data = .func (docDef d.name d.params d.body d.scope pm cd doc) → s₁.heap.CodeRec cd d.name → mg d.name = some (.ref fa) →
      s₁.heap.get? a = some { cls := .type "list", data := .seq vs.toArray } → IntsAre vs ns → ns.length ≤ n → s₁.gens = #[] →
      codeAny (model l.prog w) callerA (.call (.ref fa) ⟨[.ref a], []⟩) (fun r s' => r = .ok (.ret (.bool true)) ∧ OldK s₁.heap s'.heap ∧ s'.os = s₁.os ∧ AllBare s'.gens) s₁) :
    WalkO q loose XP YP l.row.toRowW d [] (fun f vs => PySem.call f vs) := by
  intro w s₀ s₁ mg mb G Y fa o pm cd doc dV kV ho hd hcd hD hmg hg args vals as hpre hlay hrd hwl hlo
  obtain rfl : dV = .none := Dflts.none hD hdf
  obtain rfl : kV = .none := Dflts.noKw hD
  obtain ⟨a, vs, ns, rfl, rfl, hobj, hints, hlen⟩ := script_of hn hpre hwl
  refine enter_call (codeAny_mono (call w s₀ s₁ mg mb fa o pm cd doc a vs ns G Y ho (fd_plain hd) hcd hmg hobj hints hlen hg) fun r s' hq => ?_)
  obtain ⟨rfl, h2, h3, h4⟩ := hq
  exact ⟨.inl ⟨.bool true, .bool true, [], rfl, fun _ => rfl, .bool true, post_true l _, fun _ => ⟨List.Pairwise.nil, fun _ hm => (nomatch hm)⟩⟩, h2, h3, h4⟩

/-- the same where the top left finished generators (o_head chose holds_openN): nothing may have changed at all and no generator may be left -/
theorem attachN {l : OpenLaw} {n : Nat} {q : Program} {loose : List Str} {XP : (Str → Option Value) → Heap → Prop} {YP : World → Heap → Prop} {d : DefRec} {x : Str}
    (hn : l.most = some n) (hdf : d.params.defaults = [])
    (hbind : ∀ pm cd doc v : Value, bindArgs (docDef d.name d.params d.body d.scope pm cd doc) ⟨[v], []⟩ = pure [(x, v)])
    (hx : d.scope.names.lookup x = some .local ∨ d.scope.names.lookup x = some .cell)
    (hk : d.scope.kind = .function) (hco : d.scope.isCoroutine = false) (hgen : d.scope.isGenerator = false)
    (body : ∀ (w : World) (s₀ s₁ s : Shared) (mg mb : Str → Option Value) (fa : Addr) (o : Obj) (pm cd doc : Value) (a : Addr) (vs : List Value) (ns : List Int),
      Ground q loose [] XP w s₀ mg mb s₁.heap → YP w s₁.heap →
      s₁.heap.get? fa = some o → o.data = .func (docDef d.name d.params d.body d.scope pm cd doc) → s₁.heap.CodeRec cd d.name → mg d.name = some (.ref fa) →
      s₁.heap.get? a = some { cls := .type "list", data := .seq vs.toArray } → IntsAre vs ns → ns.length ≤ n →
      s.gens = #[] → s.os = s₁.os →
      Fr s₁.heap s₁.heap.objs.size s.heap (bindL (envOfC d.name d.scope s₁.heap.objs.size fa cd).kindOf [(x, .ref a)] fun _ => none) →
      Cl s₁.heap.objs.size (cellsFrom (s₁.heap.objs.size + 1) d.scope.names []) s.heap (bindC (envOfC d.name d.scope s₁.heap.objs.size fa cd).kindOf [(x, .ref a)] fun _ => none) →
      wpAny (model l.prog w) (callerA.deeper (envOfC d.name d.scope s₁.heap.objs.size fa cd)) (execs d.body (envOfC d.name d.scope s₁.heap.objs.size fa cd))
        (fun f s' => f = .ret (.bool true) ∧ (∀ b o, s₁.heap.get? b = some o → s'.heap.get? b = some o) ∧ s'.os = s₁.os ∧ s'.gens = #[]) (fun _ _ => False) s) :
    WalkN q loose XP YP l.row.toRowW d [] (fun f vs => PySem.call f vs) := by
  intro w s₀ s₁ mg mb G Y fa o pm cd doc dV kV ho hd hcd hD hmg hg args vals as hpre hlay hrd hwl hlo
  obtain rfl : dV = .none := Dflts.none hD hdf
  obtain rfl : kV = .none := Dflts.noKw hD
  obtain ⟨a, vs, ns, rfl, rfl, hobj, hints, hlen⟩ := script_of hn hpre hwl
  refine enter_callW ?_
  refine call_cells_ret (o := o) (by rw [depth_caller]; decide) ho (fd_plain hd) G.T.nolimit hcd (hbind pm cd doc (.ref a)) (fun y hy => ?_) (fun h₁ tk F X => ?_) hco hgen hk
  · obtain rfl : y = (x, Value.ref a) := List.mem_singleton.mp hy
    rcases hx with e | e
    · exact .inl e
    · exact .inr ⟨e, cellsFrom_some _ _ _ (.inl e)⟩
  · refine wpAny_mono (body w s₀ s₁ { s₁ with heap := h₁, toks := tk } mg mb fa o pm cd doc a vs ns G Y ho (fd_plain hd) hcd hmg hobj hints hlen hg rfl F X) (fun f s' hq => ?_) (fun _ _ hq => hq)
    obtain ⟨rfl, h2, h3, h4⟩ := hq
    exact ⟨.inl ⟨.bool true, .bool true, [], rfl, fun _ => rfl, .bool true, post_true l _, fun _ => ⟨List.Pairwise.nil, fun _ hm => (nomatch hm)⟩⟩, h2, h3, h4⟩

/-! ### rules over ANY heap (no ledger) from facts about the written part K: the library's own take a ledger (News) for what they write -/
section
variable {prog : Program} {w : World} {A : Around} {E : Value → Shared → Prop} {s : Shared} {K : Frag}

/-- a def of the module, or a method (qual 'C.m'), entered: the frame is the next address; cells behind it -/
theorem call_fn {R : Result → Shared → Prop} {name qual : Str} {params : Arguments} {body : List Stmt} {scope : Scope} {dV kV doc pm cdv ct oc : Value} {an od : Option Addr} {osl : Array (Option Value)} {f : Addr} {args : Args} {binds : List (Str × Value)}
    (X : K.In s.heap) (hlim : s.heap.NoLimit) (ho : K.lookup f = some ⟨oc, od, .func (fnOf name qual params body scope dV kV doc pm an cdv ct), osl⟩) (hcd : codeIn K cdv qual = true) (hroom : A.depth < recursionLimit)
    (hbind : BindsTo s (fnOf name qual params body scope dV kV doc pm an cdv ct) args binds)
    (hkind : (binds.all fun y => scope.names.lookup y.1 == some .local || scope.names.lookup y.1 == some .cell) = true)
    (h : ∀ s₁, InCallC s s.heap.objs.size (bindL (envOfC qual scope s.heap.objs.size f cdv).kindOf binds fun _ => none) (cellsFrom (s.heap.objs.size + 1) scope.names [])
        (bindC (envOfC qual scope s.heap.objs.size f cdv).kindOf binds fun _ => none) s₁ →
      wpAny (model prog w) (A.deeper (envOfC qual scope s.heap.objs.size f cdv)) (execs body (envOfC qual scope s.heap.objs.size f cdv))
        (fun fl s' => R (.ok (.ret (match fl with | .ret v => v | _ => .none))) s')
        (fun e s' => wpAny (model prog w) (A.deeper (envOfC qual scope s.heap.objs.size f cdv)) (leaving (envOfC qual scope s.heap.objs.size f cdv) e) (fun _ s'' => R (.error e) s'') (fun e' s'' => R (.error e') s'') s') s₁)
    (hco : scope.isCoroutine = false) (hgen : scope.isGenerator = false) (hk : scope.kind = .function) : codeAny (model prog w) A (.call (.ref f) args) R s := by
  refine codeAny_call_function hroom (X _ _ ho) rfl hco hgen rfl (codeRec_of X hcd) (hbind _ _ _ _ ?_)
  refine wpAny_newFunctionEnv_cells hk (kindsX hkind _) fun env he s₁ x => ?_
  subst he
  exact ⟨hlim.keeps x.toInCall.keep, codeAny_func (h s₁ x)⟩

/-- C(..): dict at size, instance at size + 1, then __init__ -/
theorem make_obj {R : Result → Shared → Prop} {C fI : Addr} {rest : List Value} {kw : List (Str × Value)}
    (X : K.In s.heap) (hm : makesIn K C = true) (hi : findIn K (.ref C) "__init__" = some (some (.ref fI))) (hf : isFn K (.ref fI) = true)
    (h : codeAny (model prog w) (A.under (.builtin "type.__call__" ⟨.ref C :: rest, kw⟩)) (.call (.ref fI) ⟨.ref (s.heap.objs.size + 1) :: rest, kw⟩) (InitBack (s.heap.objs.size + 1) R)
      { s with heap := (s.heap.push emptyDict).push (instObj C s.heap.objs.size) }) : codeAny (model prog w) A (.call (.ref C) ⟨rest, kw⟩) R s := by
  obtain ⟨hh, g, d, t, os⟩ := s
  exact make_core (makes_of X hm) (looks_findIn X hi) (fun self => bind_fn X self (beq_iff_eq.mp hf)) (.inl rfl) h

/-- x.name where the instance's dict holds the name and the class does not -/
theorem get_field {x C : Addr} {ox : Obj} {es : List DictEntry} {n : Nat} {name : Str} {expr : Bool} {v : Value} {Q : Value → Shared → Prop}
    (X : K.In s.heap) (I : PySem.W.InstAt s.heap x ox C (some (dictOf es n))) (hg : plainGet K C name = true) (hh : hasDictIn K C = true) (ha : findIn K (.ref C) name = some none)
    (hl : getL name es = some (some v)) (hv : handedIn v = true) (h : Q v { s with toks := s.toks + 1 }) : wpAny (model prog w) A (getAttr (.ref x) name expr) Q E s :=
  get_value X I (plainGet_of hg).1 (findObj_own hh ha rfl hl) hv h

/-- x.m(..): the method found in the class -/
theorem get_method {x C f : Addr} {ox : Obj} {es : List DictEntry} {n : Nat} {name : Str} {pl : Sem Bool} {Q : Value × List Value → Shared → Prop}
    (X : K.In s.heap) (I : PySem.W.InstAt s.heap x ox C (some (dictOf es n))) (hg : plainGet K C name = true) (hf : findIn K (.ref C) name = some (some (.ref f))) (ht : isFn K (.ref f) = true)
    (hl : getL name es = some none) (h : Q (.ref f, [.ref x]) s) : wpAny (model prog w) A (getMethod (.ref x) name pl) Q E s :=
  method_fn X I (plainGet_of hg).1 (plainGet_of hg).2 hf (beq_iff_eq.mp ht) (by show (lookIn name (dictOf es n)).map _ = _; rw [lookIn_dict, hl]; rfl) h

/-! the whole heap as the ledger: makes every rule that writes through a ledger a rule over any heap -/
def noObjs (h : Heap) : Heap := { h with objs := #[] }
theorem noObjs_get (h : Heap) (b : Addr) : (noObjs h).get? b = none := by
  cases e : (noObjs h).get? b with
  | none => rfl
  | some o => exact absurd (Heap.lt_size e) (Nat.not_lt_zero _)
def ledger (h : Heap) (L d : Addr) : List (Addr × Obj) := (List.range h.objs.size).filterMap fun a => if a = L ∨ a = d then none else (h.get? a).map fun o => (a, o)
theorem mem_ledger {h : Heap} {L d a : Addr} {o : Obj} : (a, o) ∈ ledger h L d ↔ a ≠ L ∧ a ≠ d ∧ h.get? a = some o := by
  unfold ledger
  rw [List.mem_filterMap]
  constructor
  · rintro ⟨b, _, e⟩
    split at e
    · cases e
    · rename_i hb
      obtain ⟨o', ho, e'⟩ := Option.map_eq_some_iff.mp e
      cases e'
      exact ⟨fun q => hb (.inl q), fun q => hb (.inr q), ho⟩
  · rintro ⟨n1, n2, ho⟩
    refine ⟨a, List.mem_range.mpr (Heap.lt_size ho), ?_⟩
    rw [if_neg (show ¬ (a = L ∨ a = d) from fun q => q.elim n1 n2), ho] <;> rfl
theorem news_ledger {h : Heap} {L d : Addr} {od : Obj} (hne : d ≠ L) (ho : h.get? d = some od) : News (noObjs h) L h ([] ++ (d, od) :: ledger h L d) := by
  rintro ⟨a, o⟩ hp
  rcases List.mem_cons.mp hp with e | hp
  · cases e
    exact ⟨ho, hne, noObjs_get _ _⟩
  · obtain ⟨n1, n2, e⟩ := mem_ledger.mp hp
    exact ⟨e, n1, noObjs_get _ _⟩
theorem fr_all {h : Heap} {L : Addr} {m : Str → Option Value} (n : h.Ns L m) : Fr (noObjs h) L h m :=
  ⟨n, fun b o e => (by rw [noObjs_get] at e; cases e), Nat.zero_le _⟩
/-- Upd of the head entry (for append_K, setItem_K ..) -/
theorem upd_ledger {h : Heap} {L d : Addr} {o o' : Obj} : Upd d o o' ((d, o) :: ledger h L d) ((d, o') :: ledger h L d) :=
  .head fun ⟨_, _⟩ hp => (mem_ledger.mp hp).2.1

/-- x.name = v over any heap: L is any namespace of the heap (the frame's, say): its map stays, its object is not told; all else but the dict stays -/
theorem set_field {x C dx L : Addr} {ox : Obj} {m : Str → Option Value} {es es' : List DictEntry} {n n' : Nat} {name : Str} {v : Value} {Q : Unit → Shared → Prop}
    (X : K.In s.heap) (I : PySem.W.InstAt s.heap x ox C (some (dictOf es n))) (hd : ox.dict = some dx) (hL : s.heap.Ns L m) (hne : dx ≠ L)
    (hs : findIn K (.ref C) "__setattr__" = some (some (.builtin "object.__setattr__"))) (hp : plainOver K C = true) (ht : takerIn K C name = some none) (hh : hasDictIn K C = true) (hl : (getL name es).isSome = true)
    (e : (putL name (PyData.keyHash w.params name) (.str name (s.toks + 1)) v es, putN name es n) = (es', n')) (hz : es'.length ≤ 1000)
    (h : ∀ h' : Heap, h'.Ns L m → h'.get? dx = some (dictOf es' n') → (∀ b o, b ≠ dx → b ≠ L → s.heap.get? b = some o → h'.get? b = some o) → Q () { s with heap := h', toks := s.toks + 2 }) :
    wpAny (model prog w) A (setAttr (.ref x) name v) Q E s := by
  obtain ⟨e1, e2⟩ := Prod.mk.inj e
  have hdx : s.heap.get? dx = some (dictOf es n) := by
    have := I.dict
    rw [hd] at this
    exact this
  refine set_plain X I hs (osa_dict (s := { s with toks := s.toks + 1 }) (h₀ := noObjs s.heap) (L := L) (m := m) (od := dictOf es n) (od' := dictOf es' n') (es := es') (n := n') (pre := []) (post := ledger s.heap L dx)
    (fr_all hL) (news_ledger hne hdx) X I hd hp ht hh hl (fun _ q => nomatch q) (fun ⟨_, _⟩ q => (mem_ledger.mp q).2.1) (by rw [putName_dict, e1, e2]) rfl hz fun h' F' N' => ?_)
  exact h h' F'.ns (N'.get (List.Mem.head _)) fun b o n1 n2 ho => N'.get (List.Mem.tail _ (mem_ledger.mpr ⟨n2, n1, ho⟩))
end
end Att

namespace L2
open PySem PySem.Spec PyProof.Rows

theorem vals_ints : ∀ {vs : List Value} {ns : List Int}, IntsAre vs ns → Vals (ns.map V.int) vs
  | _, _, .nil => .nil
  | _, _, .cons n t h => .cons ⟨t, rfl⟩ (vals_ints h)

/-- nothing is tracked but the script, known to the object (or it is an object of the module) -/
def Only (H : Hp) : Prop := ∀ b, H b = none ∨ ∃ o xs, H b = some (.frz o (.lst xs))

/-- THE HEAD: the law's promise, at the heap behind the top. F, the promise of the law's def, may use that base is part of the heap (so K.In base, base.Ns mainGlobals mg stand in Mod) -/
theorem law_call {P : Program} {w : World} {K : PySem.W.Frag} {mg mb : Str → Option Value} {CX : CXT} {k : Nat} {fa a : Addr} {fd : FuncData} {x : Str} {sp : Sp} {s₁ : Shared} {vs : List Value} {ns : List Int}
    (KX : K.In s₁.heap) (hns : s₁.heap.Ns mainGlobals mg) (hb : s₁.heap.Ns builtinsNs mb) (hbb : ∀ x : Str, x ≠ "__name__" → mb x = bootBuiltins x) (hlim : s₁.heap.NoLimit) (hg : s₁.gens = #[])
    (ha : s₁.heap.get? a = some { cls := .type "list", data := .seq vs.toArray }) (hi : IntsAre vs ns) (hl : ns.length ≤ sizeLine) (hr : Room k callerA)
    (F : ∀ base : Heap, K.In base → base.Ns mainGlobals mg → FnOk P w K mg base CX k fa fd [x] sp) (hbind : ∀ (s : Shared) (u : Value), BindsTo s fd ⟨[u], []⟩ [(x, u)])
    (hsp : ∀ H : Hp, Only H → SqL K H a (ns.map V.int) → sp [.ref a] H (fun v _ => v = .bl true) fun _ _ _ => False)
    (hCX : ∀ H e s', CX [] H s₁ (fun _ _ _ => False) e s' → False) :
    codeAny (model P w) callerA (.call (.ref fa) ⟨[.ref a], []⟩) (fun r s' => r = .ok (.ret (.bool true)) ∧ OldK s₁.heap s'.heap ∧ s'.os = s₁.os ∧ AllBare s'.gens) s₁ := by
  have rv := vals_ints hi
  have lenV := hi.length
  -- from an abstract heap in which nothing but the script may be tracked
  have core : ∀ H : Hp, Only H → SqL K H a (ns.map V.int) → HOk P w H s₁.heap → (∀ b, H b ≠ none → b = a) → (H a ≠ none → K.lookup a = none) →
      codeAny (model P w) callerA (.call (.ref fa) ⟨[.ref a], []⟩) (fun r s' => r = .ok (.ret (.bool true)) ∧ OldK s₁.heap s'.heap ∧ s'.os = s₁.os ∧ AllBare s'.gens) s₁ := by
    intro H hO hS hok hA hK
    have base_of : ∀ {b : Addr} {o : Obj}, s₁.heap.get? b = some o → H b = none → (hidT s₁.heap H).get? b = some o := fun e n => hidT_get e n
    have noA : ∀ {b : Addr} {o : Obj} {es : Array DictEntry} {ep : Nat}, s₁.heap.get? b = some o → o.data = .dict es ep → H b = none := fun {b o es ep} e d => by
      cases q : H b with
      | none => rfl
      | some u =>
        have e' : b = a := hA b (by rw [q]; simp)
        subst e'
        rw [ha] at e; cases e
        have d' : Data.seq vs.toArray _ = Data.dict es ep := d
        cases d'
    have nsK : ∀ {b : Addr} {m : Str → Option Value}, s₁.heap.Ns b m → (hidT s₁.heap H).Ns b m := fun {b m} ⟨o, es, ep, e, d, r⟩ => ⟨o, es, ep, base_of e (noA e d), d, r⟩
    have hKb : K.In (hidT s₁.heap H) := fun b o e => base_of (KX b o e) (by
      cases q : H b with
      | none => rfl
      | some u =>
        have e' : b = a := hA b (by rw [q]; simp)
        subst e'
        rw [hK (by rw [q]; simp)] at e; cases e)
    have hM : Mod K mg (hidT s₁.heap H) := ⟨hKb, nsK hns, ⟨mb, nsK hb, hbb⟩, let ⟨mc, h1, h2⟩ := hlim; ⟨mc, nsK h1, h2⟩⟩
    have e0 : Env0 P w K mg (hidT s₁.heap H) callerA [] s₁ H := ⟨rfl, hM, fun b o e => of_hidT e, Nat.le_of_eq (hidT_size _ _), trivial, fun b hb => absurd (show b ∈ ([] : List Addr) from hb) (by simp), hok, .of_eq hg⟩
    refine codeAny_mono ((F _ hKb (nsK hns)).run callerA [] s₁ H ⟨[.ref a], []⟩ [.ref a] [.ref a] _ _ hr e0 (hbind s₁ (.ref a)) (.cons rfl .nil) (hsp H hO hS)) fun r s' h => ?_
    cases r with
    | error e => exact (hCX H e s' h).elim
    | ok fl =>
      cases fl with
      | next => exact False.elim h
      | brk => exact False.elim h
      | cont => exact False.elim h
      | ret u =>
        obtain ⟨v, H', os, bare, un, hok', r', q⟩ := h
        have q' : v = .bl true := q
        subst q'
        obtain rfl : u = Value.bool true := r'
        refine ⟨rfl, OldK.of_keep fun b o e => ?_, os, bare⟩
        cases q : H b with
        | none => exact un.keep b o e q (by intro z; exact absurd (show b ∈ ([] : List Addr) from z) (by simp)) (by simp)
        | some u =>
          rcases hO b with z | ⟨ob, xs, z⟩
          · rw [q] at z; cases z
          · have z2 := un.frzs b ob _ z
            obtain ⟨e1, _⟩ := hok b _ z
            obtain ⟨e2, _⟩ := hok' b _ z2
            rw [e] at e1; cases e1
            exact e2
  cases hk : K.lookup a with
  | some o =>
    -- the script is one of the module's own objects
    have e := KX a o hk
    rw [ha] at e
    cases e
    refine core (fun _ => none) (fun _ => .inl rfl) (.inr ⟨_, vs.toArray, _, hk, rfl, rfl, rfl, by rw [List.size_toArray, lenV]; exact hl, by simpa using rv⟩) (fun b u z => by have z' : (none : Option HO) = some u := z; cases z') (fun b z => absurd rfl z) fun z => absurd rfl z
  | none =>
    refine core (fun b => if b = a then some (.frz { cls := .type "list", data := .seq vs.toArray } (.lst (ns.map V.int))) else none) (fun b => ?_) (.inl (.inr ⟨{ cls := .type "list", data := .seq vs.toArray }, if_pos rfl⟩)) (fun b u z => ?_) (fun b z => ?_) fun _ => hk
    · by_cases hb : b = a
      · exact .inr ⟨_, _, if_pos hb⟩
      · exact .inl (if_neg hb)
    · by_cases hb : b = a
      · have z' := (if_pos hb).symm.trans z
        cases z'
        subst hb
        exact ⟨ha, by rw [List.length_map]; exact hl, vs, _, rv, ha⟩
      · have z' := (if_neg hb).symm.trans z
        cases z'
    · by_cases hb : b = a
      · exact hb
      · exact absurd (if_neg hb) z
end L2

namespace L2
open PySem PySem.Spec PyProof.Rows

abbrev KOf {K : PySem.W.Frag} {h : Heap} (_ : K.In h) : PySem.W.Frag := K

/-- the goal that k_head leaves (case hc), from the law's promise. F gives the function object fd (K's own) once, then the promise over every base -/
theorem walk_of {l : PySem.W.OpenLaw} {n k : Nat} {q : Program} {loose : List Str} {XP : (Str → Option Value) → Heap → Prop} {YP : World → Heap → Prop} {d : DefRec} {K : Params → PySem.W.Frag} {CX : World → CXT} {sp : World → Sp} {x : Str}
    (hn : l.most = some n) (hn2 : n ≤ sizeLine) (hdf : d.params.defaults = []) (hr : Room k callerA)
    (hY : ∀ (w : World) (h : Heap), YP w h → (K w.params).In h)
    (F : ∀ (w : World) (mg : Str → Option Value) (fa : Addr) (h : Heap), (K w.params).In h → h.Ns mainGlobals mg → mg d.name = some (.ref fa) →
      ∃ fd : FuncData, (∀ (s : Shared) (u : Value), BindsTo s fd ⟨[u], []⟩ [(x, u)]) ∧
        ∀ base : Heap, (K w.params).In base → base.Ns mainGlobals mg → FnOk l.prog w (K w.params) mg base (CX w) k fa fd [x] (sp w))
    (hsp : ∀ (w : World) (H : Hp) (a : Addr) (ns : List Int), ns.length ≤ n → Only H → SqL (K w.params) H a (ns.map V.int) → sp w [.ref a] H (fun v _ => v = .bl true) fun _ _ _ => False)
    (hCX : ∀ (w : World) (H : Hp) (s : Shared) (e : Value) (s' : Shared), CX w [] H s (fun _ _ _ => False) e s' → False) :
    PySem.W.WalkO q loose XP YP l.row.toRowW d [] (fun f vs => PySem.call f vs) := by
  refine Att.attach_call hn hdf fun w s₀ s₁ mg mb fa o pm cd doc a vs ns G Y ho hd hcd hmg hobj hints hlen hg => ?_
  have KX := hY w _ Y
  obtain ⟨fd, hb, hF⟩ := F w mg fa _ KX G.T.g hmg
  exact law_call KX G.T.g G.T.b G.T.builtins G.T.nolimit hg hobj hints (Nat.le_trans hlen hn2) hr hF hb (fun H hO hS => hsp w H a ns hlen hO hS) fun H e s' => hCX w H s₁ e s'
/-- the same where the promise hangs on the written part alone: (sp := My.sp_law), no hole under a binder -/
theorem walk_ofK {l : PySem.W.OpenLaw} {n k : Nat} {q : Program} {loose : List Str} {XP : (Str → Option Value) → Heap → Prop} {YP : World → Heap → Prop} {d : DefRec} {K : Params → PySem.W.Frag} {CX : CXT} {sp : PySem.W.Frag → Sp} {x : Str}
    (hn : l.most = some n) (hn2 : n ≤ sizeLine) (hdf : d.params.defaults = []) (hr : Room k callerA)
    (hY : ∀ (w : World) (h : Heap), YP w h → (K w.params).In h)
    (F : ∀ (w : World) (mg : Str → Option Value) (fa : Addr) (h : Heap), (K w.params).In h → h.Ns mainGlobals mg → mg d.name = some (.ref fa) →
      ∃ fd : FuncData, (∀ (s : Shared) (u : Value), BindsTo s fd ⟨[u], []⟩ [(x, u)]) ∧
        ∀ base : Heap, (K w.params).In base → base.Ns mainGlobals mg → FnOk l.prog w (K w.params) mg base CX k fa fd [x] (sp (K w.params)))
    (hsp : ∀ (K : PySem.W.Frag) (H : Hp) (a : Addr) (ns : List Int), ns.length ≤ n → Only H → SqL K H a (ns.map V.int) → sp K [.ref a] H (fun v _ => v = .bl true) fun _ _ _ => False)
    (hCX : ∀ (H : Hp) (s : Shared) (e : Value) (s' : Shared), CX [] H s (fun _ _ _ => False) e s' → False) :
    PySem.W.WalkO q loose XP YP l.row.toRowW d [] (fun f vs => PySem.call f vs) :=
  walk_of (K := K) (CX := fun _ => CX) (sp := fun w => sp (K w.params)) hn hn2 hdf hr hY F (fun w H a ns h1 h2 h3 => hsp (K w.params) H a ns h1 h2 h3) fun _ H s e s' => hCX H s e s'
end L2

/- THE LAST THEOREM (shape; LID, My.* are yours):
   My.Adr: a structure of the addresses that your layer names (classes, functions); My.Txt K t: a structure (Prop) of the equations over K;
   My.txt_mk : {K} {implicit addresses ..} (e1 : nsIn K mainGlobals "law" = some (some (.ref f))) (e2 : K.lookup f = some ⟨oc, od, .func (fnOf "law" "law" params body scope dV kV doc pm an cdv ct), sl⟩) (e3 : codeIn K cdv "law" = true) .. : ∃ t, My.Txt K t

set_option maxRecDepth 100000 in
set_option maxHeartbeats 0 in
theorem PySem.Challenge.cw_LID_holds : PySem.Challenge.rw_LID.Holds := by
  w_on; o_law; k_head; (case hw => w_witness2)
  k_fill
  refine L2.walk_of (l := PySem.Challenge.rw_LID) (n := 63) (k := 40) (x := "script") (CX := fun w => ..) (sp := fun _ => My.sp_law) rfl (by decide) rfl ⟨rfl, by decide, by decide⟩ (fun w h Y => PySem.W.kIn_of Y) ?F ?S ?C
  case F =>
    intro w mg fa h KX G hmg
    have T : ∃ t, My.Txt (L2.KOf KX) t := by
      dsimp only [L2.KOf]                          -- K must stand as «<heap const> w.params» for k_is
      refine' My.txt_mk ?e1 ?e2 ?e3 ..
      (case e1 => PySem.W.k_is)                    -- in the order: a name -> its address -> its object -> its parts
      (case e2 => PySem.W.k_is)
      ..
    obtain ⟨t, T⟩ := T
    have e0 := hmg.symm.trans (PySem.W.mg_of KX G T.law)
    cases e0                                       -- fa is the law's own address
    exact ⟨_, fun s u => .of_eq rfl, fun base kb nb => My.law_fn T kb nb⟩     -- if «.of_eq rfl» comes too early: refine' ⟨_, ?b, fun base kb nb => My.law_fn T kb nb⟩; exact fun s u => .of_eq rfl
  case S => exact fun w H a ns hl hO hS => ..
  case C => exact ..
(the tactic k_is has no namespace: write k_is) -/

/-! SHORT WORDS over the layer: a def of the text, its body, what a loop and a test want. -/
namespace L2
open PySem PySem.Spec PyProof.Rows

/-! ### the text by places -/
/-- the j-th statement of a class's body -/
def inClass (s : Stmt) (j : Nat) : Stmt := match s with
  | .ClassDef _ _ _ body _ _ _ _ _ _ _ => body.getD j (.Pass ⟨0, 0, 0, 0⟩)
  | _ => .Pass ⟨0, 0, 0, 0⟩
def defArgs (s : Stmt) : Arguments := match s with
  | .FunctionDef _ a _ _ _ _ _ _ _ _ => a
  | _ => { posonlyargs := [], args := [], vararg := none, kwonlyargs := [], kw_defaults := [], kwarg := none, defaults := [] }
def defBody (s : Stmt) : List Stmt := match s with
  | .FunctionDef _ _ b _ _ _ _ _ _ _ => b
  | _ => []
def defScope (s : Stmt) : Scope := match s with
  | .FunctionDef _ _ _ _ _ _ sc _ _ _ => sc
  | _ => { kind := .function, names := [], isGenerator := false, isCoroutine := false }

/-! ### no exception leaves a def -/
abbrev CX0 : CXT := fun _ _ _ _ _ _ => False
abbrev E0 : XK := fun _ _ _ => False
theorem pass0 {X : Cx} : Passes CX0 X E0 := fun _ _ _ _ _ _ _ h => h.elim

/-! ### a def (or method) of the text as it stands behind the top -/
structure Fun (K : PySem.W.Frag) (x qual : Str) (st : Stmt) (f : Addr) (fd : FuncData) : Prop where
  ex : ∃ (oc : Value) (od : Option Addr) (kV doc pm : Value) (an : Option Addr) (cdv ct : Value) (osl : Array (Option Value)),
    fd = PySem.W.fnOf x qual (defArgs st) (defBody st) (defScope st) .none kV doc pm an cdv ct ∧ K.lookup f = some ⟨oc, od, .func fd, osl⟩ ∧ PySem.W.codeIn K cdv qual = true
  kp : PySem.W.keepIn K (.ref f) = true
section
variable {P : Program} {w : World} {K : PySem.W.Frag} {mg : Str → Option Value} {base : Heap}
/-- THE RULE for a def: its body as a term of rules, and the reading of that term -/
theorem Fun.ok {x qual : Str} {st : Stmt} {f : Addr} {fd : FuncData} {N ps : List Str} {k : Nat} {sp : Sp} (F : Fun K x qual st f fd) (S : FnScope N ps (defScope st)) (len : ∀ vs H Q E, sp vs H Q E → vs.length = ps.length)
    (hbody : ∀ (cdv : Value) (A : Around) (outer : List Env) (s : Shared) (H : Hp) (vs : List V) (Q : VK) (E : XK), Room k (A.deeper (envOfC qual (defScope st) s.heap.objs.size f cdv)) → sp vs H Q E →
      ∃ t, PSs (cxOf CX0 P w K mg base N qual (defScope st) f cdv A outer s H E).nox (defBody st) t ∧ t { nx := fun _ H' => Q .non H', rt := Q } (start N vs) H) : FnOk P w K mg base CX0 (k + 1) f fd ps sp := by
  obtain ⟨oc, od, kV, doc, pm, an, cdv, ct, osl, rfl, lk, hcd⟩ := F.ex
  refine fn_of lk hcd S len fun A outer s H vs Q E hr hsp => ?_
  obtain ⟨t, h, q⟩ := hbody cdv A outer s H vs Q E hr hsp
  exact ⟨t, h.nox, q⟩
/-- how its arguments bind (no defaults): h is «fun _ _ _ _ _ _ us hl => match us, hl with | [_, _], _ => rfl», one _ a parameter -/
theorem Fun.binds {x qual : Str} {st : Stmt} {f : Addr} {fd : FuncData} {ps : List Str} (F : Fun K x qual st f fd)
    (h : ∀ (kV doc pm : Value) (an : Option Addr) (cdv ct : Value) (us : List Value), us.length = ps.length → bindArgs (PySem.W.fnOf x qual (defArgs st) (defBody st) (defScope st) .none kV doc pm an cdv ct) ⟨us, []⟩ = pure (ps.zip us)) : Binds K fd ps [] := by
  obtain ⟨oc, od, kV, doc, pm, an, cdv, ct, osl, rfl, lk, hcd⟩ := F.ex
  exact .all (h kV doc pm an cdv ct)
theorem fun_mk {x qual : Str} {st : Stmt} {f : Addr} {oc : Value} {od an : Option Addr} {osl : Array (Option Value)} {kV doc pm cdv ct : Value} (l : K.lookup f = some ⟨oc, od, .func (PySem.W.fnOf x qual (defArgs st) (defBody st) (defScope st) .none kV doc pm an cdv ct), osl⟩)
    (c : PySem.W.codeIn K cdv qual = true) (k : PySem.W.keepIn K (.ref f) = true) : Fun K x qual st f (PySem.W.fnOf x qual (defArgs st) (defBody st) (defScope st) .none kV doc pm an cdv ct) := ⟨⟨oc, od, kV, doc, pm, an, cdv, ct, osl, rfl, l, c⟩, k⟩
end
theorem hu_of {A : Around} {k : Nat} (hr : Room k A) : A.units + 1 < cLine := Nat.lt_of_le_of_lt (Nat.add_le_add_left (by decide : 1 ≤ 64) _) hr.units
theorem small1000 {n : Nat} (h : n ≤ 1000) : n < sizeLine := Nat.lt_of_le_of_lt h (by decide)

/-! ### expressions in short: the name that stands in the i-th slot -/
section
variable {X : Cx}
theorem pv (i : Nat) {x : Str} {pos : Pos} (hN : X.N[i]? = some x := by rfl) (hv : Vis X.env.scope x := by first | exact Or.inl rfl | exact Or.inr (Or.inl rfl) | exact Or.inr (Or.inr rfl)) (hd : (x == ("__debug__" : Str)) = false := by decide)
    (hcd : (x == ("__classdict__" : Str)) = false := by decide) : PE X (.Name x pos) (tVar i) := pe_var hN hv hd hcd
end

/-! ### tests -/
theorem iteF {A B : Prop} (h : B) : if false = true then A else B := by
  rw [if_neg Bool.false_ne_true]
  exact h
theorem iteT {A B : Prop} (h : A) : if true = true then A else B := by
  rw [if_pos rfl]
  exact h
theorem ite2 {c A B : Prop} [Decidable c] (h1 : c → A) (h2 : ¬ c → B) : if c then A else B := by
  by_cases h : c
  · rw [if_pos h]
    exact h1 h
  · rw [if_neg h]
    exact h2 h
theorem iteNS {c A B : Prop} [Decidable c] (hc : c) (h : B) : if (!decide c) = true then A else B := by
  rw [decide_eq_true hc]
  exact iteF h

/-! ### heaps -/
/-- all that was tracked is as it was -/
def Same (H H' : Hp) : Prop := ∀ b o, H b = some o → H' b = some o
theorem Same.refl (H : Hp) : Same H H := fun _ _ h => h
theorem Same.trans {H H1 H2 : Hp} (a : Same H H1) (b : Same H1 H2) : Same H H2 := fun c o h => b c o (a c o h)
theorem Same.free {H H' : Hp} (e : Same H H') {l : Addr} (h : H' l = Option.none) : H l = Option.none := by
  cases q : H l with
  | none => rfl
  | some o =>
    rw [e l o q] at h
    cases h
theorem Same.seq {K : PySem.W.Frag} {H H' : Hp} {a : Addr} {xs : List V} (e : Same H H') (h : SqL K H a xs) : SqL K H' a xs := by
  rcases h with (h | ⟨o, h⟩) | h
  · exact .inl (.inl (e _ _ h))
  · exact .inl (.inr ⟨o, e _ _ h⟩)
  · exact .inr h

end L2

set_option Elab.async false
set_option linter.all false
set_option maxRecDepth 100000
set_option maxHeartbeats 4000000
namespace ST
open PySem PySem.Spec PyProof.Rows
abbrev TK (prog : Program) (w : World) (h : Heap) (k : List Int) (a : Addr) : Prop := IsTupleKey (intKind prog w) h k a
end ST

set_option Elab.async false
set_option linter.all false
set_option maxRecDepth 100000
set_option maxHeartbeats 4000000
namespace PySem
open PySem.Spec PyProof.Rows
theorem noFill_tup_mul : fillsNumberSlot (.type "tuple") "mul" = pure false :=
  fillsNumberSlot_seq (id := "tuple.__mul__") (r := some (.builtin "tuple.__rmul__")) F.slot_tuple_mul.lookup (by decide +kernel) F.slot_tuple_rmul.lookup (by decide +kernel)
theorem repeat_tup : seqRepeat? (.type "tuple") = pure (some (.builtin "tuple.__mul__")) := by
  have e1 := seqSlot_of (T := "tuple") (name := "__mul__") (id := "tuple.__mul__") F.slot_tuple_mul.lookup (by decide +kernel)
  have e2 := seqSlot_of (T := "tuple") (name := "__rmul__") (id := "tuple.__rmul__") F.slot_tuple_rmul.lookup (by decide +kernel)
  unfold seqRepeat?
  rw [e1, e2]
  rfl
theorem int_rmul_tup (a : Int) (t : Tok) (l : Addr) (o : Obj) {its : Array Value} {n : Nat} (hc : o.cls = .type "tuple") (hdd : o.data = .seq its n) :
    Meets (Builtin.«int.__rmul__» ⟨[.int a t, .ref l], []⟩) (fun _ R s => s.heap.get? l = some o ∧ R (.ok (.ret Value.notImplemented)) s) :=
  .of_wp fun prog w A R s h => by
    obtain ⟨c, d, dt, sl⟩ := o
    simp only at hc hdd
    subst hc hdd
    obtain ⟨hp, g, dr, tk, os⟩ := s
    obtain ⟨hl, h⟩ := h
    wp_walk
    exact ⟨_, rfl, h⟩
section
variable {prog : Program} {w : World} {A : Around} {E : Value → Shared → Prop} {s : Shared}
theorem tup_mul_body {a : Addr} {o : Obj} {its : Array Value} {n : Nat} {k : Int} {t : Tok} {P : Fin → Shared → Prop} (ho : s.heap.get? a = some o) (hc : o.cls = .type "tuple") (hd : o.data = .seq its n) (hne : its.isEmpty = false) (h2 : 2 ≤ k) (hz : (its.size : Int) * k ≤ 1000000) (hk : k ≤ 1000)
    (h : P (.done (.ret (.ref s.heap.objs.size))) { s with heap := s.heap.push { cls := .type "tuple", data := .seq ((List.replicate k.toNat its).foldl (· ++ ·) #[]) } }) (hsz : ((List.replicate k.toNat its).foldl (· ++ ·) #[]).size ≤ sizeLine) :
    wpAny (model prog w) A (Builtin.«tuple.__mul__» ⟨[.ref a, .int k t], []⟩) P E s := by
  show wpAny _ _ (asIndex (.int k t) >>= _) _ _ s
  refine wpAny_bind ?_
  unfold asIndex
  refine wpAny_bind (wpAny_pure ?_)
  dsimp only
  refine wpAny_pure ?_
  have e0 : (decide (k < -(2 ^ 63)) || decide (k ≥ 2 ^ 63)) = false := by
    rw [Bool.or_eq_false_iff]
    refine ⟨decide_eq_false ?_, decide_eq_false ?_⟩
    · omega
    · omega
  rw [e0]
  simp only [Bool.false_eq_true, if_false]
  refine wpAny_bind (wpAny_tupleItemsOf ho hd ?_)
  have e1 : (its.isEmpty || k == 1) = false := by rw [hne, Bool.false_or]; simp; omega
  rw [e1]
  simp only [Bool.false_eq_true, if_false]
  have e2 : (decide (k ≤ 0) || its.isEmpty) = false := by rw [hne, Bool.or_false]; exact decide_eq_false (by omega)
  rw [e2]
  simp only [Bool.false_eq_true, if_false]
  rw [if_neg (by omega)]
  have e3 : Builtin.Tuple.tupleTooMany (its.size * k) = false := by
    unfold Builtin.Tuple.tupleTooMany
    refine decide_eq_false ?_
    have : (1000000 : Int) ≤ (sizeLine : Int) := by decide
    omega
  rw [e3]
  simp only [Bool.false_eq_true, if_false]
  unfold Builtin.Tuple.tupleExact
  exact wpAny_bind (wpAny_newObj_type (wpAny_pure h) hsz)
theorem tup_mul_same {a : Addr} {o : Obj} {its : Array Value} {n : Nat} {t : Tok} {P : Fin → Shared → Prop} (ho : s.heap.get? a = some o) (hc : o.cls = .type "tuple") (hd : o.data = .seq its n) (h : P (.done (.ret (.ref a))) s) :
    wpAny (model prog w) A (Builtin.«tuple.__mul__» ⟨[.ref a, .int 1 t], []⟩) P E s := by
  show wpAny _ _ (asIndex (.int 1 t) >>= _) _ _ s
  refine wpAny_bind ?_
  unfold asIndex
  refine wpAny_bind (wpAny_pure ?_)
  dsimp only
  refine wpAny_pure ?_
  have e0 : (decide ((1 : Int) < -(2 ^ 63)) || decide ((1 : Int) ≥ 2 ^ 63)) = false := by decide
  rw [e0]
  simp only [Bool.false_eq_true, if_false]
  refine wpAny_bind (wpAny_tupleItemsOf ho hd ?_)
  have e1 : (its.isEmpty || (1 : Int) == 1) = true := by simp
  rw [e1]
  simp only [if_true]
  unfold Builtin.Tuple.tupleIsExact
  refine wpAny_bind (wpAny_bind (wpAny_typeOf (T := "tuple") ⟨o, ho, hc⟩ (wpAny_pure ?_)))
  simp only [beq_self_eq_true, if_true]
  exact wpAny_bind (wpAny_rule (wpAny_pure h))
theorem mul_tup {a : Addr} {o : Obj} {its : Array Value} {n : Nat} {k : Int} {t : Tok} {Q : Value → Shared → Prop} (ho : s.heap.get? a = some o) (hc : o.cls = .type "tuple") (hd : o.data = .seq its n) (hne : its.isEmpty = false) (h2 : 2 ≤ k) (hz : (its.size : Int) * k ≤ 1000000) (hk : k ≤ 1000)
    (h : Q (.ref s.heap.objs.size) { s with heap := s.heap.push { cls := .type "tuple", data := .seq ((List.replicate k.toNat its).foldl (· ++ ·) #[]) } }) (hsz : ((List.replicate k.toNat its).foldl (· ++ ·) #[]).size ≤ sizeLine) :
    wpAny (model prog w) A (binaryOp .Mult (.ref a) (.int k t)) Q E s := by
  have hT : s.TypeIs (.ref a) "tuple" := ⟨o, ho, hc⟩
  refine wpAny_binaryOp_repeat_ref (T := "tuple") (U := "int") (by decide) hT (fun s' => typeIs_int s' k t) noFill_tup_mul F.fills_int_mul F.slot_int_rmul repeat_tup F.slot_int_index.lookup
    (call_meets F.slot_int_rmul (typeIs_int s k t) F.entry_int_rmul (F.args_int_rmul_2 _ _) (int_rmul_tup k t a o hc hd) ⟨ho, rfl, hT, ?_⟩)
  exact wpAny_call_entry F.slot_tuple_mul hT F.entry_tuple_mul (tup_mul_body ho hc hd hne h2 hz hk ⟨_, rfl, h⟩ hsz) (F.args_tuple_mul_2 _ _)
theorem mul_tup1 {a : Addr} {o : Obj} {its : Array Value} {n : Nat} {t : Tok} {Q : Value → Shared → Prop} (ho : s.heap.get? a = some o) (hc : o.cls = .type "tuple") (hd : o.data = .seq its n) (h : Q (.ref a) s) : wpAny (model prog w) A (binaryOp .Mult (.ref a) (.int 1 t)) Q E s := by
  have hT : s.TypeIs (.ref a) "tuple" := ⟨o, ho, hc⟩
  refine wpAny_binaryOp_repeat_ref (T := "tuple") (U := "int") (by decide) hT (fun s' => typeIs_int s' 1 t) noFill_tup_mul F.fills_int_mul F.slot_int_rmul repeat_tup F.slot_int_index.lookup
    (call_meets F.slot_int_rmul (typeIs_int s 1 t) F.entry_int_rmul (F.args_int_rmul_2 _ _) (int_rmul_tup 1 t a o hc hd) ⟨ho, rfl, hT, ?_⟩)
  exact wpAny_call_entry F.slot_tuple_mul hT F.entry_tuple_mul (tup_mul_same ho hc hd ⟨_, rfl, h⟩) (F.args_tuple_mul_2 _ _)
end
end PySem

set_option Elab.async false
set_option linter.all false
set_option maxRecDepth 100000
set_option maxHeartbeats 4000000
namespace L2
open PySem PySem.Spec PyProof.Rows

/-! ### a list comprehension of one clause over a name -/
/-- the names a block takes from around it have their cells -/
theorem closure_ok {scope : Scope} {env : Env} (h : ∀ y ∈ scope.names, y.2 = .free → ∃ c, env.cells.lookup y.1 = some c) :
    ∃ cl, closureFor scope env = pure cl ∧ (∀ y c, cl.lookup y = some c → env.cells.lookup y = some c) ∧ ∀ y, (y, NameKind.free) ∈ scope.names → ∃ c, cl.lookup y = some c := by
  unfold closureFor
  have key : ∀ (l : List (Str × NameKind)) (cs : List (Str × Addr)), (∀ y ∈ l, y.2 = .free → ∃ c, env.cells.lookup y.1 = some c) → (∀ y c, cs.lookup y = some c → env.cells.lookup y = some c) →
      ∃ cl, (forIn l cs fun (x : Str × NameKind) (r : List (Str × Addr)) => (if (x.2 == NameKind.free) = true then (do let c ← cellOf env x.1; pure (ForInStep.yield ((x.1, c) :: r))) else pure (ForInStep.yield r) : Sem (ForInStep (List (Str × Addr))))) = pure cl ∧
        (∀ y c, cl.lookup y = some c → env.cells.lookup y = some c) ∧ (∀ y, (y, NameKind.free) ∈ l → ∃ c, cl.lookup y = some c) ∧ (∀ y c, cs.lookup y = some c → ∃ c', cl.lookup y = some c') := by
    intro l
    induction l with
    | nil => intro cs _ hc; exact ⟨cs, rfl, hc, fun y hy => by simp at hy, fun y c e => ⟨c, e⟩⟩
    | cons p l ih =>
      intro cs hl hc
      obtain ⟨n, k⟩ := p
      by_cases hk : (k == NameKind.free) = true
      · have ek : k = .free := eq_of_beq hk
        obtain ⟨c, ec⟩ := hl (n, k) List.mem_cons_self ek
        obtain ⟨cl, e1, e2, e3, e4⟩ := ih ((n, c) :: cs) (fun y hy => hl y (List.mem_cons_of_mem _ hy)) (fun y c' e => by
          rw [List.lookup_cons] at e
          cases hq : y == n with
          | true => rw [hq] at e; cases e; rw [eq_of_beq hq]; exact ec
          | false => rw [hq] at e; exact hc y c' e)
        refine ⟨cl, ?_, e2, fun y hy => ?_, fun y c' e => ?_⟩
        · rw [List.forIn_cons]
          show ((if (k == NameKind.free) = true then _ else _) >>= _) = _
          rw [if_pos hk]
          have ecell : cellOf env n = pure c := by unfold cellOf; rw [ec]
          show (cellOf env n >>= _) >>= _ = _
          rw [ecell]
          simpa using e1
        · rcases List.mem_cons.mp hy with z | hy
          · cases z
            exact e4 n c (by rw [List.lookup_cons]; simp)
          · exact e3 y hy
        · cases hq : y == n with
          | true => exact e4 y c (by rw [List.lookup_cons, hq])
          | false => exact e4 y c' (by rw [List.lookup_cons, hq]; exact e)
      · obtain ⟨cl, e1, e2, e3, e4⟩ := ih cs (fun y hy => hl y (List.mem_cons_of_mem _ hy)) hc
        refine ⟨cl, ?_, e2, fun y hy => ?_, e4⟩
        · rw [List.forIn_cons]
          show ((if (k == NameKind.free) = true then _ else _) >>= _) = _
          rw [if_neg hk]
          simpa using e1
        · rcases List.mem_cons.mp hy with z | hy
          · cases z; exact absurd rfl hk
          · exact e3 y hy
  obtain ⟨cl, e1, e2, e3, _⟩ := key scope.names [] h (fun y c e => by simp at e)
  refine ⟨cl, ?_, e2, e3⟩
  show ((forIn scope.names [] _ : Sem (List (Str × Addr))) >>= _) = _
  have e1' := congrArg (fun m => m >>= (pure : List (Str × Addr) → Sem (List (Str × Addr)))) e1
  simpa using e1

/-- scopes: of the def, of the block; the block's names: its own, then those from around by their slots there -/
structure CompScope (sc scope : Scope) (N : List Str) (x : Str) (caps : List (Str × Nat)) : Prop where
  cell : ∀ y ∈ scope.names, y.2 ≠ .cell
  kind : scope.kind = .function
  names : ∀ y ∈ scope.names, y.2 = .local → scope.names.lookup y.1 = some .local
  hx : scope.names.lookup x = some .local
  free : ∀ y ∈ scope.names, y.2 = .free → sc.names.lookup y.1 = some .cell ∨ sc.names.lookup y.1 = some .free
  cap : ∀ p ∈ caps, N[p.2]? = some p.1 ∧ (p.1, NameKind.free) ∈ scope.names ∧ sc.names.lookup p.1 ≠ some .local
  nd : (x :: caps.map (·.1)).Nodup
  uniq : ∀ p ∈ caps, ∀ z ∈ scope.names, z.1 = p.1 → z.2 = .free

/-- the block's context -/
def compCx (X : Cx) (x : Str) (caps : List (Str × Nat)) (scope : Scope) (cl : List (Str × Addr)) (C : Addr) (s : Shared) (H : Hp) (ex : List Addr) : Cx :=
  { X with N := x :: caps.map (·.1), s₀ := s, H₀ := H, env := compEnvC scope cl C X.env, outer := X.stack, ex := ex, fn := fun _ => false, pn := [], xe := fun _ _ => False }

/-- the tests of a clause -/
def PIf (X : Cx) (ifs : List Expr) (t : TT) : Prop :=
  ∀ (pins : List (Addr × Obj)) (s : Shared) (σ : St) (H : Hp) (Q : Bool → Hp → Prop), Inv X pins σ H s → t σ H Q →
    wpAny (model X.prog X.w) X.A (forIn ifs true fun c r => if r = true then do let ok ← isTrue c X.env (eval c X.env); pure (ForInStep.yield ok) else pure (ForInStep.yield r)) (TP X pins σ Q) X.xe s
def tYes : TT := fun _ H Q => Q true H
theorem pif_nil {X : Cx} : PIf X [] tYes := fun _ _ _ H _ I h => wpAny_tests_nil ⟨H, I, h⟩
theorem pif_one {X : Cx} {c : Expr} {t : TT} (h : PT X c t) : PIf X [c] t := fun pins s σ H Q I hw => wpAny_tests_one (h pins s σ H Q I hw)

/-- the reading: W, the invariant by the turn, a measure, the items so far -/
def tComp (wi : TI) (tt : TT) (te : TE) (caps : List (Str × Nat)) : TE := fun σ H Q => wi σ H fun J H1 => ∃ W : Nat → Nat → List V → Hp → Prop, (∃ m, W 0 m [] H1) ∧ ∀ i m ys H, W i m ys H →
  ys.length ≤ sizeLine ∧ ((J.stop i H ∧ ∀ p, H p = none → Q (.ref p) (upd H p (.lst ys))) ∨
  (J.go i H ∧ ∀ x H', J.yld i H x H' → tt (some x :: caps.map fun p => (σ[p.2]?).join) H' fun ok H2 => if ok = true then te (some x :: caps.map fun p => (σ[p.2]?).join) H2 fun y H3 => ∃ m', m' < m ∧ W (i + 1) m' (ys ++ [y]) H3 else ∃ m', m' < m ∧ W (i + 1) m' ys H2))

theorem relabel_mem {scope : Scope} {env : Env} (hc : ∀ y ∈ scope.names, y.2 ≠ .cell) {y : Str} (h : (relabel scope env).names.lookup y = some .cell ∨ (relabel scope env).names.lookup y = some .free) : (y, NameKind.free) ∈ scope.names := by
  have go : ∀ k, (relabel scope env).names.lookup y = some k → (k = .cell ∨ k = .free) → (y, NameKind.free) ∈ scope.names := fun k e hk => by
    have hm := PySem.mem_of_lookup e
    obtain ⟨⟨n, k0⟩, hp, e2⟩ := List.mem_map.mp hm
    by_cases hq : (k0 == .free && env.scope.kind == .function && env.kindOf n == some .cell) = true
    · have e3 : (n, NameKind.cell) = (y, k) := by rw [← e2]; show _ = if _ then _ else _; rw [if_pos hq]
      cases e3
      have : k0 = .free := by simp only [Bool.and_eq_true] at hq; exact eq_of_beq hq.1.1
      subst this; exact hp
    · have e3 : (n, k0) = (y, k) := by rw [← e2]; show _ = if _ then _ else _; rw [if_neg hq]
      cases e3
      rcases hk with rfl | rfl
      · exact absurd rfl (hc _ hp)
      · exact hp
  rcases h with h | h
  · exact go _ h (.inl rfl)
  · exact go _ h (.inr rfl)
theorem relabel_kind {scope : Scope} {env : Env} : ∀ {names : List (Str × NameKind)} {y : Str}, (y, NameKind.free) ∈ names → (∀ z ∈ names, z.1 = y → z.2 = .free) →
    (names.map fun (n, k) => if (k == NameKind.free && env.scope.kind == .function && env.kindOf n == some .cell) then (n, NameKind.cell) else (n, k)).lookup y = some .cell ∨
    (names.map fun (n, k) => if (k == NameKind.free && env.scope.kind == .function && env.kindOf n == some .cell) then (n, NameKind.cell) else (n, k)).lookup y = some .free
  | [], _, h, _ => by simp at h
  | (n, k) :: r, y, h, u => by
    rw [List.map_cons]
    show List.lookup y ((if (k == NameKind.free && env.scope.kind == .function && env.kindOf n == some .cell) = true then (n, NameKind.cell) else (n, k)) :: _) = _ ∨ List.lookup y ((if (k == NameKind.free && env.scope.kind == .function && env.kindOf n == some .cell) = true then (n, NameKind.cell) else (n, k)) :: _) = _
    cases hq : y == n with
    | true =>
      have e : n = y := (eq_of_beq hq).symm
      have ek : k = .free := u (n, k) List.mem_cons_self e
      by_cases hc : (k == NameKind.free && env.scope.kind == .function && env.kindOf n == some .cell) = true
      · rw [if_pos hc]; left; simp [List.lookup_cons, hq]
      · rw [if_neg hc]; right; simp [List.lookup_cons, hq, ek]
    | false =>
      have hy : (y, NameKind.free) ∈ r := by
        rcases List.mem_cons.mp h with z | z
        · cases z; simp at hq
        · exact z
      have ih := relabel_kind (scope := scope) (env := env) hy fun z hz => u z (List.mem_cons_of_mem _ hz)
      by_cases hc : (k == NameKind.free && env.scope.kind == .function && env.kindOf n == some .cell) = true
      · rw [if_pos hc]; simpa [List.lookup_cons, hq] using ih
      · rw [if_neg hc]; simpa [List.lookup_cons, hq] using ih
/-- a new record of ours is tracked from now on -/
theorem Inv.track {X : Cx} {pins : List (Addr × Obj)} {σ : St} {H : Hp} {s : Shared} {D : Addr} {o : HO} (I : Inv X pins σ H s) (hn : H D = none) (h1 : X.s₀.heap.objs.size ≤ D) (h2 : D ≠ X.env.locals) (h3 : ∀ x c, X.env.cells.lookup x = some c → c ≠ D) (h4 : ∀ p ∈ X.pn ++ pins, p.1 ≠ D)
    (new : ObjOk X.prog X.w (upd H D o) s.heap D o) : Inv X pins σ (upd H D o) s := by
  have nD : ∀ b u, H b = some u → b ≠ D := fun b u e => ne_of_none e hn
  obtain ⟨h', g', d', t', o'⟩ := s
  refine I.step (h' := h') (g' := g') (d' := d') (t' := t') (ch := [D]) (fun b hb => ?_) (fun b o _ _ _ e _ => e) (fun b o _ _ _ e _ => ⟨o.slots, e⟩) (fun b o hc e n => ?_) (fun b o _ e => ⟨o, e⟩) (fun b xs e => ?_) (fun b o u e => ?_) (fun b ps e => ?_) (fun m hm => hm) (fun b u e => ?_) I.bare
  · have e : b = D := by simpa using hb
    subst e
    exact ⟨.inr h1, h2, h3, h4⟩
  · rw [upd_ne (fun z => hc (by simp [z]))]; exact n
  · rw [upd_ne (nD _ _ e)]; exact e
  · rw [upd_ne (nD _ _ e)]; exact e
  · exact ⟨#[], by rw [upd_ne (nD _ _ e), e]; simp⟩
  · by_cases hb : b = D
    · subst hb; rw [upd_same] at e; cases e; exact new
    · rw [upd_ne hb] at e
      exact (I.hok b u e).stay (fun _ _ _ q => q) (fun c q => by rw [upd_ne (nD _ _ q)]; exact q) fun c xs q => by rw [upd_ne (nD _ _ q)]; exact q

section
variable {X : Cx} {elt iter : Expr} {x : Str} {px pos : Pos} {ifs : List Expr} {scope : Scope} {caps : List (Str × Nat)} {wi : TI} {tt : TT} {te : TE}

/-- the block begins -/
theorem comp_inv {pins : List (Addr × Obj)} {σ : St} {H : Hp} {s s' : Shared} {cl : List (Str × Addr)} {C : Addr} {fp : List Addr} (S : CompScope X.env.scope scope X.N x caps) (hu : ∀ p ∈ caps, ∀ z ∈ scope.names, z.1 = p.1 → z.2 = .free)
    (I : Inv X pins σ H s) (hcl : ∀ y c, cl.lookup y = some c → X.env.cells.lookup y = some c) (hhas : ∀ y, (y, NameKind.free) ∈ scope.names → ∃ c, cl.lookup y = some c)
    (hf : ∀ b ∈ fp, FpOk X pins H b) (hlt : ∀ b ∈ fp, b < s.heap.objs.size) (hC : s.heap.objs.size ≤ C) (ho : s'.os = s.os) (hg : s'.gens = s.gens) (hk : ∀ b o, s.heap.get? b = some o → s'.heap.get? b = some o) (hn : s'.heap.Ns C (fun _ => none)) :
    Inv (compCx X x caps scope cl C s H fp) [] (none :: caps.map fun p => (σ[p.2]?).join) H s' := by
  have cellK : ∀ y c, cl.lookup y = some c → ∃ v, s'.heap.IsCell c v := fun y c e => by
    obtain ⟨v, o, q, d⟩ := I.cell y c (hcl y c e)
    exact ⟨v, o, hk _ _ q, d⟩
  refine ⟨⟨I.ok.mod, S.kind, I.ok.glob, I.ok.blt, hC, fun y z c h1 h2 => I.ok.inj y z c (hcl y c h1) (hcl z c h2), fun y hy => hhas y (relabel_mem S.cell hy), fun y c z _ => absurd z Bool.false_ne_true, I.ok.hd, I.ok.frames, .inl rfl, fun b hb => ⟨Nat.ne_of_lt (Nat.lt_of_lt_of_le (hlt b hb) hC), fun y c e => (hf b hb).2.2.2.2.1 y c (hcl y c e)⟩,
    I.bs, Nat.le_trans I.ok.bsz I.sz, fun b o e hb => ?_, fun b hb hm => ?_, I.stack, I.stkFree⟩, ho, by rw [hg]; exact I.bare, Un.kept hk, ⟨_, hn, fun i y v h1 h2 h3 => ?_⟩, fun y c e => cellK y c e, I.hok.fresh hC, fun y c e => I.freeC y c (hcl y c e), fun p hp => absurd (show p ∈ ([] : List (Addr × Obj)) from hp) (by simp), I.hok.kept hk, ?_⟩
  · rcases (hf b hb).2.2.2.1 with z | z
    · exact I.ok.noex b o e z
    · exact absurd (Nat.lt_of_lt_of_le (Heap.lt_size e) (Nat.le_trans I.ok.bsz z)) (Nat.lt_irrefl _)
  · rcases List.mem_cons.mp (I.stkSub b hm) with z | z
    · exact (hf b hb).2.1 z
    · exact (hf b hb).2.2.1 z
  · cases i with
    | zero => simp at h2
    | succ i =>
      have h1' : (caps.map (·.1))[i]? = some y := by simpa [compCx] using h1
      rw [List.getElem?_map] at h1'
      have h2' : (caps.map fun p => (σ[p.2]?).join)[i]? = some (some v) := by simpa using h2
      rw [List.getElem?_map] at h2'
      cases hp : caps[i]? with
      | none => rw [hp] at h1'; cases h1'
      | some p =>
        rw [hp] at h1' h2'
        have ey : p.1 = y := Option.some.inj h1'
        have ev : (σ[p.2]?).join = some v := Option.some.inj h2'
        subst ey
        have hmem : p ∈ caps := List.mem_of_getElem? hp
        obtain ⟨c1, c2, c3⟩ := S.cap p hmem
        have eσ : σ[p.2]? = some (some v) := by
          cases q : σ[p.2]? with
          | none => rw [q] at ev; cases ev
          | some w => rw [q] at ev; have : w = some v := ev; rw [this]
        have hfr := S.free _ c2 rfl
        have hv : Vis X.env.scope p.1 := hfr.elim (fun z => .inr (.inl z)) (fun z => .inr (.inr z))
        obtain ⟨m, _, hl⟩ := I.loc
        obtain ⟨u, r, l⟩ := hl p.2 p.1 v c1 eσ hv
        refine ⟨u, r, .inr ⟨relabel_kind (scope := scope) (env := X.env) c2 (hu p hmem), ?_⟩⟩
        obtain ⟨c, ec⟩ := hhas p.1 c2
        refine ⟨c, ec, ?_⟩
        rcases l with ⟨z, _⟩ | ⟨_, c', ec', hcell⟩
        · exact absurd z c3
        · have : c' = c := by rw [hcl _ _ ec] at ec'; exact (Option.some.inj ec').symm
          subst this
          obtain ⟨o, q, d⟩ := hcell
          exact ⟨o, hk _ _ q, d⟩
  · simp [compCx]

/-- a step that is nothing for a name -/
theorem strip_go {M : Model} {A : Around} {E : Value → Shared → Prop} {s : Shared} {it : Value} {t : Sem (Option Value)} {R : Value → Shared → Prop} (h : wpAny M A t (fun r s1 => ∃ u, r = some u ∧ wpAny M A (letOwnedTupleGo (.Name x px) it u) (fun _ s2 => R u s2) E s1) E s) :
    wpAny M A t (fun r s1 => ∃ u, r = some u ∧ R u s1) E s :=
  fun Γ p hΓ => Sem.wp_mono M Γ t (fun r p' s' ⟨u, e, q⟩ => ⟨u, e, q Γ p' hΓ⟩) (fun _ _ _ z => z) p s (h Γ p hΓ)
abbrev lob (its : List Value) (k : Nat) : Obj := { cls := .type "list", data := .seq its.toArray k }
theorem Un.but {fs ex : List Addr} {H H1 : Hp} {h h1 h2 : Heap} {C : Addr} (u : Un fs ex H H1 h h1) (hC : h.objs.size ≤ C) (sb : Heap.SameBut C h1 h2) : Un fs ex H H1 h h2 where
  keep := fun b o e n hb hx => (sb.2 b (Nat.ne_of_lt (Nat.lt_of_lt_of_le (Heap.lt_size e) hC))).trans (u.keep b o e n hb hx)
  slot := fun b o e n hb hx => by
    obtain ⟨sl, q⟩ := u.slot b o e n hb hx
    exact ⟨sl, (sb.2 b (Nat.ne_of_lt (Nat.lt_of_lt_of_le (Heap.lt_size e) hC))).trans q⟩
  free := u.free
  there := fun b o e hx => by
    obtain ⟨o', q⟩ := u.there b o e hx
    exact ⟨o', (sb.2 b (Nat.ne_of_lt (Nat.lt_of_lt_of_le (Heap.lt_size e) hC))).trans q⟩
  tups := u.tups
  frzs := u.frzs
  tbls := u.tbls
theorem HOk.but {P : Program} {w : World} {H : Hp} {h h' : Heap} {C : Addr} (k : HOk P w H h) (hn : H C = none) (sb : Heap.SameBut C h h') : HOk P w H h' := fun a o e =>
  (k a o e).stay (fun b u hb q => (sb.2 b (by
    rcases hb with z | z
    · rw [z]; exact ne_of_none e hn
    · exact ne_of_none z hn)).trans q) (fun _ q => q) fun _ _ q => q

theorem pe_comp0 (hc : X.calm = true) (S : CompScope X.env.scope scope X.N x caps) (hi : PI X (.Name x px) iter wi)
    (ht : ∀ cl C s H fp, PIf (compCx X x caps scope cl C s H fp) ifs tt) (he : ∀ cl C s H fp, PE (compCx X x caps scope cl C s H fp) elt te)
    (hs : ∀ v, foldedSetIterable iter X.env v = pure v := by intro _; rfl) : PE X (.ListComp elt [⟨.Name x px, iter, ifs, 0⟩] scope pos) (tComp wi tt te caps) := by
  intro pins s σ H Q I h
  obtain ⟨cl, hclos, hcl, hhas⟩ := closure_ok (scope := scope) (env := X.env) fun y hy hf => I.ok.has y.1 (S.free y hy hf)
  rw [eval_ListComp]
  refine wpAny_comprehension_free (use := none) rfl hs hclos S.kind S.names (thn (hi pins s σ H _ I h) fun v s1 h1 => thn h1 fun itv s2 h2 => ?_)
  obtain ⟨it, fp, tn, J, H2, rfl, I2, T, st2, f2, W, ⟨m0, w0⟩, turn⟩ := h2
  refine wpAny_newObj_type (wpAny_newFunctionEnv S.cell (by intro y hy; simp at hy) (fun h₁ hns₁ hsb₁ => ?_) S.kind)
  dsimp only at hns₁ hsb₁ ⊢
  generalize hHp : s2.heap.push { cls := .type "list", dict := none, data := .seq ([] : List Value).toArray } = Hq at hns₁ hsb₁ ⊢
  have hCe : Hq.objs.size = s2.heap.objs.size + 1 := by rw [← hHp, Heap.size_push]
  have hDC : s2.heap.objs.size ≠ Hq.objs.size := by rw [hCe]; exact Nat.ne_of_lt (Nat.lt_succ_self _)
  have hC : s2.heap.objs.size ≤ Hq.objs.size := by rw [hCe]; exact Nat.le_succ _
  have old : ∀ b o, s2.heap.get? b = some o → h₁.get? b = some o := fun b o e =>
    hsb₁.extBut b o (Nat.ne_of_lt (Nat.lt_of_lt_of_le (Heap.lt_size e) hC)) (Heap.get?_push_of_some _ (hHp ▸ Heap.get?_push_of_some _ e))
  have hacc : h₁.get? s2.heap.objs.size = some (lob [] 0) := hsb₁.extBut _ _ hDC (Heap.get?_push_of_some _ (hHp ▸ Heap.get?_push_size _ rfl))
  have hlt : ∀ b ∈ fp, b < s2.heap.objs.size := fun b hb => by obtain ⟨o, e, _⟩ := T.obj 0 _ st2 b hb; exact Heap.lt_size e
  generalize hY : compCx X x caps scope cl Hq.objs.size s2 H2 fp = Y
  have PEY : PE Y elt te := hY ▸ he cl _ s2 H2 fp
  have PIY : PIf Y ifs tt := hY ▸ ht cl _ s2 H2 fp
  have I3 : Inv Y [] (none :: caps.map fun p => (σ[p.2]?).join) H2 { s2 with heap := h₁, toks := s2.toks + ([] : List (Str × Value)).length } := by
    rw [← hY]
    exact comp_inv S S.uniq I2 hcl hhas f2 hlt hC rfl rfl old (by simpa using hns₁)
  have eYenv : Y.env = compEnvC scope cl Hq.objs.size X.env := by rw [← hY]; rfl
  have eYloc : Y.env.locals = Hq.objs.size := by rw [eYenv]; rfl
  have eYfs : Y.fs = frs X.stack := by rw [← hY]; rfl
  have eYprog : Y.prog = X.prog := by rw [← hY]; rfl
  have eYw : Y.w = X.w := by rw [← hY]; rfl
  have eYK : Y.K = X.K := by rw [← hY]; rfl
  have eYA : Y.A = X.A := by rw [← hY]; rfl
  have eYc : Y.calm = true := by rw [← hY]; exact hc
  have eYex : Y.ex = fp := by rw [← hY]; rfl
  have eYs : Y.s₀ = s2 := by rw [← hY]; rfl
  have eYH : Y.H₀ = H2 := by rw [← hY]; rfl
  have eYpn : Y.pn = [] := by rw [← hY]; rfl
  have eYcell : ∀ y c, Y.env.cells.lookup y = some c → X.env.cells.lookup y = some c := fun y c e => hcl y c (by rw [eYenv] at e; exact e)
  have eYN : Y.N = x :: caps.map (·.1) := by rw [← hY]; rfl
  have eYxe : ∀ e s', ¬ Y.xe e s' := fun e s' z => by rw [← hY] at z; exact z
  have stkX : ∀ b ∈ frs X.stack, b < s2.heap.objs.size := fun b hb => by
    rcases List.mem_cons.mp (I2.stkSub b hb) with z | z
    · rw [z]; exact I2.lt
    · refine Nat.not_le.mp fun hle => I2.nofs hle z
  have cellX : ∀ y c, X.env.cells.lookup y = some c → c < s2.heap.objs.size := fun y c e => by obtain ⟨v, q⟩ := I2.cell y c e; exact q.lt
  have pinX : ∀ p ∈ X.pn ++ pins, p.1 < s2.heap.objs.size := fun p hp => Heap.lt_size (I2.pin p hp).1
  have fpY : ∀ {H' : Hp} {its : List Value} {k : Nat}, (∀ b ∈ fp, H' b = none) → ∀ b ∈ fp, FpOk Y [(s2.heap.objs.size, lob its k)] H' b := fun {H' its k} hn b hb => by
    refine ⟨hn b hb, by rw [eYloc]; exact Nat.ne_of_lt (Nat.lt_of_lt_of_le (hlt b hb) hC), ?_, .inl (by rw [eYex]; exact hb), fun y c e => (f2 b hb).2.2.2.2.1 y c (eYcell y c e), fun p hp => ?_⟩
    · rw [eYfs]
      intro hm
      rcases List.mem_cons.mp (I2.stkSub b hm) with z | z
      · exact (f2 b hb).2.1 z
      · exact (f2 b hb).2.2.1 z
    · rw [eYpn] at hp
      have e : p = (s2.heap.objs.size, lob its k) := by simpa using hp
      rw [e]
      exact Nat.ne_of_gt (hlt b hb)
  have pinD : ∀ {H' : Hp} {σ' : St} {s' : Shared} {its : List Value} {k : Nat}, Inv Y [] σ' H' s' → s'.heap.get? s2.heap.objs.size = some (lob its k) → H' s2.heap.objs.size = none → Inv Y [(s2.heap.objs.size, lob its k)] σ' H' s' := fun {H' σ' s' its k} I' e n =>
    I'.pins_of fun p hp => by
      have ep : p = (s2.heap.objs.size, lob its k) := by simpa using hp
      subst ep
      refine ⟨e, n, by rw [eYloc]; exact hDC, ?_, fun v z => ?_⟩
      · rw [eYfs]; exact fun hm => Nat.lt_irrefl _ (stkX _ hm)
      · have z' : Data.seq its.toArray k = Data.cell v := z
        cases z'
  have loop : codeAny (model X.prog X.w) X.A (.compLoop (.ListComp elt [⟨.Name x px, iter, ifs, 0⟩] scope pos) 0 (.ref it) (.ref s2.heap.objs.size) (compEnvC scope cl Hq.objs.size X.env))
      (compPost (model X.prog X.w) X.A X.xe none (EP X pins σ Q) (.ref s2.heap.objs.size) Hq.objs.size) { s2 with heap := h₁, toks := s2.toks + ([] : List (Str × Value)).length } := by
    refine codeAny_compLoop_tests (fun n s' => ∃ i σx H' ys its k, Inv Y [(s2.heap.objs.size, lob its k)] (σx :: caps.map fun p => (σ[p.2]?).join) H' s' ∧ tn i s'.heap ∧ (∀ b ∈ fp, H' b = none) ∧ Vals ys its ∧ W i n ys H') ?_ m0
      ⟨0, none, H2, [], [], 0, pinD I3 hacc (I2.hok.fresh (Nat.le_refl _)), T.keep _ _ _ st2 fun b hb o e => old b o e, fun b hb => (f2 b hb).1, .nil, w0⟩
    rintro n s3 ⟨i, σx, H3, ys, its, k, J3, st3, fr3, rv, w3⟩
    obtain ⟨hz, hcase⟩ := turn i n ys H3 w3
    rcases hcase with ⟨stop, q⟩ | ⟨go, step⟩
    · have hd := T.done Y eYprog eYw eYK eYc i _ s3 _ H3 (notedBy (model X.prog X.w) X.A (compEnvC scope cl Hq.objs.size X.env) fun e s' => compPost (model X.prog X.w) X.A X.xe none (EP X pins σ Q) (.ref s2.heap.objs.size) Hq.objs.size (.error e) s') J3 (fpY fr3) st3 stop
      rw [eYA] at hd
      refine thn hd fun r s4 ⟨hr, J4⟩ => ?_
      subst hr
      obtain ⟨m4, hn4, _⟩ := J4.loc
      refine ⟨m4, by rw [← eYloc]; exact hn4, fun h5 sb => ?_⟩
      have hnC : H3 Hq.objs.size = none := by rw [← eYloc]; exact J4.free
      have hk5 : HOk X.prog X.w H3 h5 := HOk.but (by rw [← eYprog, ← eYw]; exact J4.hok) hnC sb
      have u5 : Un (frs X.stack) fp H2 H3 s2.heap h5 := by
        have ub := J4.base
        rw [eYfs, eYex, eYH, eYs] at ub
        exact ub.but hC sb
      have J5 : Inv X pins σ H3 { s4 with heap := h5 } := I2.call' (s' := { s4 with heap := h5 }) (ch := fp) (by have := J4.os; rw [eYs] at this; exact this) u5 hk5 J4.bare fun b hb => ⟨(f2 b hb).2.2.2.1, (f2 b hb).2.1, (f2 b hb).2.2.2.2.1, (f2 b hb).2.2.2.2.2⟩
      have hp4 := J4.pin (s2.heap.objs.size, lob its k) (List.mem_append_right _ List.mem_cons_self)
      have hD5 : h5.get? s2.heap.objs.size = some (lob its k) := (sb.2 _ hDC).trans hp4.1
      refine ⟨.ref s2.heap.objs.size, upd H3 s2.heap.objs.size (.lst ys), ?_, rfl, q _ hp4.2.1⟩
      exact J5.track hp4.2.1 I2.sz (Nat.ne_of_gt I2.lt) (fun y c e => Nat.ne_of_lt (cellX y c e)) (fun p hp => Nat.ne_of_lt (pinX p hp)) (show ObjOk X.prog X.w _ h5 _ (.lst ys) from ⟨hz, its, k, rv, hD5⟩)
    · have hd := T.item Y eYprog eYw eYK eYc i _ s3 _ H3 (notedBy (model X.prog X.w) X.A (compEnvC scope cl Hq.objs.size X.env) fun e s' => compPost (model X.prog X.w) X.A X.xe none (EP X pins σ Q) (.ref s2.heap.objs.size) Hq.objs.size (.error e) s') J3 (fpY fr3) st3 go
      rw [eYA] at hd
      refine thn (strip_go hd) fun r s4 ⟨u, hr, v4, H4, J4, r4, y4, st4, fr4⟩ => ?_
      subst hr
      have hNd : Y.N.Nodup := by rw [eYN]; exact S.nd
      have hsub : wpAny (model X.prog X.w) X.A (storeName (compEnvC scope cl Hq.objs.size X.env) x u) (fun _ s5 => Inv Y [(s2.heap.objs.size, lob its k)] (some v4 :: caps.map fun p => (σ[p.2]?).join) H4 s5 ∧ tn (i + 1) s5.heap) (notedBy (model X.prog X.w) X.A (compEnvC scope cl Hq.objs.size X.env) fun e s' => compPost (model X.prog X.w) X.A X.xe none (EP X pins σ Q) (.ref s2.heap.objs.size) Hq.objs.size (.error e) s') s4 := by
        rw [← eYenv]
        have hloc : Y.env.scope.names.lookup x = some .local := by rw [eYenv]; exact lookup_relabel_local S.hx
        refine store_ok2 (i := 0) J4 hNd (by rw [eYN]; rfl) (.inl hloc) r4 (fun s5 J5 ⟨a, sb, ha⟩ => ⟨J5, T.keep _ _ _ st4 fun b hb o e => ?_⟩) (.inr hloc)
        refine (sb.2 b ?_).trans e
        rcases ha with z | z
        · rw [z, eYloc]; exact Nat.ne_of_lt (Nat.lt_of_lt_of_le (hlt b hb) hC)
        · exact fun w => (f2 b hb).2.2.2.2.1 x a (eYcell x a z) w.symm
      refine wpAny_assign_Name (thn hsub fun _ s5 ⟨J5, st5⟩ => ?_)
      have J5' := J5.pinned (fp := fp) (fpY fr4) (T.obj _ _ st5)
      have hstep := step v4 H4 y4
      have ht5 := PIY _ s5 _ H4 _ J5' hstep
      rw [eYprog, eYw, eYA, eYenv] at ht5
      refine wpAny_mono ht5 (fun ok s6 ⟨H6, J6, q6⟩ => ?_) fun e s' z => (eYxe _ _ z).elim
      have back : ∀ {H7 : Hp} {s7 : Shared}, Inv Y ([(s2.heap.objs.size, lob its k)] ++ pinsAt fp s5.heap) (some v4 :: caps.map fun p => (σ[p.2]?).join) H7 s7 → tn (i + 1) s7.heap ∧ ∀ b ∈ fp, H7 b = none := fun {H7 s7} J7 =>
        ⟨T.keep _ _ _ st5 fun b hb o e => (J7.pin (b, o) (List.mem_append_right _ (List.mem_append_right _ (mem_pinsAt hb e)))).1, fun b hb => by
          obtain ⟨o, e, d⟩ := T.obj _ _ st5 b hb
          exact (J7.pin (b, o) (List.mem_append_right _ (List.mem_append_right _ (mem_pinsAt hb e)))).2.1⟩
      cases ok with
      | false =>
        rw [if_neg Bool.false_ne_true] at q6
        rw [if_neg Bool.false_ne_true]
        obtain ⟨m', hm', w6⟩ := q6
        exact ⟨m', hm', i + 1, some v4, H6, ys, its, k, J6.unpinned, (back J6).1, (back J6).2, rv, w6⟩
      | true =>
        rw [if_pos rfl] at q6
        rw [if_pos rfl]
        have he6 := PEY _ s6 _ H6 _ J6 q6
        rw [eYprog, eYw, eYA, eYenv] at he6
        refine wpAny_mono he6 (fun u7 s7 ⟨v7, H7, J7, r7, m', hm', w7⟩ => ?_) fun e s' z => (eYxe _ _ z).elim
        obtain ⟨st7, fr7⟩ := back J7
        have hp7 := (J7.unpinned).pin (s2.heap.objs.size, lob its k) (List.mem_append_right _ List.mem_cons_self)
        have hl := rv.length
        refine append_at (hsz := by show its.toArray.size ≤ sizeLine; rw [List.size_toArray]; omega) hp7.1 fun h8 sb8 hD8 => ?_
        have J7' : Inv Y [] (some v4 :: caps.map fun p => (σ[p.2]?).join) H7 s7 := J7.unpinned.pins_of fun p hp => absurd hp (by simp)
        have J8 : Inv Y [] (some v4 :: caps.map fun p => (σ[p.2]?).join) H7 { s7 with heap := h8 } := J7'.turned (t' := s7.toks) (it := s2.heap.objs.size) (fun b o hb e => (sb8.2 b hb).trans e) hp7.2.1 (by rw [eYloc]; exact hDC) (.inr (by rw [eYs]; exact Nat.le_refl _)) (fun y c e => Nat.ne_of_lt (cellX y c (eYcell y c e))) (fun p hp => by rw [eYpn] at hp; simp at hp)
        have hD8' : h8.get? s2.heap.objs.size = some (lob (its ++ [u7]) (k + 1)) := by rw [hD8]; simp [lob]
        exact ⟨m', hm', i + 1, some v4, H7, ys ++ [v7], its ++ [u7], k + 1, pinD J8 hD8' hp7.2.1, T.keep _ _ _ st7 fun b hb o e => (sb8.2 b (Nat.ne_of_lt (hlt b hb))).trans e, fr7, rv.append (.cons r7 .nil), w7⟩
  exact codeAny_compStart_list loop (T.self X.A 0 _ _ _ (T.keep _ _ _ st2 fun b hb o e => old b o e) loop)
/-- [elt for x in iter if ..]; sc, N: the def's scope and names, written out -/
theorem pe_comp {sc : Scope} {N : List Str} (S : CompScope sc scope N x caps) (hi : PI X (.Name x px) iter wi) (ht : ∀ cl C s H fp, PIf (compCx X x caps scope cl C s H fp) ifs tt) (he : ∀ cl C s H fp, PE (compCx X x caps scope cl C s H fp) elt te)
    (hc : X.calm = true := by rfl) (hsc : X.env.scope = sc := by rfl) (hN : X.N = N := by rfl) (hs : ∀ v, foldedSetIterable iter X.env v = pure v := by intro _; rfl) : PE X (.ListComp elt [⟨.Name x px, iter, ifs, 0⟩] scope pos) (tComp wi tt te caps) :=
  pe_comp0 hc (by rw [hsc, hN]; exact S) hi ht he hs
end
end L2

set_option Elab.async false
set_option linter.all false
set_option maxRecDepth 100000
set_option maxHeartbeats 4000000
namespace L2
open PySem PySem.Spec PyProof.Rows
section
variable {X : Cx} {elt iter : Expr} {x : Str} {px pos : Pos} {ifs : List Expr} {scope : Scope} {caps : List (Str × Nat)} {wi : TI} {tt : TT} {te : TE}
/-- y = [elt for x in iter if ..], where the store comes ahead of the block's end -/
theorem ps_comp0 {k0 : Nat} {y0 : Str} {py spos : Pos} (hc : X.calm = true) (S : CompScope X.env.scope scope X.N x caps) (hN0 : X.N.Nodup) (hi0 : X.N[k0]? = some y0) (hx0 : Loc X.env.scope y0) (hi : PI X (.Name x px) iter wi)
    (ht : ∀ cl C s H fp, PIf (compCx X x caps scope cl C s H fp) ifs tt) (he : ∀ cl C s H fp, PE (compCx X x caps scope cl C s H fp) elt te)
    (hsw : swapsWith (.ListComp elt [⟨.Name x px, iter, ifs, 0⟩] scope pos) (some (.Name y0 py)) spos.line X.env = pure true)
    (hf0 : X.fn y0 = true ∨ X.env.scope.names.lookup y0 = some .local)
    (hs : ∀ v, foldedSetIterable iter X.env v = pure v) : PS X (.Assign [.Name y0 py] (.ListComp elt [⟨.Name x px, iter, ifs, 0⟩] scope pos) spos) (tAsg (tComp wi tt te caps) (gName k0)) := by
  intro pins s σ H DD I h
  obtain ⟨cl, hclos, hcl, hhas⟩ := closure_ok (scope := scope) (env := X.env) fun y hy hf => I.ok.has y.1 (S.free y hy hf)
  rw [exec_Assign_Name_used _ _ _ _ hsw]
  refine wpAny_bind (wpAny_standAt (wpAny_bind ?_))
  show wpAny _ X.A (do let _ ← comprehension (.ListComp elt [⟨.Name x px, iter, ifs, 0⟩] scope pos) scope X.env _ (newList []) false (eval iter X.env) (some (assign (.Name y0 py) X.env))) _ _ s
  refine wpAny_bind (wpAny_mono (wpAny_comprehension_free (use := some (assign (.Name y0 py) X.env)) (Q := fun _ s' => SP X pins DD .next s') rfl hs hclos S.kind S.names (thn (hi pins s σ H _ I h) fun v s1 h1 => thn h1 fun itv s2 h2 => ?_)) (fun _ s' hq => wpAny_pure (wpAny_pure hq)) fun _ _ e => e)
  obtain ⟨it, fp, tn, J, H2, rfl, I2, T, st2, f2, W, ⟨m0, w0⟩, turn⟩ := h2
  refine wpAny_newObj_type (wpAny_newFunctionEnv S.cell (by intro y hy; simp at hy) (fun h₁ hns₁ hsb₁ => ?_) S.kind)
  dsimp only at hns₁ hsb₁ ⊢
  generalize hHp : s2.heap.push { cls := .type "list", dict := none, data := .seq ([] : List Value).toArray } = Hq at hns₁ hsb₁ ⊢
  have hCe : Hq.objs.size = s2.heap.objs.size + 1 := by rw [← hHp, Heap.size_push]
  have hDC : s2.heap.objs.size ≠ Hq.objs.size := by rw [hCe]; exact Nat.ne_of_lt (Nat.lt_succ_self _)
  have hC : s2.heap.objs.size ≤ Hq.objs.size := by rw [hCe]; exact Nat.le_succ _
  have old : ∀ b o, s2.heap.get? b = some o → h₁.get? b = some o := fun b o e =>
    hsb₁.extBut b o (Nat.ne_of_lt (Nat.lt_of_lt_of_le (Heap.lt_size e) hC)) (Heap.get?_push_of_some _ (hHp ▸ Heap.get?_push_of_some _ e))
  have hacc : h₁.get? s2.heap.objs.size = some (lob [] 0) := hsb₁.extBut _ _ hDC (Heap.get?_push_of_some _ (hHp ▸ Heap.get?_push_size _ rfl))
  have hlt : ∀ b ∈ fp, b < s2.heap.objs.size := fun b hb => by obtain ⟨o, e, _⟩ := T.obj 0 _ st2 b hb; exact Heap.lt_size e
  generalize hY : compCx X x caps scope cl Hq.objs.size s2 H2 fp = Y
  have PEY : PE Y elt te := hY ▸ he cl _ s2 H2 fp
  have PIY : PIf Y ifs tt := hY ▸ ht cl _ s2 H2 fp
  have I3 : Inv Y [] (none :: caps.map fun p => (σ[p.2]?).join) H2 { s2 with heap := h₁, toks := s2.toks + ([] : List (Str × Value)).length } := by
    rw [← hY]
    exact comp_inv S S.uniq I2 hcl hhas f2 hlt hC rfl rfl old (by simpa using hns₁)
  have eYenv : Y.env = compEnvC scope cl Hq.objs.size X.env := by rw [← hY]; rfl
  have eYloc : Y.env.locals = Hq.objs.size := by rw [eYenv]; rfl
  have eYfs : Y.fs = frs X.stack := by rw [← hY]; rfl
  have eYprog : Y.prog = X.prog := by rw [← hY]; rfl
  have eYw : Y.w = X.w := by rw [← hY]; rfl
  have eYK : Y.K = X.K := by rw [← hY]; rfl
  have eYA : Y.A = X.A := by rw [← hY]; rfl
  have eYc : Y.calm = true := by rw [← hY]; exact hc
  have eYex : Y.ex = fp := by rw [← hY]; rfl
  have eYs : Y.s₀ = s2 := by rw [← hY]; rfl
  have eYH : Y.H₀ = H2 := by rw [← hY]; rfl
  have eYpn : Y.pn = [] := by rw [← hY]; rfl
  have eYcell : ∀ y c, Y.env.cells.lookup y = some c → X.env.cells.lookup y = some c := fun y c e => hcl y c (by rw [eYenv] at e; exact e)
  have eYN : Y.N = x :: caps.map (·.1) := by rw [← hY]; rfl
  have eYxe : ∀ e s', ¬ Y.xe e s' := fun e s' z => by rw [← hY] at z; exact z
  have stkX : ∀ b ∈ frs X.stack, b < s2.heap.objs.size := fun b hb => by
    rcases List.mem_cons.mp (I2.stkSub b hb) with z | z
    · rw [z]; exact I2.lt
    · refine Nat.not_le.mp fun hle => I2.nofs hle z
  have cellX : ∀ y c, X.env.cells.lookup y = some c → c < s2.heap.objs.size := fun y c e => by obtain ⟨v, q⟩ := I2.cell y c e; exact q.lt
  have pinX : ∀ p ∈ X.pn ++ pins, p.1 < s2.heap.objs.size := fun p hp => Heap.lt_size (I2.pin p hp).1
  have fpY : ∀ {H' : Hp} {its : List Value} {k : Nat}, (∀ b ∈ fp, H' b = none) → ∀ b ∈ fp, FpOk Y [(s2.heap.objs.size, lob its k)] H' b := fun {H' its k} hn b hb => by
    refine ⟨hn b hb, by rw [eYloc]; exact Nat.ne_of_lt (Nat.lt_of_lt_of_le (hlt b hb) hC), ?_, .inl (by rw [eYex]; exact hb), fun y c e => (f2 b hb).2.2.2.2.1 y c (eYcell y c e), fun p hp => ?_⟩
    · rw [eYfs]
      intro hm
      rcases List.mem_cons.mp (I2.stkSub b hm) with z | z
      · exact (f2 b hb).2.1 z
      · exact (f2 b hb).2.2.1 z
    · rw [eYpn] at hp
      have e : p = (s2.heap.objs.size, lob its k) := by simpa using hp
      rw [e]
      exact Nat.ne_of_gt (hlt b hb)
  have pinD : ∀ {H' : Hp} {σ' : St} {s' : Shared} {its : List Value} {k : Nat}, Inv Y [] σ' H' s' → s'.heap.get? s2.heap.objs.size = some (lob its k) → H' s2.heap.objs.size = none → Inv Y [(s2.heap.objs.size, lob its k)] σ' H' s' := fun {H' σ' s' its k} I' e n =>
    I'.pins_of fun p hp => by
      have ep : p = (s2.heap.objs.size, lob its k) := by simpa using hp
      subst ep
      refine ⟨e, n, by rw [eYloc]; exact hDC, ?_, fun v z => ?_⟩
      · rw [eYfs]; exact fun hm => Nat.lt_irrefl _ (stkX _ hm)
      · have z' : Data.seq its.toArray k = Data.cell v := z
        cases z'
  have loop : codeAny (model X.prog X.w) X.A (.compLoop (.ListComp elt [⟨.Name x px, iter, ifs, 0⟩] scope pos) 0 (.ref it) (.ref s2.heap.objs.size) (compEnvC scope cl Hq.objs.size X.env))
      (compPost (model X.prog X.w) X.A X.xe (some (assign (.Name y0 py) X.env)) (fun _ s' => SP X pins DD .next s') (.ref s2.heap.objs.size) Hq.objs.size) { s2 with heap := h₁, toks := s2.toks + ([] : List (Str × Value)).length } := by
    refine codeAny_compLoop_tests (fun n s' => ∃ i σx H' ys its k, Inv Y [(s2.heap.objs.size, lob its k)] (σx :: caps.map fun p => (σ[p.2]?).join) H' s' ∧ tn i s'.heap ∧ (∀ b ∈ fp, H' b = none) ∧ Vals ys its ∧ W i n ys H') ?_ m0
      ⟨0, none, H2, [], [], 0, pinD I3 hacc (I2.hok.fresh (Nat.le_refl _)), T.keep _ _ _ st2 fun b hb o e => old b o e, fun b hb => (f2 b hb).1, .nil, w0⟩
    rintro n s3 ⟨i, σx, H3, ys, its, k, J3, st3, fr3, rv, w3⟩
    obtain ⟨hz, hcase⟩ := turn i n ys H3 w3
    rcases hcase with ⟨stop, q⟩ | ⟨go, step⟩
    · have hd := T.done Y eYprog eYw eYK eYc i _ s3 _ H3 (notedBy (model X.prog X.w) X.A (compEnvC scope cl Hq.objs.size X.env) fun e s' => compPost (model X.prog X.w) X.A X.xe (some (assign (.Name y0 py) X.env)) (fun _ s' => SP X pins DD .next s') (.ref s2.heap.objs.size) Hq.objs.size (.error e) s') J3 (fpY fr3) st3 stop
      rw [eYA] at hd
      refine thn hd fun r s4 ⟨hr, J4⟩ => ?_
      subst hr
      obtain ⟨m4, hn4, _⟩ := J4.loc
      show wpAny _ X.A (assign (.Name y0 py) X.env (.ref s2.heap.objs.size)) _ X.xe s4
      have hn4' : s4.heap.Ns Hq.objs.size m4 := by rw [← eYloc]; exact hn4
      have hnC : H3 Hq.objs.size = none := by rw [← eYloc]; exact J4.free
      have hk5 : HOk X.prog X.w H3 s4.heap := by rw [← eYprog, ← eYw]; exact J4.hok
      have u5 : Un (frs X.stack) fp H2 H3 s2.heap s4.heap := by
        have ub := J4.base
        rw [eYfs, eYex, eYH, eYs] at ub
        exact ub
      have J5 : Inv X pins σ H3 s4 := I2.call' (s' := s4) (ch := fp) (by have := J4.os; rw [eYs] at this; exact this) u5 hk5 J4.bare fun b hb => ⟨(f2 b hb).2.2.2.1, (f2 b hb).2.1, (f2 b hb).2.2.2.2.1, (f2 b hb).2.2.2.2.2⟩
      have hp4 := J4.pin (s2.heap.objs.size, lob its k) (List.mem_append_right _ List.mem_cons_self)
      have hD5 : s4.heap.get? s2.heap.objs.size = some (lob its k) := hp4.1
      have J6 : Inv X pins σ (upd H3 s2.heap.objs.size (.lst ys)) s4 := J5.track hp4.2.1 I2.sz (Nat.ne_of_gt I2.lt) (fun y c e => Nat.ne_of_lt (cellX y c e)) (fun p hp => Nat.ne_of_lt (pinX p hp)) (show ObjOk X.prog X.w _ s4.heap _ (.lst ys) from ⟨hz, its, k, rv, hD5⟩)
      have hCloc : Hq.objs.size ≠ X.env.locals := Nat.ne_of_gt (Nat.lt_of_lt_of_le I2.lt hC)
      refine wpAny_assign_Name (store_ok2 (i := k0) J6 hN0 hi0 hx0 (v := .ref s2.heap.objs.size) rfl (fun s5 J7 ⟨a, sb, ha⟩ => ?_) hf0)
      have haC : Hq.objs.size ≠ a := by
        rcases ha with z | z
        · rw [z]; exact hCloc
        · exact Nat.ne_of_gt (Nat.lt_of_lt_of_le (cellX _ _ z) hC)
      refine ⟨m4, hn4'.sameBut sb haC, fun h' sb' => ⟨_, _, J7.turned (t' := s5.toks) (it := Hq.objs.size) (fun b o hb e => (sb'.2 b hb).trans e) (by rw [upd_ne (Ne.symm hDC)]; exact hnC) hCloc (.inr (Nat.le_trans I2.sz hC)) (fun y c e => Nat.ne_of_lt (Nat.lt_of_lt_of_le (cellX y c e) hC)) (fun p hp => Nat.ne_of_lt (Nat.lt_of_lt_of_le (pinX p hp) hC)), q _ hp4.2.1⟩⟩
    · have hd := T.item Y eYprog eYw eYK eYc i _ s3 _ H3 (notedBy (model X.prog X.w) X.A (compEnvC scope cl Hq.objs.size X.env) fun e s' => compPost (model X.prog X.w) X.A X.xe (some (assign (.Name y0 py) X.env)) (fun _ s' => SP X pins DD .next s') (.ref s2.heap.objs.size) Hq.objs.size (.error e) s') J3 (fpY fr3) st3 go
      rw [eYA] at hd
      refine thn (strip_go hd) fun r s4 ⟨u, hr, v4, H4, J4, r4, y4, st4, fr4⟩ => ?_
      subst hr
      have hNd : Y.N.Nodup := by rw [eYN]; exact S.nd
      have hsub : wpAny (model X.prog X.w) X.A (storeName (compEnvC scope cl Hq.objs.size X.env) x u) (fun _ s5 => Inv Y [(s2.heap.objs.size, lob its k)] (some v4 :: caps.map fun p => (σ[p.2]?).join) H4 s5 ∧ tn (i + 1) s5.heap) (notedBy (model X.prog X.w) X.A (compEnvC scope cl Hq.objs.size X.env) fun e s' => compPost (model X.prog X.w) X.A X.xe (some (assign (.Name y0 py) X.env)) (fun _ s' => SP X pins DD .next s') (.ref s2.heap.objs.size) Hq.objs.size (.error e) s') s4 := by
        rw [← eYenv]
        have hloc : Y.env.scope.names.lookup x = some .local := by rw [eYenv]; exact lookup_relabel_local S.hx
        refine store_ok2 (i := 0) J4 hNd (by rw [eYN]; rfl) (.inl hloc) r4 (fun s5 J5 ⟨a, sb, ha⟩ => ⟨J5, T.keep _ _ _ st4 fun b hb o e => ?_⟩) (.inr hloc)
        refine (sb.2 b ?_).trans e
        rcases ha with z | z
        · rw [z, eYloc]; exact Nat.ne_of_lt (Nat.lt_of_lt_of_le (hlt b hb) hC)
        · exact fun w => (f2 b hb).2.2.2.2.1 x a (eYcell x a z) w.symm
      refine wpAny_assign_Name (thn hsub fun _ s5 ⟨J5, st5⟩ => ?_)
      have J5' := J5.pinned (fp := fp) (fpY fr4) (T.obj _ _ st5)
      have hstep := step v4 H4 y4
      have ht5 := PIY _ s5 _ H4 _ J5' hstep
      rw [eYprog, eYw, eYA, eYenv] at ht5
      refine wpAny_mono ht5 (fun ok s6 ⟨H6, J6, q6⟩ => ?_) fun e s' z => (eYxe _ _ z).elim
      have back : ∀ {H7 : Hp} {s7 : Shared}, Inv Y ([(s2.heap.objs.size, lob its k)] ++ pinsAt fp s5.heap) (some v4 :: caps.map fun p => (σ[p.2]?).join) H7 s7 → tn (i + 1) s7.heap ∧ ∀ b ∈ fp, H7 b = none := fun {H7 s7} J7 =>
        ⟨T.keep _ _ _ st5 fun b hb o e => (J7.pin (b, o) (List.mem_append_right _ (List.mem_append_right _ (mem_pinsAt hb e)))).1, fun b hb => by
          obtain ⟨o, e, d⟩ := T.obj _ _ st5 b hb
          exact (J7.pin (b, o) (List.mem_append_right _ (List.mem_append_right _ (mem_pinsAt hb e)))).2.1⟩
      cases ok with
      | false =>
        rw [if_neg Bool.false_ne_true] at q6
        rw [if_neg Bool.false_ne_true]
        obtain ⟨m', hm', w6⟩ := q6
        exact ⟨m', hm', i + 1, some v4, H6, ys, its, k, J6.unpinned, (back J6).1, (back J6).2, rv, w6⟩
      | true =>
        rw [if_pos rfl] at q6
        rw [if_pos rfl]
        have he6 := PEY _ s6 _ H6 _ J6 q6
        rw [eYprog, eYw, eYA, eYenv] at he6
        refine wpAny_mono he6 (fun u7 s7 ⟨v7, H7, J7, r7, m', hm', w7⟩ => ?_) fun e s' z => (eYxe _ _ z).elim
        obtain ⟨st7, fr7⟩ := back J7
        have hp7 := (J7.unpinned).pin (s2.heap.objs.size, lob its k) (List.mem_append_right _ List.mem_cons_self)
        have hl := rv.length
        refine append_at (hsz := by show its.toArray.size ≤ sizeLine; rw [List.size_toArray]; omega) hp7.1 fun h8 sb8 hD8 => ?_
        have J7' : Inv Y [] (some v4 :: caps.map fun p => (σ[p.2]?).join) H7 s7 := J7.unpinned.pins_of fun p hp => absurd hp (by simp)
        have J8 : Inv Y [] (some v4 :: caps.map fun p => (σ[p.2]?).join) H7 { s7 with heap := h8 } := J7'.turned (t' := s7.toks) (it := s2.heap.objs.size) (fun b o hb e => (sb8.2 b hb).trans e) hp7.2.1 (by rw [eYloc]; exact hDC) (.inr (by rw [eYs]; exact Nat.le_refl _)) (fun y c e => Nat.ne_of_lt (cellX y c (eYcell y c e))) (fun p hp => by rw [eYpn] at hp; simp at hp)
        have hD8' : h8.get? s2.heap.objs.size = some (lob (its ++ [u7]) (k + 1)) := by rw [hD8]; simp [lob]
        exact ⟨m', hm', i + 1, some v4, H7, ys ++ [v7], its ++ [u7], k + 1, pinD J8 hD8' hp7.2.1, T.keep _ _ _ st7 fun b hb o e => (sb8.2 b (Nat.ne_of_lt (hlt b hb))).trans e, fr7, rv.append (.cons r7 .nil), w7⟩
  exact codeAny_compStart_list loop (T.self X.A 0 _ _ _ (T.keep _ _ _ st2 fun b hb o e => old b o e) loop)
/-- the same, sc and N written out -/
theorem ps_setC {k0 : Nat} {y0 : Str} {py spos : Pos} {sc : Scope} {N : List Str} (S : CompScope sc scope N x caps) (hN0 : X.N.Nodup) (hi0 : X.N[k0]? = some y0) (hx0 : Loc X.env.scope y0) (hi : PI X (.Name x px) iter wi)
    (ht : ∀ cl C s H fp, PIf (compCx X x caps scope cl C s H fp) ifs tt) (he : ∀ cl C s H fp, PE (compCx X x caps scope cl C s H fp) elt te)
    (hsw : swapsWith (.ListComp elt [⟨.Name x px, iter, ifs, 0⟩] scope pos) (some (.Name y0 py)) spos.line X.env = pure true := by rfl)
    (hf0 : X.fn y0 = true ∨ X.env.scope.names.lookup y0 = some .local := by first | exact .inl rfl | exact .inr rfl | assumption)
    (hc : X.calm = true := by rfl) (hsc : X.env.scope = sc := by rfl) (hN : X.N = N := by rfl) (hs : ∀ v, foldedSetIterable iter X.env v = pure v := by intro _; rfl) :
    PS X (.Assign [.Name y0 py] (.ListComp elt [⟨.Name x px, iter, ifs, 0⟩] scope pos) spos) (tAsg (tComp wi tt te caps) (gName k0)) :=
  ps_comp0 hc (by rw [hsc, hN]; exact S) hN0 hi0 hx0 hi ht he hsw hf0 hs
end
end L2

set_option Elab.async false
set_option linter.all false
set_option maxRecDepth 100000
set_option maxHeartbeats 4000000
namespace L2
open PySem PySem.Spec PyProof.Rows
section
variable {X : Cx} {a b c : Expr} {ta tb tc : TE} {pos : Pos}

/-! ### isinstance with a built-in type -/
theorem call_isinst : CallR X (.builtin "isinstance") (fun xs H Q => ∃ x t c k, xs = [x, .ty c] ∧ TyOf X.K H x t ∧ PySem.W.kitOne X.K t (.type c) = some k ∧ Q (.bl k) H) := by
  intro pins s σ H xs us Q I r h
  obtain ⟨x, t, c, k, rfl, ty, e, q⟩ := h
  cases r with
  | cons r1 rr =>
    cases rr with
    | cons r2 r3 =>
      cases r3
      cases (show _ = Value.type c from r2)
      exact isinst_ok I r1 ty e fun tk => ⟨.bl k, H, I.tok tk, rfl, q⟩

/-! ### all of a list of truths -/
theorem range_all_get (bs : List Bool) : ((List.range bs.length).all fun i => (bs[i]?).getD true) = bs.all id := by
  rw [Bool.eq_iff_iff, List.all_eq_true, List.all_eq_true]
  constructor
  · intro h b hb
    obtain ⟨i, hi, e⟩ := List.mem_iff_getElem.mp hb
    have := h i (List.mem_range.mpr hi)
    rw [List.getElem?_eq_getElem hi, e] at this
    exact this
  · intro h i hi
    have hi' := List.mem_range.mp hi
    rw [List.getElem?_eq_getElem hi']
    exact h _ (List.getElem_mem hi')
theorem call_all_bl (hc : X.calm = true) : CallR X (.builtin "all") (fun xs H Q => ∃ (p : Addr) (bs : List Bool), xs = [.ref p] ∧ SqL X.K H p (bs.map V.bl) ∧ Q (.bl (bs.all id)) H) := by
  intro pins s σ H xs us Q I r h
  obtain ⟨p, bs, rfl, hq, q⟩ := h
  obtain ⟨u, rfl, rx⟩ := vals1 r
  cases rx
  obtain ⟨its, rv, pl, hz⟩ := I.list hq
  have hl := pl.isList
  have hlt : p < s.heap.objs.size := by obtain ⟨_, e, _⟩ := hl; exact Heap.lt_size e
  have hn : its.length = bs.length := by have := rv.length; rw [List.length_map] at this; exact this.symm
  refine call_all_walk (wpAny_pyIter_list hl ?_)
  refine ⟨s.heap.objs.size, [s.heap.objs.size, p], [s.heap.objs.size], its.toArray.size, _, _, fun i => (bs[i]?).getD true, rfl, Walks.list (A := X.A.in1) (I.ok.hd hc) _ p (Nat.ne_of_lt hlt) its.toArray, ⟨⟨_, Heap.get?_push_size _ rfl, rfl, rfl⟩, hl.push _⟩, fun i v s' Q' E' hP hQ => ?_, fun h' tk hk => ?_⟩
  · have hv : its[i]? = some v := by simpa using hP
    have hi : i < bs.length := by rw [← hn]; exact (List.getElem?_eq_some_iff.mp hv).1
    obtain ⟨u, hu, ru⟩ := rv.get (i := i) (x := .bl bs[i]) (by rw [List.getElem?_map, List.getElem?_eq_getElem hi]; rfl)
    rw [hv] at hu
    cases hu
    cases (show v = Value.bool bs[i] from ru)
    refine wpAny_truthy_bool ?_
    have hQ' : Q' ((bs[i]?).getD true) s' := hQ
    rw [List.getElem?_eq_getElem hi] at hQ'
    exact hQ'
  · rw [List.size_toArray, hn, range_all_get]
    refine ⟨.bl _, H, I.kept (t' := tk) fun b o e => ?_, rfl, q⟩
    exact hk b o (fun hm => by rw [List.mem_singleton.mp hm] at e; exact Nat.lt_irrefl _ (Heap.lt_size e)) (Heap.get?_push_of_some _ e)

/-! ### is, is not: a truth -/
theorem op_isnot_bl : OpR X (compareOp .IsNot) (fun x y H Q => ∃ i j, x = .bl i ∧ y = .bl j ∧ Q (.bl (!decide (i = j))) H) := by
  intro pins s σ H x y v u Q I rx ry h
  obtain ⟨i, j, rfl, rfl, q⟩ := h
  cases rx
  cases ry
  show wpAny _ _ (isSame (Value.bool i) (Value.bool j) >>= fun r => pure (Value.bool (!r))) _ _ s
  refine wpAny_bind (wpAny_isSame_plain (by rfl) (wpAny_pure ?_))
  refine ⟨.bl (!decide (i = j)), H, I, ?_, q⟩
  show _ = Value.bool _
  congr 1
  cases i <;> cases j <;> rfl

/-! ### tuples of ints: as keys -/
def IntsV (k : List Int) : List V := k.map V.int
theorem items_ints {prog : Program} {w : World} : ∀ {k : List Int} {its : List Value}, Vals (k.map V.int) its → ItemsAre (intKind prog w) k its
  | [], _, .nil => .nil
  | i :: k, _, .cons r t => by
    obtain ⟨t', rfl⟩ := r
    exact .cons (by show Value.isInt i (.int i t') = true; simp [Value.isInt]) (items_ints t)
theorem Inv.key {pins : List (Addr × Obj)} {σ : St} {H : Hp} {s : Shared} (I : Inv X pins σ H s) {p : Addr} {k : List Int} (h : SqT X.K H p (k.map V.int)) {prog : Program} {w : World} : ST.TK prog w s.heap k p := by
  obtain ⟨its, rv, ⟨o, e, c, n, d⟩, _⟩ := I.tuple h
  exact ⟨o, _, n, e, c, d, items_ints rv⟩
/-- the items are tuples of ints -/
def KeysAt (K : PySem.W.Frag) (H : Hp) (ys : List V) (keys : List (List Int)) : Prop := Paired (fun (v : V) (k : List Int) => ∃ b, v = .ref b ∧ SqT K H b (k.map V.int)) ys keys
theorem KeysAt.get {K : PySem.W.Frag} {H : Hp} : ∀ {ys : List V} {keys : List (List Int)} {its : List Value}, KeysAt K H ys keys → Vals ys its → ∀ (j : Nat) (v : Value), its[j]? = some v → ∃ b, v = .ref b ∧ SqT K H b ((keys.getD j []).map V.int)
  | _, _, _, .nil, .nil, j, v, e => by simp at e
  | _, _, _, .cons ⟨b, eb, hb⟩ t, .cons r tr, 0, v, e => by
    subst eb
    cases r
    simp at e
    subst e
    exact ⟨b, rfl, by simpa using hb⟩
  | _, _, _, .cons _ t, .cons _ tr, j + 1, v, e => by
    obtain ⟨b, h1, h2⟩ := KeysAt.get t tr j v (by simpa using e)
    exact ⟨b, h1, by simpa using h2⟩

/-! ### x not in a list of tuples of ints -/
noncomputable def hitB (its : List Value) (keys : List (List Int)) (k : List Int) (v : Value) : Bool := @decide (∃ (j : Nat), its[j]? = some v ∧ keys[j]? = some k) (Classical.propDecidable _)
theorem hitB_iff {its : List Value} {keys : List (List Int)} {k : List Int} {v : Value} : hitB its keys k v = true ↔ ∃ (j : Nat), its[j]? = some v ∧ keys[j]? = some k := by
  unfold hitB
  exact @decide_eq_true_iff _ (Classical.propDecidable _)
theorem op_notin_keys (hu : X.A.units + 8 < cLine) : OpR X (compareOp .NotIn) (fun x y H Q => ∃ (p : Addr) (k : List Int) (l : Addr) (ys : List V) (keys : List (List Int)), x = .ref p ∧ SqT X.K H p (k.map V.int) ∧ y = .ref l ∧ SqL X.K H l ys ∧ KeysAt X.K H ys keys ∧ Q (.bl (!decide (k ∈ keys))) H) := by
  intro pins s σ H x y v u Q I rx ry h
  obtain ⟨p, k, l, ys, keys, rfl, hp, rfl, hl, hk, q⟩ := h
  cases rx
  cases ry
  obtain ⟨its, rv, pl, hz⟩ := I.list hl
  -- the answer at each item, by its place
  have hn : its.length = keys.length := by rw [← rv.length]; exact hk.length
  have hat : ∀ v, v ∈ its.toArray → SeqAt.EqAt X.A.in1 s v (.ref p) (hitB its keys k v) := by
    intro v hv prog w E Q' hq
    have hv' : v ∈ its := by simpa using hv
    obtain ⟨j, hj, ej⟩ := List.mem_iff_getElem.mp hv'
    have ej' : its[j]? = some v := by rw [List.getElem?_eq_getElem hj, ej]
    obtain ⟨b, eb, hb⟩ := hk.get rv j v ej'
    subst eb
    have kb : ST.TK prog w s.heap (keys.getD j []) b := I.key hb
    have kp : ST.TK prog w s.heap k p := I.key hp
    refine wpAny_eqBool_tuple (by show X.A.units + 1 < cLine; omega) kb kp ?_
    have hjk : j < keys.length := by omega
    have ek : keys.getD j [] = keys[j] := by simp [List.getD, hjk]
    have e : decide (keys.getD j [] = k) = hitB its keys k (.ref b) := by
      rw [Bool.eq_iff_iff, decide_eq_true_iff, hitB_iff]
      constructor
      · intro z
        exact ⟨j, ej', by rw [List.getElem?_eq_getElem hjk, ← ek, z]⟩
      · rintro ⟨i, hi, hki⟩
        obtain ⟨b', eb', hb'⟩ := hk.get rv i _ hi
        cases eb'
        have kb' : ST.TK prog w s.heap (keys.getD i []) b := I.key hb'
        have := kb.inj kb'
        rw [this]
        have hik := (List.getElem?_eq_some_iff.mp hki)
        simp [List.getD, hki]
    rw [e]; exact hq
  refine SeqAt.notIn_listAt _ pl.isList hat ⟨.bl (!decide (k ∈ keys)), H, I, ?_, q⟩
  show Value.bool _ = Value.bool _
  congr 2
  rw [Bool.eq_iff_iff, Array.any_eq_true', decide_eq_true_iff]
  constructor
  · rintro ⟨v, hv, e⟩
    obtain ⟨j, _, hj⟩ := hitB_iff.mp e
    exact List.mem_of_getElem? hj
  · intro hm
    obtain ⟨j, hj, ej⟩ := List.mem_iff_getElem.mp hm
    have hji : j < its.length := by omega
    refine ⟨its[j], by simpa using List.getElem_mem hji, ?_⟩
    exact hitB_iff.mpr ⟨j, List.getElem?_eq_getElem hji, by rw [List.getElem?_eq_getElem hj, ej]⟩

/-! ### () + t -/
theorem op_catT0 : OpR X (binaryOp .Add) (fun x y H Q => ∃ (a b : Addr) (ys : List V), x = .ref a ∧ y = .ref b ∧ SqT X.K H a [] ∧ SqT X.K H b ys ∧ Q (.ref b) H) := by
  intro pins s σ H x y v u Q I rx ry h
  obtain ⟨a, b, ys, rfl, rfl, ha, hb, q⟩ := h
  cases rx
  cases ry
  obtain ⟨its, r1, p1, _⟩ := I.tuple ha
  obtain ⟨its2, r2, p2, _⟩ := I.tuple hb
  cases r1
  obtain ⟨⟨cls, dd, data, sl⟩, ho, hc, n, hd⟩ := id p1
  obtain ⟨⟨cls2, dd2, data2, sl2⟩, ho2, hc2, n2, hd2⟩ := id p2
  simp only at hc hd hc2 hd2
  subst hc hd hc2 hd2
  exact concat_meets ⟨_, ho, rfl⟩ ⟨_, ho2, rfl⟩ noFill_tuple_add seq_tuple_add PySem.F.slot_tuple_add PySem.F.entry_tuple_add (PySem.F.args_tuple_add_2 _ _)
    (tuple_addW0 a b ([] : List Value).toArray its2.toArray n n2 dd dd2 sl sl2 (by rfl)) ⟨ho, ho2, ⟨.ref b, H, I, rfl, q⟩⟩
/-! ### a list of ints == a list of ints -/
theorem ints_are : ∀ {k : List Int} {its : List Value}, Vals (k.map V.int) its → IntsAre its k
  | [], _, .nil => .nil
  | i :: k, _, .cons r t => by
    obtain ⟨t', rfl⟩ := r
    exact .cons i t' (ints_are t)
theorem op_eq_ints (hu : X.A.units + 64 < cLine) : OpR X (compareOp .Eq) (fun x y H Q => ∃ (a b : Addr) (ns ms : List Int), x = .ref a ∧ y = .ref b ∧ SqL X.K H a (ns.map V.int) ∧ SqL X.K H b (ms.map V.int) ∧ Q (.bl (decide (ns = ms))) H) := by
  intro pins s σ H x y v u Q I rx ry h
  obtain ⟨a, b, ns, ms, rfl, rfl, ha, hb, q⟩ := h
  cases rx
  cases ry
  obtain ⟨its, r1, p1, _⟩ := I.list ha
  obtain ⟨its2, r2, p2, _⟩ := I.list hb
  exact PySem.W.ke_eq_ints p1.isList p2.isList (ints_are r1) (ints_are r2) hu ⟨.bl _, H, I, rfl, q⟩
end
end L2

set_option Elab.async false
set_option linter.all false
set_option maxRecDepth 100000
set_option maxHeartbeats 4000000
namespace L2
open PySem PySem.Spec PyProof.Rows
/-! ### data, as deep as it goes -/
inductive D where
  | non | bl (b : Bool) | int (i : Int) | str (x : Str) | tup (l : List D) | lst (l : List D)
mutual
inductive Rep (H : Hp) : V → D → Prop
  | non : Rep H .non .non
  | bl (b : Bool) : Rep H (.bl b) (.bl b)
  | int (i : Int) : Rep H (.int i) (.int i)
  | str (x : Str) : Rep H (.str x) (.str x)
  | tup {a : Addr} {xs : List V} {ds : List D} : H a = some (.tup xs) → Reps H xs ds → Rep H (.ref a) (.tup ds)
  | lst {a : Addr} {xs : List V} {ds : List D} : H a = some (.lst xs) → Reps H xs ds → Rep H (.ref a) (.lst ds)
inductive Reps (H : Hp) : List V → List D → Prop
  | nil : Reps H [] []
  | cons {v : V} {d : D} {vs : List V} {ds : List D} : Rep H v d → Reps H vs ds → Reps H (v :: vs) (d :: ds)
end
mutual
theorem Rep.up {H H' : Hp} (s : Same H H') : ∀ {v : V} {d : D}, Rep H v d → Rep H' v d
  | _, _, .non => .non
  | _, _, .bl b => .bl b
  | _, _, .int i => .int i
  | _, _, .str x => .str x
  | _, _, .tup e r => .tup (s _ _ e) (Reps.up s r)
  | _, _, .lst e r => .lst (s _ _ e) (Reps.up s r)
theorem Reps.up {H H' : Hp} (s : Same H H') : ∀ {vs : List V} {ds : List D}, Reps H vs ds → Reps H' vs ds
  | _, _, .nil => .nil
  | _, _, .cons r t => .cons (Rep.up s r) (Reps.up s t)
end
theorem Reps.length {H : Hp} : ∀ {vs : List V} {ds : List D}, Reps H vs ds → vs.length = ds.length
  | _, _, .nil => rfl
  | _, _, .cons _ t => by rw [List.length_cons, List.length_cons, Reps.length t]
theorem Reps.get {H : Hp} : ∀ {vs : List V} {ds : List D}, Reps H vs ds → ∀ {i : Nat} {v : V}, vs[i]? = some v → ∃ d, ds[i]? = some d ∧ Rep H v d
  | _, _, .nil, i, v, e => by simp at e
  | _, _, .cons r _, 0, v, e => by simp at e; subst e; exact ⟨_, rfl, r⟩
  | _, _, .cons _ t, i + 1, v, e => by
    obtain ⟨d, h1, h2⟩ := Reps.get t (i := i) (v := v) (by simpa using e)
    exact ⟨d, by simpa using h1, h2⟩
theorem Reps.at {H : Hp} : ∀ {vs : List V} {ds : List D}, Reps H vs ds → ∀ {i : Nat} {d : D}, ds[i]? = some d → ∃ v, vs[i]? = some v ∧ Rep H v d
  | _, _, .nil, i, v, e => by simp at e
  | _, _, .cons r _, 0, v, e => by simp at e; subst e; exact ⟨_, rfl, r⟩
  | _, _, .cons _ t, i + 1, v, e => by
    obtain ⟨d, h1, h2⟩ := Reps.at t (i := i) (d := v) (by simpa using e)
    exact ⟨d, by simpa using h1, h2⟩
theorem Reps.append {H : Hp} : ∀ {vs ws : List V} {ds es : List D}, Reps H vs ds → Reps H ws es → Reps H (vs ++ ws) (ds ++ es)
  | _, _, _, _, .nil, s => s
  | _, _, _, _, .cons r t, s => .cons r (Reps.append t s)
theorem Reps.take {H : Hp} : ∀ {vs : List V} {ds : List D} (n : Nat), Reps H vs ds → Reps H (vs.take n) (ds.take n)
  | _, _, 0, _ => .nil
  | _, _, _ + 1, .nil => .nil
  | _, _, n + 1, .cons r t => .cons r (Reps.take n t)
theorem Reps.drop {H : Hp} : ∀ {vs : List V} {ds : List D} (n : Nat), Reps H vs ds → Reps H (vs.drop n) (ds.drop n)
  | _, _, 0, s => s
  | _, _, _ + 1, .nil => .nil
  | _, _, n + 1, .cons _ t => Reps.drop n t
theorem Reps.nil_iff {H : Hp} {vs : List V} {ds : List D} (r : Reps H vs ds) : vs = [] ↔ ds = [] := by cases r <;> simp
theorem same_new {H : Hp} {p : Addr} (h : H p = none) (o : HO) : Same H (upd H p o) := fun b u q => by rw [upd_ne (ne_of_none q h)]; exact q
theorem Same.seqT {K : PySem.W.Frag} {H H' : Hp} {a : Addr} {xs : List V} (e : Same H H') (h : SqT K H a xs) : SqT K H' a xs := by
  rcases h with (h | ⟨o, h⟩) | h
  · exact .inl (.inl (e _ _ h))
  · exact .inl (.inr ⟨o, e _ _ h⟩)
  · exact .inr h

/-! ### a comprehension, item by item -/
theorem comp_body {J : It} {n : Nat} {H1 : Hp} {Q : VK} {te : TE} {cs : List (Option V)} {g : Nat → V} {xs : Nat → V} (hz : n ≤ sizeLine) (hgo : ∀ i H, i < n → Same H1 H → J.go i H) (hstop : ∀ H, Same H1 H → J.stop n H) (hy : ∀ i H x H', i < n → Same H1 H → J.yld i H x H' → H' = H ∧ x = xs i)
    (step : ∀ i H' (R : VK), i < n → Same H1 H' → (∀ H3, Same H1 H3 → R (g i) H3) → te (some (xs i) :: cs) H' R) (fin : ∀ p H', Same H1 H' → H' p = none → Q (.ref p) (upd H' p (.lst ((List.range n).map g)))) :
    ∃ W : Nat → Nat → List V → Hp → Prop, (∃ m, W 0 m [] H1) ∧ ∀ i m ys H, W i m ys H → ys.length ≤ sizeLine ∧ ((J.stop i H ∧ ∀ p, H p = none → Q (.ref p) (upd H p (.lst ys))) ∨
      (J.go i H ∧ ∀ x H', J.yld i H x H' → tYes (some x :: cs) H' fun ok H2 => if ok = true then te (some x :: cs) H2 fun y H3 => ∃ m', m' < m ∧ W (i + 1) m' (ys ++ [y]) H3 else ∃ m', m' < m ∧ W (i + 1) m' ys H2)) := by
  refine ⟨fun i m ys H => m = n - i ∧ i ≤ n ∧ ys = (List.range i).map g ∧ Same H1 H, ⟨n, by simp, Nat.zero_le _, rfl, Same.refl _⟩, ?_⟩
  rintro i m ys H ⟨rfl, hi, rfl, hs⟩
  refine ⟨by rw [List.length_map, List.length_range]; omega, ?_⟩
  by_cases hlt : i < n
  · refine .inr ⟨hgo i H hlt hs, fun x H' y => ?_⟩
    obtain ⟨rfl, rfl⟩ := hy i H x H' hlt hs y
    unfold tYes
    refine iteT ?_
    refine step i _ _ hlt hs fun H3 hs3 => ⟨n - (i + 1), by omega, rfl, hlt, ?_, hs3⟩
    rw [List.range_succ, List.map_append]; rfl
  · have e : i = n := by omega
    subst e
    exact .inl ⟨hstop H hs, fun p hp => fin p H hs hp⟩
theorem comp_tup {K : PySem.W.Frag} {H1 : Hp} {a : Addr} {xs : List V} {Q : VK} {te : TE} {cs : List (Option V)} {g : Nat → V} (hT : SqT K H1 a xs) (hz : xs.length ≤ sizeLine)
    (step : ∀ i x H' (R : VK), xs[i]? = some x → Same H1 H' → (∀ H3, Same H1 H3 → R (g i) H3) → te (some x :: cs) H' R) (fin : ∀ p H', Same H1 H' → H' p = none → Q (.ref p) (upd H' p (.lst ((List.range xs.length).map g)))) :
    ∃ W : Nat → Nat → List V → Hp → Prop, (∃ m, W 0 m [] H1) ∧ ∀ i m ys H, W i m ys H → ys.length ≤ sizeLine ∧ (((Itt K a).stop i H ∧ ∀ p, H p = none → Q (.ref p) (upd H p (.lst ys))) ∨
      ((Itt K a).go i H ∧ ∀ x H', (Itt K a).yld i H x H' → tYes (some x :: cs) H' fun ok H2 => if ok = true then te (some x :: cs) H2 fun y H3 => ∃ m', m' < m ∧ W (i + 1) m' (ys ++ [y]) H3 else ∃ m', m' < m ∧ W (i + 1) m' ys H2)) := by
  have at' : ∀ i, i < xs.length → xs[i]? = some (xs.getD i .non) := fun i hi => by rw [List.getElem?_eq_getElem hi]; simp [List.getD, hi]
  refine comp_body (n := xs.length) (xs := fun i => xs.getD i .non) hz (fun i H hi hs => ⟨xs, _, hs.seqT hT, at' i hi⟩) (fun H hs => ⟨xs, hs.seqT hT, Nat.le_refl _⟩) (fun i H x H' hi hs y => ⟨y.1, ?_⟩) (fun i H' R hi hs hR => step i _ H' R (at' i hi) hs hR) fin
  have := y.2 xs (hs.seqT hT)
  rw [at' i hi] at this
  exact (Option.some.inj this).symm
theorem comp_rng {lo : Int} {n : Nat} {H1 : Hp} {Q : VK} {te : TE} {cs : List (Option V)} {g : Nat → V} (hz : n ≤ sizeLine)
    (step : ∀ i H' (R : VK), i < n → Same H1 H' → (∀ H3, Same H1 H3 → R (g i) H3) → te (some (.int (lo + i)) :: cs) H' R) (fin : ∀ p H', Same H1 H' → H' p = none → Q (.ref p) (upd H' p (.lst ((List.range n).map g)))) :
    ∃ W : Nat → Nat → List V → Hp → Prop, (∃ m, W 0 m [] H1) ∧ ∀ i m ys H, W i m ys H → ys.length ≤ sizeLine ∧ (((Itr lo n).stop i H ∧ ∀ p, H p = none → Q (.ref p) (upd H p (.lst ys))) ∨
      ((Itr lo n).go i H ∧ ∀ x H', (Itr lo n).yld i H x H' → tYes (some x :: cs) H' fun ok H2 => if ok = true then te (some x :: cs) H2 fun y H3 => ∃ m', m' < m ∧ W (i + 1) m' (ys ++ [y]) H3 else ∃ m', m' < m ∧ W (i + 1) m' ys H2)) :=
  comp_body (n := n) (xs := fun i => .int (lo + i)) hz (fun i H hi _ => hi) (fun H _ => Nat.le_refl _) (fun i H x H' _ _ y => y) step fin

/-! ### t * n -/
section
variable {X : Cx}
theorem op_repT : OpR X (binaryOp .Mult) (fun x y H Q => ∃ (p : Addr) (k : Int) (xs : List V), x = .ref p ∧ y = .int k ∧ SqT X.K H p xs ∧ xs ≠ [] ∧ 2 ≤ k ∧ k ≤ 1000 ∧ xs.length ≤ 1000 ∧ ∀ l, H l = none → Q (.ref l) (upd H l (.tup (List.replicate k.toNat xs).flatten))) := by
  intro pins s σ H x y v u Q I rx ry h
  obtain ⟨p, k, xs, rfl, rfl, hq, hne, h2, hk, hx, q⟩ := h
  cases rx
  obtain ⟨t, rfl⟩ := ry
  obtain ⟨its, rv, ⟨o, ho, hc, n, hd⟩, _⟩ := I.tuple hq
  have hl := rv.length
  have hnew : (List.replicate k.toNat its.toArray).foldl (· ++ ·) #[] = (List.replicate k.toNat its).flatten.toArray := by
    have := foldl_rep its k.toNat []
    rw [List.nil_append] at this
    exact this
  have hsz : (List.replicate k.toNat its).flatten.length ≤ 1000000 := by
    rw [len_rep]
    exact Nat.le_trans (Nat.mul_le_mul (show k.toNat ≤ 1000 by omega) (show its.length ≤ 1000 by omega)) (by decide)
  have hline : (1000000 : Nat) ≤ sizeLine := by decide
  refine mul_tup ho hc hd ?_ h2 ?_ hk ?_ ?_
  · have : its ≠ [] := fun z => hne (by cases xs with | nil => rfl | cons a r => rw [z] at hl; cases hl)
    simpa using this
  · rw [List.size_toArray]
    have := Int.mul_le_mul (show (its.length : Int) ≤ 1000 by omega) hk (by omega) (by omega)
    omega
  · rw [hnew]
    refine ⟨.ref s.heap.objs.size, _, I.laid (t' := s.toks) (o := .tup (List.replicate k.toNat xs).flatten) (fun b ob q => Heap.get?_push_of_some _ q) (Nat.le_refl _) ?_, rfl, q _ (I.hok.fresh (Nat.le_refl _))⟩
    refine ⟨?_, _, rv.rep k.toNat, IsTup.new _ _⟩
    rw [len_rep] at hsz ⊢
    rw [← hl] at hsz
    omega
  · rw [hnew, List.size_toArray]; omega
end
end L2

set_option Elab.async false
set_option linter.all false
set_option maxRecDepth 100000
set_option maxHeartbeats 1000000
namespace HT
open PySem PySem.Spec PyProof.Rows L2
section
variable {prog : Program} {w : World} {A : Around} {E : Value → Shared → Prop} {s : Shared}
/-- the whole of a tuple is the tuple -/
theorem getItem_tuple_all {t sl : Addr} {items : Array Value} {vl vu : Value} {lo hi : Option Int} {Q : Value → Shared → Prop} (ht : IsTup s.heap t items) (hs : s.heap.IsSliceOf sl vl vu .none) (pl : IsPart vl lo) (pu : IsPart vu hi)
    (h1 : sIx items.size 0 lo = 0) (h2 : sIx items.size items.size hi = items.size) (h : Q (.ref t) s) : wpAny (model prog w) A (getItem (.ref t) (.ref sl)) Q E s := by
  obtain ⟨os, hos, hcs, hds⟩ := id hs
  have hTs : s.TypeIs (.ref sl) "slice" := ⟨os, hos, hcs⟩
  unfold getItem
  try with_reducible refine wpAny_holding ?_
  first | refine wpAny_bind (wpAny_pure ?_) | skip
  refine wpAny_bind (wpAny_sequenceKey ht.typeIs (by decide) ?_)
  refine wpAny_bind (wpAny_callSpecial?_slot (name := Str.ofString "__getitem__") ht.typeIs PyProof.Rows.slot_tuple_getitem
    (wpAny_call_entry PyProof.Rows.slot_tuple_getitem ht.typeIs entry_tuple_getitem ?_ (args_tuple_getitem _ _)))
  show wpAny _ _ (Builtin.Tuple.tupleItemsOf (.ref t) >>= _) _ _ s
  refine wpAny_bind (tupleItemsOf_ ht ?_)
  refine wpAny_bind (wpAny_typeOf hTs ?_)
  rw [if_pos (by decide)]
  refine wpAny_bind (sliceApplied_gen hs pl pu ?_)
  rw [h1, h2]
  show wpAny _ _ (if ((((0 : Nat) : Int) == 0 && (1 : Int) == 1 && (items.size - 0) == items.size) = true) then _ else _) _ _ s
  rw [if_pos (by simp)]
  unfold Builtin.Tuple.tupleIsExact
  refine wpAny_bind (wpAny_bind (wpAny_typeOf ht.typeIs (wpAny_pure ?_)))
  simp only [beq_self_eq_true, if_true]
  refine wpAny_bind (wpAny_rule ?_)
  first
    | exact wpAny_pure ⟨_, rfl, wpAny_pure h⟩
    | exact wpAny_bind (wpAny_pure (wpAny_pure ⟨_, rfl, wpAny_pure h⟩))
end
end HT
namespace L2
open PySem PySem.Spec PyProof.Rows
theorem sl_tup_all {X : Cx} : SlR X (fun x lo hi H Q => ∃ (a : Addr) (xs : List V), x = .ref a ∧ SqT X.K H a xs ∧ HT.sIx xs.length 0 lo = 0 ∧ HT.sIx xs.length xs.length hi = xs.length ∧ Q (.ref a) H) := by
  intro pins s σ H x v vl vu lo hi sl Q I rx hs pl pu h
  obtain ⟨a, xs, rfl, hx, h1, h2, q⟩ := h
  cases rx
  obtain ⟨its, r, ht, hz⟩ := I.tuple hx
  have hlen : its.toArray.size = xs.length := by rw [List.size_toArray]; exact r.length.symm
  refine ⟨"tuple", _, PyProof.Rows.slot_tuple_getitem.lookup, ht.typeIs, ?_⟩
  exact HT.getItem_tuple_all ht hs pl pu (by rw [hlen]; exact h1) (by rw [hlen]; exact h2) ⟨.ref a, H, I, rfl, q⟩
end L2

set_option Elab.async false
set_option linter.all false
set_option maxRecDepth 100000
set_option maxHeartbeats 600000
namespace L2
open PySem PySem.Spec PyProof.Rows
/-! ### deep data == deep data, in -/
mutual
def D.py : D → PyData
  | .non => .none
  | .bl b => .bool b
  | .int i => .int i
  | .str x => .str x
  | .tup l => .tuple (D.pys l)
  | .lst l => .list (D.pys l)
def D.pys : List D → List PyData
  | [] => []
  | d :: l => d.py :: D.pys l
end
mutual
/-- no truths in it, texts that can be laid, so deep at most -/
def D.fit : Nat → D → Bool
  | _, .non => true
  | _, .bl _ => false
  | _, .int _ => true
  | _, .str x => PyData.strOk x
  | 0, .tup _ => false
  | n + 1, .tup l => D.fits n l
  | 0, .lst _ => false
  | n + 1, .lst l => D.fits n l
def D.fits : Nat → List D → Bool
  | _, [] => true
  | n, d :: l => d.fit n && D.fits n l
end
theorem D.fits_iff {n : Nat} : ∀ {l : List D}, D.fits n l = true ↔ ∀ d ∈ l, d.fit n = true
  | [] => by simp [D.fits]
  | d :: l => by simp [D.fits, D.fits_iff (l := l)]
mutual
theorem D.lay : ∀ {n : Nat} {d : D}, d.fit n = true → d.py.canLay0 = true ∧ d.py.depth ≤ n
  | _, .non, _ => ⟨rfl, Nat.zero_le _⟩
  | _, .bl _, h => by simp [D.fit] at h
  | _, .int _, _ => ⟨rfl, Nat.zero_le _⟩
  | _, .str x, h => ⟨by simpa [D.fit, D.py, PyData.canLay0] using h, Nat.zero_le _⟩
  | 0, .tup _, h => by simp [D.fit] at h
  | 0, .lst _, h => by simp [D.fit] at h
  | n + 1, .tup l, h => by
    have h' : D.fits n l = true := by simpa [D.fit] using h
    obtain ⟨a, b⟩ := D.lays h'
    exact ⟨by simpa [D.py, PyData.canLay0] using a, by simp only [D.py, PyData.depth]; omega⟩
  | n + 1, .lst l, h => by
    have h' : D.fits n l = true := by simpa [D.fit] using h
    obtain ⟨a, b⟩ := D.lays h'
    exact ⟨by simpa [D.py, PyData.canLay0] using a, by simp only [D.py, PyData.depth]; omega⟩
theorem D.lays : ∀ {n : Nat} {l : List D}, D.fits n l = true → PyData.canLayAll0 (D.pys l) = true ∧ PyData.depthAll (D.pys l) ≤ n
  | _, [], _ => ⟨rfl, Nat.zero_le _⟩
  | n, d :: l, h => by
    simp only [D.fits, Bool.and_eq_true] at h
    obtain ⟨a, b⟩ := D.lay h.1
    obtain ⟨c, e⟩ := D.lays h.2
    exact ⟨by simp [D.pys, PyData.canLayAll0, a, c], by simp only [D.pys, PyData.depthAll]; omega⟩
end
mutual
theorem D.eqv_iff : ∀ {n m : Nat} {d e : D}, d.fit n = true → e.fit m = true → (d.py.eqv e.py = true ↔ d = e)
  | _, _, .bl _, _, h, _ => by simp [D.fit] at h
  | _, _, _, .bl _, _, h => by simp [D.fit] at h
  | _, _, .non, .non, _, _ => by simp [D.py, PyData.eqv]
  | _, _, .non, .int _, _, _ => by simp [D.py, PyData.eqv]
  | _, _, .non, .str _, _, _ => by simp [D.py, PyData.eqv]
  | _, _, .non, .tup _, _, _ => by simp [D.py, PyData.eqv]
  | _, _, .non, .lst _, _, _ => by simp [D.py, PyData.eqv]
  | _, _, .int _, .non, _, _ => by simp [D.py, PyData.eqv]
  | _, _, .int _, .int _, _, _ => by simp [D.py, PyData.eqv]
  | _, _, .int _, .str _, _, _ => by simp [D.py, PyData.eqv]
  | _, _, .int _, .tup _, _, _ => by simp [D.py, PyData.eqv]
  | _, _, .int _, .lst _, _, _ => by simp [D.py, PyData.eqv]
  | _, _, .str _, .non, _, _ => by simp [D.py, PyData.eqv]
  | _, _, .str _, .int _, _, _ => by simp [D.py, PyData.eqv]
  | _, _, .str _, .str _, _, _ => by simp [D.py, PyData.eqv]
  | _, _, .str _, .tup _, _, _ => by simp [D.py, PyData.eqv]
  | _, _, .str _, .lst _, _, _ => by simp [D.py, PyData.eqv]
  | _, _, .tup _, .non, _, _ => by simp [D.py, PyData.eqv]
  | _, _, .tup _, .int _, _, _ => by simp [D.py, PyData.eqv]
  | _, _, .tup _, .str _, _, _ => by simp [D.py, PyData.eqv]
  | _, _, .tup _, .lst _, _, _ => by simp [D.py, PyData.eqv]
  | _, _, .lst _, .non, _, _ => by simp [D.py, PyData.eqv]
  | _, _, .lst _, .int _, _, _ => by simp [D.py, PyData.eqv]
  | _, _, .lst _, .str _, _, _ => by simp [D.py, PyData.eqv]
  | _, _, .lst _, .tup _, _, _ => by simp [D.py, PyData.eqv]
  | 0, _, .tup _, .tup _, h, _ => by simp [D.fit] at h
  | _ + 1, 0, .tup _, .tup _, _, h => by simp [D.fit] at h
  | n + 1, m + 1, .tup l, .tup k, h, h' => by
    have a : D.fits n l = true := by simpa [D.fit] using h
    have b : D.fits m k = true := by simpa [D.fit] using h'
    simp only [D.py, PyData.eqv, D.tup.injEq]
    exact D.eqvs_iff a b
  | 0, _, .lst _, .lst _, h, _ => by simp [D.fit] at h
  | _ + 1, 0, .lst _, .lst _, _, h => by simp [D.fit] at h
  | n + 1, m + 1, .lst l, .lst k, h, h' => by
    have a : D.fits n l = true := by simpa [D.fit] using h
    have b : D.fits m k = true := by simpa [D.fit] using h'
    simp only [D.py, PyData.eqv, D.lst.injEq]
    exact D.eqvs_iff a b
theorem D.eqvs_iff : ∀ {n m : Nat} {l k : List D}, D.fits n l = true → D.fits m k = true → (PyData.eqvAll (D.pys l) (D.pys k) = true ↔ l = k)
  | _, _, [], [], _, _ => by simp [D.pys, PyData.eqvAll]
  | _, _, [], _ :: _, _, _ => by simp [D.pys, PyData.eqvAll]
  | _, _, _ :: _, [], _, _ => by simp [D.pys, PyData.eqvAll]
  | n, m, d :: l, e :: k, h, h' => by
    simp only [D.fits, Bool.and_eq_true] at h h'
    simp only [D.pys, PyData.eqvAll, Bool.and_eq_true, List.cons.injEq]
    rw [D.eqv_iff h.1 h'.1, D.eqvs_iff h.2 h'.2]
end
section
variable {X : Cx}
mutual
theorem Inv.reads {pins : List (Addr × Obj)} {σ : St} {H : Hp} {s : Shared} (I : Inv X pins σ H s) : ∀ {v : V} {d : D}, Rep H v d → ∀ {u : Value}, RelV v u → ∃ as, Reads s.heap u d.py as
  | _, _, .non, _, r => by cases r; exact ⟨_, .none⟩
  | _, _, .bl b, _, r => by cases r; exact ⟨_, .bool b⟩
  | _, _, .int i, _, r => by obtain ⟨t, rfl⟩ := r; exact ⟨_, .int i t⟩
  | _, _, .str x, _, r => by obtain ⟨t, rfl⟩ := r; exact ⟨_, .str x t⟩
  | _, _, .tup (a := a) e rs, _, r => by
    cases r
    obtain ⟨its, rv, p, _⟩ := I.tuple (SqT.of (K := X.K) e)
    obtain ⟨o, ho, hc, n, hd⟩ := id p
    obtain ⟨as, ra⟩ := Inv.readss I rs rv
    exact ⟨_, .tuple ho hc hd (by simpa using ra)⟩
  | _, _, .lst (a := a) e rs, _, r => by
    cases r
    obtain ⟨its, rv, p, _⟩ := I.list (SqL.of (K := X.K) e)
    obtain ⟨o, ho, hc, n, hd⟩ := id p.isList
    obtain ⟨as, ra⟩ := Inv.readss I rs rv
    exact ⟨_, .list ho hc hd (by simpa using ra)⟩
theorem Inv.readss {pins : List (Addr × Obj)} {σ : St} {H : Hp} {s : Shared} (I : Inv X pins σ H s) : ∀ {vs : List V} {ds : List D}, Reps H vs ds → ∀ {us : List Value}, Vals vs us → ∃ as, ReadsAll s.heap us (D.pys ds) as
  | _, _, .nil, _, r => by cases r; exact ⟨_, .nil⟩
  | _, _, .cons h t, _, r => by
    cases r with
    | cons r1 r2 =>
      obtain ⟨as, a⟩ := Inv.reads I h r1
      obtain ⟨bs, b⟩ := Inv.readss I t r2
      exact ⟨_, .cons a b⟩
end
def rDeq : R2 := fun x y H Q => ∃ (d e : D), Rep H x d ∧ Rep H y e ∧ d.fit 9 = true ∧ e.fit 9 = true ∧ ∀ b : Bool, (b = true ↔ d = e) → Q (.bl b) H
def rDne : R2 := fun x y H Q => ∃ (d e : D), Rep H x d ∧ Rep H y e ∧ d.fit 9 = true ∧ e.fit 9 = true ∧ ∀ b : Bool, (b = true ↔ d ≠ e) → Q (.bl b) H
theorem op_deq (hu : X.A.units + 64 < cLine) : OpR X (compareOp .Eq) rDeq := by
  intro pins s σ H x y v u Q I rx ry h
  obtain ⟨d, e, hd, he, fd, fe, q⟩ := h
  obtain ⟨as, ra⟩ := I.reads hd rx
  obtain ⟨bs, rb⟩ := I.reads he ry
  obtain ⟨l1, d1⟩ := D.lay fd
  obtain ⟨l2, d2⟩ := D.lay fe
  exact SeqAt.compareEq_reads ra rb l1 l2 (by omega) ⟨.bl _, H, I, rfl, q _ (D.eqv_iff fd fe)⟩
theorem op_dne (hu : X.A.units + 64 < cLine) : OpR X (compareOp .NotEq) rDne := by
  intro pins s σ H x y v u Q I rx ry h
  obtain ⟨d, e, hd, he, fd, fe, q⟩ := h
  obtain ⟨as, ra⟩ := I.reads hd rx
  obtain ⟨bs, rb⟩ := I.reads he ry
  obtain ⟨l1, d1⟩ := D.lay fd
  obtain ⟨l2, d2⟩ := D.lay fe
  refine SeqAt.compareNe_reads ra rb l1 l2 (by omega) ⟨.bl _, H, I, rfl, q _ ?_⟩
  have := D.eqv_iff fd fe
  cases h : d.py.eqv e.py <;> simp [h] at this ⊢ <;> exact this
/-- x in a list or a tuple -/
def rDin (neg : Bool) : R2 := fun x y H Q => ∃ (d : D) (ds : List D), Rep H x d ∧ (Rep H y (.lst ds) ∨ Rep H y (.tup ds)) ∧ d.fit 8 = true ∧ D.fits 8 ds = true ∧ ∀ b : Bool, (b = true ↔ (if neg then d ∉ ds else d ∈ ds)) → Q (.bl b) H
theorem any_items {h : Heap} {s : Shared} (hs : s.heap = h) {its : List Value} {ds : List D} {as : List Addr} {d : D} (ra : ReadsAll h its (D.pys ds) as) (f : D.fits 8 ds = true) (fd : d.fit 8 = true) : (its.toArray.any fun y => (SeqAt.readOf s.heap y).eqv d.py) = true ↔ d ∈ ds := by
  subst hs
  rw [SeqAt.any_by_data (vs := its.toArray) (xs := D.pys ds) (as := as) (by simpa using ra) (D.lays f).1]
  have : ∀ {l : List D}, D.fits 8 l = true → (((D.pys l).any fun y => y.eqv d.py) = true ↔ d ∈ l) := by
    intro l
    induction l with
    | nil => intro _; simp [D.pys]
    | cons e l ih =>
      intro hf
      simp only [D.fits, Bool.and_eq_true] at hf
      simp only [D.pys, List.any_cons, Bool.or_eq_true, List.mem_cons]
      rw [D.eqv_iff hf.1 fd, ih hf.2]
      constructor
      · rintro (rfl | h)
        · exact .inl rfl
        · exact .inr h
      · rintro (rfl | h)
        · exact .inl rfl
        · exact .inr h
  exact this f
theorem read_eq {h : Heap} {v : Value} {d : PyData} {as : List Addr} (hl : d.canLay0 = true) (r : Reads h v d as) : SeqAt.readOf h v = d := by
  have hx : ∃ d as, Reads h v d as := ⟨d, as, r⟩
  unfold SeqAt.readOf
  rw [dif_pos hx]
  obtain ⟨bs, rb⟩ := hx.choose_spec
  exact (SeqAt.Reads.unique _ _ _ _ _ hl r rb).symm
theorem items_eq {A : Around} {s : Shared} {x : Value} {d : D} {bs : List Addr} (hu : A.units + 64 < cLine) (rx : Reads s.heap x d.py bs) (fd : d.fit 8 = true) : ∀ {its : List Value} {ds : List D} {as : List Addr}, ReadsAll s.heap its (D.pys ds) as → D.fits 8 ds = true → ∀ y, y ∈ its.toArray → SeqAt.EqAt A.in1 s y x ((SeqAt.readOf s.heap y).eqv d.py)
  | [], [], _, _, _, y, hy => by simp at hy
  | [], _ :: _, _, h, _, _, _ => by cases h
  | _ :: _, [], _, h, _, _, _ => by cases h
  | v :: its, e :: ds, _, h, f, y, hy => by
    simp only [D.fits, Bool.and_eq_true] at f
    cases h with
    | cons h1 h2 =>
      simp at hy
      rcases hy with rfl | hy
      · rw [read_eq (D.lay f.1).1 h1]
        refine SeqAt.eqAt_reads _ _ _ _ _ _ _ _ h1 rx (D.lay f.1).1 (D.lay fd).1 ?_
        have := (D.lay f.1).2
        show A.units + 1 + _ < cLine
        omega
      · exact items_eq hu rx fd h2 f.2 y (by simpa using hy)
theorem op_din (hu : X.A.units + 64 < cLine) : OpR X (compareOp .In) (rDin false) := by
  intro pins s σ H x y v u Q I rx ry h
  obtain ⟨d, ds, hd, hy, fd, fs, q⟩ := h
  obtain ⟨bs, rb⟩ := I.reads hd rx
  rcases hy with hy | hy
  · cases hy with
    | @lst a xs _ e rs =>
      cases ry
      obtain ⟨its, rv, p, _⟩ := I.list (SqL.of (K := X.K) e)
      obtain ⟨as, ra⟩ := I.readss rs rv
      exact SeqAt.in_listAt _ p.isList (items_eq hu rb fd ra fs) ⟨.bl _, H, I, rfl, q _ (any_items rfl ra fs fd)⟩
  · cases hy with
    | @tup a xs _ e rs =>
      cases ry
      obtain ⟨its, rv, p, _⟩ := I.tuple (SqT.of (K := X.K) e)
      obtain ⟨as, ra⟩ := I.readss rs rv
      exact SeqAt.in_tupleAt _ p (items_eq hu rb fd ra fs) ⟨.bl _, H, I, rfl, q _ (any_items rfl ra fs fd)⟩
theorem op_dnotin (hu : X.A.units + 64 < cLine) : OpR X (compareOp .NotIn) (rDin true) := by
  intro pins s σ H x y v u Q I rx ry h
  obtain ⟨d, ds, hd, hy, fd, fs, q⟩ := h
  obtain ⟨bs, rb⟩ := I.reads hd rx
  have nn : ∀ {c : Bool} {p : Prop}, (c = true ↔ p) → ((!c) = true ↔ ¬ p) := by intro c p h; cases c <;> simp at h ⊢ <;> exact h
  rcases hy with hy | hy
  · cases hy with
    | @lst a xs _ e rs =>
      cases ry
      obtain ⟨its, rv, p, _⟩ := I.list (SqL.of (K := X.K) e)
      obtain ⟨as, ra⟩ := I.readss rs rv
      exact SeqAt.notIn_listAt _ p.isList (items_eq hu rb fd ra fs) ⟨.bl _, H, I, rfl, q _ (nn (any_items rfl ra fs fd))⟩
  · cases hy with
    | @tup a xs _ e rs =>
      cases ry
      obtain ⟨its, rv, p, _⟩ := I.tuple (SqT.of (K := X.K) e)
      obtain ⟨as, ra⟩ := I.readss rs rv
      exact SeqAt.notIn_tupleAt _ p (items_eq hu rb fd ra fs) ⟨.bl _, H, I, rfl, q _ (nn (any_items rfl ra fs fd))⟩
end
end L2

set_option Elab.async false
set_option linter.all false
set_option maxRecDepth 100000
set_option maxHeartbeats 600000
namespace L2
open PySem PySem.Spec PyProof.Rows
abbrev CompW (J : It) (tt : TT) (te : TE) (cs : List (Option V)) (H1 : Hp) (Q : VK) : Prop :=
    ∃ W : Nat → Nat → List V → Hp → Prop, (∃ m, W 0 m [] H1) ∧ ∀ i m ys H, W i m ys H → ys.length ≤ sizeLine ∧ ((J.stop i H ∧ ∀ p, H p = none → Q (.ref p) (upd H p (.lst ys))) ∨
      (J.go i H ∧ ∀ x H', J.yld i H x H' → tt (some x :: cs) H' fun ok H2 => if ok = true then te (some x :: cs) H2 fun y H3 => ∃ m', m' < m ∧ W (i + 1) m' (ys ++ [y]) H3 else ∃ m', m' < m ∧ W (i + 1) m' ys H2))
/-- a comprehension by an invariant of its turns -/
theorem comp_gen {J : It} {n : Nat} {H1 : Hp} {Q : VK} {te : TE} {cs : List (Option V)} (Jv : Nat → List V → Hp → Prop) (h0 : Jv 0 [] H1) (hz : ∀ i ys H, Jv i ys H → ys.length ≤ sizeLine) (hgo : ∀ i ys H, i < n → Jv i ys H → J.go i H) (hstop : ∀ ys H, Jv n ys H → J.stop n H)
    (step : ∀ i ys H x H' (R : VK), i < n → Jv i ys H → J.yld i H x H' → (∀ y H3, Jv (i + 1) (ys ++ [y]) H3 → R y H3) → te (some x :: cs) H' R) (fin : ∀ ys H p, Jv n ys H → H p = none → Q (.ref p) (upd H p (.lst ys))) :
    CompW J tYes te cs H1 Q := by
  refine ⟨fun i m ys H => i ≤ n ∧ m = n - i ∧ Jv i ys H, ⟨n, Nat.zero_le _, rfl, h0⟩, ?_⟩
  rintro i m ys H ⟨hi, rfl, hj⟩
  refine ⟨hz i ys H hj, ?_⟩
  by_cases hlt : i < n
  · refine .inr ⟨hgo i ys H hlt hj, fun x H' y => ?_⟩
    unfold tYes
    refine iteT ?_
    exact step i ys H x H' _ hlt hj y fun y H3 j3 => ⟨n - (i + 1), by omega, hlt, rfl, j3⟩
  · have e : i = n := by omega
    subst e
    exact .inl ⟨hstop ys H hj, fun p hp => fin ys H p hj hp⟩
theorem comp_genT {K : PySem.W.Frag} {a : Addr} {xs : List V} {H1 : Hp} {Q : VK} {te : TE} {cs : List (Option V)} (e : H1 a = some (.tup xs)) (Jv : Nat → List V → Hp → Prop) (h0 : Jv 0 [] H1) (hz : ∀ i ys H, Jv i ys H → ys.length ≤ sizeLine) (hs : ∀ i ys H, Jv i ys H → Same H1 H)
    (step : ∀ i ys x H' (R : VK), xs[i]? = some x → Jv i ys H' → (∀ y H3, Jv (i + 1) (ys ++ [y]) H3 → R y H3) → te (some x :: cs) H' R) (fin : ∀ ys H p, Jv xs.length ys H → H p = none → Q (.ref p) (upd H p (.lst ys))) :
    CompW (Itt K a) tYes te cs H1 Q :=
  comp_gen (n := xs.length) Jv h0 hz (fun i ys H hi j => ⟨xs, xs[i], SqT.of (hs _ _ _ j _ _ e), List.getElem?_eq_getElem hi⟩) (fun ys H j => ⟨xs, SqT.of (hs _ _ _ j _ _ e), Nat.le_refl _⟩)
    (fun i ys H x H' R hi j y hR => by
      obtain ⟨rfl, hy⟩ := y
      exact step i ys x _ R (hy xs (SqT.of (hs _ _ _ j _ _ e))) j hR) fin
theorem comp_genL {K : PySem.W.Frag} {a : Addr} {xs : List V} {H1 : Hp} {Q : VK} {te : TE} {cs : List (Option V)} (e : SqL K H1 a xs) (Jv : Nat → List V → Hp → Prop) (h0 : Jv 0 [] H1) (hz : ∀ i ys H, Jv i ys H → ys.length ≤ sizeLine) (hs : ∀ i ys H, Jv i ys H → Same H1 H)
    (step : ∀ i ys x H' (R : VK), xs[i]? = some x → Jv i ys H' → (∀ y H3, Jv (i + 1) (ys ++ [y]) H3 → R y H3) → te (some x :: cs) H' R) (fin : ∀ ys H p, Jv xs.length ys H → H p = none → Q (.ref p) (upd H p (.lst ys))) :
    CompW (Itl K a) tYes te cs H1 Q :=
  comp_gen (n := xs.length) Jv h0 hz (fun i ys H hi j => ⟨xs, xs[i], (hs _ _ _ j).seq e, List.getElem?_eq_getElem hi⟩) (fun ys H j => ⟨xs, (hs _ _ _ j).seq e, Nat.le_refl _⟩)
    (fun i ys H x H' R hi j y hR => by
      obtain ⟨rfl, hy⟩ := y
      exact step i ys x _ R (hy xs ((hs _ _ _ j).seq e)) j hR) fin
theorem comp_genR {lo : Int} {n : Nat} {H1 : Hp} {Q : VK} {te : TE} {cs : List (Option V)} (Jv : Nat → List V → Hp → Prop) (h0 : Jv 0 [] H1) (hz : ∀ i ys H, Jv i ys H → ys.length ≤ sizeLine)
    (step : ∀ i ys H' (R : VK), i < n → Jv i ys H' → (∀ y H3, Jv (i + 1) (ys ++ [y]) H3 → R y H3) → te (some (.int (lo + i)) :: cs) H' R) (fin : ∀ ys H p, Jv n ys H → H p = none → Q (.ref p) (upd H p (.lst ys))) :
    CompW (Itr lo n) tYes te cs H1 Q :=
  comp_gen (n := n) Jv h0 hz (fun i ys H hi j => hi) (fun ys H j => Nat.le_refl _)
    (fun i ys H x H' R hi j y hR => by
      obtain ⟨rfl, rfl⟩ := y
      exact step i ys _ R hi j hR) fin
section
variable {σ : St} {H : Hp} {K : PySem.W.Frag} {te : TE} {tt : TT} {caps : List (Str × Nat)} {Q : VK}
theorem tcons_i {ta : TE} {tr : TA} {R : List V → Hp → Prop} (h : ta σ H fun x H1 => tr σ H1 fun xs H2 => R (x :: xs) H2) : tCons ta tr σ H R := h
theorem tseq_i {t u : TS} {D : Ends} (h : t { D with nx := u D } σ H) : tSeq t u D σ H := h
theorem tasg_i {g : TG} {D : Ends} (h : te σ H fun x H1 => g x σ H1 D.nx) : tAsg te g D σ H := h
theorem tcb_i {r : List V → Hp → VK → Prop} {t : TA} (h : t σ H fun vs H1 => r vs H1 Q) : tCB r t σ H Q := h
theorem comp_teR {i : Nat} {n : Int} (hσ : σ[i]? = some (some (.int n))) (h0 : 0 ≤ n) (h1 : n ≤ 1000) (h : CompW (Itr 0 n.toNat) tt te (caps.map fun p => (σ[p.2]?).join) H Q) : tComp (iRng1 (tCons (tVar i) tNil)) tt te caps σ H Q :=
  ⟨_, hσ, n, rfl, by omega, by omega, h⟩
theorem comp_teT {i : Nat} {a : Addr} {xs : List V} (hσ : σ[i]? = some (some (.ref a))) (e : H a = some (.tup xs)) (h : CompW (Itt K a) tt te (caps.map fun p => (σ[p.2]?).join) H Q) : tComp (iTup K (tVar i)) tt te caps σ H Q :=
  ⟨_, hσ, a, rfl, ⟨_, SqT.of e⟩, h⟩
theorem comp_teL {i : Nat} {a : Addr} {xs : List V} (hσ : σ[i]? = some (some (.ref a))) (e : H a = some (.lst xs)) (h : CompW (Itl K a) tt te (caps.map fun p => (σ[p.2]?).join) H Q) : tComp (iList K (tVar i)) tt te caps σ H Q :=
  ⟨_, hσ, a, rfl, ⟨_, SqL.of e⟩, h⟩
end
/-- numbers, None, texts -/
def flatD' : V → D | .int i => .int i | .str x => .str x | _ => .non
def Num (x : V) : Prop := x = .non ∨ ∃ i : Int, x = .int i
theorem num_rep {H : Hp} {x : V} (h : Num x) : Rep H x (flatD' x) ∧ (flatD' x).fit 0 = true := by
  rcases h with rfl | ⟨i, rfl⟩
  · exact ⟨.non, rfl⟩
  · exact ⟨.int i, rfl⟩
def rowDn (r : List V) : D := .tup (r.map flatD')
theorem nums_reps {H : Hp} : ∀ {r : List V}, (∀ x ∈ r, Num x) → Reps H r (r.map flatD') ∧ D.fits 0 (r.map flatD') = true
  | [], _ => ⟨.nil, rfl⟩
  | x :: r, h => by
    obtain ⟨a, b⟩ := nums_reps (H := H) (r := r) fun y hy => h y (List.mem_cons_of_mem _ hy)
    obtain ⟨c, d⟩ := num_rep (H := H) (h x List.mem_cons_self)
    exact ⟨.cons c a, by simp [D.fits, b, d]⟩
mutual
theorem D.fit_mono : ∀ {n m : Nat} {d : D}, n ≤ m → d.fit n = true → d.fit m = true
  | _, _, .non, _, _ => rfl
  | _, _, .bl _, _, h => by simp [D.fit] at h
  | _, _, .int _, _, _ => rfl
  | _, _, .str _, _, h => by simpa [D.fit] using h
  | 0, _, .tup _, _, h => by simp [D.fit] at h
  | 0, _, .lst _, _, h => by simp [D.fit] at h
  | n + 1, 0, .tup _, k, _ => absurd k (by omega)
  | n + 1, 0, .lst _, k, _ => absurd k (by omega)
  | n + 1, m + 1, .tup l, k, h => by simp only [D.fit] at h ⊢; exact D.fits_mono (by omega) h
  | n + 1, m + 1, .lst l, k, h => by simp only [D.fit] at h ⊢; exact D.fits_mono (by omega) h
theorem D.fits_mono : ∀ {n m : Nat} {l : List D}, n ≤ m → D.fits n l = true → D.fits m l = true
  | _, _, [], _, _ => rfl
  | n, m, d :: l, k, h => by
    simp only [D.fits, Bool.and_eq_true] at h ⊢
    exact ⟨D.fit_mono k h.1, D.fits_mono k h.2⟩
end
theorem rows_fit : ∀ {rs : List (List V)}, (∀ r ∈ rs, ∀ x ∈ r, Num x) → D.fits 1 (rs.map rowDn) = true
  | [], _ => rfl
  | r :: rs, h => by
    have a := rows_fit (rs := rs) fun y hy => h y (List.mem_cons_of_mem _ hy)
    have b := (nums_reps (H := fun _ => none) (h r List.mem_cons_self)).2
    simp [D.fits, a, rowDn, D.fit, b]
end L2

set_option Elab.async false
set_option linter.all false
set_option maxRecDepth 100000
set_option maxHeartbeats 1000000
namespace L2
open PySem PySem.Spec PyProof.Rows

/-- an exception of a callee, as it lies behind the call: it flies over the callers' frames above a heap B that has all tracked objects, and all old ones that are untracked and no frames -/
def CXE (P : Program) (w : World) : CXT := fun outer H s E e s' => ∃ (a : Addr) (cls a0 : Value) (H' : Hp) (B : Heap), e = .ref a ∧ Heap.FlyingW B outer a cls a0 s'.heap ∧
  (∀ b o, s'.heap.get? b = some o → H' b ≠ none → B.get? b = some o) ∧ (∀ b o, s.heap.get? b = some o → H b = none → b ∉ frs outer → B.get? b = some o) ∧
  (∀ b o, s.heap.get? b = some o → b ∉ frs outer → ∃ o', B.get? b = some o') ∧
  s'.os = s.os ∧ AllBare s'.gens ∧ Un (frs outer) [] H H' s.heap s'.heap ∧ HOk P w H' s'.heap ∧ E cls none H'

theorem ObjOk.has {P : Program} {w : World} {H : Hp} {h : Heap} {a : Addr} {o : HO} (x : ObjOk P w H h a o) : ∃ ob, h.get? a = some ob := by
  cases o with
  | lst xs => obtain ⟨_, _, _, _, e⟩ := x; exact ⟨_, e⟩
  | tup xs => obtain ⟨_, _, _, ob, e, _⟩ := x; exact ⟨_, e⟩
  | dK kvs => obtain ⟨_, _, _, _, o, _, _, e, _⟩ := x; exact ⟨_, e⟩
  | dT kvs => obtain ⟨_, _, _, _, o, _, _, e, _⟩ := x; exact ⟨_, e⟩
  | set S n => obtain ⟨o, _, _, _, e, _⟩ := x; exact ⟨_, e⟩
  | ins C dx fs => obtain ⟨_, _, _, e, _⟩ := x; exact ⟨_, e⟩
  | own y => exact x
  | xd fs => obtain ⟨_, ⟨_, _, _, e, _⟩, _⟩ := x; exact ⟨_, e⟩
  | rng lo hi => obtain ⟨_, _, _, e⟩ := x; exact ⟨_, e⟩
  | frz ob u => obtain ⟨e, _⟩ := x; exact ⟨_, e⟩
  | tbl ps => exact ⟨_, (show h.get? a = some _ from x)⟩
  | met f y => exact ⟨_, (show h.get? a = some _ from x)⟩
  | ext φ => obtain ⟨_, e, _⟩ := x; exact e
/-- the tracked objects are kept -/
theorem HOk.same {P : Program} {w : World} {H : Hp} {h h' : Heap} (x : HOk P w H h) (k : ∀ b u, h.get? b = some u → H b ≠ none → h'.get? b = some u) : HOk P w H h' := fun a o e =>
  (x a o e).stay (fun b u hb q => k b u q (hb.elim (fun z => by rw [z, e]; exact Option.some_ne_none _) (fun z => by rw [z]; exact Option.some_ne_none _))) (fun _ q => q) fun _ _ q => q

section
variable {X : Cx} {pins : List (Addr × Obj)} {σ : St} {H : Hp} {s : Shared} {M : Model}
theorem frs_hide (l : List Env) : ∀ env ∈ l, ∀ b, env.frame = some b → b ∈ frs l := fun env he b hb => List.mem_filterMap.mpr ⟨env, he, hb⟩
/-- a new exception leaves the frame -/
theorem leave_made {h' : Heap} {e : Addr} {cls : Value} {vs : List Value} {E : XK} {Er : Value → Shared → Prop} (I : Inv X pins σ H s) (hx : X.ex = []) (hs : X.stack = X.env :: X.outer) (hf : X.env.frame = some X.env.locals) (mk : Heap.MadeExcOf s.heap h' e cls vs) (q : E cls none H) :
    wpAny M X.A (leaving X.env (.ref e)) (fun _ s'' => CXE X.prog X.w X.outer X.H₀ X.s₀ E (.ref e) s'') Er { s with heap := h' } := by
  have hfr : X.A.frames = some (X.env :: X.outer) := by rw [← hs]; exact I.ok.frames
  have hst : s.heap.FunFrames X.base (X.env :: X.outer) := by rw [← hs]; exact I.stack
  refine wpAny_leaves_madeW (base := PySem.W.hideAll s.heap (frs (X.env :: X.outer))) hfr hf (fun b o z => PySem.W.of_hideAll _ z) (PySem.W.funFrames_hide hst (frs_hide _)) mk fun h2 t fl tup _ up => ?_
  have inB : ∀ b o, s.heap.get? b = some o → b ∉ frs (X.env :: X.outer) → (PySem.W.hideAll s.heap (frs (X.env :: X.outer))).get? b = some o := fun b o z n => PySem.W.hideAll_get _ z n
  have sub : ∀ b, b ∈ frs (X.env :: X.outer) → b = X.env.locals ∨ b ∈ X.fs := fun b hb => by
    rw [← hs] at hb
    exact List.mem_cons.mp (I.stkSub b hb)
  have fre : ∀ b, b ∈ frs (X.env :: X.outer) → H b = none := fun b hb => by rw [← hs] at hb; exact I.stkFree b hb
  have old : ∀ b o, X.s₀.heap.get? b = some o → b ∉ frs X.outer → b ∉ frs (X.env :: X.outer) := fun b o z n hb => by
    rcases sub b hb with r | r
    · exact absurd (Nat.lt_of_lt_of_le (Heap.lt_size z) I.ok.above) (by rw [r]; exact Nat.lt_irrefl _)
    · exact n r
  have nx : ∀ b : Addr, b ∉ X.ex := fun b z => by rw [hx] at z; cases z
  have trk : ∀ b o, s.heap.get? b = some o → H b ≠ none → h2.get? b = some o := fun b o z n => fl.1 b o (inB b o z fun hb => n (fre b hb))
  have hok2 : HOk X.prog X.w H h2 := I.hok.same trk
  have slt : ∀ b o, s.heap.get? b = some o → b ∈ frs X.stack → ∃ sl, h2.get? b = some { o with slots := sl } := fun b o z hb => by
    obtain ⟨_, o', z', hd⟩ := I.stack.mem hb
    rw [z] at z'
    cases z'
    exact up b o (mk.keeps b o z) hd
  have un2 : Un (frs X.stack) [] H H s.heap h2 := ⟨fun b o z n hb _ => fl.1 b o (inB b o z (by rw [← hs]; exact hb)), fun b o z n hb _ => slt b o z hb, fun b o z n _ => n,
    fun b o z _ => by
      by_cases hb : b ∈ frs X.stack
      · obtain ⟨sl, r⟩ := slt b o z hb
        exact ⟨_, r⟩
      · exact ⟨o, fl.1 b o (inB b o z (by rw [← hs]; exact hb))⟩,
    fun _ _ z => z, fun _ _ _ z => z, fun _ ps z => ⟨#[], by rw [z, Array.append_empty]⟩⟩
  have J := I.call (g' := s.gens) (t' := s.toks) (d' := s.drawn) (ch := []) un2 hok2 I.bare (fun b z => absurd z (by simp))
  refine ⟨e, cls, .ref t, H, _, rfl, fl, fun b o z n => ?_, fun b o z n hb => ?_, fun b o z hb => ?_, J.os, J.bare, ?_, J.hok, q⟩
  · cases k : H b with
    | none => exact absurd k n
    | some u =>
      obtain ⟨o', z'⟩ := (I.hok b u k).has
      have := trk b o' z' n
      rw [show h2.get? b = some o from z] at this
      cases this
      exact inB b o z' fun hb => n (fre b hb)
  · exact inB b o (I.base.keep b o z n hb (nx b)) (old b o z hb)
  · obtain ⟨o', z'⟩ := I.base.there b o z (nx b)
    exact ⟨o', inB b o' z' (old b o z hb)⟩
  · have := J.base
    rw [hx] at this
    exact this
/-- an exception of a callee leaves the frame -/
theorem leave_on {e : Value} {s' : Shared} {E : XK} {Er : Value → Shared → Prop} (I : Inv X pins σ H s) (hx : X.ex = []) (hs : X.stack = X.env :: X.outer) (hf : X.env.frame = some X.env.locals) (q : CXE X.prog X.w X.stack H s E e s') :
    wpAny M X.A (leaving X.env e) (fun _ s'' => CXE X.prog X.w X.outer X.H₀ X.s₀ E e s'') Er s' := by
  have hfr : X.A.frames = some (X.env :: X.outer) := by rw [← hs]; exact I.ok.frames
  obtain ⟨a, cls, a0, H', B, rfl, fl, c1, c2, c3, os, bare, un, hok, q⟩ := q
  have fl' : Heap.FlyingW B (X.env :: X.outer) a cls a0 s'.heap := by rw [← hs]; exact fl
  refine wpAny_leaves_onW hfr hf fl' fun h2 fl2 up => ?_
  have sub : ∀ b, b ∈ frs X.stack → b = X.env.locals ∨ b ∈ X.fs := fun b hb => List.mem_cons.mp (I.stkSub b hb)
  have old : ∀ b o, X.s₀.heap.get? b = some o → b ∉ frs X.outer → b ∉ frs X.stack := fun b o z n hb => by
    rcases sub b hb with r | r
    · exact absurd (Nat.lt_of_lt_of_le (Heap.lt_size z) I.ok.above) (by rw [r]; exact Nat.lt_irrefl _)
    · exact n r
  have nx : ∀ b : Addr, b ∉ X.ex := fun b z => by rw [hx] at z; cases z
  have trk : ∀ b o, s'.heap.get? b = some o → H' b ≠ none → h2.get? b = some o := fun b o z n => fl2.1 b o (c1 b o z n)
  have hok2 : HOk X.prog X.w H' h2 := hok.same trk
  have slt : ∀ b o, s.heap.get? b = some o → H b = none → b ∈ frs X.stack → ∃ sl, h2.get? b = some { o with slots := sl } := fun b o z n hb => by
    obtain ⟨_, o', z', hd⟩ := I.stack.mem hb
    rw [z] at z'
    cases z'
    obtain ⟨sl, r⟩ := un.slot b o z n hb (by simp)
    obtain ⟨sl', r'⟩ := up b ({ o with slots := sl } : Obj) r hd
    exact ⟨sl', r'⟩
  have un2 : Un (frs X.stack) [] H H' s.heap h2 := ⟨fun b o z n hb _ => fl2.1 b o (c2 b o z n hb), fun b o z n hb _ => slt b o z n hb, un.free,
    fun b o z _ => by
      by_cases hb : b ∈ frs X.stack
      · obtain ⟨sl, r⟩ := slt b o z (I.stkFree b hb) hb
        exact ⟨_, r⟩
      · obtain ⟨o', r⟩ := c3 b o z hb
        exact ⟨o', fl2.1 b o' r⟩,
    un.tups, un.frzs, un.tbls⟩
  have J := I.call (g' := s'.gens) (t' := s'.toks) (d' := s'.drawn) (ch := []) un2 hok2 bare (fun b z => absurd z (by simp))
  refine ⟨a, cls, a0, H', B, rfl, fl2, fun b o z n => ?_, fun b o z n hb => ?_, fun b o z hb => ?_, os.trans I.os, bare, ?_, J.hok, q⟩
  · cases k : H' b with
    | none => exact absurd k n
    | some u =>
      obtain ⟨o', z'⟩ := (hok b u k).has
      have := trk b o' z' n
      rw [show h2.get? b = some o from z] at this
      cases this
      exact c1 b o z' n
  · exact c2 b o (I.base.keep b o z n hb (nx b)) (I.base.free b o z n (nx b)) (old b o z hb)
  · obtain ⟨o', z'⟩ := I.base.there b o z (nx b)
    exact c3 b o' z' (old b o z hb)
  · have := J.base
    rw [hx] at this
    exact this
end

/-- a callee's exception passes on through a def's body -/
theorem passE {P : Program} {w : World} {K : PySem.W.Frag} {mg : Str → Option Value} {base : Heap} {N : List Str} {qual : Str} {scope : Scope} {f : Addr} {cd : Value} {A : Around} {outer : List Env} {s : Shared} {H : Hp} {E : XK} :
    Passes (CXE P w) (cxOf (CXE P w) P w K mg base N qual scope f cd A outer s H E) E := fun pins σ H1 s1 e s' I q =>
  leave_on (X := cxOf (CXE P w) P w K mg base N qual scope f cd A outer s H E) I rfl rfl rfl q

/-- the object of an own class of exceptions, in any heap that has the texts' objects -/
theorem exc_obj {K : PySem.W.Frag} {h : Heap} {C : Addr} {bmB : List Value} {nid : String} (k : K.In h) (z : PySem.W.excIn K C bmB nid = true) :
    ∃ bm N nm qn bs hd sn sub ab col dd c0 c1 c2 c3 c5 mN, h.get? C = some (excClassObj nm qn C N bs bm hd sn sub ab col dd c0 c1 c2 c3 c5 nid) ∧ h.Ns N mN ∧ mN "__init__" = none ∧ OwnTail h bmB bm := by
  unfold PySem.W.excIn at z
  split at z
  case h_2 => cases z
  case h_1 dd cd sl ho =>
    split at z
    case h_2 => cases z
    case h_1 D bm c0 c1 c2 c3 n c5 e1 e2 =>
      simp only [Bool.and_eq_true, beq_iff_eq, Bool.not_eq_true'] at z
      obtain ⟨⟨⟨⟨⟨z1, z2⟩, z3⟩, z4⟩, z5⟩, z6⟩ := z
      subst z1 z2
      have hsl : sl = #[c0, c1, c2, c3, some (.builtin n), c5] := by
        cases sl with
        | mk l => exact congrArg Array.mk e2
      have hcd : cd = { cd with mro := .ref D :: bm, hasDel := false } := by
        cases cd
        simp only at e1 z3
        simp only [e1, z3]
      rw [hsl, hcd] at ho
      exact ⟨bm, cd.ns, cd.name, _, cd.bases, _, _, _, _, _, dd, c0, c1, c2, c3, c5, _, k _ _ ho, .of_isNs (PySem.W.isNs_of_in k z5), PySem.W.nsMap_none_of_in k z5 z6, PySem.W.tail_of_in k z4⟩

/-- raise C(e, ..), C an own class -/
def tRaise (C : Addr) (E : XK) (t : TA) : TS := fun _ σ H => t σ H fun vs H1 => vs.length ≤ sizeLine ∧ E (.ref C) none H1
/-- what an exception made here must reach -/
def Raises (X : Cx) (E : XK) : Prop := ∀ (C : Addr) (pins : List (Addr × Obj)) (σ : St) (H : Hp) (s : Shared) (e : Addr) (h' : Heap) (vs : List Value), Inv X pins σ H s → Heap.MadeExcOf s.heap h' e (.ref C) vs → E (.ref C) none H → X.xe (.ref e) { s with heap := h' }
theorem raisesE {P : Program} {w : World} {K : PySem.W.Frag} {mg : Str → Option Value} {base : Heap} {N : List Str} {qual : Str} {scope : Scope} {f : Addr} {cd : Value} {A : Around} {outer : List Env} {s : Shared} {H : Hp} {E : XK} :
    Raises (cxOf (CXE P w) P w K mg base N qual scope f cd A outer s H E) E := fun C pins σ H1 s1 e h' vs I mk q =>
  leave_made (X := cxOf (CXE P w) P w K mg base N qual scope f cd A outer s H E) I rfl rfl rfl mk q
theorem ps_raise {X : Cx} {x : Str} {C : Addr} {E : XK} {bmB bmN : List Value} {B Bn nid iid newId inN : String} {np cpos pos : Pos} {e : Expr} {es : List Expr} {t : TA} (hr : Raises X E) (hc : X.calm = true) (hg : Gl X x) (hm : X.mg x = some (.ref C))
    (z : PySem.W.excIn X.K C bmB newId = true) (Fn : ExcBaseFacts Bn newId inN bmN) (hBn : bmB.contains (.type Bn) = true) (FB : ExcBaseFacts B nid iid bmB) (ha : PA X (e :: es) t)
    (he : starEach (e :: es) X.env = (false, eval e X.env) :: starEach es X.env := by rfl) (hpl : (backTo cpos (starEach es X.env)).any (·.1) = false := by rfl) (hdb : (x == ("__debug__" : Str)) = false := by decide) :
    PS X (.Raise (some (.Call (.Name x np) (e :: es) [] cpos)) none pos) (tRaise C E t) := by
  intro pins s σ H D I h
  obtain ⟨bm, N, nm, qn, bs, hd, sn, sub, ab, col, dd, c0, c1, c2, c3, c5, mN, o1, o2, o3, o4⟩ := exc_obj I.mod.kin z
  refine wpAny_Raise_call_subU (C := C) (nm := nm) (q := qn) (N := N) (bs := bs) (bm := bm) (hdct := hd) (sn := sn) (sub := sub) (ab := ab) (col := col) (dd := dd) (k0 := c0) (k1 := c1) (k2 := c2) (k3 := c3) (k5 := c5)
    Fn hBn FB (mN := mN) (o4.hasType FB.hasBase) (I.ok.hd hc) (by rw [he]; show (false || (backTo cpos (starEach es X.env)).any (·.1)) = false; rw [hpl]; rfl) o3 (ld_glob I hg hm ⟨rfl, ?_⟩ hdb)
  have go := ha cpos pins s σ H _ I h
  rw [he] at go ⊢
  exact Calls.evalArgs_plain (thn go fun us s2 ⟨vs, H2, I2, r2, q1, q2⟩ => ⟨rfl, by rw [← r2.length]; exact q1, I2.bk _ _ o1, o2.keeps I2.bk, o4.keeps I2.bk, fun h' a mk => hr C pins σ H2 s2 a h' us I2 mk q2⟩)
end L2

set_option Elab.async false
set_option linter.all false
set_option maxRecDepth 100000
set_option maxHeartbeats 1000000
namespace L2
open PySem PySem.Spec PyProof.Rows
/-! ### expressions whose callee may raise: the names stay -/
def XP (X : Cx) (pins : List (Addr × Obj)) (σ : St) (E : XK) (e : Value) (s' : Shared) : Prop := ∃ H1 s1, Inv X pins σ H1 s1 ∧ CXE X.prog X.w X.stack H1 s1 E e s'
abbrev TX := St → Hp → VK → XK → Prop
abbrev TSX := Ends → XK → St → Hp → Prop
def PEX (X : Cx) (e : Expr) (t : TX) : Prop :=
  ∀ (pins : List (Addr × Obj)) (s : Shared) (σ : St) (H : Hp) (Q : VK) (E : XK), Inv X pins σ H s → t σ H Q E → wpAny (model X.prog X.w) X.A (eval e X.env) (EP X pins σ Q) (XP X pins σ E) s
def PSX (X : Cx) (st : Stmt) (t : TSX) : Prop :=
  ∀ (pins : List (Addr × Obj)) (s : Shared) (σ : St) (H : Hp) (D : Ends) (E : XK), Inv X pins σ H s → t D E σ H → wpAny (model X.prog X.w) X.A (exec st X.env) (SP X pins D) (XP X pins σ E) s
section
variable {X : Cx} {k : Nat} {f C : Addr} {fd : FuncData} {ps : List Str} {sp : Sp} {dvs : List V} {ds : List Value} {x m : Str} {p pos apos : Pos} {e o : Expr} {es : List Expr} {ta : TE} {t : TA}
/-- what does not raise -/
theorem pex_of (h : PE X.nox e ta) : PEX X e fun σ H Q _ => ta σ H Q := fun pins s σ H Q E I q =>
  wpAny_mono (h pins s σ H Q (I.wish _) q) (fun u s' ⟨v, H', J, r, z⟩ => ⟨v, H', J.unwish, r, z⟩) fun _ _ z => z.elim
/-- f(e, ..) -/
theorem pex_call (F : FnOk X.prog X.w X.K X.mg X.base (CXE X.prog X.w) k f fd ps sp) (hr : Room k X.A) (hg : Gl X x) (hm : X.mg x = some (.ref f)) (hk : PySem.W.keepIn X.K (.ref f) = true) (hb : Binds X.K fd ps ds) (hd : Vals dvs ds)
    (ha : PA X.nox (e :: es) t) (hdb : (x == ("__debug__" : Str)) = false := by decide) (he : starEach (e :: es) X.env = (false, eval e X.env) :: starEach es X.env := by rfl) (hpl : (backTo pos (starEach es X.env)).any (·.1) = false := by rfl) :
    PEX X (.Call (.Name x p) (e :: es) [] pos) fun σ H Q E => tCall sp dvs E t σ H Q := by
  intro pins s σ H Q E I h
  refine wpAny_Call_Name_kw (ld_glob I hg hm ?_ hdb)
  refine PySem.W.callWith_K (h₀ := X.base) I.ok.mod.kin hk (wpAny_mono (ha pos pins s σ H _ (I.wish _) h) (fun us s1 ⟨vs, H1, I1, r, q⟩ => ⟨I1.kIn, ?_⟩) fun _ _ z => z.elim) he hpl
  have J : Inv X pins σ H1 s1 := I1.unwish
  have r2 : Vals (vs ++ dvs) (us ++ ds) := r.append hd
  have hl : (us ++ ds).length = ps.length := by rw [← r2.length]; exact F.len _ _ _ _ q
  refine wpAny_call (codeAny_mono (F.run X.A X.stack s1 H1 ⟨us, []⟩ (us ++ ds) (vs ++ dvs) Q E hr J.env0 (hb s1 us J.kIn hl) r2 q) fun r s' hq => ?_)
  cases r with
  | error e => exact ⟨H1, s1, J, hq⟩
  | ok fl =>
    cases fl with
    | ret u => exact J.after hq
    | next => exact False.elim hq
    | brk => exact False.elim hq
    | cont => exact False.elim hq
/-- a if c else b -/
def tIfX (tc : TT) (ta tb : TX) : TX := fun σ H Q E => tc σ H fun d H1 => if d = true then ta σ H1 Q E else tb σ H1 Q E
theorem pex_if {c a b : Expr} {tc : TT} {ta tb : TX} (hc : PT X.nox c tc) (ha : PEX X a ta) (hb : PEX X b tb) : PEX X (.IfExp c a b pos) (tIfX tc ta tb) := by
  intro pins s σ H Q E I h
  refine wpAny_IfExp (wpAny_mono (hc pins s σ H _ (I.wish _) h) (fun d s1 ⟨H1, I1, q1⟩ => ?_) fun _ _ z => z.elim)
  cases d with
  | true => exact ha pins s1 σ H1 Q E I1.unwish q1
  | false => exact hb pins s1 σ H1 Q E I1.unwish q1
/-- name = value -/
theorem psx_set {i : Nat} {te : TX} {pos' : Pos} (hN : X.N.Nodup) (hi : X.N[i]? = some x) (hx : Loc X.env.scope x) (he : PEX X e te) (hs : swapsWith e (some (.Name x pos')) pos.line X.env = pure false := by rfl) (hf : X.fn x = true ∨ X.env.scope.names.lookup x = some .local := by first | exact .inl rfl | exact .inr rfl | assumption) :
    PSX X (.Assign [.Name x pos'] e pos) fun D E σ H => te σ H (fun v H1 => D.nx (σ.set i (some v)) H1) E := by
  intro pins s σ H D E I h
  refine wpAny_Assign_Name (thn (he pins s σ H _ E I h) fun v s1 ⟨y, H1, I1, r1, q1⟩ => ?_) hs
  exact store_ok I1 hN hi hx r1 (fun s2 I2 => ⟨_, H1, I2, q1⟩) hf
end
/-- the clause names a class above the exception's own, both our own -/
theorem matches_above {M : Model} {A : Around} {E : Value → Shared → Prop} {K : PySem.W.Frag} {s : Shared} {C D e : Addr} {oe : Obj} {bC bD : List Value} {iC iD : String} {Q : Bool → Shared → Prop} (k : K.In s.heap) (zC : PySem.W.excIn K C bC iC = true) (zD : PySem.W.excIn K D bD iD = true)
    (he : s.heap.get? e = some oe) (hc : oe.cls = .ref C) (hb : bD.contains (.type "BaseException") = true) (up : ∃ cd d cl sl, K.lookup C = some ⟨cl, d, .cls cd, sl⟩ ∧ cd.mro.contains (.ref D) = true) (q : Q true s) : wpAny M A (excMatches (.ref e) (.ref D)) Q E s := by
  obtain ⟨bm, N, nm, qn, bs, hd, sn, sub, ab, col, dd, c0, c1, c2, c3, c5, mN, o1, o2, o3, o4⟩ := exc_obj k zC
  obtain ⟨bm', N', nm', qn', bs', hd', sn', sub', ab', col', dd', d0, d1, d2, d3, d5, mN', p1, p2, p3, p4⟩ := exc_obj k zD
  obtain ⟨cd, d, cl, sl, lk, ct⟩ := up
  have o1' := k _ _ lk
  rw [o1] at o1'
  have hcd := congrArg Obj.data (Option.some.inj o1')
  have hcC : (Value.ref C :: bm).contains (.ref D) = true := by
    injection hcd with h
    rw [← h] at ct
    exact ct
  have hcB : (Value.ref D :: bm').contains (.type "BaseException") = true := by rw [List.contains_cons, p4.hasType hb, Bool.or_true]
  have f := tc_notTuple
  obtain ⟨h, g, dr, t, os⟩ := s
  unfold excMatches
  repeat (first | (with_reducible refine wpAny_loadPart_at he ?_; rw [hc]) | with_reducible refine wpAny_loadPart_at p1 ?_ | (with_reducible refine wpAny_isSubtype_exc p1 ?_; rw [hcB]) | (with_reducible refine wpAny_isSubtype_exc o1 ?_; rw [hcC]) | wp_step)
  exact q
end L2

set_option Elab.async false
set_option linter.all false
set_option maxRecDepth 100000
set_option maxHeartbeats 1000000
namespace L2
open PySem PySem.Spec PyProof.Rows
section
variable {X : Cx} {pins : List (Addr × Obj)} {σ : St} {H : Hp} {s : Shared}
/-- a local name is deleted -/
theorem gone_ok {M : Model} {A : Around} {E : Value → Shared → Prop} {i : Nat} {x : Str} {Q : Unit → Shared → Prop} (I : Inv X pins σ H s) (hN : X.N.Nodup) (hi : X.N[i]? = some x) (hk : X.env.scope.names.lookup x = some .local) (hv : ∃ v, σ[i]? = some (some v))
    (h : ∀ s', Inv X pins (σ.set i none) H s' → Q () s') : wpAny M A (unbindName X.env x) Q E s := by
  obtain ⟨m, hn, hl⟩ := id I.loc
  have hcls : (X.env.scope.kind == .class || (X.env.scope.kind == .module && X.env.locals != X.env.globals)) = false := by rw [I.ok.kind]; rfl
  obtain ⟨v, hv⟩ := hv
  obtain ⟨u, r, lk⟩ := hl i x v hi hv (.inl hk)
  have hm : m x = some u := by
    rcases lk with ⟨_, z⟩ | ⟨z, _⟩
    · exact z
    · have z : X.env.scope.names.lookup x = some .cell ∨ X.env.scope.names.lookup x = some .free := z
      rw [hk] at z
      rcases z with z | z <;> cases z
  refine wpAny_unbindName_local hk hn hm hcls fun h' u' hn' hs => h _ ?_
  have far : ∀ b o, X.s₀.heap.get? b = some o → b ≠ X.env.locals := fun b o z => Nat.ne_of_lt (Nat.lt_of_lt_of_le (Heap.lt_size z) I.ok.above)
  refine ⟨I.ok, I.os, I.bare, ⟨?_, ?_, I.base.free, ?_, I.base.tups, I.base.frzs, I.base.tbls⟩, ⟨_, hn', ?_⟩, ?_, I.free, I.freeC, ?_, ?_, by simpa using I.len⟩
  · exact fun b o z n hb hx => (hs.2 b (far b o z)).trans (I.base.keep b o z n hb hx)
  · exact fun b o z n hb hx => let ⟨sl, z1⟩ := I.base.slot b o z n hb hx; ⟨sl, (hs.2 b (far b o z)).trans z1⟩
  · exact fun b o z hx => let ⟨o', z1⟩ := I.base.there b o z hx; ⟨o', (hs.2 b (far b o z)).trans z1⟩
  · intro j y w e1 e2 e3
    have hj : j ≠ i := fun z => by
      subst z
      have l1 : j < σ.length := (List.getElem?_eq_some_iff.mp hv).1
      rw [List.getElem?_set_self l1] at e2
      cases e2
    rw [List.getElem?_set_ne (Ne.symm hj)] at e2
    obtain ⟨u1, r1, q⟩ := hl j y w e1 e2 e3
    refine ⟨u1, r1, ?_⟩
    rcases q with ⟨k1, z⟩ | ⟨k1, c, z, z1⟩
    · have ny : y ≠ x := fun e => hj (nodup_ix hN e1 (e ▸ hi))
      exact .inl ⟨k1, by simp [ny, z]⟩
    · exact .inr ⟨k1, c, z, z1.sameBut hs (I.cne y c z)⟩
  · exact fun y c z => let ⟨w, z1⟩ := I.cell y c z; ⟨w, z1.sameBut hs (I.cne y c z)⟩
  · exact fun p hp => let ⟨z, n, ne, nf, d⟩ := I.pin p hp; ⟨(hs.2 p.1 ne).trans z, n, ne, nf, d⟩
  · exact I.hok.same fun b o z n => (hs.2 b fun e => n (by rw [e]; exact I.free)).trans z
/-- behind an except .. as: the name goes -/
theorem goes_ok {M : Model} {A : Around} {E : Value → Shared → Prop} {i : Nat} {x : Str} {pos : Pos} {Q : Unit → Shared → Prop} (I : Inv X pins σ H s) (hN : X.N.Nodup) (hi : X.N[i]? = some x) (hk : X.env.scope.names.lookup x = some .local)
    (h : ∀ s', Inv X pins (σ.set i none) H s' → Q () s') : wpAny M A (do bindName X.env x .none; unbindBehindTheSuite X.env x pos) Q E s := by
  refine wpAny_bind (wpAny_bindName (store_ok (v := .non) I hN hi (.inl hk) rfl (fun s2 I2 => ?_) (.inr hk)))
  unfold unbindBehindTheSuite
  refine wpAny_onRaise ?_
  have l1 : i < σ.length := by rw [I.len]; exact (List.getElem?_eq_some_iff.mp hi).1
  refine gone_ok I2 hN hi hk ⟨.non, List.getElem?_set_self l1⟩ fun s3 I3 => h s3 ?_
  rw [List.set_set] at I3
  exact I3
end
end L2

set_option Elab.async false
set_option linter.all false
set_option maxRecDepth 100000
set_option maxHeartbeats 1000000
namespace L2
open PySem PySem.Spec PyProof.Rows
section
variable {X : Cx} {pins : List (Addr × Obj)} {σ : St} {H H' : Hp} {s s' : Shared} {B h2 : Heap} {a : Addr} {cls a0 : Value}
/-- within an except suite -/
abbrev Cx.inH (X : Cx) (a : Addr) : Cx := { X with A := X.A.mark (some (.ref a)), calm := false, xe := fun _ _ => False }
theorem Inv.inH (I : Inv X pins σ H s) (a : Addr) : Inv (X.inH a) pins σ H s :=
  ⟨⟨I.ok.mod, I.ok.kind, I.ok.glob, I.ok.blt, I.ok.above, I.ok.inj, I.ok.has, I.ok.cab, (fun z => nomatch z), I.ok.frames, I.ok.stk, I.ok.exf, I.ok.bs, I.ok.bsz, I.ok.noex, I.ok.exfs, I.ok.funs, I.ok.frf⟩, I.os, I.bare, I.base, I.loc, I.cell, I.free, I.freeC, I.pin, I.hok, I.len⟩
theorem Inv.outH (J : X.Ok) (I : Inv (X.inH a) pins σ H s) : Inv X pins σ H s := ⟨J, I.os, I.bare, I.base, I.loc, I.cell, I.free, I.freeC, I.pin, I.hok, I.len⟩
/-- an exception has landed here: it is known, and stays -/
theorem caught_inv (I : Inv X pins σ H s) (fl : Heap.FlyingW B X.stack a cls a0 h2) (up : s'.heap.UpToSlots h2) (c1 : ∀ b o, s'.heap.get? b = some o → H' b ≠ none → B.get? b = some o)
    (c2 : ∀ b o, s.heap.get? b = some o → H b = none → b ∉ frs X.stack → B.get? b = some o) (c3 : ∀ b o, s.heap.get? b = some o → b ∉ frs X.stack → ∃ o', B.get? b = some o')
    (os : s'.os = s.os) (bare : AllBare s'.gens) (un : Un (frs X.stack) [] H H' s.heap s'.heap) (hok : HOk X.prog X.w H' s'.heap) :
    Inv X pins σ H' { s' with heap := h2 } ∧ ∃ ob, ob.cls = cls ∧ h2.get? a = some ob ∧ H' a = none ∧ Inv X pins σ (upd H' a (.frz ob (.own a))) { s' with heap := h2 } := by
  have trk : ∀ b o, s'.heap.get? b = some o → H' b ≠ none → h2.get? b = some o := fun b o z n => fl.1 b o (c1 b o z n)
  have hok2 : HOk X.prog X.w H' h2 := hok.same trk
  have slt : ∀ b o, s.heap.get? b = some o → H b = none → b ∈ frs X.stack → ∃ sl, h2.get? b = some { o with slots := sl } := fun b o z n hb => by
    obtain ⟨_, o', z', hd⟩ := I.stack.mem hb
    rw [z] at z'
    cases z'
    obtain ⟨sl, r⟩ := un.slot b o z n hb (by simp)
    obtain ⟨sl', r'⟩ := up b ({ o with slots := sl } : Obj) r hd
    exact ⟨sl', r'⟩
  have th : ∀ b o, s.heap.get? b = some o → b ∉ ([] : List Addr) → ∃ o', h2.get? b = some o' := fun b o z _ => by
    by_cases hb : b ∈ frs X.stack
    · obtain ⟨sl, r⟩ := slt b o z (I.stkFree b hb) hb
      exact ⟨_, r⟩
    · obtain ⟨o', r⟩ := c3 b o z hb
      exact ⟨o', fl.1 b o' r⟩
  have un2 : Un (frs X.stack) [] H H' s.heap h2 := ⟨fun b o z n hb _ => fl.1 b o (c2 b o z n hb), fun b o z n hb _ => slt b o z n hb, un.free, th, un.tups, un.frzs, un.tbls⟩
  refine ⟨I.call' (s' := { s' with heap := h2 }) (ch := []) os un2 hok2 bare (fun b z => absurd z (by simp)), ?_⟩
  obtain ⟨oe, vs, he, hc, hd, _⟩ := fl.first
  have na : H' a = none := by
    cases k : H' a with
    | none => rfl
    | some u =>
      obtain ⟨o', z'⟩ := (hok a u k).has
      have := c1 a o' z' (by rw [k]; exact Option.some_ne_none _)
      rw [fl.2.1] at this
      cases this
  have ns : ∀ o, s.heap.get? a = some o → False := fun o z => by
    by_cases hb : a ∈ frs X.stack
    · obtain ⟨_, o', z', hd'⟩ := fl.2.2.1.mem hb
      rw [he] at z'
      cases z'
      exact hd' _ hd
    · obtain ⟨o', r⟩ := c3 a o z hb
      rw [fl.2.1] at r
      cases r
  have ne : ∀ {b : Addr} {u : HO}, H' b = some u → b ≠ a := fun {b u} z e => by rw [e, na] at z; cases z
  refine ⟨oe, hc, he, na, I.call' (s' := { s' with heap := h2 }) (ch := []) os ⟨un2.keep, un2.slot, fun b o z n hx => ?_, th, fun b xs z => ?_, fun b o u z => ?_, fun b ps z => ?_⟩ (fun b u z => ?_) bare (fun b z => absurd z (by simp))⟩
  · rw [upd_ne (a := a) (b := b) fun e => ns o (by rw [← e]; exact z)]
    exact un.free b o z n hx
  · have := un.tups b xs z
    rw [upd_ne (ne this)]
    exact this
  · have := un.frzs b o u z
    rw [upd_ne (ne this)]
    exact this
  · obtain ⟨more, this⟩ := un.tbls b ps z
    exact ⟨more, by rw [upd_ne (ne this)]; exact this⟩
  · by_cases e : b = a
    · subst e
      unfold upd at z
      rw [if_pos rfl] at z
      cases z
      exact ⟨he, oe, he⟩
    · rw [upd_ne e] at z
      exact (hok2 b u z).stay (fun _ _ _ q => q) (fun c q => by rw [upd_ne (ne q)]; exact q) (fun c xs q => by rw [upd_ne (ne q)]; exact q)
end

/-- the class at C is below the one at D, both our own -/
def Under (K : PySem.W.Frag) (C D : Addr) : Prop := (∃ bC iC, PySem.W.excIn K C bC iC = true) ∧ ∃ cd d cl sl, K.lookup C = some ⟨cl, d, .cls cd, sl⟩ ∧ cd.mro.contains (.ref D) = true
/-- behind the suite the name is gone -/
def Ends.goes (D : Ends) (i : Nat) : Ends := { nx := fun σ H => D.nx (σ.set i none) H, rt := D.rt, bk := fun σ H => D.bk (σ.set i none) H, ct := fun σ H => D.ct (σ.set i none) H }
def tTry (K : PySem.W.Frag) (C : Addr) (i : Nat) (tb : TSX) (th : TS) : TS := fun D σ H =>
  tb D (fun cls _ H' => ∃ C', cls = .ref C' ∧ Under K C' C ∧ ∀ a ob, H' a = none → ob.cls = .ref C' → th (D.goes i) (σ.set i (some (.ref a))) (upd H' a (.frz ob (.own a)))) σ H
theorem sp_goes {X : Cx} {a : Addr} {pins : List (Addr × Obj)} {D : Ends} {i : Nat} {n : Str} {pos : Pos} {f : Flow} {s : Shared} {E : Value → Shared → Prop} (J : X.Ok) (hN : X.N.Nodup) (hi : X.N[i]? = some n) (hk : X.env.scope.names.lookup n = some .local) (h : SP (X.inH a) pins (D.goes i) f s) :
    wpAny (model X.prog X.w) X.A (do bindName X.env n .none; unbindBehindTheSuite X.env n pos) (fun _ s3 => SP X pins D f s3) E s := by
  cases f with
  | next =>
    obtain ⟨σ', H', I, q⟩ := h
    exact goes_ok (I.outH J) hN hi hk fun s' I' => ⟨_, H', I', q⟩
  | brk =>
    obtain ⟨σ', H', I, q⟩ := h
    exact goes_ok (I.outH J) hN hi hk fun s' I' => ⟨_, H', I', q⟩
  | cont =>
    obtain ⟨σ', H', I, q⟩ := h
    exact goes_ok (I.outH J) hN hi hk fun s' I' => ⟨_, H', I', q⟩
  | ret u =>
    obtain ⟨v, σ', H', I, r, q⟩ := h
    exact goes_ok (I.outH J) hN hi hk fun s' I' => ⟨v, _, H', I', r, q⟩
/-- try: one statement; except C as n: a suite that raises nothing -/
theorem ps_try {X : Cx} {st b0 : Stmt} {suite : List Stmt} {c n : Str} {C : Addr} {i : Nat} {bD : List Value} {iD : String} {tb : TSX} {th : TS} {np hpos pos : Pos} (hs : X.stack = X.env :: X.outer) (hf : X.env.frame = some X.env.locals) (hN : X.N.Nodup) (hi : X.N[i]? = some n)
    (hk : X.env.scope.names.lookup n = some .local) (hg : Gl X c) (hm : X.mg c = some (.ref C)) (z : PySem.W.excIn X.K C bD iD = true) (hb : bD.contains (.type "BaseException") = true) (h1 : PSX X st tb) (h2 : ∀ a, PSs (X.inH a) (b0 :: suite) th) (hdb : (c == ("__debug__" : Str)) = false := by decide) :
    PS X (.Try [st] [.ExceptHandler (some (.Name c np)) (some n) (b0 :: suite) hpos] [] [] pos) (tTry X.K C i tb th) := by
  intro pins s σ H D I h
  have hfr : X.A.frames = some (X.env :: X.outer) := by rw [← hs]; exact I.ok.frames
  refine wpAny_Try_except (wpAny_execs_cons (wpAny_mono (h1 pins s σ H D _ I h) (fun f s1 q => ?_) fun e s1 q => ?_))
  · cases f with
    | next => exact wpAny_execs_nil (wpAny_execs_nil q)
    | ret v => exact q
    | brk => exact q
    | cont => exact q
  · obtain ⟨H1, s2, I1, a, cls, a0, H', B, rfl, fl, c1, c2, c3, os, bare, un, hok, C', rfl, ⟨⟨bC, iC, zC⟩, up⟩, q⟩ := q
    have fl' := fl
    rw [hs] at fl'
    refine wpAny_looks_onW hfr hf fl' fun h4 hd4 u4 => ?_
    refine wpAny_landsW hd4 fun h5 fl5 u5 => ?_
    rw [← hs] at fl5
    obtain ⟨I5, ob5, oc5, og5, _, _⟩ := caught_inv (s' := s1) I1 fl5 (u4.trans u5) c1 c2 c3 os bare un hok
    refine wpAny_handleBy_cons (codeAny_handlers_test ?_) (by intro q; cases q)
    refine ld_glob (I5.inH a) hg hm ?_ hdb
    refine matches_above I5.kIn zC z og5 oc5 hb up ?_
    refine codeAny_handlers_suite_as ?_
    refine lands_againW fl5 fun h6 fl6 u6 => ?_
    obtain ⟨_, ob, oc, og, na, I6⟩ := caught_inv (s' := s1) I1 fl6 ((u4.trans u5).trans u6) c1 c2 c3 os bare un hok
    refine store_ok (v := .ref a) I6 hN hi (.inl hk) rfl (fun s7 I7 => ?_) (.inr hk)
    exact wpAny_mono (h2 a pins s7 _ _ (D.goes i) (I7.inH a) (q a ob na oc)) (fun f s8 q8 => sp_goes I.ok hN hi hk q8) fun _ _ z => z.elim
end L2

set_option Elab.async false
set_option linter.all false
set_option maxRecDepth 100000
set_option maxHeartbeats 1000000
namespace PySem.W
open PySem
/-- what a class of ours under BaseException has for __class__ -/
structure ExcCls (K : Frag) (C : Addr) : Prop where
  ga : findIn K (.ref C) "__getattribute__" = some (some (.builtin "BaseException.__getattribute__"))
  gt : findIn K (.ref C) "__getattr__" = some none
  cl : findIn K (.ref C) "__class__" = some (some (.builtin "object.__class__"))
  ob : subIn K (.ref C) (.type "object") = some true
  be : subIn K (.ref C) (.type "BaseException") = some true
  is : ∃ c d cd sl, K.lookup C = some ⟨c, d, .cls cd, sl⟩
section
variable {prog : Program} {w : World} {A : Around} {E : Value → Shared → Prop} {h : Heap} {g : Array GenState} {d : Drawn} {t : Nat} {os : OsState} {a C : Addr} {o : Obj} {K : Frag}
theorem exc_class_get {R : Result → Shared → Prop} (k : K.In h) (X : ExcCls K C) (hx : h.get? a = some o) (hc : o.cls = .ref C) (hq : R (.ok (.ret (.ref C))) ⟨h, g, d, t, os⟩) :
    codeAny (model prog w) A (.call (.builtin "getset_descriptor.__get__") ⟨[.builtin "object.__class__", .ref a, .ref C], []⟩) R ⟨h, g, d, t, os⟩ := by
  have isGs : Shared.TypeIs ⟨h, g, d, t, os⟩ (.builtin "object.__class__") "getset_descriptor" := F.typeOf_object_class
  have f8 : subIn K (.ref C) (.type (".".intercalate ("object.__class__".cutAt '.').dropLast)) = some true := by rw [F.owner_object_class]; exact X.ob
  refine codeAny_call_builtin F.slot_gs_get.plain F.entry_gs_get ?_
  refine F.slot_gs_get.check _ _ _ _ _ _ _ _ isGs (F.args_gs_get _ _ _) ?_
  repeat (any_goals (first | assumption | (with_reducible refine wpAny_loadPart_at hx ?_; rw [hc]) | with_reducible refine Looks.at (looks_subIn k f8) ?_ | wp_step))
  refine And.intro (Code.quiet_builtin _ (by decide +kernel)) ?_
  refine codeAny_builtin F.entry_object_class ?_
  repeat (any_goals (first | assumption | (with_reducible refine wpAny_loadPart_at hx ?_; rw [hc]) | wp_step))
theorem exc_class_entry {tk : Tok} {Q : Fin → Shared → Prop} (k : K.In h) (X : ExcCls K C) (hx : h.get? a = some o) (hc : o.cls = .ref C) (hq : Q (.done (.ret (.ref C))) ⟨h, g, d, t, os⟩) :
    wpAny (model prog w) A (Builtin.«object.__getattribute__» { pos := [.ref a, .str "__class__" tk], kw := [] }) Q E ⟨h, g, d, t, os⟩ := by
  have isGs : Shared.TypeIs ⟨h, g, d, t, os⟩ (.builtin "object.__class__") "getset_descriptor" := F.typeOf_object_class
  have known := And.intro F.typeOf_object_class (And.intro F.slot_gs_get.lookup F.slot_gs_set.lookup)
  obtain ⟨p5, p6, p7⟩ := known
  repeat (any_goals (first | assumption | (with_reducible refine wpAny_loadPart_at hx ?_; rw [hc]) | with_reducible refine Looks.at (looks_findIn k X.cl) ?_ | wp_step))
  refine exc_class_get k X hx hc ?_
  repeat any_goals first | assumption | wp_step
end
end PySem.W

set_option Elab.async false
set_option linter.all false
set_option maxRecDepth 100000
set_option maxHeartbeats 1000000
namespace PySem.W
open PySem
section
variable {prog : Program} {w : World} {A : Around} {E : Value → Shared → Prop} {h : Heap} {g : Array GenState} {d : Drawn} {t : Nat} {os : OsState} {a C : Addr} {o : Obj} {K : Frag}
theorem exc_class_check {M : Model} {nameV : Value} {Q : Unit → Shared → Prop} (k : K.In h) (X : ExcCls K C) (hx : h.get? a = some o) (hc : o.cls = .ref C) (hq : Q () ⟨h, g, d, t, os⟩) :
    wpAny M A (checkBuiltinCall "BaseException.__getattribute__" ⟨[.ref a, nameV], []⟩) Q E ⟨h, g, d, t, os⟩ := by
  have k1 : builtinKind "BaseException.__getattribute__" = some .slot := by decide +kernel
  have k2 : splitId "BaseException.__getattribute__" = some ("BaseException", "__getattribute__") := by decide +kernel
  have fits := F.args_bexc_ga (.ref a) nameV
  simp only [checkBuiltinCall, k1, k2]
  refine wpAny_bind ?_
  unfold isInstance
  repeat (first | (with_reducible refine wpAny_loadPart_at hx ?_; rw [hc]) | with_reducible refine Looks.at (looks_subIn k X.be) ?_ | wp_step)
  exact hq
theorem exc_class_call {tk : Tok} {R : Result → Shared → Prop} (k : K.In h) (X : ExcCls K C) (hx : h.get? a = some o) (hc : o.cls = .ref C) (hq : R (.ok (.ret (.ref C))) ⟨h, g, d, t, os⟩) :
    codeAny (model prog w) A (.call (.builtin "BaseException.__getattribute__") ⟨[.ref a, .str "__class__" tk], []⟩) R ⟨h, g, d, t, os⟩ :=
  codeAny_call_builtin F.attr_ValueError.ga.plain F.entry_bexc_ga (exc_class_check k X hx hc (exc_class_entry k X hx hc hq))
theorem exc_class_by {tk : Tok} {fill expr : Bool} {Q : Value → Shared → Prop} (k : K.In h) (X : ExcCls K C) (hx : h.get? a = some o) (hc : o.cls = .ref C) (hq : Q (.ref C) ⟨h, g, d, t, os⟩) :
    wpAny (model prog w) A (getAttrBy (.ref a) (.str "__class__" tk) fill expr) Q E ⟨h, g, d, t, os⟩ := by
  have f3 := F.attr_ValueError.ga.bind (.ref a)
  have n0 : (expr && onTheHeap (Value.builtin "BaseException.__getattribute__")) = false := by cases expr <;> rfl
  have n2 : (Value.builtin "BaseException.__getattribute__" == Value.builtin "object.__getattribute__") = false := by decide +kernel
  have n1 : (onTheHeap (Value.ref C) && Value.builtin "BaseException.__getattribute__" == Value.builtin "object.__getattribute__") = false := by rw [n2]; rfl
  repeat (any_goals (first | assumption | (with_reducible refine wpAny_loadPart_at hx ?_; rw [hc]) | with_reducible refine Looks.at (looks_findIn k X.ga) ?_ | with_reducible refine Looks.at (looks_findIn k X.gt) ?_ | wp_step))
  refine exc_class_call k X hx hc ?_
  repeat any_goals first | assumption | wp_step
theorem exc_class_attr {Q : Option Value → Shared → Prop} (k : K.In h) (X : ExcCls K C) (hx : h.get? a = some o) (hc : o.cls = .ref C) (hq : Q (some (.ref C)) ⟨h, g, d, t + 1, os⟩) : wpAny (model prog w) A (getAttr? (.ref a) "__class__") Q E ⟨h, g, d, t, os⟩ := by
  unfold getAttr? getAttrBy?
  repeat (any_goals (first | assumption | with_reducible apply exc_class_by k X hx hc | wp_step))
end
/-- an exception of an own class, for isinstance -/
theorem kitx_exc {K : Frag} {a C : Addr} (X : ExcCls K C) : KitX K (.ref a) (.ref C) (fun h => ∃ o, h.get? a = some o ∧ o.cls = .ref C) where
  ty := fun M h _ p => by
    obtain ⟨o, h1, h2⟩ := p
    rw [← h2]
    exact Looks.andThen (Looks.ld h1) .now
  it := fun _ _ k _ => by
    obtain ⟨c, d, cd, sl, lk⟩ := X.is
    intro A' Q' E' s' kk q
    unfold isType loadHead
    exact wpAny_bind (wpAny_loadPart (kk _ _ (k _ _ lk)) (wpAny_pure q))
  ne := fun h tp dd its n sl k htp => by
    obtain ⟨c, d, cd, sl', lk⟩ := X.is
    refine Bool.eq_false_iff.mpr fun q => ?_
    have e : C = tp := Value.ref.inj (beq_iff_eq.mp q)
    have z := k _ _ lk
    rw [e, htp] at z
    cases z
  ca := fun {_ _ _ _ _ s} k p q => by
    obtain ⟨o, h1, h2⟩ := p
    obtain ⟨h, g, d, t, os⟩ := s
    exact exc_class_attr k X h1 h2 q
end PySem.W
namespace L2
open PySem PySem.Spec PyProof.Rows
/-- isinstance(e, C) of a caught exception -/
theorem call_isexc {X : Cx} : CallR X (.builtin "isinstance") (fun xs H Q => ∃ (a C : Addr) (ob : Obj) (c : V) (cv : Value) (k : Bool), xs = [.ref a, c] ∧ H a = some (.frz ob (.own a)) ∧ ob.cls = .ref C ∧ PySem.W.ExcCls X.K C ∧ (∀ u, RelV c u → u = cv) ∧ PySem.W.kitOne X.K (.ref C) cv = some k ∧ Q (.bl k) H) := by
  intro pins s σ H xs us Q I r h
  obtain ⟨a, C, ob, c, cv, k, rfl, ha, hc, Z, hv, e, q⟩ := h
  cases r with
  | cons r1 rr =>
    cases rr with
    | cons r2 r3 =>
      cases r3
      cases (show _ = Value.ref a from r1)
      rw [hv _ r2]
      obtain ⟨h1, _⟩ := (show ObjOk X.prog X.w H s.heap a (.frz ob (.own a)) from I.hok a _ ha)
      exact PySem.W.kia_one (PySem.W.kitx_exc Z) I.kIn ⟨ob, h1, hc⟩ e (fun z => nomatch z) fun tk => ⟨.bl k, H, I.tok tk, rfl, q⟩
end L2

set_option Elab.async false
set_option linter.all false
set_option maxRecDepth 100000
set_option maxHeartbeats 1000000
namespace L2
open PySem PySem.Spec PyProof.Rows PySem.SeqAt
theorem vals_bl : ∀ {bs : List Bool} {us : List Value}, Vals (bs.map V.bl) us → us = bs.map Value.bool
  | [], _, .nil => rfl
  | b :: bs, _, .cons r t => by
    have e : _ = Value.bool b := r
    rw [e, vals_bl t]; rfl
theorem eq_isB {A : Around} {s : Shared} (k : Bool) {bs : List Bool} : ∀ y, y ∈ bs.map Value.bool → EqAt A s y (.bool k) (isBoolOf k y) := fun y hy => by
  obtain ⟨b, _, rfl⟩ := List.mem_map.mp hy
  exact EqAt.bool_bool b k
section
variable {X : Cx}
/-- xs.count(k), xs truths -/
theorem mt_countB : MtM X "list.count" (fun x vs H Q => ∃ (l : Addr) (bs : List Bool) (k : Bool), x = .ref l ∧ vs = [.bl k] ∧ H l = some (.lst (bs.map V.bl)) ∧ Q (.int ((bs.countP (· == k) : Nat) : Int)) H) := by
  intro pins s σ H x vs v us Q I rx rv h
  obtain ⟨l, bs, k, rfl, rfl, hH, q⟩ := h
  cases rx
  obtain ⟨u, rfl, ru⟩ := rv.one
  cases (show u = Value.bool k from ru)
  obtain ⟨z, its, n, r, hl, e⟩ := I.lstM hH
  cases vals_bl r
  refine call_meets F.slot_list_count ⟨_, e, rfl⟩ F.entry_list_count (F.args_list_count_2 _ _) (list_countAt l _ n none #[] (.bool k) (isBoolOf k)) ⟨e, fun y hy => eq_isB k y (by simpa using hy), ?_⟩
  have ec : ((bs.map Value.bool).toArray.toList.countP (isBoolOf k) : Nat) = bs.countP (· == k) := by
    rw [show (bs.map Value.bool).toArray.toList = bs.map Value.bool from rfl, List.countP_map]
    rfl
  rw [ec]
  exact ⟨.int _, H, I.tok _, ⟨_, rfl⟩, q⟩
/-- xs.index(k), xs truths -/
theorem mt_indexB : MtM X "list.index" (fun x vs H Q => ∃ (l : Addr) (bs : List Bool) (k : Bool) (j : Nat), x = .ref l ∧ vs = [.bl k] ∧ H l = some (.lst (bs.map V.bl)) ∧ bs.length ≤ 1000 ∧ bs[j]? = some k ∧ (∀ m, m < j → bs[m]? ≠ some k) ∧ Q (.int (j : Int)) H) := by
  intro pins s σ H x vs v us Q I rx rv h
  obtain ⟨l, bs, k, j, rfl, rfl, hH, hz, hj, hno, q⟩ := h
  cases rx
  obtain ⟨u, rfl, ru⟩ := rv.one
  cases (show u = Value.bool k from ru)
  obtain ⟨z, its, n, r, hl, e⟩ := I.lstM hH
  cases vals_bl r
  have lj : j < bs.length := (List.getElem?_eq_some_iff.mp hj).1
  have ej : bs[j] = k := (List.getElem?_eq_some_iff.mp hj).2
  refine call_meets F.slot_list_index ⟨_, e, rfl⟩ F.entry_list_index (F.args_list_index_2 _ _) (list_indexAt l _ n none #[] (.bool k) (isBoolOf k) j (by simpa using lj) (by omega) ?_ ?_) ⟨e, fun y hy => eq_isB k y (by simpa using hy), ?_⟩
  · simp only [List.getElem_toArray, List.getElem_map, ej]
    show (k == k) = true
    simp
  · intro m hm hmj
    have lm : m < bs.length := by omega
    simp only [List.getElem_toArray, List.getElem_map]
    show (bs[m] == k) = false
    refine Bool.eq_false_iff.mpr fun q => hno m hmj ?_
    rw [List.getElem?_eq_getElem lm, beq_iff_eq.mp q]
  · exact ⟨.int _, H, I.tok _, ⟨_, rfl⟩, q⟩
/-- t * n, n at least one -/
theorem op_repA : OpR X (binaryOp .Mult) (fun x y H Q => ∃ (p : Addr) (k : Nat) (xs : List V), x = .ref p ∧ y = .int (k : Int) ∧ H p = some (.tup xs) ∧ xs ≠ [] ∧ 1 ≤ k ∧ k ≤ 1000 ∧ xs.length ≤ 1000 ∧ ∀ l H', Same H H' → H' l = some (.tup (List.replicate k xs).flatten) → Q (.ref l) H') := by
  intro pins s σ H x y v u Q I rx ry h
  obtain ⟨p, k, xs, e1, e2, hp, hn, h1, h2, h3, q⟩ := h
  by_cases hk : k = 1
  · subst hk
    subst e1 e2
    cases rx
    obtain ⟨t, rfl⟩ := ry
    obtain ⟨its, rv, ⟨o, ho, hc, n, hd⟩, _⟩ := I.tuple (SqT.of (K := X.K) hp)
    refine PySem.mul_tup1 ho hc hd ⟨.ref p, H, I, rfl, q p H (Same.refl _) ?_⟩
    rw [hp]
    simp
  · refine op_repT pins s σ H x y v u Q I rx ry ⟨p, k, xs, e1, e2, SqT.of hp, hn, by omega, by omega, h3, fun l hl => q l _ (same_new hl _) ?_⟩
    rw [upd_same, Int.toNat_natCast]
end
end L2

set_option Elab.async false
set_option linter.all false
set_option maxRecDepth 100000
set_option maxHeartbeats 4000000
namespace K2
open PySem L2
def top (i : Nat) : Stmt := PySem.Challenge.pw_floorfits_k02_places.main.body.getD i (.Pass ⟨0, 0, 0, 0⟩)
abbrev sWhole : Stmt := top 9
abbrev sTupOf : Stmt := top 10
abbrev sHas : Stmt := top 11
abbrev sMay : Stmt := top 12
abbrev sCell : Stmt := top 25
abbrev sPick : Stmt := top 26
abbrev sTiles : Stmt := top 27
abbrev sFloorL : Stmt := top 28
abbrev sSides : Stmt := top 29
abbrev sLaw : Stmt := top 32
abbrev sEmpty : Stmt := top 13
abbrev sSize : Stmt := top 14
abbrev sPlaces : Stmt := top 15
abbrev sNumber : Stmt := top 16
abbrev sLaid : Stmt := top 17
abbrev sFull : Stmt := top 18
abbrev sHasP : Stmt := top 19
abbrev sRef : Stmt := top 20
abbrev sWN : Stmt := top 22
abbrev sTileAt : Stmt := top 21
abbrev sWith : Stmt := top 23
abbrev sWord : Stmt := top 30
abbrev sDo : Stmt := top 31
theorem boot_isin : bootBuiltins "isinstance" = some (.builtin "isinstance") := by decide +kernel
theorem boot_int : bootBuiltins "int" = some (.type "int") := by decide +kernel
theorem boot_bool : bootBuiltins "bool" = some (.type "bool") := by decide +kernel
theorem boot_tuple : bootBuiltins "tuple" = some (.type "tuple") := by decide +kernel
theorem boot_list : bootBuiltins "list" = some (.type "list") := by decide +kernel
theorem boot_set : bootBuiltins "set" = some (.type "set") := by decide +kernel
theorem boot_all : bootBuiltins "all" = some (.builtin "all") := by decide +kernel
/-! ### what is told, over data -/
def isWhole : D → Bool | .int _ => true | _ => false
def isIntD : D → Bool | .int _ => true | .bl _ => true | _ => false
def isBlD : D → Bool | .bl _ => true | _ => false
def isTupD : D → Bool | .tup _ => true | _ => false
def isTupOf (lo hi : Int) : D → Bool | .tup l => decide (lo ≤ (l.length : Int)) && decide ((l.length : Int) ≤ hi) | _ => false
def isColour : D → Bool | .int i => decide (0 ≤ i) && decide (i ≤ 8) | _ => false
def isTile : D → Bool | .tup l => isTupOf 4 4 (.tup l) && l.all isColour | _ => false
def intOf : D → Int | .int i => i | _ => 0
def keyOf : D → List Int | .tup l => l.map intOf | _ => []
def isSetD : D → Bool | .tup l => isTupOf 1 16 (.tup l) && (l.all isTile && decide ((l.map keyOf).Nodup)) | _ => false
def hasNum (n : Nat) : D → Bool | .int i => decide (0 ≤ i) && decide (i < (n : Int)) | _ => false
def mayLie (n : Nat) : D → Bool | .non => true | d => hasNum n d
def isRow (n : Nat) : D → Bool | .tup l => isTupOf 1 6 (.tup l) && l.all (mayLie n) | _ => false
def lenD : D → Nat | .tup l => l.length | _ => 0
def isFloorD (n : Nat) : D → Bool | .tup l => isTupOf 1 6 (.tup l) && (l.all (isRow n) && l.all fun r => decide (lenD r = lenD (l.headD .non))) | _ => false
/-! ### the promises -/
def sp1 (f : D → Bool) : Sp := fun vs H Q _ => ∃ v d, vs = [v] ∧ Rep H v d ∧ ∀ H', Same H H' → Q (.bl (f d)) H'
def spTup : Sp := fun vs H Q _ => ∃ v d lo hi, vs = [v, .int lo, .int hi] ∧ Rep H v d ∧ ∀ H', Same H H' → Q (.bl (isTupOf lo hi d)) H'
def sp2 (f : Nat → D → Bool) : Sp := fun vs H Q _ => ∃ t v d ts, vs = [t, v] ∧ Rep H t (.tup ts) ∧ Rep H v d ∧ ∀ H', Same H H' → Q (.bl (f ts.length d)) H'
structure Txt (mg : Str → Option Value) : Prop where
  isin : mg "isinstance" = none
  int : mg "int" = none
  bool : mg "bool" = none
  tuple : mg "tuple" = none
  list : mg "list" = none
  len : mg "len" = none
  range : mg "range" = none
theorem ty_of {K : PySem.W.Frag} {H : Hp} {v : V} {d : D} (r : Rep H v d) : ∃ t, TyOf K H v t ∧ PySem.W.kitOne K t (.type "int") = some (isIntD d) ∧ PySem.W.kitOne K t (.type "bool") = some (isBlD d) ∧ PySem.W.kitOne K t (.type "tuple") = some (isTupD d) := by
  cases r with
  | non => exact ⟨_, .non, by with_unfolding_all rfl, by with_unfolding_all rfl, by with_unfolding_all rfl⟩
  | bl b => exact ⟨_, .bl b, by with_unfolding_all rfl, by with_unfolding_all rfl, by with_unfolding_all rfl⟩
  | int i => exact ⟨_, .int i, by with_unfolding_all rfl, by with_unfolding_all rfl, by with_unfolding_all rfl⟩
  | str x => exact ⟨_, .str x, by with_unfolding_all rfl, by with_unfolding_all rfl, by with_unfolding_all rfl⟩
  | tup e _ => exact ⟨_, .tup e, by with_unfolding_all rfl, by with_unfolding_all rfl, by with_unfolding_all rfl⟩
  | lst e _ => exact ⟨_, .lst e, by with_unfolding_all rfl, by with_unfolding_all rfl, by with_unfolding_all rfl⟩
end K2

set_option Elab.async false
set_option linter.all false
set_option maxRecDepth 100000
set_option maxHeartbeats 4000000
namespace K2
open PySem L2
theorem small {n : Nat} (h : n ≤ 1000) : n ≤ sizeLine := Nat.le_of_lt (small1000 h)
/-- all([f(part) for part in thing]) -/
theorem all_read {K : PySem.W.Frag} {H1 : Hp} {a : Addr} {xs : List V} {l : List D} {te : TE} {f : D → Bool} {cs : List (Option V)} {Q : VK} (e : H1 a = some (.tup xs)) (r : Reps H1 xs l) (hz : l.length ≤ 1000)
    (step : ∀ x d H' (R : VK), d ∈ l → Rep H' x d → Same H1 H' → (∀ H3, Same H' H3 → R (.bl (f d)) H3) → te (some x :: cs) H' R) (fin : ∀ H', Same H1 H' → Q (.bl (l.all f)) H') :
    ∃ W : Nat → Nat → List V → Hp → Prop, (∃ m, W 0 m [] H1) ∧ ∀ i m ys H, W i m ys H → ys.length ≤ sizeLine ∧ (((Itt K a).stop i H ∧ ∀ p, H p = none → (fun (v : V) (H2 : Hp) => ∃ (p : Addr) (bs : List Bool), [v] = [.ref p] ∧ SqL K H2 p (bs.map V.bl) ∧ Q (.bl (bs.all id)) H2) (.ref p) (upd H p (.lst ys))) ∨
      ((Itt K a).go i H ∧ ∀ x H', (Itt K a).yld i H x H' → tYes (some x :: cs) H' fun ok H2 => if ok = true then te (some x :: cs) H2 fun y H3 => ∃ m', m' < m ∧ W (i + 1) m' (ys ++ [y]) H3 else ∃ m', m' < m ∧ W (i + 1) m' ys H2)) := by
  have hlen := r.length
  refine comp_tup (K := K) (te := te) (cs := cs) (Q := fun (v : V) (H2 : Hp) => ∃ (p : Addr) (bs : List Bool), [v] = [.ref p] ∧ SqL K H2 p (bs.map V.bl) ∧ Q (.bl (bs.all id)) H2) (g := fun i => .bl (f (l.getD i .non))) (SqT.of e) (by rw [hlen]; exact small hz) (fun i x H' R hx hs hR => ?_) fun p H' hs hn => ?_
  · obtain ⟨d, hd, rd⟩ := r.get hx
    have ed : l.getD i .non = d := by simp [List.getD, hd]
    refine step x d H' R (List.mem_of_getElem? hd) (rd.up hs) hs fun H3 s3 => ?_
    have := hR H3 (hs.trans s3)
    rw [ed] at this; exact this
  · refine ⟨p, (List.range xs.length).map fun i => f (l.getD i .non), rfl, ?_, ?_⟩
    · refine SqL.of ?_
      rw [upd_same, List.map_map]; rfl
    · have ea : ((List.range xs.length).map fun i => f (l.getD i .non)).all id = l.all f := by
        rw [hlen, Bool.eq_iff_iff, List.all_eq_true, List.all_eq_true]
        constructor
        · intro h d hd
          obtain ⟨i, hi, ei⟩ := List.mem_iff_getElem.mp hd
          have := h (f (l.getD i .non)) (List.mem_map.mpr ⟨i, List.mem_range.mpr hi, rfl⟩)
          have e2 : l.getD i .non = d := by simp [List.getD, hi, ei]
          rw [e2] at this; exact this
        · intro h b hb
          obtain ⟨i, hi, rfl⟩ := List.mem_map.mp hb
          have hi' := List.mem_range.mp hi
          have e2 : l.getD i .non = l[i] := by simp [List.getD, hi']
          show f (l.getD i .non) = true
          rw [e2]; exact h _ (List.getElem_mem hi')
      rw [ea]
      exact fin _ (hs.trans (same_new hn _))
/-- the same, where thing stands in slot i -/
theorem all_te {K : PySem.W.Frag} {i : Nat} {te : TE} {caps : List (Str × Nat)} {σ : St} {H : Hp} {Q : VK} {a : Addr} {xs : List V} {l : List D} (f : D → Bool) (hσ : σ[i]? = some (some (.ref a))) (e : H a = some (.tup xs)) (r : Reps H xs l) (hz : l.length ≤ 1000)
    (step : ∀ x d H' (R : VK), d ∈ l → Rep H' x d → Same H H' → (∀ H3, Same H' H3 → R (.bl (f d)) H3) → te (some x :: caps.map fun p => (σ[p.2]?).join) H' R) (fin : ∀ H', Same H H' → Q (.bl (l.all f)) H') :
    tCB (fun xs H Q => ∃ (p : Addr) (bs : List Bool), xs = [.ref p] ∧ SqL K H p (bs.map V.bl) ∧ Q (.bl (bs.all id)) H) (tCons (tComp (iTup K (tVar i)) tYes te caps) tNil) σ H Q :=
  ⟨_, hσ, a, rfl, ⟨_, SqT.of e⟩, all_read (f := f) e r hz step fin⟩
def rLen (K : PySem.W.Frag) : List V → Hp → VK → Prop := fun xs H Q => ∃ p ys, xs = [.ref p] ∧ (SqL K H p ys ∨ SqT K H p ys) ∧ Q (.int ys.length) H
theorem call_lenK {X : Cx} {K : PySem.W.Frag} (hK : X.K = K := by rfl) : CallR X (.builtin "len") (rLen K) := by subst hK; exact call_len_seq
theorem ix_tupK {X : Cx} {K : PySem.W.Frag} (hK : X.K = K := by rfl) : IxR X (rIxT K) := by subst hK; exact ix_tup
section
variable {P : Program} {w : World} {K : PySem.W.Frag} {mg : Str → Option Value} {base : Heap} {f : Addr} {fd : FuncData}
theorem scWhole : FnScope ["thing"] ["thing"] (defScope sWhole) := ⟨rfl, rfl, rfl, by decide +kernel, rfl, by decide +kernel, by decide +kernel⟩
theorem ok_whole (F : Fun K "is_whole" "is_whole" sWhole f fd) (T : Txt mg) : FnOk P w K mg base CX0 1 f fd ["thing"] (sp1 isWhole) := by
  refine F.ok scWhole (fun vs H Q E h => ?_) (fun cdv A outer s H vs Q E hr h => ?_)
  · obtain ⟨v, d, rfl, _⟩ := h; rfl
  obtain ⟨v, d, rfl, hv, q⟩ := h
  refine ⟨_, pss_one (ps_ret (pe_and (pe_callB call_isinst rfl T.isin boot_isin (pa_cons (pv 0) (pa_cons (pe_bltn (v := .ty "int") rfl T.int boot_int rfl) pa_nil))) (pe_one (pe_not (pe_callB call_isinst rfl T.isin boot_isin (pa_cons (pv 0) (pa_cons (pe_bltn (v := .ty "bool") rfl T.bool boot_bool rfl) pa_nil))))))), ?_⟩
  obtain ⟨t, ty, k1, k2, k3⟩ := ty_of (K := K) hv
  have q0 := q H (Same.refl H)
  refine ⟨v, rfl, v, t, "int", _, rfl, ty, k1, _, rfl, ite2 (fun c => ?_) (fun c => ?_)⟩
  · refine ⟨v, rfl, v, t, "bool", _, rfl, ty, k2, _, rfl, ?_⟩
    have e : isWhole d = !isBlD d := by cases d <;> first | rfl | (cases c)
    rw [e] at q0; exact q0
  · have e : isWhole d = false := by cases d <;> first | rfl | exact absurd rfl c
    rw [e] at q0; exact q0
theorem scTupOf : FnScope ["thing", "least", "most"] ["thing", "least", "most"] (defScope sTupOf) := ⟨rfl, rfl, rfl, by decide +kernel, rfl, by decide +kernel, by decide +kernel⟩
theorem ok_tupOf (F : Fun K "is_tuple_of" "is_tuple_of" sTupOf f fd) (T : Txt mg) : FnOk P w K mg base CX0 1 f fd ["thing", "least", "most"] spTup := by
  refine F.ok scTupOf (fun vs H Q E h => ?_) (fun cdv A outer s H vs Q E hr h => ?_)
  · obtain ⟨v, d, lo, hi, rfl, _⟩ := h; rfl
  obtain ⟨v, d, lo, hi, rfl, hv, q⟩ := h
  refine ⟨_, pss_one (ps_ret (pe_and (pe_callB call_isinst rfl T.isin boot_isin (pa_cons (pv 0) (pa_cons (pe_bltn (v := .ty "tuple") rfl T.tuple boot_tuple rfl) pa_nil))) (pe_one (pe_chain op_le op_le (pv 1) (pe_callB call_len_seq rfl T.len PySem.boot_len (pa_cons (pv 0) pa_nil)) (pv 2))))), ?_⟩
  obtain ⟨t, ty, k1, k2, k3⟩ := ty_of (K := K) hv
  have q0 := q H (Same.refl H)
  refine ⟨v, rfl, v, t, "tuple", _, rfl, ty, k3, _, rfl, ite2 (fun c => ?_) (fun c => ?_)⟩
  · cases hv with
    | @tup a xs ds e r =>
      have hl := r.length
      refine ⟨_, rfl, _, rfl, a, xs, rfl, .inr (SqT.of e), _, _, rfl, rfl, _, rfl, ite2 (fun c1 => ?_) (fun c1 => ?_)⟩
      · refine ⟨_, rfl, _, _, rfl, rfl, ?_⟩
        have e1 : isTupOf lo hi (.tup ds) = decide ((xs.length : Int) ≤ hi) := by
          show (decide (lo ≤ (ds.length : Int)) && decide ((ds.length : Int) ≤ hi)) = _
          rw [← hl, c1, Bool.true_and]
        rw [e1] at q0; exact q0
      · have e1 : isTupOf lo hi (.tup ds) = false := by
          show (decide (lo ≤ (ds.length : Int)) && decide ((ds.length : Int) ≤ hi)) = _
          rw [← hl, Bool.eq_false_iff.mpr c1, Bool.false_and]
        rw [e1] at q0; exact q0
    | _ => cases c
  · have e : isTupOf lo hi d = false := by cases d <;> first | rfl | exact absurd rfl c
    rw [e] at q0; exact q0
end
end K2

set_option Elab.async false
set_option linter.all false
set_option maxRecDepth 100000
set_option maxHeartbeats 4000000
namespace K2
open PySem L2
theorem mem_room {k : Nat} {A : Around} (hr : Room k A) : A.units + 8 < cLine := by have := hr.un; omega
section
variable {P : Program} {w : World} {K : PySem.W.Frag} {mg : Str → Option Value} {base : Heap} {f : Addr} {fd : FuncData}
theorem scHas : FnScope ["tiles", "thing"] ["tiles", "thing"] (defScope sHas) := ⟨rfl, rfl, rfl, by decide +kernel, rfl, by decide +kernel, by decide +kernel⟩
theorem ok_has {g : Addr} {gd : FuncData} (F : Fun K "has_number" "has_number" sHas f fd) (T : Txt mg) (G : FnOk P w K mg base CX0 1 g gd ["thing"] (sp1 isWhole)) (bG : Binds K gd ["thing"] []) (kG : PySem.W.keepIn K (.ref g) = true) (mG : mg "is_whole" = some (.ref g)) :
    FnOk P w K mg base CX0 2 f fd ["tiles", "thing"] (sp2 hasNum) := by
  refine F.ok scHas (fun vs H Q E h => ?_) (fun cdv A outer s H vs Q E hr h => ?_)
  · obtain ⟨t, v, d, ts, rfl, _⟩ := h; rfl
  obtain ⟨t, v, d, ts, rfl, ht, hv, q⟩ := h
  refine ⟨_, pss_one (ps_ret (pe_and (pe_call G hr rfl mG kG bG .nil pass0 (pa_cons (pv 1) pa_nil)) (pe_one (pe_chain op_le op_lt pe_int (pv 1) (pe_callB call_len_seq rfl T.len PySem.boot_len (pa_cons (pv 0) pa_nil)))))), ?_⟩
  refine ⟨v, rfl, v, d, rfl, hv, fun H1 s1 => ⟨_, rfl, ite2 (fun c => ?_) (fun c => ?_)⟩⟩
  · have q0 := q H1 s1
    cases hv with
    | int i =>
      refine ⟨_, rfl, _, _, rfl, rfl, _, rfl, ite2 (fun c1 => ?_) (fun c1 => ?_)⟩
      · cases ht.up s1 with
        | @tup a xs ds e r =>
          refine ⟨_, rfl, a, xs, rfl, .inr (SqT.of e), _, _, rfl, rfl, ?_⟩
          have e1 : hasNum ts.length (.int i) = decide (i < (xs.length : Int)) := by show (decide (0 ≤ i) && decide (i < (ts.length : Int))) = _; rw [c1, Bool.true_and, r.length]
          rw [e1] at q0; exact q0
      · have e1 : hasNum ts.length (.int i) = false := by show (decide (0 ≤ i) && decide (i < (ts.length : Int))) = _; rw [Bool.eq_false_iff.mpr c1, Bool.false_and]
        rw [e1] at q0; exact q0
    | _ => cases c
  · have q0 := q H1 s1
    have e : hasNum ts.length d = false := by cases d <;> first | rfl | exact absurd rfl c
    rw [e] at q0; exact q0
theorem scMay : FnScope ["tiles", "thing"] ["tiles", "thing"] (defScope sMay) := ⟨rfl, rfl, rfl, by decide +kernel, rfl, by decide +kernel, by decide +kernel⟩
theorem ok_may {g : Addr} {gd : FuncData} (F : Fun K "may_lie" "may_lie" sMay f fd) (G : FnOk P w K mg base CX0 2 g gd ["tiles", "thing"] (sp2 hasNum)) (bG : Binds K gd ["tiles", "thing"] []) (kG : PySem.W.keepIn K (.ref g) = true) (mG : mg "has_number" = some (.ref g)) :
    FnOk P w K mg base CX0 3 f fd ["tiles", "thing"] (sp2 mayLie) := by
  refine F.ok scMay (fun vs H Q E h => ?_) (fun cdv A outer s H vs Q E hr h => ?_)
  · obtain ⟨t, v, d, ts, rfl, _⟩ := h; rfl
  obtain ⟨t, v, d, ts, rfl, ht, hv, q⟩ := h
  refine ⟨_, pss_one (ps_ret (pe_or (pe_cmpR op_isN (pv 1) pe_non (nomark _)) (pe_one (pe_call G hr rfl mG kG bG .nil pass0 (pa_cons (pv 0) (pa_cons (pv 1) pa_nil)))))), ?_⟩
  refine ⟨v, rfl, rfl, _, rfl, ite2 (fun c => ?_) (fun c => ?_)⟩
  · have e : v = .non := of_decide_eq_true c
    subst e
    cases hv
    exact q H (Same.refl _)
  · refine ⟨_, rfl, v, rfl, t, v, d, ts, rfl, ht, hv, fun H1 s1 => ?_⟩
    have e : mayLie ts.length d = hasNum ts.length d := by
      cases hv with
      | non => exact absurd (decide_eq_true rfl) c
      | _ => rfl
    have q0 := q H1 s1
    rw [e] at q0; exact q0
end
end K2

set_option Elab.async false
set_option linter.all false
set_option maxRecDepth 100000
set_option maxHeartbeats 4000000
namespace K2
open PySem L2
/-- a comprehension over a range whose items are only known to be such -/
theorem comp_rngP {lo : Int} {n : Nat} {H1 : Hp} {Q : VK} {te : TE} {cs : List (Option V)} (G : Nat → V → Prop) (hz : n ≤ sizeLine)
    (step : ∀ i H' (R : VK), i < n → Same H1 H' → (∀ y H3, Same H1 H3 → G i y → R y H3) → te (some (.int (lo + i)) :: cs) H' R)
    (fin : ∀ p H' ys, Same H1 H' → H' p = none → ys.length = n → (∀ (i : Nat) y, ys[i]? = some y → G i y) → Q (.ref p) (upd H' p (.lst ys))) :
    ∃ W : Nat → Nat → List V → Hp → Prop, (∃ m, W 0 m [] H1) ∧ ∀ i m ys H, W i m ys H → ys.length ≤ sizeLine ∧ (((Itr lo n).stop i H ∧ ∀ p, H p = none → Q (.ref p) (upd H p (.lst ys))) ∨
      ((Itr lo n).go i H ∧ ∀ x H', (Itr lo n).yld i H x H' → tYes (some x :: cs) H' fun ok H2 => if ok = true then te (some x :: cs) H2 fun y H3 => ∃ m', m' < m ∧ W (i + 1) m' (ys ++ [y]) H3 else ∃ m', m' < m ∧ W (i + 1) m' ys H2)) := by
  refine ⟨fun i m ys H => m = n - i ∧ i ≤ n ∧ ys.length = i ∧ (∀ (j : Nat) y, ys[j]? = some y → G j y) ∧ Same H1 H, ⟨n, by simp, Nat.zero_le _, rfl, fun j y e => by simp at e, Same.refl _⟩, ?_⟩
  rintro i m ys H ⟨rfl, hi, hl, hg, hs⟩
  refine ⟨by omega, ?_⟩
  by_cases hlt : i < n
  · refine .inr ⟨hlt, fun x H' y => ?_⟩
    obtain ⟨rfl, rfl⟩ := y
    unfold tYes
    refine iteT ?_
    refine step i _ _ hlt hs fun y H3 hs3 gy => ⟨n - (i + 1), by omega, rfl, hlt, by rw [List.length_append, hl]; rfl, fun j z e => ?_, hs3⟩
    by_cases hj : j < ys.length
    · rw [List.getElem?_append_left hj] at e; exact hg j z e
    · have : j = i := by
        have := (List.getElem?_eq_some_iff.mp e).1
        rw [List.length_append, List.length_singleton] at this
        omega
      subst this
      rw [List.getElem?_append_right (by omega), hl, Nat.sub_self] at e
      have : y = z := by simpa using e
      subst this; exact gy
  · have e : i = n := by omega
    subst e
    exact .inl ⟨Nat.le_refl _, fun p hp => fin p H ys hs hp hl hg⟩
theorem comp_rng_te {n : Int} {te : TE} {caps : List (Str × Nat)} {σ : St} {H : Hp} {Q : VK} (G : Nat → V → Prop) (h0 : 0 ≤ n) (hn : n ≤ 1000)
    (step : ∀ i H' (R : VK), i < n.toNat → Same H H' → (∀ y H3, Same H H3 → G i y → R y H3) → te (some (.int (0 + (i : Int))) :: caps.map fun p => (σ[p.2]?).join) H' R)
    (fin : ∀ p H' ys, Same H H' → H' p = none → ys.length = n.toNat → (∀ (i : Nat) y, ys[i]? = some y → G i y) → Q (.ref p) (upd H' p (.lst ys))) :
    tComp (iRng1 (tCons (tC (.int n)) tNil)) tYes te caps σ H Q :=
  ⟨n, rfl, by omega, by omega, comp_rngP G (small (by omega)) step fin⟩
theorem at_int {ns : List Int} {k : Int} (h0 : 0 ≤ k) (h : k < (ns.length : Int)) : ∃ v : Int, atI (ns.map V.int) k = some (.int v) := by
  have hk : k.toNat < ns.length := by omega
  have q : atI (ns.map V.int) ((k.toNat : Nat) : Int) = some (.int ns[k.toNat]) := atI_nat (by rw [List.getElem?_map, List.getElem?_eq_getElem hk] <;> rfl)
  have ek : ((k.toNat : Nat) : Int) = k := by omega
  rw [ek] at q
  exact ⟨_, q⟩
theorem room64 {k : Nat} {A : Around} (hr : Room k A) : A.units + 64 < cLine := hr.units
def spCell (K : PySem.W.Frag) : Sp := fun vs H Q _ => ∃ (a : Addr) (ns : List Int) (k : Int), vs = [.ref a, .int k] ∧ SqL K H a (ns.map V.int) ∧ 0 ≤ k ∧ ∀ i H', Same H H' → Q (.int i) H'
def spPick (K : PySem.W.Frag) : Sp := fun vs H Q _ => ∃ (a : Addr) (ns : List Int) (k m : Int), vs = [.ref a, .int k, .int m] ∧ SqL K H a (ns.map V.int) ∧ 0 ≤ k ∧ 0 < m ∧ ∀ i H', 0 ≤ i → i < m → Same H H' → Q (.int i) H'
section
variable {P : Program} {w : World} {K : PySem.W.Frag} {mg : Str → Option Value} {base : Heap} {f : Addr} {fd : FuncData}
theorem scCell : FnScope ["_law_script", "_law_k"] ["_law_script", "_law_k"] (defScope sCell) := ⟨rfl, rfl, rfl, by decide +kernel, rfl, by decide +kernel, by decide +kernel⟩
theorem ok_cell (F : Fun K "_law_cell" "_law_cell" sCell f fd) (T : Txt mg) : FnOk P w K mg base CX0 1 f fd ["_law_script", "_law_k"] (spCell K) := by
  refine F.ok scCell (fun vs H Q E h => ?_) (fun cdv A outer s H vs Q E hr h => ?_)
  · obtain ⟨a, ns, k, rfl, _⟩ := h; rfl
  obtain ⟨a, ns, k, rfl, hS, h0, q⟩ := h
  refine ⟨_, pss_cons (ps_if (pt_cmpR op_lt (pv 1) (pe_callB call_len_seq rfl T.len PySem.boot_len (pa_cons (pv 0) pa_nil)) (nomark _)) (pss_one (ps_ret (pe_ix ix_list (pv 0) (pv 1) (fun _ _ => rfl)))) pss_nil)
    (pss_cons (ps_if (pt_cmpR (op_eq_ints (room64 hr)) (pv 0) (pe_lst pa_nil) (nomark _)) (pss_one (ps_ret pe_int)) pss_nil)
    (pss_one (ps_ret (pe_op op_add (pe_op op_mul (pe_ix ix_list (pv 0) (pe_op op_mod (pv 1) (pe_callB call_len_seq rfl T.len PySem.boot_len (pa_cons (pv 0) pa_nil))) (fun _ _ => rfl)) pe_int) (pv 1))))), ?_⟩
  have hl : (ns.map V.int).length = ns.length := List.length_map _
  refine ⟨_, rfl, _, rfl, a, _, rfl, .inl hS, _, _, rfl, rfl, _, rfl, ite2 (fun c => ?_) (fun c => ?_)⟩
  · have c' : k < (((ns.map V.int).length : Nat) : Int) := of_decide_eq_true c
    rw [hl] at c'
    obtain ⟨v, hv⟩ := at_int h0 c'
    exact ⟨_, rfl, _, rfl, a, _, _, _, rfl, rfl, hS, hv, q _ H (Same.refl _)⟩
  · refine ⟨_, rfl, (by show 0 ≤ sizeLine; decide), fun p hp => ?_⟩
    have sm := same_new hp (.lst [])
    refine ⟨a, p, ns, [], rfl, rfl, sm.seq hS, SqL.of upd_same, _, rfl, ite2 (fun c1 => ?_) (fun c1 => ?_)⟩
    · exact q _ _ sm
    · have hne : ns ≠ [] := fun z => c1 (decide_eq_true z)
      have hpos : (0 : Int) < (((ns.map V.int).length : Nat) : Int) := by
        rw [hl]
        have := List.length_pos_iff.mpr hne
        omega
      obtain ⟨v, hv⟩ := at_int (ns := ns) (k := k % (((ns.map V.int).length : Nat) : Int)) (Int.emod_nonneg _ (by omega)) (by have := Int.emod_lt_of_pos k hpos; rw [hl] at this ⊢; exact this)
      exact ⟨_, rfl, _, rfl, _, rfl, a, _, rfl, .inl (sm.seq hS), _, _, rfl, rfl, hpos, a, _, _, _, rfl, rfl, sm.seq hS, hv, _, _, rfl, rfl, .inr ⟨by decide, by decide⟩, _, rfl, _, _, rfl, rfl, q _ _ sm⟩
theorem scPick : FnScope ["_law_script", "_law_k", "_law_many", "_law_drawn"] ["_law_script", "_law_k", "_law_many"] (defScope sPick) := ⟨rfl, rfl, rfl, by decide +kernel, rfl, by decide +kernel, by decide +kernel⟩
theorem ok_pick {g : Addr} {gd : FuncData} (F : Fun K "_law_pick" "_law_pick" sPick f fd) (G : FnOk P w K mg base CX0 1 g gd ["_law_script", "_law_k"] (spCell K)) (bG : Binds K gd ["_law_script", "_law_k"] []) (kG : PySem.W.keepIn K (.ref g) = true) (mG : mg "_law_cell" = some (.ref g)) :
    FnOk P w K mg base CX0 2 f fd ["_law_script", "_law_k", "_law_many"] (spPick K) := by
  refine F.ok scPick (fun vs H Q E h => ?_) (fun cdv A outer s H vs Q E hr h => ?_)
  · obtain ⟨a, ns, k, m, rfl, _⟩ := h; rfl
  obtain ⟨a, ns, k, m, rfl, hS, h0, hm, q⟩ := h
  refine ⟨_, pss_cons (ps_set (i := 3) scPick.nd rfl (Or.inl rfl) (pe_op op_mod (pe_op op_mul (pe_op op_add (pe_call G hr rfl mG kG bG .nil pass0 (pa_cons (pv 0) (pa_cons (pv 1) pa_nil))) (pe_op op_mul pe_int (pe_op op_add (pv 1) pe_int))) pe_int) pe_int))
    (pss_one (ps_ret (pe_op op_mod (pe_op op_mod (pe_op op_add (pe_op op_mul (pv 3) (pv 3)) (pe_op op_fdiv (pv 3) pe_int)) pe_int) (pv 2)))), ?_⟩
  refine ⟨_, rfl, _, rfl, a, ns, k, rfl, hS, h0, fun i H1 s1 => ?_⟩
  refine ⟨_, rfl, _, _, rfl, rfl, _, _, rfl, rfl, .inl ⟨by decide, by decide⟩, _, _, rfl, rfl, _, _, rfl, rfl, .inr ⟨by decide, by decide⟩, _, _, rfl, rfl, (by decide : (0 : Int) < 2147483399), ?_⟩
  have d0 : 0 ≤ (i + 6151 * (k + 1)) * 40692 % 2147483399 := Int.emod_nonneg _ (by decide)
  have d1 : (i + 6151 * (k + 1)) * 40692 % 2147483399 < 2147483399 := Int.emod_lt_of_pos _ (by decide)
  refine ⟨_, rfl, _, rfl, _, _, rfl, rfl, .inl ⟨?_, ?_⟩, _, rfl, _, _, rfl, rfl, ⟨by decide, by decide⟩, _, _, rfl, rfl, _, _, rfl, rfl, (by decide : (0 : Int) < 2147483629), _, rfl, _, _, rfl, rfl, hm, q _ _ (Int.emod_nonneg _ (by omega)) (Int.emod_lt_of_pos _ hm) s1⟩
  · exact Int.lt_of_lt_of_le (by decide) d0
  · exact Int.lt_trans d1 (by decide)
end
end K2

set_option Elab.async false
set_option linter.all false
set_option maxRecDepth 100000
set_option maxHeartbeats 4000000
namespace K2
open PySem L2
/-! ### the tiles that are drawn -/
def TileK (k : List Int) : Prop := k.length = 4 ∧ ∀ i ∈ k, 0 ≤ i ∧ i ≤ 2
def tileD (k : List Int) : D := .tup (k.map D.int)
/-- items that are tuples of these values -/
def TupsAt (H : Hp) (ys : List V) (rs : List (List V)) : Prop := Paired (fun (v : V) (r : List V) => ∃ b, v = .ref b ∧ H b = some (.tup r)) ys rs
theorem TupsAt.up {H H' : Hp} (h : ∀ b xs, H b = some (.tup xs) → H' b = some (.tup xs)) : ∀ {ys : List V} {rs : List (List V)}, TupsAt H ys rs → TupsAt H' ys rs
  | _, _, .nil => .nil
  | _, _, .cons ⟨b, e, hb⟩ t => .cons ⟨b, e, h _ _ hb⟩ (TupsAt.up h t)
theorem TupsAt.snoc {H : Hp} {v : V} {r : List V} (h : ∃ b, v = .ref b ∧ H b = some (.tup r)) : ∀ {ys : List V} {rs : List (List V)}, TupsAt H ys rs → TupsAt H (ys ++ [v]) (rs ++ [r])
  | _, _, .nil => .cons h .nil
  | _, _, .cons x t => .cons x (TupsAt.snoc h t)
theorem TupsAt.length {H : Hp} {ys : List V} {rs : List (List V)} (h : TupsAt H ys rs) : ys.length = rs.length := Paired.length h
theorem TupsAt.keys {K : PySem.W.Frag} {H : Hp} : ∀ {ys : List V} {keys : List (List Int)}, TupsAt H ys (keys.map fun k => k.map V.int) → KeysAt K H ys keys
  | ys, [], h => by cases h; exact .nil
  | ys, k :: ks, h => by
    cases h with
    | cons x t =>
      obtain ⟨b, e, hb⟩ := x
      exact .cons ⟨b, e, SqT.of hb⟩ (TupsAt.keys t)
theorem ints_reps {H : Hp} : ∀ (k : List Int), Reps H (k.map V.int) (k.map D.int)
  | [] => .nil
  | i :: k => .cons (.int i) (ints_reps k)
theorem TupsAt.reps {H : Hp} : ∀ {ys : List V} {rs : List (List V)} {ds : List (List D)}, TupsAt H ys rs → Paired (fun r d => Reps H r d) rs ds → Reps H ys (ds.map D.tup)
  | _, _, _, .nil, .nil => .nil
  | _, _, _, .cons ⟨b, e, hb⟩ t, .cons r rt => by
    subst e
    exact .cons (.tup hb r) (TupsAt.reps t rt)
theorem keys_reps {H : Hp} : ∀ {ys : List V} {keys : List (List Int)}, TupsAt H ys (keys.map fun k => k.map V.int) → Reps H ys (keys.map tileD)
  | ys, [], h => by cases h; exact .nil
  | ys, k :: ks, h => by
    cases h with
    | cons x t =>
      obtain ⟨b, e, hb⟩ := x
      subst e
      exact .cons (.tup hb (ints_reps k)) (keys_reps t)
def spTiles (K : PySem.W.Frag) : Sp := fun vs H Q _ => ∃ (a : Addr) (ns : List Int) (k m : Int), vs = [.ref a, .int k, .int m] ∧ SqL K H a (ns.map V.int) ∧ 0 ≤ k ∧ 0 < m ∧ m ≤ 6 ∧
  ∀ v H' (keys : List (List Int)), Same H H' → 1 ≤ keys.length → (keys.length : Int) ≤ m → keys.Nodup → (∀ k ∈ keys, TileK k) → Rep H' v (.tup (keys.map tileD)) → Q v H'
theorem not_lst_tup {H : Hp} {m : Addr} {ys : List V} (h : H m = some (.lst ys)) {o : HO} : ∀ b xs, H b = some (.tup xs) → upd H m o b = some (.tup xs) := fun b xs e => by
  rw [upd_ne]; exact e
  rintro rfl
  rw [h] at e; cases e
theorem same_upd {H0 H : Hp} {m : Addr} (h0 : H0 m = none) (s : Same H0 H) (o : HO) : Same H0 (upd H m o) := fun b u e => by rw [upd_ne (ne_of_none e h0)]; exact s b u e
section
variable {P : Program} {w : World} {K : PySem.W.Frag} {mg : Str → Option Value} {base : Heap} {f : Addr} {fd : FuncData}
theorem scTiles : FnScope ["_law_script", "_law_at", "_law_most", "_law_colours", "_law_made", "_law_k", "_law_tile"] ["_law_script", "_law_at", "_law_most"] (defScope sTiles) := ⟨rfl, rfl, rfl, by decide +kernel, rfl, by decide +kernel, by decide +kernel⟩
theorem ok_tiles {g : Addr} {gd : FuncData} (F : Fun K "_law_tiles" "_law_tiles" sTiles f fd) (T : Txt mg) (G : FnOk P w K mg base CX0 2 g gd ["_law_script", "_law_k", "_law_many"] (spPick K)) (bG : Binds K gd ["_law_script", "_law_k", "_law_many"] []) (kG : PySem.W.keepIn K (.ref g) = true) (mG : mg "_law_pick" = some (.ref g)) :
    FnOk P w K mg base CX0 3 f fd ["_law_script", "_law_at", "_law_most"] (spTiles K) := by
  refine F.ok scTiles (fun vs H Q E h => ?_) (fun cdv A outer s H vs Q E hr h => ?_)
  · obtain ⟨a, ns, k, m, rfl, _⟩ := h; rfl
  obtain ⟨a, ns, k, m, rfl, hS, h0, hm, hm6, q⟩ := h
  refine ⟨_, pss_cons (ps_set (i := 3) scTiles.nd rfl (Or.inr rfl) (pe_op op_add pe_int (pe_call G hr rfl mG kG bG .nil pass0 (pa_cons (pv 0) (pa_cons (pv 1) (pa_cons pe_int pa_nil))))))
    (pss_cons (ps_set (i := 4) scTiles.nd rfl (Or.inl rfl) (pe_lst pa_nil))
    (pss_cons (ps_for PassesOwn.never rfl (pi_range1 rfl T.range (pa_cons (pe_op op_add pe_int (pe_call G hr rfl mG kG bG .nil pass0 (pa_cons (pv 0) (pa_cons (pe_op op_add (pv 1) pe_int) (pa_cons (pv 2) pa_nil))))) pa_nil)) (pg_name (i := 5) scTiles.nd rfl (Or.inr rfl))
      (pss_cons (ps_set (i := 6) scTiles.nd rfl (Or.inl rfl) (pe_callTy call_tuple_of rfl T.tuple boot_tuple (pa_cons (pe_comp (sc := defScope sTiles) (N := ["_law_script", "_law_at", "_law_most", "_law_colours", "_law_made", "_law_k", "_law_tile"]) (caps := [("_law_script", 0), ("_law_at", 1), ("_law_k", 5), ("_law_colours", 3)]) ?S (pi_range1 rfl T.range (pa_cons pe_int pa_nil)) (fun _ _ _ _ _ => pif_nil)
          (fun _ _ _ _ _ => pe_call G hr rfl mG kG bG .nil pass0 (pa_cons (pv 1) (pa_cons (pe_op op_add (pe_op op_add (pe_op op_add (pv 2) (pe_op op_mul pe_int (pv 3))) pe_int) (pv 0)) (pa_cons (pv 4) pa_nil))))) pa_nil)))
      (pss_cons (ps_if (pt_cmpR op_eq (pe_call G hr rfl mG kG bG .nil pass0 (pa_cons (pv 0) (pa_cons (pe_op op_add (pe_op op_add (pv 1) pe_int) (pv 5)) (pa_cons pe_int pa_nil)))) pe_int (nomark _))
        (pss_one (ps_set (i := 6) scTiles.nd rfl (Or.inl rfl) (pe_tup (pa_cons (pe_ix ix_tup (pv 6) pe_int (fun _ _ => rfl)) (pa_cons (pe_ix ix_tup (pv 6) pe_int (fun _ _ => rfl)) (pa_cons (pe_ix ix_tup (pv 6) pe_int (fun _ _ => rfl)) (pa_cons (pe_ix ix_tup (pv 6) pe_int (fun _ _ => rfl)) pa_nil))))))) pss_nil)
      (pss_one (ps_if (pt_cmpR (op_notin_keys (mem_room hr)) (pv 6) (pv 4) (by with_unfolding_all rfl)) (pss_one (ps_expr (pe_bm PySem.F.plainAttrs_list PySem.F.slot_list_append PySem.F.type_list_append mt_append (pv 4) (pa_cons (pv 6) pa_nil)))) pss_nil)))))
    (pss_one (ps_ret (pe_callTy call_tuple_of rfl T.tuple boot_tuple (pa_cons (pv 4) pa_nil)))))), ?_⟩
  case S => exact ⟨by decide +kernel, rfl, by decide +kernel, rfl, by decide +kernel, by decide +kernel, by decide +kernel, by decide +kernel⟩
  refine ⟨_, rfl, _, rfl, a, ns, k, 2, rfl, hS, h0, by decide, fun co H1 c0 c2 s1 => ?_⟩
  refine ⟨_, _, rfl, rfl, (by show 0 ≤ sizeLine; decide), fun mm hmm => ?_⟩
  have hmm0 : H mm = none := s1.free hmm
  have s2 : Same H (upd H1 mm (.lst [])) := s1.trans (same_new hmm _)
  refine ⟨_, rfl, _, rfl, _, _, rfl, rfl, _, rfl, a, ns, k + 1, m, rfl, s2.seq hS, by omega, hm, fun cnt H3 n0 n1 s3 => ?_⟩
  have e3 : H3 mm = some (.lst []) := s3 _ _ upd_same
  refine ⟨_, _, rfl, rfl, _, rfl, by omega, by omega, for_range (lo := 0) (n := (1 + cnt).toNat)
    (fun i σ H4 => ∃ (ys : List V) (keys : List (List Int)) (vk vt : Option V), σ = [some (.ref a), some (.int k), some (.int m), some (.int (2 + co)), some (.ref mm), vk, vt] ∧ Same H H4 ∧ H4 mm = some (.lst ys) ∧ TupsAt H4 ys (keys.map fun k => k.map V.int) ∧ keys.Nodup ∧ (∀ k ∈ keys, TileK k) ∧ keys.length ≤ i ∧ (1 ≤ i → 1 ≤ keys.length))
    ⟨[], [], none, none, rfl, s2.trans s3, e3, .nil, List.nodup_nil, (fun _ z => nomatch z), Nat.le_refl _, (fun z => absurd z (by decide))⟩ ?_ ?_⟩
  · rintro i σ H4 hi ⟨ys, keys, vk, vt, rfl, s4, e4, ta, nd, tk, hk, _⟩
    -- tile = tuple([..])
    have hi0 : (0 : Int) ≤ 0 + (i : Int) := by omega
    dsimp only [gName, tSeq, tAsg, tCB]
    refine comp_rng_te (fun _ y => ∃ z : Int, y = .int z ∧ 0 ≤ z ∧ z ≤ 2) ?_ ?_ ?_ ?_
    · decide
    · decide
    · intro j H5 R hj s5 hR
      refine ⟨_, rfl, _, rfl, _, rfl, _, _, rfl, rfl, .inl ⟨by decide, by decide⟩, _, _, rfl, rfl, _, _, rfl, rfl, _, rfl, _, _, rfl, rfl, _, rfl, a, ns, _, 2 + co, rfl, (s4.trans s5).seq hS, ?_, by omega, fun z H6 z0 z1 s6 => hR _ _ (s5.trans s6) ⟨z, rfl, z0, by omega⟩⟩
      show 0 ≤ k + 4 * (0 + (i : Int)) + 2 + (0 + (j : Int))
      omega
    · intro p H5 zs s5 hp hz hg
      refine ⟨p, zs, rfl, .inl ⟨SqL.of upd_same, fun t ht => ?_⟩⟩
      -- the items are four ints
      obtain ⟨ks, ek, hks⟩ : ∃ ks : List Int, zs = ks.map V.int ∧ TileK ks := by
        have key : ∀ (zs : List V), (∀ y ∈ zs, ∃ z : Int, y = .int z ∧ 0 ≤ z ∧ z ≤ 2) → ∃ ks : List Int, zs = ks.map V.int ∧ ∀ i ∈ ks, 0 ≤ i ∧ i ≤ 2 := by
          intro zs
          induction zs with
          | nil => intro _; exact ⟨[], rfl, (fun _ z => nomatch z)⟩
          | cons y zs ih =>
            intro h
            obtain ⟨z, rfl, z0, z1⟩ := h y List.mem_cons_self
            obtain ⟨ks, rfl, hk⟩ := ih fun y hy => h y (List.mem_cons_of_mem _ hy)
            exact ⟨z :: ks, rfl, fun i hi => by
              rcases List.mem_cons.mp hi with rfl | hi
              · exact ⟨z0, z1⟩
              · exact hk i hi⟩
        obtain ⟨ks, ek, hk⟩ := key zs fun y hy => by
          obtain ⟨j, hj⟩ := List.getElem?_of_mem hy
          exact hg j y hj
        refine ⟨ks, ek, ?_, hk⟩
        rw [ek, List.length_map] at hz; exact hz
      subst ek
      have s6 : Same H4 (upd (upd H5 p (.lst (ks.map V.int))) t (.tup (ks.map V.int))) := (s5.trans (same_new hp _)).trans (same_new ht _)
      generalize hH6 : upd (upd H5 p (.lst (ks.map V.int))) t (.tup (ks.map V.int)) = H6 at s6
      have et : H6 t = some (.tup (ks.map V.int)) := by rw [← hH6]; exact upd_same
      -- if pick == 0
      refine ⟨_, rfl, _, rfl, _, _, rfl, rfl, _, rfl, _, _, rfl, rfl, a, ns, _, 3, rfl, (s4.trans s6).seq hS, ?_, by decide, fun z H7 z0 z1 s7 => ?_⟩
      · show 0 ≤ k + 60 + (0 + (i : Int)); omega
      -- what follows, for any tile
      have next : ∀ (t' : Addr) (ks' : List Int) (H8 : Hp), Same H4 H8 → H8 t' = some (.tup (ks'.map V.int)) → TileK ks' →
          tIfS (tTest (tOp (fun x y H Q => ∃ (p : Addr) (k : List Int) (l : Addr) (ys : List V) (keys : List (List Int)), x = .ref p ∧ SqT K H p (k.map V.int) ∧ y = .ref l ∧ SqL K H l ys ∧ KeysAt K H ys keys ∧ Q (.bl (!decide (k ∈ keys))) H) (tVar 6) (tVar 4)))
            (tDrop (tBM K "list" rAppend (tVar 4) (tCons (tVar 6) tNil))) tNext
            { nx := fun σ H4 => ∃ (ys : List V) (keys : List (List Int)) (vk vt : Option V), σ = [some (.ref a), some (.int k), some (.int m), some (.int (2 + co)), some (.ref mm), vk, vt] ∧ Same H H4 ∧ H4 mm = some (.lst ys) ∧ TupsAt H4 ys (keys.map fun k => k.map V.int) ∧ keys.Nodup ∧ (∀ k ∈ keys, TileK k) ∧ keys.length ≤ i + 1 ∧ (1 ≤ i + 1 → 1 ≤ keys.length), rt := Q }
            [some (.ref a), some (.int k), some (.int m), some (.int (2 + co)), some (.ref mm), some (.int (0 + (i : Int))), some (.ref t')] H8 := by
        intro t' ks' H8 s8 et' hk'
        have e8 := s8 _ _ e4
        have ta8 : TupsAt H8 ys (keys.map fun k => k.map V.int) := ta.up fun b xs z => s8 _ _ z
        have hn8 : ys.length = keys.length := by have := ta8.length; rw [List.length_map] at this; exact this
        refine ⟨_, rfl, _, rfl, t', ks', mm, ys, keys, rfl, SqT.of et', rfl, SqL.of e8, ta8.keys, _, rfl, ite2 (fun c => ?_) (fun c => ?_)⟩
        · have hnot : ¬ ks' ∈ keys := fun z => by rw [decide_eq_true z] at c; cases c
          refine ⟨_, rfl, .inl ⟨rfl, _, SqL.of e8⟩, _, rfl, mm, ys, _, rfl, rfl, e8, small1000 (by omega), ?_⟩
          refine ⟨ys ++ [.ref t'], keys ++ [ks'], _, _, rfl, same_upd hmm0 (s4.trans s8) _, upd_same, ?_, ?_, ?_, ?_, ?_⟩
          · rw [List.map_append]
            exact TupsAt.snoc ⟨t', rfl, not_lst_tup e8 _ _ et'⟩ (ta8.up (not_lst_tup e8))
          · rw [List.nodup_append]
            exact ⟨nd, by simp, fun x hx y hy e => by
              have : y = ks' := by simpa using hy
              subst this; subst e; exact hnot hx⟩
          · intro x hx
            rcases List.mem_append.mp hx with hx | hx
            · exact tk x hx
            · have : x = ks' := by simpa using hx
              subst this; exact hk'
          · rw [List.length_append, List.length_singleton]; omega
          · intro _; rw [List.length_append, List.length_singleton]; omega
        · have hin : ks' ∈ keys := by
            refine Classical.byContradiction fun z => c ?_
            rw [decide_eq_false z]; rfl
          refine ⟨ys, keys, _, _, rfl, s4.trans s8, e8, ta8, nd, tk, by omega, fun _ => ?_⟩
          cases keys with
          | nil => cases hin
          | cons x l => exact Nat.succ_le_succ (Nat.zero_le _)
      refine ⟨rfl, _, rfl, ite2 (fun c => ?_) (fun c => ?_)⟩
      · obtain ⟨l4, hb⟩ := hks
        match ks, l4 with
        | [i0, i1, i2, i3], _ =>
          have et7 : H7 t = some (.tup ([i0, i1, i2, i3].map V.int)) := s7 _ _ et
          refine ⟨_, rfl, t, _, 0, .int i0, rfl, rfl, SqT.of et7, rfl, _, rfl, t, _, 1, .int i1, rfl, rfl, SqT.of et7, rfl, _, rfl, t, _, 0, .int i0, rfl, rfl, SqT.of et7, rfl, _, rfl, t, _, 1, .int i1, rfl, rfl, SqT.of et7, rfl, (small (show 4 ≤ 1000 by decide)), fun t2 ht2 => ?_⟩
          refine next t2 [i0, i1, i0, i1] _ ((s6.trans s7).trans (same_new ht2 _)) upd_same ⟨rfl, fun x hx => ?_⟩
          have h0 := hb i0 (by simp)
          have h1 := hb i1 (by simp)
          simp only [List.mem_cons, List.not_mem_nil, or_false] at hx
          rcases hx with rfl | rfl | rfl | rfl
          · exact h0
          · exact h1
          · exact h0
          · exact h1
      · exact next t ks H7 (s6.trans s7) (s7 _ _ et) hks
  · rintro σ H4 ⟨ys, keys, vk, vt, rfl, s4, e4, ta, nd, tk, hk, h1⟩
    refine ⟨_, rfl, mm, ys, rfl, .inl ⟨SqL.of e4, fun l hl => ?_⟩⟩
    have sl := same_new hl (.tup ys)
    refine q _ _ keys (s4.trans sl) (h1 (by omega)) (by omega) nd tk (.tup upd_same ?_)
    exact keys_reps (ta.up (H' := upd H4 l (.tup ys)) fun b xs z => sl _ _ z)
end
end K2

set_option Elab.async false
set_option linter.all false
set_option maxRecDepth 100000
set_option maxHeartbeats 1000000
namespace K2
open PySem L2
/-! ### the floor that is drawn -/
/-- a number below n, or none -/
def Lies (n : Nat) (x : V) : Prop := x = .non ∨ ∃ i : Int, x = .int i ∧ 0 ≤ i ∧ i < (n : Int)
def flatD : V → D | .int i => .int i | .bl b => .bl b | .str x => .str x | _ => .non
theorem lies_rep {H : Hp} {n : Nat} {x : V} (h : Lies n x) : Rep H x (flatD x) ∧ mayLie n (flatD x) = true := by
  rcases h with rfl | ⟨i, rfl, h0, h1⟩
  · exact ⟨.non, rfl⟩
  · refine ⟨.int i, ?_⟩
    show (decide (0 ≤ i) && decide (i < (n : Int))) = true
    rw [decide_eq_true h0, decide_eq_true h1]; rfl
theorem lies_reps {H : Hp} {n : Nat} : ∀ {r : List V}, (∀ x ∈ r, Lies n x) → Reps H r (r.map flatD) ∧ (r.map flatD).all (mayLie n) = true
  | [], _ => ⟨.nil, rfl⟩
  | x :: r, h => by
    obtain ⟨h1, h2⟩ := lies_rep (H := H) (h x List.mem_cons_self)
    obtain ⟨h3, h4⟩ := lies_reps (H := H) (n := n) (r := r) fun y hy => h y (List.mem_cons_of_mem _ hy)
    exact ⟨.cons h1 h3, by rw [List.map_cons, List.all_cons, h2, h4]; rfl⟩
/-- rows of a floor: as many, as long -/
structure Rows (n r c : Nat) (rs : List (List V)) : Prop where
  len : rs.length = r
  row : ∀ x ∈ rs, x.length = c ∧ ∀ y ∈ x, Lies n y
theorem rows_reps {H : Hp} {n c : Nat} : ∀ {ys : List V} {rs : List (List V)}, TupsAt H ys rs → (∀ x ∈ rs, x.length = c ∧ ∀ y ∈ x, Lies n y) → Reps H ys (rs.map fun r => D.tup (r.map flatD))
  | _, _, .nil, _ => .nil
  | _, _, .cons ⟨b, e, hb⟩ t, h => by
    subst e
    exact .cons (.tup hb (lies_reps (h _ List.mem_cons_self).2).1) (rows_reps t fun x hx => h x (List.mem_cons_of_mem _ hx))
def spFloorL (K : PySem.W.Frag) : Sp := fun vs H Q _ => ∃ (a : Addr) (ns : List Int) (k : Int) (t : V) (ts : List D) (r c : Int), vs = [.ref a, .int k, t, .int r, .int c, .int 2] ∧ SqL K H a (ns.map V.int) ∧ 0 ≤ k ∧ Rep H t (.tup ts) ∧ 1 ≤ ts.length ∧ ts.length ≤ 6 ∧ 1 ≤ r ∧ r ≤ 3 ∧ 1 ≤ c ∧ c ≤ 4 ∧
  ∀ v H' (rs : List (List V)), Same H H' → Rows ts.length r.toNat c.toNat rs → (∃ b ys, v = .ref b ∧ H' b = some (.tup ys) ∧ TupsAt H' ys rs) → Q v H'
section
variable {P : Program} {w : World} {K : PySem.W.Frag} {mg : Str → Option Value} {base : Heap} {f : Addr} {fd : FuncData}
theorem scFloorL : FnScope ["_law_script", "_law_at", "_law_tiles_here", "_law_rows", "_law_columns", "_law_many", "_law_made", "_law_row", "_law_line", "_law_column", "_law_here"] ["_law_script", "_law_at", "_law_tiles_here", "_law_rows", "_law_columns", "_law_many"] (defScope sFloorL) :=
  ⟨rfl, rfl, rfl, by decide +kernel, rfl, by decide +kernel, by decide +kernel⟩
theorem ok_floorL {g : Addr} {gd : FuncData} (F : Fun K "_law_floor" "_law_floor" sFloorL f fd) (T : Txt mg) (G : FnOk P w K mg base CX0 2 g gd ["_law_script", "_law_k", "_law_many"] (spPick K)) (bG : Binds K gd ["_law_script", "_law_k", "_law_many"] []) (kG : PySem.W.keepIn K (.ref g) = true) (mG : mg "_law_pick" = some (.ref g)) :
    FnOk P w K mg base CX0 3 f fd ["_law_script", "_law_at", "_law_tiles_here", "_law_rows", "_law_columns", "_law_many"] (spFloorL K) := by
  refine F.ok scFloorL (fun vs H Q E h => ?_) (fun cdv A outer s H vs Q E hr h => ?_)
  · obtain ⟨a, ns, k, t, ts, r, c, rfl, _⟩ := h; rfl
  obtain ⟨a, ns, k, t, ts, r, c, rfl, hS, h0, ht, ht1, ht6, hr1, hr3, hc1, hc4, q⟩ := h
  refine ⟨_, pss_cons (ps_set (i := 6) scFloorL.nd rfl (Or.inl rfl) (pe_lst pa_nil))
    (pss_cons (ps_for PassesOwn.never rfl (pi_range1 rfl T.range (pa_cons (pv 3) pa_nil)) (pg_name (i := 7) scFloorL.nd rfl (Or.inl rfl))
      (pss_cons (ps_set (i := 8) scFloorL.nd rfl (Or.inl rfl) (pe_lst pa_nil))
      (pss_cons (ps_for PassesOwn.never rfl (pi_range1 rfl T.range (pa_cons (pv 4) pa_nil)) (pg_name (i := 9) scFloorL.nd rfl (Or.inl rfl))
        (pss_cons (ps_set (i := 10) scFloorL.nd rfl (Or.inl rfl) (pe_call G hr rfl mG kG bG .nil pass0 (pa_cons (pv 0) (pa_cons (pe_op op_add (pe_op op_add (pv 1) (pe_op op_mul pe_int (pv 7))) (pv 9)) (pa_cons (pe_op op_mul (pe_callB call_len_seq rfl T.len PySem.boot_len (pa_cons (pv 2) pa_nil)) (pv 5)) pa_nil)))))
        (pss_one (ps_expr (pe_bm PySem.F.plainAttrs_list PySem.F.slot_list_append PySem.F.type_list_append mt_append (pv 8) (pa_cons (pe_ifExp (pt_cmpR op_lt (pv 10) (pe_callB call_len_seq rfl T.len PySem.boot_len (pa_cons (pv 2) pa_nil)) (nomark _)) (pv 10) pe_non) pa_nil))))))
      (pss_one (ps_expr (pe_bm PySem.F.plainAttrs_list PySem.F.slot_list_append PySem.F.type_list_append mt_append (pv 6) (pa_cons (pe_callTy call_tuple_of rfl T.tuple boot_tuple (pa_cons (pv 8) pa_nil)) pa_nil)))))))
    (pss_one (ps_ret (pe_callTy call_tuple_of rfl T.tuple boot_tuple (pa_cons (pv 6) pa_nil))))), ?_⟩
  refine ⟨(by show 0 ≤ sizeLine; decide), fun mm hmm => ?_⟩
  have s1 : Same H (upd H mm (.lst [])) := same_new hmm _
  cases ht with
  | @tup ta txs _ te tr =>
  have hlt : txs.length = ts.length := tr.length
  refine ⟨_, rfl, r, rfl, by omega, by omega, for_range (lo := 0) (n := r.toNat)
    (fun i σ H2 => ∃ (ys : List V) (rs : List (List V)) (v7 v8 v9 v10 : Option V), σ = [some (.ref a), some (.int k), some (.ref ta), some (.int r), some (.int c), some (.int 2), some (.ref mm), v7, v8, v9, v10] ∧ Same H H2 ∧ H2 mm = some (.lst ys) ∧ TupsAt H2 ys rs ∧ rs.length = i ∧ ∀ x ∈ rs, x.length = c.toNat ∧ ∀ y ∈ x, Lies ts.length y)
    ⟨[], [], none, none, none, none, rfl, s1, upd_same, .nil, rfl, (fun _ z => nomatch z)⟩ ?_ ?_⟩
  · rintro i σ H2 hi ⟨ys, rs, v7, v8, v9, v10, rfl, s2, e2, tr2, hl2, hrow⟩
    refine ⟨(by show 0 ≤ sizeLine; decide), fun ll hll => ?_⟩
    have hll0 : H ll = none := s2.free hll
    have s3 := same_new hll (.lst [])
    have nml : mm ≠ ll := ne_of_none e2 hll
    refine ⟨_, rfl, c, rfl, by omega, by omega, for_range (lo := 0) (n := c.toNat)
      (fun j σ H3 => ∃ (zs : List V) (v9 v10 : Option V), σ = [some (.ref a), some (.int k), some (.ref ta), some (.int r), some (.int c), some (.int 2), some (.ref mm), some (.int (0 + (i : Int))), some (.ref ll), v9, v10] ∧ Same H2 H3 ∧ H3 ll = some (.lst zs) ∧ zs.length = j ∧ ∀ y ∈ zs, Lies ts.length y)
      ⟨[], v9, v10, rfl, s3, upd_same, rfl, (fun _ z => nomatch z)⟩ ?_ ?_⟩
    · rintro j σ H3 hj ⟨zs, v9', v10', rfl, s4, e4, hz, hly⟩
      have tsq : SqT K H3 ta txs := SqT.of (s4 _ _ (s2 _ _ te))
      refine ⟨_, rfl, _, rfl, _, rfl, _, _, rfl, rfl, .inl ⟨by decide, by decide⟩, _, _, rfl, rfl, _, rfl, _, _, rfl, rfl, _, rfl, ta, txs, rfl, .inr tsq, _, rfl, _, _, rfl, rfl, .inr ⟨by decide, by decide⟩, a, ns, _, _, rfl, (s2.trans s4).seq hS, ?_, ?_, fun z H5 z0 z1 s5 => ?_⟩
      · show 0 ≤ k + 7 * (0 + (i : Int)) + (0 + (j : Int)); omega
      · show 0 < (txs.length : Int) * 2; omega
      · have e5 := s5 _ _ e4
        have fin : ∀ y : V, Lies ts.length y → ∃ l xs y', V.ref ll = .ref l ∧ [y] = [y'] ∧ H5 l = some (.lst xs) ∧ xs.length < sizeLine ∧ ∃ (zs : List V) (v9 v10 : Option V), [some (V.ref a), some (.int k), some (.ref ta), some (.int r), some (.int c), some (.int 2), some (.ref mm), some (.int (0 + (i : Int))), some (.ref ll), some (.int (0 + (j : Int))), some (.int z)] = [some (.ref a), some (.int k), some (.ref ta), some (.int r), some (.int c), some (.int 2), some (.ref mm), some (.int (0 + (i : Int))), some (.ref ll), v9, v10] ∧ Same H2 (upd H5 l (.lst (xs ++ [y']))) ∧ (upd H5 l (.lst (xs ++ [y']))) ll = some (.lst zs) ∧ zs.length = j + 1 ∧ ∀ y ∈ zs, Lies ts.length y := fun y hy => by
          refine ⟨ll, zs, y, rfl, rfl, e5, small1000 (by omega), zs ++ [y], _, _, rfl, same_upd hll (s4.trans s5) _, upd_same, by rw [List.length_append, hz]; rfl, fun x hx => ?_⟩
          rcases List.mem_append.mp hx with hx | hx
          · exact hly x hx
          · have : x = y := by simpa using hx
            subst this; exact hy
        refine ⟨_, rfl, .inl ⟨rfl, _, SqL.of e5⟩, _, rfl, _, rfl, ta, txs, rfl, .inr (SqT.of (s5 _ _ (s4 _ _ (s2 _ _ te)))), _, _, rfl, rfl, _, rfl, ite2 (fun cc => ?_) (fun cc => ?_)⟩
        · exact ⟨_, rfl, fin _ (.inr ⟨z, rfl, z0, by rw [← hlt]; exact of_decide_eq_true cc⟩)⟩
        · exact fin _ (.inl rfl)
    · rintro σ H3 ⟨zs, v9', v10', rfl, s4, e4, hz, hly⟩
      have e3 := s4 _ _ e2
      refine ⟨_, rfl, .inl ⟨rfl, _, SqL.of e3⟩, _, rfl, ll, zs, rfl, .inl ⟨SqL.of e4, fun tt htt => ?_⟩⟩
      have s5 := same_new htt (.tup zs)
      refine ⟨mm, ys, _, rfl, rfl, s5 _ _ e3, small1000 (by have := tr2.length; omega), ?_⟩
      have nl := not_lst_tup (o := .lst (ys ++ [.ref tt])) (s5 _ _ e3)
      refine ⟨ys ++ [.ref tt], rs ++ [zs], _, _, _, _, rfl, same_upd hmm ((s2.trans s4).trans s5) _, upd_same, ?_, by rw [List.length_append, hl2]; rfl, fun x hx => ?_⟩
      · exact TupsAt.snoc ⟨tt, rfl, nl _ _ upd_same⟩ (tr2.up fun b xs z => nl _ _ (s5 _ _ (s4 _ _ z)))
      · rcases List.mem_append.mp hx with hx | hx
        · exact hrow x hx
        · have : x = zs := by simpa using hx
          subst this; exact ⟨hz, hly⟩
  · rintro σ H2 ⟨ys, rs, v7, v8, v9, v10, rfl, s2, e2, tr2, hl2, hrow⟩
    refine ⟨_, rfl, mm, ys, rfl, .inl ⟨SqL.of e2, fun l hl => ?_⟩⟩
    have sl := same_new hl (.tup ys)
    exact q _ _ rs (s2.trans sl) ⟨hl2, hrow⟩ ⟨l, ys, rfl, upd_same, tr2.up fun b xs z => sl _ _ z⟩
/-! ### the sides that are drawn -/
def tPairs : List (Int × Int) → TA
  | [] => tNil
  | p :: r => tCons (tTup (tCons (tC (.int p.1)) (tCons (tC (.int p.2)) tNil))) (tPairs r)
theorem pairs_read {σ : St} : ∀ (ps : List (Int × Int)) {H : Hp} {Q : List V → Hp → Prop}, (∀ H' vs, Same H H' → TupsAt H' vs (ps.map fun p => [.int p.1, .int p.2]) → Q vs H') → tPairs ps σ H Q
  | [], H, Q, h => h H [] (Same.refl _) .nil
  | p :: r, H, Q, h => by
    refine ⟨small (show 2 ≤ 1000 by decide), fun b hb => ?_⟩
    have sb := same_new hb (.tup [.int p.1, .int p.2])
    exact pairs_read r fun H' vs s' t' => h H' _ (sb.trans s') (.cons ⟨b, rfl, s' _ _ upd_same⟩ t')
def spSides (K : PySem.W.Frag) : Sp := fun vs H Q _ => ∃ (a : Addr) (ns : List Int) (k : Int), vs = [.ref a, .int k] ∧ SqL K H a (ns.map V.int) ∧ 0 ≤ k ∧ ∀ b H' (r c : Int), 1 ≤ r → r ≤ 3 → 1 ≤ c → c ≤ 4 → Same H H' → H' b = some (.tup [.int r, .int c]) → Q (.ref b) H'
theorem scSides : FnScope ["_law_script", "_law_at"] ["_law_script", "_law_at"] (defScope sSides) := ⟨rfl, rfl, rfl, by decide +kernel, rfl, by decide +kernel, by decide +kernel⟩
theorem TupsAt.at {H : Hp} : ∀ {ys : List V} {rs : List (List V)}, TupsAt H ys rs → ∀ {i : Nat} {r : List V}, rs[i]? = some r → ∃ b, ys[i]? = some (.ref b) ∧ H b = some (.tup r)
  | _, _, .nil, i, r, e => by simp at e
  | _, _, .cons ⟨b, e, hb⟩ _, 0, r, h => by simp at h; subst h; subst e; exact ⟨b, rfl, hb⟩
  | _, _, .cons _ t, i + 1, r, h => by
    obtain ⟨b, h1, h2⟩ := TupsAt.at t (i := i) (r := r) (by simpa using h)
    exact ⟨b, by simpa using h1, h2⟩
theorem pp_nil {X : Cx} : PA X [] (tPairs []) := pa_nil
theorem pp_cons {X : Cx} {i j : Int} {i1 i2 : Nat} {p1 p2 : Pos} {x1} {pos : Pos} {es : List Expr} {r : List (Int × Int)} (h : PA X es (tPairs r)) : PA X (.Tuple [.Constant (.int i) i1 p1, .Constant (.int j) i2 p2] x1 pos :: es) (tPairs ((i, j) :: r)) :=
  pa_cons (pe_tup (pa_cons pe_int (pa_cons pe_int pa_nil))) h
theorem sides_at {H : Hp} {vs : List V} (t : TupsAt H vs (([(1, 1), (1, 2), (2, 1), (2, 2), (2, 2), (1, 4), (2, 3), (3, 2), (3, 1), (2, 3)] : List (Int × Int)).map fun p => [.int p.1, .int p.2])) {i : Nat} (hi : i < 10) :
    ∃ (b : Addr) (r c : Int), vs[i]? = some (.ref b) ∧ H b = some (.tup [.int r, .int c]) ∧ 1 ≤ r ∧ r ≤ 3 ∧ 1 ≤ c ∧ c ≤ 4 := by
  have key : ∀ (ps : List (Int × Int)), (∀ p ∈ ps, 1 ≤ p.1 ∧ p.1 ≤ 3 ∧ 1 ≤ p.2 ∧ p.2 ≤ 4) → TupsAt H vs (ps.map fun p => [.int p.1, .int p.2]) → i < ps.length → ∃ (b : Addr) (r c : Int), vs[i]? = some (.ref b) ∧ H b = some (.tup [.int r, .int c]) ∧ 1 ≤ r ∧ r ≤ 3 ∧ 1 ≤ c ∧ c ≤ 4 := by
    intro ps hall t hk
    obtain ⟨b, hb1, hb2⟩ := t.at (i := i) (r := [.int ps[i].1, .int ps[i].2]) (by rw [List.getElem?_map, List.getElem?_eq_getElem hk]; rfl)
    exact ⟨b, _, _, hb1, hb2, hall _ (List.getElem_mem hk)⟩
  exact key _ (by decide) t hi
end
end K2

set_option Elab.async false
set_option linter.all false
set_option maxRecDepth 100000
set_option maxHeartbeats 400000
namespace K2
open PySem L2
section
variable {P : Program} {w : World} {K : PySem.W.Frag} {mg : Str → Option Value} {base : Heap} {f : Addr} {fd : FuncData}
theorem ok_sides {g : Addr} {gd : FuncData} (F : Fun K "_law_sides" "_law_sides" sSides f fd) (G : FnOk P w K mg base CX0 2 g gd ["_law_script", "_law_k", "_law_many"] (spPick K)) (bG : Binds K gd ["_law_script", "_law_k", "_law_many"] []) (kG : PySem.W.keepIn K (.ref g) = true) (mG : mg "_law_pick" = some (.ref g)) :
    FnOk P w K mg base CX0 3 f fd ["_law_script", "_law_at"] (spSides K) := by
  refine F.ok scSides (fun vs H Q E h => ?_) (fun cdv A outer s H vs Q E hr h => ?_)
  · obtain ⟨a, ns, k, rfl, _⟩ := h; rfl
  obtain ⟨a, ns, k, rfl, hS, h0, q⟩ := h
  refine ⟨tRet (tOp (rIxL K) (tLst (tPairs [(1, 1), (1, 2), (2, 1), (2, 2), (2, 2), (1, 4), (2, 3), (3, 2), (3, 1), (2, 3)])) (tCall (spPick K) [] E0 (tCons (tVar 0) (tCons (tVar 1) (tCons (tC (.int 10)) tNil))))), ?b, ?_⟩
  case b =>
    refine pss_one ?q
    with_reducible refine ps_ret ?_
    with_reducible refine pe_ix ?h1 ?h2 ?h3 ?h4
    case h1 => exact ix_list
    case h2 =>
      with_reducible refine pe_lst ?_
      with_reducible exact pp_cons (pp_cons (pp_cons (pp_cons (pp_cons (pp_cons (pp_cons (pp_cons (pp_cons (pp_cons pp_nil)))))))))
    case h3 => exact pe_call G hr rfl mG kG bG .nil pass0 (pa_cons (pv 0) (pa_cons (pv 1) (pa_cons pe_int pa_nil)))
    case h4 => exact fun _ _ => rfl
  dsimp only [tRet, tOp, tLst]
  refine pairs_read _ ?_
  intro H1 vs s1 t1
  have hvl : vs.length = 10 := by have := t1.length; rw [List.length_map] at this; exact this
  refine ⟨by rw [hvl]; exact small (show 10 ≤ 1000 by decide), fun l hl => ?_⟩
  have sl := same_new hl (.lst vs)
  refine ⟨_, rfl, _, rfl, a, ns, k, 10, rfl, (s1.trans sl).seq hS, h0, by decide, fun i H2 i0 i1 s2 => ?_⟩
  obtain ⟨b, r, c, hb1, hb2, g1, g2, g3, g4⟩ := sides_at t1 (i := i.toNat) (by omega)
  have ei : ((i.toNat : Nat) : Int) = i := by omega
  have hat : atI vs i = some (.ref b) := by have := atI_nat hb1; rw [ei] at this; exact this
  exact ⟨l, vs, i, _, rfl, rfl, SqL.of (s2 _ _ upd_same), hat, q b H2 r c g1 g2 g3 g4 ((s1.trans sl).trans s2) (s2 _ _ (sl _ _ hb2))⟩
end
end K2

set_option Elab.async false
set_option linter.all false
set_option maxRecDepth 100000
set_option maxHeartbeats 600000
namespace K2
open PySem L2
/-! ### floors: rows of values -/
structure Even (c : Nat) (rs : List (List V)) : Prop where
  one : 1 ≤ rs.length
  most : rs.length ≤ 100
  cols : c ≤ 100
  row : ∀ x ∈ rs, x.length = c
def Flr (H : Hp) (v : V) (rs : List (List V)) : Prop := ∃ b ys, v = .ref b ∧ H b = some (.tup ys) ∧ TupsAt H ys rs
theorem Flr.up {H H' : Hp} (s : Same H H') {v : V} {rs : List (List V)} (h : Flr H v rs) : Flr H' v rs := by
  obtain ⟨b, ys, e, hb, t⟩ := h
  exact ⟨b, ys, e, s _ _ hb, t.up fun b xs z => s _ _ z⟩
/-- a place -/
def Plc (H : Hp) (v : V) (i j : Int) : Prop := ∃ b, v = .ref b ∧ H b = some (.tup [.int i, .int j])
theorem Plc.up {H H' : Hp} (s : Same H H') {v : V} {i j : Int} (h : Plc H v i j) : Plc H' v i j := by
  obtain ⟨b, e, hb⟩ := h
  exact ⟨b, e, s _ _ hb⟩
def placesL (r c : Nat) : List (List V) := (List.range r).flatMap fun (i : Nat) => (List.range c).map fun (j : Nat) => [V.int (0 + (i : Int)), V.int (0 + (j : Int))]
theorem placesL_succ (r c : Nat) : placesL (r + 1) c = placesL r c ++ (List.range c).map fun (j : Nat) => [V.int (0 + (r : Int)), V.int (0 + (j : Int))] := by
  unfold placesL
  rw [List.range_succ, List.flatMap_append, List.flatMap_cons, List.flatMap_nil, List.append_nil]
theorem placesL_len (c : Nat) : ∀ r, (placesL r c).length = r * c
  | 0 => by rw [Nat.zero_mul]; rfl
  | r + 1 => by rw [placesL_succ, List.length_append, placesL_len c r, List.length_map, List.length_range, Nat.succ_mul]
def cellV (rs : List (List V)) (i j : Nat) : V := (rs.getD i []).getD j .non
def spSize : Sp := fun vs H Q _ => ∃ (v : V) (rs : List (List V)) (c : Nat), vs = [v] ∧ Flr H v rs ∧ Even c rs ∧ ∀ b H', Same H H' → H' b = some (.tup [.int (rs.length : Int), .int (c : Int)]) → Q (.ref b) H'
def spPlaces : Sp := fun vs H Q _ => ∃ (v : V) (rs : List (List V)) (c : Nat), vs = [v] ∧ Flr H v rs ∧ Even c rs ∧ ∀ l ys H', Same H H' → H l = none → H' l = some (.lst ys) → TupsAt H' ys (placesL rs.length c) → Q (.ref l) H'
def spNumber : Sp := fun vs H Q _ => ∃ (v p : V) (rs : List (List V)) (c i j : Nat), vs = [v, p] ∧ Flr H v rs ∧ Even c rs ∧ Plc H p (0 + (i : Int)) (0 + (j : Int)) ∧ i < rs.length ∧ j < c ∧ Q (cellV rs i j) H
section
variable {P : Program} {w : World} {K : PySem.W.Frag} {mg : Str → Option Value} {base : Heap} {f : Addr} {fd : FuncData}
theorem scSize : FnScope ["floor", "columns"] ["floor"] (defScope sSize) := ⟨rfl, rfl, rfl, by decide +kernel, rfl, by decide +kernel, by decide +kernel⟩
theorem first_row {H : Hp} {b : Addr} {ys : List V} {rs : List (List V)} {c : Nat} (t : TupsAt H ys rs) (ev : Even c rs) : ∃ b0 r0, atI ys 0 = some (.ref b0) ∧ H b0 = some (.tup r0) ∧ r0.length = c := by
  obtain ⟨r0, hr0⟩ : ∃ r0, rs[0]? = some r0 := ⟨rs[0]'(by have := ev.one; omega), List.getElem?_eq_getElem _⟩
  obtain ⟨b0, h1, h2⟩ := t.at hr0
  exact ⟨b0, r0, atI_nat (j := 0) h1, h2, ev.row r0 (List.mem_of_getElem? hr0)⟩
theorem ok_size (F : Fun K "size_of" "size_of" sSize f fd) (T : Txt mg) : FnOk P w K mg base CX0 1 f fd ["floor"] spSize := by
  refine F.ok scSize (fun vs H Q E h => ?_) (fun cdv A outer s H vs Q E hr h => ?_)
  · obtain ⟨v, rs, c, rfl, _⟩ := h; rfl
  obtain ⟨v, rs, c, rfl, ⟨fb, ys, rfl, ef, t⟩, ev, q⟩ := h
  refine ⟨_, pss_cons (ps_set (i := 1) scSize.nd rfl (Or.inl rfl) (pe_ifExp (pt_cmpR op_gt (pe_callB call_len_seq rfl T.len PySem.boot_len (pa_cons (pv 0) pa_nil)) pe_int (nomark _)) (pe_callB call_len_seq rfl T.len PySem.boot_len (pa_cons (pe_ix ix_tup (pv 0) pe_int (fun _ _ => rfl)) pa_nil)) pe_int))
    (pss_one (ps_ret (pe_tup (pa_cons (pe_callB call_len_seq rfl T.len PySem.boot_len (pa_cons (pv 0) pa_nil)) (pa_cons (pv 1) pa_nil))))), ?_⟩
  have hl : ys.length = rs.length := t.length
  obtain ⟨b0, r0, hat, e0, l0⟩ := first_row (b := fb) t ev
  refine ⟨_, rfl, fb, ys, rfl, .inr (SqT.of ef), _, _, rfl, rfl, _, rfl, ite2 (fun cc => ?_) (fun cc => ?_)⟩
  · refine ⟨_, rfl, fb, ys, 0, .ref b0, rfl, rfl, SqT.of ef, hat, b0, r0, rfl, .inr (SqT.of e0), ?_⟩
    refine ⟨_, rfl, fb, ys, rfl, .inr (SqT.of ef), _, rfl, small (show 2 ≤ 1000 by decide), fun p hp => ?_⟩
    refine q p _ (same_new hp _) ?_
    rw [upd_same, hl, l0]
  · refine absurd ?_ cc
    refine decide_eq_true ?_
    have := ev.one
    omega
theorem scPlaces : FnScope ["floor", "size", "places", "row", "column"] ["floor"] (defScope sPlaces) := ⟨rfl, rfl, rfl, by decide +kernel, rfl, by decide +kernel, by decide +kernel⟩
theorem ok_places {g : Addr} {gd : FuncData} (F : Fun K "places_of" "places_of" sPlaces f fd) (T : Txt mg) (G : FnOk P w K mg base CX0 1 g gd ["floor"] spSize) (bG : Binds K gd ["floor"] []) (kG : PySem.W.keepIn K (.ref g) = true) (mG : mg "size_of" = some (.ref g)) :
    FnOk P w K mg base CX0 2 f fd ["floor"] spPlaces := by
  refine F.ok scPlaces (fun vs H Q E h => ?_) (fun cdv A outer s H vs Q E hr h => ?_)
  · obtain ⟨v, rs, c, rfl, _⟩ := h; rfl
  obtain ⟨v, rs, c, rfl, hF, ev, q⟩ := h
  refine ⟨_, pss_cons (ps_set (i := 1) scPlaces.nd rfl (Or.inl rfl) (pe_call G hr rfl mG kG bG .nil pass0 (pa_cons (pv 0) pa_nil)))
    (pss_cons (ps_set (i := 2) scPlaces.nd rfl (Or.inl rfl) (pe_lst pa_nil))
    (pss_cons (ps_for PassesOwn.never rfl (pi_range1 rfl T.range (pa_cons (pe_ix ix_tup (pv 1) pe_int (fun _ _ => rfl)) pa_nil)) (pg_name (i := 3) scPlaces.nd rfl (Or.inl rfl))
      (pss_one (ps_for PassesOwn.never rfl (pi_range1 rfl T.range (pa_cons (pe_ix ix_tup (pv 1) pe_int (fun _ _ => rfl)) pa_nil)) (pg_name (i := 4) scPlaces.nd rfl (Or.inl rfl))
        (pss_one (ps_expr (pe_bm PySem.F.plainAttrs_list PySem.F.slot_list_append PySem.F.type_list_append mt_append (pv 2) (pa_cons (pe_tup (pa_cons (pv 3) (pa_cons (pv 4) pa_nil))) pa_nil)))))))
    (pss_one (ps_ret (pv 2))))), ?_⟩
  have hr1 := ev.one
  have hr100 := ev.most
  have hc100 := ev.cols
  refine ⟨_, rfl, v, rs, c, rfl, hF, ev, fun sb H1 s1 es => ⟨(by show 0 ≤ sizeLine; decide), fun mm hmm => ?_⟩⟩
  have hmm0 : H mm = none := s1.free hmm
  have s2 := s1.trans (same_new hmm (.lst []))
  have es2 : (upd H1 mm (.lst [])) sb = some (.tup [.int (rs.length : Int), .int (c : Int)]) := (same_new hmm _) _ _ es
  refine ⟨_, rfl, sb, _, 0, _, rfl, rfl, SqT.of es2, rfl, (rs.length : Int), rfl, by omega, by omega, for_range (lo := 0) (n := ((rs.length : Int)).toNat)
    (fun i σ H2 => ∃ (ys : List V) (v3 v4 : Option V), σ = [some v, some (.ref sb), some (.ref mm), v3, v4] ∧ Same H H2 ∧ H2 sb = some (.tup [.int (rs.length : Int), .int (c : Int)]) ∧ H2 mm = some (.lst ys) ∧ TupsAt H2 ys (placesL i c))
    ⟨[], none, none, rfl, s2, es2, upd_same, .nil⟩ ?_ ?_⟩
  · rintro i σ H2 hi ⟨ys, v3, v4, rfl, s3, e3, em, tp⟩
    have hin : i < rs.length := by omega
    refine ⟨_, rfl, sb, _, 1, _, rfl, rfl, SqT.of e3, rfl, (c : Int), rfl, by omega, by omega, for_range (lo := 0) (n := ((c : Int)).toNat)
      (fun j σ H3 => ∃ (ys : List V) (v4 : Option V), σ = [some v, some (.ref sb), some (.ref mm), some (.int (0 + (i : Int))), v4] ∧ Same H H3 ∧ H3 sb = some (.tup [.int (rs.length : Int), .int (c : Int)]) ∧ H3 mm = some (.lst ys) ∧ TupsAt H3 ys (placesL i c ++ (List.range j).map fun (j : Nat) => [V.int (0 + (i : Int)), V.int (0 + (j : Int))]))
      ⟨ys, v4, rfl, s3, e3, em, by rw [List.range_zero, List.map_nil, List.append_nil]; exact tp⟩ ?_ ?_⟩
    · rintro j σ H3 hj ⟨zs, v4', rfl, s4, e4, em4, tp4⟩
      have hzl : zs.length ≤ 20000 := by
        have h1 := tp4.length
        have h2 : (placesL i c).length = i * c := placesL_len c i
        rw [List.length_append, h2, List.length_map, List.length_range] at h1
        have h3 : i * c ≤ 100 * 100 := Nat.mul_le_mul (by omega) hc100
        omega
      refine ⟨_, rfl, .inl ⟨rfl, _, SqL.of em4⟩, _, rfl, _, rfl, small (show 2 ≤ 1000 by decide), fun tp htp => ?_⟩
      have a1 := same_new htp (.tup [.int (0 + (i : Int)), .int (0 + (j : Int))])
      have hline : (20000 : Nat) < sizeLine := by decide
      refine ⟨mm, zs, _, rfl, rfl, a1 _ _ em4, by omega, ?_⟩
      have nl := not_lst_tup (o := .lst (zs ++ [.ref tp])) (a1 _ _ em4)
      refine ⟨zs ++ [.ref tp], _, rfl, same_upd hmm0 (s4.trans a1) _, nl _ _ (a1 _ _ e4), upd_same, ?_⟩
      rw [List.range_succ, List.map_append, ← List.append_assoc]
      exact TupsAt.snoc ⟨tp, rfl, nl _ _ upd_same⟩ (tp4.up fun b xs z => nl _ _ (a1 _ _ z))
    · rintro σ H3 ⟨zs, v4', rfl, s4, e4, em4, tp4⟩
      refine ⟨zs, _, _, rfl, s4, e4, em4, ?_⟩
      rw [placesL_succ]
      rw [Int.toNat_natCast] at tp4
      exact tp4
  · rintro σ H2 ⟨ys, v3, v4, rfl, s3, e3, em, tp⟩
    rw [Int.toNat_natCast] at tp
    exact ⟨_, rfl, q mm ys H2 s3 hmm0 em tp⟩
theorem scNumber : FnScope ["floor", "place"] ["floor", "place"] (defScope sNumber) := ⟨rfl, rfl, rfl, by decide +kernel, rfl, by decide +kernel, by decide +kernel⟩
theorem ok_number (F : Fun K "number_at" "number_at" sNumber f fd) : FnOk P w K mg base CX0 1 f fd ["floor", "place"] spNumber := by
  refine F.ok scNumber (fun vs H Q E h => ?_) (fun cdv A outer s H vs Q E hr h => ?_)
  · obtain ⟨v, p, rs, c, i, j, rfl, _⟩ := h; rfl
  obtain ⟨v, p, rs, c, i, j, rfl, ⟨fb, ys, rfl, ef, t⟩, ev, ⟨pb, rfl, ep⟩, hi, hj, q⟩ := h
  refine ⟨_, pss_one (ps_ret (pe_ix ix_tup (pe_ix ix_tup (pv 0) (pe_ix ix_tup (pv 1) pe_int (fun _ _ => rfl)) (fun _ _ => rfl)) (pe_ix ix_tup (pv 1) pe_int (fun _ _ => rfl)) (fun _ _ => rfl))), ?_⟩
  obtain ⟨rb, h1, h2⟩ := t.at (i := i) (r := rs[i]) (List.getElem?_eq_getElem hi)
  have hlr : j < rs[i].length := by rw [ev.row _ (List.getElem_mem hi)]; exact hj
  have a1 : atI ys (0 + (i : Int)) = some (.ref rb) := by rw [Int.zero_add]; exact atI_nat h1
  have a2 : atI rs[i] (0 + (j : Int)) = some rs[i][j] := by rw [Int.zero_add]; exact atI_nat (List.getElem?_eq_getElem hlr)
  have ec : cellV rs i j = rs[i][j] := by
    unfold cellV
    simp [List.getD, hi, hlr]
  rw [ec] at q
  exact ⟨_, rfl, _, rfl, pb, _, 0, _, rfl, rfl, SqT.of ep, rfl, fb, ys, _, .ref rb, rfl, rfl, SqT.of ef, a1, _, rfl, pb, _, 1, _, rfl, rfl, SqT.of ep, rfl, rb, rs[i], _, _, rfl, rfl, SqT.of h2, a2, q⟩
end
end K2

set_option Elab.async false
set_option linter.all false
set_option maxRecDepth 100000
set_option maxHeartbeats 600000
namespace K2
open PySem L2
/-- [g(x) for x in xs if p(x)], xs a list that stays -/
theorem comp_flt {K : PySem.W.Frag} {H1 : Hp} {a : Addr} {xs : List V} {Q : VK} {tt : TT} {te : TE} {cs : List (Option V)} (p : Nat → Bool) (g : Nat → V) (hT : SqL K H1 a xs) (hz : xs.length ≤ sizeLine)
    (test : ∀ i x H' (R : Bool → Hp → Prop), xs[i]? = some x → Same H1 H' → (∀ H3, Same H1 H3 → R (p i) H3) → tt (some x :: cs) H' R)
    (step : ∀ i x H' (R : VK), xs[i]? = some x → Same H1 H' → (∀ H3, Same H1 H3 → R (g i) H3) → te (some x :: cs) H' R) (fin : ∀ q H', Same H1 H' → H' q = none → Q (.ref q) (upd H' q (.lst (((List.range xs.length).filter p).map g)))) :
    ∃ W : Nat → Nat → List V → Hp → Prop, (∃ m, W 0 m [] H1) ∧ ∀ i m ys H, W i m ys H → ys.length ≤ sizeLine ∧ (((Itl K a).stop i H ∧ ∀ p, H p = none → Q (.ref p) (upd H p (.lst ys))) ∨
      ((Itl K a).go i H ∧ ∀ x H', (Itl K a).yld i H x H' → tt (some x :: cs) H' fun ok H2 => if ok = true then te (some x :: cs) H2 fun y H3 => ∃ m', m' < m ∧ W (i + 1) m' (ys ++ [y]) H3 else ∃ m', m' < m ∧ W (i + 1) m' ys H2)) := by
  refine ⟨fun i m ys H => m = xs.length - i ∧ i ≤ xs.length ∧ ys = ((List.range i).filter p).map g ∧ Same H1 H, ⟨xs.length, by simp, Nat.zero_le _, rfl, Same.refl _⟩, ?_⟩
  rintro i m ys H ⟨rfl, hi, rfl, hs⟩
  have hl : (((List.range i).filter p).map g).length ≤ i := by
    rw [List.length_map]
    have := List.length_filter_le p (List.range i)
    rw [List.length_range] at this
    exact this
  refine ⟨by omega, ?_⟩
  by_cases hlt : i < xs.length
  · refine .inr ⟨⟨xs, xs[i], hs.seq hT, List.getElem?_eq_getElem hlt⟩, fun x H' y => ?_⟩
    obtain ⟨rfl, hy⟩ := y
    have hx := hy xs (hs.seq hT)
    refine test i x _ _ hx hs fun H3 s3 => ?_
    cases hp : p i with
    | true =>
      refine iteT (step i x H3 _ hx s3 fun H4 s4 => ⟨xs.length - (i + 1), by omega, rfl, hlt, ?_, s4⟩)
      rw [List.range_succ, List.filter_append, List.map_append, List.filter_cons, hp]; rfl
    | false =>
      refine iteF ⟨xs.length - (i + 1), by omega, rfl, hlt, ?_, s3⟩
      rw [List.range_succ, List.filter_append, List.filter_cons, hp]
      simp
  · have e : i = xs.length := by omega
    subst e
    exact .inl ⟨⟨xs, hs.seq hT, Nat.le_refl _⟩, fun q hq => fin q H hs hq⟩
def spHasP : Sp := fun vs H Q _ => ∃ (v p : V) (rs : List (List V)) (c : Nat) (i j : Int), vs = [v, p] ∧ Flr H v rs ∧ Even c rs ∧ Plc H p i j ∧ ∀ H', Same H H' → Q (.bl (decide (0 ≤ i ∧ i < (rs.length : Int) ∧ 0 ≤ j ∧ j < (c : Int)))) H'
section
variable {P : Program} {w : World} {K : PySem.W.Frag} {mg : Str → Option Value} {base : Heap} {f : Addr} {fd : FuncData}
theorem scHasP : FnScope ["floor", "place", "size"] ["floor", "place"] (defScope sHasP) := ⟨rfl, rfl, rfl, by decide +kernel, rfl, by decide +kernel, by decide +kernel⟩
theorem ok_hasP {g h z : Addr} {gd hd zd : FuncData} (F : Fun K "has_place" "has_place" sHasP f fd) (GT : FnOk P w K mg base CX0 1 g gd ["thing", "least", "most"] spTup) (bT : Binds K gd ["thing", "least", "most"] []) (kT : PySem.W.keepIn K (.ref g) = true) (mT : mg "is_tuple_of" = some (.ref g))
    (GW : FnOk P w K mg base CX0 1 h hd ["thing"] (sp1 isWhole)) (bW : Binds K hd ["thing"] []) (kW : PySem.W.keepIn K (.ref h) = true) (mW : mg "is_whole" = some (.ref h))
    (GZ : FnOk P w K mg base CX0 1 z zd ["floor"] spSize) (bZ : Binds K zd ["floor"] []) (kZ : PySem.W.keepIn K (.ref z) = true) (mZ : mg "size_of" = some (.ref z)) : FnOk P w K mg base CX0 2 f fd ["floor", "place"] spHasP := by
  refine F.ok scHasP (fun vs H Q E h => ?_) (fun cdv A outer s H vs Q E hr h => ?_)
  · obtain ⟨v, p, rs, c, i, j, rfl, _⟩ := h; rfl
  obtain ⟨v, p, rs, c, i, j, rfl, hF, ev, ⟨pb, rfl, ep⟩, q⟩ := h
  refine' ⟨_, ?b, ?fin⟩
  case b =>
    refine' pss_cons ?s1 ?r1
    case s1 =>
      exact ps_if (PW.pt (pw_or (pt_not (pt_val (pe_call GT hr rfl mT kT bT .nil pass0 (pa_cons (pv 1) (pa_cons pe_int (pa_cons pe_int pa_nil)))))) (pw_or (pt_not (pt_val (pe_call GW hr rfl mW kW bW .nil pass0 (pa_cons (pe_ix ix_tup (pv 1) pe_int (fun _ _ => rfl)) pa_nil)))) (pw_or1 (pt_not (pt_val (pe_call GW hr rfl mW kW bW .nil pass0 (pa_cons (pe_ix ix_tup (pv 1) pe_int (fun _ _ => rfl)) pa_nil)))))))) (pss_one (ps_ret pe_bl)) pss_nil
    case r1 =>
      refine' pss_cons ?s2 ?r2
      case s2 => exact ps_set (i := 2) scHasP.nd rfl (Or.inl rfl) (pe_call GZ hr rfl mZ kZ bZ .nil pass0 (pa_cons (pv 0) pa_nil))
      case r2 =>
        refine' pss_one ?s3
        case s3 => exact ps_ret (pe_and (pe_chain op_le op_lt pe_int (pe_ix ix_tup (pv 1) pe_int (fun _ _ => rfl)) (pe_ix ix_tup (pv 2) pe_int (fun _ _ => rfl))) (pe_one (pe_chain op_le op_lt pe_int (pe_ix ix_tup (pv 1) pe_int (fun _ _ => rfl)) (pe_ix ix_tup (pv 2) pe_int (fun _ _ => rfl)))))
  case fin =>
    have rp : Rep H (.ref pb) (.tup [.int i, .int j]) := .tup ep (.cons (.int i) (.cons (.int j) .nil))
    refine ⟨_, rfl, .ref pb, _, 2, 2, rfl, rp, fun H1 s1 => ⟨_, rfl, ?_⟩⟩
    refine iteF ?_
    refine ⟨_, rfl, pb, _, 0, _, rfl, rfl, SqT.of (s1 _ _ ep), rfl, .int i, .int i, rfl, .int i, fun H2 s2 => ⟨_, rfl, ?_⟩⟩
    refine iteF ?_
    have s12 := s1.trans s2
    refine ⟨_, rfl, pb, _, 1, _, rfl, rfl, SqT.of (s12 _ _ ep), rfl, .int j, .int j, rfl, .int j, fun H3 s3 => ⟨_, rfl, ?_⟩⟩
    refine iteF ?_
    have s13 := s12.trans s3
    refine ⟨_, rfl, v, rs, c, rfl, hF.up s13, ev, fun sb H4 s4 es => ?_⟩
    have s14 := s13.trans s4
    have sq : SqT K H4 pb [.int i, .int j] := SqT.of (s14 _ _ ep)
    have ss : SqT K H4 sb [.int (rs.length : Int), .int (c : Int)] := SqT.of es
    have q0 := q H4 s14
    have fls : ∀ {b : Prop} [Decidable b], ¬ b → decide b = false := fun h => decide_eq_false h
    refine ⟨_, rfl, pb, _, 0, _, rfl, rfl, sq, rfl, _, _, rfl, rfl, _, rfl, ite2 (fun c1 => ?_) (fun c1 => ?_)⟩
    · have d1 : 0 ≤ i := of_decide_eq_true c1
      refine ⟨_, rfl, sb, _, 0, _, rfl, rfl, ss, rfl, _, _, rfl, rfl, _, rfl, ite2 (fun c2 => ?_) (fun c2 => ?_)⟩
      · have d2 : i < (rs.length : Int) := of_decide_eq_true c2
        refine ⟨_, rfl, pb, _, 1, _, rfl, rfl, sq, rfl, _, _, rfl, rfl, _, rfl, ite2 (fun c3 => ?_) (fun c3 => ?_)⟩
        · have d3 : 0 ≤ j := of_decide_eq_true c3
          refine ⟨_, rfl, sb, _, 1, _, rfl, rfl, ss, rfl, _, _, rfl, rfl, ?_⟩
          have e : decide (0 ≤ i ∧ i < (rs.length : Int) ∧ 0 ≤ j ∧ j < (c : Int)) = decide (j < (c : Int)) := by
            rw [Bool.eq_iff_iff, decide_eq_true_iff, decide_eq_true_iff]
            exact ⟨fun z => z.2.2.2, fun z => ⟨d1, d2, d3, z⟩⟩
          rw [e] at q0; exact q0
        · rw [fls (fun z => c3 (decide_eq_true z.2.2.1))] at q0; exact q0
      · rw [fls (fun z => c2 (decide_eq_true z.2.1))] at q0
        exact q0
    · rw [fls (fun z => c1 (decide_eq_true z.1))] at q0
      exact ⟨_, rfl, iteF q0⟩
end
end K2

set_option Elab.async false
set_option linter.all false
set_option maxRecDepth 100000
set_option maxHeartbeats 600000
namespace K2
open PySem L2
/-- which of all places have a number -/
def isLaid (rs : List (List V)) (c k : Nat) : Bool := !decide (cellV rs (k / c) (k % c) = V.non)
def laidL (rs : List (List V)) (c : Nat) : List (List V) := ((List.range (rs.length * c)).filter (isLaid rs c)).map fun (k : Nat) => [V.int (0 + ((k / c : Nat) : Int)), V.int (0 + ((k % c : Nat) : Int))]
theorem placesL_get {r c : Nat} : ∀ {r : Nat} {k : Nat}, k < r * c → (placesL r c)[k]? = some [V.int (0 + ((k / c : Nat) : Int)), V.int (0 + ((k % c : Nat) : Int))]
  | 0, k, h => by rw [Nat.zero_mul] at h; omega
  | r + 1, k, h => by
    have hc : 0 < c := by
      cases c with
      | zero => simp at h
      | succ c => exact Nat.succ_pos _
    rw [placesL_succ]
    have hl := placesL_len c r
    by_cases hk : k < r * c
    · rw [List.getElem?_append_left (by omega)]
      exact placesL_get (r := r) (c := c) hk
    · rw [List.getElem?_append_right (by omega), hl]
      have hkc : k - r * c < c := by rw [Nat.succ_mul] at h; omega
      rw [List.getElem?_map, List.getElem?_range hkc]
      have e1 : k / c = r := by
        have : k = (k - r * c) + c * r := by rw [Nat.mul_comm c r]; omega
        rw [this, Nat.add_mul_div_left _ _ hc, Nat.div_eq_of_lt hkc, Nat.zero_add]
      have e2 : k % c = k - r * c := by
        have : k = (k - r * c) + c * r := by rw [Nat.mul_comm c r]; omega
        rw [this, Nat.add_mul_mod_self_left, Nat.mod_eq_of_lt hkc]
        omega
      rw [e1, e2]; rfl
def spLaid : Sp := fun vs H Q _ => ∃ (v : V) (rs : List (List V)) (c : Nat), vs = [v] ∧ Flr H v rs ∧ Even c rs ∧ ∀ l ys H', Same H H' → H l = none → H' l = some (.lst ys) → TupsAt H' ys (laidL rs c) → Q (.ref l) H'
def spFull : Sp := fun vs H Q _ => ∃ (v : V) (rs : List (List V)) (c : Nat), vs = [v] ∧ Flr H v rs ∧ Even c rs ∧ ∀ H', Same H H' → Q (.bl (decide ((laidL rs c).length = rs.length * c))) H'
theorem tups_pick {H : Hp} {ys : List V} {rs : List (List V)} (t : TupsAt H ys rs) : ∀ (ks : List Nat), (∀ k ∈ ks, k < rs.length) → TupsAt H (ks.map fun k => ys.getD k .non) (ks.map fun k => rs.getD k [])
  | [], _ => .nil
  | k :: ks, h => by
    have hk := h k List.mem_cons_self
    obtain ⟨b, h1, h2⟩ := t.at (i := k) (r := rs[k]) (List.getElem?_eq_getElem hk)
    have e1 : ys.getD k .non = .ref b := by simp [List.getD, h1]
    have e2 : rs.getD k [] = rs[k] := by simp [List.getD, hk]
    exact .cons ⟨b, e1, by show H b = some (.tup (rs.getD k [])); rw [e2]; exact h2⟩ (tups_pick t ks fun k' hk' => h k' (List.mem_cons_of_mem _ hk'))
section
variable {P : Program} {w : World} {K : PySem.W.Frag} {mg : Str → Option Value} {base : Heap} {f : Addr} {fd : FuncData}
theorem scLaid : FnScope ["floor"] ["floor"] (defScope sLaid) := ⟨rfl, rfl, rfl, by decide +kernel, rfl, by decide +kernel, by decide +kernel⟩
theorem ok_laid {g h : Addr} {gd hd : FuncData} (F : Fun K "laid_places" "laid_places" sLaid f fd) (GP : FnOk P w K mg base CX0 2 g gd ["floor"] spPlaces) (bP : Binds K gd ["floor"] []) (kP : PySem.W.keepIn K (.ref g) = true) (mP : mg "places_of" = some (.ref g))
    (GN : FnOk P w K mg base CX0 2 h hd ["floor", "place"] spNumber) (bN : Binds K hd ["floor", "place"] []) (kN : PySem.W.keepIn K (.ref h) = true) (mN : mg "number_at" = some (.ref h)) : FnOk P w K mg base CX0 3 f fd ["floor"] spLaid := by
  refine F.ok scLaid (fun vs H Q E h => ?_) (fun cdv A outer s H vs Q E hr h => ?_)
  · obtain ⟨v, rs, c, rfl, _⟩ := h; rfl
  obtain ⟨v, rs, c, rfl, hF, ev, q⟩ := h
  refine ⟨_, pss_one (ps_ret (pe_comp (sc := defScope sLaid) (N := ["floor"]) (caps := [("floor", 0)]) ?S (pi_list (pe_call GP hr rfl mP kP bP .nil pass0 (pa_cons (pv 0) pa_nil)))
    (fun _ _ _ _ _ => pif_one (pt_cmpR op_notN (pe_call GN hr rfl mN kN bN .nil pass0 (pa_cons (pv 1) (pa_cons (pv 0) pa_nil))) pe_non (nomark _))) (fun _ _ _ _ _ => pv 0))), ?_⟩
  case S => exact ⟨by decide +kernel, rfl, by decide +kernel, rfl, by decide +kernel, by decide +kernel, by decide +kernel, by decide +kernel⟩
  refine ⟨_, rfl, v, rs, c, rfl, hF, ev, fun l ys H1 s1 hl el tp => ⟨l, rfl, ⟨_, SqL.of el⟩, ?_⟩⟩
  have hlen : ys.length = rs.length * c := by rw [tp.length, placesL_len]
  have hz : ys.length ≤ 10000 := by rw [hlen]; exact Nat.mul_le_mul ev.most ev.cols
  have hline : (10000 : Nat) ≤ sizeLine := by decide
  have place : ∀ {i : Nat} {x : V} {H' : Hp}, ys[i]? = some x → Same H1 H' → i < rs.length * c ∧ 0 < c ∧ Plc H' x (0 + ((i / c : Nat) : Int)) (0 + ((i % c : Nat) : Int)) := fun {i x H'} hx hs => by
    have hi : i < rs.length * c := by rw [← hlen]; exact (List.getElem?_eq_some_iff.mp hx).1
    have hc : 0 < c := by
      cases c with
      | zero => simp at hi
      | succ c => exact Nat.succ_pos _
    obtain ⟨b, h1, h2⟩ := tp.at (placesL_get (r := rs.length) hi)
    rw [hx] at h1
    cases h1
    exact ⟨hi, hc, b, rfl, hs _ _ h2⟩
  refine comp_flt (K := K) (isLaid rs c) (fun i => ys.getD i .non) (SqL.of el) (by omega) (fun i x H' R hx hs hR => ?_) (fun i x H' R hx hs hR => ?_) (fun p H' hs hn => ?_)
  · obtain ⟨hi, hc, hp⟩ := place hx hs
    refine ⟨_, rfl, x, rfl, v, x, rs, c, i / c, i % c, rfl, (hF.up s1).up hs, ev, hp, ?_, Nat.mod_lt _ hc, ?_⟩
    · exact Nat.div_lt_of_lt_mul (by rw [Nat.mul_comm]; exact hi)
    · exact ⟨rfl, _, rfl, hR H' hs⟩
  · have e : ys.getD i .non = x := by simp [List.getD, hx]
    have := hR H' hs
    rw [e] at this
    exact ⟨x, rfl, this⟩
  · have sn := same_new hn (.lst (((List.range ys.length).filter (isLaid rs c)).map fun i => ys.getD i .non))
    refine q p _ _ (s1.trans (hs.trans sn)) ((s1.trans hs).free hn) upd_same ?_
    have t2 := tups_pick (tp.up (H' := upd H' p (.lst (((List.range ys.length).filter (isLaid rs c)).map fun i => ys.getD i .non))) fun b xs z => sn _ _ (hs _ _ z)) ((List.range ys.length).filter (isLaid rs c)) (fun k hk => by
      have := List.mem_range.mp (List.mem_filter.mp hk).1
      rw [placesL_len, ← hlen]; exact this)
    have e : (((List.range ys.length).filter (isLaid rs c)).map fun k => (placesL rs.length c).getD k []) = laidL rs c := by
      unfold laidL
      rw [hlen]
      refine List.map_congr_left fun k hk => ?_
      have hk' := List.mem_range.mp (List.mem_filter.mp hk).1
      simp [List.getD, placesL_get (r := rs.length) hk']
    rw [e] at t2
    exact t2
theorem scFull : FnScope ["floor"] ["floor"] (defScope sFull) := ⟨rfl, rfl, rfl, by decide +kernel, rfl, by decide +kernel, by decide +kernel⟩
theorem ok_full {g h : Addr} {gd hd : FuncData} (F : Fun K "is_full" "is_full" sFull f fd) (T : Txt mg) (GP : FnOk P w K mg base CX0 3 g gd ["floor"] spPlaces) (bP : Binds K gd ["floor"] []) (kP : PySem.W.keepIn K (.ref g) = true) (mP : mg "places_of" = some (.ref g))
    (GL : FnOk P w K mg base CX0 3 h hd ["floor"] spLaid) (bL : Binds K hd ["floor"] []) (kL : PySem.W.keepIn K (.ref h) = true) (mL : mg "laid_places" = some (.ref h)) : FnOk P w K mg base CX0 4 f fd ["floor"] spFull := by
  refine F.ok scFull (fun vs H Q E h => ?_) (fun cdv A outer s H vs Q E hr h => ?_)
  · obtain ⟨v, rs, c, rfl, _⟩ := h; rfl
  obtain ⟨v, rs, c, rfl, hF, ev, q⟩ := h
  refine ⟨_, pss_one (ps_ret (pe_cmpR op_eq (pe_callB call_len_seq rfl T.len PySem.boot_len (pa_cons (pe_call GL hr rfl mL kL bL .nil pass0 (pa_cons (pv 0) pa_nil)) pa_nil)) (pe_callB call_len_seq rfl T.len PySem.boot_len (pa_cons (pe_call GP hr rfl mP kP bP .nil pass0 (pa_cons (pv 0) pa_nil)) pa_nil)) (nomark _))), ?_⟩
  refine ⟨_, rfl, v, rs, c, rfl, hF, ev, fun l ys H1 s1 hl el tp => ⟨l, ys, rfl, .inl (SqL.of el), ?_⟩⟩
  refine ⟨_, rfl, v, rs, c, rfl, hF.up s1, ev, fun l2 zs H2 s2 hl2 el2 tp2 => ⟨l2, zs, rfl, .inl (SqL.of el2), rfl, ?_⟩⟩
  have q0 := q H2 (s1.trans s2)
  have e : decide (V.int (ys.length : Int) = V.int (zs.length : Int)) = decide ((laidL rs c).length = rs.length * c) := by
    rw [tp.length, tp2.length, placesL_len, Bool.eq_iff_iff, decide_eq_true_iff, decide_eq_true_iff]
    constructor
    · intro z; injection z with z; omega
    · intro z; rw [z]
  rw [← e] at q0; exact q0
end
end K2

set_option Elab.async false
set_option linter.all false
set_option maxRecDepth 100000
set_option maxHeartbeats 600000
namespace L2
open PySem PySem.Spec PyProof.Rows
/-- a def that may raise -/
theorem Fun.okE {P : Program} {w : World} {K : PySem.W.Frag} {mg : Str → Option Value} {base : Heap} {x qual : Str} {st : Stmt} {f : Addr} {fd : FuncData} {N ps : List Str} {k : Nat} {sp : Sp} (F : Fun K x qual st f fd) (S : FnScope N ps (defScope st)) (len : ∀ vs H Q E, sp vs H Q E → vs.length = ps.length)
    (hbody : ∀ (cdv : Value) (A : Around) (outer : List Env) (s : Shared) (H : Hp) (vs : List V) (Q : VK) (E : XK), Room k (A.deeper (envOfC qual (defScope st) s.heap.objs.size f cdv)) → sp vs H Q E →
      ∃ t, PSs (cxOf (CXE P w) P w K mg base N qual (defScope st) f cdv A outer s H E) (defBody st) t ∧ t { nx := fun _ H' => Q .non H', rt := Q } (start N vs) H) : FnOk P w K mg base (CXE P w) (k + 1) f fd ps sp := by
  obtain ⟨oc, od, kV, doc, pm, an, cdv, ct, osl, rfl, lk, hcd⟩ := F.ex
  exact fn_of lk hcd S len fun A outer s H vs Q E hr hsp => hbody cdv A outer s H vs Q E hr hsp
abbrev bmV : List Value := [.type "ValueError", .type "Exception", .type "BaseException", .type "object"]
/-- an own class under ValueError, by its name -/
structure Exn (K : PySem.W.Frag) (mg : Str → Option Value) (x : Str) (C : Addr) : Prop where
  mg : mg x = some (.ref C)
  ok : PySem.W.excIn K C bmV "ValueError.__new__" = true
theorem ps_raiseV {X : Cx} {x : Str} {C : Addr} {E : XK} {np cpos pos : Pos} {e : Expr} {es : List Expr} {t : TA} (hr : Raises X E) (hc : X.calm = true) (hg : Gl X x) (N : Exn X.K X.mg x C) (ha : PA X (e :: es) t)
    (he : starEach (e :: es) X.env = (false, eval e X.env) :: starEach es X.env := by rfl) (hpl : (backTo cpos (starEach es X.env)).any (·.1) = false := by rfl) (hdb : (x == ("__debug__" : Str)) = false := by decide) :
    PS X (.Raise (some (.Call (.Name x np) (e :: es) [] cpos)) none pos) (tRaise C E t) :=
  ps_raise hr hc hg N.mg N.ok PySem.F.excBase_ValueError (by decide +kernel) PySem.F.excBase_ValueError ha he hpl hdb
end L2
namespace K2
open PySem L2
abbrev inside (rs : List (List V)) (c : Nat) (i j : Int) : Prop := 0 ≤ i ∧ i < (rs.length : Int) ∧ 0 ≤ j ∧ j < (c : Int)
def spTile (N : Addr) : Sp := fun vs H Q E => ∃ (v p : V) (rs : List (List V)) (c : Nat) (i j : Int), vs = [v, p] ∧ Flr H v rs ∧ Even c rs ∧ Plc H p i j ∧ ∀ H', Same H H' → (inside rs c i j → Q (cellV rs i.toNat j.toNat) H') ∧ (¬ inside rs c i j → E (.ref N) none H')
section
variable {P : Program} {w : World} {K : PySem.W.Frag} {mg : Str → Option Value} {base : Heap} {f : Addr} {fd : FuncData}
def spRef (N : Addr) : Sp := fun vs H Q E => ∃ (v p : V) (rs : List (List V)) (c : Nat) (i j : Int), vs = [v, p] ∧ Flr H v rs ∧ Even c rs ∧ Plc H p i j ∧ ∀ H', Same H H' → (inside rs c i j → Q .non H') ∧ (¬ inside rs c i j → E (.ref N) none H')
theorem scRef : FnScope ["floor", "place"] ["floor", "place"] (defScope sRef) := ⟨rfl, rfl, rfl, by decide +kernel, rfl, by decide +kernel, by decide +kernel⟩
theorem ok_ref {g N : Addr} {gd : FuncData} (F : Fun K "refuse_outside" "refuse_outside" sRef f fd) (GP : FnOk P w K mg base CX0 2 g gd ["floor", "place"] spHasP) (bP : Binds K gd ["floor", "place"] []) (kP : PySem.W.keepIn K (.ref g) = true) (mP : mg "has_place" = some (.ref g))
    (eN : Exn K mg "NoPlace" N) : FnOk P w K mg base (CXE P w) 3 f fd ["floor", "place"] (spRef N) := by
  refine F.okE scRef (fun vs H Q E h => ?_) (fun cdv A outer s H vs Q E hr h => ?_)
  · obtain ⟨v, p, rs, c, i, j, rfl, _⟩ := h; rfl
  obtain ⟨v, p, rs, c, i, j, rfl, hF, ev, hp, q⟩ := h
  refine' ⟨_, ?b, ?fin⟩
  case b =>
    refine' pss_one ?s1
    case s1 => exact ps_if (pt_not (pt_val (pe_call GP hr rfl mP kP bP .nil pass0 (pa_cons (pv 0) (pa_cons (pv 1) pa_nil))))) (pss_one (ps_raiseV (E := E) raisesE rfl rfl eN (pa_cons pe_str pa_nil))) pss_nil
  case fin =>
    refine ⟨_, rfl, _, rfl, v, p, rs, c, i, j, rfl, hF, ev, hp, fun H1 s1 => ⟨_, rfl, ?_⟩⟩
    by_cases hin : inside rs c i j
    · rw [decide_eq_true hin]
      refine iteF ?_
      exact (q H1 s1).1 hin
    · rw [decide_eq_false hin]
      refine iteT ?_
      exact ⟨by decide, (q H1 s1).2 hin⟩
theorem scTile : FnScope ["floor", "place"] ["floor", "place"] (defScope sTileAt) := ⟨rfl, rfl, rfl, by decide +kernel, rfl, by decide +kernel, by decide +kernel⟩
theorem ok_tile {g h N : Addr} {gd hd : FuncData} (F : Fun K "tile_at" "tile_at" sTileAt f fd) (GP : FnOk P w K mg base (CXE P w) 3 g gd ["floor", "place"] (spRef N)) (bP : Binds K gd ["floor", "place"] []) (kP : PySem.W.keepIn K (.ref g) = true) (mP : mg "refuse_outside" = some (.ref g))
    (GN : FnOk P w K mg base CX0 3 h hd ["floor", "place"] spNumber) (bN : Binds K hd ["floor", "place"] []) (kN : PySem.W.keepIn K (.ref h) = true) (mN : mg "number_at" = some (.ref h)) : FnOk P w K mg base (CXE P w) 4 f fd ["floor", "place"] (spTile N) := by
  refine F.okE scTile (fun vs H Q E h => ?_) (fun cdv A outer s H vs Q E hr h => ?_)
  · obtain ⟨v, p, rs, c, i, j, rfl, _⟩ := h; rfl
  obtain ⟨v, p, rs, c, i, j, rfl, hF, ev, hp, q⟩ := h
  refine' ⟨_, ?b, ?fin⟩
  case b =>
    refine' pss_cons ?s1 ?r1
    case s1 => exact ps_expr (pe_call GP hr rfl mP kP bP .nil passE (pa_cons (pv 0) (pa_cons (pv 1) pa_nil)))
    case r1 =>
      refine' pss_one ?s2
      case s2 => exact ps_ret (pe_call GN hr rfl mN kN bN .nil pass0 (pa_cons (pv 0) (pa_cons (pv 1) pa_nil)))
  case fin =>
    refine ⟨_, rfl, _, rfl, v, p, rs, c, i, j, rfl, hF, ev, hp, fun H1 s1 => ⟨fun hin => ?_, fun hin => (q H1 s1).2 hin⟩⟩
    obtain ⟨h1, h2, h3, h4⟩ := hin
    have e1 : 0 + ((i.toNat : Nat) : Int) = i := by omega
    have e2 : 0 + ((j.toNat : Nat) : Int) = j := by omega
    refine ⟨_, rfl, _, rfl, v, p, rs, c, i.toNat, j.toNat, rfl, hF.up s1, ev, ?_, by omega, by omega, (q H1 s1).1 ⟨h1, h2, h3, h4⟩⟩
    rw [e1, e2]
    exact hp.up s1
end
end K2

set_option Elab.async false
set_option linter.all false
set_option maxRecDepth 100000
set_option maxHeartbeats 600000
namespace L2
open PySem PySem.Spec PyProof.Rows
/-- t[lo:hi], whole or not -/
theorem sl_any {X : Cx} : SlR X (fun x lo hi H Q => ∃ (a : Addr) (xs : List V), x = .ref a ∧ H a = some (.tup xs) ∧ ∀ b H', Same H H' → H' b = some (.tup (cutV xs lo hi)) → Q (.ref b) H') := by
  intro pins s σ H x v vl vu lo hi sl Q I rx hs pl pu h
  obtain ⟨a, xs, e, hx, q⟩ := h
  by_cases hw : HT.sIx xs.length 0 lo = 0 ∧ HT.sIx xs.length xs.length hi = xs.length
  · refine sl_tup_all pins s σ H x v vl vu lo hi sl Q I rx hs pl pu ⟨a, xs, e, SqT.of hx, hw.1, hw.2, q a H (Same.refl _) ?_⟩
    rw [hx]
    unfold cutV
    rw [hw.1, hw.2, List.drop_zero, Nat.sub_zero, List.take_length]
  · exact sl_tup pins s σ H x v vl vu lo hi sl Q I rx hs pl pu ⟨a, xs, e, SqT.of hx, hw, fun p hp => q p _ (same_new hp _) upd_same⟩
/-- t + u -/
theorem op_catA {X : Cx} : OpR X (binaryOp .Add) (fun x y H Q => ∃ (a b : Addr) (xs ys : List V), x = .ref a ∧ y = .ref b ∧ H a = some (.tup xs) ∧ H b = some (.tup ys) ∧ xs.length + ys.length ≤ sizeLine ∧ ∀ c H', Same H H' → H' c = some (.tup (xs ++ ys)) → Q (.ref c) H') := by
  intro pins s σ H x y v u Q I rx ry h
  obtain ⟨a, b, xs, ys, e1, e2, ha, hb, hz, q⟩ := h
  cases xs with
  | nil => exact op_catT0 pins s σ H x y v u Q I rx ry ⟨a, b, ys, e1, e2, SqT.of ha, SqT.of hb, q b H (Same.refl _) (by rw [hb]; rfl)⟩
  | cons x0 xs => exact op_catT pins s σ H x y v u Q I rx ry ⟨a, b, _, ys, e1, e2, SqT.of ha, SqT.of hb, List.cons_ne_nil _ _, hz, fun z => q a H (Same.refl _) (by rw [ha, z, List.append_nil]), fun _ p hp => q p _ (same_new hp _) upd_same⟩
theorem cut_to {xs : List V} {j : Nat} (h : j ≤ xs.length) : cutV xs none (some (j : Int)) = xs.take j := by
  unfold cutV
  have e1 : HT.sIx xs.length 0 none = 0 := rfl
  have e2 : HT.sIx xs.length xs.length (some (j : Int)) = j := by
    show (if (j : Int) < 0 then ((j : Int) + (xs.length : Int)).toNat else min (j : Int).toNat xs.length) = j
    rw [if_neg (by omega), Int.toNat_natCast]
    omega
  rw [e1, e2, List.drop_zero, Nat.sub_zero]
theorem cut_from {xs : List V} {j : Nat} (h : j ≤ xs.length) : cutV xs (some (j : Int)) none = xs.drop j := by
  unfold cutV
  have e1 : HT.sIx xs.length 0 (some (j : Int)) = j := by
    show (if (j : Int) < 0 then ((j : Int) + (xs.length : Int)).toNat else min (j : Int).toNat xs.length) = j
    rw [if_neg (by omega), Int.toNat_natCast]
    omega
  have e2 : HT.sIx xs.length xs.length none = xs.length := rfl
  rw [e1, e2]
  exact List.take_of_length_le (by rw [List.length_drop]; omega)
end L2
namespace K2
open PySem L2
theorem set_cut {α : Type} {xs : List α} {j : Nat} {x : α} (h : j < xs.length) : xs.take j ++ [x] ++ xs.drop (j + 1) = xs.set j x := by
  rw [List.set_eq_take_append_cons_drop, if_pos h, List.append_assoc]; rfl
theorem tups_set {H : Hp} : ∀ {ys : List V} {rs : List (List V)} {i : Nat} {b : Addr} {r : List V}, TupsAt H ys rs → H b = some (.tup r) → TupsAt H (ys.set i (.ref b)) (rs.set i r)
  | _, _, _, _, _, .nil, _ => .nil
  | _, _, 0, b, r, .cons h t, hb => .cons ⟨b, rfl, hb⟩ t
  | _, _, i + 1, b, r, .cons h t, hb => .cons h (tups_set t hb)
def setV (rs : List (List V)) (i j : Nat) (x : V) : List (List V) := rs.set i ((rs.getD i []).set j x)
def spWith (N T : Addr) : Sp := fun vs H Q E => ∃ (t v p x : V) (ts : List D) (d : D) (rs : List (List V)) (c : Nat) (i j : Int), vs = [t, v, p, x] ∧ Rep H t (.tup ts) ∧ Rep H x d ∧ Flr H v rs ∧ Even c rs ∧ Plc H p i j ∧
  (¬ inside rs c i j → ∀ H', Same H H' → E (.ref N) none H') ∧ (inside rs c i j → mayLie ts.length d = false → ∀ H', Same H H' → E (.ref T) none H') ∧
  (inside rs c i j → mayLie ts.length d = true → ∀ b H', Same H H' → Flr H' (.ref b) (setV rs i.toNat j.toNat x) → Q (.ref b) H')
section
variable {P : Program} {w : World} {K : PySem.W.Frag} {mg : Str → Option Value} {base : Heap} {f : Addr} {fd : FuncData}
def spWN : Sp := fun vs H Q E => ∃ (v p x : V) (rs : List (List V)) (c : Nat) (i j : Int), vs = [v, p, x] ∧ Flr H v rs ∧ Even c rs ∧ Plc H p i j ∧ inside rs c i j ∧
  ∀ b H', Same H H' → Flr H' (.ref b) (setV rs i.toNat j.toNat x) → Q (.ref b) H'
theorem scWN : FnScope ["floor", "place", "number", "old", "row"] ["floor", "place", "number"] (defScope sWN) := ⟨rfl, rfl, rfl, by decide +kernel, rfl, by decide +kernel, by decide +kernel⟩
theorem ok_wn (F : Fun K "with_number" "with_number" sWN f fd) : FnOk P w K mg base CX0 1 f fd ["floor", "place", "number"] spWN := by
  refine F.ok scWN (fun vs H Q E h => ?_) (fun cdv A outer s H vs Q E hr h => ?_)
  · obtain ⟨v, p, x, rs, c, i, j, rfl, _⟩ := h; rfl
  obtain ⟨v, p, x, rs, c, i, j, rfl, hF, ev, hp, hin, q⟩ := h
  refine' ⟨_, ?b, ?fin⟩
  case b =>
    refine' pss_cons ?s3 ?r3
    case s3 => exact ps_set (i := 3) scWN.nd rfl (Or.inl rfl) (pe_ix ix_tup (pv 0) (pe_ix ix_tup (pv 1) pe_int (fun _ _ => rfl)) (fun _ _ => rfl))
    case r3 =>
      refine' pss_cons ?s4 ?r4
      case s4 => exact ps_set (i := 4) scWN.nd rfl (Or.inl rfl) (pe_op op_catA (pe_op op_catA (pe_slice sl_any (pv 3) po_none (po_some (pe_ix ix_tup (pv 1) pe_int (fun _ _ => rfl)))) (pe_tup (pa_cons (pv 2) pa_nil))) (pe_slice sl_any (pv 3) (po_some (pe_op op_add (pe_ix ix_tup (pv 1) pe_int (fun _ _ => rfl)) pe_int)) po_none))
      case r4 =>
        refine' pss_one ?s5
        case s5 => exact ps_ret (pe_op op_catA (pe_op op_catA (pe_slice sl_any (pv 0) po_none (po_some (pe_ix ix_tup (pv 1) pe_int (fun _ _ => rfl)))) (pe_tup (pa_cons (pv 4) pa_nil))) (pe_slice sl_any (pv 0) (po_some (pe_op op_add (pe_ix ix_tup (pv 1) pe_int (fun _ _ => rfl)) pe_int)) po_none))
  case fin =>
    obtain ⟨h1, h2, h3, h4⟩ := id hin
    obtain ⟨fb, ys, rfl, ef, tp⟩ := hF
    obtain ⟨pb, rfl, ep⟩ := hp
    obtain ⟨a, rfl⟩ : ∃ a : Nat, i = (a : Int) := ⟨i.toNat, by omega⟩
    obtain ⟨b, rfl⟩ : ∃ b : Nat, j = (b : Int) := ⟨j.toNat, by omega⟩
    have ha : a < rs.length := by omega
    have hl : ys.length = rs.length := tp.length
    obtain ⟨rb, g1, g2⟩ := tp.at (i := a) (r := rs[a]) (List.getElem?_eq_getElem ha)
    have hrl : rs[a].length = c := ev.row _ (List.getElem_mem ha)
    have hb : b < rs[a].length := by omega
    have m1 := ev.most
    have m2 := ev.cols
    have line : (1000 : Nat) ≤ sizeLine := by decide
    refine ⟨_, rfl, _, rfl, pb, _, 0, _, rfl, rfl, SqT.of ep, rfl, fb, ys, _, .ref rb, rfl, rfl, SqT.of ef, atI_nat g1, ?_⟩
    refine ⟨_, rfl, _, rfl, pb, _, 1, _, rfl, rfl, SqT.of ep, rfl, _, rfl, rb, rs[a], rfl, g2, fun b1 H3 s3 e3 => ?_⟩
    rw [cut_to (Nat.le_of_lt hb)] at e3
    refine ⟨x, rfl, small (show 1 ≤ 1000 by decide), fun n1 hn1 => ?_⟩
    have s4 := same_new hn1 (.tup [x])
    refine ⟨b1, n1, _, _, rfl, rfl, s4 _ _ e3, upd_same, Nat.le_trans ?l1 line, fun b2 H5 s5 e5 => ?_⟩
    case l1 => rw [List.length_take]; show _ + 1 ≤ 1000; omega
    have t25 : Same H H5 := s3.trans (s4.trans s5)
    refine ⟨_, rfl, _, rfl, pb, _, 1, _, rfl, rfl, SqT.of (t25 _ _ ep), rfl, _, _, rfl, rfl, _, rfl, rb, rs[a], rfl, t25 _ _ g2, fun b3 H6 s6 e6 => ?_⟩
    have eb : cutV rs[a] (some ((b : Int) + 1)) none = rs[a].drop (b + 1) := cut_from (j := b + 1) hb
    rw [eb] at e6
    refine ⟨b2, b3, _, _, rfl, rfl, s6 _ _ e5, e6, Nat.le_trans ?l2 line, fun b4 H7 s7 e7 => ?_⟩
    case l2 => rw [List.length_append, List.length_take, List.length_drop]; show _ + 1 + _ ≤ 1000; omega
    rw [set_cut hb] at e7
    have t27 : Same H H7 := t25.trans (s6.trans s7)
    have lya : a < ys.length := by omega
    refine ⟨_, rfl, _, rfl, pb, _, 0, _, rfl, rfl, SqT.of (t27 _ _ ep), rfl, _, rfl, fb, ys, rfl, t27 _ _ ef, fun b5 H8 s8 e8 => ?_⟩
    rw [cut_to (Nat.le_of_lt lya)] at e8
    refine ⟨_, rfl, small (show 1 ≤ 1000 by decide), fun n2 hn2 => ?_⟩
    have s9 := same_new hn2 (.tup [.ref b4])
    refine ⟨b5, n2, _, _, rfl, rfl, s9 _ _ e8, upd_same, Nat.le_trans ?l3 line, fun b6 H9 s10 e9 => ?_⟩
    case l3 => rw [List.length_take]; show _ + 1 ≤ 1000; omega
    have t29 : Same H H9 := t27.trans (s8.trans (s9.trans s10))
    refine ⟨_, rfl, _, rfl, pb, _, 0, _, rfl, rfl, SqT.of (t29 _ _ ep), rfl, _, _, rfl, rfl, _, rfl, fb, ys, rfl, t29 _ _ ef, fun b7 H10 s11 e10 => ?_⟩
    have ea : cutV ys (some ((a : Int) + 1)) none = ys.drop (a + 1) := cut_from (j := a + 1) lya
    rw [ea] at e10
    refine ⟨b6, b7, _, _, rfl, rfl, s11 _ _ e9, e10, Nat.le_trans ?l4 line, fun b8 H11 s12' e11 => ?_⟩
    case l4 => rw [List.length_append, List.length_take, List.length_drop]; show _ + 1 + _ ≤ 1000; omega
    rw [set_cut lya] at e11
    have t211 : Same H H11 := t29.trans (s11.trans s12')
    have t711 : Same H7 H11 := s8.trans (s9.trans (s10.trans (s11.trans s12')))
    refine q b8 H11 t211 ⟨b8, _, rfl, e11, ?_⟩
    unfold setV
    rw [Int.toNat_natCast, Int.toNat_natCast]
    have er : rs.getD a [] = rs[a] := by simp [List.getD, ha]
    rw [er]
    exact tups_set (tp.up fun b xs z => t211 _ _ z) (t711 _ _ e7)
theorem scWith : FnScope ["tiles", "floor", "place", "number"] ["tiles", "floor", "place", "number"] (defScope sWith) := ⟨rfl, rfl, rfl, by decide +kernel, rfl, by decide +kernel, by decide +kernel⟩
theorem ok_with {g h k N T : Addr} {gd hd kd : FuncData} (F : Fun K "with_tile" "with_tile" sWith f fd) (GP : FnOk P w K mg base (CXE P w) 3 g gd ["floor", "place"] (spRef N)) (bP : Binds K gd ["floor", "place"] []) (kP : PySem.W.keepIn K (.ref g) = true) (mP : mg "refuse_outside" = some (.ref g))
    (GM : FnOk P w K mg base CX0 3 h hd ["tiles", "thing"] (sp2 mayLie)) (bM : Binds K hd ["tiles", "thing"] []) (kM : PySem.W.keepIn K (.ref h) = true) (mM : mg "may_lie" = some (.ref h))
    (GW : FnOk P w K mg base CX0 3 k kd ["floor", "place", "number"] spWN) (bW : Binds K kd ["floor", "place", "number"] []) (kW : PySem.W.keepIn K (.ref k) = true) (mW : mg "with_number" = some (.ref k)) (eT : Exn K mg "NoTile" T) :
    FnOk P w K mg base (CXE P w) 4 f fd ["tiles", "floor", "place", "number"] (spWith N T) := by
  refine F.okE scWith (fun vs H Q E h => ?_) (fun cdv A outer s H vs Q E hr h => ?_)
  · obtain ⟨t, v, p, x, ts, d, rs, c, i, j, rfl, _⟩ := h; rfl
  obtain ⟨t, v, p, x, ts, d, rs, c, i, j, rfl, ht, hx, hF, ev, hp, q1, q2, q3⟩ := h
  refine' ⟨_, ?b, ?fin⟩
  case b =>
    refine' pss_cons ?s1 ?r1
    case s1 => exact ps_expr (pe_call GP hr rfl mP kP bP .nil passE (pa_cons (pv 1) (pa_cons (pv 2) pa_nil)))
    case r1 =>
      refine' pss_cons ?s2 ?r2
      case s2 => exact ps_if (pt_not (pt_val (pe_call GM hr rfl mM kM bM .nil pass0 (pa_cons (pv 0) (pa_cons (pv 3) pa_nil))))) (pss_one (ps_raiseV (E := E) raisesE rfl rfl eT (pa_cons pe_str pa_nil))) pss_nil
      case r2 =>
        refine' pss_one ?s3
        case s3 => exact ps_ret (pe_call GW hr rfl mW kW bW .nil pass0 (pa_cons (pv 1) (pa_cons (pv 2) (pa_cons (pv 3) pa_nil))))
  case fin =>
    refine ⟨_, rfl, _, rfl, v, p, rs, c, i, j, rfl, hF, ev, hp, fun H1 s1 => ⟨fun hin => ?_, fun hin => q1 hin H1 s1⟩⟩
    refine ⟨_, rfl, _, rfl, t, x, d, ts, rfl, ht.up s1, hx.up s1, fun H2 s2 => ⟨_, rfl, ?_⟩⟩
    have s12 := s1.trans s2
    cases hm : mayLie ts.length d with
    | false =>
      refine iteT ?_
      exact ⟨by decide, q2 hin hm H2 s12⟩
    | true =>
      refine iteF ?_
      exact ⟨_, rfl, _, rfl, _, rfl, v, p, x, rs, c, i, j, rfl, hF.up s12, ev, hp.up s12, hin, fun b H' s' hf => q3 hin hm b H' (s12.trans s') hf⟩
end
end K2

set_option Elab.async false
set_option linter.all false
set_option maxRecDepth 100000
set_option maxHeartbeats 600000
namespace K2
open PySem L2
theorem tups_rep {H : Hp} {b : Addr} {r : List V} (h : H b = some (.tup r)) : ∀ n, TupsAt H (List.replicate n (.ref b)) (List.replicate n r)
  | 0 => .nil
  | n + 1 => .cons ⟨b, rfl, h⟩ (tups_rep h n)
theorem flat_rep {α : Type} (x : α) : ∀ n, (List.replicate n [x]).flatten = List.replicate n x
  | 0 => rfl
  | n + 1 => by rw [List.replicate_succ, List.flatten_cons, flat_rep x n]; rfl
def spEmpty : Sp := fun vs H Q _ => ∃ r c : Nat, vs = [.int (r : Int), .int (c : Int)] ∧ 1 ≤ r ∧ r ≤ 100 ∧ 1 ≤ c ∧ c ≤ 100 ∧ ∀ b H', Same H H' → Flr H' (.ref b) (List.replicate r (List.replicate c .non)) → Q (.ref b) H'
section
variable {P : Program} {w : World} {K : PySem.W.Frag} {mg : Str → Option Value} {base : Heap} {f : Addr} {fd : FuncData}
theorem scEmpty : FnScope ["rows", "columns"] ["rows", "columns"] (defScope sEmpty) := ⟨rfl, rfl, rfl, by decide +kernel, rfl, by decide +kernel, by decide +kernel⟩
theorem ok_empty (F : Fun K "empty" "empty" sEmpty f fd) : FnOk P w K mg base CX0 1 f fd ["rows", "columns"] spEmpty := by
  refine F.ok scEmpty (fun vs H Q E h => ?_) (fun cdv A outer s H vs Q E hr h => ?_)
  · obtain ⟨r, c, rfl, _⟩ := h; rfl
  obtain ⟨r, c, rfl, h1, h2, h3, h4, q⟩ := h
  refine ⟨_, pss_one (ps_ret (pe_op op_repA (pe_tup (pa_cons (pe_op op_repA (pe_tup (pa_cons pe_non pa_nil)) (pv 1)) pa_nil)) (pv 0))), ?_⟩
  refine ⟨small (show 1 ≤ 1000 by decide), fun n1 hn1 => ?_⟩
  have s1 := same_new hn1 (.tup [.non])
  refine ⟨_, rfl, n1, c, [.non], rfl, rfl, upd_same, List.cons_ne_nil _ _, h3, by omega, by decide, fun b1 H2 s2 e2 => ?_⟩
  rw [flat_rep] at e2
  refine ⟨small (show 1 ≤ 1000 by decide), fun n2 hn2 => ?_⟩
  have s3 := same_new hn2 (.tup [.ref b1])
  refine ⟨_, rfl, n2, r, [.ref b1], rfl, rfl, upd_same, List.cons_ne_nil _ _, h1, by omega, (show 1 ≤ 1000 by decide), fun b2 H3 s4 e4 => ?_⟩
  rw [flat_rep] at e4
  exact q b2 H3 (s1.trans (s2.trans (s3.trans s4))) ⟨b2, _, rfl, e4, tups_rep (s4 _ _ (s3 _ _ e2)) r⟩
/-! ### the refusals, by their words -/
structure Errs (K : PySem.W.Frag) (mg : Str → Option Value) (ds : Nat → Addr) : Prop where
  fill : mg "NoFill" = some (.ref (ds 0))
  place : mg "NoPlace" = some (.ref (ds 1))
  text : mg "NoText" = some (.ref (ds 2))
  tile : mg "NoTile" = some (.ref (ds 3))
  nothing : mg "Nothing" = some (.ref (ds 4))
  unlike : mg "Unlike" = some (.ref (ds 5))
  val : mg "ValueError" = none
structure Says (K : PySem.W.Frag) (ds : Nat → Addr) (j : Nat) : Prop where
  cls : PySem.W.ExcCls K (ds j)
  one : ∀ m, m < 6 → PySem.W.kitOne K (.ref (ds j)) (.ref (ds m)) = some (decide (m = j))
  val : PySem.W.kitOne K (.ref (ds j)) (.type "ValueError") = some true
def wordAt (j : Nat) : Str := (["no fill", "no place", "no text", "no tile", "nothing", "unlike"] : List Str).getD j ""
def bitsOf (j : Nat) : List Bool := [decide (0 = j), decide (1 = j), decide (2 = j), decide (3 = j), decide (4 = j), decide (5 = j)]
theorem bits_one : ∀ j, j < 6 → (bitsOf j).countP (· == true) = 1 ∧ (bitsOf j)[j]? = some true ∧ ∀ m, m < j → (bitsOf j)[m]? ≠ some true := by decide
theorem boot_value : bootBuiltins "ValueError" = some (.type "ValueError") := by decide +kernel
def spWord (K : PySem.W.Frag) (ds : Nat → Addr) : Sp := fun vs H Q _ => ∃ (a : Addr) (ob : Obj) (j : Nat), vs = [.ref a] ∧ H a = some (.frz ob (.own a)) ∧ ob.cls = .ref (ds j) ∧ j < 6 ∧ Says K ds j ∧ ∀ H', Same H H' → Q (.str (wordAt j)) H'
theorem scWord : FnScope ["_law_kept", "_law_kinds"] ["_law_kept"] (defScope sWord) := ⟨rfl, rfl, rfl, by decide +kernel, rfl, by decide +kernel, by decide +kernel⟩
theorem ok_word {ds : Nat → Addr} (F : Fun K "_law_word" "_law_word" sWord f fd) (ti : mg "isinstance" = none) (Z : Errs K mg ds) : FnOk P w K mg base CX0 1 f fd ["_law_kept"] (spWord K ds) := by
  refine F.ok scWord (fun vs H Q E h => ?_) (fun cdv A outer s H vs Q E hr h => ?_)
  · obtain ⟨a, ob, j, rfl, _⟩ := h; rfl
  obtain ⟨a, ob, j, rfl, ha, hc, hj, S, q⟩ := h
  refine' ⟨_, ?b, ?fin⟩
  case b =>
    refine' pss_cons ?s1 ?r1
    case s1 => exact ps_set (i := 1) scWord.nd rfl (Or.inl rfl) (pe_lst (pa_cons (pe_callB call_isexc rfl ti boot_isin (pa_cons (pv 0) (pa_cons (pe_glob (v := .ref (ds 0)) rfl Z.fill rfl) pa_nil))) (pa_cons (pe_callB call_isexc rfl ti boot_isin (pa_cons (pv 0) (pa_cons (pe_glob (v := .ref (ds 1)) rfl Z.place rfl) pa_nil)))
      (pa_cons (pe_callB call_isexc rfl ti boot_isin (pa_cons (pv 0) (pa_cons (pe_glob (v := .ref (ds 2)) rfl Z.text rfl) pa_nil))) (pa_cons (pe_callB call_isexc rfl ti boot_isin (pa_cons (pv 0) (pa_cons (pe_glob (v := .ref (ds 3)) rfl Z.tile rfl) pa_nil))) pa_nil)))))
    case r1 =>
      refine' pss_cons ?s2 ?r2
      case s2 => exact ps_expr (pe_bm PySem.F.plainAttrs_list PySem.F.slot_list_extend PySem.F.type_list_extend mt_extend (pv 1) (pa_cons (pe_lst (pa_cons (pe_callB call_isexc rfl ti boot_isin (pa_cons (pv 0) (pa_cons (pe_glob (v := .ref (ds 4)) rfl Z.nothing rfl) pa_nil))) (pa_cons (pe_callB call_isexc rfl ti boot_isin (pa_cons (pv 0) (pa_cons (pe_glob (v := .ref (ds 5)) rfl Z.unlike rfl) pa_nil))) pa_nil))) pa_nil))
      case r2 =>
        refine' pss_cons ?s3 ?r3
        case s3 => exact ps_if (PW.pt (pw_or (pt_cmpR op_ne (pe_bm PySem.F.plainAttrs_list PySem.F.slot_list_count PySem.F.type_list_count mt_countB (pv 1) (pa_cons pe_bl pa_nil)) pe_int (nomark _)) (pw_or1 (pt_not (pt_val (pe_callB call_isexc rfl ti boot_isin (pa_cons (pv 0) (pa_cons (pe_bltn (v := .ty "ValueError") rfl Z.val boot_value rfl) pa_nil)))))))) (pss_one (ps_ret pe_str)) pss_nil
        case r3 =>
          refine' pss_one ?s4
          case s4 => exact ps_ret (pe_ix ix_list (pe_lst (pa_cons pe_str (pa_cons pe_str (pa_cons pe_str (pa_cons pe_str (pa_cons pe_str (pa_cons pe_str pa_nil))))))) (pe_bm PySem.F.plainAttrs_list PySem.F.slot_list_index PySem.F.type_list_index mt_indexB (pv 1) (pa_cons pe_bl pa_nil)) (fun _ _ => rfl))
  case fin =>
    refine ⟨_, rfl, a, ds j, ob, _, _, _, rfl, ha, hc, S.cls, (fun u h => h), S.one 0 (by decide), ?_⟩
    refine ⟨_, rfl, a, ds j, ob, _, _, _, rfl, ha, hc, S.cls, (fun u h => h), S.one 1 (by decide), ?_⟩
    refine ⟨_, rfl, a, ds j, ob, _, _, _, rfl, ha, hc, S.cls, (fun u h => h), S.one 2 (by decide), ?_⟩
    refine ⟨_, rfl, a, ds j, ob, _, _, _, rfl, ha, hc, S.cls, (fun u h => h), S.one 3 (by decide), ?_⟩
    refine ⟨small (show 4 ≤ 1000 by decide), fun l hl => ?_⟩
    have s1 := same_new hl (.lst [.bl (decide (0 = j)), .bl (decide (1 = j)), .bl (decide (2 = j)), .bl (decide (3 = j))])
    have ha1 := s1 _ _ ha
    refine ⟨_, rfl, .inl ⟨rfl, _, SqL.of upd_same⟩, ?_⟩
    refine ⟨_, rfl, a, ds j, ob, _, _, _, rfl, ha1, hc, S.cls, (fun u h => h), S.one 4 (by decide), ?_⟩
    refine ⟨_, rfl, a, ds j, ob, _, _, _, rfl, ha1, hc, S.cls, (fun u h => h), S.one 5 (by decide), ?_⟩
    refine ⟨small (show 2 ≤ 1000 by decide), fun p hp => ?_⟩
    have s2 := same_new hp (.lst [.bl (decide (4 = j)), .bl (decide (5 = j))])
    refine ⟨l, p, _, _, rfl, rfl, s2 _ _ upd_same, upd_same, small (show 6 ≤ 1000 by decide), ?_⟩
    have s3 := same_upd hl (s1.trans s2) (.lst ((bitsOf j).map V.bl))
    have e3 : (upd (upd (upd H l (.lst [.bl (decide (0 = j)), .bl (decide (1 = j)), .bl (decide (2 = j)), .bl (decide (3 = j))])) p (.lst [.bl (decide (4 = j)), .bl (decide (5 = j))])) l (.lst ((bitsOf j).map V.bl))) l = some (.lst ((bitsOf j).map V.bl)) := upd_same
    have cnt : decide (V.int (((bitsOf j).countP (· == true) : Nat) : Int) = V.int 1) = true := by rw [(bits_one j hj).1]; rfl
    refine ⟨_, rfl, .inl ⟨rfl, _, SqL.of e3⟩, l, bitsOf j, true, rfl, rfl, e3, rfl, _, rfl, ?_⟩
    rw [cnt]
    refine iteF ?_
    refine ⟨_, rfl, a, ds j, ob, _, _, _, rfl, s3 _ _ ha, hc, S.cls, (fun u h => h), S.val, _, rfl, ?_⟩
    refine iteF ?_
    refine ⟨small (show 6 ≤ 1000 by decide), fun p2 hp2 => ?_⟩
    have s4 := same_new hp2 (.lst [.str (Str.ofString "no fill"), .str (Str.ofString "no place"), .str (Str.ofString "no text"), .str (Str.ofString "no tile"), .str (Str.ofString "nothing"), .str (Str.ofString "unlike")])
    refine ⟨_, rfl, .inl ⟨rfl, _, SqL.of (s4 _ _ e3)⟩, l, bitsOf j, true, j, rfl, rfl, s4 _ _ e3, (show 6 ≤ 1000 by decide), (bits_one j hj).2.1, (bits_one j hj).2.2, p2, _, _, .str (wordAt j), rfl, rfl, SqL.of upd_same, atI_nat ?_, q _ (s3.trans s4)⟩
    have six : j = 0 ∨ j = 1 ∨ j = 2 ∨ j = 3 ∨ j = 4 ∨ j = 5 := by omega
    rcases six with rfl | rfl | rfl | rfl | rfl | rfl <;> rfl
end
end K2

set_option Elab.async false
set_option linter.all false
set_option maxRecDepth 100000
set_option maxHeartbeats 600000
namespace K2
open PySem L2
def spDo (K : PySem.W.Frag) : Sp := fun vs H Q _ => ∃ (k : Int) (t v p x : V) (ts : List D) (d : D) (rs : List (List V)) (c : Nat) (i j : Int), vs = [.int k, t, v, p, x] ∧ Rep H t (.tup ts) ∧ Rep H x d ∧ Flr H v rs ∧ Even c rs ∧ Plc H p i j ∧
  (¬ inside rs c i j → ∀ H', Same H H' → Q (.str (wordAt 1)) H') ∧ (k = 0 → inside rs c i j → ∀ H', Same H H' → Q (cellV rs i.toNat j.toNat) H') ∧ (k ≠ 0 → inside rs c i j → mayLie ts.length d = false → ∀ H', Same H H' → Q (.str (wordAt 3)) H') ∧
  (k ≠ 0 → inside rs c i j → mayLie ts.length d = true → ∀ b H', Same H H' → Flr H' (.ref b) (setV rs i.toNat j.toNat x) → Q (.ref b) H')
section
variable {P : Program} {w : World} {K : PySem.W.Frag} {mg : Str → Option Value} {base : Heap} {f : Addr} {fd : FuncData}
abbrev nmDo : List Str := ["_law_what", "_law_tiles_here", "_law_floor_here", "_law_place", "_law_number", "_law_kept", "_law_answer", "e"]
theorem scDo : FnScope nmDo ["_law_what", "_law_tiles_here", "_law_floor_here", "_law_place", "_law_number"] (defScope sDo) := ⟨rfl, rfl, rfl, by decide +kernel, rfl, by decide +kernel, by decide +kernel⟩
theorem ok_do {g h z C : Addr} {gd hd zd : FuncData} {ds : Nat → Addr} (F : Fun K "_law_do" "_law_do" sDo f fd) (GT : FnOk P w K mg base (CXE P w) 4 g gd ["floor", "place"] (spTile (ds 1))) (bT : Binds K gd ["floor", "place"] []) (kT : PySem.W.keepIn K (.ref g) = true) (mT : mg "tile_at" = some (.ref g))
    (GW : FnOk P w K mg base (CXE P w) 4 h hd ["tiles", "floor", "place", "number"] (spWith (ds 1) (ds 3))) (bW : Binds K hd ["tiles", "floor", "place", "number"] []) (kW : PySem.W.keepIn K (.ref h) = true) (mW : mg "with_tile" = some (.ref h))
    (GZ : FnOk P w K mg base CX0 4 z zd ["_law_kept"] (spWord K ds)) (bZ : Binds K zd ["_law_kept"] []) (kZ : PySem.W.keepIn K (.ref z) = true) (mZ : mg "_law_word" = some (.ref z)) (eC : Exn K mg "FloorError" C) (u1 : Under K (ds 1) C) (u3 : Under K (ds 3) C) (S1 : Says K ds 1) (S3 : Says K ds 3) :
    FnOk P w K mg base CX0 5 f fd ["_law_what", "_law_tiles_here", "_law_floor_here", "_law_place", "_law_number"] (spDo K) := by
  refine F.ok scDo (fun vs H Q E h => ?_) (fun cdv A outer s H vs Q E hr h => ?_)
  · obtain ⟨k, t, v, p, x, ts, d, rs, c, i, j, rfl, _⟩ := h; rfl
  obtain ⟨k, t, v, p, x, ts, d, rs, c, i, j, rfl, ht, hx, hF, ev, hp, q1, q2, q3, q4⟩ := h
  refine' ⟨_, ?b, ?fin⟩
  case b =>
    refine' pss_cons ?s1 ?r1
    case s1 => exact ps_set (i := 5) scDo.nd rfl (Or.inl rfl) pe_non
    case r1 =>
      refine' pss_cons ?s2 ?r2
      case s2 => exact ps_set (i := 6) scDo.nd rfl (Or.inl rfl) pe_non
      case r2 =>
        refine' pss_cons ?s3 ?r3
        case s3 =>
          exact ps_try (i := 7) (n := "e") (c := "FloorError") rfl rfl scDo.nd rfl rfl rfl eC.mg eC.ok (by decide +kernel)
            (psx_set (i := 6) scDo.nd rfl (Or.inl rfl) (pex_if (pt_cmpR op_eq (pv 0) pe_int (nomark _)) (pex_call GT hr rfl mT kT bT .nil (pa_cons (pv 2) (pa_cons (pv 3) pa_nil))) (pex_call GW hr rfl mW kW bW .nil (pa_cons (pv 1) (pa_cons (pv 2) (pa_cons (pv 3) (pa_cons (pv 4) pa_nil)))))))
            (fun a => pss_one (ps_set (i := 5) scDo.nd rfl (Or.inl rfl) (pv 7)))
        case r3 =>
          refine' pss_cons ?s4 ?r4
          case s4 => exact ps_if (pt_cmpR op_isN (pv 5) pe_non (nomark _)) (pss_one (ps_ret (pv 6))) pss_nil
          case r4 =>
            refine' pss_one ?s5
            case s5 => exact ps_ret (pe_call GZ hr rfl mZ kZ bZ .nil pass0 (pa_cons (pv 5) pa_nil))
  case fin =>
    refine ⟨_, rfl, rfl, _, rfl, ite2 (fun ck => ?_) (fun ck => ?_)⟩
    · have k0 : k = 0 := by
        have := of_decide_eq_true ck
        injection this
      refine ⟨_, rfl, _, rfl, v, p, rs, c, i, j, rfl, hF, ev, hp, fun H' s' => ⟨fun hin => ?_, fun hn => ?_⟩⟩
      · exact ⟨_, rfl, rfl, _, rfl, iteT ⟨_, rfl, q2 k0 hin H' s'⟩⟩
      · refine ⟨ds 1, rfl, u1, fun a ob na hc => ⟨_, rfl, _, rfl, rfl, _, rfl, iteF ?_⟩⟩
        exact ⟨_, rfl, a, ob, 1, rfl, upd_same, hc, by decide, S1, fun H2 s2 => q1 hn H2 (s'.trans ((same_new na _).trans s2))⟩
    · have k0 : k ≠ 0 := fun z => ck (by rw [z]; rfl)
      refine ⟨_, rfl, _, rfl, _, rfl, _, rfl, t, v, p, x, ts, d, rs, c, i, j, rfl, ht, hx, hF, ev, hp, fun hn H' s' => ?_, fun hin hm H' s' => ?_, fun hin hm b H' s' hf => ?_⟩
      · refine ⟨ds 1, rfl, u1, fun a ob na hc => ⟨_, rfl, _, rfl, rfl, _, rfl, iteF ?_⟩⟩
        exact ⟨_, rfl, a, ob, 1, rfl, upd_same, hc, by decide, S1, fun H2 s2 => q1 hn H2 (s'.trans ((same_new na _).trans s2))⟩
      · refine ⟨ds 3, rfl, u3, fun a ob na hc => ⟨_, rfl, _, rfl, rfl, _, rfl, iteF ?_⟩⟩
        exact ⟨_, rfl, a, ob, 3, rfl, upd_same, hc, by decide, S3, fun H2 s2 => q3 k0 hin hm H2 (s'.trans ((same_new na _).trans s2))⟩
      · exact ⟨_, rfl, rfl, _, rfl, iteT ⟨_, rfl, q4 k0 hin hm b H' s' hf⟩⟩
end
end K2

set_option Elab.async false
set_option linter.all false
set_option maxRecDepth 100000
set_option maxHeartbeats 600000
namespace K2
open PySem L2
theorem tups_reps {H : Hp} : ∀ {ys : List V} {rs : List (List V)}, TupsAt H ys rs → (∀ r ∈ rs, ∀ x ∈ r, Num x) → Reps H ys (rs.map rowDn)
  | _, _, .nil, _ => .nil
  | _, _, .cons ⟨b, e, hb⟩ t, h => by
    subst e
    exact .cons (.tup hb (nums_reps (h _ List.mem_cons_self)).1) (tups_reps t fun x hx => h x (List.mem_cons_of_mem _ hx))
theorem flr_rep {H : Hp} {v : V} {rs : List (List V)} (h : Flr H v rs) (n : ∀ r ∈ rs, ∀ x ∈ r, Num x) : Rep H v (.tup (rs.map rowDn)) := by
  obtain ⟨b, ys, rfl, e, t⟩ := h
  exact .tup e (tups_reps t n)
theorem rows_fit9 {rs : List (List V)} (n : ∀ r ∈ rs, ∀ x ∈ r, Num x) : (D.tup (rs.map rowDn)).fit 9 = true ∧ (D.lst (rs.map rowDn)).fit 9 = true := by
  have := D.fits_mono (m := 8) (by decide) (rows_fit n)
  exact ⟨this, this⟩
theorem places_num {r c : Nat} : ∀ x ∈ placesL r c, ∀ y ∈ x, Num y := by
  intro x hx y hy
  unfold placesL at hx
  obtain ⟨i, _, hi⟩ := List.mem_flatMap.mp hx
  obtain ⟨j, _, rfl⟩ := List.mem_map.mp hi
  simp at hy
  rcases hy with rfl | rfl
  · exact .inr ⟨_, rfl⟩
  · exact .inr ⟨_, rfl⟩
theorem laid_num {rs : List (List V)} {c : Nat} : ∀ x ∈ laidL rs c, ∀ y ∈ x, Num y := by
  intro x hx y hy
  unfold laidL at hx
  obtain ⟨k, _, rfl⟩ := List.mem_map.mp hx
  simp at hy
  rcases hy with rfl | rfl
  · exact .inr ⟨_, rfl⟩
  · exact .inr ⟨_, rfl⟩
theorem placesL_eq (r c : Nat) : placesL r c = (List.range (r * c)).map fun (k : Nat) => [V.int (0 + ((k / c : Nat) : Int)), V.int (0 + ((k % c : Nat) : Int))] := by
  apply List.ext_getElem?
  intro k
  by_cases hk : k < r * c
  · rw [placesL_get (r := r) hk, List.getElem?_map, List.getElem?_range hk]; rfl
  · rw [List.getElem?_eq_none (by rw [placesL_len]; omega), List.getElem?_eq_none (by rw [List.length_map, List.length_range]; omega)]
theorem full_iff {rs : List (List V)} {c : Nat} : (D.lst ((laidL rs c).map rowDn) = D.lst ((placesL rs.length c).map rowDn)) ↔ (laidL rs c).length = rs.length * c := by
  constructor
  · intro h
    injection h with h
    have := congrArg List.length h
    rw [List.length_map, List.length_map, placesL_len] at this
    exact this
  · intro h
    unfold laidL at h ⊢
    rw [List.length_map] at h
    have : (List.range (rs.length * c)).filter (isLaid rs c) = List.range (rs.length * c) := by
      rw [List.filter_eq_self]
      have h2 : ((List.range (rs.length * c)).filter (isLaid rs c)).length = (List.range (rs.length * c)).length := by rw [h, List.length_range]
      exact List.length_filter_eq_length_iff.mp h2
    rw [this, ← placesL_eq]
theorem place_mem {r c : Nat} {i j : Int} : (D.tup [.int i, .int j] ∈ (placesL r c).map rowDn) ↔ (0 ≤ i ∧ i < (r : Int) ∧ 0 ≤ j ∧ j < (c : Int)) := by
  unfold placesL
  simp only [List.mem_map, List.mem_flatMap, List.mem_range]
  constructor
  · rintro ⟨x, ⟨a, ha, b, hb, rfl⟩, e⟩
    simp only [rowDn, flatD', List.map_cons, List.map_nil, D.tup.injEq, List.cons.injEq, D.int.injEq, and_true] at e
    omega
  · rintro ⟨h1, h2, h3, h4⟩
    refine ⟨_, ⟨i.toNat, by omega, j.toNat, by omega, rfl⟩, ?_⟩
    simp only [rowDn, flatD', List.map_cons, List.map_nil, D.tup.injEq, List.cons.injEq, D.int.injEq, and_true]
    omega
def LstsAt (H : Hp) (bs : List Addr) (rs : List (List V)) : Prop := Paired (fun (b : Addr) (r : List V) => H b = some (.lst r)) bs rs
theorem LstsAt.up {H H' : Hp} (s : Same H H') : ∀ {bs : List Addr} {rs : List (List V)}, LstsAt H bs rs → LstsAt H' bs rs
  | _, _, .nil => .nil
  | _, _, .cons h t => .cons (s _ _ h) (LstsAt.up s t)
theorem LstsAt.snoc {H : Hp} {b : Addr} {r : List V} (h : H b = some (.lst r)) : ∀ {bs : List Addr} {rs : List (List V)}, LstsAt H bs rs → LstsAt H (bs ++ [b]) (rs ++ [r])
  | _, _, .nil => .cons h .nil
  | _, _, .cons x t => .cons x (LstsAt.snoc h t)
theorem LstsAt.at {H : Hp} : ∀ {bs : List Addr} {rs : List (List V)}, LstsAt H bs rs → ∀ {i : Nat} {r : List V}, rs[i]? = some r → ∃ b, bs[i]? = some b ∧ H b = some (.lst r)
  | _, _, .nil, i, r, e => by simp at e
  | _, _, .cons h t, 0, r, e => by simp at e; subst e; exact ⟨_, rfl, h⟩
  | _, _, .cons h t, i + 1, r, e => by simpa using LstsAt.at t (i := i) (by simpa using e)
/-- a store into one of them -/
theorem LstsAt.put {H : Hp} {r' : List V} : ∀ {bs : List Addr} {rs : List (List V)}, LstsAt H bs rs → bs.Nodup → ∀ {i : Nat} {b : Addr}, bs[i]? = some b → LstsAt (upd H b (.lst r')) bs (rs.set i r')
  | _, _, .nil, _, i, b, e => by simp at e
  | _, _, .cons (a := a) h t, nd, 0, b, e => by
    simp at e; subst e
    refine .cons upd_same ?_
    have nb := (List.nodup_cons.mp nd).1
    have : ∀ {bs : List Addr} {rs : List (List V)}, LstsAt H bs rs → a ∉ bs → LstsAt (upd H a (.lst r')) bs rs := by
      intro bs rs l
      induction l with
      | nil => intro _; exact .nil
      | cons h t ih =>
        intro hn
        refine .cons ?_ (ih fun z => hn (List.mem_cons_of_mem _ z))
        rw [upd_ne ?_]; exact h
        intro z
        exact hn (by rw [← z]; exact List.mem_cons_self)
    exact this t nb
  | _, _, .cons h t, nd, i + 1, b, e => by
    have e' := (by simpa using e : _[i]? = some b)
    refine .cons ?_ (LstsAt.put t (List.nodup_cons.mp nd).2 e')
    rw [upd_ne ?_]; exact h
    intro z
    exact (List.nodup_cons.mp nd).1 (z ▸ List.mem_of_getElem? e')
theorem TupsAt.append {H : Hp} : ∀ {ys zs : List V} {rs ts : List (List V)}, TupsAt H ys rs → TupsAt H zs ts → TupsAt H (ys ++ zs) (rs ++ ts)
  | _, _, _, _, .nil, t => t
  | _, _, _, _, .cons h l, t => .cons h (TupsAt.append l t)
theorem take_snoc {α : Type} {xs : List α} {i : Nat} {x : α} (h : xs[i]? = some x) : xs.take (i + 1) = xs.take i ++ [x] := by
  rw [List.take_add_one, h]; rfl
/-- [place for place in places if floor[place[0]][place[1]] is not None] -/
theorem comp_laidW {K : PySem.W.Frag} {H1 : Hp} {a : Addr} {ys : List V} {rs : List (List V)} {c : Nat} {tt : TT} {te : TE} {cs : List (Option V)} {Q : VK} (e : H1 a = some (.lst ys)) (tp : TupsAt H1 ys (placesL rs.length c)) (ev : Even c rs)
    (test : ∀ x (i j : Nat) H' (R : Bool → Hp → Prop), Plc H' x (0 + (i : Int)) (0 + (j : Int)) → i < rs.length → j < c → Same H1 H' → R (!decide (cellV rs i j = V.non)) H' → tt (some x :: cs) H' R)
    (elem : ∀ x H' (R : VK), R x H' → te (some x :: cs) H' R)
    (fin : ∀ p zs H', Same H1 H' → H' p = none → TupsAt H' zs (laidL rs c) → Q (.ref p) (upd H' p (.lst zs))) : CompW (Itl K a) tt te cs H1 Q := by
  have hlen : ys.length = rs.length * c := by rw [tp.length, placesL_len]
  have hz : ys.length ≤ 10000 := by rw [hlen]; exact Nat.mul_le_mul ev.most ev.cols
  have hline : (10000 : Nat) ≤ sizeLine := by decide
  have place : ∀ {i : Nat} {x : V} {H' : Hp}, ys[i]? = some x → Same H1 H' → i < rs.length * c ∧ 0 < c ∧ Plc H' x (0 + ((i / c : Nat) : Int)) (0 + ((i % c : Nat) : Int)) := fun {i x H'} hx hs => by
    have hi : i < rs.length * c := by rw [← hlen]; exact (List.getElem?_eq_some_iff.mp hx).1
    have hc : 0 < c := by
      cases c with
      | zero => simp at hi
      | succ c => exact Nat.succ_pos _
    obtain ⟨b, h1, h2⟩ := tp.at (placesL_get (r := rs.length) hi)
    rw [hx] at h1
    cases h1
    exact ⟨hi, hc, b, rfl, hs _ _ h2⟩
  refine comp_flt (K := K) (isLaid rs c) (fun i => ys.getD i .non) (SqL.of e) (by omega) (fun i x H' R hx hs hR => ?_) (fun i x H' R hx hs hR => ?_) (fun p H' hs hn => ?_)
  · obtain ⟨hi, hc, hp⟩ := place hx hs
    exact test x (i / c) (i % c) H' R hp (Nat.div_lt_of_lt_mul (by rw [Nat.mul_comm]; exact hi)) (Nat.mod_lt _ hc) hs (hR H' hs)
  · have e : ys.getD i .non = x := by simp [List.getD, hx]
    have := hR H' hs
    rw [e] at this
    exact elem x H' R this
  · refine fin p _ H' hs hn ?_
    have t2 := tups_pick (tp.up (H' := H') fun b xs z => hs _ _ z) ((List.range ys.length).filter (isLaid rs c)) (fun k hk => by
      have := List.mem_range.mp (List.mem_filter.mp hk).1
      rw [placesL_len, ← hlen]; exact this)
    have e : (((List.range ys.length).filter (isLaid rs c)).map fun k => (placesL rs.length c).getD k []) = laidL rs c := by
      unfold laidL
      rw [hlen]
      refine List.map_congr_left fun k hk => ?_
      have hk' := List.mem_range.mp (List.mem_filter.mp hk).1
      simp [List.getD, placesL_get (r := rs.length) hk']
    rw [e] at t2
    exact t2
/-- floor[place[0]][place[1]] -/
theorem cell_at {H : Hp} {v p : V} {rs : List (List V)} {c i j : Nat} (hF : Flr H v rs) (ev : Even c rs) (hp : Plc H p (0 + (i : Int)) (0 + (j : Int))) (hi : i < rs.length) (hj : j < c) :
    ∃ fb ys pb rb, v = .ref fb ∧ p = .ref pb ∧ H fb = some (.tup ys) ∧ H pb = some (.tup [.int (0 + (i : Int)), .int (0 + (j : Int))]) ∧ atI ys (0 + (i : Int)) = some (.ref rb) ∧ H rb = some (.tup rs[i]) ∧ atI rs[i] (0 + (j : Int)) = some (cellV rs i j) := by
  obtain ⟨fb, ys, rfl, ef, t⟩ := hF
  obtain ⟨pb, rfl, ep⟩ := hp
  obtain ⟨rb, h1, h2⟩ := t.at (i := i) (r := rs[i]) (List.getElem?_eq_getElem hi)
  have hlr : j < rs[i].length := by rw [ev.row _ (List.getElem_mem hi)]; exact hj
  have ec : cellV rs i j = rs[i][j] := by
    unfold cellV
    simp [List.getD, hi, hlr]
  refine ⟨fb, ys, pb, rb, rfl, rfl, ef, ep, by rw [Int.zero_add]; exact atI_nat h1, h2, ?_⟩
  rw [Int.zero_add, ec]; exact atI_nat (List.getElem?_eq_getElem hlr)
theorem cell_at2 {H : Hp} {v : V} {pb : Addr} {rs : List (List V)} {c i j : Nat} (hF : Flr H v rs) (ev : Even c rs) (hp : H pb = some (.tup [.int (i : Int), .int (j : Int)])) (hi : i < rs.length) (hj : j < c) :
    ∃ fb ys rb, v = .ref fb ∧ H fb = some (.tup ys) ∧ TupsAt H ys rs ∧ atI ys (i : Int) = some (.ref rb) ∧ H rb = some (.tup rs[i]) ∧ atI rs[i] (j : Int) = some (cellV rs i j) := by
  obtain ⟨fb, ys, rfl, ef, t⟩ := hF
  obtain ⟨rb, h1, h2⟩ := t.at (i := i) (r := rs[i]) (List.getElem?_eq_getElem hi)
  have hlr : j < rs[i].length := by rw [ev.row _ (List.getElem_mem hi)]; exact hj
  have ec : cellV rs i j = rs[i][j] := by
    unfold cellV
    simp [List.getD, hi, hlr]
  refine ⟨fb, ys, rb, rfl, ef, t, atI_nat h1, h2, ?_⟩
  rw [ec]; exact atI_nat (List.getElem?_eq_getElem hlr)
theorem at_mem {xs : List V} {i : Int} (h0 : 0 ≤ i) (h : i < (xs.length : Int)) : ∃ v, atI xs i = some v ∧ v ∈ xs := by
  have hk : i.toNat < xs.length := by omega
  have q : atI xs ((i.toNat : Nat) : Int) = some xs[i.toNat] := atI_nat (List.getElem?_eq_getElem hk)
  have ek : ((i.toNat : Nat) : Int) = i := by omega
  rw [ek] at q
  exact ⟨_, q, List.getElem_mem hk⟩
theorem ix_nat {n j : Nat} (h : j < n) : ixN n (j : Int) = some j := by
  unfold ixN
  rw [if_pos (by omega), if_pos (by omega), Int.toNat_natCast]
theorem set_num {rs : List (List V)} (num : ∀ r ∈ rs, ∀ x ∈ r, Num x) {i j : Nat} {x : V} (hx : Num x) : ∀ r ∈ setV rs i j x, ∀ y ∈ r, Num y := by
  intro r hr y hy
  unfold setV at hr
  rcases List.mem_or_eq_of_mem_set hr with hr | rfl
  · exact num r hr y hy
  · rcases List.mem_or_eq_of_mem_set hy with hy | rfl
    · rw [List.getD_eq_getElem?_getD] at hy
      cases h : rs[i]? with
      | none => rw [h] at hy; simp at hy
      | some r => rw [h] at hy; exact num r (List.mem_of_getElem? h) y hy
    · exact hx
theorem rep_num {r c : Nat} : ∀ x ∈ List.replicate r (List.replicate c V.non), ∀ y ∈ x, Num y := by
  intro x hx y hy
  rw [List.eq_of_mem_replicate hx] at hy
  exact .inl (List.eq_of_mem_replicate hy)
/-- the five numbers that are drawn -/
theorem five {n : Nat} (hn : 1 ≤ n) {x : V} (h : x ∈ [V.non, .int (-1), .int (n : Int), .int 0, .int ((n : Int) - 1)]) : Num x ∧ ((flatD' x ∈ [D.int (-1), D.int (n : Int)]) ↔ mayLie n (flatD' x) = false) := by
  simp only [List.mem_cons, List.not_mem_nil, or_false] at h
  rcases h with rfl | rfl | rfl | rfl | rfl
  · exact ⟨.inl rfl, by simp [flatD', mayLie]⟩
  · exact ⟨.inr ⟨_, rfl⟩, by simp [flatD', mayLie, hasNum]⟩
  · exact ⟨.inr ⟨_, rfl⟩, by simp [flatD', mayLie, hasNum]⟩
  · refine ⟨.inr ⟨_, rfl⟩, ?_⟩
    simp only [flatD', mayLie, hasNum, List.mem_cons, D.int.injEq, List.not_mem_nil, or_false]
    constructor
    · intro z; omega
    · intro z
      have : decide (0 < (n : Int)) = true := decide_eq_true (by omega)
      rw [this] at z; simp at z
  · refine ⟨.inr ⟨_, rfl⟩, ?_⟩
    simp only [flatD', mayLie, hasNum, List.mem_cons, D.int.injEq, List.not_mem_nil, or_false]
    constructor
    · intro z; omega
    · intro z
      have h1 : decide (0 ≤ (n : Int) - 1) = true := decide_eq_true (by omega)
      have h2 : decide ((n : Int) - 1 < (n : Int)) = true := decide_eq_true (by omega)
      rw [h1, h2] at z; simp at z
theorem cell_num {rs : List (List V)} (num : ∀ r ∈ rs, ∀ x ∈ r, Num x) {i j : Nat} : Num (cellV rs i j) := by
  unfold cellV
  rw [List.getD_eq_getElem?_getD, List.getD_eq_getElem?_getD]
  cases h : rs[i]? with
  | none => exact .inl rfl
  | some r =>
    cases h2 : r[j]? with
    | none => simp [h2]; exact .inl rfl
    | some x => simp [h2]; exact num r (List.mem_of_getElem? h) x (List.mem_of_getElem? h2)
/-- [list(row) for row in floor] -/
theorem comp_lines {K : PySem.W.Frag} {H1 : Hp} {a : Addr} {ys : List V} {rs : List (List V)} {te : TE} {cs : List (Option V)} {Q : VK} (e : H1 a = some (.tup ys)) (t : TupsAt H1 ys rs) (hl : rs.length ≤ 1000)
    (step : ∀ b r H' (R : VK), H' b = some (.tup r) → (∀ l, H' l = none → R (.ref l) (upd H' l (.lst r))) → te (some (.ref b) :: cs) H' R)
    (fin : ∀ bs H p, Same H1 H → H p = none → bs.Nodup → (∀ b ∈ bs, H1 b = none) → LstsAt H bs rs → Q (.ref p) (upd H p (.lst (bs.map V.ref)))) : CompW (Itt K a) tYes te cs H1 Q := by
  have hlen := t.length
  refine comp_genT e (fun i zs H => i ≤ rs.length ∧ ∃ bs, zs = bs.map V.ref ∧ Same H1 H ∧ bs.Nodup ∧ (∀ b ∈ bs, H1 b = none ∧ ∃ o, H b = some o) ∧ LstsAt H bs (rs.take i)) ⟨Nat.zero_le _, [], rfl, Same.refl _, List.nodup_nil, (fun _ z => nomatch z), by rw [List.take_zero]; exact .nil⟩ (fun i zs H j => ?_) (fun i zs H j => ?_) (fun i zs x H' R hx j hR => ?_) (fun zs H p j hp => ?_)
  · obtain ⟨hi, bs, rfl, s, nd, fr, l⟩ := j
    have h1 := Paired.length l
    rw [List.length_take] at h1
    rw [List.length_map]
    exact small (by omega)
  · obtain ⟨hi, bs, rfl, s, _⟩ := j; exact s
  · obtain ⟨hi, bs, rfl, s, nd, fr, l⟩ := j
    have hi' : i < rs.length := by rw [← hlen]; exact (List.getElem?_eq_some_iff.mp hx).1
    obtain ⟨b, h1, h2⟩ := t.at (i := i) (r := rs[i]) (List.getElem?_eq_getElem hi')
    rw [hx] at h1
    cases h1
    refine step b rs[i] H' R (s _ _ h2) fun q hq => hR _ _ ⟨hi', bs ++ [q], by simp, s.trans (same_new hq _), ?_, fun z hz => ?_, ?_⟩
    · rw [List.nodup_append]
      refine ⟨nd, by simp, fun x hx y hy => ?_⟩
      simp at hy; subst hy
      rintro rfl
      obtain ⟨_, o, ho⟩ := fr _ hx
      rw [hq] at ho; cases ho
    · rcases List.mem_append.mp hz with hz | hz
      · obtain ⟨f1, o, ho⟩ := fr z hz
        exact ⟨f1, o, (same_new hq _) _ _ ho⟩
      · simp at hz; subst hz
        exact ⟨s.free hq, _, upd_same⟩
    · rw [take_snoc (List.getElem?_eq_getElem hi')]
      exact LstsAt.snoc upd_same (l.up (same_new hq _))
  · obtain ⟨hi, bs, rfl, s, nd, fr, l⟩ := j
    rw [hlen, List.take_length] at l
    exact fin bs H p s hp nd (fun b hb => (fr b hb).1) l
/-- [tuple(line) for line in lines] -/
theorem comp_tuples {K : PySem.W.Frag} {H1 : Hp} {a : Addr} {bs : List Addr} {rs : List (List V)} {te : TE} {cs : List (Option V)} {Q : VK} (e : H1 a = some (.lst (bs.map V.ref))) (t : LstsAt H1 bs rs) (hl : rs.length ≤ 1000)
    (step : ∀ b r H' (R : VK), H' b = some (.lst r) → (∀ l, H' l = none → R (.ref l) (upd H' l (.tup r))) → te (some (.ref b) :: cs) H' R)
    (fin : ∀ zs H p, Same H1 H → H p = none → TupsAt H zs rs → Q (.ref p) (upd H p (.lst zs))) : CompW (Itl K a) tYes te cs H1 Q := by
  have hlen : bs.length = rs.length := Paired.length t
  refine comp_genL (SqL.of e) (fun i zs H => i ≤ rs.length ∧ Same H1 H ∧ TupsAt H zs (rs.take i)) ⟨Nat.zero_le _, Same.refl _, by rw [List.take_zero]; exact .nil⟩ (fun i zs H j => ?_) (fun i zs H j => j.2.1) (fun i zs x H' R hx j hR => ?_) (fun zs H p j hp => ?_)
  · obtain ⟨hi, s, l⟩ := j
    have h1 := l.length
    rw [List.length_take] at h1
    exact small (by omega)
  · obtain ⟨hi, s, l⟩ := j
    rw [List.getElem?_map] at hx
    have hi' : i < rs.length := by
      rw [← hlen]
      cases hb : bs[i]? with
      | none => rw [hb] at hx; cases hx
      | some b => exact (List.getElem?_eq_some_iff.mp hb).1
    obtain ⟨b, h1, h2⟩ := t.at (i := i) (r := rs[i]) (List.getElem?_eq_getElem hi')
    rw [h1] at hx
    cases hx
    refine step b rs[i] H' R (s _ _ h2) fun q hq => hR _ _ ⟨hi', s.trans (same_new hq _), ?_⟩
    rw [take_snoc (List.getElem?_eq_getElem hi')]
    exact TupsAt.snoc ⟨q, rfl, upd_same⟩ (l.up fun b xs z => (same_new hq _) _ _ z)
  · obtain ⟨hi, s, l⟩ := j
    rw [List.length_map, hlen, List.take_length] at l
    exact fin zs H p s hp l
end K2

set_option Elab.async false
set_option linter.all false
set_option maxRecDepth 100000
set_option maxHeartbeats 1000000
namespace K2
open PySem L2
abbrev nmL : List Str := ["_law_script", "_law_tiles_here", "_law_rows", "_law_columns", "_law_floor_here", "_law_every", "_law_row", "_law_some", "_law_k", "_law_place", "_law_number", "_law_due", "_law_lines"]
theorem scL : FnScope nmL ["_law_script"] (defScope sLaw) := ⟨rfl, rfl, rfl, by decide +kernel, rfl, by decide +kernel, by decide +kernel⟩
def spLaw (K : PySem.W.Frag) : Sp := fun vs H Q _ => ∃ (a : Addr) (ns : List Int), vs = [.ref a] ∧ SqL K H a (ns.map V.int) ∧ ∀ H', Q (.bl true) H'
section
variable {X : Cx} {es : List Expr} {te : TE} {t : TA}
theorem pa_T {l : List Expr} {k : Nat} {pos : Pos} (ha : PE X (.Tuple l k pos) te) (hr : PA X es t) : PA X (.Tuple l k pos :: es) (tCons te t) := pa_cons ha hr
theorem pa_L {l : List Expr} {pos : Pos} (ha : PE X (.List l pos) te) (hr : PA X es t) : PA X (.List l pos :: es) (tCons te t) := pa_cons ha hr
theorem pa_C {c : Const} {k : Nat} {pos : Pos} (ha : PE X (.Constant c k pos) te) (hr : PA X es t) : PA X (.Constant c k pos :: es) (tCons te t) := pa_cons ha hr
theorem pa_N {x : Str} {pos : Pos} (ha : PE X (.Name x pos) te) (hr : PA X es t) : PA X (.Name x pos :: es) (tCons te t) := pa_cons ha hr
theorem pa_X {g : Expr} {l : List Expr} {kw : List Keyword} {pos : Pos} (ha : PE X (.Call g l kw pos) te) (hr : PA X es t) : PA X (.Call g l kw pos :: es) (tCons te t) := pa_cons ha hr
theorem pa_B {a b : Expr} {op : Operator} {pos : Pos} (ha : PE X (.BinOp a op b pos) te) (hr : PA X es t) : PA X (.BinOp a op b pos :: es) (tCons te t) := pa_cons ha hr
theorem pa_U {a : Expr} {op : UnaryOp} {pos : Pos} (ha : PE X (.UnaryOp op a pos) te) (hr : PA X es t) : PA X (.UnaryOp op a pos :: es) (tCons te t) := pa_cons ha hr
end
section
variable {P : Program} {w : World} {K : PySem.W.Frag} {mg : Str → Option Value} {base : Heap} {f : Addr} {fd : FuncData}
theorem call_listK {X : Cx} {K : PySem.W.Frag} (hK : X.K = K := by rfl) : CallR X (.type "list") (fun xs H Q => ∃ p ys, xs = [.ref p] ∧ (SqL K H p ys ∨ SqT K H p ys) ∧ ∀ l, H l = none → Q (.ref l) (upd H l (.lst ys))) := by subst hK; exact call_list_of
theorem call_tupleK {X : Cx} {K : PySem.W.Frag} (hK : X.K = K := by rfl) : CallR X (.type "tuple") (fun xs H Q => ∃ p ys, xs = [.ref p] ∧ ((SqL K H p ys ∧ ∀ l, H l = none → Q (.ref l) (upd H l (.tup ys))) ∨ (SqT K H p ys ∧ Q (.ref p) H))) := by subst hK; exact call_tuple_of
structure Calls (P : Program) (w : World) (K : PySem.W.Frag) (mg : Str → Option Value) (base : Heap) (x : Str) (ps : List Str) (k : Nat) (sp : Sp) (g : Addr) (gd : FuncData) : Prop where
  ok : FnOk P w K mg base CX0 k g gd ps sp
  b : Binds K gd ps []
  kp : PySem.W.keepIn K (.ref g) = true
  m : mg x = some (.ref g)
abbrev lawX (P : Program) (w : World) (K : PySem.W.Frag) (mg : Str → Option Value) (base : Heap) (f : Addr) (cdv : Value) (A : Around) (outer : List Env) (s : Shared) (H : Hp) (E : XK) : Cx :=
  (cxOf CX0 P w K mg base nmL "law" (defScope sLaw) f cdv A outer s H E).nox
theorem ok_law {g1 g2 g3 g4 g5 g6 g7 g8 g9 g10 : Addr} {d1 d2 d3 d4 d5 d6 d7 d8 d9 d10 : FuncData} (F : Fun K "law" "law" sLaw f fd) (T : Txt mg)
    (CK : Calls P w K mg base "_law_pick" ["_law_script", "_law_k", "_law_many"] 5 (spPick K) g1 d1) (CT : Calls P w K mg base "_law_tiles" ["_law_script", "_law_at", "_law_most"] 5 (spTiles K) g2 d2)
    (CL : Calls P w K mg base "_law_floor" ["_law_script", "_law_at", "_law_tiles_here", "_law_rows", "_law_columns", "_law_many"] 5 (spFloorL K) g3 d3) (CD : Calls P w K mg base "_law_sides" ["_law_script", "_law_at"] 5 (spSides K) g4 d4)
    (CP : Calls P w K mg base "places_of" ["floor"] 5 spPlaces g5 d5) (CZ : Calls P w K mg base "size_of" ["floor"] 5 spSize g6 d6) (CA : Calls P w K mg base "laid_places" ["floor"] 5 spLaid g7 d7) (CF : Calls P w K mg base "is_full" ["floor"] 5 spFull g8 d8)
    (CE : Calls P w K mg base "empty" ["rows", "columns"] 5 spEmpty g9 d9) (CO : Calls P w K mg base "_law_do" ["_law_what", "_law_tiles_here", "_law_floor_here", "_law_place", "_law_number"] 5 (spDo K) g10 d10) :
    FnOk P w K mg base CX0 6 f fd ["_law_script"] (spLaw K) := by
  refine F.ok scL (fun vs H Q E h => ?_) (fun cdv A outer s H vs Q E hr h => ?_)
  · obtain ⟨a, ns, rfl, _⟩ := h; rfl
  obtain ⟨a, ns, rfl, hS, q⟩ := h
  have hu := room64 hr
  have v0 : ∀ {pos}, PE (lawX P w K mg base f cdv A outer s H E) (.Name "_law_script" pos) (tVar 0) := fun {pos} => pv 0
  have v1 : ∀ {pos}, PE (lawX P w K mg base f cdv A outer s H E) (.Name "_law_tiles_here" pos) (tVar 1) := fun {pos} => pv 1
  have v2 : ∀ {pos}, PE (lawX P w K mg base f cdv A outer s H E) (.Name "_law_rows" pos) (tVar 2) := fun {pos} => pv 2
  have v3 : ∀ {pos}, PE (lawX P w K mg base f cdv A outer s H E) (.Name "_law_columns" pos) (tVar 3) := fun {pos} => pv 3
  have v4 : ∀ {pos}, PE (lawX P w K mg base f cdv A outer s H E) (.Name "_law_floor_here" pos) (tVar 4) := fun {pos} => pv 4
  have v5 : ∀ {pos}, PE (lawX P w K mg base f cdv A outer s H E) (.Name "_law_every" pos) (tVar 5) := fun {pos} => pv 5
  have v7 : ∀ {pos}, PE (lawX P w K mg base f cdv A outer s H E) (.Name "_law_some" pos) (tVar 7) := fun {pos} => pv 7
  have v8 : ∀ {pos}, PE (lawX P w K mg base f cdv A outer s H E) (.Name "_law_k" pos) (tVar 8) := fun {pos} => pv 8
  have v9 : ∀ {pos}, PE (lawX P w K mg base f cdv A outer s H E) (.Name "_law_place" pos) (tVar 9) := fun {pos} => pv 9
  have v10 : ∀ {pos}, PE (lawX P w K mg base f cdv A outer s H E) (.Name "_law_number" pos) (tVar 10) := fun {pos} => pv 10
  have v11 : ∀ {pos}, PE (lawX P w K mg base f cdv A outer s H E) (.Name "_law_due" pos) (tVar 11) := fun {pos} => pv 11
  have v12 : ∀ {pos}, PE (lawX P w K mg base f cdv A outer s H E) (.Name "_law_lines" pos) (tVar 12) := fun {pos} => pv 12
  have p0 : ∀ {p1 p2 pos k}, PE (lawX P w K mg base f cdv A outer s H E) (.Subscript (.Name "_law_place" p1) (.Constant (.int 0) k p2) pos) (tOp (rIxT K) (tVar 9) (tC (.int 0))) := fun {p1 p2 pos k} => pe_ix (ix_tupK (K := K)) v9 pe_int (fun _ _ => rfl)
  have p1 : ∀ {p1 p2 pos k}, PE (lawX P w K mg base f cdv A outer s H E) (.Subscript (.Name "_law_place" p1) (.Constant (.int 1) k p2) pos) (tOp (rIxT K) (tVar 9) (tC (.int 1))) := fun {p1 p2 pos k} => pe_ix (ix_tupK (K := K)) v9 pe_int (fun _ _ => rfl)
  have cLen : ∀ {p1 p2 pos}, PE (lawX P w K mg base f cdv A outer s H E) (.Call (.Name "len" p1) [.Name "_law_tiles_here" p2] [] pos) (tCB (rLen K) (tCons (tVar 1) tNil)) := fun {p1 p2 pos} => pe_callB (call_lenK (K := K)) rfl T.len PySem.boot_len (pa_N v1 pa_nil)
  have pick1 : ∀ {p1 p2 p3 p4 p5 p6 p7 p8 p9 p10 pos k1 k2 k3} {i j m : Int}, PE (lawX P w K mg base f cdv A outer s H E) (.Call (.Name "_law_pick" p1) [.Name "_law_script" p2, .BinOp (.Constant (.int i) k1 p3) .Add (.BinOp (.Constant (.int j) k2 p5) .Mult (.Name "_law_k" p6) p7) p4, .BinOp (.Name "_law_rows" p8) .Add (.Constant (.int m) k3 p9) p10] [] pos)
      (tCall (spPick K) [] E0 (tCons (tVar 0) (tCons (tOp (rI0 fun i j => .int (i + j)) (tC (.int i)) (tOp (rI CMul fun i j => .int (i * j)) (tC (.int j)) (tVar 8))) (tCons (tOp (rI0 fun i j => .int (i + j)) (tVar 2) (tC (.int m))) tNil)))) :=
    fun {p1 p2 p3 p4 p5 p6 p7 p8 p9 p10 pos k1 k2 k3 i j m} => pe_call CK.ok hr rfl CK.m CK.kp CK.b .nil pass0 (pa_N v0 (pa_B (pe_op op_add pe_int (pe_op op_mul pe_int v8)) (pa_B (pe_op op_add v2 pe_int) pa_nil)))
  have pick2 : ∀ {p1 p2 p3 p4 p5 p6 p7 p8 p9 p10 pos k1 k2 k3} {i j m : Int}, PE (lawX P w K mg base f cdv A outer s H E) (.Call (.Name "_law_pick" p1) [.Name "_law_script" p2, .BinOp (.Constant (.int i) k1 p3) .Add (.BinOp (.Constant (.int j) k2 p5) .Mult (.Name "_law_k" p6) p7) p4, .BinOp (.Name "_law_columns" p8) .Add (.Constant (.int m) k3 p9) p10] [] pos)
      (tCall (spPick K) [] E0 (tCons (tVar 0) (tCons (tOp (rI0 fun i j => .int (i + j)) (tC (.int i)) (tOp (rI CMul fun i j => .int (i * j)) (tC (.int j)) (tVar 8))) (tCons (tOp (rI0 fun i j => .int (i + j)) (tVar 3) (tC (.int m))) tNil)))) :=
    fun {p1 p2 p3 p4 p5 p6 p7 p8 p9 p10 pos k1 k2 k3 i j m} => pe_call CK.ok hr rfl CK.m CK.kp CK.b .nil pass0 (pa_N v0 (pa_B (pe_op op_add pe_int (pe_op op_mul pe_int v8)) (pa_B (pe_op op_add v3 pe_int) pa_nil)))
  have pick3 : ∀ {p1 p2 p3 p4 p5 p6 p7 p8 pos k1 k2 k3} {i j m : Int}, PE (lawX P w K mg base f cdv A outer s H E) (.Call (.Name "_law_pick" p1) [.Name "_law_script" p2, .BinOp (.Constant (.int i) k1 p3) .Add (.BinOp (.Constant (.int j) k2 p5) .Mult (.Name "_law_k" p6) p7) p4, .Constant (.int m) k3 p8] [] pos)
      (tCall (spPick K) [] E0 (tCons (tVar 0) (tCons (tOp (rI0 fun i j => .int (i + j)) (tC (.int i)) (tOp (rI CMul fun i j => .int (i * j)) (tC (.int j)) (tVar 8))) (tCons (tC (.int m)) tNil)))) :=
    fun {p1 p2 p3 p4 p5 p6 p7 p8 pos k1 k2 k3 i j m} => pe_call CK.ok hr rfl CK.m CK.kp CK.b .nil pass0 (pa_N v0 (pa_B (pe_op op_add pe_int (pe_op op_mul pe_int v8)) (pa_C pe_int pa_nil)))
  have cDo : ∀ {p1 p2 p3 p4 p5 p6 pos k1} {i : Int}, PE (lawX P w K mg base f cdv A outer s H E) (.Call (.Name "_law_do" p1) [.Constant (.int i) k1 p2, .Name "_law_tiles_here" p3, .Name "_law_floor_here" p4, .Name "_law_place" p5, .Name "_law_number" p6] [] pos)
      (tCall (spDo K) [] E0 (tCons (tC (.int i)) (tCons (tVar 1) (tCons (tVar 4) (tCons (tVar 9) (tCons (tVar 10) tNil)))))) :=
    fun {p1 p2 p3 p4 p5 p6 pos k1 i} => pe_call CO.ok hr rfl CO.m CO.kp CO.b .nil pass0 (pa_C pe_int (pa_N v1 (pa_N v4 (pa_N v9 (pa_N v10 pa_nil)))))
  refine' ⟨_, ?b, ?fin⟩
  case b =>
    refine' pss_cons ?s1 ?r1
    case s1 =>
      exact ps_set (i := 1) scL.nd rfl (Or.inl rfl) (pe_call CT.ok hr rfl CT.m CT.kp CT.b .nil pass0 (pa_N v0 (pa_C pe_int (pa_C pe_int pa_nil))))
    case r1 =>
      refine' pss_cons ?s2 ?r2
      case s2 =>
        exact ps_asg (pe_call CD.ok hr rfl CD.m CD.kp CD.b .nil pass0 (pa_N v0 (pa_C pe_int pa_nil))) (pg_tup rfl (pgs_cons (pg_name (i := 2) scL.nd rfl (Or.inl rfl)) (pgs_cons (pg_name (i := 3) scL.nd rfl (Or.inl rfl)) pgs_nil)))
      case r2 =>
        refine' pss_cons ?s3 ?r3
        case s3 =>
          exact ps_set (i := 4) scL.nd rfl (Or.inr rfl) (pe_call CL.ok hr rfl CL.m CL.kp CL.b .nil pass0 (pa_N v0 (pa_C pe_int (pa_N v1 (pa_N v2 (pa_N v3 (pa_C pe_int pa_nil)))))))
        case r3 =>
          refine' pss_cons ?s4 ?r4
          case s4 => exact ps_set (i := 5) scL.nd rfl (Or.inl rfl) (pe_lst pa_nil)
          case r4 =>
            refine' pss_cons ?s5 ?r5
            case s5 =>
              refine' ps_for PassesOwn.never rfl (pi_range1 rfl T.range (pa_N v2 pa_nil)) (pg_name (i := 6) scL.nd rfl (Or.inr rfl)) (pss_one (ps_expr (pe_bm PySem.F.plainAttrs_list PySem.F.slot_list_extend PySem.F.type_list_extend mt_extend v5 (pa_cons ?cm pa_nil))))
              case cm =>
                refine' pe_comp (sc := defScope sLaw) (N := nmL) (caps := [("_law_row", 6)]) ?S1 (pi_range1 rfl T.range (pa_N v3 pa_nil)) (fun _ _ _ _ _ => pif_nil) (fun _ _ _ _ _ => pe_tup (pa_cons (pv 1) (pa_cons (pv 0) pa_nil)))
                case S1 => exact ⟨by decide +kernel, rfl, by decide +kernel, rfl, by decide +kernel, by decide +kernel, by decide +kernel, by decide +kernel⟩
            case r5 =>
              refine' pss_cons ?s6 ?r6
              case s6 =>
                refine' ps_setC (k0 := 7) (sc := defScope sLaw) (N := nmL) (caps := [("_law_floor_here", 4)]) ?S2 scL.nd rfl (Or.inl rfl) (pi_list v5) (fun _ _ _ _ _ => pif_one (pt_cmpR op_notN (pe_ix (ix_tupK (K := K)) (pe_ix (ix_tupK (K := K)) (pv 1) (pe_ix (ix_tupK (K := K)) (pv 0) pe_int (fun _ _ => rfl)) (fun _ _ => rfl)) (pe_ix (ix_tupK (K := K)) (pv 0) pe_int (fun _ _ => rfl)) (fun _ _ => rfl)) pe_non (nomark _))) (fun _ _ _ _ _ => pv 0)
                case S2 => exact ⟨by decide +kernel, rfl, by decide +kernel, rfl, by decide +kernel, by decide +kernel, by decide +kernel, by decide +kernel⟩
              case r6 =>
                refine' pss_cons ?s7 ?r7
                case s7 =>
                  exact ps_if (PW.pt (pw_or (pt_cmpR (op_dne hu) (pe_call CP.ok hr rfl CP.m CP.kp CP.b .nil pass0 (pa_N v4 pa_nil)) v5 (nomark _)) (pw_or (pt_cmpR (op_dne hu) (pe_call CZ.ok hr rfl CZ.m CZ.kp CZ.b .nil pass0 (pa_N v4 pa_nil)) (pe_tup (pa_N v2 (pa_N v3 pa_nil))) (nomark _)) (pw_or1 (pt_cmpR (op_dne hu) (pe_call CA.ok hr rfl CA.m CA.kp CA.b .nil pass0 (pa_N v4 pa_nil)) v7 (nomark _)))))) (pss_one (ps_ret pe_bl)) pss_nil
                case r7 =>
                  refine' pss_cons ?s8 ?r8
                  case s8 =>
                    exact ps_if (PW.pt (pw_or (pt_cmpR op_ne (pe_call CF.ok hr rfl CF.m CF.kp CF.b .nil pass0 (pa_N v4 pa_nil)) (pe_cmpR (op_deq hu) v7 v5 (nomark _)) (nomark _)) (pw_or1 (pt_cmpR (op_dne hu) (pe_call CE.ok hr rfl CE.m CE.kp CE.b .nil pass0 (pa_N v2 (pa_N v3 pa_nil)))
                      (pe_callTy call_tuple_of rfl T.tuple boot_tuple (pa_B (pe_op op_rep (pe_lst (pa_X (pe_callTy call_tuple_of rfl T.tuple boot_tuple (pa_B (pe_op op_rep (pe_lst (pa_C pe_non pa_nil)) v3) pa_nil)) pa_nil)) v2) pa_nil)) (nomark _))))) (pss_one (ps_ret pe_bl)) pss_nil
                  case r8 =>
                    refine' pss_cons ?s9 ?r9
                    case s9 =>
                      refine' ps_for PassesOwn.never rfl (pi_range1 rfl T.range (pa_C pe_int pa_nil)) (pg_name (i := 8) scL.nd rfl (Or.inl rfl)) ?bd
                      case bd =>
                        refine' pss_cons ?b1 ?c1
                        case b1 =>
                          exact ps_set (i := 9) scL.nd rfl (Or.inl rfl) (pe_tup (pa_B (pe_op op_sub pick1 pe_int) (pa_B (pe_op op_sub pick2 pe_int) pa_nil)))
                        case c1 =>
                          refine' pss_cons ?b2 ?c2
                          case b2 =>
                            refine' ps_set (i := 10) scL.nd rfl (Or.inl rfl) (pe_ix ix_list ?l pick3 (fun _ _ => rfl))
                            case l => with_reducible exact pe_lst (pa_C pe_non (pa_U (pe_un un_neg pe_int) (pa_X cLen (pa_C pe_int (pa_B (pe_op op_sub cLen pe_int) pa_nil)))))
                          case c2 =>
                            refine' pss_cons ?b3 ?c3
                            case b3 => exact ps_set (i := 11) scL.nd rfl (Or.inl rfl) pe_str
                            case c3 =>
                              refine' pss_cons ?b4 ?c4
                              case b4 =>
                                exact ps_if (pt_cmpR (op_din hu) v9 v5 (by with_unfolding_all rfl)) (pss_one (ps_set (i := 11) scL.nd rfl (Or.inl rfl) (pe_ix (ix_tupK (K := K)) (pe_ix (ix_tupK (K := K)) v4 p0 (fun _ _ => rfl)) p1 (fun _ _ => rfl)))) pss_nil
                              case c4 =>
                                refine' pss_cons ?b5 ?c5
                                case b5 => exact ps_if (pt_cmpR (op_dne hu) cDo v11 (nomark _)) (pss_one (ps_ret pe_bl)) pss_nil
                                case c5 =>
                                  refine' pss_cons ?b6 ?c6
                                  case b6 =>
                                    refine' ps_if (PW.pt (pw_and (pt_cmpR (op_din hu) v9 v5 (by with_unfolding_all rfl)) (pw_and1 (pt_cmpR (op_din hu) v10 (pe_tup (pa_U (pe_un un_neg pe_int) (pa_X cLen pa_nil))) (by with_unfolding_all rfl))))) (pss_one (ps_set (i := 11) scL.nd rfl (Or.inl rfl) pe_str)) (pss_one (ps_if (pt_cmpR (op_din hu) v9 v5 (by with_unfolding_all rfl)) ?el pss_nil))
                                    case el =>
                                      refine' pss_cons ?e1 ?x1
                                      case e1 =>
                                        refine' ps_setC (k0 := 12) (sc := defScope sLaw) (N := nmL) (caps := []) ?S3 scL.nd rfl (Or.inl rfl) (pi_tup v4) (fun _ _ _ _ _ => pif_nil) (fun _ _ _ _ _ => pe_callTy (call_listK (K := K)) rfl T.list boot_list (pa_cons (pv 0) pa_nil))
                                        case S3 => exact ⟨by decide +kernel, rfl, by decide +kernel, rfl, by decide +kernel, by decide +kernel, by decide +kernel, by decide +kernel⟩
                                      case x1 =>
                                        refine' pss_cons ?e2 ?x2
                                        case e2 => exact ps_asg v10 (pg_sub (pe_ix ix_list v12 p0 (fun _ _ => rfl)) p1 set_list)
                                        case x2 =>
                                          refine' pss_one ?e3
                                          case e3 =>
                                            refine' ps_set (i := 11) scL.nd rfl (Or.inl rfl) (pe_callTy call_tuple_of rfl T.tuple boot_tuple (pa_cons ?cm pa_nil))
                                            case cm =>
                                              refine' pe_comp (sc := defScope sLaw) (N := nmL) (caps := []) ?S4 (pi_list v12) (fun _ _ _ _ _ => pif_nil) (fun _ _ _ _ _ => pe_callTy (call_tupleK (K := K)) rfl T.tuple boot_tuple (pa_cons (pv 0) pa_nil))
                                              case S4 => exact ⟨by decide +kernel, rfl, by decide +kernel, rfl, by decide +kernel, by decide +kernel, by decide +kernel, by decide +kernel⟩
                                  case c6 =>
                                    refine' pss_one ?b7
                                    case b7 => exact ps_if (pt_cmpR (op_dne hu) cDo v11 (nomark _)) (pss_one (ps_ret pe_bl)) pss_nil
                    case r9 =>
                      refine' pss_one ?s10
                      case s10 => exact ps_ret pe_bl
  case fin =>
    have hlen : (keys0 : List (List Int)) → (keys0.map tileD).length = keys0.length := fun k => List.length_map _
    refine ⟨_, rfl, a, ns, 0, 4, rfl, hS, by decide, by decide, by decide, fun vt H1 keys s1 hk1 hk4 nd tk rt => ?_⟩
    refine ⟨_, rfl, a, ns, 90, rfl, s1.seq hS, by decide, fun bs H2 r c hr1 hr3 hc1 hc4 s2 eb => ?_⟩
    refine ⟨bs, _, rfl, SqT.of eb, rfl, _, _, rfl, _, _, rfl, rfl, ?_⟩
    refine ⟨_, rfl, _, rfl, _, rfl, _, rfl, a, ns, 100, vt, keys.map tileD, r, c, rfl, (s1.trans s2).seq hS, by decide, rt.up s2, by rw [hlen]; exact hk1, by rw [hlen]; omega, hr1, hr3, hc1, hc4, fun vf H3 rs s3 rows hf => ?_⟩
    obtain ⟨rn, rfl⟩ : ∃ n : Nat, r = (n : Int) := ⟨r.toNat, by omega⟩
    obtain ⟨cn, rfl⟩ : ∃ n : Nat, c = (n : Int) := ⟨c.toNat, by omega⟩
    rw [Int.toNat_natCast, Int.toNat_natCast] at rows
    have hF : Flr H3 vf rs := hf
    have hlr : rs.length = rn := rows.len
    have ev : Even cn rs := ⟨by omega, by omega, by omega, fun x hx => (rows.row x hx).1⟩
    have num : ∀ r ∈ rs, ∀ x ∈ r, Num x := fun r hr x hx => by
      rcases (rows.row r hr).2 x hx with rfl | ⟨i, rfl, _⟩
      · exact .inl rfl
      · exact .inr ⟨i, rfl⟩
    clear hf eb
    have rt3 := (rt.up s2).up s3
    have s03 : Same H H3 := s1.trans (s2.trans s3)
    -- every
    refine ⟨small (show 0 ≤ 1000 by decide), fun ee he => ?_⟩
    have s4 := same_new he (.lst [])
    refine ⟨_, rfl, (rn : Int), rfl, by omega, by omega, for_range (lo := 0) (n := ((rn : Int)).toNat)
      (fun i σ Hx => ∃ (ys : List V) (v6 : Option V), σ = [some (.ref a), some vt, some (.int (rn : Int)), some (.int (cn : Int)), some vf, some (.ref ee), v6, none, none, none, none, none, none] ∧ Same H3 Hx ∧ Hx ee = some (.lst ys) ∧ TupsAt Hx ys (placesL i cn))
      ⟨[], none, rfl, s4, upd_same, .nil⟩ ?_ ?_⟩
    · rintro i σ H5 hi ⟨ys, v6, rfl, s5, e5, t5⟩
      rw [Int.toNat_natCast] at hi
      refine ⟨_, rfl, .inl ⟨rfl, _, SqL.of e5⟩, ?_⟩
      refine tcons_i (comp_teR (n := (cn : Int)) rfl (by omega) (by omega) ?_)
      refine comp_genR (n := ((cn : Int)).toNat) (fun j zs Hx => j ≤ cn ∧ Same H5 Hx ∧ TupsAt Hx zs ((List.range j).map fun (j : Nat) => [V.int (0 + (i : Int)), V.int (0 + (j : Int))])) ⟨Nat.zero_le _, Same.refl _, .nil⟩ (fun j zs Hx h => ?_) (fun j zs Hx R hj h hR => ?_) (fun zs Hx p h hp => ?_)
      · obtain ⟨hj, _, t⟩ := h
        have := t.length
        rw [List.length_map, List.length_range] at this
        exact small (by omega)
      · obtain ⟨_, s, t⟩ := h
        rw [Int.toNat_natCast] at hj
        refine ⟨_, rfl, _, rfl, small (show 2 ≤ 1000 by decide), fun p hp => hR _ _ ⟨hj, s.trans (same_new hp _), ?_⟩⟩
        rw [List.range_succ, List.map_append]
        exact TupsAt.snoc ⟨p, rfl, upd_same⟩ (t.up fun b xs z => (same_new hp _) _ _ z)
      · obtain ⟨_, s, t⟩ := h
        rw [Int.toNat_natCast] at t
        have sp := same_new hp (.lst zs)
        have e6 : (upd Hx p (.lst zs)) ee = some (.lst ys) := sp _ _ (s _ _ e5)
        have ly : ys.length ≤ 100 := by
          rw [t5.length, placesL_len]
          exact Nat.le_trans (Nat.mul_le_mul (show i ≤ 3 by omega) (show cn ≤ 4 by omega)) (by decide)
        have lz : zs.length ≤ 4 := by
          rw [t.length, List.length_map, List.length_range]; omega
        refine ⟨ee, p, ys, zs, rfl, rfl, e6, upd_same, small (by omega), ?_⟩
        have nl := not_lst_tup (o := .lst (ys ++ zs)) e6
        refine ⟨ys ++ zs, _, rfl, same_upd he ((s5.trans s).trans sp) _, upd_same, ?_⟩
        rw [placesL_succ]
        exact TupsAt.append (t5.up fun b xs z => nl _ _ (sp _ _ (s _ _ z))) (t.up fun b xs z => nl _ _ (sp _ _ z))
    · rintro σ H5 ⟨ys, v6, rfl, s5, e5, t5⟩
      rw [Int.toNat_natCast] at t5
      refine tseq_i (tasg_i (comp_teL rfl e5 ?_))
      have hF5 := hF.up s5
      refine comp_laidW e5 (by rw [hlr]; exact t5) ev (fun x i j Hx R hp hi hj hs hR => ?_) (fun x Hx R hR => ⟨x, rfl, hR⟩) (fun so zs H6 s6 hso t6 => ?_)
      · obtain ⟨fb, fys, pb, rb, rfl, rfl, ef, ep, a1, er, a2⟩ := cell_at (hF5.up hs) ev hp hi hj
        exact ⟨_, rfl, _, rfl, pb, _, 0, _, rfl, rfl, SqT.of ep, rfl, fb, fys, _, .ref rb, rfl, rfl, SqT.of ef, a1, _, rfl, pb, _, 1, _, rfl, rfl, SqT.of ep, rfl, rb, _, _, _, rfl, rfl, SqT.of er, a2, rfl, _, rfl, hR⟩
      have s7 := same_new hso (.lst zs)
      have s57 := s6.trans s7
      generalize hH7 : upd H6 so (.lst zs) = H7 at s57 s7 ⊢
      have eso : H7 so = some (.lst zs) := by rw [← hH7]; exact upd_same
      have t7 : TupsAt H7 zs (laidL rs cn) := t6.up fun b xs z => s7 _ _ z
      have ee7 := s57 _ _ e5
      have te7 : TupsAt H7 ys (placesL rs.length cn) := by rw [hlr]; exact t5.up fun b xs z => s57 _ _ z
      have hF7 := hF5.up s57
      have rt7 := (rt3.up s5).up s57
      have hS7 : SqL K H7 a (ns.map V.int) := (s03.trans (s5.trans s57)).seq hS
      clear hH7 s7 t6 hso s57 hF5
      have rEv : Rep H7 (.ref ee) (.lst ((placesL rs.length cn).map rowDn)) := .lst ee7 (tups_reps te7 places_num)
      have rSo : Rep H7 (.ref so) (.lst ((laidL rs cn).map rowDn)) := .lst eso (tups_reps t7 laid_num)
      have fEv := (rows_fit9 (places_num (r := rs.length) (c := cn))).2
      have fSo := (rows_fit9 (laid_num (rs := rs) (c := cn))).2
      have nob : ∀ {b : Bool} {p : Prop}, (b = true ↔ ¬ p) → p → b = false := fun {b p} h hp => by cases b with | false => rfl | true => exact absurd hp (h.mp rfl)
      -- places_of != every
      refine ⟨_, rfl, vf, rs, cn, rfl, hF7, ev, fun l1 ys1 H8 s8 _ el1 tp1 => ?_⟩
      refine ⟨_, rfl, _, _, .lst el1 (tups_reps tp1 places_num), rEv.up s8, fEv, fEv, fun b hb => ⟨_, rfl, ?_⟩⟩
      cases nob hb rfl
      refine iteF ?_
      -- size_of != (rows, columns)
      refine ⟨_, rfl, vf, rs, cn, rfl, hF7.up s8, ev, fun b2 H9 s9 e9 => ?_⟩
      refine ⟨_, rfl, _, rfl, small (show 2 ≤ 1000 by decide), fun b3 h3 => ?_⟩
      have s10 := same_new h3 (.tup [.int (rn : Int), .int (cn : Int)])
      refine ⟨.tup [.int (rn : Int), .int (cn : Int)], .tup [.int (rn : Int), .int (cn : Int)], .tup (s10 _ _ (by rw [← hlr]; exact e9)) (.cons (.int _) (.cons (.int _) .nil)), .tup upd_same (.cons (.int _) (.cons (.int _) .nil)), rfl, rfl, fun b hb => ⟨_, rfl, ?_⟩⟩
      cases nob hb rfl
      refine iteF ?_
      -- laid_places != some
      refine ⟨_, rfl, vf, rs, cn, rfl, ((hF7.up s8).up s9).up s10, ev, fun l4 ys4 H11 s11 _ el4 tp4 => ?_⟩
      refine ⟨_, rfl, _, _, .lst el4 (tups_reps tp4 laid_num), (((rSo.up s8).up s9).up s10).up s11, fSo, fSo, fun b hb => ⟨_, rfl, ?_⟩⟩
      cases nob hb rfl
      refine iteF ?_
      have s711 := s8.trans (s9.trans (s10.trans s11))
      have hF11 := hF7.up s711
      -- is_full != (some == every)
      refine ⟨_, rfl, vf, rs, cn, rfl, hF11, ev, fun H12 s12 => ?_⟩
      have s712 := s711.trans s12
      refine ⟨_, rfl, _, rfl, _, _, rSo.up s712, rEv.up s712, fSo, fEv, fun b hb => ⟨rfl, _, rfl, ?_⟩⟩
      have hbe : decide ((laidL rs cn).length = rs.length * cn) = b := by
        rw [Bool.eq_iff_iff, decide_eq_true_iff, hb]
        exact full_iff.symm
      refine iteNS (by rw [hbe]) ?_
      -- empty != ..
      refine ⟨_, rfl, _, rfl, rn, cn, rfl, by omega, by omega, by omega, by omega, fun b13 H13 s13 f13 => ?_⟩
      refine ⟨small (show 1 ≤ 1000 by decide), fun l1 h1 => ⟨_, rfl, l1, (cn : Int), [.non], rfl, rfl, upd_same, by omega, by omega, ?_, fun p1 hp1 => ⟨p1, _, rfl, .inl ⟨SqL.of upd_same, fun t1 ht1 => ?_⟩⟩⟩⟩
      · rw [Int.toNat_natCast]; exact small (by simp; omega)
      refine ⟨small (show 1 ≤ 1000 by decide), fun l2 h2 => ⟨_, rfl, l2, (rn : Int), [.ref t1], rfl, rfl, upd_same, by omega, by omega, ?_, fun p2 hp2 => ⟨p2, _, rfl, .inl ⟨SqL.of upd_same, fun t2 ht2 => ?_⟩⟩⟩⟩
      · rw [Int.toNat_natCast]; exact small (by simp; omega)
      have q1 : (List.replicate ((cn : Int)).toNat [V.non]).flatten = List.replicate cn V.non := by rw [Int.toNat_natCast, flat_rep]
      have q2 : (List.replicate ((rn : Int)).toNat [V.ref t1]).flatten = List.replicate rn (V.ref t1) := by rw [Int.toNat_natCast, flat_rep]
      have z1 := same_new h1 (.lst [V.non])
      have z2 := same_new hp1 (.lst (List.replicate ((cn : Int)).toNat [V.non]).flatten)
      have z3 := same_new ht1 (.tup (List.replicate ((cn : Int)).toNat [V.non]).flatten)
      have z4 := same_new h2 (.lst [V.ref t1])
      have z5 := same_new hp2 (.lst (List.replicate ((rn : Int)).toNat [V.ref t1]).flatten)
      have z6 := same_new ht2 (.tup (List.replicate ((rn : Int)).toNat [V.ref t1]).flatten)
      have z456 := z4.trans (z5.trans z6)
      refine ⟨_, _, flr_rep (f13.up (z1.trans (z2.trans (z3.trans z456)))) rep_num, flr_rep (rs := List.replicate rn (List.replicate cn V.non)) ⟨t2, _, rfl, upd_same, ?_⟩ rep_num, (rows_fit9 rep_num).1, (rows_fit9 rep_num).1, fun b hb => ⟨_, rfl, ?_⟩⟩
      · have et := z456 t1 _ upd_same
        revert et
        generalize upd _ t2 _ = G
        intro et
        rw [q2]
        rw [q1] at et
        exact tups_rep et rn
      cases nob hb rfl
      refine iteF ?_
      have s720 := s712.trans (s13.trans (z1.trans (z2.trans (z3.trans z456))))
      clear f13 z456 z6 z5 z4 z3 z2 z1 hb hbe hF11 s712 s711
      -- the six turns
      obtain ⟨ta, txs, rfl, et, rts⟩ : ∃ ta txs, vt = .ref ta ∧ H7 ta = some (.tup txs) ∧ Reps H7 txs (keys.map tileD) := by
        cases rt7 with
        | @tup a xs ds e r => exact ⟨_, _, rfl, e, r⟩
      have htx : txs.length = keys.length := by rw [rts.length, hlen]
      refine ⟨6, rfl, by decide, by decide, for_range (lo := 0) (n := 6)
        (fun i σ Hx => ∃ v8 v9 v10 v11 v12 : Option V, σ = [some (.ref a), some (.ref ta), some (.int (rn : Int)), some (.int (cn : Int)), some vf, some (.ref ee), v6, some (.ref so), v8, v9, v10, v11, v12] ∧ Same H7 Hx)
        ⟨none, none, none, none, none, rfl, s720⟩ ?_ ?_⟩
      · rintro i σ Hx hi ⟨v8, v9, v10, v11, v12, rfl, sx⟩
        refine ⟨_, rfl, _, rfl, _, _, rfl, rfl, .inl ⟨by decide, by decide⟩, _, _, rfl, rfl, _, rfl, _, _, rfl, rfl, a, ns, _, _, rfl, sx.seq hS7, ?_, ?_, fun z1 Ha z10 z11 sa => ⟨_, _, rfl, rfl, ?_⟩⟩
        · omega
        · omega
        refine ⟨_, rfl, _, rfl, _, _, rfl, rfl, .inl ⟨by decide, by decide⟩, _, _, rfl, rfl, _, rfl, _, _, rfl, rfl, a, ns, _, _, rfl, (sx.trans sa).seq hS7, ?_, ?_, fun z2 Hb z20 z21 sb => ⟨_, _, rfl, rfl, ?_⟩⟩
        · omega
        · omega
        refine ⟨small (show 2 ≤ 1000 by decide), fun pb hpb => ?_⟩
        have s1' := same_new hpb (.tup [.int (z1 - 1), .int (z2 - 1)])
        have s2' := sx.trans (sa.trans (sb.trans s1'))
        -- number
        refine ⟨_, rfl, _, rfl, ta, txs, rfl, .inr (SqT.of (s2' _ _ et)), _, rfl, ta, txs, rfl, .inr (SqT.of (s2' _ _ et)), _, _, rfl, rfl, small (show 5 ≤ 1000 by decide), fun lb hlb => ?_⟩
        have s3' := s2'.trans (same_new hlb (.lst [.non, .int (-1), .int (txs.length : Int), .int 0, .int ((txs.length : Int) - 1)]))
        refine ⟨_, rfl, _, rfl, _, _, rfl, rfl, .inl ⟨by decide, by decide⟩, _, _, rfl, rfl, a, ns, _, 5, rfl, s3'.seq hS7, ?_, by decide, fun z3 Hc z30 z31 sc => ?_⟩
        · omega
        obtain ⟨x, hat, hmem⟩ := at_mem (xs := [V.non, .int (-1), .int (txs.length : Int), .int 0, .int ((txs.length : Int) - 1)]) z30 z31
        refine ⟨lb, _, z3, x, rfl, rfl, SqL.of (sc _ _ upd_same), hat, ?_⟩
        have s4' := s3'.trans sc
        have ep : Hc pb = some (.tup [.int (z1 - 1), .int (z2 - 1)]) := sc _ _ ((same_new hlb _) _ _ upd_same)
        generalize z1 - 1 = I at ep ⊢
        generalize z2 - 1 = J at ep ⊢
        obtain ⟨hxn, hxb⟩ := five (n := txs.length) (by omega) hmem
        have rx : ∀ G, Rep G x (flatD' x) := fun G => (num_rep hxn).1
        clear hat hmem s3' s2' s1' hpb hlb
        have hin0 : ∀ {G : Hp} {b : Bool}, (b = true ↔ (if false = true then D.tup [.int I, .int J] ∉ (placesL rs.length cn).map rowDn else D.tup [.int I, .int J] ∈ (placesL rs.length cn).map rowDn)) → (b = true ↔ inside rs cn I J) := fun {G b} h => by
          rw [if_neg Bool.false_ne_true, place_mem] at h
          exact h
        have fP : D.fits 8 ((placesL rs.length cn).map rowDn) = true := fEv
        have rP : ∀ {G : Hp}, Same Hc G → Rep G (.ref pb) (.tup [.int I, .int J]) := fun {G} h => .tup (h _ _ ep) (.cons (.int _) (.cons (.int _) .nil))
        have rE : ∀ {G : Hp}, Same Hc G → Rep G (.ref ee) (.lst ((placesL rs.length cn).map rowDn)) := fun {G} h => rEv.up (s4'.trans h)
        have hRt : ∀ {G : Hp}, Same Hc G → Rep G (.ref ta) (.tup (keys.map tileD)) := fun {G} h => (Rep.tup et rts).up (s4'.trans h)
        by_cases hin : inside rs cn I J
        · obtain ⟨I, rfl⟩ : ∃ n : Nat, I = (n : Int) := ⟨I.toNat, by have := hin.1; omega⟩
          obtain ⟨J, rfl⟩ : ∃ n : Nat, J = (n : Int) := ⟨J.toNat, by have := hin.2.2.1; omega⟩
          have hI : I < rs.length := by have := hin.2.1; omega
          have hJ : J < cn := by have := hin.2.2.2; omega
          refine ⟨_, rfl, _, rfl, _, _, rP (Same.refl _), .inl (rE (Same.refl _)), rfl, fP, fun b hb => ⟨_, rfl, ?_⟩⟩
          cases (hin0 (G := Hc) hb).mpr hin
          refine iteT ?_
          obtain ⟨fb, fys, rb, rfl, ef, tf, a1, er, a2⟩ := cell_at2 (hF7.up s4') ev ep hI hJ
          refine ⟨_, rfl, _, rfl, pb, _, 0, _, rfl, rfl, SqT.of ep, rfl, fb, fys, _, .ref rb, rfl, rfl, SqT.of ef, a1, _, rfl, pb, _, 1, _, rfl, rfl, SqT.of ep, rfl, rb, _, _, _, rfl, rfl, SqT.of er, a2, ?_⟩
          have hFc := hF7.up s4'
          obtain ⟨c1, c2⟩ := num_rep (H := Hc) (cell_num num (i := I) (j := J))
          have c3 := D.fit_mono (m := 9) (by decide) c2
          -- the tile there
          refine ⟨_, rfl, _, rfl, _, rfl, _, rfl, 0, .ref ta, .ref fb, .ref pb, x, keys.map tileD, flatD' x, rs, cn, _, _, rfl, hRt (Same.refl _), rx _, hFc, ev, ⟨pb, rfl, ep⟩, (fun z => absurd hin z), (fun _ _ Hd sd => ?_), (fun z => absurd rfl z), (fun z => absurd rfl z)⟩
          refine ⟨_, rfl, _, _, c1.up sd, c1.up sd, c3, c3, fun b hb => ⟨_, rfl, ?_⟩⟩
          cases nob hb rfl
          refine iteF ?_
          -- place in every and number in ..
          refine ⟨_, rfl, _, rfl, _, _, rP sd, .inl (rE sd), rfl, fP, fun b hb => ⟨_, rfl, ?_⟩⟩
          cases (hin0 (G := Hc) hb).mpr hin
          refine iteT ?_
          refine ⟨_, rfl, _, rfl, _, rfl, ta, txs, rfl, .inr (SqT.of (sd _ _ (s4' _ _ et))), small (show 2 ≤ 1000 by decide), fun tb htb => ?_⟩
          have st := same_new htb (.tup [.int (-1), .int (txs.length : Int)])
          refine ⟨flatD' x, [.int (-1), .int (txs.length : Int)], rx _, .inr (.tup upd_same (.cons (.int _) (.cons (.int _) .nil))), D.fit_mono (m := 8) (by decide) (num_rep (H := Hc) hxn).2, rfl, fun b hb => ⟨_, rfl, ?_⟩⟩
          rw [if_neg Bool.false_ne_true, hxb, htx] at hb
          cases b with
          | true =>
            have hbad := hb.mp rfl
            refine iteT ?_
            have sdt := sd.trans st
            refine ⟨_, rfl, _, rfl, _, rfl, _, rfl, 1, .ref ta, .ref fb, .ref pb, x, keys.map tileD, flatD' x, rs, cn, _, _, rfl, hRt sdt, rx _, hFc.up sdt, ev, ⟨pb, rfl, sdt _ _ ep⟩, (fun z => absurd hin z), (fun z => absurd z (by decide)), (fun _ _ _ He se => ?_), (fun _ _ z => by rw [hlen, hbad] at z; cases z)⟩
            refine ⟨_, rfl, _, _, .str _, .str _, by decide +kernel, by decide +kernel, fun b hb => ⟨_, rfl, ?_⟩⟩
            cases nob hb rfl
            exact iteF ⟨_, _, _, _, _, rfl, s4'.trans (sdt.trans se)⟩
          | false =>
            have hgood : mayLie (keys.map tileD).length (flatD' x) = true := by
              rw [hlen]
              cases h : mayLie keys.length (flatD' x) with
              | true => rfl
              | false => exact absurd (hb.mpr h) (by decide)
            refine iteF ?_
            have sdt := sd.trans st
            refine ⟨_, rfl, _, rfl, _, _, rP sdt, .inl (rE sdt), rfl, fP, fun b hb => ⟨_, rfl, ?_⟩⟩
            cases (hin0 (G := Hc) hb).mpr hin
            refine iteT ?_
            -- lines
            have efd := sdt _ _ ef
            have tfd : TupsAt _ fys rs := tf.up fun b xs z => sdt _ _ z
            generalize hHt : upd Hd tb (.tup [.int (-1), .int (txs.length : Int)]) = Ht at sdt st efd tfd ⊢
            refine tseq_i (tasg_i (comp_teT rfl efd (comp_lines efd tfd (by omega) (fun b r Hg R e hR => ⟨_, rfl, b, r, rfl, .inr (SqT.of e), hR⟩) fun bs He li se hli nd fr ls => ?_)))
            have sl := same_new hli (.lst (bs.map V.ref))
            have ls2 : LstsAt (upd He li (.lst (bs.map V.ref))) bs rs := ls.up sl
            have sel := se.trans sl
            obtain ⟨lb2, hb1, hb2⟩ := ls2.at (i := I) (r := rs[I]) (List.getElem?_eq_getElem hI)
            have hjr : J < rs[I].length := by rw [ev.row _ (List.getElem_mem hI)]; exact hJ
            have epl := sel _ _ (sdt _ _ ep)
            have eli : (upd He li (.lst (bs.map V.ref))) li = some (.lst (bs.map V.ref)) := upd_same
            have atl : atI (bs.map V.ref) (I : Int) = some (.ref lb2) := atI_nat (by rw [List.getElem?_map, hb1]; rfl)
            have nll : li ≠ lb2 := fun z => by
              have hz := hb2
              rw [← z, upd_same] at hz
              obtain ⟨o, ho⟩ := ls.at (i := I) (r := rs[I]) (List.getElem?_eq_getElem hI)
              rw [hb1] at ho
              cases ho.1
              rw [← z, hli] at ho
              cases ho.2
            have frb : Ht lb2 = none := fr lb2 (List.mem_of_getElem? hb1)
            refine ⟨_, rfl, _, rfl, _, rfl, pb, _, 0, _, rfl, rfl, SqT.of epl, rfl, li, _, _, .ref lb2, rfl, rfl, SqL.of eli, atl, _, rfl, pb, _, 1, _, rfl, rfl, SqT.of epl, rfl, lb2, rs[I], _, J, rfl, rfl, hb2, ix_nat hjr, ?_⟩
            have spu : Same Ht (upd (upd He li (.lst (bs.map V.ref))) lb2 (.lst (rs[I].set J x))) := same_upd frb sel _
            have ls3 := ls2.put (r' := rs[I].set J x) nd hb1
            have eli3 : (upd (upd He li (.lst (bs.map V.ref))) lb2 (.lst (rs[I].set J x))) li = some (.lst (bs.map V.ref)) := by rw [upd_ne nll]; exact eli
            dsimp only
            refine tasg_i (tcb_i (tcons_i ?_))
            refine comp_teL rfl eli3 ?_
            refine comp_tuples eli3 ls3 (by rw [List.length_set]; omega) (fun b r Hg R e hR => ⟨_, rfl, b, r, rfl, .inl ⟨SqL.of e, hR⟩⟩) fun zs2 Hf l5 sf hl5 t5' => ?_
            refine ⟨l5, zs2, rfl, .inl ⟨SqL.of upd_same, fun t6 ht6 => ?_⟩⟩
            have sg1 := same_new hl5 (.lst zs2)
            have sg2 := same_new ht6 (.tup zs2)
            have sall := spu.trans (sf.trans (sg1.trans sg2))
            have eset : rs.set I (rs[I].set J x) = setV rs I J x := by
              unfold setV
              simp [List.getD, hI]
            have fl6 : Flr _ (.ref t6) (setV rs I J x) := ⟨t6, zs2, rfl, upd_same, by rw [← eset]; exact t5'.up fun b xs z => sg2 _ _ (sg1 _ _ z)⟩
            have sdall := sdt.trans sall
            refine ⟨_, rfl, _, rfl, _, rfl, _, rfl, 1, .ref ta, .ref fb, .ref pb, x, keys.map tileD, flatD' x, rs, cn, _, _, rfl, hRt sdall, rx _, hFc.up sdall, ev, ⟨pb, rfl, sdall _ _ ep⟩, (fun z => absurd hin z), (fun z => absurd z (by decide)), (fun _ _ z => by rw [hgood] at z; cases z), (fun _ _ _ b9 Hz sz fz => ?_)⟩
            have nset := set_num num (i := I) (j := J) hxn
            refine ⟨_, rfl, _, _, flr_rep fz nset, flr_rep (fl6.up sz) nset, (rows_fit9 nset).1, (rows_fit9 nset).1, fun b hb => ⟨_, rfl, ?_⟩⟩
            cases nob hb rfl
            exact iteF ⟨_, _, _, _, _, rfl, s4'.trans (sdall.trans sz)⟩
        · refine ⟨_, rfl, _, rfl, _, _, rP (Same.refl _), .inl (rE (Same.refl _)), rfl, fP, fun b hb => ⟨_, rfl, ?_⟩⟩
          have nb : ∀ {b : Bool}, (b = true ↔ inside rs cn I J) → b = false := fun {b} h => by cases b with | false => rfl | true => exact absurd (h.mp rfl) hin
          cases nb (hin0 (G := Hc) hb)
          refine iteF ?_
          refine ⟨_, rfl, _, rfl, _, rfl, _, rfl, 0, .ref ta, vf, .ref pb, x, keys.map tileD, flatD' x, rs, cn, _, _, rfl, hRt (Same.refl _), rx _, hF7.up s4', ev, ⟨pb, rfl, ep⟩, (fun _ Hd sd => ?_), (fun _ z => absurd z hin), (fun z => absurd rfl z), (fun z => absurd rfl z)⟩
          refine ⟨_, rfl, _, _, .str _, .str _, by decide +kernel, by decide +kernel, fun b hb => ⟨_, rfl, ?_⟩⟩
          cases nob hb rfl
          refine iteF ?_
          refine ⟨_, rfl, _, rfl, _, _, rP sd, .inl (rE sd), rfl, fP, fun b hb => ⟨_, rfl, ?_⟩⟩
          cases nb (hin0 (G := Hc) hb)
          refine iteF (iteF ?_)
          refine ⟨_, rfl, _, rfl, _, _, rP sd, .inl (rE sd), rfl, fP, fun b hb => ⟨_, rfl, ?_⟩⟩
          cases nb (hin0 (G := Hc) hb)
          refine iteF ?_
          refine ⟨_, rfl, _, rfl, _, rfl, _, rfl, 1, .ref ta, vf, .ref pb, x, keys.map tileD, flatD' x, rs, cn, _, _, rfl, hRt sd, rx _, (hF7.up s4').up sd, ev, ⟨pb, rfl, sd _ _ ep⟩, (fun _ He se => ?_), (fun z => absurd z (by decide)), (fun _ z => absurd z hin), (fun _ z => absurd z hin)⟩
          refine ⟨_, rfl, _, _, .str _, .str _, by decide +kernel, by decide +kernel, fun b hb => ⟨_, rfl, ?_⟩⟩
          cases nob hb rfl
          exact iteF ⟨_, _, _, _, _, rfl, s4'.trans (sd.trans se)⟩
      · rintro σ Hx ⟨v8, v9, v10, v11, v12, rfl, sx⟩
        exact q _
end
end K2

set_option Elab.async false
set_option linter.all false
set_option maxRecDepth 100000
set_option maxHeartbeats 4000000
namespace K2
open PySem L2
theorem kit_ref {K : PySem.W.Frag} {C D : Addr} {b : Bool} {y : ClassData} (h0 : (Value.ref C == Value.ref D) = false) (h1 : PySem.W.clsIn K D = some y) (h2 : PySem.W.typeIn K (.ref D) = some (.type "type")) (h3 : PySem.W.subIn K (.ref C) (.ref D) = some b) : PySem.W.kitOne K (.ref C) (.ref D) = some b := by
  unfold PySem.W.kitOne PySem.W.kitCls
  simp only [h0, h1, h2, h3]
  rfl
theorem kit_self {K : PySem.W.Frag} {C : Addr} : PySem.W.kitOne K (.ref C) (.ref C) = some true := by
  unfold PySem.W.kitOne
  rw [if_pos (beq_self_eq_true _)]
theorem kit_val {K : PySem.W.Frag} {C : Addr} (h : PySem.W.subIn K (.ref C) (.type "ValueError") = some true) : PySem.W.kitOne K (.ref C) (.type "ValueError") = some true := by
  have h0 : (Value.ref C == Value.type "ValueError") = false := by with_unfolding_all rfl
  have h1 : PySem.W.kitMeta "ValueError" = true := by decide +kernel
  unfold PySem.W.kitOne PySem.W.kitCls
  simp only [h0, h1, h]
  rfl
theorem all_mk {l : PySem.W.OpenLaw} {w : World} {K : PySem.W.Frag} {h : Heap} {mg : Str → Option Value} {fa f1 f2 f3 f4 f5 f6 f7 f8 f9 f10 f11 f12 f13 f14 f15 f16 f17 f18 f19 f20 f21 f22 f23 : Addr} (X : K.In h) (G : h.Ns mainGlobals mg) (hfa : mg "law" = some (.ref fa))
    {od1 an1 od2 an2 od3 an3 od4 an4 od5 an5 od6 an6 od7 an7 od8 an8 od9 an9 od10 an10 od11 an11 od12 an12 od13 an13 od14 an14 od15 an15 od16 an16 od17 an17 od18 an18 od19 an19 od20 an20 od21 an21 od22 an22 od23 an23 : Option Addr} {sl1 sl2 sl3 sl4 sl5 sl6 sl7 sl8 sl9 sl10 sl11 sl12 sl13 sl14 sl15 sl16 sl17 sl18 sl19 sl20 sl21 sl22 sl23 : Array (Option Value)} {oc1 kV1 dc1 pm1 cd1 ct1 oc2 kV2 dc2 pm2 cd2 ct2 oc3 kV3 dc3 pm3 cd3 ct3 oc4 kV4 dc4 pm4 cd4 ct4 oc5 kV5 dc5 pm5 cd5 ct5 oc6 kV6 dc6 pm6 cd6 ct6 oc7 kV7 dc7 pm7 cd7 ct7 oc8 kV8 dc8 pm8 cd8 ct8 oc9 kV9 dc9 pm9 cd9 ct9 oc10 kV10 dc10 pm10 cd10 ct10 oc11 kV11 dc11 pm11 cd11 ct11 oc12 kV12 dc12 pm12 cd12 ct12 oc13 kV13 dc13 pm13 cd13 ct13 oc14 kV14 dc14 pm14 cd14 ct14 oc15 kV15 dc15 pm15 cd15 ct15 oc16 kV16 dc16 pm16 cd16 ct16 oc17 kV17 dc17 pm17 cd17 ct17 oc18 kV18 dc18 pm18 cd18 ct18 oc19 kV19 dc19 pm19 cd19 ct19 oc20 kV20 dc20 pm20 cd20 ct20 oc21 kV21 dc21 pm21 cd21 ct21 oc22 kV22 dc22 pm22 cd22 ct22 oc23 kV23 dc23 pm23 cd23 ct23 : Value}
    (a1 : PySem.W.nsIn K mainGlobals "is_whole" = some (some (.ref f1))) (l1 : K.lookup f1 = some ⟨oc1, od1, .func (PySem.W.fnOf "is_whole" "is_whole" (defArgs sWhole) (defBody sWhole) (defScope sWhole) .none kV1 dc1 pm1 an1 cd1 ct1), sl1⟩) (c1 : PySem.W.codeIn K cd1 "is_whole" = true) (k1 : PySem.W.keepIn K (.ref f1) = true)
    (a2 : PySem.W.nsIn K mainGlobals "is_tuple_of" = some (some (.ref f2))) (l2 : K.lookup f2 = some ⟨oc2, od2, .func (PySem.W.fnOf "is_tuple_of" "is_tuple_of" (defArgs sTupOf) (defBody sTupOf) (defScope sTupOf) .none kV2 dc2 pm2 an2 cd2 ct2), sl2⟩) (c2 : PySem.W.codeIn K cd2 "is_tuple_of" = true) (k2 : PySem.W.keepIn K (.ref f2) = true)
    (a3 : PySem.W.nsIn K mainGlobals "has_number" = some (some (.ref f3))) (l3 : K.lookup f3 = some ⟨oc3, od3, .func (PySem.W.fnOf "has_number" "has_number" (defArgs sHas) (defBody sHas) (defScope sHas) .none kV3 dc3 pm3 an3 cd3 ct3), sl3⟩) (c3 : PySem.W.codeIn K cd3 "has_number" = true) (k3 : PySem.W.keepIn K (.ref f3) = true)
    (a4 : PySem.W.nsIn K mainGlobals "may_lie" = some (some (.ref f4))) (l4 : K.lookup f4 = some ⟨oc4, od4, .func (PySem.W.fnOf "may_lie" "may_lie" (defArgs sMay) (defBody sMay) (defScope sMay) .none kV4 dc4 pm4 an4 cd4 ct4), sl4⟩) (c4 : PySem.W.codeIn K cd4 "may_lie" = true) (k4 : PySem.W.keepIn K (.ref f4) = true)
    (a5 : PySem.W.nsIn K mainGlobals "empty" = some (some (.ref f5))) (l5 : K.lookup f5 = some ⟨oc5, od5, .func (PySem.W.fnOf "empty" "empty" (defArgs sEmpty) (defBody sEmpty) (defScope sEmpty) .none kV5 dc5 pm5 an5 cd5 ct5), sl5⟩) (c5 : PySem.W.codeIn K cd5 "empty" = true) (k5 : PySem.W.keepIn K (.ref f5) = true)
    (a6 : PySem.W.nsIn K mainGlobals "size_of" = some (some (.ref f6))) (l6 : K.lookup f6 = some ⟨oc6, od6, .func (PySem.W.fnOf "size_of" "size_of" (defArgs sSize) (defBody sSize) (defScope sSize) .none kV6 dc6 pm6 an6 cd6 ct6), sl6⟩) (c6 : PySem.W.codeIn K cd6 "size_of" = true) (k6 : PySem.W.keepIn K (.ref f6) = true)
    (a7 : PySem.W.nsIn K mainGlobals "places_of" = some (some (.ref f7))) (l7 : K.lookup f7 = some ⟨oc7, od7, .func (PySem.W.fnOf "places_of" "places_of" (defArgs sPlaces) (defBody sPlaces) (defScope sPlaces) .none kV7 dc7 pm7 an7 cd7 ct7), sl7⟩) (c7 : PySem.W.codeIn K cd7 "places_of" = true) (k7 : PySem.W.keepIn K (.ref f7) = true)
    (a8 : PySem.W.nsIn K mainGlobals "number_at" = some (some (.ref f8))) (l8 : K.lookup f8 = some ⟨oc8, od8, .func (PySem.W.fnOf "number_at" "number_at" (defArgs sNumber) (defBody sNumber) (defScope sNumber) .none kV8 dc8 pm8 an8 cd8 ct8), sl8⟩) (c8 : PySem.W.codeIn K cd8 "number_at" = true) (k8 : PySem.W.keepIn K (.ref f8) = true)
    (a9 : PySem.W.nsIn K mainGlobals "laid_places" = some (some (.ref f9))) (l9 : K.lookup f9 = some ⟨oc9, od9, .func (PySem.W.fnOf "laid_places" "laid_places" (defArgs sLaid) (defBody sLaid) (defScope sLaid) .none kV9 dc9 pm9 an9 cd9 ct9), sl9⟩) (c9 : PySem.W.codeIn K cd9 "laid_places" = true) (k9 : PySem.W.keepIn K (.ref f9) = true)
    (a10 : PySem.W.nsIn K mainGlobals "is_full" = some (some (.ref f10))) (l10 : K.lookup f10 = some ⟨oc10, od10, .func (PySem.W.fnOf "is_full" "is_full" (defArgs sFull) (defBody sFull) (defScope sFull) .none kV10 dc10 pm10 an10 cd10 ct10), sl10⟩) (c10 : PySem.W.codeIn K cd10 "is_full" = true) (k10 : PySem.W.keepIn K (.ref f10) = true)
    (a11 : PySem.W.nsIn K mainGlobals "has_place" = some (some (.ref f11))) (l11 : K.lookup f11 = some ⟨oc11, od11, .func (PySem.W.fnOf "has_place" "has_place" (defArgs sHasP) (defBody sHasP) (defScope sHasP) .none kV11 dc11 pm11 an11 cd11 ct11), sl11⟩) (c11 : PySem.W.codeIn K cd11 "has_place" = true) (k11 : PySem.W.keepIn K (.ref f11) = true)
    (a12 : PySem.W.nsIn K mainGlobals "refuse_outside" = some (some (.ref f12))) (l12 : K.lookup f12 = some ⟨oc12, od12, .func (PySem.W.fnOf "refuse_outside" "refuse_outside" (defArgs sRef) (defBody sRef) (defScope sRef) .none kV12 dc12 pm12 an12 cd12 ct12), sl12⟩) (c12 : PySem.W.codeIn K cd12 "refuse_outside" = true) (k12 : PySem.W.keepIn K (.ref f12) = true)
    (a13 : PySem.W.nsIn K mainGlobals "tile_at" = some (some (.ref f13))) (l13 : K.lookup f13 = some ⟨oc13, od13, .func (PySem.W.fnOf "tile_at" "tile_at" (defArgs sTileAt) (defBody sTileAt) (defScope sTileAt) .none kV13 dc13 pm13 an13 cd13 ct13), sl13⟩) (c13 : PySem.W.codeIn K cd13 "tile_at" = true) (k13 : PySem.W.keepIn K (.ref f13) = true)
    (a14 : PySem.W.nsIn K mainGlobals "with_number" = some (some (.ref f14))) (l14 : K.lookup f14 = some ⟨oc14, od14, .func (PySem.W.fnOf "with_number" "with_number" (defArgs sWN) (defBody sWN) (defScope sWN) .none kV14 dc14 pm14 an14 cd14 ct14), sl14⟩) (c14 : PySem.W.codeIn K cd14 "with_number" = true) (k14 : PySem.W.keepIn K (.ref f14) = true)
    (a15 : PySem.W.nsIn K mainGlobals "with_tile" = some (some (.ref f15))) (l15 : K.lookup f15 = some ⟨oc15, od15, .func (PySem.W.fnOf "with_tile" "with_tile" (defArgs sWith) (defBody sWith) (defScope sWith) .none kV15 dc15 pm15 an15 cd15 ct15), sl15⟩) (c15 : PySem.W.codeIn K cd15 "with_tile" = true) (k15 : PySem.W.keepIn K (.ref f15) = true)
    (a16 : PySem.W.nsIn K mainGlobals "_law_cell" = some (some (.ref f16))) (l16 : K.lookup f16 = some ⟨oc16, od16, .func (PySem.W.fnOf "_law_cell" "_law_cell" (defArgs sCell) (defBody sCell) (defScope sCell) .none kV16 dc16 pm16 an16 cd16 ct16), sl16⟩) (c16 : PySem.W.codeIn K cd16 "_law_cell" = true) (k16 : PySem.W.keepIn K (.ref f16) = true)
    (a17 : PySem.W.nsIn K mainGlobals "_law_pick" = some (some (.ref f17))) (l17 : K.lookup f17 = some ⟨oc17, od17, .func (PySem.W.fnOf "_law_pick" "_law_pick" (defArgs sPick) (defBody sPick) (defScope sPick) .none kV17 dc17 pm17 an17 cd17 ct17), sl17⟩) (c17 : PySem.W.codeIn K cd17 "_law_pick" = true) (k17 : PySem.W.keepIn K (.ref f17) = true)
    (a18 : PySem.W.nsIn K mainGlobals "_law_tiles" = some (some (.ref f18))) (l18 : K.lookup f18 = some ⟨oc18, od18, .func (PySem.W.fnOf "_law_tiles" "_law_tiles" (defArgs sTiles) (defBody sTiles) (defScope sTiles) .none kV18 dc18 pm18 an18 cd18 ct18), sl18⟩) (c18 : PySem.W.codeIn K cd18 "_law_tiles" = true) (k18 : PySem.W.keepIn K (.ref f18) = true)
    (a19 : PySem.W.nsIn K mainGlobals "_law_floor" = some (some (.ref f19))) (l19 : K.lookup f19 = some ⟨oc19, od19, .func (PySem.W.fnOf "_law_floor" "_law_floor" (defArgs sFloorL) (defBody sFloorL) (defScope sFloorL) .none kV19 dc19 pm19 an19 cd19 ct19), sl19⟩) (c19 : PySem.W.codeIn K cd19 "_law_floor" = true) (k19 : PySem.W.keepIn K (.ref f19) = true)
    (a20 : PySem.W.nsIn K mainGlobals "_law_sides" = some (some (.ref f20))) (l20 : K.lookup f20 = some ⟨oc20, od20, .func (PySem.W.fnOf "_law_sides" "_law_sides" (defArgs sSides) (defBody sSides) (defScope sSides) .none kV20 dc20 pm20 an20 cd20 ct20), sl20⟩) (c20 : PySem.W.codeIn K cd20 "_law_sides" = true) (k20 : PySem.W.keepIn K (.ref f20) = true)
    (a21 : PySem.W.nsIn K mainGlobals "_law_word" = some (some (.ref f21))) (l21 : K.lookup f21 = some ⟨oc21, od21, .func (PySem.W.fnOf "_law_word" "_law_word" (defArgs sWord) (defBody sWord) (defScope sWord) .none kV21 dc21 pm21 an21 cd21 ct21), sl21⟩) (c21 : PySem.W.codeIn K cd21 "_law_word" = true) (k21 : PySem.W.keepIn K (.ref f21) = true)
    (a22 : PySem.W.nsIn K mainGlobals "_law_do" = some (some (.ref f22))) (l22 : K.lookup f22 = some ⟨oc22, od22, .func (PySem.W.fnOf "_law_do" "_law_do" (defArgs sDo) (defBody sDo) (defScope sDo) .none kV22 dc22 pm22 an22 cd22 ct22), sl22⟩) (c22 : PySem.W.codeIn K cd22 "_law_do" = true) (k22 : PySem.W.keepIn K (.ref f22) = true)
    (a23 : PySem.W.nsIn K mainGlobals "law" = some (some (.ref f23))) (l23 : K.lookup f23 = some ⟨oc23, od23, .func (PySem.W.fnOf "law" "law" (defArgs sLaw) (defBody sLaw) (defScope sLaw) .none kV23 dc23 pm23 an23 cd23 ct23), sl23⟩) (c23 : PySem.W.codeIn K cd23 "law" = true) (k23 : PySem.W.keepIn K (.ref f23) = true)
    (z1 : PySem.W.nsIn K mainGlobals "isinstance" = some none)
    (z2 : PySem.W.nsIn K mainGlobals "int" = some none)
    (z3 : PySem.W.nsIn K mainGlobals "bool" = some none)
    (z4 : PySem.W.nsIn K mainGlobals "tuple" = some none)
    (z5 : PySem.W.nsIn K mainGlobals "list" = some none)
    (z6 : PySem.W.nsIn K mainGlobals "len" = some none)
    (z7 : PySem.W.nsIn K mainGlobals "range" = some none)
    (z8 : PySem.W.nsIn K mainGlobals "ValueError" = some none)
    {e0 e1 e2 e3 e4 e5 eF : Addr} {y0 y1 y2 y3 y4 y5 : ClassData}
    (n0 : PySem.W.nsIn K mainGlobals "NoFill" = some (some (.ref e0))) (w0 : PySem.W.clsIn K e0 = some y0) (t0 : PySem.W.typeIn K (.ref e0) = some (.type "type"))
    (n1 : PySem.W.nsIn K mainGlobals "NoPlace" = some (some (.ref e1))) (w1 : PySem.W.clsIn K e1 = some y1) (t1 : PySem.W.typeIn K (.ref e1) = some (.type "type"))
    (n2 : PySem.W.nsIn K mainGlobals "NoText" = some (some (.ref e2))) (w2 : PySem.W.clsIn K e2 = some y2) (t2 : PySem.W.typeIn K (.ref e2) = some (.type "type"))
    (n3 : PySem.W.nsIn K mainGlobals "NoTile" = some (some (.ref e3))) (w3 : PySem.W.clsIn K e3 = some y3) (t3 : PySem.W.typeIn K (.ref e3) = some (.type "type"))
    (n4 : PySem.W.nsIn K mainGlobals "Nothing" = some (some (.ref e4))) (w4 : PySem.W.clsIn K e4 = some y4) (t4 : PySem.W.typeIn K (.ref e4) = some (.type "type"))
    (n5 : PySem.W.nsIn K mainGlobals "Unlike" = some (some (.ref e5))) (w5 : PySem.W.clsIn K e5 = some y5) (t5 : PySem.W.typeIn K (.ref e5) = some (.type "type"))
    (nF : PySem.W.nsIn K mainGlobals "FloorError" = some (some (.ref eF))) (xF : PySem.W.excIn K eF bmV "ValueError.__new__" = true)
    {el1 : Value} {ed1 : Option Addr} {ec1 : ClassData} {es1 : Array (Option Value)} (x1 : PySem.W.excIn K e1 bmV "ValueError.__new__" = true) (lk1 : K.lookup e1 = some ⟨el1, ed1, .cls ec1, es1⟩) (mr1 : ec1.mro.contains (.ref eF) = true)
    (ga1 : PySem.W.findIn K (.ref e1) "__getattribute__" = some (some (.builtin "BaseException.__getattribute__"))) (gt1 : PySem.W.findIn K (.ref e1) "__getattr__" = some none) (cc1 : PySem.W.findIn K (.ref e1) "__class__" = some (some (.builtin "object.__class__"))) (ob1 : PySem.W.subIn K (.ref e1) (.type "object") = some true) (be1 : PySem.W.subIn K (.ref e1) (.type "BaseException") = some true) (va1 : PySem.W.subIn K (.ref e1) (.type "ValueError") = some true)
    (q10 : (Value.ref e1 == Value.ref e0) = false) (s10 : PySem.W.subIn K (.ref e1) (.ref e0) = some false)
    (q12 : (Value.ref e1 == Value.ref e2) = false) (s12 : PySem.W.subIn K (.ref e1) (.ref e2) = some false)
    (q13 : (Value.ref e1 == Value.ref e3) = false) (s13 : PySem.W.subIn K (.ref e1) (.ref e3) = some false)
    (q14 : (Value.ref e1 == Value.ref e4) = false) (s14 : PySem.W.subIn K (.ref e1) (.ref e4) = some false)
    (q15 : (Value.ref e1 == Value.ref e5) = false) (s15 : PySem.W.subIn K (.ref e1) (.ref e5) = some false)
    {el3 : Value} {ed3 : Option Addr} {ec3 : ClassData} {es3 : Array (Option Value)} (x3 : PySem.W.excIn K e3 bmV "ValueError.__new__" = true) (lk3 : K.lookup e3 = some ⟨el3, ed3, .cls ec3, es3⟩) (mr3 : ec3.mro.contains (.ref eF) = true)
    (ga3 : PySem.W.findIn K (.ref e3) "__getattribute__" = some (some (.builtin "BaseException.__getattribute__"))) (gt3 : PySem.W.findIn K (.ref e3) "__getattr__" = some none) (cc3 : PySem.W.findIn K (.ref e3) "__class__" = some (some (.builtin "object.__class__"))) (ob3 : PySem.W.subIn K (.ref e3) (.type "object") = some true) (be3 : PySem.W.subIn K (.ref e3) (.type "BaseException") = some true) (va3 : PySem.W.subIn K (.ref e3) (.type "ValueError") = some true)
    (q30 : (Value.ref e3 == Value.ref e0) = false) (s30 : PySem.W.subIn K (.ref e3) (.ref e0) = some false)
    (q31 : (Value.ref e3 == Value.ref e1) = false) (s31 : PySem.W.subIn K (.ref e3) (.ref e1) = some false)
    (q32 : (Value.ref e3 == Value.ref e2) = false) (s32 : PySem.W.subIn K (.ref e3) (.ref e2) = some false)
    (q34 : (Value.ref e3 == Value.ref e4) = false) (s34 : PySem.W.subIn K (.ref e3) (.ref e4) = some false)
    (q35 : (Value.ref e3 == Value.ref e5) = false) (s35 : PySem.W.subIn K (.ref e3) (.ref e5) = some false)
    : ∃ fd : FuncData, (∀ (s : Shared) (v : Value), BindsTo s fd ⟨[v], []⟩ [("_law_script", v)]) ∧ ∀ base : Heap, K.In base → base.Ns mainGlobals mg → FnOk l.prog w K mg base CX0 6 fa fd ["_law_script"] (spLaw K) := by
  have e := hfa.symm.trans (PySem.W.mg_of X G a23)
  cases e
  have T : Txt mg := ⟨PySem.W.mg_none_of X G z1, PySem.W.mg_none_of X G z2, PySem.W.mg_none_of X G z3, PySem.W.mg_none_of X G z4, PySem.W.mg_none_of X G z5, PySem.W.mg_none_of X G z6, PySem.W.mg_none_of X G z7⟩
  have F1 := fun_mk (st := sWhole) l1 c1 k1
  have b1 := F1.binds (ps := ["thing"]) fun _ _ _ _ _ _ us hl => match us, hl with | [_], _ => rfl
  have m1 := PySem.W.mg_of X G a1
  have F2 := fun_mk (st := sTupOf) l2 c2 k2
  have b2 := F2.binds (ps := ["thing", "least", "most"]) fun _ _ _ _ _ _ us hl => match us, hl with | [_, _, _], _ => rfl
  have m2 := PySem.W.mg_of X G a2
  have F3 := fun_mk (st := sHas) l3 c3 k3
  have b3 := F3.binds (ps := ["tiles", "thing"]) fun _ _ _ _ _ _ us hl => match us, hl with | [_, _], _ => rfl
  have m3 := PySem.W.mg_of X G a3
  have F4 := fun_mk (st := sMay) l4 c4 k4
  have b4 := F4.binds (ps := ["tiles", "thing"]) fun _ _ _ _ _ _ us hl => match us, hl with | [_, _], _ => rfl
  have m4 := PySem.W.mg_of X G a4
  have F5 := fun_mk (st := sEmpty) l5 c5 k5
  have b5 := F5.binds (ps := ["rows", "columns"]) fun _ _ _ _ _ _ us hl => match us, hl with | [_, _], _ => rfl
  have m5 := PySem.W.mg_of X G a5
  have F6 := fun_mk (st := sSize) l6 c6 k6
  have b6 := F6.binds (ps := ["floor"]) fun _ _ _ _ _ _ us hl => match us, hl with | [_], _ => rfl
  have m6 := PySem.W.mg_of X G a6
  have F7 := fun_mk (st := sPlaces) l7 c7 k7
  have b7 := F7.binds (ps := ["floor"]) fun _ _ _ _ _ _ us hl => match us, hl with | [_], _ => rfl
  have m7 := PySem.W.mg_of X G a7
  have F8 := fun_mk (st := sNumber) l8 c8 k8
  have b8 := F8.binds (ps := ["floor", "place"]) fun _ _ _ _ _ _ us hl => match us, hl with | [_, _], _ => rfl
  have m8 := PySem.W.mg_of X G a8
  have F9 := fun_mk (st := sLaid) l9 c9 k9
  have b9 := F9.binds (ps := ["floor"]) fun _ _ _ _ _ _ us hl => match us, hl with | [_], _ => rfl
  have m9 := PySem.W.mg_of X G a9
  have F10 := fun_mk (st := sFull) l10 c10 k10
  have b10 := F10.binds (ps := ["floor"]) fun _ _ _ _ _ _ us hl => match us, hl with | [_], _ => rfl
  have m10 := PySem.W.mg_of X G a10
  have F11 := fun_mk (st := sHasP) l11 c11 k11
  have b11 := F11.binds (ps := ["floor", "place"]) fun _ _ _ _ _ _ us hl => match us, hl with | [_, _], _ => rfl
  have m11 := PySem.W.mg_of X G a11
  have F12 := fun_mk (st := sRef) l12 c12 k12
  have b12 := F12.binds (ps := ["floor", "place"]) fun _ _ _ _ _ _ us hl => match us, hl with | [_, _], _ => rfl
  have m12 := PySem.W.mg_of X G a12
  have F13 := fun_mk (st := sTileAt) l13 c13 k13
  have b13 := F13.binds (ps := ["floor", "place"]) fun _ _ _ _ _ _ us hl => match us, hl with | [_, _], _ => rfl
  have m13 := PySem.W.mg_of X G a13
  have F14 := fun_mk (st := sWN) l14 c14 k14
  have b14 := F14.binds (ps := ["floor", "place", "number"]) fun _ _ _ _ _ _ us hl => match us, hl with | [_, _, _], _ => rfl
  have m14 := PySem.W.mg_of X G a14
  have F15 := fun_mk (st := sWith) l15 c15 k15
  have b15 := F15.binds (ps := ["tiles", "floor", "place", "number"]) fun _ _ _ _ _ _ us hl => match us, hl with | [_, _, _, _], _ => rfl
  have m15 := PySem.W.mg_of X G a15
  have F16 := fun_mk (st := sCell) l16 c16 k16
  have b16 := F16.binds (ps := ["_law_script", "_law_k"]) fun _ _ _ _ _ _ us hl => match us, hl with | [_, _], _ => rfl
  have m16 := PySem.W.mg_of X G a16
  have F17 := fun_mk (st := sPick) l17 c17 k17
  have b17 := F17.binds (ps := ["_law_script", "_law_k", "_law_many"]) fun _ _ _ _ _ _ us hl => match us, hl with | [_, _, _], _ => rfl
  have m17 := PySem.W.mg_of X G a17
  have F18 := fun_mk (st := sTiles) l18 c18 k18
  have b18 := F18.binds (ps := ["_law_script", "_law_at", "_law_most"]) fun _ _ _ _ _ _ us hl => match us, hl with | [_, _, _], _ => rfl
  have m18 := PySem.W.mg_of X G a18
  have F19 := fun_mk (st := sFloorL) l19 c19 k19
  have b19 := F19.binds (ps := ["_law_script", "_law_at", "_law_tiles_here", "_law_rows", "_law_columns", "_law_many"]) fun _ _ _ _ _ _ us hl => match us, hl with | [_, _, _, _, _, _], _ => rfl
  have m19 := PySem.W.mg_of X G a19
  have F20 := fun_mk (st := sSides) l20 c20 k20
  have b20 := F20.binds (ps := ["_law_script", "_law_at"]) fun _ _ _ _ _ _ us hl => match us, hl with | [_, _], _ => rfl
  have m20 := PySem.W.mg_of X G a20
  have F21 := fun_mk (st := sWord) l21 c21 k21
  have b21 := F21.binds (ps := ["_law_kept"]) fun _ _ _ _ _ _ us hl => match us, hl with | [_], _ => rfl
  have m21 := PySem.W.mg_of X G a21
  have F22 := fun_mk (st := sDo) l22 c22 k22
  have b22 := F22.binds (ps := ["_law_what", "_law_tiles_here", "_law_floor_here", "_law_place", "_law_number"]) fun _ _ _ _ _ _ us hl => match us, hl with | [_, _, _, _, _], _ => rfl
  have m22 := PySem.W.mg_of X G a22
  have F23 := fun_mk (st := sLaw) l23 c23 k23
  have Z : Errs K mg (fun j => ([e0, e1, e2, e3, e4, e5] : List Addr).getD j 0) := ⟨PySem.W.mg_of X G n0, PySem.W.mg_of X G n1, PySem.W.mg_of X G n2, PySem.W.mg_of X G n3, PySem.W.mg_of X G n4, PySem.W.mg_of X G n5, PySem.W.mg_none_of X G z8⟩
  have EF : Exn K mg "FloorError" eF := ⟨PySem.W.mg_of X G nF, xF⟩
  have E1 : Exn K mg "NoPlace" e1 := ⟨PySem.W.mg_of X G n1, x1⟩
  have U1 : Under K e1 eF := ⟨⟨_, _, x1⟩, _, _, _, _, lk1, mr1⟩
  have S1 : Says K (fun j => ([e0, e1, e2, e3, e4, e5] : List Addr).getD j 0) 1 := by
    refine ⟨⟨ga1, gt1, cc1, ob1, be1, _, _, _, _, lk1⟩, fun m hm => ?_, kit_val va1⟩
    match m, hm with
    | 0, _ => exact kit_ref q10 w0 t0 s10
    | 1, _ => exact kit_self
    | 2, _ => exact kit_ref q12 w2 t2 s12
    | 3, _ => exact kit_ref q13 w3 t3 s13
    | 4, _ => exact kit_ref q14 w4 t4 s14
    | 5, _ => exact kit_ref q15 w5 t5 s15
    | k + 6, h => exact absurd h (by omega)
  have E3 : Exn K mg "NoTile" e3 := ⟨PySem.W.mg_of X G n3, x3⟩
  have U3 : Under K e3 eF := ⟨⟨_, _, x3⟩, _, _, _, _, lk3, mr3⟩
  have S3 : Says K (fun j => ([e0, e1, e2, e3, e4, e5] : List Addr).getD j 0) 3 := by
    refine ⟨⟨ga3, gt3, cc3, ob3, be3, _, _, _, _, lk3⟩, fun m hm => ?_, kit_val va3⟩
    match m, hm with
    | 0, _ => exact kit_ref q30 w0 t0 s30
    | 1, _ => exact kit_ref q31 w1 t1 s31
    | 2, _ => exact kit_ref q32 w2 t2 s32
    | 3, _ => exact kit_self
    | 4, _ => exact kit_ref q34 w4 t4 s34
    | 5, _ => exact kit_ref q35 w5 t5 s35
    | k + 6, h => exact absurd h (by omega)
  refine ⟨PySem.W.fnOf "law" "law" (defArgs sLaw) (defBody sLaw) (defScope sLaw) .none kV23 dc23 pm23 an23 cd23 ct23, fun s v => .of_eq rfl, fun base _ _ => ?_⟩
  have G1 : FnOk l.prog w K mg base CX0 1 f1 _ ["thing"] (sp1 isWhole) := ok_whole F1 T
  have G2 : FnOk l.prog w K mg base CX0 1 f2 _ ["thing", "least", "most"] spTup := ok_tupOf F2 T
  have G3 : FnOk l.prog w K mg base CX0 2 f3 _ ["tiles", "thing"] (sp2 hasNum) := ok_has F3 T G1 b1 k1 m1
  have G4 : FnOk l.prog w K mg base CX0 3 f4 _ ["tiles", "thing"] (sp2 mayLie) := ok_may F4 G3 b3 k3 m3
  have G5 : FnOk l.prog w K mg base CX0 1 f5 _ ["rows", "columns"] spEmpty := ok_empty F5
  have G6 : FnOk l.prog w K mg base CX0 1 f6 _ ["floor"] spSize := ok_size F6 T
  have G7 : FnOk l.prog w K mg base CX0 2 f7 _ ["floor"] spPlaces := ok_places F7 T G6 b6 k6 m6
  have G8 : FnOk l.prog w K mg base CX0 1 f8 _ ["floor", "place"] spNumber := ok_number F8
  have G9 : FnOk l.prog w K mg base CX0 3 f9 _ ["floor"] spLaid := ok_laid F9 G7 b7 k7 m7 (G8.mono (by decide)) b8 k8 m8
  have G10 : FnOk l.prog w K mg base CX0 4 f10 _ ["floor"] spFull := ok_full F10 T (G7.mono (by decide)) b7 k7 m7 G9 b9 k9 m9
  have G11 : FnOk l.prog w K mg base CX0 2 f11 _ ["floor", "place"] spHasP := ok_hasP F11 G2 b2 k2 m2 G1 b1 k1 m1 G6 b6 k6 m6
  have G12 : FnOk l.prog w K mg base (CXE l.prog w) 3 f12 _ ["floor", "place"] (spRef e1) := ok_ref F12 G11 b11 k11 m11 E1
  have G13 : FnOk l.prog w K mg base (CXE l.prog w) 4 f13 _ ["floor", "place"] (spTile e1) := ok_tile F13 G12 b12 k12 m12 (G8.mono (by decide)) b8 k8 m8
  have G14 : FnOk l.prog w K mg base CX0 1 f14 _ ["floor", "place", "number"] spWN := ok_wn F14
  have G15 : FnOk l.prog w K mg base (CXE l.prog w) 4 f15 _ ["tiles", "floor", "place", "number"] (spWith e1 e3) := ok_with F15 G12 b12 k12 m12 G4 b4 k4 m4 (G14.mono (by decide)) b14 k14 m14 E3
  have G16 : FnOk l.prog w K mg base CX0 1 f16 _ ["_law_script", "_law_k"] (spCell K) := ok_cell F16 T
  have G17 : FnOk l.prog w K mg base CX0 2 f17 _ ["_law_script", "_law_k", "_law_many"] (spPick K) := ok_pick F17 G16 b16 k16 m16
  have G18 : FnOk l.prog w K mg base CX0 3 f18 _ ["_law_script", "_law_at", "_law_most"] (spTiles K) := ok_tiles F18 T G17 b17 k17 m17
  have G19 : FnOk l.prog w K mg base CX0 3 f19 _ ["_law_script", "_law_at", "_law_tiles_here", "_law_rows", "_law_columns", "_law_many"] (spFloorL K) := ok_floorL F19 T G17 b17 k17 m17
  have G20 : FnOk l.prog w K mg base CX0 3 f20 _ ["_law_script", "_law_at"] (spSides K) := ok_sides F20 G17 b17 k17 m17
  have G21 : FnOk l.prog w K mg base CX0 1 f21 _ ["_law_kept"] (spWord K (fun j => ([e0, e1, e2, e3, e4, e5] : List Addr).getD j 0)) := ok_word F21 T.isin Z
  have G22 : FnOk l.prog w K mg base CX0 5 f22 _ ["_law_what", "_law_tiles_here", "_law_floor_here", "_law_place", "_law_number"] (spDo K) := ok_do (ds := fun j => ([e0, e1, e2, e3, e4, e5] : List Addr).getD j 0) F22 G13 b13 k13 m13 G15 b15 k15 m15 (G21.mono (by decide)) b21 k21 m21 EF U1 U3 S1 S3
  exact ok_law F23 T ⟨G17.mono (by decide), b17, k17, m17⟩ ⟨G18.mono (by decide), b18, k18, m18⟩ ⟨G19.mono (by decide), b19, k19, m19⟩ ⟨G20.mono (by decide), b20, k20, m20⟩ ⟨G7.mono (by decide), b7, k7, m7⟩ ⟨G6.mono (by decide), b6, k6, m6⟩ ⟨G9.mono (by decide), b9, k9, m9⟩ ⟨G10.mono (by decide), b10, k10, m10⟩ ⟨G5.mono (by decide), b5, k5, m5⟩ ⟨G22.mono (by decide), b22, k22, m22⟩
theorem walk {l : PySem.W.OpenLaw} {q : Program} {loose : List Str} {XP : (Str → Option Value) → Heap → Prop} {YP : World → Heap → Prop} {d : DefRec} {K : Params → PySem.W.Frag} (hn : l.most = some 63) (hdf : d.params.defaults = [])
    (hY : ∀ (w : World) (h : Heap), YP w h → (K w.params).In h)
    (F : ∀ (w : World) (mg : Str → Option Value) (fa : Addr) (h : Heap), (K w.params).In h → h.Ns mainGlobals mg → mg d.name = some (.ref fa) →
      ∃ fd : FuncData, (∀ (s : Shared) (u : Value), BindsTo s fd ⟨[u], []⟩ [("_law_script", u)]) ∧ ∀ base : Heap, (K w.params).In base → base.Ns mainGlobals mg → FnOk l.prog w (K w.params) mg base CX0 6 fa fd ["_law_script"] (spLaw (K w.params))) :
    PySem.W.WalkO q loose XP YP l.row.toRowW d [] (fun f vs => PySem.call f vs) :=
  L2.walk_of (n := 63) (k := 6) (x := "_law_script") (CX := fun _ => CX0) (sp := fun w => spLaw (K w.params)) hn (by decide) hdf ⟨rfl, by decide, by decide⟩ hY F (fun _ _ a ns hl _ hS => ⟨a, ns, rfl, hS, fun _ => rfl⟩) fun _ _ _ _ _ z => z
end K2

open PySem PySem.W PyProof.Rows
set_option Elab.async false
set_option maxRecDepth 100000 in
set_option maxHeartbeats 0 in
theorem PySem.Challenge.cw_floorfits_k02_places_holds : PySem.Challenge.rw_floorfits_k02_places.Holds := by
  w_on; o_law; k_head; (case hw => w_witness2)
  k_fill
  refine K2.walk (l := PySem.Challenge.rw_floorfits_k02_places) rfl rfl (fun w h Y => PySem.W.kIn_of Y) ?F
  case F =>
    intro w mg fa h KX G hmg
    refine' K2.all_mk KX G hmg ?a1 ?l1 ?c1 ?k1 ?a2 ?l2 ?c2 ?k2 ?a3 ?l3 ?c3 ?k3 ?a4 ?l4 ?c4 ?k4 ?a5 ?l5 ?c5 ?k5 ?a6 ?l6 ?c6 ?k6 ?a7 ?l7 ?c7 ?k7 ?a8 ?l8 ?c8 ?k8 ?a9 ?l9 ?c9 ?k9 ?a10 ?l10 ?c10 ?k10 ?a11 ?l11 ?c11 ?k11 ?a12 ?l12 ?c12 ?k12 ?a13 ?l13 ?c13 ?k13 ?a14 ?l14 ?c14 ?k14 ?a15 ?l15 ?c15 ?k15 ?a16 ?l16 ?c16 ?k16 ?a17 ?l17 ?c17 ?k17 ?a18 ?l18 ?c18 ?k18 ?a19 ?l19 ?c19 ?k19 ?a20 ?l20 ?c20 ?k20 ?a21 ?l21 ?c21 ?k21 ?a22 ?l22 ?c22 ?k22 ?a23 ?l23 ?c23 ?k23 ?z1 ?z2 ?z3 ?z4 ?z5 ?z6 ?z7 ?z8 ?n0 ?w0 ?t0 ?n1 ?w1 ?t1 ?n2 ?w2 ?t2 ?n3 ?w3 ?t3 ?n4 ?w4 ?t4 ?n5 ?w5 ?t5 ?nF ?xF ?x1 ?lk1 ?mr1 ?ga1 ?gt1 ?cc1 ?ob1 ?be1 ?va1 ?q10 ?s10 ?q12 ?s12 ?q13 ?s13 ?q14 ?s14 ?q15 ?s15 ?x3 ?lk3 ?mr3 ?ga3 ?gt3 ?cc3 ?ob3 ?be3 ?va3 ?q30 ?s30 ?q31 ?s31 ?q32 ?s32 ?q34 ?s34 ?q35 ?s35
    (case a1 => k_is); (case l1 => k_is); (case c1 => k_is); (case k1 => k_is)
    (case a2 => k_is); (case l2 => k_is); (case c2 => k_is); (case k2 => k_is)
    (case a3 => k_is); (case l3 => k_is); (case c3 => k_is); (case k3 => k_is)
    (case a4 => k_is); (case l4 => k_is); (case c4 => k_is); (case k4 => k_is)
    (case a5 => k_is); (case l5 => k_is); (case c5 => k_is); (case k5 => k_is)
    (case a6 => k_is); (case l6 => k_is); (case c6 => k_is); (case k6 => k_is)
    (case a7 => k_is); (case l7 => k_is); (case c7 => k_is); (case k7 => k_is)
    (case a8 => k_is); (case l8 => k_is); (case c8 => k_is); (case k8 => k_is)
    (case a9 => k_is); (case l9 => k_is); (case c9 => k_is); (case k9 => k_is)
    (case a10 => k_is); (case l10 => k_is); (case c10 => k_is); (case k10 => k_is)
    (case a11 => k_is); (case l11 => k_is); (case c11 => k_is); (case k11 => k_is)
    (case a12 => k_is); (case l12 => k_is); (case c12 => k_is); (case k12 => k_is)
    (case a13 => k_is); (case l13 => k_is); (case c13 => k_is); (case k13 => k_is)
    (case a14 => k_is); (case l14 => k_is); (case c14 => k_is); (case k14 => k_is)
    (case a15 => k_is); (case l15 => k_is); (case c15 => k_is); (case k15 => k_is)
    (case a16 => k_is); (case l16 => k_is); (case c16 => k_is); (case k16 => k_is)
    (case a17 => k_is); (case l17 => k_is); (case c17 => k_is); (case k17 => k_is)
    (case a18 => k_is); (case l18 => k_is); (case c18 => k_is); (case k18 => k_is)
    (case a19 => k_is); (case l19 => k_is); (case c19 => k_is); (case k19 => k_is)
    (case a20 => k_is); (case l20 => k_is); (case c20 => k_is); (case k20 => k_is)
    (case a21 => k_is); (case l21 => k_is); (case c21 => k_is); (case k21 => k_is)
    (case a22 => k_is); (case l22 => k_is); (case c22 => k_is); (case k22 => k_is)
    (case a23 => k_is); (case l23 => k_is); (case c23 => k_is); (case k23 => k_is)
    (case z1 => k_is); (case z2 => k_is); (case z3 => k_is); (case z4 => k_is)
    (case z5 => k_is); (case z6 => k_is); (case z7 => k_is); (case z8 => k_is)
    (case n0 => k_is); (case w0 => k_is); (case t0 => k_is); (case n1 => k_is)
    (case w1 => k_is); (case t1 => k_is); (case n2 => k_is); (case w2 => k_is)
    (case t2 => k_is); (case n3 => k_is); (case w3 => k_is); (case t3 => k_is)
    (case n4 => k_is); (case w4 => k_is); (case t4 => k_is); (case n5 => k_is)
    (case w5 => k_is); (case t5 => k_is); (case nF => k_is); (case xF => k_exc)
    (case x1 => k_exc); (case lk1 => k_is); (case mr1 => with_unfolding_all rfl); (case ga1 => k_is)
    (case gt1 => k_is); (case cc1 => k_is); (case ob1 => k_is); (case be1 => k_is)
    (case va1 => k_is); (case q10 => with_unfolding_all rfl); (case s10 => k_is); (case q12 => with_unfolding_all rfl)
    (case s12 => k_is); (case q13 => with_unfolding_all rfl); (case s13 => k_is); (case q14 => with_unfolding_all rfl)
    (case s14 => k_is); (case q15 => with_unfolding_all rfl); (case s15 => k_is); (case x3 => k_exc)
    (case lk3 => k_is); (case mr3 => with_unfolding_all rfl); (case ga3 => k_is); (case gt3 => k_is)
    (case cc3 => k_is); (case ob3 => k_is); (case be3 => k_is); (case va3 => k_is)
    (case q30 => with_unfolding_all rfl); (case s30 => k_is); (case q31 => with_unfolding_all rfl); (case s31 => k_is)
    (case q32 => with_unfolding_all rfl); (case s32 => k_is); (case q34 => with_unfolding_all rfl); (case s34 => k_is)
    (case q35 => with_unfolding_all rfl); (case s35 => k_is)
#print axioms PySem.Challenge.cw_floorfits_k02_places_holds
